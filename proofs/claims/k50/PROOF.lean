import PyProof.Rows.All
import Wide.All
import OpenK.AllK
import Wide.FinOn
import HandS.ForMost
import HandS.Zip
import HandS.Gcd
import HandS.Wide
import HandS.IsInst
import HandS.TupAny
import HandS.Style
import HandS.Evl
import HandS.Exc
import HandS.ExcInit
import HandS.ExcOwn
import HandS.TryOnly
import HandS.TryMany
import HandS.WordsExc
import KE.GoesEnum
import KE.GoesMore
import HandS.TupMul
import HandS.ExcField
import HandS.OwnEq
import HandS.Zip0
import KE.KDictZip
import HandS.WrittenGet
import KE.DataMinMax
import KE.GoesZip
import HandS.Star
import HandS.Deep
import PyProof.P3In
import HandS.Conv
import HandS.RaiseMore
import PyProof.TupleOfSeq
import PyProof.Rows.SortWalk
import HandS.ExcIs
import PyProof.Rows.SumAny
import KE.SortData
import HandS.DictComp
import HandS.WideBits
import HandS.RevRange
import HandS.SortRule
import HandS.TupSets
import KE.HD3
import PySem.Challenge.RW_unitgrids_k50_whole_placings_counted_and
set_option Elab.async false
set_option linter.all false
set_option maxRecDepth 100000
set_option maxHeartbeats 0
noncomputable section
namespace HdT
open PySem PySem.W PySem.Calls PyProof.Rows HeadRun
/-- a function of the top, by its def -/
def fo (nm qu : Str) (s : Stmt) (dV kV doc pm : Value) (an : Option Addr) (cd ct : Value) : Obj := ⟨.type "function", none, .func (fnOf nm qu (L2.defArgs s) (L2.defBody s) (L2.defScope s) dV kV doc pm an cd ct), #[]⟩
def tu (xs : List Value) : Obj := ⟨.type "tuple", none, .seq xs.toArray 0, #[]⟩
def co (xs : List Value) : Obj := ⟨.type "code", none, .fields xs.toArray, #[]⟩
def de (P : Params) (x : Str) (t : Tok) (v : Value) : DictEntry := ⟨PyData.keyHash P x, .str x t, v⟩
/-- the state behind the top, and what stood ahead of it -/
abbrev Ran (p : Program) (N : Nat) (w : World) : Option (Shared × SharedT) := wholeF (fun p => stepQ (denQ tabQ) p w) fenceQ N p
theorem both {σ α β γ : Type} {x : Option σ} {f : σ → α} {g : σ → β} {k : σ → γ} {a : α} {b : β} {c : γ} (h1 : x.map f = some a) (h2 : x.map g = some b) (h3 : x.map k = some c) : x.map (fun s => (f s, g s, k s)) = some (a, b, c) := by
  cases x with
  | none => cases h1
  | some s =>
    cases Option.some.inj h1
    cases Option.some.inj h2
    cases Option.some.inj h3
    rfl
theorem two {σ α β : Type} {x : Option σ} {f : σ → α} {g : σ → β} {a : α} {b : β} (h : x.map (fun s => (f s, g s)) = some (a, b)) : x.map f = some a ∧ x.map g = some b := by
  cases x with
  | none => cases h
  | some s =>
    have e := Option.some.inj h
    exact ⟨congrArg some (Prod.mk.inj e).1, congrArg some (Prod.mk.inj e).2⟩
abbrev Looks (r : OpenRow) (q : Program) (N : Nat) (loose : List Str) (w : World) : Prop :=
  (Ran r.prog N w).map (fun x => (looksF r.prog x.1.heap x.2.abs, seenQ q loose (importedModules r.prog.main.body) (fun s => xlAt q [] s && recOk r.toRowW.records s) x.2.abs)) = some (true, openGood q loose)
abbrev Reads (r : OpenRow) (K : Params → Frag) (as : List Addr) (N : Nat) (w : World) : Prop :=
  (Ran r.prog N w).map (fun x => as.map (getT x.2)) = some ((K w.params).map fun x => some x.2)
theorem run_of {r : OpenRow} {q : Program} {K : Params → Frag} {as : List Addr} {ek : ∀ P, as = (K P).map (·.1)} {N : Nat} {loose : List Str} {w : World} (h1 : Looks r q N loose w) (h2 : Reads r K as N w) :
    RunEqI r q (kHook K as ek) (fun s => as.map (getT s)) N loose w := both (two h1).1 (two h1).2 h2
theorem ob_of {K : Params → Frag} {as : List Addr} {ek : ∀ P, as = (K P).map (·.1)} (s : SharedT) : as.map (getT s) = (kHook K as ek).obs s.abs := List.map_congr_left fun a _ => getT_eq s a
end HdT
end
namespace Hd
open PySem PySem.W PySem.Calls PyProof.Rows HdT
def tS (i : Nat) : Stmt := PySem.Challenge.pw_unitgrids_k50_whole_placings_counted_and.main.body.getD i (.Pass ⟨0, 0, 0, 0⟩)
def o2 (P : Params) : Obj := ⟨.none, none, (.dict ([de P "\x69mport.loaded.math" 185 (.bool true), de P "class._frozen_\x69mportlib_external._LoaderBasics" 190 (.ref 16), de P "watched.\x69mport" 206 (.ref 20), de P "class._frozen_\x69mportlib_external.FileLoader" 207 (.ref 22), de P "class._frozen_\x69mportlib_external.ExtensionFileLoader" 228 (.ref 27), de P "class._frozen_\x69mportlib.ModuleSpec" 256 (.ref 33), de P "sys.modules.booked-epoch" 285 (.int 3 0), de P "\x69mport.later-laid.math" 361 (.bool true), de P "watched.library" 363 (.ref 38), de P "watched.library-objects" 0 (.str "\x0d" 0)] : List DictEntry).toArray 10), #[]⟩
def o3 (P : Params) : Obj := ⟨(.type "dict"), none, (.dict ((de P "__name__" 165 (.str "law_unitgrids_k50_whole_placings_counted_and" 622) :: de P "__doc__" 166 .none :: de P "__package__" 167 .none :: de P "__loader__" 168 (.builtin "__main__.__loader__#opaque") :: de P "__spec__" 169 .none :: de P "__annotations__" 170 (.ref 6) :: de P "__builtins__" 171 (.ref 4) :: de P "__file__" 173 (.str "/claim/cut.py" 172) :: de P "__cached__" 174 .none :: de P "gcd" 369 (.builtin "math.gcd") :: de P "GridError" 402 (.ref 59) :: de P "BadGrid" 427 (.ref 79) :: de P "NotSquare" 443 (.ref 91) :: de P "is_whole" 452 (.ref 100) :: de P "is_pair" 459 (.ref 107) :: de P "is_fraction" 468 (.ref 114) :: de P "check_square" 477 (.ref 121) :: de P "free_columns" 483 (.ref 126) :: de P "placed_lots" 497 (.ref 133) :: de P "open_lots" 503 (.ref 138) :: de P "many_placings" 510 (.ref 145) :: de P "least_placing" 516 (.ref 150) :: de P "live" 529 (.ref 157) :: de P "MOST_BASES" 533 (.int 3 532) :: de P "is_any_unit" 539 (.ref 162) :: de P "is_unit" 547 (.ref 169) :: de P "MOST_ROWS" 551 (.int 10 550) :: de P "MOST_TOP" 553 (.int 6 552) :: de P "MOST_BOTTOM" 555 (.int 4 554) :: de P "Grid" 596 (.ref 193) :: de P "is_cell" 602 (.ref 202) :: de P "_has_grid_length" 609 (.ref 209) :: de P "_wrong_part" 621 (.ref 216) :: de P "_law_hand" 629 (.ref 221) :: de P "_law_draw" 640 (.ref 228) :: de P "_law_lowest" 650 (.ref 235) :: de P "_law_plus" 658 (.ref 242) :: de P "_law_times" 666 (.ref 249) :: de P "_law_unit_sum" 672 (.ref 254) :: de P "_law_unitless" 679 (.ref 261) :: de P "_law_total" 689 (.ref 268) :: de P "_law_unit" 701 (.ref 275) :: de P "_law_rows" 707 (.ref 280) :: de P "_law_drawn" 716 (.ref 287) :: de P "_law_made" 723 (.ref 294) :: de P "_law_placings" 729 (.ref 299) :: de P "_law_placed" 735 (.ref 304) :: de P "_law_units" 741 (.ref 309) :: de P "_law_verdict" 748 (.ref 316) :: de P "_law_great_right" 754 (.ref 321) :: de P "law" 760 (.ref 326) :: []) : List DictEntry).toArray 51), #[]⟩
def o43 (P : Params) : Obj := tu [(.type "ValueError")]
def o50 (P : Params) : Obj := tu []
def o52 (P : Params) : Obj := tu [(.str "self" 393)]
def o53 (P : Params) : Obj := tu []
def o55 (P : Params) : Obj := co [(.str "__init__" 390), (.str "GridError.__init__" 391), (.str "/claim/cut.py" 392), (.int 5 0), (.int 1 0), (.int 0 0), (.int 0 0), (.int 3 0), (.ref 50), (.bool true), (.int 370 0), (.ref 51), .none, (.ref 52), (.ref 53), (.ref 54), (.int 394 0), (.int 5 0), (.str "/claim/cut.py" 395)]
def o56 (P : Params) : Obj := fo "__init__" "GridError.__init__" (L2.inClass (tS 2) 0) .none .none .none (.str "unitgrids.errors" 376) none (.ref 55) .none
def o57 (P : Params) : Obj := tu []
def o58 (P : Params) : Obj := ⟨(.type "dict"), none, (.dict ([de P "__module__" 385 (.str "unitgrids.errors" 376), de P "__firstlineno__" 389 (.int 3 388), de P "__init__" 396 (.ref 56), de P "__static_attributes__" 397 (.ref 57), de P "__weakref__" 399 (.ref 60), de P "__doc__" 400 .none] : List DictEntry).toArray 3), #[]⟩
def o59 (P : Params) : Obj := ⟨(.type "type"), none, (.cls ⟨"GridError", [(.type "ValueError")], [(.ref 59), (.type "ValueError"), (.type "Exception"), (.type "BaseException"), (.type "object")], 58, "GridError", true, [], [(.ref 79), (.ref 91)], false, none, false⟩), #[some (.ref 43), none, some (.str "GridError" 378), some (.str "GridError" 386), some (.builtin "ValueError.__new__"), some (.bool true)]⟩
def o60 (P : Params) : Obj := ⟨(.type "getset_descriptor"), none, (.fields ([(.str "__weakref__" 398), (.ref 59), (.builtin "ExceptionGroup.__weakref__"), .none] : List Value).toArray), #[]⟩
def o63 (P : Params) : Obj := tu [(.ref 59)]
def o70 (P : Params) : Obj := tu []
def o72 (P : Params) : Obj := tu [(.str "self" 418), (.str "part" 419)]
def o73 (P : Params) : Obj := tu []
def o75 (P : Params) : Obj := co [(.str "__init__" 415), (.str "BadGrid.__init__" 416), (.str "/claim/cut.py" 417), (.int 9 0), (.int 2 0), (.int 0 0), (.int 0 0), (.int 3 0), (.ref 70), (.bool true), (.int 370 0), (.ref 71), .none, (.ref 72), (.ref 73), (.ref 74), (.int 420 0), (.int 9 0), (.str "/claim/cut.py" 421)]
def o76 (P : Params) : Obj := fo "__init__" "BadGrid.__init__" (L2.inClass (tS 3) 0) .none .none .none (.str "unitgrids.errors" 376) none (.ref 75) .none
def o77 (P : Params) : Obj := tu [(.str "part" 423)]
def o78 (P : Params) : Obj := ⟨(.type "dict"), none, (.dict ([de P "__module__" 410 (.str "unitgrids.errors" 376), de P "__firstlineno__" 414 (.int 7 413), de P "__init__" 422 (.ref 76), de P "__static_attributes__" 424 (.ref 77), de P "__doc__" 425 .none] : List DictEntry).toArray 2), #[]⟩
def o79 (P : Params) : Obj := ⟨(.type "type"), none, (.cls ⟨"BadGrid", [(.ref 59)], [(.ref 79), (.ref 59), (.type "ValueError"), (.type "Exception"), (.type "BaseException"), (.type "object")], 78, "BadGrid", true, [], [], false, none, false⟩), #[some (.ref 63), none, some (.str "BadGrid" 403), some (.str "BadGrid" 411), some (.builtin "ValueError.__new__"), some (.bool true)]⟩
def o82 (P : Params) : Obj := tu [(.ref 59)]
def o89 (P : Params) : Obj := tu []
def o90 (P : Params) : Obj := ⟨(.type "dict"), none, (.dict ([de P "__module__" 435 (.str "unitgrids.errors" 376), de P "__firstlineno__" 439 (.int 11 438), de P "__static_attributes__" 440 (.ref 89), de P "__doc__" 441 .none] : List DictEntry).toArray 2), #[]⟩
def o91 (P : Params) : Obj := ⟨(.type "type"), none, (.cls ⟨"NotSquare", [(.ref 59)], [(.ref 91), (.ref 59), (.type "ValueError"), (.type "Exception"), (.type "BaseException"), (.type "object")], 90, "NotSquare", true, [], [], false, none, false⟩), #[some (.ref 82), none, some (.str "NotSquare" 428), some (.str "NotSquare" 436), some (.builtin "ValueError.__new__"), some (.bool true)]⟩
def o94 (P : Params) : Obj := tu []
def o96 (P : Params) : Obj := tu [(.str "thing" 449)]
def o97 (P : Params) : Obj := tu []
def o99 (P : Params) : Obj := co [(.str "is_whole" 446), (.str "is_whole" 447), (.str "/claim/cut.py" 448), (.int 14 0), (.int 1 0), (.int 0 0), (.int 0 0), (.int 3 0), (.ref 94), (.bool true), (.int 370 0), (.ref 95), .none, (.ref 96), (.ref 97), (.ref 98), (.int 450 0), (.int 14 0), (.str "/claim/cut.py" 451)]
def o100 (P : Params) : Obj := fo "is_whole" "is_whole" (tS 6) .none .none .none (.str "unitgrids.exact" 444) none (.ref 99) .none
def o101 (P : Params) : Obj := tu []
def o103 (P : Params) : Obj := tu [(.str "thing" 456)]
def o104 (P : Params) : Obj := tu []
def o106 (P : Params) : Obj := co [(.str "is_pair" 453), (.str "is_pair" 454), (.str "/claim/cut.py" 455), (.int 16 0), (.int 1 0), (.int 0 0), (.int 0 0), (.int 3 0), (.ref 101), (.bool true), (.int 370 0), (.ref 102), .none, (.ref 103), (.ref 104), (.ref 105), (.int 457 0), (.int 16 0), (.str "/claim/cut.py" 458)]
def o107 (P : Params) : Obj := fo "is_pair" "is_pair" (tS 7) .none .none .none (.str "unitgrids.exact" 444) none (.ref 106) .none
def o108 (P : Params) : Obj := tu []
def o110 (P : Params) : Obj := tu [(.str "thing" 463), (.str "top" 464), (.str "bottom" 465)]
def o111 (P : Params) : Obj := tu []
def o113 (P : Params) : Obj := co [(.str "is_fraction" 460), (.str "is_fraction" 461), (.str "/claim/cut.py" 462), (.int 18 0), (.int 1 0), (.int 0 0), (.int 0 0), (.int 3 0), (.ref 108), (.bool true), (.int 370 0), (.ref 109), .none, (.ref 110), (.ref 111), (.ref 112), (.int 466 0), (.int 18 0), (.str "/claim/cut.py" 467)]
def o114 (P : Params) : Obj := fo "is_fraction" "is_fraction" (tS 8) .none .none .none (.str "unitgrids.exact" 444) none (.ref 113) .none
def o115 (P : Params) : Obj := tu []
def o117 (P : Params) : Obj := tu [(.str "grid" 474)]
def o118 (P : Params) : Obj := tu []
def o120 (P : Params) : Obj := co [(.str "check_square" 471), (.str "check_square" 472), (.str "/claim/cut.py" 473), (.int 24 0), (.int 1 0), (.int 0 0), (.int 0 0), (.int 3 0), (.ref 115), (.bool true), (.int 370 0), (.ref 116), .none, (.ref 117), (.ref 118), (.ref 119), (.int 475 0), (.int 24 0), (.str "/claim/cut.py" 476)]
def o121 (P : Params) : Obj := fo "check_square" "check_square" (tS 10) .none .none .none (.str "unitgrids.placings" 469) none (.ref 120) .none
def o122 (P : Params) : Obj := tu []
def o125 (P : Params) : Obj := co [(.str "free_columns" 478), (.str "free_columns" 479), (.str "/claim/cut.py" 480), (.int 27 0), (.int 2 0), (.int 0 0), (.int 0 0), (.int 3 0), (.ref 122), (.bool true), (.int 370 0), (.ref 123), .none, .none, .none, (.ref 124), (.int 481 0), (.int 27 0), (.str "/claim/cut.py" 482)]
def o126 (P : Params) : Obj := fo "free_columns" "free_columns" (tS 11) .none .none .none (.str "unitgrids.placings" 469) none (.ref 125) .none
def o127 (P : Params) : Obj := tu []
def o129 (P : Params) : Obj := tu [(.str "grid" 487), (.str "lots" 488), (.str "row" 489), (.str "longer" 490), (.str "taken" 491), (.str "many" 492), (.str "column" 493), (.str "lot" 494)]
def o130 (P : Params) : Obj := tu []
def o132 (P : Params) : Obj := co [(.str "placed_lots" 484), (.str "placed_lots" 485), (.str "/claim/cut.py" 486), (.int 29 0), (.int 1 0), (.int 0 0), (.int 0 0), (.int 3 0), (.ref 127), (.bool true), (.int 370 0), (.ref 128), .none, (.ref 129), (.ref 130), (.ref 131), (.int 495 0), (.int 29 0), (.str "/claim/cut.py" 496)]
def o133 (P : Params) : Obj := fo "placed_lots" "placed_lots" (tS 12) .none .none .none (.str "unitgrids.placings" 469) none (.ref 132) .none
def o134 (P : Params) : Obj := tu []
def o137 (P : Params) : Obj := co [(.str "open_lots" 498), (.str "open_lots" 499), (.str "/claim/cut.py" 500), (.int 39 0), (.int 1 0), (.int 0 0), (.int 0 0), (.int 3 0), (.ref 134), (.bool true), (.int 370 0), (.ref 135), .none, .none, .none, (.ref 136), (.int 501 0), (.int 39 0), (.str "/claim/cut.py" 502)]
def o138 (P : Params) : Obj := fo "open_lots" "open_lots" (tS 13) .none .none .none (.str "unitgrids.placings" 469) none (.ref 137) .none
def o139 (P : Params) : Obj := tu []
def o141 (P : Params) : Obj := tu [(.str "grid" 507)]
def o142 (P : Params) : Obj := tu []
def o144 (P : Params) : Obj := co [(.str "many_placings" 504), (.str "many_placings" 505), (.str "/claim/cut.py" 506), (.int 47 0), (.int 1 0), (.int 0 0), (.int 0 0), (.int 3 0), (.ref 139), (.bool true), (.int 370 0), (.ref 140), .none, (.ref 141), (.ref 142), (.ref 143), (.int 508 0), (.int 47 0), (.str "/claim/cut.py" 509)]
def o145 (P : Params) : Obj := fo "many_placings" "many_placings" (tS 14) .none .none .none (.str "unitgrids.placings" 469) none (.ref 144) .none
def o146 (P : Params) : Obj := tu []
def o149 (P : Params) : Obj := co [(.str "least_placing" 511), (.str "least_placing" 512), (.str "/claim/cut.py" 513), (.int 50 0), (.int 1 0), (.int 0 0), (.int 0 0), (.int 3 0), (.ref 146), (.bool true), (.int 370 0), (.ref 147), .none, .none, .none, (.ref 148), (.int 514 0), (.int 50 0), (.str "/claim/cut.py" 515)]
def o150 (P : Params) : Obj := fo "least_placing" "least_placing" (tS 15) .none .none .none (.str "unitgrids.placings" 469) none (.ref 149) .none
def o151 (P : Params) : Obj := tu []
def o153 (P : Params) : Obj := tu [(.str "grid" 520), (.str "lots" 521), (.str "found" 522), (.str "i" 523), (.str "row" 524), (.str "taken" 525), (.str "column" 526)]
def o154 (P : Params) : Obj := tu []
def o156 (P : Params) : Obj := co [(.str "live" 517), (.str "live" 518), (.str "/claim/cut.py" 519), (.int 62 0), (.int 1 0), (.int 0 0), (.int 0 0), (.int 3 0), (.ref 151), (.bool true), (.int 370 0), (.ref 152), .none, (.ref 153), (.ref 154), (.ref 155), (.int 527 0), (.int 62 0), (.str "/claim/cut.py" 528)]
def o157 (P : Params) : Obj := fo "live" "live" (tS 16) .none .none .none (.str "unitgrids.placings" 469) none (.ref 156) .none
def o158 (P : Params) : Obj := tu []
def o161 (P : Params) : Obj := co [(.str "is_any_unit" 534), (.str "is_any_unit" 535), (.str "/claim/cut.py" 536), (.int 74 0), (.int 1 0), (.int 0 0), (.int 0 0), (.int 3 0), (.ref 158), (.bool true), (.int 370 0), (.ref 159), .none, .none, .none, (.ref 160), (.int 537 0), (.int 74 0), (.str "/claim/cut.py" 538)]
def o162 (P : Params) : Obj := fo "is_any_unit" "is_any_unit" (tS 19) .none .none .none (.str "unitgrids.units" 530) none (.ref 161) .none
def o163 (P : Params) : Obj := tu []
def o165 (P : Params) : Obj := tu [(.str "bases" 543), (.str "thing" 544)]
def o166 (P : Params) : Obj := tu []
def o168 (P : Params) : Obj := co [(.str "is_unit" 540), (.str "is_unit" 541), (.str "/claim/cut.py" 542), (.int 78 0), (.int 2 0), (.int 0 0), (.int 0 0), (.int 3 0), (.ref 163), (.bool true), (.int 370 0), (.ref 164), .none, (.ref 165), (.ref 166), (.ref 167), (.int 545 0), (.int 78 0), (.str "/claim/cut.py" 546)]
def o169 (P : Params) : Obj := fo "is_unit" "is_unit" (tS 20) .none .none .none (.str "unitgrids.units" 530) none (.ref 168) .none
def o177 (P : Params) : Obj := tu []
def o179 (P : Params) : Obj := tu [(.str "self" 571), (.str "bases" 572), (.str "rows" 573), (.str "part" 574)]
def o180 (P : Params) : Obj := tu []
def o182 (P : Params) : Obj := co [(.str "__init__" 568), (.str "Grid.__init__" 569), (.str "/claim/cut.py" 570), (.int 86 0), (.int 3 0), (.int 0 0), (.int 0 0), (.int 3 0), (.ref 177), (.bool true), (.int 370 0), (.ref 178), .none, (.ref 179), (.ref 180), (.ref 181), (.int 575 0), (.int 86 0), (.str "/claim/cut.py" 576)]
def o183 (P : Params) : Obj := fo "__init__" "Grid.__init__" (L2.inClass (tS 25) 0) .none .none .none (.str "unitgrids.grids" 548) none (.ref 182) .none
def o184 (P : Params) : Obj := tu []
def o186 (P : Params) : Obj := tu [(.str "self" 581), (.str "other" 582)]
def o187 (P : Params) : Obj := tu []
def o189 (P : Params) : Obj := co [(.str "__eq__" 578), (.str "Grid.__eq__" 579), (.str "/claim/cut.py" 580), (.int 93 0), (.int 2 0), (.int 0 0), (.int 0 0), (.int 3 0), (.ref 184), (.bool true), (.int 370 0), (.ref 185), .none, (.ref 186), (.ref 187), (.ref 188), (.int 583 0), (.int 93 0), (.str "/claim/cut.py" 584)]
def o190 (P : Params) : Obj := fo "__eq__" "Grid.__eq__" (L2.inClass (tS 25) 1) .none .none .none (.str "unitgrids.grids" 548) none (.ref 189) .none
def o191 (P : Params) : Obj := tu [(.str "bases" 586), (.str "rows" 587)]
def o192 (P : Params) : Obj := ⟨(.type "dict"), none, (.dict ([de P "__module__" 563 (.str "unitgrids.grids" 548), de P "__firstlineno__" 567 (.int 84 566), de P "__init__" 577 (.ref 183), de P "__eq__" 585 (.ref 190), de P "__static_attributes__" 588 (.ref 191), de P "__dict__" 590 (.ref 194), de P "__weakref__" 592 (.ref 195), de P "__doc__" 593 .none, de P "__hash__" 594 .none] : List DictEntry).toArray 5), #[]⟩
def o193 (P : Params) : Obj := ⟨(.type "type"), none, (.cls ⟨"Grid", [(.type "object")], [(.ref 193), (.type "object")], 192, "Grid", true, [], [], false, none, false⟩), #[none, none, some (.str "Grid" 556), some (.str "Grid" 564), some (.builtin "object.__new__"), some (.bool true)]⟩
def o194 (P : Params) : Obj := ⟨(.type "getset_descriptor"), none, (.fields ([(.str "__dict__" 589), (.ref 193), (.builtin "function.__dict__"), (.builtin "function.__dict__#set")] : List Value).toArray), #[]⟩
def o195 (P : Params) : Obj := ⟨(.type "getset_descriptor"), none, (.fields ([(.str "__weakref__" 591), (.ref 193), (.builtin "ExceptionGroup.__weakref__"), .none] : List Value).toArray), #[]⟩
def o198 (P : Params) : Obj := tu []
def o201 (P : Params) : Obj := co [(.str "is_cell" 597), (.str "is_cell" 598), (.str "/claim/cut.py" 599), (.int 95 0), (.int 2 0), (.int 0 0), (.int 0 0), (.int 3 0), (.ref 198), (.bool true), (.int 370 0), (.ref 199), .none, .none, .none, (.ref 200), (.int 600 0), (.int 95 0), (.str "/claim/cut.py" 601)]
def o202 (P : Params) : Obj := fo "is_cell" "is_cell" (tS 26) .none .none .none (.str "unitgrids.grids" 548) none (.ref 201) .none
def o203 (P : Params) : Obj := tu []
def o205 (P : Params) : Obj := tu [(.str "thing" 606)]
def o206 (P : Params) : Obj := tu []
def o208 (P : Params) : Obj := co [(.str "_has_grid_length" 603), (.str "_has_grid_length" 604), (.str "/claim/cut.py" 605), (.int 101 0), (.int 1 0), (.int 0 0), (.int 0 0), (.int 3 0), (.ref 203), (.bool true), (.int 370 0), (.ref 204), .none, (.ref 205), (.ref 206), (.ref 207), (.int 607 0), (.int 101 0), (.str "/claim/cut.py" 608)]
def o209 (P : Params) : Obj := fo "_has_grid_length" "_has_grid_length" (tS 27) .none .none .none (.str "unitgrids.grids" 548) none (.ref 208) .none
def o210 (P : Params) : Obj := tu []
def o212 (P : Params) : Obj := tu [(.str "bases" 613), (.str "rows" 614), (.str "i" 615), (.str "row" 616), (.str "j" 617), (.str "thing" 618)]
def o213 (P : Params) : Obj := tu []
def o215 (P : Params) : Obj := co [(.str "_wrong_part" 610), (.str "_wrong_part" 611), (.str "/claim/cut.py" 612), (.int 103 0), (.int 2 0), (.int 0 0), (.int 0 0), (.int 3 0), (.ref 210), (.bool true), (.int 370 0), (.ref 211), .none, (.ref 212), (.ref 213), (.ref 214), (.int 619 0), (.int 103 0), (.str "/claim/cut.py" 620)]
def o216 (P : Params) : Obj := fo "_wrong_part" "_wrong_part" (tS 28) .none .none .none (.str "unitgrids.grids" 548) none (.ref 215) .none
def o217 (P : Params) : Obj := tu []
def o220 (P : Params) : Obj := co [(.str "_law_hand" 624), (.str "_law_hand" 625), (.str "/claim/cut.py" 626), (.int 117 0), (.int 1 0), (.int 0 0), (.int 0 0), (.int 3 0), (.ref 217), (.bool true), (.int 370 0), (.ref 218), .none, .none, .none, (.ref 219), (.int 627 0), (.int 117 0), (.str "/claim/cut.py" 628)]
def o221 (P : Params) : Obj := fo "_law_hand" "_law_hand" (tS 30) .none .none .none (.str "law_unitgrids_k50_whole_placings_counted_and" 622) none (.ref 220) .none
def o222 (P : Params) : Obj := tu []
def o224 (P : Params) : Obj := tu [(.str "hand" 633), (.str "many" 634), (.str "cell" 635), (.str "digit" 636), (.str "number" 637)]
def o225 (P : Params) : Obj := tu []
def o227 (P : Params) : Obj := co [(.str "_law_draw" 630), (.str "_law_draw" 631), (.str "/claim/cut.py" 632), (.int 120 0), (.int 2 0), (.int 0 0), (.int 0 0), (.int 3 0), (.ref 222), (.bool true), (.int 370 0), (.ref 223), .none, (.ref 224), (.ref 225), (.ref 226), (.int 638 0), (.int 120 0), (.str "/claim/cut.py" 639)]
def o228 (P : Params) : Obj := fo "_law_draw" "_law_draw" (tS 31) .none .none .none (.str "law_unitgrids_k50_whole_placings_counted_and" 622) none (.ref 227) .none
def o229 (P : Params) : Obj := tu []
def o231 (P : Params) : Obj := tu [(.str "top" 644), (.str "below" 645), (.str "one" 646), (.str "other" 647)]
def o232 (P : Params) : Obj := tu []
def o234 (P : Params) : Obj := co [(.str "_law_lowest" 641), (.str "_law_lowest" 642), (.str "/claim/cut.py" 643), (.int 136 0), (.int 2 0), (.int 0 0), (.int 0 0), (.int 3 0), (.ref 229), (.bool true), (.int 370 0), (.ref 230), .none, (.ref 231), (.ref 232), (.ref 233), (.int 648 0), (.int 136 0), (.str "/claim/cut.py" 649)]
def o235 (P : Params) : Obj := fo "_law_lowest" "_law_lowest" (tS 32) .none .none .none (.str "law_unitgrids_k50_whole_placings_counted_and" 622) none (.ref 234) .none
def o236 (P : Params) : Obj := tu []
def o238 (P : Params) : Obj := tu [(.str "one" 654), (.str "other" 655)]
def o239 (P : Params) : Obj := tu []
def o241 (P : Params) : Obj := co [(.str "_law_plus" 651), (.str "_law_plus" 652), (.str "/claim/cut.py" 653), (.int 141 0), (.int 2 0), (.int 0 0), (.int 0 0), (.int 3 0), (.ref 236), (.bool true), (.int 370 0), (.ref 237), .none, (.ref 238), (.ref 239), (.ref 240), (.int 656 0), (.int 141 0), (.str "/claim/cut.py" 657)]
def o242 (P : Params) : Obj := fo "_law_plus" "_law_plus" (tS 33) .none .none .none (.str "law_unitgrids_k50_whole_placings_counted_and" 622) none (.ref 241) .none
def o250 (P : Params) : Obj := tu []
def o253 (P : Params) : Obj := co [(.str "_law_unit_sum" 667), (.str "_law_unit_sum" 668), (.str "/claim/cut.py" 669), (.int 145 0), (.int 3 0), (.int 0 0), (.int 0 0), (.int 3 0), (.ref 250), (.bool true), (.int 370 0), (.ref 251), .none, .none, .none, (.ref 252), (.int 670 0), (.int 145 0), (.str "/claim/cut.py" 671)]
def o254 (P : Params) : Obj := fo "_law_unit_sum" "_law_unit_sum" (tS 35) .none .none .none (.str "law_unitgrids_k50_whole_placings_counted_and" 622) none (.ref 253) .none
def o255 (P : Params) : Obj := tu []
def o257 (P : Params) : Obj := tu [(.str "bases" 676)]
def o258 (P : Params) : Obj := tu []
def o260 (P : Params) : Obj := co [(.str "_law_unitless" 673), (.str "_law_unitless" 674), (.str "/claim/cut.py" 675), (.int 147 0), (.int 1 0), (.int 0 0), (.int 0 0), (.int 3 0), (.ref 255), (.bool true), (.int 370 0), (.ref 256), .none, (.ref 257), (.ref 258), (.ref 259), (.int 677 0), (.int 147 0), (.str "/claim/cut.py" 678)]
def o261 (P : Params) : Obj := fo "_law_unitless" "_law_unitless" (tS 36) .none .none .none (.str "law_unitgrids_k50_whole_placings_counted_and" 622) none (.ref 260) .none
def o269 (P : Params) : Obj := tu []
def o271 (P : Params) : Obj := tu [(.str "hand" 693), (.str "bases" 694), (.str "most" 695), (.str "found" 696), (.str "k" 697), (.str "below" 698)]
def o272 (P : Params) : Obj := tu []
def o274 (P : Params) : Obj := co [(.str "_law_unit" 690), (.str "_law_unit" 691), (.str "/claim/cut.py" 692), (.int 154 0), (.int 3 0), (.int 0 0), (.int 0 0), (.int 3 0), (.ref 269), (.bool true), (.int 370 0), (.ref 270), .none, (.ref 271), (.ref 272), (.ref 273), (.int 699 0), (.int 154 0), (.str "/claim/cut.py" 700)]
def o275 (P : Params) : Obj := fo "_law_unit" "_law_unit" (tS 38) .none .none .none (.str "law_unitgrids_k50_whole_placings_counted_and" 622) none (.ref 274) .none
def o276 (P : Params) : Obj := tu []
def o279 (P : Params) : Obj := co [(.str "_law_rows" 702), (.str "_law_rows" 703), (.str "/claim/cut.py" 704), (.int 160 0), (.int 3 0), (.int 0 0), (.int 0 0), (.int 3 0), (.ref 276), (.bool true), (.int 370 0), (.ref 277), .none, .none, .none, (.ref 278), (.int 705 0), (.int 160 0), (.str "/claim/cut.py" 706)]
def o280 (P : Params) : Obj := fo "_law_rows" "_law_rows" (tS 39) .none .none .none (.str "law_unitgrids_k50_whole_placings_counted_and" 622) none (.ref 279) .none
def o281 (P : Params) : Obj := tu []
def o283 (P : Params) : Obj := tu [(.str "hand" 711), (.str "most" 712), (.str "bases" 713)]
def o284 (P : Params) : Obj := tu []
def o286 (P : Params) : Obj := co [(.str "_law_drawn" 708), (.str "_law_drawn" 709), (.str "/claim/cut.py" 710), (.int 178 0), (.int 2 0), (.int 0 0), (.int 0 0), (.int 3 0), (.ref 281), (.bool true), (.int 370 0), (.ref 282), .none, (.ref 283), (.ref 284), (.ref 285), (.int 714 0), (.int 178 0), (.str "/claim/cut.py" 715)]
def o287 (P : Params) : Obj := fo "_law_drawn" "_law_drawn" (tS 40) .none .none .none (.str "law_unitgrids_k50_whole_placings_counted_and" 622) none (.ref 286) .none
def o288 (P : Params) : Obj := tu []
def o290 (P : Params) : Obj := tu [(.str "parts" 720)]
def o291 (P : Params) : Obj := tu []
def o293 (P : Params) : Obj := co [(.str "_law_made" 717), (.str "_law_made" 718), (.str "/claim/cut.py" 719), (.int 181 0), (.int 1 0), (.int 0 0), (.int 0 0), (.int 3 0), (.ref 288), (.bool true), (.int 370 0), (.ref 289), .none, (.ref 290), (.ref 291), (.ref 292), (.int 721 0), (.int 181 0), (.str "/claim/cut.py" 722)]
def o294 (P : Params) : Obj := fo "_law_made" "_law_made" (tS 41) .none .none .none (.str "law_unitgrids_k50_whole_placings_counted_and" 622) none (.ref 293) .none
def o295 (P : Params) : Obj := tu []
def o298 (P : Params) : Obj := co [(.str "_law_placings" 724), (.str "_law_placings" 725), (.str "/claim/cut.py" 726), (.int 183 0), (.int 1 0), (.int 0 0), (.int 0 0), (.int 3 0), (.ref 295), (.bool true), (.int 370 0), (.ref 296), .none, .none, .none, (.ref 297), (.int 727 0), (.int 183 0), (.str "/claim/cut.py" 728)]
def o299 (P : Params) : Obj := fo "_law_placings" "_law_placings" (tS 42) .none .none .none (.str "law_unitgrids_k50_whole_placings_counted_and" 622) none (.ref 298) .none
def o317 (P : Params) : Obj := tu []
def o320 (P : Params) : Obj := co [(.str "_law_great_right" 749), (.str "_law_great_right" 750), (.str "/claim/cut.py" 751), (.int 200 0), (.int 1 0), (.int 0 0), (.int 0 0), (.int 3 0), (.ref 317), (.bool true), (.int 370 0), (.ref 318), .none, .none, .none, (.ref 319), (.int 752 0), (.int 200 0), (.str "/claim/cut.py" 753)]
def o321 (P : Params) : Obj := fo "_law_great_right" "_law_great_right" (tS 46) .none .none .none (.str "law_unitgrids_k50_whole_placings_counted_and" 622) none (.ref 320) .none
def o322 (P : Params) : Obj := tu []
def o325 (P : Params) : Obj := co [(.str "law" 755), (.str "law" 756), (.str "/claim/cut.py" 757), (.int 220 0), (.int 1 0), (.int 0 0), (.int 0 0), (.int 3 0), (.ref 322), (.bool true), (.int 370 0), (.ref 323), .none, .none, .none, (.ref 324), (.int 758 0), (.int 220 0), (.str "/claim/cut.py" 759)]
def o326 (P : Params) : Obj := fo "law" "law" (tS 47) .none .none .none (.str "law_unitgrids_k50_whole_placings_counted_and" 622) none (.ref 325) .none
def KF : Params → Frag := fun P => (nat_lit 2, o2 P) :: (nat_lit 3, o3 P) :: (nat_lit 43, o43 P) :: (nat_lit 50, o50 P) :: (nat_lit 52, o52 P) :: (nat_lit 53, o53 P) :: (nat_lit 55, o55 P) :: (nat_lit 56, o56 P) :: (nat_lit 57, o57 P) :: (nat_lit 58, o58 P) :: (nat_lit 59, o59 P) :: (nat_lit 60, o60 P) :: (nat_lit 63, o63 P) :: (nat_lit 70, o70 P) :: (nat_lit 72, o72 P) :: (nat_lit 73, o73 P) :: (nat_lit 75, o75 P) :: (nat_lit 76, o76 P) :: (nat_lit 77, o77 P) :: (nat_lit 78, o78 P) :: (nat_lit 79, o79 P) :: (nat_lit 82, o82 P) :: (nat_lit 89, o89 P) :: (nat_lit 90, o90 P) :: (nat_lit 91, o91 P) :: (nat_lit 94, o94 P) :: (nat_lit 96, o96 P) :: (nat_lit 97, o97 P) :: (nat_lit 99, o99 P) :: (nat_lit 100, o100 P) :: (nat_lit 101, o101 P) :: (nat_lit 103, o103 P) :: (nat_lit 104, o104 P) :: (nat_lit 106, o106 P) :: (nat_lit 107, o107 P) :: (nat_lit 108, o108 P) :: (nat_lit 110, o110 P) :: (nat_lit 111, o111 P) :: (nat_lit 113, o113 P) :: (nat_lit 114, o114 P) :: (nat_lit 115, o115 P) :: (nat_lit 117, o117 P) :: (nat_lit 118, o118 P) :: (nat_lit 120, o120 P) :: (nat_lit 121, o121 P) :: (nat_lit 122, o122 P) :: (nat_lit 125, o125 P) :: (nat_lit 126, o126 P) :: (nat_lit 127, o127 P) :: (nat_lit 129, o129 P) :: (nat_lit 130, o130 P) :: (nat_lit 132, o132 P) :: (nat_lit 133, o133 P) :: (nat_lit 134, o134 P) :: (nat_lit 137, o137 P) :: (nat_lit 138, o138 P) :: (nat_lit 139, o139 P) :: (nat_lit 141, o141 P) :: (nat_lit 142, o142 P) :: (nat_lit 144, o144 P) :: (nat_lit 145, o145 P) :: (nat_lit 146, o146 P) :: (nat_lit 149, o149 P) :: (nat_lit 150, o150 P) :: (nat_lit 151, o151 P) :: (nat_lit 153, o153 P) :: (nat_lit 154, o154 P) :: (nat_lit 156, o156 P) :: (nat_lit 157, o157 P) :: (nat_lit 158, o158 P) :: (nat_lit 161, o161 P) :: (nat_lit 162, o162 P) :: (nat_lit 163, o163 P) :: (nat_lit 165, o165 P) :: (nat_lit 166, o166 P) :: (nat_lit 168, o168 P) :: (nat_lit 169, o169 P) :: (nat_lit 177, o177 P) :: (nat_lit 179, o179 P) :: (nat_lit 180, o180 P) :: (nat_lit 182, o182 P) :: (nat_lit 183, o183 P) :: (nat_lit 184, o184 P) :: (nat_lit 186, o186 P) :: (nat_lit 187, o187 P) :: (nat_lit 189, o189 P) :: (nat_lit 190, o190 P) :: (nat_lit 191, o191 P) :: (nat_lit 192, o192 P) :: (nat_lit 193, o193 P) :: (nat_lit 194, o194 P) :: (nat_lit 195, o195 P) :: (nat_lit 198, o198 P) :: (nat_lit 201, o201 P) :: (nat_lit 202, o202 P) :: (nat_lit 203, o203 P) :: (nat_lit 205, o205 P) :: (nat_lit 206, o206 P) :: (nat_lit 208, o208 P) :: (nat_lit 209, o209 P) :: (nat_lit 210, o210 P) :: (nat_lit 212, o212 P) :: (nat_lit 213, o213 P) :: (nat_lit 215, o215 P) :: (nat_lit 216, o216 P) :: (nat_lit 217, o217 P) :: (nat_lit 220, o220 P) :: (nat_lit 221, o221 P) :: (nat_lit 222, o222 P) :: (nat_lit 224, o224 P) :: (nat_lit 225, o225 P) :: (nat_lit 227, o227 P) :: (nat_lit 228, o228 P) :: (nat_lit 229, o229 P) :: (nat_lit 231, o231 P) :: (nat_lit 232, o232 P) :: (nat_lit 234, o234 P) :: (nat_lit 235, o235 P) :: (nat_lit 236, o236 P) :: (nat_lit 238, o238 P) :: (nat_lit 239, o239 P) :: (nat_lit 241, o241 P) :: (nat_lit 242, o242 P) :: (nat_lit 250, o250 P) :: (nat_lit 253, o253 P) :: (nat_lit 254, o254 P) :: (nat_lit 255, o255 P) :: (nat_lit 257, o257 P) :: (nat_lit 258, o258 P) :: (nat_lit 260, o260 P) :: (nat_lit 261, o261 P) :: (nat_lit 269, o269 P) :: (nat_lit 271, o271 P) :: (nat_lit 272, o272 P) :: (nat_lit 274, o274 P) :: (nat_lit 275, o275 P) :: (nat_lit 276, o276 P) :: (nat_lit 279, o279 P) :: (nat_lit 280, o280 P) :: (nat_lit 281, o281 P) :: (nat_lit 283, o283 P) :: (nat_lit 284, o284 P) :: (nat_lit 286, o286 P) :: (nat_lit 287, o287 P) :: (nat_lit 288, o288 P) :: (nat_lit 290, o290 P) :: (nat_lit 291, o291 P) :: (nat_lit 293, o293 P) :: (nat_lit 294, o294 P) :: (nat_lit 295, o295 P) :: (nat_lit 298, o298 P) :: (nat_lit 299, o299 P) :: (nat_lit 317, o317 P) :: (nat_lit 320, o320 P) :: (nat_lit 321, o321 P) :: (nat_lit 322, o322 P) :: (nat_lit 325, o325 P) :: (nat_lit 326, o326 P) :: []
def as_ : List Addr := (2 :: 3 :: 43 :: 50 :: 52 :: 53 :: 55 :: 56 :: 57 :: 58 :: 59 :: 60 :: 63 :: 70 :: 72 :: 73 :: 75 :: 76 :: 77 :: 78 :: 79 :: 82 :: 89 :: 90 :: 91 :: 94 :: 96 :: 97 :: 99 :: 100 :: 101 :: 103 :: 104 :: 106 :: 107 :: 108 :: 110 :: 111 :: 113 :: 114 :: 115 :: 117 :: 118 :: 120 :: 121 :: 122 :: 125 :: 126 :: 127 :: 129 :: 130 :: 132 :: 133 :: 134 :: 137 :: 138 :: 139 :: 141 :: 142 :: 144 :: 145 :: 146 :: 149 :: 150 :: 151 :: 153 :: 154 :: 156 :: 157 :: 158 :: 161 :: 162 :: 163 :: 165 :: 166 :: 168 :: 169 :: 177 :: 179 :: 180 :: 182 :: 183 :: 184 :: 186 :: 187 :: 189 :: 190 :: 191 :: 192 :: 193 :: 194 :: 195 :: 198 :: 201 :: 202 :: 203 :: 205 :: 206 :: 208 :: 209 :: 210 :: 212 :: 213 :: 215 :: 216 :: 217 :: 220 :: 221 :: 222 :: 224 :: 225 :: 227 :: 228 :: 229 :: 231 :: 232 :: 234 :: 235 :: 236 :: 238 :: 239 :: 241 :: 242 :: 250 :: 253 :: 254 :: 255 :: 257 :: 258 :: 260 :: 261 :: 269 :: 271 :: 272 :: 274 :: 275 :: 276 :: 279 :: 280 :: 281 :: 283 :: 284 :: 286 :: 287 :: 288 :: 290 :: 291 :: 293 :: 294 :: 295 :: 298 :: 299 :: 317 :: 320 :: 321 :: 322 :: 325 :: 326 :: [])
def loose_ : List PySem.Str := (("GridError" :: "BadGrid" :: "NotSquare" :: "is_whole" :: "is_pair" :: "is_fraction" :: "check_square" :: "free_columns" :: "placed_lots" :: "open_lots" :: "many_placings" :: "least_placing" :: "live" :: "MOST_BASES" :: "is_any_unit" :: "is_unit" :: "MOST_ROWS" :: "MOST_TOP" :: "MOST_BOTTOM" :: "Grid" :: "is_cell" :: "_has_grid_length" :: "_wrong_part" :: "_law_hand" :: "_law_draw" :: "_law_lowest" :: "_law_plus" :: "_law_times" :: "_law_unit_sum" :: "_law_unitless" :: "_law_total" :: "_law_unit" :: "_law_rows" :: "_law_drawn" :: "_law_made" :: "_law_placings" :: "_law_placed" :: "_law_units" :: "_law_verdict" :: "_law_great_right" :: []) : List String).map PySem.Str.ofString
abbrev row_ : OpenRow := PySem.Challenge.rw_unitgrids_k50_whole_placings_counted_and.row
def q_ : Program := { row_.prog with main := { row_.prog.main with body := [tS 0, tS 47] } }
theorem ek_ : ∀ P, as_ = (KF P).map (·.1) := fun _ => by rfl
theorem looks (w : World) : Looks row_ q_ 4796 loose_ w := by kernel_rfl
theorem reads (w : World) : Reads row_ KF as_ 4796 w := by kernel_rfl
theorem run (w : World) : HeadRun.RunEqI row_ q_ (kHook KF as_ ek_) (fun s => as_.map (HeadRun.getT s)) 4796 loose_ w := run_of (looks w) (reads w)
theorem run_ (w : World) : HeadRun.RunEqI row_ q_ (kHook KF as_ ek_) (fun s => as_.map (HeadRun.getT s)) 4796 loose_ w := (run) w
end Hd
set_option Elab.async false
set_option linter.all false
set_option maxRecDepth 100000
set_option maxHeartbeats 4000000
namespace PD
open PySem PySem.Spec PyProof.Rows L2
/-- plain data: what a value says, whatever its addresses are; st: the one list that a law draws from -/
inductive D where
  | non | bl (b : Bool) | int (i : Int) | str (x : Str) | ty (n : String)
  | tup (xs : List D) | lst (xs : List D) | st | obj (a : Addr)
  /-- a dict, whatever is in it; an instance of the class at C: its fields' names and what they hold -/
  | dct | ins (C : Addr) (ns : List Str) (ds : List D)
  /-- a caught exception: its own dict's place, names and data -/
  | exc (a dx : Addr) (ns : List Str) (ds : List D)
  /-- an exception held as a value: its class, its fields' names and data -/
  | xob (C : Addr) (ns : List Str) (ds : List D)
  /-- a dict by its keys, ints and texts, in order, and what they lead to -/
  | dic (ks : List Key) (ds : List D)
  /-- such a dict, which a loop may hold locked -/
  | dik (ks : List Key) (ds : List D)
abbrev DS := List (Option D)
structure Wd where
  K : PySem.W.Frag
  s : Option Addr
  b : Addr
/-- the list that changes while a law draws -/
abbrev Wd.S (W : Wd) (a : Addr) : Prop := W.s = some a
theorem Wd.S_of {W : Wd} {a s : Addr} (h : W.s = some s) (e : a = s) : W.S a := by rw [e]; exact h
/-- a dict's object, locked or not -/
def DKo (o : HO) (kvs : List (Key × V)) : Prop := o = .dK kvs ∨ ∃ ob, o = .frz ob (.dK kvs)
mutual
inductive Rep (W : Wd) (M : Addr → Prop) (H : Hp) : V → D → Prop
  | non : Rep W M H .non .non
  | bl (b : Bool) : Rep W M H (.bl b) (.bl b)
  | int (i : Int) : Rep W M H (.int i) (.int i)
  | str (x : Str) : Rep W M H (.str x) (.str x)
  | ty (n : String) : Rep W M H (.ty n) (.ty n)
  | tup {a : Addr} {vs : List V} {ds : List D} : SqT W.K H a vs → Reps W M H vs ds → Rep W M H (.ref a) (.tup ds)
  | lst {a : Addr} {vs : List V} {ds : List D} : ¬ M a → H a = some (.lst vs) → Reps W M H vs ds → Rep W M H (.ref a) (.lst ds)
  | st {a : Addr} : W.s = some a → Rep W M H (.ref a) .st
  | obj (a : Addr) : Rep W M H (.ref a) (.obj a)
  | dct {a : Addr} {kvs : List (Key × V)} : ¬ M a → H a = some (.dK kvs) → Rep W M H (.ref a) .dct
  | ins {a C dx : Addr} {fs : List (Str × V)} {ns : List Str} {ds : List D} : ¬ M a → H a = some (.ins C dx fs) → fs.map (·.1) = ns → Reps W M H (fs.map (·.2)) ds → Rep W M H (.ref a) (.ins C ns ds)
  | exc {a dx : Addr} {fs : List (Str × V)} {ns : List Str} {ds : List D} : ¬ M dx → H dx = some (.xd fs) → fs.map (·.1) = ns → Reps W M H (fs.map (·.2)) ds → Rep W M H (.ref a) (.exc a dx ns ds)
  | xob0 {a C : Addr} : ¬ M a → H a = some (exo a C none) → Rep W M H (.ref a) (.xob C [] [])
  | xob {a C dx : Addr} {fs : List (Str × V)} {ns : List Str} {ds : List D} : ¬ M a → H a = some (exo a C (some dx)) → ¬ M dx → H dx = some (exd dx fs) → fs.map (·.1) = ns → Reps W M H (fs.map (·.2)) ds → Rep W M H (.ref a) (.xob C ns ds)
  | dic {a : Addr} {kvs : List (Key × V)} {ks : List Key} {ds : List D} : ¬ M a → H a = some (.dK kvs) → kvs.map (·.1) = ks → Reps W M H (kvs.map (·.2)) ds → Rep W M H (.ref a) (.dic ks ds)
  | dik {a : Addr} {o : HO} {kvs : List (Key × V)} {ks : List Key} {ds : List D} : ¬ M a → H a = some o → DKo o kvs → kvs.map (·.1) = ks → Reps W M H (kvs.map (·.2)) ds → Rep W M H (.ref a) (.dik ks ds)
inductive Reps (W : Wd) (M : Addr → Prop) (H : Hp) : List V → List D → Prop
  | nil : Reps W M H [] []
  | cons {v : V} {vs : List V} {d : D} {ds : List D} : Rep W M H v d → Reps W M H vs ds → Reps W M H (v :: vs) (d :: ds)
end
theorem Reps.length {W : Wd} {M : Addr → Prop} {H : Hp} : ∀ {vs : List V} {ds : List D}, Reps W M H vs ds → vs.length = ds.length
  | _, _, .nil => rfl
  | _, _, .cons _ t => by
    show _ + 1 = _ + 1
    rw [t.length]
theorem Reps.get {W : Wd} {M : Addr → Prop} {H : Hp} : ∀ {vs : List V} {ds : List D} {i : Nat} {d : D}, Reps W M H vs ds → ds[i]? = some d → ∃ v, vs[i]? = some v ∧ Rep W M H v d
  | _, _, _, _, .nil, e => by simp at e
  | _, _, 0, _, .cons r _, e => by
    simp at e
    subst e
    exact ⟨_, rfl, r⟩
  | _, _, i + 1, d, .cons _ t, e => by
    obtain ⟨v, h1, h2⟩ := Reps.get (i := i) (d := d) t (by simpa using e)
    exact ⟨v, by simpa using h1, h2⟩
theorem Reps.append {W : Wd} {M : Addr → Prop} {H : Hp} : ∀ {vs us : List V} {ds es : List D}, Reps W M H vs ds → Reps W M H us es → Reps W M H (vs ++ us) (ds ++ es)
  | _, _, _, _, .nil, s => s
  | _, _, _, _, .cons r t, s => .cons r (t.append s)
/-- the list that a law draws from: [the script, the place, what is left, the mix] -/
def StAt (b : Addr) (H : Hp) (s : Addr) : Prop := ∃ (ns : List Int) (i c : Int) (m : Int × Int), H s = some (.lst [.ref b, .int i, .int c, .int m.1, .int m.2]) ∧ b ≠ s ∧ H b = some (.lst (ns.map V.int)) ∧ 0 ≤ i ∧ i ≤ 100 ∧ ns.length ≤ 63 ∧ 0 ≤ c ∧ 0 ≤ m.1 ∧ m.1 < 2147483647
def StOk (W : Wd) (H : Hp) : Prop := ∀ s, W.s = some s → StAt W.b H s
theorem StOk.at {W : Wd} {H : Hp} {a : Addr} (g : StOk W H) (e : W.S a) : ∃ vs, H a = some (.lst vs) := by
  obtain ⟨_, _, _, _, q1, _⟩ := g a e
  exact ⟨_, q1⟩
def Keep (W : Wd) (H H' : Hp) : Prop := ∀ a o, ¬ W.S a → H a = some o → H' a = some o
structure Wf (W : Wd) (M : Addr → Prop) (H : Hp) : Prop where
  g : StOk W H
  sm : ∀ a, W.S a → M a
  dom : ∀ a, M a → ∃ o, H a = some o
structure Wg (W : Wd) (M : Addr → Prop) (H : Hp) : Prop where
  g : StOk W H
  sm : ∀ a, W.S a → M a
theorem Wf.wg {W : Wd} {M : Addr → Prop} {H : Hp} (w : Wf W M H) : Wg W M H := ⟨w.g, w.sm⟩
theorem Keep.refl {W : Wd} (H : Hp) : Keep W H H := fun _ _ _ h => h
theorem Keep.trans {W : Wd} {H H1 H2 : Hp} (a : Keep W H H1) (b : Keep W H1 H2) : Keep W H H2 := fun x o n h => b x o n (a x o n h)
theorem Keep.new {W : Wd} {H : Hp} {p : Addr} {o : HO} (h : H p = none) : Keep W H (upd H p o) := fun a u _ e => by
  rw [upd_ne (ne_of_none e h)]
  exact e
theorem StAt.new {b : Addr} {H : Hp} {s p : Addr} {o : HO} (h : H p = none) (g : StAt b H s) : StAt b (upd H p o) s := by
  obtain ⟨ns, i, c, m, h1, h2, h3, r⟩ := g
  exact ⟨ns, i, c, m, by rw [upd_ne (ne_of_none h1 h)]; exact h1, h2, by rw [upd_ne (ne_of_none h3 h)]; exact h3, r⟩
theorem StOk.new {W : Wd} {H : Hp} {p : Addr} {o : HO} (h : H p = none) (g : StOk W H) : StOk W (upd H p o) := fun s e => (g s e).new h
section
variable {W : Wd} {M M' : Addr → Prop} {H H' : Hp}
theorem Wf.next (w : Wf W M H) (g : StOk W H') (k : Keep W H H') : Wf W M H' := ⟨g, w.sm, fun a ha => by
  by_cases e : W.S a
  · obtain ⟨_, h⟩ := StOk.at g e
    exact ⟨_, h⟩
  · obtain ⟨o, ho⟩ := w.dom a ha
    exact ⟨o, k a o e ho⟩⟩
theorem sqT_keep (w : Wg W M H) (k : Keep W H H') {a : Addr} {vs : List V} (h : SqT W.K H a vs) : SqT W.K H' a vs := by
  rcases h with (h | ⟨o, h⟩) | h
  · refine .inl (.inl (k a _ (fun e => ?_) h))
    obtain ⟨_, q⟩ := StOk.at w.g e
    rw [q] at h
    cases h
  · refine .inl (.inr ⟨o, k a _ (fun e => ?_) h⟩)
    obtain ⟨_, q⟩ := StOk.at w.g e
    rw [q] at h
    cases h
  · exact .inr h
theorem rdL_keep (w : Wg W M H) (k : Keep W H H') {a : Addr} {vs : List V} (n : ¬ M a) (h : H a = some (.lst vs)) : H' a = some (.lst vs) := k a _ (fun e => n (w.sm a e)) h
mutual
theorem Rep.keepG (w : Wg W M H) (k : Keep W H H') : ∀ {v : V} {d : D}, Rep W M H v d → Rep W M H' v d
  | _, _, .non => .non
  | _, _, .bl b => .bl b
  | _, _, .int i => .int i
  | _, _, .str x => .str x
  | _, _, .ty n => .ty n
  | _, _, .tup h r => .tup (sqT_keep w k h) (r.keepG w k)
  | _, _, .lst n h r => .lst n (rdL_keep w k n h) (r.keepG w k)
  | _, _, .st e => .st e
  | _, _, .obj a => .obj a
  | _, _, .dct n h => .dct n (k _ _ (fun e => n (w.sm _ e)) h)
  | _, _, .ins n h e r => .ins n (k _ _ (fun e => n (w.sm _ e)) h) e (r.keepG w k)
  | _, _, .exc n h e r => .exc n (k _ _ (fun e => n (w.sm _ e)) h) e (r.keepG w k)
  | _, _, .xob0 n h => .xob0 n (k _ _ (fun e => n (w.sm _ e)) h)
  | _, _, .xob n h n2 h2 e r => .xob n (k _ _ (fun e => n (w.sm _ e)) h) n2 (k _ _ (fun e => n2 (w.sm _ e)) h2) e (r.keepG w k)
  | _, _, .dic n h e r => .dic n (k _ _ (fun e => n (w.sm _ e)) h) e (r.keepG w k)
  | _, _, .dik n h q e r => .dik n (k _ _ (fun e => n (w.sm _ e)) h) q e (r.keepG w k)
theorem Reps.keepG (w : Wg W M H) (k : Keep W H H') : ∀ {vs : List V} {ds : List D}, Reps W M H vs ds → Reps W M H' vs ds
  | _, _, .nil => .nil
  | _, _, .cons r t => .cons (r.keepG w k) (t.keepG w k)
end
theorem Rep.keep (w : Wf W M H) (k : Keep W H H') {v : V} {d : D} (r : Rep W M H v d) : Rep W M H' v d := r.keepG w.wg k
theorem Reps.keep (w : Wf W M H) (k : Keep W H H') {vs : List V} {ds : List D} (r : Reps W M H vs ds) : Reps W M H' vs ds := r.keepG w.wg k
/-- a list that may turn turns: the rest stands -/
theorem sqT_upd {p : Addr} {o : HO} (hp : ∀ a vs, Rd H a (.tup vs) → a ≠ p) {a : Addr} {vs : List V} (h : SqT W.K H a vs) : SqT W.K (upd H p o) a vs := by
  rcases h with h | h
  · have e := hp a vs h
    rcases h with h | ⟨u, h⟩
    · exact .inl (.inl (by rw [upd_ne e]; exact h))
    · exact .inl (.inr ⟨u, by rw [upd_ne e]; exact h⟩)
  · exact .inr h
theorem rdT_lst {p : Addr} {xs : List V} (hp : H p = some (.lst xs)) : ∀ a vs, Rd H a (.tup vs) → a ≠ p := fun a vs h => by
  rcases h with h | ⟨u, h⟩
  · exact ne_of h hp (by intro z; cases z)
  · exact ne_of h hp (by intro z; cases z)
theorem rdT_ins {p C dx : Addr} {fs : List (Str × V)} (hp : H p = some (.ins C dx fs)) : ∀ a vs, Rd H a (.tup vs) → a ≠ p := fun a vs h => by
  rcases h with h | ⟨u, h⟩
  · exact ne_of h hp (by intro z; cases z)
  · exact ne_of h hp (by intro z; cases z)
theorem rdL_upd {p : Addr} {o : HO} {a : Addr} {vs : List V} (hp : M p) (n : ¬ M a) (h : H a = some (.lst vs)) : upd H p o a = some (.lst vs) := by
  have e : a ≠ p := fun z => n (by rw [z]; exact hp)
  rw [upd_ne e]
  exact h
theorem atU_upd {p : Addr} {o u : HO} {a : Addr} (hp : M p) (n : ¬ M a) (h : H a = some u) : upd H p o a = some u := by
  have e : a ≠ p := fun z => n (by rw [z]; exact hp)
  rw [upd_ne e]
  exact h
mutual
theorem Rep.upd {p : Addr} {o : HO} (hp : ∀ a vs, Rd H a (.tup vs) → a ≠ p) (hm : M p) : ∀ {v : V} {d : D}, Rep W M H v d → Rep W M (upd H p o) v d
  | _, _, .non => .non
  | _, _, .bl b => .bl b
  | _, _, .int i => .int i
  | _, _, .str x => .str x
  | _, _, .ty n => .ty n
  | _, _, .tup h r => .tup (sqT_upd hp h) (r.upd hp hm)
  | _, _, .lst n h r => .lst n (rdL_upd hm n h) (r.upd hp hm)
  | _, _, .st e => .st e
  | _, _, .obj a => .obj a
  | _, _, .dct n h => .dct n (atU_upd hm n h)
  | _, _, .ins n h e r => .ins n (atU_upd hm n h) e (r.upd hp hm)
  | _, _, .exc n h e r => .exc n (atU_upd hm n h) e (r.upd hp hm)
  | _, _, .xob0 n h => .xob0 n (atU_upd hm n h)
  | _, _, .xob n h n2 h2 e r => .xob n (atU_upd hm n h) n2 (atU_upd hm n2 h2) e (r.upd hp hm)
  | _, _, .dic n h e r => .dic n (atU_upd hm n h) e (r.upd hp hm)
  | _, _, .dik n h q e r => .dik n (atU_upd hm n h) q e (r.upd hp hm)
theorem Reps.upd {p : Addr} {o : HO} (hp : ∀ a vs, Rd H a (.tup vs) → a ≠ p) (hm : M p) : ∀ {vs : List V} {ds : List D}, Reps W M H vs ds → Reps W M (upd H p o) vs ds
  | _, _, .nil => .nil
  | _, _, .cons r t => .cons (r.upd hp hm) (t.upd hp hm)
end
mutual
theorem Rep.anti (m : ∀ a, M' a → M a) : ∀ {v : V} {d : D}, Rep W M H v d → Rep W M' H v d
  | _, _, .non => .non
  | _, _, .bl b => .bl b
  | _, _, .int i => .int i
  | _, _, .str x => .str x
  | _, _, .ty n => .ty n
  | _, _, .tup h r => .tup h (r.anti m)
  | _, _, .lst n h r => .lst (fun x => n (m _ x)) h (r.anti m)
  | _, _, .st e => .st e
  | _, _, .obj a => .obj a
  | _, _, .dct n h => .dct (fun x => n (m _ x)) h
  | _, _, .ins n h e r => .ins (fun x => n (m _ x)) h e (r.anti m)
  | _, _, .exc n h e r => .exc (fun x => n (m _ x)) h e (r.anti m)
  | _, _, .xob0 n h => .xob0 (fun x => n (m _ x)) h
  | _, _, .xob n h n2 h2 e r => .xob (fun x => n (m _ x)) h (fun x => n2 (m _ x)) h2 e (r.anti m)
  | _, _, .dic n h e r => .dic (fun x => n (m _ x)) h e (r.anti m)
  | _, _, .dik n h q e r => .dik (fun x => n (m _ x)) h q e (r.anti m)
theorem Reps.anti (m : ∀ a, M' a → M a) : ∀ {vs : List V} {ds : List D}, Reps W M H vs ds → Reps W M' H vs ds
  | _, _, .nil => .nil
  | _, _, .cons r t => .cons (r.anti m) (t.anti m)
end
mutual
theorem Rep.more (n : ∀ a, M' a → ¬ M a → H a = none) : ∀ {v : V} {d : D}, Rep W M H v d → Rep W M' H v d
  | _, _, .non => .non
  | _, _, .bl b => .bl b
  | _, _, .int i => .int i
  | _, _, .str x => .str x
  | _, _, .ty n => .ty n
  | _, _, .tup h r => .tup h (r.more n)
  | _, _, .lst na h r => .lst (fun x => by
      rw [n _ x na] at h
      cases h) h (r.more n)
  | _, _, .st e => .st e
  | _, _, .obj a => .obj a
  | _, _, .dct na h => .dct (fun x => by
      rw [n _ x na] at h
      cases h) h
  | _, _, .ins na h e r => .ins (fun x => by
      rw [n _ x na] at h
      cases h) h e (r.more n)
  | _, _, .exc na h e r => .exc (fun x => by
      rw [n _ x na] at h
      cases h) h e (r.more n)
  | _, _, .xob0 na h => .xob0 (fun x => by
      rw [n _ x na] at h
      cases h) h
  | _, _, .xob na h n2 h2 e r => .xob (fun x => by
      rw [n _ x na] at h
      cases h) h (fun x => by
      rw [n _ x n2] at h2
      cases h2) h2 e (r.more n)
  | _, _, .dic na h e r => .dic (fun x => by
      rw [n _ x na] at h
      cases h) h e (r.more n)
  | _, _, .dik na h q e r => .dik (fun x => by
      rw [n _ x na] at h
      cases h) h q e (r.more n)
theorem Reps.more (n : ∀ a, M' a → ¬ M a → H a = none) : ∀ {vs : List V} {ds : List D}, Reps W M H vs ds → Reps W M' H vs ds
  | _, _, .nil => .nil
  | _, _, .cons r t => .cons (r.more n) (t.more n)
end
/-- all stands, but for lists of M -/
def KeepM (W : Wd) (M : Addr → Prop) (H H' : Hp) : Prop := ∀ a o, ¬ W.S a → (M a → ∀ vs, o ≠ .lst vs) → H a = some o → H' a = some o
theorem KeepM.mono (k : KeepM W M H H') (m : ∀ a, M a → M' a) : KeepM W M' H H' := fun a o n l h => k a o n (fun x => l (m a x)) h
theorem Keep.toM (k : Keep W H H') : KeepM W M H H' := fun a o n _ h => k a o n h
theorem sqT_keepM (w : Wg W M H) (k : KeepM W M H H') {a : Addr} {vs : List V} (h : SqT W.K H a vs) : SqT W.K H' a vs := by
  have no : ∀ {o : HO}, H a = some o → (∀ xs, o ≠ .lst xs) → ¬ W.S a := fun {o} h n e => by
    obtain ⟨_, q⟩ := StOk.at w.g e
    rw [h] at q
    exact n _ (Option.some.inj q)
  rcases h with (h | ⟨o, h⟩) | h
  · exact .inl (.inl (k a _ (no h fun _ z => by cases z) (fun _ _ z => by cases z) h))
  · exact .inl (.inr ⟨o, k a _ (no h fun _ z => by cases z) (fun _ _ z => by cases z) h⟩)
  · exact .inr h
theorem rdL_keepM (w : Wg W M H) (k : KeepM W M H H') {a : Addr} {vs : List V} (n : ¬ M a) (h : H a = some (.lst vs)) : H' a = some (.lst vs) := k a _ (fun e => n (w.sm a e)) (fun m => absurd m n) h
mutual
theorem Rep.keepM (w : Wg W M H) (k : KeepM W M H H') : ∀ {v : V} {d : D}, Rep W M H v d → Rep W M H' v d
  | _, _, .non => .non
  | _, _, .bl b => .bl b
  | _, _, .int i => .int i
  | _, _, .str x => .str x
  | _, _, .ty n => .ty n
  | _, _, .tup h r => .tup (sqT_keepM w k h) (r.keepM w k)
  | _, _, .lst n h r => .lst n (rdL_keepM w k n h) (r.keepM w k)
  | _, _, .st e => .st e
  | _, _, .obj a => .obj a
  | _, _, .dct n h => .dct n (k _ _ (fun e => n (w.sm _ e)) (fun m => absurd m n) h)
  | _, _, .ins n h e r => .ins n (k _ _ (fun e => n (w.sm _ e)) (fun m => absurd m n) h) e (r.keepM w k)
  | _, _, .exc n h e r => .exc n (k _ _ (fun e => n (w.sm _ e)) (fun m => absurd m n) h) e (r.keepM w k)
  | _, _, .xob0 n h => .xob0 n (k _ _ (fun e => n (w.sm _ e)) (fun m => absurd m n) h)
  | _, _, .xob n h n2 h2 e r => .xob n (k _ _ (fun e => n (w.sm _ e)) (fun m => absurd m n) h) n2 (k _ _ (fun e => n2 (w.sm _ e)) (fun m => absurd m n2) h2) e (r.keepM w k)
  | _, _, .dic n h e r => .dic n (k _ _ (fun e => n (w.sm _ e)) (fun m => absurd m n) h) e (r.keepM w k)
  | _, _, .dik n h q e r => .dik n (k _ _ (fun e => n (w.sm _ e)) (fun m => absurd m n) h) q e (r.keepM w k)
theorem Reps.keepM (w : Wg W M H) (k : KeepM W M H H') : ∀ {vs : List V} {ds : List D}, Reps W M H vs ds → Reps W M H' vs ds
  | _, _, .nil => .nil
  | _, _, .cons r t => .cons (r.keepM w k) (t.keepM w k)
end
end
end PD
namespace PD
abbrev Fr := Int × Int
def gcdI (a b : Int) : Nat := Nat.gcd a.natAbs b.natAbs
def lowF (a b : Int) : Fr := (a / (gcdI a b : Int), b / (gcdI a b : Int))
def IsF (p : Fr) : Prop := 1 ≤ p.2 ∧ gcdI p.1 p.2 = 1
def addF (p q : Fr) : Fr := lowF (p.1 * q.2 + q.1 * p.2) (p.2 * q.2)
def mulF (p q : Fr) : Fr := lowF (p.1 * q.1) (p.2 * q.2)
theorem gcdI_pos {a b : Int} (h : b ≠ 0) : 0 < gcdI a b := Nat.gcd_pos_of_pos_right _ (by omega)
theorem gcdI_dvd1 (a b : Int) : ((gcdI a b : Nat) : Int) ∣ a := Int.ofNat_dvd_left.mpr (Nat.gcd_dvd_left _ _)
theorem gcdI_dvd2 (a b : Int) : ((gcdI a b : Nat) : Int) ∣ b := Int.ofNat_dvd_left.mpr (Nat.gcd_dvd_right _ _)
theorem gcdI_le {a b : Int} (h : b ≠ 0) : gcdI a b ≤ b.natAbs := Nat.le_of_dvd (by omega) (Nat.gcd_dvd_right _ _)
theorem lowF_isF {a b : Int} (h : 0 < b) : IsF (lowF a b) := by
  have hg : 0 < gcdI a b := gcdI_pos (by omega)
  have d1 := gcdI_dvd1 a b
  have d2 := gcdI_dvd2 a b
  constructor
  · show 1 ≤ b / (gcdI a b : Int)
    have : (gcdI a b : Int) ≤ b := Int.le_of_dvd h d2
    have := (Int.le_ediv_iff_mul_le (a := 1) (b := b) (c := (gcdI a b : Int)) (by omega)).mpr (by omega)
    exact this
  · show Nat.gcd (a / (gcdI a b : Int)).natAbs (b / (gcdI a b : Int)).natAbs = 1
    rw [Int.natAbs_ediv_of_dvd d1, Int.natAbs_ediv_of_dvd d2]
    show Nat.gcd (a.natAbs / gcdI a b) (b.natAbs / gcdI a b) = 1
    exact Nat.coprime_div_gcd_div_gcd hg
theorem lowF_cross {a b : Int} (h : 0 < b) : (lowF a b).1 * b = a * (lowF a b).2 := by
  obtain ⟨x, hx⟩ := gcdI_dvd1 a b
  obtain ⟨y, hy⟩ := gcdI_dvd2 a b
  have hg : (gcdI a b : Int) ≠ 0 := by have := gcdI_pos (a := a) (b := b) (by omega); omega
  show a / (gcdI a b : Int) * b = a * (b / (gcdI a b : Int))
  have e1 : a / (gcdI a b : Int) = x := by
    conv => lhs; rw [show a / (gcdI a b : Int) = ((gcdI a b : Int) * x) / (gcdI a b : Int) by rw [← hx]]
    exact Int.mul_ediv_cancel_left x hg
  have e2 : b / (gcdI a b : Int) = y := by
    conv => lhs; rw [show b / (gcdI a b : Int) = ((gcdI a b : Int) * y) / (gcdI a b : Int) by rw [← hy]]
    exact Int.mul_ediv_cancel_left y hg
  rw [e1, e2]
  generalize (gcdI a b : Int) = g at *
  rw [hx, hy]
  grind
theorem cross_dvd {a b c d : Int} (h : gcdI a b = 1) (e : a * d = c * b) : b ∣ d := by
  have h1 : b.natAbs ∣ a.natAbs * d.natAbs := by
    rw [← Int.natAbs_mul, e, Int.natAbs_mul]
    exact Nat.dvd_mul_left _ _
  have h2 : Nat.Coprime b.natAbs a.natAbs := by
    show Nat.gcd _ _ = 1
    rw [Nat.gcd_comm]
    exact h
  exact Int.natAbs_dvd_natAbs.mp (h2.dvd_of_dvd_mul_left h1)
theorem isF_inj {p q : Fr} (hp : IsF p) (hq : IsF q) (e : p.1 * q.2 = q.1 * p.2) : p = q := by
  obtain ⟨a, b⟩ := p
  obtain ⟨c, d⟩ := q
  obtain ⟨hb, hp⟩ := hp
  obtain ⟨hd, hq⟩ := hq
  simp only at *
  have d1 : b ∣ d := cross_dvd hp e
  have d2 : d ∣ b := cross_dvd (a := c) (b := d) (c := a) (d := b) hq e.symm
  have e2 : b = d := Int.dvd_antisymm (by omega) (by omega) d1 d2
  subst e2
  have e3 : a = c := Int.eq_of_mul_eq_mul_right (by omega) e
  rw [e3]
theorem lowF_eq {a b : Int} {p : Fr} (h : 0 < b) (hp : IsF p) (e : p.1 * b = a * p.2) : lowF a b = p := by
  refine isF_inj (lowF_isF h) hp ?_
  have e1 := lowF_cross (a := a) h
  have hb : b ≠ 0 := by omega
  apply Int.eq_of_mul_eq_mul_right hb
  grind
theorem addF_isF {p q : Fr} (hp : IsF p) (hq : IsF q) : IsF (addF p q) := lowF_isF (Int.mul_pos (by have := hp.1; omega) (by have := hq.1; omega))
theorem mulF_isF {p q : Fr} (hp : IsF p) (hq : IsF q) : IsF (mulF p q) := lowF_isF (Int.mul_pos (by have := hp.1; omega) (by have := hq.1; omega))
theorem mulF_cross {p q : Fr} (hp : IsF p) (hq : IsF q) : (mulF p q).1 * (p.2 * q.2) = (p.1 * q.1) * (mulF p q).2 := lowF_cross (Int.mul_pos (by have := hp.1; omega) (by have := hq.1; omega))
end PD
namespace PD
def toQ (p : Fr) : Rat := Rat.divInt p.1 p.2
theorem toQ_inj {p q : Fr} (hp : IsF p) (hq : IsF q) (e : toQ p = toQ q) : p = q :=
  isF_inj hp hq ((Rat.divInt_eq_divInt_iff (by have := hp.1; omega) (by have := hq.1; omega)).mp e)
theorem toQ_low {a b : Int} (h : 0 < b) : toQ (lowF a b) = Rat.divInt a b :=
  (Rat.divInt_eq_divInt_iff (by have := (lowF_isF (a := a) h).1; omega) (by omega)).mpr (lowF_cross h)
theorem toQ_mul {p q : Fr} (hp : 0 < p.2) (hq : 0 < q.2) : toQ (mulF p q) = toQ p * toQ q := by
  unfold mulF
  rw [toQ_low (Int.mul_pos hp hq)]
  exact (Rat.divInt_mul_divInt _ _).symm
theorem toQ_ne {p : Fr} (h1 : 0 < p.1) (h2 : 0 < p.2) : toQ p ≠ 0 := by
  intro z
  have := (Rat.divInt_eq_divInt_iff (n₂ := 0) (d₂ := 1) (by omega) (by omega)).mp (z.trans (by decide))
  omega
theorem toQ_powN {p : Fr} (h2 : 0 < p.2) : ∀ n : Nat, toQ (p.1 ^ n, p.2 ^ n) = toQ p ^ n
  | 0 => by
    rw [Rat.pow_zero]
    show Rat.divInt (p.1 ^ 0) (p.2 ^ 0) = 1
    rw [Int.pow_zero, Int.pow_zero]
    decide
  | n + 1 => by
    rw [Rat.pow_succ, ← toQ_powN h2 n]
    show Rat.divInt (p.1 ^ (n + 1)) (p.2 ^ (n + 1)) = Rat.divInt (p.1 ^ n) (p.2 ^ n) * Rat.divInt p.1 p.2
    rw [Rat.divInt_mul_divInt, Int.pow_succ, Int.pow_succ]
/-- a fraction above 0 to an integer power -/
def powF (p : Fr) (e : Int) : Fr := if e < 0 then (p.2 ^ e.natAbs, p.1 ^ e.natAbs) else (p.1 ^ e.natAbs, p.2 ^ e.natAbs)
theorem toQ_pow {p : Fr} (h1 : 0 < p.1) (h2 : 0 < p.2) (e : Int) : toQ (powF p e) = toQ p ^ e := by
  unfold powF
  split
  · rename_i h
    have e1 : e = -(e.natAbs : Int) := by omega
    conv => rhs; rw [e1]
    rw [Rat.zpow_neg, Rat.zpow_natCast, ← toQ_powN h2]
    exact (Rat.inv_divInt _ _).symm
  · rename_i h
    have e1 : e = (e.natAbs : Int) := by omega
    conv => rhs; rw [e1]
    rw [Rat.zpow_natCast, ← toQ_powN h2]
theorem gcd_pows {a b : Int} (h : gcdI a b = 1) (n : Nat) : gcdI (a ^ n) (b ^ n) = 1 := by
  show Nat.gcd (a ^ n).natAbs (b ^ n).natAbs = 1
  rw [Int.natAbs_pow, Int.natAbs_pow]
  exact Nat.Coprime.pow n n h
theorem pow_pos1 {a : Int} (h : 0 < a) : ∀ n : Nat, 1 ≤ a ^ n
  | 0 => by rw [Int.pow_zero]; decide
  | n + 1 => by
    rw [Int.pow_succ]
    have := Int.mul_pos (show 0 < a ^ n by have := pow_pos1 h n; omega) h
    omega
theorem powF_isF {p : Fr} (h1 : 0 < p.1) (hp : IsF p) (e : Int) : IsF (powF p e) := by
  have h2 : 0 < p.2 := by have := hp.1; omega
  unfold powF
  split
  · exact ⟨pow_pos1 h1 _, by
      show gcdI _ _ = 1
      have := gcd_pows hp.2 e.natAbs
      unfold gcdI at *
      rw [Nat.gcd_comm]
      exact this⟩
  · exact ⟨pow_pos1 h2 _, gcd_pows hp.2 _⟩
theorem powF_pos {p : Fr} (h1 : 0 < p.1) (h2 : 0 < p.2) (e : Int) : 0 < (powF p e).1 ∧ 0 < (powF p e).2 := by
  unfold powF
  split
  · exact ⟨pow_pos1 h2 _, pow_pos1 h1 _⟩
  · exact ⟨pow_pos1 h1 _, pow_pos1 h2 _⟩
theorem mulF_pos {p q : Fr} (h1 : 0 < p.1) (h2 : 0 < p.2) (h3 : 0 < q.1) (h4 : 0 < q.2) : 0 < (mulF p q).1 := by
  have hb := Int.mul_pos h2 h4
  have ha := Int.mul_pos h1 h3
  have e := lowF_cross (a := p.1 * q.1) hb
  have hz := (lowF_isF (a := p.1 * q.1) hb).1
  show 0 < (lowF (p.1 * q.1) (p.2 * q.2)).1
  have h : 0 < (lowF (p.1 * q.1) (p.2 * q.2)).1 * (p.2 * q.2) := by
    rw [e]
    exact Int.mul_pos ha (by omega)
  exact Int.pos_of_mul_pos_left h hb
/-- what the scale makes of an exponent -/
def expI (s : Int) (u : Fr) : Int := s * u.1 / u.2
/-- the product that a change of units gives -/
def facF (s : Int) : Fr → List (Fr × Fr) → Fr
  | acc, [] => acc
  | acc, (u, r) :: l => facF s (mulF acc (powF r (expI s u))) l
def facQ (s : Int) : List (Fr × Fr) → Rat
  | [] => 1
  | (u, r) :: l => toQ r ^ expI s u * facQ s l
def PosL (l : List (Fr × Fr)) : Prop := ∀ x ∈ l, IsF x.2 ∧ 0 < x.2.1
theorem facF_ok {s : Int} : ∀ {l : List (Fr × Fr)} {acc : Fr}, PosL l → IsF acc → 0 < acc.1 → IsF (facF s acc l) ∧ 0 < (facF s acc l).1 ∧ toQ (facF s acc l) = toQ acc * facQ s l
  | [], acc, _, h, hp => ⟨h, hp, by show _ = _ * (1 : Rat); rw [Rat.mul_one]; rfl⟩
  | (u, r) :: l, acc, hl, h, hp => by
    have hr := hl (u, r) List.mem_cons_self
    have h2 : 0 < r.2 := by have : 1 ≤ r.2 := hr.1.1; omega
    have hw := powF_isF hr.2 hr.1 (expI s u)
    have hwp := powF_pos hr.2 h2 (expI s u)
    have ha : 0 < acc.2 := by have := h.1; omega
    obtain ⟨i1, i2, i3⟩ := facF_ok (s := s) (l := l) (acc := mulF acc (powF r (expI s u))) (fun x hx => hl x (List.mem_cons_of_mem _ hx)) (mulF_isF h hw) (mulF_pos hp ha hwp.1 hwp.2)
    refine ⟨i1, i2, ?_⟩
    show toQ (facF s (mulF acc (powF r (expI s u))) l) = toQ acc * (toQ r ^ expI s u * facQ s l)
    rw [i3, toQ_mul ha hwp.2, toQ_pow hr.2 h2]
    grind
theorem one_isF : IsF (1, 1) := ⟨by decide, by decide⟩
theorem one_Q : toQ (1, 1) = 1 := by decide
end PD
namespace PD
open PySem PySem.Spec PyProof.Rows L2
structure Slots (W : Wd) (M : Addr → Prop) (H : Hp) (σ : L2.St) (δ : DS) : Prop where
  len : σ.length = δ.length
  get : ∀ (i : Nat) (d : D), δ[i]? = some (some d) → ∃ v, σ[i]? = some (some v) ∧ Rep W M H v d
structure Pre (W : Wd) (M : Addr → Prop) (δ : DS) (σ : L2.St) (H : Hp) : Prop where
  wf : Wf W M H
  sl : Slots W M H σ δ
theorem Slots.set {W : Wd} {M : Addr → Prop} {H : Hp} {σ : L2.St} {δ : DS} (s : Slots W M H σ δ) (i : Nat) {v : V} {d : D} (r : Rep W M H v d) : Slots W M H (σ.set i (some v)) (δ.set i (some d)) where
  len := by rw [List.length_set, List.length_set]; exact s.len
  get := fun j e h => by
    by_cases hj : i = j
    · subst hj
      rw [List.getElem?_set] at h
      rw [List.getElem?_set]
      by_cases hl : i < δ.length
      · rw [if_pos rfl, if_pos hl] at h
        rw [if_pos rfl, if_pos (by rw [s.len]; exact hl)]
        have e1 : d = e := Option.some.inj (Option.some.inj h)
        subst e1
        exact ⟨v, rfl, r⟩
      · rw [if_pos rfl, if_neg hl] at h
        cases h
    · rw [List.getElem?_set, if_neg hj] at h
      rw [List.getElem?_set, if_neg hj]
      exact s.get j e h
/-- a slot of which nothing is said -/
theorem Slots.drop {W : Wd} {M : Addr → Prop} {H : Hp} {σ : L2.St} {δ : DS} (s : Slots W M H σ δ) (i : Nat) (x : Option V) : Slots W M H (σ.set i x) (δ.set i none) where
  len := by rw [List.length_set, List.length_set]; exact s.len
  get := fun j e h => by
    by_cases hj : i = j
    · subst hj
      rw [List.getElem?_set] at h
      by_cases hl : i < δ.length
      · rw [if_pos rfl, if_pos hl] at h
        cases h
      · rw [if_pos rfl, if_neg hl] at h
        cases h
    · rw [List.getElem?_set, if_neg hj] at h
      rw [List.getElem?_set, if_neg hj]
      exact s.get j e h
theorem Pre.next {W : Wd} {M : Addr → Prop} {δ : DS} {σ : L2.St} {H H' : Hp} (p : Pre W M δ σ H) (g : StOk W H') (k : Keep W H H') : Pre W M δ σ H' :=
  ⟨p.wf.next g k, p.sl.len, fun i d h => by
    obtain ⟨v, h1, h2⟩ := p.sl.get i d h
    exact ⟨v, h1, h2.keep p.wf k⟩⟩
def wipeD (δ : DS) : List Nat → DS
  | [] => δ
  | v :: vs => (wipeD δ vs).set v none
theorem Slots.wipe {W : Wd} {M : Addr → Prop} {H : Hp} {σ : L2.St} {δ : DS} (s : Slots W M H σ δ) : ∀ vs : List Nat, Slots W M H (L2.wipe σ vs) (wipeD δ vs)
  | [] => s
  | v :: vs => (s.wipe vs).drop v none
def EvD (W : Wd) (te : TE) (δ : DS) (P : D → Prop) : Prop := ∀ (M : Addr → Prop) (σ : L2.St) (H : Hp), Pre W M δ σ H → ∀ Q : VK, (∀ v d H', StOk W H' → Keep W H H' → Rep W M H' v d → P d → Q v H') → te σ H Q
def EvT (W : Wd) (tt : TT) (δ : DS) (P : Bool → Prop) : Prop := ∀ (M : Addr → Prop) (σ : L2.St) (H : Hp), Pre W M δ σ H → ∀ Q : Bool → Hp → Prop, (∀ b H', StOk W H' → Keep W H H' → P b → Q b H') → tt σ H Q
def EvA (W : Wd) (ta : TA) (δ : DS) (P : List D → Prop) : Prop := ∀ (M : Addr → Prop) (σ : L2.St) (H : Hp), Pre W M δ σ H → ∀ Q : List V → Hp → Prop, (∀ vs ds H', StOk W H' → Keep W H H' → Reps W M H' vs ds → P ds → Q vs H') → ta σ H Q
def RD (W : Wd) (r : R2) (x y : D) (P : D → Prop) : Prop := ∀ (M : Addr → Prop) (H : Hp) (v u : V), Wf W M H → Rep W M H v x → Rep W M H u y → ∀ Q : VK, (∀ z d H', StOk W H' → Keep W H H' → Rep W M H' z d → P d → Q z H') → r v u H Q
def RUD (W : Wd) (r : V → Hp → VK → Prop) (x : D) (P : D → Prop) : Prop := ∀ (M : Addr → Prop) (H : Hp) (v : V), Wf W M H → Rep W M H v x → ∀ Q : VK, (∀ z d H', StOk W H' → Keep W H H' → Rep W M H' z d → P d → Q z H') → r v H Q
def RCD (W : Wd) (r : List V → Hp → VK → Prop) (xs : List D) (P : D → Prop) : Prop := ∀ (M : Addr → Prop) (H : Hp) (vs : List V), Wf W M H → Reps W M H vs xs → ∀ Q : VK, (∀ z d H', StOk W H' → Keep W H H' → Rep W M H' z d → P d → Q z H') → r vs H Q
section
variable {W : Wd} {δ : DS} {P : D → Prop} {ta tb te : TE} {t u : TT}
theorem ev_mono {P' : D → Prop} (h : EvD W te δ P) (k : ∀ d, P d → P' d) : EvD W te δ P' := fun M σ H p Q q => h M σ H p Q fun v d H' g kp r hP => q v d H' g kp r (k d hP)
theorem ev_var {i : Nat} {d : D} (h : δ[i]? = some (some d)) (hP : P d) : EvD W (tVar i) δ P := fun M σ H p Q q => by
  obtain ⟨v, h1, h2⟩ := p.sl.get i d h
  exact ⟨v, h1, q v d H p.wf.g (Keep.refl H) h2 hP⟩
theorem ev_c {v : V} {d : D} (hr : ∀ M H, Rep W M H v d) (hP : P d) : EvD W (tC v) δ P := fun M σ H p Q q => q v d H p.wf.g (Keep.refl H) (hr M H) hP
theorem ev_int {i : Int} (hP : P (.int i)) : EvD W (tC (.int i)) δ P := ev_c (fun _ _ => .int i) hP
theorem ev_bl {b : Bool} (hP : P (.bl b)) : EvD W (tC (.bl b)) δ P := ev_c (fun _ _ => .bl b) hP
theorem ev_non (hP : P .non) : EvD W (tC .non) δ P := ev_c (fun _ _ => .non) hP
theorem ev_str {x : Str} (hP : P (.str x)) : EvD W (tC (.str x)) δ P := ev_c (fun _ _ => .str x) hP
theorem ev_ty {n : String} (hP : P (.ty n)) : EvD W (tC (.ty n)) δ P := ev_c (fun _ _ => .ty n) hP
theorem ev_op {r : R2} (h : EvD W ta δ fun x => EvD W tb δ fun y => RD W r x y P) : EvD W (tOp r ta tb) δ P := fun M σ H p Q q =>
  h M σ H p _ fun v x H1 g1 k1 r1 h1 => h1 M σ H1 (p.next g1 k1) _ fun u y H2 g2 k2 r2 h2 =>
    h2 M H2 v u ((p.wf.next g1 k1).next g2 k2) (r1.keep (p.wf.next g1 k1) k2) r2 Q fun z d H3 g3 k3 r3 h3 => q z d H3 g3 ((k1.trans k2).trans k3) r3 h3
theorem ev_un {r : V → Hp → VK → Prop} (h : EvD W ta δ fun x => RUD W r x P) : EvD W (tUn r ta) δ P := fun M σ H p Q q =>
  h M σ H p _ fun v x H1 g1 k1 r1 h1 => h1 M H1 v (p.wf.next g1 k1) r1 Q fun z d H3 g3 k3 r3 h3 => q z d H3 g3 (k1.trans k3) r3 h3
theorem ev_chain {r r' : R2} {tc : TE} (h : EvD W ta δ fun x => EvD W tb δ fun y => RD W r x y fun z => ∃ k, z = .bl k ∧ (k = true → EvD W tc δ fun c => RD W r' y c P) ∧ (k = false → P (.bl false))) : EvD W (tChain r r' ta tb tc) δ P := fun M σ H p Q q =>
  h M σ H p _ fun v x H1 g1 k1 r1 h1 => h1 M σ H1 (p.next g1 k1) _ fun u y H2 g2 k2 r2 h2 =>
    h2 M H2 v u ((p.wf.next g1 k1).next g2 k2) (r1.keep (p.wf.next g1 k1) k2) r2 _ fun z d H3 g3 k3 r3 h3 => by
      obtain ⟨k, rfl, hT, hF⟩ := h3
      cases r3
      refine ⟨k, rfl, ?_⟩
      have p3 := ((p.next g1 k1).next g2 k2).next g3 k3
      cases k with
      | true =>
        rw [if_pos rfl]
        exact hT rfl M σ H3 p3 _ fun w c H4 g4 k4 r4 h4 => h4 M H4 u w (p3.wf.next g4 k4) ((r2.keep ((p.wf.next g1 k1).next g2 k2) k3).keep p3.wf k4) r4 Q fun z d H5 g5 k5 r5 h5 => q z d H5 g5 ((((k1.trans k2).trans k3).trans k4).trans k5) r5 h5
      | false =>
        rw [if_neg Bool.false_ne_true]
        exact q _ _ H3 g3 ((k1.trans k2).trans k3) (.bl false) (hF rfl)
theorem ev_andV (h : EvD W ta δ fun x => ∃ b, x = .bl b ∧ (b = true → EvD W tb δ P) ∧ (b = false → P (.bl false))) : EvD W (tAndV ta tb) δ P := fun M σ H p Q q =>
  h M σ H p _ fun v x H1 g1 k1 r1 h1 => by
    obtain ⟨b, rfl, hT, hF⟩ := h1
    cases r1
    refine ⟨b, rfl, ?_⟩
    cases b with
    | true =>
      rw [if_pos rfl]
      exact hT rfl M σ H1 (p.next g1 k1) Q fun z d H3 g3 k3 r3 h3 => q z d H3 g3 (k1.trans k3) r3 h3
    | false =>
      rw [if_neg Bool.false_ne_true]
      exact q _ _ H1 g1 k1 (.bl false) (hF rfl)
theorem ev_orV (h : EvD W ta δ fun x => ∃ b, x = .bl b ∧ (b = false → EvD W tb δ P) ∧ (b = true → P (.bl true))) : EvD W (tOrV ta tb) δ P := fun M σ H p Q q =>
  h M σ H p _ fun v x H1 g1 k1 r1 h1 => by
    obtain ⟨b, rfl, hF, hT⟩ := h1
    cases r1
    refine ⟨b, rfl, ?_⟩
    cases b with
    | false =>
      rw [if_neg Bool.false_ne_true]
      exact hF rfl M σ H1 (p.next g1 k1) Q fun z d H3 g3 k3 r3 h3 => q z d H3 g3 (k1.trans k3) r3 h3
    | true =>
      rw [if_pos rfl]
      exact q _ _ H1 g1 k1 (.bl true) (hT rfl)
theorem ev_notV (h : EvD W ta δ fun x => ∃ b, x = .bl b ∧ P (.bl (!b))) : EvD W (tNotV ta) δ P := fun M σ H p Q q =>
  h M σ H p _ fun v x H1 g1 k1 r1 h1 => by
    obtain ⟨b, rfl, hP⟩ := h1
    cases r1
    exact ⟨b, rfl, q _ _ H1 g1 k1 (.bl _) hP⟩
theorem ev_if (h : EvT W t δ fun b => (b = true → EvD W ta δ P) ∧ (b = false → EvD W tb δ P)) : EvD W (tIf t ta tb) δ P := fun M σ H p Q q =>
  h M σ H p _ fun b H1 g1 k1 h1 => by
    cases b with
    | true =>
      rw [if_pos rfl]
      exact h1.1 rfl M σ H1 (p.next g1 k1) Q fun z d H3 g3 k3 r3 h3 => q z d H3 g3 (k1.trans k3) r3 h3
    | false =>
      rw [if_neg Bool.false_ne_true]
      exact h1.2 rfl M σ H1 (p.next g1 k1) Q fun z d H3 g3 k3 r3 h3 => q z d H3 g3 (k1.trans k3) r3 h3
theorem et_B {P : Bool → Prop} (h : EvD W te δ fun x => ∃ b, x = .bl b ∧ P b) : EvT W (tB te) δ P := fun M σ H p Q q => h M σ H p _ fun v x H1 g1 k1 r1 h1 => by
  obtain ⟨b, rfl, hP⟩ := h1
  cases r1
  exact ⟨b, rfl, q b H1 g1 k1 hP⟩
theorem et_test {P : Bool → Prop} (h : EvD W te δ fun x => ∃ b, x = .bl b ∧ P b) : EvT W (tTest te) δ P := et_B h
theorem et_and {P : Bool → Prop} (h : EvT W t δ fun b => (b = true → EvT W u δ P) ∧ (b = false → P false)) : EvT W (tAnd t u) δ P := fun M σ H p Q q =>
  h M σ H p _ fun b H1 g1 k1 h1 => by
    cases b with
    | true =>
      rw [if_pos rfl]
      exact h1.1 rfl M σ H1 (p.next g1 k1) Q fun c H3 g3 k3 h3 => q c H3 g3 (k1.trans k3) h3
    | false =>
      rw [if_neg Bool.false_ne_true]
      exact q _ H1 g1 k1 (h1.2 rfl)
theorem et_or {P : Bool → Prop} (h : EvT W t δ fun b => (b = false → EvT W u δ P) ∧ (b = true → P true)) : EvT W (tOr t u) δ P := fun M σ H p Q q =>
  h M σ H p _ fun b H1 g1 k1 h1 => by
    cases b with
    | false =>
      rw [if_neg Bool.false_ne_true]
      exact h1.1 rfl M σ H1 (p.next g1 k1) Q fun c H3 g3 k3 h3 => q c H3 g3 (k1.trans k3) h3
    | true =>
      rw [if_pos rfl]
      exact q _ H1 g1 k1 (h1.2 rfl)
theorem et_not {P : Bool → Prop} (h : EvT W t δ fun b => P (!b)) : EvT W (tNot t) δ P := fun M σ H p Q q => h M σ H p _ fun b H1 g1 k1 h1 => q (!b) H1 g1 k1 h1
theorem ea_nil {P : List D → Prop} (h : P []) : EvA W tNil δ P := fun M σ H p Q q => q [] [] H p.wf.g (Keep.refl H) .nil h
theorem ea_cons {P : List D → Prop} {tr : TA} (h : EvD W te δ fun x => EvA W tr δ fun xs => P (x :: xs)) : EvA W (tCons te tr) δ P := fun M σ H p Q q =>
  h M σ H p _ fun v x H1 g1 k1 r1 h1 => h1 M σ H1 (p.next g1 k1) _ fun vs xs H2 g2 k2 r2 h2 => q (v :: vs) (x :: xs) H2 g2 (k1.trans k2) (.cons (r1.keep (p.wf.next g1 k1) k2) r2) h2
theorem ev_cb {r : List V → Hp → VK → Prop} {tr : TA} (h : EvA W tr δ fun xs => RCD W r xs P) : EvD W (tCB r tr) δ P := fun M σ H p Q q =>
  h M σ H p _ fun vs xs H1 g1 k1 r1 h1 => h1 M H1 vs (p.wf.next g1 k1) r1 Q fun z d H2 g2 k2 r2 h2 => q z d H2 g2 (k1.trans k2) r2 h2
theorem len_ok {n : Nat} (h : n ≤ 100000) : n ≤ sizeLine := Nat.le_trans h (by decide)
theorem newT {M : Addr → Prop} {H : Hp} {p : Addr} {vs : List V} {ds : List D} (w : Wf W M H) (r : Reps W M H vs ds) (hp : H p = none) : StOk W (upd H p (.tup vs)) ∧ Keep W H (upd H p (.tup vs)) ∧ Rep W M (upd H p (.tup vs)) (.ref p) (.tup ds) :=
  ⟨w.g.new hp, Keep.new hp, .tup (SqT.of upd_same) (r.keep w (Keep.new hp))⟩
theorem newL {M : Addr → Prop} {H : Hp} {p : Addr} {vs : List V} {ds : List D} (w : Wf W M H) (r : Reps W M H vs ds) (hp : H p = none) : StOk W (upd H p (.lst vs)) ∧ Keep W H (upd H p (.lst vs)) ∧ Rep W M (upd H p (.lst vs)) (.ref p) (.lst ds) :=
  ⟨w.g.new hp, Keep.new hp, .lst (fun m => by
    obtain ⟨o, ho⟩ := w.dom p m
    rw [hp] at ho
    cases ho) upd_same (r.keep w (Keep.new hp))⟩
theorem ev_tup {tr : TA} (h : EvA W tr δ fun xs => xs.length ≤ 100000 ∧ P (.tup xs)) : EvD W (tTup tr) δ P := fun M σ H p Q q =>
  h M σ H p _ fun vs xs H1 g1 k1 r1 ⟨hl, hP⟩ => ⟨len_ok (by rw [r1.length]; exact hl), fun a ha => by
    obtain ⟨x1, x2, x3⟩ := newT (p.wf.next g1 k1) r1 ha
    exact q _ _ _ x1 (k1.trans x2) x3 hP⟩
theorem ev_lst {tr : TA} (h : EvA W tr δ fun xs => xs.length ≤ 100000 ∧ P (.lst xs)) : EvD W (tLst tr) δ P := fun M σ H p Q q =>
  h M σ H p _ fun vs xs H1 g1 k1 r1 ⟨hl, hP⟩ => ⟨len_ok (by rw [r1.length]; exact hl), fun a ha => by
    obtain ⟨x1, x2, x3⟩ := newL (p.wf.next g1 k1) r1 ha
    exact q _ _ _ x1 (k1.trans x2) x3 hP⟩
theorem rd_I0 {f : Int → Int → Int} {i j : Int} (h : P (.int (f i j))) : RD W (rI0 fun i j => .int (f i j)) (.int i) (.int j) P := fun M H v u w r1 r2 Q q => by
  cases r1
  cases r2
  exact ⟨i, j, rfl, rfl, q _ _ H w.g (Keep.refl H) (.int _) h⟩
theorem rd_I0b {f : Int → Int → Bool} {i j : Int} (h : P (.bl (f i j))) : RD W (rI0 fun i j => .bl (f i j)) (.int i) (.int j) P := fun M H v u w r1 r2 Q q => by
  cases r1
  cases r2
  exact ⟨i, j, rfl, rfl, q _ _ H w.g (Keep.refl H) (.bl _) h⟩
theorem rd_I {C : Int → Int → Prop} {f : Int → Int → Int} {i j : Int} (hc : C i j) (h : P (.int (f i j))) : RD W (rI C fun i j => .int (f i j)) (.int i) (.int j) P := fun M H v u w r1 r2 Q q => by
  cases r1
  cases r2
  exact ⟨i, j, rfl, rfl, hc, q _ _ H w.g (Keep.refl H) (.int _) h⟩
theorem ru_I {f : Int → Int} {i : Int} (h : P (.int (f i))) : RUD W (rU fun i => .int (f i)) (.int i) P := fun M H v w r1 Q q => by
  cases r1
  exact ⟨i, rfl, q _ _ H w.g (Keep.refl H) (.int _) h⟩
theorem atI_D {M : Addr → Prop} {H : Hp} {vs : List V} {ds : List D} {i : Int} {j : Nat} {d : D} (r : Reps W M H vs ds) (hi : i = (j : Int)) (h : ds[j]? = some d) : ∃ v, atI vs i = some v ∧ Rep W M H v d := by
  obtain ⟨v, h1, h2⟩ := r.get h
  exact ⟨v, at_of hi h1, h2⟩
/-- x[i], i from the left -/
theorem rd_ixT {i : Int} {j : Nat} {ds : List D} {d : D} (hi : i = (j : Int)) (h : ds[j]? = some d) (hP : P d) : RD W (rIx W.K) (.tup ds) (.int i) P := fun M H v u w r1 r2 Q q => by
  cases r1 with
  | tup hs hr =>
    cases r2
    obtain ⟨x, h1, h2⟩ := atI_D hr hi h
    exact .inr (.inl ⟨_, _, i, x, rfl, rfl, hs, h1, q x d H w.g (Keep.refl H) h2 hP⟩)
theorem rd_ixL {i : Int} {j : Nat} {ds : List D} {d : D} (hi : i = (j : Int)) (h : ds[j]? = some d) (hP : P d) : RD W (rIx W.K) (.lst ds) (.int i) P := fun M H v u w r1 r2 Q q => by
  cases r1 with
  | lst hn hs hr =>
    cases r2
    obtain ⟨x, h1, h2⟩ := atI_D hr hi h
    exact .inl ⟨_, _, i, x, rfl, rfl, .inl (.inl hs), h1, q x d H w.g (Keep.refl H) h2 hP⟩
theorem rc_lenT {ds : List D} (h : P (.int (ds.length : Int))) : RCD W (fun xs H Q => ∃ x n, xs = [x] ∧ LenV W.K x H n ∧ Q (.int n) H) [.tup ds] P := fun M H vs w r Q q => by
  cases r with
  | cons r1 r2 =>
    cases r2
    cases r1 with
    | tup hs hr => exact ⟨_, _, rfl, .inr ⟨_, hs, rfl⟩, q _ _ H w.g (Keep.refl H) (.int _) (by rw [hr.length]; exact h)⟩
theorem rc_lenL {ds : List D} (h : P (.int (ds.length : Int))) : RCD W (fun xs H Q => ∃ x n, xs = [x] ∧ LenV W.K x H n ∧ Q (.int n) H) [.lst ds] P := fun M H vs w r Q q => by
  cases r with
  | cons r1 r2 =>
    cases r2
    cases r1 with
    | lst hn hs hr => exact ⟨_, _, rfl, .inl ⟨_, .inl (.inl hs), rfl⟩, q _ _ H w.g (Keep.refl H) (.int _) (by rw [hr.length]; exact h)⟩
theorem rc_abs {i : Int} (h : P (.int (if i < 0 then -i else i))) : RCD W (fun xs H Q => ∃ i, xs = [.int i] ∧ Q (.int (if i < 0 then -i else i)) H) [.int i] P := fun M H vs w r Q q => by
  cases r with
  | cons r1 r2 =>
    cases r2
    cases r1
    exact ⟨i, rfl, q _ _ H w.g (Keep.refl H) (.int _) h⟩
theorem rc_int1 {i : Int} (h : P (.int i)) : RCD W (fun xs H Q => (∃ i, xs = [.int i] ∧ Q (.int i) H) ∨ ∃ k, xs = [.bl k] ∧ Q (.int (if k then 1 else 0)) H) [.int i] P := fun M H vs w r Q q => by
  cases r with
  | cons r1 r2 =>
    cases r2
    cases r1
    exact .inl ⟨i, rfl, q _ _ H w.g (Keep.refl H) (.int _) h⟩
theorem rc_gcd {i j : Int} (h : P (.int ((Nat.gcd i.natAbs j.natAbs : Nat) : Int))) : RCD W rGcd [.int i, .int j] P := fun M H vs w r Q q => by
  cases r with
  | cons r1 r2 =>
    cases r2 with
    | cons r2 r3 =>
      cases r3
      cases r1
      cases r2
      exact ⟨i, j, rfl, q _ _ H w.g (Keep.refl H) (.int _) h⟩
theorem rc_tupL {ds : List D} (h : P (.tup ds)) : RCD W (fun xs H Q => ∃ p ys, xs = [.ref p] ∧ ((SqL W.K H p ys ∧ ∀ l, H l = none → Q (.ref l) (upd H l (.tup ys))) ∨ (SqT W.K H p ys ∧ Q (.ref p) H))) [.lst ds] P := fun M H vs w r Q q => by
  cases r with
  | cons r1 r2 =>
    cases r2
    cases r1 with
    | lst hn hs hr =>
      refine ⟨_, _, rfl, .inl ⟨.inl (.inl hs), fun l hl => ?_⟩⟩
      obtain ⟨x1, x2, x3⟩ := newT w hr hl
      exact q _ _ _ x1 x2 x3 h
theorem reps_bls {M : Addr → Prop} {H : Hp} : ∀ {bs : List Bool} {vs : List V}, Reps W M H vs (bs.map D.bl) → vs = bs.map V.bl
  | [], _, .nil => rfl
  | b :: bs, _, .cons r t => by
    cases r
    rw [reps_bls t]
    rfl
theorem rc_all {bs : List Bool} (h : P (.bl (bs.all id))) : RCD W (rAll W.K) [.lst (bs.map D.bl)] P := fun M H vs w r Q q => by
  cases r with
  | cons r1 r2 =>
    cases r2
    cases r1 with
    | lst hn hs hr =>
      have e := reps_bls hr
      subst e
      exact ⟨_, bs, rfl, .inl (.inl hs), q _ _ H w.g (Keep.refl H) (.bl _) h⟩
def rOr (r r' : R2) : R2 := fun x y H Q => r x y H Q ∨ r' x y H Q
theorem opOr {X : Cx} {f : Value → Value → Sem Value} {r r' : R2} (h : OpR X f r) (h' : OpR X f r') : OpR X f (rOr r r') := by
  intro pins s σ H x y v u Q I rx ry z
  rcases z with z | z
  · exact h pins s σ H x y v u Q I rx ry z
  · exact h' pins s σ H x y v u Q I rx ry z
theorem rd_orl {r r' : R2} {x y : D} (h : RD W r x y P) : RD W (rOr r r') x y P := fun M H v u w r1 r2 Q q => .inl (h M H v u w r1 r2 Q q)
theorem rd_orr {r r' : R2} {x y : D} (h : RD W r' x y P) : RD W (rOr r r') x y P := fun M H v u w r1 r2 Q q => .inr (h M H v u w r1 r2 Q q)
abbrev rAddI : R2 := rI0 fun i j => .int (i + j)
theorem rd_catL {xs ys : List D} (hl : xs.length + ys.length ≤ 100000) (h : P (.lst (xs ++ ys))) : RD W rCat (.lst xs) (.lst ys) P := fun M H v u w r1 r2 Q q => by
  cases r1 with
  | lst n1 h1 q1 =>
    cases r2 with
    | lst n2 h2 q2 =>
      refine ⟨_, _, _, _, rfl, rfl, h1, h2, len_ok (by rw [q1.length, q2.length]; exact hl), fun p hp => ?_⟩
      obtain ⟨x1, x2, x3⟩ := newL w (q1.append q2) hp
      exact q _ _ _ x1 x2 x3 h
theorem rd_catT {xs ys : List D} (hl : xs.length + ys.length ≤ 100000) (h : P (.tup (xs ++ ys))) : RD W (rCatA W.K) (.tup xs) (.tup ys) P := fun M H v u w r1 r2 Q q => by
  cases r1 with
  | tup h1 q1 =>
    cases r2 with
    | tup h2 q2 =>
      refine ⟨_, _, _, _, rfl, rfl, h1, h2, len_ok (by rw [q1.length, q2.length]; exact hl), fun e => ?_, fun _ e => ?_, fun _ _ p hp => ?_⟩
      · subst e
        cases q1
        exact q _ (.tup ys) H w.g (Keep.refl H) (.tup h2 q2) h
      · subst e
        cases q2
        rw [List.append_nil] at h
        exact q _ (.tup xs) H w.g (Keep.refl H) (.tup h1 q1) h
      · obtain ⟨x1, x2, x3⟩ := newT w (q1.append q2) hp
        exact q _ _ _ x1 x2 x3 h
def rPlus (K : PySem.W.Frag) : R2 := rOr rAddI (rOr rCat (rCatA K))
theorem op_plus {X : Cx} : OpR X (binaryOp .Add) (rPlus X.K) := opOr op_add (opOr op_cat op_catA)
theorem rd_plusI {i j : Int} (h : P (.int (i + j))) : RD W (rPlus W.K) (.int i) (.int j) P := rd_orl (rd_I0 h)
theorem rd_plusL {xs ys : List D} (hl : xs.length + ys.length ≤ 100000) (h : P (.lst (xs ++ ys))) : RD W (rPlus W.K) (.lst xs) (.lst ys) P := rd_orr (rd_orl (rd_catL hl h))
theorem rd_plusT {xs ys : List D} (hl : xs.length + ys.length ≤ 100000) (h : P (.tup (xs ++ ys))) : RD W (rPlus W.K) (.tup xs) (.tup ys) P := rd_orr (rd_orr (rd_catT hl h))
/-- types by their names -/
def D.tyName : D → Option String
  | .non => some "NoneType"
  | .bl _ => some "bool"
  | .int _ => some "int"
  | .str _ => some "str"
  | .tup _ => some "tuple"
  | .lst _ => some "list"
  | .dct => some "dict"
  | .dic _ _ => some "dict"
  | _ => none
def D.isInt : D → Bool
  | .int _ => true
  | _ => false
theorem tyx {M : Addr → Prop} {H : Hp} {v : V} {d : D} {n : String} (r : Rep W M H v d) (h : d.tyName = some n) : TyX W.K H v (.type n) := by
  cases r with
  | non => cases h; exact .base .non
  | bl b => cases h; exact .base (.bl b)
  | int i => cases h; exact .base (.int i)
  | str x => cases h; exact .base (.str x)
  | ty m => cases h
  | tup hs hr =>
    cases h
    rcases hs with (hs | ⟨o, hs⟩) | ⟨o, its, m, e, c, _⟩
    · exact .base (.tup hs)
    · exact .fTuple hs
    · exact .kTuple e c
  | lst hn hs hr =>
    cases h
    exact .base (.lst hs)
  | st e => cases h
  | obj a => cases h
  | dct n e => cases h; exact .base (.dK e)
  | ins n e _ _ => cases h
  | exc n e _ _ => cases h
  | xob0 => cases h
  | xob => cases h
  | dic n e _ _ => cases h; exact .base (.dK e)
  | dik n e _ _ _ => cases h
theorem rc_isi {x : D} {n m : String} {b : Bool} (hx : x.tyName = some m) (hk : kitB m n = some b) (h : P (.bl b)) : RCD W (rIsi W.K) [x, .ty n] P := fun M H vs w r Q q => by
  cases r with
  | cons r1 r2 =>
    cases r2 with
    | cons r2 r3 =>
      cases r3
      cases r2
      exact ⟨_, _, _, _, b, rfl, .ty n, tyx r1 hx, kit_ty hk, q _ _ H w.g (Keep.refl H) (.bl b) h⟩
def D.isBl : D → Bool
  | .bl _ => true
  | _ => false
def D.isTup : D → Bool
  | .tup _ => true
  | _ => false
theorem rc_isiI {x : D} (hx : x.tyName.isSome = true) (h : P (.bl (x.isInt || x.isBl))) : RCD W (rIsi W.K) [x, .ty "int"] P := by
  cases x <;> first | exact rc_isi rfl (b := true) (by decide +kernel) h | exact rc_isi rfl (b := false) (by decide +kernel) h | cases hx
theorem rc_isiB {x : D} (hx : x.tyName.isSome = true) (h : P (.bl x.isBl)) : RCD W (rIsi W.K) [x, .ty "bool"] P := by
  cases x <;> first | exact rc_isi rfl (b := true) (by decide +kernel) h | exact rc_isi rfl (b := false) (by decide +kernel) h | cases hx
theorem rc_isiT {x : D} (hx : x.tyName.isSome = true) (h : P (.bl x.isTup)) : RCD W (rIsi W.K) [x, .ty "tuple"] P := by
  cases x <;> first | exact rc_isi rfl (b := true) (by decide +kernel) h | exact rc_isi rfl (b := false) (by decide +kernel) h | cases hx
theorem exb_t {c : Bool} {A B : Prop} (hc : c = true) (h : A) : ∃ b, D.bl c = D.bl b ∧ (b = true → A) ∧ (b = false → B) := ⟨c, rfl, fun _ => h, fun z => by rw [hc] at z; cases z⟩
theorem exb_f {c : Bool} {A B : Prop} (hc : c = false) (h : B) : ∃ b, D.bl c = D.bl b ∧ (b = true → A) ∧ (b = false → B) := ⟨c, rfl, fun z => (by rw [hc] at z; cases z), fun _ => h⟩
theorem exo_f {c : Bool} {A B : Prop} (hc : c = false) (h : A) : ∃ b, D.bl c = D.bl b ∧ (b = false → A) ∧ (b = true → B) := ⟨c, rfl, fun _ => h, fun z => by rw [hc] at z; cases z⟩
theorem exo_t {c : Bool} {A B : Prop} (hc : c = true) (h : B) : ∃ b, D.bl c = D.bl b ∧ (b = false → A) ∧ (b = true → B) := ⟨c, rfl, fun z => (by rw [hc] at z; cases z), fun _ => h⟩
theorem bt {c : Bool} {A B : Prop} (hc : c = true) (h : A) : (c = true → A) ∧ (c = false → B) := ⟨fun _ => h, fun z => by rw [hc] at z; cases z⟩
theorem bf {c : Bool} {A B : Prop} (hc : c = false) (h : B) : (c = true → A) ∧ (c = false → B) := ⟨fun z => (by rw [hc] at z; cases z), fun _ => h⟩
theorem bof {c : Bool} {A B : Prop} (hc : c = false) (h : A) : (c = false → A) ∧ (c = true → B) := ⟨fun _ => h, fun z => by rw [hc] at z; cases z⟩
theorem bot {c : Bool} {A B : Prop} (hc : c = true) (h : B) : (c = false → A) ∧ (c = true → B) := ⟨fun z => (by rw [hc] at z; cases z), fun _ => h⟩
theorem exb {c : Bool} {A : Bool → Prop} (h : A c) : ∃ b, D.bl c = D.bl b ∧ A b := ⟨c, rfl, h⟩
mutual
def D.py : D → PyData
  | .non => .none
  | .bl b => .bool b
  | .int i => .int i
  | .str x => .str x
  | .tup xs => .tuple (D.pys xs)
  | .lst xs => .list (D.pys xs)
  | _ => .dict []
def D.pys : List D → List PyData
  | [] => []
  | x :: xs => x.py :: D.pys xs
end
mutual
def D.plain : D → Bool
  | .non | .bl _ | .int _ | .str _ => true
  | .tup xs | .lst xs => D.plains xs
  | _ => false
def D.plains : List D → Bool
  | [] => true
  | x :: xs => x.plain && D.plains xs
end
mutual
theorem dp_of {M : Addr → Prop} {H : Hp} : ∀ {v : V} {d : D}, Rep W M H v d → d.plain = true → Dp W.K H v d.py
  | _, _, .non, _ => by unfold D.py; exact .non
  | _, _, .bl b, _ => by unfold D.py; exact .bl b
  | _, _, .int i, _ => by unfold D.py; exact .int i
  | _, _, .str x, _ => by unfold D.py; exact .str x
  | _, _, .ty n, h => by simp [D.plain] at h
  | _, _, .tup hs r, h => by
    unfold D.py
    exact .tup hs (dps_of r (by simpa [D.plain] using h))
  | _, _, .lst hn hs r, h => by
    unfold D.py
    exact .lst (.inl (.inl hs)) (dps_of r (by simpa [D.plain] using h))
  | _, _, .st e, h => by simp [D.plain] at h
  | _, _, .obj a, h => by simp [D.plain] at h
  | _, _, .dct _ _, h => by simp [D.plain] at h
  | _, _, .ins _ _ _ _, h => by simp [D.plain] at h
  | _, _, .exc _ _ _ _, h => by simp [D.plain] at h
  | _, _, .xob0 _ _, h => by simp [D.plain] at h
  | _, _, .xob _ _ _ _ _ _, h => by simp [D.plain] at h
  | _, _, .dic _ _ _ _, h => by simp [D.plain] at h
  | _, _, .dik _ _ _ _ _, h => by simp [D.plain] at h
theorem dps_of {M : Addr → Prop} {H : Hp} : ∀ {vs : List V} {ds : List D}, Reps W M H vs ds → D.plains ds = true → DpAll W.K H vs (D.pys ds)
  | _, _, .nil, _ => by unfold D.pys; exact .nil
  | _, _, .cons r t, h => by
    simp only [D.plains, Bool.and_eq_true] at h
    unfold D.pys
    exact .cons (dp_of r h.1) (dps_of t h.2)
end
/-- what == tells of two data -/
def D.eqv (x y : D) : Bool := PyData.eqv x.py y.py
def D.fine (x : D) : Bool := x.plain && SeqAt.shaped x.py
theorem rd_eqD {x y : D} (hx : x.fine = true) (hy : y.fine = true) (h : P (.bl (x.eqv y))) : RD W (rEqD W.K) x y P := fun M H v u w r1 r2 Q q => by
  have h1 := (Bool.and_eq_true_iff.mp hx)
  have h2 := (Bool.and_eq_true_iff.mp hy)
  exact ⟨_, _, dp_of r1 h1.1, dp_of r2 h2.1, h1.2, h2.2, q _ _ H w.g (Keep.refl H) (.bl _) h⟩
theorem rd_neD {x y : D} (hx : x.fine = true) (hy : y.fine = true) (h : P (.bl (!x.eqv y))) : RD W (rNeD W.K) x y P := fun M H v u w r1 r2 Q q => by
  have h1 := (Bool.and_eq_true_iff.mp hx)
  have h2 := (Bool.and_eq_true_iff.mp hy)
  exact ⟨_, _, dp_of r1 h1.1, dp_of r2 h2.1, h1.2, h2.2, q _ _ H w.g (Keep.refl H) (.bl _) h⟩
theorem eqvI (i j : Int) : D.eqv (.int i) (.int j) = decide (i = j) := by
  show PyData.eqv (D.py (.int i)) (D.py (.int j)) = _
  simp only [D.py, PyData.eqv]
  rfl
theorem fineI (i : Int) : D.fine (.int i) = true := by
  simp [D.fine, D.plain, D.py, SeqAt.shaped, PyData.canLay0, PyData.depth]
theorem rd_eqI {i j : Int} (h : P (.bl (decide (i = j)))) : RD W (rEqD W.K) (.int i) (.int j) P := rd_eqD (fineI i) (fineI j) (by rw [eqvI]; exact h)
theorem rd_neI {i j : Int} (h : P (.bl (!decide (i = j)))) : RD W (rNeD W.K) (.int i) (.int j) P := rd_neD (fineI i) (fineI j) (by rw [eqvI]; exact h)
end
end PD
namespace PD
open PySem PySem.Spec PyProof.Rows L2
open RZ (iZipA ItzT)
structure Ent (W : Wd) (M0 : Addr → Prop) (H0 : Hp) (M : Addr → Prop) (H : Hp) : Prop where
  k : Keep W H0 H
  m : ∀ a, M0 a → M a
  new : ∀ a, M a → ¬ M0 a → H0 a = none
/-- an exception by its class and what its own dict holds -/
abbrev XV := Addr × List (Str × D)
def XRep (W : Wd) (M : Addr → Prop) (H : Hp) (cls : Value) (d : Option Addr) (x : XV) : Prop := cls = .ref x.1 ∧ match d with
  | none => x.2 = []
  | some dx => x.2 ≠ [] ∧ ∃ fs : List (Str × V), ¬ M dx ∧ H dx = some (.xd fs) ∧ fs.map (·.1) = x.2.map (·.1) ∧ Reps W M H (fs.map (·.2)) (x.2.map (·.2))
abbrev WF : WX := fun _ _ _ _ => False
abbrev XN : XV → DS → Prop := fun _ _ => False
structure Outs (W : Wd) (Wx : WX) (M0 : Addr → Prop) (H0 : Hp) (N : DS → Prop) (R : D → Prop) (B C : DS → Prop) (X : XV → DS → Prop) (E : Ends) : Prop where
  nx : ∀ M σ δ H, Pre W M δ σ H → Ent W M0 H0 M H → N δ → E.nx σ H
  rt : ∀ v d H, StOk W H → Keep W H0 H → Rep W M0 H v d → R d → E.rt v H
  bk : ∀ M σ δ H, Pre W M δ σ H → Ent W M0 H0 M H → B δ → E.bk σ H
  ct : ∀ M σ δ H, Pre W M δ σ H → Ent W M0 H0 M H → C δ → E.ct σ H
  xw : ∀ M σ δ H cls d x, Pre W M δ σ H → Ent W M0 H0 M H → XRep W M H cls d x → X x δ → Wx cls d σ H
def SX (W : Wd) (Wx : WX) (ts : TS) (δ : DS) (N : DS → Prop) (R : D → Prop) (B C : DS → Prop) (X : XV → DS → Prop) : Prop :=
  ∀ (M0 : Addr → Prop) (H0 : Hp) (M : Addr → Prop) (σ : L2.St) (H : Hp) (E : Ends), Pre W M δ σ H → Ent W M0 H0 M H → Outs W Wx M0 H0 N R B C X E → ts E σ H
abbrev SD (W : Wd) (ts : TS) (δ : DS) (N : DS → Prop) (R : D → Prop) (B C : DS → Prop) : Prop := SX W WF ts δ N R B C XN
theorem Ent.next {W : Wd} {M0 M : Addr → Prop} {H0 H H' : Hp} (e : Ent W M0 H0 M H) (k : Keep W H H') : Ent W M0 H0 M H' := ⟨e.k.trans k, e.m, e.new⟩
section
variable {W : Wd} {Wx : WX} {X : XV → DS → Prop} {δ : DS} {N : DS → Prop} {R : D → Prop} {B C : DS → Prop} {te tl : TE} {t : TT} {ts tu : TS} {g : TG}
theorem XRep.anti {W : Wd} {M M' : Addr → Prop} {H : Hp} {cls : Value} {d : Option Addr} {x : XV} (m : ∀ a, M' a → M a) (h : XRep W M H cls d x) : XRep W M' H cls d x := by
  obtain ⟨h1, h2⟩ := h
  refine ⟨h1, ?_⟩
  cases d with
  | none => exact h2
  | some dx =>
    obtain ⟨ne, fs, h6, h3, h5, h4⟩ := h2
    exact ⟨ne, fs, fun z => h6 (m _ z), h3, h5, h4.anti m⟩
theorem sd_seq (h : SX W Wx ts δ (fun δ' => SX W Wx tu δ' N R B C X) R B C X) : SX W Wx (tSeq ts tu) δ N R B C X := fun M0 H0 M σ H E p e o =>
  h M0 H0 M σ H { E with nx := tu E } p e ⟨fun M' σ' δ' H' p' e' hN => hN M0 H0 M' σ' H' E p' e' o, o.rt, o.bk, o.ct, o.xw⟩
theorem sd_next (h : N δ) : SX W Wx tNext δ N R B C X := fun M0 H0 M σ H E p e o => o.nx M σ δ H p e h
theorem sd_asg {i : Nat} (h : EvD W te δ fun d => N (δ.set i (some d))) : SX W Wx (tAsg te (gName i)) δ N R B C X := fun M0 H0 M σ H E p e o =>
  h M σ H p _ fun v d H1 g1 k1 r1 h1 => o.nx M _ _ H1 ⟨p.wf.next g1 k1, (p.next g1 k1).sl.set i r1⟩ (e.next k1) h1
theorem sd_ret (h : EvD W te δ R) : SX W Wx (tRet te) δ N R B C X := fun M0 H0 M σ H E p e o =>
  h M σ H p _ fun v d H1 g1 k1 r1 h1 => o.rt v d H1 g1 (e.k.trans k1) (r1.anti e.m) h1
theorem sd_retN (h : R .non) : SX W Wx tRetN δ N R B C X := fun M0 H0 M σ H E p e o => o.rt .non .non H p.wf.g e.k .non h
theorem sd_drop (h : EvD W te δ fun _ => N δ) : SX W Wx (tDrop te) δ N R B C X := fun M0 H0 M σ H E p e o =>
  h M σ H p _ fun v d H1 g1 k1 r1 h1 => o.nx M σ δ H1 (p.next g1 k1) (e.next k1) h1
theorem sd_if (h : EvT W t δ fun b => (b = true → SX W Wx ts δ N R B C X) ∧ (b = false → SX W Wx tu δ N R B C X)) : SX W Wx (tIfS t ts tu) δ N R B C X := fun M0 H0 M σ H E p e o =>
  h M σ H p _ fun b H1 g1 k1 h1 => by
    cases b with
    | true =>
      rw [if_pos rfl]
      exact h1.1 rfl M0 H0 M σ H1 E (p.next g1 k1) (e.next k1) o
    | false =>
      rw [if_neg Bool.false_ne_true]
      exact h1.2 rfl M0 H0 M σ H1 E (p.next g1 k1) (e.next k1) o
theorem sd_mono {N' : DS → Prop} {R' : D → Prop} (h : SX W Wx ts δ N R B C X) (hN : ∀ δ', N δ' → N' δ') (hR : ∀ d, R d → R' d) : SX W Wx ts δ N' R' B C X := fun M0 H0 M σ H E p e o =>
  h M0 H0 M σ H E p e ⟨fun M' σ' δ' H' p' e' x => o.nx M' σ' δ' H' p' e' (hN _ x), fun v d H' g k r x => o.rt v d H' g k r (hR _ x), o.bk, o.ct, o.xw⟩
/-- a word between a statement and what follows it -/
theorem sd_cut (Mid : DS → Prop) (h : SX W Wx ts δ Mid R B C X) (k : ∀ δ', Mid δ' → SX W Wx tu δ' N R B C X) : SX W Wx (tSeq ts tu) δ N R B C X := sd_seq (sd_mono h k fun _ x => x)
/-- a, b = x, y -/
theorem sd_par {i j : Nat} {ta : TA} (h : EvA W ta δ fun xs => ∃ x y, xs = [x, y] ∧ N ((δ.set i (some x)).set j (some y))) : SX W Wx (tPar i j ta) δ N R B C X := fun M0 H0 M σ H E p e o =>
  h M σ H p _ fun vs xs H1 g1 k1 r1 h1 => by
    obtain ⟨x, y, rfl, hN⟩ := h1
    cases r1 with
    | cons r1 r2 =>
      cases r2 with
      | cons r2 r3 =>
        cases r3
        exact ⟨_, _, rfl, o.nx M _ _ H1 ⟨p.wf.next g1 k1, ((p.next g1 k1).sl.set i r1).set j r2⟩ (e.next k1) hN⟩
def GD (W : Wd) (g : TG) (d : D) (δ : DS) (js : List Nat) (Nx : DS → Prop) : Prop := ∀ (M : Addr → Prop) (σ : L2.St) (H : Hp) (v : V), Pre W M δ σ H → Rep W M H v d → ∀ Q : L2.St → Hp → Prop,
  (∀ σ' δ', Pre W M δ' σ' H → Nx δ' → (∀ vs : List Nat, (∀ j ∈ js, j ∈ vs) → wipe σ' vs = wipe σ vs) → Q σ' H) → g v σ H Q
theorem wipe_get (σ : L2.St) : ∀ (vs : List Nat) (i : Nat), (wipe σ vs)[i]? = if i ∈ vs ∧ i < σ.length then some none else σ[i]?
  | [], i => by
    unfold wipe
    rw [if_neg (by simp)]
  | v :: vs, i => by
    unfold wipe
    rw [List.getElem?_set, wipe_length, wipe_get σ vs i]
    by_cases hv : v = i
    · subst hv
      by_cases hl : v < σ.length
      · rw [if_pos rfl, if_pos hl, if_pos ⟨by simp, hl⟩]
      · rw [if_pos rfl, if_neg hl, if_neg (fun z => hl z.2)]
        exact (List.getElem?_eq_none (by omega)).symm
    · rw [if_neg hv]
      have e : (i ∈ v :: vs ∧ i < σ.length) ↔ (i ∈ vs ∧ i < σ.length) := by
        constructor
        · rintro ⟨h1, h2⟩
          rcases List.mem_cons.mp h1 with z | z
          · exact absurd z.symm hv
          · exact ⟨z, h2⟩
        · rintro ⟨h1, h2⟩
          exact ⟨List.mem_cons_of_mem _ h1, h2⟩
      by_cases hc : i ∈ vs ∧ i < σ.length
      · rw [if_pos hc, if_pos (e.mpr hc)]
      · rw [if_neg hc, if_neg (fun z => hc (e.mp z))]
theorem wipe_set {σ : L2.St} {j : Nat} {x : Option V} {vs : List Nat} (h : j ∈ vs) : wipe (σ.set j x) vs = wipe σ vs := by
  apply List.ext_getElem?
  intro i
  rw [wipe_get, wipe_get, List.length_set]
  by_cases hc : i ∈ vs ∧ i < σ.length
  · rw [if_pos hc, if_pos hc]
  · rw [if_neg hc, if_neg hc, List.getElem?_set]
    by_cases hj : j = i
    · subst hj
      have hl : ¬ j < σ.length := fun z => hc ⟨h, z⟩
      rw [if_pos rfl, if_neg hl]
      exact (List.getElem?_eq_none (by omega)).symm
    · rw [if_neg hj]
theorem wipe_wipe (σ : L2.St) (vs : List Nat) : wipe (wipe σ vs) vs = wipe σ vs := by
  apply List.ext_getElem?
  intro i
  rw [wipe_get, wipe_get, wipe_length]
  by_cases hc : i ∈ vs ∧ i < σ.length
  · rw [if_pos hc, if_pos hc]
  · rw [if_neg hc, if_neg hc]
theorem gd_name {j : Nat} {d : D} {Nx : DS → Prop} (h : Nx (δ.set j (some d))) : GD W (gName j) d δ [j] Nx := fun M σ H v p r Q q =>
  q _ _ ⟨p.wf, p.sl.set j r⟩ h fun vs hv => wipe_set (hv j (List.mem_singleton.mpr rfl))
theorem gd_tup2 {g1 g2 : TG} {x y : D} {j1 j2 : List Nat} {Nx : DS → Prop} (h : GD W g1 x δ j1 fun δ1 => GD W g2 y δ1 j2 Nx) : GD W (gTup W.K 2 (gCons g1 (gCons g2 gNil))) (.tup [x, y]) δ (j1 ++ j2) Nx := fun M σ H v p r Q q => by
  cases r with
  | @tup a vs ds hs hr =>
    cases hr with
    | cons r1 r2 =>
      cases r2 with
      | cons r2 r3 =>
        cases r3
        refine ⟨a, _, rfl, hs, rfl, _, _, rfl, h M σ H _ p r1 _ fun σ1 δ1 p1 h1 w1 => ⟨_, _, rfl, h1 M σ1 H _ p1 r2 _ fun σ2 δ2 p2 h2 w2 => ⟨rfl, q σ2 δ2 p2 h2 fun vs hv => ?_⟩⟩⟩
        rw [w2 vs fun j hj => hv j (List.mem_append_right _ hj), w1 vs fun j hj => hv j (List.mem_append_left _ hj)]
/-- a target that is a tuple: a, b = e -/
theorem sd_asgG {js : List Nat} (h : EvD W te δ fun d => GD W g d δ js N) : SX W Wx (tAsg te g) δ N R B C X := fun M0 H0 M σ H E p e o =>
  h M σ H p _ fun v d H1 g1 k1 r1 h1 => h1 M σ H1 v (p.next g1 k1) r1 _ fun σ' δ' p' hN _ => o.nx M σ' δ' H1 p' (e.next k1) hN
theorem sd_while {tc : TT} (Inv : DS → Prop) (μ : DS → Nat) (h0 : Inv δ) (h : ∀ δ', Inv δ' → EvT W tc δ' fun b => (b = true → SX W Wx ts δ' (fun δ2 => Inv δ2 ∧ μ δ2 < μ δ') R N (fun δ2 => Inv δ2 ∧ μ δ2 < μ δ') X) ∧ (b = false → N δ')) : SX W Wx (tWhile tc ts) δ N R B C X := fun M0 H0 M σ H E p e o => by
  refine ⟨fun m σ' H' => ∃ M' δ', Pre W M' δ' σ' H' ∧ Ent W M0 H0 M' H' ∧ Inv δ' ∧ m = μ δ', ⟨_, M, δ, p, e, h0, rfl⟩, ?_⟩
  rintro m σ' H' ⟨M', δ', p', e', i', rfl⟩
  refine h δ' i' M' σ' H' p' _ fun b H1 g1 k1 h1 => ?_
  cases b with
  | true =>
    rw [if_pos rfl]
    refine ⟨fun σ2 H2 => ∃ M2 δ2, Pre W M2 δ2 σ2 H2 ∧ Ent W M0 H0 M2 H2 ∧ Inv δ2 ∧ μ δ2 < μ δ', ?_, ?_⟩
    · rintro σ2 H2 ⟨M2, δ2, p2, e2, i2, l2⟩
      exact ⟨_, l2, M2, δ2, p2, e2, i2, rfl⟩
    · exact h1.1 rfl M0 H0 M' σ' H1 _ (p'.next g1 k1) (e'.next k1) ⟨fun M2 σ2 δ2 H2 p2 e2 x => ⟨M2, δ2, p2, e2, x.1, x.2⟩, o.rt, o.nx, fun M2 σ2 δ2 H2 p2 e2 x => ⟨M2, δ2, p2, e2, x.1, x.2⟩, o.xw⟩
  | false =>
    rw [if_neg Bool.false_ne_true]
    exact o.nx M' σ' δ' H1 (p'.next g1 k1) (e'.next k1) (h1.2 rfl)
/-- the iterator J gives the items ds, one a turn, whatever is laid meanwhile -/
def Src (W : Wd) (M : Addr → Prop) (J : It) (H1 : Hp) (ds : List D) : Prop := ∀ (M' : Addr → Prop), (∀ a, M a → M' a) → (∀ a, M' a → ¬ M a → H1 a = none) → ∀ (i : Nat) (H2 : Hp), KeepM W M H1 H2 → StOk W H2 →
  (i = ds.length → J.stop i H2) ∧ ∀ d, ds[i]? = some d → J.go i H2 ∧ ∀ x H3, J.yld i H2 x H3 → StOk W H3 ∧ Keep W H2 H3 ∧ Rep W M' H3 x d
def IterD (W : Wd) (wi : TI) (δ : DS) (P : List D → Prop) : Prop := ∀ (M : Addr → Prop) (σ : L2.St) (H : Hp), Pre W M δ σ H → ∀ R : It → Hp → Prop,
  (∀ (J : It) (H1 : Hp) (ds : List D), StOk W H1 → Keep W H H1 → P ds → Src W M J H1 ds → R J H1) → wi σ H R
theorem src_tup {M : Addr → Prop} {H1 : Hp} {a : Addr} {vs : List V} {ds : List D} (w : Wf W M H1) (hs : SqT W.K H1 a vs) (hr : Reps W M H1 vs ds) : Src W M (Itt W.K a) H1 ds := fun M' hm hn i H2 k g => by
  have wg : Wg W M' H1 := ⟨w.g, fun b e => hm b (w.sm b e)⟩
  have hs2 := sqT_keepM wg (k.mono hm) hs
  have hr2 : Reps W M' H2 vs ds := (hr.more hn).keepM wg (k.mono hm)
  refine ⟨fun hl => ⟨vs, hs2, by rw [hr2.length]; exact Nat.le_of_eq hl.symm⟩, fun d hd => ?_⟩
  obtain ⟨v, hv, rv⟩ := hr2.get hd
  refine ⟨⟨vs, v, hs2, hv⟩, fun x H3 y => ?_⟩
  obtain ⟨rfl, y2⟩ := y
  have e : vs[i]? = some x := y2 vs hs2
  rw [hv] at e
  cases e
  exact ⟨g, Keep.refl _, rv⟩
theorem src_lst {M : Addr → Prop} {H1 : Hp} {a : Addr} {vs : List V} {ds : List D} (w : Wf W M H1) (na : ¬ M a) (hs : H1 a = some (.lst vs)) (hr : Reps W M H1 vs ds) : Src W M (Itl W.K a) H1 ds := fun M' hm hn i H2 k g => by
  have wg : Wg W M' H1 := ⟨w.g, fun b e => hm b (w.sm b e)⟩
  have na' : ¬ M' a := fun z => by
    rw [hn a z na] at hs; cases hs
  have hs2 : SqL W.K H2 a vs := .inl (.inl (rdL_keepM wg (k.mono hm) na' hs))
  have hr2 : Reps W M' H2 vs ds := (hr.more hn).keepM wg (k.mono hm)
  refine ⟨fun hl => ⟨vs, hs2, by rw [hr2.length]; exact Nat.le_of_eq hl.symm⟩, fun d hd => ?_⟩
  obtain ⟨v, hv, rv⟩ := hr2.get hd
  refine ⟨⟨vs, v, hs2, hv⟩, fun x H3 y => ?_⟩
  obtain ⟨rfl, y2⟩ := y
  have e : vs[i]? = some x := y2 vs hs2
  rw [hv] at e
  cases e
  exact ⟨g, Keep.refl _, rv⟩
theorem it_tup {P : List D → Prop} (h : EvD W tl δ fun x => ∃ ds, x = .tup ds ∧ P ds) : IterD W (iTup W.K tl) δ P := fun M σ H p R q => h M σ H p _ fun v d H1 g1 k1 r1 h1 => by
  obtain ⟨ds, rfl, hP⟩ := h1
  cases r1 with
  | tup hs hr => exact ⟨_, rfl, ⟨_, hs⟩, q _ H1 ds g1 k1 hP (src_tup (p.wf.next g1 k1) hs hr)⟩
theorem it_lst {P : List D → Prop} (h : EvD W tl δ fun x => ∃ ds, x = .lst ds ∧ P ds) : IterD W (iList W.K tl) δ P := fun M σ H p R q => h M σ H p _ fun v d H1 g1 k1 r1 h1 => by
  obtain ⟨ds, rfl, hP⟩ := h1
  cases r1 with
  | lst hn hs hr => exact ⟨_, rfl, ⟨_, .inl (.inl hs)⟩, q _ H1 ds g1 k1 hP (src_lst (p.wf.next g1 k1) hn hs hr)⟩
def iSeq (K : PySem.W.Frag) (tl : TE) : TI := fun σ H R => iList K tl σ H R ∨ iTup K tl σ H R
theorem pi_seq {X : Cx} {tg iter : Expr} {tl : TE} (h1 : PI X tg iter (iList X.K tl)) (h2 : PI X tg iter (iTup X.K tl)) : PI X tg iter (iSeq X.K tl) := ⟨fun pins s σ H R I h => by
  rcases h with h | h
  · exact h1.run pins s σ H R I h
  · exact h2.run pins s σ H R I h⟩
theorem it_seqT {P : List D → Prop} (h : EvD W tl δ fun x => ∃ ds, x = .tup ds ∧ P ds) : IterD W (iSeq W.K tl) δ P := fun M σ H p R q => .inr (it_tup h M σ H p R q)
theorem it_seqL {P : List D → Prop} (h : EvD W tl δ fun x => ∃ ds, x = .lst ds ∧ P ds) : IterD W (iSeq W.K tl) δ P := fun M σ H p R q => .inl (it_lst h M σ H p R q)
def rngD (lo : Int) (n : Nat) : List D := (List.range n).map fun (k : Nat) => .int (lo + (k : Int))
theorem rngD_length (lo : Int) (n : Nat) : (rngD lo n).length = n := by simp [rngD]
theorem rngD_get {lo : Int} {n i : Nat} {d : D} (h : (rngD lo n)[i]? = some d) : i < n ∧ d = .int (lo + (i : Int)) := by
  have hl : i < n := by
    have := (List.getElem?_eq_some_iff.mp h).1
    rw [rngD_length] at this
    exact this
  refine ⟨hl, ?_⟩
  unfold rngD at h
  rw [List.getElem?_map, List.getElem?_range hl] at h
  exact (Option.some.inj h).symm
theorem src_rng {M : Addr → Prop} {H1 : Hp} (lo : Int) (n : Nat) : Src W M (Itr lo n) H1 (rngD lo n) := fun M' hm hn i H2 k g => by
  refine ⟨fun hl => by rw [rngD_length] at hl; exact Nat.le_of_eq hl.symm, fun d hd => ?_⟩
  obtain ⟨hl, rfl⟩ := rngD_get hd
  refine ⟨hl, fun x H3 y => ?_⟩
  obtain ⟨rfl, rfl⟩ := y
  exact ⟨g, Keep.refl _, .int _⟩
theorem it_rng1 {P : List D → Prop} {ta : TA} (h : EvA W ta δ fun xs => ∃ n : Int, xs = [.int n] ∧ n < 2 ^ 62 ∧ -(2 ^ 62) ≤ n ∧ P (rngD 0 n.toNat)) : IterD W (iRng1 ta) δ P := fun M σ H p R q => h M σ H p _ fun vs ds H1 g1 k1 r1 h1 => by
  obtain ⟨n, rfl, h2, h3, hP⟩ := h1
  cases r1 with
  | cons r1 r2 =>
    cases r2
    cases r1
    exact ⟨n, rfl, h3, h2, q _ H1 _ g1 k1 hP (src_rng 0 _)⟩
theorem it_rng2 {P : List D → Prop} {ta : TA} (h : EvA W ta δ fun xs => ∃ m n : Int, xs = [.int m, .int n] ∧ (-(2 ^ 62) ≤ m ∧ m < 2 ^ 62 ∧ -(2 ^ 62) ≤ n ∧ n < 2 ^ 62) ∧ P (rngD m (n - m).toNat)) : IterD W (iRng2 ta) δ P := fun M σ H p R q => h M σ H p _ fun vs ds H1 g1 k1 r1 h1 => by
  obtain ⟨m, n, rfl, h2, hP⟩ := h1
  cases r1 with
  | cons r1 r2 =>
    cases r2 with
    | cons r2 r3 =>
      cases r3
      cases r1
      cases r2
      exact ⟨m, n, rfl, h2, q _ H1 _ g1 k1 hP (src_rng m _)⟩
def zipD (ds es : List D) : List D := List.zipWith (fun x y => .tup [x, y]) ds es
theorem zipD_get {ds es : List D} {i : Nat} {d : D} (h : (zipD ds es)[i]? = some d) : ∃ x y, ds[i]? = some x ∧ es[i]? = some y ∧ d = .tup [x, y] := by
  unfold zipD at h
  rw [List.getElem?_zipWith] at h
  cases hx : ds[i]? with
  | none => rw [hx] at h; simp at h
  | some x =>
    cases hy : es[i]? with
    | none => rw [hx, hy] at h; simp at h
    | some y =>
      rw [hx, hy] at h
      exact ⟨x, y, rfl, rfl, (Option.some.inj h).symm⟩
theorem src_zipT {M : Addr → Prop} {H1 : Hp} {a b : Addr} {vs us : List V} {ds es : List D} (w : Wf W M H1) (hs : SqT W.K H1 a vs) (hr : Reps W M H1 vs ds) (hs' : SqT W.K H1 b us) (hr' : Reps W M H1 us es) : Src W M (ItzT W.K a b) H1 (zipD ds es) := fun M' hm hn i H2 k g => by
  have wg : Wg W M' H1 := ⟨w.g, fun b e => hm b (w.sm b e)⟩
  have wg2 : Wg W M' H2 := ⟨g, fun b e => hm b (w.sm b e)⟩
  have hs2 := sqT_keepM wg (k.mono hm) hs
  have hs3 := sqT_keepM wg (k.mono hm) hs'
  have hr2 : Reps W M' H2 vs ds := (hr.more hn).keepM wg (k.mono hm)
  have hr3 : Reps W M' H2 us es := (hr'.more hn).keepM wg (k.mono hm)
  refine ⟨fun hl => ⟨vs, us, hs2, hs3, ?_⟩, fun d hd => ?_⟩
  · rw [hr2.length, hr3.length]
    unfold zipD at hl
    rw [List.length_zipWith] at hl
    omega
  · obtain ⟨x, y, hx, hy, rfl⟩ := zipD_get hd
    obtain ⟨v, hv, rv⟩ := hr2.get hx
    obtain ⟨u, hu, ru⟩ := hr3.get hy
    refine ⟨⟨vs, us, v, u, hs2, hs3, hv, hu⟩, fun z H3 yy => ?_⟩
    obtain ⟨T, x1, y1, rfl, hT, rfl, f1, f2⟩ := yy
    have e1 := f1 vs hs2
    have e2 := f2 us hs3
    rw [hv] at e1
    rw [hu] at e2
    cases e1
    cases e2
    have kn : Keep W H2 (upd H2 T (.tup [v, u])) := Keep.new hT
    exact ⟨g.new hT, kn, .tup (SqT.of upd_same) (.cons (rv.keepG wg2 kn) (.cons (ru.keepG wg2 kn) .nil))⟩
theorem it_zipT {P : List D → Prop} {ta : TA} (h : EvA W ta δ fun xs => ∃ ds es, xs = [.tup ds, .tup es] ∧ P (zipD ds es)) : IterD W (iZipA W.K ta) δ P := fun M σ H p R q => h M σ H p _ fun vs ds H1 g1 k1 r1 h1 => by
  obtain ⟨ds, es, rfl, hP⟩ := h1
  cases r1 with
  | cons r1 r2 =>
    cases r2 with
    | cons r2 r3 =>
      cases r3
      cases r1 with
      | tup hs hr =>
        cases r2 with
        | tup hs' hr' => exact ⟨_, _, _, _, rfl, .inr ⟨hs, hs', q _ H1 _ g1 k1 hP (src_zipT (p.wf.next g1 k1) hs hr hs' hr')⟩⟩
theorem sd_for {wi : TI} (h : IterD W wi δ fun ds => ∃ Inv : Nat → DS → Prop, Inv 0 δ ∧ (∀ i d δ', ds[i]? = some d → Inv i δ' → ∃ js, GD W g d δ' js fun δ2 => SX W Wx ts δ2 (Inv (i + 1)) R N (Inv (i + 1)) X) ∧ ∀ δ', Inv ds.length δ' → N δ') : SX W Wx (tFor wi g ts) δ N R B C X := fun M0 H0 M σ H E p e o =>
  h M σ H p _ fun J H1 ds g1 k1 ⟨I, i0, it, ie⟩ src => by
    refine ⟨fun i m σ' H' => m = ds.length - i ∧ i ≤ ds.length ∧ ∃ M' δ', Pre W M' δ' σ' H' ∧ Ent W M H1 M' H' ∧ I i δ', ⟨_, rfl, Nat.zero_le _, M, δ, p.next g1 k1, ⟨Keep.refl _, fun _ x => x, fun a x y => absurd x y⟩, i0⟩, ?_⟩
    rintro i m σ' H' ⟨rfl, hi, M', δ', p', e', hI⟩
    have base : ∀ {M2 : Addr → Prop} {H2 : Hp}, Ent W M H1 M2 H2 → Ent W M0 H0 M2 H2 := fun {M2 H2} x => ⟨(e.k.trans k1).trans x.k, fun a ha => x.m a (e.m a ha), fun a ha hn => by
      by_cases hM : M a
      · exact e.new a hM hn
      · have h1 := x.new a ha hM
        cases h0 : H0 a with
        | none => rfl
        | some oo =>
          have ns : ¬ W.S a := fun z => hM (p.wf.sm a z)
          rw [k1 a oo ns (e.k a oo ns h0)] at h1
          cases h1⟩
    obtain ⟨s1, s2⟩ := src M' e'.m e'.new i H' e'.k.toM p'.wf.g
    by_cases hlt : i < ds.length
    · obtain ⟨hgo, hy⟩ := s2 ds[i] (List.getElem?_eq_getElem hlt)
      refine .inr ⟨hgo, fun σ2 H2 => ∃ M2 δ2, Pre W M2 δ2 σ2 H2 ∧ Ent W M H1 M2 H2 ∧ I (i + 1) δ2, ?_, fun x H3 y => ?_⟩
      · rintro σ2 H2 ⟨M2, δ2, q1, q2, q3⟩
        exact ⟨_, by omega, rfl, hlt, M2, δ2, q1, q2, q3⟩
      · obtain ⟨g3, k3, r3⟩ := hy x H3 y
        obtain ⟨js, hg⟩ := it i ds[i] δ' (List.getElem?_eq_getElem hlt) hI
        refine hg M' σ' H3 x (p'.next g3 k3) r3 _ fun σ4 δ4 p4 hb _ => ?_
        refine hb M H1 M' σ4 H3 _ p4 (e'.next k3) ⟨fun M5 σ5 δ5 H5 p5 e5 x5 => ⟨M5, δ5, p5, e5, x5⟩, fun v d H5 g5 k5 r5 x5 => o.rt v d H5 g5 ((e.k.trans k1).trans k5) (r5.anti e.m) x5, fun M5 σ5 δ5 H5 p5 e5 x5 => o.nx M5 σ5 δ5 H5 p5 (base e5) x5, fun M5 σ5 δ5 H5 p5 e5 x5 => ⟨M5, δ5, p5, e5, x5⟩, fun M5 σ5 δ5 H5 cls d5 x5 p5 e5 r5 h5 => o.xw M5 σ5 δ5 H5 cls d5 x5 p5 (base e5) r5 h5⟩
    · have ee : i = ds.length := by omega
      refine .inl ⟨s1 ee, o.nx M' σ' δ' H' p' (base e') (ie δ' ?_)⟩
      rw [← ee]
      exact hI
/-- what gives a list that was not there before -/
def EvF (W : Wd) (te : TE) (δ : DS) (P : List D → Prop) : Prop := ∀ (M : Addr → Prop) (σ : L2.St) (H : Hp), Pre W M δ σ H → ∀ Q : VK,
  (∀ (a : Addr) (vs : List V) (ds : List D) (H' : Hp), StOk W H' → Keep W H H' → H a = none → ¬ M a → H' a = some (.lst vs) → Reps W (fun b => M b ∨ b = a) H' vs ds → P ds → Q (.ref a) H') → te σ H Q
theorem ev_ofF {P : D → Prop} (h : EvF W te δ fun ds => P (.lst ds)) : EvD W te δ P := fun M σ H p Q q => h M σ H p Q fun a vs ds H' g k hn nm hv r hP => q _ (.lst ds) H' g k (.lst nm hv (r.anti fun _ x => .inl x)) hP
theorem ev_lcF1 {wi : TI} {tt : TT} {vs : List Nat} {P : List D → Prop} {M : Addr → Prop} {σ : L2.St} {H : Hp} (p : Pre W M δ σ H) (h : ∀ R : It → Hp → Prop, (∀ (J : It) (H1 : Hp) (ds : List D), StOk W H1 → Keep W H H1 → (ds.length ≤ 100000 ∧ ∃ Inv : Nat → List D → Prop, Inv 0 [] ∧
    (∀ i d acc, ds[i]? = some d → Inv i acc → ∃ js, (∀ j ∈ js, j ∈ vs) ∧ GD W g d (wipeD δ vs) js fun δ2 => EvT W tt δ2 fun b => (b = true → EvD W te δ2 fun y => Inv (i + 1) (acc ++ [y])) ∧ (b = false → Inv (i + 1) acc)) ∧ ∀ acc, Inv ds.length acc → P acc) → Src W M J H1 ds → R J H1) → wi σ H R) :
    ∀ Q : VK, (∀ (a : Addr) (vs : List V) (ds : List D) (H' : Hp), StOk W H' → Keep W H H' → H a = none → ¬ M a → H' a = some (.lst vs) → Reps W (fun b => M b ∨ b = a) H' vs ds → P ds → Q (.ref a) H') → tLc wi g tt te vs σ H Q := fun Q q =>
  h _ fun J H1 ds g1 k1 ⟨hlen, I, i0, it, ie⟩ src => by
    intro Dl hD
    have p1 := p.next g1 k1
    let M' : Addr → Prop := fun a => M a ∨ a = Dl
    have hm : ∀ a, M a → M' a := fun a x => .inl x
    have hn : ∀ a, M' a → ¬ M a → H1 a = none := fun a x y => by
      rcases x with x | x
      · exact absurd x y
      · rw [x]; exact hD
    have hns : ¬ W.S Dl := fun z => by
      obtain ⟨_, q⟩ := StOk.at g1 z
      rw [hD] at q
      cases q
    have notM : ¬ M Dl := fun m => by
      obtain ⟨o, ho⟩ := p1.wf.dom Dl m
      rw [hD] at ho
      cases ho
    refine ⟨fun i m H' => m = ds.length - i ∧ i ≤ ds.length ∧ ∃ acc vs', Keep W H1 H' ∧ StOk W H' ∧ H' Dl = some (.lst vs') ∧ Reps W M' H' vs' acc ∧ acc.length ≤ i ∧ I i acc, ⟨_, rfl, Nat.zero_le _, [], [], Keep.new hD, g1.new hD, upd_same, .nil, Nat.zero_le _, i0⟩, ?_⟩
    rintro i m H' ⟨rfl, hi, acc, vs', kH, gH, eD, rA, hal, hI⟩
    have wf' : Wf W M' H' := ⟨gH, fun a z => .inl (p.wf.sm a z), fun a x => by
      rcases x with x | x
      · exact (p1.wf.next gH kH).dom a x
      · rw [x]; exact ⟨_, eD⟩⟩
    obtain ⟨s1, s2⟩ := src M' hm hn i H' kH.toM gH
    by_cases hlt : i < ds.length
    · obtain ⟨hgo, hy⟩ := s2 ds[i] (List.getElem?_eq_getElem hlt)
      refine .inr ⟨hgo, fun H2 => ∃ acc vs', Keep W H1 H2 ∧ StOk W H2 ∧ H2 Dl = some (.lst vs') ∧ Reps W M' H2 vs' acc ∧ acc.length ≤ i + 1 ∧ I (i + 1) acc, ?_, fun x H3 y => ?_⟩
      · rintro H2 ⟨acc2, vs2, z⟩
        exact ⟨_, by omega, rfl, hlt, acc2, vs2, z⟩
      · obtain ⟨g3, k3, r3⟩ := hy x H3 y
        have wf3 := wf'.next g3 k3
        obtain ⟨js, hjs, hg⟩ := it i ds[i] acc (List.getElem?_eq_getElem hlt) hI
        have sl : Slots W M' H3 (wipe σ vs) (wipeD δ vs) := by
          have s0 : Slots W M H1 (wipe σ vs) (wipeD δ vs) := p1.sl.wipe vs
          have wg : Wg W M' H1 := ⟨g1, fun a z => .inl (p.wf.sm a z)⟩
          exact ⟨s0.len, fun j d hd => by
            obtain ⟨v, a1, a2⟩ := s0.get j d hd
            exact ⟨v, a1, (a2.more hn).keepG wg (kH.trans k3)⟩⟩
        refine hg M' (wipe σ vs) H3 x ⟨wf3, sl⟩ r3 _ fun σ4 δ4 p4 hb hw => ?_
        refine ⟨by rw [hw vs hjs, wipe_wipe], ?_⟩
        refine hb M' σ4 H3 p4 _ fun b H5 g5 k5 h5 => ?_
        have p5 := p4.next g5 k5
        have eD5 : H5 Dl = some (.lst vs') := k5 Dl _ hns (k3 Dl _ hns eD)
        have rA5 : Reps W M' H5 vs' acc := (rA.keep wf' k3).keep wf3 k5
        cases b with
        | true =>
          rw [if_pos rfl]
          refine h5.1 rfl M' σ4 H5 p5 _ fun v d H6 g6 k6 r6 h6 => ?_
          have eD6 : H6 Dl = some (.lst vs') := k6 Dl _ hns eD5
          have kU : ∀ a o, a ≠ Dl → H6 a = some o → (upd H6 Dl (.lst (vs' ++ [v]))) a = some o := fun a o na ho => by rw [upd_ne na]; exact ho
          have gU : StOk W (upd H6 Dl (.lst (vs' ++ [v]))) := fun s hs => by
            obtain ⟨ns, i', c, m, q1, q2, q3, q4⟩ := g6 s hs
            refine ⟨ns, i', c, m, kU s _ (fun z => hns (Wd.S_of hs z.symm)) q1, q2, kU W.b _ (fun z => ?_) q3, q4⟩
            obtain ⟨ns0, i0', c0, m0, q10, q20, q30, q40⟩ := g1 s hs
            rw [z, hD] at q30
            cases q30
          have kX : ∀ {H7 : Hp}, Keep W H1 H7 → Keep W H1 (upd H7 Dl (.lst (vs' ++ [v]))) := fun kk a o ns ho => by
            rw [upd_ne (ne_of_none ho hD)]
            exact kk a o ns ho
          refine ⟨vs', eD6, ?_, acc ++ [d], vs' ++ [v], kX (((kH.trans k3).trans k5).trans k6), gU, upd_same, ?_, ?_, h6⟩
          · rw [(rA5).length]
            exact Nat.lt_of_lt_of_le (Nat.lt_of_le_of_lt hal (Nat.lt_of_lt_of_le hlt hlen)) (by decide)
          · exact ((rA5.keep p5.wf k6).append (.cons r6 .nil)).upd (rdT_lst eD6) (.inr rfl)
          · simp; omega
        | false =>
          rw [if_neg Bool.false_ne_true]
          exact ⟨acc, vs', ((kH.trans k3).trans k5), g5, eD5, rA5, by omega, h5.2 rfl⟩
    · have ee : i = ds.length := by omega
      refine .inl ⟨s1 ee, q Dl vs' acc H' gH (k1.trans kH) ?_ notM eD rA (ie acc (ee ▸ hI))⟩
      cases z : H Dl with
      | none => rfl
      | some oo =>
        rw [k1 Dl oo hns z] at hD
        cases hD
theorem ev_lcF {wi : TI} {tt : TT} {vs : List Nat} {P : List D → Prop} (h : IterD W wi δ fun ds => ds.length ≤ 100000 ∧ ∃ Inv : Nat → List D → Prop, Inv 0 [] ∧
    (∀ i d acc, ds[i]? = some d → Inv i acc → ∃ js, (∀ j ∈ js, j ∈ vs) ∧ GD W g d (wipeD δ vs) js fun δ2 => EvT W tt δ2 fun b => (b = true → EvD W te δ2 fun y => Inv (i + 1) (acc ++ [y])) ∧ (b = false → Inv (i + 1) acc)) ∧ ∀ acc, Inv ds.length acc → P acc) :
    EvF W (tLc wi g tt te vs) δ P := fun M σ H p Q q => ev_lcF1 p (h M σ H p) Q q
theorem ev_lc {wi : TI} {tt : TT} {vs : List Nat} {P : D → Prop} (h : IterD W wi δ fun ds => ds.length ≤ 100000 ∧ ∃ Inv : Nat → List D → Prop, Inv 0 [] ∧
    (∀ i d acc, ds[i]? = some d → Inv i acc → ∃ js, (∀ j ∈ js, j ∈ vs) ∧ GD W g d (wipeD δ vs) js fun δ2 => EvT W tt δ2 fun b => (b = true → EvD W te δ2 fun y => Inv (i + 1) (acc ++ [y])) ∧ (b = false → Inv (i + 1) acc)) ∧ ∀ acc, Inv ds.length acc → P (.lst acc)) :
    EvD W (tLc wi g tt te vs) δ P := ev_ofF (ev_lcF h)
end
end PD
namespace PD
open PySem PySem.Spec PyProof.Rows L2
open RZ (iZipA ItzT)
abbrev fr (p : Fr) : D := .tup [.int p.1, .int p.2]
def Sz (n : Nat) (p : Fr) : Prop := p.1.natAbs < 2 ^ n ∧ p.2.natAbs < 2 ^ n
abbrev un (l : List Fr) : D := .tup (l.map fr)
theorem cpow_ok {i j : Int} (h : (decide (0 ≤ j) && (decide (j ≤ 1000000) && decide (i.natAbs < 18446744073709551616))) = true) : CPow i j := by
  rw [Bool.and_eq_true, Bool.and_eq_true] at h
  exact ⟨of_decide_eq_true h.1, of_decide_eq_true h.2.1, of_decide_eq_true h.2.2⟩
theorem sz40 {r : Int} (h : r.natAbs < 10000000000000000000000000000000000000000) : r.natAbs < 2 ^ 134 := Nat.lt_trans h (by decide)
def D.toI : D → Int
  | .int i => i
  | _ => 0
def isFr : D → Bool
  | .tup [a, b] => a.isInt && b.isInt && decide (1 ≤ b.toI) && decide (gcdI a.toI b.toI = 1)
  | _ => false
theorem isFr_ints {i j : Int} (h : 1 ≤ j) : isFr (.tup [.int i, .int j]) = decide (((Nat.gcd i.natAbs j.natAbs : Nat) : Int) = 1) := by
  show (true && true && decide (1 ≤ j) && decide (gcdI i j = 1)) = _
  rw [decide_eq_true h, Bool.true_and, Bool.true_and, Bool.true_and]
  exact decide_eq_decide.mpr ⟨fun z => by unfold gcdI at z; omega, fun z => by unfold gcdI; omega⟩
theorem isFr_low {i j : Int} (h : ¬ 1 ≤ j) : isFr (.tup [.int i, .int j]) = false := by
  show (true && true && decide (1 ≤ j) && decide (gcdI i j = 1)) = _
  rw [decide_eq_false h, Bool.and_false, Bool.false_and]
theorem isFr_fr {p : Fr} (h : IsF p) : isFr (fr p) = true := by
  show (true && true && decide (1 ≤ p.2) && decide (gcdI p.1 p.2 = 1)) = true
  rw [decide_eq_true h.1, decide_eq_true h.2]
  rfl
theorem isInt_of {x : D} (h : x.isInt = true) : ∃ i, x = .int i := by
  cases x <;> first | cases h; done | exact ⟨_, rfl⟩
def isAny : D → Bool
  | .tup xs => decide (1 ≤ xs.length) && decide (xs.length ≤ 3) && xs.all isFr
  | _ => false
def D.len : D → Int
  | .tup xs => xs.length
  | _ => -1
mutual
/-- no int within is great -/
def D.small : D → Bool
  | .int i => decide (i.natAbs < 2 ^ 8000)
  | .tup xs | .lst xs => D.smalls xs
  | _ => true
def D.smalls : List D → Bool
  | [] => true
  | x :: xs => x.small && D.smalls xs
end
theorem smalls_mem {xs : List D} (h : D.smalls xs = true) {x : D} (hx : x ∈ xs) : x.small = true := by
  induction xs with
  | nil => cases hx
  | cons y ys ih =>
    simp only [D.smalls, Bool.and_eq_true] at h
    rcases List.mem_cons.mp hx with rfl | hx
    · exact h.1
    · exact ih h.2 hx
theorem fr_small {p : Fr} (h : Sz 8000 p) : D.small (fr p) = true := by
  simp only [D.small, D.smalls, Bool.and_true, Bool.and_eq_true]
  exact ⟨decide_eq_true h.1, decide_eq_true h.2⟩
def isUn (n : Int) : D → Bool
  | .tup xs => decide ((xs.length : Int) = n) && xs.all isFr
  | _ => false
theorem isUn_un {l : List Fr} {n : Int} (h1 : (l.length : Int) = n) (h : ∀ p ∈ l, IsF p) : isUn n (un l) = true := by
  show (decide (((l.map fr).length : Int) = n) && (l.map fr).all isFr) = true
  rw [List.length_map, decide_eq_true h1, List.all_map]
  simp only [Bool.true_and, List.all_eq_true]
  exact fun p hp => isFr_fr (h p hp)
theorem eqv_refl0 {d : PyData} (h : d.canLay0 = true) : PyData.eqv d d = true := SeqAt.eqv_refl d h
theorem D.eqv_self {d : D} (h : d.fine = true) : d.eqv d = true := by
  have h1 := (Bool.and_eq_true_iff.mp h).2
  exact eqv_refl0 (SeqAt.canLay_of_shaped h1)
/-- a def of the text as the top leaves it -/
structure DefT (K : PySem.W.Frag) (mg : Str → Option Value) (x : Str) (st : Stmt) (ps : List Str) where
  f : Addr
  d : FuncData
  F : L2.Fun K x x st f d
  g : mg x = some (.ref f)
  b : Binds K d ps []
section
variable {X : Cx} {K : PySem.W.Frag}
theorem ix_seqK (h : X.K = K) : IxR X (rIx K) := by subst h; exact ix_seq
theorem op_eqDK (h : X.K = K) (hu : X.A.units + 64 < cLine) : OpR X (compareOp .Eq) (rEqD K) := by subst h; exact op_eqD hu
theorem op_neDK (h : X.K = K) (hu : X.A.units + 64 < cLine) : OpR X (compareOp .NotEq) (rNeD K) := by subst h; exact op_neD hu
theorem op_plusK (h : X.K = K) : OpR X (binaryOp .Add) (rPlus K) := by subst h; exact op_plus
theorem cr_allK (h : X.K = K) (hc : X.calm = true) : CallR X (.builtin "all") (rAll K) := by subst h; exact cr_all hc
theorem call_isiK' (h : X.K = K) : CallR X (.builtin "isinstance") (rIsi K) := by subst h; exact call_isi
theorem call_lenK (h : X.K = K) : CallR X (.builtin "len") (fun xs H Q => ∃ x n, xs = [x] ∧ LenV K x H n ∧ Q (.int n) H) := by subst h; exact call_len
theorem call_tuple_ofK (h : X.K = K) : CallR X (.type "tuple") (fun xs H Q => ∃ p ys, xs = [.ref p] ∧ ((SqL K H p ys ∧ ∀ l, H l = none → Q (.ref l) (upd H l (.tup ys))) ∨ (SqT K H p ys ∧ Q (.ref p) H))) := by subst h; exact call_tuple_of
theorem pi_seqK {tg iter : Expr} {tl : TE} (h : X.K = K) (hl : PE X iter tl) : PI X tg iter (iSeq K tl) := by subst h; exact pi_seq (pi_list hl) (pi_tup hl)
theorem pi_zipAK {e e2 : Expr} {ta : TA} {p pos tpos : Pos} {elts : List Expr} {kk : Nat} (h : X.K = K) (hg : Gl X "zip") (hm : X.mg "zip" = none) (ha : PA X [e, e2] ta)
    (hs : starEach [e, e2] X.env = (false, eval e X.env) :: starEach [e2] X.env := by rfl) (hpl : (backTo pos (starEach [e2] X.env)).any (·.1) = false := by rfl) :
    PI X (.Tuple elts kk tpos) (.Call (.Name "zip" p) [e, e2] [] pos) (iZipA K ta) := by subst h; exact RZ.pi_zipA hg hm ha hs hpl
theorem pg_tupK {es : List Expr} {k : Nat} {t : TGs} {n : Nat} {pos : Pos} (h : X.K = K) (hc : X.calm = true) (ht : PGs X es t)
    (hn : (assignEach es X.env).length = n := by rfl) (hst : (assignEach es X.env).findIdx? (·.1) = none := by rfl) : PG X (.Tuple es k pos) (gTup K n t) := by subst h; exact pg_tup hc ht hn hst
end
theorem hr_u {k : Nat} {A : Around} (hr : Room k A) : A.units + 64 < cLine := by
  have := hr.un
  omega
abbrev FD := List D → (D → Prop) → Prop
/-- a def's promise, by data -/
def spD (K : PySem.W.Frag) (F : FD) : Sp := fun vs H Q _ => ∃ (W : Wd) (M : Addr → Prop) (ds : List D) (P : D → Prop), W.K = K ∧ Wf W M H ∧ Reps W M H vs ds ∧ F ds P ∧ ∀ v d H', StOk W H' → Keep W H H' → Rep W M H' v d → P d → Q v H'
theorem spD_len {K : PySem.W.Frag} {F : FD} {n : Nat} (hF : ∀ ds P, F ds P → ds.length = n) (vs : List V) (H : Hp) (Q : VK) (E : XK) (h : spD K F vs H Q E) : vs.length = n := by
  obtain ⟨W, M, ds, P, _, _, r, f, _⟩ := h
  rw [r.length]
  exact hF ds P f
theorem ev_call {W : Wd} {δ : DS} {F : FD} {E : XK} {ta : TA} {P : D → Prop} (h : EvA W ta δ fun ds => F ds P) : EvD W (tCall (spD W.K F) [] E ta) δ P := fun M σ H p Q q =>
  h M σ H p _ fun vs ds H1 g1 k1 r1 h1 => ⟨W, M, ds, P, rfl, p.wf.next g1 k1, by rw [List.append_nil]; exact r1, h1, fun v d H2 g2 k2 r2 h2 => q v d H2 g2 (k1.trans k2) r2 h2⟩
def startD (n : Nat) (ds : List D) : DS := ds.map some ++ List.replicate (n - ds.length) none
theorem start_slots {W : Wd} {M : Addr → Prop} {H : Hp} {vs : List V} {ds : List D} (N : List Str) (r : Reps W M H vs ds) : Slots W M H (L2.start N vs) (startD N.length ds) where
  len := by simp [L2.start, startD, r.length]
  get := fun i d h => by
    unfold startD at h
    unfold L2.start
    by_cases hl : i < ds.length
    · rw [List.getElem?_append_left (by rw [List.length_map]; exact hl), List.getElem?_map] at h
      have e : ds[i]? = some d := by
        rw [List.getElem?_eq_getElem hl] at h ⊢
        exact Option.some.inj h
      obtain ⟨v, h1, h2⟩ := r.get e
      refine ⟨v, ?_, h2⟩
      rw [List.getElem?_append_left (by rw [List.length_map, r.length]; exact hl), List.getElem?_map, h1]
      rfl
    · rw [List.getElem?_append_right (by rw [List.length_map]; omega)] at h
      have := List.mem_of_getElem? h
      rw [List.mem_replicate] at this
      cases this.2
theorem body_of {K : PySem.W.Frag} {F : FD} {vs : List V} {H : Hp} {Q : VK} {E : XK} {N : List Str} {t : TS} (h : spD K F vs H Q E)
    (hb : ∀ W ds P, W.K = K → F ds P → SD W t (startD N.length ds) (fun _ => P .non) P (fun _ => False) (fun _ => False)) : t { nx := fun _ H' => Q .non H', rt := Q } (L2.start N vs) H := by
  obtain ⟨W, M, ds, P, e, w, r, f, q⟩ := h
  exact hb W ds P e f M H M _ H _ ⟨w, start_slots N r⟩ ⟨Keep.refl _, fun _ x => x, fun a x y => absurd x y⟩
    ⟨fun M' σ' δ' H' p' e' x => q .non .non H' p'.wf.g e'.k .non x, fun v d H' g k r' x => q v d H' g k r' x, fun _ _ _ _ _ _ x => x.elim, fun _ _ _ _ _ _ x => x.elim, fun _ _ _ _ _ _ _ _ _ _ x => x.elim⟩
def spLaw (K : PySem.W.Frag) : Sp := fun vs H Q _ => ∃ (a : Addr) (ns : List Int), vs = [.ref a] ∧ SqL K H a (ns.map V.int) ∧ ns.length ≤ 63 ∧ ∀ H', Q (.bl true) H'
theorem et_yes {W : Wd} {δ : DS} {P : Bool → Prop} (h : P true) : EvT W tYes δ P := fun M σ H p Q q => q true H p.wf.g (Keep.refl H) h
theorem take_snoc {α : Type} {l : List α} {i : Nat} {x : α} (h : l[i]? = some x) : l.take i ++ [x] = l.take (i + 1) := by
  rw [List.take_add_one, h]
  rfl
/-- the list that comes is known: L -/
theorem ev_lcLF {W : Wd} {δ : DS} {wi : TI} {g : TG} {te : TE} {vs : List Nat} {P : List D → Prop} (h : IterD W wi δ fun ds => ds.length ≤ 100000 ∧ ∃ L : List D, L.length = ds.length ∧
    (∀ (i : Nat) (d y : D), ds[i]? = some d → L[i]? = some y → ∃ js, (∀ j ∈ js, j ∈ vs) ∧ GD W g d (wipeD δ vs) js fun δ2 => EvD W te δ2 fun z => z = y) ∧ P L) : EvF W (tLc wi g tYes te vs) δ P :=
  ev_lcF fun M σ H p R q => h M σ H p R fun J H1 ds g1 k1 ⟨hl, L, hL, hs, hP⟩ => q J H1 ds g1 k1 ⟨hl, fun i acc => acc = L.take i, rfl, fun i d acc hd ha => by
    have hi : i < L.length := by rw [hL]; exact (List.getElem?_eq_some_iff.mp hd).1
    have hy : L[i]? = some L[i] := List.getElem?_eq_getElem hi
    obtain ⟨js, h1, h2⟩ := hs i d _ hd hy
    refine ⟨js, h1, fun M σ H v p r Q q => h2 M σ H v p r Q fun σ' δ' p' e' w' => q σ' δ' p' (et_yes ⟨fun _ => ev_mono e' fun z hz => ?_, fun z => by cases z⟩) w'⟩
    rw [ha, hz]
    exact take_snoc hy, fun acc ha => by
    rw [ha, ← hL, List.take_length]
    exact hP⟩
theorem ev_lcL {W : Wd} {δ : DS} {wi : TI} {g : TG} {te : TE} {vs : List Nat} {P : D → Prop} (h : IterD W wi δ fun ds => ds.length ≤ 100000 ∧ ∃ L : List D, L.length = ds.length ∧
    (∀ (i : Nat) (d y : D), ds[i]? = some d → L[i]? = some y → ∃ js, (∀ j ∈ js, j ∈ vs) ∧ GD W g d (wipeD δ vs) js fun δ2 => EvD W te δ2 fun z => z = y) ∧ P (.lst L)) : EvD W (tLc wi g tYes te vs) δ P := ev_ofF (ev_lcLF h)
/-- of the items that come something is known: G -/
theorem ev_lcAll {W : Wd} {δ : DS} {wi : TI} {g : TG} {te : TE} {vs : List Nat} {P : D → Prop} (G : D → Prop) (h : IterD W wi δ fun ds => ds.length ≤ 100000 ∧
    (∀ (i : Nat) (d : D), ds[i]? = some d → ∃ js, (∀ j ∈ js, j ∈ vs) ∧ GD W g d (wipeD δ vs) js fun δ2 => EvD W te δ2 G) ∧ ∀ l : List D, l.length = ds.length → (∀ y ∈ l, G y) → P (.lst l)) : EvD W (tLc wi g tYes te vs) δ P :=
  ev_lc fun M σ H p R q => h M σ H p R fun J H1 ds g1 k1 ⟨hl, hs, hP⟩ => q J H1 ds g1 k1 ⟨hl, fun i acc => acc.length = i ∧ ∀ y ∈ acc, G y, ⟨rfl, fun y hy => by cases hy⟩, fun i d acc hd ha => by
    obtain ⟨js, h1, h2⟩ := hs i d hd
    refine ⟨js, h1, fun M σ H v p r Q q => h2 M σ H v p r Q fun σ' δ' p' e' w' => q σ' δ' p' (et_yes ⟨fun _ => ev_mono e' fun z hz => ⟨?_, fun y hy => ?_⟩, fun z => by cases z⟩) w'⟩
    · rw [List.length_append, ha.1]
      rfl
    · rcases List.mem_append.mp hy with hy | hy
      · exact ha.2 y hy
      · rw [List.mem_singleton.mp hy]
        exact hz, fun acc ha => hP acc ha.1 ha.2⟩
theorem lt_pow {n m k : Nat} (h : n < 2 ^ m) (hk : m ≤ k) : n < 2 ^ k := Nat.lt_of_lt_of_le h (Nat.pow_le_pow_right (by decide) hk)
theorem Sz.mono {n m : Nat} {p : Fr} (h : Sz n p) (hm : n ≤ m) : Sz m p := ⟨lt_pow h.1 hm, lt_pow h.2 hm⟩
theorem mul_okN {i j : Int} {m n : Nat} (h1 : i.natAbs < 2 ^ m) (h2 : j.natAbs < 2 ^ n) (h : m + n ≤ 900000) : CMulW i j :=
  wide_mul (a := m + 1) (b := n + 1) (Nat.lt_of_lt_of_le h1 (Nat.pow_le_pow_right (by decide) (Nat.le_succ _))) (Nat.lt_of_lt_of_le h2 (Nat.pow_le_pow_right (by decide) (Nat.le_succ _))) (Nat.succ_pos _) (Nat.succ_pos _) (by omega)
theorem mul_lt {i j : Int} {m n : Nat} (h1 : i.natAbs < 2 ^ m) (h2 : j.natAbs < 2 ^ n) : (i * j).natAbs < 2 ^ (m + n) := by
  rw [Int.natAbs_mul, Nat.pow_add]
  exact Nat.mul_lt_mul'' h1 h2
theorem div_ok {i j : Int} (h : 0 < j) (hb : j.natAbs < 2 ^ 8000) : CDivW i j := wide_div h hb (by decide) (by decide)
theorem mul_small {i j : Int} (h1 : -1000000000000 < i) (h2 : i < 1000000000000) (h3 : -1000000000000 < j) (h4 : j < 1000000000000) : CMulW i j :=
  wide_mul (a := 60) (b := 60) (by have : (2 : Nat) ^ 60 = 1152921504606846976 := by decide
                                   omega) (by have : (2 : Nat) ^ 60 = 1152921504606846976 := by decide
                                              omega) (by decide) (by decide) (by decide)
theorem div_small {i j : Int} (h1 : 0 < j) (h2 : j < 1000000000000) : CDivW i j :=
  wide_div (b := 60) h1 (by have : (2 : Nat) ^ 60 = 1152921504606846976 := by decide
                            omega) (by decide) (by decide)
theorem div_gcd {a b i : Int} (hb : 0 < b) (hs : b.natAbs < 2 ^ 8000) : CDivW i (gcdI a b : Int) := by
  have h1 := gcdI_pos (a := a) (b := b) (by omega)
  have h2 := gcdI_le (a := a) (b := b) (by omega)
  exact div_ok (by omega) (by omega)
theorem low_sz {a b : Int} {n : Nat} (ha : a.natAbs < 2 ^ n) (hb : b.natAbs < 2 ^ n) : Sz n (lowF a b) := by
  have d1 := gcdI_dvd1 a b
  have d2 := gcdI_dvd2 a b
  constructor
  · show (a / (gcdI a b : Int)).natAbs < 2 ^ n
    rw [Int.natAbs_ediv_of_dvd d1]
    exact Nat.lt_of_le_of_lt (Nat.div_le_self _ _) ha
  · show (b / (gcdI a b : Int)).natAbs < 2 ^ n
    rw [Int.natAbs_ediv_of_dvd d2]
    exact Nat.lt_of_le_of_lt (Nat.div_le_self _ _) hb
theorem mulF_sz {p q : Fr} {m n : Nat} (hp : Sz m p) (hq : Sz n q) : Sz (m + n) (mulF p q) := low_sz (mul_lt hp.1 hq.1) (mul_lt hp.2 hq.2)
theorem pow_szk {b : Int} {m k r : Nat} (hb : b.natAbs < 2 ^ m) (hr : r ≤ k) : (b ^ r).natAbs < 2 ^ (m * k + 1) := by
  rw [Int.natAbs_pow]
  have h1 : b.natAbs ^ r ≤ (2 ^ m) ^ r := Nat.pow_le_pow_left (Nat.le_of_lt hb) r
  rw [← Nat.pow_mul] at h1
  have h2 : 2 ^ (m * r) ≤ 2 ^ (m * k) := Nat.pow_le_pow_right (by decide) (Nat.mul_le_mul_left _ hr)
  exact Nat.lt_of_le_of_lt (Nat.le_trans h1 h2) (Nat.pow_lt_pow_right (by decide) (Nat.lt_succ_self _))
theorem powF_sz {p : Fr} {e : Int} {m E : Nat} (h : Sz m p) (he : e.natAbs ≤ E) : Sz (m * E + 1) (powF p e) := by
  unfold powF
  split
  · exact ⟨pow_szk h.2 he, pow_szk h.1 he⟩
  · exact ⟨pow_szk h.1 he, pow_szk h.2 he⟩
theorem facF_sz {s : Int} {B : Nat} : ∀ {l : List (Fr × Fr)} {acc : Fr} {n : Nat}, (∀ x ∈ l, Sz B (powF x.2 (expI s x.1))) → Sz n acc → Sz (n + l.length * B) (facF s acc l)
  | [], acc, n, _, h => by
    show Sz (n + 0 * B) acc
    rw [Nat.zero_mul, Nat.add_zero]
    exact h
  | (u, r) :: l, acc, n, hl, h => by
    have h1 := facF_sz (s := s) (B := B) (l := l) (acc := mulF acc (powF r (expI s u))) (fun x hx => hl x (List.mem_cons_of_mem _ hx)) (mulF_sz h (hl (u, r) List.mem_cons_self))
    have e : n + B + l.length * B = n + (l.length + 1) * B := by grind
    rw [e] at h1
    exact h1
end PD
namespace PDI
open PySem PySem.Spec L2 PyProof.Rows
open AutoSeq1 (wpAny_loadPart')
/-- the two objects that enumerate(t) lays -/
def eIt (l : Addr) : Obj := { cls := .type "tuple_iterator", data := .fields #[.ref l, .int 0 0] }
def eOb (i : Addr) : Obj := { cls := .type "enumerate", data := .fields #[.none, .bool false, .ref i, rawInt 0, .none, .none] }
def eHeap (h : Heap) (l : Addr) : Heap := (h.push (eIt l)).push (eOb h.objs.size)
theorem eHeap_keep {h : Heap} {l b : Addr} {o : Obj} (e : h.get? b = some o) : (eHeap h l).get? b = some o := Heap.get?_push_of_some _ (Heap.get?_push_of_some _ e)
theorem eHeap_it (h : Heap) (l : Addr) : (eHeap h l).get? h.objs.size = some (eIt l) := Heap.get?_push_of_some _ (Heap.get?_push_size _ rfl)
theorem eHeap_ob (h : Heap) (l : Addr) : (eHeap h l).get? (h.objs.size + 1) = some (eOb h.objs.size) := by
  have z := Heap.get?_push_size (h.push (eIt l)) (o := eOb h.objs.size) rfl
  rwa [Heap.size_push] at z
theorem new_enumT (l : Addr) (xs : Array Value) (n : Nat) (dd : Option Addr) (sl : Array (Option Value)) :
    Meets (Builtin.«enumerate.__new__» ⟨[.type "enumerate", .ref l], []⟩) fun _ R s => s.heap.get? l = some { cls := .type "tuple", dict := dd, data := .seq xs n, slots := sl } ∧ R (.ok (.ret (.ref (s.heap.push (eIt l)).objs.size))) { s with heap := eHeap s.heap l } :=
  Meets.of_wp fun prog w A R s ⟨hl, hR⟩ => by
    rcases s with ⟨heap, gens, dr, toks, os⟩
    have sub := sub_enumerate
    have tup : heap.IsTuple l xs := ⟨_, hl, rfl, n, rfl⟩
    unfold eHeap eIt eOb at hR
    wp_walk using wpAny_loadPart' hl
    refine wpAny_stack_any fun _ => wpAny_pure ?_
    split
    · rename_i c _ _ _ _ _
      cases (c == Value.type "enumerate") <;> (wp_walk using wpAny_loadPart' hl, wpAny_pyIter_tuple tup; exact ⟨_, rfl, hR⟩)
    · (wp_walk using wpAny_loadPart' hl, wpAny_pyIter_tuple tup; exact ⟨_, rfl, hR⟩)
theorem run_enumT {prog : Program} {w : World} {A : Around} {E Q : Value → Shared → Prop} {s : Shared} {l : Addr} {xs : Array Value} (t : s.heap.IsTuple l xs) (q : Q (.ref (s.heap.objs.size + 1)) { s with heap := eHeap s.heap l }) :
    wpAny (model prog w) A (call (.type "enumerate") [Value.ref l]) Q E s := by
  obtain ⟨⟨cls, dd, data, sl⟩, hl, ec, n, ed⟩ := t
  cases (show cls = .type "tuple" from ec)
  cases (show data = .seq xs n from ed)
  have sz : (s.heap.push (eIt l)).objs.size = s.heap.objs.size + 1 := Heap.size_push ..
  refine callType_new F.called_enumerate (by decide) (F.typeCall_enumerate_1 _) (F.newCall_enumerate_1 _) (fun ob => F.args_object_init_2 ob _) F.entry_enumerate_new (new_enumT l xs n dd sl) ⟨hl, ?_⟩
  show (∃ o, (eHeap s.heap l).get? (s.heap.push (eIt l)).objs.size = some o ∧ _) ∧ _
  rw [sz]
  exact ⟨⟨_, eHeap_ob _ _, rfl⟩, q⟩
/-- the tuple at a, its items in new pairs with their numbers -/
def IteT (K : PySem.W.Frag) (a : Addr) : It where
  go := fun i H => ∃ (xs : List V) (x : V), SqT K H a xs ∧ xs[i]? = some x
  yld := fun i H v H' => ∃ T x, v = .ref T ∧ H T = none ∧ H' = upd H T (.tup [.int (i : Nat), x]) ∧ ∀ xs, SqT K H a xs → xs[i]? = some x
  stop := fun i H => ∃ xs : List V, SqT K H a xs ∧ xs.length = i
/-- how the two objects stand at the i-th turn -/
structure EnSt (a e it : Addr) (i : Nat) (h : Heap) : Prop where
  ob : ∃ old, IsEnum h e it (i : Int) old
  ti : h.IsTupleIter it a i
  n1 : e ≠ it
  n2 : a ≠ it
  n3 : a ≠ e
theorem two {e it b : Addr} (h : b ∈ [e, it]) : b = e ∨ b = it := by
  rcases List.mem_cons.mp h with z | z
  · exact .inl z
  · exact .inr (List.mem_singleton.mp z)
theorem turn_enumT {P : Program} {w : World} {K : PySem.W.Frag} {elts : List Expr} {kk : Nat} {tpos : Pos} (a e it : Addr) : Turn P w K (.Tuple elts kk tpos) (IteT K a) [e, it] e (EnSt a e it) where
  mem := List.mem_cons_self
  obj := fun i h st b hb => by
    obtain ⟨old, he⟩ := st.ob
    obtain ⟨o, ho, _, hd⟩ := st.ti
    rcases two hb with rfl | rfl
    · refine ⟨_, he, ?_⟩
      intro v q
      cases q
    · refine ⟨o, ho, ?_⟩
      intro v q
      rw [hd] at q
      cases q
  keep := fun i h h' st k => by
    obtain ⟨old, he⟩ := st.ob
    refine ⟨⟨old, k e List.mem_cons_self _ he⟩, ?_, st.n1, st.n2, st.n3⟩
    exact st.ti.at fun o q => k it (List.mem_cons_of_mem _ List.mem_cons_self) o q
  item := by
    rintro X rfl rfl rfl calm i pins s σ H E I young st ⟨xs, x, hs, hx⟩
    obtain ⟨old, he⟩ := st.ob
    obtain ⟨us, rel, isT, _⟩ := I.tuple hs
    obtain ⟨u, hu, ru⟩ := rel.get hx
    have inE : e < s.heap.objs.size := Heap.lt_size he
    have inI : it < s.heap.objs.size := by
      obtain ⟨_, q, _⟩ := st.ti
      exact Heap.lt_size q
    have lt : i < us.toArray.size := by
      have := (List.getElem?_eq_some_iff.mp hu).1
      simpa using this
    have apart : e ∉ [it, a] := fun m => by
      rcases two m with z | z
      · exact st.n1 z
      · exact st.n3 z.symm
    refine wpAny_pyNext_enum_itemC (Draws.tuple (prog := X.prog) (w := X.w) (A := X.A.in1) (I.ok.hd calm) it a st.n2 us.toArray) he ⟨st.ti, isT⟩ lt st.n1 apart fun y h1 tk gy own it1 pair _ same => ?_
    have ey : y = u := by
      have g1 : us.toArray[i]? = some y := gy
      rw [show us.toArray[i]? = some u by simpa using hu] at g1
      exact (Option.some.inj g1).symm
    subst ey
    refine ⟨_, rfl, wpAny_letOwnedTupleGo_enum (s := { s with heap := h1, toks := tk + 1 }) own fun h2 e2 off => ?_⟩
    generalize hp : s.heap.objs.size = p at *
    have far : ∀ b, b ∈ [e, it] → b ≠ p := fun b m z => by
      rcases two m with y | y
      · rw [← y, z] at inE
        exact Nat.lt_irrefl _ inE
      · rw [← y, z] at inI
        exact Nat.lt_irrefl _ inI
    have out : ∀ {b : Addr}, b ∉ [e, it] → b ≠ e ∧ b ≠ it := fun {b} n => ⟨fun z => n (by rw [z]; exact List.mem_cons_self), fun z => n (by rw [z]; exact List.mem_cons_of_mem _ List.mem_cons_self)⟩
    have pair2 : h2.get? p = some { cls := .type "tuple", data := .seq #[.int i tk, y] } := (off.2 p (far e List.mem_cons_self).symm).trans pair
    have J : Inv X pins σ (upd H p (.tup [.int (i : Nat), x])) { s with heap := h2, toks := tk + 1 } :=
      I.turnedNew (ch := [e, it]) (fun b o n q => (off.2 b (out n).1).trans (same b o (out n).1 (out n).2 q)) young (Nat.le_of_eq hp) ⟨by show 2 ≤ sizeLine; decide, [.int i tk, y], .cons ⟨_, rfl⟩ (.cons ru .nil), ⟨_, pair2, rfl, _, rfl⟩⟩
    refine ⟨.ref p, _, J, rfl, ⟨p, x, rfl, I.hok.fresh (Nat.le_of_eq hp), rfl, fun ys hy => ?_⟩, ⟨⟨y, ?_⟩, ?_, st.n1, st.n2, st.n3⟩, fun b m => ?_⟩
    · rw [I.tuple_inj hy hs]
      exact hx
    · rw [show ((i + 1 : Nat) : Int) = (i : Int) + 1 from Int.natCast_add i 1]
      exact e2
    · exact it1.1.at fun o q => (off.2 it st.n1.symm).trans q
    · exact (upd_ne (far b m)).trans (young b m).1
  done := by
    rintro X rfl rfl rfl calm i pins s σ H E I young st ⟨xs, hs, hx⟩
    obtain ⟨old, he⟩ := st.ob
    obtain ⟨us, rel, isT, _⟩ := I.tuple hs
    have len : us.toArray.size = i := by
      have := rel.length
      simp
      omega
    have y1 := young it (List.mem_cons_of_mem _ List.mem_cons_self)
    refine wpAny_pyNext_enum_endD (Draws.tuple (prog := X.prog) (w := X.w) (A := X.A.in1) (I.ok.hd calm) it a st.n2 us.toArray) he (by rw [len]; exact ⟨st.ti, isT⟩) fun h1 eb => ⟨rfl, ?_⟩
    exact I.turned (t' := s.toks) (fun b o n q => eb b o n q) y1.1 y1.2.1 y1.2.2.2.1 y1.2.2.2.2.1 y1.2.2.2.2.2
  self := fun A i s Q E st h => by
    obtain ⟨old, he⟩ := st.ob
    exact wpAny_pyIter_enum he h
def iEnumT (K : PySem.W.Frag) (ta : TA) : TI := fun σ H R => ta σ H fun vs H1 => ∃ a xs, vs = [.ref a] ∧ SqT K H1 a xs ∧ R (IteT K a) H1
theorem pi_enumT {X : Cx} {K : PySem.W.Frag} {e : Expr} {ta : TA} {p pos tpos : Pos} {elts : List Expr} {kk : Nat} (hK : X.K = K) (hg : Gl X "enumerate") (hm : X.mg "enumerate" = none) (ha : PA X [e] ta) (hs : starEach [e] X.env = [(false, eval e X.env)] := by rfl) :
    PI X (.Tuple elts kk tpos) (.Call (.Name "enumerate" p) [e] [] pos) (iEnumT K ta) := by
  subst hK
  constructor
  intro pins s σ H R I wish
  refine Call_ (ld_blt I hg hm boot_enumerate (PyProof.Rows.callWith_type1 (thn (ha.run pos pins s σ H _ I wish) ?_) hs rfl))
  rintro us s1 ⟨vs, H1, I1, rel, a, xs, rfl, sq, q⟩
  cases rel with
  | cons r0 r1 =>
    cases r1
    cases r0
    obtain ⟨us, _, isT, _⟩ := I1.tuple sq
    have inA : a < s1.heap.objs.size := by
      obtain ⟨o, ho, _⟩ := id isT
      exact Heap.lt_size ho
    refine run_enumT (show s1.heap.IsTuple a us.toArray from isT) (wpAny_pyIter_enum (eHeap_ob s1.heap a) ?_)
    have J : Inv X pins σ H1 { s1 with heap := eHeap s1.heap a } := I1.kept (t' := s1.toks) fun b o z => eHeap_keep z
    refine ⟨s1.heap.objs.size + 1, [s1.heap.objs.size + 1, s1.heap.objs.size], _, _, H1, rfl, J, turn_enumT a _ _, ⟨⟨.none, eHeap_ob s1.heap a⟩, ⟨_, eHeap_it s1.heap a, rfl, rfl⟩, Nat.succ_ne_self _, Nat.ne_of_lt inA, Nat.ne_of_lt (Nat.lt_succ_of_lt inA)⟩, fun b m => ?_, q⟩
    have hb : s1.heap.objs.size ≤ b := by
      rcases two m with rfl | rfl
      · exact Nat.le_succ _
      · exact Nat.le_refl _
    exact I1.fpOk hb (I1.hok.fresh hb)
end PDI
namespace PDX
open PySem PySem.Spec L2 PyProof.Rows
section
variable {fs : List Addr} {P : Program} {w : World} {A B : Hp} {h0 h1 h2 G : Heap} {p : Addr} {o : HO}
/-- seen from a smaller heap, without the object at p -/
theorem un_from (u : Un fs [] (upd A p o) B h1 h2) (le : ∀ x v, h0.get? x = some v → h1.get? x = some v) (off : ∀ x v, h0.get? x = some v → x ≠ p) (hp : A p = none) : Un fs [] A B h0 h2 := by
  have same : ∀ {x : Addr}, x ≠ p → upd A p o x = A x := fun z => upd_ne z
  have told : ∀ {x : Addr} {v : HO}, A x = some v → x ≠ p := fun {x v} e z => by rw [z, hp] at e; cases e
  constructor
  · intro x v e n f q
    exact u.keep x v (le x v e) ((same (off x v e)).trans n) f q
  · intro x v e n f q
    exact u.slot x v (le x v e) ((same (off x v e)).trans n) f q
  · intro x v e n q
    exact u.free x v (le x v e) ((same (off x v e)).trans n) q
  · intro x v e q
    exact u.there x v (le x v e) q
  · intro x v e
    exact u.tups x v ((same (told e)).trans e)
  · intro x v y e
    exact u.frzs x v y ((same (told e)).trans e)
  · intro x v e
    exact u.tbls x v ((same (told e)).trans e)
/-- .. and from the heap behind it that lacks it too -/
theorem un_less (u : Un fs [] A B h0 h2) (eq : ∀ x, x ≠ p → G.get? x = h2.get? x) (off : ∀ x v, h0.get? x = some v → x ≠ p) (hp : A p = none) : Un fs [] A (del B p) h0 G := by
  have told : ∀ {x : Addr} {v : HO}, A x = some v → del B p x = B x := fun {x v} e => del_ne fun z => by rw [z, hp] at e; cases e
  constructor
  · intro x v e n f q
    exact (eq x (off x v e)).trans (u.keep x v e n f q)
  · intro x v e n f q
    obtain ⟨l, hl⟩ := u.slot x v e n f q
    exact ⟨l, (eq x (off x v e)).trans hl⟩
  · intro x v e n q
    exact (del_ne (off x v e)).trans (u.free x v e n q)
  · intro x v e q
    obtain ⟨y, hy⟩ := u.there x v e q
    exact ⟨y, (eq x (off x v e)).trans hy⟩
  · intro x v e
    exact (told e).trans (u.tups x v e)
  · intro x v y e
    exact (told e).trans (u.frzs x v y e)
  · intro x v e
    obtain ⟨l, hl⟩ := u.tbls x v e
    exact ⟨l, (told e).trans hl⟩
theorem hok_less {C : Addr} (ok : HOk P w B h2) (ep : B p = some (exo p C none)) (eq : ∀ x, x ≠ p → G.get? x = h2.get? x) : HOk P w (del B p) G := by
  have other : ∀ {x : Addr} {v : HO}, B x = some v → exo p C none ≠ v → x ≠ p := fun {x v} e d z => by
    rw [z, ep] at e
    exact d (Option.some.inj e)
  intro x v e
  by_cases z : x = p
  · subst z
    rw [del_same] at e
    cases e
  · rw [del_ne z] at e
    refine ObjOk.stay (ok x v e) ?_ ?_ ?_
    · rintro y v2 (rfl | hy) q
      · exact (eq _ z).trans q
      · exact (eq _ (other hy exo_own)).trans q
    · intro y hy
      exact (del_ne (other hy exo_own)).trans hy
    · intro y l hy
      exact (del_ne (other hy exo_tup)).trans hy
end
/-- C() -/
def tMk0 (C : Addr) (sp : Sp) : L2.St → Hp → XK → Prop := fun σ H Q => ∀ a, H a = none → sp [.ref a] (upd H a (exo a C none)) (fun v H2 => v = .non ∧ H2 a = some (exo a C none) ∧ Q (.ref C) none (del H2 a)) (fun _ _ _ => False)
section
variable {X : Cx} {pos p : Pos}
/-- what such an __init__ leaves -/
theorem bare_end {pins : List (Addr × Obj)} {σ : L2.St} {H H2 : Hp} {Q : XK} {s s2 : Shared} {hm : Heap} {a C : Addr} (T : OexC X.K C) (I : L2.Inv X pins σ H s) (ha : s.heap.objs.size ≤ a) (le : ∀ x v, s.heap.get? x = some v → hm.get? x = some v)
    (u : Un (frs X.stack) [] (upd H a (exo a C none)) H2 hm s2.heap) (ok : HOk X.prog X.w H2 s2.heap) (os : s2.os = s.os) (bare : AllBare s2.gens) (ea : H2 a = some (exo a C none)) (q : Q (.ref C) none (del H2 a)) : MkP X pins σ Q (.ref a) s2 := by
  have off : ∀ x v, s.heap.get? x = some v → x ≠ a := by
    rintro x v e rfl
    exact absurd (Heap.lt_size e) (Nat.not_lt.mpr ha)
  have na : H a = none := I.hok.fresh ha
  obtain ⟨t, ho⟩ := exo_at ok ea
  obtain ⟨G, same, gone⟩ := restrict s2.heap fun x => !decide (x = a)
  have eq : ∀ x, x ≠ a → G.get? x = s2.heap.get? x := fun x hx => same x (by simp [hx])
  have ga : G.get? a = none := gone a (by simp)
  have J : L2.Inv X pins σ (del H2 a) { s2 with heap := G } := I.call' (ch := []) os (un_less (un_from u le off na) eq off na) (hok_less ok ea eq) bare (by simp)
  refine ⟨a, _, _, { s2 with heap := G }, del H2 a, .ref C, none, rfl, J, fun x v e => ?_, ga, ho, ⟨rfl, rfl⟩, rfl, rfl, del_same, rfl, bare, raises_own T.exC T.tyC, q⟩
  have hx : x ≠ a := fun z => by rw [z, ga] at e; cases e
  exact (eq x hx).symm.trans e
theorem pmk_oe0 {CX : CXT} {x : Str} {C fI : Addr} {k : Nat} {fd : FuncData} {ps : List Str} {sp : Sp} (T : OexC X.K C) (iC : PySem.W.findIn X.K (.ref C) "__init__" = some (some (.ref fI))) (tI : PySem.W.typeIn X.K (.ref fI) = some (.type "function"))
    (F1 : FnOk X.prog X.w X.K X.mg X.base CX k fI fd ps sp) (hr : Room (k + 1) X.A) (hb : Binds X.K fd ps []) (hx : Passes CX X (fun _ _ _ => False)) (hg : Gl X x) (hm : X.mg x = some (.ref C))
    (hdb : (x == ("__debug__" : Str)) = false := by decide) : PMk X (.Call (.Name x p) [] [] pos) (tMk0 C sp) := by
  intro pins s σ H Q I wish
  obtain ⟨_, _, _, _, bm, _, _, _, _, _, _, _, _, _, _, hC, hv⟩ := T.cls
  refine wpAny_Call_Name_kw (ld_glob I hg hm (PySem.W.callWith_K0 I.kIn T.kC ?_) hdb)
  show wpAny _ _ (call (.ref C) []) _ _ _
  -- the two objects that a call lays: the arguments' tuple, the exception
  generalize ea : s.heap.objs.size + 1 = a
  have lo : s.heap.objs.size ≤ a := by omega
  obtain ⟨hm', ehm⟩ : ∃ z : Heap, z = (s.heap.push (PySem.W.kdv_tup [])).push (PySem.HandSPX.excO C s.heap.objs.size) := ⟨_, rfl⟩
  have le : ∀ y v, s.heap.get? y = some v → hm'.get? y = some v := fun y v e => by
    rw [ehm]
    exact Heap.get?_push_of_some _ (Heap.get?_push_of_some _ e)
  have at_ : hm'.get? a = some (PySem.HandSPX.excO C s.heap.objs.size) := by
    rw [ehm, ← ea]
    heap_get
  have W1 := wish a (I.hok.fresh lo)
  have I1 : L2.Inv X pins σ (upd H a (exo a C none)) { s with heap := hm' } := I.laid (t' := s.toks) (h' := hm') le lo (exo_ok at_)
  have n1 := F1.len _ _ _ _ W1
  have call := F1.run _ X.stack _ _ ⟨[Value.ref a], []⟩ [Value.ref a] _ _ (fun _ _ _ => False) (hr.make C [] []) (I1.env0.make C [] []) (hb _ [Value.ref a] I1.kIn (by simpa using n1)) (show Vals [V.ref a] [Value.ref a] from .cons rfl .nil) W1
  subst ehm
  subst ea
  refine wpAny_call (PySem.HandSPX.call_own F.excBase_ValueError (fun Y => PySem.HandSPX.refsVE_contains Y bm hv) (I.kIn _ _ hC) (PySem.W.looks_findIn I.kIn iC) (fun self => PySem.W.bind_fn I.kIn self tI) (Nat.zero_le _) (codeAny_mono call fun out s2 got => ?_))
  rcases out with er | fl
  · exact hx pins σ _ _ er s2 I1 got
  · cases fl <;> first
      | exact got.elim
      | (obtain ⟨v, H2, o2, b2, u2, k2, rv, ev, ee, wq⟩ := got
         subst ev
         exact ⟨rv, bare_end T I lo le u2 k2 o2 b2 ee wq⟩)
end
end PDX
namespace PD
open PySem PySem.Spec PyProof.Rows L2
open RZ (iZipA ItzT)
open PDX PDI
abbrev FX := List D → (D → Prop) → (XV → Prop) → Prop
def spX (K : PySem.W.Frag) (F : FX) : Sp := fun vs H Q E => ∃ (W : Wd) (M : Addr → Prop) (ds : List D) (P : D → Prop) (X : XV → Prop), W.K = K ∧ Wf W M H ∧ Reps W M H vs ds ∧ F ds P X ∧
  (∀ v d H', StOk W H' → Keep W H H' → Rep W M H' v d → P d → Q v H') ∧ ∀ cls dx x H', StOk W H' → Keep W H H' → XRep W M H' cls dx x → X x → E cls dx H'
theorem spX_len {K : PySem.W.Frag} {F : FX} {n : Nat} (hF : ∀ ds P X, F ds P X → ds.length = n) (vs : List V) (H : Hp) (Q : VK) (E : XK) (h : spX K F vs H Q E) : vs.length = n := by
  obtain ⟨W, M, ds, P, X, _, _, r, f, _⟩ := h
  rw [r.length]
  exact hF ds P X f
theorem body_ofX {K : PySem.W.Frag} {F : FX} {vs : List V} {H : Hp} {Q : VK} {E : XK} {N : List Str} {t : TS} (h : spX K F vs H Q E)
    (hb : ∀ W ds P X, W.K = K → F ds P X → SX W (fun cls d _ H => E cls d H) t (startD N.length ds) (fun _ => P .non) P (fun _ => False) (fun _ => False) (fun x _ => X x)) : t { nx := fun _ H' => Q .non H', rt := Q } (L2.start N vs) H := by
  obtain ⟨W, M, ds, P, X, e, w, r, f, q, qx⟩ := h
  exact hb W ds P X e f M H M _ H _ ⟨w, start_slots N r⟩ ⟨Keep.refl _, fun _ x => x, fun a x y => absurd x y⟩
    ⟨fun M' σ' δ' H' p' e' x => q .non .non H' p'.wf.g e'.k .non x, fun v d H' g k r' x => q v d H' g k r' x, fun _ _ _ _ _ _ x => x.elim, fun _ _ _ _ _ _ x => x.elim, fun M' σ' δ' H' cls d x p' e' rx hx => qx cls d x H' p'.wf.g e'.k (rx.anti e'.m) hx⟩
/-- a call of a def that may raise, where it does not -/
theorem passF {X : Cx} : Passes (L2.CX X.prog X.w) X (fun _ _ _ => False) := fun _ _ _ _ _ _ _ h => by
  obtain ⟨_, _, _, _, _, _, _, _, _, _, _, _, z⟩ := h
  exact z.elim
theorem ev_callX {W : Wd} {δ : DS} {F : FX} {ta : TA} {P : D → Prop} (h : EvA W ta δ fun ds => F ds P fun _ => False) : EvD W (tCall (spX W.K F) [] (fun _ _ _ => False) ta) δ P := fun M σ H p Q q =>
  h M σ H p _ fun vs ds H1 g1 k1 r1 h1 => ⟨W, M, ds, P, fun _ => False, rfl, p.wf.next g1 k1, by rw [List.append_nil]; exact r1, h1, fun v d H2 g2 k2 r2 h2 => q v d H2 g2 (k1.trans k2) r2 h2, fun _ _ _ _ _ _ _ z => z.elim⟩
section
variable {W : Wd} {Wx : WX} {X : XV → DS → Prop} {δ : DS} {N : DS → Prop} {R : D → Prop} {B C : DS → Prop} {ta : TA} {F : FX}
theorem XRep.keep {M : Addr → Prop} {H H' : Hp} {cls : Value} {d : Option Addr} {x : XV} (w : Wf W M H) (k : Keep W H H') (h : XRep W M H cls d x) : XRep W M H' cls d x := by
  obtain ⟨h1, h2⟩ := h
  refine ⟨h1, ?_⟩
  cases d with
  | none => exact h2
  | some dx =>
    obtain ⟨ne, fs, h6, h3, h5, h4⟩ := h2
    refine ⟨ne, fs, h6, k dx _ (fun e => ?_) h3, h5, h4.keep w k⟩
    obtain ⟨_, q⟩ := StOk.at w.g e
    rw [h3] at q
    cases q
/-- a call that may raise, as a statement -/
theorem callX_core {M0 M : Addr → Prop} {H0 H1 : Hp} {σ : L2.St} {vs : List V} {ds : List D} {E : Ends} {Q : VK} {P : D → Prop} (p : Pre W M δ σ H1) (e : Ent W M0 H0 M H1) (r : Reps W M H1 vs ds) (o : Outs W Wx M0 H0 N R B C X E) (hF : F ds P fun x => X x δ)
    (hQ : ∀ v d H2, StOk W H2 → Keep W H1 H2 → Rep W M H2 v d → P d → Q v H2) : spX W.K F vs H1 Q (WE Wx σ) :=
  ⟨W, M, ds, P, fun x => X x δ, rfl, p.wf, r, hF, hQ, fun cls dx x H2 g2 k2 r2 hx => o.xw M σ δ H2 cls dx x (p.next g2 k2) (e.next k2) r2 hx⟩
theorem sx_drop (h : EvA W ta δ fun ds => F ds (fun _ => N δ) fun x => X x δ) : SX W Wx (tDrop (tCallS (spX W.K F) (WE Wx) ta)) δ N R B C X := fun M0 H0 M σ H E p e o =>
  h M σ H p _ fun vs ds H1 g1 k1 r1 h1 => callX_core (p.next g1 k1) (e.next k1) r1 o h1 fun v d H2 g2 k2 r2 hN => o.nx M σ δ H2 ((p.next g1 k1).next g2 k2) ((e.next k1).next k2) hN
theorem sx_ret (h : EvA W ta δ fun ds => F ds R fun x => X x δ) : SX W Wx (tRet (tCallS (spX W.K F) (WE Wx) ta)) δ N R B C X := fun M0 H0 M σ H E p e o =>
  h M σ H p _ fun vs ds H1 g1 k1 r1 h1 => callX_core (p.next g1 k1) (e.next k1) r1 o h1 fun v d H2 g2 k2 r2 hR => o.rt v d H2 g2 ((e.k.trans k1).trans k2) (r2.anti e.m) hR
/-- what an __init__ that stores nothing keeps -/
def spI0 (K : PySem.W.Frag) : Sp := fun vs H Q _ => ∃ a C, vs = [.ref a] ∧ OexC K C ∧ H a = some (exo a C none) ∧ Q .non H
/-- what an __init__ that stores its one argument keeps -/
def spI1 (K : PySem.W.Frag) (f : Str) : Sp := fun vs H Q _ => ∃ a C y, vs = [.ref a, y] ∧ OexC K C ∧ PySem.W.findIn K (.ref C) f = some none ∧ H a = some (exo a C none) ∧
  ∀ dx, H dx = none → dx ≠ a → Q .non (upd (upd H dx (exd dx [(f, y)])) a (exo a C (some dx)))
/-- raise C(e), C's one field f -/
theorem sx_raise1 {C' : Addr} {f : Str} {ta : TA} (hC : OexC W.K C') (hf : PySem.W.findIn W.K (.ref C') f = some none) (h : EvA W ta δ fun ds => ∃ d, ds = [d] ∧ X (C', [(f, d)]) δ) : SX W Wx (fun _ σ H => tMkO C' (spI1 W.K f) [] ta σ H fun cls d H' => Wx cls d σ H') δ N R B C X := fun M0 H0 M σ H E p e o =>
  h M σ H p _ fun vs ds H1 g1 k1 r1 h1 => by
    obtain ⟨d, rfl, hX⟩ := h1
    cases r1 with
    | @cons v vs d ds r1 r2 =>
      cases r2
      refine ⟨by show 1 ≤ 1000; decide, fun a ha => ⟨a, C', v, rfl, hC, hf, upd_same, fun dx hdx hne => ⟨rfl, dx, [(f, v)], upd_same, ?_, ?_, ?_⟩⟩⟩
      · rw [upd_ne hne, upd_same]
      · rw [upd_ne hne] at hdx
        exact hdx
      · have hd1 : H1 dx = none := by
          rw [upd_ne hne] at hdx
          exact hdx
        have eH : upd (del (upd (upd (upd H1 a (exo a C' none)) dx (exd dx [(f, v)])) a (exo a C' (some dx))) a) dx (.xd [(f, v)]) = upd H1 dx (.xd [(f, v)]) := by
          funext b
          by_cases e1 : b = dx
          · subst e1
            simp [del, upd]
          · by_cases e2 : b = a
            · subst e2
              simp [del, upd, e1, ha]
            · simp [del, upd, e1, e2]
        rw [eH]
        have kn : Keep W H1 (upd H1 dx (.xd [(f, v)])) := Keep.new hd1
        have gn : StOk W (upd H1 dx (.xd [(f, v)])) := g1.new hd1
        have p1 := p.next g1 k1
        exact o.xw M σ δ _ _ (some dx) (C', [(f, d)]) (p1.next gn kn) ((e.next k1).next kn) ⟨rfl, (by simp), _, fun m => (by obtain ⟨o, ho⟩ := p1.wf.dom dx m; rw [hd1] at ho; cases ho), upd_same, rfl, .cons (r1.keep p1.wf kn) .nil⟩ hX
end
end PD
namespace PD
open PySem PySem.Spec PyProof.Rows L2
open RZ (iZipA ItzT)
open PDX PDI
def enumD (ds : List D) : List D := List.zipWith (fun (i : Nat) d => D.tup [.int i, d]) (List.range ds.length) ds
theorem enumD_length (ds : List D) : (enumD ds).length = ds.length := by
  unfold enumD
  rw [List.length_zipWith, List.length_range]
  omega
theorem enumD_get {ds : List D} {i : Nat} {d : D} (h : (enumD ds)[i]? = some d) : ∃ x, ds[i]? = some x ∧ d = .tup [.int i, x] := by
  have hl := (List.getElem?_eq_some_iff.mp h).1
  rw [enumD_length] at hl
  unfold enumD at h
  rw [List.getElem?_zipWith, List.getElem?_range hl, List.getElem?_eq_getElem hl] at h
  exact ⟨_, List.getElem?_eq_getElem hl, (Option.some.inj h).symm⟩
section
variable {W : Wd} {δ : DS} {ta : TA}
theorem src_enumT {M : Addr → Prop} {H1 : Hp} {a : Addr} {vs : List V} {ds : List D} (w : Wf W M H1) (hs : SqT W.K H1 a vs) (hr : Reps W M H1 vs ds) : Src W M (IteT W.K a) H1 (enumD ds) := fun M' hm hn i H2 k g => by
  have wg : Wg W M' H1 := ⟨w.g, fun b e => hm b (w.sm b e)⟩
  have wg2 : Wg W M' H2 := ⟨g, fun b e => hm b (w.sm b e)⟩
  have hs2 := sqT_keepM wg (k.mono hm) hs
  have hr2 : Reps W M' H2 vs ds := (hr.more hn).keepM wg (k.mono hm)
  refine ⟨fun hl => ⟨vs, hs2, by rw [hr2.length, hl, enumD_length]⟩, fun d hd => ?_⟩
  obtain ⟨x, hx, rfl⟩ := enumD_get hd
  obtain ⟨v, hv, rv⟩ := hr2.get hx
  refine ⟨⟨vs, v, hs2, hv⟩, fun z H3 yy => ?_⟩
  obtain ⟨T, x1, rfl, hT, rfl, f1⟩ := yy
  have e1 := f1 vs hs2
  rw [hv] at e1
  cases e1
  have kn : Keep W H2 (upd H2 T (.tup [.int (i : Nat), v])) := Keep.new hT
  exact ⟨g.new hT, kn, .tup (SqT.of upd_same) (.cons (.int _) (.cons (rv.keepG wg2 kn) .nil))⟩
theorem it_enumT {P : List D → Prop} (h : EvA W ta δ fun xs => ∃ ds, xs = [.tup ds] ∧ P (enumD ds)) : IterD W (iEnumT W.K ta) δ P := fun M σ H p R q => h M σ H p _ fun vs ds H1 g1 k1 r1 h1 => by
  obtain ⟨ds, rfl, hP⟩ := h1
  cases r1 with
  | cons r1 r2 =>
    cases r2
    cases r1 with
    | tup hs hr => exact ⟨_, _, rfl, hs, q _ H1 _ g1 k1 hP (src_enumT (p.wf.next g1 k1) hs hr)⟩
end
theorem lookup_D {W : Wd} {M : Addr → Prop} {H : Hp} {f : Str} : ∀ {fs : List (Str × V)} {ds : List D} {d : D}, Reps W M H (fs.map (·.2)) ds → ((fs.map (·.1)).zip ds).lookup f = some d → ∃ v, fs.lookup f = some v ∧ Rep W M H v d
  | [], ds, d, _, h => by simp at h
  | (g, v) :: fs, ds, d, r, h => by
    cases r with
    | @cons _ _ d0 ds0 r1 r2 =>
      rw [List.map_cons, List.zip_cons_cons, List.lookup_cons] at h
      rw [List.lookup_cons]
      cases hb : f == g with
      | true =>
        rw [hb] at h
        cases h
        exact ⟨v, rfl, r1⟩
      | false =>
        rw [hb] at h
        exact lookup_D r2 h
theorem ev_fld {W : Wd} {δ : DS} {te : TE} {f : Str} {P : D → Prop} (h : EvD W te δ fun x => ∃ C ns ds d, x = .ins C ns ds ∧ Cls W.K C ∧ NoAttr W.K C f ∧ (ns.zip ds).lookup f = some d ∧ P d) : EvD W (tFld W.K te f) δ P := fun M σ H p Q q =>
  h M σ H p _ fun v x H1 g1 k1 r1 h1 => by
    obtain ⟨C, ns, ds, d, rfl, hC, hn, hl, hP⟩ := h1
    cases r1 with
    | ins nM ha e r =>
      subst e
      obtain ⟨v, h2, h3⟩ := lookup_D r hl
      exact ⟨_, C, _, _, v, rfl, ha, hC, hn, h2, q v d H1 g1 k1 h3 hP⟩
theorem pe_fldK {X : Cx} {K : PySem.W.Frag} {e : Expr} {te : TE} {f : Str} {pos : Pos} (hK : X.K = K) (he : PE X e te) (hb : attributeBase e f X.env (eval e X.env) = eval e X.env) : PE X (.Attribute e f pos) (tFld K te f) := by
  subst hK
  exact pe_fld he hb
abbrev FI := Addr → List D → (List Str → List D → Prop) → (XV → Prop) → Prop
/-- what a class's __init__ keeps: the new object (at x, its dict at dx) gets its fields, the rest stands -/
def spInit (K : PySem.W.Frag) (F : FI) : Sp := fun vs H Q E => ∃ (W : Wd) (M : Addr → Prop) (x dx C : Addr) (ws : List V) (ds : List D) (P : List Str → List D → Prop) (X : XV → Prop), vs = .ref x :: ws ∧ W.K = K ∧ Wf W M H ∧ M x ∧ ¬ W.S x ∧
  H x = some (.ins C dx []) ∧ Reps W M H ws ds ∧ F C ds P X ∧
  (∀ H' fs es, StOk W H' → (∀ a o, a ≠ x → ¬ W.S a → H a = some o → H' a = some o) → H' x = some (.ins C dx fs) → Reps W M H' (fs.map (·.2)) es → P (fs.map (·.1)) es → Q .non H') ∧
  ∀ cls d y H', StOk W H' → (∀ a o, a ≠ x → ¬ W.S a → H a = some o → H' a = some o) → XRep W M H' cls d y → X y → E cls d H'
theorem spInit_len {K : PySem.W.Frag} {F : FI} {n : Nat} (hF : ∀ C ds P X, F C ds P X → ds.length + 1 = n) (vs : List V) (H : Hp) (Q : VK) (E : XK) (h : spInit K F vs H Q E) : vs.length = n := by
  obtain ⟨W, M, x, dx, C, ws, ds, P, X, rfl, _, _, _, _, _, r, f, _⟩ := h
  show ws.length + 1 = n
  rw [r.length]
  exact hF C ds P X f
theorem make_core {W : Wd} {F : FI} {M : Addr → Prop} {H1 : Hp} {vs : List V} {ds : List D} {C : Addr} {Q : VK} {E : XK} {P : D → Prop} {X : XV → Prop} (w : Wf W M H1) (r : Reps W M H1 vs ds) (hF : F C ds (fun ns es => P (.ins C ns es)) X)
    (q : ∀ v d H', StOk W H' → Keep W H1 H' → Rep W M H' v d → P d → Q v H') (qx : ∀ cls d y H', StOk W H' → Keep W H1 H' → XRep W M H' cls d y → X y → E cls d H') :
    ∀ x dx, H1 x = none → H1 dx = none → dx ≠ x → spInit W.K F (.ref x :: (vs ++ [])) (upd (upd H1 dx (.own x)) x (.ins C dx [])) (fun v H2 => v = .non ∧ Q (.ref x) H2) E := fun x dx hx hd hne => by
  have kn : Keep W H1 (upd (upd H1 dx (.own x)) x (.ins C dx [])) := (Keep.new hd).trans (Keep.new (by rw [upd_ne hne.symm]; exact hx))
  have gn : StOk W (upd (upd H1 dx (.own x)) x (.ins C dx [])) := (w.g.new hd).new (by rw [upd_ne hne.symm]; exact hx)
  have nM : ¬ M x := fun m => by
    obtain ⟨o, ho⟩ := w.dom x m
    rw [hx] at ho
    cases ho
  have ns : ¬ W.S x := fun e => nM (w.sm x e)
  have hm : ∀ a, M a → M a ∨ a = x := fun a m => .inl m
  have wn : Wf W (fun a => M a ∨ a = x) (upd (upd H1 dx (.own x)) x (.ins C dx [])) := ⟨gn, fun a e => .inl (w.sm a e), fun a m => by
    rcases m with m | m
    · exact (w.next gn kn).dom a m
    · subst m
      exact ⟨_, upd_same⟩⟩
  have rn : Reps W (fun a => M a ∨ a = x) (upd (upd H1 dx (.own x)) x (.ins C dx [])) vs ds := (r.more fun a m n => by
    rcases m with m | m
    · exact absurd m n
    · subst m
      exact hx).keepG ⟨w.g, fun a e => .inl (w.sm a e)⟩ kn
  refine ⟨W, fun a => M a ∨ a = x, x, dx, C, vs, ds, _, X, by rw [List.append_nil], rfl, wn, .inr rfl, ns, upd_same, rn, hF, fun H' fs es g' k' hx' re hP => ⟨rfl, ?_⟩, fun cls d y H' g' k' rx hX => qx cls d y H' g' (fun a o na ho => k' a o (ne_of_none ho hx) na (kn a o na ho)) (rx.anti hm) hX⟩
  have kk : Keep W H1 H' := fun a o na ho => k' a o (ne_of_none ho hx) na (kn a o na ho)
  exact q (.ref x) _ H' g' kk (.ins nM hx' rfl (re.anti hm)) hP
theorem ev_make {W : Wd} {δ : DS} {F : FI} {C : Addr} {ta : TA} {P : D → Prop} (h : EvA W ta δ fun ds => F C ds (fun ns es => P (.ins C ns es)) fun _ => False) : EvD W (tMake C (spInit W.K F) [] (fun _ _ _ => False) ta) δ P := fun M σ H p Q q =>
  h M σ H p _ fun vs ds H1 g1 k1 r1 h1 => make_core (p.wf.next g1 k1) r1 h1 (fun v d H2 g2 k2 r2 h2 => q v d H2 g2 (k1.trans k2) r2 h2) fun _ _ _ _ _ _ _ z => z.elim
/-- the last rows of an __init__: self.f = a; self.g = b -/
theorem init_body2 {K : PySem.W.Frag} {F : FI} {vs : List V} {H : Hp} {Q : VK} {E : XK} {N : List Str} {t1 t2 : TS} {f g : Str} {i j : Nat} (h : spInit K F vs H Q E) (hfg : f ≠ g)
    (hb : ∀ W C (x : Addr) ds P X, W.K = K → F C ds P X → Cls K C ∧ NoAttr K C f ∧ NoAttr K C g ∧ SX W (fun cls d _ H => E cls d H) (tSeq t1 t2) (startD N.length (.obj x :: ds)) (fun δ => ∃ y z, δ[0]? = some (some (.obj x)) ∧ δ[i]? = some (some y) ∧ δ[j]? = some (some z) ∧ P [f, g] [y, z]) (fun _ => False) (fun _ => False) (fun _ => False) (fun y _ => X y)) :
    tSeq t1 (tSeq t2 (tSeq (sFld K (tVar 0) (tVar i) f) (sFld K (tVar 0) (tVar j) g))) { nx := fun _ H' => Q .non H', rt := Q } (L2.start N vs) H := by
  obtain ⟨W, M, x, dx, C, ws, ds, P, X, rfl, e, w, mx, ns, hx, r, hF, q, qx⟩ := h
  obtain ⟨c1, c2, c3, hS⟩ := hb W C x ds P X e hF
  subst e
  have r0 : Reps W M H (.ref x :: ws) (.obj x :: ds) := .cons (.obj x) r
  refine hS M H M _ H { nx := tSeq (sFld W.K (tVar 0) (tVar i) f) (sFld W.K (tVar 0) (tVar j) g) { nx := fun _ H' => Q .non H', rt := Q }, rt := Q } ⟨w, start_slots N r0⟩ ⟨Keep.refl _, fun _ z => z, fun a z y => absurd z y⟩
    ⟨fun M' σ δ H' p' e' hN => ?_, fun _ _ _ _ _ _ z => z.elim, fun _ _ _ _ _ _ z => z.elim, fun _ _ _ _ _ _ z => z.elim, fun M' σ' δ' H' cls d y p' e' rx hX => qx cls d y H' p'.wf.g (fun a o _ ns ho => e'.k a o ns ho) (rx.anti e'.m) hX⟩
  obtain ⟨y, z, h0, hi, hj, hP⟩ := hN
  obtain ⟨v0, s0, q0⟩ := p'.sl.get 0 _ h0
  cases q0
  obtain ⟨v1, s1, q1⟩ := p'.sl.get i _ hi
  obtain ⟨v2, s2, q2⟩ := p'.sl.get j _ hj
  have hx' := e'.k x _ ns hx
  refine ⟨v1, s1, _, s0, x, C, dx, [], rfl, hx', c1, c2, by decide, ?_⟩
  refine ⟨v2, s2, _, s0, x, C, dx, [(f, v1)], rfl, upd_same, c1, c3, by show 1 < 1000; decide, ?_⟩
  have ep : putF g v2 [(f, v1)] = [(f, v1), (g, v2)] := by
    show (if f = g then _ else (f, v1) :: putF g v2 []) = _
    rw [if_neg hfg]
    rfl
  show Q .non (upd (upd H' x (.ins C dx (putF f v1 []))) x (.ins C dx (putF g v2 [(f, v1)])))
  rw [upd_upd, ep]
  have hM : M' x := e'.m x mx
  have isL : ∀ s, W.s = some s → s ≠ x := fun s hs e => ns (Wd.S_of hs e.symm)
  have gg : StOk W (upd H' x (.ins C dx [(f, v1), (g, v2)])) := fun s hs => by
    obtain ⟨n1, i1, c1, m1, a1, a2, a3, a4⟩ := p'.wf.g s hs
    refine ⟨n1, i1, c1, m1, by rw [upd_ne (isL s hs)]; exact a1, a2, ?_, a4⟩
    rw [upd_ne (ne_of a3 hx' (by intro z; cases z))]
    exact a3
  have up : ∀ {v : V} {d : D}, Rep W M' H' v d → Rep W M' (upd H' x (.ins C dx [(f, v1), (g, v2)])) v d := fun r => r.upd (rdT_ins hx') hM
  exact q _ [(f, v1), (g, v2)] [y, z] gg (fun a o na nsa ho => by rw [upd_ne na]; exact e'.k a o nsa ho) upd_same ((Reps.cons (up q1) (.cons (up q2) .nil)).anti e'.m) hP
end PD
namespace PD
open PySem PySem.Spec PyProof.Rows L2
open RZ (iZipA ItzT)
open PDX PDI
/-- a class's own def -/
structure DefM (K : PySem.W.Frag) (x qual : Str) (st : Stmt) (ps : List Str) where
  f : Addr
  d : FuncData
  F : L2.Fun K x qual st f d
  b : Binds K d ps []
/-- an exception class that stands under its name -/
structure ExcT (K : PySem.W.Frag) (mg : Str → Option Value) (x : Str) (fI : Addr) where
  C : Addr
  g : mg x = some (.ref C)
  o : OexC K C
  i : PySem.W.findIn K (.ref C) "__init__" = some (some (.ref fI))
/-- an instance's class: what isinstance asks -/
structure OCls (K : PySem.W.Frag) (C : Addr) : Prop where
  cl : Cls K C
  ha : PySem.W.findIn K (.ref C) "__class__" = some (some (.builtin "object.__class__"))
  hn : PySem.W.specialIn K (.builtin "object.__class__") "__get__" = some (some (.builtin "getset_descriptor.__get__"))
  ht : PySem.W.takesIn K (.builtin "object.__class__") = some true
  hm : PySem.W.mroIn K C (.type "object") = some true
  kI : PySem.W.kitOne K (.ref C) (.type "int") = some false
  kB : PySem.W.kitOne K (.ref C) (.type "bool") = some false
  kT : PySem.W.kitOne K (.ref C) (.type "tuple") = some false
  kS : PySem.W.kitOne K (.ref C) (.type "str") = some false
/-- a class whose objects are made -/
structure ClsT (K : PySem.W.Frag) (mg : Str → Option Value) (x : Str) (fI : Addr) where
  C : Addr
  g : mg x = some (.ref C)
  m : Mk K C fI
  o : OCls K C
mutual
def Jd (K : PySem.W.Frag) : D → Prop
  | .ins C _ _ => OCls K C
  | .tup xs => JdA K xs
  | .lst xs => JdA K xs
  | .ty _ => False
  | .st => False
  | .obj _ => False
  | .exc _ _ _ _ => False
  | .xob _ _ _ => False
  | .dik _ _ => False
  | _ => True
def JdA (K : PySem.W.Frag) : List D → Prop
  | [] => True
  | x :: xs => Jd K x ∧ JdA K xs
end
def Jd1 (K : PySem.W.Frag) : D → Prop
  | .ins C _ _ => OCls K C
  | x => x.tyName.isSome = true
theorem jd_ty {K : PySem.W.Frag} {x : D} (h : Jd K x) : Jd1 K x := by
  cases x <;> first | rfl | (simp only [Jd] at h; done) | (simp only [Jd] at h; exact h)
theorem jd_mem {K : PySem.W.Frag} {xs : List D} (h : JdA K xs) {x : D} (hx : x ∈ xs) : Jd K x := by
  induction xs with
  | nil => cases hx
  | cons y ys ih =>
    simp only [JdA] at h
    rcases List.mem_cons.mp hx with rfl | hx
    · exact h.1
    · exact ih h.2 hx
theorem jdA_of {K : PySem.W.Frag} {xs : List D} (h : ∀ x ∈ xs, Jd K x) : JdA K xs := by
  induction xs with
  | nil => simp only [JdA]
  | cons y ys ih =>
    simp only [JdA]
    exact ⟨h y List.mem_cons_self, ih fun x hx => h x (List.mem_cons_of_mem _ hx)⟩
section
variable {W : Wd} {δ : DS} {P : D → Prop} {ta : TA}
theorem tyxO {M : Addr → Prop} {H : Hp} {v : V} {C : Addr} {ns : List Str} {ds : List D} (o : OCls W.K C) (r : Rep W M H v (.ins C ns ds)) : TyX W.K H v (.ref C) := by
  cases r with
  | ins n e _ _ => exact .base (.ins e o.cl o.ha o.hn o.ht o.hm)
theorem rc_isiO {C : Addr} {ns : List Str} {ds : List D} {n : String} (o : OCls W.K C) (hk : PySem.W.kitOne W.K (.ref C) (.type n) = some false) (h : P (.bl false)) : RCD W (rIsi W.K) [.ins C ns ds, .ty n] P := fun M H vs w r Q q => by
  cases r with
  | cons r1 r2 =>
    cases r2 with
    | cons r2 r3 =>
      cases r3
      cases r2
      exact ⟨_, _, _, _, false, rfl, .ty n, tyxO o r1, hk, q _ _ H w.g (Keep.refl H) (.bl false) h⟩
theorem rc_isiIJ {x : D} (hx : Jd1 W.K x) (h : P (.bl (x.isInt || x.isBl))) : RCD W (rIsi W.K) [x, .ty "int"] P := by
  cases x with
  | ins C ns ds => exact rc_isiO hx hx.kI h
  | _ => exact rc_isiI hx h
theorem rc_isiBJ {x : D} (hx : Jd1 W.K x) (h : P (.bl x.isBl)) : RCD W (rIsi W.K) [x, .ty "bool"] P := by
  cases x with
  | ins C ns ds => exact rc_isiO hx hx.kB h
  | _ => exact rc_isiB hx h
theorem rc_isiTJ {x : D} (hx : Jd1 W.K x) (h : P (.bl x.isTup)) : RCD W (rIsi W.K) [x, .ty "tuple"] P := by
  cases x with
  | ins C ns ds => exact rc_isiO hx hx.kT h
  | _ => exact rc_isiT hx h
theorem newU {M : Addr → Prop} {H : Hp} {p : Addr} {kvs : List (Key × V)} (w : Wf W M H) (hp : H p = none) : StOk W (upd H p (.dK kvs)) ∧ Keep W H (upd H p (.dK kvs)) ∧ Rep W M (upd H p (.dK kvs)) (.ref p) .dct :=
  ⟨w.g.new hp, Keep.new hp, .dct (fun m => by
    obtain ⟨o, ho⟩ := w.dom p m
    rw [hp] at ho
    cases ho) upd_same⟩
theorem ev_dnew (h : P .dct) : EvD W tDNewK δ P := fun M σ H p Q q a ha => by
  obtain ⟨x1, x2, x3⟩ := newU (kvs := []) p.wf ha
  exact q _ _ _ x1 x2 x3 h
theorem ev_disp1 {i j : Int} (h : P .dct) : EvD W (tDisp [(tC (.int i), tC (.int j))]) δ P := fun M σ H p Q q a ha => by
  refine ⟨upd_same, [(.inl i, .int j)], rfl, by show 1 ≤ 15; decide, ?_⟩
  rw [upd_upd]
  obtain ⟨x1, x2, x3⟩ := newU (kvs := mergeK [] [(.inl i, .int j)]) p.wf ha
  exact q _ _ _ x1 x2 x3 h
theorem reps_flat {M : Addr → Prop} {H : Hp} {vs : List V} {ds : List D} (r : Reps W M H vs ds) : ∀ n : Nat, Reps W M H (List.replicate n vs).flatten (List.replicate n ds).flatten
  | 0 => .nil
  | n + 1 => by
    rw [List.replicate_succ, List.replicate_succ, List.flatten_cons, List.flatten_cons]
    exact r.append (reps_flat r n)
theorem rd_repT {xs : List D} {k : Int} (hne : xs ≠ []) (h2 : 2 ≤ k) (hk : k ≤ 1000) (hl : xs.length ≤ 1000) (h : P (.tup (List.replicate k.toNat xs).flatten)) : RD W (rRepT W.K) (.tup xs) (.int k) P := fun M H v u w r1 r2 Q q => by
  cases r2
  cases r1 with
  | @tup a vs ds hs hr =>
    refine ⟨a, k, vs, rfl, rfl, hs, fun e => hne ?_, h2, hk, by rw [hr.length]; exact hl, fun p hp => ?_⟩
    · subst e
      cases hr
      rfl
    · obtain ⟨x1, x2, x3⟩ := newT w (reps_flat hr k.toNat) hp
      exact q _ _ _ x1 x2 x3 h
/-- a part of a slice -/
def EvO (W : Wd) (to : TO) (δ : DS) (P : Option Int → Prop) : Prop := ∀ (M : Addr → Prop) (σ : L2.St) (H : Hp), Pre W M δ σ H → ∀ Q : Option Int → Hp → Prop, (∀ o H', StOk W H' → Keep W H H' → P o → Q o H') → to σ H Q
theorem eo_none {P : Option Int → Prop} (h : P none) : EvO W tNoPart δ P := fun M σ H p Q q => q none H p.wf.g (Keep.refl H) h
theorem eo_some {P : Option Int → Prop} {te : TE} (h : EvD W te δ fun d => ∃ i, d = .int i ∧ P (some i)) : EvO W (tPart te) δ P := fun M σ H p Q q => h M σ H p _ fun v d H1 g1 k1 r1 h1 => by
  obtain ⟨i, rfl, hP⟩ := h1
  cases r1
  exact ⟨i, rfl, q (some i) H1 g1 k1 hP⟩
def cutD (xs : List D) (lo hi : Option Int) : List D := (xs.drop (HT.sIx xs.length 0 lo)).take (HT.sIx xs.length xs.length hi - HT.sIx xs.length 0 lo)
theorem Reps.drop {M : Addr → Prop} {H : Hp} : ∀ {vs : List V} {ds : List D} (n : Nat), Reps W M H vs ds → Reps W M H (vs.drop n) (ds.drop n)
  | _, _, 0, r => by rw [List.drop_zero, List.drop_zero]; exact r
  | _, _, _ + 1, .nil => .nil
  | _, _, n + 1, .cons _ t => Reps.drop n t
theorem Reps.take {M : Addr → Prop} {H : Hp} : ∀ {vs : List V} {ds : List D} (n : Nat), Reps W M H vs ds → Reps W M H (vs.take n) (ds.take n)
  | _, _, 0, _ => by rw [List.take_zero, List.take_zero]; exact .nil
  | _, _, _ + 1, .nil => .nil
  | _, _, n + 1, .cons r t => .cons r (Reps.take n t)
theorem cut_all {xs : List D} {lo hi : Option Int} (h : HT.sIx xs.length 0 lo = 0 ∧ HT.sIx xs.length xs.length hi = xs.length) : cutD xs lo hi = xs := by
  unfold cutD
  rw [h.1, h.2, List.drop_zero, Nat.sub_zero, List.take_length]
theorem ev_sl {te : TE} {tl th : TO} (h : EvD W te δ fun x => ∃ xs, x = .tup xs ∧ EvO W tl δ fun lo => EvO W th δ fun hi => P (.tup (cutD xs lo hi))) : EvD W (tSl (rSlA W.K) te tl th) δ P := fun M σ H p Q q =>
  h M σ H p _ fun v x H1 g1 k1 r1 h1 => by
    obtain ⟨xs, rfl, h1⟩ := h1
    have p1 := p.next g1 k1
    refine h1 M σ H1 p1 _ fun lo H2 g2 k2 h2 => ?_
    have p2 := p1.next g2 k2
    refine h2 M σ H2 p2 _ fun hi H3 g3 k3 h3 => ?_
    have p3 := p2.next g3 k3
    have r3 := (r1.keep p1.wf k2).keep p2.wf k3
    cases r3 with
    | @tup a vs ds hs hr =>
      have hl := hr.length
      refine ⟨a, vs, rfl, hs, fun z => ?_, fun z l hn => ?_⟩
      · refine q _ _ H3 g3 ((k1.trans k2).trans k3) (.tup hs hr) ?_
        rw [hl] at z
        have e : P (.tup (cutD xs lo hi)) := h3
        rw [cut_all z] at e
        exact e
      · have rr : Reps W M H3 (cutV vs lo hi) (cutD xs lo hi) := by
          unfold cutV cutD
          rw [hl]
          exact (hr.drop _).take _
        obtain ⟨x1, x2, x3⟩ := newT p3.wf rr hn
        exact q _ _ _ x1 (((k1.trans k2).trans k3).trans x2) x3 h3
end
end PD
namespace PD
open PySem PySem.Spec PyProof.Rows L2
open PDX PDI
def clB (K : PySem.W.Frag) (C fI : Addr) : Bool := PySem.W.plainGet K C Str.empty && PySem.W.hasDictIn K C && PySem.W.plainOver K C && decide (PySem.W.findIn K (.ref C) "__setattr__" = some (some (.builtin "object.__setattr__"))) &&
  decide (PySem.W.findIn K (.ref C) "__class__" = some (some (.builtin "object.__class__"))) && decide (PySem.W.specialIn K (.builtin "object.__class__") "__get__" = some (some (.builtin "getset_descriptor.__get__"))) &&
  decide (PySem.W.takesIn K (.builtin "object.__class__") = some true) && decide (PySem.W.mroIn K C (.type "object") = some true) && decide (PySem.W.kitOne K (.ref C) (.type "int") = some false) &&
  decide (PySem.W.kitOne K (.ref C) (.type "bool") = some false) && decide (PySem.W.kitOne K (.ref C) (.type "tuple") = some false) && decide (PySem.W.kitOne K (.ref C) (.type "str") = some false) && PySem.W.makesIn K C && decide (PySem.W.findIn K (.ref C) "__init__" = some (some (.ref fI))) && PySem.W.isFn K (.ref fI) && PySem.W.keepIn K (.ref C)
theorem cls_of {K : PySem.W.Frag} {C fI : Addr} (q : clB K C fI = true) : OCls K C ∧ Mk K C fI := by
  unfold clB at q
  simp only [Bool.and_eq_true, decide_eq_true_eq] at q
  obtain ⟨⟨⟨⟨⟨⟨⟨⟨⟨⟨⟨⟨⟨⟨⟨h1, h2⟩, h3⟩, h4⟩, h5⟩, h6⟩, h7⟩, h8⟩, h9⟩, h10⟩, h11⟩, h11'⟩, h12⟩, h13⟩, h14⟩, h15⟩ := q
  exact ⟨⟨⟨h1, h2, h3, h4⟩, h5, h6, h7, h8, h9, h10, h11, h11'⟩, h12, h13, h14, h15⟩
def D.isNon : D → Bool
  | .non => true
  | _ => false
section
variable {W : Wd} {P : D → Prop}
theorem rep_non {M : Addr → Prop} {H : Hp} {v : V} {x : D} (r : Rep W M H v x) : decide (v = V.non) = x.isNon := by
  cases r <;> first | rfl | exact decide_eq_false (by intro z; cases z)
theorem rd_isN {x : D} (h : P (.bl x.isNon)) : RD W (fun x y H Q => y = V.non ∧ Q (V.bl (decide (x = V.non))) H) x .non P := fun M H v u w r1 r2 Q q => by
  cases r2
  refine ⟨rfl, ?_⟩
  rw [rep_non r1]
  exact q _ _ H w.g (Keep.refl H) (.bl _) h
theorem rd_notN {x : D} (h : P (.bl (!x.isNon))) : RD W (fun x y H Q => y = V.non ∧ Q (V.bl (!decide (x = V.non))) H) x .non P := fun M H v u w r1 r2 Q q => by
  cases r2
  refine ⟨rfl, ?_⟩
  rw [rep_non r1]
  exact q _ _ H w.g (Keep.refl H) (.bl _) h
end
/-- what the __init__ of the first class of the errors keeps -/
theorem init0_body {K : PySem.W.Frag} {vs : List V} {H : Hp} {Q : VK} {E : XK} {N : List Str} (h : spI0 K vs H Q E) : tDrop (tVeI K (tCons (tVar 0) tNil)) { nx := fun _ H' => Q .non H', rt := Q } (L2.start N vs) H := by
  obtain ⟨a, C, rfl, hC, e, q⟩ := h
  refine ⟨.ref a, rfl, a, C, [], rfl, Nat.zero_le _, hC, e, q⟩
end PD
namespace PDT
open PySem PySem.Spec L2 PyProof.Rows
end PDT
namespace PD
open PySem PySem.Spec PyProof.Rows L2
open PDX PDI PDT
end PD
namespace PD
open PySem PySem.Spec PyProof.Rows L2
mutual
def D.lays : D → Nat → Bool
  | .non, _ | .bl _, _ | .int _, _ => true
  | .tup xs, n + 1 => D.laysA xs n
  | .lst xs, n + 1 => D.laysA xs n
  | _, _ => false
def D.laysA : List D → Nat → Bool
  | [], _ => true
  | x :: xs, n => x.lays n && D.laysA xs n
end
mutual
theorem lays_ok : ∀ {x : D} {n : Nat}, x.lays n = true → x.plain = true ∧ x.py.canLay0 = true ∧ x.py.depth ≤ n
  | .non, _, _ => by simp [D.plain, D.py, PyData.canLay0, PyData.depth]
  | .bl _, _, _ => by simp [D.plain, D.py, PyData.canLay0, PyData.depth]
  | .int _, _, _ => by simp [D.plain, D.py, PyData.canLay0, PyData.depth]
  | .tup xs, n + 1, h => by
    have e := laysA_ok (xs := xs) (n := n) (by simpa [D.lays] using h)
    simp [D.plain, D.py, PyData.canLay0, PyData.depth, e.1, e.2.1, e.2.2]
  | .lst xs, n + 1, h => by
    have e := laysA_ok (xs := xs) (n := n) (by simpa [D.lays] using h)
    simp [D.plain, D.py, PyData.canLay0, PyData.depth, e.1, e.2.1, e.2.2]
  | .tup _, 0, h => by simp [D.lays] at h
  | .lst _, 0, h => by simp [D.lays] at h
  | .str _, _, h => by simp [D.lays] at h
  | .ty _, _, h => by simp [D.lays] at h
  | .st, _, h => by simp [D.lays] at h
  | .obj _, _, h => by simp [D.lays] at h
  | .dct, _, h => by simp [D.lays] at h
  | .ins _ _ _, _, h => by simp [D.lays] at h
  | .exc _ _ _ _, _, h => by simp [D.lays] at h
  | .xob _ _ _, _, h => by simp [D.lays] at h
  | .dic _ _, _, h => by simp [D.lays] at h
  | .dik _ _, _, h => by simp [D.lays] at h
theorem laysA_ok : ∀ {xs : List D} {n : Nat}, D.laysA xs n = true → D.plains xs = true ∧ PyData.canLayAll0 (D.pys xs) = true ∧ PyData.depthAll (D.pys xs) ≤ n
  | [], n, _ => by simp [D.plains, D.pys, PyData.canLayAll0, PyData.depthAll]
  | x :: xs, n, h => by
    simp only [D.laysA, Bool.and_eq_true] at h
    have a := lays_ok h.1
    have b := laysA_ok h.2
    simp [D.plains, D.pys, PyData.canLayAll0, PyData.depthAll, a.1, a.2.1, b.1, b.2.1]
    exact Nat.max_le.mpr ⟨a.2.2, b.2.2⟩
end
theorem lays_fine {x : D} {n : Nat} (h : x.lays n = true) (hn : n ≤ 64) : x.fine = true := by
  obtain ⟨a, b, c⟩ := lays_ok h
  show (x.plain && SeqAt.shaped x.py) = true
  rw [a, Bool.true_and]
  show (x.py.canLay0 && decide (x.py.depth ≤ 64)) = true
  rw [b, Bool.true_and]
  exact decide_eq_true (by omega)
theorem laysA_of {xs : List D} {n : Nat} (h : ∀ x ∈ xs, x.lays n = true) : D.laysA xs n = true := by
  induction xs with
  | nil => simp only [D.laysA]
  | cons y ys ih =>
    simp only [D.laysA, Bool.and_eq_true]
    exact ⟨h y List.mem_cons_self, ih fun x hx => h x (List.mem_cons_of_mem _ hx)⟩
theorem lays_tup {xs : List D} {n : Nat} (h : ∀ x ∈ xs, x.lays n = true) : (D.tup xs).lays (n + 1) = true := by simp only [D.lays]; exact laysA_of h
mutual
def D.slim : D → Bool
  | .int i => decide (i.natAbs < 10000000000000000000000000000000000000000)
  | .tup xs | .lst xs => decide (xs.length ≤ 1000) && D.slims xs
  | _ => true
def D.slims : List D → Bool
  | [] => true
  | x :: xs => D.slim x && D.slims xs
end
mutual
theorem slim_small : ∀ {x : D}, D.slim x = true → x.small = true
  | .int i, h => by
    simp only [D.slim] at h
    simp only [D.small]
    exact decide_eq_true (lt_pow (m := 134) (sz40 (of_decide_eq_true h)) (by decide))
  | .tup xs, h => by
    simp only [D.slim, Bool.and_eq_true] at h
    simp only [D.small]
    exact slims_small h.2
  | .lst xs, h => by
    simp only [D.slim, Bool.and_eq_true] at h
    simp only [D.small]
    exact slims_small h.2
  | .non, _ | .bl _, _ | .str _, _ | .ty _, _ | .st, _ | .obj _, _ | .dct, _ | .ins _ _ _, _ | .exc _ _ _ _, _ | .xob _ _ _, _ | .dic _ _, _ | .dik _ _, _ => by simp only [D.small]
theorem slims_small : ∀ {xs : List D}, D.slims xs = true → D.smalls xs = true
  | [], _ => by simp only [D.smalls]
  | x :: xs, h => by
    simp only [D.slims, Bool.and_eq_true] at h
    simp only [D.smalls, Bool.and_eq_true]
    exact ⟨slim_small h.1, slims_small h.2⟩
end
theorem slims_mem {xs : List D} (h : D.slims xs = true) {x : D} (hx : x ∈ xs) : x.slim = true := by
  induction xs with
  | nil => cases hx
  | cons y ys ih =>
    simp only [D.slims, Bool.and_eq_true] at h
    rcases List.mem_cons.mp hx with rfl | hx
    · exact h.1
    · exact ih h.2 hx
theorem slims_of {xs : List D} (h : ∀ x ∈ xs, x.slim = true) : D.slims xs = true := by
  induction xs with
  | nil => simp only [D.slims]
  | cons y ys ih =>
    simp only [D.slims, Bool.and_eq_true]
    exact ⟨h y List.mem_cons_self, ih fun x hx => h x (List.mem_cons_of_mem _ hx)⟩
/-- what may be passed here: judged and slim -/
structure Gd (K : PySem.W.Frag) (x : D) : Prop where
  j : Jd K x
  s : x.slim = true
theorem Gd.small {K : PySem.W.Frag} {x : D} (h : Gd K x) : x.small = true := slim_small h.s
theorem Gd.ty {K : PySem.W.Frag} {x : D} (h : Gd K x) : Jd1 K x := jd_ty h.j
theorem Gd.tup {K : PySem.W.Frag} {xs : List D} (h : ∀ x ∈ xs, Gd K x) (hl : xs.length ≤ 1000) : Gd K (.tup xs) := ⟨by
    simp only [Jd]
    exact jdA_of fun x hx => (h x hx).j, by
    simp only [D.slim, Bool.and_eq_true]
    exact ⟨decide_eq_true hl, slims_of fun x hx => (h x hx).s⟩⟩
theorem Gd.lst {K : PySem.W.Frag} {xs : List D} (h : ∀ x ∈ xs, Gd K x) (hl : xs.length ≤ 1000) : Gd K (.lst xs) := ⟨by
    simp only [Jd]
    exact jdA_of fun x hx => (h x hx).j, by
    simp only [D.slim, Bool.and_eq_true]
    exact ⟨decide_eq_true hl, slims_of fun x hx => (h x hx).s⟩⟩
theorem Gd.mem {K : PySem.W.Frag} {xs : List D} (h : Gd K (.tup xs)) {x : D} (hx : x ∈ xs) : Gd K x := ⟨by
    have := h.j
    simp only [Jd] at this
    exact jd_mem this hx, by
    have := h.s
    simp only [D.slim, Bool.and_eq_true] at this
    exact slims_mem this.2 hx⟩
theorem Gd.len {K : PySem.W.Frag} {xs : List D} (h : Gd K (.tup xs)) : xs.length ≤ 1000 := by
  have := h.s
  simp only [D.slim, Bool.and_eq_true, decide_eq_true_eq] at this
  exact this.1
theorem Gd.int (K : PySem.W.Frag) {i : Int} (h : i.natAbs < 10000000000000000000000000000000000000000) : Gd K (.int i) := ⟨by simp only [Jd], by simp only [D.slim]; exact decide_eq_true h⟩
theorem Gd.non (K : PySem.W.Frag) : Gd K .non := ⟨by simp only [Jd], by simp only [D.slim]⟩
theorem Gd.fr (K : PySem.W.Frag) {p : Fr} (h1 : p.1.natAbs < 10000000000000000000000000000000000000000) (h2 : p.2.natAbs < 10000000000000000000000000000000000000000) : Gd K (fr p) := Gd.tup (fun x hx => by
  simp only [List.mem_cons, List.not_mem_nil, or_false] at hx
  rcases hx with rfl | rfl
  · exact .int K h1
  · exact .int K h2) (by show 2 ≤ 1000; decide)
theorem find_some {p : D → Bool} {xs : List D} {i : Nat} {d : D} (h : ∀ j, j < i → ∀ e, xs[j]? = some e → p e = false) (hd : xs[i]? = some d) (hp : p d = true) : xs.findIdx? p = some i := by
  have hi := (List.getElem?_eq_some_iff.mp hd).1
  rw [List.findIdx?_eq_some_iff_getElem]
  refine ⟨hi, ?_, fun j hj => ?_⟩
  · rw [List.getElem?_eq_getElem hi] at hd
    cases hd
    exact hp
  · rw [h j hj _ (List.getElem?_eq_getElem (by omega))]
    exact Bool.false_ne_true
theorem find_none {p : D → Bool} {xs : List D} (h : ∀ (j : Nat) (e : D), xs[j]? = some e → p e = false) : xs.findIdx? p = none := by
  rw [List.findIdx?_eq_none_iff]
  intro x hx
  obtain ⟨j, hj, rfl⟩ := List.mem_iff_getElem.mp hx
  exact h j _ (List.getElem?_eq_getElem hj)
def topD : D → Int
  | .tup (.int i :: _) => i
  | _ => 0
def botD : D → Int
  | .tup (_ :: .int i :: _) => i
  | _ => 0
def isPr : D → Bool
  | .tup [_, _] => true
  | _ => false
def items : D → List D
  | .tup xs => xs
  | _ => []
def hasLen : D → Bool
  | .tup xs => decide (1 ≤ xs.length) && decide (xs.length ≤ 10)
  | _ => false
def exOk (e : D) : Bool := decide (-6 ≤ topD e) && decide (topD e ≤ 6) && decide (botD e ≤ 4)
def isCl (n : Int) (x : D) : Bool := x.isNon || (isUn n x && (items x).all exOk)
def badRow (xs : List D) (e : D) : Bool := !hasLen e || decide (e.len ≠ D.len (xs.headD .non))
def badIn (n : Int) (e : D) : Bool := (items e).any fun c => !isCl n c
def wrongC (n : Int) (xs : List D) : D := match xs.findIdx? (badIn n) with
  | none => .non
  | some i => match (items (xs.getD i .non)).findIdx? (fun c => !isCl n c) with
    | none => .non
    | some j => .tup [.int i, .int j]
def wrongR (n : Int) (xs : List D) : D := match xs.findIdx? (badRow xs) with
  | some i => .tup [.int i]
  | none => wrongC n xs
def wrongD (b x : D) : D := if b.isInt && decide (1 ≤ b.toI) && decide (b.toI ≤ 3) then (if hasLen x then wrongR b.toI (items x) else .str "rows") else .str "bases"
theorem wrongD_in {n : Int} {x : D} (h1 : 1 ≤ n) (h3 : n ≤ 3) : wrongD (.int n) x = if hasLen x then wrongR n (items x) else .str "rows" := by
  unfold wrongD
  rw [if_pos]
  · rfl
  · show (true && decide (1 ≤ n) && decide (n ≤ 3)) = true
    rw [decide_eq_true h1, decide_eq_true h3]
    rfl
theorem wrongD_out {b x : D} (h : ¬ (b.isInt = true ∧ 1 ≤ b.toI ∧ b.toI ≤ 3)) : wrongD b x = .str "bases" := by
  unfold wrongD
  rw [if_neg]
  intro z
  simp only [Bool.and_eq_true, decide_eq_true_eq] at z
  exact h ⟨z.1.1, z.1.2, z.2⟩
theorem badRow_tup {xs cs ds : List D} (h : hasLen (.tup cs) = true) (e : xs.headD .non = .tup ds) : badRow xs (.tup cs) = !decide ((cs.length : Int) = ds.length) := by
  unfold badRow
  rw [h, e]
  show (!true || decide (¬ ((cs.length : Int) = ds.length))) = _
  by_cases hh : (cs.length : Int) = ds.length
  · rw [decide_eq_true hh, decide_eq_false (fun z => z hh)]
    rfl
  · rw [decide_eq_false hh, decide_eq_true hh]
    rfl
theorem fr_of {x : D} (h : isFr x = true) : ∃ p : Fr, x = fr p ∧ IsF p := by
  unfold isFr at h
  split at h
  · rename_i a b
    simp only [Bool.and_eq_true] at h
    obtain ⟨⟨⟨h1, h2⟩, h3⟩, h4⟩ := h
    obtain ⟨i, rfl⟩ := isInt_of h1
    obtain ⟨j, rfl⟩ := isInt_of h2
    exact ⟨(i, j), rfl, of_decide_eq_true h3, of_decide_eq_true h4⟩
  · cases h
theorem frs_all {xs : List D} (h : xs.all isFr = true) : ∃ u : List Fr, xs = u.map fr ∧ ∀ p ∈ u, IsF p := by
  induction xs with
  | nil => exact ⟨[], rfl, fun p hp => by cases hp⟩
  | cons x xs ih =>
    rw [List.all_cons, Bool.and_eq_true] at h
    obtain ⟨p, rfl, hp⟩ := fr_of h.1
    obtain ⟨u, rfl, hu⟩ := ih h.2
    refine ⟨p :: u, rfl, fun q hq => ?_⟩
    rcases List.mem_cons.mp hq with rfl | hq
    · exact hp
    · exact hu q hq
theorem isUn_of {n : Int} {x : D} (h : isUn n x = true) : ∃ u : List Fr, x = un u ∧ (u.length : Int) = n ∧ ∀ p ∈ u, IsF p := by
  cases x with
  | tup xs =>
    simp only [isUn, Bool.and_eq_true] at h
    obtain ⟨u, rfl, hu⟩ := frs_all h.2
    have := of_decide_eq_true h.1
    rw [List.length_map] at this
    exact ⟨u, rfl, this, hu⟩
  | _ => cases h
theorem is_un {n : Int} {x : D} (h1 : 1 ≤ n) (h3 : n ≤ 3) : (isAny x && decide (x.len = n)) = isUn n x := by
  cases x with
  | tup xs =>
    show ((decide (1 ≤ xs.length) && decide (xs.length ≤ 3) && xs.all isFr) && decide ((xs.length : Int) = n)) = (decide ((xs.length : Int) = n) && xs.all isFr)
    by_cases hn : (xs.length : Int) = n
    · rw [decide_eq_true hn, decide_eq_true (show 1 ≤ xs.length by omega), decide_eq_true (show xs.length ≤ 3 by omega)]
      cases xs.all isFr <;> rfl
    · rw [decide_eq_false hn]
      cases (decide (1 ≤ xs.length) && decide (xs.length ≤ 3) && xs.all isFr) <;> rfl
  | _ => rfl
theorem tup_of {x : D} (h : x.isTup = true) : ∃ xs, x = .tup xs := by
  cases x <;> first | exact ⟨_, rfl⟩ | cases h
theorem hasLen_of {x : D} (h : hasLen x = true) : ∃ xs, x = .tup xs ∧ 1 ≤ xs.length ∧ xs.length ≤ 10 := by
  cases x with
  | tup xs =>
    simp only [hasLen, Bool.and_eq_true, decide_eq_true_eq] at h
    exact ⟨xs, rfl, h.1, h.2⟩
  | _ => cases h
/-- a grid that is right: its rows are of units and noughts -/
structure GridOk (n : Int) (xs : List D) : Prop where
  n1 : 1 ≤ n
  n3 : n ≤ 3
  l1 : 1 ≤ xs.length
  l10 : xs.length ≤ 10
  rows : ∃ m : Nat, 1 ≤ m ∧ m ≤ 10 ∧ ∀ e ∈ xs, ∃ cs, e = .tup cs ∧ cs.length = m ∧ ∀ c ∈ cs, isCl n c = true
theorem cl_lays {n : Int} {c : D} (h : isCl n c = true) : c.lays 2 = true := by
  unfold isCl at h
  rw [Bool.or_eq_true] at h
  rcases h with h | h
  · cases c <;> first | rfl | cases h
  · rw [Bool.and_eq_true] at h
    obtain ⟨u, rfl, _, _⟩ := isUn_of h.1
    refine lays_tup fun x hx => ?_
    obtain ⟨p, _, rfl⟩ := List.mem_map.mp hx
    rfl
theorem GridOk.lays {n : Int} {xs : List D} (g : GridOk n xs) : (D.tup xs).lays 4 = true := by
  obtain ⟨m, _, _, h⟩ := g.rows
  refine lays_tup fun e he => ?_
  obtain ⟨cs, rfl, _, hc⟩ := h e he
  exact lays_tup fun c hc' => cl_lays (hc c hc')
end PD
namespace PD
open PySem PySem.Spec PyProof.Rows L2
theorem cl_un {n : Int} {u : List Fr} (h1 : (u.length : Int) = n) (h : ∀ p ∈ u, IsF p ∧ p.1.natAbs ≤ 6 ∧ p.2 ≤ 4) : isCl n (un u) = true := by
  unfold isCl
  rw [isUn_un h1 fun p hp => (h p hp).1, Bool.true_and, Bool.or_eq_true]
  right
  show (u.map fr).all exOk = true
  rw [List.all_map, List.all_eq_true]
  intro p hp
  have := h p hp
  show (decide (-6 ≤ p.1) && decide (p.1 ≤ 6) && decide (p.2 ≤ 4)) = true
  rw [decide_eq_true (show -6 ≤ p.1 by omega), decide_eq_true (show p.1 ≤ 6 by omega), decide_eq_true this.2.2]
  rfl
theorem cl_of {n : Int} {c : D} (h : isCl n c = true) : c = .non ∨ ∃ u : List Fr, c = un u ∧ (u.length : Int) = n ∧ ∀ p ∈ u, IsF p ∧ p.1.natAbs ≤ 6 ∧ p.2 ≤ 4 := by
  unfold isCl at h
  rw [Bool.or_eq_true, Bool.and_eq_true] at h
  rcases h with h | ⟨h, h2⟩
  · left
    cases c <;> first | rfl | cases h
  · right
    obtain ⟨u, rfl, hl, hf⟩ := isUn_of h
    refine ⟨u, rfl, hl, fun p hp => ⟨hf p hp, ?_⟩⟩
    have := List.all_eq_true.mp h2 (fr p) (List.mem_map.mpr ⟨p, hp, rfl⟩)
    have e : exOk (fr p) = (decide (-6 ≤ p.1) && decide (p.1 ≤ 6) && decide (p.2 ≤ 4)) := rfl
    rw [e] at this
    simp only [Bool.and_eq_true, decide_eq_true_eq] at this
    omega
theorem cl_gd {K : PySem.W.Frag} {n : Int} {c : D} (hn : n ≤ 3) (h : isCl n c = true) : Gd K c := by
  rcases cl_of h with rfl | ⟨u, rfl, hl, hu⟩
  · exact .non K
  · refine Gd.tup (fun x hx => ?_) (by rw [List.length_map]; omega)
    obtain ⟨p, hp, rfl⟩ := List.mem_map.mp hx
    have := hu p hp
    have := this.1.1
    exact .fr K (by omega) (by omega)
end PD
namespace PD
open PySem PySem.Spec PyProof.Rows L2
theorem bad_row0 {xs : List D} {i : Nat} {d : D} (h : ∀ j, j < i → ∀ e, xs[j]? = some e → badRow xs e = false) (hd : xs[i]? = some d) (hl : hasLen d = true) : ∃ r0 : D, xs[0]? = some r0 ∧ hasLen r0 = true ∧ xs.headD .non = r0 := by
  cases xs with
  | nil => simp at hd
  | cons y ys =>
    refine ⟨y, rfl, ?_, rfl⟩
    by_cases hi : i = 0
    · subst hi
      cases hd
      exact hl
    · have := h 0 (by omega) y rfl
      unfold badRow at this
      simp only [Bool.or_eq_false_iff, Bool.not_eq_false'] at this
      exact this.1
end PD
namespace PD
open PySem PySem.Spec PyProof.Rows L2
end PD
namespace PD
open PySem PySem.Spec PyProof.Rows L2
open PDX PDI PDT
abbrev Om := List (Addr × List D)
def Own (W : Wd) (M0 M : Addr → Prop) (H : Hp) (ω : Om) : Prop := ∀ a ds, (a, ds) ∈ ω → M a ∧ ¬ M0 a ∧ ¬ W.S a ∧ (∀ s, W.s = some s → W.b ≠ a) ∧ ∃ vs, H a = some (.lst vs) ∧ Reps W M H vs ds
/-- from where a loop began: its own lists may have changed -/
structure EntM (W : Wd) (M1 : Addr → Prop) (H1 : Hp) (M : Addr → Prop) (H : Hp) : Prop where
  k : KeepM W M1 H1 H
  m : ∀ a, M1 a → M a
  new : ∀ a, M a → ¬ M1 a → H1 a = none
/-- from the entry, and from the loop -/
structure In2 (W : Wd) (M0 : Addr → Prop) (H0 : Hp) (M1 : Addr → Prop) (H1 : Hp) (M : Addr → Prop) (H : Hp) : Prop where
  e : Ent W M0 H0 M H
  l : EntM W M1 H1 M H
structure OutsO (W : Wd) (Wx : WX) (M0 : Addr → Prop) (H0 : Hp) (M1 : Addr → Prop) (H1 : Hp) (N : Om → DS → Prop) (R : D → Prop) (B C : Om → DS → Prop) (X : XV → DS → Prop) (E : Ends) : Prop where
  nx : ∀ M σ ω δ H, Pre W M δ σ H → Own W M0 M H ω → In2 W M0 H0 M1 H1 M H → N ω δ → E.nx σ H
  rt : ∀ v d H, StOk W H → Keep W H0 H → Rep W M0 H v d → R d → E.rt v H
  bk : ∀ M σ ω δ H, Pre W M δ σ H → Own W M0 M H ω → In2 W M0 H0 M1 H1 M H → B ω δ → E.bk σ H
  ct : ∀ M σ ω δ H, Pre W M δ σ H → Own W M0 M H ω → In2 W M0 H0 M1 H1 M H → C ω δ → E.ct σ H
  xw : ∀ M σ δ H cls d x, Pre W M δ σ H → Ent W M0 H0 M H → XRep W M H cls d x → X x δ → Wx cls d σ H
def SO (W : Wd) (Wx : WX) (ts : TS) (ω : Om) (δ : DS) (N : Om → DS → Prop) (R : D → Prop) (B C : Om → DS → Prop) (X : XV → DS → Prop) : Prop :=
  ∀ (M0 : Addr → Prop) (H0 : Hp) (M1 : Addr → Prop) (H1 : Hp) (M : Addr → Prop) (σ : L2.St) (H : Hp) (E : Ends), (∀ a, M0 a → ∃ o, H0 a = some o) → Pre W M δ σ H → Own W M0 M H ω → In2 W M0 H0 M1 H1 M H → OutsO W Wx M0 H0 M1 H1 N R B C X E → ts E σ H
section
variable {W : Wd} {Wx : WX} {X : XV → DS → Prop} {ω : Om} {δ : DS} {N : Om → DS → Prop} {R : D → Prop} {B C : Om → DS → Prop} {te tl : TE} {t : TT} {ts tu : TS} {ta : TA} {g : TG}
theorem Ent.refl (M : Addr → Prop) (H : Hp) : Ent W M H M H := ⟨Keep.refl _, fun _ x => x, fun _ x y => absurd x y⟩
theorem Ent.trans {M0 M M2 : Addr → Prop} {H0 H H2 : Hp} (wf : Wf W M H) (e : Ent W M0 H0 M H) (x : Ent W M H M2 H2) : Ent W M0 H0 M2 H2 := ⟨e.k.trans x.k, fun a ha => x.m a (e.m a ha), fun a ha hn => by
  by_cases hM : M a
  · exact e.new a hM hn
  · have h1 := x.new a ha hM
    cases h0 : H0 a with
    | none => rfl
    | some oo =>
      rw [e.k a oo (fun z => hM (wf.sm a z)) h0] at h1
      cases h1⟩
theorem EntM.refl (M : Addr → Prop) (H : Hp) : EntM W M H M H := ⟨fun _ _ _ _ h => h, fun _ x => x, fun _ x y => absurd x y⟩
theorem EntM.trans {M0 M M2 : Addr → Prop} {H0 H H2 : Hp} (e : EntM W M0 H0 M H) (x : EntM W M H M2 H2) (wf : Wf W M H) : EntM W M0 H0 M2 H2 := ⟨fun a o n l h => x.k a o n (fun ma => by
    by_cases m0 : M0 a
    · exact l m0
    · rw [e.new a ma m0] at h
      cases h) (e.k a o n l h), fun a ha => x.m a (e.m a ha), fun a ha hn => by
  by_cases hM : M a
  · exact e.new a hM hn
  · have h1 := x.new a ha hM
    cases h0 : H0 a with
    | none => rfl
    | some oo =>
      rw [e.k a oo (fun z => hM (wf.sm a z)) (fun z => absurd z hn) h0] at h1
      cases h1⟩
theorem Ent.toM {M M2 : Addr → Prop} {H H2 : Hp} (x : Ent W M H M2 H2) : EntM W M H M2 H2 := ⟨x.k.toM, x.m, x.new⟩
theorem In2.trans {M0 M1 M M2 : Addr → Prop} {H0 H1 H H2 : Hp} (e : In2 W M0 H0 M1 H1 M H) (wf : Wf W M H) (x : Ent W M H M2 H2) : In2 W M0 H0 M1 H1 M2 H2 := ⟨e.e.trans wf x, e.l.trans x.toM wf⟩
theorem In2.next {M0 M1 M : Addr → Prop} {H0 H1 H H2 : Hp} (e : In2 W M0 H0 M1 H1 M H) (wf : Wf W M H) (k : Keep W H H2) : In2 W M0 H0 M1 H1 M H2 := e.trans wf ⟨k, fun _ x => x, fun _ x y => absurd x y⟩
theorem Own.move {M0 M M' : Addr → Prop} {H H' : Hp} (wf : Wf W M H) (wf' : Wf W M' H') (o : Own W M0 M H ω) (e : Ent W M H M' H') : Own W M0 M' H' ω := fun a ds m => by
  obtain ⟨h1, h2, h3, hb, vs, h4, h5⟩ := o a ds m
  exact ⟨e.m a h1, h2, h3, hb, vs, e.k a _ h3 h4, (h5.more e.new).keepG ⟨wf.g, fun a z => e.m a (wf.sm a z)⟩ e.k⟩
theorem Own.keep {M0 M : Addr → Prop} {H H' : Hp} (wf : Wf W M H) (o : Own W M0 M H ω) (k : Keep W H H') : Own W M0 M H' ω := fun a ds m => by
  obtain ⟨h1, h2, h3, hb, vs, h4, h5⟩ := o a ds m
  exact ⟨h1, h2, h3, hb, vs, k a _ h3 h4, h5.keep wf k⟩
/-- a statement that changes none of these lists -/
theorem so_lift (h : SX W Wx ts δ (N ω) R (B ω) (C ω) X) : SO W Wx ts ω δ N R B C X := fun M0 H0 M1 L1 M σ H E d0 p ow e o =>
  h M H M σ H E p (Ent.refl M H) ⟨fun M' σ' δ' H' p' e' x => o.nx M' σ' ω δ' H' p' (ow.move p.wf p'.wf e') (e.trans p.wf e') x, fun v d H' g k r x => o.rt v d H' g (e.e.k.trans k) (r.anti e.e.m) x,
    fun M' σ' δ' H' p' e' x => o.bk M' σ' ω δ' H' p' (ow.move p.wf p'.wf e') (e.trans p.wf e') x, fun M' σ' δ' H' p' e' x => o.ct M' σ' ω δ' H' p' (ow.move p.wf p'.wf e') (e.trans p.wf e') x,
    fun M' σ' δ' H' cls d x p' e' rx hx => o.xw M' σ' δ' H' cls d x p' (e.e.trans p.wf e') rx hx⟩
theorem so_seq (h : SO W Wx ts ω δ (fun ω' δ' => SO W Wx tu ω' δ' N R B C X) R B C X) : SO W Wx (tSeq ts tu) ω δ N R B C X := fun M0 H0 M1 L1 M σ H E d0 p ow e o =>
  h M0 H0 M1 L1 M σ H { E with nx := tu E } d0 p ow e ⟨fun M' σ' ω' δ' H' p' ow' e' hN => hN M0 H0 M1 L1 M' σ' H' E d0 p' ow' e' o, o.rt, o.bk, o.ct, o.xw⟩
theorem so_mono {N' : Om → DS → Prop} (h : SO W Wx ts ω δ N R B C X) (hN : ∀ ω δ, N ω δ → N' ω δ) : SO W Wx ts ω δ N' R B C X := fun M0 H0 M1 L1 M σ H E d0 p ow e o =>
  h M0 H0 M1 L1 M σ H E d0 p ow e ⟨fun M' σ' ω' δ' H' p' ow' e' x => o.nx M' σ' ω' δ' H' p' ow' e' (hN _ _ x), o.rt, o.bk, o.ct, o.xw⟩
theorem so_cut (Mid : Om → DS → Prop) (h : SO W Wx ts ω δ Mid R B C X) (k : ∀ ω' δ', Mid ω' δ' → SO W Wx tu ω' δ' N R B C X) : SO W Wx (tSeq ts tu) ω δ N R B C X := so_seq (so_mono h k)
theorem so_next (h : N ω δ) : SO W Wx tNext ω δ N R B C X := fun M0 H0 M1 L1 M σ H E d0 p ow e o => o.nx M σ ω δ H p ow e h
theorem so_if (h : EvT W t δ fun b => (b = true → SO W Wx ts ω δ N R B C X) ∧ (b = false → SO W Wx tu ω δ N R B C X)) : SO W Wx (tIfS t ts tu) ω δ N R B C X := fun M0 H0 M1 L1 M σ H E d0 p ow e o =>
  h M σ H p _ fun b H1 g1 k1 h1 => by
    cases b with
    | true =>
      rw [if_pos rfl]
      exact h1.1 rfl M0 H0 M1 L1 M σ H1 E d0 (p.next g1 k1) (ow.keep p.wf k1) (e.next p.wf k1) o
    | false =>
      rw [if_neg Bool.false_ne_true]
      exact h1.2 rfl M0 H0 M1 L1 M σ H1 E d0 (p.next g1 k1) (ow.keep p.wf k1) (e.next p.wf k1) o
theorem so_asg {i : Nat} (h : EvD W te δ fun d => N ω (δ.set i (some d))) : SO W Wx (tAsg te (gName i)) ω δ N R B C X := so_lift (sd_asg h)
/-- a new list of one's own -/
theorem so_new {i : Nat} (h : EvA W ta δ fun ds => ds.length ≤ 100000 ∧ ∀ p, (∀ x ∈ ω, x.1 ≠ p) → N ((p, ds) :: ω) (δ.set i (some (.obj p)))) : SO W Wx (tAsg (tLst ta) (gName i)) ω δ N R B C X := fun M0 H0 M1 L1 M σ H E d0 p ow e o =>
  h M σ H p _ fun vs ds H1 g1 k1 r1 ⟨hl, hP⟩ => ⟨len_ok (by rw [r1.length]; exact hl), fun a ha => by
    have p1 := p.next g1 k1
    have k2 : Keep W H1 (upd H1 a (.lst vs)) := Keep.new ha
    have g2 : StOk W (upd H1 a (.lst vs)) := g1.new ha
    have ns : ¬ W.S a := fun z => by
      obtain ⟨_, q⟩ := StOk.at g1 z
      rw [ha] at q
      cases q
    have off0 : H0 a = none := by
      cases h0 : H0 a with
      | none => rfl
      | some oo =>
        rw [(e.e.k.trans k1) a oo ns h0] at ha
        cases ha
    have n0 : ¬ M0 a := fun z => by
      obtain ⟨oo, ho⟩ := d0 a z
      rw [off0] at ho
      cases ho
    let M' : Addr → Prop := fun b => M b ∨ b = a
    have e2 : Ent W M H1 M' (upd H1 a (.lst vs)) := ⟨k2, fun _ x => .inl x, fun b x y => by
      rcases x with x | x
      · exact absurd x y
      · rw [x]; exact ha⟩
    have wf' : Wf W M' (upd H1 a (.lst vs)) := ⟨g2, fun b z => .inl (p1.wf.sm b z), fun b x => by
      rcases x with x | x
      · exact (p1.wf.next g2 k2).dom b x
      · rw [x]; exact ⟨_, upd_same⟩⟩
    have wg' : Wg W M' H1 := ⟨g1, fun b z => .inl (p1.wf.sm b z)⟩
    have sl : Slots W M' (upd H1 a (.lst vs)) σ δ := ⟨p1.sl.len, fun j d hd => by
      obtain ⟨v, a1, a2⟩ := p1.sl.get j d hd
      exact ⟨v, a1, (a2.more e2.new).keepG wg' k2⟩⟩
    refine o.nx M' _ ((a, ds) :: ω) _ _ ⟨wf', sl.set i (.obj a)⟩ (fun b es m => ?_) ((e.next p.wf k1).trans p1.wf e2) (hP a fun x hx z => ?_)
    · rcases List.mem_cons.mp m with m | m
      · cases m
        exact ⟨.inr rfl, n0, ns, fun s hs z => (by
          obtain ⟨_, _, _, _, _, _, q, _⟩ := g1 s hs
          rw [z, ha] at q
          cases q), vs, upd_same, (r1.more e2.new).keepG wg' k2⟩
      · exact (ow.keep p.wf k1).move p1.wf wf' e2 b es m
    · obtain ⟨_, _, _, _, vs', q, _⟩ := (ow.keep p.wf k1) x.1 x.2 hx
      rw [z, ha] at q
      cases q⟩
/-- an item's data, as a list holds them -/
def putO (ω : Om) (a : Addr) (f : List D → List D) : Om := ω.map fun x => if x.1 = a then (x.1, f x.2) else x
theorem mem_putO {a b : Addr} {f : List D → List D} {es : List D} (h : (b, es) ∈ putO ω a f) : ∃ ds, (b, ds) ∈ ω ∧ es = if b = a then f ds else ds := by
  obtain ⟨⟨c, ds⟩, h1, h2⟩ := List.mem_map.mp h
  by_cases hc : c = a
  · simp only [hc, if_pos] at h2
    cases h2
    rw [hc] at h1
    exact ⟨ds, h1, by rw [if_pos rfl]⟩
  · simp only [hc, if_false] at h2
    cases h2
    exact ⟨_, h1, by rw [if_neg hc]⟩
theorem Reps.setR {W : Wd} {M : Addr → Prop} {H : Hp} : ∀ {vs : List V} {ds : List D} (j : Nat) {v : V} {d : D}, Reps W M H vs ds → Rep W M H v d → Reps W M H (vs.set j v) (ds.set j d)
  | _, _, _, _, _, .nil, _ => .nil
  | _, _, 0, _, _, .cons _ t, r => .cons r t
  | _, _, j + 1, _, _, .cons x t, r => .cons x (t.setR j r)
/-- a list of one's own is changed -/
theorem own_upd {M0 M1 M : Addr → Prop} {H0 L1 H : Hp} {σ : L2.St} {a : Addr} {ds : List D} {us : List V} {f : List D → List D} (p : Pre W M δ σ H) (ow : Own W M0 M H ω) (e : In2 W M0 H0 M1 L1 M H) (d0 : ∀ a, M0 a → ∃ o, H0 a = some o) (hm : (a, ds) ∈ ω)
    (hr : ∀ ds, (a, ds) ∈ ω → Reps W M H us (f ds)) : Pre W M δ σ (upd H a (.lst us)) ∧ Own W M0 M (upd H a (.lst us)) (putO ω a f) ∧ In2 W M0 H0 M1 L1 M (upd H a (.lst us)) := by
  obtain ⟨hM, n0, ns, nb, vs, ha, _⟩ := ow a ds hm
  have up : ∀ {v : V} {d : D}, Rep W M H v d → Rep W M (upd H a (.lst us)) v d := fun r => r.upd (rdT_lst ha) hM
  have ups : ∀ {v : List V} {d : List D}, Reps W M H v d → Reps W M (upd H a (.lst us)) v d := fun r => r.upd (rdT_lst ha) hM
  have gg : StOk W (upd H a (.lst us)) := fun s hs => by
    obtain ⟨n1, i1, c1, m1, a1, a2, a3, a4⟩ := p.wf.g s hs
    exact ⟨n1, i1, c1, m1, by rw [upd_ne (fun z => ns (Wd.S_of hs z.symm))]; exact a1, a2, by rw [upd_ne (nb s hs)]; exact a3, a4⟩
  have off : H0 a = none := by
    by_cases z : M0 a
    · exact absurd z n0
    · exact e.e.new a hM z
  refine ⟨⟨⟨gg, p.wf.sm, fun b hb => ?_⟩, p.sl.len, fun j d hd => ?_⟩, fun b es m => ?_, ⟨⟨fun b o nsb hb => ?_, e.e.m, e.e.new⟩, ⟨fun b o nsb nl hb => ?_, e.l.m, e.l.new⟩⟩⟩
  · by_cases z : b = a
    · exact ⟨_, by rw [z]; exact upd_same⟩
    · obtain ⟨o, ho⟩ := p.wf.dom b hb
      exact ⟨o, by rw [upd_ne z]; exact ho⟩
  · obtain ⟨v, h1, h2⟩ := p.sl.get j d hd
    exact ⟨v, h1, up h2⟩
  · obtain ⟨ds', h1, rfl⟩ := mem_putO m
    obtain ⟨x1, x2, x3, x4, vs', x5, x6⟩ := ow b ds' h1
    by_cases z : b = a
    · subst z
      rw [if_pos rfl]
      exact ⟨x1, x2, x3, x4, us, upd_same, ups (hr ds' h1)⟩
    · rw [if_neg z]
      exact ⟨x1, x2, x3, x4, vs', by rw [upd_ne z]; exact x5, ups x6⟩
  · have z : b ≠ a := fun z => by rw [z, off] at hb; cases hb
    rw [upd_ne z]
    exact e.e.k b o nsb hb
  · have kept := e.l.k b o nsb nl hb
    have z : b ≠ a := fun z => by
      subst z
      rw [ha] at kept
      cases kept
      by_cases m1 : M1 b
      · exact nl m1 _ rfl
      · rw [e.l.new b hM m1] at hb
        cases hb
    rw [upd_ne z]
    exact kept
/-- xs.append(e) -/
theorem so_app {i : Nat} {a : Addr} {ds : List D} (hi : δ[i]? = some (some (.obj a))) (hm : (a, ds) ∈ ω) (hu : ∀ es, (a, es) ∈ ω → es.length < 100000) (h : EvA W ta δ fun xs => ∃ d, xs = [d] ∧ N (putO ω a fun es => es ++ [d]) δ) : SO W Wx (tDrop (tBM W.K "list" rAppend (tVar i) ta)) ω δ N R B C X := fun M0 H0 M1 L1 M σ H E d0 p ow e o => by
  obtain ⟨v, s1, r1⟩ := p.sl.get i _ hi
  cases r1
  obtain ⟨hM, n0, ns, nb, vs, ha, rr⟩ := ow a ds hm
  refine ⟨_, s1, .inl ⟨rfl, _, SqL.of ha⟩, h M σ H p _ fun us xs H1 g1 k1 r1 h1 => ?_⟩
  obtain ⟨d, rfl, hN⟩ := h1
  cases r1 with
  | cons r1 r2 =>
    cases r2
    have ha1 := k1 a _ ns ha
    refine ⟨a, vs, _, rfl, rfl, ha1, ?_, ?_⟩
    · rw [rr.length]
      exact Nat.lt_of_lt_of_le (hu ds hm) (by decide)
    · have one : ∀ es, (a, es) ∈ ω → Reps W M H1 (vs ++ [_]) (es ++ [d]) := fun es m => by
        obtain ⟨_, _, _, _, vs', q1, q2⟩ := ow a es m
        rw [ha] at q1
        cases q1
        exact (q2.keep p.wf k1).append (.cons r1 .nil)
      obtain ⟨x1, x2, x3⟩ := own_upd (f := fun es => es ++ [d]) (p.next g1 k1) (ow.keep p.wf k1) (e.next p.wf k1) d0 hm one
      exact o.nx M _ _ _ _ x1 x2 x3 hN
/-- for, over what is none of these lists -/
theorem so_for {wi : TI} (h : IterD W wi δ fun ds => ∃ Inv : Nat → Om → DS → Prop, Inv 0 ω δ ∧ (∀ i d ω' δ', ds[i]? = some d → Inv i ω' δ' → ∃ js, GD W g d δ' js fun δ2 => SO W Wx ts ω' δ2 (Inv (i + 1)) R N (Inv (i + 1)) X) ∧ ∀ ω' δ', Inv ds.length ω' δ' → N ω' δ') : SO W Wx (tFor wi g ts) ω δ N R B C X := fun M0 H0 M1 L1 M σ H E d0 p ow e o =>
  h M σ H p _ fun J H1 ds g1 k1 ⟨I, i0, it, ie⟩ src => by
    have p1 := p.next g1 k1
    refine ⟨fun i m σ' H' => m = ds.length - i ∧ i ≤ ds.length ∧ ∃ M' ω' δ', Pre W M' δ' σ' H' ∧ Own W M0 M' H' ω' ∧ Ent W M0 H0 M' H' ∧ EntM W M H1 M' H' ∧ I i ω' δ', ⟨_, rfl, Nat.zero_le _, M, ω, δ, p1, ow.keep p.wf k1, (e.next p.wf k1).e, EntM.refl M H1, i0⟩, ?_⟩
    rintro i m σ' H' ⟨rfl, hi, M', ω', δ', p', ow', e', l', hI⟩
    have base : ∀ {M2 : Addr → Prop} {H2 : Hp}, In2 W M0 H0 M H1 M2 H2 → In2 W M0 H0 M1 L1 M2 H2 := fun x => ⟨x.e, (e.next p.wf k1).l.trans x.l p1.wf⟩
    obtain ⟨s1, s2⟩ := src M' l'.m l'.new i H' l'.k p'.wf.g
    by_cases hlt : i < ds.length
    · obtain ⟨hgo, hy⟩ := s2 ds[i] (List.getElem?_eq_getElem hlt)
      refine .inr ⟨hgo, fun σ2 H2 => ∃ M2 ω2 δ2, Pre W M2 δ2 σ2 H2 ∧ Own W M0 M2 H2 ω2 ∧ In2 W M0 H0 M H1 M2 H2 ∧ I (i + 1) ω2 δ2, ?_, fun x H3 y => ?_⟩
      · rintro σ2 H2 ⟨M2, ω2, δ2, q1, q2, q3, q4⟩
        exact ⟨_, by omega, rfl, hlt, M2, ω2, δ2, q1, q2, q3.e, q3.l, q4⟩
      · obtain ⟨g3, k3, r3⟩ := hy x H3 y
        obtain ⟨js, hg⟩ := it i ds[i] ω' δ' (List.getElem?_eq_getElem hlt) hI
        refine hg M' σ' H3 x (p'.next g3 k3) r3 _ fun σ4 δ4 p4 hb _ => ?_
        exact hb M0 H0 M H1 M' σ4 H3 _ d0 p4 (ow'.keep p'.wf k3) (In2.next ⟨e', l'⟩ p'.wf k3) ⟨fun M5 σ5 ω5 δ5 H5 p5 ow5 e5 x5 => ⟨M5, ω5, δ5, p5, ow5, e5, x5⟩, o.rt, fun M5 σ5 ω5 δ5 H5 p5 ow5 e5 x5 => o.nx M5 σ5 ω5 δ5 H5 p5 ow5 (base e5) x5, fun M5 σ5 ω5 δ5 H5 p5 ow5 e5 x5 => ⟨M5, ω5, δ5, p5, ow5, e5, x5⟩, o.xw⟩
    · have ee : i = ds.length := by omega
      refine .inl ⟨s1 ee, o.nx M' σ' ω' δ' H' p' ow' (base ⟨e', l'⟩) (ie ω' δ' ?_)⟩
      rw [← ee]
      exact hI
mutual
def D.nref : D → Bool
  | .non | .bl _ | .int _ | .str _ | .ty _ | .obj _ => true
  | .tup xs => D.nrefs xs
  | _ => false
def D.nrefs : List D → Bool
  | [] => true
  | x :: xs => x.nref && D.nrefs xs
end
mutual
theorem Rep.nref {M M2 : Addr → Prop} {H : Hp} : ∀ {v : V} {d : D}, Rep W M H v d → d.nref = true → Rep W M2 H v d
  | _, _, .non, _ => .non
  | _, _, .bl b, _ => .bl b
  | _, _, .int i, _ => .int i
  | _, _, .str x, _ => .str x
  | _, _, .ty n, _ => .ty n
  | _, _, .tup hs r, h => .tup hs (r.nref (by simpa [D.nref] using h))
  | _, _, .lst _ _ _, h => by simp [D.nref] at h
  | _, _, .st _, h => by simp [D.nref] at h
  | _, _, .obj a, _ => .obj a
  | _, _, .dct _ _, h => by simp [D.nref] at h
  | _, _, .ins _ _ _ _, h => by simp [D.nref] at h
  | _, _, .exc _ _ _ _, h => by simp [D.nref] at h
  | _, _, .xob0 _ _, h => by simp [D.nref] at h
  | _, _, .xob _ _ _ _ _ _, h => by simp [D.nref] at h
  | _, _, .dic _ _ _ _, h => by simp [D.nref] at h
  | _, _, .dik _ _ _ _ _, h => by simp [D.nref] at h
theorem Reps.nref {M M2 : Addr → Prop} {H : Hp} : ∀ {vs : List V} {ds : List D}, Reps W M H vs ds → D.nrefs ds = true → Reps W M2 H vs ds
  | _, _, .nil, _ => .nil
  | _, _, .cons r t, h => by
    simp only [D.nrefs, Bool.and_eq_true] at h
    exact .cons (r.nref h.1) (t.nref h.2)
end
theorem nrefs_of {xs : List D} (h : ∀ x ∈ xs, x.nref = true) : D.nrefs xs = true := by
  induction xs with
  | nil => simp only [D.nrefs]
  | cons y ys ih =>
    simp only [D.nrefs, Bool.and_eq_true]
    exact ⟨h y List.mem_cons_self, ih fun x hx => h x (List.mem_cons_of_mem _ hx)⟩
theorem nref_tup {xs : List D} (h : ∀ x ∈ xs, x.nref = true) : (D.tup xs).nref = true := by simp only [D.nref]; exact nrefs_of h
theorem nref_fr (p : Fr) : (fr p).nref = true := by simp [D.nref, D.nrefs]
theorem nref_un (u : List Fr) : (un u).nref = true := nref_tup fun x hx => by
  obtain ⟨p, _, rfl⟩ := List.mem_map.mp hx
  exact nref_fr p
def Lent (W : Wd) (M : Addr → Prop) (H : Hp) (ω : Om) : Prop := ∀ a ds, (a, ds) ∈ ω → ¬ M a ∧ ∃ vs, H a = some (.lst vs) ∧ Reps W M H vs ds
def EvL (W : Wd) (te : TE) (ω : Om) (δ : DS) (P : D → Prop) : Prop := ∀ (M : Addr → Prop) (σ : L2.St) (H : Hp), Pre W M δ σ H → Lent W M H ω → ∀ Q : VK, (∀ v d H', StOk W H' → Keep W H H' → Rep W M H' v d → P d → Q v H') → te σ H Q
def EvTL (W : Wd) (tt : TT) (ω : Om) (δ : DS) (P : Bool → Prop) : Prop := ∀ (M : Addr → Prop) (σ : L2.St) (H : Hp), Pre W M δ σ H → Lent W M H ω → ∀ Q : Bool → Hp → Prop, (∀ b H', StOk W H' → Keep W H H' → P b → Q b H') → tt σ H Q
theorem evl_ev {P : D → Prop} (h : EvD W te δ P) : EvL W te ω δ P := fun M σ H p _ Q q => h M σ H p Q q
theorem evtl_ev {P : Bool → Prop} (h : EvT W t δ P) : EvTL W t ω δ P := fun M σ H p _ Q q => h M σ H p Q q
theorem lent_put {M : Addr → Prop} {σ : L2.St} {H : Hp} {i : Nat} {a : Addr} {ds : List D} (hi : δ[i]? = some (some (.obj a))) (hm : (a, ds) ∈ ω) (p : Pre W M δ σ H) (l : Lent W M H ω) : Pre W M (δ.set i (some (.lst ds))) σ H := by
  obtain ⟨n, vs, ha, r⟩ := l a ds hm
  refine ⟨p.wf, by rw [List.length_set]; exact p.sl.len, fun j d hd => ?_⟩
  by_cases z : i = j
  · subst z
    obtain ⟨v, h1, h2⟩ := p.sl.get i _ hi
    cases h2
    have hl := (List.getElem?_eq_some_iff.mp hi).1
    rw [List.getElem?_set_self hl] at hd
    cases hd
    exact ⟨_, h1, .lst n ha r⟩
  · rw [List.getElem?_set_ne z] at hd
    exact p.sl.get j d hd
theorem evl_put {P : D → Prop} {a : Addr} {ds : List D} (i : Nat) (hi : δ[i]? = some (some (.obj a))) (hm : (a, ds) ∈ ω) (h : EvL W te ω (δ.set i (some (.lst ds))) P) : EvL W te ω δ P := fun M σ H p l Q q => h M σ H (lent_put hi hm p l) l Q q
theorem evtl_put {P : Bool → Prop} {a : Addr} {ds : List D} (i : Nat) (hi : δ[i]? = some (some (.obj a))) (hm : (a, ds) ∈ ω) (h : EvTL W t ω (δ.set i (some (.lst ds))) P) : EvTL W t ω δ P := fun M σ H p l Q q => h M σ H (lent_put hi hm p l) l Q q
theorem own_lend {M0 M : Addr → Prop} {σ : L2.St} {H : Hp} (p : Pre W M δ σ H) (ow : Own W M0 M H ω) : Pre W (fun a => M a ∧ ∀ x ∈ ω, x.1 ≠ a) δ σ H ∧ Lent W (fun a => M a ∧ ∀ x ∈ ω, x.1 ≠ a) H ω := by
  have less : ∀ a, (M a ∧ ∀ x ∈ ω, x.1 ≠ a) → M a := fun a x => x.1
  refine ⟨⟨⟨p.wf.g, fun a z => ⟨p.wf.sm a z, fun x hx e => ?_⟩, fun a x => p.wf.dom a x.1⟩, p.sl.len, fun j d hd => ?_⟩, fun a ds m => ?_⟩
  · obtain ⟨_, _, ns, _⟩ := ow x.1 x.2 hx
    exact ns (by rw [e]; exact z)
  · obtain ⟨v, h1, h2⟩ := p.sl.get j d hd
    exact ⟨v, h1, h2.anti less⟩
  · obtain ⟨_, _, _, _, vs, ha, r⟩ := ow a ds m
    exact ⟨fun z => z.2 _ m rfl, vs, ha, r.anti less⟩
theorem so_retL (h : EvL W te ω δ fun d => d.nref = true ∧ R d) : SO W Wx (tRet te) ω δ N R B C X := fun M0 H0 M1 L1 M σ H E d0 p ow e o => by
  obtain ⟨p2, l2⟩ := own_lend p ow
  exact h _ σ H p2 l2 _ fun v d H1 g1 k1 r1 h1 => o.rt v d H1 g1 (e.e.k.trans k1) (r1.nref h1.1) h1.2
theorem so_ifL (h : EvTL W t ω δ fun b => (b = true → SO W Wx ts ω δ N R B C X) ∧ (b = false → SO W Wx tu ω δ N R B C X)) : SO W Wx (tIfS t ts tu) ω δ N R B C X := fun M0 H0 M1 L1 M σ H E d0 p ow e o => by
  obtain ⟨p2, l2⟩ := own_lend p ow
  refine h _ σ H p2 l2 _ fun b H1 g1 k1 h1 => ?_
  cases b with
  | true =>
    rw [if_pos rfl]
    exact h1.1 rfl M0 H0 M1 L1 M σ H1 E d0 (p.next g1 k1) (ow.keep p.wf k1) (e.next p.wf k1) o
  | false =>
    rw [if_neg Bool.false_ne_true]
    exact h1.2 rfl M0 H0 M1 L1 M σ H1 E d0 (p.next g1 k1) (ow.keep p.wf k1) (e.next p.wf k1) o
/-- such a list is returned: it is one's own no more -/
theorem so_retO {i : Nat} {a : Addr} {ds : List D} (hi : δ[i]? = some (some (.obj a))) (hm : (a, ds) ∈ ω) (h : R (.lst ds)) : SO W Wx (tRet (tVar i)) ω δ N R B C X := fun M0 H0 M1 L1 M σ H E d0 p ow e o => by
  obtain ⟨v, s1, r1⟩ := p.sl.get i _ hi
  cases r1
  obtain ⟨hM, n0, ns, nb, vs, ha, rr⟩ := ow a ds hm
  exact ⟨_, s1, o.rt _ (.lst ds) H p.wf.g e.e.k (.lst n0 ha (rr.anti e.e.m)) h⟩
end
theorem body_ofO {K : PySem.W.Frag} {F : FD} {vs : List V} {H : Hp} {Q : VK} {E : XK} {N : List Str} {t : TS} (h : spD K F vs H Q E)
    (hb : ∀ W ds P, W.K = K → F ds P → SO W WF t [] (startD N.length ds) (fun _ _ => P .non) P (fun _ _ => False) (fun _ _ => False) XN) : t { nx := fun _ H' => Q .non H', rt := Q } (L2.start N vs) H := by
  obtain ⟨W, M, ds, P, e, w, r, f, q⟩ := h
  exact hb W ds P e f M H M H M _ H _ w.dom ⟨w, start_slots N r⟩ (fun a ds m => by cases m) ⟨Ent.refl M H, EntM.refl M H⟩
    ⟨fun M' σ' ω' δ' H' p' ow' e' x => q .non .non H' p'.wf.g e'.e.k .non x, fun v d H' g k r' x => q v d H' g k r' x, fun _ _ _ _ _ _ _ _ x => x.elim, fun _ _ _ _ _ _ _ _ x => x.elim, fun _ _ _ _ _ _ _ _ _ _ z => z.elim⟩
theorem body_ofXO {K : PySem.W.Frag} {F : FX} {vs : List V} {H : Hp} {Q : VK} {E : XK} {N : List Str} {t : TS} (h : spX K F vs H Q E)
    (hb : ∀ W ds P X, W.K = K → F ds P X → SO W (fun cls d _ H => E cls d H) t [] (startD N.length ds) (fun _ _ => P .non) P (fun _ _ => False) (fun _ _ => False) (fun x _ => X x)) : t { nx := fun _ H' => Q .non H', rt := Q } (L2.start N vs) H := by
  obtain ⟨W, M, ds, P, X, e, w, r, f, q, qx⟩ := h
  exact hb W ds P X e f M H M H M _ H _ w.dom ⟨w, start_slots N r⟩ (fun a ds m => by cases m) ⟨Ent.refl M H, EntM.refl M H⟩
    ⟨fun M' σ' ω' δ' H' p' ow' e' x => q .non .non H' p'.wf.g e'.e.k .non x, fun v d H' g k r' x => q v d H' g k r' x, fun _ _ _ _ _ _ _ _ x => x.elim, fun _ _ _ _ _ _ _ _ x => x.elim, fun M' σ' δ' H' cls d x p' e' rx hx => qx cls d x H' p'.wf.g e'.k (rx.anti e'.m) hx⟩
end PD
namespace PD
open PySem PySem.Spec PyProof.Rows L2
open PDX PDI PDT
section
variable {W : Wd} {δ : DS} {te : TE}
theorem Slots.keepM {M : Addr → Prop} {H H' : Hp} {σ : L2.St} (w : Wg W M H) (k : KeepM W M H H') (s : Slots W M H σ δ) : Slots W M H' σ δ := ⟨s.len, fun j d hd => by
  obtain ⟨v, a, r⟩ := s.get j d hd
  exact ⟨v, a, r.keepM w k⟩⟩
/-- how a comprehension's list stands: at Dl, since H1 -/
structure Acc (W : Wd) (M1 : Addr → Prop) (H1 : Hp) (Dl : Addr) (acc : List D) (H : Hp) : Prop where
  k : Keep W H1 H
  g : StOk W H
  at_ : ∃ vs, H Dl = some (.lst vs) ∧ Reps W M1 H vs acc
theorem Acc.keep {M1 : Addr → Prop} {H1 H H' : Hp} {Dl : Addr} {acc : List D} (wf : Wf W M1 H) (ns : ¬ W.S Dl) (a : Acc W M1 H1 Dl acc H) (g : StOk W H') (k : Keep W H H') : Acc W M1 H1 Dl acc H' := by
  obtain ⟨vs, e, r⟩ := a.at_
  exact ⟨a.k.trans k, g, vs, k Dl _ ns e, r.keep wf k⟩
/-- an item more -/
theorem Acc.put {M1 : Addr → Prop} {H1 H : Hp} {Dl : Addr} {acc : List D} {y : V} {d : D} (hD : H1 Dl = none) (ns : ¬ W.S Dl) (nb : ∀ s, W.s = some s → W.b ≠ Dl) (hM : M1 Dl) (a : Acc W M1 H1 Dl acc H) (r : Rep W M1 H y d) (hl : acc.length < 1000000) :
    ∃ vs, H Dl = some (.lst vs) ∧ vs.length < sizeLine ∧ Acc W M1 H1 Dl (acc ++ [d]) (upd H Dl (.lst (vs ++ [y]))) ∧ KeepM W M1 H (upd H Dl (.lst (vs ++ [y]))) := by
  obtain ⟨vs, e, rr⟩ := a.at_
  have g' : StOk W (upd H Dl (.lst (vs ++ [y]))) := fun s hs => by
    obtain ⟨n, i, c, m, q1, q2, q3, q4⟩ := a.g s hs
    exact ⟨n, i, c, m, by rw [upd_ne (fun z => ns (Wd.S_of hs z.symm))]; exact q1, q2, by rw [upd_ne (nb s hs)]; exact q3, q4⟩
  have k' : Keep W H1 (upd H Dl (.lst (vs ++ [y]))) := fun b o n h => by
    rw [upd_ne (ne_of_none h hD)]
    exact a.k b o n h
  refine ⟨vs, e, ?_, ⟨k', g', _, upd_same, ((rr.append (.cons r .nil)).upd (rdT_lst e) hM)⟩, fun b o n l h => ?_⟩
  · rw [rr.length]
    exact Nat.lt_of_lt_of_le hl (by decide)
  · have z : b ≠ Dl := fun z => by
      subst z
      rw [e] at h
      exact l hM _ (Option.some.inj h).symm
    rw [upd_ne z]
    exact h
end
end PD
namespace PD
open PySem PySem.Spec PyProof.Rows L2
open PDX PDI PDT
open AutoSeq1 (wpAny_loadPart')
end PD
namespace PD
open PySem PySem.Spec PyProof.Rows L2
open PDX PDI PDT
section
variable {W : Wd} {δ : DS} {P : D → Prop}
theorem ev_obj {a : Addr} (h : P (.obj a)) : EvD W (tC (.ref a)) δ P := fun M σ H p Q q => q _ _ H p.wf.g (Keep.refl H) (.obj a) h
end
section
variable {W : Wd} {Wx : WX} {X : XV → DS → Prop} {δ : DS} {N : DS → Prop} {R : D → Prop} {B C : DS → Prop} {ts : TS}
theorem stok_put {H1 H : Hp} {a : Addr} {o : HO} (hD : H1 a = none) (g1 : StOk W H1) (g : StOk W H) : StOk W (upd H a o) := fun s hs => by
  obtain ⟨n, i, c, m, q1, q2, q3, q4⟩ := g s hs
  obtain ⟨_, _, _, _, z1, _, z3, _⟩ := g1 s hs
  exact ⟨n, i, c, m, by rw [upd_ne (ne_of_none z1 hD)]; exact q1, q2, by rw [upd_ne (ne_of_none z3 hD)]; exact q3, q4⟩
end
end PD
namespace PD
open PySem PySem.Spec PyProof.Rows L2
open PDX PDI PDT
abbrev gd (C : Addr) (n : Int) (xs : List D) : D := .ins C ["bases", "rows"] [.int n, .tup xs]
/-- so many columns, each cell a right one -/
structure Grd (n : Int) (m : Nat) (xs : List D) : Prop where
  n1 : 1 ≤ n
  n3 : n ≤ 3
  l1 : 1 ≤ xs.length
  l10 : xs.length ≤ 10
  m1 : 1 ≤ m
  m10 : m ≤ 10
  row : ∀ e ∈ xs, ∃ cs, e = .tup cs ∧ cs.length = m ∧ ∀ c ∈ cs, isCl n c = true
theorem Grd.ok {n : Int} {m : Nat} {xs : List D} (g : Grd n m xs) : GridOk n xs := ⟨g.n1, g.n3, g.l1, g.l10, m, g.m1, g.m10, g.row⟩
theorem Grd.at {n : Int} {m : Nat} {xs : List D} (g : Grd n m xs) {i : Nat} {e : D} (h : xs[i]? = some e) : ∃ cs, e = .tup cs ∧ cs.length = m ∧ ∀ c ∈ cs, isCl n c = true := g.row e (List.mem_of_getElem? h)
theorem Grd.at' {n : Int} {m : Nat} {xs : List D} (g : Grd n m xs) {i : Nat} (h : i < xs.length) : ∃ cs, xs[i]? = some (.tup cs) ∧ cs.length = m ∧ ∀ c ∈ cs, isCl n c = true := by
  obtain ⟨cs, e, h2⟩ := g.row xs[i] (List.getElem_mem h)
  exact ⟨cs, by rw [List.getElem?_eq_getElem h, e], h2⟩
theorem Grd.head {n : Int} {m : Nat} {xs : List D} (g : Grd n m xs) : ∃ cs, xs[0]? = some (.tup cs) ∧ cs.length = m ∧ D.len (xs.headD .non) = m := by
  have l1 := g.l1
  obtain ⟨cs, e, h, _⟩ := g.at' (i := 0) (by omega)
  refine ⟨cs, e, h, ?_⟩
  cases xs with
  | nil => cases e
  | cons y ys =>
    cases e
    show (cs.length : Int) = m
    omega
theorem Grd.wrong {n : Int} {m : Nat} {xs : List D} (g : Grd n m xs) : wrongD (.int n) (.tup xs) = .non := by
  have len : hasLen (.tup xs) = true := by
    show (decide (1 ≤ xs.length) && decide (xs.length ≤ 10)) = true
    rw [decide_eq_true g.l1, decide_eq_true g.l10]
    rfl
  rw [wrongD_in g.n1 g.n3, if_pos len]
  obtain ⟨_, _, _, hd⟩ := g.head
  have rows : xs.findIdx? (badRow xs) = none := by
    rw [List.findIdx?_eq_none_iff]
    intro e he
    obtain ⟨cs, rfl, hm, _⟩ := g.row e he
    have m1 := g.m1
    have m10 := g.m10
    unfold badRow
    rw [hd]
    show (!(decide (1 ≤ cs.length) && decide (cs.length ≤ 10)) || decide (¬ (cs.length : Int) = m)) = false
    rw [decide_eq_true (show 1 ≤ cs.length by omega), decide_eq_true (show cs.length ≤ 10 by omega), decide_eq_false (show ¬ ¬ (cs.length : Int) = m by omega)]
    rfl
  have cells : xs.findIdx? (badIn n) = none := by
    rw [List.findIdx?_eq_none_iff]
    intro e he
    obtain ⟨cs, rfl, _, hc⟩ := g.row e he
    unfold badIn
    rw [List.any_eq_false]
    intro c hc'
    rw [hc c hc']
    simp
  show wrongR n xs = .non
  unfold wrongR wrongC
  rw [rows, cells]
theorem Grd.set {n : Int} {m : Nat} {xs cs : List D} (g : Grd n m xs) {i j : Nat} {t : D} (hi : xs[i]? = some (.tup cs)) (ht : isCl n t = true) : Grd n m (xs.set i (.tup (cs.set j t))) := by
  obtain ⟨cs', e, hm, hc⟩ := g.at hi
  cases e
  refine ⟨g.n1, g.n3, by rw [List.length_set]; exact g.l1, by rw [List.length_set]; exact g.l10, g.m1, g.m10, fun e he => ?_⟩
  rcases List.mem_or_eq_of_mem_set he with he | rfl
  · exact g.row e he
  · refine ⟨_, rfl, by rw [List.length_set]; exact hm, fun c hc' => ?_⟩
    rcases List.mem_or_eq_of_mem_set hc' with hc' | rfl
    · exact hc c hc'
    · exact ht
theorem cl_nref {n : Int} {c : D} (h : isCl n c = true) : c.nref = true := by
  rcases cl_of h with rfl | ⟨u, rfl, _⟩
  · simp only [D.nref]
  · exact nref_un u
theorem Grd.nrefs {n : Int} {m : Nat} {xs cs : List D} (g : Grd n m xs) (h : D.tup cs ∈ xs) : D.nrefs cs = true := by
  obtain ⟨cs', e, _, hc⟩ := g.row _ h
  cases e
  exact nrefs_of fun c hc' => cl_nref (hc c hc')
theorem Grd.fine {n : Int} {m : Nat} {xs : List D} (g : Grd n m xs) : (D.tup xs).fine = true := lays_fine g.ok.lays (by decide)
/-- is it the number of one of so many -/
def inI (x : D) (n : Int) : Bool := x.isInt && decide (0 ≤ x.toI) && decide (x.toI < n)
def stepE (m : Int) (e : D) : Int := ((Nat.lcm m.natAbs (botD e).natAbs : Nat) : Int)
def stepC (m : Int) (c : D) : Int := (items c).foldl stepE m
def stepR (m : Int) (e : D) : Int := (items e).foldl stepC m
def botX (xs : List D) : Int := xs.foldl stepR 1
/-- what such a multiple can be -/
def Lc (m : Int) : Prop := 0 < m ∧ m ∣ 12
theorem lc_one : Lc 1 := ⟨by decide, ⟨12, rfl⟩⟩
theorem lc_step {m b : Int} (h : Lc m) (h1 : 1 ≤ b) (h4 : b ≤ 4) : Lc ((Nat.lcm m.natAbs b.natAbs : Nat) : Int) := by
  have hb : b ∣ 12 := by
    have : b = 1 ∨ b = 2 ∨ b = 3 ∨ b = 4 := by omega
    rcases this with rfl | rfl | rfl | rfl
    · exact ⟨12, rfl⟩
    · exact ⟨6, rfl⟩
    · exact ⟨4, rfl⟩
    · exact ⟨3, rfl⟩
  have d : Nat.lcm m.natAbs b.natAbs ∣ 12 := Nat.lcm_dvd (Int.natAbs_dvd_natAbs.mpr h.2) (Int.natAbs_dvd_natAbs.mpr hb)
  refine ⟨?_, Int.ofNat_dvd.mpr d⟩
  have := Nat.lcm_pos (m := m.natAbs) (n := b.natAbs) (by have := h.1; omega) (by omega)
  omega
theorem lc_foldE {u : List Fr} (hu : ∀ p ∈ u, IsF p ∧ p.1.natAbs ≤ 6 ∧ p.2 ≤ 4) : ∀ {m : Int}, Lc m → Lc ((u.map fr).foldl stepE m) := by
  induction u with
  | nil => intro m h; exact h
  | cons p u ih =>
    intro m h
    have hp := hu p List.mem_cons_self
    exact ih (fun q hq => hu q (List.mem_cons_of_mem _ hq)) (lc_step (b := p.2) h hp.1.1 hp.2.2)
theorem lc_cell {n : Int} {c : D} (hc : isCl n c = true) {m : Int} (h : Lc m) : Lc (stepC m c) := by
  rcases cl_of hc with rfl | ⟨u, rfl, _, hu⟩
  · exact h
  · exact lc_foldE hu h
theorem lc_cells {n : Int} : ∀ {cs : List D}, (∀ c ∈ cs, isCl n c = true) → ∀ {m : Int}, Lc m → Lc (cs.foldl stepC m)
  | [], _, _, h => h
  | c :: cs, hc, m, h => lc_cells (fun d hd => hc d (List.mem_cons_of_mem _ hd)) (lc_cell (hc c List.mem_cons_self) h)
theorem lc_rows {n : Int} {k : Nat} : ∀ {xs : List D}, (∀ e ∈ xs, ∃ cs, e = .tup cs ∧ cs.length = k ∧ ∀ c ∈ cs, isCl n c = true) → ∀ {m : Int}, Lc m → Lc (xs.foldl stepR m)
  | [], _, _, h => h
  | e :: xs, hx, m, h => by
    obtain ⟨cs, rfl, _, hc⟩ := hx e List.mem_cons_self
    exact lc_rows (fun d hd => hx d (List.mem_cons_of_mem _ hd)) (m := stepR m (.tup cs)) (lc_cells hc h)
theorem Grd.lc {n : Int} {k : Nat} {xs : List D} (g : Grd n k xs) : Lc (botX xs) := lc_rows g.row lc_one
end PD
namespace PD
open PySem PySem.Spec PyProof.Rows L2
open PDX PDI PDT
open AutoSeq1 (wpAny_loadPart')
/-- a tuple once is itself -/
theorem tup_once (l : Addr) (its : Array Value) (n : Nat) (dd : Option Addr) (sl : Array (Option Value)) (u : Tok) : PySem.Meets (Builtin.«tuple.__mul__» ⟨[.ref l, .int 1 u], []⟩)
    (fun _ R s => s.heap.get? l = some { cls := .type "tuple", dict := dd, data := .seq its n, slots := sl } ∧ R (.ok (.ret (Value.ref l))) s) :=
  .of_wp fun prog w A R s h => by
    obtain ⟨hp, g, d, tk, os⟩ := s
    obtain ⟨hl, h⟩ := h
    have f1 := AutoSeq1.idx_int
    have c1 : (its.isEmpty || (1 : Int) == 1) = true := by cases its.isEmpty <;> rfl
    wp_walk using wpAny_loadPart' hl
    repeat (first
      | (refine wpAny_ite_true (decide_eq_true (by rw [c1])) ?_; wp_walk using wpAny_loadPart' hl)
      | (refine wpAny_ite_false (decide_eq_false (by simp)) ?_; wp_walk using wpAny_loadPart' hl))
    exact ⟨_, rfl, h⟩
def rOnce (K : PySem.W.Frag) : R2 := fun x y H Q => ∃ l xs, x = .ref l ∧ y = .int 1 ∧ SqT K H l xs ∧ Q (.ref l) H
section
variable {X : Cx}
theorem op_once : OpR X (binaryOp .Mult) (rOnce X.K) := by
  intro pins s σ H x y v u Q I rx ry h
  obtain ⟨l, xs, rfl, rfl, hT, q⟩ := h
  cases rx
  obtain ⟨t, rfl⟩ := ry
  obtain ⟨its, r, it, _⟩ := I.tuple hT
  obtain ⟨⟨cls, dd, data, sl⟩, ho, hc, n, hd⟩ := it
  simp only at hc hd
  subst hc hd
  have told : wpAny (model X.prog X.w) X.A (call (.builtin "tuple.__mul__") [.ref l, .int 1 t]) (EP X pins σ Q) X.xe s :=
    call_meets F.slot_tuple_mul ⟨_, ho, rfl⟩ F.entry_tuple_mul (F.args_tuple_mul_2 _ _) (tup_once l its.toArray n dd sl t) ⟨ho, .ref l, H, I, rfl, q⟩
  exact wpAny_binaryOp_repeat_ref (T := "tuple") (U := "int") (by decide) ⟨_, ho, rfl⟩ (fun s' => typeIs_int s' 1 t) noFill_tuple_mul F.fills_int_mul F.slot_int_rmul repeat_tuple F.slot_int_index.lookup
    (call_meets F.slot_int_rmul (typeIs_int s 1 t) F.entry_int_rmul (F.args_int_rmul_2 _ _) (int_rmul_tuple 1 t l its.toArray n dd sl) ⟨ho, rfl, ⟨_, ho, rfl⟩, told⟩)
end
def rRepN (K : PySem.W.Frag) : R2 := rOr (rRepT K) (rOnce K)
theorem op_repNK {X : Cx} {K : PySem.W.Frag} (h : X.K = K) : OpR X (binaryOp .Mult) (rRepN K) := by subst h; exact opOr op_repT op_once
theorem rd_repN {W : Wd} {P : D → Prop} {xs : List D} {k : Int} (hne : xs ≠ []) (h1 : 1 ≤ k) (hk : k ≤ 1000) (hl : xs.length ≤ 1000) (h : P (.tup (List.replicate k.toNat xs).flatten)) : RD W (rRepN W.K) (.tup xs) (.int k) P := by
  by_cases z : k = 1
  · subst z
    refine rd_orr fun M H v u w r1 r2 Q q => ?_
    cases r2
    have e : (List.replicate (1 : Int).toNat xs).flatten = xs := by simp
    rw [e] at h
    cases r1 with
    | tup hs hr => exact ⟨_, _, rfl, rfl, hs, q _ _ H w.g (Keep.refl H) (.tup hs hr) h⟩
  · exact rd_orl (rd_repT hne (by omega) hk hl h)
theorem Grd.jd {K : PySem.W.Frag} {n : Int} {m : Nat} {xs : List D} (g : Grd n m xs) : Jd K (.tup xs) := (Gd.tup (fun x hx => by
  obtain ⟨cs, rfl, hl, hc⟩ := g.row x hx
  exact Gd.tup (fun y hy => cl_gd g.n3 (hc y hy)) (by have := g.m10; omega)) (by have := g.l10; omega)).j
end PD
namespace PDZ
open PySem PySem.Spec PyProof.Rows L2 RZ
end PDZ
namespace PD
open PySem PySem.Spec PyProof.Rows L2 PDZ
end PD
namespace PD
open PySem PySem.Spec PyProof.Rows L2
open PDX PDI PDT PDZ
def isPos (x : D) : Bool := isFr x && decide (0 < topD x)
def numP : D → Bool
  | .tup [u, x] => isFr x && (!u.isNon || decide (topD x = 0))
  | _ => false
def valP : D → Bool
  | .tup [u, x] => u.isNon || isPos x
  | _ => false
/-- cells and what stands beside them, row by row -/
def besD (xs rows : List D) : List D := (List.zipWith (fun e r => zipD (items e) (items r)) xs rows).flatten
structure Shp (m : Nat) (xs rows : List D) : Prop where
  l : rows.length = xs.length
  r : ∀ e ∈ rows, ∃ cs, e = .tup cs ∧ cs.length = m
theorem Shp.at {m : Nat} {xs rows : List D} (s : Shp m xs rows) {i : Nat} {e : D} (h : rows[i]? = some e) : ∃ cs, e = .tup cs ∧ cs.length = m := s.r e (List.mem_of_getElem? h)
theorem mem_bes {p : D} : ∀ {xs rows : List D}, p ∈ besD xs rows → ∃ (i j : Nat) (e r u y : D), xs[i]? = some e ∧ rows[i]? = some r ∧ (items e)[j]? = some u ∧ (items r)[j]? = some y ∧ p = .tup [u, y]
  | [], _, h => by simp [besD] at h
  | _ :: _, [], h => by simp [besD] at h
  | e :: xs, r :: rows, h => by
    unfold besD at h
    rw [List.zipWith_cons_cons, List.flatten_cons] at h
    rcases List.mem_append.mp h with h | h
    · obtain ⟨j, hj⟩ := List.mem_iff_getElem?.mp h
      obtain ⟨u, y, h1, h2, rfl⟩ := zipD_get hj
      exact ⟨0, j, e, r, u, y, rfl, rfl, h1, h2, rfl⟩
    · obtain ⟨i, j, e', r', u, y, h1, h2, h3, h4, h5⟩ := mem_bes (xs := xs) (rows := rows) h
      exact ⟨i + 1, j, e', r', u, y, h1, h2, h3, h4, h5⟩
theorem zipD_mem {ds es : List D} {j : Nat} {u y : D} (h1 : ds[j]? = some u) (h2 : es[j]? = some y) : D.tup [u, y] ∈ zipD ds es := by
  refine List.mem_of_getElem? (i := j) ?_
  unfold zipD
  rw [List.getElem?_zipWith, h1, h2]
theorem bes_mem {e r u y : D} : ∀ {xs rows : List D} {i j : Nat}, xs[i]? = some e → rows[i]? = some r → (items e)[j]? = some u → (items r)[j]? = some y → D.tup [u, y] ∈ besD xs rows
  | [], _, i, j, h, _, _, _ => by simp at h
  | _ :: _, [], i, j, _, h, _, _ => by simp at h
  | e' :: xs, r' :: rows, 0, j, h1, h2, h3, h4 => by
    cases h1
    cases h2
    unfold besD
    rw [List.zipWith_cons_cons, List.flatten_cons]
    exact List.mem_append_left _ (zipD_mem h3 h4)
  | e' :: xs, r' :: rows, i + 1, j, h1, h2, h3, h4 => by
    unfold besD
    rw [List.zipWith_cons_cons, List.flatten_cons]
    exact List.mem_append_right _ (bes_mem (xs := xs) (rows := rows) (i := i) (j := j) (by simpa using h1) (by simpa using h2) h3 h4)
theorem bes_all {p : D → Bool} {xs rows : List D} (h : ∀ (i j : Nat) (e r u y : D), xs[i]? = some e → rows[i]? = some r → (items e)[j]? = some u → (items r)[j]? = some y → p (.tup [u, y]) = true) : (besD xs rows).all p = true := by
  rw [List.all_eq_true]
  intro q hq
  obtain ⟨i, j, e, r, u, y, h1, h2, h3, h4, rfl⟩ := mem_bes hq
  exact h i j e r u y h1 h2 h3 h4
theorem Grd.tup {n : Int} {m : Nat} {xs : List D} (g : Grd n m xs) : ∀ e ∈ xs, ∃ cs, e = .tup cs ∧ cs.length = m := fun e he => by
  obtain ⟨cs, h1, h2, _⟩ := g.row e he
  exact ⟨cs, h1, h2⟩
theorem jd_fr (K : PySem.W.Frag) (p : Fr) : Jd K (fr p) := by simp only [Jd, JdA, and_self]
end PD
namespace PD
open PySem PySem.Spec PyProof.Rows L2
open PDX PDI PDT PDZ
/-- small enough to be taken to powers and multiplied -/
structure Rt (v : List Fr) (m k : Nat) : Prop where
  p : ∀ r ∈ v, IsF r ∧ 0 < r.1 ∧ Sz m r
  b : 3 * (m * 72 + 1) + 1 + k ≤ 8000
/-- a number in other units -/
def inO (v : List Fr) (s : Int) (c : D) (q : Fr) : Fr := match c with
  | .tup us => mulF q (facF s (1, 1) ((us.map fun e => (topD e, botD e)).zip v))
  | _ => q
theorem inO_un (v u : List Fr) (s : Int) (q : Fr) : inO v s (un u) q = mulF q (facF s (1, 1) (u.zip v)) := by
  show mulF q (facF s (1, 1) (((u.map fr).map fun e => (topD e, botD e)).zip v)) = _
  rw [List.map_map]
  have e : ((fun e => (topD e, botD e)) ∘ fr : Fr → Fr) = id := by
    funext p
    rfl
  rw [e, List.map_id]
theorem rt_exp {p : Fr} {s : Int} (hp : IsF p ∧ p.1.natAbs ≤ 6 ∧ p.2 ≤ 4) (h1 : 1 ≤ s) (h2 : s ≤ 12) : (expI s p).natAbs ≤ 72 := by
  have p1 := hp.1.1
  show (s * p.1 / p.2).natAbs ≤ 72
  have a : (s * p.1).natAbs ≤ 72 := by
    rw [Int.natAbs_mul]
    have := Nat.mul_le_mul (show s.natAbs ≤ 12 by omega) hp.2.1
    omega
  have l1 : s * p.1 / p.2 ≤ 72 := Int.le_trans (Int.ediv_le_ediv p1 (show s * p.1 ≤ 72 by omega)) (Int.ediv_le_self _ (by decide))
  have l2 : -72 ≤ s * p.1 / p.2 := by
    have : -72 / p.2 ≤ s * p.1 / p.2 := Int.ediv_le_ediv p1 (by omega)
    have : -72 ≤ -72 / p.2 := by
      rw [Int.le_ediv_iff_mul_le p1]
      omega
    omega
  omega
def frOf : D → Fr
  | .tup [.int a, .int b] => (a, b)
  | _ => (0, 1)
def resR (v : List Fr) (s : Int) (e r : D) : D := .tup (List.zipWith (fun c y => fr (inO v s c (frOf y))) (items e) (items r))
def resD (v : List Fr) (s : Int) (xs rows : List D) : List D := List.zipWith (resR v s) xs rows
/-- numbers that are there, of some size -/
def NumS (k : Nat) (rows : List D) : Prop := ∀ r ∈ rows, ∀ y ∈ items r, ∃ q : Fr, y = fr q ∧ IsF q ∧ Sz k q
/-- judged, and no int within is great -/
structure Js (K : PySem.W.Frag) (x : D) : Prop where
  j : Jd K x
  s : x.small = true
theorem Js.ty {K : PySem.W.Frag} {x : D} (h : Js K x) : Jd1 K x := jd_ty h.j
theorem Js.mem {K : PySem.W.Frag} {xs : List D} (h : Js K (.tup xs)) {x : D} (hx : x ∈ xs) : Js K x := ⟨by
    have := h.j
    simp only [Jd] at this
    exact jd_mem this hx, by
    have := h.s
    simp only [D.small] at this
    exact smalls_mem this hx⟩
theorem smalls_of {xs : List D} (h : ∀ x ∈ xs, x.small = true) : D.smalls xs = true := by
  induction xs with
  | nil => simp only [D.smalls]
  | cons y ys ih =>
    simp only [D.smalls, Bool.and_eq_true]
    exact ⟨h y List.mem_cons_self, ih fun x hx => h x (List.mem_cons_of_mem _ hx)⟩
theorem Js.tup {K : PySem.W.Frag} {xs : List D} (h : ∀ x ∈ xs, Js K x) : Js K (.tup xs) := ⟨by
    simp only [Jd]
    exact jdA_of fun x hx => (h x hx).j, by
    simp only [D.small]
    exact smalls_of fun x hx => (h x hx).s⟩
theorem Js.fr (K : PySem.W.Frag) {p : Fr} (h : Sz 8000 p) : Js K (fr p) := ⟨jd_fr K p, fr_small h⟩
/-- numbers for a grid, of some size -/
structure Nums (m k : Nat) (xs rows : List D) : Prop where
  s : Shp m xs rows
  n : NumS k rows
  p : (besD xs rows).all numP = true
theorem Nums.len {m k : Nat} {xs rows : List D} {n : Int} (g : Grd n m xs) (h : Nums m k xs rows) : (D.tup rows).len ≤ 1000 := by
  have := h.s.l
  have := g.l10
  show (rows.length : Int) ≤ 1000
  omega
theorem Nums.fine {m k : Nat} {xs rows : List D} (h : Nums m k xs rows) : (D.tup rows).fine = true := lays_fine (n := 3) (lays_tup fun r hr => by
  obtain ⟨cs, rfl, _⟩ := h.s.r r hr
  refine lays_tup fun y hy => ?_
  obtain ⟨q, rfl, _⟩ := h.n _ hr y hy
  rfl) (by decide)
/-- a number in other units: in lowest terms, of some size, of its sign -/
theorem inO_ok {n s : Int} {c : D} {q : Fr} {v : List Fr} {m k : Nat} (hc : isCl n c = true) (hl : (v.length : Int) = n) (s1 : 1 ≤ s) (s2 : s ≤ 12) (n3 : n ≤ 3) (iq : IsF q) (sq : Sz k q) (hv : Rt v m k) :
    IsF (inO v s c q) ∧ Sz (k + (1 + 3 * (m * 72 + 1))) (inO v s c q) ∧ (0 < (inO v s c q).1 ↔ 0 < q.1) ∧ (q.1 = 0 → (inO v s c q).1 = 0) := by
  rcases cl_of hc with rfl | ⟨u, rfl, hu1, hu⟩
  · exact ⟨iq, sq.mono (Nat.le_add_right _ _), Iff.rfl, fun z => z⟩
  · rw [inO_un]
    have pos : PosL (u.zip v) := fun x hx => by
      obtain ⟨a, b⟩ := x
      obtain ⟨ha, hb⟩ := List.of_mem_zip hx
      exact ⟨(hv.p b hb).1, (hv.p b hb).2.1⟩
    have fo := facF_ok (s := s) (l := u.zip v) (acc := (1, 1)) pos one_isF (by decide)
    have fs : Sz (1 + 3 * (m * 72 + 1)) (facF s (1, 1) (u.zip v)) := by
      have h := facF_sz (s := s) (B := m * 72 + 1) (acc := (1, 1)) (n := 1) (l := u.zip v) (fun x hx => by
        obtain ⟨a, b⟩ := x
        obtain ⟨ha, hb⟩ := List.of_mem_zip hx
        exact powF_sz (hv.p b hb).2.2 (rt_exp (hu a ha) s1 s2)) ⟨by decide, by decide⟩
      refine h.mono ?_
      have l3 : (u.zip v).length ≤ 3 := by rw [List.length_zip]; omega
      have := Nat.mul_le_mul_right (m * 72 + 1) l3
      omega
    have q2 : 0 < q.2 := by have := iq.1; omega
    have f2 : 0 < (facF s (1, 1) (u.zip v)).2 := by have := fo.1.1; omega
    have cr := mulF_cross iq fo.1
    have w2 : 0 < (mulF q (facF s (1, 1) (u.zip v))).2 := by have := (mulF_isF iq fo.1).1; omega
    have den : 0 < q.2 * (facF s (1, 1) (u.zip v)).2 := Int.mul_pos q2 f2
    refine ⟨mulF_isF iq fo.1, mulF_sz sq fs, ⟨fun z => ?_, fun z => mulF_pos z q2 fo.2.1 f2⟩, fun z => ?_⟩
    · have a : 0 < q.1 * (facF s (1, 1) (u.zip v)).1 := by
        refine Int.pos_of_mul_pos_left (b := (mulF q (facF s (1, 1) (u.zip v))).2) ?_ w2
        rw [← cr]
        exact Int.mul_pos z den
      exact Int.pos_of_mul_pos_left a fo.2.1
    · rw [z, Int.zero_mul, Int.zero_mul] at cr
      rcases Int.mul_eq_zero.mp cr with y | y
      · exact y
      · omega
theorem resD_get {v : List Fr} {s : Int} {xs rows : List D} {i : Nat} {r : D} (h : (resD v s xs rows)[i]? = some r) : ∃ e r0, xs[i]? = some e ∧ rows[i]? = some r0 ∧ r = resR v s e r0 := by
  unfold resD at h
  rw [List.getElem?_zipWith] at h
  split at h
  · rename_i e r0 h1 h2
    cases h
    exact ⟨e, r0, h1, h2, rfl⟩
  · cases h
theorem resR_get {v : List Fr} {s : Int} {cs ds : List D} {j : Nat} {y : D} (h : (items (resR v s (.tup cs) (.tup ds)))[j]? = some y) : ∃ c z, cs[j]? = some c ∧ ds[j]? = some z ∧ y = fr (inO v s c (frOf z)) := by
  have h : (List.zipWith (fun c y => fr (inO v s c (frOf y))) cs ds)[j]? = some y := h
  rw [List.getElem?_zipWith] at h
  split at h
  · rename_i c z h1 h2
    cases h
    exact ⟨c, z, h1, h2, rfl⟩
  · cases h
/-- numbers in other units are numbers, and values if these were -/
theorem Nums.res {n s : Int} {m m' k : Nat} {xs rows : List D} {v : List Fr} (g : Grd n m xs) (h : Nums m k xs rows) (hl : (v.length : Int) = n) (s1 : 1 ≤ s) (s2 : s ≤ 12) (hv : Rt v m' k) :
    Nums m (k + (1 + 3 * (m' * 72 + 1))) xs (resD v s xs rows) ∧ (besD xs (resD v s xs rows)).all valP = (besD xs rows).all valP := by
  -- each cell's number
  have one : ∀ {i j : Nat} {cs ds : List D} {c z : D}, xs[i]? = some (.tup cs) → rows[i]? = some (.tup ds) → cs[j]? = some c → ds[j]? = some z → ∃ q : Fr, z = fr q ∧ isCl n c = true ∧ IsF q ∧ Sz k q ∧ numP (.tup [c, fr q]) = true := fun {i j cs ds c z} h1 h2 h3 h4 => by
    obtain ⟨q, rfl, iq, sq⟩ := h.n _ (List.mem_of_getElem? h2) z (List.mem_of_getElem? h4)
    obtain ⟨cs', e, _, hc⟩ := g.at h1
    cases e
    exact ⟨q, rfl, hc c (List.mem_of_getElem? h3), iq, sq, List.all_eq_true.mp h.p _ (bes_mem h1 h2 h3 h4)⟩
  have len : (resD v s xs rows).length = xs.length := by
    unfold resD
    rw [List.length_zipWith, h.s.l, Nat.min_self]
  refine ⟨⟨⟨len, fun r hr => ?_⟩, fun r hr y hy => ?_, bes_all fun i j e r u y e1 e2 e3 e4 => ?_⟩, ?_⟩
  · obtain ⟨i, hi⟩ := List.mem_iff_getElem?.mp hr
    obtain ⟨e, r0, h1, h2, rfl⟩ := resD_get hi
    obtain ⟨cs, rfl, hc, _⟩ := g.at h1
    obtain ⟨ds, rfl, hd⟩ := h.s.at h2
    exact ⟨_, rfl, by rw [List.length_zipWith]; show min cs.length ds.length = m; omega⟩
  · obtain ⟨i, hi⟩ := List.mem_iff_getElem?.mp hr
    obtain ⟨e, r0, h1, h2, rfl⟩ := resD_get hi
    obtain ⟨cs, rfl, hc, _⟩ := g.at h1
    obtain ⟨ds, rfl, hd⟩ := h.s.at h2
    obtain ⟨j, hj⟩ := List.mem_iff_getElem?.mp hy
    obtain ⟨c, z, h3, h4, rfl⟩ := resR_get hj
    obtain ⟨q, rfl, ic, iq, sq, _⟩ := one h1 h2 h3 h4
    have ok := inO_ok ic hl s1 s2 g.n3 iq sq hv
    exact ⟨_, rfl, ok.1, ok.2.1⟩
  · obtain ⟨e', r0, h1, h2, rfl⟩ := resD_get e2
    rw [e1] at h1
    cases h1
    obtain ⟨cs, rfl, hc, _⟩ := g.at e1
    obtain ⟨ds, rfl, hd⟩ := h.s.at h2
    obtain ⟨c, z, h3, h4, rfl⟩ := resR_get e4
    have e3 : cs[j]? = some u := e3
    rw [h3] at e3
    cases e3
    obtain ⟨q, rfl, ic, iq, sq, np⟩ := one e1 h2 h3 h4
    have ok := inO_ok ic hl s1 s2 g.n3 iq sq hv
    have np : (isFr (fr q) && (!u.isNon || decide (q.1 = 0))) = true := np
    show (isFr (fr (inO v s u q)) && (!u.isNon || decide ((inO v s u q).1 = 0))) = true
    rw [isFr_fr ok.1, Bool.true_and]
    rw [isFr_fr iq, Bool.true_and, Bool.or_eq_true, decide_eq_true_eq] at np
    rw [Bool.or_eq_true, decide_eq_true_eq]
    exact np.imp id ok.2.2.2
  · have same : ∀ {i j : Nat} {cs ds : List D} {c z : D}, xs[i]? = some (.tup cs) → rows[i]? = some (.tup ds) → cs[j]? = some c → ds[j]? = some z → valP (.tup [c, fr (inO v s c (frOf z))]) = valP (.tup [c, z]) := fun {i j cs ds c z} h1 h2 h3 h4 => by
      obtain ⟨q, rfl, ic, iq, sq, _⟩ := one h1 h2 h3 h4
      have ok := inO_ok ic hl s1 s2 g.n3 iq sq hv
      show (c.isNon || (isFr (fr (inO v s c q)) && decide (0 < (inO v s c q).1))) = (c.isNon || (isFr (fr q) && decide (0 < q.1)))
      rw [isFr_fr ok.1, isFr_fr iq, decide_eq_decide.mpr ok.2.2.1]
    rw [Bool.eq_iff_iff, List.all_eq_true, List.all_eq_true]
    refine ⟨fun a x hx => ?_, fun a x hx => ?_⟩
    · obtain ⟨i, j, e, r, u, y, h1, h2, h3, h4, rfl⟩ := mem_bes hx
      obtain ⟨cs, rfl, hc, _⟩ := g.at h1
      obtain ⟨ds, rfl, hd⟩ := h.s.at h2
      rw [← same h1 h2 h3 h4]
      refine a _ (bes_mem (i := i) (j := j) h1 (r := resR v s (.tup cs) (.tup ds)) ?_ h3 ?_)
      · unfold resD
        rw [List.getElem?_zipWith, h1, h2]
      · show (List.zipWith _ cs ds)[j]? = _
        have h3 : cs[j]? = some u := h3
        have h4 : ds[j]? = some y := h4
        rw [List.getElem?_zipWith, h3, h4]
    · obtain ⟨i, j, e, r, u, y, h1, h2, h3, h4, rfl⟩ := mem_bes hx
      obtain ⟨e', r0, h5, h6, rfl⟩ := resD_get h2
      rw [h1] at h5
      cases h5
      obtain ⟨cs, rfl, hc, _⟩ := g.at h1
      obtain ⟨ds, rfl, hd⟩ := h.s.at h6
      obtain ⟨c, z, h7, h8, rfl⟩ := resR_get h4
      have h3 : cs[j]? = some u := h3
      rw [h7] at h3
      cases h3
      rw [same h1 h6 h7 h8]
      exact a _ (bes_mem h1 h6 h7 h8)
def Has (ω : Om) (p : Addr) (es : List D) : Prop := (p, es) ∈ ω ∧ ∀ ds, (p, ds) ∈ ω → ds = es
theorem Has.cons {ω : Om} {p q : Addr} {es ds : List D} (h : Has ω p es) (n : p ≠ q) : Has ((q, ds) :: ω) p es := ⟨List.mem_cons_of_mem _ h.1, fun x hx => by
  rcases List.mem_cons.mp hx with z | z
  · cases z
    exact absurd rfl n
  · exact h.2 x z⟩
theorem Has.new {ω : Om} {q : Addr} {ds : List D} (n : ∀ x ∈ ω, x.1 ≠ q) : Has ((q, ds) :: ω) q ds := ⟨List.mem_cons_self, fun x hx => by
  rcases List.mem_cons.mp hx with z | z
  · cases z
    rfl
  · exact absurd rfl (n _ z)⟩
theorem Has.ne {ω : Om} {p q : Addr} {es : List D} (h : Has ω p es) (n : ∀ x ∈ ω, x.1 ≠ q) : p ≠ q := n _ h.1
theorem Has.put {ω : Om} {p : Addr} {es : List D} {f : List D → List D} (h : Has ω p es) : Has (putO ω p f) p (f es) := ⟨List.mem_map.mpr ⟨(p, es), h.1, by rw [if_pos rfl]⟩, fun x hx => by
  obtain ⟨ds, h1, rfl⟩ := mem_putO hx
  rw [if_pos rfl, h.2 ds h1]⟩
theorem Has.off {ω : Om} {p q : Addr} {es : List D} {f : List D → List D} (h : Has ω p es) (n : p ≠ q) : Has (putO ω q f) p es := ⟨List.mem_map.mpr ⟨(p, es), h.1, by rw [if_neg n]⟩, fun x hx => by
  obtain ⟨ds, h1, rfl⟩ := mem_putO hx
  rw [if_neg n]
  exact h.2 ds h1⟩
/-- the first rows, filled -/
structure FilL (k : Nat) (cs line : List D) : Prop where
  l : line.length = k
  c : ∀ (j : Nat) (u y : D), cs[j]? = some u → line[j]? = some y → ∃ q : Fr, y = fr q ∧ IsF q ∧ Sz 134 q ∧ numP (.tup [u, y]) = true
structure FilR (k : Nat) (xs acc : List D) : Prop where
  l : acc.length = k
  r : ∀ (i : Nat) (e r : D), xs[i]? = some e → acc[i]? = some r → ∃ ds, r = .tup ds ∧ FilL (items e).length (items e) ds
theorem FilL.nref {k : Nat} {cs line : List D} (h : FilL k cs line) (hl : k ≤ cs.length) : (D.tup line).nref = true := nref_tup fun y hy => by
  obtain ⟨j, hj⟩ := List.mem_iff_getElem?.mp hy
  have := (List.getElem?_eq_some_iff.mp hj).1
  have := h.l
  obtain ⟨q, rfl, _⟩ := h.c j _ y (List.getElem?_eq_getElem (by omega)) hj
  exact nref_fr q
theorem FilL.snoc {k : Nat} {cs line : List D} {u : D} {q : Fr} (h : FilL k cs line) (hu : cs[k]? = some u) (iq : IsF q) (sq : Sz 134 q) (np : numP (.tup [u, fr q]) = true) : FilL (k + 1) cs (line ++ [fr q]) := ⟨by rw [List.length_append, h.l]; rfl, fun j u' y e1 e2 => by
  by_cases z : j < line.length
  · rw [List.getElem?_append_left z] at e2
    exact h.c j u' y e1 e2
  · have l := (List.getElem?_eq_some_iff.mp e2).1
    rw [List.length_append] at l
    have one : [fr q].length = 1 := rfl
    have hl := h.l
    have ej : j = k := by omega
    subst ej
    rw [List.getElem?_append_right (by omega), hl, Nat.sub_self] at e2
    cases e2
    rw [hu] at e1
    cases e1
    exact ⟨q, rfl, iq, sq, np⟩⟩
theorem FilR.snoc {k : Nat} {xs acc ds : List D} {e : D} (h : FilR k xs acc) (he : xs[k]? = some e) (hd : FilL (items e).length (items e) ds) : FilR (k + 1) xs (acc ++ [.tup ds]) := ⟨by rw [List.length_append, h.l]; rfl, fun j e' r e1 e2 => by
  by_cases z : j < acc.length
  · rw [List.getElem?_append_left z] at e2
    exact h.r j e' r e1 e2
  · have l := (List.getElem?_eq_some_iff.mp e2).1
    rw [List.length_append] at l
    have one : [D.tup ds].length = 1 := rfl
    have hl := h.l
    have ej : j = k := by omega
    subst ej
    rw [List.getElem?_append_right (by omega), hl, Nat.sub_self] at e2
    cases e2
    rw [he] at e1
    cases e1
    exact ⟨ds, rfl, hd⟩⟩
theorem FilR.nums {n : Int} {m : Nat} {xs acc : List D} (g : Grd n m xs) (h : FilR xs.length xs acc) : Nums m 134 xs acc := by
  have at' : ∀ {i : Nat} {r : D}, acc[i]? = some r → ∃ cs ds, xs[i]? = some (.tup cs) ∧ r = .tup ds ∧ cs.length = m ∧ FilL cs.length cs ds := fun {i r} hi => by
    have l := (List.getElem?_eq_some_iff.mp hi).1
    have := h.l
    obtain ⟨cs, e, hc, _⟩ := g.at' (i := i) (by omega)
    obtain ⟨ds, rfl, hd⟩ := h.r i _ r e hi
    exact ⟨cs, ds, e, rfl, hc, hd⟩
  refine ⟨⟨h.l, fun r hr => ?_⟩, fun r hr y hy => ?_, bes_all fun i j e r u y e1 e2 e3 e4 => ?_⟩
  · obtain ⟨i, hi⟩ := List.mem_iff_getElem?.mp hr
    obtain ⟨cs, ds, _, rfl, hc, hd⟩ := at' hi
    exact ⟨ds, rfl, by rw [hd.l]; exact hc⟩
  · obtain ⟨i, hi⟩ := List.mem_iff_getElem?.mp hr
    obtain ⟨cs, ds, _, rfl, hc, hd⟩ := at' hi
    obtain ⟨j, hj⟩ := List.mem_iff_getElem?.mp hy
    have hj : ds[j]? = some y := hj
    have := (List.getElem?_eq_some_iff.mp hj).1
    have := hd.l
    obtain ⟨q, rfl, iq, sq, _⟩ := hd.c j _ y (List.getElem?_eq_getElem (by omega)) hj
    exact ⟨q, rfl, iq, sq⟩
  · obtain ⟨cs, ds, h1, rfl, hc, hd⟩ := at' e2
    rw [e1] at h1
    cases h1
    obtain ⟨q, rfl, _, _, np⟩ := hd.c j u y e3 e4
    exact np
end PD
namespace PD
open PySem PySem.Spec PyProof.Rows L2
open PDX PDI PDT
theorem hr_u1 {k : Nat} {A : Around} (hr : Room k A) : A.units + 1 < cLine := by
  have := hr_u hr
  omega
section
variable {X : Cx} {K : PySem.W.Frag} {w : World}
/-- at p a dict of the module, its keys texts -/
def KDic (K : PySem.W.Frag) (w : World) (p : Addr) : Prop := (∃ es n, K.lookup p = some ⟨.type "dict", none, .dict es n, #[]⟩ ∧ PySem.W.KeysLit w.params es.toList) ∧ (p == sysModules) = false
end
/-- entries of texts and whole numbers -/
def KEs (P : Params) : List DictEntry → List (Str × Int) → Prop
  | [], [] => True
  | e :: r, (x, i) :: q => (∃ t, e.key = .str x t) ∧ e.hash = PyData.keyHash P x ∧ (∃ t, e.val = .int i t) ∧ KEs P r q
  | _, _ => False
structure KDi (K : PySem.W.Frag) (w : World) (p : Addr) (kvs : List (Str × Int)) : Prop where
  ex : ∃ es n, K.lookup p = some ⟨.type "dict", none, .dict es n, #[]⟩ ∧ KEs w.params es.toList kvs
  lo : (p == sysModules) = false
theorem kes_lit {P : Params} : ∀ {l : List DictEntry} {kvs : List (Str × Int)}, KEs P l kvs → PySem.W.KeysLit P l
  | [], [], _ => trivial
  | _ :: _, (_, _) :: _, ⟨⟨t, e⟩, h, _, r⟩ => ⟨⟨_, t, e, h⟩, kes_lit r⟩
  | [], _ :: _, h => h.elim
  | _ :: _, [], h => h.elim
section
variable {K : PySem.W.Frag} {w : World} {p : Addr} {kvs : List (Str × Int)}
theorem KDi.dic (h : KDi K w p kvs) : KDic K w p := by
  obtain ⟨⟨es, n, hl, he⟩, lo⟩ := h
  exact ⟨⟨es, n, hl, kes_lit he⟩, lo⟩
end
section
variable {W : Wd} {w : World} {δ : DS} {P : D → Prop} {td ty : TE} {p : Addr} {kvs : List (Str × Int)}
def dicGet : List Key → List D → Key → Option D
  | k :: ks, d :: ds, x => if k = x then some d else dicGet ks ds x
  | _, _, _ => none
theorem dic_val {M : Addr → Prop} {H : Hp} {x : Key} : ∀ {kvs : List (Key × V)} {ds : List D}, Reps W M H (kvs.map (·.2)) ds → (valV kvs x = none ∧ dicGet (kvs.map (·.1)) ds x = none) ∨ ∃ v d, valV kvs x = some v ∧ dicGet (kvs.map (·.1)) ds x = some d ∧ Rep W M H v d
  | [], [], _ => .inl ⟨rfl, rfl⟩
  | (k, v) :: kvs, _, r => by
    cases r with
    | cons r1 r2 =>
      rename_i d ds
      by_cases e : k = x
      · exact .inr ⟨v, d, valV_pos e, by simp only [List.map_cons, dicGet, if_pos e], r1⟩
      · rcases dic_val (x := x) r2 with ⟨a, b⟩ | ⟨v', d', a, b, c⟩
        · exact .inl ⟨by rw [valV_neg e]; exact a, by simp only [List.map_cons, dicGet, if_neg e]; exact b⟩
        · exact .inr ⟨v', d', by rw [valV_neg e]; exact a, by simp only [List.map_cons, dicGet, if_neg e]; exact b, c⟩
def keyD : Key → D
  | .inl i => .int i
  | .inr x => .str x
theorem keyD_rep {M : Addr → Prop} {H : Hp} {v : V} {k : Key} (r : Rep W M H v (keyD k)) : v = kV k := by
  cases k <;> (cases r; rfl)
end
end PD
namespace PD
open PySem PySem.Spec PyProof.Rows L2
open PDX PDI PDT
abbrev Sh := Int × Int
def shD (p : Sh) : D := .tup [.int p.1, .int p.2]
def shAt (shs : List Sh) (i : Int) : Sh := shs.getD i.toNat (0, 0)
section
variable {W : Wd} {P : D → Prop}
theorem eqvTx (x y : Str) : D.eqv (.str x) (.str y) = decide (x = y) := by
  show PyData.eqv (D.py (.str x)) (D.py (.str y)) = _
  simp only [D.py, PyData.eqv]
  first | rfl | (simp [BEq.beq, decide_eq_decide])
theorem rd_eqS {x y : Str} (hx : (D.str x).fine = true) (hy : (D.str y).fine = true) (h : P (.bl (decide (x = y)))) : RD W (rEqD W.K) (.str x) (.str y) P := rd_eqD hx hy (by rw [eqvTx]; exact h)
theorem rd_neS {x y : Str} (hx : (D.str x).fine = true) (hy : (D.str y).fine = true) (h : P (.bl (!decide (x = y)))) : RD W (rNeD W.K) (.str x) (.str y) P := rd_neD hx hy (by rw [eqvTx]; exact h)
theorem fineSh (p : Sh) : (shD p).fine = true := by
  simp [shD, D.fine, D.plain, D.plains, D.py, D.pys, SeqAt.shaped, PyData.canLay0, PyData.canLayAll0, PyData.depth, PyData.depthAll]
theorem eqvSh (p q : Sh) : D.eqv (shD p) (shD q) = decide (p = q) := by
  obtain ⟨a, b⟩ := p
  obtain ⟨c, d⟩ := q
  show PyData.eqv (D.py (shD (a, b))) (D.py (shD (c, d))) = _
  simp only [shD, D.py, D.pys, PyData.eqv, PyData.eqvAll]
  by_cases h : a = c <;> by_cases h2 : b = d <;> simp [h, h2]
theorem rd_eqSh {a b c d : Int} (h : P (.bl (decide ((a, b) = ((c, d) : Sh))))) : RD W (rEqD W.K) (.tup [.int a, .int b]) (.tup [.int c, .int d]) P := rd_eqD (fineSh (a, b)) (fineSh (c, d)) (by
  have := eqvSh (a, b) (c, d)
  unfold shD at this
  rw [this]
  exact h)
theorem rc_max2 {i j : Int} (h : P (.int (max i j))) : RCD W (fun xs H Q => ∃ i j, xs = [.int i, .int j] ∧ Q (.int (if j > i then j else i)) H) [.int i, .int j] P := fun M H vs w r Q q => by
  cases r with
  | cons r1 r2 =>
    cases r2 with
    | cons r2 r3 =>
      cases r3
      cases r1
      cases r2
      have e : (if j > i then j else i) = max i j := by omega
      exact ⟨i, j, rfl, q _ _ H w.g (Keep.refl H) (.int _) (by rw [e]; exact h)⟩
theorem rc_min2 {i j : Int} (h : P (.int (min i j))) : RCD W (fun xs H Q => ∃ i j, xs = [.int i, .int j] ∧ Q (.int (if j < i then j else i)) H) [.int i, .int j] P := fun M H vs w r Q q => by
  cases r with
  | cons r1 r2 =>
    cases r2 with
    | cons r2 r3 =>
      cases r3
      cases r1
      cases r2
      have e : (if j < i then j else i) = min i j := by omega
      exact ⟨i, j, rfl, q _ _ H w.g (Keep.refl H) (.int _) (by rw [e]; exact h)⟩
end
def D.isStr : D → Bool
  | .str _ => true
  | _ => false
section
variable {W : Wd} {P : D → Prop}
theorem rc_isiSJ {x : D} (hx : Jd1 W.K x) (h : P (.bl x.isStr)) : RCD W (rIsi W.K) [x, .ty "str"] P := by
  cases x with
  | ins C ns ds => exact rc_isiO hx hx.kS h
  | _ => first | exact rc_isi rfl (b := true) (by decide +kernel) h | exact rc_isi rfl (b := false) (by decide +kernel) h | cases hx
end
def shG : D → Sh
  | .ins _ _ [_, .tup rows] => (rows.length, (rows.headD .non).len)
  | _ => (0, 0)
end PD
namespace PD
open PySem PySem.Spec PyProof.Rows L2
open PDX PDI PDT
mutual
def D.nolst : D → Bool
  | .lst _ => false
  | .tup xs => D.nolsts xs
  | .ins _ _ xs => D.nolsts xs
  | .exc _ _ _ xs => D.nolsts xs
  | .xob _ _ xs => D.nolsts xs
  | .dic _ xs => D.nolsts xs
  | .dik _ xs => D.nolsts xs
  | _ => true
def D.nolsts : List D → Bool
  | [] => true
  | x :: xs => x.nolst && D.nolsts xs
end
section
variable {W : Wd} {M : Addr → Prop} {H : Hp}
/-- M, and all lists that stand -/
def withL (M : Addr → Prop) (H : Hp) : Addr → Prop := fun a => M a ∨ ∃ vs, H a = some (.lst vs)
theorem not_withL {a : Addr} {o : HO} (n : ¬ M a) (h : H a = some o) (ho : ∀ vs, o ≠ .lst vs) : ¬ withL M H a := fun z => by
  rcases z with z | ⟨vs, z⟩
  · exact n z
  · rw [h] at z
    exact ho vs (Option.some.inj z)
mutual
theorem Rep.withL : ∀ {v : V} {d : D}, Rep W M H v d → d.nolst = true → Rep W (withL M H) H v d
  | _, _, .non, _ => .non
  | _, _, .bl b, _ => .bl b
  | _, _, .int i, _ => .int i
  | _, _, .str x, _ => .str x
  | _, _, .ty n, _ => .ty n
  | _, _, .tup hs r, h => .tup hs (r.withL (by simpa [D.nolst] using h))
  | _, _, .lst _ _ _, h => by simp [D.nolst] at h
  | _, _, .st e, _ => .st e
  | _, _, .obj a, _ => .obj a
  | _, _, .dct n e, _ => .dct (not_withL n e fun _ z => by cases z) e
  | _, _, .ins n e q r, h => .ins (not_withL n e fun _ z => by cases z) e q (r.withL (by simpa [D.nolst] using h))
  | _, _, .exc n e q r, h => .exc (not_withL n e fun _ z => by cases z) e q (r.withL (by simpa [D.nolst] using h))
  | _, _, .xob0 n e, _ => .xob0 (not_withL n e fun _ z => by cases z) e
  | _, _, .xob n e n2 e2 q r, h => .xob (not_withL n e fun _ z => by cases z) e (not_withL n2 e2 fun _ z => by cases z) e2 q (r.withL (by simpa [D.nolst] using h))
  | _, _, .dic n e q r, h => .dic (not_withL n e fun _ z => by cases z) e q (r.withL (by simpa [D.nolst] using h))
  | _, _, .dik n e t q r, h => .dik (not_withL n e fun _ z => by rcases t with t | ⟨_, t⟩ <;> (rw [t] at z; cases z)) e t q (r.withL (by simpa [D.nolst] using h))
theorem Reps.withL : ∀ {vs : List V} {ds : List D}, Reps W M H vs ds → D.nolsts ds = true → Reps W (withL M H) H vs ds
  | _, _, .nil, _ => .nil
  | _, _, .cons r t, h => by
    simp only [D.nolsts, Bool.and_eq_true] at h
    exact .cons (r.withL h.1) (t.withL h.2)
end
end
section
variable {W : Wd} {Wx : WX} {X : XV → DS → Prop} {ω : Om} {δ : DS} {N : Om → DS → Prop} {R : D → Prop} {B C : Om → DS → Prop} {te : TE} {ta : TA}
/-- no list is known in the slots -/
def noL (δ : DS) : Prop := ∀ d, some d ∈ δ → d.nolst = true
/-- a list that was not there before is one's own -/
theorem so_have {i : Nat} {M0 M1 M : Addr → Prop} {H0 L1 H H2 : Hp} {σ : L2.St} {E : Ends} {a : Addr} {vs : List V} {ds : List D} (d0 : ∀ a, M0 a → ∃ o, H0 a = some o) (p : Pre W M δ σ H) (ow : Own W M0 M H ω) (e : In2 W M0 H0 M1 L1 M H)
    (o : OutsO W Wx M0 H0 M1 L1 N R B C X E) (g2 : StOk W H2) (k2 : Keep W H H2) (ha : H a = none) (hv : H2 a = some (.lst vs)) (r : Reps W (fun b => M b ∨ b = a) H2 vs ds) (hN : (∀ x ∈ ω, x.1 ≠ a) → N ((a, ds) :: ω) (δ.set i (some (.obj a)))) :
    E.nx (σ.set i (some (.ref a))) H2 := by
  have ns : ¬ W.S a := fun z => by
    obtain ⟨_, q⟩ := StOk.at p.wf.g z
    rw [ha] at q
    cases q
  have off0 : H0 a = none := by
    cases h0 : H0 a with
    | none => rfl
    | some oo =>
      rw [e.e.k a oo ns h0] at ha
      cases ha
  have n0 : ¬ M0 a := fun z => by
    obtain ⟨oo, ho⟩ := d0 a z
    rw [off0] at ho
    cases ho
  have e2 : Ent W M H (fun b => M b ∨ b = a) H2 := ⟨k2, fun _ x => .inl x, fun b x y => by
    rcases x with x | x
    · exact absurd x y
    · rw [x]; exact ha⟩
  have wf' : Wf W (fun b => M b ∨ b = a) H2 := ⟨g2, fun b z => .inl (p.wf.sm b z), fun b x => by
    rcases x with x | x
    · exact (p.wf.next g2 k2).dom b x
    · rw [x]; exact ⟨_, hv⟩⟩
  have wg' : Wg W (fun b => M b ∨ b = a) H := ⟨p.wf.g, fun b z => .inl (p.wf.sm b z)⟩
  have sl : Slots W (fun b => M b ∨ b = a) H2 σ δ := ⟨p.sl.len, fun j d hd => by
    obtain ⟨v, a1, a2⟩ := p.sl.get j d hd
    exact ⟨v, a1, (a2.more e2.new).keepG wg' k2⟩⟩
  refine o.nx (fun b => M b ∨ b = a) _ ((a, ds) :: ω) _ _ ⟨wf', sl.set i (.obj a)⟩ (fun b es m => ?_) (e.trans p.wf e2) (hN fun x hx z => ?_)
  · rcases List.mem_cons.mp m with m | m
    · cases m
      exact ⟨.inr rfl, n0, ns, fun s hs z => (by
        obtain ⟨_, _, _, _, _, _, q, _⟩ := p.wf.g s hs
        rw [z, ha] at q
        cases q), vs, hv, r⟩
    · exact ow.move p.wf wf' e2 b es m
  · obtain ⟨_, _, _, _, vs', q, _⟩ := ow x.1 x.2 hx
    rw [z, ha] at q
    cases q
end
end PD
namespace PD
open PySem PySem.Spec PyProof.Rows L2
open PDX PDI PDT
end PD
namespace PD
open PySem PySem.SeqAt
open AutoSeq1 (wpAny_loadPart')
open MeetsSeq MeetsSeq2 MeetsSeq3 SeqRoads2
section
open PyProof.Rows L2
open PDX PDI PDT
theorem sl_listK {X : Cx} {K : PySem.W.Frag} (h : X.K = K) : SlR X (rSlL K) := by subst h; exact sl_list
end
section
open PyProof.Rows L2
open PDX PDI PDT
theorem ev_slL {W : Wd} {δ : DS} {P : D → Prop} {te : TE} {tl th : TO} (h : EvD W te δ fun x => ∃ xs, x = .lst xs ∧ EvO W tl δ fun lo => EvO W th δ fun hi => P (.lst (cutD xs lo hi))) : EvD W (tSl (rSlL W.K) te tl th) δ P := fun M σ H p Q q =>
  h M σ H p _ fun v x H1 g1 k1 r1 h1 => by
    obtain ⟨xs, rfl, h2⟩ := h1
    refine h2 M σ H1 (p.next g1 k1) _ fun lo H2 g2 k2 h3 => ?_
    refine h3 M σ H2 ((p.next g1 k1).next g2 k2) _ fun hi H3 g3 k3 hP => ?_
    have r3 := (r1.keep (p.next g1 k1).wf k2).keep ((p.next g1 k1).next g2 k2).wf k3
    have p3 := ((p.next g1 k1).next g2 k2).next g3 k3
    cases r3 with
    | @lst a vs _ n hs hr =>
      refine ⟨a, vs, rfl, .inl (.inl hs), fun l hl => ?_⟩
      have kk : Keep W H3 (upd H3 l (.lst (cutV vs lo hi))) := Keep.new hl
      have hc : Reps W M H3 (cutV vs lo hi) (cutD xs lo hi) := by
        unfold cutV cutD
        rw [hr.length]
        exact (hr.drop _).take _
      refine q _ (.lst (cutD xs lo hi)) _ (g3.new hl) (((k1.trans k2).trans k3).trans kk) (.lst (fun m => ?_) upd_same (hc.keep p3.wf kk)) hP
      obtain ⟨o, ho⟩ := p3.wf.dom l m
      rw [hl] at ho
      cases ho
end
end PD
namespace PD
open PySem PySem.Spec PyProof.Rows L2
open RZ (iZipA ItzT)
open PDX PDI
section
variable {W : Wd} {δ : DS} {P : D → Prop} {ta tb te : TE}
def iEnumA (K : PySem.W.Frag) (ta : TA) : TI := fun σ H R => iEnumT K ta σ H R ∨ iEnum K ta σ H R
theorem pi_enumAK {X : Cx} {K : PySem.W.Frag} {e : Expr} {ta : TA} {p pos tpos : Pos} {elts : List Expr} {kk : Nat} (h : X.K = K) (hg : Gl X "enumerate") (hm : X.mg "enumerate" = none) (ha : PA X [e] ta) (hs : starEach [e] X.env = [(false, eval e X.env)] := by rfl) :
    PI X (.Tuple elts kk tpos) (.Call (.Name "enumerate" p) [e] [] pos) (iEnumA K ta) := by
  subst h
  exact ⟨fun pins s σ H R I h => by
    rcases h with h | h
    · exact (pi_enumT rfl hg hm ha hs).run pins s σ H R I h
    · exact (pi_enum hg hm ha hs).run pins s σ H R I h⟩
theorem src_enumL {M : Addr → Prop} {H1 : Hp} {a : Addr} {vs : List V} {ds : List D} (w : Wf W M H1) (na : ¬ M a) (hs : H1 a = some (.lst vs)) (hr : Reps W M H1 vs ds) : Src W M (Ite W.K a) H1 (enumD ds) := fun M' hm hn i H2 k g => by
  have wg : Wg W M' H1 := ⟨w.g, fun b e => hm b (w.sm b e)⟩
  have wg2 : Wg W M' H2 := ⟨g, fun b e => hm b (w.sm b e)⟩
  have hs2 : SqL W.K H2 a vs := .inl (.inl (rdL_keepM w.wg k na hs))
  have hr2 : Reps W M' H2 vs ds := (hr.more hn).keepM wg (k.mono hm)
  refine ⟨fun hl => ⟨vs, hs2, by rw [hr2.length, hl, enumD_length]; exact Nat.le_refl _⟩, fun d hd => ?_⟩
  obtain ⟨x, hx, rfl⟩ := enumD_get hd
  obtain ⟨v, hv, rv⟩ := hr2.get hx
  refine ⟨⟨vs, v, hs2, hv⟩, fun z H3 yy => ?_⟩
  obtain ⟨T, x1, rfl, hT, rfl, f1⟩ := yy
  have e1 := f1 vs hs2
  rw [hv] at e1
  cases e1
  have kn : Keep W H2 (upd H2 T (.tup [.int (i : Nat), v])) := Keep.new hT
  exact ⟨g.new hT, kn, .tup (SqT.of upd_same) (.cons (.int _) (.cons (rv.keepG wg2 kn) .nil))⟩
theorem it_enumAT {P : List D → Prop} {ta : TA} (h : PD.EvA W ta δ fun xs => ∃ ds, xs = [.tup ds] ∧ P (enumD ds)) : IterD W (iEnumA W.K ta) δ P := fun M σ H p R q => .inl (it_enumT h M σ H p R q)
theorem it_enumAL {P : List D → Prop} {ta : TA} (h : PD.EvA W ta δ fun xs => ∃ ds, xs = [.lst ds] ∧ P (enumD ds)) : IterD W (iEnumA W.K ta) δ P := fun M σ H p R q => .inr (h M σ H p _ fun vs ds H1 g1 k1 r1 h1 => by
  obtain ⟨ds, rfl, hP⟩ := h1
  cases r1 with
  | cons r1 r2 =>
    cases r2
    cases r1 with
    | lst na hs hr => exact ⟨_, _, rfl, .inl (.inl hs), q _ H1 _ g1 k1 hP (src_enumL (p.wf.next g1 k1) na hs hr)⟩)
theorem ints_flat {M : Addr → Prop} {H : Hp} : ∀ {l : List Int} {vs : List V}, Reps W M H vs (l.map D.int) → vs = l.map V.int
  | [], _, .nil => rfl
  | i :: l, _, .cons r t => by
    cases r
    rw [ints_flat t]
    rfl
theorem op_notInK {X : Cx} {K : PySem.W.Frag} (h : X.K = K) : OpR X (compareOp .NotIn) (rIn K true) := by subst h; exact op_notIn_seq
theorem inV_int (i : Int) : ∀ l : List Int, inV (.int i) (l.map V.int) = decide (i ∈ l)
  | [] => rfl
  | j :: l => by
    have ih := inV_int i l
    unfold inV at ih ⊢
    rw [List.map_cons, List.any_cons, ih]
    show ((j == i) || _) = _
    by_cases h : j = i
    · subst h; simp
    · have h2 : ¬ i = j := fun e => h e.symm
      simp [h, h2]
theorem flat_ints (l : List Int) : (l.map V.int).all flatV = true := by
  rw [List.all_eq_true]
  intro x hx
  obtain ⟨i, _, rfl⟩ := List.mem_map.mp hx
  rfl
theorem rd_notInT {i : Int} {l : List Int} {xs : List D} (e : xs = l.map D.int) (h : P (.bl (!decide (i ∈ l)))) : RD W (rIn W.K true) (.int i) (.tup xs) P := fun M H v u w r1 r2 Q q => by
  subst e
  cases r1
  cases r2 with
  | tup hs hr =>
    have e := ints_flat hr
    subst e
    refine ⟨_, _, rfl, .inr hs, rfl, flat_ints l, ?_⟩
    rw [if_pos rfl, inV_int]
    exact q _ _ H w.g (Keep.refl H) (.bl _) h
end
def spHand (K : PySem.W.Frag) : Sp := fun vs H Q _ => ∃ (a : Addr) (ns : List Int), vs = [.ref a] ∧ SqL K H a (ns.map V.int) ∧ ns.length ≤ 63 ∧
  ∀ (H' : Hp) (s b : Addr) (cs : List Int), (∀ x o, H x = some o → H' x = some o) → b ≠ s → cs.length ≤ 63 → H' s = some (.lst [.ref b, .int 0, .int 0, .int (1 + cs.length), .int 0]) → H' b = some (.lst (cs.map V.int)) → Q (.ref s) H'
def quietW (K : PySem.W.Frag) : Wd := ⟨K, none, 0⟩
theorem hand_body {K : PySem.W.Frag} {vs : List V} {H : Hp} {Q : VK} {E : XK} {x : Str} {N : List Str} {g : TG} {te : TE} {ws : List Nat} {t : TS} (h : spHand K vs H Q E)
    (hc : ∀ (i : Int) (δ : DS), ∃ js, (∀ j ∈ js, j ∈ ws) ∧ GD (quietW K) g (.int i) (wipeD (List.replicate (N.length + 2) none) ws) js fun δ2 => EvD (quietW K) te δ2 fun z => ∃ k, z = .int k)
    (ht : ∀ cs : List Int, cs.length ≤ 63 → SD (quietW K) t (none :: some (.lst (cs.map D.int)) :: List.replicate N.length none) (fun _ => False) (fun d => d = .lst [.lst (cs.map D.int), .int 0, .int 0, .int (1 + cs.length), .int 0]) (fun _ => False) (fun _ => False)) {y : Str} :
    tSeq (tAsg (tLc (iSeq K (tSl (rSlL K) (tVar 0) tNoPart (tPart (tC (.int 63))))) g tYes te ws) (gName 1)) t { nx := fun _ H' => Q .non H', rt := Q } (L2.start (x :: y :: N) vs) H := by
  obtain ⟨a, ns, rfl, hS, hl, q⟩ := h
  have hst : L2.start (x :: y :: N) [V.ref a] = some (.ref a) :: none :: List.replicate N.length none := by
    simp [L2.start, List.replicate_succ]
  rw [hst]
  have g0 : ∀ H : Hp, StOk (quietW K) H := fun H s e => by cases e
  have p0 : Pre (quietW K) (fun _ => False) (List.replicate (N.length + 2) none) (some (.ref a) :: none :: List.replicate N.length none) H :=
    ⟨⟨g0 H, fun a e => (by cases e), fun a m => m.elim⟩, by simp, fun i d hd => by
      have := List.mem_of_getElem? hd
      rw [List.mem_replicate] at this
      cases this.2⟩
  show tLc (iSeq K (tSl (rSlL K) (tVar 0) tNoPart (tPart (tC (.int 63))))) g tYes te ws (some (.ref a) :: none :: List.replicate N.length none) H (fun x H1 => gName 1 x (some (.ref a) :: none :: List.replicate N.length none) H1 (fun σ' H' => t { nx := fun _ H' => Q .non H', rt := Q } σ' H'))
  have hL : Evl.EvL (tSl (rSlL K) (tVar 0) tNoPart (tPart (tC (.int 63)))) (some (V.ref a) :: none :: List.replicate N.length none) H (cutV (ns.map V.int) none (some 63)) :=
    Evl.el_sl (Evl.ev_var (i := 0) (v := .ref a) rfl) Evl.eo_none (Evl.eo_some (i := 63) Evl.ev_c) hS
  refine ev_lcF1 (W := quietW K) (P := fun ds => ∃ cs : List Int, ds = cs.map D.int ∧ cs.length ≤ 63) p0 (fun R hR => Or.inl ?_) (fun x H1 => gName 1 x (some (.ref a) :: none :: List.replicate N.length none) H1 (fun σ' H' => t { nx := fun _ H' => Q .non H', rt := Q } σ' H')) (fun b us ds H' gg k hn nm hv r hP => ?_)
  · refine hL H (Evl.Ex.refl H) _ fun p H2 hp e2 h2 => ⟨p, rfl, ⟨_, Evl.sq_of h2⟩, ?_⟩
    obtain ⟨ys, hy, ly⟩ : ∃ ys : List Int, cutV (ns.map V.int) none (some 63) = ys.map V.int ∧ ys.length ≤ 63 := by
      unfold cutV
      rw [← List.map_drop, ← List.map_take]
      refine ⟨_, rfl, ?_⟩
      rw [List.length_take, List.length_drop]
      omega
    rw [hy] at h2
    have rI : ∀ (M : Addr → Prop) (H : Hp) (l : List Int), Reps (quietW K) M H (l.map V.int) (l.map D.int) := fun M H l => by
      induction l with
      | nil => exact .nil
      | cons i l ih => exact .cons (.int i) ih
    refine hR _ H2 (ys.map D.int) (g0 H2) (fun a o _ h => e2 a o h) ⟨by rw [List.length_map]; omega, fun i acc => ∃ cs : List Int, acc = cs.map D.int ∧ cs.length ≤ i, ⟨[], rfl, Nat.le_refl 0⟩, fun i d acc hd hI => ?_, fun acc hI => ?_⟩ (src_lst ⟨g0 H2, fun a e => (by cases e), fun a m => m.elim⟩ (fun m => m) h2 (rI _ _ ys))
    · obtain ⟨cs, rfl, hcl⟩ := hI
      rw [List.getElem?_map] at hd
      cases hz : ys[i]? with
      | none => rw [hz] at hd; cases hd
      | some z =>
        rw [hz] at hd
        cases hd
        obtain ⟨js, hj, hg⟩ := hc z []
        refine ⟨js, hj, fun M σ H v pp r Q q => hg M σ H v pp r Q fun σ' δ' p' e' w' => q σ' δ' p' (et_yes ⟨fun _ => ev_mono e' fun z hz => ?_, fun z => by cases z⟩) w'⟩
        obtain ⟨k, rfl⟩ := hz
        exact ⟨cs ++ [k], by rw [List.map_append]; rfl, by rw [List.length_append]; show cs.length + 1 ≤ i + 1; omega⟩
    · obtain ⟨cs, rfl, hcl⟩ := hI
      exact ⟨cs, rfl, by rw [List.length_map] at hcl; omega⟩
  · obtain ⟨cs, rfl, lc⟩ := hP
    have rr : Reps (quietW K) (fun _ => False) H' us (cs.map D.int) := r.anti fun _ z => z.elim
    have eU := ints_flat rr
    subst eU
    refine ht cs lc (fun _ => False) H' (fun _ => False) _ H' _ ⟨⟨gg, fun a e => (by cases e), fun a m => m.elim⟩, ?_⟩ ⟨Keep.refl _, fun _ z => z, fun _ z w => absurd z w⟩ ⟨fun _ _ _ _ _ _ z => z.elim, fun v d H2 _ kk rv e => ?_, fun _ _ _ _ _ _ z => z.elim, fun _ _ _ _ _ _ z => z.elim, fun _ _ _ _ _ _ _ _ _ _ z => z.elim⟩
    · refine ⟨by simp, fun i d hd => ?_⟩
      match i with
      | 0 => cases hd
      | 1 =>
        cases hd
        exact ⟨.ref b, rfl, .lst nm hv rr⟩
      | i + 2 =>
        have hd' : (List.replicate N.length (none : Option D))[i]? = some (some d) := hd
        have := List.mem_of_getElem? hd'
        rw [List.mem_replicate] at this
        cases this.2
    · subst e
      cases rv with
      | @lst s vs _ ns2 hs rs =>
      cases rs with
      | cons r1 rs =>
      cases rs with
      | cons r2 rs =>
      cases rs with
      | cons r3 rs =>
      cases rs with
      | cons r4 rs =>
      cases rs with
      | cons r5 rs =>
      cases rs
      cases r2
      cases r3
      cases r4
      cases r5
      cases r1 with
      | @lst b2 us2 _ nb hb rb =>
      have eb := ints_flat rb
      subst eb
      refine q H2 s b2 cs (fun x o hx => kk x o (by intro z; cases z) (k x o (by intro z; cases z) hx)) (fun z => ?_) lc hs hb
      subst z
      rw [hb] at hs
      cases cs with
      | nil => cases hs
      | cons c cs => cases hs
/-- a law that draws from a hand: its beginning -/
theorem law_bodyH {K : PySem.W.Frag} {vs : List V} {H : Hp} {Q : VK} {E E' : XK} {x y : Str} {N : List Str} {t : TS} (h : spLaw K vs H Q E)
    (hr : ∀ W, W.K = K → SO W WF t [] (none :: some .st :: List.replicate N.length none) (fun _ _ => False) (fun d => d = .bl true) (fun _ _ => False) (fun _ _ => False) XN) :
    tSeq (tAsg (tCall (spHand K) [] E' (tCons (tVar 0) tNil)) (gName 1)) t { nx := fun _ H' => Q .non H', rt := Q } (L2.start (x :: y :: N) vs) H := by
  obtain ⟨a, ns, rfl, hS, hl, q⟩ := h
  refine ⟨.ref a, rfl, a, ns, rfl, hS, hl, fun H' s b cs hk hb hl2 h2 h3 => ?_⟩
  let W : Wd := ⟨K, some s, b⟩
  have g : StOk W H' := fun s' e => by
    cases e
    exact ⟨cs, 0, 0, (1 + cs.length, 0), h2, hb, h3, by decide, by decide, hl2, by decide, by show (0 : Int) ≤ 1 + (cs.length : Int); omega, by show (1 : Int) + (cs.length : Int) < 2147483647; omega⟩
  have hst : L2.start (x :: y :: N) [V.ref a] = some (.ref a) :: none :: List.replicate N.length none := by
    simp [L2.start, List.replicate_succ]
  have sl : Slots W (fun p => p = s) H' ((L2.start (x :: y :: N) [V.ref a]).set 1 (some (.ref s))) (none :: some .st :: List.replicate N.length none) := by
    rw [hst]
    refine ⟨by simp, fun i d hd => ?_⟩
    match i with
    | 0 => cases hd
    | 1 =>
      cases hd
      exact ⟨.ref s, rfl, .st rfl⟩
    | i + 2 =>
      have hd' : (List.replicate N.length (none : Option D))[i]? = some (some d) := hd
      have := List.mem_of_getElem? hd'
      rw [List.mem_replicate] at this
      cases this.2
  refine hr W rfl (fun p => p = s) H' (fun p => p = s) H' (fun p => p = s) _ H' _ (fun p e => by subst e; exact ⟨_, h2⟩) ⟨⟨g, fun p e => by cases e; rfl, fun p e => (by subst e; exact ⟨_, h2⟩)⟩, sl⟩ (fun a ds m => by cases m) ⟨Ent.refl _ _, EntM.refl _ _⟩
    ⟨fun _ _ _ _ _ _ _ _ z => z.elim, fun v d H2 _ _ r e => ?_, fun _ _ _ _ _ _ _ _ z => z.elim, fun _ _ _ _ _ _ _ _ z => z.elim, fun _ _ _ _ _ _ _ _ _ _ z => z.elim⟩
  subst e
  cases r
  exact q H2
end PD
namespace PD
open PySem PySem.Spec PyProof.Rows L2
open PDX PDI
end PD
namespace PD
open PySem PySem.Spec PyProof.Rows L2
open PDX PDI PDT
abbrev vecD (l : List Int) : D := .lst (l.map D.int)
/-- x twelfths are m parts of b, m at most so great -/
def Pt (b most x : Int) : Prop := ∃ m : Int, x * b = 12 * m ∧ -most ≤ m ∧ m ≤ most
def PtC (x : Int) : Prop := ∃ b, 1 ≤ b ∧ b ≤ 4 ∧ Pt b 3 x
def CellP (n : Nat) (c : D) : Prop := c = .non ∨ ∃ v : List Int, c = vecD v ∧ v.length = n ∧ ∀ x ∈ v, PtC x
def RowP (n w : Nat) (r : D) : Prop := ∃ cs, r = .lst cs ∧ cs.length = w ∧ ∀ c ∈ cs, CellP n c
def GridP (n : Nat) (g : D) : Prop := ∃ (rows : List D) (w : Nat), g = .lst rows ∧ 1 ≤ rows.length ∧ rows.length ≤ 3 ∧ 1 ≤ w ∧ w ≤ 3 ∧ ∀ r ∈ rows, RowP n w r
def lowOk (x : Int) : Bool := decide (1 ≤ (lowF x 12).2) && decide ((lowF x 12).2 ≤ 4) && decide ((lowF x 12).1.natAbs ≤ 6)
def ptB (x : Int) : Bool := (decide (x % 12 = 0) && decide (x.natAbs ≤ 36)) || (decide (x % 6 = 0) && decide (x.natAbs ≤ 18)) || (decide (x % 4 = 0) && decide (x.natAbs ≤ 12)) || (decide (x % 3 = 0) && decide (x.natAbs ≤ 9))
theorem ptB_of {x : Int} (h : PtC x) : ptB x = true := by
  obtain ⟨b, b1, b4, m, e, m1, m2⟩ := h
  have : b = 1 ∨ b = 2 ∨ b = 3 ∨ b = 4 := by omega
  unfold ptB
  simp only [Bool.or_eq_true, Bool.and_eq_true, decide_eq_true_eq]
  rcases this with rfl | rfl | rfl | rfl <;> omega
theorem ptB_all : ∀ k : Fin 73, ptB ((k.val : Int) - 36) = true → lowOk ((k.val : Int) - 36) = true := by decide +kernel
theorem low_ok {x : Int} (h : PtC x) : IsF (lowF x 12) ∧ (lowF x 12).1.natAbs ≤ 6 ∧ (lowF x 12).2 ≤ 4 := by
  have hb := ptB_of h
  have hx : x.natAbs ≤ 36 := by
    unfold ptB at hb
    simp only [Bool.or_eq_true, Bool.and_eq_true, decide_eq_true_eq] at hb
    omega
  have e : x = (((x + 36).toNat : Nat) : Int) - 36 := by omega
  have := ptB_all ⟨(x + 36).toNat, by omega⟩
  simp only at this
  rw [← e] at this
  have := this hb
  unfold lowOk at this
  simp only [Bool.and_eq_true, decide_eq_true_eq] at this
  exact ⟨lowF_isF (by decide), this.2, this.1.2⟩
/-- the exponent of a part -/
theorem exp_part (x s : Int) : expI s (lowF x 12) = x * s / 12 := by
  have d1 := gcdI_dvd1 x 12
  have d2 := gcdI_dvd2 x 12
  have gp := gcdI_pos (a := x) (b := 12) (by decide)
  obtain ⟨p, hp⟩ := d1
  obtain ⟨q, hq⟩ := d2
  generalize hg : (gcdI x 12 : Int) = g at hp hq
  have g0 : 0 < g := by omega
  have e1 : (lowF x 12).1 = p := by
    show x / (gcdI x 12 : Int) = p
    rw [hg, hp, Int.mul_ediv_cancel_left _ (by omega)]
  have e2 : (lowF x 12).2 = q := by
    show 12 / (gcdI x 12 : Int) = q
    rw [hg, hq, Int.mul_ediv_cancel_left _ (by omega)]
  unfold expI
  rw [e1, e2, hq, show x * s = g * (s * p) by rw [hp]; grind, Int.mul_ediv_mul_of_pos _ _ g0]
def cellU : D → D
  | .lst xs => un (xs.map fun x => lowF x.toI 12)
  | _ => .non
def rowU : D → D
  | .lst cs => .tup (cs.map cellU)
  | _ => .tup []
def gridU : D → List D
  | .lst rows => rows.map rowU
  | _ => []
theorem cellU_vec (v : List Int) : cellU (vecD v) = un (v.map fun x => lowF x 12) := by
  show un ((v.map D.int).map fun x => lowF x.toI 12) = _
  rw [List.map_map]
  rfl
theorem CellP.cl {n : Nat} {c : D} (h : CellP n c) : isCl (n : Int) (cellU c) = true := by
  rcases h with rfl | ⟨v, rfl, hl, hv⟩
  · rfl
  · rw [cellU_vec]
    refine cl_un (by rw [List.length_map, hl]) fun p hp => ?_
    obtain ⟨x, hx, rfl⟩ := List.mem_map.mp hp
    exact low_ok (hv x hx)
theorem GridP.grd {n : Nat} {g : D} (h : GridP n g) (n1 : 1 ≤ n) (n3 : n ≤ 3) : ∃ w, Grd (n : Int) w (gridU g) ∧ w ≤ 3 ∧ 1 ≤ w ∧ (gridU g).length ≤ 3 := by
  obtain ⟨rows, w, rfl, r1, r3, w1, w3, hr⟩ := h
  refine ⟨w, ⟨by omega, by omega, by unfold gridU; rw [List.length_map]; omega, by unfold gridU; rw [List.length_map]; omega, w1, by omega, fun e he => ?_⟩, w3, w1, by unfold gridU; rw [List.length_map]; omega⟩
  obtain ⟨r, hrm, rfl⟩ := List.mem_map.mp he
  obtain ⟨cs, rfl, hl, hc⟩ := hr r hrm
  refine ⟨_, rfl, by rw [List.length_map, hl], fun c hc' => ?_⟩
  obtain ⟨c0, h0, rfl⟩ := List.mem_map.mp hc'
  exact (hc c0 h0).cl
end PD
namespace PD
open PySem PySem.Spec PyProof.Rows L2
open PDX PDI PDT
end PD
namespace PD
open PySem PySem.Spec PyProof.Rows L2
open PDX PDI PDT
def CellV (c y : D) : Prop := (c = .non ∧ y = fr (0, 1)) ∨ (c.isNon = false ∧ ∃ q : Fr, y = fr q ∧ IsF q ∧ 0 < q.1 ∧ Sz 134 q)
def LineV (r y : D) : Prop := ∃ cs line, r = .lst cs ∧ y = .tup line ∧ line.length = cs.length ∧ ∀ (j : Nat) (c z : D), cs[j]? = some c → line[j]? = some z → CellV c z
def RowsV (g y : D) : Prop := ∃ rows V, g = .lst rows ∧ y = .tup V ∧ V.length = rows.length ∧ ∀ (i : Nat) (r z : D), rows[i]? = some r → V[i]? = some z → LineV r z
theorem cellU_non {n : Nat} {c : D} (h : CellP n c) : (cellU c).isNon = c.isNon := by
  rcases h with rfl | ⟨v, rfl, _⟩
  · rfl
  · rw [cellU_vec]
    rfl
theorem CellV.ok {n : Nat} {c y : D} (hc : CellP n c) (h : CellV c y) : ∃ q : Fr, y = fr q ∧ IsF q ∧ Sz 134 q ∧ numP (.tup [cellU c, y]) = true ∧ valP (.tup [cellU c, y]) = true := by
  rcases h with ⟨rfl, rfl⟩ | ⟨hn, q, rfl, iq, q0, sq⟩
  · exact ⟨(0, 1), rfl, ⟨by decide, by decide⟩, ⟨by decide, by decide⟩, by decide +kernel, by decide +kernel⟩
  · have e := cellU_non hc
    rw [hn] at e
    refine ⟨q, rfl, iq, sq, ?_, ?_⟩
    · simp only [numP, isFr_fr iq, e, Bool.not_false, Bool.true_or, Bool.and_self]
    · have : isPos (fr q) = true := by
        unfold isPos
        rw [isFr_fr iq]
        exact (Bool.true_and _).trans (decide_eq_true q0)
      simp only [valP, e, this, Bool.or_true]
theorem RowsV.nums {n : Nat} {g y : D} (hg : GridP n g) (h : RowsV g y) {w : Nat} (gr : Grd (n : Int) w (gridU g)) : ∃ V, y = .tup V ∧ Nums w 134 (gridU g) V ∧ (besD (gridU g) V).all valP = true := by
  obtain ⟨rows, V, rfl, rfl, lV, hV⟩ := h
  obtain ⟨rows', w', e, r1, r3, w1, w3, hr⟩ := hg
  cases e
  have at1 : ∀ (i : Nat) (z : D), V[i]? = some z → ∃ r cs line, rows[i]? = some r ∧ r = .lst cs ∧ z = .tup line ∧ line.length = w ∧ cs.length = w ∧ (∀ c ∈ cs, CellP n c) ∧ ∀ (j : Nat) (c z : D), cs[j]? = some c → line[j]? = some z → CellV c z := fun i z hz => by
    have hi := (List.getElem?_eq_some_iff.mp hz).1
    have er : rows[i]? = some rows[i] := List.getElem?_eq_getElem (by omega)
    obtain ⟨cs, line, e1, e2, l2, hc⟩ := hV i _ _ er hz
    obtain ⟨cs', e3, l3, hcp⟩ := hr _ (List.getElem_mem (by omega : i < rows.length))
    rw [e1] at e3 er
    cases e3
    obtain ⟨us, e4, l4, _⟩ := gr.at (i := i) (e := rowU (.lst cs)) (by unfold gridU; rw [List.getElem?_map, er]; rfl)
    cases e4
    rw [List.length_map] at l4
    exact ⟨_, cs, line, er, rfl, e2, by omega, l4, hcp, hc⟩
  have cell : ∀ (i j : Nat) (e r u z : D), (gridU (.lst rows))[i]? = some e → V[i]? = some r → (items e)[j]? = some u → (items r)[j]? = some z → ∃ c, CellP n c ∧ u = cellU c ∧ CellV c z := fun i j e r u z h1 h2 h3 h4 => by
    obtain ⟨r0, cs, line, hr0, rfl, rfl, _, _, hcp, hc⟩ := at1 i r h2
    unfold gridU at h1
    rw [List.getElem?_map, hr0] at h1
    cases h1
    have h3 : (cs.map cellU)[j]? = some u := h3
    rw [List.getElem?_map] at h3
    cases hcj : cs[j]? with
    | none => rw [hcj] at h3; cases h3
    | some c =>
      rw [hcj] at h3
      cases h3
      exact ⟨c, hcp c (List.mem_of_getElem? hcj), rfl, hc j c z hcj h4⟩
  refine ⟨V, rfl, ⟨⟨by unfold gridU; rw [List.length_map, lV], fun e he => ?_⟩, fun r hr y hy => ?_, bes_all fun i j e r u z h1 h2 h3 h4 => ?_⟩, bes_all fun i j e r u z h1 h2 h3 h4 => ?_⟩
  · obtain ⟨i, hi⟩ := List.mem_iff_getElem?.mp he
    obtain ⟨_, cs, line, _, _, rfl, l, _⟩ := at1 i e hi
    exact ⟨line, rfl, l⟩
  · obtain ⟨i, hi⟩ := List.mem_iff_getElem?.mp hr
    obtain ⟨r0, cs, line, hr0, rfl, rfl, l1, l2, hcp, hc⟩ := at1 i r hi
    obtain ⟨j, hj⟩ := List.mem_iff_getElem?.mp hy
    have hj : line[j]? = some y := hj
    have hl := (List.getElem?_eq_some_iff.mp hj).1
    have ec : cs[j]? = some cs[j] := List.getElem?_eq_getElem (by omega)
    obtain ⟨q, e, iq, sq, _⟩ := (hc j _ _ ec hj).ok (hcp _ (List.getElem_mem (by omega : j < cs.length)))
    exact ⟨q, e, iq, sq⟩
  · obtain ⟨c, hc, rfl, hv⟩ := cell i j e r u z h1 h2 h3 h4
    obtain ⟨q, _, _, _, np, _⟩ := hv.ok hc
    exact np
  · obtain ⟨c, hc, rfl, hv⟩ := cell i j e r u z h1 h2 h3 h4
    obtain ⟨q, _, _, _, _, vp⟩ := hv.ok hc
    exact vp
end PD
namespace PD
open PySem PySem.Spec PyProof.Rows L2
end PD
namespace PD
open PySem PySem.Spec PyProof.Rows L2
open PDX PDI PDT
structure ChP (C : Addr) (n : Int) (k : Nat) (Gs Vs : List D) : Prop where
  l : Vs.length = Gs.length
  g : ∀ (i : Nat) (G V : D), Gs[i]? = some G → Vs[i]? = some V → ∃ w X rows, G = gd C n X ∧ V = .tup rows ∧ Grd n w X ∧ Nums w k X rows ∧ (besD X rows).all valP = true
theorem ChP.at {C : Addr} {n : Int} {k : Nat} {Gs Vs : List D} (h : ChP C n k Gs Vs) {i : Nat} {G : D} (hG : Gs[i]? = some G) : ∃ V w X rows, Vs[i]? = some V ∧ G = gd C n X ∧ V = .tup rows ∧ Grd n w X ∧ Nums w k X rows ∧ (besD X rows).all valP = true := by
  have hi := (List.getElem?_eq_some_iff.mp hG).1
  have hi2 : i < Vs.length := by have := h.l; omega
  have eV : Vs[i]? = some Vs[i] := List.getElem?_eq_getElem hi2
  obtain ⟨w, X, rows, a, b, c⟩ := h.g i G _ hG eV
  exact ⟨_, w, X, rows, eV, a, b, c⟩
end PD
namespace PD
open PySem PySem.Spec PyProof.Rows L2
open PDX PDI PDT
theorem Nums.lays {m k : Nat} {xs rows : List D} (h : Nums m k xs rows) : (D.tup rows).lays 3 = true := lays_tup fun r hr => by
  obtain ⟨cs, rfl, _⟩ := h.s.r r hr
  refine lays_tup fun y hy => ?_
  obtain ⟨q, rfl, _⟩ := h.n _ hr y hy
  exact lays_tup fun z hz => by
    simp only [List.mem_cons, List.not_mem_nil, or_false] at hz
    rcases hz with rfl | rfl <;> rfl
end PD
namespace PDY
open PySem PySem.Spec PyProof.Rows L2 RZ PDZ
/-- an iterator, its list, what that holds, and what comes next -/
structure Cell where
  it : Addr
  l : Addr
  xs : Array Value
  u : Value
structure Apart (z TI TO : Addr) (R : List Cell) : Prop where
  TIz : TI ≠ z
  TOz : TO ≠ z
  TITO : TI ≠ TO
  iz : ∀ c ∈ R, c.it ≠ z ∧ c.it ≠ TI ∧ c.it ≠ TO ∧ c.l ≠ z ∧ c.l ≠ TO
  nd : ∀ (j k : Nat) (c d : Cell), R[j]? = some c → R[k]? = some d → j ≠ k → c.it ≠ d.it
  li : ∀ c ∈ R, ∀ d ∈ R, c.l ≠ d.it
/-- how far the iterators are: the first k one further -/
def ItsAt (R : List Cell) (i k : Nat) (h : Heap) : Prop := ∀ (j : Nat) (c : Cell), R[j]? = some c → h.IsListIter c.it c.l (if j < k then i + 1 else i) ∧ h.IsList c.l c.xs
theorem ItsAt.off {R : List Cell} {i k : Nat} {h h' : Heap} (t : ItsAt R i k h) {a : Addr} (na : ∀ c ∈ R, c.it ≠ a ∧ c.l ≠ a) (e : Heap.SameBut a h h') : ItsAt R i k h' := fun j d hd => by
  obtain ⟨x, y⟩ := t j d hd
  have := na d (List.mem_of_getElem? hd)
  exact ⟨x.extBut e.extBut this.1, y.extBut e.extBut this.2⟩
end PDY
namespace PDY
open PySem PySem.Spec PyProof.Rows L2 RZ PDZ
theorem nz : ∀ ls : List Value, 1 ≤ ls.length → ls.length ≤ 12 → checkBuiltinCall "zip.__new__" ⟨.type "zip" :: ls, []⟩ = pure ()
  | [a0], _, _ => by kernel_rfl
  | [a0, a1], _, _ => by kernel_rfl
  | [a0, a1, a2], _, _ => by kernel_rfl
  | [a0, a1, a2, a3], _, _ => by kernel_rfl
  | [a0, a1, a2, a3, a4], _, _ => by kernel_rfl
  | [a0, a1, a2, a3, a4, a5], _, _ => by kernel_rfl
  | [a0, a1, a2, a3, a4, a5, a6], _, _ => by kernel_rfl
  | [a0, a1, a2, a3, a4, a5, a6, a7], _, _ => by kernel_rfl
  | [a0, a1, a2, a3, a4, a5, a6, a7, a8], _, _ => by kernel_rfl
  | [a0, a1, a2, a3, a4, a5, a6, a7, a8, a9], _, _ => by kernel_rfl
  | [a0, a1, a2, a3, a4, a5, a6, a7, a8, a9, a10], _, _ => by kernel_rfl
  | [a0, a1, a2, a3, a4, a5, a6, a7, a8, a9, a10, a11], _, _ => by kernel_rfl
  | [], h, _ => absurd h (by decide)
  | _ :: _ :: _ :: _ :: _ :: _ :: _ :: _ :: _ :: _ :: _ :: _ :: _ :: l, _, h => by simp at h
end PDY
namespace PDY
open PySem PySem.Spec PyProof.Rows L2 RZ PDZ
structure ApartP (z TI TO : Addr) (P : List (Addr × Addr)) : Prop where
  TIz : TI ≠ z
  TOz : TO ≠ z
  TITO : TI ≠ TO
  iz : ∀ p ∈ P, p.1 ≠ z ∧ p.1 ≠ TI ∧ p.1 ≠ TO ∧ p.2 ≠ z ∧ p.2 ≠ TO
  nd : ∀ (j k : Nat) (p q : Addr × Addr), P[j]? = some p → P[k]? = some q → j ≠ k → p.1 ≠ q.1
  li : ∀ p ∈ P, ∀ q ∈ P, p.2 ≠ q.1
abbrev ofCell (c : Cell) : Addr × Addr := (c.it, c.l)
theorem ApartP.to {z TI TO : Addr} {P : List (Addr × Addr)} {R : List Cell} (D : ApartP z TI TO P) (h : R.map ofCell = P) : Apart z TI TO R where
  TIz := D.TIz
  TOz := D.TOz
  TITO := D.TITO
  iz := fun c hc => D.iz (ofCell c) (by rw [← h]; exact List.mem_map_of_mem hc)
  nd := fun j k c d hc hd n => D.nd j k (ofCell c) (ofCell d) (by rw [← h, List.getElem?_map, hc]; rfl) (by rw [← h, List.getElem?_map, hd]; rfl) n
  li := fun c hc d hd => D.li (ofCell c) (by rw [← h]; exact List.mem_map_of_mem hc) (ofCell d) (by rw [← h]; exact List.mem_map_of_mem hd)
end PDY
namespace PDY
open PySem PySem.Spec PyProof.Rows L2 RZ PDZ
end PDY
namespace PD
open PySem PySem.Spec PyProof.Rows L2 PDY
end PD
namespace PD
open PySem PySem.Spec PyProof.Rows L2
end PD
namespace PD
open PySem PySem.Spec PyProof.Rows L2
end PD
namespace PD
open PySem PySem.Spec PyProof.Rows L2
end PD
namespace WarM
def pw (E : Nat → Nat → Bool) (n : Nat) : Nat → Nat → Nat → Bool
  | 0 => E
  | m + 1 => fun i j => (List.range n).any fun k => pw E n m i k && E k j
def sm (E : Nat → Nat → Bool) (n : Nat) : Nat → Nat → Nat → Bool
  | 0 => E
  | m + 1 => fun i j => sm E n m i j || pw E n (m + 1) i j
end WarM
namespace WarM
abbrev BM := List (List Bool)
def DimB (M : BM) (r c : Nat) : Prop := M.length = r ∧ ∀ row ∈ M, row.length = c
theorem DimB.row {M : BM} {r c i : Nat} (d : DimB M r c) (h : i < r) : (M.getD i []).length = c := by
  have h' : i < M.length := by rw [d.1]; exact h
  rw [List.getD_eq_getElem?_getD, List.getElem?_eq_getElem h']
  exact d.2 _ (List.getElem_mem h')
end WarM
namespace PD
open PySem PySem.Spec PyProof.Rows L2 WarM
section
variable {W : Wd} {δ : DS} {P : D → Prop}
/-- [g(x) for x in xs], x by what it stands for -/
theorem ev_lcM {α : Type} {wi : TI} {gt : TG} {te : TE} {vs : List Nat} (xs : List α) (f g : α → D) (h : IterD W wi δ fun ds => ds = xs.map f ∧ xs.length ≤ 100000 ∧
    (∀ (i : Nat) (x : α), xs[i]? = some x → ∃ js, (∀ j ∈ js, j ∈ vs) ∧ GD W gt (f x) (wipeD δ vs) js fun δ2 => EvD W te δ2 fun z => z = g x) ∧ P (.lst (xs.map g))) : EvD W (tLc wi gt tYes te vs) δ P :=
  ev_lcL fun M σ H p R q => h M σ H p R fun J H1 ds g1 k1 ⟨e, hl, hs, hP⟩ => q J H1 ds g1 k1 ⟨by rw [e, List.length_map]; exact hl, xs.map g, by rw [e, List.length_map, List.length_map], fun i d y hd hy => by
    subst e
    rw [List.getElem?_map] at hd hy
    cases hx : xs[i]? with
    | none => rw [hx] at hd; cases hd
    | some x =>
      rw [hx] at hd hy
      cases hd
      cases hy
      exact hs i x hx, hP⟩
/-- the same over two lists, pair by pair -/
theorem zipD_map {α β : Type} (xs : List α) (ys : List β) (f : α → D) (g : β → D) : zipD (xs.map f) (ys.map g) = (xs.zip ys).map fun p => .tup [f p.1, g p.2] := by
  unfold zipD
  rw [List.zipWith_map, List.zip, List.map_zipWith]
end
end PD
namespace PD
open PySem PySem.Spec PyProof.Rows L2 WarM
end PD
namespace PD
open PySem PySem.Spec PyProof.Rows L2 WarM
theorem range_get {n i x : Nat} (h : (List.range n)[i]? = some x) : i < n ∧ x = i := by
  have h1 := (List.getElem?_eq_some_iff.mp h).1
  rw [List.length_range] at h1
  rw [List.getElem?_range h1] at h
  exact ⟨h1, (Option.some.inj h).symm⟩
end PD
namespace PD
open PySem PySem.Spec PyProof.Rows L2 WarM
theorem rc_any {W : Wd} {P : D → Prop} {bs : List Bool} (h : P (.bl (bs.any id))) : RCD W (rAny W.K) [.lst (bs.map D.bl)] P := fun M H vs w r Q q => by
  cases r with
  | cons r1 t =>
    cases t
    cases r1 with
    | lst _ hs hr =>
      obtain rfl := reps_bls hr
      exact ⟨_, bs, rfl, SqL.of hs, q _ _ H w.g (Keep.refl H) (.bl _) h⟩
end PD
namespace PD
open PySem PySem.Spec PyProof.Rows L2 WarM
end PD
namespace PD
open PySem PySem.Spec PyProof.Rows L2 WarM
end PD
namespace PD
open PySem PySem.Spec PyProof.Rows L2 WarM
section
variable {W : Wd} {δ : DS}
/-- from hi down to above lo -/
def downD (hi : Int) (n : Nat) : List D := (List.range n).map fun (k : Nat) => .int (hi - (k : Int))
theorem downD_length (hi : Int) (n : Nat) : (downD hi n).length = n := by simp [downD]
theorem downD_get {hi : Int} {n i : Nat} {d : D} (h : (downD hi n)[i]? = some d) : i < n ∧ d = .int (hi - (i : Int)) := by
  unfold downD at h
  rw [List.getElem?_map] at h
  cases e : (List.range n)[i]? with
  | none => rw [e] at h; cases h
  | some x =>
    rw [e] at h
    cases h
    obtain ⟨a, rfl⟩ := range_get e
    exact ⟨a, rfl⟩
theorem src_down {M : Addr → Prop} {H1 : Hp} (hi : Int) (n : Nat) : Src W M (Itc hi (-1) n) H1 (downD hi n) := fun M' hm hn i H2 k g => by
  refine ⟨fun hl => by rw [downD_length] at hl; exact Nat.le_of_eq hl.symm, fun d hd => ?_⟩
  obtain ⟨hl, rfl⟩ := downD_get hd
  refine ⟨hl, fun x H3 y => ?_⟩
  obtain ⟨rfl, rfl⟩ := y
  have e : hi - (i : Int) = hi + (i : Int) * (-1) := by omega
  rw [e]
  exact ⟨g, Keep.refl _, .int _⟩
end
end PD
namespace PD
open PySem PySem.Spec PyProof.Rows L2 WarM
theorem rd_repL {W : Wd} {P : D → Prop} {xs : List D} {k : Int} (h1 : -(2 ^ 63) ≤ k) (h2 : k < 2 ^ 63) (hl : xs.length * k.toNat ≤ 100000) (h : P (.lst (List.replicate k.toNat xs).flatten)) : RD W rRep (.lst xs) (.int k) P := fun M H v u w r1 r2 Q q => by
  cases r2
  cases r1 with
  | lst n ha hr =>
    refine ⟨_, k, _, rfl, rfl, ha, h1, h2, len_ok (by rw [hr.length]; exact hl), fun p hp => ?_⟩
    obtain ⟨x1, x2, x3⟩ := newL w (reps_flat hr k.toNat) hp
    exact q _ _ _ x1 x2 x3 h
end PD
namespace PD
open PySem PySem.Spec PyProof.Rows L2 WarM
end PD
namespace PD
open PySem PySem.Spec PyProof.Rows L2 WarM
end PD
namespace PD
open PySem PySem.Spec PyProof.Rows L2
abbrev GX := List (List D)
/-- what stands in cells: nought, sums, products' sums, the sums of powers; what is put in; and what each may be asked of -/
structure Al where
  z : D
  pl : D → D → D
  inn : List D → List D → D
  st : GX → GX
  put : Nat → Nat → Nat → D → D
  okP : D → D → Prop
  okI : List D → List D → Prop
  okS : GX → Prop
  okU : Nat → Nat → Nat → D → Prop
def DimX (M : GX) (r c : Nat) : Prop := M.length = r ∧ ∀ row ∈ M, row.length = c
theorem DimX.row {M : GX} {r c i : Nat} (d : DimX M r c) (h : i < r) : (M.getD i []).length = c := by
  have h2 : i < M.length := by rw [d.1]; exact h
  rw [List.getD_eq_getElem?_getD, List.getElem?_eq_getElem h2]
  exact d.2 _ (List.getElem_mem h2)
theorem DimX.same {A : GX} {r c r' c' : Nat} (d : DimX A r c) (d' : DimX A r' c') (h : 1 ≤ r) : r' = r ∧ c' = c := by
  have h1 : r' = r := d'.1.symm.trans d.1
  refine ⟨h1, ?_⟩
  cases A with
  | nil => have := d.1; simp at this; omega
  | cons x A => rw [← d.2 x List.mem_cons_self, ← d'.2 x List.mem_cons_self]
namespace Al
variable (A : Al)
/-- what is put in of the i-th grid -/
def cell (i a b : Nat) (u : D) : D := if u.isNon then A.z else A.put i a b u
def putRow (i a : Nat) (row : List D) : List D := (List.range row.length).map fun b => A.cell i a b (row.getD b .non)
end Al
theorem listX_at {r : List D} {j : Nat} (h : j < r.length) : r[j]? = some (r.getD j .non) := by
  rw [List.getElem?_eq_getElem h, List.getD_eq_getElem?_getD, List.getElem?_eq_getElem h]
  rfl
/-- an object's grid as it was given -/
def gridD (C : Addr) (x : D × List (List D)) : D := .ins C ["bases", "rows"] [x.1, .tup (x.2.map .tup)]
end PD
namespace PD
open PySem PySem.Spec PyProof.Rows L2
end PD
namespace PD
open PySem PySem.Spec PyProof.Rows L2
end PD
namespace PD
open PySem PySem.Spec PyProof.Rows L2
theorem toQ_add {p q : Fr} (hp : 0 < p.2) (hq : 0 < q.2) : toQ (addF p q) = toQ p + toQ q := by
  unfold addF
  rw [toQ_low (Int.mul_pos hp hq)]
  unfold toQ
  have h1 : p.2 ≠ 0 := by omega
  have h2 : q.2 ≠ 0 := by omega
  rw [Rat.divInt_add_divInt _ _ h1 h2]
end PD
namespace PD
open PySem PySem.Spec PyProof.Rows L2
end PD
namespace PD
open PySem PySem.Spec PyProof.Rows L2
section
variable {W : Wd} {Wx : WX} {X : XV → DS → Prop} {ω : Om} {δ : DS} {N : Om → DS → Prop} {R : D → Prop} {B C : Om → DS → Prop} {te : TE} {ta : TA}
/-- what holds no list is told of by all, whatever lists are lent -/
theorem unlend {M0 M : Addr → Prop} {H H1 : Hp} {v : V} {d : D} (ow : Own W M0 M H ω) (k : Keep W H H1) (h : Rep W (fun a => M a ∧ ∀ x ∈ ω, x.1 ≠ a) H1 v d) (n : d.nolst = true) : Rep W M H1 v d := by
  refine (h.withL n).anti fun a m => ?_
  by_cases q : ∀ x ∈ ω, x.1 ≠ a
  · exact .inl ⟨m, q⟩
  · have : ∃ x ∈ ω, x.1 = a := Classical.byContradiction fun z => q fun x hx e => z ⟨x, hx, e⟩
    obtain ⟨x, hx, rfl⟩ := this
    obtain ⟨_, _, ns, _, vs, hv, _⟩ := ow x.1 x.2 hx
    exact .inr ⟨vs, k _ _ ns hv⟩
end
end PD
namespace PDSR
open PySem PySem.Spec PyProof.Rows L2
end PDSR
namespace PD
open PySem PySem.Spec PyProof.Rows L2 PDSR
section
variable {W : Wd} {Wx : WX} {X : XV → DS → Prop} {ω : Om} {δ : DS} {N : Om → DS → Prop} {R : D → Prop} {B C : Om → DS → Prop} {te : TE} {ta : TA}
theorem int_reps {M : Addr → Prop} {H : Hp} : ∀ (ns : List Int), Reps W M H (ns.map V.int) (ns.map D.int)
  | [] => .nil
  | n :: ns => .cons (.int n) (int_reps ns)
/-- the ints below n -/
def natD (n : Nat) : List D := (List.range n).map fun (k : Nat) => D.int (k : Int)
theorem ev_lstRg {P : List D → Prop} (h : EvD W te δ fun d => ∃ n : Nat, d = .int (n : Int) ∧ n ≤ 16777216 ∧ P (natD n)) : EvF W (tLstRg (tRg1 te)) δ P := fun M σ H p Q q =>
  h M σ H p _ fun v d H1 g1 k1 r1 h1 => by
    obtain ⟨n, rfl, hn, hP⟩ := h1
    cases r1
    refine ⟨n, rfl, RgOk.of_le (by omega) (by omega) (by omega) (by omega), fun l hl => ?_⟩
    have w1 := (p.next g1 k1).wf
    have hl0 : H l = none := by
      cases z : H l with
      | none => rfl
      | some oo =>
        have ns : ¬ W.S l := fun w => by
          obtain ⟨_, q⟩ := StOk.at g1 w
          rw [hl] at q
          cases q
        rw [k1 l oo ns z] at hl
        cases hl
    have nM : ¬ M l := fun m => by
      obtain ⟨o, ho⟩ := w1.dom l m
      rw [hl] at ho
      cases ho
    have e1 : rgV 0 (n : Int) = ((List.range n).map fun (k : Nat) => (k : Int)).map V.int := by
      unfold rgV
      rw [List.map_map, show ((n : Int) - 0).toNat = n from by omega]
      refine List.map_congr_left fun k _ => ?_
      show V.int (0 + (k : Int)) = V.int (k : Int)
      rw [Int.zero_add]
    have e2 : natD n = ((List.range n).map fun (k : Nat) => (k : Int)).map D.int := by
      unfold natD
      rw [List.map_map]
      rfl
    exact q l _ (natD n) _ (g1.new hl) (k1.trans (Keep.new hl)) hl0 nM upd_same (by rw [e1, e2]; exact int_reps _) hP
end
end PD
namespace PD
open PySem PySem.Spec PyProof.Rows L2 PDSR
end PD
namespace PD
open PySem PySem.Spec PyProof.Rows L2
theorem ints_lays (a : List Int) : (D.lst (a.map D.int)).lays 1 = true := by
  show D.laysA (a.map D.int) 0 = true
  exact laysA_of fun x hx => by
    obtain ⟨i, _, rfl⟩ := List.mem_map.mp hx
    rfl
theorem lints_fine (a : List Int) : (D.lst (a.map D.int)).fine = true := lays_fine (ints_lays a) (by decide)
theorem tints_fine (a : List Int) : (D.tup (a.map D.int)).fine = true := lays_fine (n := 1) (by
  show D.laysA (a.map D.int) 0 = true
  exact laysA_of fun x hx => by
    obtain ⟨i, _, rfl⟩ := List.mem_map.mp hx
    rfl) (by decide)
end PD
namespace PD
open PySem PySem.Spec PyProof.Rows L2
end PD
namespace PD
open PySem PySem.Spec PyProof.Rows L2
end PD
namespace PDY
open PySem PySem.Spec PyProof.Rows L2 RZ PDZ
end PDY
namespace PD
open PySem PySem.Spec PyProof.Rows L2 PDY
end PD
namespace PD
open PySem PySem.Spec PyProof.Rows L2
theorem hr_65 {k : Nat} {A : Around} (hr : Room k A) : A.units + 65 < cLine := by
  have := hr.un
  omega
end PD
namespace PD
open PySem PySem.Spec PyProof.Rows L2
def CellsX (Q : D → Prop) (M : GX) : Prop := ∀ row ∈ M, ∀ c ∈ row, Q c
def DimShX (M : GX) (p : Sh) : Prop := ∃ a b : Nat, p = ((a : Int), (b : Int)) ∧ DimX M a b ∧ 1 ≤ a ∧ 1 ≤ b ∧ a ≤ 12 ∧ b ≤ 12
/-- what holds of cells, step by step (m steps); S: may stars be made -/
structure GoodA (A : Al) (m : Nat) (Q : Nat → D → Prop) (S : Prop) : Prop where
  up : ∀ i x, Q i x → Q (i + 1) x
  pl : ∀ i x y, i < m → Q i x → Q i y → A.okP x y ∧ Q (i + 1) (A.pl x y)
  inn : ∀ i r c, i < m → r.length = c.length → 1 ≤ r.length → r.length ≤ 12 → (∀ x ∈ r, Q i x) → (∀ x ∈ c, Q i x) → A.okI r c ∧ Q (i + 1) (A.inn r c)
  st : S → ∀ i n X, i < m → DimX X n n → 1 ≤ n → n ≤ 12 → CellsX (Q i) X → A.okS X ∧ DimX (A.st X) n n ∧ CellsX (Q (i + 1)) (A.st X)
theorem GoodA.mono {A : Al} {m : Nat} {Q : Nat → D → Prop} {S : Prop} (g : GoodA A m Q S) {i : Nat} {x : D} : ∀ {j : Nat}, i ≤ j → Q i x → Q j x
  | 0, h, q => by
    obtain rfl : i = 0 := by omega
    exact q
  | j + 1, h, q => by
    by_cases e : i = j + 1
    · rw [← e]
      exact q
    · exact g.up j x (g.mono (by omega) q)
/-- grids that a script may have -/
structure GsOk (n : Int) (gs : List (D × List (List D))) : Prop where
  one : 1 ≤ gs.length
  few : gs.length ≤ 6
  all : ∀ x ∈ gs, x.1 = .int n ∧ ∃ w, Grd n w (x.2.map .tup)
theorem GsOk.row {n : Int} {gs : List (D × List (List D))} (h : GsOk n gs) {x : D × List (List D)} (hx : x ∈ gs) : ∃ w : Nat, 1 ≤ x.2.length ∧ x.2.length ≤ 10 ∧ 1 ≤ w ∧ w ≤ 10 ∧ (∀ y ∈ x.2, y.length = w ∧ ∀ c ∈ y, isCl n c = true) ∧ ∀ CG, shG (gridD CG x) = ((x.2.length : Int), (w : Int)) := by
  obtain ⟨e, w, g⟩ := h.all x hx
  obtain ⟨b, rows⟩ := x
  have l1 := g.l1
  have l10 := g.l10
  rw [List.length_map] at l1 l10
  refine ⟨w, l1, l10, g.m1, g.m10, fun y hy => ?_, fun CG => ?_⟩
  · obtain ⟨cs, e, h1, h2⟩ := g.row (.tup y) (List.mem_map.mpr ⟨y, hy, rfl⟩)
    cases e
    exact ⟨h1, h2⟩
  · obtain ⟨cs, _, _, hh⟩ := g.head
    show (((rows.map D.tup).length : Int), ((rows.map D.tup).headD .non).len) = _
    rw [hh, List.length_map]
end PD
namespace PD
open PySem PySem.Spec PyProof.Rows L2
structure DegF (B V : Int) (d : Nat) (p : Fr) : Prop where
  f : IsF p
  n : 0 ≤ p.1
  b : p.2 ∣ B ^ d
  v : 16 * p.1 ≤ V ^ d * p.2
theorem degQ {B V : Int} {d : Nat} {p : Fr} (h : DegF B V d p) : 0 < p.2 := by have := h.f.1; omega
theorem pow_pos' {V : Int} (h : 1 ≤ V) (d : Nat) : 1 ≤ V ^ d := by
  have : 0 < V ^ d := Int.pow_pos (by omega)
  omega
theorem pow_mono' {V : Int} (h : 1 ≤ V) {d e : Nat} (hd : d ≤ e) : V ^ d ≤ V ^ e := by
  obtain ⟨k, rfl⟩ : ∃ k, e = d + k := ⟨e - d, by omega⟩
  rw [Int.pow_add]
  have a := pow_pos' h d
  have b := pow_pos' h k
  have := Int.mul_le_mul_of_nonneg_left b (show 0 ≤ V ^ d by omega)
  omega
theorem DegF.mono {B V : Int} {d e : Nat} {p : Fr} (hV : 1 ≤ V) (h : DegF B V d p) (hd : d ≤ e) : DegF B V e p := ⟨h.f, h.n, Int.dvd_trans h.b (by
  obtain ⟨k, rfl⟩ : ∃ k, e = d + k := ⟨e - d, by omega⟩
  exact ⟨B ^ k, by rw [Int.pow_add]⟩), by
  have b0 := degQ h
  have := Int.mul_le_mul_of_nonneg_right (pow_mono' hV hd) (show 0 ≤ p.2 by omega)
  have := h.v
  omega⟩
def CellQ (B V : Int) (c : D) (q : Fr) : Prop := (c = .non ∧ q = (0, 1)) ∨ (c.isNon = false ∧ 0 < q.1 ∧ Sz 134 q ∧ DegF B V 1 q)
def LineQ (B V : Int) (r : D) (l : List Fr) : Prop := ∃ cs, r = .lst cs ∧ l.length = cs.length ∧ ∀ (j : Nat) (c : D) (q : Fr), cs[j]? = some c → l[j]? = some q → CellQ B V c q
def GridQ (B V : Int) (g : D) (x : List (List Fr)) : Prop := ∃ rows, g = .lst rows ∧ x.length = rows.length ∧ ∀ (i : Nat) (r : D) (l : List Fr), rows[i]? = some r → x[i]? = some l → LineQ B V r l
def rowV (l : List Fr) : D := .tup (l.map fr)
def gridV (x : List (List Fr)) : D := .tup (x.map rowV)
theorem map_get {α : Type} {f : α → D} {xs : List α} {i : Nat} {d : D} (h : (xs.map f)[i]? = some d) : ∃ x, xs[i]? = some x ∧ d = f x := by
  rw [List.getElem?_map] at h
  cases e : xs[i]? with
  | none => rw [e] at h; cases h
  | some x => rw [e] at h; cases h; exact ⟨x, rfl, rfl⟩
theorem GridQ.rows {B V : Int} {g : D} {x : List (List Fr)} (h : GridQ B V g x) : RowsV g (gridV x) := by
  obtain ⟨rows, rfl, hl, hr⟩ := h
  refine ⟨rows, _, rfl, rfl, by rw [List.length_map, hl], fun i r z h1 h2 => ?_⟩
  obtain ⟨l, hx, rfl⟩ := map_get h2
  obtain ⟨cs, rfl, hc, hq⟩ := hr i r l h1 hx
  refine ⟨cs, _, rfl, rfl, by rw [List.length_map, hc], fun j c z h3 h4 => ?_⟩
  obtain ⟨q, hy, rfl⟩ := map_get h4
  rcases hq j c q h3 hy with ⟨rfl, rfl⟩ | ⟨n, q0, sq, dq⟩
  · exact .inl ⟨rfl, rfl⟩
  · exact .inr ⟨n, q, rfl, dq.f, q0, sq⟩
end PD
namespace PD
open PySem PySem.Spec PyProof.Rows L2
def atX (M : GX) (i j : Nat) : D := (M.getD i []).getD j .non
theorem atX_get {M : GX} {r c i j : Nat} (d : DimX M r c) (hi : i < r) (hj : j < c) : M[i]? = some (M.getD i []) ∧ (M.getD i [])[j]? = some (atX M i j) ∧ M.getD i [] ∈ M ∧ atX M i j ∈ M.getD i [] := by
  have h1 : i < M.length := by rw [d.1]; exact hi
  have h2 : j < (M.getD i []).length := by rw [d.row hi]; exact hj
  have e1 : M[i]? = some (M.getD i []) := by rw [List.getD_eq_getElem?_getD, List.getElem?_eq_getElem h1]; rfl
  have e2 := listX_at h2
  exact ⟨e1, e2, List.mem_of_getElem? e1, List.mem_of_getElem? e2⟩
/-- the grids at hand and their shapes -/
def ShX (G : Nat → Option GX) (shs : List Sh) : Prop := ∀ a X, G a = some X → ∃ p, shs[a]? = some p ∧ DimShX X p
theorem shAt_of {shs : List Sh} {a : Nat} {p : Sh} (h : shs[a]? = some p) : shAt shs (a : Int) = p := by
  show shs.getD (a : Int).toNat (0, 0) = p
  rw [Int.toNat_natCast, List.getD_eq_getElem?_getD, h]
  rfl
theorem ShX.at {G : Nat → Option GX} {shs : List Sh} (h : ShX G shs) {a r c : Nat} {X : GX} (g : G a = some X) (d : DimX X r c) : shAt shs (a : Int) = ((r : Int), (c : Int)) ∧ a < shs.length ∧ 1 ≤ r ∧ 1 ≤ c ∧ r ≤ 12 ∧ c ≤ 12 := by
  obtain ⟨p, hp, r', c', rfl, d', r1, c1, r12, c12⟩ := h a X g
  have hr : r' = r := d'.1.symm.trans d.1
  subst hr
  obtain ⟨h1, h2⟩ := d'.same d r1
  subst h2
  exact ⟨shAt_of hp, (List.getElem?_eq_some_iff.mp hp).1, r1, c1, r12, c12⟩
end PD
namespace PD
open PySem PySem.Spec PyProof.Rows L2
structure Ops where
  z : D
  pl : D → D → D
  pr : D → D → D
  pw : D → D
  put : Nat → Nat → Nat → D → D
  okP : D → D → Prop
  okM : D → D → Prop
  okW : D → Prop
  okU : Nat → Nat → Nat → D → Prop
namespace Ops
variable (O : Ops)
def isz (x : D) : Bool := x.eqv O.z
/-- one part more of an inner product -/
def part (t : D) (p : D × D) : D := if O.isz p.1 || O.isz p.2 then t else O.pl t (O.pr p.1 p.2)
def inn (r c : List D) : D := (r.zip c).foldl O.part O.z
/-- a row, its paths through one place made longer -/
def path (row : List D) (tp ar : D) (fp : List D) : List D := if O.isz tp then row else List.zipWith (fun t f => if O.isz f then t else O.pl t (O.pr (O.pr tp ar) f)) row fp
def stk (X : GX) (k : Nat) : GX := X.map fun row => O.path row (row.getD k .non) (O.pw (atX X k k)) (X.getD k [])
def st (X : GX) : GX := (List.range X.length).foldl O.stk X
/-- what an inner product may be asked of: k parts of it -/
def okI (r c : List D) : Prop := (∀ x ∈ r, x.fine = true) ∧ (∀ x ∈ c, x.fine = true) ∧ ∀ (k : Nat) (p : D × D), (r.zip c)[k]? = some p → O.isz p.1 = false → O.isz p.2 = false → O.okM p.1 p.2 ∧ O.okP (((r.zip c).take k).foldl O.part O.z) (O.pr p.1 p.2)
def okPath (row : List D) (tp ar : D) (fp : List D) : Prop := tp.fine = true ∧ (O.isz tp = false → O.okM tp ar ∧ ∀ p ∈ row.zip fp, p.2.fine = true ∧ (O.isz p.2 = false → O.okM (O.pr tp ar) p.2 ∧ O.okP p.1 (O.pr (O.pr tp ar) p.2)))
def okK (X : GX) (k : Nat) : Prop := O.okW (atX X k k) ∧ ∀ row ∈ X, O.okPath row (row.getD k .non) (O.pw (atX X k k)) (X.getD k [])
def okS (X : GX) : Prop := ∀ k, k < X.length → O.okK ((List.range k).foldl O.stk X) k
end Ops
end PD
namespace PD
open PySem PySem.Spec PyProof.Rows L2
def DpU : Nat → D → Prop
  | 0, e => ∃ us, e = .lst us ∧ ∀ u ∈ us, ∃ ws, u = .lst ws
  | m + 1, e => ∃ x xs, e = .lst (x :: xs) ∧ DpU m x
theorem DpU.lst {m : Nat} {e : D} (h : DpU m e) : ∃ ws, e = .lst ws := by
  cases m with
  | zero => obtain ⟨us, rfl, _⟩ := h; exact ⟨_, rfl⟩
  | succ m => obtain ⟨x, xs, rfl, _⟩ := h; exact ⟨_, rfl⟩
end PD
namespace PD
open PySem PySem.Spec PyProof.Rows L2
end PD
namespace PD
open PySem PySem.Spec PyProof.Rows L2
def vecT (v : List Int) : D := .tup (v.map .int)
abbrev noD : D := .str "nought"
def addV (u w : List Int) : List Int := List.zipWith (· + ·) u w
def isV (n : Nat) (x : D) : Prop := x = noD ∨ x = .non ∨ ∃ v : List Int, x = vecT v ∧ v.length = n
theorem vec_fine (v : List Int) : (vecT v).fine = true := tints_fine v
theorem noD_fine : noD.fine = true := by decide +kernel
theorem isV.fine {n : Nat} {x : D} (h : isV n x) : x.fine = true := by
  rcases h with rfl | rfl | ⟨v, rfl, _⟩
  · exact noD_fine
  · decide +kernel
  · exact vec_fine v
def tb : D → Bool
  | .bl b => b
  | _ => false
end PD
namespace PD
open PySem PySem.Spec PyProof.Rows L2
def RelR (R : D → D → Prop) (r r' : List D) : Prop := r.length = r'.length ∧ ∀ (j : Nat) (x x' : D), r[j]? = some x → r'[j]? = some x' → R x x'
def RelX (R : D → D → Prop) (M M' : GX) : Prop := M.length = M'.length ∧ ∀ (i : Nat) (r r' : List D), M[i]? = some r → M'[i]? = some r' → RelR R r r'
theorem RelX.at {R : D → D → Prop} {M M' : GX} {r c i j : Nat} (h : RelX R M M') (d : DimX M r c) (hi : i < r) (hj : j < c) : R (atX M i j) (atX M' i j) := by
  obtain ⟨a1, a2, _, _⟩ := atX_get d hi hj
  have hi' : i < M'.length := by rw [← h.1, d.1]; exact hi
  have b1 : M'[i]? = some (M'.getD i []) := by rw [List.getD_eq_getElem?_getD, List.getElem?_eq_getElem hi']; rfl
  have q := h.2 i _ _ a1 b1
  have hj' : j < (M'.getD i []).length := by rw [← q.1, d.row hi]; exact hj
  exact q.2 j _ _ a2 (listX_at hj')
theorem RelX.of {R : D → D → Prop} {M M' : GX} {r c : Nat} (d : DimX M r c) (d' : DimX M' r c) (h : ∀ i j, i < r → j < c → R (atX M i j) (atX M' i j)) : RelX R M M' := by
  refine ⟨d.1.trans d'.1.symm, fun i a b ha hb => ?_⟩
  have hi : i < r := by rw [← d.1]; exact (List.getElem?_eq_some_iff.mp ha).1
  have e1 : M.getD i [] = a := by rw [List.getD_eq_getElem?_getD, ha]; rfl
  have e2 : M'.getD i [] = b := by rw [List.getD_eq_getElem?_getD, hb]; rfl
  have la := d.2 a (List.mem_of_getElem? ha)
  have lb := d'.2 b (List.mem_of_getElem? hb)
  refine ⟨la.trans lb.symm, fun j x y hx hy => ?_⟩
  have hj : j < c := by rw [← la]; exact (List.getElem?_eq_some_iff.mp hx).1
  have := h i j hi hj
  unfold atX at this
  rw [e1, e2, List.getD_eq_getElem?_getD, List.getD_eq_getElem?_getD, hx, hy] at this
  exact this
end PD
namespace PD
open PySem PySem.Spec PyProof.Rows L2
theorem GsOk.cons {n : Int} {CG : Addr} {gs : List (D × List (List D))} (h : GsOk n gs) : ∃ X G, gs.map (gridD CG) = gd CG n X :: G := by
  cases gs with
  | nil => have := h.one; simp at this
  | cons x gs =>
    obtain ⟨e1, w, g⟩ := h.all x List.mem_cons_self
    obtain ⟨b, rows⟩ := x
    cases e1
    exact ⟨_, _, rfl⟩
end PD
namespace PD
open PySem PySem.Spec PyProof.Rows L2
end PD
namespace PD
open PySem PySem.Spec PyProof.Rows L2
end PD
namespace PD
open PySem PySem.Spec PyProof.Rows L2
end PD
namespace PD
open PySem PySem.Spec PyProof.Rows L2
open PDX PDI PDT
theorem mem_set {xs : List D} {i : Nat} {t y : D} (h : y ∈ xs.set i t) : y = t ∨ y ∈ xs := by
  rcases List.mem_or_eq_of_mem_set h with h | h
  · exact .inr h
  · exact .inl h
end PD
namespace PD
open PySem PySem.W L2 PyProof.Rows
theorem vals_intPs : ∀ {ns : List Int} {us : List Value}, Vals (ns.map V.int) us → ∃ ps : List (Int × Tok), us = ps.map (fun p => Value.int p.1 p.2) ∧ ps.map Prod.fst = ns
  | [], us, h => by
    cases h
    exact ⟨[], rfl, rfl⟩
  | n :: ns, us, h => by
    cases h with
    | cons r t =>
      obtain ⟨k, rfl⟩ := r
      obtain ⟨ps, rfl, e⟩ := vals_intPs t
      exact ⟨(n, k) :: ps, rfl, by rw [List.map_cons, e]⟩
def rSumL (K : PySem.W.Frag) : List V → Hp → VK → Prop := fun vs H Q => ∃ (a : Addr) (ns : List Int), vs = [V.ref a] ∧ SqL K H a (ns.map V.int) ∧ Q (.int ns.sum) H
theorem cr_sumLK {X : Cx} {K : PySem.W.Frag} (h : X.K = K) (hc : X.calm = true) : CallR X (.builtin "sum") (rSumL K) := by
  subst h
  intro pins s σ H vs us Q I r wish
  obtain ⟨a, ns, rfl, hs, q⟩ := wish
  obtain ⟨its, rv, hl, _⟩ := I.list hs
  rw [Vals.ref1 r]
  obtain ⟨ps, e, en⟩ := vals_intPs rv
  have el : s.heap.IsList a (intItems ps.toArray) := by
    have z := hl.isList
    rw [e] at z
    simpa only [intItems, List.map_toArray] using z
  refine sum_intListG (I.ok.hd hc) el fun h' tk t' hk => ?_
  refine ⟨.int ns.sum, H, I.kept hk, ⟨t', ?_⟩, q⟩
  rw [preSum_eq, List.take_of_length_le (by simp)]
  rw [show ps.toArray.toList.map (·.1) = ns from en]
theorem rc_sumL {W : Wd} {P : D → Prop} {ns : List Int} (h : P (.int ns.sum)) : RCD W (rSumL W.K) [.lst (ns.map D.int)] P := fun M H vs w r Q q => by
  cases r with
  | cons r1 r2 =>
    cases r2
    cases r1 with
    | lst hn hs hr =>
      have e : ∀ {ns : List Int} {us : List V}, Reps W M H us (ns.map D.int) → us = ns.map V.int := fun {ns} => by
        induction ns with
        | nil => intro us z; cases z; rfl
        | cons n ns ih =>
          intro us z
          cases z with
          | cons z1 z2 => cases z1; rw [ih z2]; rfl
      have := e hr
      subst this
      exact ⟨_, ns, rfl, .inl (.inl hs), q _ _ H w.g (Keep.refl H) (.int _) h⟩
end PD
namespace PD
open PySem PySem.Spec PyProof.Rows L2
end PD
namespace PD
open PySem PySem.Spec PyProof.Rows L2
end PD
namespace PD
open PySem PySem.Spec PyProof.Rows L2
end PD
namespace PD
open PySem PySem.Spec PyProof.Rows L2
end PD
namespace PD
open PySem PySem.Spec PyProof.Rows L2
section
variable {W : Wd} {Wx : WX} {X : XV → DS → Prop} {ω : Om} {δ : DS} {N : Om → DS → Prop} {R : D → Prop} {B C : Om → DS → Prop} {te : TE}
theorem reps_objs {M : Addr → Prop} {H : Hp} : ∀ {vs : List V} {l : List Addr}, Reps W M H vs (l.map D.obj) → vs = l.map V.ref
  | _, [], .nil => rfl
  | _, a :: l, .cons r t => by
    cases r
    rw [reps_objs t]
    rfl
theorem objs_reps {M : Addr → Prop} {H : Hp} : ∀ l : List Addr, Reps W M H (l.map V.ref) (l.map D.obj)
  | [] => .nil
  | a :: l => .cons (.obj a) (objs_reps l)
end
end PD
namespace PD
open PySem PySem.Spec PyProof.Rows L2
section
variable {W : Wd} {Wx : WX} {X : XV → DS → Prop} {ω : Om} {δ : DS} {N : Om → DS → Prop} {R : D → Prop} {B C : Om → DS → Prop} {te : TE}
theorem reps_of {M : Addr → Prop} {H : Hp} : ∀ {vs : List V} {ds : List D}, vs.length = ds.length → (∀ (i : Nat) v d, vs[i]? = some v → ds[i]? = some d → Rep W M H v d) → Reps W M H vs ds
  | [], [], _, _ => .nil
  | [], _ :: _, h, _ => by cases h
  | _ :: _, [], h, _ => by cases h
  | v :: vs, d :: ds, h, g => .cons (g 0 v d rfl rfl) (reps_of (by simpa using h) fun i v d hv hd => g (i + 1) v d (by simpa using hv) (by simpa using hd))
theorem nodup_at {l : List Addr} (h : l.Nodup) : ∀ (i j : Nat) b, l[i]? = some b → l[j]? = some b → i = j := fun i j b h1 h2 => nd_ix h h1 h2
end
end PD
namespace PD
open PySem PySem.Spec PyProof.Rows L2
structure RowsAt (ω : Om) (p : Addr) (ps : List Addr) (L : List (List D)) : Prop where
  lp : ps.length = L.length
  top : Has ω p (ps.map D.obj)
  row : ∀ (i : Nat) a l, ps[i]? = some a → L[i]? = some l → Has ω a l
  nd : ps.Nodup
  off : p ∉ ps
def RowsO (ω : Om) (p : Addr) (L : List (List D)) : Prop := ∃ ps, RowsAt ω p ps L
def RowsX (ω : Om) (p q : Addr) (L : List (List D)) : Prop := ∃ ps, RowsAt ω p ps L ∧ q ≠ p ∧ q ∉ ps
section
variable {ω : Om} {p q : Addr} {ps : List Addr} {L : List (List D)} {l : List D} {f : List D → List D}
theorem RowsAt.at (c : RowsAt ω p ps L) {a : Addr} (h : a ∈ ps) : ∃ l, Has ω a l := by
  obtain ⟨i, hi⟩ := List.getElem?_of_mem h
  have il := (List.getElem?_eq_some_iff.mp hi).1
  exact ⟨_, c.row i a _ hi (List.getElem?_eq_getElem (by rw [← c.lp]; exact il))⟩
theorem RowsAt.fresh (c : RowsAt ω p ps L) (n : ∀ x ∈ ω, x.1 ≠ q) : q ≠ p ∧ q ∉ ps := ⟨fun e => n _ c.top.1 e.symm, fun h => by
  obtain ⟨l, hl⟩ := c.at h
  exact n _ hl.1 rfl⟩
theorem RowsAt.cons {ds : List D} (c : RowsAt ω p ps L) (n1 : q ≠ p) (n2 : q ∉ ps) : RowsAt ((q, ds) :: ω) p ps L :=
  ⟨c.lp, c.top.cons n1.symm, fun i a l h1 h2 => (c.row i a l h1 h2).cons fun e => n2 (e ▸ List.mem_of_getElem? h1), c.nd, c.off⟩
theorem RowsAt.putX (c : RowsAt ω p ps L) (n1 : q ≠ p) (n2 : q ∉ ps) : RowsAt (putO ω q f) p ps L :=
  ⟨c.lp, c.top.off n1.symm, fun i a l h1 h2 => (c.row i a l h1 h2).off fun e => n2 (e ▸ List.mem_of_getElem? h1), c.nd, c.off⟩
theorem RowsO.new (n : ∀ x ∈ ω, x.1 ≠ p) : RowsO ((p, []) :: ω) p [] := ⟨[], rfl, Has.new n, fun i a l h => by simp at h, List.nodup_nil, by simp⟩
theorem RowsO.fresh {ds : List D} (c : RowsO ω p L) (n : ∀ x ∈ ω, x.1 ≠ q) : RowsX ((q, ds) :: ω) p q L := by
  obtain ⟨ps, c⟩ := c
  obtain ⟨n1, n2⟩ := c.fresh n
  exact ⟨ps, c.cons n1 n2, n1, n2⟩
theorem RowsX.put (c : RowsX ω p q L) : RowsX (putO ω q f) p q L := by
  obtain ⟨ps, c, n1, n2⟩ := c
  exact ⟨ps, c.putX n1 n2, n1, n2⟩
theorem RowsX.top (c : RowsX ω p q L) : ∃ qs : List Addr, Has ω p (qs.map D.obj) ∧ qs.length = L.length := by
  obtain ⟨ps, c, _⟩ := c
  exact ⟨ps, c.top, c.lp⟩
theorem RowsX.snoc (c : RowsX ω p q L) (h : Has ω q l) : RowsO (putO ω p fun es => es ++ [.obj q]) p (L ++ [l]) := by
  obtain ⟨ps, c, n1, n2⟩ := c
  refine ⟨ps ++ [q], by rw [List.length_append, List.length_append, c.lp]; rfl, ?_, fun i a l' h1 h2 => ?_, ?_, ?_⟩
  · have := c.top.put (f := fun es => es ++ [D.obj q])
    rw [List.map_append]
    exact this
  · rcases Nat.lt_or_ge i ps.length with z | z
    · rw [List.getElem?_append_left z] at h1
      rw [List.getElem?_append_left (by rw [← c.lp]; exact z)] at h2
      exact (c.row i a l' h1 h2).off fun e => c.off (e ▸ List.mem_of_getElem? h1)
    · rw [List.getElem?_append_right z] at h1
      rw [List.getElem?_append_right (by rw [← c.lp]; exact z)] at h2
      have z0 : i - ps.length = 0 := by
        have := (List.getElem?_eq_some_iff.mp h1).1
        simp at this
        omega
      rw [z0] at h1
      rw [← c.lp, z0] at h2
      cases h1
      cases h2
      exact h.off n1
  · rw [List.nodup_append]
    refine ⟨c.nd, by simp, fun a ha b hb => ?_⟩
    rw [List.mem_singleton.mp hb]
    exact fun e => n2 (e ▸ ha)
  · rw [List.mem_append, List.mem_singleton]
    exact fun h => h.elim c.off fun e => n1 e.symm
theorem RowsAt.putRow (c : RowsAt ω p ps L) {i : Nat} {a : Addr} (ea : ps[i]? = some a) (hl : L[i]? = some l) : RowsAt (putO ω a f) p ps (L.set i (f l)) := by
  have il := (List.getElem?_eq_some_iff.mp hl).1
  refine ⟨by rw [List.length_set]; exact c.lp, c.top.off fun e => c.off (e ▸ List.mem_of_getElem? ea), fun j b m h1 h2 => ?_, c.nd, c.off⟩
  by_cases z : i = j
  · subst z
    rw [List.getElem?_set_self il] at h2
    rw [ea] at h1
    cases h1
    cases h2
    exact (c.row i a l ea hl).put
  · rw [List.getElem?_set_ne z] at h2
    exact (c.row j b m h1 h2).off fun e => z (nodup_at c.nd i j b (e ▸ ea) h1)
theorem RowsAt.swap (c : RowsAt ω p ps L) {k : Nat} (n1 : q ≠ p) (n2 : q ∉ ps) (h : Has ω q l) (hk : k < L.length) : RowsAt (putO ω p fun es => es.set k (.obj q)) p (ps.set k q) (L.set k l) := by
  have kp : k < ps.length := by rw [c.lp]; exact hk
  refine ⟨by rw [List.length_set, List.length_set]; exact c.lp, ?_, fun j b m h1 h2 => ?_, ?_, fun hm => ?_⟩
  · have := c.top.put (f := fun es => es.set k (D.obj q))
    rw [List.map_set]
    exact this
  · by_cases z : k = j
    · subst z
      rw [List.getElem?_set_self kp] at h1
      rw [List.getElem?_set_self hk] at h2
      cases h1
      cases h2
      exact h.off n1
    · rw [List.getElem?_set_ne z] at h1 h2
      exact (c.row j b m h1 h2).off fun e => c.off (e ▸ List.mem_of_getElem? h1)
  · refine List.pairwise_iff_getElem.mpr fun i j hi hj hij he => ?_
    have hi' : i < ps.length := by rw [List.length_set] at hi; exact hi
    have hj' : j < ps.length := by rw [List.length_set] at hj; exact hj
    rw [List.getElem_set, List.getElem_set] at he
    split at he
    · split at he
      · omega
      · exact n2 (he ▸ List.getElem_mem hj')
    · split at he
      · exact n2 (he ▸ List.getElem_mem hi')
      · have := nodup_at c.nd i j _ (List.getElem?_eq_getElem hi') (he ▸ List.getElem?_eq_getElem hj')
        omega
  · rcases List.mem_or_eq_of_mem_set hm with x | x
    · exact c.off x
    · exact n1 x.symm
end
section
variable {W : Wd} {Wx : WX} {X : XV → DS → Prop} {ω : Om} {δ : DS} {N : Om → DS → Prop} {R : D → Prop} {B C : Om → DS → Prop} {p : Addr} {L : List (List D)}
theorem rows_rep {M M2 : Addr → Prop} {H : Hp} (h : ∀ a ds, (a, ds) ∈ ω → ¬ M a ∧ ∃ vs, H a = some (.lst vs) ∧ Reps W M2 H vs ds) (hm : ∀ b, M b → M2 b) (c : RowsO ω p L) : Rep W M H (.ref p) (.lst (L.map .lst)) := by
  obtain ⟨ps, c⟩ := c
  obtain ⟨n, vs, hv, r⟩ := h _ _ c.top.1
  have hv := hv.trans (by rw [reps_objs r])
  refine .lst n hv (reps_of (by rw [List.length_map, List.length_map, c.lp]) fun i v d h1 h2 => ?_)
  rw [List.getElem?_map] at h1 h2
  cases e1 : ps[i]? with
  | none => rw [e1] at h1; cases h1
  | some a =>
    cases e2 : L[i]? with
    | none => rw [e2] at h2; cases h2
    | some f =>
      rw [e1] at h1
      rw [e2] at h2
      cases h1
      cases h2
      obtain ⟨n2, vs2, hv2, r2⟩ := h _ _ (c.row i a f e1 e2).1
      exact .lst n2 hv2 (r2.anti hm)
theorem lent_rows {M : Addr → Prop} {σ : L2.St} {H : Hp} {i : Nat} (hi : δ[i]? = some (some (.obj p))) (c : RowsO ω p L) (pr : Pre W M δ σ H) (l : Lent W M H ω) : Pre W M (δ.set i (some (.lst (L.map .lst)))) σ H := by
  refine ⟨pr.wf, by rw [List.length_set]; exact pr.sl.len, fun j d hd => ?_⟩
  by_cases z : i = j
  · subst z
    obtain ⟨v, h1, h2⟩ := pr.sl.get i _ hi
    cases h2
    rw [List.getElem?_set_self (List.getElem?_eq_some_iff.mp hi).1] at hd
    cases hd
    exact ⟨_, h1, rows_rep l (fun _ x => x) c⟩
  · rw [List.getElem?_set_ne z] at hd
    exact pr.sl.get j d hd
theorem evl_rows {P : D → Prop} {te : TE} (i : Nat) (hi : δ[i]? = some (some (.obj p))) (c : RowsO ω p L) (h : EvL W te ω (δ.set i (some (.lst (L.map .lst)))) P) : EvL W te ω δ P := fun M σ H pr l Q q => h M σ H (lent_rows hi c pr l) l Q q
/-- r[i][j] = e -/
theorem so_setR {r : Nat} {te ti tj : TE} (hr : δ[r]? = some (some (.obj p))) (c : RowsO ω p L)
    (h : EvD W te δ fun d => EvD W ti δ fun x => ∃ (i : Nat) (l : List D), x = .int (i : Int) ∧ L[i]? = some l ∧ EvD W tj δ fun y => ∃ j : Nat, y = .int (j : Int) ∧ j < l.length ∧ ∀ ω', RowsO ω' p (L.set i (l.set j d)) → N ω' δ) :
    SO W Wx (tAsg te (gSub (tOp (rIx W.K) (tVar r) ti) tj rSetL)) ω δ N R B C X := fun M0 H0 M1 L1 M σ H E d0 pr ow e o => by
  obtain ⟨ps, c⟩ := c
  obtain ⟨vr, sr, rr⟩ := pr.sl.get r _ hr
  cases rr
  refine h M σ H pr _ fun v d H1 g1 k1 r1 h1 => ?_
  refine ⟨_, sr, ?_⟩
  have p1 := pr.next g1 k1
  refine h1 M σ H1 p1 _ fun u x H2 g2 k2 r2 h2 => ?_
  obtain ⟨i, l, rfl, hl, h2⟩ := h2
  cases r2
  have p2 := p1.next g2 k2
  have k12 := k1.trans k2
  have ow2 := ow.keep pr.wf k12
  have il := (List.getElem?_eq_some_iff.mp hl).1
  have ea : ps[i]? = some (ps[i]'(by rw [c.lp]; exact il)) := List.getElem?_eq_getElem _
  generalize ps[i]'(by rw [c.lp]; exact il) = a at ea
  obtain ⟨_, _, _, _, v1, hp1, rp1⟩ := ow2 _ _ c.top.1
  rw [reps_objs rp1] at hp1
  refine .inl ⟨p, ps.map V.ref, i, .ref a, rfl, rfl, SqL.of hp1, atI_nat (by rw [List.getElem?_map, ea]; rfl), ?_⟩
  refine h2 M σ H2 p2 _ fun u y H3 g3 k3 r3 h3 => ?_
  obtain ⟨j, rfl, jl, hN⟩ := h3
  cases r3
  have k13 := k12.trans k3
  have ow3 := ow.keep pr.wf k13
  have hal := c.row i a l ea hl
  obtain ⟨_, _, _, _, v2, ha2, ra2⟩ := ow3 _ _ hal.1
  refine ⟨a, v2, j, j, rfl, rfl, ha2, by unfold ixN; rw [ra2.length]; simp; omega, ?_⟩
  have one : ∀ es, (a, es) ∈ ω → Reps W M H3 (v2.set j v) (es.set j d) := fun es m => by
    rw [hal.2 es m]
    exact ra2.setR j ((r1.keep p1.wf k2).keep p2.wf k3)
  obtain ⟨x1, x2, x3⟩ := own_upd (f := fun es => es.set j d) (p2.next g3 k3) ow3 (e.next pr.wf k13) d0 hal.1 one
  exact o.nx M _ _ _ _ x1 x2 x3 (hN _ ⟨ps, c.putRow (f := fun es => es.set j d) ea hl⟩)
end
end PD
namespace PD
open PySem PySem.Spec PyProof.Rows L2
end PD
namespace PD
open PySem PySem.Spec PyProof.Rows L2
def okL (n : Nat) (L : List (List Int)) : Prop := L.Nodup ∧ L.length ≤ 2 ∧ ∀ x ∈ L, x.length = n
end PD
namespace PD
open PySem PySem.Spec PyProof.Rows L2
abbrev uT (v : List Int) : D := un (v.map fun x => lowF x 12)
abbrev Cel := Option (List Int)
abbrev GO := List (List Cel)
def celO : Cel → D
  | none => .non
  | some v => uT v
def rowO (r : List Cel) : D := .tup (r.map celO)
def gridO (G : GO) : List D := G.map rowO
def Hv (n b : Nat) (v : List Int) : Prop := v.length = n ∧ ∀ x ∈ v, ∃ h : Int, x = 6 * h ∧ h.natAbs ≤ b
def SqO (n m : Nat) (G : GO) : Prop := G.length = m ∧ ∀ r ∈ G, r.length = m ∧ ∀ v, some v ∈ r → Hv n 6 v
theorem half_all : ∀ k : Fin 13, lowOk (6 * ((k.val : Int) - 6)) = true := by decide +kernel
theorem half_ok {h : Int} (hb : h.natAbs ≤ 6) : IsF (lowF (6 * h) 12) ∧ (lowF (6 * h) 12).1.natAbs ≤ 6 ∧ (lowF (6 * h) 12).2 ≤ 4 := by
  have e : h = (((h + 6).toNat : Nat) : Int) - 6 := by omega
  have := half_all ⟨(h + 6).toNat, by omega⟩
  simp only at this
  rw [← e] at this
  unfold lowOk at this
  simp only [Bool.and_eq_true, decide_eq_true_eq] at this
  exact ⟨lowF_isF (by decide), this.2, this.1.2⟩
theorem Hv.mono {n b c : Nat} {v : List Int} (h : Hv n b v) (hbc : b ≤ c) : Hv n c v := ⟨h.1, fun x hx => by
  obtain ⟨k, e, hk⟩ := h.2 x hx
  exact ⟨k, e, by omega⟩⟩
theorem Hv.cl {n b : Nat} {v : List Int} (h : Hv n b v) (hb : b ≤ 6) : isCl (n : Int) (uT v) = true :=
  cl_un (by rw [List.length_map, h.1]) fun p hp => by
    obtain ⟨x, hx, rfl⟩ := List.mem_map.mp hp
    obtain ⟨k, rfl, hk⟩ := h.2 x hx
    exact half_ok (by omega)
theorem SqO.grd {n m : Nat} {G : GO} (h : SqO n m G) (n1 : 1 ≤ n) (n3 : n ≤ 3) (m1 : 1 ≤ m) (m10 : m ≤ 10) : Grd (n : Int) m (gridO G) := by
  refine ⟨by omega, by omega, by unfold gridO; rw [List.length_map, h.1]; exact m1, by unfold gridO; rw [List.length_map, h.1]; exact m10, m1, m10, fun e he => ?_⟩
  obtain ⟨r, hr, rfl⟩ := List.mem_map.mp he
  obtain ⟨lr, hc⟩ := h.2 r hr
  refine ⟨_, rfl, by rw [List.length_map, lr], fun c hm => ?_⟩
  obtain ⟨o, ho, rfl⟩ := List.mem_map.mp hm
  cases o with
  | none => rfl
  | some v => exact (hc v ho).cl (Nat.le_refl 6)
def sumV (s : Int) (v w : List Int) : List Int := List.zipWith (fun x y => x + s * y) v w
theorem low_sum {x y s : Int} : addF (lowF x 12) (s * (lowF y 12).1, (lowF y 12).2) = lowF (x + s * y) 12 := by
  have a1 := lowF_cross (a := x) (b := 12) (by decide)
  have a2 := lowF_cross (a := y) (b := 12) (by decide)
  have a3 := lowF_cross (a := x + s * y) (b := 12) (by decide)
  have i1 := (lowF_isF (a := x) (b := 12) (by decide)).1
  have i2 := (lowF_isF (a := y) (b := 12) (by decide)).1
  have i3 := lowF_isF (a := x + s * y) (b := 12) (by decide)
  unfold addF
  refine lowF_eq (Int.mul_pos (by omega) (by omega)) i3 ?_
  generalize lowF x 12 = p at *
  generalize lowF y 12 = q at *
  generalize lowF (x + s * y) 12 = r at *
  show r.1 * (p.2 * q.2) = (p.1 * q.2 + s * q.1 * p.2) * r.2
  have h : (12 : Int) * (r.1 * (p.2 * q.2)) = 12 * ((p.1 * q.2 + s * q.1 * p.2) * r.2) := by grind
  exact Int.eq_of_mul_eq_mul_left (by decide) h
theorem Hv.sum {n a b : Nat} {s : Int} {v w : List Int} (hs : s = 1 ∨ s = -1) (h1 : Hv n a v) (h2 : Hv n b w) : Hv n (a + b) (sumV s v w) := by
  refine ⟨by unfold sumV; rw [List.length_zipWith, h1.1, h2.1, Nat.min_self], fun x hx => ?_⟩
  obtain ⟨i, hi⟩ := List.getElem?_of_mem hx
  unfold sumV at hi
  rw [List.getElem?_zipWith] at hi
  cases e1 : v[i]? with
  | none => rw [e1] at hi; cases hi
  | some p =>
    cases e2 : w[i]? with
    | none => rw [e1, e2] at hi; cases hi
    | some q =>
      rw [e1, e2] at hi
      cases hi
      obtain ⟨k, rfl, hk⟩ := h1.2 p (List.mem_of_getElem? e1)
      obtain ⟨l, rfl, hl⟩ := h2.2 q (List.mem_of_getElem? e2)
      refine ⟨k + s * l, by grind, ?_⟩
      rcases hs with rfl | rfl <;> omega
def atG (G : GO) (p q : Nat) : Cel := (G.getD p []).getD q none
/-- weights of k ties -/
def WtOk (n b : Nat) (l : List (List Int)) : Prop := okL n l ∧ ∀ v ∈ l, Hv n b v
theorem WtOk.nil {n b : Nat} : WtOk n b [] := ⟨⟨by simp, by simp, fun x h => by cases h⟩, fun v h => by cases h⟩
theorem WtOk.mono {n b c : Nat} {l : List (List Int)} (h : WtOk n b l) (hb : b ≤ c) : WtOk n c l := ⟨h.1, fun v hv => (h.2 v hv).mono hb⟩
theorem SqO.at {n m : Nat} {G : GO} (h : SqO n m G) {p q : Nat} {u : List Int} (e : atG G p q = some u) : Hv n 6 u := by
  unfold atG at e
  rw [List.getD_eq_getElem?_getD, List.getD_eq_getElem?_getD] at e
  cases e1 : G[p]? with
  | none => rw [e1] at e; simp at e
  | some r =>
    rw [e1] at e
    simp only [Option.getD_some] at e
    cases e2 : r[q]? with
    | none => rw [e2] at e; simp at e
    | some c =>
      rw [e2] at e
      have e : c = some u := e
      subst e
      exact (h.2 r (List.mem_of_getElem? e1)).2 u (List.mem_of_getElem? e2)
end PD
namespace PD
open PySem PySem.Spec PyProof.Rows L2 PySem.W
end PD
namespace PD
open PySem PySem.Spec PyProof.Rows L2
end PD
namespace PD
open PySem PySem.Spec PyProof.Rows L2
abbrev rowD (r : List Fr) : D := .tup (r.map fr)
def SqQ (n : Nat) (R : List (List Fr)) : Prop := R.length = n ∧ ∀ r ∈ R, r.length = n
def BotB (B : Int) (p : Fr) : Prop := IsF p ∧ p.2 ∣ B
def dotQ : Nat → (Nat → Rat) → (Nat → Rat) → Rat
  | 0, _, _ => 0
  | n + 1, x, y => dotQ n x y + x n * y n
theorem dotQ_congr {x x' y y' : Nat → Rat} : ∀ {n}, (∀ c, c < n → x c * y c = x' c * y' c) → dotQ n x y = dotQ n x' y'
  | 0, _ => rfl
  | n + 1, h => by
    show dotQ n x y + x n * y n = dotQ n x' y' + x' n * y' n
    rw [dotQ_congr fun c hc => h c (by omega), h n (by omega)]
abbrev MQ2 := Nat → Nat → Rat
def mulM (n : Nat) (A B : MQ2) : MQ2 := fun i j => dotQ n (A i) fun k => B k j
/-- A to the power k + 1 -/
def pwM (n : Nat) (A : MQ2) : Nat → MQ2
  | 0 => A
  | k + 1 => mulM n (pwM n A k) A
/-- equal where it counts -/
def EqM (n : Nat) (A B : MQ2) : Prop := ∀ i j, i < n → j < n → A i j = B i j
theorem EqM.mul {n : Nat} {A B C D : MQ2} (h : EqM n A B) (h' : EqM n C D) : EqM n (mulM n A C) (mulM n B D) := fun i j hi hj => dotQ_congr fun c hc => by rw [h i c hi hc, h' c j hc hj]
theorem EqM.trans {n : Nat} {A B C : MQ2} (h : EqM n A B) (h' : EqM n B C) : EqM n A C := fun i j hi hj => (h i j hi hj).trans (h' i j hi hj)
theorem EqM.symm {n : Nat} {A B : MQ2} (h : EqM n A B) : EqM n B A := fun i j hi hj => (h i j hi hj).symm
theorem EqM.refl {n : Nat} (A : MQ2) : EqM n A A := fun _ _ _ _ => rfl
theorem EqM.pw {n : Nat} {A B : MQ2} (h : EqM n A B) : ∀ k, EqM n (pwM n A k) (pwM n B k)
  | 0 => h
  | k + 1 => (EqM.pw h k).mul h
end PD
namespace PD
open PySem PySem.Spec PyProof.Rows L2
def LwF (D V : Nat) (p : Fr) : Prop := ∃ N : Int, N.natAbs ≤ V ∧ p = lowF N (D : Int)
theorem natR_ne {n : Nat} (h : 0 < n) : ((n : Int) : Rat) ≠ 0 := fun z => by
  have : (((n : Int)) : Rat) = ((0 : Int) : Rat) := z
  have := Rat.intCast_inj.mp this
  omega
section
variable {D E V W : Nat} {p q : Fr}
theorem LwF.isF (hD : 0 < D) (h : LwF D V p) : IsF p := by
  obtain ⟨N, _, rfl⟩ := h
  exact lowF_isF (by omega)
theorem LwF.mono (h : LwF D V p) (hV : V ≤ W) : LwF D W p := by
  obtain ⟨N, hN, e⟩ := h
  exact ⟨N, by omega, e⟩
theorem LwF.zero (hD : 0 < D) : LwF D V (0, 1) := ⟨0, by simp, (lowF_eq (by omega) ⟨by decide, by decide⟩ (by show 0 * (D : Int) = 0 * 1; simp)).symm⟩
theorem LwF.add (hD : 0 < D) (h : LwF D V p) (h' : LwF D W q) : LwF D (V + W) (addF p q) := by
  have ip := h.isF hD
  have iq := h'.isF hD
  have p1 := ip.1
  have q1 := iq.1
  obtain ⟨N, hN, ep⟩ := h
  obtain ⟨M, hM, eq_⟩ := h'
  refine ⟨N + M, by omega, toQ_inj (addF_isF ip iq) (lowF_isF (by omega)) ?_⟩
  rw [toQ_add (by omega) (by omega), ep, eq_, toQ_low (by omega), toQ_low (by omega), toQ_low (by omega), Rat.divInt_eq_div, Rat.divInt_eq_div, Rat.divInt_eq_div, Rat.intCast_add]
  grind
theorem LwF.mul (hD : 0 < D) (hE : 0 < E) (h : LwF D V p) (h' : LwF E W q) : LwF (D * E) (V * W) (mulF p q) := by
  have ip := h.isF hD
  have iq := h'.isF hE
  have p1 := ip.1
  have q1 := iq.1
  have hDE := Nat.mul_pos hD hE
  obtain ⟨N, hN, ep⟩ := h
  obtain ⟨M, hM, eq_⟩ := h'
  refine ⟨N * M, by rw [Int.natAbs_mul]; exact Nat.mul_le_mul hN hM, toQ_inj (mulF_isF ip iq) (lowF_isF (by omega)) ?_⟩
  rw [toQ_mul (by omega) (by omega), ep, eq_, toQ_low (by omega), toQ_low (by omega), toQ_low (by omega), Rat.divInt_eq_div, Rat.divInt_eq_div, Rat.divInt_eq_div, Rat.intCast_mul]
  rw [show (((D * E : Nat) : Int)) = (D : Int) * (E : Int) from Int.natCast_mul D E, Rat.intCast_mul]
  have h1 := natR_ne hD
  have h2 := natR_ne hE
  grind
theorem LwF.of {p : Fr} (hp : IsF p) (hD : 0 < D) (hd : p.2 ∣ (D : Int)) (hV : p.1.natAbs * D ≤ V) : LwF D V p := by
  obtain ⟨c, hc⟩ := hd
  have p1 := hp.1
  refine ⟨p.1 * c, ?_, (lowF_eq (by omega) hp (by rw [hc]; grind)).symm⟩
  rw [Int.natAbs_mul]
  have : c.natAbs ≤ D := by
    have e : (D : Int).natAbs = p.2.natAbs * c.natAbs := by rw [hc, Int.natAbs_mul]
    have e2 : (D : Int).natAbs = D := Int.natAbs_natCast D
    have : 1 * c.natAbs ≤ p.2.natAbs * c.natAbs := Nat.mul_le_mul_right _ (by omega)
    omega
  exact Nat.le_trans (Nat.mul_le_mul_left _ this) hV
end
def PdS (n : Nat) (s : Int) (v : List Int) : Prop := v.length = n ∧ ∀ x ∈ v, (12 : Int) ∣ x * s
theorem low12_dvd {x s : Int} (h : (12 : Int) ∣ x * s) : IsF (lowF x 12) ∧ (lowF x 12).2 ∣ s := by
  have i := lowF_isF (a := x) (b := 12) (by decide)
  refine ⟨i, ?_⟩
  obtain ⟨e, he⟩ := h
  have c := lowF_cross (a := x) (b := 12) (by decide)
  refine cross_dvd (a := (lowF x 12).1) (b := (lowF x 12).2) (c := e) (d := s) i.2 ?_
  generalize lowF x 12 = r at *
  have : (12 : Int) * (r.1 * s) = 12 * (e * r.2) := by grind
  have := Int.eq_of_mul_eq_mul_left (by decide) this
  grind
theorem PdS.zero {n : Nat} {s : Int} : PdS n s (List.replicate n 0) := ⟨List.length_replicate .., fun x hx => by rw [List.eq_of_mem_replicate hx, Int.zero_mul]; exact Int.dvd_zero _⟩
theorem PdS.add {n : Nat} {s : Int} {v w : List Int} (h : PdS n s v) (h' : PdS n s w) : PdS n s (addV v w) := by
  refine ⟨by unfold addV; rw [List.length_zipWith, h.1, h'.1, Nat.min_self], fun x hx => ?_⟩
  obtain ⟨i, hi⟩ := List.getElem?_of_mem hx
  unfold addV at hi
  rw [List.getElem?_zipWith] at hi
  cases e1 : v[i]? with
  | none => rw [e1] at hi; cases hi
  | some p =>
    cases e2 : w[i]? with
    | none => rw [e1, e2] at hi; cases hi
    | some q =>
      rw [e1, e2] at hi
      cases hi
      rw [Int.add_mul]
      exact Int.dvd_add (h.2 p (List.mem_of_getElem? e1)) (h'.2 q (List.mem_of_getElem? e2))
end PD
namespace PD
open PySem PySem.Spec PyProof.Rows L2
abbrev Kv := List (Key × D)
def dicD (κ : Kv) : D := .dic (κ.map (·.1)) (κ.map (·.2))
def dikD (κ : Kv) : D := .dik (κ.map (·.1)) (κ.map (·.2))
def putD (κ : Kv) (k : Key) (d : D) : Kv := if (κ.any fun p => decide (p.1 = k)) = true then κ.map (fun p => if p.1 = k then (p.1, d) else p) else κ ++ [(k, d)]
def getD' (κ : Kv) (k : Key) : Option D := dicGet (κ.map (·.1)) (κ.map (·.2)) k
/-- what a dict holds, by data -/
inductive DKR (W : Wd) (M : Addr → Prop) (H : Hp) : List (Key × V) → Kv → Prop
  | nil : DKR W M H [] []
  | cons {k : Key} {v : V} {d : D} {vs : List (Key × V)} {κ : Kv} : Rep W M H v d → DKR W M H vs κ → DKR W M H ((k, v) :: vs) ((k, d) :: κ)
section
variable {W : Wd} {M M' : Addr → Prop} {H H' : Hp}
theorem DKR.imp (f : ∀ v d, Rep W M H v d → Rep W M' H' v d) : ∀ {vs : List (Key × V)} {κ : Kv}, DKR W M H vs κ → DKR W M' H' vs κ
  | _, _, .nil => .nil
  | _, _, .cons r t => .cons (f _ _ r) (t.imp f)
theorem DKR.impN : ∀ {vs : List (Key × V)} {κ : Kv}, DKR W M H vs κ → (∀ p ∈ κ, p.2.nref = true) → DKR W M' H vs κ
  | _, _, .nil, _ => .nil
  | _, _, .cons r t, h => .cons (r.nref (h _ List.mem_cons_self)) (t.impN fun p hp => h p (List.mem_cons_of_mem _ hp))
theorem DKR.keys : ∀ {vs : List (Key × V)} {κ : Kv}, DKR W M H vs κ → vs.map (·.1) = κ.map (·.1)
  | _, _, .nil => rfl
  | _, _, .cons r t => by rw [List.map_cons, List.map_cons, t.keys]
theorem DKR.reps : ∀ {vs : List (Key × V)} {κ : Kv}, DKR W M H vs κ → Reps W M H (vs.map (·.2)) (κ.map (·.2))
  | _, _, .nil => .nil
  | _, _, .cons r t => .cons r t.reps
theorem DKR.length {vs : List (Key × V)} {κ : Kv} (r : DKR W M H vs κ) : vs.length = κ.length := by
  have := congrArg List.length r.keys
  rwa [List.length_map, List.length_map] at this
theorem DKR.of : ∀ {vs : List (Key × V)} {κ : Kv}, vs.map (·.1) = κ.map (·.1) → Reps W M H (vs.map (·.2)) (κ.map (·.2)) → DKR W M H vs κ
  | [], [], _, _ => .nil
  | [], _ :: _, e, _ => by simp at e
  | _ :: _, [], e, _ => by simp at e
  | (k, v) :: vs, (k', d) :: κ, e, r => by
    simp only [List.map_cons, List.cons.injEq] at e
    obtain ⟨e1, e2⟩ := e
    subst e1
    cases r with
    | cons r1 r2 => exact .cons r1 (.of e2 r2)
theorem DKR.any (k : Key) : ∀ {vs : List (Key × V)} {κ : Kv}, DKR W M H vs κ → (vs.any fun p => decide (p.1 = k)) = κ.any fun p => decide (p.1 = k)
  | _, _, .nil => rfl
  | _, _, .cons r t => by rw [List.any_cons, List.any_cons, t.any k]
theorem DKR.app : ∀ {vs us : List (Key × V)} {κ μ : Kv}, DKR W M H vs κ → DKR W M H us μ → DKR W M H (vs ++ us) (κ ++ μ)
  | _, _, _, _, .nil, s => s
  | _, _, _, _, .cons r t, s => .cons r (t.app s)
theorem DKR.repl {k : Key} {v : V} {d : D} (r : Rep W M H v d) : ∀ {vs : List (Key × V)} {κ : Kv}, DKR W M H vs κ → DKR W M H (vs.map fun p => if p.1 = k then (p.1, v) else p) (κ.map fun p => if p.1 = k then (p.1, d) else p)
  | _, _, .nil => .nil
  | _, _, .cons (k := k') r1 t => by
    rw [List.map_cons, List.map_cons]
    by_cases e : k' = k
    · rw [if_pos e, if_pos e]; exact .cons r (t.repl r)
    · rw [if_neg e, if_neg e]; exact .cons r1 (t.repl r)
theorem DKR.put {vs : List (Key × V)} {κ : Kv} {k : Key} {v : V} {d : D} (t : DKR W M H vs κ) (r : Rep W M H v d) : DKR W M H (putK vs k v) (putD κ k d) := by
  unfold putK putD
  rw [t.any k]
  by_cases e : (κ.any fun p => decide (p.1 = k)) = true
  · rw [if_pos e, if_pos e]; exact t.repl r
  · rw [if_neg e, if_neg e]; exact t.app (.cons r .nil)
theorem DKR.dic {a : Addr} {vs : List (Key × V)} {κ : Kv} (t : DKR W M H vs κ) (n : ¬ M a) (h : H a = some (.dK vs)) : Rep W M H (.ref a) (dicD κ) := .dic n h t.keys t.reps
/-- all stands, but for the dict at q -/
def KeepQ (W : Wd) (q : Addr) (H H' : Hp) : Prop := ∀ a o, ¬ W.S a → a ≠ q → H a = some o → H' a = some o
theorem Keep.toQ {q : Addr} (k : Keep W H H') : KeepQ W q H H' := fun a o n _ h => k a o n h
theorem KeepQ.refl {q : Addr} (H : Hp) : KeepQ W q H H := fun _ _ _ _ h => h
theorem KeepQ.trans {q : Addr} {H2 : Hp} (k : KeepQ W q H H') (l : KeepQ W q H' H2) : KeepQ W q H H2 := fun a o n z h => l a o n z (k a o n z h)
structure OwnQ (W : Wd) (M : Addr → Prop) (q : Addr) (κ : Kv) (H : Hp) : Prop where
  m : M q
  at' : ∃ vs, H q = some (.dK vs) ∧ DKR W M H vs κ
theorem ns_dK {a : Addr} {vs : List (Key × V)} (g : StOk W H) (h : H a = some (.dK vs)) : ¬ W.S a := fun e => by
  obtain ⟨_, q⟩ := StOk.at g e
  rw [h] at q
  cases q
theorem rep_keepQ {q : Addr} {vs us : List (Key × V)} (wf : Wf W M H) (m : M q) (h : H q = some (.dK vs)) (h' : H' q = some (.dK us)) (k : KeepQ W q H H') {v : V} {d : D} (r : Rep W M H v d) : Rep W M H' v d := by
  have x : Rep W M (upd H q (.dK us)) v d := r.upd (fun a ts hr e => by
    subst e
    rcases hr with hr | ⟨_, hr⟩ <;> (rw [h] at hr; cases hr)) m
  have ns := ns_dK wf.g h
  have g : StOk W (upd H q (.dK us)) := fun s hs => by
    obtain ⟨n1, i1, c1, m1, a1, a2, a3, a4⟩ := wf.g s hs
    refine ⟨n1, i1, c1, m1, ?_, a2, ?_, a4⟩
    · rw [upd_ne (fun z => ns (Wd.S_of hs z.symm))]; exact a1
    · rw [upd_ne (fun z => by rw [z, h] at a3; cases a3)]; exact a3
  refine x.keepG ⟨g, wf.sm⟩ fun a o n ha => ?_
  by_cases e : a = q
  · subst e
    rw [upd_same] at ha
    cases ha
    exact h'
  · rw [upd_ne e] at ha
    exact k a o n e ha
theorem q_upd {q : Addr} {vs us : List (Key × V)} {σ : L2.St} {δ : DS} (p : Pre W M δ σ H) (m : M q) (h : H q = some (.dK vs)) : Pre W M δ σ (upd H q (.dK us)) ∧ KeepQ W q H (upd H q (.dK us)) ∧ ∀ v d, Rep W M H v d → Rep W M (upd H q (.dK us)) v d := by
  have ns := ns_dK p.wf.g h
  have kq : KeepQ W q H (upd H q (.dK us)) := fun a o _ z ha => by rw [upd_ne z]; exact ha
  have rr : ∀ v d, Rep W M H v d → Rep W M (upd H q (.dK us)) v d := fun v d r => rep_keepQ p.wf m h upd_same kq r
  refine ⟨⟨⟨fun s hs => ?_, p.wf.sm, fun b hb => ?_⟩, p.sl.len, fun j d hd => ?_⟩, kq, rr⟩
  · obtain ⟨n1, i1, c1, m1, a1, a2, a3, a4⟩ := p.wf.g s hs
    refine ⟨n1, i1, c1, m1, ?_, a2, ?_, a4⟩
    · rw [upd_ne (fun z => ns (Wd.S_of hs z.symm))]; exact a1
    · rw [upd_ne (fun z => by rw [z, h] at a3; cases a3)]; exact a3
  · by_cases z : b = q
    · exact ⟨_, by rw [z]; exact upd_same⟩
    · obtain ⟨o, ho⟩ := p.wf.dom b hb
      exact ⟨o, by rw [upd_ne z]; exact ho⟩
  · obtain ⟨v, h1, h2⟩ := p.sl.get j d hd
    exact ⟨v, h1, rr v d h2⟩
end
/-- statements while the dict at q grows; js: the slots that they tell -/
def SK (W : Wd) (ts : TS) (q : Addr) (js : List Nat) (κ : Kv) (δ : DS) (N : Kv → DS → Prop) : Prop :=
  ∀ (M : Addr → Prop) (σ : L2.St) (H : Hp) (E : Ends), Pre W M δ σ H → OwnQ W M q κ H →
    (∀ σ' δ' κ' H', Pre W M δ' σ' H' → OwnQ W M q κ' H' → KeepQ W q H H' → wipe σ' js = wipe σ js → N κ' δ' → E.nx σ' H') → ts E σ H
section
variable {W : Wd} {q : Addr} {js : List Nat} {κ : Kv} {δ : DS} {N : Kv → DS → Prop} {ts tu : TS} {te tl td ty tv : TE} {g : TG}
theorem OwnQ.keep {M : Addr → Prop} {H H' : Hp} (o : OwnQ W M q κ H) (wf : Wf W M H) (k : Keep W H H') : OwnQ W M q κ H' := by
  obtain ⟨m, vs, h, r⟩ := o
  exact ⟨m, vs, k _ _ (ns_dK wf.g h) h, r.imp fun v d x => x.keep wf k⟩
theorem sk_seq (h : SK W ts q js κ δ fun κ' δ' => SK W tu q js κ' δ' N) : SK W (tSeq ts tu) q js κ δ N := fun M σ H E p oq o =>
  h M σ H { E with nx := tu E } p oq fun σ' δ' κ' H' p' oq' k' w' n' => n' M σ' H' E p' oq' fun σ2 δ2 κ2 H2 p2 oq2 k2 w2 n2 => o σ2 δ2 κ2 H2 p2 oq2 (k'.trans k2) (w2.trans w') n2
theorem sk_asg {i : Nat} (hi : i ∈ js) (h : EvD W te δ fun d => N κ (δ.set i (some d))) : SK W (tAsg te (gName i)) q js κ δ N := fun M σ H E p oq o =>
  h M σ H p _ fun v d H1 g1 k1 r1 h1 => o _ _ κ H1 ⟨p.wf.next g1 k1, (p.next g1 k1).sl.set i r1⟩ (oq.keep p.wf k1) k1.toQ (wipe_set hi) h1
/-- d[k] = e, d the dict -/
theorem sk_put {i : Nat} (hi : δ[i]? = some (some (.obj q))) (h : EvD W tv (δ.set i (some (dicD κ))) fun d => d.nref = true ∧ EvD W ty δ fun y => ∃ k, y = keyD k ∧ κ.length < 100000 ∧ N (putD κ k d) δ) : SK W (sDPut (tVar i) ty tv) q js κ δ N := fun M σ H E p oq o => by
  obtain ⟨m, vs, hq, r⟩ := oq
  have ns := ns_dK p.wf.g hq
  obtain ⟨v0, s1, r0⟩ := p.sl.get i _ hi
  cases r0
  have pm : Pre W (fun b => M b ∧ b ≠ q) (δ.set i (some (dicD κ))) σ H := by
    refine ⟨⟨p.wf.g, fun b e => ⟨p.wf.sm b e, fun z => ns (z ▸ e)⟩, fun b z => p.wf.dom b z.1⟩, by rw [List.length_set]; exact p.sl.len, fun j d hd => ?_⟩
    by_cases e : i = j
    · subst e
      have hl := (List.getElem?_eq_some_iff.mp hi).1
      rw [List.getElem?_set_self hl] at hd
      cases hd
      exact ⟨_, s1, (r.imp fun v d x => x.anti fun b z => z.1).dic (fun z => z.2 rfl) hq⟩
    · rw [List.getElem?_set_ne e] at hd
      obtain ⟨v, h1, h2⟩ := p.sl.get j d hd
      exact ⟨v, h1, h2.anti fun b z => z.1⟩
  refine h _ σ H pm _ fun v d H1 g1 k1 r1 ⟨nr, h1⟩ => ?_
  refine ⟨_, s1, ?_⟩
  have p1 := p.next g1 k1
  refine h1 M σ H1 p1 _ fun u y H2 g2 k2 r2 h2 => ?_
  obtain ⟨k, rfl, hl, hN⟩ := h2
  obtain rfl := keyD_rep r2
  have k12 := k1.trans k2
  have p2 := p1.next g2 k2
  have hq2 : H2 q = some (.dK vs) := k12 _ _ ns hq
  obtain ⟨p3, kq, rr⟩ := q_upd (us := putK vs k v) p2 m hq2
  refine ⟨q, _, rfl, DPut.k hq2 (by rw [r.length]; exact Nat.lt_of_lt_of_le hl (by rw [sizeLine_eq]; decide)), ?_⟩
  refine o σ δ _ _ p3 ⟨m, _, upd_same, DKR.put ((r.imp fun v d x => (x.keep p.wf k12)).imp rr) (rr _ _ ((r1.nref nr).keep p1.wf k2))⟩ (k12.toQ.trans kq) rfl hN
/-- for over a list, while the dict grows -/
theorem sk_for {tl : TE} (h : EvD W tl δ fun x => ∃ ds, x = .lst ds ∧ ∃ Inv : Nat → Kv → DS → Prop, Inv 0 κ δ ∧ (∀ i d κ' δ', ds[i]? = some d → Inv i κ' δ' → ∃ is, (∀ j ∈ is, j ∈ js) ∧ GD W g d δ' is fun δ2 => SK W ts q js κ' δ2 (Inv (i + 1))) ∧ ∀ κ' δ', Inv ds.length κ' δ' → N κ' δ') :
    SK W (tFor (iSeq W.K tl) g ts) q js κ δ N := fun M σ H E p oq o => by
  refine .inl (h M σ H p _ fun v x H1 g1 k1 r1 h1 => ?_)
  obtain ⟨ds, rfl, I, i0, it, ie⟩ := h1
  have p1 := p.next g1 k1
  have oq1 := oq.keep p.wf k1
  cases r1 with
  | @lst a vs ds na ha hr =>
    obtain ⟨us, hus, _⟩ := oq1.at'
    have naq : a ≠ q := fun z => na (z ▸ oq1.m)
    have nsa : ¬ W.S a := fun z => na (p1.wf.sm a z)
    refine ⟨a, rfl, ⟨_, .inl (.inl ha)⟩, ?_⟩
    refine ⟨fun i m σ' H' => m = ds.length - i ∧ i ≤ ds.length ∧ ∃ κ' δ', Pre W M δ' σ' H' ∧ OwnQ W M q κ' H' ∧ KeepQ W q H1 H' ∧ wipe σ' js = wipe σ js ∧ I i κ' δ', ⟨_, rfl, Nat.zero_le _, κ, δ, p1, oq1, KeepQ.refl H1, rfl, i0⟩, ?_⟩
    rintro i m σ' H' ⟨rfl, hi, κ', δ', p', oq', k', w', hI⟩
    have ha' : H' a = some (.lst vs) := k' a _ nsa naq ha
    have hr' : Reps W M H' vs ds := by
      obtain ⟨us', hus', _⟩ := oq'.at'
      have one : ∀ {vs : List V} {ds : List D}, Reps W M H1 vs ds → Reps W M H' vs ds := fun {vs ds} z => reps_of z.length fun i v d h1 h2 => by
        obtain ⟨v', h3, h4⟩ := z.get h2
        rw [h1] at h3
        cases h3
        exact rep_keepQ p1.wf oq1.m hus hus' k' h4
      exact one hr
    by_cases hlt : i < ds.length
    · obtain ⟨v, hv, rv⟩ := hr'.get (List.getElem?_eq_getElem hlt)
      refine .inr ⟨⟨vs, v, .inl (.inl ha'), hv⟩, fun σ2 H2 => ∃ κ2 δ2, Pre W M δ2 σ2 H2 ∧ OwnQ W M q κ2 H2 ∧ KeepQ W q H1 H2 ∧ wipe σ2 js = wipe σ js ∧ I (i + 1) κ2 δ2, ?_, fun x H3 y => ?_⟩
      · rintro σ2 H2 ⟨κ2, δ2, q1, q2, q3, q4, q5⟩
        exact ⟨_, by omega, rfl, hlt, κ2, δ2, q1, q2, q3, q4, q5⟩
      · obtain ⟨rfl, y2⟩ := y
        have e : vs[i]? = some x := y2 vs (.inl (.inl ha'))
        rw [hv] at e
        cases e
        obtain ⟨is, his, hg⟩ := it i ds[i] κ' δ' (List.getElem?_eq_getElem hlt) hI
        refine hg M σ' _ v p' rv _ fun σ4 δ4 p4 hb hw => ?_
        exact hb M σ4 _ _ p4 oq' fun σ5 δ5 κ5 H5 p5 oq5 k5 w5 n5 => ⟨κ5, δ5, p5, oq5, k'.trans k5, (w5.trans (hw js his)).trans w', n5⟩
    · have ee : i = ds.length := by omega
      refine .inl ⟨⟨vs, .inl (.inl ha'), by rw [hr'.length]; omega⟩, o σ' δ' κ' H' p' oq' (k1.toQ.trans k') w' (ie _ _ ?_)⟩
      rw [← ee]
      exact hI
end
end PD
namespace PD
open PySem PySem.Spec PyProof.Rows L2
mutual
def D.nodk : D → Bool
  | .non | .bl _ | .int _ | .str _ | .ty _ | .obj _ | .st => true
  | .tup xs => D.nodks xs
  | .lst xs => D.nodks xs
  | .ins _ _ xs => D.nodks xs
  | _ => false
def D.nodks : List D → Bool
  | [] => true
  | x :: xs => x.nodk && D.nodks xs
end
theorem nodks_of {xs : List D} (h : ∀ x ∈ xs, x.nodk = true) : D.nodks xs = true := by
  induction xs with
  | nil => simp only [D.nodks]
  | cons y ys ih =>
    simp only [D.nodks, Bool.and_eq_true]
    exact ⟨h y List.mem_cons_self, ih fun x hx => h x (List.mem_cons_of_mem _ hx)⟩
section
variable {W : Wd} {M M' : Addr → Prop} {H H' : Hp} {d : Addr} {o o' : HO} {kvs : List (Key × V)}
theorem DKo.off (q : DKo o kvs) {a : Addr} {u : HO} (hd : H d = some o) (h : H a = some u) (n : ∀ k, u ≠ .dK k) (n2 : ∀ b k, u ≠ .frz b (.dK k)) : a ≠ d := fun e => by
  subst e
  rw [hd] at h
  cases h
  rcases q with q | ⟨b, q⟩
  · exact n _ q
  · exact n2 _ _ q
theorem sqT_off (q : DKo o kvs) (hd : H d = some o) {a : Addr} {vs : List V} (h : SqT W.K H a vs) : SqT W.K (upd H d o') a vs := by
  rcases h with (h | ⟨b, h⟩) | h
  · exact .inl (.inl (by rw [upd_ne (q.off hd h (fun _ z => by cases z) fun _ _ z => by cases z)]; exact h))
  · exact .inl (.inr ⟨b, by rw [upd_ne (q.off hd h (fun _ z => by cases z) fun _ _ z => by cases z)]; exact h⟩)
  · exact .inr h
mutual
theorem Rep.nodkU (q : DKo o kvs) (hd : H d = some o) : ∀ {v : V} {x : D}, Rep W M H v x → x.nodk = true → Rep W M (upd H d o') v x
  | _, _, .non, _ => .non
  | _, _, .bl b, _ => .bl b
  | _, _, .int i, _ => .int i
  | _, _, .str x, _ => .str x
  | _, _, .ty n, _ => .ty n
  | _, _, .tup hs r, h => .tup (sqT_off q hd hs) (r.nodkU q hd (by simpa [D.nodk] using h))
  | _, _, .lst n h1 r, h => .lst n (by rw [upd_ne (q.off hd h1 (fun _ z => by cases z) fun _ _ z => by cases z)]; exact h1) (r.nodkU q hd (by simpa [D.nodk] using h))
  | _, _, .st e, _ => .st e
  | _, _, .obj a, _ => .obj a
  | _, _, .dct _ _, h => by simp [D.nodk] at h
  | _, _, .ins n h1 e r, h => .ins n (by rw [upd_ne (q.off hd h1 (fun _ z => by cases z) fun _ _ z => by cases z)]; exact h1) e (r.nodkU q hd (by simpa [D.nodk] using h))
  | _, _, .exc _ _ _ _, h => by simp [D.nodk] at h
  | _, _, .xob0 _ _, h => by simp [D.nodk] at h
  | _, _, .xob _ _ _ _ _ _, h => by simp [D.nodk] at h
  | _, _, .dic _ _ _ _, h => by simp [D.nodk] at h
  | _, _, .dik _ _ _ _ _, h => by simp [D.nodk] at h
theorem Reps.nodkU (q : DKo o kvs) (hd : H d = some o) : ∀ {vs : List V} {xs : List D}, Reps W M H vs xs → D.nodks xs = true → Reps W M (upd H d o') vs xs
  | _, _, .nil, _ => .nil
  | _, _, .cons r t, h => by
    simp only [D.nodks, Bool.and_eq_true] at h
    exact .cons (r.nodkU q hd h.1) (t.nodkU q hd h.2)
end
end
/-- what a slot says while a dict is locked -/
def lockS (x : D) : Option D := if x.nodk = true then some x else match x with
  | .dic ks ds => if D.nodks ds = true then some (.dik ks ds) else none
  | _ => none
def lockD (δ : DS) : DS := δ.map fun o => o.bind lockS
section
variable {W : Wd} {M M' : Addr → Prop} {H H' : Hp} {d : Addr} {od : Obj} {kvs : List (Key × V)} {σ : L2.St} {δ : DS}
theorem lockS_rep {v : V} {x y : D} (hd : H d = some (.dK kvs)) (e : lockS x = some y) (r : Rep W M H v x) : Rep W M (upd H d (.frz od (.dK kvs))) v y := by
  unfold lockS at e
  by_cases hx : x.nodk = true
  · rw [if_pos hx] at e
    cases e
    exact r.nodkU (.inl rfl) hd hx
  · rw [if_neg hx] at e
    cases r with
    | dic n h ek rs =>
      rename_i a kvs' ks ds
      simp only at e
      split at e
      · rename_i hn
        cases e
        have rs' := rs.nodkU (o' := .frz od (.dK kvs)) (.inl rfl) hd hn
        by_cases z : a = d
        · subst z
          rw [hd] at h
          cases h
          exact .dik n upd_same (.inr ⟨_, rfl⟩) ek rs'
        · exact .dik n (by rw [upd_ne z]; exact h) (.inl rfl) ek rs'
      · cases e
    | _ => cases e
theorem lockD_get {j : Nat} {y : D} (h : (lockD δ)[j]? = some (some y)) : ∃ x, δ[j]? = some (some x) ∧ lockS x = some y := by
  unfold lockD at h
  rw [List.getElem?_map] at h
  cases e : δ[j]? with
  | none => rw [e] at h; cases h
  | some o =>
    rw [e] at h
    simp only [Option.map_some, Option.some.injEq] at h
    cases o with
    | none => cases h
    | some x => exact ⟨x, rfl, h⟩
theorem stOk_dk {o o' : HO} (g : StOk W H) (q : DKo o kvs) (hd : H d = some o) : StOk W (upd H d o') := fun s hs => by
  obtain ⟨n1, i1, c1, m1, a1, a2, a3, a4⟩ := g s hs
  refine ⟨n1, i1, c1, m1, ?_, a2, ?_, a4⟩
  · rw [upd_ne (q.off hd a1 (fun _ z => by cases z) fun _ _ z => by cases z)]; exact a1
  · rw [upd_ne (q.off hd a3 (fun _ z => by cases z) fun _ _ z => by cases z)]; exact a3
theorem dom_upd {o : HO} (h : ∀ a, M a → ∃ o, H a = some o) : ∀ a, M a → ∃ u, upd H d o a = some u := fun a ha => by
  by_cases z : a = d
  · exact ⟨_, by rw [z]; exact upd_same⟩
  · obtain ⟨u, hu⟩ := h a ha
    exact ⟨u, by rw [upd_ne z]; exact hu⟩
theorem Pre.lock (p : Pre W M δ σ H) (hd : H d = some (.dK kvs)) : Pre W M (lockD δ) σ (upd H d (.frz od (.dK kvs))) :=
  ⟨⟨stOk_dk p.wf.g (.inl rfl) hd, p.wf.sm, dom_upd p.wf.dom⟩, by
    show σ.length = (lockD δ).length
    unfold lockD
    rw [List.length_map]
    exact p.sl.len, fun j y hy => by
    obtain ⟨x, h1, h2⟩ := lockD_get hy
    obtain ⟨v, h3, h4⟩ := p.sl.get j x h1
    exact ⟨v, h3, lockS_rep hd h2 h4⟩⟩
def dropS (js : List Nat) (δ : DS) : DS := js.foldr (fun j δ => δ.set j none) δ
theorem dropS_len (js : List Nat) (δ : DS) : (dropS js δ).length = δ.length := by
  induction js with
  | nil => rfl
  | cons j js ih => show ((dropS js δ).set j none).length = _; rw [List.length_set, ih]
theorem dropS_get : ∀ {js : List Nat} {i : Nat} {x : D}, (dropS js δ)[i]? = some (some x) → i ∉ js ∧ δ[i]? = some (some x)
  | [], _, _, h => ⟨by simp, h⟩
  | j :: js, i, x, h => by
    have h : ((dropS js δ).set j none)[i]? = some (some x) := h
    by_cases e : j = i
    · subst e
      rw [List.getElem?_set] at h
      simp only [if_true] at h
      split at h <;> cases h
    · rw [List.getElem?_set_ne e] at h
      obtain ⟨h1, h2⟩ := dropS_get h
      exact ⟨fun z => (List.mem_cons.mp z).elim (fun z => e z.symm) h1, h2⟩
theorem wipe_off {σ σ' : L2.St} {js : List Nat} (w : wipe σ' js = wipe σ js) {i : Nat} (h : i ∉ js) : σ'[i]? = σ[i]? := by
  have a := wipe_get σ' js i
  have b := wipe_get σ js i
  rw [if_neg fun z => h z.1] at a b
  rw [← a, ← b, w]
theorem wipe_len {σ σ' : L2.St} {js : List Nat} (w : wipe σ' js = wipe σ js) : σ'.length = σ.length := by
  have := congrArg List.length w
  rwa [wipe_length, wipe_length] at this
end
theorem Slots.ints {W : Wd} {M : Addr → Prop} {H : Hp} {σ : L2.St} {δ : DS} (s : Slots W M H σ δ) : ∀ (i : Nat) (z : Int), δ[i]? = some (some (D.int z)) → σ[i]? = some (some (V.int z)) := fun i z h => by
  obtain ⟨v, h1, h2⟩ := s.get i _ h
  cases h2
  exact h1
/-- an expression that leads to the dict at the place k of the list of slot j, and lays nothing -/
def TdAt (K : PySem.W.Frag) (td : TE) (j k n : Nat) (δ : DS) : Prop := ∀ (σ : L2.St) (H : Hp) (a : Addr) (vs : List V) (v : V), (∀ (i : Nat) (z : Int), δ[i]? = some (some (D.int z)) → σ[i]? = some (some (V.int z))) → σ[j]? = some (some (.ref a)) → H a = some (.lst vs) → vs.length = n → vs[k]? = some v → ∀ Q : VK, Q v H → td σ H Q
section
variable {W : Wd} {q : Addr} {js : List Nat} {κ : Kv} {δ : DS} {N : Kv → DS → Prop} {ts tu : TS} {te tl td ty tv tk : TE} {g : TG} {Wx : WX} {X : XV → DS → Prop} {ω : Om} {R : D → Prop} {B C : Om → DS → Prop} {NO : Om → DS → Prop}
/-- for k, v in d.items(), d another dict, a list's item -/
theorem sk_items {j k : Nat} {es : List D} {μ : Kv} (hj : δ[j]? = some (some (.lst es))) (he : es[k]? = some (dicD μ)) (hμ : ∀ p ∈ μ, p.2.nodk = true) (ht : TdAt W.K td j k es.length δ) (hκ : ∀ p ∈ κ, p.2.nodk = true)
    (h : ∃ Inv : Nat → Kv → DS → Prop, Inv 0 κ (lockD δ) ∧ (∀ i p κ' δ', μ[i]? = some p → Inv i κ' δ' → ∃ is, (∀ j ∈ is, j ∈ js) ∧ GD W g (.tup [keyD p.1, p.2]) δ' is fun δ2 => SK W ts q js κ' δ2 (Inv (i + 1))) ∧ ∀ κ' δ', Inv μ.length κ' δ' → (∀ p ∈ κ', p.2.nodk = true) ∧ N κ' (dropS js δ)) :
    SK W (tLock (tFor (iItems td) g ts)) q js κ δ N := fun M σ H E p oq o => by
  obtain ⟨I, i0, it, ie⟩ := h
  obtain ⟨v0, s0, r0⟩ := p.sl.get j _ hj
  cases r0 with
  | @lst a vs _ na ha hr =>
    obtain ⟨w, hw, rw'⟩ := hr.get he
    unfold dicD at rw'
    cases rw' with
    | @dic d kvs _ _ nd hd ek rs =>
      have dr : DKR W M H kvs μ := DKR.of ek rs
      obtain ⟨us, hq, rκ⟩ := oq.at'
      have mq := oq.m
      have dq : d ≠ q := fun z => nd (z ▸ mq)
      have ad : a ≠ d := fun z => by rw [z, hd] at ha; cases ha
      refine ⟨d, _, hd, trivial, fun od => ?_⟩
      have pl := p.lock (od := od) hd
      have hal : upd H d (.frz od (.dK kvs)) a = some (.lst vs) := by rw [upd_ne ad]; exact ha
      have drl : DKR W M (upd H d (.frz od (.dK kvs))) kvs μ := by
        have : ∀ {vs : List (Key × V)} {κ : Kv}, DKR W M H vs κ → (∀ p ∈ κ, p.2.nodk = true) → DKR W M (upd H d (.frz od (.dK kvs))) vs κ := by
          intro vs κ t
          induction t with
          | nil => exact fun _ => .nil
          | cons r t ih => exact fun h => .cons (r.nodkU (.inl rfl) hd (h _ List.mem_cons_self)) (ih fun p hp => h p (List.mem_cons_of_mem _ hp))
        exact this dr hμ
      have rκl : DKR W M (upd H d (.frz od (.dK kvs))) us κ := by
        have : ∀ {vs : List (Key × V)} {κ : Kv}, DKR W M H vs κ → (∀ p ∈ κ, p.2.nodk = true) → DKR W M (upd H d (.frz od (.dK kvs))) vs κ := by
          intro vs κ t
          induction t with
          | nil => exact fun _ => .nil
          | cons r t ih => exact fun h => .cons (r.nodkU (.inl rfl) hd (h _ List.mem_cons_self)) (ih fun p hp => h p (List.mem_cons_of_mem _ hp))
        exact this rκ hκ
      have oql : OwnQ W M q κ (upd H d (.frz od (.dK kvs))) := ⟨mq, us, by rw [upd_ne dq.symm]; exact hq, rκl⟩
      refine ht σ _ a vs _ p.sl.ints s0 hal hr.length hw _ ⟨d, od, kvs, rfl, upd_same, ?_⟩
      refine ⟨fun i m σ' H' => m = μ.length - i ∧ i ≤ μ.length ∧ ∃ κ' δ', Pre W M δ' σ' H' ∧ OwnQ W M q κ' H' ∧ KeepQ W q (upd H d (.frz od (.dK kvs))) H' ∧ wipe σ' js = wipe σ js ∧ I i κ' δ', ⟨_, rfl, Nat.zero_le _, κ, _, pl, oql, KeepQ.refl _, rfl, i0⟩, ?_⟩
      rintro i m σ' H' ⟨rfl, hi, κ', δ', p', oq', k', w', hI⟩
      have nsd : ¬ W.S d := fun z => nd (p.wf.sm d z)
      have hd' : H' d = some (.frz od (.dK kvs)) := k' d _ nsd dq upd_same
      by_cases hlt : i < μ.length
      · have hlk : i < kvs.length := by rw [dr.length]; exact hlt
        refine .inr ⟨⟨hd', hlk⟩, fun σ2 H2 => ∃ κ2 δ2, Pre W M δ2 σ2 H2 ∧ OwnQ W M q κ2 H2 ∧ KeepQ W q (upd H d (.frz od (.dK kvs))) H2 ∧ wipe σ2 js = wipe σ js ∧ I (i + 1) κ2 δ2, ?_, fun x H3 y => ?_⟩
        · rintro σ2 H2 ⟨κ2, δ2, q1, q2, q3, q4, q5⟩
          exact ⟨_, by omega, rfl, hlt, κ2, δ2, q1, q2, q3, q4, q5⟩
        · obtain ⟨T, kk, v, e1, rfl, hT, rfl⟩ := y
          have nsT : Keep W H' (upd H' T (.tup [kV kk, v])) := Keep.new hT
          have g3 : StOk W (upd H' T (.tup [kV kk, v])) := p'.wf.g.new hT
          obtain ⟨us1, hq1, _⟩ := oq'.at'
          have rv : ∃ x, μ[i]? = some (kk, x) ∧ Rep W M (upd H d (.frz od (.dK kvs))) v x := by
            have : ∀ {vs : List (Key × V)} {κ : Kv} {i : Nat}, DKR W M (upd H d (.frz od (.dK kvs))) vs κ → vs[i]? = some (kk, v) → ∃ x, κ[i]? = some (kk, x) ∧ Rep W M (upd H d (.frz od (.dK kvs))) v x := by
              intro vs κ i t
              induction t generalizing i with
              | nil => intro h; simp at h
              | cons r t ih =>
                intro h
                cases i with
                | zero => simp at h; obtain ⟨rfl, rfl⟩ := h; exact ⟨_, rfl, r⟩
                | succ i => exact ih (by simpa using h)
            exact this drl e1
          obtain ⟨x, ex, rx⟩ := rv
          have rx' : Rep W M H' v x := rep_keepQ pl.wf mq (by rw [upd_ne dq.symm]; exact hq) hq1 k' rx
          have rT : Rep W M (upd H' T (.tup [kV kk, v])) (.ref T) (.tup [keyD kk, x]) := by
            refine .tup (.inl (.inl upd_same)) (.cons ?_ (.cons (rx'.keep p'.wf nsT) .nil))
            cases kk with
            | inl i => exact .int i
            | inr z => exact .str z
          obtain ⟨is, his, hg⟩ := it i (kk, x) κ' δ' ex hI
          refine hg M σ' _ _ (p'.next g3 nsT) rT _ fun σ4 δ4 p4 hb hw => ?_
          exact hb M σ4 _ _ p4 (oq'.keep p'.wf nsT) fun σ5 δ5 κ5 H5 p5 oq5 k5 w5 n5 => ⟨κ5, δ5, p5, oq5, (k'.trans nsT.toQ).trans k5, (w5.trans (hw js his)).trans w', n5⟩
      · have ee : i = μ.length := by omega
        subst ee
        obtain ⟨nk, hN⟩ := ie κ' δ' hI
        obtain ⟨us1, hq1, rκ1⟩ := oq'.at'
        refine .inl ⟨⟨hd', by rw [dr.length]; omega⟩, hd', ?_⟩
        have g2 : StOk W (upd H' d (.dK kvs)) := stOk_dk p'.wf.g (.inr ⟨_, rfl⟩) hd'
        have kq : KeepQ W q H (upd H' d (.dK kvs)) := fun b u ns nq hb => by
          by_cases z : b = d
          · subst z
            rw [hd] at hb
            cases hb
            exact upd_same
          · rw [upd_ne z]
            exact k' b u ns nq (by rw [upd_ne z]; exact hb)
        have hq2 : upd H' d (.dK kvs) q = some (.dK us1) := by rw [upd_ne dq.symm]; exact hq1
        refine o σ' _ κ' _ ⟨⟨g2, p.wf.sm, dom_upd p'.wf.dom⟩, by rw [dropS_len]; exact (wipe_len w').trans p.sl.len, fun j' x hx => ?_⟩ ⟨mq, us1, hq2, ?_⟩ kq w' hN
        · obtain ⟨n1, n2⟩ := dropS_get hx
          obtain ⟨v, h3, h4⟩ := p.sl.get j' x n2
          exact ⟨v, (wipe_off w' n1).trans h3, rep_keepQ p.wf mq hq hq2 kq h4⟩
        · have : ∀ {vs : List (Key × V)} {κ : Kv}, DKR W M H' vs κ → (∀ p ∈ κ, p.2.nodk = true) → DKR W M (upd H' d (.dK kvs)) vs κ := by
            intro vs κ t
            induction t with
            | nil => exact fun _ => .nil
            | cons r t ih => exact fun h => .cons (r.nodkU (.inr ⟨_, rfl⟩) hd' (h _ List.mem_cons_self)) (ih fun p hp => h p (List.mem_cons_of_mem _ hp))
          exact this rκ1 nk
end
end PD
namespace PD
open PySem PySem.Spec PyProof.Rows L2
section
variable {W : Wd} {M M' : Addr → Prop} {H H' : Hp} {d : Addr} {o o' : HO} {kvs : List (Key × V)}
theorem DKR.nodkU (q : DKo o kvs) (hd : H d = some o) : ∀ {vs : List (Key × V)} {κ : Kv}, DKR W M H vs κ → (∀ p ∈ κ, p.2.nodk = true) → DKR W M (upd H d o') vs κ
  | _, _, .nil, _ => .nil
  | _, _, .cons r t, h => .cons (r.nodkU q hd (h _ List.mem_cons_self)) (t.nodkU q hd fun p hp => h p (List.mem_cons_of_mem _ hp))
theorem DKR.get (k : Key) {vs : List (Key × V)} {κ : Kv} (r : DKR W M H vs κ) : (valV vs k = none ∧ getD' κ k = none) ∨ ∃ v x, valV vs k = some v ∧ getD' κ k = some x ∧ Rep W M H v x := by
  have := dic_val (x := k) r.reps
  rw [r.keys] at this
  exact this
theorem dic_obj {v : V} {κ : Kv} {x : D} (h : x = dicD κ ∨ x = dikD κ) (r : Rep W M H v x) : ∃ a o vs, v = .ref a ∧ ¬ M a ∧ H a = some o ∧ DKo o vs ∧ DKR W M H vs κ := by
  rcases h with rfl | rfl
  · unfold dicD at r
    cases r with
    | dic n ha ek rs => exact ⟨_, _, _, rfl, n, ha, .inl rfl, .of ek rs⟩
  · unfold dikD at r
    cases r with
    | dik n ha q ek rs => exact ⟨_, _, _, rfl, n, ha, q, .of ek rs⟩
theorem DKo.rd {a : Addr} (q : DKo o kvs) (h : H a = some o) : Rd H a (.dK kvs) := by
  rcases q with q | ⟨b, q⟩
  · exact .inl (by rw [h, q])
  · exact .inr ⟨b, by rw [h, q]⟩
end
section
variable {W : Wd} {q : Addr} {js : List Nat} {κ : Kv} {δ : DS} {N : Kv → DS → Prop} {ts tu : TS} {te tl td ty tv tk tx : TE} {g : TG} {Wx : WX} {X : XV → DS → Prop} {ω : Om} {R : D → Prop} {B C : Om → DS → Prop} {NO : Om → DS → Prop} {P : D → Prop}
/-- d.get(k, x) -/
theorem ev_dget2 (h : EvD W td δ fun x => ∃ κ, (x = dicD κ ∨ x = dikD κ) ∧ EvD W ty δ fun y => ∃ k, y = keyD k ∧ EvD W tx δ fun z => P ((getD' κ k).getD z)) : EvD W (tDGet2 td ty tx) δ P := fun M σ H p Q q =>
  h M σ H p _ fun v x H1 g1 k1 r1 ⟨κ, ex, h1⟩ => by
    obtain ⟨a, o, vs, rfl, na, ha, qo, dr⟩ := dic_obj ex r1
    have p1 := p.next g1 k1
    refine ⟨a, rfl, .inl ⟨vs, qo.rd ha⟩, ?_⟩
    refine h1 M σ H1 p1 _ fun u y H2 g2 k2 r2 ⟨k, ey, h2⟩ => ?_
    subst ey
    have p2 := p1.next g2 k2
    obtain rfl := keyD_rep r2
    refine h2 M σ H2 p2 _ fun w z H3 g3 k3 r3 h3 => ?_
    have k13 := k2.trans k3
    have ha3 : H3 a = some o := k13 a _ (fun z => na (p1.wf.sm a z)) ha
    have dr3 : DKR W M H3 vs κ := dr.imp fun v d x => x.keep p1.wf k13
    refine ⟨valV vs k, .inl ⟨vs, k, qo.rd ha3, rfl, rfl⟩, ?_⟩
    rcases dr3.get k with ⟨e1, e2⟩ | ⟨v', x', e1, e2, r'⟩
    · rw [e1]
      rw [e2] at h3
      exact q _ _ H3 g3 ((k1.trans k2).trans k3) r3 h3
    · rw [e1]
      rw [e2] at h3
      exact q _ _ H3 g3 ((k1.trans k2).trans k3) r' h3
/-- d = {}, and what fills it; it is read alone from then on -/
theorem so_dict {i j : Nat} {a : Addr} {es : List D} (js : List Nat) (hj : δ[j]? = some (some (.obj a))) (hm : (a, es) ∈ ω) (hi : i ∉ js) (hl : i < δ.length)
    (h : ∀ q, SK W ts q js [] ((δ.set j (some (.lst es))).set i (some (.obj q))) fun κ _ => (∀ p ∈ κ, p.2.nref = true) ∧ SO W Wx tu ω ((dropS js δ).set i (some (dicD κ))) NO R B C X) :
    SO W Wx (tSeq (tAsg tDNewK (gName i)) (tSeq ts tu)) ω δ NO R B C X := fun M0 H0 M1 L1 M σ H E d0 p ow e o => by
  intro q hq
  obtain ⟨p2, l2⟩ := own_lend p ow
  have p3 := lent_put hj hm p2 l2
  have kn : Keep W H (upd H q (.dK [])) := Keep.new hq
  have gn : StOk W (upd H q (.dK [])) := p.wf.g.new hq
  let Mk : Addr → Prop := fun b => (M b ∧ ∀ x ∈ ω, x.1 ≠ b) ∨ b = q
  have new : ∀ b, Mk b → ¬ (M b ∧ ∀ x ∈ ω, x.1 ≠ b) → H b = none := fun b x y => by
    rcases x with x | x
    · exact absurd x y
    · rw [x]; exact hq
  have wg : Wg W Mk H := ⟨p.wf.g, fun b z => .inl (p3.wf.sm b z)⟩
  have pk : Pre W Mk ((δ.set j (some (.lst es))).set i (some (.obj q))) (σ.set i (some (.ref q))) (upd H q (.dK [])) := by
    refine ⟨⟨gn, fun b z => .inl (p3.wf.sm b z), fun b x => ?_⟩, Slots.set ⟨p3.sl.len, fun k x hx => ?_⟩ i (.obj q)⟩
    · rcases x with x | x
      · obtain ⟨u, hu⟩ := p.wf.dom b x.1
        exact ⟨u, by rw [upd_ne (ne_of_none hu hq)]; exact hu⟩
      · rw [x]; exact ⟨_, upd_same⟩
    · obtain ⟨v, h3, h4⟩ := p3.sl.get k x hx
      exact ⟨v, h3, (h4.more new).keepG wg kn⟩
  refine h q Mk (σ.set i (some (.ref q))) (upd H q (.dK [])) _ pk ⟨.inr rfl, [], upd_same, .nil⟩ fun σ' δ' κ' H' p' oq' k' w' ⟨nr, hN⟩ => ?_
  have kk : Keep W H H' := fun b u ns hb => k' b u ns (ne_of_none hb hq) (by rw [upd_ne (ne_of_none hb hq)]; exact hb)
  refine hN M0 H0 M1 L1 M σ' H' E d0 ⟨p.wf.next p'.wf.g kk, ⟨by rw [List.length_set, dropS_len, wipe_len w', List.length_set]; exact p.sl.len, fun k x hx => ?_⟩⟩ (ow.keep p.wf kk) (e.next p.wf kk) o
  by_cases z : i = k
  · subst z
    rw [List.getElem?_set_self (by rw [dropS_len]; exact hl)] at hx
    cases hx
    obtain ⟨vs, hq', r⟩ := oq'.at'
    refine ⟨.ref q, by rw [wipe_off w' hi, List.getElem?_set_self (by rw [p.sl.len]; exact hl)], (r.impN nr).dic (fun m => ?_) hq'⟩
    obtain ⟨u, hu⟩ := p.wf.dom q m
    rw [hq] at hu
    cases hu
  · rw [List.getElem?_set_ne z] at hx
    obtain ⟨n1, n2⟩ := dropS_get hx
    obtain ⟨v, h3, h4⟩ := p.sl.get k x n2
    exact ⟨v, by rw [wipe_off w' n1, List.getElem?_set_ne z]; exact h3, h4.keep p.wf kk⟩
end
def rShlN : R2 := fun x y H Q => ∃ k : Nat, x = .int 1 ∧ y = .int (k : Int) ∧ k ≤ 1000 ∧ Q (.int ((2 ^ k : Nat) : Int)) H
theorem op_shl1 {X : Cx} : OpR X (binaryOp .LShift) rShlN := by
  intro pins s σ H x y v u Q I rx ry h
  obtain ⟨k, rfl, rfl, c, q⟩ := h
  exact op_oneShl pins s σ H _ _ v u Q I rx ry ⟨k, rfl, rfl, by omega, by simpa using q⟩
def rOrN : R2 := fun x y H Q => ∃ a b : Nat, x = .int (a : Int) ∧ y = .int (b : Int) ∧ Q (.int ((a ||| b : Nat) : Int)) H
theorem op_orN {X : Cx} : OpR X (binaryOp .BitOr) rOrN := by
  intro pins s σ H x y v u Q I rx ry h
  obtain ⟨a, b, rfl, rfl, q⟩ := h
  have e : Builtin.bitOr (a : Int) (b : Int) = ((a ||| b : Nat) : Int) := by
    rw [bitOr_nn (by omega) (by omega), Int.toNat_natCast, Int.toNat_natCast]
  rw [← e] at q
  exact op_or pins s σ H _ _ v u Q I rx ry ⟨_, _, rfl, rfl, q⟩
def rShrNN : R2 := fun x y H Q => ∃ n k : Nat, x = .int (n : Int) ∧ y = .int (k : Int) ∧ Q (.int ((n >>> k : Nat) : Int)) H
theorem op_shrNN {X : Cx} : OpR X (binaryOp .RShift) rShrNN := by
  intro pins s σ H x y v u Q I rx ry h
  obtain ⟨n, k, rfl, rfl, q⟩ := h
  refine op_shrN pins s σ H _ _ v u Q I rx ry ⟨_, k, rfl, rfl, ?_⟩
  have e : (n : Int) / 2 ^ k = ((n >>> k : Nat) : Int) := by
    rw [Nat.shiftRight_eq_div_pow]
    simp
  rw [e]
  exact q
def rAnd1 : R2 := fun x y H Q => ∃ n : Nat, x = .int (n : Int) ∧ y = .int 1 ∧ Q (.int ((n % 2 : Nat) : Int)) H
theorem op_and1 {X : Cx} : OpR X (binaryOp .BitAnd) rAnd1 := op_odd
section
variable {W : Wd} {P : D → Prop}
theorem rd_shl1 {k : Nat} (hk : k ≤ 1000) (h : P (.int ((2 ^ k : Nat) : Int))) : RD W rShlN (.int 1) (.int (k : Int)) P := fun M H v u wf r1 r2 Q q => by
  cases r1
  cases r2
  exact ⟨k, rfl, rfl, hk, q _ _ H wf.g (Keep.refl H) (.int _) h⟩
theorem rd_orN {a b : Nat} (h : P (.int ((a ||| b : Nat) : Int))) : RD W rOrN (.int (a : Int)) (.int (b : Int)) P := fun M H v u wf r1 r2 Q q => by
  cases r1
  cases r2
  exact ⟨a, b, rfl, rfl, q _ _ H wf.g (Keep.refl H) (.int _) h⟩
theorem rd_shrNN {n k : Nat} (h : P (.int ((n >>> k : Nat) : Int))) : RD W rShrNN (.int (n : Int)) (.int (k : Int)) P := fun M H v u wf r1 r2 Q q => by
  cases r1
  cases r2
  exact ⟨n, k, rfl, rfl, q _ _ H wf.g (Keep.refl H) (.int _) h⟩
theorem rd_and1 {n : Nat} (h : P (.int ((n % 2 : Nat) : Int))) : RD W rAnd1 (.int (n : Int)) (.int 1) P := fun M H v u wf r1 r2 Q q => by
  cases r1
  cases r2
  exact ⟨n, rfl, rfl, q _ _ H wf.g (Keep.refl H) (.int _) h⟩
end
theorem testBit_mod (n k : Nat) : (n >>> k) % 2 = if n.testBit k = true then 1 else 0 := by
  rw [Nat.testBit]
  rcases Nat.mod_two_eq_zero_or_one (n >>> k) with e | e <;> simp [Nat.one_and_eq_mod_two, e]
end PD
namespace PD
/-- the sum over what stands in a list and what is left without it, with signs by turns -/
def ex {α : Type} (f : α → List α → Rat) : List α → Rat
  | [] => 0
  | c :: cs => f c cs - ex (fun d rest => f d (c :: rest)) cs
theorem ex_congr {α : Type} : ∀ {l : List α} {f g : α → List α → Rat}, (∀ x R, x ∈ l → R.length + 1 = l.length → (∀ y ∈ R, y ∈ l) → f x R = g x R) → ex f l = ex g l
  | [], _, _, _ => rfl
  | c :: cs, f, g, h => by
    show f c cs - _ = g c cs - _
    rw [h c cs List.mem_cons_self rfl (fun y hy => List.mem_cons_of_mem _ hy)]
    congr 1
    exact ex_congr fun x R hx hl hR => h x (c :: R) (List.mem_cons_of_mem _ hx) (by show R.length + 1 + 1 = cs.length + 1; rw [hl]) (fun y hy => by
      rcases List.mem_cons.mp hy with rfl | hy
      · exact List.mem_cons_self
      · exact List.mem_cons_of_mem _ (hR y hy))
theorem ex_lin {α : Type} (a b : Rat) : ∀ (l : List α) (f g : α → List α → Rat), ex (fun x R => a * f x R + b * g x R) l = a * ex f l + b * ex g l
  | [], _, _ => by show (0 : Rat) = a * 0 + b * 0; grind
  | c :: cs, f, g => by
    show a * f c cs + b * g c cs - ex (fun d R => a * f d (c :: R) + b * g d (c :: R)) cs = a * (f c cs - _) + b * (g c cs - _)
    rw [ex_lin a b cs (fun d R => f d (c :: R)) (fun d R => g d (c :: R))]
    grind
theorem ex_zero {α : Type} : ∀ {l : List α} {f : α → List α → Rat}, (∀ x R, x ∈ l → f x R = 0) → ex f l = 0
  | [], _, _ => rfl
  | c :: cs, f, h => by
    show f c cs - _ = 0
    rw [h c cs List.mem_cons_self, ex_zero fun x R hx => h x (c :: R) (List.mem_cons_of_mem _ hx)]
    grind
theorem ex_mul {α : Type} (a : Rat) (l : List α) (f : α → List α → Rat) : ex (fun x R => a * f x R) l = a * ex f l := by
  have h := ex_lin a 0 l f (fun _ _ => 0)
  have e : ex (fun x R => a * f x R + 0 * (fun _ _ => 0 : α → List α → Rat) x R) l = ex (fun x R => a * f x R) l := ex_congr fun x R _ _ _ => by grind
  rw [e] at h
  rw [h]
  grind
theorem ex_sub {α : Type} (l : List α) (f g : α → List α → Rat) : ex (fun x R => f x R - g x R) l = ex f l - ex g l := by
  have h := ex_lin 1 (-1) l f g
  have e : ex (fun x R => 1 * f x R + (-1) * g x R) l = ex (fun x R => f x R - g x R) l := ex_congr fun x R _ _ _ => by grind
  rw [e] at h
  rw [h]
  grind
theorem ex_swap {α β : Type} : ∀ (l : List α) (k : List β) (F : α → List α → β → List β → Rat), ex (fun x R => ex (fun y S => F x R y S) k) l = ex (fun y S => ex (fun x R => F x R y S) l) k
  | [], k, F => (ex_zero fun y S _ => rfl).symm
  | c :: cs, k, F => by
    show ex (fun y S => F c cs y S) k - ex (fun x R => ex (fun y S => F x (c :: R) y S) k) cs = ex (fun y S => F c cs y S - ex (fun x R => F x (c :: R) y S) cs) k
    rw [ex_sub, ex_swap cs k fun x R y S => F x (c :: R) y S]
/-- rows as functions of columns; the columns in order -/
def De : List (Nat → Rat) → List Nat → Rat
  | [], [] => 1
  | [], _ :: _ => 0
  | r :: T, cs => ex (fun c rest => r c * De T rest) cs
theorem De_cons (r : Nat → Rat) (T : List (Nat → Rat)) (cs : List Nat) : De (r :: T) cs = ex (fun c rest => r c * De T rest) cs := by
  rw [De]
/-- by the first column -/
theorem De_col : ∀ (rs : List (Nat → Rat)) (c : Nat) (cs : List Nat), De rs (c :: cs) = ex (fun r R => r c * De R cs) rs
  | [], c, cs => by rw [De]; rfl
  | r :: T, c, cs => by
    rw [De_cons]
    show r c * De T cs - ex (fun d rest => r d * De T (c :: rest)) cs = r c * De T cs - ex (fun t R => t c * De (r :: R) cs) T
    congr 1
    have e1 : ex (fun d rest => r d * De T (c :: rest)) cs = ex (fun d rest => ex (fun t R => r d * (t c * De R rest)) T) cs := ex_congr fun d rest _ _ _ => by
      rw [De_col T c rest, ex_mul]
    have e2 : ex (fun t R => t c * De (r :: R) cs) T = ex (fun t R => ex (fun d rest => r d * (t c * De R rest)) cs) T := ex_congr fun t R _ _ _ => by
      rw [De_cons, ← ex_mul]
      exact ex_congr fun d rest _ _ _ => by grind
    rw [e1, e2, ex_swap]
theorem De_none {T : List (Nat → Rat)} {c : Nat} {cs : List Nat} (h : ∀ t ∈ T, t c = 0) : De T (c :: cs) = 0 := by
  rw [De_col]
  exact ex_zero fun t R ht => by rw [h t ht]; grind
theorem rat_pow_ne {a : Rat} (h : a ≠ 0) : ∀ n : Nat, a ^ n ≠ 0
  | 0 => by rw [Rat.pow_zero]; decide
  | n + 1 => by
    rw [Rat.pow_succ]
    intro z
    rcases Rat.mul_eq_zero.mp z with z | z
    · exact rat_pow_ne h n z
    · exact h z
end PD
namespace PD
def fnR (l : List Int) : Nat → Rat := fun j => ((l.getD j 0 : Int) : Rat)
def DivB (b : Int) (m : Nat) (left : List (List Int)) : Prop := ∀ (rs : List (List Int)) (cs : List Nat), (∀ r ∈ rs, r ∈ left) → rs.length = cs.length → (∀ c ∈ cs, c < m) → ∃ z : Int, De (rs.map fnR) cs = (b : Rat) ^ (rs.length - 1) * (z : Rat)
theorem De_int : ∀ (rs : List (List Int)) (cs : List Nat), ∃ z : Int, De (rs.map fnR) cs = (z : Rat)
  | [], [] => ⟨1, by show De [] [] = _; rw [De]; rfl⟩
  | [], _ :: _ => ⟨0, by show De [] (_ :: _) = _; rw [De]; rfl⟩
  | r :: T, cs => by
    have h : ∀ (l : List Nat) (g : List Nat → List Nat), ∃ z : Int, ex (fun c rest => fnR r c * De (T.map fnR) (g rest)) l = (z : Rat) := by
      intro l
      induction l with
      | nil => exact fun g => ⟨0, rfl⟩
      | cons c l ih =>
        intro g
        obtain ⟨z, hz⟩ := ih (fun rest => g (c :: rest))
        obtain ⟨y, hy⟩ := De_int T (g l)
        refine ⟨r.getD c 0 * y - z, ?_⟩
        show fnR r c * De (T.map fnR) (g l) - ex (fun d rest => fnR r d * De (T.map fnR) (g (c :: rest))) l = _
        rw [hz, hy]
        show ((r.getD c 0 : Int) : Rat) * (y : Rat) - (z : Rat) = _
        rw [← Rat.intCast_mul, ← Rat.intCast_sub]
    obtain ⟨z, hz⟩ := h cs id
    exact ⟨z, by show De (fnR r :: T.map fnR) cs = _; rw [De_cons]; exact hz⟩
theorem divB_one (m : Nat) (left : List (List Int)) : DivB 1 m left := fun rs cs _ _ _ => by
  obtain ⟨z, hz⟩ := De_int rs cs
  refine ⟨z, ?_⟩
  have h1 : ∀ n : Nat, ((1 : Int) : Rat) ^ n = 1 := fun n => by
    induction n with
    | zero => rw [Rat.pow_zero]
    | succ n ih => rw [Rat.pow_succ, ih]; grind
  rw [hz, h1]
  grind
/-- a row of a square -/
def SqR (m : Nat) (left : List (List Int)) : Prop := left.length = m ∧ ∀ r ∈ left, r.length = m
theorem range_one (m : Nat) : 0 :: (List.range m).map (· + 1) = List.range (m + 1) := (List.range_succ_eq_map).symm
/-- what the walk will tell -/
def BVm (t : Int) (m : Nat) (left : List (List Int)) (b s : Int) : Prop := (m = 0 ∧ t = s * b) ∨ (1 ≤ m ∧ (t : Rat) * (b : Rat) ^ (m - 1) = (s : Rat) * De (left.map fnR) (List.range m))
structure BI (t : Int) (m : Nat) (left : List (List Int)) (b s : Int) : Prop where
  sq : SqR m left
  nz : b ≠ 0
  dv : DivB b m left
  v : BVm t m left b s
theorem int_ne {b : Int} (h : b ≠ 0) : (b : Rat) ≠ 0 := fun z => h (by
  have : ((b : Int) : Rat) = ((0 : Int) : Rat) := z
  exact Rat.intCast_inj.mp this)
theorem BI.none {t : Int} {m : Nat} {left : List (List Int)} {b s : Int} (h : BI t (m + 1) left b s) (hz : ∀ r ∈ left, r.getD 0 0 = 0) : t = 0 := by
  rcases h.v with ⟨z, _⟩ | ⟨_, v⟩
  · omega
  · rw [← range_one, De_none (fun x hx => by
      obtain ⟨r, hr, rfl⟩ := List.mem_map.mp hx
      show ((r.getD 0 0 : Int) : Rat) = 0
      rw [hz r hr]
      rfl)] at v
    have hp := rat_pow_ne (int_ne h.nz) (m + 1 - 1)
    have h2 : (t : Rat) = ((0 : Int) : Rat) := by
      have : (t : Rat) * (b : Rat) ^ (m + 1 - 1) = 0 := by rw [v]; grind
      rcases Rat.mul_eq_zero.mp this with z | z
      · exact z
      · exact absurd z hp
    exact Rat.intCast_inj.mp h2
theorem BI.start {n : Nat} {rows : List (List Int)} (h : SqR n rows) (h1 : 1 ≤ n) : ∃ t : Int, (t : Rat) = De (rows.map fnR) (List.range n) ∧ BI t n rows 1 1 := by
  obtain ⟨t, ht⟩ := De_int rows (List.range n)
  refine ⟨t, ht.symm, h, by decide, divB_one n rows, .inr ⟨h1, ?_⟩⟩
  have h2 : ∀ n : Nat, ((1 : Int) : Rat) ^ n = 1 := fun n => by
    induction n with
    | zero => rw [Rat.pow_zero]
    | succ n ih => rw [Rat.pow_succ, ih]; grind
  rw [h2, ht]
  show (t : Rat) * 1 = ((1 : Int) : Rat) * (t : Rat)
  grind
end PD
namespace PD
end PD
namespace PD
open PySem PySem.Spec PyProof.Rows L2
section
variable {W : Wd} {Wx : WX} {X : XV → DS → Prop} {ω : Om} {δ : DS} {N : Om → DS → Prop} {R : D → Prop} {B C : Om → DS → Prop} {ts : TS} {g : TG}
/-- for, over a list of one's own that stands meanwhile -/
theorem so_forO {i : Nat} {a : Addr} {ds : List D} (hi : δ[i]? = some (some (.obj a))) (I : Nat → Om → DS → Prop) (i0 : I 0 ω δ) (hI : ∀ k ω' δ', I k ω' δ' → (a, ds) ∈ ω')
    (it : ∀ k d ω' δ', ds[k]? = some d → I k ω' δ' → ∃ js, GD W g d δ' js fun δ2 => SO W Wx ts ω' δ2 (I (k + 1)) R N (I (k + 1)) X) (ie : ∀ ω' δ', I ds.length ω' δ' → N ω' δ') :
    SO W Wx (tFor (iSeq W.K (tVar i)) g ts) ω δ N R B C X := fun M0 H0 M1 L1 M σ H E d0 p ow e o => by
  obtain ⟨v, hv, rv⟩ := p.sl.get i _ hi
  cases rv
  obtain ⟨_, _, _, _, ws, hws, _⟩ := ow a ds (hI 0 ω δ i0)
  refine Or.inl ⟨.ref a, hv, a, rfl, ⟨ws, .inl (.inl hws)⟩, ?_⟩
  refine ⟨fun k m σ' H' => m = ds.length - k ∧ k ≤ ds.length ∧ ∃ M' ω' δ', Pre W M' δ' σ' H' ∧ Own W M0 M' H' ω' ∧ Ent W M0 H0 M' H' ∧ EntM W M H M' H' ∧ I k ω' δ', ⟨_, rfl, Nat.zero_le _, M, ω, δ, p, ow, e.e, EntM.refl M H, i0⟩, ?_⟩
  rintro k m σ' H' ⟨rfl, hk, M', ω', δ', p', ow', e', l', hIk⟩
  have base : ∀ {M2 : Addr → Prop} {H2 : Hp}, In2 W M0 H0 M H M2 H2 → In2 W M0 H0 M1 L1 M2 H2 := fun x => ⟨x.e, e.l.trans x.l p.wf⟩
  obtain ⟨_, _, _, _, us, hus, rus⟩ := ow' a ds (hI k ω' δ' hIk)
  have sq : SqL W.K H' a us := .inl (.inl hus)
  by_cases hlt : k < ds.length
  · obtain ⟨u, hu, ru⟩ := rus.get (List.getElem?_eq_getElem hlt)
    refine .inr ⟨⟨us, u, sq, hu⟩, fun σ2 H2 => ∃ M2 ω2 δ2, Pre W M2 δ2 σ2 H2 ∧ Own W M0 M2 H2 ω2 ∧ In2 W M0 H0 M H M2 H2 ∧ I (k + 1) ω2 δ2, ?_, fun x H3 y => ?_⟩
    · rintro σ2 H2 ⟨M2, ω2, δ2, q1, q2, q3, q4⟩
      exact ⟨_, by omega, rfl, hlt, M2, ω2, δ2, q1, q2, q3.e, q3.l, q4⟩
    · obtain ⟨rfl, y2⟩ := y
      have ex : us[k]? = some x := y2 us sq
      rw [hu] at ex
      cases ex
      obtain ⟨js, hg⟩ := it k ds[k] ω' δ' (List.getElem?_eq_getElem hlt) hIk
      refine hg M' σ' _ u p' ru _ fun σ4 δ4 p4 hb _ => ?_
      exact hb M0 H0 M H M' σ4 _ _ d0 p4 ow' ⟨e', l'⟩ ⟨fun M5 σ5 ω5 δ5 H5 p5 ow5 e5 x5 => ⟨M5, ω5, δ5, p5, ow5, e5, x5⟩, o.rt, fun M5 σ5 ω5 δ5 H5 p5 ow5 e5 x5 => o.nx M5 σ5 ω5 δ5 H5 p5 ow5 (base e5) x5, fun M5 σ5 ω5 δ5 H5 p5 ow5 e5 x5 => ⟨M5, ω5, δ5, p5, ow5, e5, x5⟩, o.xw⟩
  · have ee : k = ds.length := by omega
    refine .inl ⟨⟨us, sq, by rw [rus.length]; omega⟩, o.nx M' σ' ω' δ' H' p' ow' (base ⟨e', l'⟩) (ie ω' δ' ?_)⟩
    rw [← ee]
    exact hIk
end
def rowQ (r : List Fr) : Nat → Rat := fun j => toQ (r.getD j (0, 1))
def detQ (n : Nat) (R : List (List Fr)) : Rat := De (R.map rowQ) (List.range n)
/-- a fraction as an integer by a common bottom -/
theorem whole_Q {p : Fr} {k : Int} (hp : 0 < p.2) (hk : p.2 ∣ k) : ((p.1 * (k / p.2) : Int) : Rat) = (k : Rat) * toQ p := by
  obtain ⟨m, rfl⟩ := hk
  rw [Int.mul_ediv_cancel_left _ (by omega)]
  unfold toQ
  have h : (p.2 : Rat) ≠ 0 := int_ne (by omega)
  rw [Rat.intCast_mul, Rat.intCast_mul, Rat.divInt_eq_div]
  grind
end PD
namespace PD
open PySem PySem.Spec PyProof.Rows L2
section
variable {W : Wd} {Wx : WX} {X : XV → DS → Prop} {ω : Om} {δ : DS} {N : Om → DS → Prop} {R : D → Prop} {B C : Om → DS → Prop} {ta : TA} {te : TE} {P : D → Prop}
/-- xs.extend(..) by a new list -/
theorem so_ext {i : Nat} {a : Addr} {ds : List D} (hi : δ[i]? = some (some (.obj a))) (hm : (a, ds) ∈ ω) (h : EvA W ta δ fun xs => ∃ zs, xs = [.lst zs] ∧ (∀ es, (a, es) ∈ ω → es.length + zs.length < 100000) ∧ N (putO ω a fun es => es ++ zs) δ) : SO W Wx (tDrop (tBM W.K "list" rExtend (tVar i) ta)) ω δ N R B C X := fun M0 H0 M1 L1 M σ H E d0 p ow e o => by
  obtain ⟨v, s1, r1⟩ := p.sl.get i _ hi
  cases r1
  obtain ⟨hM, n0, ns, nb, vs, ha, rr⟩ := ow a ds hm
  refine ⟨_, s1, .inl ⟨rfl, _, SqL.of ha⟩, h M σ H p _ fun us xs H1 g1 k1 r1 h1 => ?_⟩
  obtain ⟨zs, rfl, hu, hN⟩ := h1
  cases r1 with
  | cons r1 r2 =>
    cases r2
    cases r1 with
    | @lst b ws _ nb1 hb rz =>
      have ha1 := k1 a _ ns ha
      refine ⟨a, b, vs, ws, rfl, rfl, ha1, hb, ?_, ?_⟩
      · rw [rr.length, rz.length]
        exact Nat.le_of_lt (Nat.lt_of_lt_of_le (hu ds hm) (by rw [sizeLine_eq]; decide))
      · have one : ∀ es, (a, es) ∈ ω → Reps W M H1 (vs ++ ws) (es ++ zs) := fun es m => by
          obtain ⟨_, _, _, _, vs', q1, q2⟩ := ow a es m
          rw [ha] at q1
          cases q1
          exact (q2.keep p.wf k1).append rz
        obtain ⟨x1, x2, x3⟩ := own_upd (f := fun es => es ++ zs) (p.next g1 k1) (ow.keep p.wf k1) (e.next p.wf k1) d0 hm one
        exact o.nx M _ _ _ _ x1 x2 x3 hN
/-- {i: j} -/
theorem ev_dispI {i j : Int} (h : P (dicD [(.inl i, .int j)])) : EvD W (tDisp [(tC (.int i), tC (.int j))]) δ P := fun M σ H p Q q a ha => by
  refine ⟨upd_same, [(.inl i, .int j)], rfl, by show 1 ≤ 15; decide, ?_⟩
  rw [upd_upd]
  obtain ⟨x1, x2, _⟩ := newU (kvs := mergeK [] [(.inl i, .int j)]) p.wf ha
  exact q _ (dicD [(.inl i, .int j)]) _ x1 x2 (.dic (fun m => by
    obtain ⟨o, ho⟩ := p.wf.dom a m
    rw [ha] at ho
    cases ho) upd_same rfl (.cons (.int j) .nil)) h
end
end PD
namespace PD
open PySem PySem.Spec PyProof.Rows L2
/-- the columns of a row that are there and not taken -/
def freeN (xs : List D) (t : Nat) : List Nat := (List.range xs.length).filter fun c => !(xs.getD c .non).isNon && !t.testBit c
end PD
namespace PD
def freeT (xs : List D) (t k : Nat) : List Nat := (List.range k).filter fun c => !(xs.getD c .non).isNon && !t.testBit c
theorem freeT_snoc {xs : List D} {t k : Nat} {y : D} (h : xs[k]? = some y) : freeT xs t (k + 1) = freeT xs t k ++ (if (!y.isNon && !t.testBit k) = true then [k] else []) := by
  unfold freeT
  rw [List.range_succ, List.filter_append]
  congr 1
  have e : xs.getD k .non = y := by rw [List.getD_eq_getElem?_getD, h]; rfl
  rw [List.filter_cons, e]
  split <;> rfl
end PD
namespace PD
open PySem PySem.Spec PyProof.Rows L2
abbrev LK := List (Nat × Int)
def toKv (l : LK) : Kv := l.map fun p => ((Sum.inl (p.1 : Int) : Key), D.int p.2)
def putN (l : LK) (k : Nat) (m : Int) : LK := if (l.any fun p => decide (p.1 = k)) = true then l.map (fun p => if p.1 = k then (p.1, m) else p) else l ++ [(k, m)]
def getN (l : LK) (k : Nat) : Option Int := (l.find? fun p => decide (p.1 = k)).map (·.2)
def addN (l : LK) (k : Nat) (m : Int) : LK := putN l k ((getN l k).getD 0 + m)
def innN (t : Nat) (m : Int) (cs : List Nat) (acc : LK) : LK := cs.foldl (fun acc c => addN acc (t ||| 2 ^ c) m) acc
def lotStep (xs : List D) (l : LK) : LK := l.foldl (fun acc p => innN p.1 p.2 (freeN xs p.1) acc) []
def lotAt (rows : List (List D)) : Nat → LK
  | 0 => [(0, 1)]
  | i + 1 => lotStep (rows.getD i []) (lotAt rows i)
theorem key_inj {a b : Nat} : ((Sum.inl (a : Int) : Key) = Sum.inl (b : Int)) ↔ a = b := by
  constructor
  · intro h
    have := Sum.inl.inj h
    omega
  · intro h
    rw [h]
theorem toKv_put (l : LK) (k : Nat) (m : Int) : toKv (putN l k m) = putD (toKv l) (.inl (k : Int)) (.int m) := by
  have ha : ((toKv l).any fun p => decide (p.1 = (Sum.inl (k : Int) : Key))) = l.any fun p => decide (p.1 = k) := by
    unfold toKv
    rw [List.any_map]
    congr 1
    funext p
    show decide ((Sum.inl (p.1 : Int) : Key) = Sum.inl (k : Int)) = _
    exact decide_eq_decide.mpr key_inj
  unfold putN putD
  rw [ha]
  split
  · unfold toKv
    rw [List.map_map, List.map_map]
    refine List.map_congr_left fun p _ => ?_
    show ((Sum.inl (((if p.1 = k then (p.1, m) else p) : Nat × Int).1 : Int) : Key), D.int ((if p.1 = k then (p.1, m) else p) : Nat × Int).2) = if (Sum.inl (p.1 : Int) : Key) = Sum.inl (k : Int) then ((Sum.inl (p.1 : Int) : Key), D.int m) else ((Sum.inl (p.1 : Int) : Key), D.int p.2)
    by_cases e : p.1 = k
    · rw [if_pos e, if_pos (key_inj.mpr e)]
    · rw [if_neg e, if_neg fun z => e (key_inj.mp z)]
  · unfold toKv
    rw [List.map_append]
    rfl
theorem toKv_get (k : Nat) : ∀ l : LK, getD' (toKv l) (.inl (k : Int)) = (getN l k).map D.int
  | [] => rfl
  | (a, m) :: l => by
    have ih := toKv_get k l
    unfold getD' at ih ⊢
    show dicGet ((Sum.inl (a : Int) : Key) :: (toKv l).map (·.1)) (D.int m :: (toKv l).map (·.2)) _ = _
    by_cases e : a = k
    · simp only [dicGet, if_pos (key_inj.mpr e)]
      unfold getN
      rw [List.find?_cons, decide_eq_true e]
      rfl
    · simp only [dicGet, if_neg fun z => e (key_inj.mp z)]
      rw [ih]
      unfold getN
      rw [List.find?_cons, decide_eq_false e]
theorem keys_put (l : LK) (k : Nat) (m : Int) (t : Nat) : t ∈ (putN l k m).map (·.1) ↔ t ∈ l.map (·.1) ∨ t = k := by
  unfold putN
  split
  · rename_i h
    have e : (l.map (fun p => if p.1 = k then (p.1, m) else p)).map (·.1) = l.map (·.1) := by
      rw [List.map_map]
      exact List.map_congr_left fun p _ => by
        show ((if p.1 = k then (p.1, m) else p) : Nat × Int).1 = p.1
        split <;> rfl
    rw [e]
    refine ⟨.inl, fun z => z.elim id fun z => ?_⟩
    obtain ⟨p, hp, hk⟩ := List.any_eq_true.mp h
    rw [z, ← of_decide_eq_true hk]
    exact List.mem_map.mpr ⟨p, hp, rfl⟩
  · rw [List.map_append, List.mem_append]
    simp
theorem nodup_put {l : LK} (h : (l.map (·.1)).Nodup) (k : Nat) (m : Int) : ((putN l k m).map (·.1)).Nodup := by
  unfold putN
  split
  · have e : (l.map (fun p => if p.1 = k then (p.1, m) else p)).map (·.1) = l.map (·.1) := by
      rw [List.map_map]
      exact List.map_congr_left fun p _ => by
        show ((if p.1 = k then (p.1, m) else p) : Nat × Int).1 = p.1
        split <;> rfl
    rw [e]
    exact h
  · rename_i hn
    rw [List.map_append, List.nodup_append]
    refine ⟨h, by simp, fun a ha b hb z => hn ?_⟩
    obtain ⟨p, hp, hpa⟩ := List.mem_map.mp ha
    simp only [List.map_cons, List.map_nil, List.mem_singleton] at hb
    exact List.any_eq_true.mpr ⟨p, hp, decide_eq_true (by rw [hpa, z, hb])⟩
/-- lots of columns below m, none told twice -/
structure OkL (m : Nat) (l : LK) : Prop where
  nd : (l.map (·.1)).Nodup
  lt : ∀ p ∈ l, p.1 < 2 ^ m
theorem nodup_lt : ∀ (N : Nat) (l : List Nat), l.Nodup → (∀ x ∈ l, x < N) → l.length ≤ N
  | 0, [], _, _ => Nat.le_refl _
  | 0, x :: _, _, h => absurd (h x List.mem_cons_self) (Nat.not_lt_zero _)
  | N + 1, l, nd, h => by
    have h1 := nodup_lt N (l.erase N) (nd.erase N) fun x hx => by
      have := h x (List.mem_of_mem_erase hx)
      have : x ≠ N := fun z => by
        rw [z] at hx
        exact (List.Nodup.not_mem_erase nd) hx
      omega
    have := List.length_erase (a := N) (l := l)
    split at this <;> omega
theorem OkL.len {m : Nat} {l : LK} (h : OkL m l) : l.length ≤ 2 ^ m := by
  have := nodup_lt (2 ^ m) (l.map (·.1)) h.nd fun x hx => by
    obtain ⟨p, hp, rfl⟩ := List.mem_map.mp hx
    exact h.lt p hp
  rwa [List.length_map] at this
theorem OkL.put {m k : Nat} {l : LK} {c : Int} (h : OkL m l) (hk : k < 2 ^ m) : OkL m (putN l k c) := ⟨nodup_put h.nd k c, fun p hp => by
  have := (keys_put l k c p.1).mp (List.mem_map.mpr ⟨p, hp, rfl⟩)
  rcases this with z | z
  · obtain ⟨q, hq, e⟩ := List.mem_map.mp z
    rw [← e]
    exact h.lt q hq
  · rw [z]
    exact hk⟩
theorem or_lt {m t c : Nat} (ht : t < 2 ^ m) (hc : c < m) : t ||| 2 ^ c < 2 ^ m := Nat.or_lt_two_pow ht (Nat.pow_lt_pow_right (by decide) hc)
theorem free_lt {xs : List D} {t c : Nat} (h : c ∈ freeN xs t) : c < xs.length := List.mem_range.mp (List.mem_filter.mp h).1
theorem OkL.inn {m t : Nat} {k : Int} (ht : t < 2 ^ m) : ∀ (cs : List Nat) {acc : LK}, (∀ c ∈ cs, c < m) → OkL m acc → OkL m (innN t k cs acc)
  | [], _, _, h => h
  | c :: cs, acc, hc, h => OkL.inn ht cs (acc := addN acc (t ||| 2 ^ c) k) (fun d hd => hc d (List.mem_cons_of_mem _ hd)) (h.put (or_lt ht (hc c List.mem_cons_self)))
theorem OkL.fold {m : Nat} {xs : List D} (hx : xs.length = m) : ∀ (l : LK) {acc : LK}, (∀ p ∈ l, p.1 < 2 ^ m) → OkL m acc → OkL m (l.foldl (fun acc p => innN p.1 p.2 (freeN xs p.1) acc) acc)
  | [], _, _, h => h
  | p :: l, acc, hl, h => OkL.fold hx l (fun q hq => hl q (List.mem_cons_of_mem _ hq)) (OkL.inn (hl p List.mem_cons_self) _ (fun c hc => hx ▸ free_lt hc) h)
theorem OkL.nil (m : Nat) : OkL m [] := ⟨List.nodup_nil, fun p hp => by cases hp⟩
theorem OkL.at {m : Nat} {rows : List (List D)} (hr : ∀ r ∈ rows, r.length = m) : ∀ i, i ≤ rows.length → OkL m (lotAt rows i)
  | 0, _ => ⟨by simp [lotAt], fun p hp => by
    rw [List.mem_singleton.mp hp]
    exact Nat.two_pow_pos m⟩
  | i + 1, hi => by
    have e : rows.getD i [] = rows[i] := by rw [List.getD_eq_getElem?_getD, List.getElem?_eq_getElem (by omega)]; rfl
    show OkL m (lotStep (rows.getD i []) (lotAt rows i))
    rw [e]
    exact OkL.fold (hr _ (List.getElem_mem _)) _ (OkL.at hr i (by omega)).lt (OkL.nil m)
end PD
namespace PD
open PySem PySem.Spec PyProof.Rows L2
theorem tdAt_var {K : PySem.W.Frag} {j i k n : Nat} {δ : DS} (hi : δ[i]? = some (some (.int (k : Int)))) (hk : k < n) : TdAt K (tOp (rIx K) (tVar j) (tVar i)) j k n δ := fun σ H a vs v hz hs ha hl hv Q q => by
  refine ⟨_, hs, _, hz i _ hi, ?_⟩
  refine .inl ⟨a, vs, (k : Int), v, rfl, rfl, .inl (.inl ha), ?_, q⟩
  unfold atI ixN
  rw [if_pos (by omega), if_pos (by omega)]
  show vs[((k : Int)).toNat]? = some v
  rw [Int.toNat_natCast]
  exact hv
theorem tdAt_last {K : PySem.W.Frag} {j n : Nat} {δ : DS} (hn : 1 ≤ n) : TdAt K (tOp (rIx K) (tVar j) (tUn (rU fun i => V.int (-i)) (tC (V.int 1)))) j (n - 1) n δ := fun σ H a vs v _ hs ha hl hv Q q => by
  refine ⟨_, hs, 1, rfl, ?_⟩
  refine .inl ⟨a, vs, -1, v, rfl, rfl, .inl (.inl ha), ?_, q⟩
  unfold atI ixN
  rw [if_neg (by omega), if_pos (by omega)]
  show vs[((-1 : Int) + (vs.length : Int)).toNat]? = some v
  have e : ((-1 : Int) + (vs.length : Int)).toNat = n - 1 := by omega
  rw [e]
  exact hv
theorem lockS_nodk {x : D} (h : x.nodk = true) : lockS x = some x := if_pos h
theorem take_one {α : Type} {l : List α} {i : Nat} {x : α} (h : l[i]? = some x) : l.take (i + 1) = l.take i ++ [x] := by
  rw [List.take_succ, h]
  rfl
theorem innN_take {t : Nat} {k : Int} {cs : List Nat} {acc : LK} {b c : Nat} (h : cs[b]? = some c) : innN t k (cs.take (b + 1)) acc = addN (innN t k (cs.take b) acc) (t ||| 2 ^ c) k := by
  unfold innN
  rw [take_one h, List.foldl_append]
  rfl
def lotsTo (xs : List D) (l : LK) (a : Nat) : LK := (l.take a).foldl (fun acc p => innN p.1 p.2 (freeN xs p.1) acc) []
theorem lotsTo_next {xs : List D} {l : LK} {a : Nat} {p : Nat × Int} (h : l[a]? = some p) : lotsTo xs l (a + 1) = innN p.1 p.2 (freeN xs p.1) (lotsTo xs l a) := by
  unfold lotsTo
  rw [take_one h, List.foldl_append]
  rfl
theorem lotsTo_full (xs : List D) (l : LK) : lotsTo xs l l.length = lotStep xs l := by
  unfold lotsTo lotStep
  rw [List.take_length]
theorem OkL.to {m : Nat} {xs : List D} (hx : xs.length = m) {l : LK} (h : OkL m l) (a : Nat) : OkL m (lotsTo xs l a) := OkL.fold hx _ (fun p hp => h.lt p (List.mem_of_mem_take hp)) (OkL.nil m)
theorem lotAt_next {rows : List (List D)} {i : Nat} {r : List D} (h : rows[i]? = some r) : lotAt rows (i + 1) = lotStep r (lotAt rows i) := by
  show lotStep (rows.getD i []) (lotAt rows i) = _
  rw [List.getD_eq_getElem?_getD, h]
  rfl
theorem toKv_len (l : LK) : (toKv l).length = l.length := List.length_map _
theorem toKv_nref (l : LK) : ∀ p ∈ toKv l, p.2.nref = true := fun p hp => by
  obtain ⟨x, _, rfl⟩ := List.mem_map.mp hp
  simp [D.nref]
theorem toKv_nodk (l : LK) : ∀ p ∈ toKv l, p.2.nodk = true := fun p hp => by
  obtain ⟨x, _, rfl⟩ := List.mem_map.mp hp
  simp [D.nodk]
end PD
namespace PD
open PySem PySem.Spec PyProof.Rows L2
abbrev Pa := List Int × List Nat
def colsD (l : List Nat) : D := .tup (l.map fun c => .int ((c : Nat) : Int))
abbrev RowI := List (Option (List Int))
def celN : Option (List Int) → D
  | none => .non
  | some v => vecT v
def addW (r : RowI) (c : Nat) (w : List Int) : List Int := List.zipWith (· + ·) ((r.getD c none).getD []) w
def ueStep (p : Pa) (f : List Pa) : List Pa := if f.length = 0 ∨ f.length = 1 ∧ (f.getD 0 ([], [])).1 ≠ p.1 then f ++ [p] else f
def ueIn (r : RowI) (c : Nat) (f : List Pa) (l : List Pa) : List Pa := l.foldl (fun f p => ueStep (addW r c p.1, c :: p.2) f) f
def ueAll (r : RowI) (t : Nat) (g : Nat → List Pa) (cs : List Nat) : List Pa := cs.foldl (fun f c => ueIn r c f (g (t ||| 2 ^ c))) []
def ue (r : RowI) (t : Nat) (g : Nat → List Pa) : List Pa := ueAll r t g (freeN (r.map celN) t)
end PD
namespace PD
open PySem PySem.Spec PyProof.Rows L2
theorem free_there {r : RowI} {t c : Nat} (h : c ∈ freeN (r.map celN) t) : ∃ v, r[c]? = some (some v) ∧ t.testBit c = false := by
  obtain ⟨h1, h2⟩ := List.mem_filter.mp h
  have hl := List.mem_range.mp h1
  rw [List.length_map] at hl
  simp only [Bool.and_eq_true, Bool.not_eq_true'] at h2
  have e : (r.map celN).getD c .non = celN r[c] := by rw [List.getD_eq_getElem?_getD, List.getElem?_map, List.getElem?_eq_getElem hl]; rfl
  rw [e] at h2
  cases hc : r[c] with
  | none =>
    rw [hc] at h2
    exact absurd h2.1 (by simp [celN, D.isNon])
  | some v => exact ⟨v, by rw [List.getElem?_eq_getElem hl, hc], h2.2⟩
end PD
namespace PD
open PySem PySem.Spec PyProof.Rows L2
end PD
namespace PD
open PySem PySem.Spec PyProof.Rows L2
def rowI (s : Int) (r : List Cel) : RowI := r.map fun o => o.map fun v => v.map fun x => x * s / 12
end PD
namespace PD
open PySem PySem.Spec PyProof.Rows L2
/-- the ends with k rows to go -/
def uTo (n : Nat) (R : List RowI) (m : Nat) : Nat → Nat → List Pa
  | 0, _ => [(List.replicate n 0, [])]
  | k + 1, t => ue (R.getD (m - (k + 1)) []) t (uTo n R m k)
def rowsO (G : GO) : List (List D) := G.map fun r => r.map celO
theorem gridO_rows (G : GO) : gridO G = (rowsO G).map .tup := by
  unfold gridO rowsO
  rw [List.map_map]
  rfl
theorem keys_inn {t : Nat} {k : Int} : ∀ (cs : List Nat) (acc : LK) (c : Nat), c ∈ cs → t ||| 2 ^ c ∈ (innN t k cs acc).map (·.1)
  | c0 :: cs, acc, c, h => by
    have mono : ∀ (cs : List Nat) (acc : LK) (x : Nat), x ∈ acc.map (·.1) → x ∈ (innN t k cs acc).map (·.1) := by
      intro cs
      induction cs with
      | nil => exact fun _ _ h => h
      | cons c cs ih => exact fun acc x h => ih _ x ((keys_put _ _ _ _).mpr (.inl h))
    rcases List.mem_cons.mp h with rfl | h
    · exact mono cs _ _ ((keys_put _ _ _ _).mpr (.inr rfl))
    · exact keys_inn cs (addN acc (t ||| 2 ^ c0) k) c h
theorem keys_fold {xs : List D} : ∀ (l : LK) (acc : LK) (p : Nat × Int) (c : Nat), p ∈ l → c ∈ freeN xs p.1 → p.1 ||| 2 ^ c ∈ (l.foldl (fun acc p => innN p.1 p.2 (freeN xs p.1) acc) acc).map (·.1)
  | q :: l, acc, p, c, h, hc => by
    have mono1 : ∀ (t : Nat) (k : Int) (cs : List Nat) (acc : LK) (x : Nat), x ∈ acc.map (·.1) → x ∈ (innN t k cs acc).map (·.1) := by
      intro t k cs
      induction cs with
      | nil => exact fun _ _ h => h
      | cons c cs ih => exact fun acc x h => ih _ x ((keys_put _ _ _ _).mpr (.inl h))
    have mono : ∀ (l : LK) (acc : LK) (x : Nat), x ∈ acc.map (·.1) → x ∈ (l.foldl (fun acc p => innN p.1 p.2 (freeN xs p.1) acc) acc).map (·.1) := by
      intro l
      induction l with
      | nil => exact fun _ _ h => h
      | cons q l ih => exact fun acc x h => ih _ x (mono1 _ _ _ _ _ h)
    rcases List.mem_cons.mp h with rfl | h
    · exact mono l _ _ (keys_inn _ _ _ hc)
    · exact keys_fold l _ p c h hc
theorem keys_next {rows : List (List D)} {i t c : Nat} {r : List D} (hr : rows[i]? = some r) (ht : t ∈ (lotAt rows i).map (·.1)) (hc : c ∈ freeN r t) : t ||| 2 ^ c ∈ (lotAt rows (i + 1)).map (·.1) := by
  rw [lotAt_next hr]
  obtain ⟨p, hp, rfl⟩ := List.mem_map.mp ht
  exact keys_fold _ _ p c hp hc
end PD
namespace PD
open PySem PySem.Spec PyProof.Rows L2
theorem nodk_cel (c : Cel) : (celO c).nodk = true := by
  cases c with
  | none => rfl
  | some v =>
    show D.nodks ((v.map fun x => lowF x 12).map fr) = true
    exact nodks_of fun x hx => by
      obtain ⟨i, _, rfl⟩ := List.mem_map.mp hx
      rfl
theorem nodks_row (r : List Cel) : D.nodks (r.map celO) = true := nodks_of fun x hx => by
  obtain ⟨i, _, rfl⟩ := List.mem_map.mp hx
  exact nodk_cel i
theorem nodk_grid (C : Addr) (n : Int) (G : GO) : (gd C n (gridO G)).nodk = true := by
  have : D.nodks (gridO G) = true := nodks_of fun x hx => by
    obtain ⟨r, _, rfl⟩ := List.mem_map.mp hx
    show D.nodks (r.map celO) = true
    exact nodks_row r
  show D.nodks [.int n, .tup (gridO G)] = true
  simp [D.nodks, D.nodk, this]
theorem lockS_dic {κ : Kv} (h : ∀ p ∈ κ, p.2.nodk = true) : lockS (dicD κ) = some (dikD κ) := by
  have e : D.nodks (κ.map (·.2)) = true := nodks_of fun x hx => by
    obtain ⟨p, hp, rfl⟩ := List.mem_map.mp hx
    exact h p hp
  unfold lockS dicD
  rw [if_neg (by simp [D.nodk])]
  show (if D.nodks (κ.map (·.2)) = true then _ else _) = _
  rw [if_pos e]
  rfl
theorem toKv_at {l : LK} {i : Nat} {p : Key × D} (h : (toKv l)[i]? = some p) : ∃ q, l[i]? = some q ∧ p = (.inl (q.1 : Int), .int q.2) := by
  unfold toKv at h
  rw [List.getElem?_map] at h
  cases e : l[i]? with
  | none => rw [e] at h; cases h
  | some q => rw [e] at h; cases h; exact ⟨q, rfl, rfl⟩
end PD
namespace PD
open PySem PySem.Spec PyProof.Rows L2
theorem ueStep_mem {p q : Pa} {f : List Pa} (h : q ∈ ueStep p f) : q ∈ f ∨ q = p := by
  unfold ueStep at h
  split at h
  · rcases List.mem_append.mp h with h | h
    · exact .inl h
    · exact .inr (List.mem_singleton.mp h)
  · exact .inl h
theorem ueIn_mem {r : RowI} {c : Nat} {q : Pa} : ∀ (l : List Pa) {f : List Pa}, q ∈ ueIn r c f l → q ∈ f ∨ ∃ p ∈ l, q = (addW r c p.1, c :: p.2)
  | [], _, h => .inl h
  | p :: l, f, h => by
    rcases ueIn_mem (r := r) (c := c) l (f := ueStep (addW r c p.1, c :: p.2) f) h with h | ⟨x, hx, e⟩
    · rcases ueStep_mem h with h | h
      · exact .inl h
      · exact .inr ⟨p, List.mem_cons_self, h⟩
    · exact .inr ⟨x, List.mem_cons_of_mem _ hx, e⟩
theorem ue_mem {r : RowI} {t : Nat} {g : Nat → List Pa} {q : Pa} (h : q ∈ ue r t g) : ∃ c ∈ freeN (r.map celN) t, ∃ p ∈ g (t ||| 2 ^ c), q = (addW r c p.1, c :: p.2) := by
  have : ∀ (cs : List Nat) (f : List Pa), q ∈ cs.foldl (fun f c => ueIn r c f (g (t ||| 2 ^ c))) f → q ∈ f ∨ ∃ c ∈ cs, ∃ p ∈ g (t ||| 2 ^ c), q = (addW r c p.1, c :: p.2) := by
    intro cs
    induction cs with
    | nil => exact fun f h => .inl h
    | cons c cs ih =>
      intro f h
      rcases ih _ h with h | ⟨d, hd, x⟩
      · rcases ueIn_mem _ h with h | x
        · exact .inl h
        · exact .inr ⟨c, List.mem_cons_self, x⟩
      · exact .inr ⟨d, List.mem_cons_of_mem _ hd, x⟩
  rcases this _ [] h with h | h
  · cases h
  · exact h
theorem addW_len {r : RowI} {n c t : Nat} {w : List Int} (hr : ∀ v, some v ∈ r → v.length = n) (hc : c ∈ freeN (r.map celN) t) (hw : w.length = n) : (addW r c w).length = n := by
  obtain ⟨v, hv, _⟩ := free_there hc
  unfold addW
  rw [List.getD_eq_getElem?_getD, hv]
  show (List.zipWith (· + ·) v w).length = n
  rw [List.length_zipWith, hr v (List.mem_of_getElem? hv), hw, Nat.min_self]
theorem uTo_len {n m : Nat} {R : List RowI} (hR : ∀ r ∈ R, ∀ v, some v ∈ r → v.length = n) : ∀ (k t : Nat) (p : Pa), p ∈ uTo n R m k t → p.1.length = n ∧ p.2.length = k
  | 0, t, p, h => by
    rw [List.mem_singleton.mp h]
    exact ⟨List.length_replicate, rfl⟩
  | k + 1, t, p, h => by
    obtain ⟨c, hc, q, hq, rfl⟩ := ue_mem (show p ∈ ue (R.getD (m - (k + 1)) []) t (uTo n R m k) from h)
    obtain ⟨h1, h2⟩ := uTo_len hR k _ q hq
    refine ⟨addW_len (fun v hv => ?_) hc h1, by rw [List.length_cons, h2]⟩
    rw [List.getD_eq_getElem?_getD] at hv
    cases e : R[m - (k + 1)]? with
    | none => rw [e] at hv; cases hv
    | some r => rw [e] at hv; exact hR r (List.mem_of_getElem? e) v hv
theorem rowI_len {n m : Nat} {s : Int} {G : GO} (sq : SqO n m G) : ∀ r ∈ G.map (rowI s), r.length = m ∧ ∀ v, some v ∈ r → v.length = n := fun r hr => by
  obtain ⟨r0, h0, rfl⟩ := List.mem_map.mp hr
  obtain ⟨l0, hc⟩ := sq.2 r0 h0
  refine ⟨by unfold rowI; rw [List.length_map, l0], fun v hv => ?_⟩
  unfold rowI at hv
  obtain ⟨c, h1, h2⟩ := List.mem_map.mp hv
  cases c with
  | none => cases h2
  | some u =>
    cases h2
    rw [List.length_map]
    exact (hc u h1).1
end PD
namespace PD
open PySem PySem.Spec PyProof.Rows L2
end PD
namespace PD
open PySem PySem.Spec PyProof.Rows L2
theorem filter_take {α : Type} {p : α → Bool} {l : List α} {k : Nat} {x : α} (h : l[k]? = some x) : (l.take (k + 1)).filter p = (l.take k).filter p ++ (if p x = true then [x] else []) := by
  rw [take_one h, List.filter_append, List.filter_cons]
  rfl
def thereN (r : List Cel) : List Nat := (List.range r.length).filter fun j => (r.getD j none).isSome
def plOne (r : List Cel) (pl : List Nat) : List (List Nat) := ((thereN r).filter fun j => !decide (j ∈ pl)).map fun j => pl ++ [j]
def plNext (r : List Cel) (pls : List (List Nat)) : List (List Nat) := (pls.map (plOne r)).flatten
def plsTo (G : GO) : Nat → List (List Nat)
  | 0 => [[]]
  | i + 1 => plNext (G.getD i []) (plsTo G i)
theorem plOne_len (r : List Cel) (pl : List Nat) : (plOne r pl).length ≤ r.length := by
  unfold plOne thereN
  rw [List.length_map]
  refine Nat.le_trans (List.length_filter_le _ _) (Nat.le_trans (List.length_filter_le _ _) ?_)
  rw [List.length_range]
  exact Nat.le_refl _
theorem flat_len {α : Type} {c : Nat} : ∀ {L : List (List α)}, (∀ l ∈ L, l.length ≤ c) → L.flatten.length ≤ L.length * c
  | [], _ => by simp
  | l :: L, h => by
    have h1 := h l List.mem_cons_self
    have h2 := flat_len (L := L) fun x hx => h x (List.mem_cons_of_mem _ hx)
    rw [List.flatten_cons, List.length_append, List.length_cons, Nat.succ_mul]
    omega
theorem plNext_len {r : List Cel} {m : Nat} (hr : r.length ≤ m) (pls : List (List Nat)) : (plNext r pls).length ≤ pls.length * m := by
  unfold plNext
  have := flat_len (c := m) (L := pls.map (plOne r)) fun l hl => by
    obtain ⟨x, _, rfl⟩ := List.mem_map.mp hl
    exact Nat.le_trans (plOne_len r x) hr
  rwa [List.length_map] at this
theorem plsTo_len {G : GO} {m : Nat} (hG : ∀ r ∈ G, r.length ≤ m) : ∀ i, (plsTo G i).length ≤ m ^ i
  | 0 => by simp [plsTo]
  | i + 1 => by
    have ih := plsTo_len hG i
    have hr : (G.getD i []).length ≤ m := by
      rw [List.getD_eq_getElem?_getD]
      cases e : G[i]? with
      | none => exact Nat.zero_le _
      | some r => exact hG r (List.mem_of_getElem? e)
    show (plNext (G.getD i []) (plsTo G i)).length ≤ _
    refine Nat.le_trans (plNext_len hr _) ?_
    rw [Nat.pow_succ]
    exact Nat.mul_le_mul_right m ih
theorem plsTo_mem {G : GO} {m : Nat} (hG : ∀ r ∈ G, r.length = m) : ∀ i, i ≤ G.length → ∀ pl ∈ plsTo G i, pl.length = i ∧ ∀ (k j : Nat), pl[k]? = some j → j < m ∧ ∃ v, (G.getD k []).getD j none = some v
  | 0, _, pl, h => by
    rw [List.mem_singleton.mp h]
    exact ⟨rfl, fun k j z => by simp at z⟩
  | i + 1, hi, pl, h => by
    have h : pl ∈ plNext (G.getD i []) (plsTo G i) := h
    unfold plNext at h
    obtain ⟨l, hl, hp⟩ := List.mem_flatten.mp h
    obtain ⟨p0, h0, rfl⟩ := List.mem_map.mp hl
    unfold plOne at hp
    obtain ⟨j, hj, rfl⟩ := List.mem_map.mp hp
    obtain ⟨l0, f0⟩ := plsTo_mem hG i (by omega) p0 h0
    obtain ⟨h1, h2⟩ := List.mem_filter.mp (List.mem_filter.mp hj).1
    have h1 := List.mem_range.mp h1
    have er : G.getD i [] = G[i] := by rw [List.getD_eq_getElem?_getD, List.getElem?_eq_getElem (by omega)]; rfl
    have lr : (G.getD i []).length = m := by rw [er]; exact hG _ (List.getElem_mem _)
    refine ⟨by rw [List.length_append, l0]; rfl, fun k j' hk => ?_⟩
    rcases Nat.lt_or_ge k p0.length with z | z
    · rw [List.getElem?_append_left z] at hk
      exact f0 k j' hk
    · rw [List.getElem?_append_right z] at hk
      have k0 : k - p0.length = 0 := by
        have := (List.getElem?_eq_some_iff.mp hk).1
        simp at this
        omega
      rw [k0] at hk
      simp at hk
      subst hk
      have : k = i := by omega
      subst this
      refine ⟨by omega, ?_⟩
      cases e : (G.getD k []).getD j none with
      | none => rw [e] at h2; cases h2
      | some v => exact ⟨v, rfl⟩
end PD
namespace PD
def thereT (r : List Cel) (k : Nat) : List Nat := (List.range k).filter fun j => (r.getD j none).isSome
theorem thereT_snoc {r : List Cel} {k : Nat} {c : Cel} (h : r[k]? = some c) : thereT r (k + 1) = thereT r k ++ (if c.isSome = true then [k] else []) := by
  unfold thereT
  rw [List.range_succ, List.filter_append, List.filter_cons]
  congr 1
  have e : r.getD k none = c := by rw [List.getD_eq_getElem?_getD, h]; rfl
  rw [e]
  rfl
theorem isNon_cel (c : Cel) : (!(celO c).isNon) = c.isSome := by cases c <;> rfl
end PD
namespace PD
theorem cast_mem (j : Nat) (pl : List Nat) : decide ((j : Int) ∈ pl.map fun c : Nat => (c : Int)) = decide (j ∈ pl) := decide_eq_decide.mpr ⟨fun h => by
  obtain ⟨c, hc, e⟩ := List.mem_map.mp h
  have : c = j := by omega
  exact this ▸ hc, fun h => List.mem_map.mpr ⟨j, h, rfl⟩⟩
theorem flat_take_len {α β : Type} {c : Nat} (f : α → List β) (h : ∀ x, (f x).length ≤ c) (l : List α) (k : Nat) : ((l.take k).map f).flatten.length ≤ l.length * c := by
  have := flat_len (c := c) (L := (l.take k).map f) fun z hz => by
    obtain ⟨x, _, rfl⟩ := List.mem_map.mp hz
    exact h x
  rw [List.length_map, List.length_take] at this
  exact Nat.le_trans this (Nat.mul_le_mul_right c (by omega))
end PD
namespace PD
open PySem PySem.Spec PyProof.Rows L2
end PD
namespace PD
open PySem PySem.Spec PyProof.Rows L2
end PD
namespace PD
open PySem PySem.Spec PyProof.Rows L2
end PD
namespace PD
open PySem PySem.Spec PyProof.Rows L2
/-- all ends with k rows to go -/
def compTo (n : Nat) (R : List RowI) (m : Nat) : Nat → Nat → List Pa
  | 0, _ => [(List.replicate n 0, [])]
  | k + 1, t => ((freeN ((R.getD (m - (k + 1)) []).map celN) t).map fun c => (compTo n R m k (t ||| 2 ^ c)).map fun p => (addW (R.getD (m - (k + 1)) []) c p.1, c :: p.2)).flatten
structure Summ (U C : List Pa) : Prop where
  no : U = [] → C = []
  one : ∀ p, U = [p] → ∀ q ∈ C, q.1 = p.1
  two : ∀ p q l, U = p :: q :: l → l = [] ∧ p.1 ≠ q.1
theorem summ_step {U C : List Pa} {p : Pa} (h : Summ U C) {D : List Pa} (hD : ∀ q ∈ D, q.1 = p.1) : Summ (ueStep p U) (C ++ D) := by
  match U, h with
  | [], h =>
    have e : ueStep p [] = [p] := by unfold ueStep; rw [if_pos (.inl rfl)]; rfl
    rw [e, h.no rfl, List.nil_append]
    exact ⟨fun z => (by cases z), fun x hx q hq => by cases hx; exact hD q hq, fun _ _ _ z => (by cases z)⟩
  | [x], h =>
    by_cases z : x.1 = p.1
    · have e : ueStep p [x] = [x] := by
        unfold ueStep
        rw [if_neg]
        rintro (w | ⟨_, w⟩)
        · cases w
        · exact w z
      rw [e]
      refine ⟨fun z => (by cases z), fun y hy q hq => ?_, fun _ _ _ z => (by cases z)⟩
      cases hy
      rcases List.mem_append.mp hq with hq | hq
      · exact h.one x rfl q hq
      · rw [hD q hq, z]
    · have e : ueStep p [x] = [x, p] := by unfold ueStep; rw [if_pos (.inr ⟨rfl, z⟩)]; rfl
      rw [e]
      exact ⟨fun z => (by cases z), fun y hy => (by cases hy), fun a b l w => by cases w; exact ⟨rfl, z⟩⟩
  | x :: y :: l, h =>
    obtain ⟨rfl, hn⟩ := h.two x y l rfl
    have e : ueStep p [x, y] = [x, y] := by
      unfold ueStep
      rw [if_neg]
      rintro (w | ⟨w, _⟩) <;> cases w
    rw [e]
    exact ⟨fun z => (by cases z), fun y hy => (by cases hy), fun a b l w => by cases w; exact ⟨rfl, hn⟩⟩
theorem addW_inj {r : RowI} {n c t : Nat} (hr : ∀ v, some v ∈ r → v.length = n) (hc : c ∈ freeN (r.map celN) t) {v w : List Int} (hv : v.length = n) (hw : w.length = n) (h : addW r c v = addW r c w) : v = w := by
  obtain ⟨u, hu, _⟩ := free_there hc
  have lu := hr u (List.mem_of_getElem? hu)
  unfold addW at h
  rw [List.getD_eq_getElem?_getD, hu] at h
  have h : List.zipWith (· + ·) u v = List.zipWith (· + ·) u w := h
  apply List.ext_getElem?
  intro i
  have := congrArg (fun l : List Int => l[i]?) h
  simp only [List.getElem?_zipWith] at this
  rcases Nat.lt_or_ge i n with z | z
  · rw [List.getElem?_eq_getElem (by omega : i < u.length), List.getElem?_eq_getElem (by omega : i < v.length), List.getElem?_eq_getElem (by omega : i < w.length)] at this
    simp only [Option.some.injEq] at this
    rw [List.getElem?_eq_getElem (by omega : i < v.length), List.getElem?_eq_getElem (by omega : i < w.length)]
    congr 1
    omega
  · rw [List.getElem?_eq_none (by omega : v.length ≤ i), List.getElem?_eq_none (by omega : w.length ≤ i)]
theorem summ_in {r : RowI} {n c t : Nat} (hr : ∀ v, some v ∈ r → v.length = n) (hc : c ∈ freeN (r.map celN) t) {f C U D : List Pa} (h : Summ f C) (hU : Summ U D) (lU : ∀ p ∈ U, p.1.length = n) : Summ (ueIn r c f U) (C ++ D.map fun p => (addW r c p.1, c :: p.2)) := by
  match U, hU, lU with
  | [], hU, _ =>
    rw [hU.no rfl, List.map_nil, List.append_nil]
    exact h
  | [p], hU, _ =>
    show Summ (ueStep (addW r c p.1, c :: p.2) f) _
    refine summ_step h fun q hq => ?_
    obtain ⟨x, hx, rfl⟩ := List.mem_map.mp hq
    show addW r c x.1 = addW r c p.1
    rw [hU.one p rfl x hx]
  | p :: q :: l, hU, lU =>
    obtain ⟨rfl, hn⟩ := hU.two p q l rfl
    show Summ (ueStep (addW r c q.1, c :: q.2) (ueStep (addW r c p.1, c :: p.2) f)) _
    have ne : addW r c p.1 ≠ addW r c q.1 := fun z => hn (addW_inj hr hc (lU p (by simp)) (lU q (by simp)) z)
    have s1 := summ_step (p := (addW r c p.1, c :: p.2)) h (D := []) (fun q hq => by cases hq)
    have s2 := summ_step (p := (addW r c q.1, c :: q.2)) s1 (D := []) (fun q hq => by cases hq)
    -- two are there by now
    have t2 : ∃ a b, ueStep (addW r c q.1, c :: q.2) (ueStep (addW r c p.1, c :: p.2) f) = [a, b] := by
      match f, h with
      | [], _ =>
        have e : ueStep (addW r c p.1, c :: p.2) [] = [(addW r c p.1, c :: p.2)] := by unfold ueStep; rw [if_pos (.inl rfl)]; rfl
        rw [e]
        exact ⟨_, _, by unfold ueStep; rw [if_pos (.inr ⟨rfl, ne⟩)]; rfl⟩
      | [x], _ =>
        by_cases z : x.1 = addW r c p.1
        · have e : ueStep (addW r c p.1, c :: p.2) [x] = [x] := by
            unfold ueStep
            rw [if_neg]
            rintro (w | ⟨_, w⟩)
            · cases w
            · exact w z
          rw [e]
          exact ⟨_, _, by unfold ueStep; rw [if_pos (.inr ⟨rfl, by show x.1 ≠ _; rw [z]; exact ne⟩)]; rfl⟩
        · have e : ueStep (addW r c p.1, c :: p.2) [x] = [x, (addW r c p.1, c :: p.2)] := by unfold ueStep; rw [if_pos (.inr ⟨rfl, z⟩)]; rfl
          rw [e]
          exact ⟨_, _, by
            unfold ueStep
            rw [if_neg]
            rintro (w | ⟨w, _⟩) <;> cases w⟩
      | x :: y :: l, h =>
        obtain ⟨rfl, _⟩ := h.two x y l rfl
        have e : ∀ z : Pa, ueStep z [x, y] = [x, y] := fun z => by
          unfold ueStep
          rw [if_neg]
          rintro (w | ⟨w, _⟩) <;> cases w
        rw [e, e]
        exact ⟨_, _, rfl⟩
    obtain ⟨a, b, e⟩ := t2
    rw [e] at s2 ⊢
    exact ⟨fun z => (by cases z), fun y hy => (by cases hy), s2.two⟩
theorem summ_nil : Summ [] [] := ⟨fun _ => rfl, fun _ z => (by cases z), fun _ _ _ z => (by cases z)⟩
theorem summ_ue {r : RowI} {n t : Nat} {g h : Nat → List Pa} (hr : ∀ v, some v ∈ r → v.length = n) (hg : ∀ c ∈ freeN (r.map celN) t, Summ (g (t ||| 2 ^ c)) (h (t ||| 2 ^ c)) ∧ ∀ p ∈ g (t ||| 2 ^ c), p.1.length = n) :
    Summ (ue r t g) ((freeN (r.map celN) t).map fun c => (h (t ||| 2 ^ c)).map fun p => (addW r c p.1, c :: p.2)).flatten := by
  have : ∀ (cs : List Nat), (∀ c ∈ cs, c ∈ freeN (r.map celN) t) → ∀ f C, Summ f C → Summ (cs.foldl (fun f c => ueIn r c f (g (t ||| 2 ^ c))) f) (C ++ (cs.map fun c => (h (t ||| 2 ^ c)).map fun p => (addW r c p.1, c :: p.2)).flatten) := by
    intro cs
    induction cs with
    | nil => intro _ f C s; rw [List.map_nil, List.flatten_nil, List.append_nil]; exact s
    | cons c cs ih =>
      intro hc f C s
      have hcm := hc c List.mem_cons_self
      obtain ⟨g1, g2⟩ := hg c hcm
      have := ih (fun d hd => hc d (List.mem_cons_of_mem _ hd)) _ _ (summ_in hr hcm s g1 g2)
      rw [List.map_cons, List.flatten_cons, ← List.append_assoc]
      exact this
  exact this _ (fun c h => h) [] [] summ_nil
theorem summ_to {n m : Nat} {R : List RowI} (hR : ∀ r ∈ R, ∀ v, some v ∈ r → v.length = n) : ∀ k t, Summ (uTo n R m k t) (compTo n R m k t)
  | 0, _ => ⟨fun z => (by cases z), fun p hp q hq => by
    have hp : [((List.replicate n 0 : List Int), ([] : List Nat))] = [p] := hp
    cases hp
    rw [List.mem_singleton.mp hq], fun _ _ _ z => (by cases z)⟩
  | k + 1, t => by
    refine summ_ue (fun v hv => ?_) fun c hc => ⟨summ_to hR k _, fun p hp => (uTo_len hR k _ p hp).1⟩
    rw [List.getD_eq_getElem?_getD] at hv
    cases e : R[m - (k + 1)]? with
    | none => rw [e] at hv; cases hv
    | some r => rw [e] at hv; exact hR r (List.mem_of_getElem? e) v hv
def facP : List Fr → List Int → Rat
  | r :: rs, x :: v => toQ r ^ x * facP rs v
  | _, _ => 1
def RtP (rs : List Fr) : Prop := ∀ r ∈ rs, IsF r ∧ 0 < r.1
theorem RtP.ne {r : Fr} (h : IsF r ∧ 0 < r.1) : toQ r ≠ 0 := toQ_ne h.2 (by have : 1 ≤ r.2 := h.1.1; omega)
theorem facP_add : ∀ {rs : List Fr} {v w : List Int}, RtP rs → v.length = rs.length → w.length = rs.length → facP rs (List.zipWith (· + ·) v w) = facP rs v * facP rs w
  | [], [], [], _, _, _ => by show (1 : Rat) = 1 * 1; rw [Rat.mul_one]
  | [], _ :: _, _, _, h, _ => by simp at h
  | [], [], _ :: _, _, _, h => by simp at h
  | _ :: _, [], _, _, h, _ => by simp at h
  | _ :: _, _ :: _, [], _, _, h => by simp at h
  | r :: rs, x :: v, y :: w, hr, h1, h2 => by
    have ih := facP_add (rs := rs) (v := v) (w := w) (fun z hz => hr z (List.mem_cons_of_mem _ hz)) (by simpa using h1) (by simpa using h2)
    show toQ r ^ (x + y) * facP rs (List.zipWith (· + ·) v w) = (toQ r ^ x * facP rs v) * (toQ r ^ y * facP rs w)
    rw [ih, Rat.zpow_add (RtP.ne (hr r List.mem_cons_self))]
    grind
theorem facP_zero : ∀ (rs : List Fr) (n : Nat), facP rs (List.replicate n 0) = 1
  | [], n => by cases n <;> rfl
  | r :: rs, 0 => rfl
  | r :: rs, n + 1 => by
    show toQ r ^ (0 : Int) * facP rs (List.replicate n 0) = 1
    rw [facP_zero rs n, Rat.zpow_zero, Rat.mul_one]
theorem ex_congr2 {α : Type} : ∀ {l : List α} {f g : α → List α → Rat}, l.Nodup → (∀ x R, x ∈ l → R.length + 1 = l.length → R.Nodup → (∀ y, y ∈ R ↔ y ∈ l ∧ y ≠ x) → f x R = g x R) → ex f l = ex g l
  | [], _, _, _, _ => rfl
  | c :: cs, f, g, nd, h => by
    obtain ⟨n1, n2⟩ := List.nodup_cons.mp nd
    show f c cs - _ = g c cs - _
    rw [h c cs List.mem_cons_self rfl n2 fun y => ⟨fun hy => ⟨List.mem_cons_of_mem _ hy, fun z => n1 (z ▸ hy)⟩, fun hy => (List.mem_cons.mp hy.1).elim (fun z => absurd z hy.2) id⟩]
    congr 1
    refine ex_congr2 n2 fun x R hx hl hnd hR => h x (c :: R) (List.mem_cons_of_mem _ hx) (by show R.length + 1 + 1 = cs.length + 1; rw [hl]) (List.nodup_cons.mpr ⟨fun z => n1 ((hR c).mp z).1, hnd⟩) fun y => ?_
    constructor
    · intro hy
      rcases List.mem_cons.mp hy with rfl | hy
      · exact ⟨List.mem_cons_self, fun z => n1 (z ▸ hx)⟩
      · exact ⟨List.mem_cons_of_mem _ ((hR y).mp hy).1, ((hR y).mp hy).2⟩
    · rintro ⟨h1, h2⟩
      rcases List.mem_cons.mp h1 with rfl | h1
      · exact List.mem_cons_self
      · exact List.mem_cons_of_mem _ ((hR y).mpr ⟨h1, h2⟩)
/-- numbers told in other units: one row -/
structure OthR (rs : List Fr) (r : RowI) (x y : Nat → Rat) : Prop where
  no : ∀ c : Nat, (r.getD c none) = none → x c = 0 ∧ y c = 0
  yes : ∀ (c : Nat) (v : List Int), r.getD c none = some v → y c = facP rs v * x c
theorem free_of {r : RowI} {t c : Nat} {v : List Int} (h : r.getD c none = some v) (ht : t.testBit c = false) : c ∈ freeN (r.map celN) t := by
  rw [List.getD_eq_getElem?_getD] at h
  cases e : r[c]? with
  | none => rw [e] at h; cases h
  | some o =>
    rw [e] at h
    have h : o = some v := h
    subst h
    have hl := (List.getElem?_eq_some_iff.mp e).1
    refine List.mem_filter.mpr ⟨List.mem_range.mpr (by rw [List.length_map]; exact hl), ?_⟩
    have e2 : (r.map celN).getD c .non = vecT v := by rw [List.getD_eq_getElem?_getD, List.getElem?_map, e]; rfl
    rw [e2, ht]
    rfl
theorem bit_or (t c d : Nat) : (t ||| 2 ^ c).testBit d = (t.testBit d || decide (c = d)) := by
  rw [Nat.testBit_or, Nat.testBit_two_pow]
structure ColsAt (m t : Nat) (cs : List Nat) : Prop where
  nd : cs.Nodup
  at' : ∀ c, c ∈ cs ↔ c < m ∧ t.testBit c = false
theorem ColsAt.next {m t c : Nat} {cs R : List Nat} (h : ColsAt m t cs) (hc : c ∈ cs) (nd : R.Nodup) (hR : ∀ y, y ∈ R ↔ y ∈ cs ∧ y ≠ c) : ColsAt m (t ||| 2 ^ c) R := ⟨nd, fun d => by
  rw [hR, h.at', bit_or, Bool.or_eq_false_iff, decide_eq_false_iff_not]
  exact ⟨fun z => ⟨z.1.1, z.1.2, fun w => z.2 w.symm⟩, fun z => ⟨⟨z.1, z.2.1⟩, fun w => z.2.2 w.symm⟩⟩⟩
theorem comp_mem {n m k t c : Nat} {R : List RowI} {p : Pa} (hc : c ∈ freeN ((R.getD (m - (k + 1)) []).map celN) t) (hp : p ∈ compTo n R m k (t ||| 2 ^ c)) : (addW (R.getD (m - (k + 1)) []) c p.1, c :: p.2) ∈ compTo n R m (k + 1) t :=
  List.mem_flatten.mpr ⟨_, List.mem_map.mpr ⟨c, hc, rfl⟩, List.mem_map.mpr ⟨p, hp, rfl⟩⟩
theorem comp_len {n m : Nat} {R : List RowI} (hR : ∀ r ∈ R, ∀ v, some v ∈ r → v.length = n) : ∀ (k t : Nat) (p : Pa), p ∈ compTo n R m k t → p.1.length = n
  | 0, t, p, h => by
    rw [List.mem_singleton.mp h]
    exact List.length_replicate
  | k + 1, t, p, h => by
    obtain ⟨l, hl, hp⟩ := List.mem_flatten.mp h
    obtain ⟨c, hc, rfl⟩ := List.mem_map.mp hl
    obtain ⟨q, hq, rfl⟩ := List.mem_map.mp hp
    refine addW_len (fun v hv => ?_) hc (comp_len hR k _ q hq)
    rw [List.getD_eq_getElem?_getD] at hv
    cases e : R[m - (k + 1)]? with
    | none => rw [e] at hv; cases hv
    | some r => rw [e] at hv; exact hR r (List.mem_of_getElem? e) v hv
/-- where no end is, both determinants are 0 -/
theorem det_zero {n m : Nat} {R : List RowI} {rs : List Fr} {X Y : Nat → Nat → Rat} (hX : ∀ i, OthR rs (R.getD i []) (X i) (Y i)) (hm : ∀ i, (R.getD i []).length ≤ m) : ∀ (k t : Nat) (cs : List Nat), k ≤ m → ColsAt m t cs → compTo n R m k t = [] →
    De ((List.range k).map fun i => X (m - k + i)) cs = 0 ∧ De ((List.range k).map fun i => Y (m - k + i)) cs = 0
  | 0, t, cs, _, _, h => by cases h
  | k + 1, t, cs, hk, hcs, h => by
    have e : ∀ Z : Nat → Nat → Rat, ((List.range (k + 1)).map fun i => Z (m - (k + 1) + i)) = Z (m - (k + 1)) :: (List.range k).map fun i => Z (m - k + i) := fun Z => by
      rw [List.range_succ_eq_map, List.map_cons, List.map_map]
      congr 1
      refine List.map_congr_left fun i _ => ?_
      show Z (m - (k + 1) + (i + 1)) = Z (m - k + i)
      congr 1
      omega
    rw [e, e, De_cons, De_cons]
    have sub : ∀ c, c ∈ cs → ∀ v, (R.getD (m - (k + 1)) []).getD c none = some v → compTo n R m k (t ||| 2 ^ c) = [] := fun c hc v hv => by
      have fr := free_of hv ((hcs.at' c).mp hc).2
      cases q : compTo n R m k (t ||| 2 ^ c) with
      | nil => rfl
      | cons p l =>
        have := comp_mem (n := n) (m := m) (k := k) (R := R) fr (q ▸ List.mem_cons_self : p ∈ compTo n R m k (t ||| 2 ^ c))
        rw [h] at this
        cases this
    have go : ∀ c R', c ∈ cs → R'.Nodup → (∀ y, y ∈ R' ↔ y ∈ cs ∧ y ≠ c) → X (m - (k + 1)) c * De ((List.range k).map fun i => X (m - k + i)) R' = 0 ∧ Y (m - (k + 1)) c * De ((List.range k).map fun i => Y (m - k + i)) R' = 0 := fun c R' hc nd hR => by
      cases hv : (R.getD (m - (k + 1)) []).getD c none with
      | none =>
        obtain ⟨z1, z2⟩ := (hX (m - (k + 1))).no c hv
        rw [z1, z2]
        exact ⟨Rat.zero_mul _, Rat.zero_mul _⟩
      | some v =>
        obtain ⟨d1, d2⟩ := det_zero (n := n) hX hm k (t ||| 2 ^ c) R' (by omega) (hcs.next hc nd hR) (sub c hc v hv)
        rw [d1, d2]
        exact ⟨Rat.mul_zero _, Rat.mul_zero _⟩
    constructor
    · rw [ex_congr2 (g := fun _ _ => 0) hcs.nd fun c R' hc _ nd hR => (go c R' hc nd hR).1]
      exact ex_zero fun _ _ _ => rfl
    · rw [ex_congr2 (g := fun _ _ => 0) hcs.nd fun c R' hc _ nd hR => (go c R' hc nd hR).2]
      exact ex_zero fun _ _ _ => rfl
/-- where all ends weigh alike, the determinant goes by that weight -/
theorem det_units {n m : Nat} {R : List RowI} {rs : List Fr} {X Y : Nat → Nat → Rat} (hrs : RtP rs) (lrs : rs.length = n) (hR : ∀ r ∈ R, ∀ v, some v ∈ r → v.length = n) (hX : ∀ i, OthR rs (R.getD i []) (X i) (Y i)) (hm : ∀ i, (R.getD i []).length ≤ m) :
    ∀ (k t : Nat) (cs : List Nat) (u : List Int), k ≤ m → ColsAt m t cs → u.length = n → (∀ p ∈ compTo n R m k t, p.1 = u) →
    De ((List.range k).map fun i => Y (m - k + i)) cs = facP rs u * De ((List.range k).map fun i => X (m - k + i)) cs
  | 0, t, cs, u, _, _, _, h => by
    have := h _ (show (List.replicate n 0, []) ∈ compTo n R m 0 t from List.mem_singleton.mpr rfl)
    rw [← this, facP_zero, Rat.one_mul]
    rfl
  | k + 1, t, cs, u, hk, hcs, lu, h => by
    have e : ∀ Z : Nat → Nat → Rat, ((List.range (k + 1)).map fun i => Z (m - (k + 1) + i)) = Z (m - (k + 1)) :: (List.range k).map fun i => Z (m - k + i) := fun Z => by
      rw [List.range_succ_eq_map, List.map_cons, List.map_map]
      congr 1
      refine List.map_congr_left fun i _ => ?_
      show Z (m - (k + 1) + (i + 1)) = Z (m - k + i)
      congr 1
      omega
    rw [e, e, De_cons, De_cons, ← ex_mul]
    refine ex_congr2 hcs.nd fun c R' hc _ nd hR' => ?_
    cases hv : (R.getD (m - (k + 1)) []).getD c none with
    | none =>
      obtain ⟨z1, z2⟩ := (hX (m - (k + 1))).no c hv
      rw [z1, z2, Rat.zero_mul, Rat.zero_mul, Rat.mul_zero]
    | some v =>
      have fr := free_of hv ((hcs.at' c).mp hc).2
      have nx := hcs.next hc nd hR'
      rw [(hX (m - (k + 1))).yes c v hv]
      have hrow : ∀ w, some w ∈ R.getD (m - (k + 1)) [] → w.length = n := fun w hw => by
        rw [List.getD_eq_getElem?_getD] at hw
        cases e : R[m - (k + 1)]? with
        | none => rw [e] at hw; cases hw
        | some r => rw [e] at hw; exact hR r (List.mem_of_getElem? e) w hw
      have lv : v.length = n := by
        refine hrow v ?_
        rw [List.getD_eq_getElem?_getD] at hv
        cases e2 : (R.getD (m - (k + 1)) [])[c]? with
        | none => rw [e2] at hv; cases hv
        | some o =>
          rw [e2] at hv
          have hv : o = some v := hv
          exact hv ▸ List.mem_of_getElem? e2
      cases q : compTo n R m k (t ||| 2 ^ c) with
      | nil =>
        obtain ⟨d1, d2⟩ := det_zero (n := n) hX hm k (t ||| 2 ^ c) R' (by omega) nx q
        rw [d1, d2, Rat.mul_zero, Rat.mul_zero, Rat.mul_zero]
      | cons p l =>
        have pm : p ∈ compTo n R m k (t ||| 2 ^ c) := q ▸ List.mem_cons_self
        have lp := comp_len hR k _ p pm
        have hu := h _ (comp_mem fr pm)
        have ih := det_units hrs lrs hR hX hm k (t ||| 2 ^ c) R' p.1 (by omega) nx lp fun p' hp' => by
          have hu' := h _ (comp_mem fr hp')
          exact addW_inj hrow fr (comp_len hR k _ p' hp') lp (hu'.trans hu.symm)
        rw [ih, ← hu]
        have ea : addW (R.getD (m - (k + 1)) []) c p.1 = List.zipWith (· + ·) v p.1 := by unfold addW; rw [hv]; rfl
        show _ = facP rs (addW (R.getD (m - (k + 1)) []) c p.1) * _
        rw [ea, facP_add hrs (by omega) (by omega)]
        grind
end PD
namespace PD
open PySem PySem.Spec PyProof.Rows L2
def inN (v : List Fr) (s : Int) : Cel → Fr → Fr
  | none, q => q
  | some u, q => mulF q (facF s (1, 1) ((u.map fun x => lowF x 12).zip v))
def laterR (v : List Fr) (s : Int) (G : GO) (R : List (List Fr)) : List (List Fr) := List.zipWith (fun g r => List.zipWith (inN v s) g r) G R
theorem inO_in (v : List Fr) (s : Int) (c : Cel) (q : Fr) : inO v s (celO c) q = inN v s c q := by
  cases c with
  | none => rfl
  | some u => exact inO_un v (u.map fun x => lowF x 12) s q
theorem frOf_fr (q : Fr) : frOf (fr q) = q := rfl
theorem resD_grid (v : List Fr) (s : Int) (G : GO) (R : List (List Fr)) : resD v s (gridO G) (R.map rowD) = (laterR v s G R).map rowD := by
  unfold resD gridO laterR
  rw [List.zipWith_map, List.map_zipWith]
  congr 1
  funext g r
  show D.tup (List.zipWith (fun c y => fr (inO v s c (frOf y))) (g.map celO) (r.map fr)) = D.tup ((List.zipWith (inN v s) g r).map fr)
  rw [List.zipWith_map, List.map_zipWith]
  congr 2
  funext c q
  show fr (inO v s (celO c) (frOf (fr q))) = fr (inN v s c q)
  rw [frOf_fr, inO_in]
/-- numbers for a grid: fractions, 0 where nothing is -/
structure NumG (k : Nat) (G : GO) (R : List (List Fr)) : Prop where
  l : R.length = G.length
  r : ∀ (i : Nat) (g : List Cel) (r : List Fr), G[i]? = some g → R[i]? = some r → r.length = g.length ∧ ∀ (j : Nat) (c : Cel) (p : Fr), g[j]? = some c → r[j]? = some p → (IsF p ∧ Sz k p) ∧ (c = none → p = (0, 1))
theorem NumG.row {k : Nat} {G : GO} {R : List (List Fr)} (h : NumG k G R) {i : Nat} {r : List Fr} (hr : R[i]? = some r) : ∃ g, G[i]? = some g := ⟨_, List.getElem?_eq_getElem (by have := (List.getElem?_eq_some_iff.mp hr).1; have := h.l; omega)⟩
theorem NumG.nums {k n m : Nat} {G : GO} {R : List (List Fr)} (h : NumG k G R) (hG : ∀ r ∈ G, r.length = m) : Nums m k (gridO G) (R.map rowD) where
  s := ⟨by unfold gridO; rw [List.length_map, List.length_map, h.l], fun e he => by
    obtain ⟨r, hr, rfl⟩ := List.mem_map.mp he
    obtain ⟨i, hi⟩ := List.mem_iff_getElem?.mp hr
    obtain ⟨g, hg⟩ := h.row hi
    exact ⟨r.map fr, rfl, by rw [List.length_map, (h.r i g r hg hi).1, hG g (List.mem_of_getElem? hg)]⟩⟩
  n := fun e he y hy => by
    obtain ⟨r, hr, rfl⟩ := List.mem_map.mp he
    obtain ⟨i, hi⟩ := List.mem_iff_getElem?.mp hr
    obtain ⟨g, hg⟩ := h.row hi
    have hy : y ∈ r.map fr := hy
    obtain ⟨q, hq, rfl⟩ := List.mem_map.mp hy
    obtain ⟨j, hj⟩ := List.mem_iff_getElem?.mp hq
    obtain ⟨l1, l2⟩ := h.r i g r hg hi
    have := (l2 j _ q (List.getElem?_eq_getElem (by have := (List.getElem?_eq_some_iff.mp hj).1; omega)) hj).1
    exact ⟨q, rfl, this.1, this.2⟩
  p := by
    rw [List.all_eq_true]
    intro x hx
    unfold besD at hx
    obtain ⟨l, hl, hxl⟩ := List.mem_flatten.mp hx
    obtain ⟨i, hi⟩ := List.mem_iff_getElem?.mp hl
    rw [List.getElem?_zipWith] at hi
    unfold gridO at hi
    rw [List.getElem?_map, List.getElem?_map] at hi
    cases hg : G[i]? with
    | none => rw [hg] at hi; cases hi
    | some g =>
      cases hr : R[i]? with
      | none => rw [hg, hr] at hi; cases hi
      | some r =>
        rw [hg, hr] at hi
        cases hi
        obtain ⟨j, hj⟩ := List.mem_iff_getElem?.mp hxl
        obtain ⟨a, b, ha, hb, rfl⟩ := zipD_get hj
        have ha : (g.map celO)[j]? = some a := ha
        have hb : (r.map fr)[j]? = some b := hb
        rw [List.getElem?_map] at ha hb
        cases hc : g[j]? with
        | none => rw [hc] at ha; cases ha
        | some c =>
          cases hq : r[j]? with
          | none => rw [hq] at hb; cases hb
          | some q =>
            rw [hc] at ha
            rw [hq] at hb
            cases ha
            cases hb
            obtain ⟨⟨q1, _⟩, q3⟩ := (h.r i g r hg hr).2 j c q hc hq
            show (isFr (fr q) && (!(celO c).isNon || decide (q.1 = 0))) = true
            rw [isFr_fr q1]
            cases c with
            | none => rw [q3 rfl]; rfl
            | some u => rfl
/-- what stands at a place, as a rational -/
def qAt (R : List (List Fr)) (i c : Nat) : Rat := toQ ((R.getD i []).getD c (0, 1))
theorem zero_Q : toQ (0, 1) = 0 := by decide
theorem detQ_at {m : Nat} {R : List (List Fr)} (h : R.length = m) : detQ m R = De ((List.range m).map fun i => qAt R (m - m + i)) (List.range m) := by
  unfold detQ
  congr 1
  apply List.ext_getElem?
  intro i
  rw [List.getElem?_map, List.getElem?_map]
  rcases Nat.lt_or_ge i m with z | z
  · rw [List.getElem?_range z, List.getElem?_eq_getElem (by omega : i < R.length)]
    simp only [Option.map_some]
    congr 1
    funext c
    unfold qAt rowQ
    rw [Nat.sub_self, Nat.zero_add, List.getD_eq_getElem?_getD (l := R), List.getElem?_eq_getElem (by omega : i < R.length)]
    rfl
  · rw [List.getElem?_eq_none (by omega : R.length ≤ i), List.getElem?_eq_none (by rw [List.length_range]; exact z)]
    rfl
theorem facQ_P {s : Int} : ∀ {v : List Int} {rs : List Fr}, facQ s ((v.map fun x => lowF x 12).zip rs) = facP rs (v.map fun x => x * s / 12)
  | [], [] => rfl
  | [], _ :: _ => rfl
  | _ :: _, [] => rfl
  | x :: v, r :: rs => by
    show toQ r ^ expI s (lowF x 12) * facQ s ((v.map fun x => lowF x 12).zip rs) = toQ r ^ (x * s / 12) * facP rs (v.map fun x => x * s / 12)
    rw [exp_part, facQ_P]
theorem inN_Q {v : List Fr} {s : Int} {u : List Int} {q : Fr} (hv : RtP v) (hq : IsF q) : IsF (inN v s (some u) q) ∧ toQ (inN v s (some u) q) = facP v (u.map fun x => x * s / 12) * toQ q := by
  have pl : PosL ((u.map fun x => lowF x 12).zip v) := fun x hx => hv _ (List.of_mem_zip hx).2
  obtain ⟨f1, f2, f3⟩ := facF_ok (s := s) pl one_isF (by decide)
  have q1 := hq.1
  have g1 := f1.1
  refine ⟨mulF_isF hq f1, ?_⟩
  show toQ (mulF q _) = _
  rw [toQ_mul (by omega) (by omega), f3, one_Q, Rat.one_mul, facQ_P, Rat.mul_comm]
theorem later_at {v : List Fr} {s : Int} {G : GO} {R : List (List Fr)} {k i c : Nat} (h : NumG k G R) : (laterR v s G R).getD i [] = List.zipWith (inN v s) (G.getD i []) (R.getD i []) := by
  unfold laterR
  rw [List.getD_eq_getElem?_getD, List.getElem?_zipWith, List.getD_eq_getElem?_getD, List.getD_eq_getElem?_getD]
  cases hg : G[i]? with
  | none => rfl
  | some g =>
    obtain ⟨r, hr⟩ : ∃ r, R[i]? = some r := ⟨_, List.getElem?_eq_getElem (by have := (List.getElem?_eq_some_iff.mp hg).1; have := h.l; omega)⟩
    rw [hr]
    rfl
theorem oth {v : List Fr} {s : Int} {G : GO} {R : List (List Fr)} {k : Nat} (h : NumG k G R) (hv : RtP v) (i : Nat) : OthR v ((G.map (rowI s)).getD i []) (qAt R i) (qAt (laterR v s G R) i) := by
  have eR : (G.map (rowI s)).getD i [] = rowI s (G.getD i []) := by
    rw [List.getD_eq_getElem?_getD, List.getElem?_map, List.getD_eq_getElem?_getD]
    cases G[i]? <;> rfl
  have eL : ∀ c, qAt (laterR v s G R) i c = toQ ((List.zipWith (inN v s) (G.getD i []) (R.getD i [])).getD c (0, 1)) := fun c => by unfold qAt; rw [later_at (c := c) h]
  have eC0 : ∀ (g : List Cel) (c : Nat), (rowI s g).getD c none = (g.getD c none).map fun u => u.map fun x => x * s / 12 := fun g c => by
    unfold rowI
    rw [List.getD_eq_getElem?_getD, List.getElem?_map, List.getD_eq_getElem?_getD]
    cases g[c]? <;> rfl
  have eC : ∀ c, (rowI s (G.getD i [])).getD c none = ((G.getD i []).getD c none).map fun u => u.map fun x => x * s / 12 := fun c => eC0 _ c
  rw [eR]
  have key : ∀ c, (∃ g q, (G.getD i [])[c]? = some g ∧ (R.getD i [])[c]? = some q ∧ IsF q ∧ (g = none → q = (0, 1))) ∨ ((G.getD i []).getD c none = none ∧ (R.getD i []).getD c (0, 1) = (0, 1) ∧ (List.zipWith (inN v s) (G.getD i []) (R.getD i [])).getD c (0, 1) = (0, 1)) := fun c => by
    cases hg : G[i]? with
    | none =>
      have hr : R[i]? = none := List.getElem?_eq_none (by have := List.getElem?_eq_none_iff.mp hg; have := h.l; omega)
      have e1 : G.getD i [] = [] := by rw [List.getD_eq_getElem?_getD, hg]; rfl
      have e2 : R.getD i [] = [] := by rw [List.getD_eq_getElem?_getD, hr]; rfl
      rw [e1, e2]
      exact .inr ⟨rfl, rfl, rfl⟩
    | some g =>
      obtain ⟨r, hr⟩ : ∃ r, R[i]? = some r := ⟨_, List.getElem?_eq_getElem (by have := (List.getElem?_eq_some_iff.mp hg).1; have := h.l; omega)⟩
      have e1 : G.getD i [] = g := by rw [List.getD_eq_getElem?_getD, hg]; rfl
      have e2 : R.getD i [] = r := by rw [List.getD_eq_getElem?_getD, hr]; rfl
      rw [e1, e2]
      obtain ⟨lr, hc⟩ := h.r i g r hg hr
      rcases Nat.lt_or_ge c g.length with z | z
      · have h1 := List.getElem?_eq_getElem z
        have h2 := List.getElem?_eq_getElem (by omega : c < r.length)
        obtain ⟨⟨x1, _⟩, x2⟩ := hc c _ _ h1 h2
        exact .inl ⟨_, _, h1, h2, x1, x2⟩
      · refine .inr ⟨?_, ?_, ?_⟩
        · rw [List.getD_eq_getElem?_getD, List.getElem?_eq_none z]; rfl
        · rw [List.getD_eq_getElem?_getD, List.getElem?_eq_none (by omega)]; rfl
        · rw [List.getD_eq_getElem?_getD, List.getElem?_zipWith, List.getElem?_eq_none z]; rfl
  have zat : ∀ {c : Nat} {g : Cel} {q : Fr}, (G.getD i [])[c]? = some g → (R.getD i [])[c]? = some q → (G.getD i []).getD c none = g ∧ (R.getD i []).getD c (0, 1) = q ∧ (List.zipWith (inN v s) (G.getD i []) (R.getD i [])).getD c (0, 1) = inN v s g q := fun {c g q} h1 h2 =>
    ⟨by rw [List.getD_eq_getElem?_getD, h1]; rfl, by rw [List.getD_eq_getElem?_getD, h2]; rfl, by rw [List.getD_eq_getElem?_getD, List.getElem?_zipWith, h1, h2]; rfl⟩
  refine ⟨fun c hc => ?_, fun c w hc => ?_⟩
  · rw [eL]
    unfold qAt
    rcases key c with ⟨g, q, h1, h2, h3, h4⟩ | ⟨z1, z2, z3⟩
    · obtain ⟨a1, a2, a3⟩ := zat h1 h2
      rw [eC, a1] at hc
      cases g with
      | none =>
        rw [a2, a3, h4 rfl]
        exact ⟨zero_Q, zero_Q⟩
      | some u => cases hc
    · rw [z2, z3]
      exact ⟨zero_Q, zero_Q⟩
  · rw [eL]
    unfold qAt
    rcases key c with ⟨g, q, h1, h2, h3, h4⟩ | ⟨z1, z2, z3⟩
    · obtain ⟨a1, a2, a3⟩ := zat h1 h2
      rw [eC, a1] at hc
      cases g with
      | none => cases hc
      | some u =>
        cases hc
        rw [a2, a3]
        exact (inN_Q hv h3).2
    · rw [eC, z1] at hc
      cases hc
end PD
namespace PD
open PySem PySem.Spec PyProof.Rows L2
theorem fr_one {a b : Fr} (e : fr a = fr b) : a = b := by
  obtain ⟨a1, a2⟩ := a
  obtain ⟨b1, b2⟩ := b
  simp only [fr, D.tup.injEq, List.cons.injEq, D.int.injEq, and_true] at e
  rw [e.1, e.2]
theorem later_num {v : List Fr} {s : Int} {G : GO} {R : List (List Fr)} {k k' : Nat} (h : NumG k G R) (hv : RtP v) (hs : NumS k' ((laterR v s G R).map rowD)) : NumG k' G (laterR v s G R) where
  l := by unfold laterR; rw [List.length_zipWith, h.l, Nat.min_self]
  r := fun i g r' hg hr' => by
    have hr'0 := hr'
    unfold laterR at hr'
    rw [List.getElem?_zipWith, hg] at hr'
    cases hr : R[i]? with
    | none => rw [hr] at hr'; cases hr'
    | some r =>
      rw [hr] at hr'
      cases hr'
      obtain ⟨lr, hc⟩ := h.r i g r hg hr
      refine ⟨by rw [List.length_zipWith, lr, Nat.min_self], fun j c p hj hp => ?_⟩
      have hp0 := hp
      rw [List.getElem?_zipWith, hj] at hp
      cases hq : r[j]? with
      | none => rw [hq] at hp; cases hp
      | some q =>
        rw [hq] at hp
        cases hp
        obtain ⟨⟨q1, _⟩, q2⟩ := hc j c q hj hq
        obtain ⟨z, e, _, sz⟩ := hs _ (List.mem_map.mpr ⟨_, List.mem_of_getElem? hr'0, rfl⟩) (fr (inN v s c q)) (List.mem_map.mpr ⟨_, List.mem_of_getElem? hp0, rfl⟩)
        have ez : inN v s c q = z := fr_one e
        refine ⟨⟨?_, ez ▸ sz⟩, fun hn => ?_⟩
        · cases c with
          | none => exact q1
          | some u => exact (inN_Q hv q1).1
        · subst hn
          exact q2 rfl
theorem low_two (h : Int) : (lowF (6 * h) 12).2 ∣ 2 := (low12_dvd (x := 6 * h) (s := 2) ⟨h, by omega⟩).2
theorem lcm_two {a b : Int} (ha : a ∣ 2) (hb : b ∣ 2) : ((Nat.lcm a.natAbs b.natAbs : Nat) : Int) ∣ 2 := by
  have h1 : a.natAbs ∣ 2 := Int.natAbs_dvd_natAbs.mpr ha
  have h2 : b.natAbs ∣ 2 := Int.natAbs_dvd_natAbs.mpr hb
  exact Int.ofNat_dvd.mpr (Nat.lcm_dvd h1 h2)
theorem bot_two {n m : Nat} {G : GO} (sq : SqO n m G) : botX (gridO G) ∣ 2 := by
  have stE : ∀ (l : List D) (a : Int), a ∣ 2 → (∀ b ∈ l, botD b ∣ 2) → l.foldl stepE a ∣ 2 := fun l => by
    induction l with
    | nil => exact fun a h _ => h
    | cons e l ih => exact fun a h hb => ih _ (lcm_two h (hb e List.mem_cons_self)) fun b hb' => hb b (List.mem_cons_of_mem _ hb')
  have stC : ∀ (l : List D) (a : Int), a ∣ 2 → (∀ c ∈ l, ∀ b ∈ items c, botD b ∣ 2) → l.foldl stepC a ∣ 2 := fun l => by
    induction l with
    | nil => exact fun a h _ => h
    | cons e l ih => exact fun a h hb => ih _ (stE _ _ h (hb e List.mem_cons_self)) fun b hb' => hb b (List.mem_cons_of_mem _ hb')
  have stR : ∀ (l : List D) (a : Int), a ∣ 2 → (∀ r ∈ l, ∀ c ∈ items r, ∀ b ∈ items c, botD b ∣ 2) → l.foldl stepR a ∣ 2 := fun l => by
    induction l with
    | nil => exact fun a h _ => h
    | cons e l ih => exact fun a h hb => ih _ (stC _ _ h (hb e List.mem_cons_self)) fun b hb' => hb b (List.mem_cons_of_mem _ hb')
  refine stR _ 1 (Int.one_dvd _) fun r hr c hc b hb => ?_
  obtain ⟨r0, h0, rfl⟩ := List.mem_map.mp hr
  have hc : c ∈ r0.map celO := hc
  obtain ⟨c0, h1, rfl⟩ := List.mem_map.mp hc
  cases c0 with
  | none => cases hb
  | some u =>
    have hb : b ∈ (u.map fun x => lowF x 12).map fr := hb
    obtain ⟨q, hq, rfl⟩ := List.mem_map.mp hb
    obtain ⟨x, hx, rfl⟩ := List.mem_map.mp hq
    obtain ⟨y, rfl, _⟩ := ((sq.2 r0 h0).2 u h1).2 x hx
    exact low_two y
theorem dvd12 {a : Int} (h0 : 0 < a) (h4 : a ≤ 4) : a ∣ 12 := by
  have : a = 1 ∨ a = 2 ∨ a = 3 ∨ a = 4 := by omega
  rcases this with rfl | rfl | rfl | rfl
  · exact ⟨12, by decide⟩
  · exact ⟨6, by decide⟩
  · exact ⟨4, by decide⟩
  · exact ⟨3, by decide⟩
theorem pow_dvd {a : Int} (h : a ∣ 12) {k : Nat} (hk : k ≤ 6) : a ^ k ∣ 12 ^ 6 := by
  obtain ⟨b, hb⟩ := h
  refine ⟨b ^ k * 12 ^ (6 - k), ?_⟩
  have e : (12 : Int) ^ 6 = 12 ^ k * 12 ^ (6 - k) := by rw [← Int.pow_add]; congr 1; omega
  rw [e, show (12 : Int) ^ k = a ^ k * b ^ k by rw [← Int.mul_pow, ← hb], Int.mul_assoc]
theorem pow_int {r : Fr} (h1 : IsF r) (h2 : 0 < r.1) (h4 : r.1 ≤ 4) (h3 : r.2 ≤ 3) {e : Int} (he : e.natAbs ≤ 6) : ∃ z : Int, (((12 : Int) ^ 6 : Int) : Rat) * toQ r ^ e = (z : Rat) := by
  have r2 : 0 < r.2 := by have := h1.1; omega
  have pp := powF_pos h2 r2 e
  have d : (powF r e).2 ∣ 12 ^ 6 := by
    unfold powF
    split
    · exact pow_dvd (dvd12 h2 h4) he
    · exact pow_dvd (dvd12 r2 (by omega)) he
  refine ⟨(powF r e).1 * (12 ^ 6 / (powF r e).2), ?_⟩
  rw [whole_Q pp.2 d, toQ_pow h2 r2]
theorem fac_int : ∀ {rs : List Fr} {v : List Int}, (∀ r ∈ rs, IsF r ∧ 0 < r.1 ∧ r.1 ≤ 4 ∧ r.2 ≤ 3) → (∀ x ∈ v, x.natAbs ≤ 6) → ∃ z : Int, (((12 : Int) ^ (6 * rs.length) : Int) : Rat) * facP rs v = (z : Rat)
  | [], v, _, _ => ⟨1, by cases v <;> (show ((1 : Int) : Rat) * 1 = ((1 : Int) : Rat); rw [Rat.mul_one])⟩
  | r :: rs, [], _, _ => ⟨12 ^ (6 * (rs.length + 1)), by show _ * (1 : Rat) = _; rw [Rat.mul_one]; rfl⟩
  | r :: rs, x :: v, hr, hv => by
    obtain ⟨a1, a2, a3, a4⟩ := hr r List.mem_cons_self
    obtain ⟨z1, e1⟩ := pow_int a1 a2 a3 a4 (hv x List.mem_cons_self)
    obtain ⟨z2, e2⟩ := fac_int (rs := rs) (v := v) (fun r h => hr r (List.mem_cons_of_mem _ h)) fun x h => hv x (List.mem_cons_of_mem _ h)
    refine ⟨z1 * z2, ?_⟩
    show (((12 : Int) ^ (6 * (rs.length + 1)) : Int) : Rat) * (toQ r ^ x * facP rs v) = _
    have e : (12 : Int) ^ (6 * (rs.length + 1)) = 12 ^ 6 * 12 ^ (6 * rs.length) := by rw [← Int.pow_add]; congr 1; omega
    rw [e, Rat.intCast_mul, Rat.intCast_mul, ← e1, ← e2]
    grind
theorem bot_dvd {q : Fr} {B z : Int} (hq : IsF q) (h : (B : Rat) * toQ q = (z : Rat)) : q.2 ∣ B := by
  have q2 : 0 < q.2 := by have := hq.1; omega
  have e : ((q.1 : Int) : Rat) = ((q.2 : Int) : Rat) * toQ q := by
    have := whole_Q (p := q) (k := q.2) q2 (Int.dvd_refl _)
    rw [Int.ediv_self (by omega), Int.mul_one] at this
    exact this
  refine cross_dvd (a := q.1) (b := q.2) (c := z) (d := B) hq.2 ?_
  have : ((q.1 * B : Int) : Rat) = ((z * q.2 : Int) : Rat) := by
    rw [Rat.intCast_mul, Rat.intCast_mul, e, ← h]
    grind
  exact Rat.intCast_inj.mp this
def Bot57 : Int := 6 * 12 ^ 12
theorem num_bot {q : Fr} (hq : IsF q) (h3 : q.2 ≤ 3) : q.2 ∣ 6 := by
  have := hq.1
  have : q.2 = 1 ∨ q.2 = 2 ∨ q.2 = 3 := by omega
  rcases this with e | e | e <;> rw [e]
  · exact ⟨6, by decide⟩
  · exact ⟨3, by decide⟩
  · exact ⟨2, by decide⟩
theorem later_bot {n : Nat} {rs : List Fr} {s : Int} {u : List Int} {q : Fr} (hs : s = 1 ∨ s = 2) (hu : Hv n 6 u) (lr : rs.length = n) (hr : ∀ r ∈ rs, IsF r ∧ 0 < r.1 ∧ r.1 ≤ 4 ∧ r.2 ≤ 3) (n2 : n ≤ 2) (hq : IsF q) (h3 : q.2 ≤ 3) : BotB Bot57 (inN rs s (some u) q) := by
  have hv : RtP rs := fun r h => ⟨(hr r h).1, (hr r h).2.1⟩
  obtain ⟨i1, i2⟩ := inN_Q (s := s) (u := u) hv hq
  refine ⟨i1, ?_⟩
  have hx : ∀ x ∈ (u.map fun x => x * s / 12), x.natAbs ≤ 6 := fun x hx => by
    obtain ⟨y, hy, rfl⟩ := List.mem_map.mp hx
    obtain ⟨h, rfl, hh⟩ := hu.2 y hy
    rcases hs with rfl | rfl
    · have : (6 * h * 1) / 12 = h / 2 := by omega
      rw [this]
      omega
    · have : (6 * h * 2) / 12 = h := by omega
      rw [this]
      exact hh
  obtain ⟨z, ez⟩ := fac_int hr hx
  have d6 := num_bot hq h3
  have w6 := whole_Q (p := q) (k := 6) (by have := hq.1; omega) d6
  have e : (Bot57 : Int) = 12 ^ (6 * rs.length) * (6 * 12 ^ (12 - 6 * rs.length)) := by
    unfold Bot57
    have e2 : (12 : Int) ^ 12 = 12 ^ (6 * rs.length) * 12 ^ (12 - 6 * rs.length) := by rw [← Int.pow_add]; congr 1; omega
    rw [e2]
    grind
  refine bot_dvd (z := z * (q.1 * (6 / q.2)) * 12 ^ (12 - 6 * rs.length)) i1 ?_
  rw [i2, e, Rat.intCast_mul, Rat.intCast_mul, Rat.intCast_mul, Rat.intCast_mul, w6, ← ez]
  grind
theorem plain_bot {q : Fr} (hq : IsF q) (h3 : q.2 ≤ 3) : BotB Bot57 q := ⟨hq, Int.dvd_trans (num_bot hq h3) ⟨12 ^ 12, rfl⟩⟩
end PD
namespace PD
open PySem PySem.Spec PyProof.Rows L2
def NumB (G : GO) (R : List (List Fr)) : Prop := R.length = G.length ∧ ∀ (i : Nat) (g : List Cel) (r : List Fr), G[i]? = some g → R[i]? = some r → r.length = g.length ∧ ∀ (j : Nat) (c : Cel) (p : Fr), g[j]? = some c → r[j]? = some p → (IsF p ∧ p.1.natAbs ≤ 5 ∧ p.2 ≤ 3) ∧ (c = none → p = (0, 1))
theorem NumB.g {G : GO} {R : List (List Fr)} (h : NumB G R) : NumG 3 G R := ⟨h.1, fun i g r hg hr => by
  obtain ⟨l, hc⟩ := h.2 i g r hg hr
  refine ⟨l, fun j c p h1 h2 => ?_⟩
  obtain ⟨⟨a, b, d⟩, e⟩ := hc j c p h1 h2
  have := a.1
  exact ⟨⟨a, Nat.lt_of_le_of_lt b (by decide), Nat.lt_of_le_of_lt (show p.2.natAbs ≤ 3 by omega) (by decide)⟩, e⟩⟩
structure DetOK (m : Nat) (R : List (List Fr)) : Prop where
  sq : SqQ m R
  at' : ∀ r ∈ R, ∀ p ∈ r, BotB Bot57 p ∧ p.1.natAbs < 2 ^ 655
/-- a grid, numbers, roots: as the law draws them -/
structure Set57 (n m : Nat) (G : GO) (rs : List Fr) (s : Int) : Prop where
  sq : SqO n m G
  n1 : 1 ≤ n
  n2 : n ≤ 2
  m1 : 1 ≤ m
  m4 : m ≤ 4
  lr : rs.length = n
  hr : ∀ r ∈ rs, IsF r ∧ 0 < r.1 ∧ r.1 ≤ 4 ∧ r.2 ≤ 3
  hs : botX (gridO G) = s
section
variable {n m : Nat} {G : GO} {rs : List Fr} {s : Int} {R : List (List Fr)}
theorem Set57.gr (h : Set57 n m G rs s) : Grd (n : Int) m (gridO G) := h.sq.grd h.n1 (by have := h.n2; omega) h.m1 (by have := h.m4; omega)
theorem Set57.s12 (h : Set57 n m G rs s) : s = 1 ∨ s = 2 := by
  have lc := h.gr.lc
  have b2 := bot_two h.sq
  rw [h.hs] at lc b2
  have := lc.1
  have := Int.le_of_dvd (by decide) b2
  omega
theorem Set57.rp (h : Set57 n m G rs s) : RtP rs := fun r hr => ⟨(h.hr r hr).1, (h.hr r hr).2.1⟩
theorem Set57.rt (h : Set57 n m G rs s) : Rt rs 3 3 := ⟨fun r hr => by
  obtain ⟨a, b, c, d⟩ := h.hr r hr
  have := a.1
  exact ⟨a, b, Nat.lt_of_le_of_lt (show r.1.natAbs ≤ 4 by omega) (by decide), Nat.lt_of_le_of_lt (show r.2.natAbs ≤ 3 by omega) (by decide)⟩, by decide⟩
theorem Set57.hG (h : Set57 n m G rs s) : ∀ r ∈ G, r.length = m := fun r hr => (h.sq.2 r hr).1
theorem Set57.nums (h : Set57 n m G rs s) (hR : NumB G R) : Nums m 3 (gridO G) (R.map rowD) := hR.g.nums (n := n) h.hG
theorem Set57.later (h : Set57 n m G rs s) (hR : NumB G R) : Nums m 655 (gridO G) ((laterR rs s G R).map rowD) := by
  have := (Nums.res (s := s) h.gr (h.nums hR) (by rw [h.lr]) (by have := h.s12; omega) (by have := h.s12; omega) h.rt).1
  rw [resD_grid] at this
  exact this
theorem Set57.lnum (h : Set57 n m G rs s) (hR : NumB G R) : NumG 655 G (laterR rs s G R) := later_num hR.g h.rp (h.later hR).n
theorem Set57.sqq (h : Set57 n m G rs s) {k : Nat} (hR : NumG k G R) : SqQ m R := ⟨by rw [hR.l, h.sq.1], fun r hr => by
  obtain ⟨i, hi⟩ := List.mem_iff_getElem?.mp hr
  obtain ⟨g, hg⟩ := hR.row hi
  rw [(hR.r i g r hg hi).1, h.hG g (List.mem_of_getElem? hg)]⟩
theorem Set57.det (h : Set57 n m G rs s) (hR : NumB G R) : DetOK m R := ⟨h.sqq hR.g, fun r hr p hp => by
  obtain ⟨i, hi⟩ := List.mem_iff_getElem?.mp hr
  obtain ⟨g, hg⟩ := hR.g.row hi
  obtain ⟨l, hc⟩ := hR.2 i g r hg hi
  obtain ⟨j, hj⟩ := List.mem_iff_getElem?.mp hp
  have jl := (List.getElem?_eq_some_iff.mp hj).1
  have hgj : g[j]? = some g[j] := List.getElem?_eq_getElem (by omega)
  obtain ⟨⟨a, b, d⟩, _⟩ := hc j _ p hgj hj
  exact ⟨plain_bot a d, Nat.lt_of_le_of_lt b (Nat.lt_of_lt_of_le (show 5 < 2 ^ 3 by decide) (Nat.pow_le_pow_right (by decide) (by decide)))⟩⟩
theorem Set57.detL (h : Set57 n m G rs s) (hR : NumB G R) : DetOK m (laterR rs s G R) := ⟨h.sqq (h.lnum hR), fun r' hr' p hp => by
  obtain ⟨i, hi⟩ := List.mem_iff_getElem?.mp hr'
  obtain ⟨g, hg⟩ := (h.lnum hR).row hi
  obtain ⟨l, hc⟩ := (h.lnum hR).r i g r' hg hi
  obtain ⟨j, hj⟩ := List.mem_iff_getElem?.mp hp
  have jl := (List.getElem?_eq_some_iff.mp hj).1
  obtain ⟨c, hgj⟩ : ∃ c, g[j]? = some c := ⟨_, List.getElem?_eq_getElem (by omega)⟩
  obtain ⟨⟨_, sz⟩, _⟩ := hc j _ p hgj hj
  refine ⟨?_, sz.1⟩
  have hi0 := hi
  unfold laterR at hi
  rw [List.getElem?_zipWith, hg] at hi
  cases hr : R[i]? with
  | none => rw [hr] at hi; cases hi
  | some r =>
    rw [hr] at hi
    cases hi
    rw [List.getElem?_zipWith, hgj] at hj
    cases hq : r[j]? with
    | none => rw [hq] at hj; cases hj
    | some q =>
      rw [hq] at hj
      cases hj
      obtain ⟨⟨a, b, d⟩, _⟩ := (hR.2 i g r hg hr).2 j _ q hgj hq
      cases c with
      | none => exact plain_bot a d
      | some u => exact later_bot h.s12 ((h.sq.2 g (List.mem_of_getElem? hg)).2 u (List.mem_of_getElem? hgj)) h.lr h.hr h.n2 a d⟩
theorem Set57.rows (h : Set57 n m G rs s) : ∀ r ∈ G.map (rowI s), r.length = m ∧ ∀ v, some v ∈ r → v.length = n := rowI_len h.sq
theorem Set57.len (h : Set57 n m G rs s) (i : Nat) : ((G.map (rowI s)).getD i []).length ≤ m := by
  rw [List.getD_eq_getElem?_getD]
  cases e : (G.map (rowI s))[i]? with
  | none => exact Nat.zero_le _
  | some r => exact Nat.le_of_eq (h.rows r (List.mem_of_getElem? e)).1
theorem cols0 (m : Nat) : ColsAt m 0 (List.range m) := ⟨List.nodup_range, fun c => by rw [List.mem_range]; simp⟩
theorem Set57.no (h : Set57 n m G rs s) (hR : NumB G R) (e : uTo n (G.map (rowI s)) m m 0 = []) : detQ m R = 0 ∧ detQ m (laterR rs s G R) = 0 := by
  have c := (summ_to (n := n) (m := m) (fun r hr => (h.rows r hr).2) m 0).no e
  obtain ⟨d1, d2⟩ := det_zero (n := n) (m := m) (R := G.map (rowI s)) (rs := rs) (X := qAt R) (Y := qAt (laterR rs s G R)) (oth hR.g h.rp) h.len m 0 (List.range m) (Nat.le_refl m) (cols0 m) c
  exact ⟨(detQ_at (h.det hR).sq.1).trans d1, (detQ_at (h.detL hR).sq.1).trans d2⟩
theorem Set57.one (h : Set57 n m G rs s) (hR : NumB G R) {p : Pa} (e : uTo n (G.map (rowI s)) m m 0 = [p]) : detQ m (laterR rs s G R) = facP rs p.1 * detQ m R := by
  have c := (summ_to (n := n) (m := m) (fun r hr => (h.rows r hr).2) m 0).one p e
  have lp := (uTo_len (n := n) (m := m) (fun r hr => (h.rows r hr).2) m 0 p (by rw [e]; exact List.mem_cons_self)).1
  have d := det_units (n := n) (m := m) (R := G.map (rowI s)) (rs := rs) (X := qAt R) (Y := qAt (laterR rs s G R)) h.rp h.lr (fun r hr => (h.rows r hr).2) (oth hR.g h.rp) h.len m 0 (List.range m) p.1 (Nat.le_refl m) (cols0 m) lp c
  rw [detQ_at (h.det hR).sq.1, detQ_at (h.detL hR).sq.1]
  exact d
end
end PD
namespace PD
open PySem PySem.Spec PyProof.Rows L2
end PD
namespace PD
open PySem PySem.Spec PyProof.Rows L2
end PD
namespace PD
open PySem PySem.Spec PyProof.Rows L2
/-- what a dict with whole numbers for keys holds -/
def truK (l : List Nat) : HO := .dK (l.map fun k => ((Sum.inl ((k : Nat) : Int) : Key), V.bl true))
/-- .. with pairs of them -/
def truT (l : List (Nat × Nat)) : HO := .dT (l.map fun p => ([(Sum.inl ((p.1 : Nat) : Int) : Key), Sum.inl ((p.2 : Nat) : Int)], V.bl true))
def IsDk (o : HO) : Prop := (∃ kvs, o = .dK kvs) ∨ ∃ kvs, o = .dT kvs
theorem truK_dk (l : List Nat) : IsDk (truK l) := .inl ⟨_, rfl⟩
theorem truT_dk (l : List (Nat × Nat)) : IsDk (truT l) := .inr ⟨_, rfl⟩
structure OwnF (M : Addr → Prop) (qs : List Addr) (os : List HO) (H : Hp) : Prop where
  nd : qs.Nodup
  len : qs.length = os.length
  at' : ∀ (i : Nat) (q : Addr) (o : HO), qs[i]? = some q → os[i]? = some o → M q ∧ H q = some o ∧ IsDk o
def KeepF (W : Wd) (qs : List Addr) (H H' : Hp) : Prop := ∀ a o, ¬ W.S a → a ∉ qs → H a = some o → H' a = some o
section
variable {W : Wd} {M M' : Addr → Prop} {H H' : Hp} {qs : List Addr} {os : List HO}
theorem Keep.toF (k : Keep W H H') : KeepF W qs H H' := fun a o n _ h => k a o n h
theorem KeepF.refl (H : Hp) : KeepF W qs H H := fun _ _ _ _ h => h
theorem KeepF.trans {H2 : Hp} (k : KeepF W qs H H') (l : KeepF W qs H' H2) : KeepF W qs H H2 := fun a o n z h => l a o n z (k a o n z h)
theorem ns_dk {a : Addr} {o : HO} (g : StOk W H) (h : H a = some o) (d : IsDk o) : ¬ W.S a := fun e => by
  obtain ⟨_, q⟩ := StOk.at g e
  rw [h] at q
  rcases d with ⟨k, rfl⟩ | ⟨k, rfl⟩ <;> cases q
theorem OwnF.mem (w : OwnF M qs os H) {q : Addr} (h : q ∈ qs) : M q ∧ ∃ o, H q = some o ∧ IsDk o := by
  obtain ⟨i, hi⟩ := List.getElem?_of_mem h
  have il := (List.getElem?_eq_some_iff.mp hi).1
  obtain ⟨a, b, c⟩ := w.at' i q _ hi (List.getElem?_eq_getElem (by rw [← w.len]; exact il))
  exact ⟨a, _, b, c⟩
theorem OwnF.keep (w : OwnF M qs os H) (wf : Wf W M H) (k : Keep W H H') : OwnF M qs os H' := ⟨w.nd, w.len, fun i q o h1 h2 => by
  obtain ⟨a, b, c⟩ := w.at' i q o h1 h2
  exact ⟨a, k q o (ns_dk wf.g b c) b, c⟩⟩
/-- one dict told anew -/
theorem f_upd {q : Addr} {o u : HO} {σ : L2.St} {δ : DS} (p : Pre W M δ σ H) (m : M q) (h : H q = some o) (d : IsDk o) : Pre W M δ σ (upd H q u) ∧ ∀ v x, Rep W M H v x → Rep W M (upd H q u) v x := by
  have ns := ns_dk p.wf.g h d
  have g' : StOk W (upd H q u) := fun s hs => by
    obtain ⟨n1, i1, c1, m1, a1, a2, a3, a4⟩ := p.wf.g s hs
    refine ⟨n1, i1, c1, m1, ?_, a2, ?_, a4⟩
    · rw [upd_ne (fun z => ns (Wd.S_of hs z.symm))]; exact a1
    · rw [upd_ne (fun z => by
        rw [z, h] at a3
        rcases d with ⟨k, rfl⟩ | ⟨k, rfl⟩ <;> cases a3)]; exact a3
  have rr : ∀ v x, Rep W M H v x → Rep W M (upd H q u) v x := fun v x r => r.upd (fun a ts hr e => by
    subst e
    rcases hr with hr | ⟨_, hr⟩ <;> (rw [h] at hr; rcases d with ⟨k, rfl⟩ | ⟨k, rfl⟩ <;> cases hr)) m
  refine ⟨⟨⟨g', p.wf.sm, fun b hb => ?_⟩, p.sl.len, fun j x hx => ?_⟩, rr⟩
  · by_cases z : b = q
    · exact ⟨_, by rw [z]; exact upd_same⟩
    · obtain ⟨o, ho⟩ := p.wf.dom b hb
      exact ⟨o, by rw [upd_ne z]; exact ho⟩
  · obtain ⟨v, h1, h2⟩ := p.sl.get j x hx
    exact ⟨v, h1, rr v x h2⟩
theorem pre0 (wf : Wf W M H) : Pre W M [] [] H := ⟨wf, rfl, fun j d h => by simp at h⟩
theorem rep_keepF : ∀ (qs : List Addr) {H : Hp}, Wf W M H → (∀ q ∈ qs, M q ∧ (∃ o, H q = some o ∧ IsDk o) ∧ ∃ o, H' q = some o ∧ IsDk o) → KeepF W qs H H' → StOk W H' → ∀ {v : V} {d : D}, Rep W M H v d → Rep W M H' v d
  | [], H, wf, _, k, _, v, d, r => r.keep wf fun a o n h => k a o n (by simp) h
  | q :: qs, H, wf, hq, k, g, v, d, r => by
    obtain ⟨m, ⟨o, h, dk⟩, o', h', dk'⟩ := hq q List.mem_cons_self
    obtain ⟨p1, rr⟩ := f_upd (u := o') (pre0 wf) m h dk
    refine rep_keepF qs p1.wf (fun q2 hq2 => ?_) (fun a u ns nq ha => ?_) g (rr v d r)
    · obtain ⟨m2, ⟨o2, h2, d2⟩, x⟩ := hq q2 (List.mem_cons_of_mem _ hq2)
      by_cases z : q2 = q
      · exact ⟨m2, ⟨o', by rw [z]; exact upd_same, dk'⟩, x⟩
      · exact ⟨m2, ⟨o2, by rw [upd_ne z]; exact h2, d2⟩, x⟩
    · by_cases z : a = q
      · rw [z, upd_same] at ha
        cases ha
        rw [z]
        exact h'
      · rw [upd_ne z] at ha
        exact k a u ns (fun w => (List.mem_cons.mp w).elim z nq) ha
theorem OwnF.rep {os' : List HO} (w : OwnF M qs os H) (w' : OwnF M qs os' H') (wf : Wf W M H) (k : KeepF W qs H H') (g : StOk W H') {v : V} {d : D} (r : Rep W M H v d) : Rep W M H' v d :=
  rep_keepF qs wf (fun q hq => ⟨(w.mem hq).1, (w.mem hq).2, (w'.mem hq).2⟩) k g r
end
/-- statements while the dicts at qs grow; js: the slots that they tell -/
def FK (W : Wd) (ts : TS) (qs : List Addr) (js : List Nat) (os : List HO) (δ : DS) (N : List HO → DS → Prop) : Prop :=
  ∀ (M : Addr → Prop) (σ : L2.St) (H : Hp) (E : Ends), Pre W M δ σ H → OwnF M qs os H →
    (∀ σ' δ' os' H', Pre W M δ' σ' H' → OwnF M qs os' H' → KeepF W qs H H' → wipe σ' js = wipe σ js → N os' δ' → E.nx σ' H') → ts E σ H
section
variable {W : Wd} {qs : List Addr} {js : List Nat} {os : List HO} {δ : DS} {N : List HO → DS → Prop} {ts tu : TS} {te tl td ty tv : TE} {tt : TT} {g : TG}
theorem fk_next (h : N os δ) : FK W tNext qs js os δ N := fun M σ H E p w o => o σ δ os H p w (KeepF.refl H) rfl h
/-- a test that reads none of these dicts -/
theorem fk_if (h : EvT W tt δ fun b => (b = true → FK W ts qs js os δ N) ∧ (b = false → FK W tu qs js os δ N)) : FK W (tIfS tt ts tu) qs js os δ N := fun M σ H E p w o =>
  h M σ H p _ fun b H1 g1 k1 h1 => by
    have go : ∀ {t : TS}, FK W t qs js os δ N → t E σ H1 := fun {t} hh => hh M σ H1 E (p.next g1 k1) (w.keep p.wf k1) fun σ' δ' os' H' p' w' k' z' n' => o σ' δ' os' H' p' w' (k1.toF.trans k') z' n'
    cases b with
    | true => rw [if_pos rfl]; exact go (h1.1 rfl)
    | false => rw [if_neg Bool.false_ne_true]; exact go (h1.2 rfl)
def kvB (l : List Nat) : Kv := l.map fun k => ((Sum.inl ((k : Nat) : Int) : Key), D.bl true)
theorem dkr_tru {M : Addr → Prop} {H : Hp} : ∀ l : List Nat, DKR W M H (l.map fun k => ((Sum.inl ((k : Nat) : Int) : Key), V.bl true)) (kvB l)
  | [] => .nil
  | k :: l => .cons (.bl true) (dkr_tru l)
/-- these dicts lent -/
theorem lent_f {M : Addr → Prop} {σ : L2.St} {H : Hp} {j : Nat} {F : List (List Nat)} (hj : δ[j]? = some (some (.lst (qs.map D.obj)))) (p : Pre W M δ σ H) (w : OwnF M qs (F.map truK) H) : Pre W (fun b => M b ∧ b ∉ qs) (δ.set j (some (.lst (F.map fun l => dicD (kvB l))))) σ H := by
  have an : ∀ b, (M b ∧ b ∉ qs) → M b := fun b z => z.1
  refine ⟨⟨p.wf.g, fun b e => ⟨p.wf.sm b e, fun z => ?_⟩, fun b z => p.wf.dom b z.1⟩, by rw [List.length_set]; exact p.sl.len, fun k d hd => ?_⟩
  · obtain ⟨_, o, ho, dk⟩ := w.mem z
    exact ns_dk p.wf.g ho dk e
  · by_cases e : j = k
    · subst e
      have hl := (List.getElem?_eq_some_iff.mp hj).1
      rw [List.getElem?_set_self hl] at hd
      cases hd
      obtain ⟨v, h1, h2⟩ := p.sl.get j _ hj
      refine ⟨v, h1, ?_⟩
      cases h2 with
      | @lst a vs _ na ha hr =>
        refine .lst (fun z => na z.1) ha (reps_of ?_ fun i v d h1 h2 => ?_)
        · rw [reps_objs hr, List.length_map, List.length_map, w.len, List.length_map]
        · rw [reps_objs hr, List.getElem?_map] at h1
          rw [List.getElem?_map] at h2
          cases e1 : qs[i]? with
          | none => rw [e1] at h1; cases h1
          | some q =>
            cases e2 : F[i]? with
            | none => rw [e2] at h2; cases h2
            | some l =>
              rw [e1] at h1
              rw [e2] at h2
              cases h1
              cases h2
              obtain ⟨a1, a2, _⟩ := w.at' i q (truK l) e1 (by rw [List.getElem?_map, e2]; rfl)
              exact (dkr_tru l).dic (fun z => z.2 (List.mem_of_getElem? e1)) a2
    · rw [List.getElem?_set_ne e] at hd
      obtain ⟨v, h1, h2⟩ := p.sl.get k d hd
      exact ⟨v, h1, h2.anti an⟩
/-- a test that reads them -/
theorem fk_ifL {j : Nat} {F : List (List Nat)} (ho : os = F.map truK) (hj : δ[j]? = some (some (.lst (qs.map D.obj)))) (h : EvT W tt (δ.set j (some (.lst (F.map fun l => dicD (kvB l))))) fun b => (b = true → FK W ts qs js os δ N) ∧ (b = false → FK W tu qs js os δ N)) : FK W (tIfS tt ts tu) qs js os δ N := fun M σ H E p w o => by
  subst ho
  refine h _ σ H (lent_f hj p w) _ fun b H1 g1 k1 h1 => ?_
  have go : ∀ {t : TS}, FK W t qs js (F.map truK) δ N → t E σ H1 := fun {t} hh => hh M σ H1 E (p.next g1 k1) (w.keep p.wf k1) fun σ' δ' os' H' p' w' k' z' n' => o σ' δ' os' H' p' w' (k1.toF.trans k') z' n'
  cases b with
  | true => rw [if_pos rfl]; exact go (h1.1 rfl)
  | false => rw [if_neg Bool.false_ne_true]; exact go (h1.2 rfl)
theorem OwnF.put {M : Addr → Prop} {H : Hp} {i : Nat} {q : Addr} {u : HO} (w : OwnF M qs os H) (hi : qs[i]? = some q) (du : IsDk u) : OwnF M qs (os.set i u) (upd H q u) := ⟨w.nd, by rw [List.length_set]; exact w.len, fun k q' o' h1 h2 => by
  by_cases e : i = k
  · subst e
    rw [hi] at h1
    cases h1
    have hl := (List.getElem?_eq_some_iff.mp hi).1
    rw [List.getElem?_set_self (by rw [← w.len]; exact hl)] at h2
    cases h2
    refine ⟨(w.at' i q _ hi (List.getElem?_eq_getElem (by rw [← w.len]; exact hl))).1, upd_same, du⟩
  · rw [List.getElem?_set_ne e] at h2
    obtain ⟨a, b, c⟩ := w.at' k q' o' h1 h2
    refine ⟨a, ?_, c⟩
    refine (upd_ne fun z => ?_).trans b
    subst z
    have il := (List.getElem?_eq_some_iff.mp hi).1
    have kl := (List.getElem?_eq_some_iff.mp h1).1
    rw [List.getElem?_eq_getElem il] at hi
    rw [List.getElem?_eq_getElem kl] at h1
    exact e ((List.getElem_inj w.nd).mp ((Option.some.inj hi).trans (Option.some.inj h1).symm))⟩
def putU (l : List Nat) (k : Nat) : List Nat := if k ∈ l then l else l ++ [k]
theorem truK_put (l : List Nat) (k : Nat) : HO.dK (putK (l.map fun k => ((Sum.inl ((k : Nat) : Int) : Key), V.bl true)) (.inl (k : Int)) (.bl true)) = truK (putU l k) := by
  have ha : ((l.map fun k => ((Sum.inl ((k : Nat) : Int) : Key), V.bl true)).any fun p => decide (p.1 = (Sum.inl (k : Int) : Key))) = decide (k ∈ l) := by
    rw [List.any_map]
    induction l with
    | nil => rfl
    | cons a l ih =>
      rw [List.any_cons, ih]
      by_cases z : a = k
      · simp [z]
      · have : ¬ ((Sum.inl (a : Int) : Key) = Sum.inl (k : Int)) := fun e => z (key_inj.mp e)
        simp [this]
        intro z2
        exact absurd z2.symm z
  unfold putK putU truK
  rw [ha]
  by_cases z : k ∈ l
  · rw [if_pos z, if_pos (decide_eq_true z), List.map_map]
    congr 1
    refine List.map_congr_left fun a _ => ?_
    show (if (Sum.inl (a : Int) : Key) = Sum.inl (k : Int) then ((Sum.inl (a : Int) : Key), V.bl true) else ((Sum.inl (a : Int) : Key), V.bl true)) = _
    split <;> rfl
  · rw [if_neg z, if_neg (by simpa using z), List.map_append]
    rfl
/-- lots[i][k] = True -/
theorem fk_put {j i : Nat} {l : List Nat} (hj : δ[j]? = some (some (.lst (qs.map D.obj)))) (ht : TdAt W.K td j i qs.length δ) (hl : os[i]? = some (truK l)) (ll : l.length < 100000) (h : EvD W ty δ fun y => ∃ k : Nat, y = .int (k : Int) ∧ N (os.set i (truK (putU l k))) δ) : FK W (sDPut td ty (tC (.bl true))) qs js os δ N := fun M σ H E p w o => by
  obtain ⟨v0, s0, r0⟩ := p.sl.get j _ hj
  cases r0 with
  | @lst a vs _ na ha hr =>
    have ev := reps_objs hr
    have il : i < qs.length := by rw [w.len]; exact (List.getElem?_eq_some_iff.mp hl).1
    have hq : qs[i]? = some qs[i] := List.getElem?_eq_getElem il
    obtain ⟨mq, eq, dq⟩ := w.at' i _ _ hq hl
    refine ht σ H a vs (.ref qs[i]) p.sl.ints s0 ha (by rw [ev, List.length_map]) (by rw [ev, List.getElem?_map, hq]; rfl) _ ?_
    refine h M σ H p _ fun u y H2 g2 k2 r2 h2 => ?_
    obtain ⟨k, rfl, hN⟩ := h2
    cases r2
    have p2 := p.next g2 k2
    have w2 := w.keep p.wf k2
    have eq2 : H2 qs[i] = some (truK l) := k2 _ _ (ns_dk p.wf.g eq dq) eq
    obtain ⟨p3, rr⟩ := f_upd (u := truK (putU l k)) p2 mq eq2 dq
    refine ⟨qs[i], upd H2 qs[i] (truK (putU l k)), rfl, ?_, ?_⟩
    · rw [← truK_put]
      exact DPut.k (k := Sum.inl (k : Int)) eq2 (by rw [List.length_map]; exact Nat.lt_of_lt_of_le ll (by rw [sizeLine_eq]; decide))
    · refine o σ δ _ _ p3 (w2.put hq (truK_dk _)) (fun b u ns nq hb => ?_) rfl hN
      rw [upd_ne (fun z => nq (by rw [z]; exact List.mem_of_getElem? hq))]
      exact k2 b u ns hb
end
section
variable {W : Wd} {qs : List Addr} {js : List Nat} {os : List HO} {δ : DS} {N : List HO → DS → Prop} {ts tu : TS} {te tl td ty tv : TE} {tt : TT} {g : TG} {Wx : WX} {X : XV → DS → Prop} {R : D → Prop} {B C N0 : DS → Prop}
/-- for i in reversed(range(n)) -/
theorem fk_rev (h : EvD W te δ fun x => ∃ n : Nat, x = .int (n : Int) ∧ n < 100000 ∧ ∃ Inv : Nat → List HO → DS → Prop, Inv 0 os δ ∧ (∀ i d o' δ', (downD ((n : Int) - 1) n)[i]? = some d → Inv i o' δ' → ∃ is, (∀ j ∈ is, j ∈ js) ∧ GD W g d δ' is fun δ2 => FK W ts qs js o' δ2 (Inv (i + 1))) ∧ ∀ o' δ', Inv n o' δ' → N o' δ') :
    FK W (tFor (iRevR (tRg1 te)) g ts) qs js os δ N := fun M σ H E p w o => by
  refine h M σ H p _ fun v x H1 g1 k1 r1 h1 => ?_
  obtain ⟨n, rfl, n1, I, i0, it, ie⟩ := h1
  cases r1
  have p1 := p.next g1 k1
  have w1 := w.keep p.wf k1
  refine ⟨n, rfl, by omega, by omega, by omega, by omega, ?_⟩
  have e : (0 : Int) + ((((n : Int) - 0).toNat : Nat) : Int) - 1 = (n : Int) - 1 := by omega
  have e2 : ((n : Int) - 0).toNat = n := by omega
  rw [e, e2]
  refine ⟨fun i m σ' H' => m = n - i ∧ i ≤ n ∧ ∃ os' δ', Pre W M δ' σ' H' ∧ OwnF M qs os' H' ∧ KeepF W qs H1 H' ∧ wipe σ' js = wipe σ js ∧ I i os' δ', ⟨_, rfl, Nat.zero_le _, os, δ, p1, w1, KeepF.refl H1, rfl, i0⟩, ?_⟩
  rintro i m σ' H' ⟨rfl, hi, os', δ', p', w', k', z', hI⟩
  obtain ⟨s1, s2⟩ := src_down (W := W) (M := M) (H1 := H') ((n : Int) - 1) n M (fun _ z => z) (fun _ x y => absurd x y) i H' (fun _ _ _ _ h => h) p'.wf.g
  by_cases hlt : i < n
  · obtain ⟨d, hd⟩ : ∃ d, (downD ((n : Int) - 1) n)[i]? = some d := ⟨_, List.getElem?_eq_getElem (by rw [downD_length]; exact hlt)⟩
    obtain ⟨hgo, hy⟩ := s2 d hd
    refine .inr ⟨hgo, fun σ2 H2 => ∃ os2 δ2, Pre W M δ2 σ2 H2 ∧ OwnF M qs os2 H2 ∧ KeepF W qs H1 H2 ∧ wipe σ2 js = wipe σ js ∧ I (i + 1) os2 δ2, ?_, fun x H3 y => ?_⟩
    · rintro σ2 H2 ⟨os2, δ2, q1, q2, q3, q4, q5⟩
      exact ⟨_, by omega, rfl, hlt, os2, δ2, q1, q2, q3, q4, q5⟩
    · obtain ⟨g3, k3, r3⟩ := hy x H3 y
      obtain ⟨is, his, hg⟩ := it i d os' δ' hd hI
      refine hg M σ' _ x (p'.next g3 k3) r3 _ fun σ4 δ4 p4 hb hw => ?_
      exact hb M σ4 _ _ p4 (w'.keep p'.wf k3) fun σ5 δ5 os5 H5 p5 w5 k5 z5 n5 => ⟨os5, δ5, p5, w5, (k'.trans k3.toF).trans k5, (z5.trans (hw js his)).trans z', n5⟩
  · have ee : i = n := by omega
    refine .inl ⟨s1 (by rw [downD_length]; exact ee), o σ' δ' os' H' p' w' (k1.toF.trans k') z' (ie _ _ ?_)⟩
    rw [← ee]
    exact hI
/-- for over a list -/
theorem fk_for {tl : TE} (h : EvD W tl δ fun x => ∃ ds, x = .lst ds ∧ ∃ Inv : Nat → List HO → DS → Prop, Inv 0 os δ ∧ (∀ i d o' δ', ds[i]? = some d → Inv i o' δ' → ∃ is, (∀ j ∈ is, j ∈ js) ∧ GD W g d δ' is fun δ2 => FK W ts qs js o' δ2 (Inv (i + 1))) ∧ ∀ o' δ', Inv ds.length o' δ' → N o' δ') :
    FK W (tFor (iSeq W.K tl) g ts) qs js os δ N := fun M σ H E p w o => by
  refine .inl (h M σ H p _ fun v x H1 g1 k1 r1 h1 => ?_)
  obtain ⟨ds, rfl, I, i0, it, ie⟩ := h1
  have p1 := p.next g1 k1
  have w1 := w.keep p.wf k1
  cases r1 with
  | @lst a vs ds na ha hr =>
    have naq : a ∉ qs := fun z => na (w1.mem z).1
    have nsa : ¬ W.S a := fun z => na (p1.wf.sm a z)
    refine ⟨a, rfl, ⟨_, .inl (.inl ha)⟩, ?_⟩
    refine ⟨fun i m σ' H' => m = ds.length - i ∧ i ≤ ds.length ∧ ∃ os' δ', Pre W M δ' σ' H' ∧ OwnF M qs os' H' ∧ KeepF W qs H1 H' ∧ wipe σ' js = wipe σ js ∧ I i os' δ', ⟨_, rfl, Nat.zero_le _, os, δ, p1, w1, KeepF.refl H1, rfl, i0⟩, ?_⟩
    rintro i m σ' H' ⟨rfl, hi, os', δ', p', w', k', z', hI⟩
    have ha' : H' a = some (.lst vs) := k' a _ nsa naq ha
    by_cases hlt : i < ds.length
    · obtain ⟨v, hv, rv⟩ := hr.get (List.getElem?_eq_getElem hlt)
      refine .inr ⟨⟨vs, v, .inl (.inl ha'), hv⟩, fun σ2 H2 => ∃ os2 δ2, Pre W M δ2 σ2 H2 ∧ OwnF M qs os2 H2 ∧ KeepF W qs H1 H2 ∧ wipe σ2 js = wipe σ js ∧ I (i + 1) os2 δ2, ?_, fun x H3 y => ?_⟩
      · rintro σ2 H2 ⟨os2, δ2, q1, q2, q3, q4, q5⟩
        exact ⟨_, by omega, rfl, hlt, os2, δ2, q1, q2, q3, q4, q5⟩
      · obtain ⟨rfl, y2⟩ := y
        have e : vs[i]? = some x := y2 vs (.inl (.inl ha'))
        rw [hv] at e
        cases e
        obtain ⟨is, his, hg⟩ := it i ds[i] os' δ' (List.getElem?_eq_getElem hlt) hI
        refine hg M σ' _ v p' (w1.rep w' p1.wf k' p'.wf.g rv) _ fun σ4 δ4 p4 hb hw => ?_
        exact hb M σ4 _ _ p4 w' fun σ5 δ5 os5 H5 p5 w5 k5 z5 n5 => ⟨os5, δ5, p5, w5, k'.trans k5, (z5.trans (hw js his)).trans z', n5⟩
    · have ee : i = ds.length := by omega
      refine .inl ⟨⟨vs, .inl (.inl ha'), by rw [hr.length]; omega⟩, o σ' δ' os' H' p' w' (k1.toF.trans k') z' (ie _ _ ?_)⟩
      rw [← ee]
      exact hI
/-- for k in d, d another dict, a list's item -/
theorem fk_keys {j k : Nat} {es : List D} {μ : Kv} {δl : DS} (hlk : ∀ (M : Addr → Prop) (σ : L2.St) (H : Hp) (d : Addr) (kvs : List (Key × V)) (od : Obj), Pre W M δ σ H → H d = some (.dK kvs) → Pre W M δl σ (upd H d (.frz od (.dK kvs)))) (hj : δ[j]? = some (some (.lst es))) (he : es[k]? = some (dicD μ)) (ht : TdAt W.K td j k es.length δ)
    (h : ∃ Inv : Nat → List HO → DS → Prop, Inv 0 os δl ∧ (∀ i p o' δ', μ[i]? = some p → Inv i o' δ' → ∃ is, (∀ j ∈ is, j ∈ js) ∧ GD W g (keyD p.1) δ' is fun δ2 => FK W ts qs js o' δ2 (Inv (i + 1))) ∧ ∀ o' δ', Inv μ.length o' δ' → N o' (dropS js δ)) :
    FK W (tLock (tFor (iKeys td) g ts)) qs js os δ N := fun M σ H E p w o => by
  obtain ⟨I, i0, it, ie⟩ := h
  obtain ⟨v0, s0, r0⟩ := p.sl.get j _ hj
  cases r0 with
  | @lst a vs _ na ha hr =>
    obtain ⟨x, hx, rx⟩ := hr.get he
    unfold dicD at rx
    cases rx with
    | @dic d kvs _ _ nd hd ek rs =>
      have dr : DKR W M H kvs μ := DKR.of ek rs
      have dq : d ∉ qs := fun z => nd (w.mem z).1
      have ad : a ≠ d := fun z => by rw [z, hd] at ha; cases ha
      refine ⟨d, _, hd, trivial, fun od => ?_⟩
      have pl := hlk M σ H d kvs od p hd
      have hal : upd H d (.frz od (.dK kvs)) a = some (.lst vs) := by rw [upd_ne ad]; exact ha
      have wl : OwnF M qs os (upd H d (.frz od (.dK kvs))) := ⟨w.nd, w.len, fun i q u h1 h2 => by
        obtain ⟨a1, a2, a3⟩ := w.at' i q u h1 h2
        exact ⟨a1, by rw [upd_ne fun z => dq (by rw [← z]; exact List.mem_of_getElem? h1)]; exact a2, a3⟩⟩
      refine ht σ _ a vs _ p.sl.ints s0 hal hr.length hx _ ⟨d, od, rfl, .inl ⟨kvs, upd_same, ?_⟩⟩
      refine ⟨fun i m σ' H' => m = μ.length - i ∧ i ≤ μ.length ∧ ∃ os' δ', Pre W M δ' σ' H' ∧ OwnF M qs os' H' ∧ KeepF W qs (upd H d (.frz od (.dK kvs))) H' ∧ wipe σ' js = wipe σ js ∧ I i os' δ', ⟨_, rfl, Nat.zero_le _, os, _, pl, wl, KeepF.refl _, rfl, i0⟩, ?_⟩
      rintro i m σ' H' ⟨rfl, hi, os', δ', p', w', k', z', hI⟩
      have nsd : ¬ W.S d := fun z => nd (p.wf.sm d z)
      have hd' : H' d = some (.frz od (.dK kvs)) := k' d _ nsd dq upd_same
      by_cases hlt : i < μ.length
      · have hlk : i < kvs.length := by rw [dr.length]; exact hlt
        refine .inr ⟨⟨hd', hlk⟩, fun σ2 H2 => ∃ os2 δ2, Pre W M δ2 σ2 H2 ∧ OwnF M qs os2 H2 ∧ KeepF W qs (upd H d (.frz od (.dK kvs))) H2 ∧ wipe σ2 js = wipe σ js ∧ I (i + 1) os2 δ2, ?_, fun x H3 y => ?_⟩
        · rintro σ2 H2 ⟨os2, δ2, q1, q2, q3, q4, q5⟩
          exact ⟨_, by omega, rfl, hlt, os2, δ2, q1, q2, q3, q4, q5⟩
        · obtain ⟨rfl, kk, v, e1, rfl⟩ := y
          have ek2 : μ[i]?.map (·.1) = some kk := by
            have := congrArg (fun l : List Key => l[i]?) dr.keys
            simp only [List.getElem?_map, e1, Option.map_some] at this
            exact this.symm
          obtain ⟨p1, ep, epk⟩ : ∃ p1, μ[i]? = some p1 ∧ p1.1 = kk := by
            cases e : μ[i]? with
            | none => rw [e] at ek2; cases ek2
            | some p1 => rw [e] at ek2; exact ⟨p1, rfl, by simpa using ek2⟩
          obtain ⟨is, his, hg⟩ := it i p1 os' δ' ep hI
          have rk : Rep W M H3 (kV kk) (keyD p1.1) := by
            rw [epk]
            cases kk with
            | inl i => exact .int i
            | inr z => exact .str z
          refine hg M σ' H3 _ p' rk _ fun σ4 δ4 p4 hb hw => ?_
          exact hb M σ4 _ _ p4 w' fun σ5 δ5 os5 H5 p5 w5 k5 z5 n5 => ⟨os5, δ5, p5, w5, k'.trans k5, (z5.trans (hw js his)).trans z', n5⟩
      · have ee : i = μ.length := by omega
        subst ee
        have hN := ie os' δ' hI
        refine .inl ⟨⟨hd', by rw [dr.length]; omega⟩, hd', ?_⟩
        have g2 : StOk W (upd H' d (.dK kvs)) := stOk_dk p'.wf.g (.inr ⟨_, rfl⟩) hd'
        have kf : KeepF W qs H (upd H' d (.dK kvs)) := fun b u ns nq hb => by
          by_cases z : b = d
          · subst z
            rw [hd] at hb
            cases hb
            exact upd_same
          · rw [upd_ne z]
            exact k' b u ns nq (by rw [upd_ne z]; exact hb)
        have wf2 : OwnF M qs os' (upd H' d (.dK kvs)) := ⟨w'.nd, w'.len, fun i q u h1 h2 => by
          obtain ⟨a1, a2, a3⟩ := w'.at' i q u h1 h2
          exact ⟨a1, by rw [upd_ne fun z => dq (by rw [← z]; exact List.mem_of_getElem? h1)]; exact a2, a3⟩⟩
        refine o σ' _ os' _ ⟨⟨g2, p.wf.sm, dom_upd p'.wf.dom⟩, by rw [dropS_len]; exact (wipe_len z').trans p.sl.len, fun j' x hx => ?_⟩ wf2 kf z' hN
        obtain ⟨n1, n2⟩ := dropS_get hx
        obtain ⟨v, h3, h4⟩ := p.sl.get j' x n2
        exact ⟨v, (wipe_off z' n1).trans h3, w.rep wf2 p.wf kf g2 h4⟩
/-- a new list of new dicts -/
def EvQ (W : Wd) (te : TE) (δ : DS) (P : List HO → Prop) : Prop := ∀ (M : Addr → Prop) (σ : L2.St) (H : Hp), Pre W M δ σ H → ∀ Q : VK,
  (∀ (a : Addr) (qs : List Addr) (os : List HO) (H' : Hp), StOk W H' → Keep W H H' → H a = none → (∀ q ∈ qs, H q = none) → a ∉ qs → qs.Nodup → H' a = some (.lst (qs.map V.ref)) → qs.length = os.length → (∀ (i : Nat) q o, qs[i]? = some q → os[i]? = some o → H' q = some o ∧ IsDk o) → P os → Q (.ref a) H') → te σ H Q
theorem sd_fam {i : Nat} (js : List Nat) (hi : i ∉ js) (hl : i < δ.length)
    (h : EvQ W te δ fun os => ∀ qs : List Addr, qs.length = os.length → FK W ts qs js os (δ.set i (some (.lst (qs.map D.obj)))) fun os' _ => ∃ F : List (List Nat), os' = F.map truK ∧ SX W Wx tu ((dropS js δ).set i (some (.lst (F.map fun l => dicD (kvB l))))) N0 R B C X) :
    SX W Wx (tSeq (tAsg te (gName i)) (tSeq ts tu)) δ N0 R B C X := fun M0 H0 M σ H E p e o => by
  refine h M σ H p _ fun a qs os H1 g1 k1 na nq aq nd ha ln at' hP => ?_
  have none_M : ∀ b, H b = none → ¬ M b := fun b hb m => by
    obtain ⟨u, hu⟩ := p.wf.dom b m
    rw [hb] at hu
    cases hu
  let Mk : Addr → Prop := fun b => M b ∨ b ∈ qs
  have new : ∀ b, Mk b → ¬ M b → H b = none := fun b x y => by
    rcases x with x | x
    · exact absurd x y
    · exact nq b x
  have wg : Wg W Mk H := ⟨p.wf.g, fun b z => .inl (p.wf.sm b z)⟩
  have ow : OwnF Mk qs os H1 := ⟨nd, ln, fun k q u h1 h2 => ⟨.inr (List.mem_of_getElem? h1), at' k q u h1 h2⟩⟩
  have pk : Pre W Mk (δ.set i (some (.lst (qs.map D.obj)))) (σ.set i (some (.ref a))) H1 := by
    refine ⟨⟨g1, fun b z => .inl (p.wf.sm b z), fun b x => ?_⟩, Slots.set ⟨p.sl.len, fun k x hx => ?_⟩ i (.lst (fun z => z.elim (none_M a na) aq) ha (objs_reps qs))⟩
    · rcases x with x | x
      · exact (p.wf.next g1 k1).dom b x
      · obtain ⟨_, u, hu, _⟩ := ow.mem x
        exact ⟨u, hu⟩
    · obtain ⟨v, h3, h4⟩ := p.sl.get k x hx
      exact ⟨v, h3, (h4.more new).keepG wg k1⟩
  refine hP qs ln Mk (σ.set i (some (.ref a))) H1 _ pk ow fun σ' δ' os' H' p' w' k' z' ⟨F, hF, hN⟩ => ?_
  have kk : Keep W H H' := fun b u ns hb => k' b u ns (fun z => by rw [nq b z] at hb; cases hb) (k1 b u ns hb)
  refine hN M0 H0 M σ' H' E ⟨p.wf.next p'.wf.g kk, ⟨by rw [List.length_set, dropS_len, wipe_len z', List.length_set]; exact p.sl.len, fun k x hx => ?_⟩⟩ (e.next kk) o
  by_cases z : i = k
  · subst z
    rw [List.getElem?_set_self (by rw [dropS_len]; exact hl)] at hx
    cases hx
    refine ⟨.ref a, by rw [wipe_off z' hi, List.getElem?_set_self (by rw [p.sl.len]; exact hl)], ?_⟩
    have nsa : ¬ W.S a := fun z => none_M a na (p.wf.sm a z)
    have ha' : H' a = some (.lst (qs.map V.ref)) := k' a _ nsa aq ha
    subst hF
    have lF : qs.length = F.length := by rw [w'.len, List.length_map]
    refine .lst (none_M a na) ha' (reps_of (by rw [List.length_map, List.length_map, lF]) fun k v d h1 h2 => ?_)
    rw [List.getElem?_map] at h1 h2
    cases e1 : qs[k]? with
    | none => rw [e1] at h1; cases h1
    | some q =>
      cases e2 : F[k]? with
      | none => rw [e2] at h2; cases h2
      | some l =>
        rw [e1] at h1
        rw [e2] at h2
        cases h1
        cases h2
        obtain ⟨a1, a2, _⟩ := w'.at' k q (truK l) e1 (by rw [List.getElem?_map, e2]; rfl)
        exact (dkr_tru l).dic (none_M q (nq q (List.mem_of_getElem? e1))) a2
  · rw [List.getElem?_set_ne z] at hx
    obtain ⟨n1, n2⟩ := dropS_get hx
    obtain ⟨v, h3, h4⟩ := p.sl.get k x n2
    exact ⟨v, by rw [wipe_off z' n1, List.getElem?_set_ne z]; exact h3, h4.keep p.wf kk⟩
end
end PD
namespace PD
open PySem PySem.Spec PyProof.Rows L2
def tListVals (td : TE) : TE := fun σ H Q => td σ H fun x H1 => ∃ (d : Addr) (kvs : List (Key × V)), x = .ref d ∧ H1 d = some (.dK kvs) ∧ ∀ l, H1 l = none → Q (.ref l) (upd H1 l (.lst (kvs.map (·.2))))
theorem kv_snd : ∀ {ps : List (Key × V)} {qs : List (Key × Value)}, KV ps qs → Vals (ps.map (·.2)) (qs.map (·.2))
  | _, _, .nil => .nil
  | _, _, .cons h t => .cons h.2 (kv_snd t)
theorem pe_listVals {X : Cx} {e : Expr} {td : TE} {p apos cpos pos : Pos} (calm : X.calm = true) (glo : Gl X "list") (mgn : X.mg "list" = none) (he : PE X e td) (bu : bootBuiltins "list" = some (.type "list") := by first | rfl | decide +kernel)
    (base : attributeBase e "values" X.env (eval e X.env) = eval e X.env := by rfl) (line : (apos.endLine == cpos.line) = true := by rfl)
    (st : starEach [.Call (.Attribute e "values" apos) [] [] cpos] X.env = (false, eval (.Call (.Attribute e "values" apos) [] [] cpos) X.env) :: starEach [] X.env := by rfl) :
    PE X (.Call (.Name "list" p) [.Call (.Attribute e "values" apos) [] [] cpos] [] pos) (tListVals td) := ⟨fun pins s σ H Q I wish => by
  refine wpAny_Call_Name_kw (ld_blt I glo mgn bu ?_)
  refine PyProof.Rows.callWith_type1 ?_ st rfl
  rw [st]
  show wpAny _ _ (spliced ((false, eval (.Call (.Attribute e "values" apos) [] [] cpos) X.env) :: backTo pos (starEach [] X.env))) _ _ s
  refine Calls.spliced_cons (wpAny_Call_method (T := "dict") (id := "dict.values") base rfl line F.plainAttrs_dict F.slot_dict_values F.type_dict_values ?_)
  refine thn (he.run pins s σ H _ I wish) fun u s1 ⟨x, H1, I1, rx, d, kvs, ex, hd, q⟩ => ?_
  subst ex
  cases rx
  obtain ⟨hz, hsys, qs, kv, dof⟩ := I1.hok d _ hd
  obtain ⟨ep, dat⟩ := dof.dictAt
  have lq : kvs.length = qs.length := Paired.length kv
  have J : Inv X pins σ H1 { s1 with heap := s1.heap.push { cls := .type "dict_values", data := .fields #[.ref d] } } := I1.kept (t' := s1.toks) fun b ob g => Heap.get?_push_of_some _ g
  refine ⟨dof.typeIs, dof.mapOf.noDict, ?_⟩
  show wpAny _ _ (callWith cpos (.builtin "dict.values") [.ref d] [] []) _ X.xe s1
  refine method_meetsIn F.slot_dict_values F.entry_dict_values rfl (PySem.evalArgs_none ⟨rfl, dof.typeIs, F.args_dict_values_1 _, _, meets_dict_values (mixKind X.prog X.w) d hsys, ⟨qs, dof⟩, ?_⟩)
  refine Calls.spliced_nil ?_
  refine PySem.W.kdl_call (PySem.W.kdl_values (knd := mixKind X.prog X.w) (kvs := qs) (ep := ep)) (I1.ok.hd calm) ⟨⟨_, Heap.get?_push_size _ rfl, rfl, rfl⟩, dat.push _⟩ (by omega) fun h' tk acc c hk hS it => ?_
  have ea : acc.toList = qs.map (·.2) := PySem.W.kdl_vals_eq acc.toList (by rw [Array.length_toList]; exact it.1) fun j v e => it.2 j v (by rw [← Array.getElem?_toList]; exact e)
  refine ⟨.ref _, _, J.laid (t' := tk) (o := .lst (kvs.map (·.2))) hk (Nat.le_refl _) ⟨by rw [List.length_map]; exact hz, acc.toList, c, by rw [ea]; exact kv_snd kv, by rw [Array.toArray_toList]; exact hS⟩, rfl, q _ (J.hok.fresh (Nat.le_refl _))⟩⟩
theorem ev_listVals {W : Wd} {δ : DS} {td : TE} {P : D → Prop} (h : EvD W td δ fun x => ∃ κ, x = dicD κ ∧ P (.lst (κ.map (·.2)))) : EvD W (tListVals td) δ P := fun M σ H p Q q => h M σ H p _ fun v x H1 g1 k1 r1 ⟨κ, e, hP⟩ => by
  subst e
  have wf := p.wf.next g1 k1
  unfold dicD at r1
  cases r1 with
  | @dic a kvs _ _ n ha ek rs =>
    refine ⟨a, kvs, rfl, ha, fun l hl => ?_⟩
    have k2 : Keep W H1 (upd H1 l (.lst (kvs.map (·.2)))) := Keep.new hl
    refine q _ _ _ (g1.new hl) (k1.trans k2) (.lst (fun m => ?_) upd_same ?_) hP
    · obtain ⟨o, ho⟩ := wf.dom l m
      rw [hl] at ho
      cases ho
    · exact reps_of rs.length fun i v d h1 h2 => by
        obtain ⟨v', h3, h4⟩ := rs.get h2
        rw [h1] at h3
        cases h3
        exact h4.keep wf k2
abbrev nnD (p : Nat × Nat) : D := .tup [.int ((p.1 : Nat) : Int), .int ((p.2 : Nat) : Int)]
abbrev nnsD (l : List (Nat × Nat)) : D := .lst (l.map nnD)
def leP (p q : Nat × Nat) : Prop := p.1 < q.1 ∨ (p.1 = q.1 ∧ p.2 ≤ q.2)
theorem leP_anti {p q : Nat × Nat} (h1 : leP p q) (h2 : leP q p) : p = q := by
  unfold leP at h1 h2
  have : p.1 = q.1 ∧ p.2 = q.2 := by omega
  exact Prod.ext this.1 this.2
theorem leP_one : ∀ {l m : List (Nat × Nat)}, l.Perm m → l.Pairwise leP → m.Pairwise leP → l = m := fun {l m} p h1 h2 => List.Perm.eq_of_pairwise (fun a b _ _ x y => leP_anti x y) h1 h2 p
/-- a pair that stands at an address -/
def PrAt (K : PySem.W.Frag) (H : Hp) (a : Addr) (p : Nat × Nat) : Prop := SqT K H a [.int ((p.1 : Nat) : Int), .int ((p.2 : Nat) : Int)]
theorem pr_isP {X : Cx} {pins : List (Addr × Obj)} {σ : L2.St} {H : Hp} {s : Shared} (I : Inv X pins σ H s) {a : Addr} {p : Nat × Nat} (h : PrAt X.K H a p) : Srt.IsPair s.heap (.ref a) ((p.1 : Nat) : Int) ((p.2 : Nat) : Int) := by
  obtain ⟨its, r, ⟨o, ho, hc, n, hd⟩, _⟩ := I.tuple h
  obtain ⟨u1, u2, rfl, ri, rj⟩ := vals2 r
  obtain ⟨t1, rfl⟩ := ri
  obtain ⟨t2, rfl⟩ := rj
  exact ⟨a, o, t1, t2, n, rfl, ho, hc, hd⟩
theorem isP_one {h : Heap} {v : Value} {i j i' j' : Int} (a : Srt.IsPair h v i j) (b : Srt.IsPair h v i' j') : i = i' ∧ j = j' := by
  obtain ⟨a1, o1, t1, u1, n1, e1, g1, _, d1⟩ := a
  obtain ⟨a2, o2, t2, u2, n2, e2, g2, _, d2⟩ := b
  rw [e1] at e2
  cases e2
  rw [g1] at g2
  cases g2
  rw [d1] at d2
  injection d2 with d2
  have := congrArg Array.toList d2
  simp at this
  exact ⟨this.1.1, this.2.1⟩
theorem perm_of_map {α β : Type} (f : α → β) {l m : List β} (p : l.Perm m) : ∀ L : List α, m = L.map f → ∃ L' : List α, L'.Perm L ∧ l = L'.map f := by
  induction p with
  | nil =>
    intro L e
    cases L with
    | nil => exact ⟨[], .refl _, rfl⟩
    | cons _ _ => cases e
  | cons x p ih =>
    intro L e
    cases L with
    | nil => cases e
    | cons a L =>
      rw [List.map_cons] at e
      injection e with e1 e2
      obtain ⟨L', h1, h2⟩ := ih L e2
      exact ⟨a :: L', h1.cons _, by rw [List.map_cons, h2, e1]⟩
  | swap x y l =>
    intro L e
    cases L with
    | nil => cases e
    | cons a L =>
      cases L with
      | nil => cases e
      | cons b L =>
        rw [List.map_cons, List.map_cons] at e
        injection e with e1 e2
        injection e2 with e2 e3
        exact ⟨b :: a :: L, .swap _ _ _, by rw [List.map_cons, List.map_cons, e1, e2, e3]⟩
  | trans p1 p2 ih1 ih2 =>
    intro L e
    obtain ⟨L1, h1, h2⟩ := ih2 L e
    obtain ⟨L2, h3, h4⟩ := ih1 L1 h2
    exact ⟨L2, h3.trans h1, h4⟩
abbrev AP := Addr × (Nat × Nat)
abbrev reA (x : AP) : Value := .ref x.1
open Classical in
noncomputable def keyP (h : Heap) (v : Value) : Int × Int := if z : ∃ p : Int × Int, Srt.IsPair h v p.1 p.2 then z.choose else (0, 0)
theorem keyP_at {h : Heap} {v : Value} {i j : Int} (q : Srt.IsPair h v i j) : keyP h v = (i, j) := by
  have z : ∃ p : Int × Int, Srt.IsPair h v p.1 p.2 := ⟨(i, j), q⟩
  unfold keyP
  rw [dif_pos z]
  have := isP_one z.choose_spec q
  exact Prod.ext this.1 this.2
theorem keyP_is {h : Heap} {v : Value} {i j : Int} (q : Srt.IsPair h v i j) : Srt.IsPair h v (keyP h v).1 (keyP h v).2 := by
  rw [keyP_at q]
  exact q
/-- what sorting leaves -/
theorem sort_out {h : Heap} {L : List AP} {out : List Value} (hL : ∀ x ∈ L, Srt.IsPair h (reA x) ((x.2.1 : Nat) : Int) ((x.2.2 : Nat) : Int)) (so : SrtO.Srtd (fun v u => SrtO.lexB (keyP h v) (keyP h u)) out) (pe : out.Perm (L.map reA)) :
    ∃ L' : List AP, L'.Perm L ∧ out = L'.map reA ∧ L'.Pairwise fun x y => leP x.2 y.2 := by
  obtain ⟨L', h1, h2⟩ := perm_of_map reA pe L rfl
  refine ⟨L', h1, h2, ?_⟩
  rw [h2] at so
  have so := List.pairwise_map.mp so
  refine List.Pairwise.imp_of_mem (fun {x y} hx hy z => ?_) so
  have z : SrtO.lexB (keyP h (reA y)) (keyP h (reA x)) = false := z
  rw [keyP_at (hL x (h1.mem_iff.mp hx)), keyP_at (hL y (h1.mem_iff.mp hy))] at z
  have := SrtO.lexB_no.mp z
  unfold leP
  simp only at this
  omega
theorem vals_reA : ∀ L : List AP, Vals (L.map fun x => V.ref x.1) (L.map reA)
  | [] => .nil
  | _ :: L => .cons rfl (vals_reA L)
theorem refs_reA : ∀ {L : List AP} {us : List Value}, Vals (L.map fun x => V.ref x.1) us → us = L.map reA
  | [], _, .nil => rfl
  | x :: L, _, .cons r t => by
    cases r
    rw [refs_reA t]
    rfl
/-- sorted(xs), xs a list of pairs -/
def rSortPr (K : PySem.W.Frag) : List V → Hp → VK → Prop := fun vs H Q => ∃ (a : Addr) (L : List AP), vs = [.ref a] ∧ SqL K H a (L.map fun x => V.ref x.1) ∧ (∀ x ∈ L, PrAt K H x.1 x.2) ∧
  ∀ (L' : List AP) (l : Addr), L'.Perm L → (L'.Pairwise fun x y => leP x.2 y.2) → H l = none → Q (.ref l) (upd H l (.lst (L'.map fun x => V.ref x.1)))
theorem cr_sortedPK {X : Cx} {K : PySem.W.Frag} (h : X.K = K) : CallR X (.builtin "sorted") (rSortPr K) := by
  subst h
  intro pins s σ H vs us Q I r wish
  obtain ⟨a, L, rfl, hs, hL, q⟩ := wish
  obtain ⟨its, rv, hl, hz⟩ := I.list hs
  rw [Vals.ref1 r]
  have ei := refs_reA rv
  have hP : ∀ x ∈ L, Srt.IsPair s.heap (reA x) ((x.2.1 : Nat) : Int) ((x.2.2 : Nat) : Int) := fun x hx => pr_isP I (hL x hx)
  refine SrtO.sorted_pairsO (k := keyP s.heap) hl.isList (by rw [← rv.length]; exact hz) (fun v hv => ?_) fun h' d out h1 h2 kp hd hn => ?_
  · rw [ei] at hv
    obtain ⟨x, hx, rfl⟩ := List.mem_map.mp hv
    exact keyP_is (hP x hx)
  · obtain ⟨L', p1, rfl, p2⟩ := sort_out hP h1 (by rw [← ei]; exact h2.perm)
    obtain ⟨n, hn⟩ := hn
    refine ⟨.ref d, upd H d (.lst (L'.map fun x => V.ref x.1)), I.laid (t' := s.toks) kp hd ⟨?_, _, n, vals_reA L', hn⟩, rfl, q L' d p1 p2 (I.hok.fresh hd)⟩
    rw [List.length_map, p1.length_eq, ← List.length_map (f := fun x : AP => V.ref x.1)]
    exact hz
/-- sorted(d), d a dict with pairs for keys -/
def rSortDT : List V → Hp → VK → Prop := fun vs H Q => ∃ (a : Addr) (l : List (Nat × Nat)), vs = [.ref a] ∧ H a = some (truT l) ∧
  ∀ (L' : List AP) (t : Addr), (L'.map (·.2)).Perm l → (L'.Pairwise fun x y => leP x.2 y.2) → (∀ x ∈ L', H x.1 = some (.tup [.int ((x.2.1 : Nat) : Int), .int ((x.2.2 : Nat) : Int)])) → H t = none → Q (.ref t) (upd H t (.lst (L'.map fun x => V.ref x.1)))
theorem kt_pairs {H : Hp} : ∀ {l : List (Nat × Nat)} {ks : List (List Key × Addr × Value)}, KT H (l.map fun p => ([(Sum.inl ((p.1 : Nat) : Int) : Key), Sum.inl ((p.2 : Nat) : Int)], V.bl true)) ks → ∃ L : List AP, L.map (·.2) = l ∧ ks.map (fun k => k.2.1) = L.map (·.1) ∧ ∀ x ∈ L, H x.1 = some (.tup [.int ((x.2.1 : Nat) : Int), .int ((x.2.2 : Nat) : Int)])
  | [], _, .nil => ⟨[], rfl, rfl, fun x h => by cases h⟩
  | p :: l, _, .cons h t => by
    obtain ⟨L, h1, h2, h3⟩ := kt_pairs t
    refine ⟨(_, p) :: L, by rw [List.map_cons, h1], by rw [List.map_cons, List.map_cons, h2], fun x hx => ?_⟩
    rcases List.mem_cons.mp hx with rfl | hx
    · exact h.2.1
    · exact h3 x hx
theorem cr_sortedTK {X : Cx} {K : PySem.W.Frag} (h : X.K = K) (calm : X.calm = true) : CallR X (.builtin "sorted") rSortDT := by
  subst h
  intro pins s σ H vs us Q I r wish
  obtain ⟨a, l, rfl, ha, q⟩ := wish
  rw [Vals.ref1 r]
  unfold truT at ha
  obtain ⟨z, hs, ks, pr, o, es, ep, ho, hx, hdt, he, hn⟩ := (show ObjOk X.prog X.w H s.heap a (.dT _) from I.hok a _ ha)
  obtain ⟨L, hL1, hL2, hL3⟩ := kt_pairs pr
  have les : es.size = ks.length := size_of_entries he
  have lL : L.length = ks.length := by
    have := congrArg List.length hL2
    rwa [List.length_map, List.length_map, eq_comm] at this
  have lz : ks.length ≤ sizeLine := by rw [← Paired.length pr]; exact z
  refine Calls.call_function_entry PyProof.Rows.kind_sorted PyProof.Rows.plain_sorted PyProof.Rows.entry_sorted (PyProof.Rows.args_sorted1 _) ?_
  unfold Builtin.«sorted»
  refine wpAny_bind (m := checkCount "sorted" 1 1 _) (wpAny_pure ?_)
  refine wpAny_bind (PySem.W.kdu_collect (A := X.A.in1) (kdl_raw hs hx hdt) (I.ok.hd calm) ho (by omega) fun h' tk acc hk it => ?_)
  have ea : acc.toList = L.map reA := by
    have e0 : acc.toList = ks.map fun x => Value.ref x.2.1 := by
      apply List.ext_getElem?
      intro j
      rw [List.getElem?_map]
      cases hj : acc.toList[j]? with
      | none =>
        have h1 := List.getElem?_eq_none_iff.mp hj
        have h2 : acc.toList.length = ks.length := by rw [Array.length_toList, it.1]; exact les
        rw [List.getElem?_eq_none (by omega)]
        rfl
      | some v =>
        obtain ⟨en, hen, hv⟩ := it.2 j v (by rw [← Array.getElem?_toList]; exact hj)
        have qe := entry_at he j
        rw [hen] at qe
        cases hb : ks[j]? with
        | none =>
          rw [hb] at qe
          cases (show some en = none from qe)
        | some b =>
          rw [hb] at qe
          have e2 : en = entryOfKey (tupleKind (mixKind X.prog X.w)) b := Option.some.inj qe
          rw [hv, e2]
          rfl
    rw [e0, show (ks.map fun x => Value.ref x.2.1) = (ks.map fun k => k.2.1).map Value.ref by rw [List.map_map]; rfl, hL2, List.map_map]
    rfl
  have al : acc.toList.length ≤ sizeLine := by rw [ea, List.length_map, lL]; exact lz
  have J : Inv X pins σ H { s with heap := h', toks := tk } := I.kept hk
  have hP : ∀ x ∈ L, Srt.IsPair h' (reA x) ((x.2.1 : Nat) : Int) ((x.2.2 : Nat) : Int) := fun x hx => pr_isP J (.inl (.inl (hL3 x hx)))
  refine wpAny_bind (wpAny_newList ?_ al)
  have hoL : (h'.push (seqObj "list" acc.toList.toArray 0)).get? h'.objs.size = some (seqObj "list" acc.toList.toArray 0) := Heap.get?_push_size _ rfl
  show wpAny _ _ _ _ _ { s with heap := h'.push (seqObj "list" acc.toList.toArray 0), toks := tk }
  have old : ∀ b o, h'.get? b = some o → b ≠ h'.objs.size ∧ (h'.push (seqObj "list" acc.toList.toArray 0)).get? b = some o := fun b o e => ⟨Nat.ne_of_lt (Heap.lt_size e), Heap.get?_push_of_some _ e⟩
  refine wpAny_bind (wpAny_holding (wpAny_call_entry PyProof.Rows.slot_list_sort ⟨_, hoL, rfl⟩ PyProof.Rows.entry_list_sort
    (SrtO.list_sort_ord (s := { s with heap := h'.push (seqObj "list" acc.toList.toArray 0), toks := tk }) (SrtO.swo_lex (keyP h')) hoL al (fun h2 => ?_) fun out g1 g2 => ⟨_, rfl, ?_⟩) (PyProof.Rows.args_list_sort _)))
  · refine SrtO.pairs_sortableO (by omega) (fun v hv => ?_) fun o e => ?_
    · rw [ea] at hv
      obtain ⟨x, hx, rfl⟩ := List.mem_map.mp hv
      exact (keyP_is (hP x hx)).keeps fun b o e _ => (old b o e).2
    · have e' : some o = some (seqObj "list" acc.toList.toArray 0) := e.symm.trans hoL
      cases e'
      intro c
      exact absurd (Value.type.inj c) (by decide)
  · obtain ⟨L', p1, rfl, p2⟩ := sort_out hP g1 (by rw [← ea]; exact g2.perm)
    obtain ⟨e', he'⟩ := PyProof.Rows.sortedHeap_at (vs := acc.toList) (out := (L'.map reA).toArray) hoL
    refine wpAny_pure ⟨_, rfl, .ref h'.objs.size, upd H h'.objs.size (.lst (L'.map fun x => V.ref x.1)), J.laid (t' := tk) (fun b u e => ?_) (Nat.le_refl _) ⟨?_, _, e', vals_reA L', he'⟩, rfl, q L' _ ?_ p2 (fun x hx => hL3 x (p1.mem_iff.mp hx)) (J.hok.fresh (Nat.le_refl _))⟩
    · have hb : b < h'.objs.size := Heap.lt_size e
      rw [PyProof.Rows.sortedHeap_old (Nat.ne_of_lt hb) (by rw [size_push']; exact Nat.lt_succ_of_lt hb)]
      exact (old b u e).2
    · rw [List.length_map, p1.length_eq, lL]
      exact lz
    · rw [← hL1]
      exact p1.map _
end PD
namespace PD
open PySem PySem.Spec PyProof.Rows L2
abbrev AT := Addr × List Int
/-- few unlike ones -/
def Few (ks : List AT) : Prop := ∀ l : List (List Int), l.Nodup → (∀ x ∈ l, ∃ p ∈ ks, p.2 = x) → l.length ≤ 62
section
variable {P : Program} {w : World} {A : Around} {E : Value → Shared → Prop}
/-- what stands when i items are in -/
structure InSet (P : Program) (w : World) (h0 : Heap) (S : Addr) (ks : List AT) (i : Nat) (h : Heap) : Prop where
  old : ∀ b o, h0.get? b = some o → h.get? b = some o
  tab : ∃ L es ep t, SetTR P w h S L es ep t ∧ Got ks i L
theorem InSet.on {h0 h h' : Heap} {S : Addr} {ks : List AT} {i : Nat} (z : InSet P w h0 S ks i h) (hk : ∀ p ∈ ks, IsT P w h0 p.2 p.1) (a : ∀ o, h.get? S = some o → h'.get? S = some o) (b : ∀ b o, h0.get? b = some o → h'.get? b = some o) : InSet P w h0 S ks i h' := by
  obtain ⟨L, es, ep, t, r, g⟩ := z.tab
  exact ⟨b, L, es, ep, t, r.keep a fun p hp => isT_keep (hk p (List.mem_of_mem_take (g.sub p hp))) b, g⟩
theorem InSet.few {h0 h : Heap} {S : Addr} {ks : List AT} {i : Nat} {L : List AT} {es : Array (Int × Value)} {ep : Nat} {t : SetTable} (f : Few ks) (r : SetTR P w h S L es ep t) (g : Got ks i L) : L.length ≤ 62 := by
  have := f (L.map (·.2)) r.nd fun x hx => by
    obtain ⟨p, hp, e⟩ := List.mem_map.mp hx
    exact ⟨p, List.mem_of_mem_take (g.sub p hp), e⟩
  rwa [List.length_map] at this
/-- one more item -/
theorem InSet.add {s : Shared} {h0 : Heap} {S : Addr} {ks : List AT} {i : Nat} {p : AT} (z : InSet P w h0 S ks i s.heap) (f : Few ks) (hk : ∀ p ∈ ks, IsT P w h0 p.2 p.1) (no : h0.get? S = none) (hp : ks[i]? = some p) (hu : A.units < cLine) {Q : Bool → Shared → Prop}
    (q : ∀ b h' tk, s.toks ≤ tk → Heap.SameBut S s.heap h' → InSet P w h0 S ks (i + 1) h' → Q b { s with heap := h', toks := tk }) : wpAny (model P w) A (setAdd S (.ref p.1)) Q E s := by
  obtain ⟨L, es, ep, t, r, g⟩ := z.tab
  have l62 := InSet.few (h0 := h0) f r g
  have xt : IsT P w s.heap p.2 p.1 := isT_keep (hk p (List.mem_of_getElem? hp)) z.old
  unfold setAdd
  refine wpAny_holding (wpAny_bind (wpAny_pyHash_tuple hu xt ?_))
  refine add_at (s := { s with toks := s.toks + (p.2.length + 1) }) r xt hu (by omega) fun b h' L' es' ep' t' sb r' in_ out_ => ?_
  refine q b h' _ (Nat.le_add_right _ _) sb ⟨fun c o e => (sb.2 c fun y => ?_).trans (z.old c o e), L', es', ep', t', r', ?_⟩
  · rw [y, no] at e
    cases e
  · by_cases c : p.2 ∈ L.map (·.2)
    · rw [in_ c]
      exact g.same hp c
    · exact g.more hp (out_ c)
theorem set_turns {I : Addr} {fp wr : List Addr} {G : Array GenState → Array GenState → Prop} {n : Nat} {Pv : Nat → Value → Prop} {St : Nat → Shared → Prop} {R : Result → Shared → Prop} (W : WalksS P w A.in1 I fp wr G n Pv St) {h0 : Heap} {S : Addr} {ks : List AT}
    (off : S ∉ fp) (f : Few ks) (hk : ∀ p ∈ ks, IsT P w h0 p.2 p.1) (no : h0.get? S = none) (nw : ∀ b ∈ wr, h0.get? b = none) (hv : ∀ i v, Pv i v → ∃ p, ks[i]? = some p ∧ v = .ref p.1) (hu : A.in1.units < cLine) :
    ∀ (k i : Nat) (s : Shared), n = i + k → St i s → InSet P w h0 S ks i s.heap → (∀ s', Moved (S :: wr) G s s' → InSet P w h0 S ks n s'.heap → R (.ok (.ret .none)) s') → codeAny (model P w) A (.builtin "set.update.loop" ⟨[.ref S, .ref I], []⟩) R s := by
  have sw : S ∉ wr := fun z => off (W.sub _ z)
  have up : ∀ b ∈ wr, b ∈ S :: wr := fun b => List.mem_cons_of_mem _
  have on : ∀ {i : Nat} {s s' : Shared}, Moved wr G s s' → InSet P w h0 S ks i s.heap → InSet P w h0 S ks i s'.heap := fun mv z => z.on hk (fun o e => mv.heap S o sw e) fun b o e => mv.heap b o (fun y => by rw [nw b y] at e; cases e) (z.old b o e)
  intro k
  induction k with
  | zero =>
    intro i s en st z fin
    obtain rfl : n = i := by omega
    refine codeAny_builtin F.entry_set_update_loop ?_
    rw [Around.under_plainId F.plain_set_update_loop _]
    show wpAny _ A.in1 (pyNext (.ref I) >>= _) _ _ s
    exact wpAny_bind (W.done s _ _ st fun s' mv => wpAny_pure (fin s' (mv.mono up) (on mv z)))
  | succ k ih =>
    intro i s en st z fin
    refine codeAny_builtin F.entry_set_update_loop ?_
    rw [Around.under_plainId F.plain_set_update_loop _]
    show wpAny _ A.in1 (pyNext (.ref I) >>= _) _ _ s
    refine wpAny_bind (W.item i s _ _ (by omega) st fun v s1 hP st1 mv => ?_)
    obtain ⟨p, hp, rfl⟩ := hv i v hP
    show wpAny _ A.in1 (holding [Value.ref p.1] (setAdd S (.ref p.1)) >>= _) _ _ s1
    refine wpAny_bind (wpAny_holding ((on mv z).add f hk no hp hu fun b h2 tk tl sb z2 => ?_))
    have back : ∀ c o, c ≠ S → s1.heap.get? c = some o → h2.get? c = some o := fun c o y e => (sb.2 c y).trans e
    refine wpAny_pure ⟨plainId_quiet F.plain_set_update_loop _, ih (i + 1) _ (by omega) (W.frame _ s1 _ _ st1 tl fun c hc o e => back c o (fun y => off (y ▸ hc)) e) z2 fun s3 mv3 z3 => fin s3 ?_ z3⟩
    exact Moved.trans W.gtrans ((mv.mono up).then_heap tl fun c o hc e => back c o (fun y => hc (y ▸ List.mem_cons_self)) e) mv3
set_option maxHeartbeats 3200000 in
/-- set(xs), xs a list of tuples of whole numbers, few of them unlike -/
theorem call_setF {s : Shared} {l : Addr} {items : Array Value} (ks : List AT) {Q : Value → Shared → Prop} (hh : A.handled = none) (hl : s.heap.IsList l items) (hit : items.toList = ks.map fun p => Value.ref p.1)
    (hk : ∀ p ∈ ks, IsT P w s.heap p.2 p.1) (f : Few ks) (hu : A.units + 3 < cLine)
    (q : ∀ (h' : Heap) (tk : Nat), InSet P w s.heap s.heap.objs.size ks ks.length h' → Q (.ref s.heap.objs.size) { s with heap := h', toks := tk }) : wpAny (model P w) A (call (.type "set") [.ref l]) Q E s := by
  have lk : items.size = ks.length := by
    have := congrArg List.length hit
    rwa [Array.length_toList, List.length_map] at this
  obtain ⟨c, tl, hmro⟩ := F.called_set.mro
  have m1 := F.called_set.made
  have m2 := F.called_set.sub
  refine wpAny_call (codeAny_of_tree ?_)
  show wpAny _ _ (callAny (.type "set") _) _ _ _
  refine wpAny_pure ⟨Code.quiet_builtin _ (by decide +kernel), codeAny_builtin F.entry_type_call ?_⟩
  rw [Around.under_plain (weight_type_call_type "set" [.ref l] []) rfl]
  have h1 := F.called_set.notType
  have h2 := F.called_set.canCreate
  have hct := F.typeCall_set_1 (.ref l)
  repeat (any_goals (first | assumption | wp_step))
  refine codeAny_mono (code_set_led1 (.ref l) (E := E) (Q₁ := fun obj s₁ => obj = .ref s.heap.objs.size ∧ s₁ = { s with heap := s.heap.push { cls := .type "set", dict := none, data := .set #[] 0 (.fresh 0 0 (!w.params.followText "set-order")) } }) ⟨rfl, rfl⟩) fun r s₁ hr => ?_
  match r, hr with
  | .error e, hr => exact hr
  | .ok (.ret obj), hr =>
    obtain ⟨rfl, rfl⟩ := hr
    generalize hz : (s.heap.push { cls := .type "set", dict := none, data := .set #[] 0 (.fresh 0 0 (!w.params.followText "set-order")) }) = hp
    have hS : hp.get? s.heap.objs.size = some { cls := .type "set", dict := none, data := .set #[] 0 (.fresh 0 0 (!w.params.followText "set-order")) } := hz ▸ Heap.get?_push_size _ rfl
    have hN : hp.objs.size = s.heap.objs.size + 1 := hz ▸ Heap.size_push ..
    have hO : ∀ b o, s.heap.get? b = some o → hp.get? b = some o := fun b o e => hz ▸ Heap.get?_push_of_some _ e
    have hT : Shared.TypeIs { s with heap := hp } (.ref s.heap.objs.size) "set" := ⟨_, hS, rfl⟩
    have hli := F.called_set.init.lookup
    have hbi := F.called_set.init.bind (.ref s.heap.objs.size)
    repeat (any_goals (first | assumption | wp_step))
    refine codeAny_mono (codeAny_call_builtin (R := wants (fun r s₂ => r = .none ∧ ∃ h' tk, s₂ = { s with heap := h', toks := tk } ∧ InSet P w s.heap s.heap.objs.size ks ks.length h') E) F.called_set.init.plain F.entry_set_init (check_set_init_1 hT ?_)) fun r₂ s₂ hr₂ => ?_
    · obtain ⟨⟨oc, od, ox, os⟩, hol, hcl, nl, hdl⟩ := hl
      simp only at hcl hdl
      subst hcl hdl
      have hol' := hO _ _ hol
      have k1 := F.sub_list_set
      have k2 := F.sub_list_frozenset
      have k3 : (Value.type "list" == Value.type "dict") = false := by decide
      have hl1 : hp.IsList l items := ⟨_, hol', rfl, nl, rfl⟩
      have lS : l < s.heap.objs.size := Heap.lt_size hol
      unfold Builtin.«set.__init__» noKeywords Builtin.Frozenset.updateFrom
      generalize hPI : pyIter = PI
      wp_walk
      subst hPI
      refine wpAny_pyIter_list hl1 (wpAny_bind (wpAny_runValue ?_))
      have h3 : A.in1.in1.in1.handled = none := by simp [hh]
      have none_of : ∀ b, s.heap.objs.size ≤ b → s.heap.get? b = none := fun b hb => by
        cases e : s.heap.get? b with
        | none => rfl
        | some o => exact absurd (Heap.lt_size e) (Nat.not_lt.mpr hb)
      have hne : l ≠ hp.objs.size := by rw [hN]; exact Nat.ne_of_lt (Nat.lt_succ_of_lt lS)
      have hoff : s.heap.objs.size ∉ [hp.objs.size, l] := by
        simp only [List.mem_cons, List.not_mem_nil, or_false, not_or]
        exact ⟨by rw [hN]; exact Nat.ne_of_lt (Nat.lt_succ_self _), Nat.ne_of_gt lS⟩
      refine set_turns ((Walks.list h3 _ l hne items).toS) hoff f hk (none_of _ (Nat.le_refl _)) (fun b hb => none_of b (by rw [List.mem_singleton.mp hb, hN]; exact Nat.le_succ _)) (fun i v hv => ?_) hu items.size 0 _ (Nat.zero_add _).symm ⟨⟨_, Heap.get?_push_size _ rfl, rfl, rfl⟩, (hl1.push _)⟩ ⟨fun b o e => Heap.get?_push_of_some _ (hO b o e), ?_⟩ fun s' mv z => ?_
      · have e : items.toList[i]? = some v := by rw [Array.getElem?_toList]; exact hv
        rw [hit, List.getElem?_map] at e
        obtain ⟨p, hp, e⟩ := Option.map_eq_some_iff.mp e
        exact ⟨p, hp, e.symm⟩
      · exact ⟨[], #[], 0, _, setTR_fresh (Heap.get?_push_of_some _ hS), Got.zero ks⟩
      · obtain ⟨h', g2, d', tk', os'⟩ := s'
        have eg : g2 = s.gens := mv.gens
        have ed : d' = s.drawn := mv.drawn
        have eo : os' = s.os := mv.os
        subst eg ed eo
        rw [lk] at z
        show wpAny _ _ _ _ _ _
        exact wpAny_pure (wpAny_pure ⟨rfl, h', tk', rfl, z⟩)
    · match r₂, hr₂ with
      | .error e, hr₂ => exact hr₂
      | .ok (.ret r), hr₂ =>
        obtain ⟨rfl, h', tk, rfl, z⟩ := hr₂
        repeat (any_goals (first | assumption | wp_step))
        exact q _ _ z
end
end PD
namespace PD
open PySem PySem.Spec PyProof.Rows L2
def rSetF (K : PySem.W.Frag) (P : Program) (w : World) : List V → Hp → VK → Prop := fun xs H Q => ∃ (l : Addr) (ks : List AT), xs = [V.ref l] ∧ SqL K H l (ks.map fun p => V.ref p.1) ∧ (∀ p ∈ ks, SqT K H p.1 (p.2.map V.int)) ∧ Few ks ∧
  ∀ a L, H a = none → (∀ p ∈ L, p ∈ ks) → (∀ p ∈ ks, p.2 ∈ L.map (·.2)) → Q (.ref a) (upd H a (SetTO P w a L))
theorem cr_setF {X : Cx} (calm : X.calm = true) (hu : X.A.units + 64 < cLine) : CallR X (.type "set") (rSetF X.K X.prog X.w) := fun pins s σ H xs us Q I r wish => by
  obtain ⟨l, ks, rfl, hl, hk, hf, q⟩ := wish
  rw [Vals.ref1 r]
  obtain ⟨its, rv, isx, _⟩ := I.list hl
  refine call_setF (P := X.prog) (w := X.w) ks (I.ok.hd calm) isx.isList (by simpa using refs_of_vals rv) (fun p hp => Inv.isT I (hk p hp)) hf (by omega) fun h' tk z => ?_
  obtain ⟨L, es, ep, t, R, g⟩ := z.tab
  exact ⟨.ref _, _, I.laid (t' := tk) z.old (Nat.le_refl _) (setTO_new R.t0), rfl, q _ L (I.hok.fresh (Nat.le_refl _)) (fun p hp => List.mem_of_mem_take (g.sub p hp)) fun p hp => g.all p (by rw [List.take_length]; exact hp)⟩
section
variable {W : Wd} {M : Addr → Prop} {H H' : Hp}
theorem reps_nn : ∀ {vs : List V} {l : List (Nat × Nat)}, Reps W M H vs (l.map nnD) → ∃ L : List AP, vs = (L.map fun x => V.ref x.1) ∧ L.map (·.2) = l ∧ ∀ x ∈ L, PrAt W.K H x.1 x.2
  | _, [], .nil => ⟨[], rfl, rfl, fun x h => by cases h⟩
  | _, p :: l, .cons r t => by
    obtain ⟨L, h1, h2, h3⟩ := reps_nn t
    cases r with
    | @tup a us _ hs hr =>
      cases hr with
      | cons a1 a2 =>
        cases a2 with
        | cons a3 a4 =>
          cases a4
          cases a1
          cases a3
          refine ⟨(a, p) :: L, by rw [List.map_cons, h1], by rw [List.map_cons, h2], fun x hx => ?_⟩
          rcases List.mem_cons.mp hx with rfl | hx
          · exact hs
          · exact h3 x hx
theorem nn_reps : ∀ {L : List AP}, (∀ x ∈ L, PrAt W.K H x.1 x.2) → Reps W M H (L.map fun x => V.ref x.1) ((L.map (·.2)).map nnD)
  | [], _ => .nil
  | x :: L, h => .cons (.tup (h x List.mem_cons_self) (.cons (.int _) (.cons (.int _) .nil))) (nn_reps fun y hy => h y (List.mem_cons_of_mem _ hy))
theorem prAt_keep {a : Addr} {p : Nat × Nat} (wf : Wf W M H) (k : Keep W H H') (h : PrAt W.K H a p) : PrAt W.K H' a p := by
  have : Rep W M H (.ref a) (nnD p) := .tup h (.cons (.int _) (.cons (.int _) .nil))
  cases this.keep wf k with
  | tup hs hr =>
    cases hr with
    | cons a1 a2 =>
      cases a2 with
      | cons a3 a4 =>
        cases a4
        cases a1
        cases a3
        exact hs
theorem rc_sortPr {P : D → Prop} {l : List (Nat × Nat)} (h : ∀ l' : List (Nat × Nat), l'.Perm l → l'.Pairwise leP → P (nnsD l')) : RCD W (rSortPr W.K) [nnsD l] P := fun M H vs w r Q q => by
  cases r with
  | cons r t =>
    cases t
    cases r with
    | @lst a vs _ na ha hr =>
      obtain ⟨L, rfl, rfl, hL⟩ := reps_nn hr
      refine ⟨a, L, rfl, .inl (.inl ha), hL, fun L' t p1 p2 ht => ?_⟩
      have k := Keep.new (W := W) (o := .lst (L'.map fun x => V.ref x.1)) ht
      refine q _ _ _ (w.g.new ht) k (.lst (fun m => ?_) upd_same (nn_reps fun x hx => prAt_keep w k (hL x (p1.mem_iff.mp hx)))) (h (L'.map (·.2)) (p1.map _) (List.pairwise_map.mpr p2))
      obtain ⟨o, ho⟩ := w.dom t m
      rw [ht] at ho
      cases ho
theorem code_leP {p q : Nat × Nat} (hp : p.1 < 64 ∧ p.2 < 64) (hq : q.1 < 64 ∧ q.2 < 64) (h : TS.code 64 [((p.1 : Nat) : Int), ((p.2 : Nat) : Int)] ≤ TS.code 64 [((q.1 : Nat) : Int), ((q.2 : Nat) : Int)]) : leP p q := by
  rw [code_pair, code_pair] at h
  unfold leP
  omega
abbrev toAT (x : AP) : AT := (x.1, [((x.2.1 : Nat) : Int), ((x.2.2 : Nat) : Int)])
theorem ints_inj {p q : Nat × Nat} (h : [((p.1 : Nat) : Int), ((p.2 : Nat) : Int)] = [((q.1 : Nat) : Int), ((q.2 : Nat) : Int)]) : p = q := by
  simp only [List.cons.injEq, and_true] at h
  exact Prod.ext (by omega) (by omega)
theorem ev_sortedSet {δ : DS} {te : TE} {P : D → Prop} {Pg : Program} {w : World} (h : EvD W te δ fun x => ∃ l : List (Nat × Nat), x = nnsD l ∧ (∀ p ∈ l, p.1 < 64 ∧ p.2 < 64) ∧ (∀ m : List (Nat × Nat), m.Nodup → (∀ x ∈ m, x ∈ l) → m.length ≤ 62) ∧ ∀ l' : List (Nat × Nat), (∀ x, x ∈ l' ↔ x ∈ l) → l'.Nodup → l'.Pairwise leP → P (nnsD l')) :
    EvD W (tCB (rSortedT W.K Pg w) (tCons (tCB (rSetF W.K Pg w) (tCons te tNil)) tNil)) δ P := fun M σ H p Q q => by
  refine h M σ H p _ fun v x H1 g1 k1 r1 ⟨l, e, hb, hf, hP⟩ => ?_
  subst e
  have wf := p.wf.next g1 k1
  cases r1 with
  | @lst a vs _ na ha hr =>
    obtain ⟨L, rfl, rfl, hL⟩ := reps_nn hr
    have ek : ∀ z : AP → V, True := fun _ => trivial
    have em : ∀ y ∈ L.map toAT, ∃ x ∈ L, toAT x = y := fun y hy => List.mem_map.mp hy
    refine ⟨a, L.map toAT, rfl, .inl (.inl (by rw [ha, List.map_map]; rfl)), fun y hy => ?_, fun m nd hm => ?_, fun b S hb' hsub hall => ?_⟩
    · obtain ⟨x, hx, rfl⟩ := em y hy
      exact hL x hx
    · -- few unlike ones
      have key : ∀ m : List (List Int), m.Nodup → (∀ x ∈ m, ∃ y ∈ L.map toAT, y.2 = x) → ∃ m' : List (Nat × Nat), m'.map (fun p => [((p.1 : Nat) : Int), ((p.2 : Nat) : Int)]) = m ∧ ∀ x ∈ m', x ∈ L.map (·.2) := by
        intro m
        induction m with
        | nil => exact fun _ _ => ⟨[], rfl, fun x h => by cases h⟩
        | cons c m ih =>
          intro nd hm
          obtain ⟨m', h1, h2⟩ := ih (List.nodup_cons.mp nd).2 fun x hx => hm x (List.mem_cons_of_mem _ hx)
          obtain ⟨y, hy, ey⟩ := hm c List.mem_cons_self
          obtain ⟨x, hx, rfl⟩ := em y hy
          refine ⟨x.2 :: m', by rw [List.map_cons, h1, ← ey], fun z hz => ?_⟩
          rcases List.mem_cons.mp hz with rfl | hz
          · exact List.mem_map.mpr ⟨x, hx, rfl⟩
          · exact h2 z hz
      obtain ⟨m', h1, h2⟩ := key m nd hm
      have := hf m' (by rw [← h1] at nd; exact nodup_of_map nd) h2
      rw [← h1, List.length_map]
      exact this
    · -- the set stands at b
      have k2 : Keep W H1 (upd H1 b (SetTO Pg w b S)) := Keep.new hb'
      have sub : ∀ y ∈ S, ∃ x ∈ L, toAT x = y := fun y hy => em y (hsub y hy)
      have at2 : ∀ x ∈ L, PrAt W.K (upd H1 b (SetTO Pg w b S)) x.1 x.2 := fun x hx => prAt_keep wf k2 (hL x hx)
      refine ⟨b, S, 2, 64, rfl, upd_same, fun y hy => ?_, by decide, fun y hy => ?_, fun S' t pm nd _ pw ht => ?_⟩
      · obtain ⟨x, hx, rfl⟩ := sub y hy
        exact at2 x hx
      · obtain ⟨x, hx, rfl⟩ := sub y hy
        have := hb x.2 (List.mem_map.mpr ⟨x, hx, rfl⟩)
        refine ⟨rfl, fun z hz => ?_⟩
        rcases List.mem_cons.mp hz with rfl | hz
        · omega
        · rw [List.mem_singleton.mp hz]
          omega
      · have back : ∀ S' : List AT, (∀ y ∈ S', ∃ x ∈ L, toAT x = y) → ∃ L' : List AP, L'.map toAT = S' ∧ ∀ x ∈ L', x ∈ L := by
          intro S'
          induction S' with
          | nil => exact fun _ => ⟨[], rfl, fun x h => by cases h⟩
          | cons y S' ih =>
            intro hS
            obtain ⟨L', h1, h2⟩ := ih fun y hy => hS y (List.mem_cons_of_mem _ hy)
            obtain ⟨x, hx, e⟩ := hS y List.mem_cons_self
            refine ⟨x :: L', by rw [List.map_cons, h1, e], fun z hz => ?_⟩
            rcases List.mem_cons.mp hz with rfl | hz
            · exact hx
            · exact h2 z hz
        obtain ⟨L', rfl, hL'⟩ := back S' fun y hy => sub y (pm.mem_iff.mp hy)
        have e1 : ((L'.map toAT).map fun y => V.ref y.1) = L'.map fun x => V.ref x.1 := by rw [List.map_map]; rfl
        rw [e1]
        have k3 : Keep W (upd H1 b (SetTO Pg w b S)) (upd (upd H1 b (SetTO Pg w b S)) t (.lst (L'.map fun x => V.ref x.1))) := Keep.new ht
        have w2 := wf.next (g1.new hb') k2
        refine q _ (nnsD (L'.map (·.2))) _ ((g1.new hb').new ht) ((k1.trans k2).trans k3) (.lst (fun m => ?_) upd_same (nn_reps fun x hx => prAt_keep w2 k3 (at2 x (hL' x hx)))) (hP _ (fun x => ⟨fun z => ?_, fun z => ?_⟩) ?_ ?_)
        · obtain ⟨o, ho⟩ := w2.dom t m
          rw [ht] at ho
          cases ho
        · obtain ⟨y, hy, rfl⟩ := List.mem_map.mp z
          exact List.mem_map.mpr ⟨y, hL' y hy, rfl⟩
        · obtain ⟨y, hy, rfl⟩ := List.mem_map.mp z
          have := hall (toAT y) (List.mem_map.mpr ⟨y, hy, rfl⟩)
          obtain ⟨s, hs, es⟩ := List.mem_map.mp this
          obtain ⟨x, hx, rfl⟩ := List.mem_map.mp (pm.mem_iff.mpr hs)
          exact List.mem_map.mpr ⟨x, hx, ints_inj es⟩
        · rw [List.map_map] at nd
          have e2 : ((fun y : AT => y.2) ∘ toAT) = (fun p : Nat × Nat => [((p.1 : Nat) : Int), ((p.2 : Nat) : Int)]) ∘ fun x : AP => x.2 := rfl
          rw [e2, ← List.map_map] at nd
          exact nodup_of_map nd
        · refine List.pairwise_map.mpr (List.Pairwise.imp_of_mem (fun {x y} hx hy z => ?_) (List.pairwise_map.mp pw))
          exact code_leP (hb x.2 (List.mem_map.mpr ⟨x, hL' x hx, rfl⟩)) (hb y.2 (List.mem_map.mpr ⟨y, hL' y hy, rfl⟩)) z
end
end PD
namespace PD
open PySem PySem.Spec PyProof.Rows L2
theorem args_sum2 (a b : Value) : argsOk "sum" ⟨[a, b], []⟩ := by unfold argsOk; kernel_rfl
abbrev lsO (its : List Value) (c : Nat) : Obj := { cls := .type "list", data := .seq its.toArray c }
section
variable {P : Program} {w : World} {A : Around} {E : Value → Shared → Prop}
theorem sum_turns {I : Addr} {fp wr : List Addr} {n : Nat} {Pv : Nat → Value → Prop} {St : Nat → Heap → Prop} {R : Result → Shared → Prop} (W : Walks P w A.in1 I fp wr n Pv St) {h0 : Heap} {S : Addr} {cat : Nat → List Value} (off : S ∉ fp) (no : h0.get? S = none) (nw : ∀ b ∈ wr, h0.get? b = none ∧ b < S)
    (hv : ∀ i v, Pv i v → ∃ b its m, v = .ref b ∧ h0.get? b = some (lsO its m) ∧ cat (i + 1) = cat i ++ its) (hz : ∀ i, i ≤ n → (cat i).length ≤ sizeLine) :
    ∀ (k i : Nat) (s : Shared) (T : Addr) (c m : Nat), n = i + k → St i s.heap → s.heap.get? S = some (lsO [.ref T] c) → s.heap.get? T = some (lsO (cat i) m) → ((i = 0 ∧ ∃ o, h0.get? T = some o) ∨ S < T) → (∀ b o, h0.get? b = some o → s.heap.get? b = some o) →
      (∀ h' tk T m, (∀ b o, h0.get? b = some o → h'.get? b = some o) → h'.get? T = some (lsO (cat n) m) → (n = 0 ∨ S < T) → R (.ok (.ret (.ref T))) { s with heap := h', toks := tk }) →
      codeAny (model P w) A (.builtin "sum.loop" ⟨[.ref I, .ref S, rawInt 2, rawInt 0], []⟩) R s := by
  have sw : S ∉ wr := fun z => off (W.sub _ z)
  have tw : ∀ {i : Nat} {T : Addr}, ((i = 0 ∧ ∃ o, h0.get? T = some o) ∨ S < T) → T ∉ wr := fun h z => by
    obtain ⟨a, b⟩ := nw _ z
    rcases h with ⟨_, o, ho⟩ | h
    · rw [a] at ho
      cases ho
    · exact absurd h (Nat.not_lt.mpr (Nat.le_of_lt b))
  intro k
  induction k with
  | zero =>
    intro i s T c m en st hS hT loc old fin
    obtain rfl : n = i := by omega
    refine codeAny_builtin F.entry_sum_loop ?_
    rw [Around.under_plainId F.plain_sum_loop _]
    show wpAny _ A.in1 (seqItems? (.ref S) >>= _) _ _ s
    refine wpAny_bind (wpAny_seqItems hS rfl ?_)
    show wpAny _ A.in1 (tryCatch (pyNext (.ref I)) _ >>= _) _ _ s
    refine wpAny_bind (wpAny_tryCatch (W.done s _ _ st fun h' tk hk => ?_))
    refine wpAny_pure (fin h' tk T m (fun b o e => hk b o (fun z => by rw [(nw b z).1] at e; cases e) (old b o e)) (hk T _ (tw loc) hT) (loc.imp (·.1) id))
  | succ k ih =>
    intro i s T c m en st hS hT loc old fin
    refine codeAny_builtin F.entry_sum_loop ?_
    rw [Around.under_plainId F.plain_sum_loop _]
    show wpAny _ A.in1 (seqItems? (.ref S) >>= _) _ _ s
    refine wpAny_bind (wpAny_seqItems hS rfl ?_)
    show wpAny _ A.in1 (tryCatch (pyNext (.ref I)) _ >>= _) _ _ s
    refine wpAny_bind (wpAny_tryCatch (W.item i s _ _ (by omega) st fun v h1 tk hP st1 hk => ?_))
    obtain ⟨b, its, mb, rfl, hb, ec⟩ := hv i v hP
    have old1 : ∀ b o, h0.get? b = some o → h1.get? b = some o := fun b o e => hk b o (fun z => by rw [(nw b z).1] at e; cases e) (old b o e)
    have hS1 := hk S _ sw hS
    have hT1 := hk T _ (tw loc) hT
    have S1 : S < h1.objs.size := Heap.lt_size hS1
    show wpAny _ A.in1 ((holding [Value.ref b] (binaryOp .Add (.ref T) (.ref b))).attempt >>= _) _ _ _
    have e0 : (cat i).toArray ++ its.toArray = (cat (i + 1)).toArray := by rw [ec]; simp
    have z1 := hz (i + 1) (by omega)
    rw [ec, List.length_append] at z1
    refine wpAny_bind (wpAny_attempt (wpAny_holding (PySem.P.add_list hT1 (old1 _ _ hb) ?_ (by rw [List.size_toArray, List.size_toArray]; omega))))
    rw [e0]
    generalize hh : h1.push _ = h2
    have hT2 : h2.get? h1.objs.size = some (lsO (cat (i + 1)) 0) := hh ▸ Heap.get?_push_size _ rfl
    have o2 : ∀ b o, h1.get? b = some o → h2.get? b = some o := fun b o e => hh ▸ Heap.get?_push_of_some _ e
    have hS2 := o2 _ _ hS1
    show wpAny _ A.in1 (updateSeq S (fun _ => #[.ref h1.objs.size]) >>= _) _ _ _
    refine wpAny_bind (wpAny_updateSeq hS2 rfl ?_)
    have hS3 := Heap.get?_update_self (Obj.mapSeq fun _ => #[Value.ref h1.objs.size]) hS2 rfl
    refine wpAny_bind (wpAny_letGo ?_)
    refine wpAny_bind (wpAny_updateSeq hS3 rfl ?_)
    have oth : ∀ b o, b ≠ S → h2.get? b = some o → ((h2.update S (Obj.mapSeq fun _ => #[Value.ref h1.objs.size])).update S (Obj.mapSeq fun _ => #[Value.ref h1.objs.size])).get? b = some o := fun b o y e => (Heap.get?_update_other _ _ (Ne.symm y)).trans ((Heap.get?_update_other _ _ (Ne.symm y)).trans e)
    refine wpAny_pure ⟨plainId_quiet F.plain_sum_loop _, ih (i + 1) _ h1.objs.size _ 0 (by omega) (W.frame _ _ _ st1 fun b hb o e => oth b o (fun y => off (y ▸ hb)) (o2 _ _ e)) (Heap.get?_update_self _ hS3 rfl) (oth _ _ (Nat.ne_of_gt S1) hT2) (.inr S1) (fun b o e => oth b o (fun y => by rw [y, no] at e; cases e) (o2 _ _ (old1 b o e))) fin⟩
/-- sum(xs, e), both lists -/
theorem call_sumL {s : Shared} {l e : Addr} {items : Array Value} {cat : Nat → List Value} {me : Nat} {Q : Value → Shared → Prop} (hh : A.handled = none) (hl : s.heap.IsList l items) (he : s.heap.get? e = some (lsO [] me)) (c0 : cat 0 = [])
    (hv : ∀ i v, items[i]? = some v → ∃ b its m, v = .ref b ∧ s.heap.get? b = some (lsO its m) ∧ cat (i + 1) = cat i ++ its) (hz : ∀ i, i ≤ items.size → (cat i).length ≤ sizeLine) (n1 : items.size ≠ 0)
    (q : ∀ h' tk T m, (∀ b o, s.heap.get? b = some o → h'.get? b = some o) → h'.get? T = some (lsO (cat items.size) m) → s.heap.objs.size ≤ T → Q (.ref T) { s with heap := h', toks := tk }) :
    wpAny (model P w) A (call (.builtin "sum") [.ref l, .ref e]) Q E s := by
  have lS : l < s.heap.objs.size := by
    obtain ⟨_, ho, _⟩ := hl
    exact Heap.lt_size ho
  refine call_function_tree F.kind_sum F.plain_sum F.entry_sum (args_sum2 _ _) ?_
  unfold Builtin.«sum»
  simp only [List.length_cons, List.length_nil]
  rw [if_neg (by decide)]
  refine wpAny_bind (wpAny_of_eq (show Builtin.Builtins.bindParams "sum" ["start"] 0 ⟨[.ref e], []⟩ = pure [some (.ref e)] from rfl) ?_)
  refine wpAny_bind (wpAny_pyIter_list hl ?_)
  have hI := Heap.size_push s.heap { cls := .type "list_iterator", data := .fields #[.ref l, .int 0 0] }
  have he1 : (s.heap.push { cls := .type "list_iterator", data := .fields #[.ref l, .int 0 0] }).get? e = some (lsO [] me) := Heap.get?_push_of_some _ he
  refine wpAny_bind (wpAny_pure ?_)
  simp only [List.forIn_cons, List.forIn_nil]
  refine wpAny_bind (wpAny_bind (wpAny_bind (wpAny_isInstance (T := "list") (b := false) ⟨_, he1, rfl⟩ F.sub_list_str ?_)))
  simp only [Bool.false_eq_true, if_false]
  refine wpAny_pure (wpAny_bind (wpAny_bind (wpAny_isInstance (T := "list") (b := false) ⟨_, he1, rfl⟩ F.sub_list_bytes ?_)))
  simp only [Bool.false_eq_true, if_false]
  refine wpAny_pure (wpAny_bind (wpAny_bind (wpAny_isInstance (T := "list") (b := false) ⟨_, he1, rfl⟩ F.sub_list_bytearray ?_)))
  simp only [Bool.false_eq_true, if_false]
  refine wpAny_pure (wpAny_pure ?_)
  refine wpAny_bind (wpAny_newObj_type ?_)
  have none_of : ∀ b, s.heap.objs.size ≤ b → s.heap.get? b = none := fun b hb => by
    cases e : s.heap.get? b with
    | none => rfl
    | some o => exact absurd (Heap.lt_size e) (Nat.not_lt.mpr hb)
  have hne : l ≠ s.heap.objs.size := Nat.ne_of_lt lS
  generalize hg : s.heap.push { cls := .type "list_iterator", data := .fields #[.ref l, .int 0 0] } = h1 at *
  have o1 : ∀ b o, s.heap.get? b = some o → h1.get? b = some o := fun b o e => hg ▸ Heap.get?_push_of_some _ e
  refine wpAny_pure ⟨plainId_quiet F.plain_sum_loop _, ?_⟩
  refine sum_turns (h0 := s.heap) (cat := cat) (S := h1.objs.size) (n := items.size) (Walks.list (A := A.in1) (by simpa using hh) s.heap.objs.size l hne items) ?_ (none_of _ (by rw [hI]; exact Nat.le_succ _)) (fun b hb => ?_) hv hz items.size 0 _ e 0 me (Nat.zero_add _).symm ?_ (Heap.get?_push_size _ rfl) ?_ (.inl ⟨rfl, _, he⟩) (fun b o g => Heap.get?_push_of_some _ (o1 b o g)) fun h' tk T m k1 k2 k3 => ?_
  · simp only [List.mem_cons, List.not_mem_nil, or_false, not_or]
    rw [hI]
    exact ⟨Nat.ne_of_gt (Nat.lt_succ_self _), Nat.ne_of_gt (Nat.lt_succ_of_lt lS)⟩
  · rw [List.mem_singleton.mp hb, hI]
    exact ⟨none_of _ (Nat.le_refl _), Nat.lt_succ_self _⟩
  · exact ⟨⟨_, Heap.get?_push_of_some _ (hg ▸ Heap.get?_push_size _ rfl), rfl, rfl⟩, (hg ▸ hl.push _ : h1.IsList l items).push _⟩
  · rw [c0]
    exact Heap.get?_push_of_some _ he1
  · rcases k3 with k3 | k3
    · exact absurd k3 n1
    · refine q h' tk T m k1 k2 (Nat.le_of_lt ?_)
      rw [hI] at k3
      exact Nat.lt_of_succ_lt k3
end
theorem objs_of {X : Cx} {pins : List (Addr × Obj)} {σ : L2.St} {H : Hp} {s : Shared} (I : Inv X pins σ H s) : ∀ L : List (Addr × List V), (∀ x ∈ L, H x.1 = some (.lst x.2)) → ∃ Z : List (List Value), Z.length = L.length ∧ ∀ (i : Nat) (x : Addr × List V) (z : List Value), L[i]? = some x → Z[i]? = some z → Vals x.2 z ∧ ∃ m, s.heap.get? x.1 = some (lsO z m)
  | [], _ => ⟨[], rfl, fun i x z h => by simp at h⟩
  | x :: L, h => by
    obtain ⟨Z, h1, h2⟩ := objs_of I L fun y hy => h y (List.mem_cons_of_mem _ hy)
    obtain ⟨_, its, n, r, _, e⟩ := I.lstM (h x List.mem_cons_self)
    refine ⟨its :: Z, by rw [List.length_cons, List.length_cons, h1], fun i y z a b => ?_⟩
    cases i with
    | zero =>
      cases a
      cases b
      exact ⟨r, n, e⟩
    | succ i => exact h2 i y z (by simpa using a) (by simpa using b)
theorem vals_flat {L : List (Addr × List V)} : ∀ {Z : List (List Value)}, Z.length = L.length → (∀ (i : Nat) (x : Addr × List V) (z : List Value), L[i]? = some x → Z[i]? = some z → Vals x.2 z) → Vals (L.map (·.2)).flatten Z.flatten := by
  induction L with
  | nil =>
    intro Z h _
    cases Z with
    | nil => exact .nil
    | cons _ _ => cases h
  | cons x L ih =>
    intro Z h g
    cases Z with
    | nil => cases h
    | cons z Z =>
      rw [List.map_cons, List.flatten_cons, List.flatten_cons]
      exact (g 0 x z rfl rfl).append (ih (by simpa using h) fun i y u a b => g (i + 1) y u (by simpa using a) (by simpa using b))
def rSumLs (K : PySem.W.Frag) : List V → Hp → VK → Prop := fun vs H Q => ∃ (a e : Addr) (L : List (Addr × List V)), vs = [.ref a, .ref e] ∧ SqL K H a (L.map fun x => V.ref x.1) ∧ (∀ x ∈ L, H x.1 = some (.lst x.2)) ∧ H e = some (.lst []) ∧ L ≠ [] ∧ (L.map (·.2)).flatten.length ≤ sizeLine ∧ ∀ t, H t = none → Q (.ref t) (upd H t (.lst (L.map (·.2)).flatten))
theorem cr_sumPK {X : Cx} {K : PySem.W.Frag} (h : X.K = K) (calm : X.calm = true) (hu : X.A.units + 64 < cLine) : CallR X (.builtin "sum") (rSumLs K) := by
  subst h
  intro pins s σ H vs us Q I r wish
  obtain ⟨a, e, L, rfl, hs, hL, he, hn, hz, q⟩ := wish
  obtain ⟨u1, u2, rfl, r1, r2⟩ := vals2 r
  cases r1
  cases r2
  obtain ⟨its, rv, isx, _⟩ := I.list hs
  obtain ⟨_, ie, me, re, _, ge⟩ := I.lstM he
  cases re
  obtain ⟨Z, lZ, hZ⟩ := objs_of I L hL
  have fl := vals_flat lZ fun i x z a b => (hZ i x z a b).1
  have refs : ∀ {L : List (Addr × List V)} {us : List Value}, Vals (L.map fun x => V.ref x.1) us → us = L.map fun x => Value.ref x.1 := fun {L} => by
    induction L with
    | nil => intro us z; cases z; rfl
    | cons x L ih =>
      intro us z
      cases z with
      | cons z1 z2 =>
        cases z1
        rw [ih z2]
        rfl
  have ei := refs rv
  have li : its.length = L.length := by rw [ei, List.length_map]
  have le : ∀ i, ((Z.take i).flatten).length ≤ Z.flatten.length := fun i => by
    have : Z.flatten = (Z.take i).flatten ++ (Z.drop i).flatten := by rw [← List.flatten_append, List.take_append_drop]
    rw [this, List.length_append]
    omega
  have lf : Z.flatten.length ≤ sizeLine := by rw [← fl.length]; exact hz
  have lL : L.length ≠ 0 := fun z => hn (List.length_eq_zero_iff.mp z)
  refine call_sumL (cat := fun i => (Z.take i).flatten) (I.ok.hd calm) isx.isList ge rfl (fun i v hv => ?_) (fun i hi => Nat.le_trans (le i) lf) (by rw [List.size_toArray, li]; exact lL) fun h' tk T m k1 k2 k3 => ?_
  · have hv : its[i]? = some v := by simpa using hv
    rw [ei, List.getElem?_map] at hv
    obtain ⟨x, hx, rfl⟩ := Option.map_eq_some_iff.mp hv
    have il := (List.getElem?_eq_some_iff.mp hx).1
    have hzi : Z[i]? = some (Z[i]'(by omega)) := List.getElem?_eq_getElem _
    obtain ⟨_, m, g⟩ := hZ i x _ hx hzi
    exact ⟨x.1, _, m, rfl, g, by rw [take_one hzi, List.flatten_append]; simp⟩
  · have eT : (Z.take its.toArray.size).flatten = Z.flatten := by rw [List.take_of_length_le (by rw [List.size_toArray]; omega)]
    have k2 : h'.get? T = some (lsO (Z.take its.toArray.size).flatten m) := k2
    rw [eT] at k2
    exact ⟨.ref T, _, I.laid (t' := tk) (o := .lst (L.map (·.2)).flatten) k1 k3 ⟨hz, Z.flatten, m, fl, k2⟩, rfl, q T (I.hok.fresh k3)⟩
/-- .. by data -/
theorem rc_sumP {W : Wd} {P : D → Prop} {ds : List (List D)} (hn : ds ≠ []) (hl : ds.flatten.length ≤ 100000) (h : P (.lst ds.flatten)) : RCD W (rSumLs W.K) [.lst (ds.map D.lst), .lst []] P := fun M H vs w r Q q => by
  cases r with
  | cons r t =>
    cases t with
    | cons r2 t =>
      cases t
      cases r with
      | @lst a us _ na ha hr =>
        cases r2 with
        | @lst e ws _ ne he hr2 =>
          cases hr2
          have one : ∀ {ds : List (List D)} {us : List V}, Reps W M H us (ds.map D.lst) → ∃ L : List (Addr × List V), us = (L.map fun x => V.ref x.1) ∧ L.length = ds.length ∧ (∀ x ∈ L, H x.1 = some (.lst x.2)) ∧ Reps W M H (L.map (·.2)).flatten ds.flatten := fun {ds} => by
            induction ds with
            | nil => intro us z; cases z; exact ⟨[], rfl, rfl, (fun x h => by cases h), .nil⟩
            | cons d ds ih =>
              intro us z
              cases z with
              | cons z1 z2 =>
                obtain ⟨L, h1, h2, h3, h4⟩ := ih z2
                cases z1 with
                | @lst b xs _ nb hb hrb =>
                  refine ⟨(b, xs) :: L, by rw [List.map_cons, h1], by rw [List.length_cons, List.length_cons, h2], fun x hx => ?_, ?_⟩
                  · rcases List.mem_cons.mp hx with rfl | hx
                    · exact hb
                    · exact h3 x hx
                  · rw [List.map_cons, List.flatten_cons, List.flatten_cons]
                    exact hrb.append h4
          obtain ⟨L, rfl, lL, hL, hf⟩ := one hr
          refine ⟨a, e, L, rfl, .inl (.inl ha), hL, he, fun z => ?_, by rw [hf.length]; exact Nat.le_trans hl (by rw [sizeLine_eq]; decide), fun t ht => ?_⟩
          · subst z
            cases ds with
            | nil => exact hn rfl
            | cons _ _ => cases lL
          · have k := Keep.new (W := W) (o := .lst (L.map (·.2)).flatten) ht
            refine q _ _ _ (w.g.new ht) k (.lst (fun m => ?_) upd_same ?_) h
            · obtain ⟨o, ho⟩ := w.dom t m
              rw [ht] at ho
              cases ho
            · exact reps_of hf.length fun i v d h1 h2 => by
                obtain ⟨v', h3, h4⟩ := hf.get h2
                rw [h1] at h3
                cases h3
                exact h4.keep w k
end PD
namespace PD
open PySem PySem.Spec PyProof.Rows L2
section
variable {W : Wd} {M : Addr → Prop} {H H' : Hp} {δ : DS} {σ : L2.St} {td ty te ta tb : TE} {P : D → Prop}
theorem getB (k : Nat) : ∀ l : List Nat, (getD' (kvB l) (.inl (k : Int))).isSome = decide (k ∈ l)
  | [] => rfl
  | a :: l => by
    have ih := getB k l
    unfold getD' at ih ⊢
    show (dicGet ((Sum.inl (a : Int) : Key) :: (kvB l).map (·.1)) (D.bl true :: (kvB l).map (·.2)) _).isSome = _
    by_cases e : a = k
    · simp only [dicGet, if_pos (key_inj.mpr e)]
      simp [e]
    · simp only [dicGet, if_neg fun z => e (key_inj.mp z)]
      rw [ih]
      simp only [List.mem_cons, decide_eq_decide]
      exact ⟨.inr, fun z => z.elim (fun y => absurd y.symm e) id⟩
theorem valB {vs : List (Key × V)} {l : List Nat} (r : DKR W M H vs (kvB l)) (k : Nat) : (valV vs (.inl (k : Int))).isSome = decide (k ∈ l) := by
  rw [← getB]
  rcases r.get (.inl (k : Int)) with ⟨a, b⟩ | ⟨v, x, a, b, _⟩ <;> rw [a, b] <;> rfl
/-- k in d -/
theorem ev_dinB (h : EvD W ty δ fun y => ∃ k : Nat, y = .int (k : Int) ∧ EvD W td δ fun x => ∃ l, (x = dicD (kvB l) ∨ x = dikD (kvB l)) ∧ P (.bl (decide (k ∈ l)))) : EvD W (tDIn ty td) δ P := fun M σ H p Q q =>
  h M σ H p _ fun u y H1 g1 k1 r1 ⟨k, ey, h1⟩ => by
    subst ey
    cases r1
    refine h1 M σ H1 (p.next g1 k1) _ fun v x H2 g2 k2 r2 ⟨l, ex, hP⟩ => ?_
    obtain ⟨a, o, vs, rfl, na, ha, qo, dr⟩ := dic_obj ex r2
    refine ⟨a, valV vs (.inl (k : Int)), rfl, .inl ⟨vs, .inl (k : Int), qo.rd ha, rfl, rfl⟩, ?_⟩
    rw [valB dr]
    exact q _ _ H2 g2 (k1.trans k2) (.bl _) hP
theorem ev_dnotinB (h : EvD W ty δ fun y => ∃ k : Nat, y = .int (k : Int) ∧ EvD W td δ fun x => ∃ l, (x = dicD (kvB l) ∨ x = dikD (kvB l)) ∧ P (.bl (!decide (k ∈ l)))) : EvD W (tDNotIn ty td) δ P := fun M σ H p Q q =>
  h M σ H p _ fun u y H1 g1 k1 r1 ⟨k, ey, h1⟩ => by
    subst ey
    cases r1
    refine h1 M σ H1 (p.next g1 k1) _ fun v x H2 g2 k2 r2 ⟨l, ex, hP⟩ => ?_
    obtain ⟨a, o, vs, rfl, na, ha, qo, dr⟩ := dic_obj ex r2
    refine ⟨a, valV vs (.inl (k : Int)), rfl, .inl ⟨vs, .inl (k : Int), qo.rd ha, rfl, rfl⟩, ?_⟩
    rw [valB dr]
    exact q _ _ H2 g2 (k1.trans k2) (.bl _) hP
/-- a new dict -/
def EvK (W : Wd) (te : TE) (δ : DS) (P : HO → Prop) : Prop := ∀ (M : Addr → Prop) (σ : L2.St) (H : Hp), Pre W M δ σ H → ∀ Q : VK,
  (∀ (a : Addr) (o : HO) (H' : Hp), StOk W H' → Keep W H H' → H a = none → H' a = some o → IsDk o → P o → Q (.ref a) H') → te σ H Q
/-- {k: True for k in d} -/
theorem ev_dcQ {j k v0 : Nat} {es : List D} {l : List Nat} {κ : Kv} {vs : List Nat} {P : HO → Prop} (hj : δ[j]? = some (some (.lst es))) (he : es[k]? = some (dicD κ)) (hκ : κ.map (·.1) = l.map fun k => (Sum.inl ((k : Nat) : Int) : Key)) (nd : l.Nodup) (ht : TdAt W.K td j k es.length δ)
    (hl : l.length ≤ 100000) (hv : v0 ∈ vs) (hv2 : v0 < δ.length) (h : P (truK l)) : EvK W (tLockE (tDc (iKeys td) (gName v0) tYes (tVar v0) (tC (.bl true)) vs)) δ P := fun M σ H p Q qq => by
  obtain ⟨_, s0, r0⟩ := p.sl.get j _ hj
  cases r0 with
  | @lst a us _ na ha hr =>
    obtain ⟨w, hw, rw'⟩ := hr.get he
    unfold dicD at rw'
    cases rw' with
    | @dic d kvs _ _ nd' hd ek rs =>
      have ad : a ≠ d := fun z => by rw [z, hd] at ha; cases ha
      have ekl : kvs.map (·.1) = l.map fun k => (Sum.inl ((k : Nat) : Int) : Key) := ek.trans hκ
      have lk : kvs.length = l.length := by
        have := congrArg List.length ekl
        rwa [List.length_map, List.length_map] at this
      refine ⟨d, _, hd, trivial, fun od => ?_⟩
      have pl := p.lock (od := od) hd
      have hal : upd H d (.frz od (.dK kvs)) a = some (.lst us) := by rw [upd_ne ad]; exact ha
      refine ht σ _ a us _ p.sl.ints s0 hal hr.length hw _ ⟨d, od, rfl, .inl ⟨kvs, upd_same, fun q hq => ?_⟩⟩
      have qd : q ≠ d := fun z => by rw [z, upd_same] at hq; cases hq
      have hq0 : H q = none := by rw [upd_ne qd] at hq; exact hq
      have dat : ∀ u, (upd (upd H d (.frz od (.dK kvs))) q u) d = some (.frz od (.dK kvs)) := fun u => by rw [upd_ne qd.symm]; exact upd_same
      refine ⟨fun i m H' => m = l.length - i ∧ i ≤ l.length ∧ H' = upd (upd H d (.frz od (.dK kvs))) q (truK (l.take i)), ⟨_, rfl, Nat.zero_le _, rfl⟩, ?_⟩
      rintro i m H' ⟨rfl, hi, rfl⟩
      by_cases hlt : i < l.length
      · refine .inr ⟨⟨dat _, by rw [lk]; exact hlt⟩, fun H2 => H2 = upd (upd H d (.frz od (.dK kvs))) q (truK (l.take (i + 1))), fun H2 e => ⟨_, by omega, rfl, hlt, e⟩, fun x H3 y => ?_⟩
        obtain ⟨rfl, kk, v, e1, rfl⟩ := y
        have ekk : kk = .inl ((l[i] : Nat) : Int) := by
          have := congrArg (fun m : List Key => m[i]?) ekl
          simp only [List.getElem?_map, e1, Option.map_some, List.getElem?_eq_getElem hlt] at this
          exact Option.some.inj this
        subst ekk
        have lw : v0 < (wipe σ vs).length := by rw [wipe_length, p.sl.len]; exact hv2
        refine ⟨by rw [wipe_set hv, wipe_wipe], ?_⟩
        simp only [tYes, if_true]
        refine ⟨_, List.getElem?_set_self lw, ?_⟩
        refine ⟨_, .inl ((l[i] : Nat) : Int), rfl, upd_same, ?_, ?_⟩
        · rw [List.length_map, List.length_take]
          exact Nat.lt_of_le_of_lt (Nat.min_le_left _ _) (Nat.lt_of_lt_of_le hlt (Nat.le_trans hl (by rw [sizeLine_eq]; decide)))
        · rw [upd_upd, truK_put]
          congr 2
          unfold putU
          rw [take_one (List.getElem?_eq_getElem hlt), if_neg]
          intro z
          obtain ⟨i', h1, h2⟩ := List.mem_iff_getElem.mp z
          rw [List.getElem_take] at h2
          rw [List.length_take] at h1
          have := (List.getElem_inj nd).mp h2
          omega
      · have ee : i = l.length := by omega
        subst ee
        rw [List.take_length]
        refine .inl ⟨⟨dat _, by rw [lk]; exact Nat.le_refl _⟩, dat _, ?_⟩
        have g2 : StOk W (upd (upd (upd H d (.frz od (.dK kvs))) q (truK l)) d (.dK kvs)) := stOk_dk (pl.wf.g.new hq) (.inr ⟨_, rfl⟩) (dat _)
        refine qq q (truK l) _ g2 (fun b u ns hb => ?_) hq0 (by rw [upd_ne qd]; exact upd_same) (truK_dk l) h
        by_cases z : b = d
        · subst z
          rw [hd] at hb
          cases hb
          exact upd_same
        · rw [upd_ne z, upd_ne (fun y => by rw [y, hq0] at hb; cases hb), upd_ne z]
          exact hb
/-- [{} for ..] -/
theorem ev_lcQ {wi : TI} {gt : TG} {vs : List Nat} {P : List HO → Prop} (h : IterD W wi δ fun ds => ds.length ≤ 100000 ∧ (∀ (i : Nat) (d : D), ds[i]? = some d → ∃ js, (∀ j ∈ js, j ∈ vs) ∧ GD W gt d (wipeD δ vs) js fun _ => True) ∧ P (List.replicate ds.length (truK []))) : EvQ W (tLc wi gt tYes tDNewK vs) δ P := fun M σ H p Q q =>
  h M σ H p _ fun J H1 ds g1 k1 ⟨hlen, it, hP⟩ src => by
    intro Dl hD
    have p1 := p.next g1 k1
    let M' : Addr → Prop := fun a => M a ∨ a = Dl
    have hm : ∀ a, M a → M' a := fun a x => .inl x
    have hn : ∀ a, M' a → ¬ M a → H1 a = none := fun a x y => by
      rcases x with x | x
      · exact absurd x y
      · rw [x]; exact hD
    have nsN : ∀ b, H1 b = none → ¬ W.S b := fun b hb z => by
      obtain ⟨_, q1⟩ := StOk.at g1 z
      rw [hb] at q1
      cases q1
    have hns := nsN Dl hD
    refine ⟨fun i m H' => m = ds.length - i ∧ i ≤ ds.length ∧ ∃ qs : List Addr, Keep W H1 H' ∧ StOk W H' ∧ H' Dl = some (.lst (qs.map V.ref)) ∧ qs.length = i ∧ qs.Nodup ∧ ∀ b ∈ qs, H1 b = none ∧ b ≠ Dl ∧ H' b = some (truK []), ⟨_, rfl, Nat.zero_le _, [], Keep.new hD, g1.new hD, upd_same, rfl, List.nodup_nil, fun b hb => by cases hb⟩, ?_⟩
    rintro i m H' ⟨rfl, hi, qs, kH, gH, eD, lq, nd, each⟩
    have wf' : Wf W M' H' := ⟨gH, fun a z => .inl (p.wf.sm a z), fun a x => by
      rcases x with x | x
      · exact (p1.wf.next gH kH).dom a x
      · rw [x]; exact ⟨_, eD⟩⟩
    obtain ⟨s1, s2⟩ := src M' hm hn i H' kH.toM gH
    by_cases hlt : i < ds.length
    · obtain ⟨hgo, hy⟩ := s2 ds[i] (List.getElem?_eq_getElem hlt)
      refine .inr ⟨hgo, fun H2 => ∃ qs : List Addr, Keep W H1 H2 ∧ StOk W H2 ∧ H2 Dl = some (.lst (qs.map V.ref)) ∧ qs.length = i + 1 ∧ qs.Nodup ∧ ∀ b ∈ qs, H1 b = none ∧ b ≠ Dl ∧ H2 b = some (truK []), fun H2 ⟨qs2, z⟩ => ⟨_, by omega, rfl, hlt, qs2, z⟩, fun x H3 y => ?_⟩
      obtain ⟨g3, k3, r3⟩ := hy x H3 y
      have wf3 := wf'.next g3 k3
      obtain ⟨js, hjs, hg⟩ := it i ds[i] (List.getElem?_eq_getElem hlt)
      have sl : Slots W M' H3 (wipe σ vs) (wipeD δ vs) := by
        have s0 : Slots W M H1 (wipe σ vs) (wipeD δ vs) := p1.sl.wipe vs
        have wg : Wg W M' H1 := ⟨g1, fun a z => .inl (p.wf.sm a z)⟩
        exact ⟨s0.len, fun j d hd => by
          obtain ⟨v, a1, a2⟩ := s0.get j d hd
          exact ⟨v, a1, (a2.more hn).keepG wg (kH.trans k3)⟩⟩
      refine hg M' (wipe σ vs) H3 x ⟨wf3, sl⟩ r3 _ fun σ4 δ4 p4 _ hw => ?_
      refine ⟨by rw [hw vs hjs, wipe_wipe], ?_⟩
      simp only [tYes, if_true]
      intro b hb
      have eD3 : H3 Dl = some (.lst (qs.map V.ref)) := k3 Dl _ hns eD
      have bD : b ≠ Dl := fun z => by rw [z, eD3] at hb; cases hb
      have b1 : H1 b = none := by
        cases z : H1 b with
        | none => rfl
        | some o =>
          have ns : ¬ W.S b := fun e => by
            obtain ⟨_, q1⟩ := StOk.at g3 e
            rw [hb] at q1
            cases q1
          rw [(kH.trans k3) b o ns z] at hb
          cases hb
      have bq : b ∉ qs := fun z => by
        have := (each b z).2.2
        rw [k3 b _ (nsN b b1) this] at hb
        cases hb
      have g4 : StOk W (upd H3 b (.dK [])) := g3.new hb
      refine ⟨qs.map V.ref, by rw [upd_ne bD.symm]; exact eD3, ?_, qs ++ [b], fun a o ns ho => ?_, stok_put hD g1 g4, by rw [upd_same, List.map_append]; rfl, by rw [List.length_append, lq]; rfl, ?_, fun c hc => ?_⟩
      · rw [List.length_map, lq]
        exact Nat.lt_of_lt_of_le hlt (Nat.le_trans hlen (by rw [sizeLine_eq]; decide))
      · rw [upd_ne (ne_of_none ho hD), upd_ne (ne_of_none ho b1)]
        exact (kH.trans k3) a o ns ho
      · rw [List.nodup_append]
        exact ⟨nd, by simp, fun c hc d hd e => bq (by rw [List.mem_singleton.mp hd] at e; exact e ▸ hc)⟩
      · rcases List.mem_append.mp hc with hc | hc
        · obtain ⟨c1, c2, c3⟩ := each c hc
          refine ⟨c1, c2, ?_⟩
          have cb : c ≠ b := fun z => bq (z ▸ hc)
          rw [upd_ne c2, upd_ne cb]
          exact k3 c _ (nsN c c1) c3
        · rw [List.mem_singleton.mp hc]
          exact ⟨b1, bD, by rw [upd_ne bD]; exact upd_same⟩
    · have ee : i = ds.length := by omega
      have offH : ∀ b, H1 b = none → H b = none := fun b hb => by
        cases z : H b with
        | none => rfl
        | some o =>
          rw [k1 b o (nsN b hb) z] at hb
          cases hb
      refine .inl ⟨s1 ee, q Dl qs (List.replicate ds.length (truK [])) H' gH (k1.trans kH) (offH _ hD) (fun b hb => offH _ (each b hb).1) (fun z => (each Dl z).2.1 rfl) nd eD (by rw [List.length_replicate, lq, ee]) (fun i q o h1 h2 => ?_) hP⟩
      have := List.mem_of_getElem? h2
      rw [(List.mem_replicate.mp this).2]
      exact ⟨(each q (List.mem_of_getElem? h1)).2.2, truK_dk []⟩
/-- [d], d new -/
theorem ev_lst1Q {P : List HO → Prop} (h : EvK W te δ fun o => P [o]) : EvQ W (tLst (tCons te tNil)) δ P := fun M σ H p Q q => h M σ H p _ fun a o H' g k na ha dk hP => by
  refine ⟨by show 1 ≤ sizeLine; rw [sizeLine_eq]; decide, fun l hl => ?_⟩
  have la : l ≠ a := fun z => by rw [z, ha] at hl; cases hl
  have l0 : H l = none := by
    cases z : H l with
    | none => rfl
    | some u =>
      have ns : ¬ W.S l := fun e => by
        obtain ⟨_, q1⟩ := StOk.at g e
        rw [hl] at q1
        cases q1
      rw [k l u ns z] at hl
      cases hl
  refine q l [a] [o] _ (g.new hl) (k.trans (Keep.new hl)) l0 (fun b hb => by rw [List.mem_singleton.mp hb]; exact na) (fun z => la (List.mem_singleton.mp z)) (by simp) upd_same rfl (fun i b u h1 h2 => ?_) hP
  cases i with
  | zero =>
    cases h1
    cases h2
    exact ⟨by rw [upd_ne la.symm]; exact ha, dk⟩
  | succ i => simp at h1
theorem ev_catQ {P : List HO → Prop} (h : EvQ W ta δ fun xs => EvQ W tb δ fun ys => xs.length + ys.length ≤ 100000 ∧ P (xs ++ ys)) : EvQ W (tOp (rPlus W.K) ta tb) δ P := fun M σ H p Q q => h M σ H p _ fun a qs xs H1 g1 k1 na nq aq nd ha ln at1 h1 => by
  have p1 := p.next g1 k1
  refine h1 M σ H1 p1 _ fun b rs ys H2 g2 k2 nb nr br nd2 hb ln2 at2 ⟨hl, hP⟩ => ?_
  have p2 := p1.next g2 k2
  have nsN : ∀ {b : Addr} {Hx : Hp}, StOk W Hx → Hx b = none → ¬ W.S b := fun gx hb z => by
    obtain ⟨_, q1⟩ := StOk.at gx z
    rw [hb] at q1
    cases q1
  have ns0 : ∀ b, H b = none → ¬ W.S b := fun b => nsN p.wf.g
  have back : ∀ b, H1 b = none → H b = none := fun b hb => by
    cases z : H b with
    | none => rfl
    | some o =>
      rw [k1 b o (nsN g1 hb) z] at hb
      cases hb
  have qs1 : ∀ q ∈ qs, ∃ o, H1 q = some o := fun q hq => by
    obtain ⟨i, hi⟩ := List.getElem?_of_mem hq
    have il := (List.getElem?_eq_some_iff.mp hi).1
    exact ⟨_, (at1 i q _ hi (List.getElem?_eq_getElem (by omega))).1⟩
  refine .inr (.inl ⟨a, b, qs.map V.ref, rs.map V.ref, rfl, rfl, k2 a _ (ns0 a na) ha, hb, by rw [List.length_map, List.length_map, ln, ln2]; exact Nat.le_trans hl (by rw [sizeLine_eq]; decide), fun c hc => ?_⟩)
  have kc : Keep W H2 (upd H2 c (.lst (qs.map V.ref ++ rs.map V.ref))) := Keep.new hc
  have c1 : H1 c = none := by
    cases z : H1 c with
    | none => rfl
    | some o =>
      rw [k2 c o (nsN g2 hc) z] at hc
      cases hc
  have cq : c ∉ qs := fun z => by
    obtain ⟨o, ho⟩ := qs1 c z
    rw [c1] at ho
    cases ho
  have cr : c ∉ rs := fun z => by
    obtain ⟨i, hi⟩ := List.getElem?_of_mem z
    have il := (List.getElem?_eq_some_iff.mp hi).1
    rw [(at2 i c _ hi (List.getElem?_eq_getElem (by omega))).1] at hc
    cases hc
  refine q c (qs ++ rs) (xs ++ ys) _ (g2.new hc) ((k1.trans k2).trans kc) (back c c1) (fun d hd => ?_) (fun z => (List.mem_append.mp z).elim cq cr) ?_ (by rw [upd_same, List.map_append]) (by rw [List.length_append, List.length_append, ln, ln2]) (fun i d o e1 e2 => ?_) hP
  · rcases List.mem_append.mp hd with hd | hd
    · exact nq d hd
    · exact back d (nr d hd)
  · rw [List.nodup_append]
    refine ⟨nd, nd2, fun x hx y hy e => ?_⟩
    obtain ⟨o, ho⟩ := qs1 x hx
    rw [e, nr y hy] at ho
    cases ho
  · by_cases il : i < qs.length
    · rw [List.getElem?_append_left il] at e1
      rw [List.getElem?_append_left (by omega)] at e2
      obtain ⟨x1, x2⟩ := at1 i d o e1 e2
      have dq := List.mem_of_getElem? e1
      refine ⟨?_, x2⟩
      have dc : d ≠ c := fun z => cq (z ▸ dq)
      rw [upd_ne dc]
      exact k2 d _ (ns0 d (nq d dq)) x1
    · rw [List.getElem?_append_right (by omega)] at e1 e2
      rw [ln] at e1
      obtain ⟨x1, x2⟩ := at2 _ d o e1 e2
      refine ⟨?_, x2⟩
      have dc : d ≠ c := fun z => cr (z ▸ List.mem_of_getElem? e1)
      rw [upd_ne dc]
      exact x1
end
end PD
namespace PD
open PySem PySem.Spec PyProof.Rows L2
def frC (r : List Nat) (t : Nat) : List Nat := r.filter fun c => !t.testBit c
def allS : List (List Nat) → Nat → List (List Nat)
  | [], _ => [[]]
  | r :: rs, t => (frC r t).flatMap fun c => (allS rs (t ||| 2 ^ c)).map fun s => c :: s
def lotC (pl : List Nat) : Nat := pl.foldl (fun t c => t ||| 2 ^ c) 0
def plsC (cs : List (List Nat)) : Nat → List (List Nat)
  | 0 => [[]]
  | i + 1 => (plsC cs i).flatMap fun pl => ((cs.getD i []).filter fun j => !decide (j ∈ pl)).map fun j => pl ++ [j]
theorem lot_snoc (pl : List Nat) (c : Nat) : lotC (pl ++ [c]) = lotC pl ||| 2 ^ c := by
  unfold lotC
  rw [List.foldl_append]
  rfl
theorem lot_bits : ∀ (pl : List Nat) (t k : Nat), (pl.foldl (fun t c => t ||| 2 ^ c) t).testBit k = (t.testBit k || decide (k ∈ pl))
  | [], t, k => by simp
  | c :: pl, t, k => by
    rw [List.foldl_cons, lot_bits pl, Nat.testBit_or, Nat.testBit_two_pow, Bool.or_assoc]
    congr 1
    by_cases e : c = k
    · simp [e]
    · simp [e, Ne.symm e]
theorem lot_bit (pl : List Nat) (k : Nat) : (lotC pl).testBit k = decide (k ∈ pl) := by
  unfold lotC
  rw [lot_bits]
  simp
theorem frC_lot (r pl : List Nat) : frC r (lotC pl) = r.filter fun j => !decide (j ∈ pl) := by
  unfold frC
  congr 1
  funext c
  rw [lot_bit]
theorem pls_all (cs : List (List Nat)) : ∀ i, i ≤ cs.length → ((plsC cs i).flatMap fun pl => (allS (cs.drop i) (lotC pl)).map fun s => pl ++ s) = allS cs 0
  | 0, _ => by
    show ([[]] : List (List Nat)).flatMap _ = _
    rw [List.flatMap_cons, List.flatMap_nil, List.append_nil]
    show (allS cs 0).map (fun s => [] ++ s) = _
    simp
  | i + 1, hi => by
    rw [← pls_all cs i (by omega)]
    show ((plsC cs i).flatMap _).flatMap _ = _
    rw [List.flatMap_assoc]
    congr 1
    funext pl
    have ed : cs.drop i = cs.getD i [] :: cs.drop (i + 1) := by
      rw [List.getD_eq_getElem?_getD, List.getElem?_eq_getElem (by omega)]
      exact List.drop_eq_getElem_cons (by omega)
    rw [ed]
    show _ = ((frC (cs.getD i []) (lotC pl)).flatMap _).map _
    rw [List.flatMap_map, List.map_flatMap, frC_lot]
    congr 1
    funext c
    rw [List.map_map, lot_snoc]
    congr 1
    funext s
    simp
theorem pls_full (cs : List (List Nat)) : plsC cs cs.length = allS cs 0 := by
  rw [← pls_all cs cs.length (Nat.le_refl _), List.drop_length]
  show _ = (plsC cs cs.length).flatMap fun pl => [pl ++ []]
  simp
theorem all_ne {r : List Nat} {rs : List (List Nat)} {t : Nat} : allS (r :: rs) t ≠ [] ↔ ∃ c ∈ frC r t, allS rs (t ||| 2 ^ c) ≠ [] := by
  show (frC r t).flatMap _ ≠ [] ↔ _
  rw [Ne, List.flatMap_eq_nil_iff]
  simp
/-- who is first -/
theorem hd_all {r : List Nat} {rs : List (List Nat)} {t : Nat} {q : List Nat} (h : (allS (r :: rs) t).head? = some q) :
    ∃ c s l, q = c :: s ∧ ((frC r t).filter fun c => !(allS rs (t ||| 2 ^ c)).isEmpty) = c :: l ∧ (allS rs (t ||| 2 ^ c)).head? = some s := by
  have go : ∀ L : List Nat, (L.flatMap fun c => (allS rs (t ||| 2 ^ c)).map fun s => c :: s).head? = some q → ∃ c s l, q = c :: s ∧ (L.filter fun c => !(allS rs (t ||| 2 ^ c)).isEmpty) = c :: l ∧ (allS rs (t ||| 2 ^ c)).head? = some s := by
    intro L
    induction L with
    | nil => intro h; simp at h
    | cons a L ih =>
      intro h
      rw [List.flatMap_cons] at h
      cases e : allS rs (t ||| 2 ^ a) with
      | nil =>
        rw [e] at h
        obtain ⟨c, s, l, h1, h2, h3⟩ := ih (by simpa using h)
        exact ⟨c, s, l, h1, by rw [List.filter_cons, e]; exact h2, h3⟩
      | cons s0 ss =>
        rw [e] at h
        simp only [List.map_cons, List.cons_append, List.head?_cons, Option.some.injEq] at h
        exact ⟨a, s0, _, h.symm, by rw [List.filter_cons, e]; rfl, by rw [e]; rfl⟩
  exact go _ h
def wt (φ : Nat → Int) (l : LK) : Int := (l.map fun p => p.2 * φ p.1).sum
theorem sum_app (a b : List Int) : (a ++ b).sum = a.sum + b.sum := by
  induction a with
  | nil => simp
  | cons x a ih => rw [List.cons_append, List.sum_cons, List.sum_cons, ih, Int.add_assoc]
theorem sum_flat {α : Type} (f : α → List Int) (l : List α) : (l.flatMap f).sum = (l.map fun x => (f x).sum).sum := by
  induction l with
  | nil => rfl
  | cons x l ih => rw [List.flatMap_cons, sum_app, ih, List.map_cons, List.sum_cons]
theorem wt_repl {φ : Nat → Int} {k : Nat} {v : Int} : ∀ l : LK, (l.map (·.1)).Nodup → (l.any fun p => decide (p.1 = k)) = true → wt φ (l.map fun p => if p.1 = k then (p.1, v) else p) = wt φ l + (v - (getN l k).getD 0) * φ k
  | [], _, h => by simp at h
  | (a, x) :: l, nd, h => by
    have nd2 := List.nodup_cons.mp (by simpa using nd : (a :: l.map (·.1)).Nodup)
    by_cases e : a = k
    · subst e
      have same : (l.map fun p => if p.1 = a then (p.1, v) else p) = l := by
        have : (l.map fun p => if p.1 = a then (p.1, v) else p) = l.map id := List.map_congr_left fun p hp => by
          rw [if_neg fun z => nd2.1 (List.mem_map.mpr ⟨p, hp, z⟩)]
          rfl
        rw [this, List.map_id]
      have hg : getN ((a, x) :: l) a = some x := by
        unfold getN
        rw [List.find?_cons, decide_eq_true rfl]
        rfl
      rw [hg, List.map_cons, if_pos rfl, same]
      unfold wt
      simp only [List.map_cons, List.sum_cons, Option.getD_some]
      rw [Int.sub_mul]
      omega
    · have h' : (l.any fun p => decide (p.1 = k)) = true := by simpa [e] using h
      have ih := wt_repl (φ := φ) (v := v) l nd2.2 h'
      have hg : getN ((a, x) :: l) k = getN l k := by
        unfold getN
        rw [List.find?_cons, decide_eq_false e]
      rw [hg, List.map_cons, if_neg e]
      unfold wt at ih ⊢
      simp only [List.map_cons, List.sum_cons]
      rw [ih]
      omega
theorem wt_add {φ : Nat → Int} {k : Nat} {m : Int} {l : LK} (nd : (l.map (·.1)).Nodup) : wt φ (addN l k m) = wt φ l + m * φ k := by
  unfold addN putN
  by_cases h : (l.any fun p => decide (p.1 = k)) = true
  · rw [if_pos h, wt_repl l nd h]
    congr 2
    omega
  · rw [if_neg h]
    have hg : getN l k = none := by
      unfold getN
      rw [List.find?_eq_none.mpr fun p hp z => h (List.any_eq_true.mpr ⟨p, hp, z⟩)]
      rfl
    rw [hg]
    unfold wt
    rw [List.map_append, sum_app]
    simp
theorem wt_inn {φ : Nat → Int} {t : Nat} {m : Int} : ∀ (cs : List Nat) {acc : LK}, (acc.map (·.1)).Nodup → wt φ (innN t m cs acc) = wt φ acc + (cs.map fun c => m * φ (t ||| 2 ^ c)).sum ∧ ((innN t m cs acc).map (·.1)).Nodup
  | [], acc, h => ⟨by simp [innN], h⟩
  | c :: cs, acc, h => by
    have h2 : ((addN acc (t ||| 2 ^ c) m).map (·.1)).Nodup := nodup_put h _ _
    obtain ⟨a, b⟩ := wt_inn (φ := φ) (t := t) (m := m) cs h2
    refine ⟨?_, b⟩
    show wt φ (innN t m cs (addN acc (t ||| 2 ^ c) m)) = _
    rw [a, wt_add h, List.map_cons, List.sum_cons]
    omega
theorem wt_fold {φ : Nat → Int} {xs : List D} : ∀ (l : LK) {acc : LK}, (acc.map (·.1)).Nodup → wt φ (l.foldl (fun acc p => innN p.1 p.2 (freeN xs p.1) acc) acc) = wt φ acc + wt (fun t => ((freeN xs t).map fun c => φ (t ||| 2 ^ c)).sum) l
  | [], acc, _ => by simp [wt]
  | p :: l, acc, h => by
    obtain ⟨a, b⟩ := wt_inn (φ := φ) (t := p.1) (m := p.2) (freeN xs p.1) h
    rw [List.foldl_cons, wt_fold l b, a]
    unfold wt
    rw [List.map_cons, List.sum_cons]
    have e : ((freeN xs p.1).map fun c => p.2 * φ (p.1 ||| 2 ^ c)).sum = p.2 * ((freeN xs p.1).map fun c => φ (p.1 ||| 2 ^ c)).sum := by
      induction freeN xs p.1 with
      | nil => simp
      | cons c cs ih => rw [List.map_cons, List.map_cons, List.sum_cons, List.sum_cons, ih, Int.mul_add]
    rw [e]
    exact Int.add_assoc _ _ _
/-- the columns that are there -/
def CsOf (rows : List (List D)) (cs : List (List Nat)) : Prop := cs.length = rows.length ∧ ∀ i t, freeN (rows.getD i []) t = frC (cs.getD i []) t
theorem wt_pls {rows : List (List D)} {cs : List (List Nat)} (h : CsOf rows cs) : ∀ (i : Nat) (φ : Nat → Int), wt φ (lotAt rows i) = ((plsC cs i).map fun pl => φ (lotC pl)).sum
  | 0, φ => by simp [wt, lotAt, plsC, lotC]
  | i + 1, φ => by
    show wt φ (lotStep (rows.getD i []) (lotAt rows i)) = _
    unfold lotStep
    rw [wt_fold _ (by simp), wt_pls h i]
    show 0 + _ = (((plsC cs i).flatMap _).map _).sum
    rw [List.map_flatMap, sum_flat, Int.zero_add]
    congr 1
    refine List.map_congr_left fun pl _ => ?_
    rw [h.2, frC_lot, List.map_map]
    congr 1
    refine List.map_congr_left fun c _ => ?_
    show φ (lotC pl ||| 2 ^ c) = φ (lotC (pl ++ [c]))
    rw [lot_snoc]
theorem many_is {rows : List (List D)} {cs : List (List Nat)} (h : CsOf rows cs) : ((lotAt rows rows.length).map (·.2)).sum = ((plsC cs cs.length).length : Int) := by
  have := wt_pls h rows.length fun _ => 1
  rw [h.1]
  unfold wt at this
  have e1 : ((lotAt rows rows.length).map fun p => p.2 * 1) = (lotAt rows rows.length).map (·.2) := List.map_congr_left fun p _ => Int.mul_one _
  rw [e1] at this
  rw [this]
  induction plsC cs rows.length with
  | nil => rfl
  | cons x l ih =>
    rw [List.map_cons, List.sum_cons, ih, List.length_cons]
    omega
theorem keys_inn' {t : Nat} {k : Int} {x : Nat} : ∀ (cs : List Nat) (acc : LK), x ∈ (innN t k cs acc).map (·.1) → x ∈ acc.map (·.1) ∨ ∃ c ∈ cs, x = t ||| 2 ^ c
  | [], acc, h => .inl h
  | c :: cs, acc, h => by
    rcases keys_inn' cs (addN acc (t ||| 2 ^ c) k) h with h | ⟨d, hd, e⟩
    · rcases (keys_put _ _ _ _).mp h with h | h
      · exact .inl h
      · exact .inr ⟨c, List.mem_cons_self, h⟩
    · exact .inr ⟨d, List.mem_cons_of_mem _ hd, e⟩
theorem keys_fold' {xs : List D} {x : Nat} : ∀ (l : LK) (acc : LK), x ∈ (l.foldl (fun acc p => innN p.1 p.2 (freeN xs p.1) acc) acc).map (·.1) → x ∈ acc.map (·.1) ∨ ∃ p ∈ l, ∃ c ∈ freeN xs p.1, x = p.1 ||| 2 ^ c
  | [], acc, h => .inl h
  | p :: l, acc, h => by
    rcases keys_fold' l _ h with h | ⟨q, hq, z⟩
    · rcases keys_inn' _ _ h with h | z
      · exact .inl h
      · exact .inr ⟨p, List.mem_cons_self, z⟩
    · exact .inr ⟨q, List.mem_cons_of_mem _ hq, z⟩
theorem keys_pls {rows : List (List D)} {cs : List (List Nat)} (h : CsOf rows cs) : ∀ (i : Nat) (t : Nat), i ≤ rows.length → (t ∈ (lotAt rows i).map (·.1) ↔ ∃ pl ∈ plsC cs i, lotC pl = t)
  | 0, t, _ => by
    simp only [lotAt, plsC, lotC]
    simp
    exact eq_comm
  | i + 1, t, hi => by
    have er : rows[i]? = some (rows.getD i []) := by rw [List.getD_eq_getElem?_getD, List.getElem?_eq_getElem (by omega)]; rfl
    constructor
    · intro z
      have z : t ∈ (lotStep (rows.getD i []) (lotAt rows i)).map (·.1) := z
      rcases keys_fold' _ _ z with z | ⟨p, hp, c, hc, e⟩
      · simp at z
      · obtain ⟨pl, h1, h2⟩ := (keys_pls h i p.1 (by omega)).mp (List.mem_map.mpr ⟨p, hp, rfl⟩)
        rw [h.2, ← h2, frC_lot] at hc
        refine ⟨pl ++ [c], List.mem_flatMap.mpr ⟨pl, h1, List.mem_map.mpr ⟨c, hc, rfl⟩⟩, ?_⟩
        rw [lot_snoc, h2, e]
    · rintro ⟨q, hq, rfl⟩
      obtain ⟨pl, h1, h2⟩ := List.mem_flatMap.mp hq
      obtain ⟨c, hc, rfl⟩ := List.mem_map.mp h2
      rw [lot_snoc]
      refine keys_next er ((keys_pls h i _ (by omega)).mpr ⟨pl, h1, rfl⟩) ?_
      rw [h.2, frC_lot]
      exact hc
def opC (rows : List (List D)) : Nat → List Nat
  | 0 => (lotAt rows rows.length).map (·.1)
  | j + 1 => ((lotAt rows (rows.length - (j + 1))).map (·.1)).filter fun t => (freeN (rows.getD (rows.length - (j + 1)) []) t).any fun c => decide (t ||| 2 ^ c ∈ opC rows j)
def opAt (rows : List (List D)) (i : Nat) : List Nat := opC rows (rows.length - i)
theorem op_mem {rows : List (List D)} {cs : List (List Nat)} (h : CsOf rows cs) : ∀ (j t : Nat), j ≤ rows.length → (t ∈ opC rows j ↔ t ∈ (lotAt rows (rows.length - j)).map (·.1) ∧ allS (cs.drop (rows.length - j)) t ≠ [])
  | 0, t, _ => by
    show t ∈ (lotAt rows rows.length).map (·.1) ↔ _
    rw [Nat.sub_zero, ← h.1, List.drop_length]
    simp [allS]
  | j + 1, t, hj => by
    show t ∈ List.filter _ _ ↔ _
    have e1 : rows.length - (j + 1) + 1 = rows.length - j := by omega
    have hi : rows.length - (j + 1) < rows.length := by omega
    generalize rows.length - (j + 1) = i at e1 hi
    have er : rows[i]? = some (rows.getD i []) := by rw [List.getD_eq_getElem?_getD, List.getElem?_eq_getElem (by omega)]; rfl
    have ed : cs.drop i = cs.getD i [] :: cs.drop (i + 1) := by
      have := h.1
      rw [List.getD_eq_getElem?_getD, List.getElem?_eq_getElem (by omega)]
      exact List.drop_eq_getElem_cons (by omega)
    rw [List.mem_filter, ed, all_ne, List.any_eq_true]
    refine and_congr_right fun ht => ⟨fun ⟨c, hc, z⟩ => ?_, fun ⟨c, hc, z⟩ => ?_⟩
    · have := ((op_mem h j _ (by omega)).mp (of_decide_eq_true z)).2
      rw [← e1] at this
      exact ⟨c, by rw [← h.2]; exact hc, this⟩
    · rw [← h.2] at hc
      refine ⟨c, hc, decide_eq_true ((op_mem h j _ (by omega)).mpr ?_)⟩
      rw [← e1]
      exact ⟨keys_next er ht hc, z⟩
theorem opAt_mem {rows : List (List D)} {cs : List (List Nat)} (h : CsOf rows cs) {i t : Nat} (hi : i ≤ rows.length) : t ∈ opAt rows i ↔ (∃ pl ∈ plsC cs i, lotC pl = t) ∧ allS (cs.drop i) t ≠ [] := by
  unfold opAt
  rw [op_mem h _ _ (by omega), show rows.length - (rows.length - i) = i by omega, keys_pls h i t hi]
theorem opAt_next {rows : List (List D)} {i : Nat} (hi : i < rows.length) : opAt rows i = ((lotAt rows i).map (·.1)).filter fun t => (freeN (rows.getD i []) t).any fun c => decide (t ||| 2 ^ c ∈ opAt rows (i + 1)) := by
  unfold opAt
  have e : rows.length - i = (rows.length - (i + 1)) + 1 := by omega
  rw [e]
  show List.filter _ _ = _
  rw [show rows.length - (rows.length - (i + 1) + 1) = i by omega]
theorem opAt_last (rows : List (List D)) : opAt rows rows.length = (lotAt rows rows.length).map (·.1) := by
  unfold opAt
  rw [Nat.sub_self]
  rfl
end PD
namespace PD
open PySem PySem.Spec PyProof.Rows L2
theorem pls_len {cs : List (List Nat)} : ∀ (i : Nat) (pl : List Nat), pl ∈ plsC cs i → pl.length = i
  | 0, pl, h => by rw [List.mem_singleton.mp h]; rfl
  | i + 1, pl, h => by
    obtain ⟨p0, h1, h2⟩ := List.mem_flatMap.mp h
    obtain ⟨c, _, rfl⟩ := List.mem_map.mp h2
    rw [List.length_append, pls_len i p0 h1]
    rfl
/-- a cell that some placing has -/
def LiveC (cs : List (List Nat)) (p : Nat × Nat) : Prop := ∃ q ∈ plsC cs cs.length, q[p.1]? = some p.2
instance (cs : List (List Nat)) (p : Nat × Nat) : Decidable (LiveC cs p) := decidable_of_iff (∃ q ∈ plsC cs cs.length, q[p.1]? = some p.2) Iff.rfl
theorem live_iff {rows : List (List D)} {cs : List (List Nat)} (h : CsOf rows cs) {i c : Nat} (hi : i < rows.length) : (∃ t ∈ opAt rows i, c ∈ freeN (rows.getD i []) t ∧ t ||| 2 ^ c ∈ opAt rows (i + 1)) ↔ LiveC cs (i, c) := by
  have ed : cs.drop i = cs.getD i [] :: cs.drop (i + 1) := by
    have := h.1
    rw [List.getD_eq_getElem?_getD, List.getElem?_eq_getElem (by omega)]
    exact List.drop_eq_getElem_cons (by omega)
  have full : ∀ k, k ≤ cs.length → ∀ q, q ∈ plsC cs cs.length ↔ ∃ pl ∈ plsC cs k, ∃ s ∈ allS (cs.drop k) (lotC pl), q = pl ++ s := fun k hk q => by
    rw [pls_full, ← pls_all cs k hk]
    simp only [List.mem_flatMap, List.mem_map, eq_comm]
  have lr := h.1
  constructor
  · rintro ⟨t, ht, hc, hn⟩
    obtain ⟨⟨pl, h1, rfl⟩, _⟩ := (opAt_mem h (by omega)).mp ht
    obtain ⟨_, h2⟩ := (opAt_mem h (by omega)).mp hn
    obtain ⟨s, hs⟩ := List.exists_mem_of_ne_nil _ h2
    have l1 := pls_len i pl h1
    rw [h.2] at hc
    refine ⟨pl ++ (c :: s), (full i (by omega) _).mpr ⟨pl, h1, c :: s, ?_, rfl⟩, ?_⟩
    · rw [ed]
      exact List.mem_flatMap.mpr ⟨c, hc, List.mem_map.mpr ⟨s, hs, rfl⟩⟩
    · show (pl ++ c :: s)[i]? = some c
      rw [List.getElem?_append_right (by omega), l1, Nat.sub_self]
      rfl
  · rintro ⟨q, hq, hqi⟩
    obtain ⟨pl, h1, s, hs, rfl⟩ := (full i (by omega) q).mp hq
    have l1 := pls_len i pl h1
    have hqi : (pl ++ s)[i]? = some c := hqi
    rw [List.getElem?_append_right (by omega), l1, Nat.sub_self] at hqi
    have ne : allS (cs.drop i) (lotC pl) ≠ [] := fun z => by rw [z] at hs; cases hs
    rw [ed] at hs
    obtain ⟨d, hd, hs⟩ := List.mem_flatMap.mp hs
    obtain ⟨s', hs', rfl⟩ := List.mem_map.mp hs
    cases hqi
    refine ⟨lotC pl, (opAt_mem h (by omega)).mpr ⟨⟨pl, h1, rfl⟩, ne⟩, by rw [h.2]; exact hd, (opAt_mem h (by omega)).mpr ⟨⟨pl ++ [c], ?_, lot_snoc pl c⟩, fun z => by rw [z] at hs'; cases hs'⟩⟩
    refine List.mem_flatMap.mpr ⟨pl, h1, List.mem_map.mpr ⟨c, ?_, rfl⟩⟩
    rw [← frC_lot]
    exact hd
/-- in their order, each once -/
def liveL (cs : List (List Nat)) (m : Nat) : List (Nat × Nat) := (List.range cs.length).flatMap fun i => ((List.range m).filter fun c => decide (LiveC cs (i, c))).map fun c => (i, c)
theorem liveL_mem {cs : List (List Nat)} {m : Nat} (h : ∀ p, LiveC cs p → p.1 < cs.length ∧ p.2 < m) (p : Nat × Nat) : p ∈ liveL cs m ↔ LiveC cs p := by
  unfold liveL
  rw [List.mem_flatMap]
  constructor
  · rintro ⟨i, _, hp⟩
    obtain ⟨c, hc, rfl⟩ := List.mem_map.mp hp
    exact of_decide_eq_true (List.mem_filter.mp hc).2
  · intro z
    obtain ⟨a, b⟩ := h p z
    exact ⟨p.1, List.mem_range.mpr a, List.mem_map.mpr ⟨p.2, List.mem_filter.mpr ⟨List.mem_range.mpr b, decide_eq_true z⟩, rfl⟩⟩
theorem leP_flat {f : Nat → List Nat} (hf : ∀ i, (f i).Pairwise (· < ·)) : ∀ {L : List Nat}, L.Pairwise (· < ·) → ((L.flatMap fun i => (f i).map fun c => (i, c)).Pairwise leP ∧ (L.flatMap fun i => (f i).map fun c => (i, c)).Nodup)
  | [], _ => ⟨.nil, List.nodup_nil⟩
  | a :: L, h => by
    obtain ⟨h1, h2⟩ := List.pairwise_cons.mp h
    obtain ⟨r1, r2⟩ := leP_flat hf h2
    rw [List.flatMap_cons]
    have mem : ∀ x ∈ (f a).map fun c => (a, c), ∀ y ∈ L.flatMap fun i => (f i).map fun c => (i, c), x.1 < y.1 := fun x hx y hy => by
      obtain ⟨c, _, rfl⟩ := List.mem_map.mp hx
      obtain ⟨i, hi, hy⟩ := List.mem_flatMap.mp hy
      obtain ⟨d, _, rfl⟩ := List.mem_map.mp hy
      exact h1 i hi
    refine ⟨List.pairwise_append.mpr ⟨List.pairwise_map.mpr ((hf a).imp fun z => .inr ⟨rfl, Nat.le_of_lt z⟩), r1, fun x hx y hy => .inl (mem x hx y hy)⟩, List.nodup_append.mpr ⟨?_, r2, fun x hx y hy e => ?_⟩⟩
    · refine List.pairwise_map.mpr ((hf a).imp fun z e => ?_)
      have := congrArg Prod.snd e
      simp only at this
      omega
    · have := mem x hx y hy
      rw [e] at this
      omega
theorem liveL_ok (cs : List (List Nat)) (m : Nat) : (liveL cs m).Pairwise leP ∧ (liveL cs m).Nodup := leP_flat (fun i => List.Pairwise.filter _ List.pairwise_lt_range) List.pairwise_lt_range
/-- so much tells such a list -/
theorem leP_uniq {l m : List (Nat × Nat)} (h1 : l.Nodup) (h2 : m.Nodup) (p1 : l.Pairwise leP) (p2 : m.Pairwise leP) (h : ∀ x, x ∈ l ↔ x ∈ m) : l = m := leP_one ((List.perm_ext_iff_of_nodup h1 h2).mpr h) p1 p2
def putP (l : List (Nat × Nat)) (p : Nat × Nat) : List (Nat × Nat) := if p ∈ l then l else l ++ [p]
theorem putP_mem (l : List (Nat × Nat)) (p x : Nat × Nat) : x ∈ putP l p ↔ x ∈ l ∨ x = p := by
  unfold putP
  split
  · exact ⟨.inl, fun z => z.elim id fun e => by rw [e]; assumption⟩
  · rw [List.mem_append, List.mem_singleton]
theorem putP_nodup {l : List (Nat × Nat)} (h : l.Nodup) (p : Nat × Nat) : (putP l p).Nodup := by
  unfold putP
  split
  · exact h
  · rename_i n
    rw [List.nodup_append]
    exact ⟨h, by simp, fun a ha b hb e => n (by rw [List.mem_singleton.mp hb] at e; exact e ▸ ha)⟩
abbrev kyT (p : Nat × Nat) : List Key := [Sum.inl ((p.1 : Nat) : Int), Sum.inl ((p.2 : Nat) : Int)]
theorem kyT_inj {p q : Nat × Nat} : kyT p = kyT q ↔ p = q := by
  constructor
  · intro e
    simp only [List.cons.injEq, Sum.inl.injEq, and_true] at e
    exact Prod.ext (by omega) (by omega)
  · intro e
    rw [e]
theorem truT_put (l : List (Nat × Nat)) (p : Nat × Nat) : HO.dT (putK (l.map fun p => (kyT p, V.bl true)) (kyT p) (.bl true)) = truT (putP l p) := by
  have ha : ((l.map fun p => (kyT p, V.bl true)).any fun x => decide (x.1 = kyT p)) = decide (p ∈ l) := by
    rw [List.any_map]
    induction l with
    | nil => rfl
    | cons a l ih =>
      rw [List.any_cons, ih]
      by_cases z : a = p
      · simp [z]
      · have : ¬ (kyT a = kyT p) := fun e => z (kyT_inj.mp e)
        simp only [Function.comp, this, decide_false, Bool.false_or, List.mem_cons, decide_eq_decide]
        exact ⟨.inr, fun y => y.elim (fun e => absurd e.symm z) id⟩
  unfold putK putP truT
  rw [ha]
  by_cases z : p ∈ l
  · rw [if_pos z, if_pos (decide_eq_true z), List.map_map]
    congr 1
    refine List.map_congr_left fun a _ => ?_
    show (if kyT a = kyT p then (kyT a, V.bl true) else (kyT a, V.bl true)) = _
    split <;> rfl
  · rw [if_neg z, if_neg (by simpa using z), List.map_append]
    rfl
section
variable {W : Wd} {qs : List Addr} {js : List Nat} {os : List HO} {δ : DS} {N : List HO → DS → Prop} {ts tu : TS} {te tl td ty tv : TE} {tt : TT} {g : TG} {Wx : WX} {X : XV → DS → Prop} {R : D → Prop} {B C N0 : DS → Prop}
/-- d[(x, y)] = True -/
theorem fk_putT {i j a b x y : Nat} {q : Addr} {l : List (Nat × Nat)} (hj : δ[j]? = some (some (.obj q))) (hq : qs[i]? = some q) (hl : os[i]? = some (truT l)) (ha : δ[a]? = some (some (.int ((x : Nat) : Int)))) (hb : δ[b]? = some (some (.int ((y : Nat) : Int)))) (ll : l.length < 100000) (h : N (os.set i (truT (putP l (x, y)))) δ) :
    FK W (sDPut (tVar j) (tTup (tCons (tVar a) (tCons (tVar b) tNil))) (tC (.bl true))) qs js os δ N := fun M σ H E p w o => by
  obtain ⟨v0, s0, r0⟩ := p.sl.get j _ hj
  cases r0
  obtain ⟨v1, s1, r1⟩ := p.sl.get a _ ha
  cases r1
  obtain ⟨v2, s2, r2⟩ := p.sl.get b _ hb
  cases r2
  obtain ⟨mq, eq, dq⟩ := w.at' i _ _ hq hl
  refine ⟨_, s0, _, s1, _, s2, by show 2 ≤ sizeLine; rw [sizeLine_eq]; decide, fun t ht => ?_⟩
  have g1 := p.wf.g.new (o := .tup [.int ((x : Nat) : Int), .int ((y : Nat) : Int)]) ht
  have k1 : Keep W H (upd H t (.tup [.int ((x : Nat) : Int), .int ((y : Nat) : Int)])) := Keep.new ht
  have p2 := p.next g1 k1
  have w2 := w.keep p.wf k1
  have eq2 := k1 _ _ (ns_dk p.wf.g eq dq) eq
  obtain ⟨p3, rr⟩ := f_upd (u := truT (putP l (x, y))) p2 mq eq2 dq
  refine ⟨q, upd (upd H t (.tup [.int ((x : Nat) : Int), .int ((y : Nat) : Int)])) q (truT (putP l (x, y))), rfl, ?_, ?_⟩
  · rw [← truT_put]
    exact DPut.t (k := kyT (x, y)) eq2 upd_same (by rw [List.length_map]; exact Nat.lt_of_lt_of_le ll (by rw [sizeLine_eq]; decide))
  · refine o σ δ _ _ p3 (w2.put hq (truT_dk _)) (fun b u ns nq hb => ?_) rfl h
    have bq : b ≠ q := fun z => nq (by rw [z]; exact List.mem_of_getElem? hq)
    rw [upd_ne bq]
    exact k1 b u ns hb
/-- d = {}, what fills it, return sorted(d) -/
theorem sd_famT {i : Nat} (hi : i ∉ js) (hl : i < δ.length)
    (h : ∀ q, FK W ts [q] js [truT []] (δ.set i (some (.obj q))) fun os' _ => ∃ l, os' = [truT l] ∧ ∀ l' : List (Nat × Nat), l'.Perm l → l'.Pairwise leP → R (nnsD l')) :
    SX W Wx (tSeq (tAsg tDNewT (gName i)) (tSeq ts (tRet (tCB rSortDT (tCons (tVar i) tNil))))) δ N0 R B C X := fun M0 H0 M σ H E p e o => by
  intro q hq
  have none_M : ∀ b, H b = none → ¬ M b := fun b hb m => by
    obtain ⟨u, hu⟩ := p.wf.dom b m
    rw [hb] at hu
    cases hu
  let Mk : Addr → Prop := fun b => M b ∨ b = q
  have new : ∀ b, Mk b → ¬ M b → H b = none := fun b x y => by
    rcases x with x | x
    · exact absurd x y
    · rw [x]; exact hq
  have g1 : StOk W (upd H q (.dT [])) := p.wf.g.new hq
  have k1 : Keep W H (upd H q (.dT [])) := Keep.new hq
  have wg : Wg W Mk H := ⟨p.wf.g, fun b z => .inl (p.wf.sm b z)⟩
  have pk : Pre W Mk (δ.set i (some (.obj q))) (σ.set i (some (.ref q))) (upd H q (.dT [])) := by
    refine ⟨⟨g1, fun b z => .inl (p.wf.sm b z), fun b x => ?_⟩, Slots.set ⟨p.sl.len, fun k x hx => ?_⟩ i (.obj q)⟩
    · rcases x with x | x
      · exact (p.wf.next g1 k1).dom b x
      · rw [x]; exact ⟨_, upd_same⟩
    · obtain ⟨v, h3, h4⟩ := p.sl.get k x hx
      exact ⟨v, h3, (h4.more new).keepG wg k1⟩
  have ow : OwnF Mk [q] [truT []] (upd H q (.dT [])) := ⟨by simp, rfl, fun k b u h1 h2 => by
    cases k with
    | zero =>
      cases h1
      cases h2
      exact ⟨.inr rfl, upd_same, truT_dk []⟩
    | succ k => simp at h1⟩
  refine h q Mk (σ.set i (some (.ref q))) _ { E with nx := tRet (tCB rSortDT (tCons (tVar i) tNil)) E } pk ow fun σ' δ' os' H' p' w' k' z' ⟨l, hos, hR⟩ => ?_
  subst hos
  have s1 : σ'[i]? = some (some (.ref q)) := by rw [wipe_off z' hi, List.getElem?_set_self (by rw [p.sl.len]; exact hl)]
  obtain ⟨_, eq, _⟩ := w'.at' 0 q _ rfl rfl
  refine ⟨_, s1, q, l, rfl, eq, fun L' t pm pw hL ht => ?_⟩
  have kk : Keep W H H' := fun b u ns hb => by
    have bq : b ≠ q := fun z => by rw [z, hq] at hb; cases hb
    exact k' b u ns (fun z => bq (List.mem_singleton.mp z)) (k1 b u ns hb)
  have kt : Keep W H' (upd H' t (.lst (L'.map fun x => V.ref x.1))) := Keep.new ht
  refine o.rt _ (nnsD (L'.map (·.2))) _ (p'.wf.g.new ht) ((e.k.trans kk).trans kt) (.lst (fun m => ?_) upd_same (nn_reps fun x hx => ?_)) (hR _ pm (List.pairwise_map.mpr pw))
  · obtain ⟨u, hu⟩ := p'.wf.dom t (.inl (e.m _ m))
    rw [ht] at hu
    cases hu
  · have := hL x hx
    have xt : x.1 ≠ t := fun z => by rw [z, ht] at this; cases this
    exact .inl (.inl (by rw [upd_ne xt]; exact this))
end
/-- a list of such dicts while one of them is locked: each may be it -/
theorem lock_dicts {W : Wd} {M : Addr → Prop} {σ : L2.St} {H : Hp} {δ : DS} {j : Nat} {F : List (List Nat)} (hj : δ[j]? = some (some (.lst (F.map fun l => dicD (kvB l))))) (p : Pre W M δ σ H) {d : Addr} {kvs : List (Key × V)} {od : Obj} (hd : H d = some (.dK kvs)) :
    Pre W M ((lockD δ).set j (some (.lst (F.map fun l => dikD (kvB l))))) σ (upd H d (.frz od (.dK kvs))) := by
  have pl := p.lock (od := od) hd
  refine ⟨pl.wf, by rw [List.length_set]; exact pl.sl.len, fun k x hx => ?_⟩
  by_cases z : j = k
  · subst z
    have hl := (List.getElem?_eq_some_iff.mp hj).1
    have l2 : (lockD δ).length = δ.length := by unfold lockD; rw [List.length_map]
    rw [List.getElem?_set_self (by rw [l2]; exact hl)] at hx
    cases hx
    obtain ⟨v, h1, h2⟩ := p.sl.get j _ hj
    refine ⟨v, h1, ?_⟩
    cases h2 with
    | @lst a vs _ na ha hr =>
      have ad : a ≠ d := fun z => by rw [z, hd] at ha; cases ha
      refine .lst na (by rw [upd_ne ad]; exact ha) (reps_of (by rw [hr.length, List.length_map, List.length_map]) fun i v x h1 h2 => ?_)
      rw [List.getElem?_map] at h2
      cases e2 : F[i]? with
      | none => rw [e2] at h2; cases h2
      | some l =>
        rw [e2] at h2
        cases h2
        obtain ⟨v', h3, h4⟩ := hr.get (i := i) (d := dicD (kvB l)) (by rw [List.getElem?_map, e2]; rfl)
        rw [h1] at h3
        cases h3
        refine lockS_rep (x := dicD (kvB l)) hd ?_ h4
        exact lockS_dic fun q hq => by
          unfold kvB at hq
          obtain ⟨k, _, rfl⟩ := List.mem_map.mp hq
          rfl
  · rw [List.getElem?_set_ne z] at hx
    exact pl.sl.get k x hx
end PD
namespace PD
open PySem PySem.Spec PyProof.Rows L2
def csO (G : GO) : List (List Nat) := G.map thereN
theorem free_there2 (r : List Cel) (t : Nat) : freeN (r.map celO) t = frC (thereN r) t := by
  unfold freeN frC thereN
  rw [List.length_map, List.filter_filter]
  refine List.filter_congr fun c hc => ?_
  have hc := List.mem_range.mp hc
  have e1 : (r.map celO).getD c .non = celO r[c] := by rw [List.getD_eq_getElem?_getD, List.getElem?_map, List.getElem?_eq_getElem hc]; rfl
  have e2 : r.getD c none = r[c] := by rw [List.getD_eq_getElem?_getD, List.getElem?_eq_getElem hc]; rfl
  rw [e1, e2, isNon_cel, Bool.and_comm]
theorem cs_of (G : GO) : CsOf (rowsO G) (csO G) := ⟨by unfold csO rowsO; rw [List.length_map, List.length_map], fun i t => by
  have e1 : (rowsO G).getD i [] = (G.getD i []).map celO := by
    unfold rowsO
    rw [List.getD_eq_getElem?_getD, List.getD_eq_getElem?_getD, List.getElem?_map]
    cases G[i]? <;> rfl
  have e2 : (csO G).getD i [] = thereN (G.getD i []) := by
    unfold csO
    rw [List.getD_eq_getElem?_getD, List.getD_eq_getElem?_getD, List.getElem?_map]
    cases G[i]? <;> rfl
  rw [e1, e2, free_there2]⟩
theorem pls_to (G : GO) : ∀ i, plsTo G i = plsC (csO G) i
  | 0 => rfl
  | i + 1 => by
    show plNext (G.getD i []) (plsTo G i) = (plsC (csO G) i).flatMap _
    rw [pls_to G i]
    unfold plNext
    rw [List.flatMap_def]
    congr 1
    refine List.map_congr_left fun pl _ => ?_
    unfold plOne
    have e2 : (csO G).getD i [] = thereN (G.getD i []) := by
      unfold csO
      rw [List.getD_eq_getElem?_getD, List.getD_eq_getElem?_getD, List.getElem?_map]
      cases G[i]? <;> rfl
    rw [e2]
theorem cs_len (G : GO) : (csO G).length = G.length := by unfold csO; rw [List.length_map]
theorem sq_rows {n m : Nat} {G : GO} (sq : SqO n m G) : ∀ r ∈ rowsO G, r.length = m ∧ D.nodks r = true := fun r hr => by
  unfold rowsO at hr
  obtain ⟨r0, h0, rfl⟩ := List.mem_map.mp hr
  exact ⟨by rw [List.length_map, (sq.2 r0 h0).1], nodks_row r0⟩
theorem rowsO_len (G : GO) : (rowsO G).length = G.length := by unfold rowsO; rw [List.length_map]
theorem toKv_snd (l : LK) : (toKv l).map (·.2) = (l.map (·.2)).map D.int := by
  unfold toKv
  rw [List.map_map, List.map_map]
  rfl
theorem op_inLK {X : Cx} {K : PySem.W.Frag} (h : X.K = K) (hu : X.A.units + 65 < cLine) : OpR X (compareOp .In) (rInD K) := by subst h; exact op_inD hu
theorem any_pyL (x : D) : ∀ ys : List D, (D.pys ys).any (fun z => PyData.eqv z x.py) = ys.any fun y => y.eqv x
  | [] => rfl
  | y :: ys => by
    show (PyData.eqv y.py x.py || _) = (y.eqv x || _)
    rw [any_pyL x ys]
    rfl
theorem rd_inL {W : Wd} {P : D → Prop} {x : D} {ys : List D} (hx : x.fine = true) (hy : (D.lst ys).fine = true) (h : P (.bl (ys.any fun y => y.eqv x))) : RD W (rInD W.K) x (.lst ys) P := fun M H v u w r1 r2 Q q => by
  unfold D.fine at hx hy
  simp only [Bool.and_eq_true] at hx hy
  refine ⟨x.py, D.pys ys, dp_of r1 hx.1, dp_of r2 hy.1, hx.2, hy.2, ?_⟩
  rw [any_pyL]
  exact q _ _ H w.g (Keep.refl H) (.bl _) h
theorem rd_ixLl {W : Wd} {P : D → Prop} {ds : List D} {d : D} (h : ds[ds.length - 1]? = some d) (hP : P d) : RD W (rIx W.K) (.lst ds) (.int (-1)) P := fun M H v u w r1 r2 Q q => by
  cases r2
  cases r1 with
  | @lst a vs _ na ha hr =>
    obtain ⟨x, hx, rx⟩ := hr.get h
    have hl := (List.getElem?_eq_some_iff.mp hx).1
    refine .inl ⟨a, vs, -1, x, rfl, rfl, .inl (.inl ha), ?_, q _ _ H w.g (Keep.refl H) rx hP⟩
    unfold atI ixN
    rw [if_neg (by omega), if_pos (by omega)]
    show vs[((-1 : Int) + (vs.length : Int)).toNat]? = some x
    rw [show ((-1 : Int) + (vs.length : Int)).toNat = ds.length - 1 by have := hr.length; omega]
    exact hx
/-- the lots so far: those from row m - i on -/
def opTo (R : List (List D)) (m i : Nat) : List (List Nat) := (List.range (m + 1)).map fun k => if m - i ≤ k then opAt R k else []
theorem opTo_at {R : List (List D)} {m i k : Nat} (hk : k ≤ m) : (opTo R m i)[k]? = some (if m - i ≤ k then opAt R k else []) := by
  unfold opTo
  rw [List.getElem?_map, List.getElem?_range (by omega)]
  rfl
theorem opTo_full (R : List (List D)) (m : Nat) : opTo R m m = (List.range (m + 1)).map (opAt R) := by
  unfold opTo
  exact List.map_congr_left fun k _ => by rw [if_pos (by omega)]
theorem opTo_next {R : List (List D)} {m i i0 : Nat} (h : i0 + (i + 1) = m) : (opTo R m i).set i0 (opAt R i0) = opTo R m (i + 1) := by
  apply List.ext_getElem?
  intro k
  by_cases hk : k ≤ m
  · rw [opTo_at hk, List.getElem?_set]
    by_cases e : i0 = k
    · subst e
      rw [if_pos rfl, if_pos (by unfold opTo; rw [List.length_map, List.length_range]; omega), if_pos (by omega)]
    · rw [if_neg e, opTo_at hk]
      congr 1
      by_cases z : m - i ≤ k
      · rw [if_pos z, if_pos (by omega)]
      · rw [if_neg z, if_neg (by omega)]
  · rw [List.getElem?_eq_none (by rw [List.length_set]; unfold opTo; rw [List.length_map, List.length_range]; omega), List.getElem?_eq_none (by unfold opTo; rw [List.length_map, List.length_range]; omega)]
theorem opTo_none {R : List (List D)} {m i i0 : Nat} (h : i0 + (i + 1) = m) : (opTo R m i).set i0 [] = opTo R m i := by
  have := opTo_at (R := R) (m := m) (i := i) (k := i0) (by omega)
  rw [if_neg (by omega)] at this
  obtain ⟨hl, e⟩ := List.getElem?_eq_some_iff.mp this
  rw [← e]
  exact List.set_getElem_self hl
theorem opTo_zero (R : List (List D)) (m : Nat) (h : opAt R m = (lotAt R m).map (·.1)) : List.replicate m (truK []) ++ [truK ((lotAt R m).map (·.1))] = (opTo R m 0).map truK := by
  unfold opTo
  rw [List.range_succ, List.map_append, List.map_append, List.map_cons, List.map_nil, if_pos (by omega), h, List.map_map]
  congr 1
  refine (List.eq_replicate_iff.mpr ⟨by rw [List.length_map, List.length_range], fun b hb => ?_⟩).symm
  obtain ⟨k, hk, rfl⟩ := List.mem_map.mp hb
  have := List.mem_range.mp hk
  show truK (if m - 0 ≤ k then opAt R k else []) = _
  rw [if_neg (by omega)]
theorem putU_new {l : List Nat} {k : Nat} (h : k ∉ l) : putU l k = l ++ [k] := if_neg h
section
variable {W : Wd} {qs : List Addr} {js : List Nat} {os : List HO} {δ : DS} {N : List HO → DS → Prop} {ts : TS} {ta : TA} {g : TG}
/-- for i, x in enumerate(t) -/
theorem fk_enumT (h : EvA W ta δ fun xs => ∃ ds, xs = [.tup ds] ∧ ∃ Inv : Nat → List HO → DS → Prop, Inv 0 os δ ∧ (∀ i d o' δ', (enumD ds)[i]? = some d → Inv i o' δ' → ∃ is, (∀ j ∈ is, j ∈ js) ∧ GD W g d δ' is fun δ2 => FK W ts qs js o' δ2 (Inv (i + 1))) ∧ ∀ o' δ', Inv ds.length o' δ' → N o' δ') :
    FK W (tFor (iEnumA W.K ta) g ts) qs js os δ N := fun M σ H E p w o => by
  refine .inl (h M σ H p _ fun vs xs H1 g1 k1 r1 h1 => ?_)
  obtain ⟨ds, rfl, I, i0, it, ie⟩ := h1
  have p1 := p.next g1 k1
  have w1 := w.keep p.wf k1
  cases r1 with
  | cons r1 r2 =>
    cases r2
    cases r1 with
    | @tup a us _ hs hr =>
      refine ⟨a, us, rfl, hs, ?_⟩
      have rt : Rep W M H1 (.ref a) (.tup ds) := .tup hs hr
      refine ⟨fun i m σ' H' => m = ds.length - i ∧ i ≤ ds.length ∧ ∃ os' δ', Pre W M δ' σ' H' ∧ OwnF M qs os' H' ∧ KeepF W qs H1 H' ∧ wipe σ' js = wipe σ js ∧ I i os' δ', ⟨_, rfl, Nat.zero_le _, os, δ, p1, w1, KeepF.refl H1, rfl, i0⟩, ?_⟩
      rintro i m σ' H' ⟨rfl, hi, os', δ', p', w', k', z', hI⟩
      have rt' := w1.rep w' p1.wf k' p'.wf.g rt
      cases rt' with
      | tup hs' hr' =>
        obtain ⟨s1, s2⟩ := src_enumT p'.wf hs' hr' M (fun _ z => z) (fun _ x y => absurd x y) i H' (fun _ _ _ _ h => h) p'.wf.g
        by_cases hlt : i < ds.length
        · obtain ⟨d, hd⟩ : ∃ d, (enumD ds)[i]? = some d := ⟨_, List.getElem?_eq_getElem (by rw [enumD_length]; exact hlt)⟩
          obtain ⟨hgo, hy⟩ := s2 d hd
          refine .inr ⟨hgo, fun σ2 H2 => ∃ os2 δ2, Pre W M δ2 σ2 H2 ∧ OwnF M qs os2 H2 ∧ KeepF W qs H1 H2 ∧ wipe σ2 js = wipe σ js ∧ I (i + 1) os2 δ2, ?_, fun x H3 y => ?_⟩
          · rintro σ2 H2 ⟨os2, δ2, q1, q2, q3, q4, q5⟩
            exact ⟨_, by omega, rfl, hlt, os2, δ2, q1, q2, q3, q4, q5⟩
          · obtain ⟨g3, k3, r3⟩ := hy x H3 y
            obtain ⟨is, his, hg⟩ := it i d os' δ' hd hI
            refine hg M σ' _ x (p'.next g3 k3) r3 _ fun σ4 δ4 p4 hb hw => ?_
            exact hb M σ4 _ _ p4 (w'.keep p'.wf k3) fun σ5 δ5 os5 H5 p5 w5 k5 z5 n5 => ⟨os5, δ5, p5, w5, (k'.trans k3.toF).trans k5, (z5.trans (hw js his)).trans z', n5⟩
        · have ee : i = ds.length := by omega
          refine .inl ⟨s1 (by rw [enumD_length]; exact ee), o σ' δ' os' H' p' w' (k1.toF.trans k') z' (ie _ _ ?_)⟩
          rw [← ee]
          exact hI
end
def liveIn (i : Nat) (O : List Nat) (t : Nat) (cs : List Nat) (l : List (Nat × Nat)) : List (Nat × Nat) := cs.foldl (fun l c => if t ||| 2 ^ c ∈ O then putP l (i, c) else l) l
def liveKey (i : Nat) (xs : List D) (O : List Nat) (ts : List Nat) (l : List (Nat × Nat)) : List (Nat × Nat) := ts.foldl (fun l t => liveIn i O t (freeN xs t) l) l
def liveRows (R : List (List D)) : Nat → List (Nat × Nat)
  | 0 => []
  | i + 1 => liveKey i (R.getD i []) (opAt R (i + 1)) (opAt R i) (liveRows R i)
theorem liveIn_next {i t b c : Nat} {O cs : List Nat} {l : List (Nat × Nat)} (h : cs[b]? = some c) : liveIn i O t (cs.take (b + 1)) l = if t ||| 2 ^ c ∈ O then putP (liveIn i O t (cs.take b) l) (i, c) else liveIn i O t (cs.take b) l := by
  unfold liveIn
  rw [take_one h, List.foldl_append]
  rfl
theorem liveKey_next {i a t : Nat} {xs : List D} {O ts : List Nat} {l : List (Nat × Nat)} (h : ts[a]? = some t) : liveKey i xs O (ts.take (a + 1)) l = liveIn i O t (freeN xs t) (liveKey i xs O (ts.take a) l) := by
  unfold liveKey
  rw [take_one h, List.foldl_append]
  rfl
theorem liveIn_mem {i t : Nat} {O : List Nat} {x : Nat × Nat} : ∀ (cs : List Nat) (l : List (Nat × Nat)), x ∈ liveIn i O t cs l ↔ x ∈ l ∨ (x.1 = i ∧ x.2 ∈ cs ∧ t ||| 2 ^ x.2 ∈ O)
  | [], l => by simp [liveIn]
  | c :: cs, l => by
    show x ∈ liveIn i O t cs (if t ||| 2 ^ c ∈ O then putP l (i, c) else l) ↔ _
    rw [liveIn_mem cs]
    by_cases z : t ||| 2 ^ c ∈ O
    · rw [if_pos z, putP_mem]
      constructor
      · rintro ((h | h) | ⟨h1, h2, h3⟩)
        · exact .inl h
        · rw [h]
          exact .inr ⟨rfl, List.mem_cons_self, z⟩
        · exact .inr ⟨h1, List.mem_cons_of_mem _ h2, h3⟩
      · rintro (h | ⟨h1, h2, h3⟩)
        · exact .inl (.inl h)
        · rcases List.mem_cons.mp h2 with h2 | h2
          · exact .inl (.inr (Prod.ext h1 h2))
          · exact .inr ⟨h1, h2, h3⟩
    · rw [if_neg z]
      constructor
      · rintro (h | ⟨h1, h2, h3⟩)
        · exact .inl h
        · exact .inr ⟨h1, List.mem_cons_of_mem _ h2, h3⟩
      · rintro (h | ⟨h1, h2, h3⟩)
        · exact .inl h
        · rcases List.mem_cons.mp h2 with h2 | h2
          · rw [h2] at h3
            exact absurd h3 z
          · exact .inr ⟨h1, h2, h3⟩
theorem liveKey_mem {i : Nat} {xs : List D} {O : List Nat} {x : Nat × Nat} : ∀ (ts : List Nat) (l : List (Nat × Nat)), x ∈ liveKey i xs O ts l ↔ x ∈ l ∨ (x.1 = i ∧ ∃ t ∈ ts, x.2 ∈ freeN xs t ∧ t ||| 2 ^ x.2 ∈ O)
  | [], l => by simp [liveKey]
  | t :: ts, l => by
    show x ∈ liveKey i xs O ts (liveIn i O t (freeN xs t) l) ↔ _
    rw [liveKey_mem ts, liveIn_mem]
    constructor
    · rintro ((h | ⟨h1, h2, h3⟩) | ⟨h1, t', h2, h3⟩)
      · exact .inl h
      · exact .inr ⟨h1, t, List.mem_cons_self, h2, h3⟩
      · exact .inr ⟨h1, t', List.mem_cons_of_mem _ h2, h3⟩
    · rintro (h | ⟨h1, t', h2, h3⟩)
      · exact .inl (.inl h)
      · rcases List.mem_cons.mp h2 with h2 | h2
        · rw [h2] at h3
          exact .inl (.inr ⟨h1, h3.1, h3.2⟩)
        · exact .inr ⟨h1, t', h2, h3⟩
theorem liveRows_mem {R : List (List D)} {x : Nat × Nat} : ∀ k, x ∈ liveRows R k ↔ x.1 < k ∧ ∃ t ∈ opAt R x.1, x.2 ∈ freeN (R.getD x.1 []) t ∧ t ||| 2 ^ x.2 ∈ opAt R (x.1 + 1)
  | 0 => by simp [liveRows]
  | k + 1 => by
    show x ∈ liveKey _ _ _ _ _ ↔ _
    rw [liveKey_mem, liveRows_mem k]
    constructor
    · rintro (⟨h1, h2⟩ | ⟨h1, h2⟩)
      · exact ⟨by omega, h2⟩
      · subst h1
        exact ⟨by omega, h2⟩
    · rintro ⟨h1, h2⟩
      by_cases z : x.1 < k
      · exact .inl ⟨z, h2⟩
      · have : x.1 = k := by omega
        subst this
        exact .inr ⟨rfl, h2⟩
/-- unlike pairs of small numbers -/
def OkT (l : List (Nat × Nat)) : Prop := l.Nodup ∧ ∀ p ∈ l, p.1 < 10 ∧ p.2 < 10
theorem OkT.len {l : List (Nat × Nat)} (h : OkT l) : l.length ≤ 100 := by
  have nd : (l.map fun p => p.1 * 10 + p.2).Nodup := by
    refine List.pairwise_map.mpr (List.Pairwise.imp_of_mem (fun {a b} ha hb n e => n ?_) h.1)
    have := h.2 a ha
    have := h.2 b hb
    exact Prod.ext (by omega) (by omega)
  have := nodup_lt 100 _ nd fun x hx => by
    obtain ⟨p, hp, rfl⟩ := List.mem_map.mp hx
    have := h.2 p hp
    omega
  rwa [List.length_map] at this
theorem OkT.put {l : List (Nat × Nat)} (h : OkT l) {p : Nat × Nat} (hp : p.1 < 10 ∧ p.2 < 10) : OkT (putP l p) := ⟨putP_nodup h.1 p, fun x hx => by
  rcases (putP_mem l p x).mp hx with z | z
  · exact h.2 x z
  · rw [z]; exact hp⟩
theorem OkT.inn {i t : Nat} {O : List Nat} (hi : i < 10) : ∀ (cs : List Nat) {l : List (Nat × Nat)}, (∀ c ∈ cs, c < 10) → OkT l → OkT (liveIn i O t cs l)
  | [], l, _, h => h
  | c :: cs, l, hc, h => by
    show OkT (liveIn i O t cs (if t ||| 2 ^ c ∈ O then putP l (i, c) else l))
    refine OkT.inn hi cs (fun d hd => hc d (List.mem_cons_of_mem _ hd)) ?_
    split
    · exact h.put ⟨hi, hc c List.mem_cons_self⟩
    · exact h
theorem OkT.key {i : Nat} {xs : List D} {O : List Nat} (hi : i < 10) (hx : xs.length ≤ 10) : ∀ (ts : List Nat) {l : List (Nat × Nat)}, OkT l → OkT (liveKey i xs O ts l)
  | [], l, h => h
  | t :: ts, l, h => OkT.key hi hx ts (OkT.inn hi _ (fun c hc => Nat.lt_of_lt_of_le (free_lt hc) hx) h)
theorem OkT.rows {R : List (List D)} (hR : ∀ r ∈ R, r.length ≤ 10) : ∀ k, k ≤ 10 → OkT (liveRows R k)
  | 0, _ => ⟨List.nodup_nil, fun p h => by cases h⟩
  | k + 1, hk => OkT.key (by omega) (by
    rw [List.getD_eq_getElem?_getD]
    cases e : R[k]? with
    | none => exact Nat.zero_le _
    | some r => exact hR r (List.mem_of_getElem? e)) _ (OkT.rows hR k (by omega))
theorem take_drop {l : List Nat} {i c : Nat} {s : List Nat} (h : l.drop i = c :: s) : l.take (i + 1) = l.take i ++ [c] ∧ l.drop (i + 1) = s := by
  have e : l[i]? = some c := by
    have := congrArg (fun m : List Nat => m[0]?) h
    simpa [List.getElem?_drop] using this
  refine ⟨take_one e, ?_⟩
  have := congrArg (fun m : List Nat => m.drop 1) h
  simpa [List.drop_drop, Nat.add_comm] using this
/-- what fits, by the lots that lead on -/
theorem fit_eq {R : List (List D)} {cs : List (List Nat)} (h : CsOf R cs) {i : Nat} (hi : i < R.length) {pl : List Nat} (hp : pl ∈ plsC cs i) : ((freeN (R.getD i []) (lotC pl)).filter fun c => decide (lotC pl ||| 2 ^ c ∈ opAt R (i + 1))) = (frC (cs.getD i []) (lotC pl)).filter fun c => !(allS (cs.drop (i + 1)) (lotC pl ||| 2 ^ c)).isEmpty := by
  rw [h.2]
  refine List.filter_congr fun c hc => ?_
  have e : (lotC pl ||| 2 ^ c ∈ opAt R (i + 1)) ↔ allS (cs.drop (i + 1)) (lotC pl ||| 2 ^ c) ≠ [] := by
    rw [opAt_mem h (by omega)]
    refine and_iff_right ⟨pl ++ [c], List.mem_flatMap.mpr ⟨pl, hp, List.mem_map.mpr ⟨c, ?_, rfl⟩⟩, lot_snoc pl c⟩
    rw [← frC_lot]
    exact hc
  refine Bool.eq_iff_iff.mpr ?_
  rw [decide_eq_true_iff, e]
  simp [List.isEmpty_iff]
theorem pls_snoc {cs : List (List Nat)} {i c : Nat} {pl : List Nat} (hp : pl ∈ plsC cs i) (hc : c ∈ frC (cs.getD i []) (lotC pl)) : pl ++ [c] ∈ plsC cs (i + 1) := List.mem_flatMap.mpr ⟨pl, hp, List.mem_map.mpr ⟨c, by rw [← frC_lot]; exact hc, rfl⟩⟩
section
variable {W : Wd} {Wx : WX} {X : XV → DS → Prop} {ω : Om} {δ : DS} {N : Om → DS → Prop} {R : D → Prop} {B C : Om → DS → Prop} {te : TE}
/-- i = e, e a new list of plain items; js: slots that e doesn't read -/
theorem so_asgNd {i : Nat} (js : List Nat) (hn : noL (dropS js δ)) (h : EvD W te (dropS js δ) fun d => ∃ ds, d = .lst ds ∧ D.nrefs ds = true ∧ ∀ p, (∀ x ∈ ω, x.1 ≠ p) → N ((p, ds) :: ω) (δ.set i (some (.obj p)))) : SO W Wx (tAsg te (gName i)) ω δ N R B C X := fun M0 H0 M1 L1 M σ H E d0 p ow e o => by
  have pd : Pre W M (dropS js δ) σ H := ⟨p.wf, by rw [dropS_len]; exact p.sl.len, fun j d hd => p.sl.get j d (dropS_get hd).2⟩
  have wf2 : Wf W (withL M H) H := ⟨p.wf.g, fun a z => .inl (p.wf.sm a z), fun a z => by
    rcases z with z | ⟨vs, z⟩
    · exact p.wf.dom a z
    · exact ⟨_, z⟩⟩
  have p2 : Pre W (withL M H) (dropS js δ) σ H := ⟨wf2, pd.sl.len, fun j d hd => by
    obtain ⟨v, a1, a2⟩ := pd.sl.get j d hd
    exact ⟨v, a1, a2.withL (hn d (List.mem_of_getElem? hd))⟩⟩
  refine h (withL M H) σ H p2 _ fun v d H2 g2 k2 r h1 => ?_
  obtain ⟨ds, rfl, nr, hN⟩ := h1
  cases r with
  | @lst a vs _ n hv hr =>
    have ha : H a = none := by
      cases q : H a with
      | none => rfl
      | some oo =>
        have ns : ¬ W.S a := fun z => n (.inl (p.wf.sm a z))
        have := k2 a oo ns q
        rw [hv] at this
        have := Option.some.inj this
        exact absurd (.inr ⟨vs, by rw [q, this]⟩) n
    exact so_have d0 p ow e o g2 k2 ha hv (hr.nref nr) (hN a)
end
/-- tuple(range(n)) -/
theorem ev_tupRg {W : Wd} {δ : DS} {te : TE} {P : D → Prop} (h : EvD W te δ fun d => ∃ n : Nat, d = .int (n : Int) ∧ n ≤ 16777216 ∧ P (colsD (List.range n))) : EvD W (tTupRg (tRg1 te)) δ P := fun M σ H p Q q =>
  h M σ H p _ fun v d H1 g1 k1 r1 ⟨n, ed, hn, hP⟩ => by
    subst ed
    cases r1
    refine ⟨n, rfl, ⟨by omega, by omega, by omega, by omega, by omega⟩, fun l hl => ?_⟩
    have k2 : Keep W H1 (upd H1 l (.tup (rgV 0 n))) := Keep.new hl
    have e : rgV 0 (n : Int) = (List.range n).map fun i : Nat => V.int (i : Int) := by
      unfold rgV
      rw [show ((n : Int) - 0).toNat = n by omega]
      exact List.map_congr_left fun i _ => by rw [Int.zero_add]
    refine q _ _ _ (g1.new hl) (k1.trans k2) (.tup (.inl (.inl upd_same)) ?_) hP
    rw [e]
    have : ∀ (Hx : Hp) (l : List Nat), Reps W M Hx (l.map fun i : Nat => V.int (i : Int)) (l.map fun c : Nat => D.int ((c : Nat) : Int)) := fun Hx l => by
      induction l with
      | nil => exact .nil
      | cons a l ih => exact .cons (.int _) ih
    exact this _ _
end PD
namespace PD
open PySem PySem.Spec PyProof.Rows L2
theorem pls_of {cs : List (List Nat)} : ∀ (i : Nat) (q : List Nat), q.length = i → q.Nodup → (∀ k c, q[k]? = some c → c ∈ cs.getD k []) → q ∈ plsC cs i
  | 0, q, hl, _, _ => by rw [List.eq_nil_of_length_eq_zero hl]; exact List.mem_singleton.mpr rfl
  | i + 1, q, hl, nd, hc => by
    have hne : q ≠ [] := fun z => by rw [z] at hl; cases hl
    have e := List.dropLast_concat_getLast hne
    generalize q.dropLast = p at e
    generalize q.getLast hne = c at e
    subst e
    rw [List.length_append, List.length_singleton] at hl
    have nd := List.nodup_append.mp nd
    refine List.mem_flatMap.mpr ⟨p, pls_of i p (by omega) nd.1 fun k d hk => ?_, List.mem_map.mpr ⟨c, List.mem_filter.mpr ⟨hc i c ?_, ?_⟩, rfl⟩⟩
    · have kl := (List.getElem?_eq_some_iff.mp hk).1
      exact hc k d (by rw [List.getElem?_append_left kl]; exact hk)
    · rw [List.getElem?_append_right (by omega), show i - p.length = 0 by omega]
      rfl
    · simp only [Bool.not_eq_true', decide_eq_false_iff_not]
      exact fun z => nd.2.2 c z c (by simp) rfl
theorem pls_in {cs : List (List Nat)} : ∀ (i : Nat) (q : List Nat), q ∈ plsC cs i → q.Nodup ∧ ∀ k c, q[k]? = some c → c ∈ cs.getD k []
  | 0, q, h => by
    rw [List.mem_singleton.mp h]
    exact ⟨List.nodup_nil, fun k c z => by simp at z⟩
  | i + 1, q, h => by
    obtain ⟨p, h1, h2⟩ := List.mem_flatMap.mp h
    obtain ⟨c, hc, rfl⟩ := List.mem_map.mp h2
    obtain ⟨a, b⟩ := pls_in i p h1
    have lp := pls_len i p h1
    obtain ⟨c1, c2⟩ := List.mem_filter.mp hc
    simp only [Bool.not_eq_true', decide_eq_false_iff_not] at c2
    refine ⟨List.nodup_append.mpr ⟨a, by simp, fun x hx y hy e => c2 (by rw [List.mem_singleton.mp hy] at e; exact e ▸ hx)⟩, fun k d hk => ?_⟩
    by_cases z : k < p.length
    · rw [List.getElem?_append_left z] at hk
      exact b k d hk
    · have kl := (List.getElem?_eq_some_iff.mp hk).1
      rw [List.length_append, List.length_singleton] at kl
      have : k = i := by omega
      subst this
      rw [List.getElem?_append_right (by omega), show k - p.length = 0 by omega] at hk
      cases hk
      exact c1
def someC (k n i : Nat) : List Nat := match k with
  | 0 => List.range n
  | 1 => List.range (i + 1)
  | _ => [i, (i + 1) % n]
def csG (k n : Nat) : List (List Nat) := (List.range n).map fun i => (List.range n).filter fun j => decide (j ∈ someC k n i)
def grG (k n : Nat) : GO := (List.range n).map fun i => (List.range n).map fun j => if j ∈ someC k n i then some [0] else none
theorem csG_of (k n : Nat) : csO (grG k n) = csG k n := by
  unfold csO grG csG
  rw [List.map_map]
  refine List.map_congr_left fun i _ => ?_
  show thereN _ = _
  unfold thereN
  rw [List.length_map, List.length_range]
  refine List.filter_congr fun j hj => ?_
  have hj := List.mem_range.mp hj
  rw [List.getD_eq_getElem?_getD, List.getElem?_map, List.getElem?_range hj]
  show (if j ∈ someC k n i then some [(0 : Int)] else none).isSome = _
  by_cases z : j ∈ someC k n i
  · rw [if_pos z, decide_eq_true z]
    rfl
  · rw [if_neg z, decide_eq_false z]
    rfl
theorem grG_sq (k n : Nat) : SqO 1 n (grG k n) := by
  unfold grG
  refine ⟨by rw [List.length_map, List.length_range], fun r hr => ?_⟩
  obtain ⟨i, _, rfl⟩ := List.mem_map.mp hr
  refine ⟨by rw [List.length_map, List.length_range], fun v hv => ?_⟩
  obtain ⟨j, _, e⟩ := List.mem_map.mp hv
  split at e
  · cases e
    exact ⟨rfl, fun x hx => by
      rw [List.mem_singleton.mp hx]
      exact ⟨0, rfl, by decide⟩⟩
  · cases e
def facN (n : Nat) : Nat := (List.range n).foldl (fun a i => a * (i + 1)) 1
def dueK (k n : Nat) : Nat := match k with
  | 0 => facN n
  | 1 => 1
  | _ => 2
def livesK (k n : Nat) : List (Nat × Nat) := match k with
  | 0 => (List.range n).flatMap fun i => (List.range n).map fun j => (i, j)
  | 1 => (List.range n).map fun i => (i, i)
  | _ => (List.range n).flatMap fun i => [(i, i), (i, (i + 1) % n)]
theorem great1 : ∀ n ∈ [6, 7, 8, 9, 10], plsC (csG 1 n) n = [List.range n] := by decide +kernel
theorem great2 : ∀ n ∈ [6, 7, 8, 9, 10], plsC (csG 2 n) n = [List.range n, (List.range n).map fun i => (i + 1) % n] := by decide +kernel
theorem csG_len (k n : Nat) : (csG k n).length = n := by unfold csG; rw [List.length_map, List.length_range]
theorem csG0 {n i : Nat} (h : i < n) : (csG 0 n).getD i [] = List.range n := by
  unfold csG
  rw [List.getD_eq_getElem?_getD, List.getElem?_map, List.getElem?_range h]
  show (List.range n).filter _ = _
  exact List.filter_eq_self.mpr fun j hj => decide_eq_true hj
theorem cnt_free {n : Nat} {pl : List Nat} (nd : pl.Nodup) (hl : ∀ c ∈ pl, c < n) : ((List.range n).filter fun j => !decide (j ∈ pl)).length = n - pl.length := by
  have p : ((List.range n).filter fun j => decide (j ∈ pl)).Perm pl := (List.perm_ext_iff_of_nodup (List.Pairwise.filter _ List.nodup_range) nd).mpr fun x => by
    rw [List.mem_filter, List.mem_range]
    exact ⟨fun z => of_decide_eq_true z.2, fun z => ⟨hl x z, decide_eq_true z⟩⟩
  have e := List.length_eq_countP_add_countP (fun j => decide (j ∈ pl)) (l := List.range n)
  rw [List.length_range, List.countP_eq_length_filter, List.countP_eq_length_filter, p.length_eq] at e
  have e2 : ((List.range n).filter fun j => !decide (j ∈ pl)) = (List.range n).filter fun a => decide ¬decide (a ∈ pl) = true := List.filter_congr fun j _ => by
    by_cases z : j ∈ pl <;> simp [z]
  rw [e2]
  omega
theorem cnt0 {n : Nat} : ∀ i, i ≤ n → (plsC (csG 0 n) i).length = (List.range i).foldl (fun a k => a * (n - k)) 1
  | 0, _ => rfl
  | i + 1, hi => by
    show ((plsC (csG 0 n) i).flatMap _).length = _
    rw [List.range_succ, List.foldl_append, ← cnt0 i (by omega), csG0 (by omega)]
    show _ = (plsC (csG 0 n) i).length * (n - i)
    have each : ∀ pl ∈ plsC (csG 0 n) i, (((List.range n).filter fun j => !decide (j ∈ pl)).map fun j => pl ++ [j]).length = n - i := fun pl hp => by
      obtain ⟨a, b⟩ := pls_in i pl hp
      rw [List.length_map, cnt_free a fun c hc => ?_, pls_len i pl hp]
      obtain ⟨k, hk⟩ := List.getElem?_of_mem hc
      have kl := (List.getElem?_eq_some_iff.mp hk).1
      have := b k c hk
      rw [csG0 (by have := pls_len i pl hp; omega)] at this
      exact List.mem_range.mp this
    generalize plsC (csG 0 n) i = L at each
    induction L with
    | nil => simp
    | cons x L ih =>
      rw [List.flatMap_cons, List.length_append, each x List.mem_cons_self, ih fun y hy => each y (List.mem_cons_of_mem _ hy), List.length_cons, Nat.succ_mul, Nat.add_comm]
theorem head_flat {α β : Type} {f : α → List β} {l : List α} {a : α} {b : β} (h1 : l.head? = some a) (h2 : (f a).head? = some b) : (l.flatMap f).head? = some b := by
  cases l with
  | nil => cases h1
  | cons x l =>
    cases h1
    rw [List.flatMap_cons]
    cases e : f a with
    | nil => rw [e] at h2; cases h2
    | cons y ys => rw [e] at h2; cases h2; rfl
theorem first_free : ∀ n ∈ [6, 7, 8, 9, 10], ∀ i ∈ List.range n, ((List.range n).filter fun j => !decide (j ∈ List.range i)).head? = some i := by decide +kernel
theorem head0 {n : Nat} (hn : n ∈ [6, 7, 8, 9, 10]) : ∀ i, i ≤ n → (plsC (csG 0 n) i).head? = some (List.range i)
  | 0, _ => rfl
  | i + 1, hi => by
    refine head_flat (head0 hn i (by omega)) ?_
    rw [csG0 (by omega), List.head?_map, first_free n hn i (List.mem_range.mpr (by omega)), List.range_succ]
    rfl
theorem fac_ok : ∀ n ∈ [6, 7, 8, 9, 10], (List.range n).foldl (fun a k => a * (n - k)) 1 = facN n := by decide +kernel
theorem rot_nodup : ∀ n ∈ [6, 7, 8, 9, 10], ∀ d ∈ List.range n, ((List.range n).map fun r => (r + d) % n).Nodup := by decide +kernel
theorem great_count {k n : Nat} (hk : k < 3) (hn : n ∈ [6, 7, 8, 9, 10]) : (plsC (csG k n) n).length = dueK k n := by
  match k, hk with
  | 0, _ => exact (cnt0 n (Nat.le_refl n)).trans (fac_ok n hn)
  | 1, _ => rw [great1 n hn]; rfl
  | 2, _ => rw [great2 n hn]; rfl
theorem great_head {k n : Nat} (hk : k < 3) (hn : n ∈ [6, 7, 8, 9, 10]) : (plsC (csG k n) n).head? = some (List.range n) := by
  match k, hk with
  | 0, _ => exact head0 hn n (Nat.le_refl n)
  | 1, _ => rw [great1 n hn]; rfl
  | 2, _ => rw [great2 n hn]; rfl
theorem rng_at {n : Nat} {f : Nat → Nat} {p : Nat × Nat} : ((List.range n).map f)[p.1]? = some p.2 ↔ p.1 < n ∧ f p.1 = p.2 := by
  rw [List.getElem?_map]
  by_cases z : p.1 < n
  · rw [List.getElem?_range z]
    simp [z]
  · rw [List.getElem?_eq_none (by rw [List.length_range]; omega)]
    simp [z]
theorem great_live {k n : Nat} (hk : k < 3) (hn : n ∈ [6, 7, 8, 9, 10]) (p : Nat × Nat) : LiveC (csG k n) p ↔ p ∈ livesK k n := by
  have n6 : 6 ≤ n := by simp at hn; omega
  unfold LiveC
  rw [csG_len]
  have er : (List.range n)[p.1]? = some p.2 ↔ p.1 < n ∧ p.1 = p.2 := by
    have := rng_at (n := n) (f := id) (p := p)
    rwa [List.map_id] at this
  match k, hk with
  | 0, _ =>
    show _ ↔ p ∈ (List.range n).flatMap _
    simp only [List.mem_flatMap, List.mem_map, List.mem_range]
    constructor
    · rintro ⟨q, hq, hp⟩
      obtain ⟨_, b⟩ := pls_in n q hq
      have lq := pls_len n q hq
      have il := (List.getElem?_eq_some_iff.mp hp).1
      have := b p.1 p.2 hp
      rw [csG0 (by omega)] at this
      exact ⟨p.1, by omega, p.2, List.mem_range.mp this, rfl⟩
    · rintro ⟨i, hi, j, hj, rfl⟩
      refine ⟨(List.range n).map fun r => (r + (j + n - i) % n) % n, pls_of n _ (by rw [List.length_map, List.length_range]) (rot_nodup n hn _ (List.mem_range.mpr (Nat.mod_lt _ (by omega)))) fun k c hc => ?_, ?_⟩
      · rw [List.getElem?_map] at hc
        obtain ⟨r, hr, rfl⟩ := Option.map_eq_some_iff.mp hc
        have kl := (List.getElem?_eq_some_iff.mp hr).1
        rw [List.length_range] at kl
        rw [csG0 kl]
        exact List.mem_range.mpr (Nat.mod_lt _ (by omega))
      · refine rng_at.mpr ⟨hi, ?_⟩
        show (i + (j + n - i) % n) % n = j
        rw [Nat.add_mod_mod, show i + (j + n - i) = j + n by omega, Nat.add_mod_right]
        exact Nat.mod_eq_of_lt hj
  | 1, _ =>
    rw [great1 n hn]
    show _ ↔ p ∈ (List.range n).map _
    simp only [List.mem_map, List.mem_range, List.mem_singleton, exists_eq_left, er]
    exact ⟨fun ⟨a, b⟩ => ⟨p.1, a, Prod.ext rfl b⟩, fun ⟨i, a, e⟩ => by rw [← e]; exact ⟨a, rfl⟩⟩
  | 2, _ =>
    rw [great2 n hn]
    show _ ↔ p ∈ (List.range n).flatMap _
    simp only [List.mem_flatMap, List.mem_range, List.mem_cons, List.not_mem_nil, or_false]
    constructor
    · rintro ⟨q, hq | hq, hp⟩
      · rw [hq, er] at hp
        exact ⟨p.1, hp.1, .inl (Prod.ext rfl hp.2.symm)⟩
      · rw [hq] at hp
        have hp := rng_at.mp hp
        exact ⟨p.1, hp.1, .inr (Prod.ext rfl hp.2.symm)⟩
    · rintro ⟨i, hi, e | e⟩
      · rw [e] at er ⊢
        exact ⟨_, .inl rfl, er.mpr ⟨hi, rfl⟩⟩
      · rw [e]
        exact ⟨_, .inr rfl, rng_at.mpr ⟨hi, rfl⟩⟩
theorem natsI (l : List Nat) : (l.map fun c => D.int ((c : Nat) : Int)) = (l.map fun c => ((c : Nat) : Int)).map D.int := by
  rw [List.map_map]
  rfl
theorem nats_fine (l : List Nat) : (D.lst (l.map fun c => D.int ((c : Nat) : Int))).fine = true := by
  rw [natsI]
  exact lints_fine _
theorem cols_fine (l : List Nat) : (colsD l).fine = true := by
  unfold colsD
  rw [natsI]
  exact tints_fine _
theorem any_nat (l : List Nat) (b : Nat) : ((l.map fun c => D.int ((c : Nat) : Int)).any fun y => y.eqv (.int ((b : Nat) : Int))) = decide (b ∈ l) := by
  induction l with
  | nil => rfl
  | cons a l ih =>
    rw [List.map_cons, List.any_cons, ih]
    have e : (D.int ((a : Nat) : Int)).eqv (.int ((b : Nat) : Int)) = decide (b = a) := by
      by_cases z : b = a
      · subst z
        rw [D.eqv_self (fineI _), decide_eq_true rfl]
      · rw [decide_eq_false z]
        show PyData.eqv (.int (a : Int)) (.int (b : Int)) = false
        simp only [PyData.eqv]
        simp
        omega
    rw [e]
    simp only [List.mem_cons, Bool.decide_or]
theorem nn_lays (l : List (Nat × Nat)) : (nnsD l).lays 3 = true := by
  show D.laysA (l.map nnD) 2 = true
  exact laysA_of fun x hx => by
    obtain ⟨p, _, rfl⟩ := List.mem_map.mp hx
    rfl
theorem nns_fine (l : List (Nat × Nat)) : (nnsD l).fine = true := lays_fine (nn_lays l) (by decide)
theorem fac_next (b : Nat) : facN (b + 1) = facN b * (b + 1) := by
  unfold facN
  rw [List.range_succ, List.foldl_append]
  rfl
theorem fac_small : ∀ b ∈ List.range 11, facN b < 1000000000 := by decide +kernel
theorem grG_len (k n : Nat) : (grG k n).length = n := by unfold grG; rw [List.length_map, List.length_range]
theorem grG_row {k n i : Nat} (h : i < n) : (grG k n)[i]? = some ((List.range n).map fun j => if j ∈ someC k n i then some [0] else none) := by
  unfold grG
  rw [List.getElem?_map, List.getElem?_range h]
  rfl
theorem so_asgLn {W : Wd} {Wx : WX} {X : XV → DS → Prop} {ω : Om} {δ : DS} {N : Om → DS → Prop} {R : D → Prop} {B C : Om → DS → Prop} {te : TE} {i : Nat} (h : EvL W te ω δ fun d => d.nolst = true ∧ N ω (δ.set i (some d))) : SO W Wx (tAsg te (gName i)) ω δ N R B C X := fun M0 H0 M1 L1 M σ H E d0 p ow e o => by
  obtain ⟨p2, l2⟩ := own_lend p ow
  exact h _ σ H p2 l2 _ fun v d H1 g1 k1 r1 h1 => o.nx M _ ω _ H1 ⟨p.wf.next g1 k1, (p.next g1 k1).sl.set i (unlend ow k1 r1 h1.1)⟩ (ow.keep p.wf k1) (e.next p.wf k1) h1.2
theorem nols {xs : List D} (h : ∀ x ∈ xs, x.nolst = true) : D.nolsts xs = true := by
  induction xs with
  | nil => simp only [D.nolsts]
  | cons y ys ih =>
    simp only [D.nolsts, Bool.and_eq_true]
    exact ⟨h y List.mem_cons_self, ih fun x hx => h x (List.mem_cons_of_mem _ hx)⟩
theorem nolst_fr (q : Fr) : (fr q).nolst = true := by simp [fr, D.nolst, D.nolsts]
theorem nolst_cel (c : Cel) : (celO c).nolst = true := by
  cases c with
  | none => simp [celO, D.nolst]
  | some v =>
    show (D.tup _).nolst = true
    simp only [D.nolst]
    refine nols fun x hx => ?_
    obtain ⟨q, _, rfl⟩ := List.mem_map.mp hx
    exact nolst_fr q
theorem nolst_gridO (C : Addr) (n : Int) (G : GO) : (gd C n (gridO G)).nolst = true := by
  simp only [D.nolst, D.nolsts, Bool.true_and, Bool.and_true]
  refine nols fun x hx => ?_
  unfold gridO at hx
  obtain ⟨r, _, rfl⟩ := List.mem_map.mp hx
  show (D.tup _).nolst = true
  simp only [D.nolst]
  refine nols fun y hy => ?_
  obtain ⟨c, _, rfl⟩ := List.mem_map.mp hy
  exact nolst_cel c
def livesLL (k n : Nat) : List (List (Nat × Nat)) := match k with
  | 0 => (List.range n).map fun i => (List.range n).map fun j => (i, j)
  | 1 => (List.range n).map fun i => [(i, i)]
  | _ => (List.range n).map fun i => [(i, i), (i, (i + 1) % n)]
theorem lives_nodup : ∀ n ∈ [6, 7, 8, 9, 10], ∀ k ∈ [0, 1, 2], (livesK k n).Nodup := by decide +kernel
theorem lives_len : ∀ n ∈ [6, 7, 8, 9, 10], ∀ k ∈ [0, 1, 2], (livesK k n).length ≤ 100 := by decide +kernel
theorem livesLL_flat {k : Nat} (hk : k < 3) (n : Nat) : (livesLL k n).flatten = livesK k n := by
  match k, hk with
  | 0, _ => exact (List.flatMap_def ..).symm
  | 1, _ =>
    show ((List.range n).map fun i => [(i, i)]).flatten = (List.range n).map fun i => (i, i)
    induction List.range n with
    | nil => rfl
    | cons a l ih => rw [List.map_cons, List.flatten_cons, ih, List.map_cons]; rfl
  | 2, _ => exact (List.flatMap_def ..).symm
theorem great_sorted {k n : Nat} (hk : k < 3) (hn : n ∈ [6, 7, 8, 9, 10]) {l : List (Nat × Nat)} (p : l.Perm (livesLL k n).flatten) (w : l.Pairwise leP) : liveL (csG k n) n = l := by
  rw [livesLL_flat hk] at p
  refine leP_uniq (liveL_ok _ _).2 (p.nodup_iff.mpr (lives_nodup n hn k (by simp; omega))) (liveL_ok _ _).1 w fun x => ?_
  rw [p.mem_iff, liveL_mem fun y hy => ?_, great_live hk hn]
  obtain ⟨q, hq, e⟩ := hy
  rw [csG_len] at hq
  have lq := pls_len n q hq
  have il := (List.getElem?_eq_some_iff.mp e).1
  have := (pls_in n q hq).2 y.1 y.2 e
  refine ⟨by rw [csG_len]; omega, ?_⟩
  unfold csG at this
  rw [List.getD_eq_getElem?_getD, List.getElem?_map, List.getElem?_range (by omega)] at this
  exact List.mem_range.mp (List.mem_filter.mp this).1
theorem rc_intBl {W : Wd} {P : D → Prop} {b : Bool} (h : P (.int (if b = true then 1 else 0))) : RCD W (fun xs H Q => (∃ i, xs = [V.int i] ∧ Q (V.int i) H) ∨ ∃ k, xs = [V.bl k] ∧ Q (V.int (if k = true then 1 else 0)) H) [.bl b] P := fun M H vs w r Q q => by
  cases r with
  | cons r t =>
    cases t
    cases r
    exact .inr ⟨b, rfl, q _ _ H w.g (Keep.refl H) (.int _) h⟩
/-- a row of the cells on the slant and beside it -/
def liveRow (k n b : Nat) : List (Nat × Nat) := (b, b) :: (List.replicate (if k = 2 then 1 else 0) (b, (b + 1) % n))
theorem livesLL_at {k n b : Nat} (h1 : 0 < k) (h3 : k < 3) (hb : b < n) : (livesLL k n)[b]? = some (liveRow k n b) := by
  match k, h1, h3 with
  | 1, _, _ =>
    show ((List.range n).map fun i => [(i, i)])[b]? = _
    rw [List.getElem?_map, List.getElem?_range hb]
    rfl
  | 2, _, _ =>
    show ((List.range n).map fun i => [(i, i), (i, (i + 1) % n)])[b]? = _
    rw [List.getElem?_map, List.getElem?_range hb]
    rfl
theorem livesLL_len (k n : Nat) : (livesLL k n).length = n := by
  unfold livesLL
  split <;> rw [List.length_map, List.length_range]
/-- a placing's cells -/
def prsOf (q : List Nat) : List (Nat × Nat) := (List.range q.length).map fun i => (i, q.getD i 0)
theorem prsOf_mem {q : List Nat} {p : Nat × Nat} : p ∈ prsOf q ↔ q[p.1]? = some p.2 := by
  unfold prsOf
  constructor
  · intro h
    obtain ⟨i, hi, rfl⟩ := List.mem_map.mp h
    have hi := List.mem_range.mp hi
    show q[i]? = some (q.getD i 0)
    rw [List.getD_eq_getElem?_getD, List.getElem?_eq_getElem hi]
    rfl
  · intro h
    have hi := (List.getElem?_eq_some_iff.mp h).1
    exact List.mem_map.mpr ⟨p.1, List.mem_range.mpr hi, Prod.ext rfl (by rw [List.getD_eq_getElem?_getD, h]; rfl)⟩
theorem cut_last (xs : List D) (x : D) : cutD (xs ++ [x]) none (some (-1)) = xs := by
  show ((xs ++ [x]).drop 0).take ((if (-1 : Int) < 0 then ((-1 : Int) + ((xs ++ [x]).length : Int)).toNat else min (-1 : Int).toNat (xs ++ [x]).length) - 0) = xs
  rw [if_pos (by decide), List.length_append, List.drop_zero, show ((-1 : Int) + ((xs.length + [x].length : Nat) : Int)).toNat - 0 = xs.length by simp; omega, List.take_left]
theorem nrefs_nn (l : List (Nat × Nat)) : D.nrefs (l.map nnD) = true := nrefs_of fun x hx => by
  obtain ⟨p, _, rfl⟩ := List.mem_map.mp hx
  rfl
theorem prsOf_len (q : List Nat) : (prsOf q).length = q.length := by unfold prsOf; rw [List.length_map, List.length_range]
theorem pls_count {G : GO} {n m : Nat} (sq : SqO n m G) (m5 : m ≤ 5) : (plsC (csO G) m).length ≤ 3125 := by
  have h1 := plsTo_len (G := G) (m := m) (fun r hr => Nat.le_of_eq (sq.2 r hr).1) m
  rw [pls_to] at h1
  have h2 : m ^ m ≤ 5 ^ m := Nat.pow_le_pow_left m5 m
  have h3 : 5 ^ m ≤ 5 ^ 5 := Nat.pow_le_pow_right (by decide) m5
  omega
theorem pls_lt {G : GO} {n m : Nat} (sq : SqO n m G) {q : List Nat} (hq : q ∈ plsC (csO G) m) {p : Nat × Nat} (hp : q[p.1]? = some p.2) : p.1 < m ∧ p.2 < m := by
  have lq := pls_len m q hq
  have il := (List.getElem?_eq_some_iff.mp hp).1
  rw [← pls_to] at hq
  have := (plsTo_mem (fun r hr => (sq.2 r hr).1) m (by rw [sq.1]; exact Nat.le_refl _) q hq).2 p.1 p.2 hp
  exact ⟨by omega, this.1⟩
theorem alive_mem {G : GO} {m : Nat} {p : Nat × Nat} (lC : (csO G).length = m) : p ∈ ((plsC (csO G) m).map prsOf).flatten ↔ LiveC (csO G) p := by
  unfold LiveC
  rw [lC, List.mem_flatten]
  constructor
  · rintro ⟨l, hl, hp⟩
    obtain ⟨q, hq, rfl⟩ := List.mem_map.mp hl
    exact ⟨q, hq, prsOf_mem.mp hp⟩
  · rintro ⟨q, hq, hp⟩
    exact ⟨prsOf q, List.mem_map.mpr ⟨q, hq, rfl⟩, prsOf_mem.mpr hp⟩
theorem non_fine : D.non.fine = true := by decide
end PD
set_option Elab.async false
set_option linter.all false
set_option maxRecDepth 100000
set_option maxHeartbeats 4000000
namespace PDSR
end PDSR
namespace WarM
end WarM
namespace Lk50
open PySem PySem.Spec PyProof.Rows L2 PD PDX PDI PDT PDZ PDSR WarM
/-- the next steps of a reading, by its form -/
local macro_rules | `(tactic| walk_at "pd") => `(tactic| repeat' (first | ((with_reducible (show EvD _ _ _ _)); (first | ((with_reducible (show EvD _ (tVar _) _ _)); refine ev_var rfl ?_) | with_reducible (first | refine ev_op ?_ | refine ev_int ?_ | refine ev_bl ?_ | refine ev_non ?_ | refine ev_str ?_ | refine ev_ty ?_ | refine ev_obj ?_ | refine ev_un ?_ | refine ev_cb ?_ | refine ev_call ?_ | refine ev_tup ?_ | refine ev_lst ?_ | refine ev_dnew ?_ | refine ev_disp1 ?_ | refine ev_make ?_ | refine ev_sl ?_ | refine ev_slL ?_ | refine ev_andV ?_ | refine ev_orV ?_ | refine ev_notV ?_ | refine ev_if ?_ | refine ev_chain ?_) | refine ev_var rfl ?_)) | ((with_reducible (show RD _ _ _ _ _)); (first | with_reducible (first | refine rd_plusI ?_ | refine rd_eqI ?_ | refine rd_neI ?_ | refine rd_eqSh ?_ | refine rd_neS (by first | assumption | decide +kernel) (by decide +kernel) ?_ | refine rd_eqS (by first | assumption | decide +kernel) (by decide +kernel) ?_) | (with_reducible (refine rd_I (C := CPow) (cpow_ok (by decide)) ?_)) | refine rd_I0 ?_ | refine rd_I0b ?_ | refine rd_isN ?_ | refine rd_notN ?_ | refine rd_ixT (j := 0) rfl rfl ?_ | refine rd_ixT (j := 1) rfl rfl ?_ | refine rd_ixL (j := 0) rfl rfl ?_ | refine rd_ixL (j := 1) rfl rfl ?_ | refine rd_I ?_ ?_)) | ((with_reducible (show SX _ _ _ _ _ _ _ _ _)); with_reducible (first | refine sx_drop ?_ | refine sx_ret ?_ | refine sd_seq ?_ | refine sd_asg ?_ | refine sd_if ?_ | refine sd_ret ?_ | refine sd_next ?_ | refine sd_drop ?_ | refine sd_par ?_ | refine sd_retN ?_)) | ((with_reducible (show EvA _ _ _ _)); with_reducible (first | refine ea_nil ?_ | refine ea_cons ?_)) | ((with_reducible (show EvT _ _ _ _)); with_reducible (first | refine et_B ?_ | refine et_test ?_ | refine et_and ?_ | refine et_or ?_ | refine et_not ?_)) | ((with_reducible (show RCD _ _ _ _)); (first | with_reducible (first | refine rc_max2 ?_ | refine rc_min2 ?_ | refine rc_gcd ?_ | refine rc_abs ?_ | refine rc_int1 ?_ | refine rc_tupL ?_ | refine rc_lenT ?_ | refine rc_lenL ?_) | refine rc_isiIJ (by first | assumption | rfl) ?_ | refine rc_isiBJ (by first | assumption | rfl) ?_ | refine rc_isiTJ (by first | assumption | rfl) ?_ | refine rc_isiSJ (by first | assumption | rfl) ?_ | refine rc_isiI (by first | assumption | rfl) ?_ | refine rc_isiB (by first | assumption | rfl) ?_ | refine rc_isiT (by first | assumption | rfl) ?_)) | with_reducible (first | refine eo_none ?_ | refine eo_some ?_) | refine ru_I ?_ | (first | refine exb_t rfl ?_ | refine exb_f rfl ?_ | refine exo_f rfl ?_ | refine exo_t rfl ?_ | refine bt rfl ?_ | refine bf rfl ?_ | refine bof rfl ?_ | refine bot rfl ?_ | (with_reducible refine exb ?_) | refine And.intro (Nat.le_of_ble_eq_true rfl) ?_)))
local macro_rules | `(tactic| walk_at "pdE") => `(tactic| repeat' (first | (with_reducible (refine rd_I (C := CPow) (cpow_ok (by decide)) ?_)) | (first | refine rc_isiIJ (by first | assumption | rfl) ?_ | refine rc_isiBJ (by first | assumption | rfl) ?_ | refine rc_isiTJ (by first | assumption | rfl) ?_ | refine rc_isiSJ (by first | assumption | rfl) ?_ | refine rc_isiI (by first | assumption | rfl) ?_ | refine rc_isiB (by first | assumption | rfl) ?_ | refine rc_isiT (by first | assumption | rfl) ?_) | (first | refine ev_var rfl ?_ | refine rd_I0 ?_ | refine rd_I0b ?_ | refine ru_I ?_ | refine rd_isN ?_ | refine rd_notN ?_ | refine rd_ixT (j := 0) rfl rfl ?_ | refine rd_ixT (j := 1) rfl rfl ?_ | refine rd_ixL (j := 0) rfl rfl ?_ | refine rd_ixL (j := 1) rfl rfl ?_ | refine rd_I ?_ ?_) | (first | refine exb_t rfl ?_ | refine exb_f rfl ?_ | refine exo_f rfl ?_ | refine exo_t rfl ?_ | refine bt rfl ?_ | refine bf rfl ?_ | refine bof rfl ?_ | refine bot rfl ?_ | (with_reducible refine exb ?_) | refine And.intro (Nat.le_of_ble_eq_true rfl) ?_) | with_reducible (first | refine ev_op ?_ | refine ev_int ?_ | refine ev_bl ?_ | refine ev_tup ?_ | refine ea_nil ?_ | refine ea_cons ?_)))
abbrev s__law_hand : Stmt := Hd.tS 30
theorem sc__law_hand : FnScope ["script", "cells", "cell"] ["script"] (defScope s__law_hand) := ⟨rfl, rfl, rfl, by decide +kernel, rfl, by decide +kernel, by decide +kernel⟩
abbrev s__law_draw : Stmt := Hd.tS 31
theorem sc__law_draw : FnScope ["hand", "many", "number", "cell", "digit"] ["hand", "many"] (defScope s__law_draw) := ⟨rfl, rfl, rfl, by decide +kernel, rfl, by decide +kernel, by decide +kernel⟩
abbrev s__law_lowest : Stmt := Hd.tS 32
theorem sc__law_lowest : FnScope ["top", "below", "one", "other"] ["top", "below"] (defScope s__law_lowest) := ⟨rfl, rfl, rfl, by decide +kernel, rfl, by decide +kernel, by decide +kernel⟩
abbrev s__law_unit : Stmt := Hd.tS 38
theorem sc__law_unit : FnScope ["hand", "bases", "most", "found", "k", "below"] ["hand", "bases", "most"] (defScope s__law_unit) := ⟨rfl, rfl, rfl, by decide +kernel, rfl, by decide +kernel, by decide +kernel⟩
abbrev s__law_plus : Stmt := Hd.tS 33
theorem sc__law_plus : FnScope ["one", "other"] ["one", "other"] (defScope s__law_plus) := ⟨rfl, rfl, rfl, by decide +kernel, rfl, by decide +kernel, by decide +kernel⟩
abbrev s__law_unit_sum : Stmt := Hd.tS 35
theorem sc__law_unit_sum : FnScope ["one", "other", "sign", "first", "second"] ["one", "other", "sign"] (defScope s__law_unit_sum) := ⟨rfl, rfl, rfl, by decide +kernel, rfl, by decide +kernel, by decide +kernel⟩
abbrev s__law_rows : Stmt := Hd.tS 39
theorem sc__law_rows : FnScope ["hand", "many", "bases", "full", "kind", "firsts", "seconds", "rows", "i", "row", "j", "turn", "unit"] ["hand", "many", "bases"] (defScope s__law_rows) := ⟨rfl, rfl, rfl, by decide +kernel, rfl, by decide +kernel, by decide +kernel⟩
abbrev s__law_drawn : Stmt := Hd.tS 40
theorem sc__law_drawn : FnScope ["hand", "most", "bases"] ["hand", "most"] (defScope s__law_drawn) := ⟨rfl, rfl, rfl, by decide +kernel, rfl, by decide +kernel, by decide +kernel⟩
abbrev s__has_grid_length : Stmt := Hd.tS 27
theorem sc__has_grid_length : FnScope ["thing"] ["thing"] (defScope s__has_grid_length) := ⟨rfl, rfl, rfl, by decide +kernel, rfl, by decide +kernel, by decide +kernel⟩
abbrev s_is_whole : Stmt := Hd.tS 6
theorem sc_is_whole : FnScope ["thing"] ["thing"] (defScope s_is_whole) := ⟨rfl, rfl, rfl, by decide +kernel, rfl, by decide +kernel, by decide +kernel⟩
abbrev s_is_pair : Stmt := Hd.tS 7
theorem sc_is_pair : FnScope ["thing"] ["thing"] (defScope s_is_pair) := ⟨rfl, rfl, rfl, by decide +kernel, rfl, by decide +kernel, by decide +kernel⟩
abbrev s_is_fraction : Stmt := Hd.tS 8
theorem sc_is_fraction : FnScope ["thing", "top", "bottom"] ["thing"] (defScope s_is_fraction) := ⟨rfl, rfl, rfl, by decide +kernel, rfl, by decide +kernel, by decide +kernel⟩
abbrev s_is_any_unit : Stmt := Hd.tS 19
theorem sc_is_any_unit : FnScope ["thing", "exponent"] ["thing"] (defScope s_is_any_unit) := ⟨rfl, rfl, rfl, by decide +kernel, rfl, by decide +kernel, by decide +kernel⟩
abbrev s_is_unit : Stmt := Hd.tS 20
theorem sc_is_unit : FnScope ["bases", "thing"] ["bases", "thing"] (defScope s_is_unit) := ⟨rfl, rfl, rfl, by decide +kernel, rfl, by decide +kernel, by decide +kernel⟩
abbrev s_is_cell : Stmt := Hd.tS 26
theorem sc_is_cell : FnScope ["bases", "thing", "top", "below"] ["bases", "thing"] (defScope s_is_cell) := ⟨rfl, rfl, rfl, by decide +kernel, rfl, by decide +kernel, by decide +kernel⟩
abbrev s__wrong_part : Stmt := Hd.tS 28
theorem sc__wrong_part : FnScope ["bases", "rows", "i", "row", "j", "thing"] ["bases", "rows"] (defScope s__wrong_part) := ⟨rfl, rfl, rfl, by decide +kernel, rfl, by decide +kernel, by decide +kernel⟩
abbrev s_BadGrid___init__ : Stmt := L2.inClass (Hd.tS 3) 0
theorem sc_BadGrid___init__ : FnScope ["self", "part"] ["self", "part"] (defScope s_BadGrid___init__) := ⟨rfl, rfl, rfl, by decide +kernel, rfl, by decide +kernel, by decide +kernel⟩
abbrev s_Grid___init__ : Stmt := L2.inClass (Hd.tS 25) 0
theorem sc_Grid___init__ : FnScope ["self", "bases", "rows", "part"] ["self", "bases", "rows"] (defScope s_Grid___init__) := ⟨rfl, rfl, rfl, by decide +kernel, rfl, by decide +kernel, by decide +kernel⟩
abbrev s__law_made : Stmt := Hd.tS 41
theorem sc__law_made : FnScope ["parts"] ["parts"] (defScope s__law_made) := ⟨rfl, rfl, rfl, by decide +kernel, rfl, by decide +kernel, by decide +kernel⟩
abbrev s__law_placings : Stmt := Hd.tS 42
theorem sc__law_placings : FnScope ["rows", "found", "row", "longer", "placing", "free", "j"] ["rows"] (defScope s__law_placings) := ⟨rfl, rfl, rfl, by decide +kernel, rfl, by decide +kernel, by decide +kernel⟩
abbrev s_GridError___init__ : Stmt := L2.inClass (Hd.tS 2) 0
theorem sc_GridError___init__ : FnScope ["self"] ["self"] (defScope s_GridError___init__) := ⟨rfl, rfl, rfl, by decide +kernel, rfl, by decide +kernel, by decide +kernel⟩
abbrev s_check_square : Stmt := Hd.tS 10
theorem sc_check_square : FnScope ["grid"] ["grid"] (defScope s_check_square) := ⟨rfl, rfl, rfl, by decide +kernel, rfl, by decide +kernel, by decide +kernel⟩
abbrev s_free_columns : Stmt := Hd.tS 11
theorem sc_free_columns : FnScope ["row", "taken", "column", "unit"] ["row", "taken"] (defScope s_free_columns) := ⟨rfl, rfl, rfl, by decide +kernel, rfl, by decide +kernel, by decide +kernel⟩
abbrev s_placed_lots : Stmt := Hd.tS 12
theorem sc_placed_lots : FnScope ["grid", "lots", "row", "longer", "taken", "many", "column", "lot"] ["grid"] (defScope s_placed_lots) := ⟨rfl, rfl, rfl, by decide +kernel, rfl, by decide +kernel, by decide +kernel⟩
abbrev s_many_placings : Stmt := Hd.tS 14
theorem sc_many_placings : FnScope ["grid"] ["grid"] (defScope s_many_placings) := ⟨rfl, rfl, rfl, by decide +kernel, rfl, by decide +kernel, by decide +kernel⟩
abbrev s_open_lots : Stmt := Hd.tS 13
theorem sc_open_lots : FnScope ["grid", "placed", "lots", "i", "taken", "_", "lot", "column"] ["grid"] (defScope s_open_lots) := ⟨rfl, rfl, rfl, by decide +kernel, rfl, by decide +kernel, by decide +kernel⟩
abbrev s_live : Stmt := Hd.tS 16
theorem sc_live : FnScope ["grid", "lots", "found", "i", "row", "taken", "column"] ["grid"] (defScope s_live) := ⟨rfl, rfl, rfl, by decide +kernel, rfl, by decide +kernel, by decide +kernel⟩
abbrev s__law_unitless : Stmt := Hd.tS 36
theorem sc__law_unitless : FnScope ["bases"] ["bases"] (defScope s__law_unitless) := ⟨rfl, rfl, rfl, by decide +kernel, rfl, by decide +kernel, by decide +kernel⟩
abbrev s_least_placing : Stmt := Hd.tS 15
theorem sc_least_placing : FnScope ["grid", "lots", "taken", "columns", "i", "row", "fitting", "column"] ["grid"] (defScope s_least_placing) := ⟨rfl, rfl, rfl, by decide +kernel, rfl, by decide +kernel, by decide +kernel⟩
abbrev s__law_great_right : Stmt := Hd.tS 46
theorem sc__law_great_right : FnScope ["hand", "many", "kind", "unit", "rows", "i", "due", "number", "grid", "lives", "beside", "some", "j"] ["hand"] (defScope s__law_great_right) := ⟨rfl, rfl, rfl, by decide +kernel, rfl, by decide +kernel, by decide +kernel⟩
abbrev s_law : Stmt := Hd.tS 47
theorem sc_law : FnScope ["script", "hand", "turn", "parts", "grid", "due", "told", "alive", "placing", "cells", "i", "j"] ["script"] (defScope s_law) := ⟨rfl, rfl, rfl, by decide +kernel, rfl, by decide +kernel, by decide +kernel⟩
structure Txt (K : PySem.W.Frag) (mg : Str → Option Value) where
  D__law_hand : DefT K mg "_law_hand" s__law_hand ["script"]
  D__law_draw : DefT K mg "_law_draw" s__law_draw ["hand", "many"]
  D__law_lowest : DefT K mg "_law_lowest" s__law_lowest ["top", "below"]
  D__law_unit : DefT K mg "_law_unit" s__law_unit ["hand", "bases", "most"]
  D__law_plus : DefT K mg "_law_plus" s__law_plus ["one", "other"]
  D__law_unit_sum : DefT K mg "_law_unit_sum" s__law_unit_sum ["one", "other", "sign"]
  D__law_rows : DefT K mg "_law_rows" s__law_rows ["hand", "many", "bases"]
  D__law_drawn : DefT K mg "_law_drawn" s__law_drawn ["hand", "most"]
  D__has_grid_length : DefT K mg "_has_grid_length" s__has_grid_length ["thing"]
  D_is_whole : DefT K mg "is_whole" s_is_whole ["thing"]
  D_is_pair : DefT K mg "is_pair" s_is_pair ["thing"]
  D_is_fraction : DefT K mg "is_fraction" s_is_fraction ["thing"]
  D_is_any_unit : DefT K mg "is_any_unit" s_is_any_unit ["thing"]
  D_is_unit : DefT K mg "is_unit" s_is_unit ["bases", "thing"]
  D_is_cell : DefT K mg "is_cell" s_is_cell ["bases", "thing"]
  D__wrong_part : DefT K mg "_wrong_part" s__wrong_part ["bases", "rows"]
  D_BadGrid___init__ : DefM K "__init__" "BadGrid.__init__" s_BadGrid___init__ ["self", "part"]
  D_Grid___init__ : DefM K "__init__" "Grid.__init__" s_Grid___init__ ["self", "bases", "rows"]
  D__law_made : DefT K mg "_law_made" s__law_made ["parts"]
  D__law_placings : DefT K mg "_law_placings" s__law_placings ["rows"]
  D_GridError___init__ : DefM K "__init__" "GridError.__init__" s_GridError___init__ ["self"]
  D_check_square : DefT K mg "check_square" s_check_square ["grid"]
  D_free_columns : DefT K mg "free_columns" s_free_columns ["row", "taken"]
  D_placed_lots : DefT K mg "placed_lots" s_placed_lots ["grid"]
  D_many_placings : DefT K mg "many_placings" s_many_placings ["grid"]
  D_open_lots : DefT K mg "open_lots" s_open_lots ["grid"]
  D_live : DefT K mg "live" s_live ["grid"]
  D__law_unitless : DefT K mg "_law_unitless" s__law_unitless ["bases"]
  D_least_placing : DefT K mg "least_placing" s_least_placing ["grid"]
  D__law_great_right : DefT K mg "_law_great_right" s__law_great_right ["hand"]
  D_law : DefT K mg "law" s_law ["script"]
  ty_BadGrid___init__ : PySem.W.typeIn K (.ref D_BadGrid___init__.f) = some (.type "function")
  ty_GridError___init__ : PySem.W.typeIn K (.ref D_GridError___init__.f) = some (.type "function")
  x_BadGrid : ExcT K mg "BadGrid" D_BadGrid___init__.f
  x_NotSquare : ExcT K mg "NotSquare" D_GridError___init__.f
  k_Grid : ClsT K mg "Grid" D_Grid___init__.f
  na_Grid_bases : NoAttr K k_Grid.C "bases"
  na_Grid_rows : NoAttr K k_Grid.C "rows"
  nx_BadGrid_part : PySem.W.findIn K (.ref x_BadGrid.C) "part" = some none
  v_VE : PySem.W.findCls K (.type "ValueError") (.type "type") "__init__" = some (.val (.builtin "ValueError.__init__"))
  t_MOST_BASES : Tok
  c_MOST_BASES : mg "MOST_BASES" = some (.int 3 t_MOST_BASES)
  t_MOST_BOTTOM : Tok
  c_MOST_BOTTOM : mg "MOST_BOTTOM" = some (.int 4 t_MOST_BOTTOM)
  t_MOST_ROWS : Tok
  c_MOST_ROWS : mg "MOST_ROWS" = some (.int 10 t_MOST_ROWS)
  t_MOST_TOP : Tok
  c_MOST_TOP : mg "MOST_TOP" = some (.int 6 t_MOST_TOP)
  n_ValueError : mg "ValueError" = none
  n_abs : mg "abs" = none
  n_all : mg "all" = none
  n_any : mg "any" = none
  n_bool : mg "bool" = none
  n_enumerate : mg "enumerate" = none
  n_int : mg "int" = none
  n_isinstance : mg "isinstance" = none
  n_len : mg "len" = none
  n_list : mg "list" = none
  n_range : mg "range" = none
  n_reversed : mg "reversed" = none
  n_set : mg "set" = none
  n_sorted : mg "sorted" = none
  n_sum : mg "sum" = none
  n_tuple : mg "tuple" = none
  n_zip : mg "zip" = none
  v_gcd : mg "gcd" = some (.builtin "math.gcd")
section
variable {Pg : Program} {w : World} {K : PySem.W.Frag} {mg : Str → Option Value} {base : Heap}
theorem ok__law_hand (T : Txt K mg) : FnOk Pg w K mg base CX0 1 T.D__law_hand.f T.D__law_hand.d ["script"] (spHand K) := by
  refine T.D__law_hand.F.ok (k := 0) sc__law_hand (fun vs H Q E h => by obtain ⟨_, _, rfl, _⟩ := h; rfl) (fun cdv A outer s H vs Q E hr h => ?_)
  refine ⟨_, (pss_cons (ps_setLc (i := 1) (own := [("cell", 2)]) rfl sc__law_hand.nd rfl rfl (sw_true rfl rfl rfl (by decide +kernel)) (pi_seqK (K := K) rfl (pe_slice (sl_listK (K := K) rfl) (pv 0) po_none (po_some pe_int))) (blkOk_by (N := ["script", "cells", "cell"]) (sc := defScope s__law_hand) (by decide +kernel)) (fun _ _ _ _ _ => (pg_name (i := 2) sc__law_hand.nd rfl (by first | exact Or.inl rfl | exact Or.inr rfl))) (fun _ _ _ _ _ => pts_nil) (fun _ _ _ _ _ => (pe_callB call_abs (by rfl) T.n_abs (by decide +kernel) (pa_cons (pe_callTy call_int1 (by rfl) T.n_int (by decide +kernel) (pa_cons (pv 2) pa_nil)) pa_nil))))
    (pss_one (ps_ret (pe_lst (pa_cons (pv 1) (pa_cons pe_int (pa_cons pe_int (pa_cons (pe_op (op_plusK (K := K) rfl) pe_int (pe_callB (call_lenK (K := K) rfl) (by rfl) T.n_len (by decide +kernel) (pa_cons (pv 1) pa_nil))) (pa_cons pe_int pa_nil))))))))), ?_⟩
  try dsimp only [cxOf, Cx.blk, Cx.nox, Cx.wish]
  refine hand_body h (fun i δ => ⟨[2], by simp, gd_name ?_⟩) (fun cs hl => ?_)
  · walk_at "pd"
    exact ⟨_, rfl⟩
  · walk_at "pd"
    refine rc_lenL (W := quietW K) ?_
    refine rd_plusI (W := quietW K) ?_
    walk_at "pd"
    rw [List.length_map]
def F__law_draw : FD := fun ds P => ∃ n : Int, ds = [.st, .int n] ∧ 0 < n ∧ n.natAbs < 2 ^ 8000 ∧ ∀ r, 0 ≤ r → r < n → P (.int r)
theorem draw_lit {n : Int} {P : D → Prop} (h : (decide (0 < n) && decide (n < 10 ^ 41)) = true) (hP : ∀ r, 0 ≤ r → r < n → P (.int r)) : F__law_draw [.st, .int n] P := by
  rw [Bool.and_eq_true] at h
  have h1 := of_decide_eq_true h.1
  have h2 := of_decide_eq_true h.2
  have h3 : n.natAbs < 2 ^ 140 := by
    have : ((10 : Int) ^ 41).natAbs < 2 ^ 140 := by decide
    omega
  exact ⟨n, rfl, h1, lt_pow h3 (by decide), hP⟩
theorem draw_small {n : Int} {P : D → Prop} (h0 : 0 < n) (h1 : n < 1000000000000) (hP : ∀ r, 0 ≤ r → r < n → P (.int r)) : F__law_draw [.st, .int n] P := by
  have h3 : n.natAbs < 2 ^ 60 := by
    have : (2 : Nat) ^ 60 = 1152921504606846976 := by decide
    omega
  exact ⟨n, rfl, h0, lt_pow h3 (by decide), hP⟩
theorem dr_ix {K : PySem.W.Frag} {σ : L2.St} {H : Hp} {p : Addr} {xs : List V} {te ti : TE} {k : Int} {v : V} (h0 : Evl.Ev te σ H (.ref p)) (h1 : Evl.Ev ti σ H (.int k)) (hs : H p = some (.lst xs)) (hv : atI xs k = some v) : Evl.Ev (tOp (rIx K) te ti) σ H v :=
  Evl.ev_op h0 h1 fun H1 e _ q => .inl ⟨p, xs, k, v, rfl, rfl, .inl (.inl (e _ _ hs)), hv, q H1 (Evl.Ex.refl H1)⟩
theorem dr_eq {K : PySem.W.Frag} {σ : L2.St} {H : Hp} {ta tb : TE} {i j : Int} (ha : Evl.Ev ta σ H (.int i)) (hb : Evl.Ev tb σ H (.int j)) : Evl.Ev (tOp (rEqD K) ta tb) σ H (.bl (decide (i = j))) :=
  Evl.ev_op ha hb fun H1 e _ q => ⟨.int i, .int j, .int i, .int j, by simp [SeqAt.shaped, PyData.canLay0, PyData.depth], by simp [SeqAt.shaped, PyData.canLay0, PyData.depth], by
    have h := q H1 (Evl.Ex.refl H1)
    simp only [PyData.eqv]
    exact h⟩
theorem dr_len {K : PySem.W.Frag} {σ : L2.St} {H : Hp} {te : TE} {p : Addr} {xs : List V} (h : Evl.Ev te σ H (.ref p)) (hs : H p = some (.lst xs)) :
    Evl.Ev (tCB (fun xs H Q => ∃ x n, xs = [x] ∧ LenV K x H n ∧ Q (.int n) H) (tCons te tNil)) σ H (.int (xs.length : Int)) := fun H1 e Q q =>
  h H1 e _ fun H2 e2 => ⟨_, _, rfl, .inl ⟨xs, .inl (.inl ((e.trans e2) _ _ hs)), rfl⟩, q H2 e2⟩
theorem dr_plus {K : PySem.W.Frag} {σ : L2.St} {H : Hp} {ta tb : TE} {i j : Int} (ha : Evl.Ev ta σ H (.int i)) (hb : Evl.Ev tb σ H (.int j)) : Evl.Ev (tOp (rPlus K) ta tb) σ H (.int (i + j)) :=
  Evl.ev_op ha hb fun H1 _ _ q => .inl ⟨i, j, rfl, rfl, q H1 (Evl.Ex.refl H1)⟩
theorem dr_int {σ : L2.St} {H : Hp} {te : TE} {i : Int} (h : Evl.Ev te σ H (.int i)) : Evl.Ev (tCB (fun xs H Q => (∃ i, xs = [.int i] ∧ Q (.int i) H) ∨ ∃ k, xs = [.bl k] ∧ Q (.int (if k then 1 else 0)) H) (tCons te tNil)) σ H (.int i) := fun H1 e _ q =>
  h H1 e _ fun H2 e2 => .inl ⟨i, rfl, q H2 e2⟩
/-- what a draw knows of the heap: entered at H0 -/
structure DrS (W : Wd) (H0 : Hp) (s : Addr) (ns : List Int) (H : Hp) (i c m k : Int) : Prop where
  kp : Keep W H0 H
  hs : H s = some (.lst [.ref W.b, .int i, .int c, .int m, .int k])
  hb : H W.b = some (.lst (ns.map V.int))
  i0 : 0 ≤ i
  i1 : i ≤ 100
  c0 : 0 ≤ c
  m0 : 0 ≤ m
  m1 : m < 2147483647
theorem DrS.ex {W : Wd} {H0 H H' : Hp} {s : Addr} {ns : List Int} {i c m k : Int} (d : DrS W H0 s ns H i c m k) (e : Evl.Ex H H') : DrS W H0 s ns H' i c m k :=
  ⟨d.kp.trans fun a o _ h => e a o h, e _ _ d.hs, e _ _ d.hb, d.i0, d.i1, d.c0, d.m0, d.m1⟩
theorem DrS.set {W : Wd} {H0 H : Hp} {s : Addr} {ns : List Int} {i c m k i' c' m' k' : Int} (d : DrS W H0 s ns H i c m k) (hW : W.s = some s) (hne : W.b ≠ s) (h1 : 0 ≤ i') (h2 : i' ≤ 100) (h3 : 0 ≤ c') (h4 : 0 ≤ m') (h5 : m' < 2147483647) :
    DrS W H0 s ns (upd H s (.lst [.ref W.b, .int i', .int c', .int m', .int k'])) i' c' m' k' :=
  ⟨fun a o n h => by
    have e : a ≠ s := fun z => n (by rw [z]; exact hW)
    rw [upd_ne e]
    exact d.kp a o n h, upd_same, by rw [upd_ne hne]; exact d.hb, h1, h2, h3, h4, h5⟩
theorem dr_mul {σ : L2.St} {H : Hp} {ta tb : TE} {i j : Int} (ha : Evl.Ev ta σ H (.int i)) (hb : Evl.Ev tb σ H (.int j)) (h0 : -18446744073709551616 < j) (h1 : j < 18446744073709551616) : Evl.Ev (tOp (rI CMul fun i j => .int (i * j)) ta tb) σ H (.int (i * j)) :=
  Evl.ev_op ha hb (Evl.rv_I (C := CMul) (.inr ⟨by
    have : (2 : Int) ^ 64 = 18446744073709551616 := by decide
    omega, by
    have : (2 : Int) ^ 64 = 18446744073709551616 := by decide
    omega⟩))
theorem dr_mulL {σ : L2.St} {H : Hp} {ta tb : TE} {i j : Int} (ha : Evl.Ev ta σ H (.int i)) (hb : Evl.Ev tb σ H (.int j)) (h0 : -18446744073709551616 < i) (h1 : i < 18446744073709551616) : Evl.Ev (tOp (rI CMul fun i j => .int (i * j)) ta tb) σ H (.int (i * j)) :=
  Evl.ev_op ha hb (Evl.rv_I (C := CMul) (.inl ⟨by
    have : (2 : Int) ^ 64 = 18446744073709551616 := by decide
    omega, by
    have : (2 : Int) ^ 64 = 18446744073709551616 := by decide
    omega⟩))
theorem dr_mod {σ : L2.St} {H : Hp} {ta tb : TE} {i j : Int} (ha : Evl.Ev ta σ H (.int i)) (hb : Evl.Ev tb σ H (.int j)) (h : 0 < j) : Evl.Ev (tOp (rI (fun _ j => 0 < j) fun i j => .int (i % j)) ta tb) σ H (.int (i % j)) := Evl.ev_op ha hb (Evl.rv_I (C := fun _ j => 0 < j) h)
theorem dr_div {σ : L2.St} {H : Hp} {ta tb : TE} {i j : Int} (ha : Evl.Ev ta σ H (.int i)) (hb : Evl.Ev tb σ H (.int j)) (h : 0 < j) (h2 : j < 1000000000000) : Evl.Ev (tOp (rI CDivW fun i j => .int (i / j)) ta tb) σ H (.int (i / j)) := Evl.ev_op ha hb (Evl.rv_I (div_small h h2))
theorem seq_tail {t u : TS} {D : Ends} {σ : L2.St} {H : Hp} (Mid : L2.St → Hp → Prop) (tail : ∀ σ' H', Mid σ' H' → u D σ' H') (main : (∀ σ' H', Mid σ' H' → u D σ' H') → tSeq t u D σ H) : tSeq t u D σ H := main tail
theorem len__law_draw : ∀ ds P, F__law_draw ds P → ds.length = 2 := by (intro ds P h; first | exact h | (obtain ⟨_, rfl, _⟩ := h; rfl) | (obtain ⟨_, _, rfl, _⟩ := h; rfl) | (obtain ⟨_, _, _, rfl, _⟩ := h; rfl) | (obtain ⟨_, _, _, _, rfl, _⟩ := h; rfl) | (obtain ⟨_, _, _, _, _, rfl, _⟩ := h; rfl) | (obtain ⟨_, _, _, _, _, _, rfl, _⟩ := h; rfl) | (obtain ⟨_, _, _, _, _, _, _, rfl, _⟩ := h; rfl) | (obtain ⟨_, _, _, _, _, _, _, _, rfl, _⟩ := h; rfl) | (obtain ⟨_, _, _, _, _, _, _, _, _, rfl, _⟩ := h; rfl) | (obtain ⟨_, _, _, _, _, _, _, _, _, _, rfl, _⟩ := h; rfl) | (obtain ⟨_, _, _, _, _, _, _, _, _, _, _, rfl, _⟩ := h; rfl) | (obtain ⟨_, _, _, _, _, _, _, _, _, _, _, _, rfl, _⟩ := h; rfl) | (obtain ⟨_, _, _, _, _, _, _, _, _, _, _, _, _, rfl, _⟩ := h; rfl) | (obtain ⟨_, _, _, _, _, _, _, _, _, _, _, _, _, rfl, _⟩ := h; rfl) | (obtain ⟨_, _, _, _, _, _, _, _, _, _, _, _, _, _, rfl, _⟩ := h; rfl) | (obtain ⟨_, _, _, _, _, _, _, _, _, _, _, _, _, _, _, rfl, _⟩ := h; rfl) | (obtain ⟨_, _, _, _, _, _, _, _, _, _, _, _, _, _, _, _, rfl, _⟩ := h; rfl) | (obtain ⟨_, _, _, _, _, _, _, _, _, _, _, _, _, _, _, _, _, rfl, _⟩ := h; rfl) | (obtain ⟨_, _, _, _, _, _, _, _, _, _, _, _, _, _, _, _, _, _, rfl, _⟩ := h; rfl) | (obtain ⟨_, _, _, _, _, _, _, _, _, _, _, _, _, _, _, _, _, _, _, rfl, _⟩ := h; rfl) | (obtain ⟨_, _, _, _, _, _, _, _, _, _, _, _, _, _, _, _, _, _, _, _, rfl, _⟩ := h; rfl) | (obtain ⟨_, _, _, _, _, _, _, _, _, _, _, _, _, _, _, _, _, _, _, _, _, rfl, _⟩ := h; rfl) | (obtain ⟨rfl, _⟩ := h; rfl))
theorem ok__law_draw (T : Txt K mg) : FnOk Pg w K mg base CX0 1 T.D__law_draw.f T.D__law_draw.d ["hand", "many"] ((spD K F__law_draw)) := by
  refine T.D__law_draw.F.ok (k := 0) sc__law_draw (spD_len (len__law_draw)) (fun cdv A outer s H vs Q E hr h => ?_)
  refine ⟨_, (pss_cons (ps_if (PW.pt (pw_and (pt_cmpR (op_eqDK (K := K) rfl (hr_u hr)) (pe_ix (ix_seqK (K := K) rfl) (pv 0) pe_int (fun _ _ => rfl)) pe_int (nomark _)) (pw_and1 (pt_cmpR op_lt (pe_ix (ix_seqK (K := K) rfl) (pv 0) pe_int (fun _ _ => rfl)) (pe_callB (call_lenK (K := K) rfl) (by rfl) T.n_len (by decide +kernel) (pa_cons (pe_ix (ix_seqK (K := K) rfl) (pv 0) pe_int (fun _ _ => rfl)) pa_nil)) (nomark _)))))
      (pss_cons (ps_set (i := 3) sc__law_draw.nd rfl (by first | exact Or.inl rfl | exact Or.inr rfl) (pe_ix (ix_seqK (K := K) rfl) (pe_ix (ix_seqK (K := K) rfl) (pv 0) pe_int (fun _ _ => rfl)) (pe_ix (ix_seqK (K := K) rfl) (pv 0) pe_int (fun _ _ => rfl)) (fun _ _ => rfl)))
    (pss_cons (ps_asg (pe_op (op_plusK (K := K) rfl) (pe_ix (ix_seqK (K := K) rfl) (pv 0) pe_int (fun _ _ => rfl)) pe_int) (pg_sub (pv 0) pe_int set_list))
    (pss_cons (ps_asg (pe_op op_mod (pe_callTy call_int1 (by rfl) T.n_int (by decide +kernel) (pa_cons (pe_op (op_plusK (K := K) rfl) (pe_op (op_plusK (K := K) rfl) (pe_op op_mul (pe_ix (ix_seqK (K := K) rfl) (pv 0) pe_int (fun _ _ => rfl)) pe_int) (pv 3)) pe_int) pa_nil)) pe_int) (pg_sub (pv 0) pe_int set_list))
    (pss_one (ps_if (pt_cmpR op_ge (pv 3) (pe_op op_pow pe_int pe_int) (nomark _))
      (pss_one (ps_asg (pv 3) (pg_sub (pv 0) pe_int set_list)))
      pss_nil)))))
      pss_nil)
    (pss_cons (ps_if (pt_cmpR op_gt (pe_ix (ix_seqK (K := K) rfl) (pv 0) pe_int (fun _ _ => rfl)) pe_int (nomark _))
      (pss_cons (ps_set (i := 4) sc__law_draw.nd rfl (by first | exact Or.inl rfl | exact Or.inr rfl) (pe_op op_mod (pe_callTy call_int1 (by rfl) T.n_int (by decide +kernel) (pa_cons (pe_ix (ix_seqK (K := K) rfl) (pv 0) pe_int (fun _ _ => rfl)) pa_nil)) (pv 1)))
    (pss_cons (ps_asg (pe_op op_fdivW (pe_ix (ix_seqK (K := K) rfl) (pv 0) pe_int (fun _ _ => rfl)) (pv 1)) (pg_sub (pv 0) pe_int set_list))
    (pss_one (ps_ret (pv 4)))))
      pss_nil)
    (pss_cons (ps_asg (pe_op (op_plusK (K := K) rfl) (pe_ix (ix_seqK (K := K) rfl) (pv 0) pe_int (fun _ _ => rfl)) pe_int) (pg_sub (pv 0) pe_int set_list))
    (pss_cons (ps_set (i := 2) sc__law_draw.nd rfl (by first | exact Or.inl rfl | exact Or.inr rfl) (pe_op op_mod (pe_callTy call_int1 (by rfl) T.n_int (by decide +kernel) (pa_cons (pe_op op_mul (pe_callTy call_int1 (by rfl) T.n_int (by decide +kernel) (pa_cons (pe_op (op_plusK (K := K) rfl) (pe_ix (ix_seqK (K := K) rfl) (pv 0) pe_int (fun _ _ => rfl)) (pe_op op_mul pe_int (pe_ix (ix_seqK (K := K) rfl) (pv 0) pe_int (fun _ _ => rfl)))) pa_nil)) pe_int) pa_nil)) pe_int))
    (pss_cons (ps_set (i := 2) sc__law_draw.nd rfl (by first | exact Or.inl rfl | exact Or.inr rfl) (pe_op op_mod (pe_callTy call_int1 (by rfl) T.n_int (by decide +kernel) (pa_cons (pe_op op_mul (pv 2) (pe_op (op_plusK (K := K) rfl) (pe_op op_fdivW (pv 2) pe_int) pe_int)) pa_nil)) pe_int))
    (pss_cons (ps_set (i := 2) sc__law_draw.nd rfl (by first | exact Or.inl rfl | exact Or.inr rfl) (pe_op op_mod (pe_callTy call_int1 (by rfl) T.n_int (by decide +kernel) (pa_cons (pe_op op_mul (pv 2) (pe_op (op_plusK (K := K) rfl) (pe_op op_fdivW (pv 2) pe_int) pe_int)) pa_nil)) pe_int))
    (pss_one (ps_ret (pe_op op_mod (pe_callTy call_int1 (by rfl) T.n_int (by decide +kernel) (pa_cons (pe_op op_fdivW (pv 2) pe_int) pa_nil)) (pv 1)))))))))), ?_⟩
  try dsimp only [cxOf, Cx.blk, Cx.nox, Cx.wish]
  obtain ⟨W, M, ds, P, eK, wf, hr1, ⟨n, rfl, hn, hn2, hP⟩, q⟩ := h
  subst eK
  cases hr1 with
  | cons r1 r2 =>
  cases r2 with
  | cons r2 r3 =>
  cases r3
  cases r2
  cases r1 with
  | @st s hW =>
  obtain ⟨ns, i, c, ⟨m, k⟩, hs, hne, hb, i0, i1, hl, c0, m0, m1⟩ := wf.g s hW
  have dS : DrS W H s ns H i c m k := ⟨Keep.refl H, hs, hb, i0, i1, c0, m0, m1⟩
  have ok : ∀ {H' : Hp} {i c m k : Int}, DrS W H s ns H' i c m k → ∀ r, 0 ≤ r → r < n → Q (.int r) H' := fun {H' i c m k} d r h0 h1 => q (.int r) (.int r) H' (fun s' e => by
    have e2 : s' = s := Option.some.inj (e.symm.trans hW)
    subst e2
    exact ⟨ns, i, c, (m, k), d.hs, hne, d.hb, d.i0, d.i1, hl, d.c0, d.m0, d.m1⟩) d.kp (.int r) (hP r h0 h1)
  have at0 : ∀ {i c m k : Int}, atI [V.ref W.b, .int i, .int c, .int m, .int k] 0 = some (.ref W.b) := atI_nat (j := 0) rfl
  have at1 : ∀ {i c m k : Int}, atI [V.ref W.b, .int i, .int c, .int m, .int k] 1 = some (.int i) := atI_nat (j := 1) rfl
  have at2 : ∀ {i c m k : Int}, atI [V.ref W.b, .int i, .int c, .int m, .int k] 2 = some (.int c) := atI_nat (j := 2) rfl
  have at3 : ∀ {i c m k : Int}, atI [V.ref W.b, .int i, .int c, .int m, .int k] 3 = some (.int m) := atI_nat (j := 3) rfl
  have at4 : ∀ {i c m k : Int}, atI [V.ref W.b, .int i, .int c, .int m, .int k] 4 = some (.int k) := atI_nat (j := 4) rfl
  have x0 : ∀ {σ : L2.St} {H' : Hp} {i c m k : Int}, DrS W H s ns H' i c m k → σ[0]? = some (some (.ref s)) → Evl.Ev (tOp (rIx W.K) (tVar 0) (tC (V.int 0))) σ H' (.ref W.b) := fun d h => dr_ix (Evl.ev_var h) Evl.ev_c d.hs at0
  have x1 : ∀ {σ : L2.St} {H' : Hp} {i c m k : Int}, DrS W H s ns H' i c m k → σ[0]? = some (some (.ref s)) → Evl.Ev (tOp (rIx W.K) (tVar 0) (tC (V.int 1))) σ H' (.int i) := fun d h => dr_ix (Evl.ev_var h) Evl.ev_c d.hs at1
  have x2 : ∀ {σ : L2.St} {H' : Hp} {i c m k : Int}, DrS W H s ns H' i c m k → σ[0]? = some (some (.ref s)) → Evl.Ev (tOp (rIx W.K) (tVar 0) (tC (V.int 2))) σ H' (.int c) := fun d h => dr_ix (Evl.ev_var h) Evl.ev_c d.hs at2
  have x3 : ∀ {σ : L2.St} {H' : Hp} {i c m k : Int}, DrS W H s ns H' i c m k → σ[0]? = some (some (.ref s)) → Evl.Ev (tOp (rIx W.K) (tVar 0) (tC (V.int 3))) σ H' (.int m) := fun d h => dr_ix (Evl.ev_var h) Evl.ev_c d.hs at3
  have x4 : ∀ {σ : L2.St} {H' : Hp} {i c m k : Int}, DrS W H s ns H' i c m k → σ[0]? = some (some (.ref s)) → Evl.Ev (tOp (rIx W.K) (tVar 0) (tC (V.int 4))) σ H' (.int k) := fun d h => dr_ix (Evl.ev_var h) Evl.ev_c d.hs at4
  have put : ∀ {σ : L2.St} {H' : Hp} {i c m k i' c' m' k' : Int} {y z : Int} {j : Nat} {te : TE} {D : Ends}, DrS W H s ns H' i c m k → σ[0]? = some (some (.ref s)) → Evl.Ev te σ H' (.int z) → y = (j : Int) → j < 5 →
      [V.ref W.b, .int i, .int c, .int m, .int k].set j (.int z) = [V.ref W.b, .int i', .int c', .int m', .int k'] → 0 ≤ i' → i' ≤ 100 → 0 ≤ c' → 0 ≤ m' → m' < 2147483647 → (∀ H2, DrS W H s ns H2 i' c' m' k' → D.nx σ H2) →
      tAsg te (gSub (tVar 0) (tC (.int y)) rSetL) D σ H' := fun {σ H' i c m k i' c' m' k' y z j te D} d hσ he hk hj hset h0 h1 h2 h3 h4 kk => by
    subst hk
    refine Evl.s_setL d.hs he (Evl.ev_var hσ) Evl.ev_c hj fun H2 e2 => ?_
    rw [hset]
    exact kk _ ((d.ex e2).set hW hne h0 h1 h2 h3 h4)
  refine seq_tail (fun σ H' => ∃ i c m k, DrS W H s ns H' i c m k ∧ σ[0]? = some (some (.ref s)) ∧ σ[1]? = some (some (.int n)) ∧ σ.length = 5) ?_ (fun tail => ?_)
  · rintro σ H' ⟨i, c, m, k, d, hσ, hn1, hl4⟩
    refine Evl.s_if (Evl.et_test (Evl.ev_op (x2 d hσ) Evl.ev_c Evl.rv_I0)) (fun hb1 H1 e1 => ?_) (fun hb1 H1 e1 => ?_)
    · have hc := of_decide_eq_true hb1
      have d1 := d.ex e1
      refine Evl.q_asg (dr_mod (dr_int (x2 d1 hσ)) (Evl.ev_var hn1) hn) fun H2 e2 => ?_
      have d2 := d1.ex e2
      have hσ2 : (σ.set 4 (some (V.int (c % n))))[0]? = some (some (.ref s)) := by rw [List.getElem?_set_ne (by decide)]; exact hσ
      have hn2' : (σ.set 4 (some (V.int (c % n))))[1]? = some (some (.int n)) := by rw [List.getElem?_set_ne (by decide)]; exact hn1
      have h4 : (σ.set 4 (some (V.int (c % n))))[4]? = some (some (.int (c % n))) := by rw [List.getElem?_set_self (by omega)]
      refine put (i' := i) (c' := c / n) (m' := m) (k' := k) (j := 2) d2 hσ2 (Evl.ev_op (x2 d2 hσ2) (Evl.ev_var hn2') (Evl.rv_I (div_ok hn hn2))) rfl (by decide) rfl d2.i0 d2.i1 (Int.ediv_nonneg d2.c0 (by omega)) d2.m0 d2.m1 fun H3 d3 => ?_
      exact Evl.s_ret (Evl.ev_var h4) fun H4 e4 => ok (d3.ex e4) _ (Int.emod_nonneg _ (by omega)) (Int.emod_lt_of_pos _ hn)
    · have d1 := d.ex e1
      refine put (i' := i) (c' := c) (m' := m) (k' := k + 1) (j := 4) d1 hσ (dr_plus (x4 d1 hσ) Evl.ev_c) rfl (by decide) rfl d1.i0 d1.i1 d1.c0 d1.m0 d1.m1 fun H2 d2 => ?_
      refine Evl.q_asg (dr_mod (dr_int (dr_mul (dr_int (dr_plus (x3 d2 hσ) (dr_mulL Evl.ev_c (x4 d2 hσ) (by decide) (by decide)))) Evl.ev_c (by decide) (by decide))) Evl.ev_c (by decide)) fun H3 e3 => ?_
      have d3 := d2.ex e3
      have b1 := Int.emod_nonneg ((m + 7919 * (k + 1)) * 48271) (b := 2147483647) (by decide)
      have b2 := Int.emod_lt_of_pos ((m + 7919 * (k + 1)) * 48271) (b := 2147483647) (by decide)
      generalize hr0 : (m + 7919 * (k + 1)) * 48271 % 2147483647 = r0 at b1 b2
      have h2 : (σ.set 2 (some (V.int r0)))[2]? = some (some (.int r0)) := by rw [List.getElem?_set_self (by omega)]
      have q1 : r0 / 1009 < 2147483647 := by omega
      have q0 : 0 ≤ r0 / 1009 := by omega
      refine Evl.q_asg (dr_mod (dr_int (dr_mul (Evl.ev_var h2) (dr_plus (dr_div (Evl.ev_var h2) Evl.ev_c (by decide) (by decide)) Evl.ev_c) (by omega) (by omega))) Evl.ev_c (by decide)) fun H4 e4 => ?_
      have d4 := d3.ex e4
      have b3 := Int.emod_nonneg (r0 * (r0 / 1009 + 69621)) (b := 2147483647) (by decide)
      have b4 := Int.emod_lt_of_pos (r0 * (r0 / 1009 + 69621)) (b := 2147483647) (by decide)
      generalize r0 * (r0 / 1009 + 69621) % 2147483647 = r1 at b3 b4
      have h3 : ((σ.set 2 (some (V.int r0))).set 2 (some (V.int r1)))[2]? = some (some (.int r1)) := by rw [List.getElem?_set_self (by rw [List.length_set]; omega)]
      refine Evl.q_asg (dr_mod (dr_int (dr_mul (Evl.ev_var h3) (dr_plus (dr_div (Evl.ev_var h3) Evl.ev_c (by decide) (by decide)) Evl.ev_c) (by omega) (by omega))) Evl.ev_c (by decide)) fun H5 e5 => ?_
      have d5 := d4.ex e5
      generalize r1 * (r1 / 2003 + 40692) % 2147483399 = r2
      have h5 : (((σ.set 2 (some (V.int r0))).set 2 (some (V.int r1))).set 2 (some (V.int r2)))[2]? = some (some (.int r2)) := by rw [List.getElem?_set_self (by rw [List.length_set, List.length_set]; omega)]
      have h6 : (((σ.set 2 (some (V.int r0))).set 2 (some (V.int r1))).set 2 (some (V.int r2)))[1]? = some (some (.int n)) := by rw [List.getElem?_set_ne (by decide), List.getElem?_set_ne (by decide), List.getElem?_set_ne (by decide)]; exact hn1
      refine Evl.s_ret (dr_mod (dr_int (dr_div (Evl.ev_var h5) Evl.ev_c (by decide) (by decide))) (Evl.ev_var h6) hn) fun H6 e6 => ?_
      exact ok (d5.ex e6) _ (Int.emod_nonneg _ (by omega)) (Int.emod_lt_of_pos _ hn)
  · refine Evl.q_when (D := { nx := fun x H' => Q V.non H', rt := Q }) (Evl.et_and (Evl.et_test (dr_eq (x2 dS rfl) Evl.ev_c)) (fun _ => Evl.et_test (Evl.ev_op (x1 dS rfl) (dr_len (x0 dS rfl) dS.hb) Evl.rv_I0))) (fun hb1 H1 e1 => ?_) (fun hb1 H1 e1 => tail _ _ ⟨_, _, _, _, dS.ex e1, rfl, rfl, rfl⟩)
    rw [Bool.and_eq_true] at hb1
    have hi := of_decide_eq_true hb1.2
    rw [List.length_map] at hi
    have d1 := dS.ex e1
    obtain ⟨j, rfl⟩ := Int.eq_ofNat_of_zero_le i0
    have hj : j < ns.length := by omega
    have hat : atI (ns.map V.int) (j : Int) = some (.int ns[j]) := atI_nat (by rw [List.getElem?_map, List.getElem?_eq_getElem hj]; rfl)
    refine Evl.q_asg (dr_ix (x0 d1 rfl) (x1 d1 rfl) d1.hb hat) fun H2 e2 => ?_
    have d2 := d1.ex e2
    refine put (i' := (j : Int) + 1) (c' := c) (m' := m) (k' := k) (j := 1) d2 rfl (dr_plus (x1 d2 rfl) Evl.ev_c) rfl (by decide) rfl (by omega) (by omega) d2.c0 d2.m0 d2.m1 fun H3 d3 => ?_
    have b1 := Int.emod_nonneg (m * 69621 + ns[j] + 11) (b := 2147483629) (by decide)
    have b2 := Int.emod_lt_of_pos (m * 69621 + ns[j] + 11) (b := 2147483629) (by decide)
    refine put (i' := (j : Int) + 1) (c' := c) (m' := (m * 69621 + ns[j] + 11) % 2147483629) (k' := k) (j := 3) d3 rfl (dr_mod (dr_int (dr_plus (dr_plus (dr_mul (x3 d3 rfl) Evl.ev_c (by decide) (by decide)) (Evl.ev_var rfl)) Evl.ev_c)) Evl.ev_c (by decide)) rfl (by decide) rfl (by omega) (by omega) d3.c0 b1 (by omega) fun H4 d4 => ?_
    refine Evl.s_if (Evl.et_test (Evl.ev_op (Evl.ev_var rfl) (Evl.ev_op Evl.ev_c Evl.ev_c (Evl.rv_I ⟨by decide, by decide, by decide⟩)) Evl.rv_I0)) (fun hb2 H5 e5 => ?_) (fun hb2 H5 e5 => ?_)
    · have ht := of_decide_eq_true hb2
      refine put (i' := (j : Int) + 1) (c' := ns[j]) (m' := (m * 69621 + ns[j] + 11) % 2147483629) (k' := k) (j := 2) (d4.ex e5) rfl (Evl.ev_var rfl) rfl (by decide) rfl (by omega) (by omega) (by
        have : (0 : Int) ≤ 10 ^ (18 : Int).toNat := by decide
        omega) b1 (by omega) fun H6 d6 => ?_
      exact tail _ _ ⟨_, _, _, _, d6, rfl, rfl, rfl⟩
    · exact tail _ _ ⟨_, _, _, _, d4.ex e5, rfl, rfl, rfl⟩
def F__law_lowest : FD := fun ds P => ∃ a b : Int, ds = [.int a, .int b] ∧ 0 < b ∧ b.natAbs < 2 ^ 8000 ∧ P (fr (lowF a b))
theorem len__law_lowest : ∀ ds P, F__law_lowest ds P → ds.length = 2 := by (intro ds P h; first | exact h | (obtain ⟨_, rfl, _⟩ := h; rfl) | (obtain ⟨_, _, rfl, _⟩ := h; rfl) | (obtain ⟨_, _, _, rfl, _⟩ := h; rfl) | (obtain ⟨_, _, _, _, rfl, _⟩ := h; rfl) | (obtain ⟨_, _, _, _, _, rfl, _⟩ := h; rfl) | (obtain ⟨_, _, _, _, _, _, rfl, _⟩ := h; rfl) | (obtain ⟨_, _, _, _, _, _, _, rfl, _⟩ := h; rfl) | (obtain ⟨_, _, _, _, _, _, _, _, rfl, _⟩ := h; rfl) | (obtain ⟨_, _, _, _, _, _, _, _, _, rfl, _⟩ := h; rfl) | (obtain ⟨_, _, _, _, _, _, _, _, _, _, rfl, _⟩ := h; rfl) | (obtain ⟨_, _, _, _, _, _, _, _, _, _, _, rfl, _⟩ := h; rfl) | (obtain ⟨_, _, _, _, _, _, _, _, _, _, _, _, rfl, _⟩ := h; rfl) | (obtain ⟨_, _, _, _, _, _, _, _, _, _, _, _, _, rfl, _⟩ := h; rfl) | (obtain ⟨_, _, _, _, _, _, _, _, _, _, _, _, _, rfl, _⟩ := h; rfl) | (obtain ⟨_, _, _, _, _, _, _, _, _, _, _, _, _, _, rfl, _⟩ := h; rfl) | (obtain ⟨_, _, _, _, _, _, _, _, _, _, _, _, _, _, _, rfl, _⟩ := h; rfl) | (obtain ⟨_, _, _, _, _, _, _, _, _, _, _, _, _, _, _, _, rfl, _⟩ := h; rfl) | (obtain ⟨_, _, _, _, _, _, _, _, _, _, _, _, _, _, _, _, _, rfl, _⟩ := h; rfl) | (obtain ⟨_, _, _, _, _, _, _, _, _, _, _, _, _, _, _, _, _, _, rfl, _⟩ := h; rfl) | (obtain ⟨_, _, _, _, _, _, _, _, _, _, _, _, _, _, _, _, _, _, _, rfl, _⟩ := h; rfl) | (obtain ⟨_, _, _, _, _, _, _, _, _, _, _, _, _, _, _, _, _, _, _, _, rfl, _⟩ := h; rfl) | (obtain ⟨_, _, _, _, _, _, _, _, _, _, _, _, _, _, _, _, _, _, _, _, _, rfl, _⟩ := h; rfl) | (obtain ⟨rfl, _⟩ := h; rfl))
theorem ok__law_lowest (T : Txt K mg) : FnOk Pg w K mg base CX0 1 T.D__law_lowest.f T.D__law_lowest.d ["top", "below"] ((spD K F__law_lowest)) := by
  refine T.D__law_lowest.F.ok (k := 0) sc__law_lowest (spD_len (len__law_lowest)) (fun cdv A outer s H vs Q E hr h => ?_)
  refine ⟨_, (pss_cons (ps_par (i := 2) (j := 3) (by rfl) sc__law_lowest.nd rfl rfl (by decide) rfl rfl (pa_cons (pe_callB call_abs (by rfl) T.n_abs (by decide +kernel) (pa_cons (pv 0) pa_nil)) (pa_cons (pv 1) pa_nil)) (by rfl))
    (pss_cons (ps_while PassesOwn.never (pt_cmpR op_gt (pv 3) pe_int (nomark _)) (pss_one (ps_par (i := 2) (j := 3) (by rfl) sc__law_lowest.nd rfl rfl (by decide) rfl rfl (pa_cons (pv 3) (pa_cons (pe_op op_mod (pe_callTy call_int1 (by rfl) T.n_int (by decide +kernel) (pa_cons (pv 2) pa_nil)) (pv 3)) pa_nil)) (by rfl))))
    (pss_one (ps_ret (pe_tup (pa_cons (pe_op op_fdivW (pv 0) (pv 2)) (pa_cons (pe_op op_fdivW (pv 1) (pv 2)) pa_nil))))))), ?_⟩
  try dsimp only [cxOf, Cx.blk, Cx.nox, Cx.wish]
  (refine body_of h fun W ds P eK f => ?_); subst eK
  obtain ⟨a, b, rfl, hb, hs, hP⟩ := f
  walk_at "pd"
  refine ⟨_, _, rfl, ?_⟩
  walk_at "pd"
  refine sd_while (fun δ => ∃ x y, δ = [some (.int a), some (.int b), some (.int x), some (.int y)] ∧ 0 ≤ x ∧ 0 ≤ y ∧ Nat.gcd x.natAbs y.natAbs = gcdI a b) (fun δ => match δ with | [_, _, _, some (.int y)] => y.natAbs | _ => 0) ⟨_, _, rfl, ?_, ?_, ?_⟩ ?_
  · split <;> omega
  · omega
  · show Nat.gcd _ _ = Nat.gcd _ _
    congr 1
    split <;> omega
  · rintro δ ⟨x, y, rfl, hx, hy, hg⟩
    walk_at "pd"
    refine ⟨fun hb1 => ?_, fun hb1 => ?_⟩
    · have hy1 := of_decide_eq_true hb1
      walk_at "pd"
      · exact hy1
      · refine ⟨_, _, rfl, ?_⟩
        refine ⟨⟨y, x % y, rfl, hy, Int.emod_nonneg _ (by omega), ?_⟩, ?_⟩
        · rw [← hg, Int.natAbs_emod_of_nonneg hx]
          rw [Nat.gcd_comm y.natAbs, ← Nat.gcd_rec, Nat.gcd_comm]
        · show (x % y).natAbs < y.natAbs
          have h1 := Int.emod_nonneg x (b := y) (by omega)
          have h2 := Int.emod_lt_of_pos x hy1
          omega
    · have hy1 := of_decide_eq_false hb1
      have hy0 : y = 0 := by omega
      subst hy0
      have hxg : x = (gcdI a b : Int) := by
        rw [← hg]
        simp
        omega
      walk_at "pd"
      · rw [hxg]; exact div_gcd hb hs
      · rw [hxg]; exact div_gcd hb hs
      · rw [hxg]; exact hP
def F__law_unit : FD := fun ds P => ∃ n t : Nat, ds = [.st, .int (n : Int), .int (t : Int)] ∧ n ≤ 3 ∧ 1 ≤ t ∧ t ≤ 2 ∧ ∀ v, Hv n (2 * t) v → P (uT v)
theorem uT_eq (v : List Int) : uT v = .tup (v.map fun x => fr (lowF x 12)) := by
  unfold uT un
  rw [List.map_map]
  rfl
theorem low_half {d b : Int} (hb : b = 1 ∨ b = 2) : lowF d b = lowF (6 * (2 * d / b)) 12 := by
  have b0 : 0 < b := by omega
  have i := lowF_isF (a := 6 * (2 * d / b)) (b := 12) (by decide)
  refine lowF_eq b0 i ?_
  have c := lowF_cross (a := 6 * (2 * d / b)) (b := 12) (by decide)
  generalize lowF (6 * (2 * d / b)) 12 = r at *
  have h : (12 : Int) * (r.1 * b) = 12 * (d * r.2) := by
    rcases hb with rfl | rfl
    · rw [Int.ediv_one] at c
      grind
    · rw [Int.mul_ediv_cancel_left _ (by decide)] at c
      grind
  exact Int.eq_of_mul_eq_mul_left (by decide) h
theorem len__law_unit : ∀ ds P, F__law_unit ds P → ds.length = 3 := by (intro ds P h; first | exact h | (obtain ⟨_, rfl, _⟩ := h; rfl) | (obtain ⟨_, _, rfl, _⟩ := h; rfl) | (obtain ⟨_, _, _, rfl, _⟩ := h; rfl) | (obtain ⟨_, _, _, _, rfl, _⟩ := h; rfl) | (obtain ⟨_, _, _, _, _, rfl, _⟩ := h; rfl) | (obtain ⟨_, _, _, _, _, _, rfl, _⟩ := h; rfl) | (obtain ⟨_, _, _, _, _, _, _, rfl, _⟩ := h; rfl) | (obtain ⟨_, _, _, _, _, _, _, _, rfl, _⟩ := h; rfl) | (obtain ⟨_, _, _, _, _, _, _, _, _, rfl, _⟩ := h; rfl) | (obtain ⟨_, _, _, _, _, _, _, _, _, _, rfl, _⟩ := h; rfl) | (obtain ⟨_, _, _, _, _, _, _, _, _, _, _, rfl, _⟩ := h; rfl) | (obtain ⟨_, _, _, _, _, _, _, _, _, _, _, _, rfl, _⟩ := h; rfl) | (obtain ⟨_, _, _, _, _, _, _, _, _, _, _, _, _, rfl, _⟩ := h; rfl) | (obtain ⟨_, _, _, _, _, _, _, _, _, _, _, _, _, rfl, _⟩ := h; rfl) | (obtain ⟨_, _, _, _, _, _, _, _, _, _, _, _, _, _, rfl, _⟩ := h; rfl) | (obtain ⟨_, _, _, _, _, _, _, _, _, _, _, _, _, _, _, rfl, _⟩ := h; rfl) | (obtain ⟨_, _, _, _, _, _, _, _, _, _, _, _, _, _, _, _, rfl, _⟩ := h; rfl) | (obtain ⟨_, _, _, _, _, _, _, _, _, _, _, _, _, _, _, _, _, rfl, _⟩ := h; rfl) | (obtain ⟨_, _, _, _, _, _, _, _, _, _, _, _, _, _, _, _, _, _, rfl, _⟩ := h; rfl) | (obtain ⟨_, _, _, _, _, _, _, _, _, _, _, _, _, _, _, _, _, _, _, rfl, _⟩ := h; rfl) | (obtain ⟨_, _, _, _, _, _, _, _, _, _, _, _, _, _, _, _, _, _, _, _, rfl, _⟩ := h; rfl) | (obtain ⟨_, _, _, _, _, _, _, _, _, _, _, _, _, _, _, _, _, _, _, _, _, rfl, _⟩ := h; rfl) | (obtain ⟨rfl, _⟩ := h; rfl))
theorem ok__law_unit (T : Txt K mg) : FnOk Pg w K mg base CX0 2 T.D__law_unit.f T.D__law_unit.d ["hand", "bases", "most"] ((spD K F__law_unit)) := by
  have G__law_draw := ok__law_draw (Pg := Pg) (w := w) (base := base) T
  have G__law_lowest := ok__law_lowest (Pg := Pg) (w := w) (base := base) T
  refine T.D__law_unit.F.ok (k := 1) sc__law_unit (spD_len (len__law_unit)) (fun cdv A outer s H vs Q E hr h => ?_)
  refine ⟨_, (pss_cons (ps_set (i := 3) sc__law_unit.nd rfl (by first | exact Or.inl rfl | exact Or.inr rfl) (pe_lst pa_nil))
    (pss_cons (ps_for PassesOwn.never rfl (pi_range1 (by rfl) T.n_range (pa_cons (pv 1) pa_nil)) (pg_name (i := 4) sc__law_unit.nd rfl (by first | exact Or.inl rfl | exact Or.inr rfl))
      (pss_cons (ps_set (i := 5) sc__law_unit.nd rfl (by first | exact Or.inl rfl | exact Or.inr rfl) (pe_ix (ix_seqK (K := K) rfl) (pe_lst (pa_cons pe_int (pa_cons pe_int (pa_cons pe_int (pa_cons pe_int pa_nil))))) (pe_call G__law_draw (hr.mono (by decide)) (by rfl) T.D__law_draw.g T.D__law_draw.F.kp T.D__law_draw.b .nil pass0 (pa_cons (pv 0) (pa_cons pe_int pa_nil))) (fun _ _ => rfl)))
    (pss_one (ps_expr (pe_bm PySem.F.plainAttrs_list PySem.F.slot_list_append PySem.F.type_list_append mt_append (pv 3) (pa_cons (pe_call G__law_lowest (hr.mono (by decide)) (by rfl) T.D__law_lowest.g T.D__law_lowest.F.kp T.D__law_lowest.b .nil pass0 (pa_cons (pe_op op_sub (pe_call G__law_draw (hr.mono (by decide)) (by rfl) T.D__law_draw.g T.D__law_draw.F.kp T.D__law_draw.b .nil pass0 (pa_cons (pv 0) (pa_cons (pe_op (op_plusK (K := K) rfl) (pe_op op_mulW pe_int (pv 2)) pe_int) pa_nil))) (pv 2)) (pa_cons (pv 5) pa_nil))) pa_nil))))))
    (pss_one (ps_ret (pe_callTy (call_tuple_ofK (K := K) rfl) (by rfl) T.n_tuple (by decide +kernel) (pa_cons (pv 3) pa_nil)))))), ?_⟩
  try dsimp only [cxOf, Cx.blk, Cx.nox, Cx.wish]
  refine body_ofO h fun W ds P eK f => ?_
  subst eK
  obtain ⟨n, t, rfl, n3, t1, t2, hP⟩ := f
  refine so_seq (so_new ?_)
  walk_at "pd"
  refine fun p fresh0 => ?_
  refine so_seq (so_for (it_rng1 ?_))
  walk_at "pd"
  refine ⟨_, rfl, by omega, by omega, fun i ω δ => ∃ (v : List Int) (x y : Option D), Has ω p (v.map fun x => fr (lowF x 12)) ∧ Hv i (2 * t) v ∧ δ = [some .st, some (.int n), some (.int t), some (.obj p), x, y], ⟨[], _, _, Has.new fresh0, ⟨rfl, fun x h => by cases h⟩, rfl⟩, fun i d ω δ hd hI => ?_, fun ω δ hI => ?_⟩
  · obtain ⟨v, x, y, hp, hv, rfl⟩ := hI
    obtain ⟨hi, rfl⟩ := rngD_get hd
    refine ⟨_, gd_name ?_⟩
    refine so_seq (so_asg ?_)
    walk_at "pd"
    refine draw_lit (by decide +kernel) fun a a0 a1 => ?_
    obtain ⟨b, hb, e4⟩ : ∃ b : Int, (b = 1 ∨ b = 2) ∧ ([D.int 1, .int 1, .int 1, .int 2])[a.toNat]? = some (.int b) := by
      have : a = 0 ∨ a = 1 ∨ a = 2 ∨ a = 3 := by omega
      rcases this with rfl | rfl | rfl | rfl
      · exact ⟨1, .inl rfl, rfl⟩
      · exact ⟨1, .inl rfl, rfl⟩
      · exact ⟨1, .inl rfl, rfl⟩
      · exact ⟨2, .inr rfl, rfl⟩
    refine rd_ixL (j := a.toNat) (by omega) e4 ?_
    refine so_app (i := 3) rfl hp.1 (fun es m => by rw [hp.2 es m, List.length_map, hv.1]; omega) ?_
    walk_at "pd"
    · exact mul_small (by decide) (by decide) (by omega) (by omega)
    · refine draw_small (by omega) (by omega) fun d d0 d1 => ?_
      walk_at "pd"
      refine ⟨_, _, rfl, by omega, lt_pow (show b.natAbs < 2 ^ 4 by omega) (by decide), ?_⟩
      walk_at "pd"
      refine ⟨_, rfl, v ++ [6 * (2 * (d - t) / b)], _, _, ?_, ⟨by rw [List.length_append, hv.1]; rfl, fun x hx => ?_⟩, rfl⟩
      · have := hp.put (f := fun es => es ++ [fr (lowF (d - t) b)])
        rw [List.map_append, List.map_singleton, ← low_half (d := d - t) hb]
        exact this
      · rcases List.mem_append.mp hx with hx | hx
        · exact hv.2 x hx
        · rw [List.mem_singleton.mp hx]
          refine ⟨_, rfl, ?_⟩
          rcases hb with rfl | rfl
          · rw [Int.ediv_one]
            omega
          · rw [Int.mul_ediv_cancel_left _ (by decide)]
            omega
  · obtain ⟨v, x, y, hp, hv, rfl⟩ := hI
    rw [rngD_length] at hv
    refine so_retL (evl_put (a := p) 3 rfl hp.1 (evl_ev ?_))
    walk_at "pd"
    refine ⟨nref_tup fun x hx => ?_, ?_⟩
    · obtain ⟨q, _, rfl⟩ := List.mem_map.mp hx
      exact nref_fr _
    · rw [Int.toNat_natCast] at hv
      rw [← uT_eq]
      exact hP v hv
def F__law_plus : FD := fun ds P => ∃ (p q : Fr) (m n : Nat), ds = [fr p, fr q] ∧ 0 < p.2 ∧ 0 < q.2 ∧ Sz m p ∧ Sz n q ∧ m + n ≤ 8000 ∧ P (fr (addF p q))
theorem len__law_plus : ∀ ds P, F__law_plus ds P → ds.length = 2 := by (intro ds P h; first | exact h | (obtain ⟨_, rfl, _⟩ := h; rfl) | (obtain ⟨_, _, rfl, _⟩ := h; rfl) | (obtain ⟨_, _, _, rfl, _⟩ := h; rfl) | (obtain ⟨_, _, _, _, rfl, _⟩ := h; rfl) | (obtain ⟨_, _, _, _, _, rfl, _⟩ := h; rfl) | (obtain ⟨_, _, _, _, _, _, rfl, _⟩ := h; rfl) | (obtain ⟨_, _, _, _, _, _, _, rfl, _⟩ := h; rfl) | (obtain ⟨_, _, _, _, _, _, _, _, rfl, _⟩ := h; rfl) | (obtain ⟨_, _, _, _, _, _, _, _, _, rfl, _⟩ := h; rfl) | (obtain ⟨_, _, _, _, _, _, _, _, _, _, rfl, _⟩ := h; rfl) | (obtain ⟨_, _, _, _, _, _, _, _, _, _, _, rfl, _⟩ := h; rfl) | (obtain ⟨_, _, _, _, _, _, _, _, _, _, _, _, rfl, _⟩ := h; rfl) | (obtain ⟨_, _, _, _, _, _, _, _, _, _, _, _, _, rfl, _⟩ := h; rfl) | (obtain ⟨_, _, _, _, _, _, _, _, _, _, _, _, _, rfl, _⟩ := h; rfl) | (obtain ⟨_, _, _, _, _, _, _, _, _, _, _, _, _, _, rfl, _⟩ := h; rfl) | (obtain ⟨_, _, _, _, _, _, _, _, _, _, _, _, _, _, _, rfl, _⟩ := h; rfl) | (obtain ⟨_, _, _, _, _, _, _, _, _, _, _, _, _, _, _, _, rfl, _⟩ := h; rfl) | (obtain ⟨_, _, _, _, _, _, _, _, _, _, _, _, _, _, _, _, _, rfl, _⟩ := h; rfl) | (obtain ⟨_, _, _, _, _, _, _, _, _, _, _, _, _, _, _, _, _, _, rfl, _⟩ := h; rfl) | (obtain ⟨_, _, _, _, _, _, _, _, _, _, _, _, _, _, _, _, _, _, _, rfl, _⟩ := h; rfl) | (obtain ⟨_, _, _, _, _, _, _, _, _, _, _, _, _, _, _, _, _, _, _, _, rfl, _⟩ := h; rfl) | (obtain ⟨_, _, _, _, _, _, _, _, _, _, _, _, _, _, _, _, _, _, _, _, _, rfl, _⟩ := h; rfl) | (obtain ⟨rfl, _⟩ := h; rfl))
theorem ok__law_plus (T : Txt K mg) : FnOk Pg w K mg base CX0 2 T.D__law_plus.f T.D__law_plus.d ["one", "other"] ((spD K F__law_plus)) := by
  have G__law_lowest := ok__law_lowest (Pg := Pg) (w := w) (base := base) T
  refine T.D__law_plus.F.ok (k := 1) sc__law_plus (spD_len (len__law_plus)) (fun cdv A outer s H vs Q E hr h => ?_)
  refine ⟨_, (pss_one (ps_ret (pe_call G__law_lowest (hr.mono (by decide)) (by rfl) T.D__law_lowest.g T.D__law_lowest.F.kp T.D__law_lowest.b .nil pass0 (pa_cons (pe_op (op_plusK (K := K) rfl) (pe_op op_mulW (pe_ix (ix_seqK (K := K) rfl) (pv 0) pe_int (fun _ _ => rfl)) (pe_ix (ix_seqK (K := K) rfl) (pv 1) pe_int (fun _ _ => rfl))) (pe_op op_mulW (pe_ix (ix_seqK (K := K) rfl) (pv 1) pe_int (fun _ _ => rfl)) (pe_ix (ix_seqK (K := K) rfl) (pv 0) pe_int (fun _ _ => rfl)))) (pa_cons (pe_op op_mulW (pe_ix (ix_seqK (K := K) rfl) (pv 0) pe_int (fun _ _ => rfl)) (pe_ix (ix_seqK (K := K) rfl) (pv 1) pe_int (fun _ _ => rfl))) pa_nil))))), ?_⟩
  try dsimp only [cxOf, Cx.blk, Cx.nox, Cx.wish]
  (refine body_of h fun W ds P eK f => ?_); subst eK
  obtain ⟨p, q, m, n, rfl, hp, hq, ⟨s1, s2⟩, ⟨s3, s4⟩, hmn, hP⟩ := f
  walk_at "pd"
  · exact mul_okN s1 s4 (by omega)
  · exact mul_okN s3 s2 (by omega)
  · exact mul_okN s2 s4 (by omega)
  · exact ⟨_, _, rfl, Int.mul_pos hp hq, lt_pow (mul_lt s2 s4) hmn, hP⟩
def F__law_unit_sum : FD := fun ds P => ∃ (v w : List Int) (s : Int), ds = [uT v, uT w, .int s] ∧ v.length = w.length ∧ v.length ≤ 3 ∧ (s = 1 ∨ s = -1) ∧ (∀ x ∈ v, x.natAbs < 2 ^ 40) ∧ (∀ x ∈ w, x.natAbs < 2 ^ 40) ∧ P (uT (sumV s v w))
theorem low12_sz {x : Int} (h : x.natAbs < 2 ^ 40) : Sz 40 (lowF x 12) := ⟨Nat.lt_of_le_of_lt (Int.natAbs_ediv_le_natAbs _ _) h, Nat.lt_of_le_of_lt (Int.natAbs_ediv_le_natAbs _ _) (by decide)⟩
theorem len__law_unit_sum : ∀ ds P, F__law_unit_sum ds P → ds.length = 3 := by (intro ds P h; first | exact h | (obtain ⟨_, rfl, _⟩ := h; rfl) | (obtain ⟨_, _, rfl, _⟩ := h; rfl) | (obtain ⟨_, _, _, rfl, _⟩ := h; rfl) | (obtain ⟨_, _, _, _, rfl, _⟩ := h; rfl) | (obtain ⟨_, _, _, _, _, rfl, _⟩ := h; rfl) | (obtain ⟨_, _, _, _, _, _, rfl, _⟩ := h; rfl) | (obtain ⟨_, _, _, _, _, _, _, rfl, _⟩ := h; rfl) | (obtain ⟨_, _, _, _, _, _, _, _, rfl, _⟩ := h; rfl) | (obtain ⟨_, _, _, _, _, _, _, _, _, rfl, _⟩ := h; rfl) | (obtain ⟨_, _, _, _, _, _, _, _, _, _, rfl, _⟩ := h; rfl) | (obtain ⟨_, _, _, _, _, _, _, _, _, _, _, rfl, _⟩ := h; rfl) | (obtain ⟨_, _, _, _, _, _, _, _, _, _, _, _, rfl, _⟩ := h; rfl) | (obtain ⟨_, _, _, _, _, _, _, _, _, _, _, _, _, rfl, _⟩ := h; rfl) | (obtain ⟨_, _, _, _, _, _, _, _, _, _, _, _, _, rfl, _⟩ := h; rfl) | (obtain ⟨_, _, _, _, _, _, _, _, _, _, _, _, _, _, rfl, _⟩ := h; rfl) | (obtain ⟨_, _, _, _, _, _, _, _, _, _, _, _, _, _, _, rfl, _⟩ := h; rfl) | (obtain ⟨_, _, _, _, _, _, _, _, _, _, _, _, _, _, _, _, rfl, _⟩ := h; rfl) | (obtain ⟨_, _, _, _, _, _, _, _, _, _, _, _, _, _, _, _, _, rfl, _⟩ := h; rfl) | (obtain ⟨_, _, _, _, _, _, _, _, _, _, _, _, _, _, _, _, _, _, rfl, _⟩ := h; rfl) | (obtain ⟨_, _, _, _, _, _, _, _, _, _, _, _, _, _, _, _, _, _, _, rfl, _⟩ := h; rfl) | (obtain ⟨_, _, _, _, _, _, _, _, _, _, _, _, _, _, _, _, _, _, _, _, rfl, _⟩ := h; rfl) | (obtain ⟨_, _, _, _, _, _, _, _, _, _, _, _, _, _, _, _, _, _, _, _, _, rfl, _⟩ := h; rfl) | (obtain ⟨rfl, _⟩ := h; rfl))
theorem ok__law_unit_sum (T : Txt K mg) : FnOk Pg w K mg base CX0 3 T.D__law_unit_sum.f T.D__law_unit_sum.d ["one", "other", "sign"] ((spD K F__law_unit_sum)) := by
  have G__law_plus := ok__law_plus (Pg := Pg) (w := w) (base := base) T
  refine T.D__law_unit_sum.F.ok (k := 2) sc__law_unit_sum (spD_len (len__law_unit_sum)) (fun cdv A outer s H vs Q E hr h => ?_)
  refine ⟨_, (pss_one (ps_ret (pe_callTy (call_tuple_ofK (K := K) rfl) (by rfl) T.n_tuple (by decide +kernel) (pa_cons (pe_lc (own := [("first", 3), ("second", 4)]) rfl sc__law_unit_sum.nd (pi_zipAK (K := K) rfl (by rfl) T.n_zip (pa_cons (pv 0) (pa_cons (pv 1) pa_nil))) (blkOk_by (N := ["one", "other", "sign", "first", "second"]) (sc := defScope s__law_unit_sum) (by decide +kernel)) (fun _ _ _ _ _ => (by exact (pg_tupK (K := K) (n := 2) rfl rfl (pgs_cons (pg_name (i := 3) sc__law_unit_sum.nd rfl (by first | exact Or.inl rfl | exact Or.inr rfl)) (pgs_cons (pg_name (i := 4) sc__law_unit_sum.nd rfl (by first | exact Or.inl rfl | exact Or.inr rfl)) pgs_nil))))) (fun _ _ _ _ _ => pts_nil) (fun _ _ _ _ _ => (pe_call G__law_plus (hr.mono (by decide)) (by rfl) T.D__law_plus.g T.D__law_plus.F.kp T.D__law_plus.b .nil pass0 (pa_cons (pv 3) (pa_cons (pe_tup (pa_cons (pe_op op_mulW (pv 2) (pe_ix (ix_seqK (K := K) rfl) (pv 4) pe_int (fun _ _ => rfl))) (pa_cons (pe_ix (ix_seqK (K := K) rfl) (pv 4) pe_int (fun _ _ => rfl)) pa_nil))) pa_nil))))) pa_nil)))), ?_⟩
  try dsimp only [cxOf, Cx.blk, Cx.nox, Cx.wish]
  (refine body_of h fun W ds P eK f => ?_); subst eK
  obtain ⟨v, w, s, rfl, hl, l3, hs, hv, hw, hP⟩ := f
  walk_at "pd"
  refine ev_lcM (v.zip w) (fun p => .tup [fr (lowF p.1 12), fr (lowF p.2 12)]) (fun p => fr (lowF (p.1 + s * p.2) 12)) (it_zipT ?_)
  walk_at "pd"
  refine ⟨_, _, rfl, ?_, by rw [List.length_zip]; omega, fun i p hp => ⟨_, ?_, gd_tup2 (gd_name (gd_name ?_))⟩, ?_⟩
  · rw [List.map_map, List.map_map]
    exact zipD_map v w (fun x => fr (lowF x 12)) (fun x => fr (lowF x 12))
  · simp
  · obtain ⟨m1, m2⟩ := List.of_mem_zip (List.mem_of_getElem? hp)
    obtain ⟨x, y⟩ := p
    have s1 := low12_sz (hv x m1)
    have s2 := low12_sz (hw y m2)
    have i1 := (lowF_isF (a := x) (b := 12) (by decide)).1
    have i2 := (lowF_isF (a := y) (b := 12) (by decide)).1
    walk_at "pd"
    · exact mul_okN (m := 4) (n := 40) (by rcases hs with rfl | rfl <;> decide) s2.1 (by decide)
    · refine ⟨_, (s * (lowF y 12).1, (lowF y 12).2), 40, 44, rfl, by show 0 < (lowF x 12).2; omega, by show 0 < (lowF y 12).2; omega, s1, ⟨?_, lt_pow s2.2 (by decide)⟩, by decide, ?_⟩
      · have : (s * (lowF y 12).1).natAbs = (lowF y 12).1.natAbs := by rcases hs with rfl | rfl <;> simp
        show (s * (lowF y 12).1).natAbs < _
        rw [this]
        exact lt_pow s2.1 (by decide)
      · rw [low_sum]
  · walk_at "pd"
    have e : (D.tup ((v.zip w).map fun p => fr (lowF (p.1 + s * p.2) 12))) = uT (sumV s v w) := by
      unfold uT un sumV
      congr 1
      rw [List.map_map, List.map_zipWith, List.zip, List.map_zipWith]
      rfl
    rw [e]
    exact hP
def F__law_rows : FD := fun ds P => ∃ m n : Nat, ds = [.st, .int (m : Int), .int (n : Int)] ∧ 1 ≤ m ∧ m ≤ 5 ∧ 1 ≤ n ∧ n ≤ 3 ∧ ∀ G, SqO n m G → P (.tup (gridO G))
theorem uTs_of {Q : List Int → Prop} {l : List D} (h : ∀ y ∈ l, ∃ v, y = uT v ∧ Q v) : ∃ F : List (List Int), l = F.map uT ∧ ∀ v ∈ F, Q v := by
  induction l with
  | nil => exact ⟨[], rfl, fun p hp => by cases hp⟩
  | cons y l ih =>
    obtain ⟨p, rfl, h1⟩ := h y List.mem_cons_self
    obtain ⟨u, rfl, h3⟩ := ih fun z hz => h z (List.mem_cons_of_mem _ hz)
    refine ⟨p :: u, rfl, fun q hq => ?_⟩
    rcases List.mem_cons.mp hq with rfl | hq
    · exact h1
    · exact h3 q hq
theorem hv_sz {n b : Nat} {v : List Int} (h : Hv n b v) (hb : b ≤ 10000) : ∀ x ∈ v, x.natAbs < 2 ^ 40 := fun x hx => by
  obtain ⟨k, rfl, hk⟩ := h.2 x hx
  have : (2 : Nat) ^ 40 = 1099511627776 := by decide
  omega
theorem nref_un (u : List Fr) : (un u).nref = true := nref_tup fun x hx => by
  obtain ⟨q, _, rfl⟩ := List.mem_map.mp hx
  exact nref_fr q
theorem nref_celO (c : Cel) : (celO c).nref = true := by
  cases c with
  | none => rfl
  | some v => exact nref_un _
theorem nref_grid (G : GO) : (D.tup (gridO G)).nref = true := nref_tup fun x hx => by
  obtain ⟨r, _, rfl⟩ := List.mem_map.mp hx
  exact nref_tup fun y hy => by
    obtain ⟨c, _, rfl⟩ := List.mem_map.mp hy
    exact nref_celO c
theorem mem_set {α : Type} {l : List α} {i : Nat} {x y : α} (h : x ∈ l.set i y) : x ∈ l ∨ x = y := List.mem_or_eq_of_mem_set h
theorem len__law_rows : ∀ ds P, F__law_rows ds P → ds.length = 3 := by (intro ds P h; first | exact h | (obtain ⟨_, rfl, _⟩ := h; rfl) | (obtain ⟨_, _, rfl, _⟩ := h; rfl) | (obtain ⟨_, _, _, rfl, _⟩ := h; rfl) | (obtain ⟨_, _, _, _, rfl, _⟩ := h; rfl) | (obtain ⟨_, _, _, _, _, rfl, _⟩ := h; rfl) | (obtain ⟨_, _, _, _, _, _, rfl, _⟩ := h; rfl) | (obtain ⟨_, _, _, _, _, _, _, rfl, _⟩ := h; rfl) | (obtain ⟨_, _, _, _, _, _, _, _, rfl, _⟩ := h; rfl) | (obtain ⟨_, _, _, _, _, _, _, _, _, rfl, _⟩ := h; rfl) | (obtain ⟨_, _, _, _, _, _, _, _, _, _, rfl, _⟩ := h; rfl) | (obtain ⟨_, _, _, _, _, _, _, _, _, _, _, rfl, _⟩ := h; rfl) | (obtain ⟨_, _, _, _, _, _, _, _, _, _, _, _, rfl, _⟩ := h; rfl) | (obtain ⟨_, _, _, _, _, _, _, _, _, _, _, _, _, rfl, _⟩ := h; rfl) | (obtain ⟨_, _, _, _, _, _, _, _, _, _, _, _, _, rfl, _⟩ := h; rfl) | (obtain ⟨_, _, _, _, _, _, _, _, _, _, _, _, _, _, rfl, _⟩ := h; rfl) | (obtain ⟨_, _, _, _, _, _, _, _, _, _, _, _, _, _, _, rfl, _⟩ := h; rfl) | (obtain ⟨_, _, _, _, _, _, _, _, _, _, _, _, _, _, _, _, rfl, _⟩ := h; rfl) | (obtain ⟨_, _, _, _, _, _, _, _, _, _, _, _, _, _, _, _, _, rfl, _⟩ := h; rfl) | (obtain ⟨_, _, _, _, _, _, _, _, _, _, _, _, _, _, _, _, _, _, rfl, _⟩ := h; rfl) | (obtain ⟨_, _, _, _, _, _, _, _, _, _, _, _, _, _, _, _, _, _, _, rfl, _⟩ := h; rfl) | (obtain ⟨_, _, _, _, _, _, _, _, _, _, _, _, _, _, _, _, _, _, _, _, rfl, _⟩ := h; rfl) | (obtain ⟨_, _, _, _, _, _, _, _, _, _, _, _, _, _, _, _, _, _, _, _, _, rfl, _⟩ := h; rfl) | (obtain ⟨rfl, _⟩ := h; rfl))
theorem ok__law_rows (T : Txt K mg) : FnOk Pg w K mg base CX0 4 T.D__law_rows.f T.D__law_rows.d ["hand", "many", "bases"] ((spD K F__law_rows)) := by
  have G__law_draw := ok__law_draw (Pg := Pg) (w := w) (base := base) T
  have G__law_unit := ok__law_unit (Pg := Pg) (w := w) (base := base) T
  have G__law_unit_sum := ok__law_unit_sum (Pg := Pg) (w := w) (base := base) T
  refine T.D__law_rows.F.ok (k := 3) sc__law_rows (spD_len (len__law_rows)) (fun cdv A outer s H vs Q E hr h => ?_)
  refine ⟨_, (pss_cons (ps_set (i := 3) sc__law_rows.nd rfl (by first | exact Or.inl rfl | exact Or.inr rfl) (pe_call G__law_draw (hr.mono (by decide)) (by rfl) T.D__law_draw.g T.D__law_draw.F.kp T.D__law_draw.b .nil pass0 (pa_cons (pv 0) (pa_cons pe_int pa_nil))))
    (pss_cons (ps_set (i := 4) sc__law_rows.nd rfl (by first | exact Or.inl rfl | exact Or.inr rfl) (pe_call G__law_draw (hr.mono (by decide)) (by rfl) T.D__law_draw.g T.D__law_draw.F.kp T.D__law_draw.b .nil pass0 (pa_cons (pv 0) (pa_cons pe_int pa_nil))))
    (pss_cons (ps_setLc (i := 5) (own := [("i", 8)]) rfl sc__law_rows.nd rfl rfl (sw_true rfl rfl rfl (by decide +kernel)) (pi_range1 (by rfl) T.n_range (pa_cons (pv 1) pa_nil)) (blkOk_by (N := ["hand", "many", "bases", "full", "kind", "firsts", "seconds", "rows", "i", "row", "j", "turn", "unit"]) (sc := defScope s__law_rows) (by decide +kernel)) (fun _ _ _ _ _ => (pg_name (i := 8) sc__law_rows.nd rfl (by first | exact Or.inl rfl | exact Or.inr rfl))) (fun _ _ _ _ _ => pts_nil) (fun _ _ _ _ _ => (pe_call G__law_unit (hr.mono (by decide)) (by rfl) T.D__law_unit.g T.D__law_unit.F.kp T.D__law_unit.b .nil pass0 (pa_cons (pv 0) (pa_cons (pv 2) (pa_cons pe_int pa_nil))))))
    (pss_cons (ps_setLc (i := 6) (own := [("j", 10)]) rfl sc__law_rows.nd rfl rfl (sw_true rfl rfl rfl (by decide +kernel)) (pi_range1 (by rfl) T.n_range (pa_cons (pv 1) pa_nil)) (blkOk_by (N := ["hand", "many", "bases", "full", "kind", "firsts", "seconds", "rows", "i", "row", "j", "turn", "unit"]) (sc := defScope s__law_rows) (by decide +kernel)) (fun _ _ _ _ _ => (pg_name (i := 10) sc__law_rows.nd rfl (by first | exact Or.inl rfl | exact Or.inr rfl))) (fun _ _ _ _ _ => pts_nil) (fun _ _ _ _ _ => (pe_call G__law_unit (hr.mono (by decide)) (by rfl) T.D__law_unit.g T.D__law_unit.F.kp T.D__law_unit.b .nil pass0 (pa_cons (pv 0) (pa_cons (pv 2) (pa_cons pe_int pa_nil))))))
    (pss_cons (ps_set (i := 7) sc__law_rows.nd rfl (by first | exact Or.inl rfl | exact Or.inr rfl) (pe_lst pa_nil))
    (pss_cons (ps_for PassesOwn.never rfl (pi_range1 (by rfl) T.n_range (pa_cons (pv 1) pa_nil)) (pg_name (i := 8) sc__law_rows.nd rfl (by first | exact Or.inl rfl | exact Or.inr rfl))
      (pss_cons (ps_set (i := 9) sc__law_rows.nd rfl (by first | exact Or.inl rfl | exact Or.inr rfl) (pe_lst pa_nil))
    (pss_cons (ps_for PassesOwn.never rfl (pi_range1 (by rfl) T.n_range (pa_cons (pv 1) pa_nil)) (pg_name (i := 10) sc__law_rows.nd rfl (by first | exact Or.inl rfl | exact Or.inr rfl))
      (pss_cons (ps_set (i := 12) sc__law_rows.nd rfl (by first | exact Or.inl rfl | exact Or.inr rfl) (pe_call G__law_unit_sum (hr.mono (by decide)) (by rfl) T.D__law_unit_sum.g T.D__law_unit_sum.F.kp T.D__law_unit_sum.b .nil pass0 (pa_cons (pe_ix (ix_seqK (K := K) rfl) (pv 5) (pv 8) (fun _ _ => rfl)) (pa_cons (pe_ix (ix_seqK (K := K) rfl) (pv 6) (pv 10) (fun _ _ => rfl)) (pa_cons pe_int pa_nil)))))
    (pss_cons (ps_if (pt_cmpR (op_eqDK (K := K) rfl (hr_u hr)) (pv 4) pe_int (nomark _))
      (pss_one (ps_set (i := 12) sc__law_rows.nd rfl (by first | exact Or.inl rfl | exact Or.inr rfl) (pe_call G__law_unit (hr.mono (by decide)) (by rfl) T.D__law_unit.g T.D__law_unit.F.kp T.D__law_unit.b .nil pass0 (pa_cons (pv 0) (pa_cons (pv 2) (pa_cons pe_int pa_nil))))))
      pss_nil)
    (pss_one (ps_expr (pe_bm PySem.F.plainAttrs_list PySem.F.slot_list_append PySem.F.type_list_append mt_append (pv 9) (pa_cons (pe_ifExp (pt_cmpR op_lt (pe_call G__law_draw (hr.mono (by decide)) (by rfl) T.D__law_draw.g T.D__law_draw.F.kp T.D__law_draw.b .nil pass0 (pa_cons (pv 0) (pa_cons pe_int pa_nil))) (pv 3) (nomark _)) pe_non (pv 12)) pa_nil)))))))
    (pss_one (ps_expr (pe_bm PySem.F.plainAttrs_list PySem.F.slot_list_append PySem.F.type_list_append mt_append (pv 7) (pa_cons (pv 9) pa_nil)))))))
    (pss_cons (ps_if (pt_cmpR (op_eqDK (K := K) rfl (hr_u hr)) (pv 4) pe_int (nomark _))
      (pss_one (ps_for PassesOwn.never rfl (pi_range1 (by rfl) T.n_range (pa_cons (pe_op (op_plusK (K := K) rfl) pe_int (pe_call G__law_draw (hr.mono (by decide)) (by rfl) T.D__law_draw.g T.D__law_draw.F.kp T.D__law_draw.b .nil pass0 (pa_cons (pv 0) (pa_cons pe_int pa_nil)))) pa_nil)) (pg_name (i := 11) sc__law_rows.nd rfl (by first | exact Or.inl rfl | exact Or.inr rfl))
      (pss_one (ps_asg (pe_call G__law_unit (hr.mono (by decide)) (by rfl) T.D__law_unit.g T.D__law_unit.F.kp T.D__law_unit.b .nil pass0 (pa_cons (pv 0) (pa_cons (pv 2) (pa_cons pe_int pa_nil)))) (pg_sub (pe_ix (ix_seqK (K := K) rfl) (pv 7) (pe_call G__law_draw (hr.mono (by decide)) (by rfl) T.D__law_draw.g T.D__law_draw.F.kp T.D__law_draw.b .nil pass0 (pa_cons (pv 0) (pa_cons (pv 1) pa_nil))) (fun _ _ => rfl)) (pe_call G__law_draw (hr.mono (by decide)) (by rfl) T.D__law_draw.g T.D__law_draw.F.kp T.D__law_draw.b .nil pass0 (pa_cons (pv 0) (pa_cons (pv 1) pa_nil))) set_list)))))
      pss_nil)
    (pss_one (ps_ret (pe_callTy (call_tuple_ofK (K := K) rfl) (by rfl) T.n_tuple (by decide +kernel) (pa_cons (pe_lc (own := [("row", 9)]) rfl sc__law_rows.nd (pi_seqK (K := K) rfl (pv 7)) (blkOk_by (N := ["hand", "many", "bases", "full", "kind", "firsts", "seconds", "rows", "i", "row", "j", "turn", "unit"]) (sc := defScope s__law_rows) (by decide +kernel)) (fun _ _ _ _ _ => (pg_name (i := 9) sc__law_rows.nd rfl (by first | exact Or.inl rfl | exact Or.inr rfl))) (fun _ _ _ _ _ => pts_nil) (fun _ _ _ _ _ => (pe_callTy (call_tuple_ofK (K := K) rfl) (by rfl) T.n_tuple (by decide +kernel) (pa_cons (pv 9) pa_nil)))) pa_nil))))))))))), ?_⟩
  try dsimp only [cxOf, Cx.blk, Cx.nox, Cx.wish]
  refine body_ofO h fun W ds P eK f => ?_
  subst eK
  obtain ⟨m, n, rfl, m1, m5, n1, n3, hP⟩ := f
  refine so_seq (so_asg ?_)
  walk_at "pd"
  refine draw_lit (by decide +kernel) fun a a0 a1 => ?_
  refine so_seq (so_asg ?_)
  walk_at "pd"
  refine draw_lit (by decide +kernel) fun b b0 b1 => ?_
  refine so_seq (so_asg ?_)
  refine ev_lcAll (fun y => ∃ v, y = uT v ∧ Hv n 2 v) (it_rng1 ?_)
  walk_at "pd"
  refine ⟨_, rfl, by omega, by omega, by rw [rngD_length]; omega, fun i d hd => ⟨[8], by simp, gd_name ?_⟩, fun l1 ll1 hl1 => ?_⟩
  · walk_at "pd"
    exact ⟨n, 1, rfl, by omega, by decide, by decide, fun v hv => ⟨v, rfl, hv⟩⟩
  obtain ⟨F1, rfl, hF1⟩ := uTs_of hl1
  refine so_seq (so_asg ?_)
  refine ev_lcAll (fun y => ∃ v, y = uT v ∧ Hv n 2 v) (it_rng1 ?_)
  walk_at "pd"
  refine ⟨_, rfl, by omega, by omega, by rw [rngD_length]; omega, fun i d hd => ⟨[10], by simp, gd_name ?_⟩, fun l2 ll2 hl2 => ?_⟩
  · walk_at "pd"
    exact ⟨n, 1, rfl, by omega, by decide, by decide, fun v hv => ⟨v, rfl, hv⟩⟩
  obtain ⟨F2, rfl, hF2⟩ := uTs_of hl2
  rw [List.length_map, rngD_length, Int.toNat_natCast] at ll1 ll2
  refine so_seq (so_new ?_)
  walk_at "pd"
  refine fun p fresh => ?_
  refine so_seq (so_for (it_rng1 ?_))
  walk_at "pd"
  refine ⟨_, rfl, by omega, by omega, fun i ω δ => ∃ (R : GO) (x8 x9 x10 x11 x12 : Option D), RowsO ω p (R.map fun r => r.map celO) ∧ R.length = i ∧ (∀ r ∈ R, r.length = m ∧ ∀ v, some v ∈ r → Hv n 6 v) ∧
    δ = [some .st, some (.int m), some (.int n), some (.int a), some (.int b), some (.lst (F1.map uT)), some (.lst (F2.map uT)), some (.obj p), x8, x9, x10, x11, x12], ⟨[], _, _, _, _, _, RowsO.new fresh, rfl, fun r h => (by cases h), rfl⟩, fun i d ω δ hd hI => ?_, fun ω δ hI => ?_⟩
  · obtain ⟨R, x8, x9, x10, x11, x12, hp, lR, hR, rfl⟩ := hI
    obtain ⟨hi, rfl⟩ := rngD_get hd
    rw [Int.toNat_natCast] at hi
    refine ⟨_, gd_name ?_⟩
    refine so_seq (so_new ?_)
    walk_at "pd"
    refine fun q freshq => ?_
    refine so_seq (so_for (it_rng1 ?_))
    walk_at "pd"
    refine ⟨_, rfl, by omega, by omega, fun j ω δ => ∃ (cs : List Cel) (x10 x12 : Option D), RowsX ω p q (R.map fun r => r.map celO) ∧ Has ω q (cs.map celO) ∧ cs.length = j ∧ (∀ v, some v ∈ cs → Hv n 6 v) ∧
      δ = [some .st, some (.int m), some (.int n), some (.int a), some (.int b), some (.lst (F1.map uT)), some (.lst (F2.map uT)), some (.obj p), some (.int (0 + (i : Int))), some (.obj q), x10, x11, x12], ⟨[], _, _, hp.fresh freshq, Has.new freshq, rfl, fun v h => (by cases h), rfl⟩, fun j d ω δ hd hI => ?_, fun ω δ hI => ?_⟩
    · obtain ⟨cs, x10, x12, hX, hq, lc, hc, rfl⟩ := hI
      obtain ⟨hj, rfl⟩ := rngD_get hd
      rw [Int.toNat_natCast] at hj
      refine ⟨_, gd_name ?_⟩
      refine so_seq (so_asg ?_)
      have g1 : F1[i]? = some (F1[i]'(by omega)) := List.getElem?_eq_getElem _
      have g2 : F2[j]? = some (F2[j]'(by omega)) := List.getElem?_eq_getElem _
      generalize F1[i]'(by omega) = u at g1
      generalize F2[j]'(by omega) = w at g2
      have hu := hF1 u (List.mem_of_getElem? g1)
      have hw := hF2 w (List.mem_of_getElem? g2)
      walk_at "pd"
      refine rd_ixL (j := i) (by omega) (by rw [List.getElem?_map, g1]; rfl) ?_
      walk_at "pd"
      refine rd_ixL (j := j) (by omega) (by rw [List.getElem?_map, g2]; rfl) ?_
      walk_at "pd"
      refine ⟨u, w, 1, rfl, by rw [hu.1, hw.1], by rw [hu.1]; exact n3, .inl rfl, hv_sz hu (by decide), hv_sz hw (by decide), ?_⟩
      have hs := (hu.sum (s := 1) (.inl rfl) hw).mono (show 2 + 2 ≤ 6 by decide)
      generalize sumV 1 u w = z at hs
      refine so_cut (fun ω' δ' => ω' = ω ∧ ∃ v, Hv n 6 v ∧ δ' = [some .st, some (.int m), some (.int n), some (.int a), some (.int b), some (.lst (F1.map uT)), some (.lst (F2.map uT)), some (.obj p), some (.int (0 + (i : Int))), some (.obj q), some (.int (0 + (j : Int))), x11, some (uT v)]) (so_if ?_) fun ω' δ' hM => ?_
      · walk_at "pd"
        refine ⟨fun _ => ?_, fun _ => so_next ⟨rfl, z, hs, rfl⟩⟩
        refine so_asg ?_
        walk_at "pd"
        exact ⟨n, 1, rfl, by omega, by decide, by decide, fun v hv => ⟨rfl, v, hv.mono (by decide), rfl⟩⟩
      · obtain ⟨rfl, v, hv, rfl⟩ := hM
        refine so_app (i := 9) rfl hq.1 (fun es e => by rw [hq.2 es e, List.length_map, lc]; omega) ?_
        have add : ∀ c : Cel, (∀ v, c = some v → Hv n 6 v) → ∃ (cs' : List Cel) (x10 x12 : Option D), RowsX (putO ω' q fun es => es ++ [celO c]) p q (R.map fun r => r.map celO) ∧ Has (putO ω' q fun es => es ++ [celO c]) q (cs'.map celO) ∧ cs'.length = j + 1 ∧ (∀ v, some v ∈ cs' → Hv n 6 v) ∧
            [some .st, some (.int m), some (.int n), some (.int a), some (.int b), some (.lst (F1.map uT)), some (.lst (F2.map uT)), some (.obj p), some (.int (0 + (i : Int))), some (.obj q), some (.int (0 + (j : Int))), x11, some (uT v)] = [some .st, some (.int m), some (.int n), some (.int a), some (.int b), some (.lst (F1.map uT)), some (.lst (F2.map uT)), some (.obj p), some (.int (0 + (i : Int))), some (.obj q), x10, x11, x12] := fun c hc2 =>
          ⟨cs ++ [c], _, _, hX.put, by
            have := hq.put (f := fun es => es ++ [celO c])
            rw [List.map_append]
            exact this, by rw [List.length_append, lc]; rfl, fun v hv => by
            rcases List.mem_append.mp hv with hv | hv
            · exact hc v hv
            · exact hc2 v (List.mem_singleton.mp hv).symm, rfl⟩
        walk_at "pd"
        refine draw_lit (by decide +kernel) fun k k0 k1 => ?_
        walk_at "pd"
        refine ⟨fun _ => ?_, fun _ => ?_⟩
        · walk_at "pd"
          exact ⟨_, rfl, add none fun v h => (by cases h)⟩
        · walk_at "pd"
          exact ⟨_, rfl, add (some v) fun v' h => (by cases h; exact hv)⟩
    · obtain ⟨cs, x10, x12, hX, hq, lc, hc, rfl⟩ := hI
      rw [rngD_length, Int.toNat_natCast] at lc
      obtain ⟨qs, hqs, lqs⟩ := hX.top
      rw [List.length_map] at lqs
      refine so_app (i := 7) rfl hqs.1 (fun es e => by rw [hqs.2 es e, List.length_map]; omega) ?_
      walk_at "pd"
      refine ⟨_, rfl, R ++ [cs], _, _, _, _, _, ?_, by rw [List.length_append, lR]; rfl, fun r hr => ?_, rfl⟩
      · rw [List.map_append]
        exact hX.snoc hq
      · rcases List.mem_append.mp hr with hr | hr
        · exact hR r hr
        · rw [List.mem_singleton.mp hr]
          exact ⟨lc, hc⟩
  · obtain ⟨R, x8, x9, x10, x11, x12, hp, lR, hR, rfl⟩ := hI
    rw [rngD_length, Int.toNat_natCast] at lR
    have sq : SqO n m R := ⟨lR, hR⟩
    refine so_cut (fun ω' δ' => ∃ (R : GO) (x11 : Option D), RowsO ω' p (R.map fun r => r.map celO) ∧ SqO n m R ∧ δ' = [some .st, some (.int m), some (.int n), some (.int a), some (.int b), some (.lst (F1.map uT)), some (.lst (F2.map uT)), some (.obj p), x8, x9, x10, x11, x12]) (so_if ?_) fun ω' δ' hM => ?_
    · walk_at "pd"
      refine ⟨fun _ => ?_, fun _ => so_next ⟨R, x11, hp, sq, rfl⟩⟩
      refine so_for (it_rng1 ?_)
      walk_at "pd"
      refine draw_lit (by decide +kernel) fun k k0 k1 => ?_
      walk_at "pd"
      refine ⟨_, rfl, by omega, by omega, fun i ω' δ' => ∃ (R : GO) (x11 : Option D), RowsO ω' p (R.map fun r => r.map celO) ∧ SqO n m R ∧ δ' = [some .st, some (.int m), some (.int n), some (.int a), some (.int b), some (.lst (F1.map uT)), some (.lst (F2.map uT)), some (.obj p), x8, x9, x10, x11, x12], ⟨R, x11, hp, sq, rfl⟩, fun i d ω δ hd hI => ?_, fun ω δ hI => hI⟩
      obtain ⟨R, x11, hp, sq, rfl⟩ := hI
      refine ⟨_, gd_name ?_⟩
      refine so_setR (r := 7) rfl hp ?_
      walk_at "pd"
      refine ⟨n, 2, rfl, by omega, by decide, by decide, fun v hv => ?_⟩
      walk_at "pd"
      refine draw_small (by omega) (by omega) fun y y0 y1 => ?_
      obtain ⟨yn, rfl⟩ := Int.eq_ofNat_of_zero_le y0
      have gy : R[yn]? = some (R[yn]'(by rw [sq.1]; omega)) := List.getElem?_eq_getElem _
      generalize R[yn]'(by rw [sq.1]; omega) = r at gy
      obtain ⟨lr, hr⟩ := sq.2 r (List.mem_of_getElem? gy)
      refine ⟨yn, r.map celO, rfl, by rw [List.getElem?_map, gy]; rfl, ?_⟩
      walk_at "pd"
      refine draw_small (by omega) (by omega) fun z z0 z1 => ?_
      obtain ⟨zn, rfl⟩ := Int.eq_ofNat_of_zero_le z0
      refine ⟨zn, rfl, by rw [List.length_map, lr]; omega, fun ω' hω => ⟨R.set yn (r.set zn (some v)), _, ?_, ⟨by rw [List.length_set]; exact sq.1, fun r' hr' => ?_⟩, rfl⟩⟩
      · rw [List.map_set, List.map_set]
        exact hω
      · rcases mem_set hr' with h | rfl
        · exact sq.2 r' h
        · refine ⟨by rw [List.length_set]; exact lr, fun v' hv' => ?_⟩
          rcases mem_set hv' with h | h
          · exact hr v' h
          · cases h
            exact hv.mono (by decide)
    · obtain ⟨R, x11, hp, sq, rfl⟩ := hM
      refine so_retL (evl_rows 7 rfl hp (evl_ev ?_))
      walk_at "pd"
      refine ev_lcM R (fun r => .lst (r.map celO)) rowO (it_seqL (ev_var rfl ⟨_, rfl, by rw [List.map_map]; rfl, by rw [sq.1]; omega, fun i r hr => ⟨_, ?_, gd_name ?_⟩, ?_⟩))
      · simp
      · walk_at "pd"
        rfl
      · walk_at "pd"
        exact ⟨nref_grid R, hP R sq⟩
def F__law_drawn : FD := fun ds P => ∃ t : Nat, ds = [.st, .int (t : Int)] ∧ 1 ≤ t ∧ t ≤ 5 ∧ ∀ (n m : Nat) (G : GO), 1 ≤ n → n ≤ 2 → 1 ≤ m → m ≤ t → SqO n m G → P (.tup [.int (n : Int), .tup (gridO G)])
theorem len__law_drawn : ∀ ds P, F__law_drawn ds P → ds.length = 2 := by (intro ds P h; first | exact h | (obtain ⟨_, rfl, _⟩ := h; rfl) | (obtain ⟨_, _, rfl, _⟩ := h; rfl) | (obtain ⟨_, _, _, rfl, _⟩ := h; rfl) | (obtain ⟨_, _, _, _, rfl, _⟩ := h; rfl) | (obtain ⟨_, _, _, _, _, rfl, _⟩ := h; rfl) | (obtain ⟨_, _, _, _, _, _, rfl, _⟩ := h; rfl) | (obtain ⟨_, _, _, _, _, _, _, rfl, _⟩ := h; rfl) | (obtain ⟨_, _, _, _, _, _, _, _, rfl, _⟩ := h; rfl) | (obtain ⟨_, _, _, _, _, _, _, _, _, rfl, _⟩ := h; rfl) | (obtain ⟨_, _, _, _, _, _, _, _, _, _, rfl, _⟩ := h; rfl) | (obtain ⟨_, _, _, _, _, _, _, _, _, _, _, rfl, _⟩ := h; rfl) | (obtain ⟨_, _, _, _, _, _, _, _, _, _, _, _, rfl, _⟩ := h; rfl) | (obtain ⟨_, _, _, _, _, _, _, _, _, _, _, _, _, rfl, _⟩ := h; rfl) | (obtain ⟨_, _, _, _, _, _, _, _, _, _, _, _, _, rfl, _⟩ := h; rfl) | (obtain ⟨_, _, _, _, _, _, _, _, _, _, _, _, _, _, rfl, _⟩ := h; rfl) | (obtain ⟨_, _, _, _, _, _, _, _, _, _, _, _, _, _, _, rfl, _⟩ := h; rfl) | (obtain ⟨_, _, _, _, _, _, _, _, _, _, _, _, _, _, _, _, rfl, _⟩ := h; rfl) | (obtain ⟨_, _, _, _, _, _, _, _, _, _, _, _, _, _, _, _, _, rfl, _⟩ := h; rfl) | (obtain ⟨_, _, _, _, _, _, _, _, _, _, _, _, _, _, _, _, _, _, rfl, _⟩ := h; rfl) | (obtain ⟨_, _, _, _, _, _, _, _, _, _, _, _, _, _, _, _, _, _, _, rfl, _⟩ := h; rfl) | (obtain ⟨_, _, _, _, _, _, _, _, _, _, _, _, _, _, _, _, _, _, _, _, rfl, _⟩ := h; rfl) | (obtain ⟨_, _, _, _, _, _, _, _, _, _, _, _, _, _, _, _, _, _, _, _, _, rfl, _⟩ := h; rfl) | (obtain ⟨rfl, _⟩ := h; rfl))
theorem ok__law_drawn (T : Txt K mg) : FnOk Pg w K mg base CX0 5 T.D__law_drawn.f T.D__law_drawn.d ["hand", "most"] ((spD K F__law_drawn)) := by
  have G__law_draw := ok__law_draw (Pg := Pg) (w := w) (base := base) T
  have G__law_rows := ok__law_rows (Pg := Pg) (w := w) (base := base) T
  refine T.D__law_drawn.F.ok (k := 4) sc__law_drawn (spD_len (len__law_drawn)) (fun cdv A outer s H vs Q E hr h => ?_)
  refine ⟨_, (pss_cons (ps_set (i := 2) sc__law_drawn.nd rfl (by first | exact Or.inl rfl | exact Or.inr rfl) (pe_op (op_plusK (K := K) rfl) pe_int (pe_call G__law_draw (hr.mono (by decide)) (by rfl) T.D__law_draw.g T.D__law_draw.F.kp T.D__law_draw.b .nil pass0 (pa_cons (pv 0) (pa_cons pe_int pa_nil)))))
    (pss_one (ps_ret (pe_tup (pa_cons (pv 2) (pa_cons (pe_call G__law_rows (hr.mono (by decide)) (by rfl) T.D__law_rows.g T.D__law_rows.F.kp T.D__law_rows.b .nil pass0 (pa_cons (pv 0) (pa_cons (pe_op (op_plusK (K := K) rfl) pe_int (pe_call G__law_draw (hr.mono (by decide)) (by rfl) T.D__law_draw.g T.D__law_draw.F.kp T.D__law_draw.b .nil pass0 (pa_cons (pv 0) (pa_cons (pv 1) pa_nil)))) (pa_cons (pv 2) pa_nil)))) pa_nil)))))), ?_⟩
  try dsimp only [cxOf, Cx.blk, Cx.nox, Cx.wish]
  (refine body_of h fun W ds P eK f => ?_); subst eK
  obtain ⟨t, rfl, t1, t5, hP⟩ := f
  walk_at "pd"
  refine draw_lit (by decide +kernel) fun nn nn0 nn1 => ?_
  obtain ⟨n, en, n1, n2⟩ : ∃ n : Nat, 1 + nn = (n : Int) ∧ 1 ≤ n ∧ n ≤ 2 := ⟨(1 + nn).toNat, by omega, by omega, by omega⟩
  walk_at "pd"
  rw [en]
  refine draw_small (by omega) (by omega) fun mm mm0 mm1 => ?_
  obtain ⟨m, em, m1, mt⟩ : ∃ m : Nat, 1 + mm = (m : Int) ∧ 1 ≤ m ∧ m ≤ t := ⟨(1 + mm).toNat, by omega, by omega, by omega⟩
  walk_at "pd"
  rw [em]
  refine ⟨m, n, rfl, m1, by omega, n1, by omega, fun G h => ?_⟩
  walk_at "pd"
  exact hP n m G n1 n2 m1 mt h
def F__has_grid_length (K : PySem.W.Frag) : FD := fun ds P => ∃ x, ds = [x] ∧ Jd1 K x ∧ P (.bl (hasLen x))
theorem len__has_grid_length (K : PySem.W.Frag) : ∀ ds P, (F__has_grid_length K) ds P → ds.length = 1 := by (intro ds P h; first | exact h | (obtain ⟨_, rfl, _⟩ := h; rfl) | (obtain ⟨_, _, rfl, _⟩ := h; rfl) | (obtain ⟨_, _, _, rfl, _⟩ := h; rfl) | (obtain ⟨_, _, _, _, rfl, _⟩ := h; rfl) | (obtain ⟨_, _, _, _, _, rfl, _⟩ := h; rfl) | (obtain ⟨_, _, _, _, _, _, rfl, _⟩ := h; rfl) | (obtain ⟨_, _, _, _, _, _, _, rfl, _⟩ := h; rfl) | (obtain ⟨_, _, _, _, _, _, _, _, rfl, _⟩ := h; rfl) | (obtain ⟨_, _, _, _, _, _, _, _, _, rfl, _⟩ := h; rfl) | (obtain ⟨_, _, _, _, _, _, _, _, _, _, rfl, _⟩ := h; rfl) | (obtain ⟨_, _, _, _, _, _, _, _, _, _, _, rfl, _⟩ := h; rfl) | (obtain ⟨_, _, _, _, _, _, _, _, _, _, _, _, rfl, _⟩ := h; rfl) | (obtain ⟨_, _, _, _, _, _, _, _, _, _, _, _, _, rfl, _⟩ := h; rfl) | (obtain ⟨_, _, _, _, _, _, _, _, _, _, _, _, _, rfl, _⟩ := h; rfl) | (obtain ⟨_, _, _, _, _, _, _, _, _, _, _, _, _, _, rfl, _⟩ := h; rfl) | (obtain ⟨_, _, _, _, _, _, _, _, _, _, _, _, _, _, _, rfl, _⟩ := h; rfl) | (obtain ⟨_, _, _, _, _, _, _, _, _, _, _, _, _, _, _, _, rfl, _⟩ := h; rfl) | (obtain ⟨_, _, _, _, _, _, _, _, _, _, _, _, _, _, _, _, _, rfl, _⟩ := h; rfl) | (obtain ⟨_, _, _, _, _, _, _, _, _, _, _, _, _, _, _, _, _, _, rfl, _⟩ := h; rfl) | (obtain ⟨_, _, _, _, _, _, _, _, _, _, _, _, _, _, _, _, _, _, _, rfl, _⟩ := h; rfl) | (obtain ⟨_, _, _, _, _, _, _, _, _, _, _, _, _, _, _, _, _, _, _, _, rfl, _⟩ := h; rfl) | (obtain ⟨_, _, _, _, _, _, _, _, _, _, _, _, _, _, _, _, _, _, _, _, _, rfl, _⟩ := h; rfl) | (obtain ⟨rfl, _⟩ := h; rfl))
theorem ok__has_grid_length (T : Txt K mg) : FnOk Pg w K mg base CX0 1 T.D__has_grid_length.f T.D__has_grid_length.d ["thing"] ((spD K (F__has_grid_length K))) := by
  refine T.D__has_grid_length.F.ok (k := 0) sc__has_grid_length (spD_len (len__has_grid_length K)) (fun cdv A outer s H vs Q E hr h => ?_)
  refine ⟨_, (pss_one (ps_ret (pe_and (pe_callB (call_isiK' (K := K) rfl) (by rfl) T.n_isinstance (by decide +kernel) (pa_cons (pv 0) (pa_cons (pe_bltn (v := .ty "tuple") (u := .type "tuple") (by rfl) T.n_tuple (by decide +kernel) rfl) pa_nil))) (pe_one (pe_chain op_le op_le pe_int (pe_callB (call_lenK (K := K) rfl) (by rfl) T.n_len (by decide +kernel) (pa_cons (pv 0) pa_nil)) (pe_glob (v := .int 10) rfl T.c_MOST_ROWS ⟨_, rfl⟩)))))), ?_⟩
  try dsimp only [cxOf, Cx.blk, Cx.nox, Cx.wish]
  (refine body_of h fun W ds P eK f => ?_); subst eK
  obtain ⟨x, rfl, hx, hP⟩ := f
  walk_at "pd"
  by_cases hT : x.isTup = true
  · obtain ⟨xs, rfl⟩ := tup_of hT
    simp only [hasLen] at hP
    walk_at "pd"
    refine ⟨fun h1 => ?_, fun h1 => ?_⟩
    · have h1' : 1 ≤ xs.length := by have := of_decide_eq_true h1; omega
      rw [decide_eq_true h1', Bool.true_and] at hP
      walk_at "pd"
      have e : decide ((xs.length : Int) ≤ 10) = decide (xs.length ≤ 10) := decide_eq_decide.mpr (by omega)
      rw [e]
      exact hP
    · have h1' : ¬ 1 ≤ xs.length := by have := of_decide_eq_false h1; omega
      rw [decide_eq_false h1', Bool.false_and] at hP
      exact hP
  · have hT' : x.isTup = false := by simpa using hT
    rw [hT']
    walk_at "pd"
    have e : hasLen x = false := by cases x <;> first | rfl | cases hT'
    rw [e] at hP
    exact hP
def F_is_whole (K : PySem.W.Frag) : FD := fun ds P => ∃ x, ds = [x] ∧ Jd1 K x ∧ P (.bl x.isInt)
theorem len_is_whole (K : PySem.W.Frag) : ∀ ds P, (F_is_whole K) ds P → ds.length = 1 := by (intro ds P h; first | exact h | (obtain ⟨_, rfl, _⟩ := h; rfl) | (obtain ⟨_, _, rfl, _⟩ := h; rfl) | (obtain ⟨_, _, _, rfl, _⟩ := h; rfl) | (obtain ⟨_, _, _, _, rfl, _⟩ := h; rfl) | (obtain ⟨_, _, _, _, _, rfl, _⟩ := h; rfl) | (obtain ⟨_, _, _, _, _, _, rfl, _⟩ := h; rfl) | (obtain ⟨_, _, _, _, _, _, _, rfl, _⟩ := h; rfl) | (obtain ⟨_, _, _, _, _, _, _, _, rfl, _⟩ := h; rfl) | (obtain ⟨_, _, _, _, _, _, _, _, _, rfl, _⟩ := h; rfl) | (obtain ⟨_, _, _, _, _, _, _, _, _, _, rfl, _⟩ := h; rfl) | (obtain ⟨_, _, _, _, _, _, _, _, _, _, _, rfl, _⟩ := h; rfl) | (obtain ⟨_, _, _, _, _, _, _, _, _, _, _, _, rfl, _⟩ := h; rfl) | (obtain ⟨_, _, _, _, _, _, _, _, _, _, _, _, _, rfl, _⟩ := h; rfl) | (obtain ⟨_, _, _, _, _, _, _, _, _, _, _, _, _, rfl, _⟩ := h; rfl) | (obtain ⟨_, _, _, _, _, _, _, _, _, _, _, _, _, _, rfl, _⟩ := h; rfl) | (obtain ⟨_, _, _, _, _, _, _, _, _, _, _, _, _, _, _, rfl, _⟩ := h; rfl) | (obtain ⟨_, _, _, _, _, _, _, _, _, _, _, _, _, _, _, _, rfl, _⟩ := h; rfl) | (obtain ⟨_, _, _, _, _, _, _, _, _, _, _, _, _, _, _, _, _, rfl, _⟩ := h; rfl) | (obtain ⟨_, _, _, _, _, _, _, _, _, _, _, _, _, _, _, _, _, _, rfl, _⟩ := h; rfl) | (obtain ⟨_, _, _, _, _, _, _, _, _, _, _, _, _, _, _, _, _, _, _, rfl, _⟩ := h; rfl) | (obtain ⟨_, _, _, _, _, _, _, _, _, _, _, _, _, _, _, _, _, _, _, _, rfl, _⟩ := h; rfl) | (obtain ⟨_, _, _, _, _, _, _, _, _, _, _, _, _, _, _, _, _, _, _, _, _, rfl, _⟩ := h; rfl) | (obtain ⟨rfl, _⟩ := h; rfl))
theorem ok_is_whole (T : Txt K mg) : FnOk Pg w K mg base CX0 1 T.D_is_whole.f T.D_is_whole.d ["thing"] ((spD K (F_is_whole K))) := by
  refine T.D_is_whole.F.ok (k := 0) sc_is_whole (spD_len (len_is_whole K)) (fun cdv A outer s H vs Q E hr h => ?_)
  refine ⟨_, (pss_one (ps_ret (pe_and (pe_callB (call_isiK' (K := K) rfl) (by rfl) T.n_isinstance (by decide +kernel) (pa_cons (pv 0) (pa_cons (pe_bltn (v := .ty "int") (u := .type "int") (by rfl) T.n_int (by decide +kernel) rfl) pa_nil))) (pe_one (pe_not (pe_callB (call_isiK' (K := K) rfl) (by rfl) T.n_isinstance (by decide +kernel) (pa_cons (pv 0) (pa_cons (pe_bltn (v := .ty "bool") (u := .type "bool") (by rfl) T.n_bool (by decide +kernel) rfl) pa_nil)))))))), ?_⟩
  try dsimp only [cxOf, Cx.blk, Cx.nox, Cx.wish]
  (refine body_of h fun W ds P eK f => ?_); subst eK
  obtain ⟨x, rfl, hx, hP⟩ := f
  walk_at "pd"
  refine ⟨fun hb => ?_, fun hb => ?_⟩
  · walk_at "pd"
    cases x <;> first | exact hP | cases hb
  · cases x <;> first | exact hP | cases hb
def F_is_pair (K : PySem.W.Frag) : FD := fun ds P => ∃ x, ds = [x] ∧ Jd1 K x ∧ P (.bl (isPr x))
theorem len_is_pair (K : PySem.W.Frag) : ∀ ds P, (F_is_pair K) ds P → ds.length = 1 := by (intro ds P h; first | exact h | (obtain ⟨_, rfl, _⟩ := h; rfl) | (obtain ⟨_, _, rfl, _⟩ := h; rfl) | (obtain ⟨_, _, _, rfl, _⟩ := h; rfl) | (obtain ⟨_, _, _, _, rfl, _⟩ := h; rfl) | (obtain ⟨_, _, _, _, _, rfl, _⟩ := h; rfl) | (obtain ⟨_, _, _, _, _, _, rfl, _⟩ := h; rfl) | (obtain ⟨_, _, _, _, _, _, _, rfl, _⟩ := h; rfl) | (obtain ⟨_, _, _, _, _, _, _, _, rfl, _⟩ := h; rfl) | (obtain ⟨_, _, _, _, _, _, _, _, _, rfl, _⟩ := h; rfl) | (obtain ⟨_, _, _, _, _, _, _, _, _, _, rfl, _⟩ := h; rfl) | (obtain ⟨_, _, _, _, _, _, _, _, _, _, _, rfl, _⟩ := h; rfl) | (obtain ⟨_, _, _, _, _, _, _, _, _, _, _, _, rfl, _⟩ := h; rfl) | (obtain ⟨_, _, _, _, _, _, _, _, _, _, _, _, _, rfl, _⟩ := h; rfl) | (obtain ⟨_, _, _, _, _, _, _, _, _, _, _, _, _, rfl, _⟩ := h; rfl) | (obtain ⟨_, _, _, _, _, _, _, _, _, _, _, _, _, _, rfl, _⟩ := h; rfl) | (obtain ⟨_, _, _, _, _, _, _, _, _, _, _, _, _, _, _, rfl, _⟩ := h; rfl) | (obtain ⟨_, _, _, _, _, _, _, _, _, _, _, _, _, _, _, _, rfl, _⟩ := h; rfl) | (obtain ⟨_, _, _, _, _, _, _, _, _, _, _, _, _, _, _, _, _, rfl, _⟩ := h; rfl) | (obtain ⟨_, _, _, _, _, _, _, _, _, _, _, _, _, _, _, _, _, _, rfl, _⟩ := h; rfl) | (obtain ⟨_, _, _, _, _, _, _, _, _, _, _, _, _, _, _, _, _, _, _, rfl, _⟩ := h; rfl) | (obtain ⟨_, _, _, _, _, _, _, _, _, _, _, _, _, _, _, _, _, _, _, _, rfl, _⟩ := h; rfl) | (obtain ⟨_, _, _, _, _, _, _, _, _, _, _, _, _, _, _, _, _, _, _, _, _, rfl, _⟩ := h; rfl) | (obtain ⟨rfl, _⟩ := h; rfl))
theorem ok_is_pair (T : Txt K mg) : FnOk Pg w K mg base CX0 1 T.D_is_pair.f T.D_is_pair.d ["thing"] ((spD K (F_is_pair K))) := by
  refine T.D_is_pair.F.ok (k := 0) sc_is_pair (spD_len (len_is_pair K)) (fun cdv A outer s H vs Q E hr h => ?_)
  refine ⟨_, (pss_one (ps_ret (pe_and (pe_callB (call_isiK' (K := K) rfl) (by rfl) T.n_isinstance (by decide +kernel) (pa_cons (pv 0) (pa_cons (pe_bltn (v := .ty "tuple") (u := .type "tuple") (by rfl) T.n_tuple (by decide +kernel) rfl) pa_nil))) (pe_one (pe_cmpR (op_eqDK (K := K) rfl (hr_u hr)) (pe_callB (call_lenK (K := K) rfl) (by rfl) T.n_len (by decide +kernel) (pa_cons (pv 0) pa_nil)) pe_int (nomark _)))))), ?_⟩
  try dsimp only [cxOf, Cx.blk, Cx.nox, Cx.wish]
  (refine body_of h fun W ds P eK f => ?_); subst eK
  obtain ⟨x, rfl, hx, hP⟩ := f
  walk_at "pd"
  by_cases hT : x.isTup = true
  · obtain ⟨xs, rfl⟩ := tup_of hT
    walk_at "pd"
    match xs with
    | [] => exact hP
    | [_] => exact hP
    | [_, _] => exact hP
    | _ :: _ :: _ :: r =>
      rw [decide_eq_false (by simp only [List.length_cons]; omega)]
      exact hP
  · have hT' : x.isTup = false := by simpa using hT
    rw [hT']
    walk_at "pd"
    have e : isPr x = false := by cases x <;> first | rfl | cases hT'
    rw [e] at hP
    exact hP
def F_is_fraction (K : PySem.W.Frag) : FD := fun ds P => ∃ x, ds = [x] ∧ Jd K x ∧ P (.bl (isFr x))
theorem len_is_fraction (K : PySem.W.Frag) : ∀ ds P, (F_is_fraction K) ds P → ds.length = 1 := by (intro ds P h; first | exact h | (obtain ⟨_, rfl, _⟩ := h; rfl) | (obtain ⟨_, _, rfl, _⟩ := h; rfl) | (obtain ⟨_, _, _, rfl, _⟩ := h; rfl) | (obtain ⟨_, _, _, _, rfl, _⟩ := h; rfl) | (obtain ⟨_, _, _, _, _, rfl, _⟩ := h; rfl) | (obtain ⟨_, _, _, _, _, _, rfl, _⟩ := h; rfl) | (obtain ⟨_, _, _, _, _, _, _, rfl, _⟩ := h; rfl) | (obtain ⟨_, _, _, _, _, _, _, _, rfl, _⟩ := h; rfl) | (obtain ⟨_, _, _, _, _, _, _, _, _, rfl, _⟩ := h; rfl) | (obtain ⟨_, _, _, _, _, _, _, _, _, _, rfl, _⟩ := h; rfl) | (obtain ⟨_, _, _, _, _, _, _, _, _, _, _, rfl, _⟩ := h; rfl) | (obtain ⟨_, _, _, _, _, _, _, _, _, _, _, _, rfl, _⟩ := h; rfl) | (obtain ⟨_, _, _, _, _, _, _, _, _, _, _, _, _, rfl, _⟩ := h; rfl) | (obtain ⟨_, _, _, _, _, _, _, _, _, _, _, _, _, rfl, _⟩ := h; rfl) | (obtain ⟨_, _, _, _, _, _, _, _, _, _, _, _, _, _, rfl, _⟩ := h; rfl) | (obtain ⟨_, _, _, _, _, _, _, _, _, _, _, _, _, _, _, rfl, _⟩ := h; rfl) | (obtain ⟨_, _, _, _, _, _, _, _, _, _, _, _, _, _, _, _, rfl, _⟩ := h; rfl) | (obtain ⟨_, _, _, _, _, _, _, _, _, _, _, _, _, _, _, _, _, rfl, _⟩ := h; rfl) | (obtain ⟨_, _, _, _, _, _, _, _, _, _, _, _, _, _, _, _, _, _, rfl, _⟩ := h; rfl) | (obtain ⟨_, _, _, _, _, _, _, _, _, _, _, _, _, _, _, _, _, _, _, rfl, _⟩ := h; rfl) | (obtain ⟨_, _, _, _, _, _, _, _, _, _, _, _, _, _, _, _, _, _, _, _, rfl, _⟩ := h; rfl) | (obtain ⟨_, _, _, _, _, _, _, _, _, _, _, _, _, _, _, _, _, _, _, _, _, rfl, _⟩ := h; rfl) | (obtain ⟨rfl, _⟩ := h; rfl))
theorem ok_is_fraction (T : Txt K mg) : FnOk Pg w K mg base CX0 2 T.D_is_fraction.f T.D_is_fraction.d ["thing"] ((spD K (F_is_fraction K))) := by
  have G_is_pair := ok_is_pair (Pg := Pg) (w := w) (base := base) T
  have G_is_whole := ok_is_whole (Pg := Pg) (w := w) (base := base) T
  refine T.D_is_fraction.F.ok (k := 1) sc_is_fraction (spD_len (len_is_fraction K)) (fun cdv A outer s H vs Q E hr h => ?_)
  refine ⟨_, (pss_cons (ps_if (pt_not (pt_val (pe_call G_is_pair (hr.mono (by decide)) (by rfl) T.D_is_pair.g T.D_is_pair.F.kp T.D_is_pair.b .nil pass0 (pa_cons (pv 0) pa_nil))))
      (pss_one (ps_ret pe_bl))
      pss_nil)
    (pss_cons (ps_asg (pv 0) (by exact (pg_tupK (K := K) (n := 2) rfl rfl (pgs_cons (pg_name (i := 1) sc_is_fraction.nd rfl (by first | exact Or.inl rfl | exact Or.inr rfl)) (pgs_cons (pg_name (i := 2) sc_is_fraction.nd rfl (by first | exact Or.inl rfl | exact Or.inr rfl)) pgs_nil)))))
    (pss_one (ps_ret (pe_and (pe_call G_is_whole (hr.mono (by decide)) (by rfl) T.D_is_whole.g T.D_is_whole.F.kp T.D_is_whole.b .nil pass0 (pa_cons (pv 1) pa_nil)) (pe_and (pe_call G_is_whole (hr.mono (by decide)) (by rfl) T.D_is_whole.g T.D_is_whole.F.kp T.D_is_whole.b .nil pass0 (pa_cons (pv 2) pa_nil)) (pe_and (pe_cmpR op_ge (pv 2) pe_int (nomark _)) (pe_one (pe_cmpR (op_eqDK (K := K) rfl (hr_u hr)) (pe_callBfun cr_gcd (by rfl) T.v_gcd (pa_cons (pv 1) (pa_cons (pv 2) pa_nil))) pe_int (nomark _)))))))))), ?_⟩
  try dsimp only [cxOf, Cx.blk, Cx.nox, Cx.wish]
  (refine body_of h fun W ds P eK f => ?_); subst eK
  obtain ⟨x, rfl, hx, hP⟩ := f
  have ht := jd_ty hx
  walk_at "pd"
  refine ⟨x, rfl, ht, ?_⟩
  walk_at "pd"
  by_cases hT : isPr x = true
  · obtain ⟨a, b, rfl⟩ : ∃ a b, x = .tup [a, b] := by
      unfold isPr at hT
      split at hT
      · exact ⟨_, _, rfl⟩
      · cases hT
    refine bf rfl ?_
    simp only [Jd, JdA] at hx
    have ha := jd_ty hx.1
    have hb := jd_ty hx.2.1
    walk_at "pd"
    refine sd_asgG (ev_var rfl (gd_tup2 (gd_name (gd_name ?_))))
    walk_at "pd"
    refine ⟨_, rfl, ha, ?_⟩
    walk_at "pd"
    refine ⟨fun h1 => ?_, fun h1 => ?_⟩
    · obtain ⟨i, rfl⟩ := isInt_of h1
      walk_at "pd"
      refine ⟨_, rfl, hb, ?_⟩
      walk_at "pd"
      refine ⟨fun h2 => ?_, fun h2 => ?_⟩
      · obtain ⟨j, rfl⟩ := isInt_of h2
        walk_at "pd"
        refine ⟨fun h3 => ?_, fun h3 => ?_⟩
        · walk_at "pd"
          rw [isFr_ints (of_decide_eq_true h3)] at hP
          exact hP
        · rw [isFr_low (of_decide_eq_false h3)] at hP
          exact hP
      · simp only [isFr, h2, Bool.false_and, Bool.and_false] at hP
        exact hP
    · simp only [isFr, h1, Bool.false_and, Bool.and_false] at hP
      exact hP
  · have hT' : isPr x = false := by simpa using hT
    refine bt (by rw [hT']; rfl) ?_
    walk_at "pd"
    have e : isFr x = false := by
      unfold isPr at hT'
      unfold isFr
      split
      · simp at hT'
      · rfl
    rw [e] at hP
    exact hP
def F_is_any_unit (K : PySem.W.Frag) : FD := fun ds P => ∃ x, ds = [x] ∧ Jd K x ∧ P (.bl (isAny x))
theorem len_is_any_unit (K : PySem.W.Frag) : ∀ ds P, (F_is_any_unit K) ds P → ds.length = 1 := by (intro ds P h; first | exact h | (obtain ⟨_, rfl, _⟩ := h; rfl) | (obtain ⟨_, _, rfl, _⟩ := h; rfl) | (obtain ⟨_, _, _, rfl, _⟩ := h; rfl) | (obtain ⟨_, _, _, _, rfl, _⟩ := h; rfl) | (obtain ⟨_, _, _, _, _, rfl, _⟩ := h; rfl) | (obtain ⟨_, _, _, _, _, _, rfl, _⟩ := h; rfl) | (obtain ⟨_, _, _, _, _, _, _, rfl, _⟩ := h; rfl) | (obtain ⟨_, _, _, _, _, _, _, _, rfl, _⟩ := h; rfl) | (obtain ⟨_, _, _, _, _, _, _, _, _, rfl, _⟩ := h; rfl) | (obtain ⟨_, _, _, _, _, _, _, _, _, _, rfl, _⟩ := h; rfl) | (obtain ⟨_, _, _, _, _, _, _, _, _, _, _, rfl, _⟩ := h; rfl) | (obtain ⟨_, _, _, _, _, _, _, _, _, _, _, _, rfl, _⟩ := h; rfl) | (obtain ⟨_, _, _, _, _, _, _, _, _, _, _, _, _, rfl, _⟩ := h; rfl) | (obtain ⟨_, _, _, _, _, _, _, _, _, _, _, _, _, rfl, _⟩ := h; rfl) | (obtain ⟨_, _, _, _, _, _, _, _, _, _, _, _, _, _, rfl, _⟩ := h; rfl) | (obtain ⟨_, _, _, _, _, _, _, _, _, _, _, _, _, _, _, rfl, _⟩ := h; rfl) | (obtain ⟨_, _, _, _, _, _, _, _, _, _, _, _, _, _, _, _, rfl, _⟩ := h; rfl) | (obtain ⟨_, _, _, _, _, _, _, _, _, _, _, _, _, _, _, _, _, rfl, _⟩ := h; rfl) | (obtain ⟨_, _, _, _, _, _, _, _, _, _, _, _, _, _, _, _, _, _, rfl, _⟩ := h; rfl) | (obtain ⟨_, _, _, _, _, _, _, _, _, _, _, _, _, _, _, _, _, _, _, rfl, _⟩ := h; rfl) | (obtain ⟨_, _, _, _, _, _, _, _, _, _, _, _, _, _, _, _, _, _, _, _, rfl, _⟩ := h; rfl) | (obtain ⟨_, _, _, _, _, _, _, _, _, _, _, _, _, _, _, _, _, _, _, _, _, rfl, _⟩ := h; rfl) | (obtain ⟨rfl, _⟩ := h; rfl))
theorem ok_is_any_unit (T : Txt K mg) : FnOk Pg w K mg base CX0 3 T.D_is_any_unit.f T.D_is_any_unit.d ["thing"] ((spD K (F_is_any_unit K))) := by
  have G_is_fraction := ok_is_fraction (Pg := Pg) (w := w) (base := base) T
  refine T.D_is_any_unit.F.ok (k := 2) sc_is_any_unit (spD_len (len_is_any_unit K)) (fun cdv A outer s H vs Q E hr h => ?_)
  refine ⟨_, (pss_cons (ps_if (PW.pt (pw_or (pt_not (pt_val (pe_callB (call_isiK' (K := K) rfl) (by rfl) T.n_isinstance (by decide +kernel) (pa_cons (pv 0) (pa_cons (pe_bltn (v := .ty "tuple") (u := .type "tuple") (by rfl) T.n_tuple (by decide +kernel) rfl) pa_nil))))) (pw_or1 (pt_not (pt_chain op_le op_le pe_int (pe_callB (call_lenK (K := K) rfl) (by rfl) T.n_len (by decide +kernel) (pa_cons (pv 0) pa_nil)) (pe_glob (v := .int 3) rfl T.c_MOST_BASES ⟨_, rfl⟩))))))
      (pss_one (ps_ret pe_bl))
      pss_nil)
    (pss_one (ps_ret (pe_callB (cr_allK (K := K) rfl rfl) (by rfl) T.n_all (by decide +kernel) (pa_cons (pe_lc (own := [("exponent", 1)]) rfl sc_is_any_unit.nd (pi_seqK (K := K) rfl (pv 0)) (blkOk_by (N := ["thing", "exponent"]) (sc := defScope s_is_any_unit) (by decide +kernel)) (fun _ _ _ _ _ => (pg_name (i := 1) sc_is_any_unit.nd rfl (by first | exact Or.inl rfl | exact Or.inr rfl))) (fun _ _ _ _ _ => pts_nil) (fun _ _ _ _ _ => (pe_call G_is_fraction (hr.mono (by decide)) (by rfl) T.D_is_fraction.g T.D_is_fraction.F.kp T.D_is_fraction.b .nil pass0 (pa_cons (pv 1) pa_nil)))) pa_nil))))), ?_⟩
  try dsimp only [cxOf, Cx.blk, Cx.nox, Cx.wish]
  (refine body_of h fun W ds P eK f => ?_); subst eK
  obtain ⟨x, rfl, hx, hP⟩ := f
  have ht := jd_ty hx
  walk_at "pd"
  by_cases hT : x.isTup = true
  · obtain ⟨xs, rfl⟩ : ∃ xs, x = .tup xs := by
      cases x <;> first | exact ⟨_, rfl⟩ | cases hT
    simp only [isAny] at hP
    walk_at "pd"
    refine ⟨fun h1 => ?_, fun h1 => ?_⟩
    · have h1' : 1 ≤ xs.length := by have := of_decide_eq_true h1; omega
      rw [decide_eq_true h1'] at hP
      walk_at "pd"
      refine ⟨fun h2 => ?_, fun h2 => ?_⟩
      · have h2' : ¬ xs.length ≤ 3 := by simp at h2; omega
        rw [decide_eq_false h2'] at hP
        walk_at "pd"
        exact hP
      · have h2' : xs.length ≤ 3 := by simp at h2; omega
        rw [decide_eq_true h2'] at hP
        simp only [Jd] at hx
        walk_at "pd"
        refine ev_lcL (it_seqT (ev_var rfl ⟨xs, rfl, by omega, xs.map fun x => .bl (isFr x), by rw [List.length_map], fun i d y hd hy => ?_, ?_⟩))
        · rw [List.getElem?_map, hd] at hy
          cases hy
          refine ⟨[1], by simp, gd_name ?_⟩
          walk_at "pd"
          exact ⟨d, rfl, jd_mem hx (List.mem_of_getElem? hd), rfl⟩
        · walk_at "pd"
          have e : (xs.map fun x => D.bl (isFr x)) = (xs.map isFr).map D.bl := by rw [List.map_map]; rfl
          rw [e]
          refine rc_all ?_
          rw [List.all_map]
          exact hP
    · have h1' : ¬ 1 ≤ xs.length := by have := of_decide_eq_false h1; omega
      rw [decide_eq_false h1'] at hP
      walk_at "pd"
      exact hP
  · have hT' : x.isTup = false := by simpa using hT
    rw [hT']
    walk_at "pd"
    have e : isAny x = false := by cases x <;> first | rfl | cases hT'
    rw [e] at hP
    exact hP
def F_is_unit (K : PySem.W.Frag) : FD := fun ds P => ∃ (n : Int) (x : D), ds = [.int n, x] ∧ Jd K x ∧ P (.bl (isAny x && decide (x.len = n)))
theorem len_is_unit (K : PySem.W.Frag) : ∀ ds P, (F_is_unit K) ds P → ds.length = 2 := by (intro ds P h; first | exact h | (obtain ⟨_, rfl, _⟩ := h; rfl) | (obtain ⟨_, _, rfl, _⟩ := h; rfl) | (obtain ⟨_, _, _, rfl, _⟩ := h; rfl) | (obtain ⟨_, _, _, _, rfl, _⟩ := h; rfl) | (obtain ⟨_, _, _, _, _, rfl, _⟩ := h; rfl) | (obtain ⟨_, _, _, _, _, _, rfl, _⟩ := h; rfl) | (obtain ⟨_, _, _, _, _, _, _, rfl, _⟩ := h; rfl) | (obtain ⟨_, _, _, _, _, _, _, _, rfl, _⟩ := h; rfl) | (obtain ⟨_, _, _, _, _, _, _, _, _, rfl, _⟩ := h; rfl) | (obtain ⟨_, _, _, _, _, _, _, _, _, _, rfl, _⟩ := h; rfl) | (obtain ⟨_, _, _, _, _, _, _, _, _, _, _, rfl, _⟩ := h; rfl) | (obtain ⟨_, _, _, _, _, _, _, _, _, _, _, _, rfl, _⟩ := h; rfl) | (obtain ⟨_, _, _, _, _, _, _, _, _, _, _, _, _, rfl, _⟩ := h; rfl) | (obtain ⟨_, _, _, _, _, _, _, _, _, _, _, _, _, rfl, _⟩ := h; rfl) | (obtain ⟨_, _, _, _, _, _, _, _, _, _, _, _, _, _, rfl, _⟩ := h; rfl) | (obtain ⟨_, _, _, _, _, _, _, _, _, _, _, _, _, _, _, rfl, _⟩ := h; rfl) | (obtain ⟨_, _, _, _, _, _, _, _, _, _, _, _, _, _, _, _, rfl, _⟩ := h; rfl) | (obtain ⟨_, _, _, _, _, _, _, _, _, _, _, _, _, _, _, _, _, rfl, _⟩ := h; rfl) | (obtain ⟨_, _, _, _, _, _, _, _, _, _, _, _, _, _, _, _, _, _, rfl, _⟩ := h; rfl) | (obtain ⟨_, _, _, _, _, _, _, _, _, _, _, _, _, _, _, _, _, _, _, rfl, _⟩ := h; rfl) | (obtain ⟨_, _, _, _, _, _, _, _, _, _, _, _, _, _, _, _, _, _, _, _, rfl, _⟩ := h; rfl) | (obtain ⟨_, _, _, _, _, _, _, _, _, _, _, _, _, _, _, _, _, _, _, _, _, rfl, _⟩ := h; rfl) | (obtain ⟨rfl, _⟩ := h; rfl))
theorem ok_is_unit (T : Txt K mg) : FnOk Pg w K mg base CX0 4 T.D_is_unit.f T.D_is_unit.d ["bases", "thing"] ((spD K (F_is_unit K))) := by
  have G_is_any_unit := ok_is_any_unit (Pg := Pg) (w := w) (base := base) T
  refine T.D_is_unit.F.ok (k := 3) sc_is_unit (spD_len (len_is_unit K)) (fun cdv A outer s H vs Q E hr h => ?_)
  refine ⟨_, (pss_one (ps_ret (pe_and (pe_call G_is_any_unit (hr.mono (by decide)) (by rfl) T.D_is_any_unit.g T.D_is_any_unit.F.kp T.D_is_any_unit.b .nil pass0 (pa_cons (pv 1) pa_nil)) (pe_one (pe_cmpR (op_eqDK (K := K) rfl (hr_u hr)) (pe_callB (call_lenK (K := K) rfl) (by rfl) T.n_len (by decide +kernel) (pa_cons (pv 1) pa_nil)) (pv 0) (nomark _)))))), ?_⟩
  try dsimp only [cxOf, Cx.blk, Cx.nox, Cx.wish]
  (refine body_of h fun W ds P eK f => ?_); subst eK
  obtain ⟨n, x, rfl, hx, hP⟩ := f
  walk_at "pd"
  refine ⟨x, rfl, hx, ?_⟩
  walk_at "pd"
  refine ⟨fun h1 => ?_, fun h1 => ?_⟩
  · obtain ⟨xs, rfl⟩ : ∃ xs, x = .tup xs := by
      cases x <;> first | exact ⟨_, rfl⟩ | cases h1
    rw [h1, Bool.true_and] at hP
    walk_at "pd"
    exact hP
  · rw [h1, Bool.false_and] at hP
    exact hP
def F_is_cell (K : PySem.W.Frag) : FD := fun ds P => ∃ (n : Int) (x : D), ds = [.int n, x] ∧ 1 ≤ n ∧ n ≤ 3 ∧ Jd K x ∧ P (.bl (isCl n x))
theorem len_is_cell (K : PySem.W.Frag) : ∀ ds P, (F_is_cell K) ds P → ds.length = 2 := by (intro ds P h; first | exact h | (obtain ⟨_, rfl, _⟩ := h; rfl) | (obtain ⟨_, _, rfl, _⟩ := h; rfl) | (obtain ⟨_, _, _, rfl, _⟩ := h; rfl) | (obtain ⟨_, _, _, _, rfl, _⟩ := h; rfl) | (obtain ⟨_, _, _, _, _, rfl, _⟩ := h; rfl) | (obtain ⟨_, _, _, _, _, _, rfl, _⟩ := h; rfl) | (obtain ⟨_, _, _, _, _, _, _, rfl, _⟩ := h; rfl) | (obtain ⟨_, _, _, _, _, _, _, _, rfl, _⟩ := h; rfl) | (obtain ⟨_, _, _, _, _, _, _, _, _, rfl, _⟩ := h; rfl) | (obtain ⟨_, _, _, _, _, _, _, _, _, _, rfl, _⟩ := h; rfl) | (obtain ⟨_, _, _, _, _, _, _, _, _, _, _, rfl, _⟩ := h; rfl) | (obtain ⟨_, _, _, _, _, _, _, _, _, _, _, _, rfl, _⟩ := h; rfl) | (obtain ⟨_, _, _, _, _, _, _, _, _, _, _, _, _, rfl, _⟩ := h; rfl) | (obtain ⟨_, _, _, _, _, _, _, _, _, _, _, _, _, rfl, _⟩ := h; rfl) | (obtain ⟨_, _, _, _, _, _, _, _, _, _, _, _, _, _, rfl, _⟩ := h; rfl) | (obtain ⟨_, _, _, _, _, _, _, _, _, _, _, _, _, _, _, rfl, _⟩ := h; rfl) | (obtain ⟨_, _, _, _, _, _, _, _, _, _, _, _, _, _, _, _, rfl, _⟩ := h; rfl) | (obtain ⟨_, _, _, _, _, _, _, _, _, _, _, _, _, _, _, _, _, rfl, _⟩ := h; rfl) | (obtain ⟨_, _, _, _, _, _, _, _, _, _, _, _, _, _, _, _, _, _, rfl, _⟩ := h; rfl) | (obtain ⟨_, _, _, _, _, _, _, _, _, _, _, _, _, _, _, _, _, _, _, rfl, _⟩ := h; rfl) | (obtain ⟨_, _, _, _, _, _, _, _, _, _, _, _, _, _, _, _, _, _, _, _, rfl, _⟩ := h; rfl) | (obtain ⟨_, _, _, _, _, _, _, _, _, _, _, _, _, _, _, _, _, _, _, _, _, rfl, _⟩ := h; rfl) | (obtain ⟨rfl, _⟩ := h; rfl))
theorem ok_is_cell (T : Txt K mg) : FnOk Pg w K mg base CX0 5 T.D_is_cell.f T.D_is_cell.d ["bases", "thing"] ((spD K (F_is_cell K))) := by
  have G_is_unit := ok_is_unit (Pg := Pg) (w := w) (base := base) T
  refine T.D_is_cell.F.ok (k := 4) sc_is_cell (spD_len (len_is_cell K)) (fun cdv A outer s H vs Q E hr h => ?_)
  refine ⟨_, (pss_cons (ps_if (pt_cmpR op_isN (pv 1) pe_non (nomark _))
      (pss_one (ps_ret pe_bl))
      pss_nil)
    (pss_cons (ps_if (pt_not (pt_val (pe_call G_is_unit (hr.mono (by decide)) (by rfl) T.D_is_unit.g T.D_is_unit.F.kp T.D_is_unit.b .nil pass0 (pa_cons (pv 0) (pa_cons (pv 1) pa_nil)))))
      (pss_one (ps_ret pe_bl))
      pss_nil)
    (pss_one (ps_ret (pe_callB (cr_allK (K := K) rfl rfl) (by rfl) T.n_all (by decide +kernel) (pa_cons (pe_lc (own := [("top", 2), ("below", 3)]) rfl sc_is_cell.nd (pi_seqK (K := K) rfl (pv 1)) (blkOk_by (N := ["bases", "thing", "top", "below"]) (sc := defScope s_is_cell) (by decide +kernel)) (fun _ _ _ _ _ => (by exact (pg_tupK (K := K) (n := 2) rfl rfl (pgs_cons (pg_name (i := 2) sc_is_cell.nd rfl (by first | exact Or.inl rfl | exact Or.inr rfl)) (pgs_cons (pg_name (i := 3) sc_is_cell.nd rfl (by first | exact Or.inl rfl | exact Or.inr rfl)) pgs_nil))))) (fun _ _ _ _ _ => pts_nil) (fun _ _ _ _ _ => (pe_and (pe_chain op_le op_le (pe_un un_neg (pe_glob (v := .int 6) rfl T.c_MOST_TOP ⟨_, rfl⟩)) (pv 2) (pe_glob (v := .int 6) rfl T.c_MOST_TOP ⟨_, rfl⟩)) (pe_one (pe_cmpR op_le (pv 3) (pe_glob (v := .int 4) rfl T.c_MOST_BOTTOM ⟨_, rfl⟩) (nomark _)))))) pa_nil)))))), ?_⟩
  try dsimp only [cxOf, Cx.blk, Cx.nox, Cx.wish]
  (refine body_of h fun W ds P eK f => ?_); subst eK
  obtain ⟨n, x, rfl, h1, h3, hx, hP⟩ := f
  walk_at "pd"
  refine ⟨fun hn => ?_, fun hn => ?_⟩
  · simp only [isCl, hn, Bool.true_or] at hP
    walk_at "pd"
    exact hP
  · simp only [isCl, hn, Bool.false_or] at hP
    walk_at "pd"
    refine ⟨n, x, rfl, hx, ?_⟩
    rw [is_un h1 h3]
    walk_at "pd"
    by_cases hu : isUn n x = true
    · obtain ⟨u, rfl, hl, hf⟩ := isUn_of hu
      rw [hu, Bool.true_and] at hP
      refine bf (by rw [hu]; rfl) ?_
      walk_at "pd"
      refine ev_lcL (it_seqT (ev_var rfl ⟨u.map fr, rfl, by rw [List.length_map]; omega, (u.map fr).map fun e => .bl (exOk e), by rw [List.length_map], fun i d y hd hy => ?_, ?_⟩))
      · rw [List.getElem?_map, hd] at hy
        cases hy
        obtain ⟨p, _, rfl⟩ := List.mem_map.mp (List.mem_of_getElem? hd)
        refine ⟨[2] ++ [3], by simp, gd_tup2 (gd_name (gd_name ?_))⟩
        walk_at "pd"
        refine ⟨fun q1 => ?_, fun q1 => ?_⟩
        · walk_at "pd"
          refine ⟨fun q2 => ?_, fun q2 => ?_⟩
          · walk_at "pd"
            show D.bl _ = D.bl (decide (-6 ≤ p.1) && decide (p.1 ≤ 6) && decide (p.2 ≤ 4))
            rw [q1, q2]
            rfl
          · show D.bl false = D.bl (decide (-6 ≤ p.1) && decide (p.1 ≤ 6) && decide (p.2 ≤ 4))
            rw [q1, q2]
            rfl
        · walk_at "pd"
          show _ = D.bl (decide (-6 ≤ p.1) && decide (p.1 ≤ 6) && decide (p.2 ≤ 4))
          rw [q1]
          rfl
      · walk_at "pd"
        have e : ((u.map fr).map fun e => D.bl (exOk e)) = ((u.map fr).map exOk).map D.bl := by simp only [List.map_map, Function.comp_def]
        rw [e]
        refine rc_all ?_
        rw [List.all_map]
        exact hP
    · have hu' : isUn n x = false := by simpa using hu
      rw [hu', Bool.false_and] at hP
      refine bt (by rw [hu']; rfl) ?_
      walk_at "pd"
      exact hP
def F__wrong_part (K : PySem.W.Frag) : FD := fun ds P => ∃ b x, ds = [b, x] ∧ Jd K b ∧ Jd K x ∧ P (wrongD b x)
theorem len__wrong_part (K : PySem.W.Frag) : ∀ ds P, (F__wrong_part K) ds P → ds.length = 2 := by (intro ds P h; first | exact h | (obtain ⟨_, rfl, _⟩ := h; rfl) | (obtain ⟨_, _, rfl, _⟩ := h; rfl) | (obtain ⟨_, _, _, rfl, _⟩ := h; rfl) | (obtain ⟨_, _, _, _, rfl, _⟩ := h; rfl) | (obtain ⟨_, _, _, _, _, rfl, _⟩ := h; rfl) | (obtain ⟨_, _, _, _, _, _, rfl, _⟩ := h; rfl) | (obtain ⟨_, _, _, _, _, _, _, rfl, _⟩ := h; rfl) | (obtain ⟨_, _, _, _, _, _, _, _, rfl, _⟩ := h; rfl) | (obtain ⟨_, _, _, _, _, _, _, _, _, rfl, _⟩ := h; rfl) | (obtain ⟨_, _, _, _, _, _, _, _, _, _, rfl, _⟩ := h; rfl) | (obtain ⟨_, _, _, _, _, _, _, _, _, _, _, rfl, _⟩ := h; rfl) | (obtain ⟨_, _, _, _, _, _, _, _, _, _, _, _, rfl, _⟩ := h; rfl) | (obtain ⟨_, _, _, _, _, _, _, _, _, _, _, _, _, rfl, _⟩ := h; rfl) | (obtain ⟨_, _, _, _, _, _, _, _, _, _, _, _, _, rfl, _⟩ := h; rfl) | (obtain ⟨_, _, _, _, _, _, _, _, _, _, _, _, _, _, rfl, _⟩ := h; rfl) | (obtain ⟨_, _, _, _, _, _, _, _, _, _, _, _, _, _, _, rfl, _⟩ := h; rfl) | (obtain ⟨_, _, _, _, _, _, _, _, _, _, _, _, _, _, _, _, rfl, _⟩ := h; rfl) | (obtain ⟨_, _, _, _, _, _, _, _, _, _, _, _, _, _, _, _, _, rfl, _⟩ := h; rfl) | (obtain ⟨_, _, _, _, _, _, _, _, _, _, _, _, _, _, _, _, _, _, rfl, _⟩ := h; rfl) | (obtain ⟨_, _, _, _, _, _, _, _, _, _, _, _, _, _, _, _, _, _, _, rfl, _⟩ := h; rfl) | (obtain ⟨_, _, _, _, _, _, _, _, _, _, _, _, _, _, _, _, _, _, _, _, rfl, _⟩ := h; rfl) | (obtain ⟨_, _, _, _, _, _, _, _, _, _, _, _, _, _, _, _, _, _, _, _, _, rfl, _⟩ := h; rfl) | (obtain ⟨rfl, _⟩ := h; rfl))
theorem ok__wrong_part (T : Txt K mg) : FnOk Pg w K mg base CX0 6 T.D__wrong_part.f T.D__wrong_part.d ["bases", "rows"] ((spD K (F__wrong_part K))) := by
  have G__has_grid_length := ok__has_grid_length (Pg := Pg) (w := w) (base := base) T
  have G_is_cell := ok_is_cell (Pg := Pg) (w := w) (base := base) T
  have G_is_whole := ok_is_whole (Pg := Pg) (w := w) (base := base) T
  refine T.D__wrong_part.F.ok (k := 5) sc__wrong_part (spD_len (len__wrong_part K)) (fun cdv A outer s H vs Q E hr h => ?_)
  refine ⟨_, (pss_cons (ps_if (PW.pt (pw_or (pt_not (pt_val (pe_call G_is_whole (hr.mono (by decide)) (by rfl) T.D_is_whole.g T.D_is_whole.F.kp T.D_is_whole.b .nil pass0 (pa_cons (pv 0) pa_nil)))) (pw_or1 (pt_not (pt_chain op_le op_le pe_int (pv 0) (pe_glob (v := .int 3) rfl T.c_MOST_BASES ⟨_, rfl⟩))))))
      (pss_one (ps_ret pe_str))
      pss_nil)
    (pss_cons (ps_if (pt_not (pt_val (pe_call G__has_grid_length (hr.mono (by decide)) (by rfl) T.D__has_grid_length.g T.D__has_grid_length.F.kp T.D__has_grid_length.b .nil pass0 (pa_cons (pv 1) pa_nil))))
      (pss_one (ps_ret pe_str))
      pss_nil)
    (pss_cons (ps_for PassesOwn.never rfl (pi_enumAK (K := K) rfl (by rfl) T.n_enumerate (pa_cons (pv 1) pa_nil)) (by exact (pg_tupK (K := K) (n := 2) rfl rfl (pgs_cons (pg_name (i := 2) sc__wrong_part.nd rfl (by first | exact Or.inl rfl | exact Or.inr rfl)) (pgs_cons (pg_name (i := 3) sc__wrong_part.nd rfl (by first | exact Or.inl rfl | exact Or.inr rfl)) pgs_nil))))
      (pss_one (ps_if (PW.pt (pw_or (pt_not (pt_val (pe_call G__has_grid_length (hr.mono (by decide)) (by rfl) T.D__has_grid_length.g T.D__has_grid_length.F.kp T.D__has_grid_length.b .nil pass0 (pa_cons (pv 3) pa_nil)))) (pw_or1 (pt_cmpR (op_neDK (K := K) rfl (hr_u hr)) (pe_callB (call_lenK (K := K) rfl) (by rfl) T.n_len (by decide +kernel) (pa_cons (pv 3) pa_nil)) (pe_callB (call_lenK (K := K) rfl) (by rfl) T.n_len (by decide +kernel) (pa_cons (pe_ix (ix_seqK (K := K) rfl) (pv 1) pe_int (fun _ _ => rfl)) pa_nil)) (nomark _)))))
      (pss_one (ps_ret (pe_tup (pa_cons (pv 2) pa_nil))))
      pss_nil)))
    (pss_cons (ps_for PassesOwn.never rfl (pi_enumAK (K := K) rfl (by rfl) T.n_enumerate (pa_cons (pv 1) pa_nil)) (by exact (pg_tupK (K := K) (n := 2) rfl rfl (pgs_cons (pg_name (i := 2) sc__wrong_part.nd rfl (by first | exact Or.inl rfl | exact Or.inr rfl)) (pgs_cons (pg_name (i := 3) sc__wrong_part.nd rfl (by first | exact Or.inl rfl | exact Or.inr rfl)) pgs_nil))))
      (pss_one (ps_for PassesOwn.never rfl (pi_enumAK (K := K) rfl (by rfl) T.n_enumerate (pa_cons (pv 3) pa_nil)) (by exact (pg_tupK (K := K) (n := 2) rfl rfl (pgs_cons (pg_name (i := 4) sc__wrong_part.nd rfl (by first | exact Or.inl rfl | exact Or.inr rfl)) (pgs_cons (pg_name (i := 5) sc__wrong_part.nd rfl (by first | exact Or.inl rfl | exact Or.inr rfl)) pgs_nil))))
      (pss_one (ps_if (pt_not (pt_val (pe_call G_is_cell (hr.mono (by decide)) (by rfl) T.D_is_cell.g T.D_is_cell.F.kp T.D_is_cell.b .nil pass0 (pa_cons (pv 0) (pa_cons (pv 5) pa_nil)))))
      (pss_one (ps_ret (pe_tup (pa_cons (pv 2) (pa_cons (pv 4) pa_nil)))))
      pss_nil)))))
    (pss_one (ps_ret pe_non)))))), ?_⟩
  try dsimp only [cxOf, Cx.blk, Cx.nox, Cx.wish]
  (refine body_of h fun W ds P eK f => ?_); subst eK
  obtain ⟨b, x, rfl, hb, hx, hP⟩ := f
  have tb := jd_ty hb
  have tx := jd_ty hx
  walk_at "pd"
  refine ⟨b, rfl, tb, ?_⟩
  walk_at "pd"
  refine ⟨fun h1 => ?_, fun h1 => ?_⟩
  · have h1' : b.isInt = true := by simpa using h1
    obtain ⟨n, rfl⟩ := isInt_of h1'
    walk_at "pd"
    refine ⟨fun q1 => ?_, fun q1 => ?_⟩
    · walk_at "pd"
      refine ⟨fun q3 => ?_, fun q3 => ?_⟩
      · have q3' : decide (n ≤ 3) = false := by simpa using q3
        have e : wrongD (.int n) x = .str "bases" := wrongD_out fun z => (of_decide_eq_false q3') z.2.2
        rw [e] at hP
        walk_at "pd"
        exact hP
      · have q3' : decide (n ≤ 3) = true := by simpa using q3
        have n1 := of_decide_eq_true q1
        have n3 := of_decide_eq_true q3'
        rw [wrongD_in n1 n3] at hP
        walk_at "pd"
        refine ⟨x, rfl, tx, ?_⟩
        walk_at "pd"
        refine ⟨fun hl => ?_, fun hl => ?_⟩
        · have hl' : hasLen x = false := by simpa using hl
          rw [hl', if_neg Bool.false_ne_true] at hP
          walk_at "pd"
          exact hP
        · have hl' : hasLen x = true := by simpa using hl
          rw [hl', if_pos rfl] at hP
          obtain ⟨xs, rfl, l1, l10⟩ := hasLen_of hl'
          simp only [items] at hP
          simp only [Jd] at hx
          walk_at "pd"
          first | refine sd_for (it_enumT ?_) | refine sd_for (it_enumAT ?_)
          walk_at "pd"
          refine ⟨_, rfl, fun i δ => (∃ a b c d, δ = [some (.int n), some (.tup xs), a, b, c, d]) ∧ ∀ j, j < i → ∀ e, xs[j]? = some e → badRow xs e = false, ⟨⟨none, none, none, none, rfl⟩, fun j hj => absurd hj (Nat.not_lt_zero j)⟩, fun i d δ hd hI => ?_, fun δ hI => ?_⟩
          · obtain ⟨⟨a, b, c, d', rfl⟩, hI⟩ := hI
            obtain ⟨e, he, rfl⟩ := enumD_get hd
            have je := jd_mem hx (List.mem_of_getElem? he)
            refine ⟨_, gd_tup2 (gd_name (gd_name ?_))⟩
            walk_at "pd"
            refine ⟨e, rfl, jd_ty je, ?_⟩
            walk_at "pd"
            have bad : badRow xs e = true → P (.tup [.int (i : Int)]) := fun hb => by
              unfold wrongR at hP
              rw [find_some hI he hb] at hP
              exact hP
            by_cases hle : hasLen e = true
            · obtain ⟨cs, rfl, c1, c10⟩ := hasLen_of hle
              obtain ⟨r0, h0, hr0, eh⟩ := bad_row0 hI he hle
              obtain ⟨ds, rfl, d1, d10⟩ := hasLen_of hr0
              refine bof (by rw [hle]; rfl) ?_
              walk_at "pd"
              refine rd_ixT (j := 0) rfl h0 ?_
              walk_at "pd"
              refine ⟨fun q => ?_, fun q => ?_⟩
              · walk_at "pd"
                refine bad ?_
                rw [badRow_tup hle eh]
                exact q
              · walk_at "pd"
                refine ⟨⟨_, _, _, _, rfl⟩, fun j hj e2 he2 => ?_⟩
                by_cases hji : j = i
                · subst hji
                  rw [he] at he2
                  cases he2
                  rw [badRow_tup hle eh]
                  exact q
                · exact hI j (by omega) e2 he2
            · have hle' : hasLen e = false := by simpa using hle
              refine bot (by rw [hle']; rfl) ?_
              walk_at "pd"
              refine bad ?_
              unfold badRow
              rw [hle']
              rfl
          · obtain ⟨⟨a, b, c, d', rfl⟩, hI⟩ := hI
            rw [enumD_length] at hI
            have hn := find_none (p := badRow xs) (xs := xs) fun j e he => hI j (List.getElem?_eq_some_iff.mp he).1 e he
            unfold wrongR at hP
            rw [hn] at hP
            simp only at hP
            walk_at "pd"
            first | refine sd_for (it_enumT ?_) | refine sd_for (it_enumAT ?_)
            walk_at "pd"
            refine ⟨_, rfl, fun i δ => (∃ a b c d, δ = [some (.int n), some (.tup xs), a, b, c, d]) ∧ ∀ j, j < i → ∀ e, xs[j]? = some e → badIn n e = false, ⟨⟨_, _, _, _, rfl⟩, fun j hj => absurd hj (Nat.not_lt_zero j)⟩, fun i d δ hd hJ => ?_, fun δ hJ => ?_⟩
            · obtain ⟨⟨a, b, c, d', rfl⟩, hJ⟩ := hJ
              obtain ⟨e, he, rfl⟩ := enumD_get hd
              have je := jd_mem hx (List.mem_of_getElem? he)
              have ok := hI i (List.getElem?_eq_some_iff.mp he).1 e he
              unfold badRow at ok
              simp only [Bool.or_eq_false_iff, Bool.not_eq_false'] at ok
              obtain ⟨cs, rfl, c1, c10⟩ := hasLen_of ok.1
              simp only [Jd] at je
              refine ⟨_, gd_tup2 (gd_name (gd_name ?_))⟩
              first | refine sd_for (it_enumT ?_) | refine sd_for (it_enumAT ?_)
              walk_at "pd"
              refine ⟨_, rfl, fun k δ => (∃ c d, δ = [some (.int n), some (.tup xs), some (.int (i : Int)), some (.tup cs), c, d]) ∧ ∀ j, j < k → ∀ e, cs[j]? = some e → isCl n e = true, ⟨⟨_, _, rfl⟩, fun j hj => absurd hj (Nat.not_lt_zero j)⟩, fun k d δ hd hK => ?_, fun δ hK => ?_⟩
              · obtain ⟨⟨c, d', rfl⟩, hK⟩ := hK
                obtain ⟨y, hy, rfl⟩ := enumD_get hd
                have jy := jd_mem je (List.mem_of_getElem? hy)
                refine ⟨_, gd_tup2 (gd_name (gd_name ?_))⟩
                walk_at "pd"
                refine ⟨n, y, rfl, n1, n3, jy, ?_⟩
                walk_at "pd"
                refine ⟨fun q => ?_, fun q => ?_⟩
                · have q' : isCl n y = false := by simpa using q
                  walk_at "pd"
                  have b1 : badIn n (.tup cs) = true := by
                    unfold badIn
                    rw [List.any_eq_true]
                    exact ⟨y, List.mem_of_getElem? hy, by rw [q']; rfl⟩
                  unfold wrongC at hP
                  rw [find_some hJ he b1] at hP
                  simp only [List.getD_eq_getElem?_getD, he, Option.getD_some, items] at hP
                  rw [find_some (p := fun c => !isCl n c) (i := k) (d := y) (fun j hj e2 he2 => by rw [hK j hj e2 he2]; rfl) hy (by rw [q']; rfl)] at hP
                  exact hP
                · have q' : isCl n y = true := by simpa using q
                  walk_at "pd"
                  refine ⟨⟨_, _, rfl⟩, fun j hj e2 he2 => ?_⟩
                  by_cases hji : j = k
                  · subst hji
                    rw [hy] at he2
                    cases he2
                    exact q'
                  · exact hK j (by omega) e2 he2
              · obtain ⟨⟨c, d', rfl⟩, hK⟩ := hK
                rw [enumD_length] at hK
                refine ⟨⟨_, _, _, _, rfl⟩, fun j hj e2 he2 => ?_⟩
                by_cases hji : j = i
                · subst hji
                  rw [he] at he2
                  cases he2
                  unfold badIn
                  rw [List.any_eq_false]
                  intro y hy
                  obtain ⟨k, hk, rfl⟩ := List.mem_iff_getElem.mp hy
                  rw [hK k hk _ (List.getElem?_eq_getElem hk)]
                  exact Bool.false_ne_true
                · exact hJ j (by omega) e2 he2
            · obtain ⟨⟨a, b, c, d', rfl⟩, hJ⟩ := hJ
              rw [enumD_length] at hJ
              have hm := find_none (p := badIn n) (xs := xs) fun j e he => hJ j (List.getElem?_eq_some_iff.mp he).1 e he
              unfold wrongC at hP
              rw [hm] at hP
              walk_at "pd"
              exact hP
    · have e : wrongD (.int n) x = .str "bases" := wrongD_out fun z => (of_decide_eq_false q1) z.2.1
      rw [e] at hP
      walk_at "pd"
      exact hP
  · have h1' : b.isInt = false := by simpa using h1
    have e : wrongD b x = .str "bases" := wrongD_out fun z => by rw [h1'] at z; cases z.1
    rw [e] at hP
    walk_at "pd"
    exact hP
theorem ok_BadGrid___init__ (T : Txt K mg) : FnOk Pg w K mg base CX0 1 T.D_BadGrid___init__.f T.D_BadGrid___init__.d ["self", "part"] (spI1 K "part") := by
  refine T.D_BadGrid___init__.F.ok (k := 0) sc_BadGrid___init__ (fun vs H Q E h => by obtain ⟨_, _, _, rfl, _⟩ := h; rfl) (fun cdv A outer s H vs Q E hr h => ?_)
  refine ⟨_, (pss_one (ps_ost (pv 0) (pv 1))), ?_⟩
  try dsimp only [cxOf, Cx.blk, Cx.nox, Cx.wish]
  obtain ⟨a, C, y, rfl, hC, hf, e, q⟩ := h
  refine ⟨y, rfl, .ref a, rfl, a, C, rfl, hC, hf, .inl ⟨e, fun dx h1 h2 => ?_⟩⟩
  exact q dx h1 h2
theorem isNon_of {x : D} (h : x.isNon = true) : x = .non := by cases x <;> first | rfl | cases h
def F_Grid___init__ {K : PySem.W.Frag} {mg : Str → Option Value} (T : Txt K mg) : FI := fun C ds P X => ∃ b x, C = T.k_Grid.C ∧ ds = [b, x] ∧ Jd K b ∧ Jd K x ∧ (wrongD b x = .non → P ["bases", "rows"] [b, x]) ∧ (wrongD b x ≠ .non → X (T.x_BadGrid.C, [("part", wrongD b x)]))
theorem len_Grid___init__ {K : PySem.W.Frag} {mg : Str → Option Value} (T : Txt K mg) : ∀ C ds P X, (F_Grid___init__ T) C ds P X → ds.length + 1 = 3 := by (intro C ds P X h; first | exact congrArg (· + 1) h | (obtain ⟨_, rfl, _⟩ := h; rfl) | (obtain ⟨_, _, rfl, _⟩ := h; rfl) | (obtain ⟨_, _, _, rfl, _⟩ := h; rfl) | (obtain ⟨_, _, _, _, rfl, _⟩ := h; rfl) | (obtain ⟨rfl, _⟩ := h; rfl))
theorem ok_Grid___init__ (T : Txt K mg) : FnOk Pg w K mg base (L2.CX Pg w) 7 T.D_Grid___init__.f T.D_Grid___init__.d ["self", "bases", "rows"] (spInit K (F_Grid___init__ T)) := by
  have G_BadGrid___init__ := ok_BadGrid___init__ (Pg := Pg) (w := w) (base := base) T
  have G__wrong_part := ok__wrong_part (Pg := Pg) (w := w) (base := base) T
  refine T.D_Grid___init__.F.okX (k := 6) sc_Grid___init__ (spInit_len (len_Grid___init__ T)) (fun cdv A outer s H vs Q E hr h => ?_)
  refine ⟨_, (pss_cons (ps_set (i := 3) sc_Grid___init__.nd rfl (by first | exact Or.inl rfl | exact Or.inr rfl) (pe_call G__wrong_part (hr.mono (by decide)) (by rfl) T.D__wrong_part.g T.D__wrong_part.F.kp T.D__wrong_part.b .nil pass0 (pa_cons (pv 1) (pa_cons (pv 2) pa_nil))))
    (pss_cons (ps_if (pt_cmpR op_notN (pv 3) pe_non (nomark _))
      (pss_one (ps_raise rfl (takes_of rfl rfl rfl rfl) (pmk_oex T.x_BadGrid.o T.x_BadGrid.i T.ty_BadGrid___init__ G_BadGrid___init__ (hr.mono (by decide)) T.D_BadGrid___init__.b .nil pass0 (by rfl) T.x_BadGrid.g (pa_cons (pv 3) pa_nil))))
      pss_nil)
    (pss_cons (ps_fld (pv 0) (pv 1) (by rfl))
    (pss_one (ps_fld (pv 0) (pv 2) (by rfl)))))), ?_⟩
  try dsimp only [cxOf, Cx.blk, Cx.nox, Cx.wish]
  refine init_body2 h (by decide) fun W C x ds P X eK f => ?_
  subst eK
  obtain ⟨b, y, rfl, rfl, jb, jy, hP, hX⟩ := f
  refine ⟨T.k_Grid.o.cl, T.na_Grid_bases, T.na_Grid_rows, ?_⟩
  walk_at "pd"
  refine ⟨b, y, rfl, jb, jy, ?_⟩
  walk_at "pd"
  refine ⟨fun q => ?_, fun q => ?_⟩
  · refine sx_raise1 T.x_BadGrid.o T.nx_BadGrid_part ?_
    walk_at "pd"
    refine ⟨_, rfl, hX fun z => ?_⟩
    rw [z] at q
    cases q
  · walk_at "pd"
    exact ⟨_, _, rfl, rfl, rfl, hP (isNon_of (by simpa using q))⟩
def F__law_made {K : PySem.W.Frag} {mg : Str → Option Value} (T : Txt K mg) : FD := fun ds P => ∃ (n m : Nat) (G : GO), ds = [.tup [.int (n : Int), .tup (gridO G)]] ∧ SqO n m G ∧ 1 ≤ n ∧ n ≤ 3 ∧ 1 ≤ m ∧ m ≤ 10 ∧ P (gd T.k_Grid.C (n : Int) (gridO G))
theorem len__law_made {K : PySem.W.Frag} {mg : Str → Option Value} (T : Txt K mg) : ∀ ds P, (F__law_made T) ds P → ds.length = 1 := by (intro ds P h; first | exact h | (obtain ⟨_, rfl, _⟩ := h; rfl) | (obtain ⟨_, _, rfl, _⟩ := h; rfl) | (obtain ⟨_, _, _, rfl, _⟩ := h; rfl) | (obtain ⟨_, _, _, _, rfl, _⟩ := h; rfl) | (obtain ⟨_, _, _, _, _, rfl, _⟩ := h; rfl) | (obtain ⟨_, _, _, _, _, _, rfl, _⟩ := h; rfl) | (obtain ⟨_, _, _, _, _, _, _, rfl, _⟩ := h; rfl) | (obtain ⟨_, _, _, _, _, _, _, _, rfl, _⟩ := h; rfl) | (obtain ⟨_, _, _, _, _, _, _, _, _, rfl, _⟩ := h; rfl) | (obtain ⟨_, _, _, _, _, _, _, _, _, _, rfl, _⟩ := h; rfl) | (obtain ⟨_, _, _, _, _, _, _, _, _, _, _, rfl, _⟩ := h; rfl) | (obtain ⟨_, _, _, _, _, _, _, _, _, _, _, _, rfl, _⟩ := h; rfl) | (obtain ⟨_, _, _, _, _, _, _, _, _, _, _, _, _, rfl, _⟩ := h; rfl) | (obtain ⟨_, _, _, _, _, _, _, _, _, _, _, _, _, rfl, _⟩ := h; rfl) | (obtain ⟨_, _, _, _, _, _, _, _, _, _, _, _, _, _, rfl, _⟩ := h; rfl) | (obtain ⟨_, _, _, _, _, _, _, _, _, _, _, _, _, _, _, rfl, _⟩ := h; rfl) | (obtain ⟨_, _, _, _, _, _, _, _, _, _, _, _, _, _, _, _, rfl, _⟩ := h; rfl) | (obtain ⟨_, _, _, _, _, _, _, _, _, _, _, _, _, _, _, _, _, rfl, _⟩ := h; rfl) | (obtain ⟨_, _, _, _, _, _, _, _, _, _, _, _, _, _, _, _, _, _, rfl, _⟩ := h; rfl) | (obtain ⟨_, _, _, _, _, _, _, _, _, _, _, _, _, _, _, _, _, _, _, rfl, _⟩ := h; rfl) | (obtain ⟨_, _, _, _, _, _, _, _, _, _, _, _, _, _, _, _, _, _, _, _, rfl, _⟩ := h; rfl) | (obtain ⟨_, _, _, _, _, _, _, _, _, _, _, _, _, _, _, _, _, _, _, _, _, rfl, _⟩ := h; rfl) | (obtain ⟨rfl, _⟩ := h; rfl))
theorem ok__law_made (T : Txt K mg) : FnOk Pg w K mg base CX0 9 T.D__law_made.f T.D__law_made.d ["parts"] ((spD K (F__law_made T))) := by
  have G_Grid___init__ := ok_Grid___init__ (Pg := Pg) (w := w) (base := base) T
  refine T.D__law_made.F.ok (k := 8) sc__law_made (spD_len (len__law_made T)) (fun cdv A outer s H vs Q E hr h => ?_)
  refine ⟨_, (pss_one (ps_ret (pe_make T.k_Grid.m G_Grid___init__ (hr.mono (by decide)) (by rfl) T.k_Grid.g T.D_Grid___init__.b .nil passF (pa_cons (pe_ix (ix_seqK (K := K) rfl) (pv 0) pe_int (fun _ _ => rfl)) (pa_cons (pe_ix (ix_seqK (K := K) rfl) (pv 0) pe_int (fun _ _ => rfl)) pa_nil))))), ?_⟩
  try dsimp only [cxOf, Cx.blk, Cx.nox, Cx.wish]
  (refine body_of h fun W ds P eK f => ?_); subst eK
  obtain ⟨n, m, G, rfl, sq, n1, n3, m1, m10, hP⟩ := f
  have gr := sq.grd n1 (by omega) m1 (by omega)
  walk_at "pd"
  refine ⟨_, _, rfl, rfl, by simp only [Jd], gr.jd, fun _ => ?_, fun z => absurd gr.wrong z⟩
  walk_at "pd"
  exact hP
def F__law_placings : FD := fun ds P => ∃ (m : Nat) (G : GO), ds = [.tup (gridO G)] ∧ G.length ≤ 5 ∧ (∀ r ∈ G, r.length = m) ∧ m ≤ 5 ∧ P (.lst ((plsTo G G.length).map colsD))
theorem len__law_placings : ∀ ds P, F__law_placings ds P → ds.length = 1 := by (intro ds P h; first | exact h | (obtain ⟨_, rfl, _⟩ := h; rfl) | (obtain ⟨_, _, rfl, _⟩ := h; rfl) | (obtain ⟨_, _, _, rfl, _⟩ := h; rfl) | (obtain ⟨_, _, _, _, rfl, _⟩ := h; rfl) | (obtain ⟨_, _, _, _, _, rfl, _⟩ := h; rfl) | (obtain ⟨_, _, _, _, _, _, rfl, _⟩ := h; rfl) | (obtain ⟨_, _, _, _, _, _, _, rfl, _⟩ := h; rfl) | (obtain ⟨_, _, _, _, _, _, _, _, rfl, _⟩ := h; rfl) | (obtain ⟨_, _, _, _, _, _, _, _, _, rfl, _⟩ := h; rfl) | (obtain ⟨_, _, _, _, _, _, _, _, _, _, rfl, _⟩ := h; rfl) | (obtain ⟨_, _, _, _, _, _, _, _, _, _, _, rfl, _⟩ := h; rfl) | (obtain ⟨_, _, _, _, _, _, _, _, _, _, _, _, rfl, _⟩ := h; rfl) | (obtain ⟨_, _, _, _, _, _, _, _, _, _, _, _, _, rfl, _⟩ := h; rfl) | (obtain ⟨_, _, _, _, _, _, _, _, _, _, _, _, _, rfl, _⟩ := h; rfl) | (obtain ⟨_, _, _, _, _, _, _, _, _, _, _, _, _, _, rfl, _⟩ := h; rfl) | (obtain ⟨_, _, _, _, _, _, _, _, _, _, _, _, _, _, _, rfl, _⟩ := h; rfl) | (obtain ⟨_, _, _, _, _, _, _, _, _, _, _, _, _, _, _, _, rfl, _⟩ := h; rfl) | (obtain ⟨_, _, _, _, _, _, _, _, _, _, _, _, _, _, _, _, _, rfl, _⟩ := h; rfl) | (obtain ⟨_, _, _, _, _, _, _, _, _, _, _, _, _, _, _, _, _, _, rfl, _⟩ := h; rfl) | (obtain ⟨_, _, _, _, _, _, _, _, _, _, _, _, _, _, _, _, _, _, _, rfl, _⟩ := h; rfl) | (obtain ⟨_, _, _, _, _, _, _, _, _, _, _, _, _, _, _, _, _, _, _, _, rfl, _⟩ := h; rfl) | (obtain ⟨_, _, _, _, _, _, _, _, _, _, _, _, _, _, _, _, _, _, _, _, _, rfl, _⟩ := h; rfl) | (obtain ⟨rfl, _⟩ := h; rfl))
theorem ok__law_placings (T : Txt K mg) : FnOk Pg w K mg base CX0 1 T.D__law_placings.f T.D__law_placings.d ["rows"] ((spD K F__law_placings)) := by
  refine T.D__law_placings.F.ok (k := 0) sc__law_placings (spD_len (len__law_placings)) (fun cdv A outer s H vs Q E hr h => ?_)
  refine ⟨_, (pss_cons (ps_set (i := 1) sc__law_placings.nd rfl (by first | exact Or.inl rfl | exact Or.inr rfl) (pe_lst (pa_cons (pe_tup pa_nil) pa_nil)))
    (pss_cons (ps_for PassesOwn.never rfl (pi_seqK (K := K) rfl (pv 0)) (pg_name (i := 2) sc__law_placings.nd rfl (by first | exact Or.inl rfl | exact Or.inr rfl))
      (pss_cons (ps_set (i := 3) sc__law_placings.nd rfl (by first | exact Or.inl rfl | exact Or.inr rfl) (pe_lst pa_nil))
    (pss_cons (ps_for PassesOwn.never rfl (pi_seqK (K := K) rfl (pv 1)) (pg_name (i := 4) sc__law_placings.nd rfl (by first | exact Or.inl rfl | exact Or.inr rfl))
      (pss_cons (ps_setLc (i := 5) (own := [("j", 6)]) rfl sc__law_placings.nd rfl rfl (sw_true rfl rfl rfl (by decide +kernel)) (pi_range1 (by rfl) T.n_range (pa_cons (pe_callB (call_lenK (K := K) rfl) (by rfl) T.n_len (by decide +kernel) (pa_cons (pv 2) pa_nil)) pa_nil)) (blkOk_by (N := ["rows", "found", "row", "longer", "placing", "free", "j"]) (sc := defScope s__law_placings) (by decide +kernel)) (fun _ _ _ _ _ => (pg_name (i := 6) sc__law_placings.nd rfl (by first | exact Or.inl rfl | exact Or.inr rfl))) (fun _ _ _ _ _ => (pts_one (pt_cmpR op_notN (pe_ix (ix_seqK (K := K) rfl) (pv 2) (pv 6) (fun _ _ => rfl)) pe_non (nomark _)))) (fun _ _ _ _ _ => (pv 6)))
    (pss_one (ps_expr (pe_bm PySem.F.plainAttrs_list PySem.F.slot_list_extend PySem.F.type_list_extend mt_extend (pv 3) (pa_cons (pe_lc (own := [("j", 6)]) rfl sc__law_placings.nd (pi_seqK (K := K) rfl (pv 5)) (blkOk_by (N := ["rows", "found", "row", "longer", "placing", "free", "j"]) (sc := defScope s__law_placings) (by decide +kernel)) (fun _ _ _ _ _ => (pg_name (i := 6) sc__law_placings.nd rfl (by first | exact Or.inl rfl | exact Or.inr rfl))) (fun _ _ _ _ _ => (pts_one (pt_cmpR (op_notInK (K := K) rfl) (pv 6) (pv 4) (by rfl)))) (fun _ _ _ _ _ => (pe_op (op_plusK (K := K) rfl) (pv 4) (pe_tup (pa_cons (pv 6) pa_nil))))) pa_nil))))))
    (pss_one (ps_set (i := 1) sc__law_placings.nd rfl (by first | exact Or.inl rfl | exact Or.inr rfl) (pv 3))))))
    (pss_one (ps_ret (pv 1))))), ?_⟩
  try dsimp only [cxOf, Cx.blk, Cx.nox, Cx.wish]
  refine body_ofO h fun W ds P eK f => ?_
  subst eK
  obtain ⟨m, G, rfl, l5, hG, m5, hP⟩ := f
  refine so_seq (so_new ?_)
  walk_at "pd"
  refine fun p fresh => ?_
  refine so_seq (so_for (it_seqT ?_))
  walk_at "pd"
  refine ⟨_, rfl, fun i ω δ => ∃ (q : Addr) (x2 x3 x4 x5 x6 : Option D), Has ω q ((plsTo G i).map colsD) ∧ δ = [some (.tup (gridO G)), some (.obj q), x2, x3, x4, x5, x6], ⟨p, none, none, none, none, none, Has.new fresh, rfl⟩, fun i d ω δ hd hI => ?_, fun ω δ hI => ?_⟩
  · obtain ⟨q, x2, x3, x4, x5, x6, hq, rfl⟩ := hI
    unfold gridO at hd
    rw [List.getElem?_map] at hd
    cases hri : G[i]? with
    | none => rw [hri] at hd; cases hd
    | some r =>
      rw [hri] at hd
      cases hd
      have lr := hG r (List.mem_of_getElem? hri)
      have il := (List.getElem?_eq_some_iff.mp hri).1
      have enx : plsTo G (i + 1) = plNext r (plsTo G i) := by
        show plNext (G.getD i []) (plsTo G i) = _
        rw [List.getD_eq_getElem?_getD, hri]
        rfl
      have lpi : (plsTo G i).length ≤ 3125 := by
        have := plsTo_len (G := G) (m := m) (fun r h => Nat.le_of_eq (hG r h)) i
        have h2 : m ^ i ≤ 5 ^ i := Nat.pow_le_pow_left m5 i
        have h3 : 5 ^ i ≤ 5 ^ 5 := Nat.pow_le_pow_right (by decide) (by omega)
        omega
      have lpl : ∀ pl ∈ plsTo G i, pl.length = i := fun pl h => (plsTo_mem hG i (by omega) pl h).1
      generalize plsTo G i = pls at hq enx lpi lpl
      refine ⟨_, gd_name ?_⟩
      refine so_seq (so_new ?_)
      walk_at "pd"
      refine fun q2 fresh2 => ?_
      have nq := hq.ne fresh2
      refine so_seq (so_forO (i := 1) (a := q) (ds := pls.map colsD) rfl (fun k ω δ => ∃ (x4 x5 x6 : Option D), Has ω q (pls.map colsD) ∧ Has ω q2 (((pls.take k).map (plOne r)).flatten.map colsD) ∧ δ = [some (.tup (gridO G)), some (.obj q), some (rowO r), some (.obj q2), x4, x5, x6]) ⟨x4, x5, x6, hq.cons nq, Has.new fresh2, rfl⟩ (fun k ω δ hI => ?_) (fun k d ω δ hd hI => ?_) fun ω δ hI => ?_)
      · obtain ⟨x4, x5, x6, h1, h2, rfl⟩ := hI
        exact h1.1
      · obtain ⟨x4, x5, x6, h1, h2, rfl⟩ := hI
        rw [List.getElem?_map] at hd
        cases hpk : pls[k]? with
        | none => rw [hpk] at hd; cases hd
        | some pl =>
          rw [hpk] at hd
          cases hd
          have ll := lpl pl (List.mem_of_getElem? hpk)
          refine ⟨_, gd_name ?_⟩
          refine so_seq (so_asg ?_)
          walk_at "pd"
          refine ev_lc (it_rng1 ?_)
          unfold rowO
          walk_at "pd"
          rw [List.length_map]
          refine ⟨_, rfl, by omega, by omega, by rw [rngD_length]; omega, fun b acc => acc = (thereT r b).map fun j => .int ((j : Nat) : Int), rfl, fun b d acc hd ha => ?_, fun acc ha => ?_⟩
          · have ha : acc = _ := ha
            subst ha
            obtain ⟨hb, rfl⟩ := rngD_get hd
            rw [Int.toNat_natCast] at hb
            have hrb := List.getElem?_eq_getElem hb
            have hrb2 : (r.map celO)[b]? = some (celO r[b]) := by rw [List.getElem?_map, hrb]; rfl
            refine ⟨[6], by simp, gd_name ?_⟩
            show EvT W _ _ fun z => (z = true → EvD W _ _ fun y => _ ++ [y] = (thereT r (b + 1)).map _) ∧ (z = false → _ = (thereT r (b + 1)).map _)
            rw [thereT_snoc hrb, List.map_append, ← isNon_cel]
            simp only [Int.zero_add]
            walk_at "pd"
            refine rd_ixT (j := b) rfl hrb2 ?_
            walk_at "pd"
            refine ⟨fun z => ?_, fun z => ?_⟩
            · walk_at "pd"
              rw [z, if_pos rfl]
              rfl
            · rw [z, if_neg (by decide), List.map_nil, List.append_nil]
          · rw [rngD_length, Int.toNat_natCast] at ha
            have ha : acc = _ := ha
            subst ha
            have lth : (thereT r r.length).length ≤ 5 := by
              unfold thereT
              exact Nat.le_trans (List.length_filter_le _ _) (by rw [List.length_range]; omega)
            refine so_ext (i := 3) rfl h2.1 (ea_cons ?_)
            refine ev_lc (it_seqL ?_)
            walk_at "pd"
            refine ⟨_, rfl, by rw [List.length_map]; omega, fun b acc => acc = ((((thereN r).take b).filter fun j => !decide (j ∈ pl)).map fun j => pl ++ [j]).map colsD, rfl, fun b d acc hd ha => ?_, fun acc ha => ?_⟩
            · have ha : acc = _ := ha
              subst ha
              rw [List.getElem?_map] at hd
              cases hb : (thereN r)[b]? with
              | none =>
                have hb : (thereT r r.length)[b]? = none := hb
                rw [hb] at hd
                cases hd
              | some j =>
                have hb2 : (thereT r r.length)[b]? = some j := hb
                rw [hb2] at hd
                cases hd
                refine ⟨[6], by simp, gd_name ?_⟩
                show EvT W _ _ fun z => (z = true → EvD W _ _ fun y => _ ++ [y] = ((((thereN r).take (b + 1)).filter fun j => !decide (j ∈ pl)).map fun j => pl ++ [j]).map colsD) ∧ (z = false → _ = ((((thereN r).take (b + 1)).filter fun j => !decide (j ∈ pl)).map fun j => pl ++ [j]).map colsD)
                rw [filter_take hb, List.map_append, List.map_append]
                unfold colsD
                walk_at "pd"
                refine rd_notInT (l := pl.map fun c : Nat => (c : Int)) (by rw [List.map_map]; rfl) ?_
                rw [cast_mem]
                refine ⟨_, rfl, fun z => ?_, fun z => ?_⟩
                · rw [z, if_pos rfl]
                  walk_at "pd"
                  refine rd_plusT (by rw [List.length_map]; simp; omega) ?_
                  rw [List.map_cons, List.map_nil, List.map_cons, List.map_nil, List.map_append]
                  rfl
                · rw [z, if_neg (by decide)]
                  simp
            · rw [List.length_map] at ha
              have ha : acc = ((((thereN r).take (thereN r).length).filter fun j => !decide (j ∈ pl)).map fun j => pl ++ [j]).map colsD := ha
              rw [List.take_length] at ha
              subst ha
              walk_at "pd"
              refine ⟨_, rfl, fun es m => ?_, _, _, _, h1.off nq, ?_, rfl⟩
              · rw [h2.2 es m, List.length_map, List.length_map]
                have a1 := flat_take_len (plOne r) (fun x => Nat.le_trans (plOne_len r x) (show r.length ≤ 5 by omega)) pls k
                have a2 := plOne_len r pl
                unfold plOne at a2
                rw [List.length_map] at a2
                rw [List.length_map]
                omega
              · have := h2.put (f := fun es => es ++ (plOne r pl).map colsD)
                rw [take_one hpk, List.map_append, List.flatten_append, List.map_append, List.map_cons, List.map_nil, List.flatten_cons, List.flatten_nil, List.append_nil]
                exact this
      · obtain ⟨x4, x5, x6, h1, h2, rfl⟩ := hI
        rw [List.length_map, List.take_length] at h2
        refine so_asg ?_
        walk_at "pd"
        refine ⟨q2, _, _, _, _, _, ?_, rfl⟩
        rw [enx]
        exact h2
  · obtain ⟨q, x2, x3, x4, x5, x6, hq, rfl⟩ := hI
    have e : (gridO G).length = G.length := by unfold gridO; rw [List.length_map]
    rw [e] at hq
    exact so_retO rfl hq.1 hP
theorem ok_GridError___init__ (T : Txt K mg) : FnOk Pg w K mg base CX0 1 T.D_GridError___init__.f T.D_GridError___init__.d ["self"] (spI0 K) := by
  refine T.D_GridError___init__.F.ok (k := 0) sc_GridError___init__ (fun vs H Q E h => by obtain ⟨_, _, rfl, _⟩ := h; rfl) (fun cdv A outer s H vs Q E hr h => ?_)
  refine ⟨_, (pss_one (ps_expr (pe_veinit (by rfl) T.n_ValueError T.v_VE (pa_cons (pv 0) pa_nil)))), ?_⟩
  try dsimp only [cxOf, Cx.blk, Cx.nox, Cx.wish]
  exact init0_body h
def F_check_square {K : PySem.W.Frag} {mg : Str → Option Value} (T : Txt K mg) : FX := fun ds P _ => ∃ (n : Int) (m : Nat) (xs : List D), ds = [gd T.k_Grid.C n xs] ∧ Grd n m xs ∧ xs.length = m ∧ P .non
theorem len_check_square {K : PySem.W.Frag} {mg : Str → Option Value} (T : Txt K mg) : ∀ ds P X, (F_check_square T) ds P X → ds.length = 1 := by (intro ds P X h; first | exact h | (obtain ⟨_, rfl, _⟩ := h; rfl) | (obtain ⟨_, _, rfl, _⟩ := h; rfl) | (obtain ⟨_, _, _, rfl, _⟩ := h; rfl) | (obtain ⟨_, _, _, _, rfl, _⟩ := h; rfl) | (obtain ⟨_, _, _, _, _, rfl, _⟩ := h; rfl) | (obtain ⟨_, _, _, _, _, _, rfl, _⟩ := h; rfl) | (obtain ⟨_, _, _, _, _, _, _, rfl, _⟩ := h; rfl) | (obtain ⟨_, _, _, _, _, _, _, _, rfl, _⟩ := h; rfl) | (obtain ⟨_, _, _, _, _, _, _, _, _, rfl, _⟩ := h; rfl) | (obtain ⟨_, _, _, _, _, _, _, _, _, _, rfl, _⟩ := h; rfl) | (obtain ⟨_, _, _, _, _, _, _, _, _, _, _, rfl, _⟩ := h; rfl) | (obtain ⟨_, _, _, _, _, _, _, _, _, _, _, _, rfl, _⟩ := h; rfl) | (obtain ⟨_, _, _, _, _, _, _, _, _, _, _, _, _, rfl, _⟩ := h; rfl) | (obtain ⟨_, _, _, _, _, _, _, _, _, _, _, _, _, _, rfl, _⟩ := h; rfl) | (obtain ⟨_, _, _, _, _, _, _, _, _, _, _, _, _, _, _, rfl, _⟩ := h; rfl) | (obtain ⟨_, _, _, _, _, _, _, _, _, _, _, _, _, _, _, _, rfl, _⟩ := h; rfl) | (obtain ⟨_, _, _, _, _, _, _, _, _, _, _, _, _, _, _, _, _, rfl, _⟩ := h; rfl) | (obtain ⟨_, _, _, _, _, _, _, _, _, _, _, _, _, _, _, _, _, _, rfl, _⟩ := h; rfl) | (obtain ⟨_, _, _, _, _, _, _, _, _, _, _, _, _, _, _, _, _, _, _, rfl, _⟩ := h; rfl) | (obtain ⟨_, _, _, _, _, _, _, _, _, _, _, _, _, _, _, _, _, _, _, _, rfl, _⟩ := h; rfl) | (obtain ⟨_, _, _, _, _, _, _, _, _, _, _, _, _, _, _, _, _, _, _, _, _, rfl, _⟩ := h; rfl) | (obtain ⟨rfl, _⟩ := h; rfl))
theorem ok_check_square (T : Txt K mg) : FnOk Pg w K mg base (L2.CX Pg w) 3 T.D_check_square.f T.D_check_square.d ["grid"] ((spX K (F_check_square T))) := by
  have G_GridError___init__ := ok_GridError___init__ (Pg := Pg) (w := w) (base := base) T
  refine T.D_check_square.F.okX (k := 2) sc_check_square (spX_len (len_check_square T)) (fun cdv A outer s H vs Q E hr h => ?_)
  refine ⟨_, (pss_one (ps_if (pt_cmpR (op_neDK (K := K) rfl (hr_u hr)) (pe_callB (call_lenK (K := K) rfl) (by rfl) T.n_len (by decide +kernel) (pa_cons (pe_fldK (K := K) rfl (pv 0) rfl) pa_nil)) (pe_callB (call_lenK (K := K) rfl) (by rfl) T.n_len (by decide +kernel) (pa_cons (pe_ix (ix_seqK (K := K) rfl) (pe_fldK (K := K) rfl (pv 0) rfl) pe_int (fun _ _ => rfl)) pa_nil)) (nomark _))
      (pss_one (ps_raise rfl (takes_of rfl rfl rfl rfl) (pmk_oe0 T.x_NotSquare.o T.x_NotSquare.i T.ty_GridError___init__ G_GridError___init__ (hr.mono (by decide)) T.D_GridError___init__.b pass0 (by rfl) T.x_NotSquare.g)))
      pss_nil)), ?_⟩
  try dsimp only [cxOf, Cx.blk, Cx.nox, Cx.wish]
  (refine body_ofX h fun W ds P X eK f => ?_); subst eK
  obtain ⟨n, m, xs, rfl, g, hl, hP⟩ := f
  obtain ⟨cs, hc, lc, _⟩ := g.at' (i := 0) (by have := g.l1; omega)
  walk_at "pd"
  (refine ev_fld ?_; refine ev_var rfl ?_; refine ⟨_, _, _, _, rfl, T.k_Grid.o.cl, T.na_Grid_rows, rfl, ?_⟩)
  walk_at "pd"
  (refine ev_fld ?_; refine ev_var rfl ?_; refine ⟨_, _, _, _, rfl, T.k_Grid.o.cl, T.na_Grid_rows, rfl, ?_⟩)
  walk_at "pd"
  refine rd_ixT (j := 0) rfl hc ?_
  walk_at "pd"
  rw [lc, hl, decide_eq_true rfl]
  refine ⟨fun z => (by cases z), fun _ => ?_⟩
  walk_at "pd"
  exact hP
def F_free_columns : FD := fun ds P => ∃ (xs : List D) (x : D) (t : Nat), (x = .tup xs ∨ x = .lst xs) ∧ ds = [x, .int (t : Int)] ∧ xs.length ≤ 10 ∧ P (.lst ((freeN xs t).map fun c => .int ((c : Nat) : Int)))
theorem len_free_columns : ∀ ds P, F_free_columns ds P → ds.length = 2 := by (intro ds P h; first | exact h | (obtain ⟨_, rfl, _⟩ := h; rfl) | (obtain ⟨_, _, rfl, _⟩ := h; rfl) | (obtain ⟨_, _, _, rfl, _⟩ := h; rfl) | (obtain ⟨_, _, _, _, rfl, _⟩ := h; rfl) | (obtain ⟨_, _, _, _, _, rfl, _⟩ := h; rfl) | (obtain ⟨_, _, _, _, _, _, rfl, _⟩ := h; rfl) | (obtain ⟨_, _, _, _, _, _, _, rfl, _⟩ := h; rfl) | (obtain ⟨_, _, _, _, _, _, _, _, rfl, _⟩ := h; rfl) | (obtain ⟨_, _, _, _, _, _, _, _, _, rfl, _⟩ := h; rfl) | (obtain ⟨_, _, _, _, _, _, _, _, _, _, rfl, _⟩ := h; rfl) | (obtain ⟨_, _, _, _, _, _, _, _, _, _, _, rfl, _⟩ := h; rfl) | (obtain ⟨_, _, _, _, _, _, _, _, _, _, _, _, rfl, _⟩ := h; rfl) | (obtain ⟨_, _, _, _, _, _, _, _, _, _, _, _, _, rfl, _⟩ := h; rfl) | (obtain ⟨_, _, _, _, _, _, _, _, _, _, _, _, _, rfl, _⟩ := h; rfl) | (obtain ⟨_, _, _, _, _, _, _, _, _, _, _, _, _, _, rfl, _⟩ := h; rfl) | (obtain ⟨_, _, _, _, _, _, _, _, _, _, _, _, _, _, _, rfl, _⟩ := h; rfl) | (obtain ⟨_, _, _, _, _, _, _, _, _, _, _, _, _, _, _, _, rfl, _⟩ := h; rfl) | (obtain ⟨_, _, _, _, _, _, _, _, _, _, _, _, _, _, _, _, _, rfl, _⟩ := h; rfl) | (obtain ⟨_, _, _, _, _, _, _, _, _, _, _, _, _, _, _, _, _, _, rfl, _⟩ := h; rfl) | (obtain ⟨_, _, _, _, _, _, _, _, _, _, _, _, _, _, _, _, _, _, _, rfl, _⟩ := h; rfl) | (obtain ⟨_, _, _, _, _, _, _, _, _, _, _, _, _, _, _, _, _, _, _, _, rfl, _⟩ := h; rfl) | (obtain ⟨_, _, _, _, _, _, _, _, _, _, _, _, _, _, _, _, _, _, _, _, _, rfl, _⟩ := h; rfl) | (obtain ⟨rfl, _⟩ := h; rfl))
theorem ok_free_columns (T : Txt K mg) : FnOk Pg w K mg base CX0 1 T.D_free_columns.f T.D_free_columns.d ["row", "taken"] ((spD K F_free_columns)) := by
  refine T.D_free_columns.F.ok (k := 0) sc_free_columns (spD_len (len_free_columns)) (fun cdv A outer s H vs Q E hr h => ?_)
  refine ⟨_, (pss_one (ps_ret (pe_lc (own := [("column", 2), ("unit", 3)]) rfl sc_free_columns.nd (pi_enumAK (K := K) rfl (by rfl) T.n_enumerate (pa_cons (pv 0) pa_nil)) (blkOk_by (N := ["row", "taken", "column", "unit"]) (sc := defScope s_free_columns) (by decide +kernel)) (fun _ _ _ _ _ => (by exact (pg_tupK (K := K) (n := 2) rfl rfl (pgs_cons (pg_name (i := 2) sc_free_columns.nd rfl (by first | exact Or.inl rfl | exact Or.inr rfl)) (pgs_cons (pg_name (i := 3) sc_free_columns.nd rfl (by first | exact Or.inl rfl | exact Or.inr rfl)) pgs_nil))))) (fun _ _ _ _ _ => (pts_one (PW.pt (pw_and (pt_cmpR op_notN (pv 3) pe_non (nomark _)) (pw_and1 (pt_cmpR (op_eqDK (K := K) rfl (hr_u hr)) (pe_op op_and1 (pe_op op_shrNN (pv 1) (pv 2)) pe_int) pe_int (nomark _))))))) (fun _ _ _ _ _ => (pv 2))))), ?_⟩
  try dsimp only [cxOf, Cx.blk, Cx.nox, Cx.wish]
  (refine body_of h fun W ds P eK f => ?_); subst eK
  obtain ⟨xs, x, t, hx, rfl, hl, hP⟩ := f
  walk_at "pd"
  refine ev_lc ?_
  have core : ((enumD xs).length ≤ 100000 ∧ ∃ Inv : Nat → List D → Prop, Inv 0 [] ∧ (∀ i d acc, (enumD xs)[i]? = some d → Inv i acc → ∃ js, (∀ j ∈ js, j ∈ [2, 3]) ∧ GD W (gTup W.K 2 (gCons (gName 2) (gCons (gName 3) gNil))) d [some x, some (.int (t : Int)), none, none] js fun δ2 => EvT W (tAnd (tTest (tOp (fun x y H Q => y = V.non ∧ Q (V.bl !decide (x = V.non)) H) (tVar 3) (tC V.non))) (tTest (tOp (rEqD W.K) (tOp rAnd1 (tOp rShrNN (tVar 1) (tVar 2)) (tC (V.int 1))) (tC (V.int 0))))) δ2 fun b => (b = true → EvD W (tVar 2) δ2 fun y => Inv (i + 1) (acc ++ [y])) ∧ (b = false → Inv (i + 1) acc)) ∧ ∀ acc, Inv (enumD xs).length acc → P (.lst acc)) := by
    refine ⟨by rw [enumD_length]; omega, fun k acc => acc = (freeT xs t k).map fun c => .int ((c : Nat) : Int), rfl, fun k d acc hd ha => ?_, fun acc ha => ?_⟩
    · have ha : acc = _ := ha
      subst ha
      obtain ⟨y, hy, rfl⟩ := enumD_get hd
      have hg : xs.getD k .non = y := by rw [List.getD_eq_getElem?_getD, hy]; rfl
      refine ⟨[2] ++ [3], by simp, gd_tup2 (gd_name (gd_name ?_))⟩
      show EvT W _ [some x, some (.int (t : Int)), some (.int (k : Int)), some y] fun b => (b = true → EvD W (tVar 2) [some x, some (.int (t : Int)), some (.int (k : Int)), some y] fun z => (freeT xs t k).map (fun c => D.int ((c : Nat) : Int)) ++ [z] = (freeT xs t (k + 1)).map fun c => D.int ((c : Nat) : Int)) ∧ (b = false → (freeT xs t k).map (fun c => D.int ((c : Nat) : Int)) = (freeT xs t (k + 1)).map fun c => D.int ((c : Nat) : Int))
      rw [freeT_snoc hy, List.map_append]
      walk_at "pd"
      refine ⟨fun q => ?_, fun q => ⟨fun z => (by cases z), fun _ => ?_⟩⟩
      · rw [q, Bool.true_and]
        refine et_test ?_
        walk_at "pd"
        refine rd_shrNN ?_
        walk_at "pd"
        refine rd_and1 ?_
        walk_at "pd"
        rw [testBit_mod]
        cases t.testBit k with
        | true =>
          refine ⟨fun z => (by simp at z), fun _ => ?_⟩
          simp
        | false =>
          refine ⟨fun _ => ?_, fun z => (by simp at z)⟩
          walk_at "pd"
          simp
      · rw [q, Bool.false_and]
        simp
    · rw [enumD_length] at ha
      have ha : acc = _ := ha
      rw [ha]
      exact hP
  rcases hx with rfl | rfl
  · refine it_enumAT ?_
    walk_at "pd"
    exact ⟨xs, rfl, core⟩
  · refine it_enumAL ?_
    walk_at "pd"
    exact ⟨xs, rfl, core⟩
def F_placed_lots {K : PySem.W.Frag} {mg : Str → Option Value} (T : Txt K mg) : FD := fun ds P => ∃ (n : Int) (m : Nat) (rows : List (List D)), ds = [gd T.k_Grid.C n (rows.map .tup)] ∧ m ≤ 10 ∧ rows.length ≤ 10 ∧ (∀ r ∈ rows, r.length = m ∧ D.nodks r = true) ∧ P (.lst ((List.range (rows.length + 1)).map fun i => dicD (toKv (lotAt rows i))))
theorem len_placed_lots {K : PySem.W.Frag} {mg : Str → Option Value} (T : Txt K mg) : ∀ ds P, (F_placed_lots T) ds P → ds.length = 1 := by (intro ds P h; first | exact h | (obtain ⟨_, rfl, _⟩ := h; rfl) | (obtain ⟨_, _, rfl, _⟩ := h; rfl) | (obtain ⟨_, _, _, rfl, _⟩ := h; rfl) | (obtain ⟨_, _, _, _, rfl, _⟩ := h; rfl) | (obtain ⟨_, _, _, _, _, rfl, _⟩ := h; rfl) | (obtain ⟨_, _, _, _, _, _, rfl, _⟩ := h; rfl) | (obtain ⟨_, _, _, _, _, _, _, rfl, _⟩ := h; rfl) | (obtain ⟨_, _, _, _, _, _, _, _, rfl, _⟩ := h; rfl) | (obtain ⟨_, _, _, _, _, _, _, _, _, rfl, _⟩ := h; rfl) | (obtain ⟨_, _, _, _, _, _, _, _, _, _, rfl, _⟩ := h; rfl) | (obtain ⟨_, _, _, _, _, _, _, _, _, _, _, rfl, _⟩ := h; rfl) | (obtain ⟨_, _, _, _, _, _, _, _, _, _, _, _, rfl, _⟩ := h; rfl) | (obtain ⟨_, _, _, _, _, _, _, _, _, _, _, _, _, rfl, _⟩ := h; rfl) | (obtain ⟨_, _, _, _, _, _, _, _, _, _, _, _, _, rfl, _⟩ := h; rfl) | (obtain ⟨_, _, _, _, _, _, _, _, _, _, _, _, _, _, rfl, _⟩ := h; rfl) | (obtain ⟨_, _, _, _, _, _, _, _, _, _, _, _, _, _, _, rfl, _⟩ := h; rfl) | (obtain ⟨_, _, _, _, _, _, _, _, _, _, _, _, _, _, _, _, rfl, _⟩ := h; rfl) | (obtain ⟨_, _, _, _, _, _, _, _, _, _, _, _, _, _, _, _, _, rfl, _⟩ := h; rfl) | (obtain ⟨_, _, _, _, _, _, _, _, _, _, _, _, _, _, _, _, _, _, rfl, _⟩ := h; rfl) | (obtain ⟨_, _, _, _, _, _, _, _, _, _, _, _, _, _, _, _, _, _, _, rfl, _⟩ := h; rfl) | (obtain ⟨_, _, _, _, _, _, _, _, _, _, _, _, _, _, _, _, _, _, _, _, rfl, _⟩ := h; rfl) | (obtain ⟨_, _, _, _, _, _, _, _, _, _, _, _, _, _, _, _, _, _, _, _, _, rfl, _⟩ := h; rfl) | (obtain ⟨rfl, _⟩ := h; rfl))
theorem ok_placed_lots (T : Txt K mg) : FnOk Pg w K mg base CX0 2 T.D_placed_lots.f T.D_placed_lots.d ["grid"] ((spD K (F_placed_lots T))) := by
  have G_free_columns := ok_free_columns (Pg := Pg) (w := w) (base := base) T
  refine T.D_placed_lots.F.ok (k := 1) sc_placed_lots (spD_len (len_placed_lots T)) (fun cdv A outer s H vs Q E hr h => ?_)
  refine ⟨_, (pss_cons (ps_set (i := 1) sc_placed_lots.nd rfl (by first | exact Or.inl rfl | exact Or.inr rfl) (pe_lst (pa_cons (pe_disp (pps_cons pe_int pe_int pps_nil) rfl rfl (by simp) (by decide)) pa_nil)))
    (pss_cons (ps_for PassesOwn.never rfl (pi_seqK (K := K) rfl (pe_fldK (K := K) rfl (pv 0) rfl)) (pg_name (i := 2) sc_placed_lots.nd rfl (by first | exact Or.inl rfl | exact Or.inr rfl))
      (pss_cons (ps_set (i := 3) sc_placed_lots.nd rfl (by first | exact Or.inl rfl | exact Or.inr rfl) pe_dnewK)
    (pss_cons (ps_lock (ps_for PassesOwn.never rfl (pi_items (pe_ix (ix_seqK (K := K) rfl) (pv 1) (pe_un un_neg pe_int) (fun _ _ => rfl))) (by exact (pg_tupK (K := K) (n := 2) rfl rfl (pgs_cons (pg_name (i := 4) sc_placed_lots.nd rfl (by first | exact Or.inl rfl | exact Or.inr rfl)) (pgs_cons (pg_name (i := 5) sc_placed_lots.nd rfl (by first | exact Or.inl rfl | exact Or.inr rfl)) pgs_nil))))
      (pss_one (ps_for PassesOwn.never rfl (pi_seqK (K := K) rfl (pe_call G_free_columns (hr.mono (by decide)) (by rfl) T.D_free_columns.g T.D_free_columns.F.kp T.D_free_columns.b .nil pass0 (pa_cons (pv 2) (pa_cons (pv 4) pa_nil)))) (pg_name (i := 6) sc_placed_lots.nd rfl (by first | exact Or.inl rfl | exact Or.inr rfl))
      (pss_cons (ps_set (i := 7) sc_placed_lots.nd rfl (by first | exact Or.inl rfl | exact Or.inr rfl) (pe_op op_orN (pv 4) (pe_op op_shl1 pe_int (pv 6))))
    (pss_one (ps_dput (hr_u1 hr) (pv 3) (pv 7) (pe_op (op_plusK (K := K) rfl) (pe_dget2 (hr_u1 hr) (pv 3) (pv 7) pe_int ⟨rfl, rfl, rfl, rfl⟩) (pv 5)) rfl)))))))
    (pss_one (ps_expr (pe_bm PySem.F.plainAttrs_list PySem.F.slot_list_append PySem.F.type_list_append mt_append (pv 1) (pa_cons (pv 3) pa_nil)))))))
    (pss_one (ps_ret (pv 1))))), ?_⟩
  try dsimp only [cxOf, Cx.blk, Cx.nox, Cx.wish]
  refine body_ofO h fun W ds P eK f => ?_
  subst eK
  obtain ⟨n, m, rows, rfl, m10, l10, hr, hP⟩ := f
  refine so_seq (so_new ?_)
  refine ea_cons ?_
  refine ev_dispI ?_
  walk_at "pd"
  refine fun p fresh => ?_
  refine so_seq (so_for (it_seqT ?_))
  (refine ev_fld ?_; refine ev_var rfl ?_; refine ⟨_, _, _, _, rfl, T.k_Grid.o.cl, T.na_Grid_rows, rfl, ?_⟩)
  refine ⟨_, rfl, fun i ω δ => ∃ (x2 x3 : Option D), Has ω p ((List.range (i + 1)).map fun i => dicD (toKv (lotAt rows i))) ∧ δ = [some (gd T.k_Grid.C n (rows.map .tup)), some (.obj p), x2, x3, none, none, none, none], ⟨none, none, Has.new fresh, rfl⟩, fun i d ω δ hd hI => ?_, fun ω δ hI => ?_⟩
  · obtain ⟨x2, x3, hp, rfl⟩ := hI
    rw [List.getElem?_map] at hd
    cases hri : rows[i]? with
    | none => rw [hri] at hd; cases hd
    | some r =>
      rw [hri] at hd
      cases hd
      obtain ⟨lr, nr⟩ := hr r (List.mem_of_getElem? hri)
      have il := (List.getElem?_eq_some_iff.mp hri).1
      have okl := OkL.at (fun r h => (hr r h).1) i (by omega)
      refine ⟨_, gd_name ?_⟩
      refine so_dict (i := 3) (j := 1) (a := p) [4, 5, 6, 7] rfl hp.1 (by decide) (by show 3 < 8; decide) fun q => ?_
      refine sk_items (j := 1) (k := i) (μ := toKv (lotAt rows i)) rfl (by rw [List.getElem?_map, List.getElem?_range (by omega)]; rfl) (toKv_nodk _) (by rw [List.length_map, List.length_range]; exact tdAt_last (n := i + 1) (by omega)) (fun p hp => by cases hp) ?_
      refine ⟨fun a κ δ => κ = toKv (lotsTo r (lotAt rows i) a) ∧ ∃ (x0 x1 x4 x5 x6 x7 : Option D), δ = [x0, x1, some (.tup r), some (.obj q), x4, x5, x6, x7], ⟨rfl, (some (gd T.k_Grid.C n (rows.map .tup))).bind lockS, (some (D.lst ((List.range (i + 1)).map fun i => dicD (toKv (lotAt rows i))))).bind lockS, none, none, none, none, ?_⟩, fun a pr κ δ ha hI => ?_, fun κ δ hI => ?_⟩
      · show [_, _, (some (D.tup r)).bind lockS, _, none, none, none, none] = _
        rw [show (some (D.tup r)).bind lockS = some (.tup r) from lockS_nodk (by simpa [D.nodk] using nr)]
        rfl
      · obtain ⟨rfl, x0, x1, x4, x5, x6, x7, rfl⟩ := hI
        unfold toKv at ha
        rw [List.getElem?_map] at ha
        cases hla : (lotAt rows i)[a]? with
        | none => rw [hla] at ha; cases ha
        | some tc =>
          rw [hla] at ha
          cases ha
          obtain ⟨t, c⟩ := tc
          have tl := okl.lt _ (List.mem_of_getElem? hla)
          refine ⟨[4] ++ [5], by simp, gd_tup2 (gd_name (gd_name ?_))⟩
          refine sk_for ?_
          walk_at "pd"
          refine ⟨r, .tup r, t, .inl rfl, rfl, by omega, ?_⟩
          refine ⟨_, rfl, fun b κ δ => κ = toKv (innN t c ((freeN r t).take b) (lotsTo r (lotAt rows i) a)) ∧ ∃ (x6 x7 : Option D), δ = [x0, x1, some (.tup r), some (.obj q), some (.int (t : Int)), some (.int c), x6, x7], ⟨rfl, x6, x7, rfl⟩, fun b d κ δ hb hI => ?_, fun κ δ hI => ?_⟩
          · obtain ⟨rfl, x6, x7, rfl⟩ := hI
            rw [List.getElem?_map] at hb
            cases hfb : (freeN r t)[b]? with
            | none => rw [hfb] at hb; cases hb
            | some k =>
              rw [hfb] at hb
              cases hb
              have kl := free_lt (List.mem_of_getElem? hfb)
              have ok2 : OkL m (innN t c ((freeN r t).take b) (lotsTo r (lotAt rows i) a)) := OkL.inn tl _ (fun c hc => lr ▸ free_lt (List.mem_of_mem_take hc)) (okl.to lr a)
              have ln := ok2.len
              have p10 : 2 ^ m ≤ 2 ^ 10 := Nat.pow_le_pow_right (by decide) m10
              refine ⟨[6], by simp, gd_name ?_⟩
              refine sk_seq (sk_asg (by simp) ?_)
              walk_at "pd"
              refine rd_shl1 (by omega) ?_
              refine rd_orN ?_
              refine sk_put (i := 3) rfl ?_
              walk_at "pd"
              refine ev_dget2 ?_
              walk_at "pd"
              refine ⟨_, .inl rfl, ?_⟩
              walk_at "pd"
              refine ⟨.inl ((t ||| 2 ^ k : Nat) : Int), rfl, ?_⟩
              walk_at "pd"
              rw [toKv_get]
              have eg : ∀ g : Option Int, (g.map D.int).getD (D.int 0) = .int (g.getD 0) := fun g => by cases g <;> rfl
              rw [eg]
              walk_at "pd"
              refine ⟨rfl, ?_⟩
              walk_at "pd"
              refine ⟨.inl ((t ||| 2 ^ k : Nat) : Int), rfl, by rw [toKv_len]; omega, ?_⟩
              refine ⟨?_, _, _, rfl⟩
              rw [innN_take hfb, ← toKv_put]
              rfl
          · obtain ⟨rfl, x6, x7, rfl⟩ := hI
            rw [List.length_map, List.take_length, ← lotsTo_next hla]
            exact ⟨rfl, x0, x1, _, _, x6, x7, rfl⟩
      · obtain ⟨rfl, x0, x1, x4, x5, x6, x7, rfl⟩ := hI
        rw [toKv_len, lotsTo_full, ← lotAt_next hri]
        refine ⟨toKv_nodk _, toKv_nref _, ?_⟩
        refine so_app (i := 1) rfl hp.1 (fun es m => by rw [hp.2 es m, List.length_map, List.length_range]; omega) ?_
        walk_at "pd"
        refine ⟨_, rfl, _, _, ?_, rfl⟩
        have := hp.put (f := fun es => es ++ [dicD (toKv (lotAt rows (i + 1)))])
        rw [List.range_succ, List.map_append]
        exact this
  · obtain ⟨x2, x3, hp, rfl⟩ := hI
    refine so_retO rfl hp.1 ?_
    rw [List.length_map]
    exact hP
def F_many_placings {K : PySem.W.Frag} {mg : Str → Option Value} (T : Txt K mg) : FX := fun ds P _ => ∃ (n m : Nat) (G : GO), ds = [gd T.k_Grid.C (n : Int) (gridO G)] ∧ SqO n m G ∧ 1 ≤ n ∧ n ≤ 3 ∧ 1 ≤ m ∧ m ≤ 10 ∧ P (.int ((plsC (csO G) m).length : Int))
theorem len_many_placings {K : PySem.W.Frag} {mg : Str → Option Value} (T : Txt K mg) : ∀ ds P X, (F_many_placings T) ds P X → ds.length = 1 := by (intro ds P X h; first | exact h | (obtain ⟨_, rfl, _⟩ := h; rfl) | (obtain ⟨_, _, rfl, _⟩ := h; rfl) | (obtain ⟨_, _, _, rfl, _⟩ := h; rfl) | (obtain ⟨_, _, _, _, rfl, _⟩ := h; rfl) | (obtain ⟨_, _, _, _, _, rfl, _⟩ := h; rfl) | (obtain ⟨_, _, _, _, _, _, rfl, _⟩ := h; rfl) | (obtain ⟨_, _, _, _, _, _, _, rfl, _⟩ := h; rfl) | (obtain ⟨_, _, _, _, _, _, _, _, rfl, _⟩ := h; rfl) | (obtain ⟨_, _, _, _, _, _, _, _, _, rfl, _⟩ := h; rfl) | (obtain ⟨_, _, _, _, _, _, _, _, _, _, rfl, _⟩ := h; rfl) | (obtain ⟨_, _, _, _, _, _, _, _, _, _, _, rfl, _⟩ := h; rfl) | (obtain ⟨_, _, _, _, _, _, _, _, _, _, _, _, rfl, _⟩ := h; rfl) | (obtain ⟨_, _, _, _, _, _, _, _, _, _, _, _, _, rfl, _⟩ := h; rfl) | (obtain ⟨_, _, _, _, _, _, _, _, _, _, _, _, _, _, rfl, _⟩ := h; rfl) | (obtain ⟨_, _, _, _, _, _, _, _, _, _, _, _, _, _, _, rfl, _⟩ := h; rfl) | (obtain ⟨_, _, _, _, _, _, _, _, _, _, _, _, _, _, _, _, rfl, _⟩ := h; rfl) | (obtain ⟨_, _, _, _, _, _, _, _, _, _, _, _, _, _, _, _, _, rfl, _⟩ := h; rfl) | (obtain ⟨_, _, _, _, _, _, _, _, _, _, _, _, _, _, _, _, _, _, rfl, _⟩ := h; rfl) | (obtain ⟨_, _, _, _, _, _, _, _, _, _, _, _, _, _, _, _, _, _, _, rfl, _⟩ := h; rfl) | (obtain ⟨_, _, _, _, _, _, _, _, _, _, _, _, _, _, _, _, _, _, _, _, rfl, _⟩ := h; rfl) | (obtain ⟨_, _, _, _, _, _, _, _, _, _, _, _, _, _, _, _, _, _, _, _, _, rfl, _⟩ := h; rfl) | (obtain ⟨rfl, _⟩ := h; rfl))
theorem ok_many_placings (T : Txt K mg) : FnOk Pg w K mg base (L2.CX Pg w) 4 T.D_many_placings.f T.D_many_placings.d ["grid"] ((spX K (F_many_placings T))) := by
  have G_check_square := ok_check_square (Pg := Pg) (w := w) (base := base) T
  have G_placed_lots := ok_placed_lots (Pg := Pg) (w := w) (base := base) T
  refine T.D_many_placings.F.okX (k := 3) sc_many_placings (spX_len (len_many_placings T)) (fun cdv A outer s H vs Q E hr h => ?_)
  refine ⟨_, (pss_cons (ps_expr (pe_callS G_check_square (hr.mono (by decide)) (by rfl) T.D_check_square.g T.D_check_square.F.kp T.D_check_square.b (fun σ => passAt (takes_of rfl rfl rfl rfl) σ) (pa_cons (pv 0) pa_nil)))
    (pss_one (ps_ret (pe_callB (cr_sumLK (K := K) rfl rfl) (by rfl) T.n_sum (by decide +kernel) (pa_cons (pe_listVals rfl (by rfl) T.n_list (pe_ix (ix_seqK (K := K) rfl) (pe_call G_placed_lots (hr.mono (by decide)) (by rfl) T.D_placed_lots.g T.D_placed_lots.F.kp T.D_placed_lots.b .nil pass0 (pa_cons (pv 0) pa_nil)) (pe_un un_neg pe_int) (fun _ _ => rfl))) pa_nil))))), ?_⟩
  try dsimp only [cxOf, Cx.blk, Cx.nox, Cx.wish]
  (refine body_ofX h fun W ds P X eK f => ?_); subst eK
  obtain ⟨n, m, G, rfl, sq, n1, n3, m1, m10, hP⟩ := f
  have gr := sq.grd n1 n3 m1 m10
  have lg : (gridO G).length = m := by unfold gridO; rw [List.length_map, sq.1]
  have lR : (rowsO G).length = m := by rw [rowsO_len, sq.1]
  walk_at "pd"
  refine ⟨_, m, _, rfl, gr, lg, ?_⟩
  walk_at "pd"
  refine ev_listVals ?_
  walk_at "pd"
  refine ⟨n, m, rowsO G, by rw [gridO_rows], m10, by omega, sq_rows sq, ?_⟩
  rw [lR]
  walk_at "pd"
  refine rd_ixLl (d := dicD (toKv (lotAt (rowsO G) m))) (by rw [List.length_map, List.length_range, List.getElem?_map, Nat.add_sub_cancel, List.getElem?_range (by omega)]; rfl) ?_
  refine ⟨_, rfl, ?_⟩
  rw [toKv_snd]
  walk_at "pd"
  refine rc_sumL ?_
  have := many_is (cs_of G)
  rw [lR, cs_len, sq.1] at this
  rw [this]
  exact hP
def F_open_lots {K : PySem.W.Frag} {mg : Str → Option Value} (T : Txt K mg) : FD := fun ds P => ∃ (n m : Nat) (G : GO), ds = [gd T.k_Grid.C (n : Int) (gridO G)] ∧ SqO n m G ∧ 1 ≤ n ∧ n ≤ 3 ∧ 1 ≤ m ∧ m ≤ 10 ∧ P (.lst (((List.range (m + 1)).map (opAt (rowsO G))).map fun l => dicD (kvB l)))
theorem len_open_lots {K : PySem.W.Frag} {mg : Str → Option Value} (T : Txt K mg) : ∀ ds P, (F_open_lots T) ds P → ds.length = 1 := by (intro ds P h; first | exact h | (obtain ⟨_, rfl, _⟩ := h; rfl) | (obtain ⟨_, _, rfl, _⟩ := h; rfl) | (obtain ⟨_, _, _, rfl, _⟩ := h; rfl) | (obtain ⟨_, _, _, _, rfl, _⟩ := h; rfl) | (obtain ⟨_, _, _, _, _, rfl, _⟩ := h; rfl) | (obtain ⟨_, _, _, _, _, _, rfl, _⟩ := h; rfl) | (obtain ⟨_, _, _, _, _, _, _, rfl, _⟩ := h; rfl) | (obtain ⟨_, _, _, _, _, _, _, _, rfl, _⟩ := h; rfl) | (obtain ⟨_, _, _, _, _, _, _, _, _, rfl, _⟩ := h; rfl) | (obtain ⟨_, _, _, _, _, _, _, _, _, _, rfl, _⟩ := h; rfl) | (obtain ⟨_, _, _, _, _, _, _, _, _, _, _, rfl, _⟩ := h; rfl) | (obtain ⟨_, _, _, _, _, _, _, _, _, _, _, _, rfl, _⟩ := h; rfl) | (obtain ⟨_, _, _, _, _, _, _, _, _, _, _, _, _, rfl, _⟩ := h; rfl) | (obtain ⟨_, _, _, _, _, _, _, _, _, _, _, _, _, rfl, _⟩ := h; rfl) | (obtain ⟨_, _, _, _, _, _, _, _, _, _, _, _, _, _, rfl, _⟩ := h; rfl) | (obtain ⟨_, _, _, _, _, _, _, _, _, _, _, _, _, _, _, rfl, _⟩ := h; rfl) | (obtain ⟨_, _, _, _, _, _, _, _, _, _, _, _, _, _, _, _, rfl, _⟩ := h; rfl) | (obtain ⟨_, _, _, _, _, _, _, _, _, _, _, _, _, _, _, _, _, rfl, _⟩ := h; rfl) | (obtain ⟨_, _, _, _, _, _, _, _, _, _, _, _, _, _, _, _, _, _, rfl, _⟩ := h; rfl) | (obtain ⟨_, _, _, _, _, _, _, _, _, _, _, _, _, _, _, _, _, _, _, rfl, _⟩ := h; rfl) | (obtain ⟨_, _, _, _, _, _, _, _, _, _, _, _, _, _, _, _, _, _, _, _, rfl, _⟩ := h; rfl) | (obtain ⟨_, _, _, _, _, _, _, _, _, _, _, _, _, _, _, _, _, _, _, _, _, rfl, _⟩ := h; rfl) | (obtain ⟨rfl, _⟩ := h; rfl))
theorem ok_open_lots (T : Txt K mg) : FnOk Pg w K mg base CX0 3 T.D_open_lots.f T.D_open_lots.d ["grid"] ((spD K (F_open_lots T))) := by
  have G_free_columns := ok_free_columns (Pg := Pg) (w := w) (base := base) T
  have G_placed_lots := ok_placed_lots (Pg := Pg) (w := w) (base := base) T
  refine T.D_open_lots.F.ok (k := 2) sc_open_lots (spD_len (len_open_lots T)) (fun cdv A outer s H vs Q E hr h => ?_)
  refine ⟨_, (pss_cons (ps_set (i := 1) sc_open_lots.nd rfl (by first | exact Or.inl rfl | exact Or.inr rfl) (pe_call G_placed_lots (hr.mono (by decide)) (by rfl) T.D_placed_lots.g T.D_placed_lots.F.kp T.D_placed_lots.b .nil pass0 (pa_cons (pv 0) pa_nil)))
    (pss_cons (ps_set (i := 2) sc_open_lots.nd rfl (by first | exact Or.inl rfl | exact Or.inr rfl) (pe_op (op_plusK (K := K) rfl) (pe_lc (own := [("_", 5)]) rfl sc_open_lots.nd (pi_seqK (K := K) rfl (pe_fldK (K := K) rfl (pv 0) rfl)) (blkOk_by (N := ["grid", "placed", "lots", "i", "taken", "_", "lot", "column"]) (sc := defScope s_open_lots) (by decide +kernel)) (fun _ _ _ _ _ => (pg_name (i := 5) sc_open_lots.nd rfl (by first | exact Or.inl rfl | exact Or.inr rfl))) (fun _ _ _ _ _ => pts_nil) (fun _ _ _ _ _ => pe_dnewK)) (pe_lst (pa_cons (pe_lock (pe_dc (own := [("lot", 6)]) rfl sc_open_lots.nd (pi_keys (pe_ix (ix_seqK (K := K) rfl) (pv 1) (pe_un un_neg pe_int) (fun _ _ => rfl))) (blkOk_by (N := ["grid", "placed", "lots", "i", "taken", "_", "lot", "column"]) (sc := defScope s_open_lots) (by decide +kernel)) (fun _ _ _ _ _ => (pg_name (i := 6) sc_open_lots.nd rfl (by first | exact Or.inl rfl | exact Or.inr rfl))) (fun _ _ _ _ _ => pts_nil) (fun _ _ _ _ _ => (pv 6)) (fun _ _ _ _ _ => pe_bl))) pa_nil))))
    (pss_cons (ps_for PassesOwn.never rfl (pi_revR (by rfl) T.n_reversed (prg_1 (by rfl) T.n_range (pe_callB (call_lenK (K := K) rfl) (by rfl) T.n_len (by decide +kernel) (pa_cons (pe_fldK (K := K) rfl (pv 0) rfl) pa_nil)))) (pg_name (i := 3) sc_open_lots.nd rfl (by first | exact Or.inl rfl | exact Or.inr rfl))
      (pss_one (ps_lock (ps_for PassesOwn.never rfl (pi_keys (pe_ix (ix_seqK (K := K) rfl) (pv 1) (pv 3) (fun _ _ => rfl))) (pg_name (i := 4) sc_open_lots.nd rfl (by first | exact Or.inl rfl | exact Or.inr rfl))
      (pss_one (ps_if (pt_val (pe_callB (cr_any rfl) (by rfl) T.n_any (by decide +kernel) (pa_cons (pe_lc (own := [("column", 7)]) rfl sc_open_lots.nd (pi_seqK (K := K) rfl (pe_call G_free_columns (hr.mono (by decide)) (by rfl) T.D_free_columns.g T.D_free_columns.F.kp T.D_free_columns.b .nil pass0 (pa_cons (pe_ix (ix_seqK (K := K) rfl) (pe_fldK (K := K) rfl (pv 0) rfl) (pv 3) (fun _ _ => rfl)) (pa_cons (pv 4) pa_nil)))) (blkOk_by (N := ["grid", "placed", "lots", "i", "taken", "_", "lot", "column"]) (sc := defScope s_open_lots) (by decide +kernel)) (fun _ _ _ _ _ => (pg_name (i := 7) sc_open_lots.nd rfl (by first | exact Or.inl rfl | exact Or.inr rfl))) (fun _ _ _ _ _ => pts_nil) (fun _ _ _ _ _ => (pe_cmp (pc_din (hr_u1 hr) (pe_op op_orN (pv 4) (pe_op op_shl1 pe_int (pv 7))) (pe_ix (ix_seqK (K := K) rfl) (pv 2) (pe_op (op_plusK (K := K) rfl) (pv 3) pe_int) (fun _ _ => rfl)))))) pa_nil)))
      (pss_one (ps_dput (hr_u1 hr) (pe_ix (ix_seqK (K := K) rfl) (pv 2) (pv 3) (fun _ _ => rfl)) (pv 4) pe_bl rfl))
      pss_nil))))))
    (pss_one (ps_ret (pv 2)))))), ?_⟩
  try dsimp only [cxOf, Cx.blk, Cx.nox, Cx.wish]
  (refine body_of h fun W ds P eK f => ?_); subst eK
  obtain ⟨n, m, G, rfl, sq, n1, n3, m1, m10, hP⟩ := f
  have gr := sq.grd n1 n3 m1 m10
  have lg : (gridO G).length = m := by unfold gridO; rw [List.length_map, sq.1]
  have lR : (rowsO G).length = m := by rw [rowsO_len, sq.1]
  have okl := fun i (h : i ≤ m) => OkL.at (fun r hr => (sq_rows sq r hr).1) i (by omega)
  have p10 : 2 ^ m ≤ 2 ^ 10 := Nat.pow_le_pow_right (by decide) m10
  refine sd_seq (sd_asg ?_)
  walk_at "pd"
  refine ⟨n, m, rowsO G, by rw [gridO_rows], m10, by omega, sq_rows sq, ?_⟩
  rw [lR]
  generalize hlt : D.lst ((List.range (m + 1)).map fun i => dicD (toKv (lotAt (rowsO G) i))) = lt0
  generalize hgr : gd T.k_Grid.C (n : Int) (gridO G) = gr0
  have ng : gr0.nodk = true := hgr ▸ nodk_grid _ _ _
  show SX W WF _ [some gr0, some lt0, none, none, none, none, none, none] _ _ _ _ _
  refine sd_fam (i := 2) [3, 4] (by decide) (by show 2 < 8; decide) ?_
  refine ev_catQ (ev_lcQ (it_seqT ?_))
  subst hgr
  walk_at "pd"
  (refine ev_fld ?_; refine ev_var rfl ?_; refine ⟨_, _, _, _, rfl, T.k_Grid.o.cl, T.na_Grid_rows, rfl, ?_⟩)
  refine ⟨_, rfl, by rw [lg]; omega, fun i d hd => ⟨[5], by simp, gd_name trivial⟩, ?_⟩
  rw [lg]
  refine ev_lst1Q (ev_dcQ (j := 1) (k := m) (l := (lotAt (rowsO G) m).map (·.1)) (κ := toKv (lotAt (rowsO G) m)) (by rw [← hlt]; rfl) (by rw [List.getElem?_map, List.getElem?_range (by omega)]; rfl) (by unfold toKv; rw [List.map_map, List.map_map]; rfl) (okl m (Nat.le_refl m)).nd (by rw [List.length_map, List.length_range]; exact tdAt_last (n := m + 1) (by omega)) (by rw [List.length_map]; have := (okl m (Nat.le_refl m)).len; omega) (by simp) (by show 6 < 8; decide) ?_)
  refine ⟨by rw [List.length_replicate]; show m + 1 ≤ 100000; omega, fun qs lq => ?_⟩
  have lq : qs.length = m + 1 := by rw [lq, List.length_append, List.length_replicate]; rfl
  rw [opTo_zero _ _ (by have := opAt_last (rowsO G); rw [lR] at this; exact this)]
  refine fk_rev ?_
  walk_at "pd"
  (refine ev_fld ?_; refine ev_var rfl ?_; refine ⟨_, _, _, _, rfl, T.k_Grid.o.cl, T.na_Grid_rows, rfl, ?_⟩)
  walk_at "pd"
  rw [lg]
  refine ⟨m, rfl, by omega, fun i os δ => os = (opTo (rowsO G) m i).map truK ∧ ∃ x3 x4, δ = [some (gd T.k_Grid.C (n : Int) (gridO G)), some lt0, some (.lst (qs.map D.obj)), x3, x4, none, none, none], ⟨rfl, none, none, rfl⟩, fun i d os δ hd hI => ?_, fun os δ hI => ?_⟩
  · obtain ⟨rfl, x3, x4, rfl⟩ := hI
    obtain ⟨hi, rfl⟩ := downD_get hd
    obtain ⟨i0, e0, hi0⟩ : ∃ i0 : Nat, (m : Int) - 1 - (i : Int) = (i0 : Int) ∧ i0 + (i + 1) = m := ⟨m - 1 - i, by omega, by omega⟩
    rw [e0]
    have il : i0 < G.length := by rw [sq.1]; omega
    have oki := okl i0 (by omega)
    have hOi : (rowsO G)[i0]? = some (G[i0].map celO) := by unfold rowsO; rw [List.getElem?_map, List.getElem?_eq_getElem il]; rfl
    have eDi : (rowsO G).getD i0 [] = G[i0].map celO := by rw [List.getD_eq_getElem?_getD, hOi]; rfl
    have hGi : (gridO G)[i0]? = some (rowO G[i0]) := by unfold gridO; rw [List.getElem?_map, List.getElem?_eq_getElem il]; rfl
    have lr : (G[i0].map celO).length = m := by rw [List.length_map]; exact (sq.2 _ (List.getElem_mem _)).1
    have enx := opAt_next (rows := rowsO G) (i := i0) (by omega)
    rw [eDi] at enx
    obtain ⟨lx, hlx⟩ : ∃ lx, lockS lt0 = lx := ⟨_, rfl⟩
    have nq : (D.lst (qs.map D.obj)).nodk = true := by
      simp only [D.nodk]
      refine nodks_of fun x hx => ?_
      obtain ⟨q, _, rfl⟩ := List.mem_map.mp hx
      rfl
    refine ⟨[3], by simp, gd_name ?_⟩
    show FK W _ qs [3, 4] _ [some (gd T.k_Grid.C (n : Int) (gridO G)), some lt0, some (.lst (qs.map D.obj)), some (.int (i0 : Int)), x4, none, none, none] _
    have hL : lockD [some (gd T.k_Grid.C (n : Int) (gridO G)), some lt0, some (.lst (qs.map D.obj)), some (.int (i0 : Int)), x4, none, none, none] = [some (gd T.k_Grid.C (n : Int) (gridO G)), lx, some (.lst (qs.map D.obj)), some (.int (i0 : Int)), x4.bind lockS, none, none, none] := by
      show [lockS _, lockS lt0, lockS _, lockS _, _, none, none, none] = _
      rw [lockS_nodk ng, lockS_nodk nq, lockS_nodk (x := .int (i0 : Int)) rfl, hlx]
    refine fk_keys (j := 1) (k := i0) (μ := toKv (lotAt (rowsO G) i0)) (fun M σ H d kvs od p hd => p.lock hd) (by rw [← hlt]; rfl) (by rw [List.getElem?_map, List.getElem?_range (by omega)]; rfl) (by rw [List.length_map, List.length_range]; exact tdAt_var (i := 3) rfl (by omega)) ?_
    rw [hL]
    generalize hpr : (fun t : Nat => (freeN (G[i0].map celO) t).any fun c => decide (t ||| 2 ^ c ∈ opAt (rowsO G) (i0 + 1))) = pr at enx
    refine ⟨fun a os δ => os = ((opTo (rowsO G) m i).set i0 ((((lotAt (rowsO G) i0).map (·.1)).take a).filter pr)).map truK ∧ ∃ x4, δ = [some (gd T.k_Grid.C (n : Int) (gridO G)), lx, some (.lst (qs.map D.obj)), some (.int (i0 : Int)), x4, none, none, none], ⟨?_, _, rfl⟩, fun a p os δ ha hI => ?_, fun os δ hI => ?_⟩
    · rw [List.take_zero, List.filter_nil, opTo_none hi0]
    · obtain ⟨rfl, x4, rfl⟩ := hI
      obtain ⟨q, hq, rfl⟩ := toKv_at ha
      have hqk : ((lotAt (rowsO G) i0).map (·.1))[a]? = some q.1 := by rw [List.getElem?_map, hq]; rfl
      have tl := oki.lt q (List.mem_of_getElem? hq)
      have lo : (opTo (rowsO G) m i).length = m + 1 := by unfold opTo; rw [List.length_map, List.length_range]
      refine ⟨[4], by simp, gd_name ?_⟩
      refine fk_ifL (j := 2) (F := (opTo (rowsO G) m i).set i0 ((((lotAt (rowsO G) i0).map (·.1)).take a).filter pr)) rfl rfl ?_
      have hF : (((opTo (rowsO G) m i).set i0 ((((lotAt (rowsO G) i0).map (·.1)).take a).filter pr)).map fun l => dicD (kvB l))[i0 + 1]? = some (dicD (kvB (opAt (rowsO G) (i0 + 1)))) := by
        rw [List.getElem?_map, List.getElem?_set_ne (by omega), opTo_at (by omega), if_pos (by omega)]
        rfl
      generalize hLs : (((opTo (rowsO G) m i).set i0 ((((lotAt (rowsO G) i0).map (·.1)).take a).filter pr)).map fun l => dicD (kvB l)) = Ls at hF
      show EvT W _ [some (gd T.k_Grid.C (n : Int) (gridO G)), lx, some (.lst Ls), some (.int (i0 : Int)), some (.int (q.1 : Int)), none, none, none] _
      walk_at "pd"
      refine ev_lc (it_seqL ?_)
      walk_at "pd"
      (refine ev_fld ?_; refine ev_var rfl ?_; refine ⟨_, _, _, _, rfl, T.k_Grid.o.cl, T.na_Grid_rows, rfl, ?_⟩)
      walk_at "pd"
      refine rd_ixT (j := i0) rfl hGi ?_
      walk_at "pd"
      refine ⟨G[i0].map celO, _, q.1, .inl rfl, rfl, by omega, ?_⟩
      have lfr : (freeN (G[i0].map celO) q.1).length ≤ 10 := by
        unfold freeN
        exact Nat.le_trans (List.length_filter_le _ _) (by rw [List.length_range]; omega)
      refine ⟨_, rfl, by rw [List.length_map]; omega, fun b acc => acc = ((freeN (G[i0].map celO) q.1).take b).map fun c => D.bl (decide (q.1 ||| 2 ^ c ∈ opAt (rowsO G) (i0 + 1))), rfl, fun b d acc hd ha => ?_, fun acc ha => ?_⟩
      · have ha : acc = _ := ha
        subst ha
        rw [List.getElem?_map] at hd
        cases hfb : (freeN (G[i0].map celO) q.1)[b]? with
        | none => rw [hfb] at hd; cases hd
        | some c =>
          rw [hfb] at hd
          cases hd
          have cl := free_lt (List.mem_of_getElem? hfb)
          refine ⟨[7], by simp, gd_name (et_yes ⟨fun _ => ?_, fun z => by cases z⟩)⟩
          refine ev_dinB ?_
          walk_at "pd"
          refine rd_shl1 (by omega) ?_
          refine rd_orN ?_
          refine ⟨_, rfl, ?_⟩
          walk_at "pd"
          refine rd_ixL (j := i0 + 1) (by omega) hF ?_
          refine ⟨_, .inl rfl, ?_⟩
          show _ = _
          rw [take_one hfb, List.map_append]
          rfl
      · rw [List.length_map] at ha
        have ha : acc = ((freeN (G[i0].map celO) q.1).take (freeN (G[i0].map celO) q.1).length).map fun c => D.bl (decide (q.1 ||| 2 ^ c ∈ opAt (rowsO G) (i0 + 1))) := ha
        rw [List.take_length] at ha
        subst ha
        walk_at "pd"
        have eb : ((freeN (G[i0].map celO) q.1).map fun c => D.bl (decide (q.1 ||| 2 ^ c ∈ opAt (rowsO G) (i0 + 1)))) = ((freeN (G[i0].map celO) q.1).map fun c => decide (q.1 ||| 2 ^ c ∈ opAt (rowsO G) (i0 + 1))).map D.bl := by rw [List.map_map]; rfl
        rw [eb]
        have ep : (((freeN (G[i0].map celO) q.1).map fun c => decide (q.1 ||| 2 ^ c ∈ opAt (rowsO G) (i0 + 1))).any id) = pr q.1 := by rw [← hpr, List.any_map]; rfl
        refine rc_any ⟨_, rfl, ?_⟩
        rw [ep]
        have nin : q.1 ∉ (((lotAt (rowsO G) i0).map (·.1)).take a).filter pr := fun z => by
          have z := (List.mem_filter.mp z).1
          obtain ⟨b, h1, h2⟩ := List.mem_iff_getElem.mp z
          rw [List.getElem_take] at h2
          rw [List.length_take] at h1
          obtain ⟨al, ea⟩ := List.getElem?_eq_some_iff.mp hqk
          have := (List.getElem_inj oki.nd).mp (h2.trans ea.symm)
          omega
        have lf : ((((lotAt (rowsO G) i0).map (·.1)).take a).filter pr).length < 100000 := by
          have h1 := List.length_filter_le pr (((lotAt (rowsO G) i0).map (·.1)).take a)
          rw [List.length_take, List.length_map] at h1
          have h2 := oki.len
          omega
        have lo : i0 < (opTo (rowsO G) m i).length := by unfold opTo; rw [List.length_map, List.length_range]; omega
        refine ⟨fun z => ?_, fun z => ?_⟩
        · refine fk_put (j := 2) (i := i0) (l := (((lotAt (rowsO G) i0).map (·.1)).take a).filter pr) rfl (tdAt_var (i := 3) rfl (by omega)) (by rw [List.getElem?_map, List.getElem?_set_self lo]; rfl) lf ?_
          walk_at "pd"
          refine ⟨_, rfl, ?_, _, rfl⟩
          rw [putU_new nin, ← List.map_set, List.set_set, take_one hqk, List.filter_append, List.filter_cons, if_pos z]
          rfl
        · refine fk_next ⟨?_, _, rfl⟩
          rw [take_one hqk, List.filter_append, List.filter_cons, z]
          simp
    · obtain ⟨rfl, x4, rfl⟩ := hI
      refine ⟨?_, _, _, rfl⟩
      rw [toKv_len, ← List.length_map (f := fun p : Nat × Int => p.1), List.take_length, ← enx, opTo_next hi0]
  · obtain ⟨rfl, x3, x4, rfl⟩ := hI
    refine ⟨_, rfl, ?_⟩
    rw [opTo_full]
    walk_at "pd"
    exact hP
def F_live {K : PySem.W.Frag} {mg : Str → Option Value} (T : Txt K mg) : FX := fun ds P _ => ∃ (n m : Nat) (G : GO), ds = [gd T.k_Grid.C (n : Int) (gridO G)] ∧ SqO n m G ∧ 1 ≤ n ∧ n ≤ 3 ∧ 1 ≤ m ∧ m ≤ 10 ∧ P (nnsD (liveL (csO G) m))
theorem len_live {K : PySem.W.Frag} {mg : Str → Option Value} (T : Txt K mg) : ∀ ds P X, (F_live T) ds P X → ds.length = 1 := by (intro ds P X h; first | exact h | (obtain ⟨_, rfl, _⟩ := h; rfl) | (obtain ⟨_, _, rfl, _⟩ := h; rfl) | (obtain ⟨_, _, _, rfl, _⟩ := h; rfl) | (obtain ⟨_, _, _, _, rfl, _⟩ := h; rfl) | (obtain ⟨_, _, _, _, _, rfl, _⟩ := h; rfl) | (obtain ⟨_, _, _, _, _, _, rfl, _⟩ := h; rfl) | (obtain ⟨_, _, _, _, _, _, _, rfl, _⟩ := h; rfl) | (obtain ⟨_, _, _, _, _, _, _, _, rfl, _⟩ := h; rfl) | (obtain ⟨_, _, _, _, _, _, _, _, _, rfl, _⟩ := h; rfl) | (obtain ⟨_, _, _, _, _, _, _, _, _, _, rfl, _⟩ := h; rfl) | (obtain ⟨_, _, _, _, _, _, _, _, _, _, _, rfl, _⟩ := h; rfl) | (obtain ⟨_, _, _, _, _, _, _, _, _, _, _, _, rfl, _⟩ := h; rfl) | (obtain ⟨_, _, _, _, _, _, _, _, _, _, _, _, _, rfl, _⟩ := h; rfl) | (obtain ⟨_, _, _, _, _, _, _, _, _, _, _, _, _, _, rfl, _⟩ := h; rfl) | (obtain ⟨_, _, _, _, _, _, _, _, _, _, _, _, _, _, _, rfl, _⟩ := h; rfl) | (obtain ⟨_, _, _, _, _, _, _, _, _, _, _, _, _, _, _, _, rfl, _⟩ := h; rfl) | (obtain ⟨_, _, _, _, _, _, _, _, _, _, _, _, _, _, _, _, _, rfl, _⟩ := h; rfl) | (obtain ⟨_, _, _, _, _, _, _, _, _, _, _, _, _, _, _, _, _, _, rfl, _⟩ := h; rfl) | (obtain ⟨_, _, _, _, _, _, _, _, _, _, _, _, _, _, _, _, _, _, _, rfl, _⟩ := h; rfl) | (obtain ⟨_, _, _, _, _, _, _, _, _, _, _, _, _, _, _, _, _, _, _, _, rfl, _⟩ := h; rfl) | (obtain ⟨_, _, _, _, _, _, _, _, _, _, _, _, _, _, _, _, _, _, _, _, _, rfl, _⟩ := h; rfl) | (obtain ⟨rfl, _⟩ := h; rfl))
theorem ok_live (T : Txt K mg) : FnOk Pg w K mg base (L2.CX Pg w) 4 T.D_live.f T.D_live.d ["grid"] ((spX K (F_live T))) := by
  have G_check_square := ok_check_square (Pg := Pg) (w := w) (base := base) T
  have G_free_columns := ok_free_columns (Pg := Pg) (w := w) (base := base) T
  have G_open_lots := ok_open_lots (Pg := Pg) (w := w) (base := base) T
  refine T.D_live.F.okX (k := 3) sc_live (spX_len (len_live T)) (fun cdv A outer s H vs Q E hr h => ?_)
  refine ⟨_, (pss_cons (ps_expr (pe_callS G_check_square (hr.mono (by decide)) (by rfl) T.D_check_square.g T.D_check_square.F.kp T.D_check_square.b (fun σ => passAt (takes_of rfl rfl rfl rfl) σ) (pa_cons (pv 0) pa_nil)))
    (pss_cons (ps_set (i := 1) sc_live.nd rfl (by first | exact Or.inl rfl | exact Or.inr rfl) (pe_call G_open_lots (hr.mono (by decide)) (by rfl) T.D_open_lots.g T.D_open_lots.F.kp T.D_open_lots.b .nil pass0 (pa_cons (pv 0) pa_nil)))
    (pss_cons (ps_set (i := 2) sc_live.nd rfl (by first | exact Or.inl rfl | exact Or.inr rfl) pe_dnewT)
    (pss_cons (ps_for (passes_of rfl) rfl (pi_enumAK (K := K) rfl (by rfl) T.n_enumerate (pa_cons (pe_fldK (K := K) rfl (pv 0) rfl) pa_nil)) (by exact (pg_tupK (K := K) (n := 2) rfl rfl (pgs_cons (pg_name (i := 3) sc_live.nd rfl (by first | exact Or.inl rfl | exact Or.inr rfl)) (pgs_cons (pg_name (i := 4) sc_live.nd rfl (by first | exact Or.inl rfl | exact Or.inr rfl)) pgs_nil))))
      (pss_one (ps_lock (ps_for (passes_of rfl) rfl (pi_keys (pe_ix (ix_seqK (K := K) rfl) (pv 1) (pv 3) (fun _ _ => rfl))) (pg_name (i := 5) sc_live.nd rfl (by first | exact Or.inl rfl | exact Or.inr rfl))
      (pss_one (ps_for (passes_of rfl) rfl (pi_seqK (K := K) rfl (pe_call G_free_columns (hr.mono (by decide)) (by rfl) T.D_free_columns.g T.D_free_columns.F.kp T.D_free_columns.b .nil pass0 (pa_cons (pv 4) (pa_cons (pv 5) pa_nil)))) (pg_name (i := 6) sc_live.nd rfl (by first | exact Or.inl rfl | exact Or.inr rfl))
      (pss_one (ps_if (pt_cmp (pc_din (hr_u1 hr) (pe_op op_orN (pv 5) (pe_op op_shl1 pe_int (pv 6))) (pe_ix (ix_seqK (K := K) rfl) (pv 1) (pe_op (op_plusK (K := K) rfl) (pv 3) pe_int) (fun _ _ => rfl))))
      (pss_one (ps_dput (hr_u1 hr) (pv 2) (pe_tup (pa_cons (pv 3) (pa_cons (pv 6) pa_nil))) pe_bl rfl))
      pss_nil))))))))
    (pss_one (ps_ret (pe_callB (cr_sortedTK (K := K) rfl rfl) (by rfl) T.n_sorted (by decide +kernel) (pa_cons (pv 2) pa_nil)))))))), ?_⟩
  try dsimp only [cxOf, Cx.blk, Cx.nox, Cx.wish]
  (refine body_ofX h fun W ds P X eK f => ?_); subst eK
  obtain ⟨n, m, G, rfl, sq, n1, n3, m1, m10, hP⟩ := f
  have gr := sq.grd n1 n3 m1 m10
  have lg : (gridO G).length = m := by unfold gridO; rw [List.length_map, sq.1]
  have lR : (rowsO G).length = m := by rw [rowsO_len, sq.1]
  walk_at "pd"
  refine ⟨_, m, _, rfl, gr, lg, ?_⟩
  walk_at "pd"
  refine ⟨n, m, G, rfl, sq, n1, n3, m1, m10, ?_⟩
  show SX W (fun cls d x H => E cls d H) _ [some (gd T.k_Grid.C (n : Int) (gridO G)), some (.lst (((List.range (m + 1)).map (opAt (rowsO G))).map fun l => dicD (kvB l))), none, none, none, none, none] _ _ _ _ _
  have hR10 : ∀ r ∈ rowsO G, r.length ≤ 10 := fun r hr => by have := (sq_rows sq r hr).1; omega
  have ng : (gd T.k_Grid.C (n : Int) (gridO G)).nodk = true := nodk_grid _ _ _
  refine sd_famT (i := 2) (js := [3, 4, 5, 6]) (by decide) (by show 2 < 7; decide) fun q => ?_
  refine fk_enumT (ea_cons ?_)
  (refine ev_fld ?_; refine ev_var rfl ?_; refine ⟨_, _, _, _, rfl, T.k_Grid.o.cl, T.na_Grid_rows, rfl, ?_⟩)
  walk_at "pd"
  refine ⟨_, rfl, fun i os δ => os = [truT (liveRows (rowsO G) i)] ∧ ∃ x3 x4 x5 x6, δ = [some (gd T.k_Grid.C (n : Int) (gridO G)), some (.lst (((List.range (m + 1)).map (opAt (rowsO G))).map fun l => dicD (kvB l))), some (.obj q), x3, x4, x5, x6], ⟨rfl, none, none, none, none, rfl⟩, fun i d os δ hd hI => ?_, fun os δ hI => ?_⟩
  · obtain ⟨rfl, x3, x4, x5, x6, rfl⟩ := hI
    obtain ⟨y, hy, rfl⟩ := enumD_get hd
    unfold gridO at hy
    rw [List.getElem?_map] at hy
    cases hri : G[i]? with
    | none => rw [hri] at hy; cases hy
    | some r =>
      rw [hri] at hy
      cases hy
      have il := (List.getElem?_eq_some_iff.mp hri).1
      have im : i < m := by rw [sq.1] at il; exact il
      have hOi : (rowsO G)[i]? = some (r.map celO) := by unfold rowsO; rw [List.getElem?_map, hri]; rfl
      have eDi : (rowsO G).getD i [] = r.map celO := by rw [List.getD_eq_getElem?_getD, hOi]; rfl
      have lr : (r.map celO).length = m := by rw [List.length_map]; exact (sq.2 _ (List.mem_of_getElem? hri)).1
      have ok0 := OkT.rows hR10 i (by omega)
      refine ⟨[3] ++ [4], by simp, gd_tup2 (gd_name (gd_name ?_))⟩
      show FK W _ [q] [3, 4, 5, 6] _ [some (gd T.k_Grid.C (n : Int) (gridO G)), some (.lst (((List.range (m + 1)).map (opAt (rowsO G))).map fun l => dicD (kvB l))), some (.obj q), some (.int (i : Int)), some (rowO r), x5, x6] _
      have hL : (lockD [some (gd T.k_Grid.C (n : Int) (gridO G)), some (.lst (((List.range (m + 1)).map (opAt (rowsO G))).map fun l => dicD (kvB l))), some (.obj q), some (.int (i : Int)), some (rowO r), x5, x6]).set 1 (some (.lst (((List.range (m + 1)).map (opAt (rowsO G))).map fun l => dikD (kvB l)))) = [some (gd T.k_Grid.C (n : Int) (gridO G)), some (.lst (((List.range (m + 1)).map (opAt (rowsO G))).map fun l => dikD (kvB l))), some (.obj q), some (.int (i : Int)), some (rowO r), x5.bind lockS, x6.bind lockS] := by
        show [lockS _, _, lockS _, lockS _, lockS _, _, _] = _
        rw [lockS_nodk ng, lockS_nodk (x := .obj q) rfl, lockS_nodk (x := .int (i : Int)) rfl, lockS_nodk (x := rowO r) (by show (D.tup _).nodk = true; simp only [D.nodk]; exact nodks_row r)]
      have hlen : (((List.range (m + 1)).map (opAt (rowsO G))).map fun l => dicD (kvB l)).length = m + 1 := by rw [List.length_map, List.length_map, List.length_range]
      have hFk : ∀ k, k ≤ m → (((List.range (m + 1)).map (opAt (rowsO G))).map fun l => dikD (kvB l))[k]? = some (dikD (kvB (opAt (rowsO G) k))) := fun k hk => by
        rw [List.getElem?_map, List.getElem?_map, List.getElem?_range (by omega)]
        rfl
      refine fk_keys (j := 1) (k := i) (μ := kvB (opAt (rowsO G) i)) (fun M σ H d kvs od p hd => lock_dicts (j := 1) (F := (List.range (m + 1)).map (opAt (rowsO G))) rfl p hd) rfl (by rw [List.getElem?_map, List.getElem?_map, List.getElem?_range (by omega)]; rfl) (by rw [hlen]; exact tdAt_var (i := 3) rfl (by omega)) ?_
      rw [hL]
      generalize hLs : (((List.range (m + 1)).map (opAt (rowsO G))).map fun l => dikD (kvB l)) = Ls at hFk
      refine ⟨fun a os δ => os = [truT (liveKey i (r.map celO) (opAt (rowsO G) (i + 1)) ((opAt (rowsO G) i).take a) (liveRows (rowsO G) i))] ∧ ∃ x5 x6, δ = [some (gd T.k_Grid.C (n : Int) (gridO G)), some (.lst Ls), some (.obj q), some (.int (i : Int)), some (rowO r), x5, x6], ⟨rfl, _, _, rfl⟩, fun a p os δ ha hI => ?_, fun os δ hI => ?_⟩
      · obtain ⟨rfl, x5, x6, rfl⟩ := hI
        unfold kvB at ha
        rw [List.getElem?_map] at ha
        cases hta : (opAt (rowsO G) i)[a]? with
        | none => rw [hta] at ha; cases ha
        | some t =>
          rw [hta] at ha
          cases ha
          have oka := OkT.key (i := i) (xs := r.map celO) (O := opAt (rowsO G) (i + 1)) (by omega) (by omega) ((opAt (rowsO G) i).take a) ok0
          refine ⟨[5], by simp, gd_name ?_⟩
          show FK W _ [q] [3, 4, 5, 6] _ [some (gd T.k_Grid.C (n : Int) (gridO G)), some (.lst Ls), some (.obj q), some (.int (i : Int)), some (rowO r), some (.int (t : Int)), x6] _
          refine fk_for ?_
          walk_at "pd"
          refine ⟨r.map celO, rowO r, t, .inl rfl, rfl, by omega, ?_⟩
          refine ⟨_, rfl, fun b os δ => os = [truT (liveIn i (opAt (rowsO G) (i + 1)) t ((freeN (r.map celO) t).take b) (liveKey i (r.map celO) (opAt (rowsO G) (i + 1)) ((opAt (rowsO G) i).take a) (liveRows (rowsO G) i)))] ∧ ∃ x6, δ = [some (gd T.k_Grid.C (n : Int) (gridO G)), some (.lst Ls), some (.obj q), some (.int (i : Int)), some (rowO r), some (.int (t : Int)), x6], ⟨rfl, _, rfl⟩, fun b d os δ hb hI => ?_, fun os δ hI => ?_⟩
          · obtain ⟨rfl, x6, rfl⟩ := hI
            rw [List.getElem?_map] at hb
            cases hfb : (freeN (r.map celO) t)[b]? with
            | none => rw [hfb] at hb; cases hb
            | some c =>
              rw [hfb] at hb
              cases hb
              have cl := free_lt (List.mem_of_getElem? hfb)
              have okb := OkT.inn (i := i) (t := t) (O := opAt (rowsO G) (i + 1)) (by omega) ((freeN (r.map celO) t).take b) (fun c hc => by have := free_lt (List.mem_of_mem_take hc); omega) oka
              refine ⟨[6], by simp, gd_name ?_⟩
              show FK W _ [q] [3, 4, 5, 6] _ [some (gd T.k_Grid.C (n : Int) (gridO G)), some (.lst Ls), some (.obj q), some (.int (i : Int)), some (rowO r), some (.int (t : Int)), some (.int (c : Int))] _
              refine fk_if ?_
              walk_at "pd"
              refine ev_dinB ?_
              walk_at "pd"
              refine rd_shl1 (by omega) ?_
              refine rd_orN ?_
              refine ⟨_, rfl, ?_⟩
              walk_at "pd"
              refine rd_ixL (j := i + 1) (by omega) (hFk (i + 1) (by omega)) ?_
              refine ⟨_, .inr rfl, ?_⟩
              refine ⟨_, rfl, fun z => ?_, fun z => ?_⟩
              · refine fk_putT (i := 0) (a := 3) (b := 6) (x := i) (y := c) rfl rfl rfl rfl rfl (by have := okb.len; omega) ?_
                refine ⟨?_, _, rfl⟩
                rw [liveIn_next hfb, if_pos (of_decide_eq_true z)]
                rfl
              · refine fk_next ⟨?_, _, rfl⟩
                rw [liveIn_next hfb, if_neg (of_decide_eq_false z)]
          · obtain ⟨rfl, x6, rfl⟩ := hI
            rw [List.length_map, List.take_length]
            exact ⟨by rw [liveKey_next hta], _, _, rfl⟩
      · obtain ⟨rfl, x5, x6, rfl⟩ := hI
        refine ⟨?_, none, none, none, none, rfl⟩
        unfold kvB
        rw [List.length_map, List.take_length, ← eDi]
        rfl
  · obtain ⟨rfl, x3, x4, x5, x6, rfl⟩ := hI
    rw [lg]
    refine ⟨_, rfl, fun l' hp hw => ?_⟩
    have okm := OkT.rows hR10 m m10
    have lv : ∀ x : Nat × Nat, x ∈ liveRows (rowsO G) m ↔ LiveC (csO G) x := fun x => by
      rw [liveRows_mem]
      constructor
      · rintro ⟨h1, h2⟩
        exact (live_iff (cs_of G) (by omega)).mp h2
      · intro z
        have h1 : x.1 < m := by
          obtain ⟨q, hq, hx⟩ := z
          have := pls_len _ q hq
          rw [cs_len, sq.1] at this
          have := (List.getElem?_eq_some_iff.mp hx).1
          omega
        exact ⟨h1, (live_iff (cs_of G) (by omega)).mpr z⟩
    have e : l' = liveL (csO G) m := by
      refine leP_uniq (hp.nodup_iff.mpr okm.1) (liveL_ok _ _).2 hw (liveL_ok _ _).1 fun x => ?_
      rw [hp.mem_iff, lv, liveL_mem fun p hp' => ?_]
      have z := (lv p).mpr hp'
      obtain ⟨z1, t, _, z2, _⟩ := liveRows_mem m |>.mp z
      have il : p.1 < (rowsO G).length := by omega
      have e1 : (rowsO G).getD p.1 [] = (rowsO G)[p.1] := by rw [List.getD_eq_getElem?_getD, List.getElem?_eq_getElem il]; rfl
      rw [e1] at z2
      have := free_lt z2
      rw [(sq_rows sq _ (List.getElem_mem il)).1] at this
      exact ⟨by rw [cs_len, sq.1]; exact z1, this⟩
    rw [e]
    exact hP
def F__law_unitless : FD := fun ds P => ∃ n : Nat, ds = [.int (n : Int)] ∧ 1 ≤ n ∧ n ≤ 3 ∧ P (uT (List.replicate n 0))
theorem len__law_unitless : ∀ ds P, F__law_unitless ds P → ds.length = 1 := by (intro ds P h; first | exact h | (obtain ⟨_, rfl, _⟩ := h; rfl) | (obtain ⟨_, _, rfl, _⟩ := h; rfl) | (obtain ⟨_, _, _, rfl, _⟩ := h; rfl) | (obtain ⟨_, _, _, _, rfl, _⟩ := h; rfl) | (obtain ⟨_, _, _, _, _, rfl, _⟩ := h; rfl) | (obtain ⟨_, _, _, _, _, _, rfl, _⟩ := h; rfl) | (obtain ⟨_, _, _, _, _, _, _, rfl, _⟩ := h; rfl) | (obtain ⟨_, _, _, _, _, _, _, _, rfl, _⟩ := h; rfl) | (obtain ⟨_, _, _, _, _, _, _, _, _, rfl, _⟩ := h; rfl) | (obtain ⟨_, _, _, _, _, _, _, _, _, _, rfl, _⟩ := h; rfl) | (obtain ⟨_, _, _, _, _, _, _, _, _, _, _, rfl, _⟩ := h; rfl) | (obtain ⟨_, _, _, _, _, _, _, _, _, _, _, _, rfl, _⟩ := h; rfl) | (obtain ⟨_, _, _, _, _, _, _, _, _, _, _, _, _, rfl, _⟩ := h; rfl) | (obtain ⟨_, _, _, _, _, _, _, _, _, _, _, _, _, rfl, _⟩ := h; rfl) | (obtain ⟨_, _, _, _, _, _, _, _, _, _, _, _, _, _, rfl, _⟩ := h; rfl) | (obtain ⟨_, _, _, _, _, _, _, _, _, _, _, _, _, _, _, rfl, _⟩ := h; rfl) | (obtain ⟨_, _, _, _, _, _, _, _, _, _, _, _, _, _, _, _, rfl, _⟩ := h; rfl) | (obtain ⟨_, _, _, _, _, _, _, _, _, _, _, _, _, _, _, _, _, rfl, _⟩ := h; rfl) | (obtain ⟨_, _, _, _, _, _, _, _, _, _, _, _, _, _, _, _, _, _, rfl, _⟩ := h; rfl) | (obtain ⟨_, _, _, _, _, _, _, _, _, _, _, _, _, _, _, _, _, _, _, rfl, _⟩ := h; rfl) | (obtain ⟨_, _, _, _, _, _, _, _, _, _, _, _, _, _, _, _, _, _, _, _, rfl, _⟩ := h; rfl) | (obtain ⟨_, _, _, _, _, _, _, _, _, _, _, _, _, _, _, _, _, _, _, _, _, rfl, _⟩ := h; rfl) | (obtain ⟨rfl, _⟩ := h; rfl))
theorem ok__law_unitless (T : Txt K mg) : FnOk Pg w K mg base CX0 1 T.D__law_unitless.f T.D__law_unitless.d ["bases"] ((spD K F__law_unitless)) := by
  refine T.D__law_unitless.F.ok (k := 0) sc__law_unitless (spD_len (len__law_unitless)) (fun cdv A outer s H vs Q E hr h => ?_)
  refine ⟨_, (pss_one (ps_ret (pe_op (op_repNK (K := K) rfl) (pe_tup (pa_cons (pe_tup (pa_cons pe_int (pa_cons pe_int pa_nil))) pa_nil)) (pv 0)))), ?_⟩
  try dsimp only [cxOf, Cx.blk, Cx.nox, Cx.wish]
  (refine body_of h fun W ds P eK f => ?_); subst eK
  obtain ⟨n, rfl, n1, n3, hP⟩ := f
  walk_at "pd"
  refine rd_repN (by decide) (by omega) (by omega) (by decide) ?_
  have e : D.tup (List.replicate ((n : Int)).toNat [D.tup [D.int 0, .int 1]]).flatten = uT (List.replicate n 0) := by
    rw [Int.toNat_natCast]
    unfold uT un
    congr 1
    rw [List.map_replicate, List.map_replicate]
    have e0 : fr (lowF 0 12) = D.tup [D.int 0, .int 1] := by
      rw [show lowF 0 12 = (0, 1) by decide]
    rw [e0]
    have go : ∀ k : Nat, (List.replicate k [D.tup [D.int 0, .int 1]]).flatten = List.replicate k (D.tup [D.int 0, .int 1]) := fun k => by
      induction k with
      | zero => rfl
      | succ k ih => rw [List.replicate_succ, List.flatten_cons, ih, List.replicate_succ]; rfl
    exact go n
  rw [e]
  exact hP
def F_least_placing {K : PySem.W.Frag} {mg : Str → Option Value} (T : Txt K mg) : FX := fun ds P _ => ∃ (n m : Nat) (G : GO), ds = [gd T.k_Grid.C (n : Int) (gridO G)] ∧ SqO n m G ∧ 1 ≤ n ∧ n ≤ 3 ∧ 1 ≤ m ∧ m ≤ 10 ∧ P (match (plsC (csO G) m).head? with
  | none => .non
  | some q => colsD q)
theorem len_least_placing {K : PySem.W.Frag} {mg : Str → Option Value} (T : Txt K mg) : ∀ ds P X, (F_least_placing T) ds P X → ds.length = 1 := by (intro ds P X h; first | exact h | (obtain ⟨_, rfl, _⟩ := h; rfl) | (obtain ⟨_, _, rfl, _⟩ := h; rfl) | (obtain ⟨_, _, _, rfl, _⟩ := h; rfl) | (obtain ⟨_, _, _, _, rfl, _⟩ := h; rfl) | (obtain ⟨_, _, _, _, _, rfl, _⟩ := h; rfl) | (obtain ⟨_, _, _, _, _, _, rfl, _⟩ := h; rfl) | (obtain ⟨_, _, _, _, _, _, _, rfl, _⟩ := h; rfl) | (obtain ⟨_, _, _, _, _, _, _, _, rfl, _⟩ := h; rfl) | (obtain ⟨_, _, _, _, _, _, _, _, _, rfl, _⟩ := h; rfl) | (obtain ⟨_, _, _, _, _, _, _, _, _, _, rfl, _⟩ := h; rfl) | (obtain ⟨_, _, _, _, _, _, _, _, _, _, _, rfl, _⟩ := h; rfl) | (obtain ⟨_, _, _, _, _, _, _, _, _, _, _, _, rfl, _⟩ := h; rfl) | (obtain ⟨_, _, _, _, _, _, _, _, _, _, _, _, _, rfl, _⟩ := h; rfl) | (obtain ⟨_, _, _, _, _, _, _, _, _, _, _, _, _, _, rfl, _⟩ := h; rfl) | (obtain ⟨_, _, _, _, _, _, _, _, _, _, _, _, _, _, _, rfl, _⟩ := h; rfl) | (obtain ⟨_, _, _, _, _, _, _, _, _, _, _, _, _, _, _, _, rfl, _⟩ := h; rfl) | (obtain ⟨_, _, _, _, _, _, _, _, _, _, _, _, _, _, _, _, _, rfl, _⟩ := h; rfl) | (obtain ⟨_, _, _, _, _, _, _, _, _, _, _, _, _, _, _, _, _, _, rfl, _⟩ := h; rfl) | (obtain ⟨_, _, _, _, _, _, _, _, _, _, _, _, _, _, _, _, _, _, _, rfl, _⟩ := h; rfl) | (obtain ⟨_, _, _, _, _, _, _, _, _, _, _, _, _, _, _, _, _, _, _, _, rfl, _⟩ := h; rfl) | (obtain ⟨_, _, _, _, _, _, _, _, _, _, _, _, _, _, _, _, _, _, _, _, _, rfl, _⟩ := h; rfl) | (obtain ⟨rfl, _⟩ := h; rfl))
theorem ok_least_placing (T : Txt K mg) : FnOk Pg w K mg base (L2.CX Pg w) 4 T.D_least_placing.f T.D_least_placing.d ["grid"] ((spX K (F_least_placing T))) := by
  have G_check_square := ok_check_square (Pg := Pg) (w := w) (base := base) T
  have G_free_columns := ok_free_columns (Pg := Pg) (w := w) (base := base) T
  have G_open_lots := ok_open_lots (Pg := Pg) (w := w) (base := base) T
  refine T.D_least_placing.F.okX (k := 3) sc_least_placing (spX_len (len_least_placing T)) (fun cdv A outer s H vs Q E hr h => ?_)
  refine ⟨_, (pss_cons (ps_expr (pe_callS G_check_square (hr.mono (by decide)) (by rfl) T.D_check_square.g T.D_check_square.F.kp T.D_check_square.b (fun σ => passAt (takes_of rfl rfl rfl rfl) σ) (pa_cons (pv 0) pa_nil)))
    (pss_cons (ps_set (i := 1) sc_least_placing.nd rfl (by first | exact Or.inl rfl | exact Or.inr rfl) (pe_call G_open_lots (hr.mono (by decide)) (by rfl) T.D_open_lots.g T.D_open_lots.F.kp T.D_open_lots.b .nil pass0 (pa_cons (pv 0) pa_nil)))
    (pss_cons (ps_if (pt_cmp (pc_dnotin (hr_u1 hr) pe_int (pe_ix (ix_seqK (K := K) rfl) (pv 1) pe_int (fun _ _ => rfl))))
      (pss_one (ps_ret pe_non))
      pss_nil)
    (pss_cons (ps_set (i := 2) sc_least_placing.nd rfl (by first | exact Or.inl rfl | exact Or.inr rfl) pe_int)
    (pss_cons (ps_set (i := 3) sc_least_placing.nd rfl (by first | exact Or.inl rfl | exact Or.inr rfl) (pe_lst pa_nil))
    (pss_cons (ps_for (passes_of rfl) rfl (pi_enumAK (K := K) rfl (by rfl) T.n_enumerate (pa_cons (pe_fldK (K := K) rfl (pv 0) rfl) pa_nil)) (by exact (pg_tupK (K := K) (n := 2) rfl rfl (pgs_cons (pg_name (i := 4) sc_least_placing.nd rfl (by first | exact Or.inl rfl | exact Or.inr rfl)) (pgs_cons (pg_name (i := 5) sc_least_placing.nd rfl (by first | exact Or.inl rfl | exact Or.inr rfl)) pgs_nil))))
      (pss_cons (ps_setLc (i := 6) (own := [("column", 7)]) rfl sc_least_placing.nd rfl rfl (sw_true rfl rfl rfl (by decide +kernel)) (pi_seqK (K := K) rfl (pe_call G_free_columns (hr.mono (by decide)) (by rfl) T.D_free_columns.g T.D_free_columns.F.kp T.D_free_columns.b .nil pass0 (pa_cons (pv 5) (pa_cons (pv 2) pa_nil)))) (blkOk_by (N := ["grid", "lots", "taken", "columns", "i", "row", "fitting", "column"]) (sc := defScope s_least_placing) (by decide +kernel)) (fun _ _ _ _ _ => (pg_name (i := 7) sc_least_placing.nd rfl (by first | exact Or.inl rfl | exact Or.inr rfl))) (fun _ _ _ _ _ => (pts_one (pt_cmp (pc_din (hr_u1 hr) (pe_op op_orN (pv 2) (pe_op op_shl1 pe_int (pv 7))) (pe_ix (ix_seqK (K := K) rfl) (pv 1) (pe_op (op_plusK (K := K) rfl) (pv 4) pe_int) (fun _ _ => rfl)))))) (fun _ _ _ _ _ => (pv 7)))
    (pss_cons (ps_expr (pe_bm PySem.F.plainAttrs_list PySem.F.slot_list_append PySem.F.type_list_append mt_append (pv 3) (pa_cons (pe_ix (ix_seqK (K := K) rfl) (pv 6) pe_int (fun _ _ => rfl)) pa_nil)))
    (pss_one (ps_set (i := 2) sc_least_placing.nd rfl (by first | exact Or.inl rfl | exact Or.inr rfl) (pe_op op_orN (pv 2) (pe_op op_shl1 pe_int (pe_ix (ix_seqK (K := K) rfl) (pv 6) pe_int (fun _ _ => rfl)))))))))
    (pss_one (ps_ret (pe_callTy (call_tuple_ofK (K := K) rfl) (by rfl) T.n_tuple (by decide +kernel) (pa_cons (pv 3) pa_nil)))))))))), ?_⟩
  try dsimp only [cxOf, Cx.blk, Cx.nox, Cx.wish]
  refine body_ofXO h fun W ds P X eK f => ?_
  subst eK
  obtain ⟨n, m, G, rfl, sq, n1, n3, m1, m10, hP⟩ := f
  have gr := sq.grd n1 n3 m1 m10
  have lg : (gridO G).length = m := by unfold gridO; rw [List.length_map, sq.1]
  have lR : (rowsO G).length = m := by rw [rowsO_len, sq.1]
  have lC : (csO G).length = m := by rw [cs_len, sq.1]
  have ePl : plsC (csO G) m = allS (csO G) 0 := by have := pls_full (csO G); rwa [lC] at this
  have h0 : 0 ∈ opAt (rowsO G) 0 ↔ allS (csO G) 0 ≠ [] := by
    rw [opAt_mem (cs_of G) (Nat.zero_le _), List.drop_zero]
    exact and_iff_right ⟨[], List.mem_singleton.mpr rfl, rfl⟩
  refine so_seq (so_lift ?_)
  walk_at "pd"
  refine ⟨_, m, _, rfl, gr, lg, ?_⟩
  refine so_seq (so_asg ?_)
  walk_at "pd"
  refine ⟨n, m, G, rfl, sq, n1, n3, m1, m10, ?_⟩
  have hFk : ∀ k, k ≤ m → (((List.range (m + 1)).map (opAt (rowsO G))).map fun l => dicD (kvB l))[k]? = some (dicD (kvB (opAt (rowsO G) k))) := fun k hk => by
    rw [List.getElem?_map, List.getElem?_map, List.getElem?_range (by omega)]
    rfl
  generalize (((List.range (m + 1)).map (opAt (rowsO G))).map fun l => dicD (kvB l)) = Ls at hFk
  refine so_seq (so_if ?_)
  walk_at "pd"
  refine ev_dnotinB ?_
  walk_at "pd"
  refine ⟨0, rfl, ?_⟩
  walk_at "pd"
  refine rd_ixL (j := 0) rfl (hFk 0 (Nat.zero_le _)) ?_
  refine ⟨_, .inl rfl, ?_⟩
  refine ⟨_, rfl, fun z => ?_, fun z => ?_⟩
  · have : allS (csO G) 0 = [] := Classical.byContradiction fun w => by simp [h0.mpr w] at z
    rw [ePl, this] at hP
    refine so_lift ?_
    walk_at "pd"
    exact hP
  · refine so_next ?_
    have ne : allS (csO G) 0 ≠ [] := h0.mp (by simpa using z)
    obtain ⟨q0, hq0⟩ : ∃ q, (allS (csO G) 0).head? = some q := by
      cases e : allS (csO G) 0 with
      | nil => exact absurd e ne
      | cons a l => exact ⟨a, rfl⟩
    rw [ePl, hq0] at hP
    refine so_seq (so_asg ?_)
    walk_at "pd"
    refine so_seq (so_new ?_)
    walk_at "pd"
    refine fun p fresh => ?_
    refine so_seq (so_for (it_enumAT (ea_cons ?_)))
    (refine ev_fld ?_; refine ev_var rfl ?_; refine ⟨_, _, _, _, rfl, T.k_Grid.o.cl, T.na_Grid_rows, rfl, ?_⟩)
    walk_at "pd"
    refine ⟨_, rfl, fun i ω δ => q0.take i ∈ plsC (csO G) i ∧ (allS ((csO G).drop i) (lotC (q0.take i))).head? = some (q0.drop i) ∧ ∃ x4 x5 x6 x7, Has ω p ((q0.take i).map fun c => D.int ((c : Nat) : Int)) ∧ δ = [some (gd T.k_Grid.C (n : Int) (gridO G)), some (.lst Ls), some (.int ((lotC (q0.take i) : Nat) : Int)), some (.obj p), x4, x5, x6, x7], ⟨List.mem_singleton.mpr rfl, by simpa [lotC] using hq0, none, none, none, none, Has.new fresh, rfl⟩, fun i d ω δ hd hI => ?_, fun ω δ hI => ?_⟩
    · obtain ⟨hin, hhd, x4, x5, x6, x7, hp, rfl⟩ := hI
      obtain ⟨y, hy, rfl⟩ := enumD_get hd
      unfold gridO at hy
      rw [List.getElem?_map] at hy
      cases hri : G[i]? with
      | none => rw [hri] at hy; cases hy
      | some r =>
        rw [hri] at hy
        cases hy
        have il := (List.getElem?_eq_some_iff.mp hri).1
        have im : i < m := by rw [sq.1] at il; exact il
        have hOi : (rowsO G)[i]? = some (r.map celO) := by unfold rowsO; rw [List.getElem?_map, hri]; rfl
        have eDi : (rowsO G).getD i [] = r.map celO := by rw [List.getD_eq_getElem?_getD, hOi]; rfl
        have lr : (r.map celO).length = m := by rw [List.length_map]; exact (sq.2 _ (List.mem_of_getElem? hri)).1
        have ed : (csO G).drop i = (csO G).getD i [] :: (csO G).drop (i + 1) := by
          rw [List.getD_eq_getElem?_getD, List.getElem?_eq_getElem (by omega)]
          exact List.drop_eq_getElem_cons (by omega)
        have fe := fit_eq (cs_of G) (i := i) (by omega) hin
        rw [eDi] at fe
        rw [ed] at hhd
        obtain ⟨c, s, l, e1, e2, e3⟩ := hd_all hhd
        rw [e2] at fe
        obtain ⟨t1, t2⟩ := take_drop e1
        have cin : c ∈ freeN (r.map celO) (lotC (q0.take i)) := by
          have : c ∈ (c :: l) := List.mem_cons_self
          rw [← fe] at this
          exact (List.mem_filter.mp this).1
        have cl := free_lt cin
        have nin := pls_snoc hin (c := c) (by
          have := (cs_of G).2 i (lotC (q0.take i))
          rw [eDi] at this
          rw [← this]
          exact cin)
        have lqi := pls_len i _ hin
        have nlot := lot_snoc (q0.take i) c
        generalize lotC (q0.take i) = t at *
        refine ⟨_, gd_tup2 (gd_name (gd_name ?_))⟩
        show SO W _ _ ω [some (gd T.k_Grid.C (n : Int) (gridO G)), some (.lst Ls), some (.int ((t : Nat) : Int)), some (.obj p), some (.int (i : Int)), some (rowO r), x6, x7] _ _ _ _ _
        refine so_seq (so_asg ?_)
        refine ev_lc (it_seqL ?_)
        walk_at "pd"
        refine ⟨r.map celO, rowO r, t, .inl rfl, rfl, by omega, ?_⟩
        have lfr : (freeN (r.map celO) t).length ≤ 10 := by
          unfold freeN
          exact Nat.le_trans (List.length_filter_le _ _) (by rw [List.length_range]; omega)
        refine ⟨_, rfl, by rw [List.length_map]; omega, fun b acc => acc = (((freeN (r.map celO) t).take b).filter fun c => decide (t ||| 2 ^ c ∈ opAt (rowsO G) (i + 1))).map fun c => D.int ((c : Nat) : Int), rfl, fun b d acc hd ha => ?_, fun acc ha => ?_⟩
        · have ha : acc = _ := ha
          subst ha
          rw [List.getElem?_map] at hd
          cases hfb : (freeN (r.map celO) t)[b]? with
          | none => rw [hfb] at hd; cases hd
          | some k =>
            rw [hfb] at hd
            cases hd
            have kl := free_lt (List.mem_of_getElem? hfb)
            refine ⟨[7], by simp, gd_name ?_⟩
            show EvT W _ _ fun z => (z = true → EvD W _ _ fun y => _ ++ [y] = (((freeN (r.map celO) t).take (b + 1)).filter fun c => decide (t ||| 2 ^ c ∈ opAt (rowsO G) (i + 1))).map fun c => D.int ((c : Nat) : Int)) ∧ (z = false → _ = (((freeN (r.map celO) t).take (b + 1)).filter fun c => decide (t ||| 2 ^ c ∈ opAt (rowsO G) (i + 1))).map fun c => D.int ((c : Nat) : Int))
            walk_at "pd"
            refine ev_dinB ?_
            walk_at "pd"
            refine rd_shl1 (by omega) ?_
            refine rd_orN ?_
            refine ⟨_, rfl, ?_⟩
            walk_at "pd"
            refine rd_ixL (j := i + 1) (by omega) (hFk (i + 1) (by omega)) ?_
            refine ⟨_, .inl rfl, ?_⟩
            rw [filter_take hfb, List.map_append]
            refine ⟨_, rfl, fun z => ?_, fun z => ?_⟩
            · walk_at "pd"
              rw [z, if_pos rfl]
              rfl
            · rw [z, if_neg (by decide)]
              simp
        · rw [List.length_map] at ha
          have ha : acc = (((freeN (r.map celO) t).take (freeN (r.map celO) t).length).filter fun c => decide (t ||| 2 ^ c ∈ opAt (rowsO G) (i + 1))).map fun c => D.int ((c : Nat) : Int) := ha
          rw [List.take_length, fe] at ha
          subst ha
          refine so_seq (so_app (i := 3) rfl hp.1 (fun es m => by rw [hp.2 es m, List.length_map, lqi]; omega) ?_)
          walk_at "pd"
          refine ⟨_, rfl, ?_⟩
          refine so_asg ?_
          walk_at "pd"
          refine rd_shl1 (by omega) ?_
          refine rd_orN ?_
          refine ⟨by rw [t1]; exact nin, by rw [t1, t2, nlot]; exact e3, some (.int (i : Int)), some (rowO r), _, x7, ?_, by rw [t1, nlot]; rfl⟩
          have := hp.put (f := fun es => es ++ [D.int ((c : Nat) : Int)])
          rw [t1, List.map_append]
          exact this
    · obtain ⟨hin, hhd, x4, x5, x6, x7, hp, rfl⟩ := hI
      have lq : q0.length = m := pls_len m q0 (by rw [ePl]; exact List.mem_of_mem_head? hq0)
      rw [enumD_length, lg, List.take_of_length_le (by omega)] at hp
      refine so_retL (evl_put (a := p) 3 rfl hp.1 (evl_ev ?_))
      walk_at "pd"
      refine ⟨nref_tup fun x hx => ?_, hP⟩
      obtain ⟨c, _, rfl⟩ := List.mem_map.mp hx
      rfl
def F__law_great_right : FD := fun ds P => ds = [.st] ∧ P (.bl true)
theorem len__law_great_right : ∀ ds P, F__law_great_right ds P → ds.length = 1 := by (intro ds P h; first | exact h | (obtain ⟨_, rfl, _⟩ := h; rfl) | (obtain ⟨_, _, rfl, _⟩ := h; rfl) | (obtain ⟨_, _, _, rfl, _⟩ := h; rfl) | (obtain ⟨_, _, _, _, rfl, _⟩ := h; rfl) | (obtain ⟨_, _, _, _, _, rfl, _⟩ := h; rfl) | (obtain ⟨_, _, _, _, _, _, rfl, _⟩ := h; rfl) | (obtain ⟨_, _, _, _, _, _, _, rfl, _⟩ := h; rfl) | (obtain ⟨_, _, _, _, _, _, _, _, rfl, _⟩ := h; rfl) | (obtain ⟨_, _, _, _, _, _, _, _, _, rfl, _⟩ := h; rfl) | (obtain ⟨_, _, _, _, _, _, _, _, _, _, rfl, _⟩ := h; rfl) | (obtain ⟨_, _, _, _, _, _, _, _, _, _, _, rfl, _⟩ := h; rfl) | (obtain ⟨_, _, _, _, _, _, _, _, _, _, _, _, rfl, _⟩ := h; rfl) | (obtain ⟨_, _, _, _, _, _, _, _, _, _, _, _, _, rfl, _⟩ := h; rfl) | (obtain ⟨_, _, _, _, _, _, _, _, _, _, _, _, _, rfl, _⟩ := h; rfl) | (obtain ⟨_, _, _, _, _, _, _, _, _, _, _, _, _, _, rfl, _⟩ := h; rfl) | (obtain ⟨_, _, _, _, _, _, _, _, _, _, _, _, _, _, _, rfl, _⟩ := h; rfl) | (obtain ⟨_, _, _, _, _, _, _, _, _, _, _, _, _, _, _, _, rfl, _⟩ := h; rfl) | (obtain ⟨_, _, _, _, _, _, _, _, _, _, _, _, _, _, _, _, _, rfl, _⟩ := h; rfl) | (obtain ⟨_, _, _, _, _, _, _, _, _, _, _, _, _, _, _, _, _, _, rfl, _⟩ := h; rfl) | (obtain ⟨_, _, _, _, _, _, _, _, _, _, _, _, _, _, _, _, _, _, _, rfl, _⟩ := h; rfl) | (obtain ⟨_, _, _, _, _, _, _, _, _, _, _, _, _, _, _, _, _, _, _, _, rfl, _⟩ := h; rfl) | (obtain ⟨_, _, _, _, _, _, _, _, _, _, _, _, _, _, _, _, _, _, _, _, _, rfl, _⟩ := h; rfl) | (obtain ⟨rfl, _⟩ := h; rfl))
theorem ok__law_great_right (T : Txt K mg) : FnOk Pg w K mg base CX0 9 T.D__law_great_right.f T.D__law_great_right.d ["hand"] ((spD K F__law_great_right)) := by
  have G_Grid___init__ := ok_Grid___init__ (Pg := Pg) (w := w) (base := base) T
  have G__law_draw := ok__law_draw (Pg := Pg) (w := w) (base := base) T
  have G__law_unitless := ok__law_unitless (Pg := Pg) (w := w) (base := base) T
  have G_least_placing := ok_least_placing (Pg := Pg) (w := w) (base := base) T
  have G_live := ok_live (Pg := Pg) (w := w) (base := base) T
  have G_many_placings := ok_many_placings (Pg := Pg) (w := w) (base := base) T
  refine T.D__law_great_right.F.ok (k := 8) sc__law_great_right (spD_len (len__law_great_right)) (fun cdv A outer s H vs Q E hr h => ?_)
  refine ⟨_, (pss_cons (ps_set (i := 1) sc__law_great_right.nd rfl (by first | exact Or.inl rfl | exact Or.inr rfl) (pe_op (op_plusK (K := K) rfl) pe_int (pe_call G__law_draw (hr.mono (by decide)) (by rfl) T.D__law_draw.g T.D__law_draw.F.kp T.D__law_draw.b .nil pass0 (pa_cons (pv 0) (pa_cons pe_int pa_nil)))))
    (pss_cons (ps_set (i := 2) sc__law_great_right.nd rfl (by first | exact Or.inl rfl | exact Or.inr rfl) (pe_call G__law_draw (hr.mono (by decide)) (by rfl) T.D__law_draw.g T.D__law_draw.F.kp T.D__law_draw.b .nil pass0 (pa_cons (pv 0) (pa_cons pe_int pa_nil))))
    (pss_cons (ps_set (i := 3) sc__law_great_right.nd rfl (by first | exact Or.inl rfl | exact Or.inr rfl) (pe_call G__law_unitless (hr.mono (by decide)) (by rfl) T.D__law_unitless.g T.D__law_unitless.F.kp T.D__law_unitless.b .nil pass0 (pa_cons pe_int pa_nil)))
    (pss_cons (ps_set (i := 4) sc__law_great_right.nd rfl (by first | exact Or.inl rfl | exact Or.inr rfl) (pe_lst pa_nil))
    (pss_cons (ps_for PassesOwn.never rfl (pi_range1 (by rfl) T.n_range (pa_cons (pv 1) pa_nil)) (pg_name (i := 5) sc__law_great_right.nd rfl (by first | exact Or.inl rfl | exact Or.inr rfl))
      (pss_cons (ps_set (i := 10) sc__law_great_right.nd rfl (by first | exact Or.inl rfl | exact Or.inr rfl) (pe_op op_mod (pe_callTy call_int1 (by rfl) T.n_int (by decide +kernel) (pa_cons (pe_op (op_plusK (K := K) rfl) (pv 5) pe_int) pa_nil)) (pv 1)))
    (pss_cons (ps_set (i := 11) sc__law_great_right.nd rfl (by first | exact Or.inl rfl | exact Or.inr rfl) (pe_ix (ix_seqK (K := K) rfl) (pe_lst (pa_cons (pe_listRg rfl (by rfl) T.n_list (prg_1 (by rfl) T.n_range (pv 1))) (pa_cons (pe_listRg rfl (by rfl) T.n_list (prg_1 (by rfl) T.n_range (pe_op (op_plusK (K := K) rfl) (pv 5) pe_int))) (pa_cons (pe_lst (pa_cons (pv 5) (pa_cons (pv 10) pa_nil))) pa_nil)))) (pv 2) (fun _ _ => rfl)))
    (pss_one (ps_expr (pe_bm PySem.F.plainAttrs_list PySem.F.slot_list_append PySem.F.type_list_append mt_append (pv 4) (pa_cons (pe_callTy (call_tuple_ofK (K := K) rfl) (by rfl) T.n_tuple (by decide +kernel) (pa_cons (pe_lc (own := [("j", 12)]) rfl sc__law_great_right.nd (pi_range1 (by rfl) T.n_range (pa_cons (pv 1) pa_nil)) (blkOk_by (N := ["hand", "many", "kind", "unit", "rows", "i", "due", "number", "grid", "lives", "beside", "some", "j"]) (sc := defScope s__law_great_right) (by decide +kernel)) (fun _ _ _ _ _ => (pg_name (i := 12) sc__law_great_right.nd rfl (by first | exact Or.inl rfl | exact Or.inr rfl))) (fun _ _ _ _ _ => pts_nil) (fun _ _ _ _ _ => (pe_ifExp (pt_cmpR (op_inLK (K := K) rfl (hr_65 hr)) (pv 12) (pv 11) (by rfl)) (pv 3) pe_non))) pa_nil)) pa_nil)))))))
    (pss_cons (ps_set (i := 6) sc__law_great_right.nd rfl (by first | exact Or.inl rfl | exact Or.inr rfl) pe_int)
    (pss_cons (ps_for PassesOwn.never rfl (pi_range2 (by rfl) T.n_range (pa_cons pe_int (pa_cons (pe_op (op_plusK (K := K) rfl) (pv 1) pe_int) pa_nil))) (pg_name (i := 7) sc__law_great_right.nd rfl (by first | exact Or.inl rfl | exact Or.inr rfl))
      (pss_one (ps_set (i := 6) sc__law_great_right.nd rfl (by first | exact Or.inl rfl | exact Or.inr rfl) (pe_op op_mulW (pv 6) (pv 7)))))
    (pss_cons (ps_set (i := 6) sc__law_great_right.nd rfl (by first | exact Or.inl rfl | exact Or.inr rfl) (pe_ix (ix_seqK (K := K) rfl) (pe_lst (pa_cons (pv 6) (pa_cons pe_int (pa_cons pe_int pa_nil)))) (pv 2) (fun _ _ => rfl)))
    (pss_cons (ps_set (i := 8) sc__law_great_right.nd rfl (by first | exact Or.inl rfl | exact Or.inr rfl) (pe_make T.k_Grid.m G_Grid___init__ (hr.mono (by decide)) (by rfl) T.k_Grid.g T.D_Grid___init__.b .nil passF (pa_cons pe_int (pa_cons (pe_callTy (call_tuple_ofK (K := K) rfl) (by rfl) T.n_tuple (by decide +kernel) (pa_cons (pv 4) pa_nil)) pa_nil))))
    (pss_cons (ps_if (PW.pt (pw_or (pt_cmpR (op_neDK (K := K) rfl (hr_u hr)) (pe_call G_many_placings (hr.mono (by decide)) (by rfl) T.D_many_placings.g T.D_many_placings.F.kp T.D_many_placings.b .nil passF (pa_cons (pv 8) pa_nil)) (pv 6) (nomark _)) (pw_or1 (pt_cmpR (op_neDK (K := K) rfl (hr_u hr)) (pe_call G_least_placing (hr.mono (by decide)) (by rfl) T.D_least_placing.g T.D_least_placing.F.kp T.D_least_placing.b .nil passF (pa_cons (pv 8) pa_nil)) (pe_tupRg rfl (by rfl) T.n_tuple (prg_1 (by rfl) T.n_range (pv 1))) (nomark _)))))
      (pss_one (ps_ret pe_bl))
      pss_nil)
    (pss_cons (ps_setLc (i := 9) (own := [("i", 5)]) rfl sc__law_great_right.nd rfl rfl (sw_true rfl rfl rfl (by decide +kernel)) (pi_range1 (by rfl) T.n_range (pa_cons (pv 1) pa_nil)) (blkOk_by (N := ["hand", "many", "kind", "unit", "rows", "i", "due", "number", "grid", "lives", "beside", "some", "j"]) (sc := defScope s__law_great_right) (by decide +kernel)) (fun _ _ _ _ _ => (pg_name (i := 5) sc__law_great_right.nd rfl (by first | exact Or.inl rfl | exact Or.inr rfl))) (fun _ _ _ _ _ => pts_nil) (fun _ _ _ _ _ => (pe_lc (own := [("j", 12)]) rfl sc__law_great_right.nd (pi_range1 (by rfl) T.n_range (pa_cons (pv 1) pa_nil)) (by exact blkOk_by (N := ["hand", "many", "kind", "unit", "rows", "i", "due", "number", "grid", "lives", "beside", "some", "j"]) (by kernel_rfl)) (fun _ _ _ _ _ => (pg_name (i := 12) sc__law_great_right.nd rfl (by first | exact Or.inl rfl | exact Or.inr rfl))) (fun _ _ _ _ _ => pts_nil) (fun _ _ _ _ _ => (pe_tup (pa_cons (pv 5) (pa_cons (pv 12) pa_nil)))))))
    (pss_cons (ps_if (pt_cmpR op_gt (pv 2) pe_int (nomark _))
      (pss_one (ps_setLc (i := 9) (own := [("i", 5)]) rfl sc__law_great_right.nd rfl rfl (sw_true rfl rfl rfl (by decide +kernel)) (pi_range1 (by rfl) T.n_range (pa_cons (pv 1) pa_nil)) (blkOk_by (N := ["hand", "many", "kind", "unit", "rows", "i", "due", "number", "grid", "lives", "beside", "some", "j"]) (sc := defScope s__law_great_right) (by decide +kernel)) (fun _ _ _ _ _ => (pg_name (i := 5) sc__law_great_right.nd rfl (by first | exact Or.inl rfl | exact Or.inr rfl))) (fun _ _ _ _ _ => pts_nil) (fun _ _ _ _ _ => (pe_op (op_plusK (K := K) rfl) (pe_lst (pa_cons (pe_tup (pa_cons (pv 5) (pa_cons (pv 5) pa_nil))) pa_nil)) (pe_op op_rep (pe_lst (pa_cons (pe_tup (pa_cons (pv 5) (pa_cons (pe_op op_mod (pe_callTy call_int1 (by rfl) T.n_int (by decide +kernel) (pa_cons (pe_op (op_plusK (K := K) rfl) (pv 5) pe_int) pa_nil)) (pv 1)) pa_nil))) pa_nil)) (pe_callTy call_int1 (by rfl) T.n_int (by decide +kernel) (pa_cons (pe_cmpR (op_eqDK (K := K) rfl (hr_u hr)) (pv 2) pe_int (nomark _)) pa_nil)))))))
      pss_nil)
    (pss_one (ps_ret (pe_cmpR (op_eqDK (K := K) rfl (hr_u hr)) (pe_call G_live (hr.mono (by decide)) (by rfl) T.D_live.g T.D_live.F.kp T.D_live.b .nil passF (pa_cons (pv 8) pa_nil)) (pe_callB (cr_sortedPK (K := K) rfl) (by rfl) T.n_sorted (by decide +kernel) (pa_cons (pe_callB (cr_sumPK (K := K) rfl rfl (hr_u hr)) (by rfl) T.n_sum (by decide +kernel) (pa_cons (pv 9) (pa_cons (pe_lst pa_nil) pa_nil))) pa_nil)) (nomark _)))))))))))))))), ?_⟩
  try dsimp only [cxOf, Cx.blk, Cx.nox, Cx.wish]
  refine body_ofO h fun W ds P eK f => ?_
  subst eK
  obtain ⟨rfl, hP⟩ := f
  refine so_seq (so_asg ?_)
  walk_at "pd"
  refine draw_lit (by decide +kernel) fun a a0 a1 => ?_
  obtain ⟨n, en, n6, n10⟩ : ∃ n : Nat, 6 + a = (n : Int) ∧ 6 ≤ n ∧ n ≤ 10 := ⟨(6 + a).toNat, by omega, by omega, by omega⟩
  have hn : n ∈ [6, 7, 8, 9, 10] := by simp; omega
  walk_at "pd"
  rw [en]
  refine so_seq (so_asg ?_)
  walk_at "pd"
  refine draw_lit (by decide +kernel) fun b b0 b1 => ?_
  obtain ⟨k, ek, k3⟩ : ∃ k : Nat, b = (k : Int) ∧ k < 3 := ⟨b.toNat, by omega, by omega⟩
  subst ek
  refine so_seq (so_asg ?_)
  walk_at "pd"
  refine ⟨1, rfl, by decide, by decide, ?_⟩
  refine so_seq (so_new ?_)
  walk_at "pd"
  refine fun p fresh => ?_
  refine so_seq (so_for (it_rng1 ?_))
  walk_at "pd"
  refine ⟨_, rfl, by omega, by omega, fun i ω δ => ∃ (x5 x10 x11 x12 : Option D), Has ω p (((grG k n).take i).map rowO) ∧ δ = [some .st, some (.int (n : Int)), some (.int (k : Int)), some (uT (List.replicate 1 0)), some (.obj p), x5, none, none, none, none, x10, x11, x12], ⟨none, none, none, none, by rw [List.take_zero]; exact Has.new fresh, rfl⟩, fun i d ω δ hd hI => ?_, fun ω δ hI => ?_⟩
  · obtain ⟨x5, x10, x11, x12, hp, rfl⟩ := hI
    obtain ⟨hi, rfl⟩ := rngD_get hd
    rw [Int.toNat_natCast] at hi
    refine ⟨_, gd_name ?_⟩
    rw [Int.zero_add]
    show SO W _ _ ω [some .st, some (.int (n : Int)), some (.int (k : Int)), some (uT (List.replicate 1 0)), some (.obj p), some (.int (i : Int)), none, none, none, none, x10, x11, x12] _ _ _ _ _
    refine so_seq (so_asg ?_)
    walk_at "pd"
    · omega
    have eb : ((i : Int) + 1) % (n : Int) = (((i + 1) % n : Nat) : Int) := by simp
    rw [eb]
    refine so_seq (so_asg ?_)
    walk_at "pd"
    refine ev_ofF (ev_lstRg ?_)
    walk_at "pd"
    refine ⟨n, rfl, by omega, ?_⟩
    walk_at "pd"
    refine ev_ofF (ev_lstRg ?_)
    walk_at "pd"
    refine ⟨i + 1, by simp, by omega, ?_⟩
    walk_at "pd"
    refine rd_ixL (j := k) (d := .lst ((someC k n i).map fun c => D.int ((c : Nat) : Int))) rfl (by match k, k3 with | 0, _ => rfl | 1, _ => rfl | 2, _ => rfl) ?_
    refine so_app (i := 4) rfl hp.1 (fun es m => by rw [hp.2 es m, List.length_map, List.length_take]; omega) ?_
    walk_at "pd"
    refine ev_lc (it_rng1 ?_)
    walk_at "pd"
    refine ⟨_, rfl, by omega, by omega, by rw [rngD_length]; omega, fun b acc => acc = (List.range b).map fun j => celO (if j ∈ someC k n i then some [0] else none), rfl, fun b d acc hd ha => ?_, fun acc ha => ?_⟩
    · have ha : acc = _ := ha
      subst ha
      obtain ⟨hb, rfl⟩ := rngD_get hd
      rw [Int.toNat_natCast] at hb
      rw [Int.zero_add]
      refine ⟨[12], by simp, gd_name (et_yes ⟨fun _ => ?_, fun z => by cases z⟩)⟩
      show EvD W _ _ fun y => _ ++ [y] = (List.range (b + 1)).map _
      rw [List.range_succ, List.map_append]
      walk_at "pd"
      refine rd_inL (fineI _) (nats_fine _) ?_
      rw [any_nat]
      refine ⟨_, rfl, fun z => ?_, fun z => ?_⟩
      · walk_at "pd"
        rw [List.map_cons, List.map_nil, if_pos (of_decide_eq_true z)]
        rfl
      · walk_at "pd"
        rw [List.map_cons, List.map_nil, if_neg (of_decide_eq_false z)]
        rfl
    · rw [rngD_length, Int.toNat_natCast] at ha
      have ha : acc = _ := ha
      subst ha
      walk_at "pd"
      refine ⟨_, rfl, _, _, _, _, ?_, rfl⟩
      have := hp.put (f := fun es => es ++ [rowO ((List.range n).map fun j => if j ∈ someC k n i then some [0] else none)])
      rw [take_one (grG_row hi), List.map_append]
      unfold rowO at this
      rw [List.map_map] at this
      unfold rowO
      rw [List.map_cons, List.map_nil, List.map_map]
      exact this
  · obtain ⟨x5, x10, x11, x12, hp, rfl⟩ := hI
    rw [rngD_length, Int.toNat_natCast, List.take_of_length_le (by rw [grG_len]; exact Nat.le_refl _)] at hp
    refine so_seq (so_asg ?_)
    walk_at "pd"
    refine so_seq (so_for (it_rng2 ?_))
    walk_at "pd"
    refine ⟨1, (n : Int) + 1, rfl, by omega, fun b ω δ => ∃ x7, Has ω p ((grG k n).map rowO) ∧ δ = [some .st, some (.int (n : Int)), some (.int (k : Int)), some (uT (List.replicate 1 0)), some (.obj p), x5, some (.int ((facN b : Nat) : Int)), x7, none, none, x10, x11, x12], ⟨none, hp, rfl⟩, fun b d ω δ hd hI => ?_, fun ω δ hI => ?_⟩
    · obtain ⟨x7, hp, rfl⟩ := hI
      obtain ⟨hb, rfl⟩ := rngD_get hd
      have hb : b < n := by omega
      have fs := fac_small b (List.mem_range.mpr (by omega))
      refine ⟨_, gd_name ?_⟩
      refine so_asg ?_
      walk_at "pd"
      · exact mul_small (by omega) (by omega) (by omega) (by omega)
      refine ⟨some (.int (1 + (b : Int))), hp, ?_⟩
      rw [fac_next]
      have e : ((facN b : Nat) : Int) * (1 + (b : Int)) = ((facN b * (b + 1) : Nat) : Int) := by rw [Int.natCast_mul, Int.natCast_add, Int.add_comm]; rfl
      rw [e]
      rfl
    · obtain ⟨x7, hp, rfl⟩ := hI
      rw [rngD_length, show ((n : Int) + 1 - 1).toNat = n by omega]
      refine so_seq (so_asg ?_)
      walk_at "pd"
      refine rd_ixL (j := k) (d := .int ((dueK k n : Nat) : Int)) rfl (by match k, k3 with | 0, _ => rfl | 1, _ => rfl | 2, _ => rfl) ?_
      refine so_seq (so_asgLn (evl_put (a := p) 4 rfl hp.1 (evl_ev ?_)))
      have eg : (grG k n).map rowO = gridO (grG k n) := rfl
      rw [eg]
      have sq := grG_sq k n
      have gr := sq.grd (by omega) (by omega) (show 1 ≤ n by omega) (by omega)
      walk_at "pd"
      refine ⟨_, _, rfl, rfl, by simp only [Jd], gr.jd, fun _ => ?_, fun z => absurd gr.wrong z⟩
      walk_at "pd"
      refine ⟨nolst_gridO _ _ _, ?_⟩
      refine so_lift ?_
      show SX W WF _ [some .st, some (.int (n : Int)), some (.int (k : Int)), some (uT (List.replicate 1 0)), some (.obj p), x5, some (.int ((dueK k n : Nat) : Int)), x7, some (gd T.k_Grid.C ((1 : Nat) : Int) (gridO (grG k n))), none, x10, x11, x12] _ _ _ _ _
      refine sd_seq (sd_if ?_)
      walk_at "pd"
      refine ev_callX ?_
      walk_at "pd"
      refine ⟨1, n, grG k n, rfl, sq, by omega, by omega, by omega, by omega, ?_⟩
      rw [csG_of, great_count k3 hn]
      walk_at "pd"
      refine ⟨fun _ => ?_, fun z => absurd z (by simp)⟩
      refine et_test ?_
      refine ev_op ?_
      refine ev_callX ?_
      walk_at "pd"
      refine ⟨1, n, grG k n, rfl, sq, by omega, by omega, by omega, by omega, ?_⟩
      rw [csG_of, great_head k3 hn]
      refine ev_tupRg ?_
      walk_at "pd"
      refine ⟨n, rfl, by omega, ?_⟩
      refine rd_neD (cols_fine _) (cols_fine _) ?_
      rw [D.eqv_self (cols_fine _)]
      refine ⟨_, rfl, fun z => (by cases z), fun _ => ?_⟩
      refine sd_next ?_
      refine sd_seq (sd_asg ?_)
      refine ev_lc (it_rng1 ?_)
      walk_at "pd"
      refine ⟨_, rfl, by omega, by omega, by rw [rngD_length]; omega, fun b acc => acc = (List.range b).map fun i => D.lst (((List.range n).map fun j => (i, j)).map nnD), rfl, fun b d acc hd ha => ?_, fun acc ha => ?_⟩
      · have ha : acc = _ := ha
        subst ha
        obtain ⟨hb, rfl⟩ := rngD_get hd
        rw [Int.zero_add]
        refine ⟨[5], by simp, gd_name (et_yes ⟨fun _ => ?_, fun z => by cases z⟩)⟩
        show EvD W _ _ fun y => _ ++ [y] = (List.range (b + 1)).map _
        rw [List.range_succ, List.map_append]
        refine ev_lc (it_rng1 ?_)
        walk_at "pd"
        refine ⟨_, rfl, by omega, by omega, by rw [rngD_length]; omega, fun c acc => acc = ((List.range c).map fun j => (b, j)).map nnD, rfl, fun c d acc hd ha => ?_, fun acc ha => ?_⟩
        · have ha : acc = _ := ha
          subst ha
          obtain ⟨hc, rfl⟩ := rngD_get hd
          rw [Int.zero_add]
          refine ⟨[12], by simp, gd_name (et_yes ⟨fun _ => ?_, fun z => by cases z⟩)⟩
          show EvD W _ _ fun y => _ ++ [y] = ((List.range (c + 1)).map fun j => (b, j)).map nnD
          rw [List.range_succ, List.map_append, List.map_append]
          walk_at "pd"
          rfl
        · rw [rngD_length, Int.toNat_natCast] at ha
          have ha : acc = _ := ha
          subst ha
          rfl
      · rw [rngD_length, Int.toNat_natCast] at ha
        have ha : acc = _ := ha
        subst ha
        have el : ((List.range n).map fun i => D.lst (((List.range n).map fun j => (i, j)).map nnD)) = (livesLL 0 n).map fun l => .lst (l.map nnD) := by
          show _ = ((List.range n).map _).map _
          rw [List.map_map]
          rfl
        rw [el]
        refine sd_cut (fun δ' => δ' = [some .st, some (.int (n : Int)), some (.int (k : Int)), some (uT (List.replicate 1 0)), some (.obj p), x5, some (.int ((dueK k n : Nat) : Int)), x7, some (gd T.k_Grid.C ((1 : Nat) : Int) (gridO (grG k n))), some (.lst ((livesLL k n).map fun l => .lst (l.map nnD))), x10, x11, x12]) (sd_if ?_) fun δ' hδ => ?_
        · walk_at "pd"
          refine ⟨fun z => ?_, fun z => ?_⟩
          · have z := of_decide_eq_true z
            refine sd_asg ?_
            refine ev_lc (it_rng1 ?_)
            walk_at "pd"
            refine ⟨_, rfl, by omega, by omega, by rw [rngD_length]; omega, fun b acc => acc = ((livesLL k n).take b).map fun l => .lst (l.map nnD), rfl, fun b d acc hd ha => ?_, fun acc ha => ?_⟩
            · have ha : acc = _ := ha
              subst ha
              obtain ⟨hb, rfl⟩ := rngD_get hd
              rw [Int.zero_add]
              refine ⟨[5], by simp, gd_name (et_yes ⟨fun _ => ?_, fun z => by cases z⟩)⟩
              walk_at "pd"
              · omega
              refine rc_intBl ?_
              have e2 : (if decide ((k : Int) = 2) = true then (1 : Int) else 0) = ((if k = 2 then 1 else 0 : Nat) : Int) := by
                by_cases z2 : k = 2
                · subst z2
                  rfl
                · rw [if_neg z2, if_neg (by simp; omega)]
                  rfl
              rw [e2]
              have r1 : (if k = 2 then 1 else 0 : Nat) ≤ 1 := by split <;> omega
              refine rd_repL (by omega) (by omega) (by rw [Int.toNat_natCast]; simp; omega) ?_
              rw [Int.toNat_natCast]
              have fl : ∀ (m : Nat) (x : D), (List.replicate m [x]).flatten = List.replicate m x := fun m x => by
                induction m with
                | zero => rfl
                | succ m ih => rw [List.replicate_succ, List.flatten_cons, ih, List.replicate_succ]; rfl
              rw [fl]
              refine rd_plusL (by rw [List.length_replicate]; simp; omega) ?_
              show _ ++ [_] = ((livesLL k n).take (b + 1)).map _
              rw [take_one (livesLL_at (by omega) k3 (by omega)), List.map_append]
              congr 2
              show D.lst _ = D.lst (((b, b) :: List.replicate (if k = 2 then 1 else 0) (b, (b + 1) % n)).map nnD)
              rw [List.map_cons, List.map_replicate]
              have eb : ((b : Int) + 1) % (n : Int) = (((b + 1) % n : Nat) : Int) := by simp
              rw [eb]
              rfl
            · rw [rngD_length, Int.toNat_natCast] at ha
              have ha : acc = _ := ha
              rw [List.take_of_length_le (by rw [livesLL_len]; exact Nat.le_refl _)] at ha
              subst ha
              rfl
          · have z := of_decide_eq_false z
            have k0 : k = 0 := by omega
            subst k0
            exact sd_next rfl
        · subst hδ
          refine sd_ret ?_
          walk_at "pd"
          refine ev_callX ?_
          walk_at "pd"
          refine ⟨1, n, grG k n, rfl, sq, by omega, by omega, by omega, by omega, ?_⟩
          rw [csG_of]
          walk_at "pd"
          have e1 : ((livesLL k n).map fun l => D.lst (l.map nnD)) = ((livesLL k n).map fun l => l.map nnD).map D.lst := by rw [List.map_map]; rfl
          rw [e1]
          have e3 : ((livesLL k n).map fun l => l.map nnD).flatten = (livesLL k n).flatten.map nnD := by rw [List.map_flatten]
          have lfl : (livesLL k n).flatten.length ≤ 100 := by
            rw [livesLL_flat k3]
            exact lives_len n hn k (by simp; omega)
          refine rc_sumP (fun z => ?_) (by rw [e3, List.length_map]; omega) ?_
          · have := congrArg List.length z
            rw [List.length_map, livesLL_len] at this
            simp at this
            omega
          rw [e3]
          walk_at "pd"
          refine rc_sortPr fun l' hp' hw' => ?_
          rw [great_sorted k3 hn hp' hw']
          refine rd_eqD (nns_fine _) (nns_fine _) ?_
          rw [D.eqv_self (nns_fine _)]
          exact hP
set_option maxHeartbeats 0 in
theorem ok_law (T : Txt K mg) : FnOk Pg w K mg base CX0 10 T.D_law.f T.D_law.d ["script"] (spLaw K) := by
  have G__law_draw := ok__law_draw (Pg := Pg) (w := w) (base := base) T
  have G__law_drawn := ok__law_drawn (Pg := Pg) (w := w) (base := base) T
  have G__law_great_right := ok__law_great_right (Pg := Pg) (w := w) (base := base) T
  have G__law_hand := ok__law_hand (Pg := Pg) (w := w) (base := base) T
  have G__law_made := ok__law_made (Pg := Pg) (w := w) (base := base) T
  have G__law_placings := ok__law_placings (Pg := Pg) (w := w) (base := base) T
  have G_least_placing := ok_least_placing (Pg := Pg) (w := w) (base := base) T
  have G_live := ok_live (Pg := Pg) (w := w) (base := base) T
  have G_many_placings := ok_many_placings (Pg := Pg) (w := w) (base := base) T
  refine T.D_law.F.ok (k := 9) sc_law (fun vs H Q E h => by obtain ⟨_, _, rfl, _⟩ := h; rfl) (fun cdv A outer s H vs Q E hr h => ?_)
  refine ⟨_, (pss_cons (ps_set (i := 1) sc_law.nd rfl (by first | exact Or.inl rfl | exact Or.inr rfl) (pe_call G__law_hand (hr.mono (by decide)) (by rfl) T.D__law_hand.g T.D__law_hand.F.kp T.D__law_hand.b .nil pass0 (pa_cons (pv 0) pa_nil)))
    (pss_cons (ps_for PassesOwn.never rfl (pi_range1 (by rfl) T.n_range (pa_cons pe_int pa_nil)) (pg_name (i := 2) sc_law.nd rfl (by first | exact Or.inl rfl | exact Or.inr rfl))
      (pss_cons (ps_set (i := 3) sc_law.nd rfl (by first | exact Or.inl rfl | exact Or.inr rfl) (pe_call G__law_drawn (hr.mono (by decide)) (by rfl) T.D__law_drawn.g T.D__law_drawn.F.kp T.D__law_drawn.b .nil pass0 (pa_cons (pv 1) (pa_cons (pe_ifExp (pt_cmpR (op_eqDK (K := K) rfl (hr_u hr)) (pv 2) pe_int (nomark _)) pe_int pe_int) pa_nil))))
    (pss_cons (ps_set (i := 4) sc_law.nd rfl (by first | exact Or.inl rfl | exact Or.inr rfl) (pe_call G__law_made (hr.mono (by decide)) (by rfl) T.D__law_made.g T.D__law_made.F.kp T.D__law_made.b .nil pass0 (pa_cons (pv 3) pa_nil)))
    (pss_cons (ps_set (i := 5) sc_law.nd rfl (by first | exact Or.inl rfl | exact Or.inr rfl) (pe_call G__law_placings (hr.mono (by decide)) (by rfl) T.D__law_placings.g T.D__law_placings.F.kp T.D__law_placings.b .nil pass0 (pa_cons (pe_ix (ix_seqK (K := K) rfl) (pv 3) pe_int (fun _ _ => rfl)) pa_nil)))
    (pss_cons (ps_set (i := 6) sc_law.nd rfl (by first | exact Or.inl rfl | exact Or.inr rfl) (pe_call G_many_placings (hr.mono (by decide)) (by rfl) T.D_many_placings.g T.D_many_placings.F.kp T.D_many_placings.b .nil passF (pa_cons (pv 4) pa_nil)))
    (pss_cons (ps_if (PW.pt (pw_or (pt_cmpR (op_neDK (K := K) rfl (hr_u hr)) (pv 6) (pe_callB (call_lenK (K := K) rfl) (by rfl) T.n_len (by decide +kernel) (pa_cons (pv 5) pa_nil)) (nomark _)) (pw_or1 (pt_val (pe_callB (call_isiK' (K := K) rfl) (by rfl) T.n_isinstance (by decide +kernel) (pa_cons (pv 6) (pa_cons (pe_bltn (v := .ty "bool") (u := .type "bool") (by rfl) T.n_bool (by decide +kernel) rfl) pa_nil)))))))
      (pss_one (ps_ret pe_bl))
      pss_nil)
    (pss_cons (ps_if (pt_cmpR (op_neDK (K := K) rfl (hr_u hr)) (pe_call G_least_placing (hr.mono (by decide)) (by rfl) T.D_least_placing.g T.D_least_placing.F.kp T.D_least_placing.b .nil passF (pa_cons (pv 4) pa_nil)) (pe_ifExp (pt_cmpR op_gt (pe_callB (call_lenK (K := K) rfl) (by rfl) T.n_len (by decide +kernel) (pa_cons (pv 5) pa_nil)) pe_int (nomark _)) (pe_ix (ix_seqK (K := K) rfl) (pv 5) pe_int (fun _ _ => rfl)) pe_non) (nomark _))
      (pss_one (ps_ret pe_bl))
      pss_nil)
    (pss_cons (ps_set (i := 7) sc_law.nd rfl (by first | exact Or.inl rfl | exact Or.inr rfl) (pe_lst pa_nil))
    (pss_cons (ps_for PassesOwn.never rfl (pi_seqK (K := K) rfl (pv 5)) (pg_name (i := 8) sc_law.nd rfl (by first | exact Or.inl rfl | exact Or.inr rfl))
      (pss_one (ps_expr (pe_bm PySem.F.plainAttrs_list PySem.F.slot_list_extend PySem.F.type_list_extend mt_extend (pv 7) (pa_cons (pe_lc (own := [("i", 10), ("j", 11)]) rfl sc_law.nd (pi_enumAK (K := K) rfl (by rfl) T.n_enumerate (pa_cons (pv 8) pa_nil)) (blkOk_by (N := ["script", "hand", "turn", "parts", "grid", "due", "told", "alive", "placing", "cells", "i", "j"]) (sc := defScope s_law) (by decide +kernel)) (fun _ _ _ _ _ => (by exact (pg_tupK (K := K) (n := 2) rfl rfl (pgs_cons (pg_name (i := 10) sc_law.nd rfl (by first | exact Or.inl rfl | exact Or.inr rfl)) (pgs_cons (pg_name (i := 11) sc_law.nd rfl (by first | exact Or.inl rfl | exact Or.inr rfl)) pgs_nil))))) (fun _ _ _ _ _ => pts_nil) (fun _ _ _ _ _ => (pe_tup (pa_cons (pv 10) (pa_cons (pv 11) pa_nil))))) pa_nil)))))
    (pss_cons (ps_set (i := 9) sc_law.nd rfl (by first | exact Or.inl rfl | exact Or.inr rfl) (pe_call G_live (hr.mono (by decide)) (by rfl) T.D_live.g T.D_live.F.kp T.D_live.b .nil passF (pa_cons (pv 4) pa_nil)))
    (pss_cons (ps_if (PW.pt (pw_or (pt_not (pt_val (pe_callB (call_isiK' (K := K) rfl) (by rfl) T.n_isinstance (by decide +kernel) (pa_cons (pv 9) (pa_cons (pe_bltn (v := .ty "list") (u := .type "list") (by rfl) T.n_list (by decide +kernel) rfl) pa_nil))))) (pw_or1 (pt_cmpR (op_neDK (K := K) rfl (hr_u hr)) (pv 9) (pe_callB (cr_sortedT rfl) (by rfl) T.n_sorted (by decide +kernel) (pa_cons (pe_callTy (cr_setF rfl (hr_u hr)) (by rfl) T.n_set (by decide +kernel) (pa_cons (pv 7) pa_nil)) pa_nil)) (nomark _)))))
      (pss_one (ps_ret pe_bl))
      pss_nil)
    (pss_cons (ps_expr (pe_bm PySem.F.plainAttrs_list PySem.F.slot_list_append PySem.F.type_list_append mt_append (pv 9) (pa_cons pe_non pa_nil)))
    (pss_one (ps_if (pt_cmpR (op_neDK (K := K) rfl (hr_u hr)) (pe_call G_live (hr.mono (by decide)) (by rfl) T.D_live.g T.D_live.F.kp T.D_live.b .nil passF (pa_cons (pv 4) pa_nil)) (pe_slice (sl_listK (K := K) rfl) (pv 9) po_none (po_some (pe_un un_neg pe_int))) (nomark _))
      (pss_one (ps_ret pe_bl))
      pss_nil))))))))))))))
    (pss_one (ps_ret (pe_or (pe_cmpR op_gt (pe_call G__law_draw (hr.mono (by decide)) (by rfl) T.D__law_draw.g T.D__law_draw.F.kp T.D__law_draw.b .nil pass0 (pa_cons (pv 1) (pa_cons pe_int pa_nil))) pe_int (nomark _)) (pe_one (pe_call G__law_great_right (hr.mono (by decide)) (by rfl) T.D__law_great_right.g T.D__law_great_right.F.kp T.D__law_great_right.b .nil pass0 (pa_cons (pv 1) pa_nil)))))))), ?_⟩
  try dsimp only [cxOf, Cx.blk, Cx.nox, Cx.wish]
  refine law_bodyH h fun W eK => ?_
  subst eK
  refine so_seq (so_for (it_rng1 ?_))
  walk_at "pd"
  refine ⟨_, rfl, by decide, by decide, fun _ ω δ => ∃ (x2 x3 x4 x5 x6 x7 x8 x9 x10 x11 : Option D), δ = [none, some .st, x2, x3, x4, x5, x6, x7, x8, x9, x10, x11], ⟨none, none, none, none, none, none, none, none, none, none, rfl⟩, fun i d ω δ hd hI => ?_, fun ω δ hI => ?_⟩
  · obtain ⟨x2, x3, x4, x5, x6, x7, x8, x9, x10, x11, rfl⟩ := hI
    obtain ⟨hi, rfl⟩ := rngD_get hd
    refine ⟨_, gd_name ?_⟩
    show SO W WF _ ω [none, some .st, some (.int (0 + (i : Int))), x3, x4, x5, x6, x7, x8, x9, x10, x11] _ _ _ _ _
    refine so_cut (fun ω' δ' => ω' = ω ∧ ∃ (n m : Nat) (G : GO), 1 ≤ n ∧ n ≤ 2 ∧ 1 ≤ m ∧ m ≤ 5 ∧ SqO n m G ∧ δ' = [none, some .st, some (.int (0 + (i : Int))), some (.tup [.int (n : Int), .tup (gridO G)]), x4, x5, x6, x7, x8, x9, x10, x11]) (so_asg ?_) fun ω' δ' hδ => ?_
    · walk_at "pd"
      refine ⟨fun z => ?_, fun z => ?_⟩
      · walk_at "pd"
        exact ⟨5, rfl, by decide, by decide, fun n m G n1 n2 m1 m5 sq => ⟨rfl, n, m, G, n1, n2, m1, m5, sq, rfl⟩⟩
      · walk_at "pd"
        exact ⟨4, rfl, by decide, by decide, fun n m G n1 n2 m1 m4 sq => ⟨rfl, n, m, G, n1, n2, m1, by omega, sq, rfl⟩⟩
    obtain ⟨rfl, n, m, G, n1, n2, m1, m5, sq, rfl⟩ := hδ
    have lC : (csO G).length = m := by rw [cs_len, sq.1]
    refine so_seq (so_asg ?_)
    walk_at "pd"
    refine ⟨n, m, G, rfl, sq, n1, by omega, m1, by omega, ?_⟩
    refine so_seq (so_asg ?_)
    walk_at "pd"
    refine ⟨m, G, rfl, by rw [sq.1]; exact m5, fun r hr => (sq.2 r hr).1, m5, ?_⟩
    rw [pls_to, sq.1]
    refine so_seq (so_asg ?_)
    walk_at "pd"
    refine ev_callX ?_
    walk_at "pd"
    refine ⟨n, m, G, rfl, sq, n1, by omega, m1, by omega, ?_⟩
    show SO W WF _ _ [none, some .st, some (.int (0 + (i : Int))), some (.tup [.int (n : Int), .tup (gridO G)]), some (gd T.k_Grid.C (n : Int) (gridO G)), some (.lst ((plsC (csO G) m).map colsD)), some (.int ((plsC (csO G) m).length : Int)), x7, x8, x9, x10, x11] _ _ _ _ _
    refine so_seq (so_if ?_)
    walk_at "pd"
    rw [List.length_map]
    refine ⟨fun _ => ?_, fun z => absurd z (by simp)⟩
    walk_at "pd"
    refine so_next ?_
    refine so_cut (fun ω2 δ2 => ω2 = ω' ∧ δ2 = [none, some .st, some (.int (0 + (i : Int))), some (.tup [.int (n : Int), .tup (gridO G)]), some (gd T.k_Grid.C (n : Int) (gridO G)), some (.lst ((plsC (csO G) m).map colsD)), some (.int ((plsC (csO G) m).length : Int)), x7, x8, x9, x10, x11]) (so_if ?_) fun ω2 δ2 hδ => ?_
    · refine et_test ?_
      refine ev_op ?_
      refine ev_callX ?_
      walk_at "pd"
      refine ⟨n, m, G, rfl, sq, n1, by omega, m1, by omega, ?_⟩
      walk_at "pd"
      rw [List.length_map]
      generalize plsC (csO G) m = L
      cases L with
      | nil =>
        refine ⟨fun z => absurd (of_decide_eq_true z) (by simp), fun _ => ?_⟩
        walk_at "pd"
        refine rd_neD non_fine non_fine ?_
        have e : (D.non).eqv .non = true := D.eqv_self non_fine
        exact ⟨false, by show D.bl (!(D.non).eqv .non) = _; rw [e]; rfl, fun z => (by cases z), fun _ => so_next ⟨rfl, rfl⟩⟩
      | cons q l =>
        refine ⟨fun _ => ?_, fun z => absurd (of_decide_eq_false z) (by simp)⟩
        walk_at "pd"
        refine rd_neD (cols_fine _) (cols_fine _) ?_
        have e : (colsD q).eqv (colsD q) = true := D.eqv_self (cols_fine _)
        exact ⟨false, by show D.bl (!(colsD q).eqv (colsD q)) = _; rw [e]; rfl, fun z => (by cases z), fun _ => so_next ⟨rfl, rfl⟩⟩
    obtain ⟨rfl, rfl⟩ := hδ
    refine so_seq (so_new ?_)
    walk_at "pd"
    refine fun p fresh => ?_
    have lpls := pls_count sq m5
    have hpls : ∀ q ∈ plsC (csO G) m, q.length = m := fun q hq => pls_len m q hq
    refine so_seq (so_for (it_seqL ?_))
    walk_at "pd"
    refine ⟨_, rfl, fun k ω δ => ∃ x8 x10 x11, Has ω p ((((plsC (csO G) m).take k).map prsOf).flatten.map nnD) ∧ δ = [none, some .st, some (.int (0 + (i : Int))), some (.tup [.int (n : Int), .tup (gridO G)]), some (gd T.k_Grid.C (n : Int) (gridO G)), some (.lst ((plsC (csO G) m).map colsD)), some (.int ((plsC (csO G) m).length : Int)), some (.obj p), x8, x9, x10, x11], ⟨x8, x10, x11, by rw [List.take_zero]; exact Has.new fresh, rfl⟩, fun k d ω δ hd hI => ?_, fun ω δ hI => ?_⟩
    · obtain ⟨x8, x10, x11, hp, rfl⟩ := hI
      rw [List.getElem?_map] at hd
      cases hk : (plsC (csO G) m)[k]? with
      | none => rw [hk] at hd; cases hd
      | some q =>
        rw [hk] at hd
        cases hd
        have lq := hpls q (List.mem_of_getElem? hk)
        refine ⟨_, gd_name ?_⟩
        refine so_ext (i := 7) rfl hp.1 (ea_cons ?_)
        refine ev_lc (it_enumAT (ea_cons ?_))
        walk_at "pd"
        refine ⟨_, rfl, by rw [enumD_length, List.length_map]; omega, fun b acc => acc = ((List.range b).map fun i => (i, q.getD i 0)).map nnD, rfl, fun b d acc hd ha => ?_, fun acc ha => ?_⟩
        · have ha : acc = _ := ha
          subst ha
          obtain ⟨y, hy, rfl⟩ := enumD_get hd
          rw [List.getElem?_map] at hy
          cases hb : q[b]? with
          | none => rw [hb] at hy; cases hy
          | some c =>
            rw [hb] at hy
            cases hy
            refine ⟨[10] ++ [11], by simp, gd_tup2 (gd_name (gd_name (et_yes ⟨fun _ => ?_, fun z => by cases z⟩)))⟩
            show EvD W _ _ fun y => _ ++ [y] = ((List.range (b + 1)).map fun i => (i, q.getD i 0)).map nnD
            rw [List.range_succ, List.map_append, List.map_append]
            walk_at "pd"
            rw [List.map_cons, List.map_nil, List.map_cons, List.map_nil, List.getD_eq_getElem?_getD, hb]
            rfl
        · rw [enumD_length, List.length_map] at ha
          have ha : acc = (prsOf q).map nnD := ha
          subst ha
          walk_at "pd"
          refine ⟨_, rfl, fun es m => ?_, _, _, _, ?_, rfl⟩
          · rw [hp.2 es m, List.length_map, List.length_map, prsOf_len]
            have h5 := flat_len (c := 5) (L := ((plsC (csO G) _).take k).map prsOf) fun l hl => by
              obtain ⟨x, hx, rfl⟩ := List.mem_map.mp hl
              rw [prsOf_len, hpls x (List.mem_of_mem_take hx)]
              exact m5
            rw [List.length_map, List.length_take] at h5
            omega
          · have := hp.put (f := fun es => es ++ (prsOf q).map nnD)
            rw [take_one hk, List.map_append, List.flatten_append, List.map_append, List.map_cons, List.map_nil, List.flatten_cons, List.flatten_nil, List.append_nil]
            exact this
    · obtain ⟨x8, x10, x11, hp, rfl⟩ := hI
      rw [List.length_map, List.take_length] at hp
      have lll : (liveL (csO G) m).length ≤ 100 := by
        have ok : OkT (liveL (csO G) m) := ⟨(liveL_ok _ _).2, fun x hx => by
          have hx := (liveL_mem (fun y hy => by
            obtain ⟨q, hq, e⟩ := hy
            rw [lC] at hq ⊢
            exact pls_lt sq hq e) x).mp hx
          obtain ⟨q, hq, e⟩ := hx
          rw [lC] at hq
          have := pls_lt sq hq e
          omega⟩
        exact ok.len
      refine so_seq (so_asgNd [5, 8, 9, 10, 11] (fun d hd => ?_) ?_)
      · have hd : some d ∈ [none, some D.st, some (.int (0 + (i : Int))), some (.tup [.int (n : Int), .tup (gridO G)]), some (gd T.k_Grid.C (n : Int) (gridO G)), none, some (.int ((plsC (csO G) m).length : Int)), some (.obj p), none, none, none, none] := hd
        have gn := nolst_gridO T.k_Grid.C (n : Int) G
        simp only [List.mem_cons, List.not_mem_nil, or_false, Option.some.injEq, reduceCtorEq, false_or] at hd
        rcases hd with rfl | rfl | rfl | rfl | rfl | rfl
        · rfl
        · rfl
        · simp only [D.nolst] at gn ⊢
          exact gn
        · exact gn
        · rfl
        · rfl
      refine ev_callX ?_
      walk_at "pd"
      refine ⟨n, m, G, rfl, sq, n1, by omega, m1, by omega, ?_⟩
      refine ⟨_, rfl, nrefs_nn _, fun q fq => ?_⟩
      have npq := hp.ne fq
      have hp2 := hp.cons (ds := (liveL (csO G) m).map nnD) npq
      have hq2 : Has ((q, (liveL (csO G) m).map nnD) :: ω) q ((liveL (csO G) m).map nnD) := Has.new fq
      generalize (q, (liveL (csO G) m).map nnD) :: ω = ω3 at hp2 hq2
      show SO W WF _ ω3 [none, some .st, some (.int (0 + (i : Int))), some (.tup [.int (n : Int), .tup (gridO G)]), some (gd T.k_Grid.C (n : Int) (gridO G)), some (.lst ((plsC (csO G) m).map colsD)), some (.int ((plsC (csO G) m).length : Int)), some (.obj p), x8, some (.obj q), x10, x11] _ _ _ _ _
      refine so_seq (so_ifL (evtl_put (a := p) 7 rfl hp2.1 (evtl_put (a := q) 9 rfl hq2.1 (evtl_ev ?_))))
      walk_at "pd"
      refine rc_isi (m := "list") (b := true) rfl (by decide) ?_
      refine ⟨true, rfl, fun _ => et_test (ev_op (ev_var rfl (ev_sortedSet (ev_var rfl ⟨_, rfl, fun x hx => ?_, fun mm nd hm => ?_, fun l' h1 h2 h3 => ?_⟩)))), fun z => by cases z⟩
      · have hx := (alive_mem lC).mp hx
        obtain ⟨q, hq, e⟩ := hx
        rw [lC] at hq
        have := pls_lt sq hq e
        omega
      · have ok : OkT mm := ⟨nd, fun x hx => by
          obtain ⟨q, hq, e⟩ := (alive_mem lC).mp (hm x hx)
          rw [lC] at hq
          have := pls_lt sq hq e
          omega⟩
        have n25 := nodup_lt 25 (mm.map fun p => p.1 * 5 + p.2) (by
          refine List.pairwise_map.mpr (List.Pairwise.imp_of_mem (fun {a b} ha hb n e => n ?_) nd)
          obtain ⟨q, hq, e1⟩ := (alive_mem lC).mp (hm a ha)
          obtain ⟨q2, hq2, e2⟩ := (alive_mem lC).mp (hm b hb)
          rw [lC] at hq hq2
          have := pls_lt sq hq e1
          have := pls_lt sq hq2 e2
          exact Prod.ext (by omega) (by omega)) fun x hx => by
            obtain ⟨y, hy, rfl⟩ := List.mem_map.mp hx
            obtain ⟨q, hq, e1⟩ := (alive_mem lC).mp (hm y hy)
            rw [lC] at hq
            have := pls_lt sq hq e1
            omega
        rw [List.length_map] at n25
        omega
      have el : liveL (csO G) m = l' := leP_uniq (liveL_ok _ _).2 h2 (liveL_ok _ _).1 h3 fun x => by
        rw [h1, alive_mem lC, liveL_mem fun y hy => ?_]
        obtain ⟨q, hq, e⟩ := hy
        rw [lC] at hq ⊢
        exact pls_lt sq hq e
      rw [← el]
      refine rd_neD (nns_fine _) (nns_fine _) ?_
      rw [D.eqv_self (nns_fine _)]
      refine ⟨_, rfl, fun z => (by cases z), fun _ => so_next ?_⟩
      refine so_seq (so_app (i := 9) rfl hq2.1 (fun es m => by rw [hq2.2 es m, List.length_map]; omega) ?_)
      walk_at "pd"
      refine ⟨_, rfl, ?_⟩
      have hq3 := hq2.put (f := fun es => es ++ [D.non])
      refine so_ifL (evtl_put (a := q) 9 rfl hq3.1 (evtl_ev ?_))
      refine et_test (ev_op (ev_callX ?_))
      walk_at "pd"
      refine ⟨n, m, G, rfl, sq, n1, by omega, m1, by omega, ?_⟩
      refine ev_slL (ev_var rfl ⟨_, rfl, ?_⟩)
      walk_at "pd"
      refine ⟨-1, rfl, ?_⟩
      rw [cut_last]
      refine rd_neD (nns_fine _) (nns_fine _) ?_
      rw [D.eqv_self (nns_fine _)]
      exact ⟨_, rfl, fun z => (by cases z), fun _ => so_next ⟨_, _, _, _, _, _, _, _, _, _, rfl⟩⟩
  · obtain ⟨x2, x3, x4, x5, x6, x7, x8, x9, x10, x11, rfl⟩ := hI
    refine so_lift ?_
    walk_at "pd"
    refine draw_lit (by decide +kernel) fun a a0 a1 => ?_
    walk_at "pd"
    refine ⟨fun _ => ?_, fun _ => rfl⟩
    walk_at "pd"
    exact ⟨rfl, rfl⟩
end
theorem all_mk {Pg : Program} {w : World} {K : PySem.W.Frag} {h : Heap} {mg : Str → Option Value} {fa : Addr} (X : K.In h) (G : h.Ns mainGlobals mg) (hfa : mg "law" = some (.ref fa))
    {f0 : Addr} {od0 an0 : Option Addr} {sl0 : Array (Option Value)} {oc0 kV0 dc0 pm0 cd0 ct0 : Value}
    {f1 : Addr} {od1 an1 : Option Addr} {sl1 : Array (Option Value)} {oc1 kV1 dc1 pm1 cd1 ct1 : Value}
    {f2 : Addr} {od2 an2 : Option Addr} {sl2 : Array (Option Value)} {oc2 kV2 dc2 pm2 cd2 ct2 : Value}
    {f3 : Addr} {od3 an3 : Option Addr} {sl3 : Array (Option Value)} {oc3 kV3 dc3 pm3 cd3 ct3 : Value}
    {f4 : Addr} {od4 an4 : Option Addr} {sl4 : Array (Option Value)} {oc4 kV4 dc4 pm4 cd4 ct4 : Value}
    {f5 : Addr} {od5 an5 : Option Addr} {sl5 : Array (Option Value)} {oc5 kV5 dc5 pm5 cd5 ct5 : Value}
    {f6 : Addr} {od6 an6 : Option Addr} {sl6 : Array (Option Value)} {oc6 kV6 dc6 pm6 cd6 ct6 : Value}
    {f7 : Addr} {od7 an7 : Option Addr} {sl7 : Array (Option Value)} {oc7 kV7 dc7 pm7 cd7 ct7 : Value}
    {f8 : Addr} {od8 an8 : Option Addr} {sl8 : Array (Option Value)} {oc8 kV8 dc8 pm8 cd8 ct8 : Value}
    {f9 : Addr} {od9 an9 : Option Addr} {sl9 : Array (Option Value)} {oc9 kV9 dc9 pm9 cd9 ct9 : Value}
    {f10 : Addr} {od10 an10 : Option Addr} {sl10 : Array (Option Value)} {oc10 kV10 dc10 pm10 cd10 ct10 : Value}
    {f11 : Addr} {od11 an11 : Option Addr} {sl11 : Array (Option Value)} {oc11 kV11 dc11 pm11 cd11 ct11 : Value}
    {f12 : Addr} {od12 an12 : Option Addr} {sl12 : Array (Option Value)} {oc12 kV12 dc12 pm12 cd12 ct12 : Value}
    {f13 : Addr} {od13 an13 : Option Addr} {sl13 : Array (Option Value)} {oc13 kV13 dc13 pm13 cd13 ct13 : Value}
    {f14 : Addr} {od14 an14 : Option Addr} {sl14 : Array (Option Value)} {oc14 kV14 dc14 pm14 cd14 ct14 : Value}
    {f15 : Addr} {od15 an15 : Option Addr} {sl15 : Array (Option Value)} {oc15 kV15 dc15 pm15 cd15 ct15 : Value}
    {f16 : Addr} {od16 an16 : Option Addr} {sl16 : Array (Option Value)} {oc16 kV16 dc16 pm16 cd16 ct16 : Value}
    {f17 : Addr} {od17 an17 : Option Addr} {sl17 : Array (Option Value)} {oc17 kV17 dc17 pm17 cd17 ct17 : Value}
    {f18 : Addr} {od18 an18 : Option Addr} {sl18 : Array (Option Value)} {oc18 kV18 dc18 pm18 cd18 ct18 : Value}
    {f19 : Addr} {od19 an19 : Option Addr} {sl19 : Array (Option Value)} {oc19 kV19 dc19 pm19 cd19 ct19 : Value}
    {f20 : Addr} {od20 an20 : Option Addr} {sl20 : Array (Option Value)} {oc20 kV20 dc20 pm20 cd20 ct20 : Value}
    {f21 : Addr} {od21 an21 : Option Addr} {sl21 : Array (Option Value)} {oc21 kV21 dc21 pm21 cd21 ct21 : Value}
    {f22 : Addr} {od22 an22 : Option Addr} {sl22 : Array (Option Value)} {oc22 kV22 dc22 pm22 cd22 ct22 : Value}
    {f23 : Addr} {od23 an23 : Option Addr} {sl23 : Array (Option Value)} {oc23 kV23 dc23 pm23 cd23 ct23 : Value}
    {f24 : Addr} {od24 an24 : Option Addr} {sl24 : Array (Option Value)} {oc24 kV24 dc24 pm24 cd24 ct24 : Value}
    {f25 : Addr} {od25 an25 : Option Addr} {sl25 : Array (Option Value)} {oc25 kV25 dc25 pm25 cd25 ct25 : Value}
    {f26 : Addr} {od26 an26 : Option Addr} {sl26 : Array (Option Value)} {oc26 kV26 dc26 pm26 cd26 ct26 : Value}
    {f27 : Addr} {od27 an27 : Option Addr} {sl27 : Array (Option Value)} {oc27 kV27 dc27 pm27 cd27 ct27 : Value}
    {f28 : Addr} {od28 an28 : Option Addr} {sl28 : Array (Option Value)} {oc28 kV28 dc28 pm28 cd28 ct28 : Value}
    {f29 : Addr} {od29 an29 : Option Addr} {sl29 : Array (Option Value)} {oc29 kV29 dc29 pm29 cd29 ct29 : Value}
    {f30 : Addr} {od30 an30 : Option Addr} {sl30 : Array (Option Value)} {oc30 kV30 dc30 pm30 cd30 ct30 : Value}
    {C_BadGrid : Addr}
    {nm_BadGrid : _} {q_BadGrid : _} {N_BadGrid : _} {bs_BadGrid : _} {bm_BadGrid : _} {sn_BadGrid : _} {sub_BadGrid : _} {ab_BadGrid : _} {col_BadGrid : _} {dd_BadGrid : _} {k0_BadGrid : _} {k1_BadGrid : _} {k2_BadGrid : _} {k3_BadGrid : _} {k5_BadGrid : _}
    {C_NotSquare : Addr}
    {nm_NotSquare : _} {q_NotSquare : _} {N_NotSquare : _} {bs_NotSquare : _} {bm_NotSquare : _} {sn_NotSquare : _} {sub_NotSquare : _} {ab_NotSquare : _} {col_NotSquare : _} {dd_NotSquare : _} {k0_NotSquare : _} {k1_NotSquare : _} {k2_NotSquare : _} {k3_NotSquare : _} {k5_NotSquare : _}
    {C_Grid : Addr}
    {t_MOST_BASES : Tok}
    {t_MOST_BOTTOM : Tok}
    {t_MOST_ROWS : Tok}
    {t_MOST_TOP : Tok}
    (a0 : PySem.W.nsIn K mainGlobals "_law_hand" = some (some (.ref f0)))
    (a1 : PySem.W.nsIn K mainGlobals "_law_draw" = some (some (.ref f1)))
    (a2 : PySem.W.nsIn K mainGlobals "_law_lowest" = some (some (.ref f2)))
    (a3 : PySem.W.nsIn K mainGlobals "_law_unit" = some (some (.ref f3)))
    (a4 : PySem.W.nsIn K mainGlobals "_law_plus" = some (some (.ref f4)))
    (a5 : PySem.W.nsIn K mainGlobals "_law_unit_sum" = some (some (.ref f5)))
    (a6 : PySem.W.nsIn K mainGlobals "_law_rows" = some (some (.ref f6)))
    (a7 : PySem.W.nsIn K mainGlobals "_law_drawn" = some (some (.ref f7)))
    (a8 : PySem.W.nsIn K mainGlobals "_has_grid_length" = some (some (.ref f8)))
    (a9 : PySem.W.nsIn K mainGlobals "is_whole" = some (some (.ref f9)))
    (a10 : PySem.W.nsIn K mainGlobals "is_pair" = some (some (.ref f10)))
    (a11 : PySem.W.nsIn K mainGlobals "is_fraction" = some (some (.ref f11)))
    (a12 : PySem.W.nsIn K mainGlobals "is_any_unit" = some (some (.ref f12)))
    (a13 : PySem.W.nsIn K mainGlobals "is_unit" = some (some (.ref f13)))
    (a14 : PySem.W.nsIn K mainGlobals "is_cell" = some (some (.ref f14)))
    (a15 : PySem.W.nsIn K mainGlobals "_wrong_part" = some (some (.ref f15)))
    (a18 : PySem.W.nsIn K mainGlobals "_law_made" = some (some (.ref f18)))
    (a19 : PySem.W.nsIn K mainGlobals "_law_placings" = some (some (.ref f19)))
    (a21 : PySem.W.nsIn K mainGlobals "check_square" = some (some (.ref f21)))
    (a22 : PySem.W.nsIn K mainGlobals "free_columns" = some (some (.ref f22)))
    (a23 : PySem.W.nsIn K mainGlobals "placed_lots" = some (some (.ref f23)))
    (a24 : PySem.W.nsIn K mainGlobals "many_placings" = some (some (.ref f24)))
    (a25 : PySem.W.nsIn K mainGlobals "open_lots" = some (some (.ref f25)))
    (a26 : PySem.W.nsIn K mainGlobals "live" = some (some (.ref f26)))
    (a27 : PySem.W.nsIn K mainGlobals "_law_unitless" = some (some (.ref f27)))
    (a28 : PySem.W.nsIn K mainGlobals "least_placing" = some (some (.ref f28)))
    (a29 : PySem.W.nsIn K mainGlobals "_law_great_right" = some (some (.ref f29)))
    (a30 : PySem.W.nsIn K mainGlobals "law" = some (some (.ref f30)))
    (gC_BadGrid : PySem.W.nsIn K mainGlobals "BadGrid" = some (some (.ref C_BadGrid)))
    (iC_BadGrid : PySem.W.findIn K (.ref C_BadGrid) "__init__" = some (some (.ref f16)))
    (lk_BadGrid : K.lookup C_BadGrid = some (excClassObj nm_BadGrid q_BadGrid C_BadGrid N_BadGrid bs_BadGrid bm_BadGrid true sn_BadGrid sub_BadGrid ab_BadGrid col_BadGrid dd_BadGrid k0_BadGrid k1_BadGrid k2_BadGrid k3_BadGrid k5_BadGrid "ValueError.__new__"))
    (rv_BadGrid : PySem.HandSPX.refsVE bm_BadGrid = true)
    (sa_BadGrid : PySem.W.findIn K (.ref C_BadGrid) "__setattr__" = some (some (.builtin "object.__setattr__")))
    (eb_BadGrid : PySem.W.subIn K (.ref C_BadGrid) (.type "BaseException") = some true)
    (ty_BadGrid : PySem.W.typeIn K (.ref C_BadGrid) = some (.type "type"))
    (kp_BadGrid : PySem.W.keepIn K (.ref C_BadGrid) = true)
    (gC_NotSquare : PySem.W.nsIn K mainGlobals "NotSquare" = some (some (.ref C_NotSquare)))
    (iC_NotSquare : PySem.W.findIn K (.ref C_NotSquare) "__init__" = some (some (.ref f20)))
    (lk_NotSquare : K.lookup C_NotSquare = some (excClassObj nm_NotSquare q_NotSquare C_NotSquare N_NotSquare bs_NotSquare bm_NotSquare true sn_NotSquare sub_NotSquare ab_NotSquare col_NotSquare dd_NotSquare k0_NotSquare k1_NotSquare k2_NotSquare k3_NotSquare k5_NotSquare "ValueError.__new__"))
    (rv_NotSquare : PySem.HandSPX.refsVE bm_NotSquare = true)
    (sa_NotSquare : PySem.W.findIn K (.ref C_NotSquare) "__setattr__" = some (some (.builtin "object.__setattr__")))
    (eb_NotSquare : PySem.W.subIn K (.ref C_NotSquare) (.type "BaseException") = some true)
    (ty_NotSquare : PySem.W.typeIn K (.ref C_NotSquare) = some (.type "type"))
    (kp_NotSquare : PySem.W.keepIn K (.ref C_NotSquare) = true)
    (gC_Grid : PySem.W.nsIn K mainGlobals "Grid" = some (some (.ref C_Grid)))
    (iC_Grid : PySem.W.findIn K (.ref C_Grid) "__init__" = some (some (.ref f17)))
    (oC_Grid : clB K C_Grid f17 = true)
    (tI_BadGrid___init__ : PySem.W.typeIn K (.ref f16) = some (.type "function"))
    (tI_GridError___init__ : PySem.W.typeIn K (.ref f20) = some (.type "function"))
    (nA_Grid_bases : PySem.W.findIn K (.ref C_Grid) "bases" = some none)
    (nA_Grid_rows : PySem.W.findIn K (.ref C_Grid) "rows" = some none)
    (nx_BadGrid_part : PySem.W.findIn K (.ref C_BadGrid) "part" = some none)
    (v_VE : PySem.W.findCls K (.type "ValueError") (.type "type") "__init__" = some (.val (.builtin "ValueError.__init__")))
    (l0 : K.lookup f0 = some ⟨oc0, od0, .func (PySem.W.fnOf "_law_hand" "_law_hand" (defArgs s__law_hand) (defBody s__law_hand) (defScope s__law_hand) .none kV0 dc0 pm0 an0 cd0 ct0), sl0⟩)
    (c0 : PySem.W.codeIn K cd0 "_law_hand" = true)
    (k0 : PySem.W.keepIn K (.ref f0) = true)
    (l1 : K.lookup f1 = some ⟨oc1, od1, .func (PySem.W.fnOf "_law_draw" "_law_draw" (defArgs s__law_draw) (defBody s__law_draw) (defScope s__law_draw) .none kV1 dc1 pm1 an1 cd1 ct1), sl1⟩)
    (c1 : PySem.W.codeIn K cd1 "_law_draw" = true)
    (k1 : PySem.W.keepIn K (.ref f1) = true)
    (l2 : K.lookup f2 = some ⟨oc2, od2, .func (PySem.W.fnOf "_law_lowest" "_law_lowest" (defArgs s__law_lowest) (defBody s__law_lowest) (defScope s__law_lowest) .none kV2 dc2 pm2 an2 cd2 ct2), sl2⟩)
    (c2 : PySem.W.codeIn K cd2 "_law_lowest" = true)
    (k2 : PySem.W.keepIn K (.ref f2) = true)
    (l3 : K.lookup f3 = some ⟨oc3, od3, .func (PySem.W.fnOf "_law_unit" "_law_unit" (defArgs s__law_unit) (defBody s__law_unit) (defScope s__law_unit) .none kV3 dc3 pm3 an3 cd3 ct3), sl3⟩)
    (c3 : PySem.W.codeIn K cd3 "_law_unit" = true)
    (k3 : PySem.W.keepIn K (.ref f3) = true)
    (l4 : K.lookup f4 = some ⟨oc4, od4, .func (PySem.W.fnOf "_law_plus" "_law_plus" (defArgs s__law_plus) (defBody s__law_plus) (defScope s__law_plus) .none kV4 dc4 pm4 an4 cd4 ct4), sl4⟩)
    (c4 : PySem.W.codeIn K cd4 "_law_plus" = true)
    (k4 : PySem.W.keepIn K (.ref f4) = true)
    (l5 : K.lookup f5 = some ⟨oc5, od5, .func (PySem.W.fnOf "_law_unit_sum" "_law_unit_sum" (defArgs s__law_unit_sum) (defBody s__law_unit_sum) (defScope s__law_unit_sum) .none kV5 dc5 pm5 an5 cd5 ct5), sl5⟩)
    (c5 : PySem.W.codeIn K cd5 "_law_unit_sum" = true)
    (k5 : PySem.W.keepIn K (.ref f5) = true)
    (l6 : K.lookup f6 = some ⟨oc6, od6, .func (PySem.W.fnOf "_law_rows" "_law_rows" (defArgs s__law_rows) (defBody s__law_rows) (defScope s__law_rows) .none kV6 dc6 pm6 an6 cd6 ct6), sl6⟩)
    (c6 : PySem.W.codeIn K cd6 "_law_rows" = true)
    (k6 : PySem.W.keepIn K (.ref f6) = true)
    (l7 : K.lookup f7 = some ⟨oc7, od7, .func (PySem.W.fnOf "_law_drawn" "_law_drawn" (defArgs s__law_drawn) (defBody s__law_drawn) (defScope s__law_drawn) .none kV7 dc7 pm7 an7 cd7 ct7), sl7⟩)
    (c7 : PySem.W.codeIn K cd7 "_law_drawn" = true)
    (k7 : PySem.W.keepIn K (.ref f7) = true)
    (l8 : K.lookup f8 = some ⟨oc8, od8, .func (PySem.W.fnOf "_has_grid_length" "_has_grid_length" (defArgs s__has_grid_length) (defBody s__has_grid_length) (defScope s__has_grid_length) .none kV8 dc8 pm8 an8 cd8 ct8), sl8⟩)
    (c8 : PySem.W.codeIn K cd8 "_has_grid_length" = true)
    (k8 : PySem.W.keepIn K (.ref f8) = true)
    (l9 : K.lookup f9 = some ⟨oc9, od9, .func (PySem.W.fnOf "is_whole" "is_whole" (defArgs s_is_whole) (defBody s_is_whole) (defScope s_is_whole) .none kV9 dc9 pm9 an9 cd9 ct9), sl9⟩)
    (c9 : PySem.W.codeIn K cd9 "is_whole" = true)
    (k9 : PySem.W.keepIn K (.ref f9) = true)
    (l10 : K.lookup f10 = some ⟨oc10, od10, .func (PySem.W.fnOf "is_pair" "is_pair" (defArgs s_is_pair) (defBody s_is_pair) (defScope s_is_pair) .none kV10 dc10 pm10 an10 cd10 ct10), sl10⟩)
    (c10 : PySem.W.codeIn K cd10 "is_pair" = true)
    (k10 : PySem.W.keepIn K (.ref f10) = true)
    (l11 : K.lookup f11 = some ⟨oc11, od11, .func (PySem.W.fnOf "is_fraction" "is_fraction" (defArgs s_is_fraction) (defBody s_is_fraction) (defScope s_is_fraction) .none kV11 dc11 pm11 an11 cd11 ct11), sl11⟩)
    (c11 : PySem.W.codeIn K cd11 "is_fraction" = true)
    (k11 : PySem.W.keepIn K (.ref f11) = true)
    (l12 : K.lookup f12 = some ⟨oc12, od12, .func (PySem.W.fnOf "is_any_unit" "is_any_unit" (defArgs s_is_any_unit) (defBody s_is_any_unit) (defScope s_is_any_unit) .none kV12 dc12 pm12 an12 cd12 ct12), sl12⟩)
    (c12 : PySem.W.codeIn K cd12 "is_any_unit" = true)
    (k12 : PySem.W.keepIn K (.ref f12) = true)
    (l13 : K.lookup f13 = some ⟨oc13, od13, .func (PySem.W.fnOf "is_unit" "is_unit" (defArgs s_is_unit) (defBody s_is_unit) (defScope s_is_unit) .none kV13 dc13 pm13 an13 cd13 ct13), sl13⟩)
    (c13 : PySem.W.codeIn K cd13 "is_unit" = true)
    (k13 : PySem.W.keepIn K (.ref f13) = true)
    (l14 : K.lookup f14 = some ⟨oc14, od14, .func (PySem.W.fnOf "is_cell" "is_cell" (defArgs s_is_cell) (defBody s_is_cell) (defScope s_is_cell) .none kV14 dc14 pm14 an14 cd14 ct14), sl14⟩)
    (c14 : PySem.W.codeIn K cd14 "is_cell" = true)
    (k14 : PySem.W.keepIn K (.ref f14) = true)
    (l15 : K.lookup f15 = some ⟨oc15, od15, .func (PySem.W.fnOf "_wrong_part" "_wrong_part" (defArgs s__wrong_part) (defBody s__wrong_part) (defScope s__wrong_part) .none kV15 dc15 pm15 an15 cd15 ct15), sl15⟩)
    (c15 : PySem.W.codeIn K cd15 "_wrong_part" = true)
    (k15 : PySem.W.keepIn K (.ref f15) = true)
    (l16 : K.lookup f16 = some ⟨oc16, od16, .func (PySem.W.fnOf "__init__" "BadGrid.__init__" (defArgs s_BadGrid___init__) (defBody s_BadGrid___init__) (defScope s_BadGrid___init__) .none kV16 dc16 pm16 an16 cd16 ct16), sl16⟩)
    (c16 : PySem.W.codeIn K cd16 "BadGrid.__init__" = true)
    (k16 : PySem.W.keepIn K (.ref f16) = true)
    (l17 : K.lookup f17 = some ⟨oc17, od17, .func (PySem.W.fnOf "__init__" "Grid.__init__" (defArgs s_Grid___init__) (defBody s_Grid___init__) (defScope s_Grid___init__) .none kV17 dc17 pm17 an17 cd17 ct17), sl17⟩)
    (c17 : PySem.W.codeIn K cd17 "Grid.__init__" = true)
    (k17 : PySem.W.keepIn K (.ref f17) = true)
    (l18 : K.lookup f18 = some ⟨oc18, od18, .func (PySem.W.fnOf "_law_made" "_law_made" (defArgs s__law_made) (defBody s__law_made) (defScope s__law_made) .none kV18 dc18 pm18 an18 cd18 ct18), sl18⟩)
    (c18 : PySem.W.codeIn K cd18 "_law_made" = true)
    (k18 : PySem.W.keepIn K (.ref f18) = true)
    (l19 : K.lookup f19 = some ⟨oc19, od19, .func (PySem.W.fnOf "_law_placings" "_law_placings" (defArgs s__law_placings) (defBody s__law_placings) (defScope s__law_placings) .none kV19 dc19 pm19 an19 cd19 ct19), sl19⟩)
    (c19 : PySem.W.codeIn K cd19 "_law_placings" = true)
    (k19 : PySem.W.keepIn K (.ref f19) = true)
    (l20 : K.lookup f20 = some ⟨oc20, od20, .func (PySem.W.fnOf "__init__" "GridError.__init__" (defArgs s_GridError___init__) (defBody s_GridError___init__) (defScope s_GridError___init__) .none kV20 dc20 pm20 an20 cd20 ct20), sl20⟩)
    (c20 : PySem.W.codeIn K cd20 "GridError.__init__" = true)
    (k20 : PySem.W.keepIn K (.ref f20) = true)
    (l21 : K.lookup f21 = some ⟨oc21, od21, .func (PySem.W.fnOf "check_square" "check_square" (defArgs s_check_square) (defBody s_check_square) (defScope s_check_square) .none kV21 dc21 pm21 an21 cd21 ct21), sl21⟩)
    (c21 : PySem.W.codeIn K cd21 "check_square" = true)
    (k21 : PySem.W.keepIn K (.ref f21) = true)
    (l22 : K.lookup f22 = some ⟨oc22, od22, .func (PySem.W.fnOf "free_columns" "free_columns" (defArgs s_free_columns) (defBody s_free_columns) (defScope s_free_columns) .none kV22 dc22 pm22 an22 cd22 ct22), sl22⟩)
    (c22 : PySem.W.codeIn K cd22 "free_columns" = true)
    (k22 : PySem.W.keepIn K (.ref f22) = true)
    (l23 : K.lookup f23 = some ⟨oc23, od23, .func (PySem.W.fnOf "placed_lots" "placed_lots" (defArgs s_placed_lots) (defBody s_placed_lots) (defScope s_placed_lots) .none kV23 dc23 pm23 an23 cd23 ct23), sl23⟩)
    (c23 : PySem.W.codeIn K cd23 "placed_lots" = true)
    (k23 : PySem.W.keepIn K (.ref f23) = true)
    (l24 : K.lookup f24 = some ⟨oc24, od24, .func (PySem.W.fnOf "many_placings" "many_placings" (defArgs s_many_placings) (defBody s_many_placings) (defScope s_many_placings) .none kV24 dc24 pm24 an24 cd24 ct24), sl24⟩)
    (c24 : PySem.W.codeIn K cd24 "many_placings" = true)
    (k24 : PySem.W.keepIn K (.ref f24) = true)
    (l25 : K.lookup f25 = some ⟨oc25, od25, .func (PySem.W.fnOf "open_lots" "open_lots" (defArgs s_open_lots) (defBody s_open_lots) (defScope s_open_lots) .none kV25 dc25 pm25 an25 cd25 ct25), sl25⟩)
    (c25 : PySem.W.codeIn K cd25 "open_lots" = true)
    (k25 : PySem.W.keepIn K (.ref f25) = true)
    (l26 : K.lookup f26 = some ⟨oc26, od26, .func (PySem.W.fnOf "live" "live" (defArgs s_live) (defBody s_live) (defScope s_live) .none kV26 dc26 pm26 an26 cd26 ct26), sl26⟩)
    (c26 : PySem.W.codeIn K cd26 "live" = true)
    (k26 : PySem.W.keepIn K (.ref f26) = true)
    (l27 : K.lookup f27 = some ⟨oc27, od27, .func (PySem.W.fnOf "_law_unitless" "_law_unitless" (defArgs s__law_unitless) (defBody s__law_unitless) (defScope s__law_unitless) .none kV27 dc27 pm27 an27 cd27 ct27), sl27⟩)
    (c27 : PySem.W.codeIn K cd27 "_law_unitless" = true)
    (k27 : PySem.W.keepIn K (.ref f27) = true)
    (l28 : K.lookup f28 = some ⟨oc28, od28, .func (PySem.W.fnOf "least_placing" "least_placing" (defArgs s_least_placing) (defBody s_least_placing) (defScope s_least_placing) .none kV28 dc28 pm28 an28 cd28 ct28), sl28⟩)
    (c28 : PySem.W.codeIn K cd28 "least_placing" = true)
    (k28 : PySem.W.keepIn K (.ref f28) = true)
    (l29 : K.lookup f29 = some ⟨oc29, od29, .func (PySem.W.fnOf "_law_great_right" "_law_great_right" (defArgs s__law_great_right) (defBody s__law_great_right) (defScope s__law_great_right) .none kV29 dc29 pm29 an29 cd29 ct29), sl29⟩)
    (c29 : PySem.W.codeIn K cd29 "_law_great_right" = true)
    (k29 : PySem.W.keepIn K (.ref f29) = true)
    (l30 : K.lookup f30 = some ⟨oc30, od30, .func (PySem.W.fnOf "law" "law" (defArgs s_law) (defBody s_law) (defScope s_law) .none kV30 dc30 pm30 an30 cd30 ct30), sl30⟩)
    (c30 : PySem.W.codeIn K cd30 "law" = true)
    (k30 : PySem.W.keepIn K (.ref f30) = true)
    (c_MOST_BASES : PySem.W.nsIn K mainGlobals "MOST_BASES" = some (some (.int 3 t_MOST_BASES)))
    (c_MOST_BOTTOM : PySem.W.nsIn K mainGlobals "MOST_BOTTOM" = some (some (.int 4 t_MOST_BOTTOM)))
    (c_MOST_ROWS : PySem.W.nsIn K mainGlobals "MOST_ROWS" = some (some (.int 10 t_MOST_ROWS)))
    (c_MOST_TOP : PySem.W.nsIn K mainGlobals "MOST_TOP" = some (some (.int 6 t_MOST_TOP)))
    (n_ValueError : PySem.W.nsIn K mainGlobals "ValueError" = some none)
    (n_abs : PySem.W.nsIn K mainGlobals "abs" = some none)
    (n_all : PySem.W.nsIn K mainGlobals "all" = some none)
    (n_any : PySem.W.nsIn K mainGlobals "any" = some none)
    (n_bool : PySem.W.nsIn K mainGlobals "bool" = some none)
    (n_enumerate : PySem.W.nsIn K mainGlobals "enumerate" = some none)
    (n_int : PySem.W.nsIn K mainGlobals "int" = some none)
    (n_isinstance : PySem.W.nsIn K mainGlobals "isinstance" = some none)
    (n_len : PySem.W.nsIn K mainGlobals "len" = some none)
    (n_list : PySem.W.nsIn K mainGlobals "list" = some none)
    (n_range : PySem.W.nsIn K mainGlobals "range" = some none)
    (n_reversed : PySem.W.nsIn K mainGlobals "reversed" = some none)
    (n_set : PySem.W.nsIn K mainGlobals "set" = some none)
    (n_sorted : PySem.W.nsIn K mainGlobals "sorted" = some none)
    (n_sum : PySem.W.nsIn K mainGlobals "sum" = some none)
    (n_tuple : PySem.W.nsIn K mainGlobals "tuple" = some none)
    (n_zip : PySem.W.nsIn K mainGlobals "zip" = some none)
    (v_gcd : PySem.W.nsIn K mainGlobals "gcd" = some (some (.builtin "math.gcd"))) :
    ∃ fd : FuncData, (∀ (s : Shared) (v : Value), BindsTo s fd ⟨[v], []⟩ [("script", v)]) ∧ ∀ base : Heap, K.In base → base.Ns mainGlobals mg → FnOk Pg w K mg base CX0 10 fa fd ["script"] (spLaw K) := by
  have e := hfa.symm.trans (PySem.W.mg_of X G a30)
  cases e
  have F0 := fun_mk (st := s__law_hand) l0 c0 k0
  have b0 := F0.binds (ps := ["script"]) fun _ _ _ _ _ _ us hl => match us, hl with | [_], _ => rfl
  have F1 := fun_mk (st := s__law_draw) l1 c1 k1
  have b1 := F1.binds (ps := ["hand", "many"]) fun _ _ _ _ _ _ us hl => match us, hl with | [_, _], _ => rfl
  have F2 := fun_mk (st := s__law_lowest) l2 c2 k2
  have b2 := F2.binds (ps := ["top", "below"]) fun _ _ _ _ _ _ us hl => match us, hl with | [_, _], _ => rfl
  have F3 := fun_mk (st := s__law_unit) l3 c3 k3
  have b3 := F3.binds (ps := ["hand", "bases", "most"]) fun _ _ _ _ _ _ us hl => match us, hl with | [_, _, _], _ => rfl
  have F4 := fun_mk (st := s__law_plus) l4 c4 k4
  have b4 := F4.binds (ps := ["one", "other"]) fun _ _ _ _ _ _ us hl => match us, hl with | [_, _], _ => rfl
  have F5 := fun_mk (st := s__law_unit_sum) l5 c5 k5
  have b5 := F5.binds (ps := ["one", "other", "sign"]) fun _ _ _ _ _ _ us hl => match us, hl with | [_, _, _], _ => rfl
  have F6 := fun_mk (st := s__law_rows) l6 c6 k6
  have b6 := F6.binds (ps := ["hand", "many", "bases"]) fun _ _ _ _ _ _ us hl => match us, hl with | [_, _, _], _ => rfl
  have F7 := fun_mk (st := s__law_drawn) l7 c7 k7
  have b7 := F7.binds (ps := ["hand", "most"]) fun _ _ _ _ _ _ us hl => match us, hl with | [_, _], _ => rfl
  have F8 := fun_mk (st := s__has_grid_length) l8 c8 k8
  have b8 := F8.binds (ps := ["thing"]) fun _ _ _ _ _ _ us hl => match us, hl with | [_], _ => rfl
  have F9 := fun_mk (st := s_is_whole) l9 c9 k9
  have b9 := F9.binds (ps := ["thing"]) fun _ _ _ _ _ _ us hl => match us, hl with | [_], _ => rfl
  have F10 := fun_mk (st := s_is_pair) l10 c10 k10
  have b10 := F10.binds (ps := ["thing"]) fun _ _ _ _ _ _ us hl => match us, hl with | [_], _ => rfl
  have F11 := fun_mk (st := s_is_fraction) l11 c11 k11
  have b11 := F11.binds (ps := ["thing"]) fun _ _ _ _ _ _ us hl => match us, hl with | [_], _ => rfl
  have F12 := fun_mk (st := s_is_any_unit) l12 c12 k12
  have b12 := F12.binds (ps := ["thing"]) fun _ _ _ _ _ _ us hl => match us, hl with | [_], _ => rfl
  have F13 := fun_mk (st := s_is_unit) l13 c13 k13
  have b13 := F13.binds (ps := ["bases", "thing"]) fun _ _ _ _ _ _ us hl => match us, hl with | [_, _], _ => rfl
  have F14 := fun_mk (st := s_is_cell) l14 c14 k14
  have b14 := F14.binds (ps := ["bases", "thing"]) fun _ _ _ _ _ _ us hl => match us, hl with | [_, _], _ => rfl
  have F15 := fun_mk (st := s__wrong_part) l15 c15 k15
  have b15 := F15.binds (ps := ["bases", "rows"]) fun _ _ _ _ _ _ us hl => match us, hl with | [_, _], _ => rfl
  have F16 := fun_mk (st := s_BadGrid___init__) l16 c16 k16
  have b16 := F16.binds (ps := ["self", "part"]) fun _ _ _ _ _ _ us hl => match us, hl with | [_, _], _ => rfl
  have F17 := fun_mk (st := s_Grid___init__) l17 c17 k17
  have b17 := F17.binds (ps := ["self", "bases", "rows"]) fun _ _ _ _ _ _ us hl => match us, hl with | [_, _, _], _ => rfl
  have F18 := fun_mk (st := s__law_made) l18 c18 k18
  have b18 := F18.binds (ps := ["parts"]) fun _ _ _ _ _ _ us hl => match us, hl with | [_], _ => rfl
  have F19 := fun_mk (st := s__law_placings) l19 c19 k19
  have b19 := F19.binds (ps := ["rows"]) fun _ _ _ _ _ _ us hl => match us, hl with | [_], _ => rfl
  have F20 := fun_mk (st := s_GridError___init__) l20 c20 k20
  have b20 := F20.binds (ps := ["self"]) fun _ _ _ _ _ _ us hl => match us, hl with | [_], _ => rfl
  have F21 := fun_mk (st := s_check_square) l21 c21 k21
  have b21 := F21.binds (ps := ["grid"]) fun _ _ _ _ _ _ us hl => match us, hl with | [_], _ => rfl
  have F22 := fun_mk (st := s_free_columns) l22 c22 k22
  have b22 := F22.binds (ps := ["row", "taken"]) fun _ _ _ _ _ _ us hl => match us, hl with | [_, _], _ => rfl
  have F23 := fun_mk (st := s_placed_lots) l23 c23 k23
  have b23 := F23.binds (ps := ["grid"]) fun _ _ _ _ _ _ us hl => match us, hl with | [_], _ => rfl
  have F24 := fun_mk (st := s_many_placings) l24 c24 k24
  have b24 := F24.binds (ps := ["grid"]) fun _ _ _ _ _ _ us hl => match us, hl with | [_], _ => rfl
  have F25 := fun_mk (st := s_open_lots) l25 c25 k25
  have b25 := F25.binds (ps := ["grid"]) fun _ _ _ _ _ _ us hl => match us, hl with | [_], _ => rfl
  have F26 := fun_mk (st := s_live) l26 c26 k26
  have b26 := F26.binds (ps := ["grid"]) fun _ _ _ _ _ _ us hl => match us, hl with | [_], _ => rfl
  have F27 := fun_mk (st := s__law_unitless) l27 c27 k27
  have b27 := F27.binds (ps := ["bases"]) fun _ _ _ _ _ _ us hl => match us, hl with | [_], _ => rfl
  have F28 := fun_mk (st := s_least_placing) l28 c28 k28
  have b28 := F28.binds (ps := ["grid"]) fun _ _ _ _ _ _ us hl => match us, hl with | [_], _ => rfl
  have F29 := fun_mk (st := s__law_great_right) l29 c29 k29
  have b29 := F29.binds (ps := ["hand"]) fun _ _ _ _ _ _ us hl => match us, hl with | [_], _ => rfl
  have F30 := fun_mk (st := s_law) l30 c30 k30
  have b30 := F30.binds (ps := ["script"]) fun _ _ _ _ _ _ us hl => match us, hl with | [_], _ => rfl
  let T : Txt K mg := { D__law_hand := ⟨f0, _, F0, PySem.W.mg_of X G a0, b0⟩, D__law_draw := ⟨f1, _, F1, PySem.W.mg_of X G a1, b1⟩, D__law_lowest := ⟨f2, _, F2, PySem.W.mg_of X G a2, b2⟩, D__law_unit := ⟨f3, _, F3, PySem.W.mg_of X G a3, b3⟩, D__law_plus := ⟨f4, _, F4, PySem.W.mg_of X G a4, b4⟩, D__law_unit_sum := ⟨f5, _, F5, PySem.W.mg_of X G a5, b5⟩, D__law_rows := ⟨f6, _, F6, PySem.W.mg_of X G a6, b6⟩, D__law_drawn := ⟨f7, _, F7, PySem.W.mg_of X G a7, b7⟩, D__has_grid_length := ⟨f8, _, F8, PySem.W.mg_of X G a8, b8⟩, D_is_whole := ⟨f9, _, F9, PySem.W.mg_of X G a9, b9⟩, D_is_pair := ⟨f10, _, F10, PySem.W.mg_of X G a10, b10⟩, D_is_fraction := ⟨f11, _, F11, PySem.W.mg_of X G a11, b11⟩, D_is_any_unit := ⟨f12, _, F12, PySem.W.mg_of X G a12, b12⟩, D_is_unit := ⟨f13, _, F13, PySem.W.mg_of X G a13, b13⟩, D_is_cell := ⟨f14, _, F14, PySem.W.mg_of X G a14, b14⟩, D__wrong_part := ⟨f15, _, F15, PySem.W.mg_of X G a15, b15⟩, D_BadGrid___init__ := ⟨f16, _, F16, b16⟩, D_Grid___init__ := ⟨f17, _, F17, b17⟩, D__law_made := ⟨f18, _, F18, PySem.W.mg_of X G a18, b18⟩, D__law_placings := ⟨f19, _, F19, PySem.W.mg_of X G a19, b19⟩, D_GridError___init__ := ⟨f20, _, F20, b20⟩, D_check_square := ⟨f21, _, F21, PySem.W.mg_of X G a21, b21⟩, D_free_columns := ⟨f22, _, F22, PySem.W.mg_of X G a22, b22⟩, D_placed_lots := ⟨f23, _, F23, PySem.W.mg_of X G a23, b23⟩, D_many_placings := ⟨f24, _, F24, PySem.W.mg_of X G a24, b24⟩, D_open_lots := ⟨f25, _, F25, PySem.W.mg_of X G a25, b25⟩, D_live := ⟨f26, _, F26, PySem.W.mg_of X G a26, b26⟩, D__law_unitless := ⟨f27, _, F27, PySem.W.mg_of X G a27, b27⟩, D_least_placing := ⟨f28, _, F28, PySem.W.mg_of X G a28, b28⟩, D__law_great_right := ⟨f29, _, F29, PySem.W.mg_of X G a29, b29⟩, D_law := ⟨fa, _, F30, PySem.W.mg_of X G a30, b30⟩, ty_BadGrid___init__ := tI_BadGrid___init__, ty_GridError___init__ := tI_GridError___init__, x_BadGrid := ⟨C_BadGrid, PySem.W.mg_of X G gC_BadGrid, ⟨⟨_, _, _, _, _, _, _, _, _, _, _, _, _, _, _, lk_BadGrid, rv_BadGrid⟩, sa_BadGrid, eb_BadGrid, ty_BadGrid, kp_BadGrid⟩, iC_BadGrid⟩, x_NotSquare := ⟨C_NotSquare, PySem.W.mg_of X G gC_NotSquare, ⟨⟨_, _, _, _, _, _, _, _, _, _, _, _, _, _, _, lk_NotSquare, rv_NotSquare⟩, sa_NotSquare, eb_NotSquare, ty_NotSquare, kp_NotSquare⟩, iC_NotSquare⟩, k_Grid := ⟨C_Grid, PySem.W.mg_of X G gC_Grid, (cls_of oC_Grid).2, (cls_of oC_Grid).1⟩, na_Grid_bases := nA_Grid_bases, na_Grid_rows := nA_Grid_rows, nx_BadGrid_part := nx_BadGrid_part, v_VE := v_VE, t_MOST_BASES := t_MOST_BASES, c_MOST_BASES := PySem.W.mg_of X G c_MOST_BASES, t_MOST_BOTTOM := t_MOST_BOTTOM, c_MOST_BOTTOM := PySem.W.mg_of X G c_MOST_BOTTOM, t_MOST_ROWS := t_MOST_ROWS, c_MOST_ROWS := PySem.W.mg_of X G c_MOST_ROWS, t_MOST_TOP := t_MOST_TOP, c_MOST_TOP := PySem.W.mg_of X G c_MOST_TOP, n_ValueError := PySem.W.mg_none_of X G n_ValueError, n_abs := PySem.W.mg_none_of X G n_abs, n_all := PySem.W.mg_none_of X G n_all, n_any := PySem.W.mg_none_of X G n_any, n_bool := PySem.W.mg_none_of X G n_bool, n_enumerate := PySem.W.mg_none_of X G n_enumerate, n_int := PySem.W.mg_none_of X G n_int, n_isinstance := PySem.W.mg_none_of X G n_isinstance, n_len := PySem.W.mg_none_of X G n_len, n_list := PySem.W.mg_none_of X G n_list, n_range := PySem.W.mg_none_of X G n_range, n_reversed := PySem.W.mg_none_of X G n_reversed, n_set := PySem.W.mg_none_of X G n_set, n_sorted := PySem.W.mg_none_of X G n_sorted, n_sum := PySem.W.mg_none_of X G n_sum, n_tuple := PySem.W.mg_none_of X G n_tuple, n_zip := PySem.W.mg_none_of X G n_zip, v_gcd := PySem.W.mg_of X G v_gcd }
  exact ⟨T.D_law.d, fun s v => .of_eq rfl, fun base _ _ => ok_law T⟩
end Lk50
open PySem PySem.W PyProof.Rows
set_option maxRecDepth 100000 in
set_option maxHeartbeats 0 in
theorem PySem.Challenge.cw_unitgrids_k50_whole_placings_counted_and_holds : PySem.Challenge.rw_unitgrids_k50_whole_placings_counted_and.Holds := by
  w_on; o_law
  refine HeadRun.head_imp (q := Hd.q_) (H := kHook Hd.KF Hd.as_ Hd.ek_) (ob := fun s => Hd.as_.map (HeadRun.getT s)) (M := 4796) (loose := Hd.loose_) (fun s => HdT.ob_of s) Hd.run_ (by rfl) (by rfl) (by rfl) (by rfl) (by assumption) (by decide +kernel) ⟨rfl, rfl, rfl, rfl, rfl, by decide +kernel⟩ ?hw ?hc
  case hw => w_witness2
  k_fill
  refine L2.walk_of (l := PySem.Challenge.rw_unitgrids_k50_whole_placings_counted_and) (n := 63) (k := 10) (x := "script") (CX := fun _ => L2.CX0) (sp := fun w => PD.spLaw _) rfl (by decide) rfl ⟨rfl, by decide, by decide⟩ (fun w h Y => PySem.W.kIn_of Y) ?F (fun _ _ a ns hl _ hS => ⟨a, ns, rfl, hS, hl, fun _ => rfl⟩) (fun _ _ _ _ _ h => h)
  case F =>
    intro w mg fa h KX G hmg
    refine' Lk50.all_mk KX G hmg ?a0 ?a1 ?a2 ?a3 ?a4 ?a5 ?a6 ?a7 ?a8 ?a9 ?a10 ?a11 ?a12 ?a13 ?a14 ?a15 ?a18 ?a19 ?a21 ?a22 ?a23 ?a24 ?a25 ?a26 ?a27 ?a28 ?a29 ?a30 ?gC_BadGrid ?iC_BadGrid ?lk_BadGrid ?rv_BadGrid ?sa_BadGrid ?eb_BadGrid ?ty_BadGrid ?kp_BadGrid ?gC_NotSquare ?iC_NotSquare ?lk_NotSquare ?rv_NotSquare ?sa_NotSquare ?eb_NotSquare ?ty_NotSquare ?kp_NotSquare ?gC_Grid ?iC_Grid ?oC_Grid ?tI_BadGrid___init__ ?tI_GridError___init__ ?nA_Grid_bases ?nA_Grid_rows ?nx_BadGrid_part ?v_VE ?l0 ?c0 ?k0 ?l1 ?c1 ?k1 ?l2 ?c2 ?k2 ?l3 ?c3 ?k3 ?l4 ?c4 ?k4 ?l5 ?c5 ?k5 ?l6 ?c6 ?k6 ?l7 ?c7 ?k7 ?l8 ?c8 ?k8 ?l9 ?c9 ?k9 ?l10 ?c10 ?k10 ?l11 ?c11 ?k11 ?l12 ?c12 ?k12 ?l13 ?c13 ?k13 ?l14 ?c14 ?k14 ?l15 ?c15 ?k15 ?l16 ?c16 ?k16 ?l17 ?c17 ?k17 ?l18 ?c18 ?k18 ?l19 ?c19 ?k19 ?l20 ?c20 ?k20 ?l21 ?c21 ?k21 ?l22 ?c22 ?k22 ?l23 ?c23 ?k23 ?l24 ?c24 ?k24 ?l25 ?c25 ?k25 ?l26 ?c26 ?k26 ?l27 ?c27 ?k27 ?l28 ?c28 ?k28 ?l29 ?c29 ?k29 ?l30 ?c30 ?k30 ?c_MOST_BASES ?c_MOST_BOTTOM ?c_MOST_ROWS ?c_MOST_TOP ?n_ValueError ?n_abs ?n_all ?n_any ?n_bool ?n_enumerate ?n_int ?n_isinstance ?n_len ?n_list ?n_range ?n_reversed ?n_set ?n_sorted ?n_sum ?n_tuple ?n_zip ?v_gcd
    (case a0 => k_is)
    (case a1 => k_is)
    (case a2 => k_is)
    (case a3 => k_is)
    (case a4 => k_is)
    (case a5 => k_is)
    (case a6 => k_is)
    (case a7 => k_is)
    (case a8 => k_is)
    (case a9 => k_is)
    (case a10 => k_is)
    (case a11 => k_is)
    (case a12 => k_is)
    (case a13 => k_is)
    (case a14 => k_is)
    (case a15 => k_is)
    (case a18 => k_is)
    (case a19 => k_is)
    (case a21 => k_is)
    (case a22 => k_is)
    (case a23 => k_is)
    (case a24 => k_is)
    (case a25 => k_is)
    (case a26 => k_is)
    (case a27 => k_is)
    (case a28 => k_is)
    (case a29 => k_is)
    (case a30 => k_is)
    (case gC_BadGrid => k_is)
    (case iC_BadGrid => k_is)
    (case lk_BadGrid => k_is)
    (case rv_BadGrid => kernel_rfl)
    (case sa_BadGrid => k_is)
    (case eb_BadGrid => k_is)
    (case ty_BadGrid => k_is)
    (case kp_BadGrid => k_is)
    (case gC_NotSquare => k_is)
    (case iC_NotSquare => k_is)
    (case lk_NotSquare => k_is)
    (case rv_NotSquare => kernel_rfl)
    (case sa_NotSquare => k_is)
    (case eb_NotSquare => k_is)
    (case ty_NotSquare => k_is)
    (case kp_NotSquare => k_is)
    (case gC_Grid => k_is)
    (case iC_Grid => k_is)
    (case oC_Grid => kernel_rfl)
    (case tI_BadGrid___init__ => k_is)
    (case tI_GridError___init__ => k_is)
    (case nA_Grid_bases => k_is)
    (case nA_Grid_rows => k_is)
    (case nx_BadGrid_part => k_is)
    (case v_VE => k_is)
    (case l0 => k_is)
    (case c0 => k_is)
    (case k0 => k_is)
    (case l1 => k_is)
    (case c1 => k_is)
    (case k1 => k_is)
    (case l2 => k_is)
    (case c2 => k_is)
    (case k2 => k_is)
    (case l3 => k_is)
    (case c3 => k_is)
    (case k3 => k_is)
    (case l4 => k_is)
    (case c4 => k_is)
    (case k4 => k_is)
    (case l5 => k_is)
    (case c5 => k_is)
    (case k5 => k_is)
    (case l6 => k_is)
    (case c6 => k_is)
    (case k6 => k_is)
    (case l7 => k_is)
    (case c7 => k_is)
    (case k7 => k_is)
    (case l8 => k_is)
    (case c8 => k_is)
    (case k8 => k_is)
    (case l9 => k_is)
    (case c9 => k_is)
    (case k9 => k_is)
    (case l10 => k_is)
    (case c10 => k_is)
    (case k10 => k_is)
    (case l11 => k_is)
    (case c11 => k_is)
    (case k11 => k_is)
    (case l12 => k_is)
    (case c12 => k_is)
    (case k12 => k_is)
    (case l13 => k_is)
    (case c13 => k_is)
    (case k13 => k_is)
    (case l14 => k_is)
    (case c14 => k_is)
    (case k14 => k_is)
    (case l15 => k_is)
    (case c15 => k_is)
    (case k15 => k_is)
    (case l16 => k_is)
    (case c16 => k_is)
    (case k16 => k_is)
    (case l17 => k_is)
    (case c17 => k_is)
    (case k17 => k_is)
    (case l18 => k_is)
    (case c18 => k_is)
    (case k18 => k_is)
    (case l19 => k_is)
    (case c19 => k_is)
    (case k19 => k_is)
    (case l20 => k_is)
    (case c20 => k_is)
    (case k20 => k_is)
    (case l21 => k_is)
    (case c21 => k_is)
    (case k21 => k_is)
    (case l22 => k_is)
    (case c22 => k_is)
    (case k22 => k_is)
    (case l23 => k_is)
    (case c23 => k_is)
    (case k23 => k_is)
    (case l24 => k_is)
    (case c24 => k_is)
    (case k24 => k_is)
    (case l25 => k_is)
    (case c25 => k_is)
    (case k25 => k_is)
    (case l26 => k_is)
    (case c26 => k_is)
    (case k26 => k_is)
    (case l27 => k_is)
    (case c27 => k_is)
    (case k27 => k_is)
    (case l28 => k_is)
    (case c28 => k_is)
    (case k28 => k_is)
    (case l29 => k_is)
    (case c29 => k_is)
    (case k29 => k_is)
    (case l30 => k_is)
    (case c30 => k_is)
    (case k30 => k_is)
    (case c_MOST_BASES => k_is)
    (case c_MOST_BOTTOM => k_is)
    (case c_MOST_ROWS => k_is)
    (case c_MOST_TOP => k_is)
    (case n_ValueError => k_is)
    (case n_abs => k_is)
    (case n_all => k_is)
    (case n_any => k_is)
    (case n_bool => k_is)
    (case n_enumerate => k_is)
    (case n_int => k_is)
    (case n_isinstance => k_is)
    (case n_len => k_is)
    (case n_list => k_is)
    (case n_range => k_is)
    (case n_reversed => k_is)
    (case n_set => k_is)
    (case n_sorted => k_is)
    (case n_sum => k_is)
    (case n_tuple => k_is)
    (case n_zip => k_is)
    (case v_gcd => k_is)
