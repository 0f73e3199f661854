import PyProof.Rows.All
import Wide.All
import OpenK.AllK
import Wide.FinOn
import HandS.ForMost
import HandS.Zip
import HandS.Gcd
import HandS.Wide
import HandS.IsInst
import HandS.TupAny
import HandS.Style
import HandS.Evl
import HandS.Exc
import HandS.ExcInit
import HandS.ExcOwn
import HandS.TryOnly
import HandS.TryMany
import HandS.WordsExc
import KE.GoesEnum
import KE.GoesMore
import HandS.TupMul
import HandS.ExcField
import HandS.OwnEq
import HandS.Zip0
import KE.KDictZip
import HandS.WrittenGet
import KE.DataMinMax
import HandS.Star
import HandS.Conv
import HandS.RaiseMore
import PyProof.TupleOfSeq
import PyProof.Rows.SortWalk
import HandS.Strs
import HandS.Deep
import PyProof.P3In
import KE.KExcIs
import HandS.ExcIs
import KE.HD3
import PySem.Challenge.RW_unitgrids_k00_errors
set_option Elab.async false
set_option linter.all false
set_option maxRecDepth 100000
set_option maxHeartbeats 0
noncomputable section
namespace HdT
open PySem PySem.W PySem.Calls PyProof.Rows HeadRun
/-- a function of the top, by its def -/
def fo (nm qu : Str) (s : Stmt) (dV kV doc pm : Value) (an : Option Addr) (cd ct : Value) : Obj := ⟨.type "function", none, .func (fnOf nm qu (L2.defArgs s) (L2.defBody s) (L2.defScope s) dV kV doc pm an cd ct), #[]⟩
def tu (xs : List Value) : Obj := ⟨.type "tuple", none, .seq xs.toArray 0, #[]⟩
def co (xs : List Value) : Obj := ⟨.type "code", none, .fields xs.toArray, #[]⟩
def de (P : Params) (x : Str) (t : Tok) (v : Value) : DictEntry := ⟨PyData.keyHash P x, .str x t, v⟩
/-- the state behind the top, and what stood ahead of it -/
abbrev Ran (p : Program) (N : Nat) (w : World) : Option (Shared × SharedT) := wholeF (fun p => stepQ (denQ tabQ) p w) fenceQ N p
theorem both {σ α β γ : Type} {x : Option σ} {f : σ → α} {g : σ → β} {k : σ → γ} {a : α} {b : β} {c : γ} (h1 : x.map f = some a) (h2 : x.map g = some b) (h3 : x.map k = some c) : x.map (fun s => (f s, g s, k s)) = some (a, b, c) := by
  cases x with
  | none => cases h1
  | some s =>
    cases Option.some.inj h1
    cases Option.some.inj h2
    cases Option.some.inj h3
    rfl
theorem two {σ α β : Type} {x : Option σ} {f : σ → α} {g : σ → β} {a : α} {b : β} (h : x.map (fun s => (f s, g s)) = some (a, b)) : x.map f = some a ∧ x.map g = some b := by
  cases x with
  | none => cases h
  | some s =>
    have e := Option.some.inj h
    exact ⟨congrArg some (Prod.mk.inj e).1, congrArg some (Prod.mk.inj e).2⟩
abbrev Looks (r : OpenRow) (q : Program) (N : Nat) (loose : List Str) (w : World) : Prop :=
  (Ran r.prog N w).map (fun x => (looksF r.prog x.1.heap x.2.abs, seenQ q loose (importedModules r.prog.main.body) (fun s => xlAt q [] s && recOk r.toRowW.records s) x.2.abs)) = some (true, openGood q loose)
abbrev Reads (r : OpenRow) (K : Params → Frag) (as : List Addr) (N : Nat) (w : World) : Prop :=
  (Ran r.prog N w).map (fun x => as.map (getT x.2)) = some ((K w.params).map fun x => some x.2)
theorem run_of {r : OpenRow} {q : Program} {K : Params → Frag} {as : List Addr} {ek : ∀ P, as = (K P).map (·.1)} {N : Nat} {loose : List Str} {w : World} (h1 : Looks r q N loose w) (h2 : Reads r K as N w) :
    RunEqI r q (kHook K as ek) (fun s => as.map (getT s)) N loose w := both (two h1).1 (two h1).2 h2
theorem ob_of {K : Params → Frag} {as : List Addr} {ek : ∀ P, as = (K P).map (·.1)} (s : SharedT) : as.map (getT s) = (kHook K as ek).obs s.abs := List.map_congr_left fun a _ => getT_eq s a
end HdT
end
namespace Hd
open PySem PySem.W PySem.Calls PyProof.Rows HdT
def tS (i : Nat) : Stmt := PySem.Challenge.pw_unitgrids_k00_errors.main.body.getD i (.Pass ⟨0, 0, 0, 0⟩)
def o2 (P : Params) : Obj := ⟨.none, none, (.dict ([] : List DictEntry).toArray 0), #[]⟩
def o3 (P : Params) : Obj := ⟨(.type "dict"), none, (.dict ((de P "__name__" 165 (.str "law_unitgrids_k00_errors" 700) :: de P "__doc__" 166 .none :: de P "__package__" 167 .none :: de P "__loader__" 168 (.builtin "__main__.__loader__#opaque") :: de P "__spec__" 169 .none :: de P "__annotations__" 170 (.ref 6) :: de P "__builtins__" 171 (.ref 4) :: de P "__file__" 173 (.str "/claim/cut.py" 172) :: de P "__cached__" 174 .none :: de P "GridError" 213 (.ref 31) :: de P "NoUnit" 229 (.ref 44) :: de P "OtherBases" 245 (.ref 56) :: de P "NoFraction" 261 (.ref 68) :: de P "NoRoots" 277 (.ref 80) :: de P "NoScale" 293 (.ref 92) :: de P "BadGrid" 318 (.ref 111) :: de P "NoCell" 334 (.ref 123) :: de P "NoNumbers" 350 (.ref 135) :: de P "BadScript" 375 (.ref 154) :: de P "NoGrid" 391 (.ref 166) :: de P "NoOrder" 407 (.ref 178) :: de P "NoValues" 423 (.ref 190) :: de P "NoWay" 439 (.ref 202) :: de P "NoNumber" 455 (.ref 214) :: de P "TooMany" 480 (.ref 233) :: de P "TooLong" 505 (.ref 252) :: de P "NoParting" 521 (.ref 264) :: de P "NotSquare" 537 (.ref 276) :: de P "NoSquare" 553 (.ref 288) :: de P "NoPlacing" 569 (.ref 300) :: de P "NoRight" 585 (.ref 312) :: de P "BadLine" 610 (.ref 331) :: de P "NoAnswer" 626 (.ref 343) :: de P "NoText" 642 (.ref 355) :: de P "NothingDone" 658 (.ref 367) :: de P "NoLine" 674 (.ref 379) :: de P "Unknown" 699 (.ref 398) :: de P "_law_state" 709 (.ref 407) :: de P "_law_mixed" 717 (.ref 414) :: de P "_law_draw" 727 (.ref 421) :: de P "_law_value" 736 (.ref 428) :: de P "_law_made" 746 (.ref 435) :: de P "_law_classes" 759 (.ref 442) :: de P "_law_kept" 766 (.ref 449) :: de P "_law_alike" 774 (.ref 456) :: de P "law" 780 (.ref 461) :: []) : List DictEntry).toArray 46), #[]⟩
def o15 (P : Params) : Obj := tu [(.type "ValueError")]
def o22 (P : Params) : Obj := tu []
def o24 (P : Params) : Obj := tu [(.str "self" 204)]
def o25 (P : Params) : Obj := tu []
def o27 (P : Params) : Obj := co [(.str "__init__" 201), (.str "GridError.__init__" 202), (.str "/claim/cut.py" 203), (.int 4 0), (.int 1 0), (.int 0 0), (.int 0 0), (.int 3 0), (.ref 22), (.bool true), (.int 181 0), (.ref 23), .none, (.ref 24), (.ref 25), (.ref 26), (.int 205 0), (.int 4 0), (.str "/claim/cut.py" 206)]
def o28 (P : Params) : Obj := fo "__init__" "GridError.__init__" (L2.inClass (tS 1) 0) .none .none .none (.str "unitgrids.errors" 187) none (.ref 27) .none
def o29 (P : Params) : Obj := tu []
def o30 (P : Params) : Obj := ⟨(.type "dict"), none, (.dict ([de P "__module__" 196 (.str "unitgrids.errors" 187), de P "__firstlineno__" 200 (.int 2 199), de P "__init__" 207 (.ref 28), de P "__static_attributes__" 208 (.ref 29), de P "__weakref__" 210 (.ref 32), de P "__doc__" 211 .none] : List DictEntry).toArray 3), #[]⟩
def o31 (P : Params) : Obj := ⟨(.type "type"), none, (.cls ⟨"GridError", [(.type "ValueError")], [(.ref 31), (.type "ValueError"), (.type "Exception"), (.type "BaseException"), (.type "object")], 30, "GridError", true, [], [(.ref 44), (.ref 56), (.ref 68), (.ref 80), (.ref 92), (.ref 111), (.ref 123), (.ref 135), (.ref 154), (.ref 166), (.ref 178), (.ref 190), (.ref 202), (.ref 214), (.ref 233), (.ref 252), (.ref 264), (.ref 276), (.ref 288), (.ref 300), (.ref 312), (.ref 331), (.ref 343), (.ref 355), (.ref 367), (.ref 379), (.ref 398)], false, none, false⟩), #[some (.ref 15), none, some (.str "GridError" 189), some (.str "GridError" 197), some (.builtin "ValueError.__new__"), some (.bool true)]⟩
def o32 (P : Params) : Obj := ⟨(.type "getset_descriptor"), none, (.fields ([(.str "__weakref__" 209), (.ref 31), (.builtin "ExceptionGroup.__weakref__"), .none] : List Value).toArray), #[]⟩
def o35 (P : Params) : Obj := tu [(.ref 31)]
def o42 (P : Params) : Obj := tu []
def o43 (P : Params) : Obj := ⟨(.type "dict"), none, (.dict ([de P "__module__" 221 (.str "unitgrids.errors" 187), de P "__firstlineno__" 225 (.int 6 224), de P "__static_attributes__" 226 (.ref 42), de P "__doc__" 227 .none] : List DictEntry).toArray 2), #[]⟩
def o44 (P : Params) : Obj := ⟨(.type "type"), none, (.cls ⟨"NoUnit", [(.ref 31)], [(.ref 44), (.ref 31), (.type "ValueError"), (.type "Exception"), (.type "BaseException"), (.type "object")], 43, "NoUnit", true, [], [], false, none, false⟩), #[some (.ref 35), none, some (.str "NoUnit" 214), some (.str "NoUnit" 222), some (.builtin "ValueError.__new__"), some (.bool true)]⟩
def o47 (P : Params) : Obj := tu [(.ref 31)]
def o54 (P : Params) : Obj := tu []
def o55 (P : Params) : Obj := ⟨(.type "dict"), none, (.dict ([de P "__module__" 237 (.str "unitgrids.errors" 187), de P "__firstlineno__" 241 (.int 8 240), de P "__static_attributes__" 242 (.ref 54), de P "__doc__" 243 .none] : List DictEntry).toArray 2), #[]⟩
def o56 (P : Params) : Obj := ⟨(.type "type"), none, (.cls ⟨"OtherBases", [(.ref 31)], [(.ref 56), (.ref 31), (.type "ValueError"), (.type "Exception"), (.type "BaseException"), (.type "object")], 55, "OtherBases", true, [], [], false, none, false⟩), #[some (.ref 47), none, some (.str "OtherBases" 230), some (.str "OtherBases" 238), some (.builtin "ValueError.__new__"), some (.bool true)]⟩
def o59 (P : Params) : Obj := tu [(.ref 31)]
def o66 (P : Params) : Obj := tu []
def o67 (P : Params) : Obj := ⟨(.type "dict"), none, (.dict ([de P "__module__" 253 (.str "unitgrids.errors" 187), de P "__firstlineno__" 257 (.int 10 256), de P "__static_attributes__" 258 (.ref 66), de P "__doc__" 259 .none] : List DictEntry).toArray 2), #[]⟩
def o68 (P : Params) : Obj := ⟨(.type "type"), none, (.cls ⟨"NoFraction", [(.ref 31)], [(.ref 68), (.ref 31), (.type "ValueError"), (.type "Exception"), (.type "BaseException"), (.type "object")], 67, "NoFraction", true, [], [], false, none, false⟩), #[some (.ref 59), none, some (.str "NoFraction" 246), some (.str "NoFraction" 254), some (.builtin "ValueError.__new__"), some (.bool true)]⟩
def o71 (P : Params) : Obj := tu [(.ref 31)]
def o78 (P : Params) : Obj := tu []
def o79 (P : Params) : Obj := ⟨(.type "dict"), none, (.dict ([de P "__module__" 269 (.str "unitgrids.errors" 187), de P "__firstlineno__" 273 (.int 12 272), de P "__static_attributes__" 274 (.ref 78), de P "__doc__" 275 .none] : List DictEntry).toArray 2), #[]⟩
def o80 (P : Params) : Obj := ⟨(.type "type"), none, (.cls ⟨"NoRoots", [(.ref 31)], [(.ref 80), (.ref 31), (.type "ValueError"), (.type "Exception"), (.type "BaseException"), (.type "object")], 79, "NoRoots", true, [], [], false, none, false⟩), #[some (.ref 71), none, some (.str "NoRoots" 262), some (.str "NoRoots" 270), some (.builtin "ValueError.__new__"), some (.bool true)]⟩
def o83 (P : Params) : Obj := tu [(.ref 31)]
def o90 (P : Params) : Obj := tu []
def o91 (P : Params) : Obj := ⟨(.type "dict"), none, (.dict ([de P "__module__" 285 (.str "unitgrids.errors" 187), de P "__firstlineno__" 289 (.int 14 288), de P "__static_attributes__" 290 (.ref 90), de P "__doc__" 291 .none] : List DictEntry).toArray 2), #[]⟩
def o92 (P : Params) : Obj := ⟨(.type "type"), none, (.cls ⟨"NoScale", [(.ref 31)], [(.ref 92), (.ref 31), (.type "ValueError"), (.type "Exception"), (.type "BaseException"), (.type "object")], 91, "NoScale", true, [], [], false, none, false⟩), #[some (.ref 83), none, some (.str "NoScale" 278), some (.str "NoScale" 286), some (.builtin "ValueError.__new__"), some (.bool true)]⟩
def o95 (P : Params) : Obj := tu [(.ref 31)]
def o102 (P : Params) : Obj := tu []
def o104 (P : Params) : Obj := tu [(.str "self" 309), (.str "part" 310)]
def o105 (P : Params) : Obj := tu []
def o107 (P : Params) : Obj := co [(.str "__init__" 306), (.str "BadGrid.__init__" 307), (.str "/claim/cut.py" 308), (.int 18 0), (.int 2 0), (.int 0 0), (.int 0 0), (.int 3 0), (.ref 102), (.bool true), (.int 181 0), (.ref 103), .none, (.ref 104), (.ref 105), (.ref 106), (.int 311 0), (.int 18 0), (.str "/claim/cut.py" 312)]
def o108 (P : Params) : Obj := fo "__init__" "BadGrid.__init__" (L2.inClass (tS 7) 0) .none .none .none (.str "unitgrids.errors" 187) none (.ref 107) .none
def o109 (P : Params) : Obj := tu [(.str "part" 314)]
def o110 (P : Params) : Obj := ⟨(.type "dict"), none, (.dict ([de P "__module__" 301 (.str "unitgrids.errors" 187), de P "__firstlineno__" 305 (.int 16 304), de P "__init__" 313 (.ref 108), de P "__static_attributes__" 315 (.ref 109), de P "__doc__" 316 .none] : List DictEntry).toArray 2), #[]⟩
def o111 (P : Params) : Obj := ⟨(.type "type"), none, (.cls ⟨"BadGrid", [(.ref 31)], [(.ref 111), (.ref 31), (.type "ValueError"), (.type "Exception"), (.type "BaseException"), (.type "object")], 110, "BadGrid", true, [], [], false, none, false⟩), #[some (.ref 95), none, some (.str "BadGrid" 294), some (.str "BadGrid" 302), some (.builtin "ValueError.__new__"), some (.bool true)]⟩
def o114 (P : Params) : Obj := tu [(.ref 31)]
def o121 (P : Params) : Obj := tu []
def o122 (P : Params) : Obj := ⟨(.type "dict"), none, (.dict ([de P "__module__" 326 (.str "unitgrids.errors" 187), de P "__firstlineno__" 330 (.int 20 329), de P "__static_attributes__" 331 (.ref 121), de P "__doc__" 332 .none] : List DictEntry).toArray 2), #[]⟩
def o123 (P : Params) : Obj := ⟨(.type "type"), none, (.cls ⟨"NoCell", [(.ref 31)], [(.ref 123), (.ref 31), (.type "ValueError"), (.type "Exception"), (.type "BaseException"), (.type "object")], 122, "NoCell", true, [], [], false, none, false⟩), #[some (.ref 114), none, some (.str "NoCell" 319), some (.str "NoCell" 327), some (.builtin "ValueError.__new__"), some (.bool true)]⟩
def o126 (P : Params) : Obj := tu [(.ref 31)]
def o133 (P : Params) : Obj := tu []
def o134 (P : Params) : Obj := ⟨(.type "dict"), none, (.dict ([de P "__module__" 342 (.str "unitgrids.errors" 187), de P "__firstlineno__" 346 (.int 22 345), de P "__static_attributes__" 347 (.ref 133), de P "__doc__" 348 .none] : List DictEntry).toArray 2), #[]⟩
def o135 (P : Params) : Obj := ⟨(.type "type"), none, (.cls ⟨"NoNumbers", [(.ref 31)], [(.ref 135), (.ref 31), (.type "ValueError"), (.type "Exception"), (.type "BaseException"), (.type "object")], 134, "NoNumbers", true, [], [], false, none, false⟩), #[some (.ref 126), none, some (.str "NoNumbers" 335), some (.str "NoNumbers" 343), some (.builtin "ValueError.__new__"), some (.bool true)]⟩
def o138 (P : Params) : Obj := tu [(.ref 31)]
def o145 (P : Params) : Obj := tu []
def o147 (P : Params) : Obj := tu [(.str "self" 366), (.str "part" 367)]
def o148 (P : Params) : Obj := tu []
def o150 (P : Params) : Obj := co [(.str "__init__" 363), (.str "BadScript.__init__" 364), (.str "/claim/cut.py" 365), (.int 26 0), (.int 2 0), (.int 0 0), (.int 0 0), (.int 3 0), (.ref 145), (.bool true), (.int 181 0), (.ref 146), .none, (.ref 147), (.ref 148), (.ref 149), (.int 368 0), (.int 26 0), (.str "/claim/cut.py" 369)]
def o151 (P : Params) : Obj := fo "__init__" "BadScript.__init__" (L2.inClass (tS 10) 0) .none .none .none (.str "unitgrids.errors" 187) none (.ref 150) .none
def o152 (P : Params) : Obj := tu [(.str "part" 371)]
def o153 (P : Params) : Obj := ⟨(.type "dict"), none, (.dict ([de P "__module__" 358 (.str "unitgrids.errors" 187), de P "__firstlineno__" 362 (.int 24 361), de P "__init__" 370 (.ref 151), de P "__static_attributes__" 372 (.ref 152), de P "__doc__" 373 .none] : List DictEntry).toArray 2), #[]⟩
def o154 (P : Params) : Obj := ⟨(.type "type"), none, (.cls ⟨"BadScript", [(.ref 31)], [(.ref 154), (.ref 31), (.type "ValueError"), (.type "Exception"), (.type "BaseException"), (.type "object")], 153, "BadScript", true, [], [], false, none, false⟩), #[some (.ref 138), none, some (.str "BadScript" 351), some (.str "BadScript" 359), some (.builtin "ValueError.__new__"), some (.bool true)]⟩
def o157 (P : Params) : Obj := tu [(.ref 31)]
def o164 (P : Params) : Obj := tu []
def o165 (P : Params) : Obj := ⟨(.type "dict"), none, (.dict ([de P "__module__" 383 (.str "unitgrids.errors" 187), de P "__firstlineno__" 387 (.int 28 386), de P "__static_attributes__" 388 (.ref 164), de P "__doc__" 389 .none] : List DictEntry).toArray 2), #[]⟩
def o166 (P : Params) : Obj := ⟨(.type "type"), none, (.cls ⟨"NoGrid", [(.ref 31)], [(.ref 166), (.ref 31), (.type "ValueError"), (.type "Exception"), (.type "BaseException"), (.type "object")], 165, "NoGrid", true, [], [], false, none, false⟩), #[some (.ref 157), none, some (.str "NoGrid" 376), some (.str "NoGrid" 384), some (.builtin "ValueError.__new__"), some (.bool true)]⟩
def o169 (P : Params) : Obj := tu [(.ref 31)]
def o176 (P : Params) : Obj := tu []
def o177 (P : Params) : Obj := ⟨(.type "dict"), none, (.dict ([de P "__module__" 399 (.str "unitgrids.errors" 187), de P "__firstlineno__" 403 (.int 30 402), de P "__static_attributes__" 404 (.ref 176), de P "__doc__" 405 .none] : List DictEntry).toArray 2), #[]⟩
def o178 (P : Params) : Obj := ⟨(.type "type"), none, (.cls ⟨"NoOrder", [(.ref 31)], [(.ref 178), (.ref 31), (.type "ValueError"), (.type "Exception"), (.type "BaseException"), (.type "object")], 177, "NoOrder", true, [], [], false, none, false⟩), #[some (.ref 169), none, some (.str "NoOrder" 392), some (.str "NoOrder" 400), some (.builtin "ValueError.__new__"), some (.bool true)]⟩
def o181 (P : Params) : Obj := tu [(.ref 31)]
def o188 (P : Params) : Obj := tu []
def o189 (P : Params) : Obj := ⟨(.type "dict"), none, (.dict ([de P "__module__" 415 (.str "unitgrids.errors" 187), de P "__firstlineno__" 419 (.int 32 418), de P "__static_attributes__" 420 (.ref 188), de P "__doc__" 421 .none] : List DictEntry).toArray 2), #[]⟩
def o190 (P : Params) : Obj := ⟨(.type "type"), none, (.cls ⟨"NoValues", [(.ref 31)], [(.ref 190), (.ref 31), (.type "ValueError"), (.type "Exception"), (.type "BaseException"), (.type "object")], 189, "NoValues", true, [], [], false, none, false⟩), #[some (.ref 181), none, some (.str "NoValues" 408), some (.str "NoValues" 416), some (.builtin "ValueError.__new__"), some (.bool true)]⟩
def o193 (P : Params) : Obj := tu [(.ref 31)]
def o200 (P : Params) : Obj := tu []
def o201 (P : Params) : Obj := ⟨(.type "dict"), none, (.dict ([de P "__module__" 431 (.str "unitgrids.errors" 187), de P "__firstlineno__" 435 (.int 34 434), de P "__static_attributes__" 436 (.ref 200), de P "__doc__" 437 .none] : List DictEntry).toArray 2), #[]⟩
def o202 (P : Params) : Obj := ⟨(.type "type"), none, (.cls ⟨"NoWay", [(.ref 31)], [(.ref 202), (.ref 31), (.type "ValueError"), (.type "Exception"), (.type "BaseException"), (.type "object")], 201, "NoWay", true, [], [], false, none, false⟩), #[some (.ref 193), none, some (.str "NoWay" 424), some (.str "NoWay" 432), some (.builtin "ValueError.__new__"), some (.bool true)]⟩
def o205 (P : Params) : Obj := tu [(.ref 31)]
def o212 (P : Params) : Obj := tu []
def o213 (P : Params) : Obj := ⟨(.type "dict"), none, (.dict ([de P "__module__" 447 (.str "unitgrids.errors" 187), de P "__firstlineno__" 451 (.int 36 450), de P "__static_attributes__" 452 (.ref 212), de P "__doc__" 453 .none] : List DictEntry).toArray 2), #[]⟩
def o214 (P : Params) : Obj := ⟨(.type "type"), none, (.cls ⟨"NoNumber", [(.ref 31)], [(.ref 214), (.ref 31), (.type "ValueError"), (.type "Exception"), (.type "BaseException"), (.type "object")], 213, "NoNumber", true, [], [], false, none, false⟩), #[some (.ref 205), none, some (.str "NoNumber" 440), some (.str "NoNumber" 448), some (.builtin "ValueError.__new__"), some (.bool true)]⟩
def o217 (P : Params) : Obj := tu [(.ref 31)]
def o224 (P : Params) : Obj := tu []
def o226 (P : Params) : Obj := tu [(.str "self" 471), (.str "most" 472)]
def o227 (P : Params) : Obj := tu []
def o229 (P : Params) : Obj := co [(.str "__init__" 468), (.str "TooMany.__init__" 469), (.str "/claim/cut.py" 470), (.int 40 0), (.int 2 0), (.int 0 0), (.int 0 0), (.int 3 0), (.ref 224), (.bool true), (.int 181 0), (.ref 225), .none, (.ref 226), (.ref 227), (.ref 228), (.int 473 0), (.int 40 0), (.str "/claim/cut.py" 474)]
def o230 (P : Params) : Obj := fo "__init__" "TooMany.__init__" (L2.inClass (tS 16) 0) .none .none .none (.str "unitgrids.errors" 187) none (.ref 229) .none
def o231 (P : Params) : Obj := tu [(.str "most" 476)]
def o232 (P : Params) : Obj := ⟨(.type "dict"), none, (.dict ([de P "__module__" 463 (.str "unitgrids.errors" 187), de P "__firstlineno__" 467 (.int 38 466), de P "__init__" 475 (.ref 230), de P "__static_attributes__" 477 (.ref 231), de P "__doc__" 478 .none] : List DictEntry).toArray 2), #[]⟩
def o233 (P : Params) : Obj := ⟨(.type "type"), none, (.cls ⟨"TooMany", [(.ref 31)], [(.ref 233), (.ref 31), (.type "ValueError"), (.type "Exception"), (.type "BaseException"), (.type "object")], 232, "TooMany", true, [], [], false, none, false⟩), #[some (.ref 217), none, some (.str "TooMany" 456), some (.str "TooMany" 464), some (.builtin "ValueError.__new__"), some (.bool true)]⟩
def o236 (P : Params) : Obj := tu [(.ref 31)]
def o243 (P : Params) : Obj := tu []
def o245 (P : Params) : Obj := tu [(.str "self" 496), (.str "most" 497)]
def o246 (P : Params) : Obj := tu []
def o248 (P : Params) : Obj := co [(.str "__init__" 493), (.str "TooLong.__init__" 494), (.str "/claim/cut.py" 495), (.int 44 0), (.int 2 0), (.int 0 0), (.int 0 0), (.int 3 0), (.ref 243), (.bool true), (.int 181 0), (.ref 244), .none, (.ref 245), (.ref 246), (.ref 247), (.int 498 0), (.int 44 0), (.str "/claim/cut.py" 499)]
def o249 (P : Params) : Obj := fo "__init__" "TooLong.__init__" (L2.inClass (tS 17) 0) .none .none .none (.str "unitgrids.errors" 187) none (.ref 248) .none
def o250 (P : Params) : Obj := tu [(.str "most" 501)]
def o251 (P : Params) : Obj := ⟨(.type "dict"), none, (.dict ([de P "__module__" 488 (.str "unitgrids.errors" 187), de P "__firstlineno__" 492 (.int 42 491), de P "__init__" 500 (.ref 249), de P "__static_attributes__" 502 (.ref 250), de P "__doc__" 503 .none] : List DictEntry).toArray 2), #[]⟩
def o252 (P : Params) : Obj := ⟨(.type "type"), none, (.cls ⟨"TooLong", [(.ref 31)], [(.ref 252), (.ref 31), (.type "ValueError"), (.type "Exception"), (.type "BaseException"), (.type "object")], 251, "TooLong", true, [], [], false, none, false⟩), #[some (.ref 236), none, some (.str "TooLong" 481), some (.str "TooLong" 489), some (.builtin "ValueError.__new__"), some (.bool true)]⟩
def o255 (P : Params) : Obj := tu [(.ref 31)]
def o262 (P : Params) : Obj := tu []
def o263 (P : Params) : Obj := ⟨(.type "dict"), none, (.dict ([de P "__module__" 513 (.str "unitgrids.errors" 187), de P "__firstlineno__" 517 (.int 46 516), de P "__static_attributes__" 518 (.ref 262), de P "__doc__" 519 .none] : List DictEntry).toArray 2), #[]⟩
def o264 (P : Params) : Obj := ⟨(.type "type"), none, (.cls ⟨"NoParting", [(.ref 31)], [(.ref 264), (.ref 31), (.type "ValueError"), (.type "Exception"), (.type "BaseException"), (.type "object")], 263, "NoParting", true, [], [], false, none, false⟩), #[some (.ref 255), none, some (.str "NoParting" 506), some (.str "NoParting" 514), some (.builtin "ValueError.__new__"), some (.bool true)]⟩
def o267 (P : Params) : Obj := tu [(.ref 31)]
def o274 (P : Params) : Obj := tu []
def o275 (P : Params) : Obj := ⟨(.type "dict"), none, (.dict ([de P "__module__" 529 (.str "unitgrids.errors" 187), de P "__firstlineno__" 533 (.int 48 532), de P "__static_attributes__" 534 (.ref 274), de P "__doc__" 535 .none] : List DictEntry).toArray 2), #[]⟩
def o276 (P : Params) : Obj := ⟨(.type "type"), none, (.cls ⟨"NotSquare", [(.ref 31)], [(.ref 276), (.ref 31), (.type "ValueError"), (.type "Exception"), (.type "BaseException"), (.type "object")], 275, "NotSquare", true, [], [], false, none, false⟩), #[some (.ref 267), none, some (.str "NotSquare" 522), some (.str "NotSquare" 530), some (.builtin "ValueError.__new__"), some (.bool true)]⟩
def o279 (P : Params) : Obj := tu [(.ref 31)]
def o286 (P : Params) : Obj := tu []
def o287 (P : Params) : Obj := ⟨(.type "dict"), none, (.dict ([de P "__module__" 545 (.str "unitgrids.errors" 187), de P "__firstlineno__" 549 (.int 50 548), de P "__static_attributes__" 550 (.ref 286), de P "__doc__" 551 .none] : List DictEntry).toArray 2), #[]⟩
def o288 (P : Params) : Obj := ⟨(.type "type"), none, (.cls ⟨"NoSquare", [(.ref 31)], [(.ref 288), (.ref 31), (.type "ValueError"), (.type "Exception"), (.type "BaseException"), (.type "object")], 287, "NoSquare", true, [], [], false, none, false⟩), #[some (.ref 279), none, some (.str "NoSquare" 538), some (.str "NoSquare" 546), some (.builtin "ValueError.__new__"), some (.bool true)]⟩
def o291 (P : Params) : Obj := tu [(.ref 31)]
def o298 (P : Params) : Obj := tu []
def o299 (P : Params) : Obj := ⟨(.type "dict"), none, (.dict ([de P "__module__" 561 (.str "unitgrids.errors" 187), de P "__firstlineno__" 565 (.int 52 564), de P "__static_attributes__" 566 (.ref 298), de P "__doc__" 567 .none] : List DictEntry).toArray 2), #[]⟩
def o300 (P : Params) : Obj := ⟨(.type "type"), none, (.cls ⟨"NoPlacing", [(.ref 31)], [(.ref 300), (.ref 31), (.type "ValueError"), (.type "Exception"), (.type "BaseException"), (.type "object")], 299, "NoPlacing", true, [], [], false, none, false⟩), #[some (.ref 291), none, some (.str "NoPlacing" 554), some (.str "NoPlacing" 562), some (.builtin "ValueError.__new__"), some (.bool true)]⟩
def o303 (P : Params) : Obj := tu [(.ref 31)]
def o310 (P : Params) : Obj := tu []
def o311 (P : Params) : Obj := ⟨(.type "dict"), none, (.dict ([de P "__module__" 577 (.str "unitgrids.errors" 187), de P "__firstlineno__" 581 (.int 54 580), de P "__static_attributes__" 582 (.ref 310), de P "__doc__" 583 .none] : List DictEntry).toArray 2), #[]⟩
def o312 (P : Params) : Obj := ⟨(.type "type"), none, (.cls ⟨"NoRight", [(.ref 31)], [(.ref 312), (.ref 31), (.type "ValueError"), (.type "Exception"), (.type "BaseException"), (.type "object")], 311, "NoRight", true, [], [], false, none, false⟩), #[some (.ref 303), none, some (.str "NoRight" 570), some (.str "NoRight" 578), some (.builtin "ValueError.__new__"), some (.bool true)]⟩
def o315 (P : Params) : Obj := tu [(.ref 31)]
def o322 (P : Params) : Obj := tu []
def o324 (P : Params) : Obj := tu [(.str "self" 601), (.str "place" 602)]
def o325 (P : Params) : Obj := tu []
def o327 (P : Params) : Obj := co [(.str "__init__" 598), (.str "BadLine.__init__" 599), (.str "/claim/cut.py" 600), (.int 58 0), (.int 2 0), (.int 0 0), (.int 0 0), (.int 3 0), (.ref 322), (.bool true), (.int 181 0), (.ref 323), .none, (.ref 324), (.ref 325), (.ref 326), (.int 603 0), (.int 58 0), (.str "/claim/cut.py" 604)]
def o328 (P : Params) : Obj := fo "__init__" "BadLine.__init__" (L2.inClass (tS 23) 0) .none .none .none (.str "unitgrids.errors" 187) none (.ref 327) .none
def o329 (P : Params) : Obj := tu [(.str "place" 606)]
def o330 (P : Params) : Obj := ⟨(.type "dict"), none, (.dict ([de P "__module__" 593 (.str "unitgrids.errors" 187), de P "__firstlineno__" 597 (.int 56 596), de P "__init__" 605 (.ref 328), de P "__static_attributes__" 607 (.ref 329), de P "__doc__" 608 .none] : List DictEntry).toArray 2), #[]⟩
def o331 (P : Params) : Obj := ⟨(.type "type"), none, (.cls ⟨"BadLine", [(.ref 31)], [(.ref 331), (.ref 31), (.type "ValueError"), (.type "Exception"), (.type "BaseException"), (.type "object")], 330, "BadLine", true, [], [], false, none, false⟩), #[some (.ref 315), none, some (.str "BadLine" 586), some (.str "BadLine" 594), some (.builtin "ValueError.__new__"), some (.bool true)]⟩
def o334 (P : Params) : Obj := tu [(.ref 31)]
def o341 (P : Params) : Obj := tu []
def o342 (P : Params) : Obj := ⟨(.type "dict"), none, (.dict ([de P "__module__" 618 (.str "unitgrids.errors" 187), de P "__firstlineno__" 622 (.int 60 621), de P "__static_attributes__" 623 (.ref 341), de P "__doc__" 624 .none] : List DictEntry).toArray 2), #[]⟩
def o343 (P : Params) : Obj := ⟨(.type "type"), none, (.cls ⟨"NoAnswer", [(.ref 31)], [(.ref 343), (.ref 31), (.type "ValueError"), (.type "Exception"), (.type "BaseException"), (.type "object")], 342, "NoAnswer", true, [], [], false, none, false⟩), #[some (.ref 334), none, some (.str "NoAnswer" 611), some (.str "NoAnswer" 619), some (.builtin "ValueError.__new__"), some (.bool true)]⟩
def o346 (P : Params) : Obj := tu [(.ref 31)]
def o353 (P : Params) : Obj := tu []
def o354 (P : Params) : Obj := ⟨(.type "dict"), none, (.dict ([de P "__module__" 634 (.str "unitgrids.errors" 187), de P "__firstlineno__" 638 (.int 62 637), de P "__static_attributes__" 639 (.ref 353), de P "__doc__" 640 .none] : List DictEntry).toArray 2), #[]⟩
def o355 (P : Params) : Obj := ⟨(.type "type"), none, (.cls ⟨"NoText", [(.ref 31)], [(.ref 355), (.ref 31), (.type "ValueError"), (.type "Exception"), (.type "BaseException"), (.type "object")], 354, "NoText", true, [], [], false, none, false⟩), #[some (.ref 346), none, some (.str "NoText" 627), some (.str "NoText" 635), some (.builtin "ValueError.__new__"), some (.bool true)]⟩
def o358 (P : Params) : Obj := tu [(.ref 31)]
def o365 (P : Params) : Obj := tu []
def o366 (P : Params) : Obj := ⟨(.type "dict"), none, (.dict ([de P "__module__" 650 (.str "unitgrids.errors" 187), de P "__firstlineno__" 654 (.int 64 653), de P "__static_attributes__" 655 (.ref 365), de P "__doc__" 656 .none] : List DictEntry).toArray 2), #[]⟩
def o367 (P : Params) : Obj := ⟨(.type "type"), none, (.cls ⟨"NothingDone", [(.ref 31)], [(.ref 367), (.ref 31), (.type "ValueError"), (.type "Exception"), (.type "BaseException"), (.type "object")], 366, "NothingDone", true, [], [], false, none, false⟩), #[some (.ref 358), none, some (.str "NothingDone" 643), some (.str "NothingDone" 651), some (.builtin "ValueError.__new__"), some (.bool true)]⟩
def o370 (P : Params) : Obj := tu [(.ref 31)]
def o377 (P : Params) : Obj := tu []
def o378 (P : Params) : Obj := ⟨(.type "dict"), none, (.dict ([de P "__module__" 666 (.str "unitgrids.errors" 187), de P "__firstlineno__" 670 (.int 66 669), de P "__static_attributes__" 671 (.ref 377), de P "__doc__" 672 .none] : List DictEntry).toArray 2), #[]⟩
def o379 (P : Params) : Obj := ⟨(.type "type"), none, (.cls ⟨"NoLine", [(.ref 31)], [(.ref 379), (.ref 31), (.type "ValueError"), (.type "Exception"), (.type "BaseException"), (.type "object")], 378, "NoLine", true, [], [], false, none, false⟩), #[some (.ref 370), none, some (.str "NoLine" 659), some (.str "NoLine" 667), some (.builtin "ValueError.__new__"), some (.bool true)]⟩
def o382 (P : Params) : Obj := tu [(.ref 31)]
def o389 (P : Params) : Obj := tu []
def o391 (P : Params) : Obj := tu [(.str "self" 690), (.str "name" 691)]
def o392 (P : Params) : Obj := tu []
def o394 (P : Params) : Obj := co [(.str "__init__" 687), (.str "Unknown.__init__" 688), (.str "/claim/cut.py" 689), (.int 70 0), (.int 2 0), (.int 0 0), (.int 0 0), (.int 3 0), (.ref 389), (.bool true), (.int 181 0), (.ref 390), .none, (.ref 391), (.ref 392), (.ref 393), (.int 692 0), (.int 70 0), (.str "/claim/cut.py" 693)]
def o395 (P : Params) : Obj := fo "__init__" "Unknown.__init__" (L2.inClass (tS 28) 0) .none .none .none (.str "unitgrids.errors" 187) none (.ref 394) .none
def o396 (P : Params) : Obj := tu [(.str "name" 695)]
def o397 (P : Params) : Obj := ⟨(.type "dict"), none, (.dict ([de P "__module__" 682 (.str "unitgrids.errors" 187), de P "__firstlineno__" 686 (.int 68 685), de P "__init__" 694 (.ref 395), de P "__static_attributes__" 696 (.ref 396), de P "__doc__" 697 .none] : List DictEntry).toArray 2), #[]⟩
def o398 (P : Params) : Obj := ⟨(.type "type"), none, (.cls ⟨"Unknown", [(.ref 31)], [(.ref 398), (.ref 31), (.type "ValueError"), (.type "Exception"), (.type "BaseException"), (.type "object")], 397, "Unknown", true, [], [], false, none, false⟩), #[some (.ref 382), none, some (.str "Unknown" 675), some (.str "Unknown" 683), some (.builtin "ValueError.__new__"), some (.bool true)]⟩
def o401 (P : Params) : Obj := tu []
def o403 (P : Params) : Obj := tu [(.str "script" 705), (.str "turn" 706)]
def o404 (P : Params) : Obj := tu []
def o406 (P : Params) : Obj := co [(.str "_law_state" 702), (.str "_law_state" 703), (.str "/claim/cut.py" 704), (.int 73 0), (.int 2 0), (.int 0 0), (.int 0 0), (.int 3 0), (.ref 401), (.bool true), (.int 181 0), (.ref 402), .none, (.ref 403), (.ref 404), (.ref 405), (.int 707 0), (.int 73 0), (.str "/claim/cut.py" 708)]
def o407 (P : Params) : Obj := fo "_law_state" "_law_state" (tS 30) .none .none .none (.str "law_unitgrids_k00_errors" 700) none (.ref 406) .none
def o408 (P : Params) : Obj := tu []
def o410 (P : Params) : Obj := tu [(.str "number" 713), (.str "more" 714)]
def o411 (P : Params) : Obj := tu []
def o413 (P : Params) : Obj := co [(.str "_law_mixed" 710), (.str "_law_mixed" 711), (.str "/claim/cut.py" 712), (.int 75 0), (.int 2 0), (.int 0 0), (.int 0 0), (.int 3 0), (.ref 408), (.bool true), (.int 181 0), (.ref 409), .none, (.ref 410), (.ref 411), (.ref 412), (.int 715 0), (.int 75 0), (.str "/claim/cut.py" 716)]
def o414 (P : Params) : Obj := fo "_law_mixed" "_law_mixed" (tS 31) .none .none .none (.str "law_unitgrids_k00_errors" 700) none (.ref 413) .none
def o415 (P : Params) : Obj := tu []
def o417 (P : Params) : Obj := tu [(.str "state" 721), (.str "many" 722), (.str "taken" 723), (.str "found" 724)]
def o418 (P : Params) : Obj := tu []
def o420 (P : Params) : Obj := co [(.str "_law_draw" 718), (.str "_law_draw" 719), (.str "/claim/cut.py" 720), (.int 79 0), (.int 2 0), (.int 0 0), (.int 0 0), (.int 3 0), (.ref 415), (.bool true), (.int 181 0), (.ref 416), .none, (.ref 417), (.ref 418), (.ref 419), (.int 725 0), (.int 79 0), (.str "/claim/cut.py" 726)]
def o421 (P : Params) : Obj := fo "_law_draw" "_law_draw" (tS 32) .none .none .none (.str "law_unitgrids_k00_errors" 700) none (.ref 420) .none
def o422 (P : Params) : Obj := tu []
def o424 (P : Params) : Obj := tu [(.str "state" 731), (.str "number" 732), (.str "values" 733)]
def o425 (P : Params) : Obj := tu []
def o427 (P : Params) : Obj := co [(.str "_law_value" 728), (.str "_law_value" 729), (.str "/claim/cut.py" 730), (.int 93 0), (.int 1 0), (.int 0 0), (.int 0 0), (.int 3 0), (.ref 422), (.bool true), (.int 181 0), (.ref 423), .none, (.ref 424), (.ref 425), (.ref 426), (.int 734 0), (.int 93 0), (.str "/claim/cut.py" 735)]
def o428 (P : Params) : Obj := fo "_law_value" "_law_value" (tS 33) .none .none .none (.str "law_unitgrids_k00_errors" 700) none (.ref 427) .none
def o429 (P : Params) : Obj := tu []
def o431 (P : Params) : Obj := tu [(.str "value" 740), (.str "first" 741), (.str "second" 742), (.str "third" 743)]
def o432 (P : Params) : Obj := tu []
def o434 (P : Params) : Obj := co [(.str "_law_made" 737), (.str "_law_made" 738), (.str "/claim/cut.py" 739), (.int 97 0), (.int 1 0), (.int 0 0), (.int 0 0), (.int 3 0), (.ref 429), (.bool true), (.int 181 0), (.ref 430), .none, (.ref 431), (.ref 432), (.ref 433), (.int 744 0), (.int 97 0), (.str "/claim/cut.py" 745)]
def o435 (P : Params) : Obj := fo "_law_made" "_law_made" (tS 34) .none .none .none (.str "law_unitgrids_k00_errors" 700) none (.ref 434) .none
def o436 (P : Params) : Obj := tu []
def o438 (P : Params) : Obj := tu [(.str "e" 750), (.str "first" 751), (.str "second" 752), (.str "third" 753), (.str "fourth" 754), (.str "fifth" 755), (.str "sixth" 756)]
def o439 (P : Params) : Obj := tu []
def o441 (P : Params) : Obj := co [(.str "_law_classes" 747), (.str "_law_classes" 748), (.str "/claim/cut.py" 749), (.int 102 0), (.int 1 0), (.int 0 0), (.int 0 0), (.int 3 0), (.ref 436), (.bool true), (.int 181 0), (.ref 437), .none, (.ref 438), (.ref 439), (.ref 440), (.int 757 0), (.int 102 0), (.str "/claim/cut.py" 758)]
def o442 (P : Params) : Obj := fo "_law_classes" "_law_classes" (tS 35) .none .none .none (.str "law_unitgrids_k00_errors" 700) none (.ref 441) .none
def o443 (P : Params) : Obj := tu []
def o445 (P : Params) : Obj := tu [(.str "made" 763)]
def o446 (P : Params) : Obj := tu []
def o448 (P : Params) : Obj := co [(.str "_law_kept" 760), (.str "_law_kept" 761), (.str "/claim/cut.py" 762), (.int 110 0), (.int 1 0), (.int 0 0), (.int 0 0), (.int 3 0), (.ref 443), (.bool true), (.int 181 0), (.ref 444), .none, (.ref 445), (.ref 446), (.ref 447), (.int 764 0), (.int 110 0), (.str "/claim/cut.py" 765)]
def o449 (P : Params) : Obj := fo "_law_kept" "_law_kept" (tS 36) .none .none .none (.str "law_unitgrids_k00_errors" 700) none (.ref 448) .none
def o450 (P : Params) : Obj := tu []
def o452 (P : Params) : Obj := tu [(.str "one" 770), (.str "other" 771)]
def o453 (P : Params) : Obj := tu []
def o455 (P : Params) : Obj := co [(.str "_law_alike" 767), (.str "_law_alike" 768), (.str "/claim/cut.py" 769), (.int 112 0), (.int 2 0), (.int 0 0), (.int 0 0), (.int 3 0), (.ref 450), (.bool true), (.int 181 0), (.ref 451), .none, (.ref 452), (.ref 453), (.ref 454), (.int 772 0), (.int 112 0), (.str "/claim/cut.py" 773)]
def o456 (P : Params) : Obj := fo "_law_alike" "_law_alike" (tS 37) .none .none .none (.str "law_unitgrids_k00_errors" 700) none (.ref 455) .none
def o457 (P : Params) : Obj := tu []
def o460 (P : Params) : Obj := co [(.str "law" 775), (.str "law" 776), (.str "/claim/cut.py" 777), (.int 114 0), (.int 1 0), (.int 0 0), (.int 0 0), (.int 3 0), (.ref 457), (.bool true), (.int 181 0), (.ref 458), .none, .none, .none, (.ref 459), (.int 778 0), (.int 114 0), (.str "/claim/cut.py" 779)]
def o461 (P : Params) : Obj := fo "law" "law" (tS 38) .none .none .none (.str "law_unitgrids_k00_errors" 700) none (.ref 460) .none
def KF : Params → Frag := fun P => (nat_lit 2, o2 P) :: (nat_lit 3, o3 P) :: (nat_lit 15, o15 P) :: (nat_lit 22, o22 P) :: (nat_lit 24, o24 P) :: (nat_lit 25, o25 P) :: (nat_lit 27, o27 P) :: (nat_lit 28, o28 P) :: (nat_lit 29, o29 P) :: (nat_lit 30, o30 P) :: (nat_lit 31, o31 P) :: (nat_lit 32, o32 P) :: (nat_lit 35, o35 P) :: (nat_lit 42, o42 P) :: (nat_lit 43, o43 P) :: (nat_lit 44, o44 P) :: (nat_lit 47, o47 P) :: (nat_lit 54, o54 P) :: (nat_lit 55, o55 P) :: (nat_lit 56, o56 P) :: (nat_lit 59, o59 P) :: (nat_lit 66, o66 P) :: (nat_lit 67, o67 P) :: (nat_lit 68, o68 P) :: (nat_lit 71, o71 P) :: (nat_lit 78, o78 P) :: (nat_lit 79, o79 P) :: (nat_lit 80, o80 P) :: (nat_lit 83, o83 P) :: (nat_lit 90, o90 P) :: (nat_lit 91, o91 P) :: (nat_lit 92, o92 P) :: (nat_lit 95, o95 P) :: (nat_lit 102, o102 P) :: (nat_lit 104, o104 P) :: (nat_lit 105, o105 P) :: (nat_lit 107, o107 P) :: (nat_lit 108, o108 P) :: (nat_lit 109, o109 P) :: (nat_lit 110, o110 P) :: (nat_lit 111, o111 P) :: (nat_lit 114, o114 P) :: (nat_lit 121, o121 P) :: (nat_lit 122, o122 P) :: (nat_lit 123, o123 P) :: (nat_lit 126, o126 P) :: (nat_lit 133, o133 P) :: (nat_lit 134, o134 P) :: (nat_lit 135, o135 P) :: (nat_lit 138, o138 P) :: (nat_lit 145, o145 P) :: (nat_lit 147, o147 P) :: (nat_lit 148, o148 P) :: (nat_lit 150, o150 P) :: (nat_lit 151, o151 P) :: (nat_lit 152, o152 P) :: (nat_lit 153, o153 P) :: (nat_lit 154, o154 P) :: (nat_lit 157, o157 P) :: (nat_lit 164, o164 P) :: (nat_lit 165, o165 P) :: (nat_lit 166, o166 P) :: (nat_lit 169, o169 P) :: (nat_lit 176, o176 P) :: (nat_lit 177, o177 P) :: (nat_lit 178, o178 P) :: (nat_lit 181, o181 P) :: (nat_lit 188, o188 P) :: (nat_lit 189, o189 P) :: (nat_lit 190, o190 P) :: (nat_lit 193, o193 P) :: (nat_lit 200, o200 P) :: (nat_lit 201, o201 P) :: (nat_lit 202, o202 P) :: (nat_lit 205, o205 P) :: (nat_lit 212, o212 P) :: (nat_lit 213, o213 P) :: (nat_lit 214, o214 P) :: (nat_lit 217, o217 P) :: (nat_lit 224, o224 P) :: (nat_lit 226, o226 P) :: (nat_lit 227, o227 P) :: (nat_lit 229, o229 P) :: (nat_lit 230, o230 P) :: (nat_lit 231, o231 P) :: (nat_lit 232, o232 P) :: (nat_lit 233, o233 P) :: (nat_lit 236, o236 P) :: (nat_lit 243, o243 P) :: (nat_lit 245, o245 P) :: (nat_lit 246, o246 P) :: (nat_lit 248, o248 P) :: (nat_lit 249, o249 P) :: (nat_lit 250, o250 P) :: (nat_lit 251, o251 P) :: (nat_lit 252, o252 P) :: (nat_lit 255, o255 P) :: (nat_lit 262, o262 P) :: (nat_lit 263, o263 P) :: (nat_lit 264, o264 P) :: (nat_lit 267, o267 P) :: (nat_lit 274, o274 P) :: (nat_lit 275, o275 P) :: (nat_lit 276, o276 P) :: (nat_lit 279, o279 P) :: (nat_lit 286, o286 P) :: (nat_lit 287, o287 P) :: (nat_lit 288, o288 P) :: (nat_lit 291, o291 P) :: (nat_lit 298, o298 P) :: (nat_lit 299, o299 P) :: (nat_lit 300, o300 P) :: (nat_lit 303, o303 P) :: (nat_lit 310, o310 P) :: (nat_lit 311, o311 P) :: (nat_lit 312, o312 P) :: (nat_lit 315, o315 P) :: (nat_lit 322, o322 P) :: (nat_lit 324, o324 P) :: (nat_lit 325, o325 P) :: (nat_lit 327, o327 P) :: (nat_lit 328, o328 P) :: (nat_lit 329, o329 P) :: (nat_lit 330, o330 P) :: (nat_lit 331, o331 P) :: (nat_lit 334, o334 P) :: (nat_lit 341, o341 P) :: (nat_lit 342, o342 P) :: (nat_lit 343, o343 P) :: (nat_lit 346, o346 P) :: (nat_lit 353, o353 P) :: (nat_lit 354, o354 P) :: (nat_lit 355, o355 P) :: (nat_lit 358, o358 P) :: (nat_lit 365, o365 P) :: (nat_lit 366, o366 P) :: (nat_lit 367, o367 P) :: (nat_lit 370, o370 P) :: (nat_lit 377, o377 P) :: (nat_lit 378, o378 P) :: (nat_lit 379, o379 P) :: (nat_lit 382, o382 P) :: (nat_lit 389, o389 P) :: (nat_lit 391, o391 P) :: (nat_lit 392, o392 P) :: (nat_lit 394, o394 P) :: (nat_lit 395, o395 P) :: (nat_lit 396, o396 P) :: (nat_lit 397, o397 P) :: (nat_lit 398, o398 P) :: (nat_lit 401, o401 P) :: (nat_lit 403, o403 P) :: (nat_lit 404, o404 P) :: (nat_lit 406, o406 P) :: (nat_lit 407, o407 P) :: (nat_lit 408, o408 P) :: (nat_lit 410, o410 P) :: (nat_lit 411, o411 P) :: (nat_lit 413, o413 P) :: (nat_lit 414, o414 P) :: (nat_lit 415, o415 P) :: (nat_lit 417, o417 P) :: (nat_lit 418, o418 P) :: (nat_lit 420, o420 P) :: (nat_lit 421, o421 P) :: (nat_lit 422, o422 P) :: (nat_lit 424, o424 P) :: (nat_lit 425, o425 P) :: (nat_lit 427, o427 P) :: (nat_lit 428, o428 P) :: (nat_lit 429, o429 P) :: (nat_lit 431, o431 P) :: (nat_lit 432, o432 P) :: (nat_lit 434, o434 P) :: (nat_lit 435, o435 P) :: (nat_lit 436, o436 P) :: (nat_lit 438, o438 P) :: (nat_lit 439, o439 P) :: (nat_lit 441, o441 P) :: (nat_lit 442, o442 P) :: (nat_lit 443, o443 P) :: (nat_lit 445, o445 P) :: (nat_lit 446, o446 P) :: (nat_lit 448, o448 P) :: (nat_lit 449, o449 P) :: (nat_lit 450, o450 P) :: (nat_lit 452, o452 P) :: (nat_lit 453, o453 P) :: (nat_lit 455, o455 P) :: (nat_lit 456, o456 P) :: (nat_lit 457, o457 P) :: (nat_lit 460, o460 P) :: (nat_lit 461, o461 P) :: []
def as_ : List Addr := (2 :: 3 :: 15 :: 22 :: 24 :: 25 :: 27 :: 28 :: 29 :: 30 :: 31 :: 32 :: 35 :: 42 :: 43 :: 44 :: 47 :: 54 :: 55 :: 56 :: 59 :: 66 :: 67 :: 68 :: 71 :: 78 :: 79 :: 80 :: 83 :: 90 :: 91 :: 92 :: 95 :: 102 :: 104 :: 105 :: 107 :: 108 :: 109 :: 110 :: 111 :: 114 :: 121 :: 122 :: 123 :: 126 :: 133 :: 134 :: 135 :: 138 :: 145 :: 147 :: 148 :: 150 :: 151 :: 152 :: 153 :: 154 :: 157 :: 164 :: 165 :: 166 :: 169 :: 176 :: 177 :: 178 :: 181 :: 188 :: 189 :: 190 :: 193 :: 200 :: 201 :: 202 :: 205 :: 212 :: 213 :: 214 :: 217 :: 224 :: 226 :: 227 :: 229 :: 230 :: 231 :: 232 :: 233 :: 236 :: 243 :: 245 :: 246 :: 248 :: 249 :: 250 :: 251 :: 252 :: 255 :: 262 :: 263 :: 264 :: 267 :: 274 :: 275 :: 276 :: 279 :: 286 :: 287 :: 288 :: 291 :: 298 :: 299 :: 300 :: 303 :: 310 :: 311 :: 312 :: 315 :: 322 :: 324 :: 325 :: 327 :: 328 :: 329 :: 330 :: 331 :: 334 :: 341 :: 342 :: 343 :: 346 :: 353 :: 354 :: 355 :: 358 :: 365 :: 366 :: 367 :: 370 :: 377 :: 378 :: 379 :: 382 :: 389 :: 391 :: 392 :: 394 :: 395 :: 396 :: 397 :: 398 :: 401 :: 403 :: 404 :: 406 :: 407 :: 408 :: 410 :: 411 :: 413 :: 414 :: 415 :: 417 :: 418 :: 420 :: 421 :: 422 :: 424 :: 425 :: 427 :: 428 :: 429 :: 431 :: 432 :: 434 :: 435 :: 436 :: 438 :: 439 :: 441 :: 442 :: 443 :: 445 :: 446 :: 448 :: 449 :: 450 :: 452 :: 453 :: 455 :: 456 :: 457 :: 460 :: 461 :: [])
def loose_ : List PySem.Str := (("GridError" :: "NoUnit" :: "OtherBases" :: "NoFraction" :: "NoRoots" :: "NoScale" :: "BadGrid" :: "NoCell" :: "NoNumbers" :: "BadScript" :: "NoGrid" :: "NoOrder" :: "NoValues" :: "NoWay" :: "NoNumber" :: "TooMany" :: "TooLong" :: "NoParting" :: "NotSquare" :: "NoSquare" :: "NoPlacing" :: "NoRight" :: "BadLine" :: "NoAnswer" :: "NoText" :: "NothingDone" :: "NoLine" :: "Unknown" :: "_law_state" :: "_law_mixed" :: "_law_draw" :: "_law_value" :: "_law_made" :: "_law_classes" :: "_law_kept" :: "_law_alike" :: []) : List String).map PySem.Str.ofString
abbrev row_ : OpenRow := PySem.Challenge.rw_unitgrids_k00_errors.row
def q_ : Program := { row_.prog with main := { row_.prog.main with body := [tS 38] } }
theorem ek_ : ∀ P, as_ = (KF P).map (·.1) := fun _ => by rfl
theorem looks (w : World) : Looks row_ q_ 13730 loose_ w := by kernel_rfl
theorem reads (w : World) : Reads row_ KF as_ 13730 w := by kernel_rfl
theorem run (w : World) : HeadRun.RunEqI row_ q_ (kHook KF as_ ek_) (fun s => as_.map (HeadRun.getT s)) 13730 loose_ w := run_of (looks w) (reads w)
theorem run_ (w : World) : HeadRun.RunEqI row_ q_ (kHook KF as_ ek_) (fun s => as_.map (HeadRun.getT s)) 13730 loose_ w := (run) w
end Hd
set_option Elab.async false
set_option linter.all false
set_option maxRecDepth 100000
set_option maxHeartbeats 4000000
namespace PD
open PySem PySem.Spec PyProof.Rows L2
/-- plain data: what a value says, whatever its addresses are; st: the one list that a law draws from -/
inductive D where
  | non | bl (b : Bool) | int (i : Int) | str (x : Str) | ty (n : String)
  | tup (xs : List D) | lst (xs : List D) | st | obj (a : Addr)
  /-- a dict, whatever is in it; an instance of the class at C: its fields' names and what they hold -/
  | dct | ins (C : Addr) (ns : List Str) (ds : List D)
  /-- a tuple of ints whose object is known -/
  | tpn (l : List Int)
  /-- a caught exception: its own dict's place, names and data -/
  | exc (a dx : Addr) (ns : List Str) (ds : List D)
  /-- an exception held as a value: its class, its fields' names and data -/
  | xob (C : Addr) (ns : List Str) (ds : List D)
  /-- a dict by its keys, ints and texts, in order, and what they lead to -/
  | dic (ks : List Key) (ds : List D)
abbrev DS := List (Option D)
structure Wd where
  K : PySem.W.Frag
  s : Option Addr
  b : Addr
mutual
inductive Rep (W : Wd) (M : Addr → Prop) (H : Hp) : V → D → Prop
  | non : Rep W M H .non .non
  | bl (b : Bool) : Rep W M H (.bl b) (.bl b)
  | int (i : Int) : Rep W M H (.int i) (.int i)
  | str (x : Str) : Rep W M H (.str x) (.str x)
  | ty (n : String) : Rep W M H (.ty n) (.ty n)
  | tup {a : Addr} {vs : List V} {ds : List D} : SqT W.K H a vs → Reps W M H vs ds → Rep W M H (.ref a) (.tup ds)
  | lst {a : Addr} {vs : List V} {ds : List D} : ¬ M a → H a = some (.lst vs) → Reps W M H vs ds → Rep W M H (.ref a) (.lst ds)
  | st {a : Addr} : W.s = some a → Rep W M H (.ref a) .st
  | obj (a : Addr) : Rep W M H (.ref a) (.obj a)
  | dct {a : Addr} {kvs : List (Key × V)} : ¬ M a → H a = some (.dK kvs) → Rep W M H (.ref a) .dct
  | tpn {a : Addr} {o : PySem.Obj} {l : List Int} (c : o.cls = .type "tuple" ∧ o.dict = none) : ¬ M a → H a = some (.frz o (.tup (l.map V.int))) → Rep W M H (.ref a) (.tpn l)
  | ins {a C dx : Addr} {fs : List (Str × V)} {ns : List Str} {ds : List D} : ¬ M a → H a = some (.ins C dx fs) → fs.map (·.1) = ns → Reps W M H (fs.map (·.2)) ds → Rep W M H (.ref a) (.ins C ns ds)
  | exc {a dx : Addr} {fs : List (Str × V)} {ns : List Str} {ds : List D} : ¬ M dx → H dx = some (.xd fs) → fs.map (·.1) = ns → Reps W M H (fs.map (·.2)) ds → Rep W M H (.ref a) (.exc a dx ns ds)
  | xob0 {a C : Addr} : ¬ M a → H a = some (exo a C none) → Rep W M H (.ref a) (.xob C [] [])
  | xob {a C dx : Addr} {fs : List (Str × V)} {ns : List Str} {ds : List D} : ¬ M a → H a = some (exo a C (some dx)) → ¬ M dx → H dx = some (exd dx fs) → fs.map (·.1) = ns → Reps W M H (fs.map (·.2)) ds → Rep W M H (.ref a) (.xob C ns ds)
  | dic {a : Addr} {kvs : List (Key × V)} {ks : List Key} {ds : List D} : ¬ M a → H a = some (.dK kvs) → kvs.map (·.1) = ks → Reps W M H (kvs.map (·.2)) ds → Rep W M H (.ref a) (.dic ks ds)
inductive Reps (W : Wd) (M : Addr → Prop) (H : Hp) : List V → List D → Prop
  | nil : Reps W M H [] []
  | cons {v : V} {vs : List V} {d : D} {ds : List D} : Rep W M H v d → Reps W M H vs ds → Reps W M H (v :: vs) (d :: ds)
end
theorem Reps.length {W : Wd} {M : Addr → Prop} {H : Hp} : ∀ {vs : List V} {ds : List D}, Reps W M H vs ds → vs.length = ds.length
  | _, _, .nil => rfl
  | _, _, .cons _ t => by
    show _ + 1 = _ + 1
    rw [t.length]
theorem Reps.get {W : Wd} {M : Addr → Prop} {H : Hp} : ∀ {vs : List V} {ds : List D} {i : Nat} {d : D}, Reps W M H vs ds → ds[i]? = some d → ∃ v, vs[i]? = some v ∧ Rep W M H v d
  | _, _, _, _, .nil, e => by simp at e
  | _, _, 0, _, .cons r _, e => by
    simp at e
    subst e
    exact ⟨_, rfl, r⟩
  | _, _, i + 1, d, .cons _ t, e => by
    obtain ⟨v, h1, h2⟩ := Reps.get (i := i) (d := d) t (by simpa using e)
    exact ⟨v, by simpa using h1, h2⟩
theorem Reps.append {W : Wd} {M : Addr → Prop} {H : Hp} : ∀ {vs us : List V} {ds es : List D}, Reps W M H vs ds → Reps W M H us es → Reps W M H (vs ++ us) (ds ++ es)
  | _, _, _, _, .nil, s => s
  | _, _, _, _, .cons r t, s => .cons r (t.append s)
/-- the list that a law draws from: [the script, the place, what is left, the mix] -/
def StAt (b : Addr) (H : Hp) (s : Addr) : Prop := ∃ (ns : List Int) (i c m : Int), H s = some (.lst [.ref b, .int i, .int c, .int m]) ∧ b ≠ s ∧ H b = some (.lst (ns.map V.int)) ∧ 0 ≤ i ∧ i ≤ 100 ∧ ns.length ≤ 63 ∧ 0 ≤ c ∧ 0 ≤ m ∧ m < 2147483647
def StOk (W : Wd) (H : Hp) : Prop := ∀ s, W.s = some s → StAt W.b H s
def Keep (W : Wd) (H H' : Hp) : Prop := ∀ a o, W.s ≠ some a → H a = some o → H' a = some o
structure Wf (W : Wd) (M : Addr → Prop) (H : Hp) : Prop where
  g : StOk W H
  sm : ∀ a, W.s = some a → M a
  dom : ∀ a, M a → ∃ o, H a = some o
structure Wg (W : Wd) (M : Addr → Prop) (H : Hp) : Prop where
  g : StOk W H
  sm : ∀ a, W.s = some a → M a
theorem Wf.wg {W : Wd} {M : Addr → Prop} {H : Hp} (w : Wf W M H) : Wg W M H := ⟨w.g, w.sm⟩
theorem Keep.refl {W : Wd} (H : Hp) : Keep W H H := fun _ _ _ h => h
theorem Keep.trans {W : Wd} {H H1 H2 : Hp} (a : Keep W H H1) (b : Keep W H1 H2) : Keep W H H2 := fun x o n h => b x o n (a x o n h)
theorem Keep.new {W : Wd} {H : Hp} {p : Addr} {o : HO} (h : H p = none) : Keep W H (upd H p o) := fun a u _ e => by
  rw [upd_ne (ne_of_none e h)]
  exact e
theorem StAt.new {b : Addr} {H : Hp} {s p : Addr} {o : HO} (h : H p = none) (g : StAt b H s) : StAt b (upd H p o) s := by
  obtain ⟨ns, i, c, m, h1, h2, h3, r⟩ := g
  exact ⟨ns, i, c, m, by rw [upd_ne (ne_of_none h1 h)]; exact h1, h2, by rw [upd_ne (ne_of_none h3 h)]; exact h3, r⟩
theorem StOk.new {W : Wd} {H : Hp} {p : Addr} {o : HO} (h : H p = none) (g : StOk W H) : StOk W (upd H p o) := fun s e => (g s e).new h
section
variable {W : Wd} {M M' : Addr → Prop} {H H' : Hp}
theorem Wf.next (w : Wf W M H) (g : StOk W H') (k : Keep W H H') : Wf W M H' := ⟨g, w.sm, fun a ha => by
  by_cases e : W.s = some a
  · obtain ⟨ns, i, c, m, h, _⟩ := g a e
    exact ⟨_, h⟩
  · obtain ⟨o, ho⟩ := w.dom a ha
    exact ⟨o, k a o e ho⟩⟩
theorem sqT_keep (w : Wg W M H) (k : Keep W H H') {a : Addr} {vs : List V} (h : SqT W.K H a vs) : SqT W.K H' a vs := by
  rcases h with (h | ⟨o, h⟩) | h
  · refine .inl (.inl (k a _ (fun e => ?_) h))
    obtain ⟨ns, i, c, m, q, _⟩ := w.g a e
    rw [q] at h
    cases h
  · refine .inl (.inr ⟨o, k a _ (fun e => ?_) h⟩)
    obtain ⟨ns, i, c, m, q, _⟩ := w.g a e
    rw [q] at h
    cases h
  · exact .inr h
theorem rdL_keep (w : Wg W M H) (k : Keep W H H') {a : Addr} {vs : List V} (n : ¬ M a) (h : H a = some (.lst vs)) : H' a = some (.lst vs) := k a _ (fun e => n (w.sm a e)) h
mutual
theorem Rep.keepG (w : Wg W M H) (k : Keep W H H') : ∀ {v : V} {d : D}, Rep W M H v d → Rep W M H' v d
  | _, _, .non => .non
  | _, _, .bl b => .bl b
  | _, _, .int i => .int i
  | _, _, .str x => .str x
  | _, _, .ty n => .ty n
  | _, _, .tup h r => .tup (sqT_keep w k h) (r.keepG w k)
  | _, _, .lst n h r => .lst n (rdL_keep w k n h) (r.keepG w k)
  | _, _, .st e => .st e
  | _, _, .obj a => .obj a
  | _, _, .dct n h => .dct n (k _ _ (fun e => n (w.sm _ e)) h)
  | _, _, .tpn c n h => .tpn c n (k _ _ (fun e => n (w.sm _ e)) h)
  | _, _, .ins n h e r => .ins n (k _ _ (fun e => n (w.sm _ e)) h) e (r.keepG w k)
  | _, _, .exc n h e r => .exc n (k _ _ (fun e => n (w.sm _ e)) h) e (r.keepG w k)
  | _, _, .xob0 n h => .xob0 n (k _ _ (fun e => n (w.sm _ e)) h)
  | _, _, .xob n h n2 h2 e r => .xob n (k _ _ (fun e => n (w.sm _ e)) h) n2 (k _ _ (fun e => n2 (w.sm _ e)) h2) e (r.keepG w k)
  | _, _, .dic n h e r => .dic n (k _ _ (fun e => n (w.sm _ e)) h) e (r.keepG w k)
theorem Reps.keepG (w : Wg W M H) (k : Keep W H H') : ∀ {vs : List V} {ds : List D}, Reps W M H vs ds → Reps W M H' vs ds
  | _, _, .nil => .nil
  | _, _, .cons r t => .cons (r.keepG w k) (t.keepG w k)
end
theorem Rep.keep (w : Wf W M H) (k : Keep W H H') {v : V} {d : D} (r : Rep W M H v d) : Rep W M H' v d := r.keepG w.wg k
theorem Reps.keep (w : Wf W M H) (k : Keep W H H') {vs : List V} {ds : List D} (r : Reps W M H vs ds) : Reps W M H' vs ds := r.keepG w.wg k
/-- a list that may turn turns: the rest stands -/
theorem sqT_upd {p : Addr} {o : HO} (hp : ∀ a vs, Rd H a (.tup vs) → a ≠ p) {a : Addr} {vs : List V} (h : SqT W.K H a vs) : SqT W.K (upd H p o) a vs := by
  rcases h with h | h
  · have e := hp a vs h
    rcases h with h | ⟨u, h⟩
    · exact .inl (.inl (by rw [upd_ne e]; exact h))
    · exact .inl (.inr ⟨u, by rw [upd_ne e]; exact h⟩)
  · exact .inr h
theorem rdT_lst {p : Addr} {xs : List V} (hp : H p = some (.lst xs)) : ∀ a vs, Rd H a (.tup vs) → a ≠ p := fun a vs h => by
  rcases h with h | ⟨u, h⟩
  · exact ne_of h hp (by intro z; cases z)
  · exact ne_of h hp (by intro z; cases z)
theorem rdL_upd {p : Addr} {o : HO} {a : Addr} {vs : List V} (hp : M p) (n : ¬ M a) (h : H a = some (.lst vs)) : upd H p o a = some (.lst vs) := by
  have e : a ≠ p := fun z => n (by rw [z]; exact hp)
  rw [upd_ne e]
  exact h
theorem atU_upd {p : Addr} {o u : HO} {a : Addr} (hp : M p) (n : ¬ M a) (h : H a = some u) : upd H p o a = some u := by
  have e : a ≠ p := fun z => n (by rw [z]; exact hp)
  rw [upd_ne e]
  exact h
mutual
theorem Rep.upd {p : Addr} {o : HO} (hp : ∀ a vs, Rd H a (.tup vs) → a ≠ p) (hm : M p) : ∀ {v : V} {d : D}, Rep W M H v d → Rep W M (upd H p o) v d
  | _, _, .non => .non
  | _, _, .bl b => .bl b
  | _, _, .int i => .int i
  | _, _, .str x => .str x
  | _, _, .ty n => .ty n
  | _, _, .tup h r => .tup (sqT_upd hp h) (r.upd hp hm)
  | _, _, .lst n h r => .lst n (rdL_upd hm n h) (r.upd hp hm)
  | _, _, .st e => .st e
  | _, _, .obj a => .obj a
  | _, _, .dct n h => .dct n (atU_upd hm n h)
  | _, _, .tpn c n h => .tpn c n (atU_upd hm n h)
  | _, _, .ins n h e r => .ins n (atU_upd hm n h) e (r.upd hp hm)
  | _, _, .exc n h e r => .exc n (atU_upd hm n h) e (r.upd hp hm)
  | _, _, .xob0 n h => .xob0 n (atU_upd hm n h)
  | _, _, .xob n h n2 h2 e r => .xob n (atU_upd hm n h) n2 (atU_upd hm n2 h2) e (r.upd hp hm)
  | _, _, .dic n h e r => .dic n (atU_upd hm n h) e (r.upd hp hm)
theorem Reps.upd {p : Addr} {o : HO} (hp : ∀ a vs, Rd H a (.tup vs) → a ≠ p) (hm : M p) : ∀ {vs : List V} {ds : List D}, Reps W M H vs ds → Reps W M (upd H p o) vs ds
  | _, _, .nil => .nil
  | _, _, .cons r t => .cons (r.upd hp hm) (t.upd hp hm)
end
mutual
theorem Rep.anti (m : ∀ a, M' a → M a) : ∀ {v : V} {d : D}, Rep W M H v d → Rep W M' H v d
  | _, _, .non => .non
  | _, _, .bl b => .bl b
  | _, _, .int i => .int i
  | _, _, .str x => .str x
  | _, _, .ty n => .ty n
  | _, _, .tup h r => .tup h (r.anti m)
  | _, _, .lst n h r => .lst (fun x => n (m _ x)) h (r.anti m)
  | _, _, .st e => .st e
  | _, _, .obj a => .obj a
  | _, _, .dct n h => .dct (fun x => n (m _ x)) h
  | _, _, .tpn c n h => .tpn c (fun x => n (m _ x)) h
  | _, _, .ins n h e r => .ins (fun x => n (m _ x)) h e (r.anti m)
  | _, _, .exc n h e r => .exc (fun x => n (m _ x)) h e (r.anti m)
  | _, _, .xob0 n h => .xob0 (fun x => n (m _ x)) h
  | _, _, .xob n h n2 h2 e r => .xob (fun x => n (m _ x)) h (fun x => n2 (m _ x)) h2 e (r.anti m)
  | _, _, .dic n h e r => .dic (fun x => n (m _ x)) h e (r.anti m)
theorem Reps.anti (m : ∀ a, M' a → M a) : ∀ {vs : List V} {ds : List D}, Reps W M H vs ds → Reps W M' H vs ds
  | _, _, .nil => .nil
  | _, _, .cons r t => .cons (r.anti m) (t.anti m)
end
mutual
theorem Rep.more (n : ∀ a, M' a → ¬ M a → H a = none) : ∀ {v : V} {d : D}, Rep W M H v d → Rep W M' H v d
  | _, _, .non => .non
  | _, _, .bl b => .bl b
  | _, _, .int i => .int i
  | _, _, .str x => .str x
  | _, _, .ty n => .ty n
  | _, _, .tup h r => .tup h (r.more n)
  | _, _, .lst na h r => .lst (fun x => by
      rw [n _ x na] at h
      cases h) h (r.more n)
  | _, _, .st e => .st e
  | _, _, .obj a => .obj a
  | _, _, .dct na h => .dct (fun x => by
      rw [n _ x na] at h
      cases h) h
  | _, _, .tpn c na h => .tpn c (fun x => by
      rw [n _ x na] at h
      cases h) h
  | _, _, .ins na h e r => .ins (fun x => by
      rw [n _ x na] at h
      cases h) h e (r.more n)
  | _, _, .exc na h e r => .exc (fun x => by
      rw [n _ x na] at h
      cases h) h e (r.more n)
  | _, _, .xob0 na h => .xob0 (fun x => by
      rw [n _ x na] at h
      cases h) h
  | _, _, .xob na h n2 h2 e r => .xob (fun x => by
      rw [n _ x na] at h
      cases h) h (fun x => by
      rw [n _ x n2] at h2
      cases h2) h2 e (r.more n)
  | _, _, .dic na h e r => .dic (fun x => by
      rw [n _ x na] at h
      cases h) h e (r.more n)
theorem Reps.more (n : ∀ a, M' a → ¬ M a → H a = none) : ∀ {vs : List V} {ds : List D}, Reps W M H vs ds → Reps W M' H vs ds
  | _, _, .nil => .nil
  | _, _, .cons r t => .cons (r.more n) (t.more n)
end
/-- all stands, but for lists of M -/
def KeepM (W : Wd) (M : Addr → Prop) (H H' : Hp) : Prop := ∀ a o, W.s ≠ some a → (M a → ∀ vs, o ≠ .lst vs) → H a = some o → H' a = some o
theorem KeepM.mono (k : KeepM W M H H') (m : ∀ a, M a → M' a) : KeepM W M' H H' := fun a o n l h => k a o n (fun x => l (m a x)) h
theorem Keep.toM (k : Keep W H H') : KeepM W M H H' := fun a o n _ h => k a o n h
theorem sqT_keepM (w : Wg W M H) (k : KeepM W M H H') {a : Addr} {vs : List V} (h : SqT W.K H a vs) : SqT W.K H' a vs := by
  have no : ∀ {o : HO}, H a = some o → (∀ xs, o ≠ .lst xs) → W.s ≠ some a := fun {o} h n e => by
    obtain ⟨ns, i, c, m, q, _⟩ := w.g a e
    rw [h] at q
    exact n _ (Option.some.inj q)
  rcases h with (h | ⟨o, h⟩) | h
  · exact .inl (.inl (k a _ (no h fun _ z => by cases z) (fun _ _ z => by cases z) h))
  · exact .inl (.inr ⟨o, k a _ (no h fun _ z => by cases z) (fun _ _ z => by cases z) h⟩)
  · exact .inr h
theorem rdL_keepM (w : Wg W M H) (k : KeepM W M H H') {a : Addr} {vs : List V} (n : ¬ M a) (h : H a = some (.lst vs)) : H' a = some (.lst vs) := k a _ (fun e => n (w.sm a e)) (fun m => absurd m n) h
mutual
theorem Rep.keepM (w : Wg W M H) (k : KeepM W M H H') : ∀ {v : V} {d : D}, Rep W M H v d → Rep W M H' v d
  | _, _, .non => .non
  | _, _, .bl b => .bl b
  | _, _, .int i => .int i
  | _, _, .str x => .str x
  | _, _, .ty n => .ty n
  | _, _, .tup h r => .tup (sqT_keepM w k h) (r.keepM w k)
  | _, _, .lst n h r => .lst n (rdL_keepM w k n h) (r.keepM w k)
  | _, _, .st e => .st e
  | _, _, .obj a => .obj a
  | _, _, .dct n h => .dct n (k _ _ (fun e => n (w.sm _ e)) (fun m => absurd m n) h)
  | _, _, .tpn c n h => .tpn c n (k _ _ (fun e => n (w.sm _ e)) (fun m => absurd m n) h)
  | _, _, .ins n h e r => .ins n (k _ _ (fun e => n (w.sm _ e)) (fun m => absurd m n) h) e (r.keepM w k)
  | _, _, .exc n h e r => .exc n (k _ _ (fun e => n (w.sm _ e)) (fun m => absurd m n) h) e (r.keepM w k)
  | _, _, .xob0 n h => .xob0 n (k _ _ (fun e => n (w.sm _ e)) (fun m => absurd m n) h)
  | _, _, .xob n h n2 h2 e r => .xob n (k _ _ (fun e => n (w.sm _ e)) (fun m => absurd m n) h) n2 (k _ _ (fun e => n2 (w.sm _ e)) (fun m => absurd m n2) h2) e (r.keepM w k)
  | _, _, .dic n h e r => .dic n (k _ _ (fun e => n (w.sm _ e)) (fun m => absurd m n) h) e (r.keepM w k)
theorem Reps.keepM (w : Wg W M H) (k : KeepM W M H H') : ∀ {vs : List V} {ds : List D}, Reps W M H vs ds → Reps W M H' vs ds
  | _, _, .nil => .nil
  | _, _, .cons r t => .cons (r.keepM w k) (t.keepM w k)
end
end
end PD
namespace PD
abbrev Fr := Int × Int
def gcdI (a b : Int) : Nat := Nat.gcd a.natAbs b.natAbs
def IsF (p : Fr) : Prop := 1 ≤ p.2 ∧ gcdI p.1 p.2 = 1
end PD
namespace PD
end PD
namespace PD
open PySem PySem.Spec PyProof.Rows L2
structure Slots (W : Wd) (M : Addr → Prop) (H : Hp) (σ : L2.St) (δ : DS) : Prop where
  len : σ.length = δ.length
  get : ∀ (i : Nat) (d : D), δ[i]? = some (some d) → ∃ v, σ[i]? = some (some v) ∧ Rep W M H v d
structure Pre (W : Wd) (M : Addr → Prop) (δ : DS) (σ : L2.St) (H : Hp) : Prop where
  wf : Wf W M H
  sl : Slots W M H σ δ
theorem Slots.set {W : Wd} {M : Addr → Prop} {H : Hp} {σ : L2.St} {δ : DS} (s : Slots W M H σ δ) (i : Nat) {v : V} {d : D} (r : Rep W M H v d) : Slots W M H (σ.set i (some v)) (δ.set i (some d)) where
  len := by rw [List.length_set, List.length_set]; exact s.len
  get := fun j e h => by
    by_cases hj : i = j
    · subst hj
      rw [List.getElem?_set] at h
      rw [List.getElem?_set]
      by_cases hl : i < δ.length
      · rw [if_pos rfl, if_pos hl] at h
        rw [if_pos rfl, if_pos (by rw [s.len]; exact hl)]
        have e1 : d = e := Option.some.inj (Option.some.inj h)
        subst e1
        exact ⟨v, rfl, r⟩
      · rw [if_pos rfl, if_neg hl] at h
        cases h
    · rw [List.getElem?_set, if_neg hj] at h
      rw [List.getElem?_set, if_neg hj]
      exact s.get j e h
/-- a slot of which nothing is said -/
theorem Slots.drop {W : Wd} {M : Addr → Prop} {H : Hp} {σ : L2.St} {δ : DS} (s : Slots W M H σ δ) (i : Nat) (x : Option V) : Slots W M H (σ.set i x) (δ.set i none) where
  len := by rw [List.length_set, List.length_set]; exact s.len
  get := fun j e h => by
    by_cases hj : i = j
    · subst hj
      rw [List.getElem?_set] at h
      by_cases hl : i < δ.length
      · rw [if_pos rfl, if_pos hl] at h
        cases h
      · rw [if_pos rfl, if_neg hl] at h
        cases h
    · rw [List.getElem?_set, if_neg hj] at h
      rw [List.getElem?_set, if_neg hj]
      exact s.get j e h
theorem Pre.next {W : Wd} {M : Addr → Prop} {δ : DS} {σ : L2.St} {H H' : Hp} (p : Pre W M δ σ H) (g : StOk W H') (k : Keep W H H') : Pre W M δ σ H' :=
  ⟨p.wf.next g k, p.sl.len, fun i d h => by
    obtain ⟨v, h1, h2⟩ := p.sl.get i d h
    exact ⟨v, h1, h2.keep p.wf k⟩⟩
def wipeD (δ : DS) : List Nat → DS
  | [] => δ
  | v :: vs => (wipeD δ vs).set v none
theorem Slots.wipe {W : Wd} {M : Addr → Prop} {H : Hp} {σ : L2.St} {δ : DS} (s : Slots W M H σ δ) : ∀ vs : List Nat, Slots W M H (L2.wipe σ vs) (wipeD δ vs)
  | [] => s
  | v :: vs => (s.wipe vs).drop v none
def EvD (W : Wd) (te : TE) (δ : DS) (P : D → Prop) : Prop := ∀ (M : Addr → Prop) (σ : L2.St) (H : Hp), Pre W M δ σ H → ∀ Q : VK, (∀ v d H', StOk W H' → Keep W H H' → Rep W M H' v d → P d → Q v H') → te σ H Q
def EvT (W : Wd) (tt : TT) (δ : DS) (P : Bool → Prop) : Prop := ∀ (M : Addr → Prop) (σ : L2.St) (H : Hp), Pre W M δ σ H → ∀ Q : Bool → Hp → Prop, (∀ b H', StOk W H' → Keep W H H' → P b → Q b H') → tt σ H Q
def EvA (W : Wd) (ta : TA) (δ : DS) (P : List D → Prop) : Prop := ∀ (M : Addr → Prop) (σ : L2.St) (H : Hp), Pre W M δ σ H → ∀ Q : List V → Hp → Prop, (∀ vs ds H', StOk W H' → Keep W H H' → Reps W M H' vs ds → P ds → Q vs H') → ta σ H Q
def RD (W : Wd) (r : R2) (x y : D) (P : D → Prop) : Prop := ∀ (M : Addr → Prop) (H : Hp) (v u : V), Wf W M H → Rep W M H v x → Rep W M H u y → ∀ Q : VK, (∀ z d H', StOk W H' → Keep W H H' → Rep W M H' z d → P d → Q z H') → r v u H Q
def RUD (W : Wd) (r : V → Hp → VK → Prop) (x : D) (P : D → Prop) : Prop := ∀ (M : Addr → Prop) (H : Hp) (v : V), Wf W M H → Rep W M H v x → ∀ Q : VK, (∀ z d H', StOk W H' → Keep W H H' → Rep W M H' z d → P d → Q z H') → r v H Q
def RCD (W : Wd) (r : List V → Hp → VK → Prop) (xs : List D) (P : D → Prop) : Prop := ∀ (M : Addr → Prop) (H : Hp) (vs : List V), Wf W M H → Reps W M H vs xs → ∀ Q : VK, (∀ z d H', StOk W H' → Keep W H H' → Rep W M H' z d → P d → Q z H') → r vs H Q
section
variable {W : Wd} {δ : DS} {P : D → Prop} {ta tb te : TE} {t u : TT}
theorem ev_mono {P' : D → Prop} (h : EvD W te δ P) (k : ∀ d, P d → P' d) : EvD W te δ P' := fun M σ H p Q q => h M σ H p Q fun v d H' g kp r hP => q v d H' g kp r (k d hP)
theorem ev_var {i : Nat} {d : D} (h : δ[i]? = some (some d)) (hP : P d) : EvD W (tVar i) δ P := fun M σ H p Q q => by
  obtain ⟨v, h1, h2⟩ := p.sl.get i d h
  exact ⟨v, h1, q v d H p.wf.g (Keep.refl H) h2 hP⟩
theorem ev_c {v : V} {d : D} (hr : ∀ M H, Rep W M H v d) (hP : P d) : EvD W (tC v) δ P := fun M σ H p Q q => q v d H p.wf.g (Keep.refl H) (hr M H) hP
theorem ev_int {i : Int} (hP : P (.int i)) : EvD W (tC (.int i)) δ P := ev_c (fun _ _ => .int i) hP
theorem ev_bl {b : Bool} (hP : P (.bl b)) : EvD W (tC (.bl b)) δ P := ev_c (fun _ _ => .bl b) hP
theorem ev_non (hP : P .non) : EvD W (tC .non) δ P := ev_c (fun _ _ => .non) hP
theorem ev_str {x : Str} (hP : P (.str x)) : EvD W (tC (.str x)) δ P := ev_c (fun _ _ => .str x) hP
theorem ev_ty {n : String} (hP : P (.ty n)) : EvD W (tC (.ty n)) δ P := ev_c (fun _ _ => .ty n) hP
theorem ev_op {r : R2} (h : EvD W ta δ fun x => EvD W tb δ fun y => RD W r x y P) : EvD W (tOp r ta tb) δ P := fun M σ H p Q q =>
  h M σ H p _ fun v x H1 g1 k1 r1 h1 => h1 M σ H1 (p.next g1 k1) _ fun u y H2 g2 k2 r2 h2 =>
    h2 M H2 v u ((p.wf.next g1 k1).next g2 k2) (r1.keep (p.wf.next g1 k1) k2) r2 Q fun z d H3 g3 k3 r3 h3 => q z d H3 g3 ((k1.trans k2).trans k3) r3 h3
theorem ev_un {r : V → Hp → VK → Prop} (h : EvD W ta δ fun x => RUD W r x P) : EvD W (tUn r ta) δ P := fun M σ H p Q q =>
  h M σ H p _ fun v x H1 g1 k1 r1 h1 => h1 M H1 v (p.wf.next g1 k1) r1 Q fun z d H3 g3 k3 r3 h3 => q z d H3 g3 (k1.trans k3) r3 h3
theorem ev_chain {r r' : R2} {tc : TE} (h : EvD W ta δ fun x => EvD W tb δ fun y => RD W r x y fun z => ∃ k, z = .bl k ∧ (k = true → EvD W tc δ fun c => RD W r' y c P) ∧ (k = false → P (.bl false))) : EvD W (tChain r r' ta tb tc) δ P := fun M σ H p Q q =>
  h M σ H p _ fun v x H1 g1 k1 r1 h1 => h1 M σ H1 (p.next g1 k1) _ fun u y H2 g2 k2 r2 h2 =>
    h2 M H2 v u ((p.wf.next g1 k1).next g2 k2) (r1.keep (p.wf.next g1 k1) k2) r2 _ fun z d H3 g3 k3 r3 h3 => by
      obtain ⟨k, rfl, hT, hF⟩ := h3
      cases r3
      refine ⟨k, rfl, ?_⟩
      have p3 := ((p.next g1 k1).next g2 k2).next g3 k3
      cases k with
      | true =>
        rw [if_pos rfl]
        exact hT rfl M σ H3 p3 _ fun w c H4 g4 k4 r4 h4 => h4 M H4 u w (p3.wf.next g4 k4) ((r2.keep ((p.wf.next g1 k1).next g2 k2) k3).keep p3.wf k4) r4 Q fun z d H5 g5 k5 r5 h5 => q z d H5 g5 ((((k1.trans k2).trans k3).trans k4).trans k5) r5 h5
      | false =>
        rw [if_neg Bool.false_ne_true]
        exact q _ _ H3 g3 ((k1.trans k2).trans k3) (.bl false) (hF rfl)
theorem ev_andV (h : EvD W ta δ fun x => ∃ b, x = .bl b ∧ (b = true → EvD W tb δ P) ∧ (b = false → P (.bl false))) : EvD W (tAndV ta tb) δ P := fun M σ H p Q q =>
  h M σ H p _ fun v x H1 g1 k1 r1 h1 => by
    obtain ⟨b, rfl, hT, hF⟩ := h1
    cases r1
    refine ⟨b, rfl, ?_⟩
    cases b with
    | true =>
      rw [if_pos rfl]
      exact hT rfl M σ H1 (p.next g1 k1) Q fun z d H3 g3 k3 r3 h3 => q z d H3 g3 (k1.trans k3) r3 h3
    | false =>
      rw [if_neg Bool.false_ne_true]
      exact q _ _ H1 g1 k1 (.bl false) (hF rfl)
theorem ev_orV (h : EvD W ta δ fun x => ∃ b, x = .bl b ∧ (b = false → EvD W tb δ P) ∧ (b = true → P (.bl true))) : EvD W (tOrV ta tb) δ P := fun M σ H p Q q =>
  h M σ H p _ fun v x H1 g1 k1 r1 h1 => by
    obtain ⟨b, rfl, hF, hT⟩ := h1
    cases r1
    refine ⟨b, rfl, ?_⟩
    cases b with
    | false =>
      rw [if_neg Bool.false_ne_true]
      exact hF rfl M σ H1 (p.next g1 k1) Q fun z d H3 g3 k3 r3 h3 => q z d H3 g3 (k1.trans k3) r3 h3
    | true =>
      rw [if_pos rfl]
      exact q _ _ H1 g1 k1 (.bl true) (hT rfl)
theorem ev_notV (h : EvD W ta δ fun x => ∃ b, x = .bl b ∧ P (.bl (!b))) : EvD W (tNotV ta) δ P := fun M σ H p Q q =>
  h M σ H p _ fun v x H1 g1 k1 r1 h1 => by
    obtain ⟨b, rfl, hP⟩ := h1
    cases r1
    exact ⟨b, rfl, q _ _ H1 g1 k1 (.bl _) hP⟩
theorem ev_if (h : EvT W t δ fun b => (b = true → EvD W ta δ P) ∧ (b = false → EvD W tb δ P)) : EvD W (tIf t ta tb) δ P := fun M σ H p Q q =>
  h M σ H p _ fun b H1 g1 k1 h1 => by
    cases b with
    | true =>
      rw [if_pos rfl]
      exact h1.1 rfl M σ H1 (p.next g1 k1) Q fun z d H3 g3 k3 r3 h3 => q z d H3 g3 (k1.trans k3) r3 h3
    | false =>
      rw [if_neg Bool.false_ne_true]
      exact h1.2 rfl M σ H1 (p.next g1 k1) Q fun z d H3 g3 k3 r3 h3 => q z d H3 g3 (k1.trans k3) r3 h3
theorem et_B {P : Bool → Prop} (h : EvD W te δ fun x => ∃ b, x = .bl b ∧ P b) : EvT W (tB te) δ P := fun M σ H p Q q => h M σ H p _ fun v x H1 g1 k1 r1 h1 => by
  obtain ⟨b, rfl, hP⟩ := h1
  cases r1
  exact ⟨b, rfl, q b H1 g1 k1 hP⟩
theorem et_test {P : Bool → Prop} (h : EvD W te δ fun x => ∃ b, x = .bl b ∧ P b) : EvT W (tTest te) δ P := et_B h
theorem et_and {P : Bool → Prop} (h : EvT W t δ fun b => (b = true → EvT W u δ P) ∧ (b = false → P false)) : EvT W (tAnd t u) δ P := fun M σ H p Q q =>
  h M σ H p _ fun b H1 g1 k1 h1 => by
    cases b with
    | true =>
      rw [if_pos rfl]
      exact h1.1 rfl M σ H1 (p.next g1 k1) Q fun c H3 g3 k3 h3 => q c H3 g3 (k1.trans k3) h3
    | false =>
      rw [if_neg Bool.false_ne_true]
      exact q _ H1 g1 k1 (h1.2 rfl)
theorem et_or {P : Bool → Prop} (h : EvT W t δ fun b => (b = false → EvT W u δ P) ∧ (b = true → P true)) : EvT W (tOr t u) δ P := fun M σ H p Q q =>
  h M σ H p _ fun b H1 g1 k1 h1 => by
    cases b with
    | false =>
      rw [if_neg Bool.false_ne_true]
      exact h1.1 rfl M σ H1 (p.next g1 k1) Q fun c H3 g3 k3 h3 => q c H3 g3 (k1.trans k3) h3
    | true =>
      rw [if_pos rfl]
      exact q _ H1 g1 k1 (h1.2 rfl)
theorem et_not {P : Bool → Prop} (h : EvT W t δ fun b => P (!b)) : EvT W (tNot t) δ P := fun M σ H p Q q => h M σ H p _ fun b H1 g1 k1 h1 => q (!b) H1 g1 k1 h1
theorem ea_nil {P : List D → Prop} (h : P []) : EvA W tNil δ P := fun M σ H p Q q => q [] [] H p.wf.g (Keep.refl H) .nil h
theorem ea_cons {P : List D → Prop} {tr : TA} (h : EvD W te δ fun x => EvA W tr δ fun xs => P (x :: xs)) : EvA W (tCons te tr) δ P := fun M σ H p Q q =>
  h M σ H p _ fun v x H1 g1 k1 r1 h1 => h1 M σ H1 (p.next g1 k1) _ fun vs xs H2 g2 k2 r2 h2 => q (v :: vs) (x :: xs) H2 g2 (k1.trans k2) (.cons (r1.keep (p.wf.next g1 k1) k2) r2) h2
theorem ev_cb {r : List V → Hp → VK → Prop} {tr : TA} (h : EvA W tr δ fun xs => RCD W r xs P) : EvD W (tCB r tr) δ P := fun M σ H p Q q =>
  h M σ H p _ fun vs xs H1 g1 k1 r1 h1 => h1 M H1 vs (p.wf.next g1 k1) r1 Q fun z d H2 g2 k2 r2 h2 => q z d H2 g2 (k1.trans k2) r2 h2
theorem len_ok {n : Nat} (h : n ≤ 100000) : n ≤ sizeLine := Nat.le_trans h (by decide)
theorem newT {M : Addr → Prop} {H : Hp} {p : Addr} {vs : List V} {ds : List D} (w : Wf W M H) (r : Reps W M H vs ds) (hp : H p = none) : StOk W (upd H p (.tup vs)) ∧ Keep W H (upd H p (.tup vs)) ∧ Rep W M (upd H p (.tup vs)) (.ref p) (.tup ds) :=
  ⟨w.g.new hp, Keep.new hp, .tup (SqT.of upd_same) (r.keep w (Keep.new hp))⟩
theorem newL {M : Addr → Prop} {H : Hp} {p : Addr} {vs : List V} {ds : List D} (w : Wf W M H) (r : Reps W M H vs ds) (hp : H p = none) : StOk W (upd H p (.lst vs)) ∧ Keep W H (upd H p (.lst vs)) ∧ Rep W M (upd H p (.lst vs)) (.ref p) (.lst ds) :=
  ⟨w.g.new hp, Keep.new hp, .lst (fun m => by
    obtain ⟨o, ho⟩ := w.dom p m
    rw [hp] at ho
    cases ho) upd_same (r.keep w (Keep.new hp))⟩
theorem ev_tup {tr : TA} (h : EvA W tr δ fun xs => xs.length ≤ 100000 ∧ P (.tup xs)) : EvD W (tTup tr) δ P := fun M σ H p Q q =>
  h M σ H p _ fun vs xs H1 g1 k1 r1 ⟨hl, hP⟩ => ⟨len_ok (by rw [r1.length]; exact hl), fun a ha => by
    obtain ⟨x1, x2, x3⟩ := newT (p.wf.next g1 k1) r1 ha
    exact q _ _ _ x1 (k1.trans x2) x3 hP⟩
theorem ev_lst {tr : TA} (h : EvA W tr δ fun xs => xs.length ≤ 100000 ∧ P (.lst xs)) : EvD W (tLst tr) δ P := fun M σ H p Q q =>
  h M σ H p _ fun vs xs H1 g1 k1 r1 ⟨hl, hP⟩ => ⟨len_ok (by rw [r1.length]; exact hl), fun a ha => by
    obtain ⟨x1, x2, x3⟩ := newL (p.wf.next g1 k1) r1 ha
    exact q _ _ _ x1 (k1.trans x2) x3 hP⟩
theorem rd_I0 {f : Int → Int → Int} {i j : Int} (h : P (.int (f i j))) : RD W (rI0 fun i j => .int (f i j)) (.int i) (.int j) P := fun M H v u w r1 r2 Q q => by
  cases r1
  cases r2
  exact ⟨i, j, rfl, rfl, q _ _ H w.g (Keep.refl H) (.int _) h⟩
theorem rd_I0b {f : Int → Int → Bool} {i j : Int} (h : P (.bl (f i j))) : RD W (rI0 fun i j => .bl (f i j)) (.int i) (.int j) P := fun M H v u w r1 r2 Q q => by
  cases r1
  cases r2
  exact ⟨i, j, rfl, rfl, q _ _ H w.g (Keep.refl H) (.bl _) h⟩
theorem rd_I {C : Int → Int → Prop} {f : Int → Int → Int} {i j : Int} (hc : C i j) (h : P (.int (f i j))) : RD W (rI C fun i j => .int (f i j)) (.int i) (.int j) P := fun M H v u w r1 r2 Q q => by
  cases r1
  cases r2
  exact ⟨i, j, rfl, rfl, hc, q _ _ H w.g (Keep.refl H) (.int _) h⟩
theorem ru_I {f : Int → Int} {i : Int} (h : P (.int (f i))) : RUD W (rU fun i => .int (f i)) (.int i) P := fun M H v w r1 Q q => by
  cases r1
  exact ⟨i, rfl, q _ _ H w.g (Keep.refl H) (.int _) h⟩
theorem atI_D {M : Addr → Prop} {H : Hp} {vs : List V} {ds : List D} {i : Int} {j : Nat} {d : D} (r : Reps W M H vs ds) (hi : i = (j : Int)) (h : ds[j]? = some d) : ∃ v, atI vs i = some v ∧ Rep W M H v d := by
  obtain ⟨v, h1, h2⟩ := r.get h
  exact ⟨v, at_of hi h1, h2⟩
/-- x[i], i from the left -/
theorem rd_ixT {i : Int} {j : Nat} {ds : List D} {d : D} (hi : i = (j : Int)) (h : ds[j]? = some d) (hP : P d) : RD W (rIx W.K) (.tup ds) (.int i) P := fun M H v u w r1 r2 Q q => by
  cases r1 with
  | tup hs hr =>
    cases r2
    obtain ⟨x, h1, h2⟩ := atI_D hr hi h
    exact .inr (.inl ⟨_, _, i, x, rfl, rfl, hs, h1, q x d H w.g (Keep.refl H) h2 hP⟩)
theorem rd_ixL {i : Int} {j : Nat} {ds : List D} {d : D} (hi : i = (j : Int)) (h : ds[j]? = some d) (hP : P d) : RD W (rIx W.K) (.lst ds) (.int i) P := fun M H v u w r1 r2 Q q => by
  cases r1 with
  | lst hn hs hr =>
    cases r2
    obtain ⟨x, h1, h2⟩ := atI_D hr hi h
    exact .inl ⟨_, _, i, x, rfl, rfl, .inl (.inl hs), h1, q x d H w.g (Keep.refl H) h2 hP⟩
theorem rc_lenT {ds : List D} (h : P (.int (ds.length : Int))) : RCD W (fun xs H Q => ∃ x n, xs = [x] ∧ LenV W.K x H n ∧ Q (.int n) H) [.tup ds] P := fun M H vs w r Q q => by
  cases r with
  | cons r1 r2 =>
    cases r2
    cases r1 with
    | tup hs hr => exact ⟨_, _, rfl, .inr ⟨_, hs, rfl⟩, q _ _ H w.g (Keep.refl H) (.int _) (by rw [hr.length]; exact h)⟩
theorem rc_lenL {ds : List D} (h : P (.int (ds.length : Int))) : RCD W (fun xs H Q => ∃ x n, xs = [x] ∧ LenV W.K x H n ∧ Q (.int n) H) [.lst ds] P := fun M H vs w r Q q => by
  cases r with
  | cons r1 r2 =>
    cases r2
    cases r1 with
    | lst hn hs hr => exact ⟨_, _, rfl, .inl ⟨_, .inl (.inl hs), rfl⟩, q _ _ H w.g (Keep.refl H) (.int _) (by rw [hr.length]; exact h)⟩
theorem rc_abs {i : Int} (h : P (.int (if i < 0 then -i else i))) : RCD W (fun xs H Q => ∃ i, xs = [.int i] ∧ Q (.int (if i < 0 then -i else i)) H) [.int i] P := fun M H vs w r Q q => by
  cases r with
  | cons r1 r2 =>
    cases r2
    cases r1
    exact ⟨i, rfl, q _ _ H w.g (Keep.refl H) (.int _) h⟩
theorem rc_int1 {i : Int} (h : P (.int i)) : RCD W (fun xs H Q => (∃ i, xs = [.int i] ∧ Q (.int i) H) ∨ ∃ k, xs = [.bl k] ∧ Q (.int (if k then 1 else 0)) H) [.int i] P := fun M H vs w r Q q => by
  cases r with
  | cons r1 r2 =>
    cases r2
    cases r1
    exact .inl ⟨i, rfl, q _ _ H w.g (Keep.refl H) (.int _) h⟩
theorem rc_gcd {i j : Int} (h : P (.int ((Nat.gcd i.natAbs j.natAbs : Nat) : Int))) : RCD W rGcd [.int i, .int j] P := fun M H vs w r Q q => by
  cases r with
  | cons r1 r2 =>
    cases r2 with
    | cons r2 r3 =>
      cases r3
      cases r1
      cases r2
      exact ⟨i, j, rfl, q _ _ H w.g (Keep.refl H) (.int _) h⟩
theorem rc_tupL {ds : List D} (h : P (.tup ds)) : RCD W (fun xs H Q => ∃ p ys, xs = [.ref p] ∧ ((SqL W.K H p ys ∧ ∀ l, H l = none → Q (.ref l) (upd H l (.tup ys))) ∨ (SqT W.K H p ys ∧ Q (.ref p) H))) [.lst ds] P := fun M H vs w r Q q => by
  cases r with
  | cons r1 r2 =>
    cases r2
    cases r1 with
    | lst hn hs hr =>
      refine ⟨_, _, rfl, .inl ⟨.inl (.inl hs), fun l hl => ?_⟩⟩
      obtain ⟨x1, x2, x3⟩ := newT w hr hl
      exact q _ _ _ x1 x2 x3 h
theorem reps_bls {M : Addr → Prop} {H : Hp} : ∀ {bs : List Bool} {vs : List V}, Reps W M H vs (bs.map D.bl) → vs = bs.map V.bl
  | [], _, .nil => rfl
  | b :: bs, _, .cons r t => by
    cases r
    rw [reps_bls t]
    rfl
theorem rc_all {bs : List Bool} (h : P (.bl (bs.all id))) : RCD W (rAll W.K) [.lst (bs.map D.bl)] P := fun M H vs w r Q q => by
  cases r with
  | cons r1 r2 =>
    cases r2
    cases r1 with
    | lst hn hs hr =>
      have e := reps_bls hr
      subst e
      exact ⟨_, bs, rfl, .inl (.inl hs), q _ _ H w.g (Keep.refl H) (.bl _) h⟩
def rOr (r r' : R2) : R2 := fun x y H Q => r x y H Q ∨ r' x y H Q
theorem opOr {X : Cx} {f : Value → Value → Sem Value} {r r' : R2} (h : OpR X f r) (h' : OpR X f r') : OpR X f (rOr r r') := by
  intro pins s σ H x y v u Q I rx ry z
  rcases z with z | z
  · exact h pins s σ H x y v u Q I rx ry z
  · exact h' pins s σ H x y v u Q I rx ry z
theorem rd_orl {r r' : R2} {x y : D} (h : RD W r x y P) : RD W (rOr r r') x y P := fun M H v u w r1 r2 Q q => .inl (h M H v u w r1 r2 Q q)
theorem rd_orr {r r' : R2} {x y : D} (h : RD W r' x y P) : RD W (rOr r r') x y P := fun M H v u w r1 r2 Q q => .inr (h M H v u w r1 r2 Q q)
abbrev rAddI : R2 := rI0 fun i j => .int (i + j)
theorem rd_catL {xs ys : List D} (hl : xs.length + ys.length ≤ 100000) (h : P (.lst (xs ++ ys))) : RD W rCat (.lst xs) (.lst ys) P := fun M H v u w r1 r2 Q q => by
  cases r1 with
  | lst n1 h1 q1 =>
    cases r2 with
    | lst n2 h2 q2 =>
      refine ⟨_, _, _, _, rfl, rfl, h1, h2, len_ok (by rw [q1.length, q2.length]; exact hl), fun p hp => ?_⟩
      obtain ⟨x1, x2, x3⟩ := newL w (q1.append q2) hp
      exact q _ _ _ x1 x2 x3 h
def rPlus (K : PySem.W.Frag) : R2 := rOr rAddI (rOr rCat (rCatA K))
theorem op_plus {X : Cx} : OpR X (binaryOp .Add) (rPlus X.K) := opOr op_add (opOr op_cat op_catA)
theorem rd_plusI {i j : Int} (h : P (.int (i + j))) : RD W (rPlus W.K) (.int i) (.int j) P := rd_orl (rd_I0 h)
theorem rd_plusL {xs ys : List D} (hl : xs.length + ys.length ≤ 100000) (h : P (.lst (xs ++ ys))) : RD W (rPlus W.K) (.lst xs) (.lst ys) P := rd_orr (rd_orl (rd_catL hl h))
/-- types by their names -/
def D.tyName : D → Option String
  | .non => some "NoneType"
  | .bl _ => some "bool"
  | .int _ => some "int"
  | .str _ => some "str"
  | .tup _ => some "tuple"
  | .lst _ => some "list"
  | .dct => some "dict"
  | .dic _ _ => some "dict"
  | _ => none
def D.isInt : D → Bool
  | .int _ => true
  | _ => false
theorem tyx {M : Addr → Prop} {H : Hp} {v : V} {d : D} {n : String} (r : Rep W M H v d) (h : d.tyName = some n) : TyX W.K H v (.type n) := by
  cases r with
  | non => cases h; exact .base .non
  | bl b => cases h; exact .base (.bl b)
  | int i => cases h; exact .base (.int i)
  | str x => cases h; exact .base (.str x)
  | ty m => cases h
  | tup hs hr =>
    cases h
    rcases hs with (hs | ⟨o, hs⟩) | ⟨o, its, m, e, c, _⟩
    · exact .base (.tup hs)
    · exact .fTuple hs
    · exact .kTuple e c
  | lst hn hs hr =>
    cases h
    exact .base (.lst hs)
  | st e => cases h
  | obj a => cases h
  | dct n e => cases h; exact .base (.dK e)
  | tpn c n e => cases h
  | ins n e _ _ => cases h
  | exc n e _ _ => cases h
  | xob0 => cases h
  | xob => cases h
  | dic n e _ _ => cases h; exact .base (.dK e)
theorem rc_isi {x : D} {n m : String} {b : Bool} (hx : x.tyName = some m) (hk : kitB m n = some b) (h : P (.bl b)) : RCD W (rIsi W.K) [x, .ty n] P := fun M H vs w r Q q => by
  cases r with
  | cons r1 r2 =>
    cases r2 with
    | cons r2 r3 =>
      cases r3
      cases r2
      exact ⟨_, _, _, _, b, rfl, .ty n, tyx r1 hx, kit_ty hk, q _ _ H w.g (Keep.refl H) (.bl b) h⟩
def D.isBl : D → Bool
  | .bl _ => true
  | _ => false
def D.isTup : D → Bool
  | .tup _ => true
  | _ => false
theorem rc_isiI {x : D} (hx : x.tyName.isSome = true) (h : P (.bl (x.isInt || x.isBl))) : RCD W (rIsi W.K) [x, .ty "int"] P := by
  cases x <;> first | exact rc_isi rfl (b := true) (by decide +kernel) h | exact rc_isi rfl (b := false) (by decide +kernel) h | cases hx
theorem rc_isiB {x : D} (hx : x.tyName.isSome = true) (h : P (.bl x.isBl)) : RCD W (rIsi W.K) [x, .ty "bool"] P := by
  cases x <;> first | exact rc_isi rfl (b := true) (by decide +kernel) h | exact rc_isi rfl (b := false) (by decide +kernel) h | cases hx
theorem rc_isiT {x : D} (hx : x.tyName.isSome = true) (h : P (.bl x.isTup)) : RCD W (rIsi W.K) [x, .ty "tuple"] P := by
  cases x <;> first | exact rc_isi rfl (b := true) (by decide +kernel) h | exact rc_isi rfl (b := false) (by decide +kernel) h | cases hx
theorem exb_t {c : Bool} {A B : Prop} (hc : c = true) (h : A) : ∃ b, D.bl c = D.bl b ∧ (b = true → A) ∧ (b = false → B) := ⟨c, rfl, fun _ => h, fun z => by rw [hc] at z; cases z⟩
theorem exb_f {c : Bool} {A B : Prop} (hc : c = false) (h : B) : ∃ b, D.bl c = D.bl b ∧ (b = true → A) ∧ (b = false → B) := ⟨c, rfl, fun z => (by rw [hc] at z; cases z), fun _ => h⟩
theorem exo_f {c : Bool} {A B : Prop} (hc : c = false) (h : A) : ∃ b, D.bl c = D.bl b ∧ (b = false → A) ∧ (b = true → B) := ⟨c, rfl, fun _ => h, fun z => by rw [hc] at z; cases z⟩
theorem exo_t {c : Bool} {A B : Prop} (hc : c = true) (h : B) : ∃ b, D.bl c = D.bl b ∧ (b = false → A) ∧ (b = true → B) := ⟨c, rfl, fun z => (by rw [hc] at z; cases z), fun _ => h⟩
theorem bt {c : Bool} {A B : Prop} (hc : c = true) (h : A) : (c = true → A) ∧ (c = false → B) := ⟨fun _ => h, fun z => by rw [hc] at z; cases z⟩
theorem bf {c : Bool} {A B : Prop} (hc : c = false) (h : B) : (c = true → A) ∧ (c = false → B) := ⟨fun z => (by rw [hc] at z; cases z), fun _ => h⟩
theorem bof {c : Bool} {A B : Prop} (hc : c = false) (h : A) : (c = false → A) ∧ (c = true → B) := ⟨fun _ => h, fun z => by rw [hc] at z; cases z⟩
theorem bot {c : Bool} {A B : Prop} (hc : c = true) (h : B) : (c = false → A) ∧ (c = true → B) := ⟨fun z => (by rw [hc] at z; cases z), fun _ => h⟩
theorem exb {c : Bool} {A : Bool → Prop} (h : A c) : ∃ b, D.bl c = D.bl b ∧ A b := ⟨c, rfl, h⟩
mutual
def D.py : D → PyData
  | .non => .none
  | .bl b => .bool b
  | .int i => .int i
  | .str x => .str x
  | .tup xs => .tuple (D.pys xs)
  | .lst xs => .list (D.pys xs)
  | _ => .dict []
def D.pys : List D → List PyData
  | [] => []
  | x :: xs => x.py :: D.pys xs
end
mutual
def D.plain : D → Bool
  | .non | .bl _ | .int _ | .str _ => true
  | .tup xs | .lst xs => D.plains xs
  | _ => false
def D.plains : List D → Bool
  | [] => true
  | x :: xs => x.plain && D.plains xs
end
mutual
theorem dp_of {M : Addr → Prop} {H : Hp} : ∀ {v : V} {d : D}, Rep W M H v d → d.plain = true → Dp W.K H v d.py
  | _, _, .non, _ => by unfold D.py; exact .non
  | _, _, .bl b, _ => by unfold D.py; exact .bl b
  | _, _, .int i, _ => by unfold D.py; exact .int i
  | _, _, .str x, _ => by unfold D.py; exact .str x
  | _, _, .ty n, h => by simp [D.plain] at h
  | _, _, .tup hs r, h => by
    unfold D.py
    exact .tup hs (dps_of r (by simpa [D.plain] using h))
  | _, _, .lst hn hs r, h => by
    unfold D.py
    exact .lst (.inl (.inl hs)) (dps_of r (by simpa [D.plain] using h))
  | _, _, .st e, h => by simp [D.plain] at h
  | _, _, .obj a, h => by simp [D.plain] at h
  | _, _, .dct _ _, h => by simp [D.plain] at h
  | _, _, .tpn _ _ _, h => by simp [D.plain] at h
  | _, _, .ins _ _ _ _, h => by simp [D.plain] at h
  | _, _, .exc _ _ _ _, h => by simp [D.plain] at h
  | _, _, .xob0 _ _, h => by simp [D.plain] at h
  | _, _, .xob _ _ _ _ _ _, h => by simp [D.plain] at h
  | _, _, .dic _ _ _ _, h => by simp [D.plain] at h
theorem dps_of {M : Addr → Prop} {H : Hp} : ∀ {vs : List V} {ds : List D}, Reps W M H vs ds → D.plains ds = true → DpAll W.K H vs (D.pys ds)
  | _, _, .nil, _ => by unfold D.pys; exact .nil
  | _, _, .cons r t, h => by
    simp only [D.plains, Bool.and_eq_true] at h
    unfold D.pys
    exact .cons (dp_of r h.1) (dps_of t h.2)
end
/-- what == tells of two data -/
def D.eqv (x y : D) : Bool := PyData.eqv x.py y.py
def D.fine (x : D) : Bool := x.plain && SeqAt.shaped x.py
theorem rd_eqD {x y : D} (hx : x.fine = true) (hy : y.fine = true) (h : P (.bl (x.eqv y))) : RD W (rEqD W.K) x y P := fun M H v u w r1 r2 Q q => by
  have h1 := (Bool.and_eq_true_iff.mp hx)
  have h2 := (Bool.and_eq_true_iff.mp hy)
  exact ⟨_, _, dp_of r1 h1.1, dp_of r2 h2.1, h1.2, h2.2, q _ _ H w.g (Keep.refl H) (.bl _) h⟩
theorem rd_neD {x y : D} (hx : x.fine = true) (hy : y.fine = true) (h : P (.bl (!x.eqv y))) : RD W (rNeD W.K) x y P := fun M H v u w r1 r2 Q q => by
  have h1 := (Bool.and_eq_true_iff.mp hx)
  have h2 := (Bool.and_eq_true_iff.mp hy)
  exact ⟨_, _, dp_of r1 h1.1, dp_of r2 h2.1, h1.2, h2.2, q _ _ H w.g (Keep.refl H) (.bl _) h⟩
theorem eqvI (i j : Int) : D.eqv (.int i) (.int j) = decide (i = j) := by
  show PyData.eqv (D.py (.int i)) (D.py (.int j)) = _
  simp only [D.py, PyData.eqv]
  rfl
theorem fineI (i : Int) : D.fine (.int i) = true := by
  simp [D.fine, D.plain, D.py, SeqAt.shaped, PyData.canLay0, PyData.depth]
theorem rd_eqI {i j : Int} (h : P (.bl (decide (i = j)))) : RD W (rEqD W.K) (.int i) (.int j) P := rd_eqD (fineI i) (fineI j) (by rw [eqvI]; exact h)
theorem rd_neI {i j : Int} (h : P (.bl (!decide (i = j)))) : RD W (rNeD W.K) (.int i) (.int j) P := rd_neD (fineI i) (fineI j) (by rw [eqvI]; exact h)
end
end PD
namespace PD
open PySem PySem.Spec PyProof.Rows L2
open RZ (iZipA ItzT)
structure Ent (W : Wd) (M0 : Addr → Prop) (H0 : Hp) (M : Addr → Prop) (H : Hp) : Prop where
  k : Keep W H0 H
  m : ∀ a, M0 a → M a
  new : ∀ a, M a → ¬ M0 a → H0 a = none
/-- an exception by its class and what its own dict holds -/
abbrev XV := Addr × List (Str × D)
def XRep (W : Wd) (M : Addr → Prop) (H : Hp) (cls : Value) (d : Option Addr) (x : XV) : Prop := cls = .ref x.1 ∧ match d with
  | none => x.2 = []
  | some dx => ∃ fs : List (Str × V), ¬ M dx ∧ H dx = some (.xd fs) ∧ fs.map (·.1) = x.2.map (·.1) ∧ Reps W M H (fs.map (·.2)) (x.2.map (·.2))
abbrev WF : WX := fun _ _ _ _ => False
abbrev XN : XV → DS → Prop := fun _ _ => False
structure Outs (W : Wd) (Wx : WX) (M0 : Addr → Prop) (H0 : Hp) (N : DS → Prop) (R : D → Prop) (B C : DS → Prop) (X : XV → DS → Prop) (E : Ends) : Prop where
  nx : ∀ M σ δ H, Pre W M δ σ H → Ent W M0 H0 M H → N δ → E.nx σ H
  rt : ∀ v d H, StOk W H → Keep W H0 H → Rep W M0 H v d → R d → E.rt v H
  bk : ∀ M σ δ H, Pre W M δ σ H → Ent W M0 H0 M H → B δ → E.bk σ H
  ct : ∀ M σ δ H, Pre W M δ σ H → Ent W M0 H0 M H → C δ → E.ct σ H
  xw : ∀ M σ δ H cls d x, Pre W M δ σ H → Ent W M0 H0 M H → XRep W M H cls d x → X x δ → Wx cls d σ H
def SX (W : Wd) (Wx : WX) (ts : TS) (δ : DS) (N : DS → Prop) (R : D → Prop) (B C : DS → Prop) (X : XV → DS → Prop) : Prop :=
  ∀ (M0 : Addr → Prop) (H0 : Hp) (M : Addr → Prop) (σ : L2.St) (H : Hp) (E : Ends), Pre W M δ σ H → Ent W M0 H0 M H → Outs W Wx M0 H0 N R B C X E → ts E σ H
abbrev SD (W : Wd) (ts : TS) (δ : DS) (N : DS → Prop) (R : D → Prop) (B C : DS → Prop) : Prop := SX W WF ts δ N R B C XN
theorem Ent.next {W : Wd} {M0 M : Addr → Prop} {H0 H H' : Hp} (e : Ent W M0 H0 M H) (k : Keep W H H') : Ent W M0 H0 M H' := ⟨e.k.trans k, e.m, e.new⟩
section
variable {W : Wd} {Wx : WX} {X : XV → DS → Prop} {δ : DS} {N : DS → Prop} {R : D → Prop} {B C : DS → Prop} {te tl : TE} {t : TT} {ts tu : TS} {g : TG}
theorem XRep.anti {W : Wd} {M M' : Addr → Prop} {H : Hp} {cls : Value} {d : Option Addr} {x : XV} (m : ∀ a, M' a → M a) (h : XRep W M H cls d x) : XRep W M' H cls d x := by
  obtain ⟨h1, h2⟩ := h
  refine ⟨h1, ?_⟩
  cases d with
  | none => exact h2
  | some dx =>
    obtain ⟨fs, h6, h3, h5, h4⟩ := h2
    exact ⟨fs, fun z => h6 (m _ z), h3, h5, h4.anti m⟩
theorem sd_seq (h : SX W Wx ts δ (fun δ' => SX W Wx tu δ' N R B C X) R B C X) : SX W Wx (tSeq ts tu) δ N R B C X := fun M0 H0 M σ H E p e o =>
  h M0 H0 M σ H { E with nx := tu E } p e ⟨fun M' σ' δ' H' p' e' hN => hN M0 H0 M' σ' H' E p' e' o, o.rt, o.bk, o.ct, o.xw⟩
theorem sd_next (h : N δ) : SX W Wx tNext δ N R B C X := fun M0 H0 M σ H E p e o => o.nx M σ δ H p e h
theorem sd_asg {i : Nat} (h : EvD W te δ fun d => N (δ.set i (some d))) : SX W Wx (tAsg te (gName i)) δ N R B C X := fun M0 H0 M σ H E p e o =>
  h M σ H p _ fun v d H1 g1 k1 r1 h1 => o.nx M _ _ H1 ⟨p.wf.next g1 k1, (p.next g1 k1).sl.set i r1⟩ (e.next k1) h1
theorem sd_ret (h : EvD W te δ R) : SX W Wx (tRet te) δ N R B C X := fun M0 H0 M σ H E p e o =>
  h M σ H p _ fun v d H1 g1 k1 r1 h1 => o.rt v d H1 g1 (e.k.trans k1) (r1.anti e.m) h1
theorem sd_retN (h : R .non) : SX W Wx tRetN δ N R B C X := fun M0 H0 M σ H E p e o => o.rt .non .non H p.wf.g e.k .non h
theorem sd_drop (h : EvD W te δ fun _ => N δ) : SX W Wx (tDrop te) δ N R B C X := fun M0 H0 M σ H E p e o =>
  h M σ H p _ fun v d H1 g1 k1 r1 h1 => o.nx M σ δ H1 (p.next g1 k1) (e.next k1) h1
theorem sd_if (h : EvT W t δ fun b => (b = true → SX W Wx ts δ N R B C X) ∧ (b = false → SX W Wx tu δ N R B C X)) : SX W Wx (tIfS t ts tu) δ N R B C X := fun M0 H0 M σ H E p e o =>
  h M σ H p _ fun b H1 g1 k1 h1 => by
    cases b with
    | true =>
      rw [if_pos rfl]
      exact h1.1 rfl M0 H0 M σ H1 E (p.next g1 k1) (e.next k1) o
    | false =>
      rw [if_neg Bool.false_ne_true]
      exact h1.2 rfl M0 H0 M σ H1 E (p.next g1 k1) (e.next k1) o
/-- a, b = x, y -/
theorem sd_par {i j : Nat} {ta : TA} (h : EvA W ta δ fun xs => ∃ x y, xs = [x, y] ∧ N ((δ.set i (some x)).set j (some y))) : SX W Wx (tPar i j ta) δ N R B C X := fun M0 H0 M σ H E p e o =>
  h M σ H p _ fun vs xs H1 g1 k1 r1 h1 => by
    obtain ⟨x, y, rfl, hN⟩ := h1
    cases r1 with
    | cons r1 r2 =>
      cases r2 with
      | cons r2 r3 =>
        cases r3
        exact ⟨_, _, rfl, o.nx M _ _ H1 ⟨p.wf.next g1 k1, ((p.next g1 k1).sl.set i r1).set j r2⟩ (e.next k1) hN⟩
def GD (W : Wd) (g : TG) (d : D) (δ : DS) (js : List Nat) (Nx : DS → Prop) : Prop := ∀ (M : Addr → Prop) (σ : L2.St) (H : Hp) (v : V), Pre W M δ σ H → Rep W M H v d → ∀ Q : L2.St → Hp → Prop,
  (∀ σ' δ', Pre W M δ' σ' H → Nx δ' → (∀ vs : List Nat, (∀ j ∈ js, j ∈ vs) → wipe σ' vs = wipe σ vs) → Q σ' H) → g v σ H Q
theorem wipe_get (σ : L2.St) : ∀ (vs : List Nat) (i : Nat), (wipe σ vs)[i]? = if i ∈ vs ∧ i < σ.length then some none else σ[i]?
  | [], i => by
    unfold wipe
    rw [if_neg (by simp)]
  | v :: vs, i => by
    unfold wipe
    rw [List.getElem?_set, wipe_length, wipe_get σ vs i]
    by_cases hv : v = i
    · subst hv
      by_cases hl : v < σ.length
      · rw [if_pos rfl, if_pos hl, if_pos ⟨by simp, hl⟩]
      · rw [if_pos rfl, if_neg hl, if_neg (fun z => hl z.2)]
        exact (List.getElem?_eq_none (by omega)).symm
    · rw [if_neg hv]
      have e : (i ∈ v :: vs ∧ i < σ.length) ↔ (i ∈ vs ∧ i < σ.length) := by
        constructor
        · rintro ⟨h1, h2⟩
          rcases List.mem_cons.mp h1 with z | z
          · exact absurd z.symm hv
          · exact ⟨z, h2⟩
        · rintro ⟨h1, h2⟩
          exact ⟨List.mem_cons_of_mem _ h1, h2⟩
      by_cases hc : i ∈ vs ∧ i < σ.length
      · rw [if_pos hc, if_pos (e.mpr hc)]
      · rw [if_neg hc, if_neg (fun z => hc (e.mp z))]
theorem wipe_set {σ : L2.St} {j : Nat} {x : Option V} {vs : List Nat} (h : j ∈ vs) : wipe (σ.set j x) vs = wipe σ vs := by
  apply List.ext_getElem?
  intro i
  rw [wipe_get, wipe_get, List.length_set]
  by_cases hc : i ∈ vs ∧ i < σ.length
  · rw [if_pos hc, if_pos hc]
  · rw [if_neg hc, if_neg hc, List.getElem?_set]
    by_cases hj : j = i
    · subst hj
      have hl : ¬ j < σ.length := fun z => hc ⟨h, z⟩
      rw [if_pos rfl, if_neg hl]
      exact (List.getElem?_eq_none (by omega)).symm
    · rw [if_neg hj]
theorem wipe_wipe (σ : L2.St) (vs : List Nat) : wipe (wipe σ vs) vs = wipe σ vs := by
  apply List.ext_getElem?
  intro i
  rw [wipe_get, wipe_get, wipe_length]
  by_cases hc : i ∈ vs ∧ i < σ.length
  · rw [if_pos hc, if_pos hc]
  · rw [if_neg hc, if_neg hc]
theorem gd_name {j : Nat} {d : D} {Nx : DS → Prop} (h : Nx (δ.set j (some d))) : GD W (gName j) d δ [j] Nx := fun M σ H v p r Q q =>
  q _ _ ⟨p.wf, p.sl.set j r⟩ h fun vs hv => wipe_set (hv j (List.mem_singleton.mpr rfl))
/-- the iterator J gives the items ds, one a turn, whatever is laid meanwhile -/
def Src (W : Wd) (M : Addr → Prop) (J : It) (H1 : Hp) (ds : List D) : Prop := ∀ (M' : Addr → Prop), (∀ a, M a → M' a) → (∀ a, M' a → ¬ M a → H1 a = none) → ∀ (i : Nat) (H2 : Hp), KeepM W M H1 H2 → StOk W H2 →
  (i = ds.length → J.stop i H2) ∧ ∀ d, ds[i]? = some d → J.go i H2 ∧ ∀ x H3, J.yld i H2 x H3 → StOk W H3 ∧ Keep W H2 H3 ∧ Rep W M' H3 x d
def IterD (W : Wd) (wi : TI) (δ : DS) (P : List D → Prop) : Prop := ∀ (M : Addr → Prop) (σ : L2.St) (H : Hp), Pre W M δ σ H → ∀ R : It → Hp → Prop,
  (∀ (J : It) (H1 : Hp) (ds : List D), StOk W H1 → Keep W H H1 → P ds → Src W M J H1 ds → R J H1) → wi σ H R
theorem src_lst {M : Addr → Prop} {H1 : Hp} {a : Addr} {vs : List V} {ds : List D} (w : Wf W M H1) (na : ¬ M a) (hs : H1 a = some (.lst vs)) (hr : Reps W M H1 vs ds) : Src W M (Itl W.K a) H1 ds := fun M' hm hn i H2 k g => by
  have wg : Wg W M' H1 := ⟨w.g, fun b e => hm b (w.sm b e)⟩
  have na' : ¬ M' a := fun z => by
    rw [hn a z na] at hs; cases hs
  have hs2 : SqL W.K H2 a vs := .inl (.inl (rdL_keepM wg (k.mono hm) na' hs))
  have hr2 : Reps W M' H2 vs ds := (hr.more hn).keepM wg (k.mono hm)
  refine ⟨fun hl => ⟨vs, hs2, by rw [hr2.length]; exact Nat.le_of_eq hl.symm⟩, fun d hd => ?_⟩
  obtain ⟨v, hv, rv⟩ := hr2.get hd
  refine ⟨⟨vs, v, hs2, hv⟩, fun x H3 y => ?_⟩
  obtain ⟨rfl, y2⟩ := y
  have e : vs[i]? = some x := y2 vs hs2
  rw [hv] at e
  cases e
  exact ⟨g, Keep.refl _, rv⟩
theorem it_lst {P : List D → Prop} (h : EvD W tl δ fun x => ∃ ds, x = .lst ds ∧ P ds) : IterD W (iList W.K tl) δ P := fun M σ H p R q => h M σ H p _ fun v d H1 g1 k1 r1 h1 => by
  obtain ⟨ds, rfl, hP⟩ := h1
  cases r1 with
  | lst hn hs hr => exact ⟨_, rfl, ⟨_, .inl (.inl hs)⟩, q _ H1 ds g1 k1 hP (src_lst (p.wf.next g1 k1) hn hs hr)⟩
def iSeq (K : PySem.W.Frag) (tl : TE) : TI := fun σ H R => iList K tl σ H R ∨ iTup K tl σ H R
theorem pi_seq {X : Cx} {tg iter : Expr} {tl : TE} (h1 : PI X tg iter (iList X.K tl)) (h2 : PI X tg iter (iTup X.K tl)) : PI X tg iter (iSeq X.K tl) := ⟨fun pins s σ H R I h => by
  rcases h with h | h
  · exact h1.run pins s σ H R I h
  · exact h2.run pins s σ H R I h⟩
theorem it_seqL {P : List D → Prop} (h : EvD W tl δ fun x => ∃ ds, x = .lst ds ∧ P ds) : IterD W (iSeq W.K tl) δ P := fun M σ H p R q => .inl (it_lst h M σ H p R q)
def rngD (lo : Int) (n : Nat) : List D := (List.range n).map fun (k : Nat) => .int (lo + (k : Int))
theorem rngD_length (lo : Int) (n : Nat) : (rngD lo n).length = n := by simp [rngD]
theorem rngD_get {lo : Int} {n i : Nat} {d : D} (h : (rngD lo n)[i]? = some d) : i < n ∧ d = .int (lo + (i : Int)) := by
  have hl : i < n := by
    have := (List.getElem?_eq_some_iff.mp h).1
    rw [rngD_length] at this
    exact this
  refine ⟨hl, ?_⟩
  unfold rngD at h
  rw [List.getElem?_map, List.getElem?_range hl] at h
  exact (Option.some.inj h).symm
theorem src_rng {M : Addr → Prop} {H1 : Hp} (lo : Int) (n : Nat) : Src W M (Itr lo n) H1 (rngD lo n) := fun M' hm hn i H2 k g => by
  refine ⟨fun hl => by rw [rngD_length] at hl; exact Nat.le_of_eq hl.symm, fun d hd => ?_⟩
  obtain ⟨hl, rfl⟩ := rngD_get hd
  refine ⟨hl, fun x H3 y => ?_⟩
  obtain ⟨rfl, rfl⟩ := y
  exact ⟨g, Keep.refl _, .int _⟩
theorem it_rng1 {P : List D → Prop} {ta : TA} (h : EvA W ta δ fun xs => ∃ n : Int, xs = [.int n] ∧ n < 2 ^ 62 ∧ -(2 ^ 62) ≤ n ∧ P (rngD 0 n.toNat)) : IterD W (iRng1 ta) δ P := fun M σ H p R q => h M σ H p _ fun vs ds H1 g1 k1 r1 h1 => by
  obtain ⟨n, rfl, h2, h3, hP⟩ := h1
  cases r1 with
  | cons r1 r2 =>
    cases r2
    cases r1
    exact ⟨n, rfl, h3, h2, q _ H1 _ g1 k1 hP (src_rng 0 _)⟩
def zipD (ds es : List D) : List D := List.zipWith (fun x y => .tup [x, y]) ds es
theorem sd_for {wi : TI} (h : IterD W wi δ fun ds => ∃ Inv : Nat → DS → Prop, Inv 0 δ ∧ (∀ i d δ', ds[i]? = some d → Inv i δ' → ∃ js, GD W g d δ' js fun δ2 => SX W Wx ts δ2 (Inv (i + 1)) R N (Inv (i + 1)) X) ∧ ∀ δ', Inv ds.length δ' → N δ') : SX W Wx (tFor wi g ts) δ N R B C X := fun M0 H0 M σ H E p e o =>
  h M σ H p _ fun J H1 ds g1 k1 ⟨I, i0, it, ie⟩ src => by
    refine ⟨fun i m σ' H' => m = ds.length - i ∧ i ≤ ds.length ∧ ∃ M' δ', Pre W M' δ' σ' H' ∧ Ent W M H1 M' H' ∧ I i δ', ⟨_, rfl, Nat.zero_le _, M, δ, p.next g1 k1, ⟨Keep.refl _, fun _ x => x, fun a x y => absurd x y⟩, i0⟩, ?_⟩
    rintro i m σ' H' ⟨rfl, hi, M', δ', p', e', hI⟩
    have base : ∀ {M2 : Addr → Prop} {H2 : Hp}, Ent W M H1 M2 H2 → Ent W M0 H0 M2 H2 := fun {M2 H2} x => ⟨(e.k.trans k1).trans x.k, fun a ha => x.m a (e.m a ha), fun a ha hn => by
      by_cases hM : M a
      · exact e.new a hM hn
      · have h1 := x.new a ha hM
        cases h0 : H0 a with
        | none => rfl
        | some oo =>
          have ns : W.s ≠ some a := fun z => hM (p.wf.sm a z)
          rw [k1 a oo ns (e.k a oo ns h0)] at h1
          cases h1⟩
    obtain ⟨s1, s2⟩ := src M' e'.m e'.new i H' e'.k.toM p'.wf.g
    by_cases hlt : i < ds.length
    · obtain ⟨hgo, hy⟩ := s2 ds[i] (List.getElem?_eq_getElem hlt)
      refine .inr ⟨hgo, fun σ2 H2 => ∃ M2 δ2, Pre W M2 δ2 σ2 H2 ∧ Ent W M H1 M2 H2 ∧ I (i + 1) δ2, ?_, fun x H3 y => ?_⟩
      · rintro σ2 H2 ⟨M2, δ2, q1, q2, q3⟩
        exact ⟨_, by omega, rfl, hlt, M2, δ2, q1, q2, q3⟩
      · obtain ⟨g3, k3, r3⟩ := hy x H3 y
        obtain ⟨js, hg⟩ := it i ds[i] δ' (List.getElem?_eq_getElem hlt) hI
        refine hg M' σ' H3 x (p'.next g3 k3) r3 _ fun σ4 δ4 p4 hb _ => ?_
        refine hb M H1 M' σ4 H3 _ p4 (e'.next k3) ⟨fun M5 σ5 δ5 H5 p5 e5 x5 => ⟨M5, δ5, p5, e5, x5⟩, fun v d H5 g5 k5 r5 x5 => o.rt v d H5 g5 ((e.k.trans k1).trans k5) (r5.anti e.m) x5, fun M5 σ5 δ5 H5 p5 e5 x5 => o.nx M5 σ5 δ5 H5 p5 (base e5) x5, fun M5 σ5 δ5 H5 p5 e5 x5 => ⟨M5, δ5, p5, e5, x5⟩, fun M5 σ5 δ5 H5 cls d5 x5 p5 e5 r5 h5 => o.xw M5 σ5 δ5 H5 cls d5 x5 p5 (base e5) r5 h5⟩
    · have ee : i = ds.length := by omega
      refine .inl ⟨s1 ee, o.nx M' σ' δ' H' p' (base e') (ie δ' ?_)⟩
      rw [← ee]
      exact hI
/-- what gives a list that was not there before -/
def EvF (W : Wd) (te : TE) (δ : DS) (P : List D → Prop) : Prop := ∀ (M : Addr → Prop) (σ : L2.St) (H : Hp), Pre W M δ σ H → ∀ Q : VK,
  (∀ (a : Addr) (vs : List V) (ds : List D) (H' : Hp), StOk W H' → Keep W H H' → H a = none → ¬ M a → H' a = some (.lst vs) → Reps W (fun b => M b ∨ b = a) H' vs ds → P ds → Q (.ref a) H') → te σ H Q
theorem ev_ofF {P : D → Prop} (h : EvF W te δ fun ds => P (.lst ds)) : EvD W te δ P := fun M σ H p Q q => h M σ H p Q fun a vs ds H' g k hn nm hv r hP => q _ (.lst ds) H' g k (.lst nm hv (r.anti fun _ x => .inl x)) hP
theorem ev_lcF {wi : TI} {tt : TT} {vs : List Nat} {P : List D → Prop} (h : IterD W wi δ fun ds => ds.length ≤ 100000 ∧ ∃ Inv : Nat → List D → Prop, Inv 0 [] ∧
    (∀ i d acc, ds[i]? = some d → Inv i acc → ∃ js, (∀ j ∈ js, j ∈ vs) ∧ GD W g d (wipeD δ vs) js fun δ2 => EvT W tt δ2 fun b => (b = true → EvD W te δ2 fun y => Inv (i + 1) (acc ++ [y])) ∧ (b = false → Inv (i + 1) acc)) ∧ ∀ acc, Inv ds.length acc → P acc) :
    EvF W (tLc wi g tt te vs) δ P := fun M σ H p Q q =>
  h M σ H p _ fun J H1 ds g1 k1 ⟨hlen, I, i0, it, ie⟩ src => by
    intro Dl hD
    have p1 := p.next g1 k1
    let M' : Addr → Prop := fun a => M a ∨ a = Dl
    have hm : ∀ a, M a → M' a := fun a x => .inl x
    have hn : ∀ a, M' a → ¬ M a → H1 a = none := fun a x y => by
      rcases x with x | x
      · exact absurd x y
      · rw [x]; exact hD
    have hns : W.s ≠ some Dl := fun z => by
      obtain ⟨ns, i, c, m, q, _⟩ := g1 Dl z
      rw [hD] at q
      cases q
    have notM : ¬ M Dl := fun m => by
      obtain ⟨o, ho⟩ := p1.wf.dom Dl m
      rw [hD] at ho
      cases ho
    refine ⟨fun i m H' => m = ds.length - i ∧ i ≤ ds.length ∧ ∃ acc vs', Keep W H1 H' ∧ StOk W H' ∧ H' Dl = some (.lst vs') ∧ Reps W M' H' vs' acc ∧ acc.length ≤ i ∧ I i acc, ⟨_, rfl, Nat.zero_le _, [], [], Keep.new hD, g1.new hD, upd_same, .nil, Nat.zero_le _, i0⟩, ?_⟩
    rintro i m H' ⟨rfl, hi, acc, vs', kH, gH, eD, rA, hal, hI⟩
    have wf' : Wf W M' H' := ⟨gH, fun a z => .inl (p.wf.sm a z), fun a x => by
      rcases x with x | x
      · exact (p1.wf.next gH kH).dom a x
      · rw [x]; exact ⟨_, eD⟩⟩
    obtain ⟨s1, s2⟩ := src M' hm hn i H' kH.toM gH
    by_cases hlt : i < ds.length
    · obtain ⟨hgo, hy⟩ := s2 ds[i] (List.getElem?_eq_getElem hlt)
      refine .inr ⟨hgo, fun H2 => ∃ acc vs', Keep W H1 H2 ∧ StOk W H2 ∧ H2 Dl = some (.lst vs') ∧ Reps W M' H2 vs' acc ∧ acc.length ≤ i + 1 ∧ I (i + 1) acc, ?_, fun x H3 y => ?_⟩
      · rintro H2 ⟨acc2, vs2, z⟩
        exact ⟨_, by omega, rfl, hlt, acc2, vs2, z⟩
      · obtain ⟨g3, k3, r3⟩ := hy x H3 y
        have wf3 := wf'.next g3 k3
        obtain ⟨js, hjs, hg⟩ := it i ds[i] acc (List.getElem?_eq_getElem hlt) hI
        have sl : Slots W M' H3 (wipe σ vs) (wipeD δ vs) := by
          have s0 : Slots W M H1 (wipe σ vs) (wipeD δ vs) := p1.sl.wipe vs
          have wg : Wg W M' H1 := ⟨g1, fun a z => .inl (p.wf.sm a z)⟩
          exact ⟨s0.len, fun j d hd => by
            obtain ⟨v, a1, a2⟩ := s0.get j d hd
            exact ⟨v, a1, (a2.more hn).keepG wg (kH.trans k3)⟩⟩
        refine hg M' (wipe σ vs) H3 x ⟨wf3, sl⟩ r3 _ fun σ4 δ4 p4 hb hw => ?_
        refine ⟨by rw [hw vs hjs, wipe_wipe], ?_⟩
        refine hb M' σ4 H3 p4 _ fun b H5 g5 k5 h5 => ?_
        have p5 := p4.next g5 k5
        have eD5 : H5 Dl = some (.lst vs') := k5 Dl _ hns (k3 Dl _ hns eD)
        have rA5 : Reps W M' H5 vs' acc := (rA.keep wf' k3).keep wf3 k5
        cases b with
        | true =>
          rw [if_pos rfl]
          refine h5.1 rfl M' σ4 H5 p5 _ fun v d H6 g6 k6 r6 h6 => ?_
          have eD6 : H6 Dl = some (.lst vs') := k6 Dl _ hns eD5
          have kU : ∀ a o, a ≠ Dl → H6 a = some o → (upd H6 Dl (.lst (vs' ++ [v]))) a = some o := fun a o na ho => by rw [upd_ne na]; exact ho
          have gU : StOk W (upd H6 Dl (.lst (vs' ++ [v]))) := fun s hs => by
            obtain ⟨ns, i', c, m, q1, q2, q3, q4⟩ := g6 s hs
            refine ⟨ns, i', c, m, kU s _ (fun z => hns (z ▸ hs)) q1, q2, kU W.b _ (fun z => ?_) q3, q4⟩
            obtain ⟨ns0, i0', c0, m0, q10, q20, q30, q40⟩ := g1 s hs
            rw [z, hD] at q30
            cases q30
          have kX : ∀ {H7 : Hp}, Keep W H1 H7 → Keep W H1 (upd H7 Dl (.lst (vs' ++ [v]))) := fun kk a o ns ho => by
            rw [upd_ne (ne_of_none ho hD)]
            exact kk a o ns ho
          refine ⟨vs', eD6, ?_, acc ++ [d], vs' ++ [v], kX (((kH.trans k3).trans k5).trans k6), gU, upd_same, ?_, ?_, h6⟩
          · rw [(rA5).length]
            exact Nat.lt_of_lt_of_le (Nat.lt_of_le_of_lt hal (Nat.lt_of_lt_of_le hlt hlen)) (by decide)
          · exact ((rA5.keep p5.wf k6).append (.cons r6 .nil)).upd (rdT_lst eD6) (.inr rfl)
          · simp; omega
        | false =>
          rw [if_neg Bool.false_ne_true]
          exact ⟨acc, vs', ((kH.trans k3).trans k5), g5, eD5, rA5, by omega, h5.2 rfl⟩
    · have ee : i = ds.length := by omega
      refine .inl ⟨s1 ee, q Dl vs' acc H' gH (k1.trans kH) ?_ notM eD rA (ie acc (ee ▸ hI))⟩
      cases z : H Dl with
      | none => rfl
      | some oo =>
        rw [k1 Dl oo hns z] at hD
        cases hD
end
end PD
namespace PD
open PySem PySem.Spec PyProof.Rows L2
open RZ (iZipA ItzT)
abbrev fr (p : Fr) : D := .tup [.int p.1, .int p.2]
def Sz (n : Nat) (p : Fr) : Prop := p.1.natAbs < 2 ^ n ∧ p.2.natAbs < 2 ^ n
abbrev un (l : List Fr) : D := .tup (l.map fr)
/-- an item of a written list, whichever -/
theorem rd_ixLm {W : Wd} {P : D → Prop} {r : Int} {ds : List D} (h0 : 0 ≤ r) (h1 : r < ds.length) (hP : ∀ d ∈ ds, P d) : RD W (rIx W.K) (.lst ds) (.int r) P := by
  obtain ⟨j, rfl⟩ := Int.eq_ofNat_of_zero_le h0
  have hj : j < ds.length := by omega
  exact rd_ixL (j := j) rfl (List.getElem?_eq_getElem hj) (hP _ (List.getElem_mem hj))
theorem cpow_ok {i j : Int} (h : (decide (0 ≤ j) && (decide (j ≤ 1000000) && decide (i.natAbs < 18446744073709551616))) = true) : CPow i j := by
  rw [Bool.and_eq_true, Bool.and_eq_true] at h
  exact ⟨of_decide_eq_true h.1, of_decide_eq_true h.2.1, of_decide_eq_true h.2.2⟩
theorem sz40 {r : Int} (h : r.natAbs < 10000000000000000000000000000000000000000) : r.natAbs < 2 ^ 134 := Nat.lt_trans h (by decide)
def D.toI : D → Int
  | .int i => i
  | _ => 0
def isFr : D → Bool
  | .tup [a, b] => a.isInt && b.isInt && decide (1 ≤ b.toI) && decide (gcdI a.toI b.toI = 1)
  | _ => false
theorem isInt_of {x : D} (h : x.isInt = true) : ∃ i, x = .int i := by
  cases x <;> first | cases h; done | exact ⟨_, rfl⟩
def D.len : D → Int
  | .tup xs => xs.length
  | _ => -1
mutual
/-- no int within is great -/
def D.small : D → Bool
  | .int i => decide (i.natAbs < 2 ^ 8000)
  | .tup xs | .lst xs => D.smalls xs
  | _ => true
def D.smalls : List D → Bool
  | [] => true
  | x :: xs => x.small && D.smalls xs
end
def isUn (n : Int) : D → Bool
  | .tup xs => decide ((xs.length : Int) = n) && xs.all isFr
  | _ => false
theorem eqv_refl0 {d : PyData} (h : d.canLay0 = true) : PyData.eqv d d = true := SeqAt.eqv_refl d h
theorem D.eqv_self {d : D} (h : d.fine = true) : d.eqv d = true := by
  have h1 := (Bool.and_eq_true_iff.mp h).2
  exact eqv_refl0 (SeqAt.canLay_of_shaped h1)
/-- a def of the text as the top leaves it -/
structure DefT (K : PySem.W.Frag) (mg : Str → Option Value) (x : Str) (st : Stmt) (ps : List Str) where
  f : Addr
  d : FuncData
  F : L2.Fun K x x st f d
  g : mg x = some (.ref f)
  b : Binds K d ps []
section
variable {X : Cx} {K : PySem.W.Frag}
theorem ix_seqK (h : X.K = K) : IxR X (rIx K) := by subst h; exact ix_seq
theorem op_eqDK (h : X.K = K) (hu : X.A.units + 64 < cLine) : OpR X (compareOp .Eq) (rEqD K) := by subst h; exact op_eqD hu
theorem op_neDK (h : X.K = K) (hu : X.A.units + 64 < cLine) : OpR X (compareOp .NotEq) (rNeD K) := by subst h; exact op_neD hu
theorem op_plusK (h : X.K = K) : OpR X (binaryOp .Add) (rPlus K) := by subst h; exact op_plus
theorem cr_allK (h : X.K = K) (hc : X.calm = true) : CallR X (.builtin "all") (rAll K) := by subst h; exact cr_all hc
theorem call_lenK (h : X.K = K) : CallR X (.builtin "len") (fun xs H Q => ∃ x n, xs = [x] ∧ LenV K x H n ∧ Q (.int n) H) := by subst h; exact call_len
theorem call_list_ofK (h : X.K = K) : CallR X (.type "list") (fun xs H Q => ∃ p ys, xs = [.ref p] ∧ (SqL K H p ys ∨ SqT K H p ys) ∧ ∀ l, H l = none → Q (.ref l) (upd H l (.lst ys))) := by subst h; exact call_list_of
theorem pi_seqK {tg iter : Expr} {tl : TE} (h : X.K = K) (hl : PE X iter tl) : PI X tg iter (iSeq K tl) := by subst h; exact pi_seq (pi_list hl) (pi_tup hl)
end
theorem hr_u {k : Nat} {A : Around} (hr : Room k A) : A.units + 64 < cLine := by
  have := hr.un
  omega
abbrev FD := List D → (D → Prop) → Prop
/-- a def's promise, by data -/
def spD (K : PySem.W.Frag) (F : FD) : Sp := fun vs H Q _ => ∃ (W : Wd) (M : Addr → Prop) (ds : List D) (P : D → Prop), W.K = K ∧ Wf W M H ∧ Reps W M H vs ds ∧ F ds P ∧ ∀ v d H', StOk W H' → Keep W H H' → Rep W M H' v d → P d → Q v H'
theorem spD_len {K : PySem.W.Frag} {F : FD} {n : Nat} (hF : ∀ ds P, F ds P → ds.length = n) (vs : List V) (H : Hp) (Q : VK) (E : XK) (h : spD K F vs H Q E) : vs.length = n := by
  obtain ⟨W, M, ds, P, _, _, r, f, _⟩ := h
  rw [r.length]
  exact hF ds P f
theorem ev_call {W : Wd} {δ : DS} {F : FD} {E : XK} {ta : TA} {P : D → Prop} (h : EvA W ta δ fun ds => F ds P) : EvD W (tCall (spD W.K F) [] E ta) δ P := fun M σ H p Q q =>
  h M σ H p _ fun vs ds H1 g1 k1 r1 h1 => ⟨W, M, ds, P, rfl, p.wf.next g1 k1, by rw [List.append_nil]; exact r1, h1, fun v d H2 g2 k2 r2 h2 => q v d H2 g2 (k1.trans k2) r2 h2⟩
def startD (n : Nat) (ds : List D) : DS := ds.map some ++ List.replicate (n - ds.length) none
theorem start_slots {W : Wd} {M : Addr → Prop} {H : Hp} {vs : List V} {ds : List D} (N : List Str) (r : Reps W M H vs ds) : Slots W M H (L2.start N vs) (startD N.length ds) where
  len := by simp [L2.start, startD, r.length]
  get := fun i d h => by
    unfold startD at h
    unfold L2.start
    by_cases hl : i < ds.length
    · rw [List.getElem?_append_left (by rw [List.length_map]; exact hl), List.getElem?_map] at h
      have e : ds[i]? = some d := by
        rw [List.getElem?_eq_getElem hl] at h ⊢
        exact Option.some.inj h
      obtain ⟨v, h1, h2⟩ := r.get e
      refine ⟨v, ?_, h2⟩
      rw [List.getElem?_append_left (by rw [List.length_map, r.length]; exact hl), List.getElem?_map, h1]
      rfl
    · rw [List.getElem?_append_right (by rw [List.length_map]; omega)] at h
      have := List.mem_of_getElem? h
      rw [List.mem_replicate] at this
      cases this.2
theorem body_of {K : PySem.W.Frag} {F : FD} {vs : List V} {H : Hp} {Q : VK} {E : XK} {N : List Str} {t : TS} (h : spD K F vs H Q E)
    (hb : ∀ W ds P, W.K = K → F ds P → SD W t (startD N.length ds) (fun _ => P .non) P (fun _ => False) (fun _ => False)) : t { nx := fun _ H' => Q .non H', rt := Q } (L2.start N vs) H := by
  obtain ⟨W, M, ds, P, e, w, r, f, q⟩ := h
  exact hb W ds P e f M H M _ H _ ⟨w, start_slots N r⟩ ⟨Keep.refl _, fun _ x => x, fun a x y => absurd x y⟩
    ⟨fun M' σ' δ' H' p' e' x => q .non .non H' p'.wf.g e'.k .non x, fun v d H' g k r' x => q v d H' g k r' x, fun _ _ _ _ _ _ x => x.elim, fun _ _ _ _ _ _ x => x.elim, fun _ _ _ _ _ _ _ _ _ _ x => x.elim⟩
def spState (K : PySem.W.Frag) : Sp := fun vs H Q _ => ∃ (a : Addr) (ns : List Int) (t : Int), vs = [.ref a, .int t] ∧ SqL K H a (ns.map V.int) ∧ ns.length ≤ 63 ∧ 0 ≤ t ∧ t < 1000 ∧
  ∀ (H' : Hp) (s b : Addr), (∀ x o, H x = some o → H' x = some o) → H s = none → b ≠ s → H' s = some (.lst [.ref b, .int 0, .int 0, .int (1 + t)]) → H' b = some (.lst (ns.map V.int)) → Q (.ref s) H'
def spLaw (K : PySem.W.Frag) : Sp := fun vs H Q _ => ∃ (a : Addr) (ns : List Int), vs = [.ref a] ∧ SqL K H a (ns.map V.int) ∧ ns.length ≤ 63 ∧ ∀ H', Q (.bl true) H'
theorem law_body {K : PySem.W.Frag} {vs : List V} {H : Hp} {Q : VK} {E E' : XK} {x y : Str} {N : List Str} {t : TS} {tn : Int} (h : spLaw K vs H Q E) (h0 : 0 ≤ tn) (h1 : tn < 1000)
    (hr : ∀ W, W.K = K → SD W t (none :: some .st :: List.replicate N.length none) (fun _ => False) (fun d => d = .bl true) (fun _ => False) (fun _ => False)) :
    tSeq (tAsg (tCall (spState K) [] E' (tCons (tVar 0) (tCons (tC (.int tn)) tNil))) (gName 1)) t { nx := fun _ H' => Q .non H', rt := Q } (L2.start (x :: y :: N) vs) H := by
  obtain ⟨a, ns, rfl, hS, hl, q⟩ := h
  refine ⟨.ref a, rfl, a, ns, tn, rfl, hS, hl, h0, h1, fun H' s b hk hs hb h2 h3 => ?_⟩
  let W : Wd := ⟨K, some s, b⟩
  have g : StOk W H' := fun s' e => by
    cases e
    exact ⟨ns, 0, 0, 1 + tn, h2, hb, h3, by decide, by decide, hl, by decide, by omega, by omega⟩
  have hst : L2.start (x :: y :: N) [V.ref a] = some (.ref a) :: none :: List.replicate N.length none := by
    simp [L2.start, List.replicate_succ]
  have sl : Slots W (fun p => p = s) H' ((L2.start (x :: y :: N) [V.ref a]).set 1 (some (.ref s))) (none :: some .st :: List.replicate N.length none) := by
    rw [hst]
    refine ⟨by simp, fun i d hd => ?_⟩
    match i with
    | 0 => cases hd
    | 1 =>
      cases hd
      exact ⟨.ref s, rfl, .st rfl⟩
    | i + 2 =>
      have hd' : (List.replicate N.length (none : Option D))[i]? = some (some d) := hd
      have := List.mem_of_getElem? hd'
      rw [List.mem_replicate] at this
      cases this.2
  refine hr W rfl (fun p => p = s) H' (fun p => p = s) _ H' _ ⟨⟨g, fun p e => by cases e; rfl, fun p e => (by subst e; exact ⟨_, h2⟩)⟩, sl⟩ ⟨Keep.refl _, fun _ z => z, fun _ z w => absurd z w⟩ ⟨fun _ _ _ _ _ _ z => z.elim, fun v d H2 _ _ r e => ?_, fun _ _ _ _ _ _ z => z.elim, fun _ _ _ _ _ _ z => z.elim, fun _ _ _ _ _ _ _ _ _ _ z => z.elim⟩
  subst e
  cases r
  exact q H2
theorem et_yes {W : Wd} {δ : DS} {P : Bool → Prop} (h : P true) : EvT W tYes δ P := fun M σ H p Q q => q true H p.wf.g (Keep.refl H) h
theorem take_snoc {α : Type} {l : List α} {i : Nat} {x : α} (h : l[i]? = some x) : l.take i ++ [x] = l.take (i + 1) := by
  rw [List.take_add_one, h]
  rfl
/-- the list that comes is known: L -/
theorem ev_lcLF {W : Wd} {δ : DS} {wi : TI} {g : TG} {te : TE} {vs : List Nat} {P : List D → Prop} (h : IterD W wi δ fun ds => ds.length ≤ 100000 ∧ ∃ L : List D, L.length = ds.length ∧
    (∀ (i : Nat) (d y : D), ds[i]? = some d → L[i]? = some y → ∃ js, (∀ j ∈ js, j ∈ vs) ∧ GD W g d (wipeD δ vs) js fun δ2 => EvD W te δ2 fun z => z = y) ∧ P L) : EvF W (tLc wi g tYes te vs) δ P :=
  ev_lcF fun M σ H p R q => h M σ H p R fun J H1 ds g1 k1 ⟨hl, L, hL, hs, hP⟩ => q J H1 ds g1 k1 ⟨hl, fun i acc => acc = L.take i, rfl, fun i d acc hd ha => by
    have hi : i < L.length := by rw [hL]; exact (List.getElem?_eq_some_iff.mp hd).1
    have hy : L[i]? = some L[i] := List.getElem?_eq_getElem hi
    obtain ⟨js, h1, h2⟩ := hs i d _ hd hy
    refine ⟨js, h1, fun M σ H v p r Q q => h2 M σ H v p r Q fun σ' δ' p' e' w' => q σ' δ' p' (et_yes ⟨fun _ => ev_mono e' fun z hz => ?_, fun z => by cases z⟩) w'⟩
    rw [ha, hz]
    exact take_snoc hy, fun acc ha => by
    rw [ha, ← hL, List.take_length]
    exact hP⟩
theorem ev_lcL {W : Wd} {δ : DS} {wi : TI} {g : TG} {te : TE} {vs : List Nat} {P : D → Prop} (h : IterD W wi δ fun ds => ds.length ≤ 100000 ∧ ∃ L : List D, L.length = ds.length ∧
    (∀ (i : Nat) (d y : D), ds[i]? = some d → L[i]? = some y → ∃ js, (∀ j ∈ js, j ∈ vs) ∧ GD W g d (wipeD δ vs) js fun δ2 => EvD W te δ2 fun z => z = y) ∧ P (.lst L)) : EvD W (tLc wi g tYes te vs) δ P := ev_ofF (ev_lcLF h)
theorem lt_pow {n m k : Nat} (h : n < 2 ^ m) (hk : m ≤ k) : n < 2 ^ k := Nat.lt_of_lt_of_le h (Nat.pow_le_pow_right (by decide) hk)
theorem Sz.mono {n m : Nat} {p : Fr} (h : Sz n p) (hm : n ≤ m) : Sz m p := ⟨lt_pow h.1 hm, lt_pow h.2 hm⟩
theorem div_ok {i j : Int} (h : 0 < j) (hb : j.natAbs < 2 ^ 8000) : CDivW i j := wide_div h hb (by decide) (by decide)
theorem mul_small {i j : Int} (h1 : -1000000000000 < i) (h2 : i < 1000000000000) (h3 : -1000000000000 < j) (h4 : j < 1000000000000) : CMulW i j :=
  wide_mul (a := 60) (b := 60) (by have : (2 : Nat) ^ 60 = 1152921504606846976 := by decide
                                   omega) (by have : (2 : Nat) ^ 60 = 1152921504606846976 := by decide
                                              omega) (by decide) (by decide) (by decide)
theorem div_small {i j : Int} (h1 : 0 < j) (h2 : j < 1000000000000) : CDivW i j :=
  wide_div (b := 60) h1 (by have : (2 : Nat) ^ 60 = 1152921504606846976 := by decide
                            omega) (by decide) (by decide)
end PD
namespace PDI
open PySem PySem.Spec L2 PyProof.Rows
open AutoSeq1 (wpAny_loadPart')
theorem two {e it b : Addr} (h : b ∈ [e, it]) : b = e ∨ b = it := by
  rcases List.mem_cons.mp h with z | z
  · exact .inl z
  · exact .inr (List.mem_singleton.mp z)
end PDI
namespace PDX
open PySem PySem.Spec L2 PyProof.Rows
section
variable {fs : List Addr} {P : Program} {w : World} {A B : Hp} {h0 h1 h2 G : Heap} {p : Addr} {o : HO}
/-- seen from a smaller heap, without the object at p -/
theorem un_from (u : Un fs [] (upd A p o) B h1 h2) (le : ∀ x v, h0.get? x = some v → h1.get? x = some v) (off : ∀ x v, h0.get? x = some v → x ≠ p) (hp : A p = none) : Un fs [] A B h0 h2 := by
  have same : ∀ {x : Addr}, x ≠ p → upd A p o x = A x := fun z => upd_ne z
  have told : ∀ {x : Addr} {v : HO}, A x = some v → x ≠ p := fun {x v} e z => by rw [z, hp] at e; cases e
  constructor
  · intro x v e n f q
    exact u.keep x v (le x v e) ((same (off x v e)).trans n) f q
  · intro x v e n f q
    exact u.slot x v (le x v e) ((same (off x v e)).trans n) f q
  · intro x v e n q
    exact u.free x v (le x v e) ((same (off x v e)).trans n) q
  · intro x v e q
    exact u.there x v (le x v e) q
  · intro x v e
    exact u.tups x v ((same (told e)).trans e)
  · intro x v y e
    exact u.frzs x v y ((same (told e)).trans e)
  · intro x v e
    exact u.tbls x v ((same (told e)).trans e)
end
end PDX
namespace PD
open PySem PySem.Spec PyProof.Rows L2
open RZ (iZipA ItzT)
open PDX PDI
abbrev FX := List D → (D → Prop) → (XV → Prop) → Prop
def spX (K : PySem.W.Frag) (F : FX) : Sp := fun vs H Q E => ∃ (W : Wd) (M : Addr → Prop) (ds : List D) (P : D → Prop) (X : XV → Prop), W.K = K ∧ Wf W M H ∧ Reps W M H vs ds ∧ F ds P X ∧
  (∀ v d H', StOk W H' → Keep W H H' → Rep W M H' v d → P d → Q v H') ∧ ∀ cls dx x H', StOk W H' → Keep W H H' → XRep W M H' cls dx x → X x → E cls dx H'
section
variable {W : Wd} {Wx : WX} {X : XV → DS → Prop} {δ : DS} {N : DS → Prop} {R : D → Prop} {B C : DS → Prop} {ta : TA} {F : FX}
theorem XRep.keep {M : Addr → Prop} {H H' : Hp} {cls : Value} {d : Option Addr} {x : XV} (w : Wf W M H) (k : Keep W H H') (h : XRep W M H cls d x) : XRep W M H' cls d x := by
  obtain ⟨h1, h2⟩ := h
  refine ⟨h1, ?_⟩
  cases d with
  | none => exact h2
  | some dx =>
    obtain ⟨fs, h6, h3, h5, h4⟩ := h2
    refine ⟨fs, h6, k dx _ (fun e => ?_) h3, h5, h4.keep w k⟩
    obtain ⟨ns, i, c, m, q, _⟩ := w.g dx e
    rw [h3] at q
    cases q
/-- a call that may raise, as a statement -/
theorem callX_core {M0 M : Addr → Prop} {H0 H1 : Hp} {σ : L2.St} {vs : List V} {ds : List D} {E : Ends} {Q : VK} {P : D → Prop} (p : Pre W M δ σ H1) (e : Ent W M0 H0 M H1) (r : Reps W M H1 vs ds) (o : Outs W Wx M0 H0 N R B C X E) (hF : F ds P fun x => X x δ)
    (hQ : ∀ v d H2, StOk W H2 → Keep W H1 H2 → Rep W M H2 v d → P d → Q v H2) : spX W.K F vs H1 Q (WE Wx σ) :=
  ⟨W, M, ds, P, fun x => X x δ, rfl, p.wf, r, hF, hQ, fun cls dx x H2 g2 k2 r2 hx => o.xw M σ δ H2 cls dx x (p.next g2 k2) (e.next k2) r2 hx⟩
theorem sx_drop (h : EvA W ta δ fun ds => F ds (fun _ => N δ) fun x => X x δ) : SX W Wx (tDrop (tCallS (spX W.K F) (WE Wx) ta)) δ N R B C X := fun M0 H0 M σ H E p e o =>
  h M σ H p _ fun vs ds H1 g1 k1 r1 h1 => callX_core (p.next g1 k1) (e.next k1) r1 o h1 fun v d H2 g2 k2 r2 hN => o.nx M σ δ H2 ((p.next g1 k1).next g2 k2) ((e.next k1).next k2) hN
theorem sx_ret (h : EvA W ta δ fun ds => F ds R fun x => X x δ) : SX W Wx (tRet (tCallS (spX W.K F) (WE Wx) ta)) δ N R B C X := fun M0 H0 M σ H E p e o =>
  h M σ H p _ fun vs ds H1 g1 k1 r1 h1 => callX_core (p.next g1 k1) (e.next k1) r1 o h1 fun v d H2 g2 k2 r2 hR => o.rt v d H2 g2 ((e.k.trans k1).trans k2) (r2.anti e.m) hR
/-- what an __init__ that stores nothing keeps -/
def spI0 (K : PySem.W.Frag) : Sp := fun vs H Q _ => ∃ a C, vs = [.ref a] ∧ OexC K C ∧ H a = some (exo a C none) ∧ Q .non H
/-- what an __init__ that stores its one argument keeps -/
def spI1 (K : PySem.W.Frag) (f : Str) : Sp := fun vs H Q _ => ∃ a C y, vs = [.ref a, y] ∧ OexC K C ∧ PySem.W.findIn K (.ref C) f = some none ∧ H a = some (exo a C none) ∧
  ∀ dx, H dx = none → dx ≠ a → Q .non (upd (upd H dx (exd dx [(f, y)])) a (exo a C (some dx)))
end
end PD
namespace PD
open PySem PySem.Spec PyProof.Rows L2
open RZ (iZipA ItzT)
open PDX PDI
abbrev FI := Addr → List D → (List Str → List D → Prop) → (XV → Prop) → Prop
/-- what a class's __init__ keeps: the new object (at x, its dict at dx) gets its fields, the rest stands -/
def spInit (K : PySem.W.Frag) (F : FI) : Sp := fun vs H Q E => ∃ (W : Wd) (M : Addr → Prop) (x dx C : Addr) (ws : List V) (ds : List D) (P : List Str → List D → Prop) (X : XV → Prop), vs = .ref x :: ws ∧ W.K = K ∧ Wf W M H ∧ M x ∧ W.s ≠ some x ∧
  H x = some (.ins C dx []) ∧ Reps W M H ws ds ∧ F C ds P X ∧
  (∀ H' fs es, StOk W H' → (∀ a o, a ≠ x → W.s ≠ some a → H a = some o → H' a = some o) → H' x = some (.ins C dx fs) → Reps W M H' (fs.map (·.2)) es → P (fs.map (·.1)) es → Q .non H') ∧
  ∀ cls d y H', StOk W H' → (∀ a o, a ≠ x → W.s ≠ some a → H a = some o → H' a = some o) → XRep W M H' cls d y → X y → E cls d H'
theorem make_core {W : Wd} {F : FI} {M : Addr → Prop} {H1 : Hp} {vs : List V} {ds : List D} {C : Addr} {Q : VK} {E : XK} {P : D → Prop} {X : XV → Prop} (w : Wf W M H1) (r : Reps W M H1 vs ds) (hF : F C ds (fun ns es => P (.ins C ns es)) X)
    (q : ∀ v d H', StOk W H' → Keep W H1 H' → Rep W M H' v d → P d → Q v H') (qx : ∀ cls d y H', StOk W H' → Keep W H1 H' → XRep W M H' cls d y → X y → E cls d H') :
    ∀ x dx, H1 x = none → H1 dx = none → dx ≠ x → spInit W.K F (.ref x :: (vs ++ [])) (upd (upd H1 dx (.own x)) x (.ins C dx [])) (fun v H2 => v = .non ∧ Q (.ref x) H2) E := fun x dx hx hd hne => by
  have kn : Keep W H1 (upd (upd H1 dx (.own x)) x (.ins C dx [])) := (Keep.new hd).trans (Keep.new (by rw [upd_ne hne.symm]; exact hx))
  have gn : StOk W (upd (upd H1 dx (.own x)) x (.ins C dx [])) := (w.g.new hd).new (by rw [upd_ne hne.symm]; exact hx)
  have nM : ¬ M x := fun m => by
    obtain ⟨o, ho⟩ := w.dom x m
    rw [hx] at ho
    cases ho
  have ns : W.s ≠ some x := fun e => nM (w.sm x e)
  have hm : ∀ a, M a → M a ∨ a = x := fun a m => .inl m
  have wn : Wf W (fun a => M a ∨ a = x) (upd (upd H1 dx (.own x)) x (.ins C dx [])) := ⟨gn, fun a e => .inl (w.sm a e), fun a m => by
    rcases m with m | m
    · exact (w.next gn kn).dom a m
    · subst m
      exact ⟨_, upd_same⟩⟩
  have rn : Reps W (fun a => M a ∨ a = x) (upd (upd H1 dx (.own x)) x (.ins C dx [])) vs ds := (r.more fun a m n => by
    rcases m with m | m
    · exact absurd m n
    · subst m
      exact hx).keepG ⟨w.g, fun a e => .inl (w.sm a e)⟩ kn
  refine ⟨W, fun a => M a ∨ a = x, x, dx, C, vs, ds, _, X, by rw [List.append_nil], rfl, wn, .inr rfl, ns, upd_same, rn, hF, fun H' fs es g' k' hx' re hP => ⟨rfl, ?_⟩, fun cls d y H' g' k' rx hX => qx cls d y H' g' (fun a o na ho => k' a o (ne_of_none ho hx) na (kn a o na ho)) (rx.anti hm) hX⟩
  have kk : Keep W H1 H' := fun a o na ho => k' a o (ne_of_none ho hx) na (kn a o na ho)
  exact q (.ref x) _ H' g' kk (.ins nM hx' rfl (re.anti hm)) hP
theorem ev_make {W : Wd} {δ : DS} {F : FI} {C : Addr} {ta : TA} {P : D → Prop} (h : EvA W ta δ fun ds => F C ds (fun ns es => P (.ins C ns es)) fun _ => False) : EvD W (tMake C (spInit W.K F) [] (fun _ _ _ => False) ta) δ P := fun M σ H p Q q =>
  h M σ H p _ fun vs ds H1 g1 k1 r1 h1 => make_core (p.wf.next g1 k1) r1 h1 (fun v d H2 g2 k2 r2 h2 => q v d H2 g2 (k1.trans k2) r2 h2) fun _ _ _ _ _ _ _ z => z.elim
end PD
namespace PD
open PySem PySem.Spec PyProof.Rows L2
open RZ (iZipA ItzT)
open PDX PDI
/-- a class's own def -/
structure DefM (K : PySem.W.Frag) (x qual : Str) (st : Stmt) (ps : List Str) where
  f : Addr
  d : FuncData
  F : L2.Fun K x qual st f d
  b : Binds K d ps []
/-- an exception class that stands under its name -/
structure ExcT (K : PySem.W.Frag) (mg : Str → Option Value) (x : Str) (fI : Addr) where
  C : Addr
  g : mg x = some (.ref C)
  o : OexC K C
  i : PySem.W.findIn K (.ref C) "__init__" = some (some (.ref fI))
/-- an instance's class: what isinstance asks -/
structure OCls (K : PySem.W.Frag) (C : Addr) : Prop where
  cl : Cls K C
  ha : PySem.W.findIn K (.ref C) "__class__" = some (some (.builtin "object.__class__"))
  hn : PySem.W.specialIn K (.builtin "object.__class__") "__get__" = some (some (.builtin "getset_descriptor.__get__"))
  ht : PySem.W.takesIn K (.builtin "object.__class__") = some true
  hm : PySem.W.mroIn K C (.type "object") = some true
  kI : PySem.W.kitOne K (.ref C) (.type "int") = some false
  kB : PySem.W.kitOne K (.ref C) (.type "bool") = some false
  kT : PySem.W.kitOne K (.ref C) (.type "tuple") = some false
  kS : PySem.W.kitOne K (.ref C) (.type "str") = some false
mutual
def Jd (K : PySem.W.Frag) : D → Prop
  | .ins C _ _ => OCls K C
  | .tup xs => JdA K xs
  | .lst xs => JdA K xs
  | .ty _ => False
  | .st => False
  | .obj _ => False
  | .exc _ _ _ _ => False
  | .xob _ _ _ => False
  | .tpn _ => False
  | _ => True
def JdA (K : PySem.W.Frag) : List D → Prop
  | [] => True
  | x :: xs => Jd K x ∧ JdA K xs
end
def Jd1 (K : PySem.W.Frag) : D → Prop
  | .ins C _ _ => OCls K C
  | x => x.tyName.isSome = true
theorem jd_ty {K : PySem.W.Frag} {x : D} (h : Jd K x) : Jd1 K x := by
  cases x <;> first | rfl | (simp only [Jd] at h; done) | (simp only [Jd] at h; exact h)
theorem jdA_of {K : PySem.W.Frag} {xs : List D} (h : ∀ x ∈ xs, Jd K x) : JdA K xs := by
  induction xs with
  | nil => simp only [JdA]
  | cons y ys ih =>
    simp only [JdA]
    exact ⟨h y List.mem_cons_self, ih fun x hx => h x (List.mem_cons_of_mem _ hx)⟩
section
variable {W : Wd} {δ : DS} {P : D → Prop} {ta : TA}
theorem tyxO {M : Addr → Prop} {H : Hp} {v : V} {C : Addr} {ns : List Str} {ds : List D} (o : OCls W.K C) (r : Rep W M H v (.ins C ns ds)) : TyX W.K H v (.ref C) := by
  cases r with
  | ins n e _ _ => exact .base (.ins e o.cl o.ha o.hn o.ht o.hm)
theorem rc_isiO {C : Addr} {ns : List Str} {ds : List D} {n : String} (o : OCls W.K C) (hk : PySem.W.kitOne W.K (.ref C) (.type n) = some false) (h : P (.bl false)) : RCD W (rIsi W.K) [.ins C ns ds, .ty n] P := fun M H vs w r Q q => by
  cases r with
  | cons r1 r2 =>
    cases r2 with
    | cons r2 r3 =>
      cases r3
      cases r2
      exact ⟨_, _, _, _, false, rfl, .ty n, tyxO o r1, hk, q _ _ H w.g (Keep.refl H) (.bl false) h⟩
theorem rc_isiIJ {x : D} (hx : Jd1 W.K x) (h : P (.bl (x.isInt || x.isBl))) : RCD W (rIsi W.K) [x, .ty "int"] P := by
  cases x with
  | ins C ns ds => exact rc_isiO hx hx.kI h
  | _ => exact rc_isiI hx h
theorem rc_isiBJ {x : D} (hx : Jd1 W.K x) (h : P (.bl x.isBl)) : RCD W (rIsi W.K) [x, .ty "bool"] P := by
  cases x with
  | ins C ns ds => exact rc_isiO hx hx.kB h
  | _ => exact rc_isiB hx h
theorem rc_isiTJ {x : D} (hx : Jd1 W.K x) (h : P (.bl x.isTup)) : RCD W (rIsi W.K) [x, .ty "tuple"] P := by
  cases x with
  | ins C ns ds => exact rc_isiO hx hx.kT h
  | _ => exact rc_isiT hx h
theorem newU {M : Addr → Prop} {H : Hp} {p : Addr} {kvs : List (Key × V)} (w : Wf W M H) (hp : H p = none) : StOk W (upd H p (.dK kvs)) ∧ Keep W H (upd H p (.dK kvs)) ∧ Rep W M (upd H p (.dK kvs)) (.ref p) .dct :=
  ⟨w.g.new hp, Keep.new hp, .dct (fun m => by
    obtain ⟨o, ho⟩ := w.dom p m
    rw [hp] at ho
    cases ho) upd_same⟩
theorem ev_dnew (h : P .dct) : EvD W tDNewK δ P := fun M σ H p Q q a ha => by
  obtain ⟨x1, x2, x3⟩ := newU (kvs := []) p.wf ha
  exact q _ _ _ x1 x2 x3 h
theorem ev_disp1 {i j : Int} (h : P .dct) : EvD W (tDisp [(tC (.int i), tC (.int j))]) δ P := fun M σ H p Q q a ha => by
  refine ⟨upd_same, [(.inl i, .int j)], rfl, by show 1 ≤ 15; decide, ?_⟩
  rw [upd_upd]
  obtain ⟨x1, x2, x3⟩ := newU (kvs := mergeK [] [(.inl i, .int j)]) p.wf ha
  exact q _ _ _ x1 x2 x3 h
/-- a part of a slice -/
def EvO (W : Wd) (to : TO) (δ : DS) (P : Option Int → Prop) : Prop := ∀ (M : Addr → Prop) (σ : L2.St) (H : Hp), Pre W M δ σ H → ∀ Q : Option Int → Hp → Prop, (∀ o H', StOk W H' → Keep W H H' → P o → Q o H') → to σ H Q
theorem eo_none {P : Option Int → Prop} (h : P none) : EvO W tNoPart δ P := fun M σ H p Q q => q none H p.wf.g (Keep.refl H) h
theorem eo_some {P : Option Int → Prop} {te : TE} (h : EvD W te δ fun d => ∃ i, d = .int i ∧ P (some i)) : EvO W (tPart te) δ P := fun M σ H p Q q => h M σ H p _ fun v d H1 g1 k1 r1 h1 => by
  obtain ⟨i, rfl, hP⟩ := h1
  cases r1
  exact ⟨i, rfl, q (some i) H1 g1 k1 hP⟩
def cutD (xs : List D) (lo hi : Option Int) : List D := (xs.drop (HT.sIx xs.length 0 lo)).take (HT.sIx xs.length xs.length hi - HT.sIx xs.length 0 lo)
theorem Reps.drop {M : Addr → Prop} {H : Hp} : ∀ {vs : List V} {ds : List D} (n : Nat), Reps W M H vs ds → Reps W M H (vs.drop n) (ds.drop n)
  | _, _, 0, r => by rw [List.drop_zero, List.drop_zero]; exact r
  | _, _, _ + 1, .nil => .nil
  | _, _, n + 1, .cons _ t => Reps.drop n t
theorem Reps.take {M : Addr → Prop} {H : Hp} : ∀ {vs : List V} {ds : List D} (n : Nat), Reps W M H vs ds → Reps W M H (vs.take n) (ds.take n)
  | _, _, 0, _ => by rw [List.take_zero, List.take_zero]; exact .nil
  | _, _, _ + 1, .nil => .nil
  | _, _, n + 1, .cons r t => .cons r (Reps.take n t)
theorem cut_all {xs : List D} {lo hi : Option Int} (h : HT.sIx xs.length 0 lo = 0 ∧ HT.sIx xs.length xs.length hi = xs.length) : cutD xs lo hi = xs := by
  unfold cutD
  rw [h.1, h.2, List.drop_zero, Nat.sub_zero, List.take_length]
theorem ev_sl {te : TE} {tl th : TO} (h : EvD W te δ fun x => ∃ xs, x = .tup xs ∧ EvO W tl δ fun lo => EvO W th δ fun hi => P (.tup (cutD xs lo hi))) : EvD W (tSl (rSlA W.K) te tl th) δ P := fun M σ H p Q q =>
  h M σ H p _ fun v x H1 g1 k1 r1 h1 => by
    obtain ⟨xs, rfl, h1⟩ := h1
    have p1 := p.next g1 k1
    refine h1 M σ H1 p1 _ fun lo H2 g2 k2 h2 => ?_
    have p2 := p1.next g2 k2
    refine h2 M σ H2 p2 _ fun hi H3 g3 k3 h3 => ?_
    have p3 := p2.next g3 k3
    have r3 := (r1.keep p1.wf k2).keep p2.wf k3
    cases r3 with
    | @tup a vs ds hs hr =>
      have hl := hr.length
      refine ⟨a, vs, rfl, hs, fun z => ?_, fun z l hn => ?_⟩
      · refine q _ _ H3 g3 ((k1.trans k2).trans k3) (.tup hs hr) ?_
        rw [hl] at z
        have e : P (.tup (cutD xs lo hi)) := h3
        rw [cut_all z] at e
        exact e
      · have rr : Reps W M H3 (cutV vs lo hi) (cutD xs lo hi) := by
          unfold cutV cutD
          rw [hl]
          exact (hr.drop _).take _
        obtain ⟨x1, x2, x3⟩ := newT p3.wf rr hn
        exact q _ _ _ x1 (((k1.trans k2).trans k3).trans x2) x3 h3
end
end PD
namespace PD
open PySem PySem.Spec PyProof.Rows L2
open PDX PDI
def D.isNon : D → Bool
  | .non => true
  | _ => false
section
variable {W : Wd} {P : D → Prop}
theorem rep_non {M : Addr → Prop} {H : Hp} {v : V} {x : D} (r : Rep W M H v x) : decide (v = V.non) = x.isNon := by
  cases r <;> first | rfl | exact decide_eq_false (by intro z; cases z)
theorem rd_isN {x : D} (h : P (.bl x.isNon)) : RD W (fun x y H Q => y = V.non ∧ Q (V.bl (decide (x = V.non))) H) x .non P := fun M H v u w r1 r2 Q q => by
  cases r2
  refine ⟨rfl, ?_⟩
  rw [rep_non r1]
  exact q _ _ H w.g (Keep.refl H) (.bl _) h
theorem rd_notN {x : D} (h : P (.bl (!x.isNon))) : RD W (fun x y H Q => y = V.non ∧ Q (V.bl (!decide (x = V.non))) H) x .non P := fun M H v u w r1 r2 Q q => by
  cases r2
  refine ⟨rfl, ?_⟩
  rw [rep_non r1]
  exact q _ _ H w.g (Keep.refl H) (.bl _) h
end
/-- what the __init__ of the first class of the errors keeps -/
theorem init0_body {K : PySem.W.Frag} {vs : List V} {H : Hp} {Q : VK} {E : XK} {N : List Str} (h : spI0 K vs H Q E) : tDrop (tVeI K (tCons (tVar 0) tNil)) { nx := fun _ H' => Q .non H', rt := Q } (L2.start N vs) H := by
  obtain ⟨a, C, rfl, hC, e, q⟩ := h
  refine ⟨.ref a, rfl, a, C, [], rfl, Nat.zero_le _, hC, e, q⟩
end PD
namespace PDT
open PySem PySem.Spec L2 PyProof.Rows
end PDT
namespace PD
open PySem PySem.Spec PyProof.Rows L2
open PDX PDI PDT
end PD
namespace PD
open PySem PySem.Spec PyProof.Rows L2
mutual
def D.lays : D → Nat → Bool
  | .non, _ | .bl _, _ | .int _, _ => true
  | .tup xs, n + 1 => D.laysA xs n
  | .lst xs, n + 1 => D.laysA xs n
  | _, _ => false
def D.laysA : List D → Nat → Bool
  | [], _ => true
  | x :: xs, n => x.lays n && D.laysA xs n
end
mutual
theorem lays_ok : ∀ {x : D} {n : Nat}, x.lays n = true → x.plain = true ∧ x.py.canLay0 = true ∧ x.py.depth ≤ n
  | .non, _, _ => by simp [D.plain, D.py, PyData.canLay0, PyData.depth]
  | .bl _, _, _ => by simp [D.plain, D.py, PyData.canLay0, PyData.depth]
  | .int _, _, _ => by simp [D.plain, D.py, PyData.canLay0, PyData.depth]
  | .tup xs, n + 1, h => by
    have e := laysA_ok (xs := xs) (n := n) (by simpa [D.lays] using h)
    simp [D.plain, D.py, PyData.canLay0, PyData.depth, e.1, e.2.1, e.2.2]
  | .lst xs, n + 1, h => by
    have e := laysA_ok (xs := xs) (n := n) (by simpa [D.lays] using h)
    simp [D.plain, D.py, PyData.canLay0, PyData.depth, e.1, e.2.1, e.2.2]
  | .tup _, 0, h => by simp [D.lays] at h
  | .lst _, 0, h => by simp [D.lays] at h
  | .str _, _, h => by simp [D.lays] at h
  | .ty _, _, h => by simp [D.lays] at h
  | .st, _, h => by simp [D.lays] at h
  | .obj _, _, h => by simp [D.lays] at h
  | .dct, _, h => by simp [D.lays] at h
  | .tpn _, _, h => by simp [D.lays] at h
  | .ins _ _ _, _, h => by simp [D.lays] at h
  | .exc _ _ _ _, _, h => by simp [D.lays] at h
  | .xob _ _ _, _, h => by simp [D.lays] at h
  | .dic _ _, _, h => by simp [D.lays] at h
theorem laysA_ok : ∀ {xs : List D} {n : Nat}, D.laysA xs n = true → D.plains xs = true ∧ PyData.canLayAll0 (D.pys xs) = true ∧ PyData.depthAll (D.pys xs) ≤ n
  | [], n, _ => by simp [D.plains, D.pys, PyData.canLayAll0, PyData.depthAll]
  | x :: xs, n, h => by
    simp only [D.laysA, Bool.and_eq_true] at h
    have a := lays_ok h.1
    have b := laysA_ok h.2
    simp [D.plains, D.pys, PyData.canLayAll0, PyData.depthAll, a.1, a.2.1, b.1, b.2.1]
    exact Nat.max_le.mpr ⟨a.2.2, b.2.2⟩
end
theorem lays_fine {x : D} {n : Nat} (h : x.lays n = true) (hn : n ≤ 64) : x.fine = true := by
  obtain ⟨a, b, c⟩ := lays_ok h
  show (x.plain && SeqAt.shaped x.py) = true
  rw [a, Bool.true_and]
  show (x.py.canLay0 && decide (x.py.depth ≤ 64)) = true
  rw [b, Bool.true_and]
  exact decide_eq_true (by omega)
theorem laysA_of {xs : List D} {n : Nat} (h : ∀ x ∈ xs, x.lays n = true) : D.laysA xs n = true := by
  induction xs with
  | nil => simp only [D.laysA]
  | cons y ys ih =>
    simp only [D.laysA, Bool.and_eq_true]
    exact ⟨h y List.mem_cons_self, ih fun x hx => h x (List.mem_cons_of_mem _ hx)⟩
theorem lays_tup {xs : List D} {n : Nat} (h : ∀ x ∈ xs, x.lays n = true) : (D.tup xs).lays (n + 1) = true := by simp only [D.lays]; exact laysA_of h
mutual
def D.slim : D → Bool
  | .int i => decide (i.natAbs < 10000000000000000000000000000000000000000)
  | .tup xs | .lst xs => decide (xs.length ≤ 1000) && D.slims xs
  | _ => true
def D.slims : List D → Bool
  | [] => true
  | x :: xs => D.slim x && D.slims xs
end
mutual
theorem slim_small : ∀ {x : D}, D.slim x = true → x.small = true
  | .int i, h => by
    simp only [D.slim] at h
    simp only [D.small]
    exact decide_eq_true (lt_pow (m := 134) (sz40 (of_decide_eq_true h)) (by decide))
  | .tup xs, h => by
    simp only [D.slim, Bool.and_eq_true] at h
    simp only [D.small]
    exact slims_small h.2
  | .lst xs, h => by
    simp only [D.slim, Bool.and_eq_true] at h
    simp only [D.small]
    exact slims_small h.2
  | .non, _ | .bl _, _ | .str _, _ | .ty _, _ | .st, _ | .obj _, _ | .dct, _ | .tpn _, _ | .ins _ _ _, _ | .exc _ _ _ _, _ | .xob _ _ _, _ | .dic _ _, _ => by simp only [D.small]
theorem slims_small : ∀ {xs : List D}, D.slims xs = true → D.smalls xs = true
  | [], _ => by simp only [D.smalls]
  | x :: xs, h => by
    simp only [D.slims, Bool.and_eq_true] at h
    simp only [D.smalls, Bool.and_eq_true]
    exact ⟨slim_small h.1, slims_small h.2⟩
end
theorem slims_of {xs : List D} (h : ∀ x ∈ xs, x.slim = true) : D.slims xs = true := by
  induction xs with
  | nil => simp only [D.slims]
  | cons y ys ih =>
    simp only [D.slims, Bool.and_eq_true]
    exact ⟨h y List.mem_cons_self, ih fun x hx => h x (List.mem_cons_of_mem _ hx)⟩
/-- what may be passed here: judged and slim -/
structure Gd (K : PySem.W.Frag) (x : D) : Prop where
  j : Jd K x
  s : x.slim = true
theorem Gd.small {K : PySem.W.Frag} {x : D} (h : Gd K x) : x.small = true := slim_small h.s
theorem Gd.ty {K : PySem.W.Frag} {x : D} (h : Gd K x) : Jd1 K x := jd_ty h.j
theorem Gd.tup {K : PySem.W.Frag} {xs : List D} (h : ∀ x ∈ xs, Gd K x) (hl : xs.length ≤ 1000) : Gd K (.tup xs) := ⟨by
    simp only [Jd]
    exact jdA_of fun x hx => (h x hx).j, by
    simp only [D.slim, Bool.and_eq_true]
    exact ⟨decide_eq_true hl, slims_of fun x hx => (h x hx).s⟩⟩
theorem Gd.lst {K : PySem.W.Frag} {xs : List D} (h : ∀ x ∈ xs, Gd K x) (hl : xs.length ≤ 1000) : Gd K (.lst xs) := ⟨by
    simp only [Jd]
    exact jdA_of fun x hx => (h x hx).j, by
    simp only [D.slim, Bool.and_eq_true]
    exact ⟨decide_eq_true hl, slims_of fun x hx => (h x hx).s⟩⟩
theorem Gd.len {K : PySem.W.Frag} {xs : List D} (h : Gd K (.tup xs)) : xs.length ≤ 1000 := by
  have := h.s
  simp only [D.slim, Bool.and_eq_true, decide_eq_true_eq] at this
  exact this.1
theorem Gd.int (K : PySem.W.Frag) {i : Int} (h : i.natAbs < 10000000000000000000000000000000000000000) : Gd K (.int i) := ⟨by simp only [Jd], by simp only [D.slim]; exact decide_eq_true h⟩
theorem Gd.non (K : PySem.W.Frag) : Gd K .non := ⟨by simp only [Jd], by simp only [D.slim]⟩
def topD : D → Int
  | .tup (.int i :: _) => i
  | _ => 0
def botD : D → Int
  | .tup (_ :: .int i :: _) => i
  | _ => 0
def items : D → List D
  | .tup xs => xs
  | _ => []
def exOk (e : D) : Bool := decide (-6 ≤ topD e) && decide (topD e ≤ 6) && decide (botD e ≤ 4)
def isCl (n : Int) (x : D) : Bool := x.isNon || (isUn n x && (items x).all exOk)
theorem fr_of {x : D} (h : isFr x = true) : ∃ p : Fr, x = fr p ∧ IsF p := by
  unfold isFr at h
  split at h
  · rename_i a b
    simp only [Bool.and_eq_true] at h
    obtain ⟨⟨⟨h1, h2⟩, h3⟩, h4⟩ := h
    obtain ⟨i, rfl⟩ := isInt_of h1
    obtain ⟨j, rfl⟩ := isInt_of h2
    exact ⟨(i, j), rfl, of_decide_eq_true h3, of_decide_eq_true h4⟩
  · cases h
theorem frs_all {xs : List D} (h : xs.all isFr = true) : ∃ u : List Fr, xs = u.map fr ∧ ∀ p ∈ u, IsF p := by
  induction xs with
  | nil => exact ⟨[], rfl, fun p hp => by cases hp⟩
  | cons x xs ih =>
    rw [List.all_cons, Bool.and_eq_true] at h
    obtain ⟨p, rfl, hp⟩ := fr_of h.1
    obtain ⟨u, rfl, hu⟩ := ih h.2
    refine ⟨p :: u, rfl, fun q hq => ?_⟩
    rcases List.mem_cons.mp hq with rfl | hq
    · exact hp
    · exact hu q hq
theorem isUn_of {n : Int} {x : D} (h : isUn n x = true) : ∃ u : List Fr, x = un u ∧ (u.length : Int) = n ∧ ∀ p ∈ u, IsF p := by
  cases x with
  | tup xs =>
    simp only [isUn, Bool.and_eq_true] at h
    obtain ⟨u, rfl, hu⟩ := frs_all h.2
    have := of_decide_eq_true h.1
    rw [List.length_map] at this
    exact ⟨u, rfl, this, hu⟩
  | _ => cases h
/-- a grid that is right: its rows are of units and noughts -/
structure GridOk (n : Int) (xs : List D) : Prop where
  n1 : 1 ≤ n
  n3 : n ≤ 3
  l1 : 1 ≤ xs.length
  l10 : xs.length ≤ 10
  rows : ∃ m : Nat, 1 ≤ m ∧ m ≤ 10 ∧ ∀ e ∈ xs, ∃ cs, e = .tup cs ∧ cs.length = m ∧ ∀ c ∈ cs, isCl n c = true
theorem cl_lays {n : Int} {c : D} (h : isCl n c = true) : c.lays 2 = true := by
  unfold isCl at h
  rw [Bool.or_eq_true] at h
  rcases h with h | h
  · cases c <;> first | rfl | cases h
  · rw [Bool.and_eq_true] at h
    obtain ⟨u, rfl, _, _⟩ := isUn_of h.1
    refine lays_tup fun x hx => ?_
    obtain ⟨p, _, rfl⟩ := List.mem_map.mp hx
    rfl
theorem GridOk.lays {n : Int} {xs : List D} (g : GridOk n xs) : (D.tup xs).lays 4 = true := by
  obtain ⟨m, _, _, h⟩ := g.rows
  refine lays_tup fun e he => ?_
  obtain ⟨cs, rfl, _, hc⟩ := h e he
  exact lays_tup fun c hc' => cl_lays (hc c hc')
end PD
namespace PD
open PySem PySem.Spec PyProof.Rows L2
end PD
namespace PD
open PySem PySem.Spec PyProof.Rows L2
end PD
namespace PD
open PySem PySem.Spec PyProof.Rows L2
end PD
namespace PD
open PySem PySem.Spec PyProof.Rows L2
open PDX PDI PDT
abbrev Om := List (Addr × List D)
def Own (W : Wd) (M0 M : Addr → Prop) (H : Hp) (ω : Om) : Prop := ∀ a ds, (a, ds) ∈ ω → M a ∧ ¬ M0 a ∧ W.s ≠ some a ∧ (∀ s, W.s = some s → W.b ≠ a) ∧ ∃ vs, H a = some (.lst vs) ∧ Reps W M H vs ds
/-- from where a loop began: its own lists may have changed -/
structure EntM (W : Wd) (M1 : Addr → Prop) (H1 : Hp) (M : Addr → Prop) (H : Hp) : Prop where
  k : KeepM W M1 H1 H
  m : ∀ a, M1 a → M a
  new : ∀ a, M a → ¬ M1 a → H1 a = none
/-- from the entry, and from the loop -/
structure In2 (W : Wd) (M0 : Addr → Prop) (H0 : Hp) (M1 : Addr → Prop) (H1 : Hp) (M : Addr → Prop) (H : Hp) : Prop where
  e : Ent W M0 H0 M H
  l : EntM W M1 H1 M H
section
variable {W : Wd} {Wx : WX} {X : XV → DS → Prop} {ω : Om} {δ : DS} {N : Om → DS → Prop} {R : D → Prop} {B C : Om → DS → Prop} {te tl : TE} {t : TT} {ts tu : TS} {ta : TA} {g : TG}
theorem Ent.refl (M : Addr → Prop) (H : Hp) : Ent W M H M H := ⟨Keep.refl _, fun _ x => x, fun _ x y => absurd x y⟩
theorem Ent.trans {M0 M M2 : Addr → Prop} {H0 H H2 : Hp} (wf : Wf W M H) (e : Ent W M0 H0 M H) (x : Ent W M H M2 H2) : Ent W M0 H0 M2 H2 := ⟨e.k.trans x.k, fun a ha => x.m a (e.m a ha), fun a ha hn => by
  by_cases hM : M a
  · exact e.new a hM hn
  · have h1 := x.new a ha hM
    cases h0 : H0 a with
    | none => rfl
    | some oo =>
      rw [e.k a oo (fun z => hM (wf.sm a z)) h0] at h1
      cases h1⟩
theorem EntM.refl (M : Addr → Prop) (H : Hp) : EntM W M H M H := ⟨fun _ _ _ _ h => h, fun _ x => x, fun _ x y => absurd x y⟩
theorem EntM.trans {M0 M M2 : Addr → Prop} {H0 H H2 : Hp} (e : EntM W M0 H0 M H) (x : EntM W M H M2 H2) (wf : Wf W M H) : EntM W M0 H0 M2 H2 := ⟨fun a o n l h => x.k a o n (fun ma => by
    by_cases m0 : M0 a
    · exact l m0
    · rw [e.new a ma m0] at h
      cases h) (e.k a o n l h), fun a ha => x.m a (e.m a ha), fun a ha hn => by
  by_cases hM : M a
  · exact e.new a hM hn
  · have h1 := x.new a ha hM
    cases h0 : H0 a with
    | none => rfl
    | some oo =>
      rw [e.k a oo (fun z => hM (wf.sm a z)) (fun z => absurd z hn) h0] at h1
      cases h1⟩
theorem Ent.toM {M M2 : Addr → Prop} {H H2 : Hp} (x : Ent W M H M2 H2) : EntM W M H M2 H2 := ⟨x.k.toM, x.m, x.new⟩
theorem In2.trans {M0 M1 M M2 : Addr → Prop} {H0 H1 H H2 : Hp} (e : In2 W M0 H0 M1 H1 M H) (wf : Wf W M H) (x : Ent W M H M2 H2) : In2 W M0 H0 M1 H1 M2 H2 := ⟨e.e.trans wf x, e.l.trans x.toM wf⟩
theorem In2.next {M0 M1 M : Addr → Prop} {H0 H1 H H2 : Hp} (e : In2 W M0 H0 M1 H1 M H) (wf : Wf W M H) (k : Keep W H H2) : In2 W M0 H0 M1 H1 M H2 := e.trans wf ⟨k, fun _ x => x, fun _ x y => absurd x y⟩
theorem Own.keep {M0 M : Addr → Prop} {H H' : Hp} (wf : Wf W M H) (o : Own W M0 M H ω) (k : Keep W H H') : Own W M0 M H' ω := fun a ds m => by
  obtain ⟨h1, h2, h3, hb, vs, h4, h5⟩ := o a ds m
  exact ⟨h1, h2, h3, hb, vs, k a _ h3 h4, h5.keep wf k⟩
end
end PD
namespace PD
open PySem PySem.Spec PyProof.Rows L2
open PDX PDI PDT
section
variable {W : Wd} {δ : DS} {te : TE}
theorem Slots.keepM {M : Addr → Prop} {H H' : Hp} {σ : L2.St} (w : Wg W M H) (k : KeepM W M H H') (s : Slots W M H σ δ) : Slots W M H' σ δ := ⟨s.len, fun j d hd => by
  obtain ⟨v, a, r⟩ := s.get j d hd
  exact ⟨v, a, r.keepM w k⟩⟩
/-- how a comprehension's list stands: at Dl, since H1 -/
structure Acc (W : Wd) (M1 : Addr → Prop) (H1 : Hp) (Dl : Addr) (acc : List D) (H : Hp) : Prop where
  k : Keep W H1 H
  g : StOk W H
  at_ : ∃ vs, H Dl = some (.lst vs) ∧ Reps W M1 H vs acc
theorem Acc.keep {M1 : Addr → Prop} {H1 H H' : Hp} {Dl : Addr} {acc : List D} (wf : Wf W M1 H) (ns : W.s ≠ some Dl) (a : Acc W M1 H1 Dl acc H) (g : StOk W H') (k : Keep W H H') : Acc W M1 H1 Dl acc H' := by
  obtain ⟨vs, e, r⟩ := a.at_
  exact ⟨a.k.trans k, g, vs, k Dl _ ns e, r.keep wf k⟩
end
end PD
namespace PD
open PySem PySem.Spec PyProof.Rows L2
open PDX PDI PDT
open AutoSeq1 (wpAny_loadPart')
end PD
namespace PD
open PySem PySem.Spec PyProof.Rows L2
open PDX PDI PDT
section
variable {W : Wd} {δ : DS} {P : D → Prop}
theorem ev_obj {a : Addr} (h : P (.obj a)) : EvD W (tC (.ref a)) δ P := fun M σ H p Q q => q _ _ H p.wf.g (Keep.refl H) (.obj a) h
end
end PD
namespace PD
open PySem PySem.Spec PyProof.Rows L2
open PDX PDI PDT
/-- so many columns, each cell a right one -/
structure Grd (n : Int) (m : Nat) (xs : List D) : Prop where
  n1 : 1 ≤ n
  n3 : n ≤ 3
  l1 : 1 ≤ xs.length
  l10 : xs.length ≤ 10
  m1 : 1 ≤ m
  m10 : m ≤ 10
  row : ∀ e ∈ xs, ∃ cs, e = .tup cs ∧ cs.length = m ∧ ∀ c ∈ cs, isCl n c = true
theorem Grd.ok {n : Int} {m : Nat} {xs : List D} (g : Grd n m xs) : GridOk n xs := ⟨g.n1, g.n3, g.l1, g.l10, m, g.m1, g.m10, g.row⟩
theorem Grd.at {n : Int} {m : Nat} {xs : List D} (g : Grd n m xs) {i : Nat} {e : D} (h : xs[i]? = some e) : ∃ cs, e = .tup cs ∧ cs.length = m ∧ ∀ c ∈ cs, isCl n c = true := g.row e (List.mem_of_getElem? h)
theorem Grd.at' {n : Int} {m : Nat} {xs : List D} (g : Grd n m xs) {i : Nat} (h : i < xs.length) : ∃ cs, xs[i]? = some (.tup cs) ∧ cs.length = m ∧ ∀ c ∈ cs, isCl n c = true := by
  obtain ⟨cs, e, h2⟩ := g.row xs[i] (List.getElem_mem h)
  exact ⟨cs, by rw [List.getElem?_eq_getElem h, e], h2⟩
theorem Grd.head {n : Int} {m : Nat} {xs : List D} (g : Grd n m xs) : ∃ cs, xs[0]? = some (.tup cs) ∧ cs.length = m ∧ D.len (xs.headD .non) = m := by
  have l1 := g.l1
  obtain ⟨cs, e, h, _⟩ := g.at' (i := 0) (by omega)
  refine ⟨cs, e, h, ?_⟩
  cases xs with
  | nil => cases e
  | cons y ys =>
    cases e
    show (cs.length : Int) = m
    omega
theorem Grd.set {n : Int} {m : Nat} {xs cs : List D} (g : Grd n m xs) {i j : Nat} {t : D} (hi : xs[i]? = some (.tup cs)) (ht : isCl n t = true) : Grd n m (xs.set i (.tup (cs.set j t))) := by
  obtain ⟨cs', e, hm, hc⟩ := g.at hi
  cases e
  refine ⟨g.n1, g.n3, by rw [List.length_set]; exact g.l1, by rw [List.length_set]; exact g.l10, g.m1, g.m10, fun e he => ?_⟩
  rcases List.mem_or_eq_of_mem_set he with he | rfl
  · exact g.row e he
  · refine ⟨_, rfl, by rw [List.length_set]; exact hm, fun c hc' => ?_⟩
    rcases List.mem_or_eq_of_mem_set hc' with hc' | rfl
    · exact hc c hc'
    · exact ht
theorem Grd.fine {n : Int} {m : Nat} {xs : List D} (g : Grd n m xs) : (D.tup xs).fine = true := lays_fine g.ok.lays (by decide)
end PD
namespace PD
open PySem PySem.Spec PyProof.Rows L2
open PDX PDI PDT
open AutoSeq1 (wpAny_loadPart')
end PD
namespace PDZ
open PySem PySem.Spec PyProof.Rows L2 RZ
end PDZ
namespace PD
open PySem PySem.Spec PyProof.Rows L2 PDZ
end PD
namespace PD
open PySem PySem.Spec PyProof.Rows L2
open PDX PDI PDT PDZ
def numP : D → Bool
  | .tup [u, x] => isFr x && (!u.isNon || decide (topD x = 0))
  | _ => false
/-- cells and what stands beside them, row by row -/
def besD (xs rows : List D) : List D := (List.zipWith (fun e r => zipD (items e) (items r)) xs rows).flatten
structure Shp (m : Nat) (xs rows : List D) : Prop where
  l : rows.length = xs.length
  r : ∀ e ∈ rows, ∃ cs, e = .tup cs ∧ cs.length = m
theorem Shp.at {m : Nat} {xs rows : List D} (s : Shp m xs rows) {i : Nat} {e : D} (h : rows[i]? = some e) : ∃ cs, e = .tup cs ∧ cs.length = m := s.r e (List.mem_of_getElem? h)
theorem Grd.tup {n : Int} {m : Nat} {xs : List D} (g : Grd n m xs) : ∀ e ∈ xs, ∃ cs, e = .tup cs ∧ cs.length = m := fun e he => by
  obtain ⟨cs, h1, h2, _⟩ := g.row e he
  exact ⟨cs, h1, h2⟩
end PD
namespace PD
open PySem PySem.Spec PyProof.Rows L2
open PDX PDI PDT PDZ
/-- numbers that are there, of some size -/
def NumS (k : Nat) (rows : List D) : Prop := ∀ r ∈ rows, ∀ y ∈ items r, ∃ q : Fr, y = fr q ∧ IsF q ∧ Sz k q
/-- judged, and no int within is great -/
structure Js (K : PySem.W.Frag) (x : D) : Prop where
  j : Jd K x
  s : x.small = true
theorem Js.ty {K : PySem.W.Frag} {x : D} (h : Js K x) : Jd1 K x := jd_ty h.j
theorem smalls_of {xs : List D} (h : ∀ x ∈ xs, x.small = true) : D.smalls xs = true := by
  induction xs with
  | nil => simp only [D.smalls]
  | cons y ys ih =>
    simp only [D.smalls, Bool.and_eq_true]
    exact ⟨h y List.mem_cons_self, ih fun x hx => h x (List.mem_cons_of_mem _ hx)⟩
theorem Js.tup {K : PySem.W.Frag} {xs : List D} (h : ∀ x ∈ xs, Js K x) : Js K (.tup xs) := ⟨by
    simp only [Jd]
    exact jdA_of fun x hx => (h x hx).j, by
    simp only [D.small]
    exact smalls_of fun x hx => (h x hx).s⟩
/-- numbers for a grid, of some size -/
structure Nums (m k : Nat) (xs rows : List D) : Prop where
  s : Shp m xs rows
  n : NumS k rows
  p : (besD xs rows).all numP = true
theorem Nums.len {m k : Nat} {xs rows : List D} {n : Int} (g : Grd n m xs) (h : Nums m k xs rows) : (D.tup rows).len ≤ 1000 := by
  have := h.s.l
  have := g.l10
  show (rows.length : Int) ≤ 1000
  omega
theorem Nums.fine {m k : Nat} {xs rows : List D} (h : Nums m k xs rows) : (D.tup rows).fine = true := lays_fine (n := 3) (lays_tup fun r hr => by
  obtain ⟨cs, rfl, _⟩ := h.s.r r hr
  refine lays_tup fun y hy => ?_
  obtain ⟨q, rfl, _⟩ := h.n _ hr y hy
  rfl) (by decide)
def Has (ω : Om) (p : Addr) (es : List D) : Prop := (p, es) ∈ ω ∧ ∀ ds, (p, ds) ∈ ω → ds = es
theorem Has.cons {ω : Om} {p q : Addr} {es ds : List D} (h : Has ω p es) (n : p ≠ q) : Has ((q, ds) :: ω) p es := ⟨List.mem_cons_of_mem _ h.1, fun x hx => by
  rcases List.mem_cons.mp hx with z | z
  · cases z
    exact absurd rfl n
  · exact h.2 x z⟩
theorem Has.new {ω : Om} {q : Addr} {ds : List D} (n : ∀ x ∈ ω, x.1 ≠ q) : Has ((q, ds) :: ω) q ds := ⟨List.mem_cons_self, fun x hx => by
  rcases List.mem_cons.mp hx with z | z
  · cases z
    rfl
  · exact absurd rfl (n _ z)⟩
end PD
namespace PD
open PySem PySem.Spec PyProof.Rows L2
open PDX PDI PDT
section
variable {X : Cx} {K : PySem.W.Frag} {w : World}
/-- at p a dict of the module, its keys texts -/
def KDic (K : PySem.W.Frag) (w : World) (p : Addr) : Prop := (∃ es n, K.lookup p = some ⟨.type "dict", none, .dict es n, #[]⟩ ∧ PySem.W.KeysLit w.params es.toList) ∧ (p == sysModules) = false
end
/-- entries of texts and whole numbers -/
def KEs (P : Params) : List DictEntry → List (Str × Int) → Prop
  | [], [] => True
  | e :: r, (x, i) :: q => (∃ t, e.key = .str x t) ∧ e.hash = PyData.keyHash P x ∧ (∃ t, e.val = .int i t) ∧ KEs P r q
  | _, _ => False
structure KDi (K : PySem.W.Frag) (w : World) (p : Addr) (kvs : List (Str × Int)) : Prop where
  ex : ∃ es n, K.lookup p = some ⟨.type "dict", none, .dict es n, #[]⟩ ∧ KEs w.params es.toList kvs
  lo : (p == sysModules) = false
theorem kes_lit {P : Params} : ∀ {l : List DictEntry} {kvs : List (Str × Int)}, KEs P l kvs → PySem.W.KeysLit P l
  | [], [], _ => trivial
  | _ :: _, (_, _) :: _, ⟨⟨t, e⟩, h, _, r⟩ => ⟨⟨_, t, e, h⟩, kes_lit r⟩
  | [], _ :: _, h => h.elim
  | _ :: _, [], h => h.elim
section
variable {K : PySem.W.Frag} {w : World} {p : Addr} {kvs : List (Str × Int)}
theorem KDi.dic (h : KDi K w p kvs) : KDic K w p := by
  obtain ⟨⟨es, n, hl, he⟩, lo⟩ := h
  exact ⟨⟨es, n, hl, kes_lit he⟩, lo⟩
end
end PD
namespace PD
open PySem PySem.Spec PyProof.Rows L2
open PDX PDI PDT
abbrev Sh := Int × Int
def shD (p : Sh) : D := .tup [.int p.1, .int p.2]
section
variable {W : Wd} {P : D → Prop}
theorem eqvTx (x y : Str) : D.eqv (.str x) (.str y) = decide (x = y) := by
  show PyData.eqv (D.py (.str x)) (D.py (.str y)) = _
  simp only [D.py, PyData.eqv]
  first | rfl | (simp [BEq.beq, decide_eq_decide])
theorem rd_eqS {x y : Str} (hx : (D.str x).fine = true) (hy : (D.str y).fine = true) (h : P (.bl (decide (x = y)))) : RD W (rEqD W.K) (.str x) (.str y) P := rd_eqD hx hy (by rw [eqvTx]; exact h)
theorem rd_neS {x y : Str} (hx : (D.str x).fine = true) (hy : (D.str y).fine = true) (h : P (.bl (!decide (x = y)))) : RD W (rNeD W.K) (.str x) (.str y) P := rd_neD hx hy (by rw [eqvTx]; exact h)
theorem fineSh (p : Sh) : (shD p).fine = true := by
  simp [shD, D.fine, D.plain, D.plains, D.py, D.pys, SeqAt.shaped, PyData.canLay0, PyData.canLayAll0, PyData.depth, PyData.depthAll]
theorem eqvSh (p q : Sh) : D.eqv (shD p) (shD q) = decide (p = q) := by
  obtain ⟨a, b⟩ := p
  obtain ⟨c, d⟩ := q
  show PyData.eqv (D.py (shD (a, b))) (D.py (shD (c, d))) = _
  simp only [shD, D.py, D.pys, PyData.eqv, PyData.eqvAll]
  by_cases h : a = c <;> by_cases h2 : b = d <;> simp [h, h2]
theorem rd_eqSh {a b c d : Int} (h : P (.bl (decide ((a, b) = ((c, d) : Sh))))) : RD W (rEqD W.K) (.tup [.int a, .int b]) (.tup [.int c, .int d]) P := rd_eqD (fineSh (a, b)) (fineSh (c, d)) (by
  have := eqvSh (a, b) (c, d)
  unfold shD at this
  rw [this]
  exact h)
theorem rc_max2 {i j : Int} (h : P (.int (max i j))) : RCD W (fun xs H Q => ∃ i j, xs = [.int i, .int j] ∧ Q (.int (if j > i then j else i)) H) [.int i, .int j] P := fun M H vs w r Q q => by
  cases r with
  | cons r1 r2 =>
    cases r2 with
    | cons r2 r3 =>
      cases r3
      cases r1
      cases r2
      have e : (if j > i then j else i) = max i j := by omega
      exact ⟨i, j, rfl, q _ _ H w.g (Keep.refl H) (.int _) (by rw [e]; exact h)⟩
theorem rc_min2 {i j : Int} (h : P (.int (min i j))) : RCD W (fun xs H Q => ∃ i j, xs = [.int i, .int j] ∧ Q (.int (if j < i then j else i)) H) [.int i, .int j] P := fun M H vs w r Q q => by
  cases r with
  | cons r1 r2 =>
    cases r2 with
    | cons r2 r3 =>
      cases r3
      cases r1
      cases r2
      have e : (if j < i then j else i) = min i j := by omega
      exact ⟨i, j, rfl, q _ _ H w.g (Keep.refl H) (.int _) (by rw [e]; exact h)⟩
end
def D.isStr : D → Bool
  | .str _ => true
  | _ => false
section
variable {W : Wd} {P : D → Prop}
theorem rc_isiSJ {x : D} (hx : Jd1 W.K x) (h : P (.bl x.isStr)) : RCD W (rIsi W.K) [x, .ty "str"] P := by
  cases x with
  | ins C ns ds => exact rc_isiO hx hx.kS h
  | _ => first | exact rc_isi rfl (b := true) (by decide +kernel) h | exact rc_isi rfl (b := false) (by decide +kernel) h | cases hx
end
def shG : D → Sh
  | .ins _ _ [_, .tup rows] => (rows.length, (rows.headD .non).len)
  | _ => (0, 0)
end PD
namespace PD
open PySem PySem.Spec PyProof.Rows L2
open PDX PDI PDT
end PD
namespace PD
open PySem PySem.Spec PyProof.Rows L2
open PDX PDI PDT
end PD
namespace PD
open PySem PySem.SeqAt
open AutoSeq1 (wpAny_loadPart')
open MeetsSeq MeetsSeq2 MeetsSeq3 SeqRoads2
section
open PyProof.Rows L2
open PDX PDI PDT
theorem ev_slL {W : Wd} {δ : DS} {P : D → Prop} {te : TE} {tl th : TO} (h : EvD W te δ fun x => ∃ xs, x = .lst xs ∧ EvO W tl δ fun lo => EvO W th δ fun hi => P (.lst (cutD xs lo hi))) : EvD W (tSl (rSlL W.K) te tl th) δ P := fun M σ H p Q q =>
  h M σ H p _ fun v x H1 g1 k1 r1 h1 => by
    obtain ⟨xs, rfl, h2⟩ := h1
    refine h2 M σ H1 (p.next g1 k1) _ fun lo H2 g2 k2 h3 => ?_
    refine h3 M σ H2 ((p.next g1 k1).next g2 k2) _ fun hi H3 g3 k3 hP => ?_
    have r3 := (r1.keep (p.next g1 k1).wf k2).keep ((p.next g1 k1).next g2 k2).wf k3
    have p3 := ((p.next g1 k1).next g2 k2).next g3 k3
    cases r3 with
    | @lst a vs _ n hs hr =>
      refine ⟨a, vs, rfl, .inl (.inl hs), fun l hl => ?_⟩
      have kk : Keep W H3 (upd H3 l (.lst (cutV vs lo hi))) := Keep.new hl
      have hc : Reps W M H3 (cutV vs lo hi) (cutD xs lo hi) := by
        unfold cutV cutD
        rw [hr.length]
        exact (hr.drop _).take _
      refine q _ (.lst (cutD xs lo hi)) _ (g3.new hl) (((k1.trans k2).trans k3).trans kk) (.lst (fun m => ?_) upd_same (hc.keep p3.wf kk)) hP
      obtain ⟨o, ho⟩ := p3.wf.dom l m
      rw [hl] at ho
      cases ho
end
end PD
namespace PD
open PySem PySem.Spec PyProof.Rows L2
open RZ (iZipA ItzT)
open PDX PDI
end PD
namespace WarM
def pw (E : Nat → Nat → Bool) (n : Nat) : Nat → Nat → Nat → Bool
  | 0 => E
  | m + 1 => fun i j => (List.range n).any fun k => pw E n m i k && E k j
def sm (E : Nat → Nat → Bool) (n : Nat) : Nat → Nat → Nat → Bool
  | 0 => E
  | m + 1 => fun i j => sm E n m i j || pw E n (m + 1) i j
end WarM
namespace WarM
abbrev BM := List (List Bool)
def DimB (M : BM) (r c : Nat) : Prop := M.length = r ∧ ∀ row ∈ M, row.length = c
theorem DimB.row {M : BM} {r c i : Nat} (d : DimB M r c) (h : i < r) : (M.getD i []).length = c := by
  have h' : i < M.length := by rw [d.1]; exact h
  rw [List.getD_eq_getElem?_getD, List.getElem?_eq_getElem h']
  exact d.2 _ (List.getElem_mem h')
end WarM
namespace PDY
open PySem PySem.Spec PyProof.Rows L2 RZ PDZ
end PDY
namespace PDY
open PySem PySem.Spec PyProof.Rows L2 RZ PDZ
end PDY
namespace PDY
open PySem PySem.Spec PyProof.Rows L2 RZ PDZ
end PDY
namespace PDY
open PySem PySem.Spec PyProof.Rows L2 RZ PDZ
end PDY
namespace PD
open PySem PySem.Spec PyProof.Rows L2 PDY
end PD
namespace PD
open PySem PySem.Spec PyProof.Rows L2
end PD
namespace PD
open PySem PySem.Spec PyProof.Rows L2
end PD
namespace PD
open PySem PySem.Spec PyProof.Rows L2
end PD
namespace PD
open PySem PySem.Spec PyProof.Rows L2 WarM
end PD
namespace PD
open PySem PySem.Spec PyProof.Rows L2 WarM
end PD
namespace PD
open PySem PySem.Spec PyProof.Rows L2 WarM
end PD
namespace PD
open PySem PySem.Spec PyProof.Rows L2 WarM
end PD
namespace PD
open PySem PySem.Spec PyProof.Rows L2 WarM
end PD
namespace PD
open PySem PySem.Spec PyProof.Rows L2 WarM
end PD
namespace PD
open PySem PySem.Spec PyProof.Rows L2 WarM
end PD
namespace PD
open PySem PySem.Spec PyProof.Rows L2 WarM
end PD
namespace PD
open PySem PySem.Spec PyProof.Rows L2 WarM
end PD
namespace PD
open PySem PySem.Spec PyProof.Rows L2 WarM
end PD
namespace PD
open PySem PySem.Spec PyProof.Rows L2
end PD
namespace PD
open PySem PySem.Spec PyProof.Rows L2
end PD
namespace PDSR
open PySem PySem.Spec PyProof.Rows L2
end PDSR
namespace PD
open PySem PySem.Spec PyProof.Rows L2 PDSR
end PD
namespace PD
open PySem PySem.Spec PyProof.Rows L2 PDSR
end PD
namespace PD
open PySem PySem.Spec PyProof.Rows L2
end PD
namespace PD
open PySem PySem.Spec PyProof.Rows L2
end PD
namespace PD
open PySem PySem.Spec PyProof.Rows L2
end PD
namespace PD
open PySem PySem.Spec PyProof.Rows L2 WarM
end PD
namespace PD
open PySem PySem.Spec PyProof.Rows L2 WarM
end PD
namespace PD
open PySem PySem.Spec PyProof.Rows L2 WarM
/-- the flags of a script's grids, by the law's own way: the given ones, then each step's -/
def gridD (C : Addr) (x : D × List (List D)) : D := .ins C ["bases", "rows"] [x.1, .tup (x.2.map .tup)]
/-- grids that a script may have -/
structure GsOk (n : Int) (gs : List (D × List (List D))) : Prop where
  one : 1 ≤ gs.length
  few : gs.length ≤ 6
  all : ∀ x ∈ gs, x.1 = .int n ∧ ∃ w, Grd n w (x.2.map .tup)
theorem GsOk.row {n : Int} {gs : List (D × List (List D))} (h : GsOk n gs) {x : D × List (List D)} (hx : x ∈ gs) : ∃ w : Nat, 1 ≤ x.2.length ∧ x.2.length ≤ 10 ∧ 1 ≤ w ∧ w ≤ 10 ∧ (∀ y ∈ x.2, y.length = w ∧ ∀ c ∈ y, isCl n c = true) ∧ ∀ CG, shG (gridD CG x) = ((x.2.length : Int), (w : Int)) := by
  obtain ⟨e, w, g⟩ := h.all x hx
  obtain ⟨b, rows⟩ := x
  have l1 := g.l1
  have l10 := g.l10
  rw [List.length_map] at l1 l10
  refine ⟨w, l1, l10, g.m1, g.m10, fun y hy => ?_, fun CG => ?_⟩
  · obtain ⟨cs, e, h1, h2⟩ := g.row (.tup y) (List.mem_map.mpr ⟨y, hy, rfl⟩)
    cases e
    exact ⟨h1, h2⟩
  · obtain ⟨cs, _, _, hh⟩ := g.head
    show (((rows.map D.tup).length : Int), ((rows.map D.tup).headD .non).len) = _
    rw [hh, List.length_map]
end PD
namespace PD
open PySem PySem.Spec PyProof.Rows L2 WarM
/-- one cell told anew -/
def tellC (gs : List (D × List (List D))) (a i j : Nat) (x : D × List (List D)) (cs : List D) (t : D) : List (D × List (List D)) := gs.set a (x.1, x.2.set i (cs.set j t))
theorem grid_shG {n : Int} {w : Nat} {CG : Addr} {x : D × List (List D)} (g : Grd n w (x.2.map .tup)) : shG (gridD CG x) = ((x.2.length : Int), (w : Int)) := by
  obtain ⟨cs, _, _, hh⟩ := g.head
  show (((x.2.map D.tup).length : Int), ((x.2.map D.tup).headD .non).len) = _
  rw [hh, List.length_map]
theorem GsOk.set {n : Int} {gs : List (D × List (List D))} {a i j : Nat} {x : D × List (List D)} {cs : List D} {t : D} (h : GsOk n gs) (ha : gs[a]? = some x) (hi : x.2[i]? = some cs) (ht : isCl n t = true) :
    GsOk n (tellC gs a i j x cs t) ∧ ∀ CG, (tellC gs a i j x cs t).map (fun x => shG (gridD CG x)) = gs.map fun x => shG (gridD CG x) := by
  obtain ⟨e, w, g⟩ := h.all x (List.mem_of_getElem? ha)
  have hi2 : (x.2.map D.tup)[i]? = some (.tup cs) := by rw [List.getElem?_map, hi]; rfl
  have g2 := g.set (j := j) hi2 ht
  have es : (x.2.map D.tup).set i (.tup (cs.set j t)) = (x.2.set i (cs.set j t)).map .tup := by rw [List.map_set]
  rw [es] at g2
  refine ⟨⟨by unfold tellC; rw [List.length_set]; exact h.one, by unfold tellC; rw [List.length_set]; exact h.few, fun y hy => ?_⟩, fun CG => ?_⟩
  · rcases List.mem_or_eq_of_mem_set hy with hy | rfl
    · exact h.all y hy
    · exact ⟨e, w, g2⟩
  · unfold tellC
    rw [List.map_set]
    apply List.ext_getElem?
    intro k
    rw [List.getElem?_set]
    split
    · rename_i q
      subst q
      have al := (List.getElem?_eq_some_iff.mp ha).1
      rw [if_pos (by rw [List.length_map]; exact al), List.getElem?_map, ha]
      show some _ = some (shG (gridD CG x))
      rw [grid_shG g, grid_shG (x := (x.1, x.2.set i (cs.set j t))) g2, List.length_set]
    · rfl
end PD
namespace PD
open PySem PySem.SeqAt
open AutoSeq1 (wpAny_loadPart')
open MeetsSeq MeetsSeq2 MeetsSeq3 SeqRoads2
section
open PyProof.Rows L2
open PDX PDI PDT
mutual
/-- tuples of tuples of small things -/
def D.tupy : D → Bool
  | .non | .bl _ | .int _ | .str _ => true
  | .tup xs => D.tupys xs
  | _ => false
def D.tupys : List D → Bool
  | [] => true
  | x :: xs => x.tupy && D.tupys xs
end
theorem tupys_all : ∀ {xs : List D}, (∀ x ∈ xs, x.tupy = true) → D.tupys xs = true
  | [], _ => rfl
  | x :: xs, h => by
    show (x.tupy && D.tupys xs) = true
    rw [h x (List.mem_cons_self ..), tupys_all fun y hy => h y (List.mem_cons_of_mem _ hy)]
    rfl
section
variable {X : Cx} {W : Wd} {M M' : Addr → Prop} {pins : List (Addr × Obj)} {σ : L2.St} {H : Hp} {s : Shared}
mutual
/-- one value stands for one such thing -/
theorem Rep.one (hK : X.K = W.K) (I : Inv X pins σ H s) : ∀ {d d' : D} {v : V}, Rep W M H v d → Rep W M' H v d' → d.tupy = true → d'.tupy = true → d = d'
  | .tup ds, .tup es, _, .tup h1 r1, .tup h2 r2, p, q => by
    have e := I.tuple_inj (hK ▸ h1) (hK ▸ h2)
    subst e
    rw [Reps.one hK I r1 r2 (by simpa [D.tupy] using p) (by simpa [D.tupy] using q)]
  | .non, d', _, .non, r, _, q => by cases d' <;> first | (cases r; rfl) | (cases r) | (simp [D.tupy] at q)
  | .bl b, d', _, .bl _, r, _, q => by cases d' <;> first | (cases r; rfl) | (cases r) | (simp [D.tupy] at q)
  | .int b, d', _, .int _, r, _, q => by cases d' <;> first | (cases r; rfl) | (cases r) | (simp [D.tupy] at q)
  | .str b, d', _, .str _, r, _, q => by cases d' <;> first | (cases r; rfl) | (cases r) | (simp [D.tupy] at q)
  | .tup ds, .non, _, .tup _ _, r, _, _ => nomatch r
  | .tup ds, .bl _, _, .tup _ _, r, _, _ => nomatch r
  | .tup ds, .int _, _, .tup _ _, r, _, _ => nomatch r
  | .tup ds, .str _, _, .tup _ _, r, _, _ => nomatch r
theorem Reps.one (hK : X.K = W.K) (I : Inv X pins σ H s) : ∀ {ds es : List D} {vs : List V}, Reps W M H vs ds → Reps W M' H vs es → D.tupys ds = true → D.tupys es = true → ds = es
  | [], [], _, _, _, _, _ => rfl
  | [], _ :: _, _, .nil, r, _, _ => nomatch r
  | _ :: _, [], _, .cons _ _, r, _, _ => nomatch r
  | d :: ds, e :: es, _, .cons a t, .cons a' t', p, q => by
    simp only [D.tupys, Bool.and_eq_true] at p q
    rw [Rep.one hK I a a' p.1 q.1, Reps.one hK I t t' p.2 q.2]
end
end
theorem cl_tupy {n : Int} {c : D} (h : isCl n c = true) : c.tupy = true := by
  unfold isCl at h
  rw [Bool.or_eq_true] at h
  rcases h with h | h
  · cases c <;> first | rfl | cases h
  · rw [Bool.and_eq_true] at h
    obtain ⟨u, rfl, _, _⟩ := isUn_of h.1
    refine tupys_all fun x hx => ?_
    obtain ⟨p, _, rfl⟩ := List.mem_map.mp hx
    rfl
theorem Grd.tupy {n : Int} {m : Nat} {xs : List D} (g : Grd n m xs) : D.tupys xs = true := tupys_all fun e he => by
  obtain ⟨cs, rfl, _, hc⟩ := g.row e he
  exact tupys_all fun c h => cl_tupy (hc c h)
end
end PD
namespace PD
open PySem PySem.Spec PyProof.Rows L2
end PD
namespace PD
open PySem PySem.Spec PyProof.Rows L2
/-- what one that is named becomes -/
def nm (o : List Int) (a : Int) : Int := if a < o.length then ((o.idxOf a : Nat) : Int) else a
end PD
namespace PD
open PySem PySem.Spec PyProof.Rows L2 WarM
end PD
namespace PD
open PySem PySem.Spec PyProof.Rows L2 WarM
end PD
namespace PD
open PySem PySem.Spec PyProof.Rows L2 WarM
end PD
namespace PD
open PySem PySem.Spec PyProof.Rows L2
/-- as FnOk, of calls with nothing shown meanwhile -/
structure FnOkG (P : Program) (w : World) (K : PySem.W.Frag) (mg : Str → Option Value) (base : Heap) (CX : CXT) (k : Nat) (f : Addr) (fd : FuncData) (ps : List Str) (sp : Sp) : Prop where
  len : ∀ vs H Q E, sp vs H Q E → vs.length = ps.length
  run : ∀ (A : Around) (outer : List Env) (s : Shared) (H : Hp) (args : Args) (us : List Value) (vs : List V) (Q : VK) (E : XK), A.guards = some [] → Room k A → Env0 P w K mg base A outer s H → BindsTo s fd args (ps.zip us) → Vals vs us → sp vs H Q E →
    codeAny (model P w) A (.call (.ref f) args) (CR CX outer P w H s Q E) s
theorem FnOkG.mono {P : Program} {w : World} {K : PySem.W.Frag} {mg : Str → Option Value} {base : Heap} {CX : CXT} {j k : Nat} {f : Addr} {fd : FuncData} {ps : List Str} {sp : Sp} (F : FnOkG P w K mg base CX j f fd ps sp) (h : j ≤ k) : FnOkG P w K mg base CX k f fd ps sp :=
  ⟨F.len, fun A o s H args us vs Q E g hr => F.run A o s H args us vs Q E g (hr.mono h)⟩
theorem fn_ofG {CX : CXT} {P : Program} {w : World} {K : PySem.W.Frag} {mg : Str → Option Value} {base : Heap} {k : Nat} {f : Addr} {name qual : Str} {params : Arguments} {body : List Stmt} {scope : Scope} {dV kV doc pm cdv ct oc : Value} {an od : Option Addr} {osl : Array (Option Value)} {N ps : List Str} {sp : Sp}
    (lk : K.lookup f = some ⟨oc, od, .func (PySem.W.fnOf name qual params body scope dV kV doc pm an cdv ct), osl⟩) (hcd : PySem.W.codeIn K cdv qual = true) (S : FnScope N ps scope) (len : ∀ vs H Q E, sp vs H Q E → vs.length = ps.length)
    (hb : ∀ (A : Around) (outer : List Env) (s : Shared) (H : Hp) (vs : List V) (Q : VK) (E : XK), A.guards = some [] → Room k (A.deeper (envOfC qual scope s.heap.objs.size f cdv)) → sp vs H Q E → ∃ t, PSs (cxOf CX P w K mg base N qual scope f cdv A outer s H E) body t ∧ t { nx := fun _ H' => Q .non H', rt := Q } (start N vs) H) :
    FnOkG P w K mg base CX (k + 1) f (PySem.W.fnOf name qual params body scope dV kV doc pm an cdv ct) ps sp := ⟨len, fun A outer s H args us vs Q E hG hr e0 bi r hs => by
  have ll := len _ _ _ _ hs
  have kin : K.In s.heap := e0.mod.kin.keeps fun b o e => (e0.bs b o e).1
  have nol : s.heap.NoLimit := e0.mod.nolimit.keeps fun b o e => (e0.bs b o e).1
  have kinds : ∀ y ∈ ps.zip us, scope.names.lookup y.1 = some .local ∨ (scope.names.lookup y.1 = some .cell ∧ ((cellsFrom (s.heap.objs.size + 1) scope.names []).lookup y.1).isSome = true) := fun ⟨n, v⟩ hy => (S.par n (List.of_mem_zip hy).1).imp id fun q => ⟨q, PySem.W.cellsFrom_some _ _ _ (.inl q)⟩
  refine codeAny_call_function hr.depth (kin _ _ lk) rfl S.co S.gen rfl (PySem.W.codeRec_of kin hcd) (bi _ _ _ _ (wpAny_newFunctionEnv_cells S.kind kinds fun env he s1 x => ?_))
  subst he
  obtain ⟨t, ht, go⟩ := hb A outer s H vs Q E hG (hr.deeper _) hs
  have I : Inv (cxOf CX P w K mg base N qual scope f cdv A outer s H E) [] (start N vs) H s1 := inv_start S hr.hd e0 ll r x
  refine ⟨nol.keeps x.toInCall.keep, codeAny_func (wpAny_mono (ht.run [] s1 (start N vs) H _ I go) (fun fl s' z => ?_) fun e s' z => z)⟩
  match fl, z with
  | .ret u, ⟨v, σ', H', J, rv, q⟩ => exact ⟨v, H', J.os, J.bare, J.base, J.hok, rv, q⟩
  | .next, ⟨σ', H', J, q⟩ => exact ⟨V.non, H', J.os, J.bare, J.base, J.hok, rfl, q⟩
  | .brk, ⟨_, _, _, q⟩ => exact False.elim q
  | .cont, ⟨_, _, _, q⟩ => exact False.elim q⟩
section
variable {X : Cx} {CX : CXT} {k : Nat} {f : Addr} {fd : FuncData} {ps : List Str} {sp : Sp} {ds : List Value} {dvs : List V} {E : XK} {x : Str} {p pos : Pos} {e : Expr} {es : List Expr} {t : TA}
theorem pe_callG (F : FnOkG X.prog X.w X.K X.mg X.base CX k f fd ps sp) (hG : X.A.guards = some []) (hr : Room k X.A) (hg : Gl X x) (hm : X.mg x = some (.ref f)) (hk : PySem.W.keepIn X.K (.ref f) = true) (hb : Binds X.K fd ps ds) (hd : Vals dvs ds) (hx : Passes CX X E)
    (ha : PA X (e :: es) t) (hdb : (x == ("__debug__" : Str)) = false := by decide) (he : starEach (e :: es) X.env = (false, eval e X.env) :: starEach es X.env := by rfl) (hpl : (backTo pos (starEach es X.env)).any (·.1) = false := by rfl) :
    PE X (.Call (.Name x p) (e :: es) [] pos) (tCall sp dvs E t) := ⟨fun pins s σ H Q I h => by
  refine wpAny_Call_Name_kw (ld_glob I hg hm (PySem.W.callWith_K (h₀ := X.base) I.ok.mod.kin hk (thn (ha.run pos pins s σ H _ I h) fun us s1 ⟨vs, H1, I1, r, q⟩ => ⟨I1.kIn, ?_⟩) he hpl) hdb)
  have r2 : Vals (vs ++ dvs) (us ++ ds) := r.append hd
  have hl : (us ++ ds).length = ps.length := by rw [← r2.length]; exact F.len _ _ _ _ q
  refine wpAny_call (codeAny_mono (F.run X.A X.stack s1 H1 ⟨us, []⟩ (us ++ ds) (vs ++ dvs) Q E hG hr I1.env0 (hb s1 us I1.kIn hl) r2 q) fun r s' z => ?_)
  match r, z with
  | .error e, z => exact hx pins σ H1 s1 e s' I1 z
  | .ok (.ret u), z => exact I1.after z⟩
end
theorem okG {P : Program} {w : World} {K : PySem.W.Frag} {mg : Str → Option Value} {base : Heap} {x qual : Str} {st : Stmt} {f : Addr} {fd : FuncData} {N ps : List Str} {k : Nat} {sp : Sp} (F : L2.Fun K x qual st f fd) (S : FnScope N ps (defScope st)) (len : ∀ vs H Q E, sp vs H Q E → vs.length = ps.length)
    (hb : ∀ (cdv : Value) (A : Around) (outer : List Env) (s : Shared) (H : Hp) (vs : List V) (Q : VK) (E : XK), A.guards = some [] → Room k (A.deeper (envOfC qual (defScope st) s.heap.objs.size f cdv)) → sp vs H Q E →
      ∃ t, PSs (cxOf CX0 P w K mg base N qual (defScope st) f cdv A outer s H E).nox (defBody st) t ∧ t { nx := fun _ H' => Q .non H', rt := Q } (start N vs) H) : FnOkG P w K mg base CX0 (k + 1) f fd ps sp := by
  obtain ⟨oc, od, kV, doc, pm, an, cdv, ct, osl, rfl, lk, hcd⟩ := F.ex
  refine fn_ofG lk hcd S len fun A outer s H vs Q E hG hr hsp => ?_
  obtain ⟨t, h, q⟩ := hb cdv A outer s H vs Q E hG hr hsp
  exact ⟨t, h.nox, q⟩
/-- the script is told of, or it is one of the module's own objects -/
def oneH (K : PySem.W.Frag) (a : Addr) (vs : List Value) (ns : List Int) : Hp := fun b => if b = a ∧ K.lookup a = none then some (.frz { cls := .type "list", data := .seq vs.toArray } (.lst (ns.map V.int))) else none
theorem oneH_some {K : PySem.W.Frag} {a b : Addr} {vs : List Value} {ns : List Int} {u : HO} (h : oneH K a vs ns b = some u) : b = a ∧ K.lookup a = none ∧ u = .frz { cls := .type "list", data := .seq vs.toArray } (.lst (ns.map V.int)) := by
  unfold oneH at h
  split at h
  · rename_i z
    cases h
    exact ⟨z.1, z.2, rfl⟩
  · cases h
theorem law_callG {P : Program} {w : World} {K : PySem.W.Frag} {mg mb : Str → Option Value} {CX : CXT} {k : Nat} {fa a : Addr} {fd : FuncData} {x : Str} {sp : Sp} {s : Shared} {vs : List Value} {ns : List Int}
    (KX : K.In s.heap) (gl : s.heap.Ns mainGlobals mg) (bl : s.heap.Ns builtinsNs mb) (bb : ∀ x : Str, x ≠ "__name__" → mb x = bootBuiltins x) (nol : s.heap.NoLimit) (gens : s.gens = #[]) (ha : s.heap.get? a = some { cls := .type "list", data := .seq vs.toArray }) (hi : IntsAre vs ns)
    (hl : ns.length ≤ sizeLine) (hr : Room k callerA) (F : ∀ base : Heap, K.In base → base.Ns mainGlobals mg → FnOkG P w K mg base CX k fa fd [x] sp) (bi : ∀ (s : Shared) (u : Value), BindsTo s fd ⟨[u], []⟩ [(x, u)])
    (hsp : ∀ H : Hp, Only H → SqL K H a (ns.map V.int) → sp [.ref a] H (fun v _ => v = .bl true) fun _ _ _ => False) (hCX : ∀ H e s', CX [] H s (fun _ _ _ => False) e s' → False) :
    codeAny (model P w) callerA (.call (.ref fa) ⟨[.ref a], []⟩) (fun r s' => r = .ok (.ret (.bool true)) ∧ OldK s.heap s'.heap ∧ s'.os = s.os ∧ AllBare s'.gens) s := by
  have rv := vals_ints hi
  have lv : vs.length = ns.length := by have := rv.length; rw [List.length_map] at this; exact this.symm
  -- what is told of nothing else stands in the base, too
  have bs : ∀ {b : Addr} {o : Obj}, s.heap.get? b = some o → (b = a → K.lookup a ≠ none) → (hidT s.heap (oneH K a vs ns)).get? b = some o := fun {b o} e n => hidT_get e (by
    cases q : oneH K a vs ns b with
    | none => rfl
    | some u => exact absurd (oneH_some q).2.1 (n (oneH_some q).1))
  have nsB : ∀ {b : Addr} {m : Str → Option Value}, s.heap.Ns b m → (hidT s.heap (oneH K a vs ns)).Ns b m := fun {b m} ⟨o, es, ep, e, d, r⟩ => ⟨o, es, ep, bs e (fun z => by
    subst z
    rw [ha] at e
    cases e
    cases d), d, r⟩
  have kB : K.In (hidT s.heap (oneH K a vs ns)) := fun b o e => bs (KX b o e) fun z => by
    subst z
    rw [e]
    simp
  have md : Mod K mg (hidT s.heap (oneH K a vs ns)) := ⟨kB, nsB gl, ⟨mb, nsB bl, bb⟩, let ⟨mc, h1, h2⟩ := nol; ⟨mc, nsB h1, h2⟩⟩
  have hok : HOk P w (oneH K a vs ns) s.heap := fun b u e => by
    obtain ⟨rfl, _, rfl⟩ := oneH_some e
    exact ⟨ha, by rw [List.length_map]; exact hl, vs, _, rv, ha⟩
  have only : Only (oneH K a vs ns) := fun b => by
    cases q : oneH K a vs ns b with
    | none => exact .inl rfl
    | some u => exact .inr ⟨_, _, congrArg some (oneH_some q).2.2⟩
  have sq : SqL K (oneH K a vs ns) a (ns.map V.int) := by
    cases q : K.lookup a with
    | none => exact .inl (.inr ⟨_, if_pos ⟨rfl, q⟩⟩)
    | some o =>
      have e := KX a o q
      rw [ha] at e
      cases e
      exact .inr ⟨_, vs.toArray, _, q, rfl, rfl, rfl, by rw [List.size_toArray, lv]; exact hl, by simpa using rv⟩
  refine codeAny_mono ((F _ kB (nsB gl)).run callerA [] s _ ⟨[.ref a], []⟩ [.ref a] [.ref a] _ _ rfl hr ⟨rfl, md, fun b o e => of_hidT e, Nat.le_of_eq (hidT_size _ _), trivial, fun b hb => absurd (show b ∈ ([] : List Addr) from hb) (by simp), hok, .of_eq gens⟩ (bi s (.ref a)) (.cons rfl .nil) (hsp _ only sq)) fun r s' h => ?_
  match r, h with
  | .error e, h => exact (hCX _ e s' h).elim
  | .ok (.ret u), ⟨v, H', os, bare, un, hok', r', q⟩ =>
    have q' : v = .bl true := q
    subst q'
    obtain rfl : u = Value.bool true := r'
    refine ⟨rfl, OldK.of_keep fun b o e => ?_, os, bare⟩
    cases q : oneH K a vs ns b with
    | none => exact un.keep b o e q (fun z => absurd (show b ∈ ([] : List Addr) from z) (by simp)) (by simp)
    | some u =>
      obtain ⟨rfl, _, rfl⟩ := oneH_some q
      obtain ⟨e2, _⟩ := hok' b _ (un.frzs b _ _ q)
      rw [ha] at e
      cases e
      exact e2
theorem walk_ofG {l : PySem.W.OpenLaw} {n k : Nat} {q : Program} {loose : List Str} {XP : (Str → Option Value) → Heap → Prop} {YP : World → Heap → Prop} {d : DefRec} {K : Params → PySem.W.Frag} {CX : World → CXT} {sp : World → Sp} {x : Str}
    (hn : l.most = some n) (hn2 : n ≤ sizeLine) (hdf : d.params.defaults = []) (hr : Room k callerA) (hY : ∀ (w : World) (h : Heap), YP w h → (K w.params).In h)
    (F : ∀ (w : World) (mg : Str → Option Value) (fa : Addr) (h : Heap), (K w.params).In h → h.Ns mainGlobals mg → mg d.name = some (.ref fa) → ∃ fd : FuncData, (∀ (s : Shared) (u : Value), BindsTo s fd ⟨[u], []⟩ [(x, u)]) ∧ ∀ base : Heap, (K w.params).In base → base.Ns mainGlobals mg → FnOkG l.prog w (K w.params) mg base (CX w) k fa fd [x] (sp w))
    (hsp : ∀ (w : World) (H : Hp) (a : Addr) (ns : List Int), ns.length ≤ n → Only H → SqL (K w.params) H a (ns.map V.int) → sp w [.ref a] H (fun v _ => v = .bl true) fun _ _ _ => False)
    (hCX : ∀ (w : World) (H : Hp) (s : Shared) (e : Value) (s' : Shared), CX w [] H s (fun _ _ _ => False) e s' → False) : PySem.W.WalkO q loose XP YP l.row.toRowW d [] (fun f vs => PySem.call f vs) := by
  refine Att.attach_call hn hdf fun w s₀ s₁ mg mb fa o pm cd doc a vs ns G Y ho hd hcd hmg hobj hints hlen hg => ?_
  have KX := hY w _ Y
  obtain ⟨fd, bi, hF⟩ := F w mg fa _ KX G.T.g hmg
  exact law_callG KX G.T.g G.T.b G.T.builtins G.T.nolimit hg hobj hints (Nat.le_trans hlen hn2) hr hF bi (fun H hO hS => hsp w H a ns hlen hO hS) fun H e s' => hCX w H s₁ e s'
end PD
namespace PD
open PySem PySem.Spec PyProof.Rows L2 PDX
/-- C(..), held -/
def tXob (C : Addr) (sp : Sp) (ta : TA) : TE := fun σ H Q => ta σ H fun vs H1 => vs.length ≤ 1000 ∧ ∀ a, H1 a = none → sp (.ref a :: vs) (upd H1 a (exo a C none)) (fun v H2 => v = .non ∧ Q (.ref a) H2) (fun _ _ _ => False)
section
variable {X : Cx} {pos p : Pos}
theorem run_xob {CX : CXT} {C fI : Addr} {k : Nat} {fd : FuncData} {ps : List Str} {sp : Sp} {pins : List (Addr × Obj)} {σ : L2.St} {H : Hp} {Q : VK} {s : Shared} {vs : List V} {us : List Value} (T : OexC X.K C) (iC : PySem.W.findIn X.K (.ref C) "__init__" = some (some (.ref fI))) (tI : PySem.W.typeIn X.K (.ref fI) = some (.type "function"))
    (F1 : FnOk X.prog X.w X.K X.mg X.base CX k fI fd ps sp) (hr : Room (k + 1) X.A) (hb : Binds X.K fd ps []) (hx : Passes CX X (fun _ _ _ => False)) (I : L2.Inv X pins σ H s) (r : Vals vs us) (hl : vs.length ≤ 1000)
    (wish : ∀ a, H a = none → sp (.ref a :: vs) (upd H a (exo a C none)) (fun v H2 => v = .non ∧ Q (.ref a) H2) (fun _ _ _ => False)) : wpAny (model X.prog X.w) X.A (call (.ref C) us) (EP X pins σ Q) X.xe s := by
  obtain ⟨_, _, _, _, bm, _, _, _, _, _, _, _, _, _, _, hC, hv⟩ := T.cls
  generalize ea : s.heap.objs.size + 1 = a
  have lo : s.heap.objs.size ≤ a := by omega
  obtain ⟨hm', ehm⟩ : ∃ z : Heap, z = (s.heap.push (PySem.W.kdv_tup us)).push (PySem.HandSPX.excO C s.heap.objs.size) := ⟨_, rfl⟩
  have le : ∀ y v, s.heap.get? y = some v → hm'.get? y = some v := fun y v e => by
    rw [ehm]
    exact Heap.get?_push_of_some _ (Heap.get?_push_of_some _ e)
  have at_ : hm'.get? a = some (PySem.HandSPX.excO C s.heap.objs.size) := by
    rw [ehm, ← ea]
    heap_get
  have na : H a = none := I.hok.fresh lo
  have W1 := wish a na
  have I1 : L2.Inv X pins σ (upd H a (exo a C none)) { s with heap := hm' } := I.laid (t' := s.toks) (h' := hm') le lo (exo_ok at_)
  have n1 := F1.len _ _ _ _ W1
  have r1 : Vals (V.ref a :: vs) (Value.ref a :: us) := .cons rfl r
  have hus : us.length ≤ sizeLine := by
    rw [← Paired.length r, sizeLine_eq]
    omega
  have bi := hb { s with heap := hm' } (Value.ref a :: us) I1.kIn (by rw [List.append_nil, ← r1.length]; exact n1)
  rw [List.append_nil] at bi
  have call := F1.run _ X.stack _ _ ⟨Value.ref a :: us, []⟩ (Value.ref a :: us) _ _ (fun _ _ _ => False) (hr.make C us []) (I1.env0.make C us []) bi r1 W1
  subst ehm
  subst ea
  refine wpAny_call (PySem.HandSPX.call_own F.excBase_ValueError (fun Y => PySem.HandSPX.refsVE_contains Y bm hv) (I.kIn _ _ hC) (PySem.W.looks_findIn I.kIn iC) (fun self => PySem.W.bind_fn I.kIn self tI) hus (codeAny_mono call fun out s2 got => ?_))
  have off : ∀ x v, s.heap.get? x = some v → x ≠ s.heap.objs.size + 1 := by
    rintro x v e rfl
    have z : s.heap.objs.size + 1 < s.heap.objs.size := Heap.lt_size e
    omega
  rcases out with er | fl
  · exact hx pins σ _ _ er s2 I1 got
  · cases fl <;> first
      | exact got.elim
      | (obtain ⟨v, H2, o2, b2, u2, k2, rv, ev, wq⟩ := got
         subst ev
         exact ⟨rv, .ref _, H2, I.call' (ch := []) o2 (un_from u2 le off na) k2 b2 (by simp), rfl, wq⟩)
theorem pe_xob {CX : CXT} {x : Str} {C fI : Addr} {k : Nat} {fd : FuncData} {ps : List Str} {sp : Sp} {e : Expr} {es : List Expr} {ta : TA} (T : OexC X.K C) (iC : PySem.W.findIn X.K (.ref C) "__init__" = some (some (.ref fI))) (tI : PySem.W.typeIn X.K (.ref fI) = some (.type "function"))
    (F1 : FnOk X.prog X.w X.K X.mg X.base CX k fI fd ps sp) (hr : Room (k + 1) X.A) (hb : Binds X.K fd ps []) (hx : Passes CX X (fun _ _ _ => False)) (hg : Gl X x) (hm : X.mg x = some (.ref C)) (ha : PA X (e :: es) ta)
    (hdb : (x == ("__debug__" : Str)) = false := by decide) (he : starEach (e :: es) X.env = (false, eval e X.env) :: starEach es X.env := by rfl) (hpl : (backTo pos (starEach es X.env)).any (·.1) = false := by rfl) :
    PE X (.Call (.Name x p) (e :: es) [] pos) (tXob C sp ta) := ⟨fun pins s σ H Q I h => by
  refine wpAny_Call_Name_kw (ld_glob I hg hm (PySem.W.callWith_K (h₀ := X.base) I.ok.mod.kin T.kC (thn (ha.run pos pins s σ H _ I h) fun us s1 ⟨vs, H1, I1, r, hl, q⟩ => ⟨I1.kIn, ?_⟩) he hpl) hdb)
  exact run_xob T iC tI F1 hr hb hx I1 r hl q⟩
theorem pe_xob0 {CX : CXT} {x : Str} {C fI : Addr} {k : Nat} {fd : FuncData} {ps : List Str} {sp : Sp} (T : OexC X.K C) (iC : PySem.W.findIn X.K (.ref C) "__init__" = some (some (.ref fI))) (tI : PySem.W.typeIn X.K (.ref fI) = some (.type "function"))
    (F1 : FnOk X.prog X.w X.K X.mg X.base CX k fI fd ps sp) (hr : Room (k + 1) X.A) (hb : Binds X.K fd ps []) (hx : Passes CX X (fun _ _ _ => False)) (hg : Gl X x) (hm : X.mg x = some (.ref C))
    (hdb : (x == ("__debug__" : Str)) = false := by decide) : PE X (.Call (.Name x p) [] [] pos) (tXob C sp tNil) := ⟨fun pins s σ H Q I h => by
  refine wpAny_Call_Name_kw (ld_glob I hg hm (PySem.W.callWith_K0 I.kIn T.kC ?_) hdb)
  exact run_xob (us := []) T iC tI F1 hr hb hx I .nil h.1 h.2⟩
end
section
variable {W : Wd} {δ : DS} {P : D → Prop}
theorem notM {M : Addr → Prop} {H : Hp} {a : Addr} (w : Wf W M H) (h : H a = none) : ¬ M a := fun m => by
  obtain ⟨o, ho⟩ := w.dom a m
  rw [h] at ho
  cases ho
theorem ev_xob0 {C' : Addr} (hC : OexC W.K C') (h : P (.xob C' [] [])) : EvD W (tXob C' (spI0 W.K) tNil) δ P := fun M σ H p Q q =>
  ⟨by show 0 ≤ 1000; decide, fun a ha => ⟨a, C', rfl, hC, upd_same, rfl, q _ _ _ (p.wf.g.new ha) (Keep.new ha) (.xob0 (notM p.wf ha) upd_same) h⟩⟩
theorem ev_xob1 {C' : Addr} {f : Str} {ta : TA} (hC : OexC W.K C') (hf : PySem.W.findIn W.K (.ref C') f = some none) (h : EvA W ta δ fun ds => ∃ d, ds = [d] ∧ P (.xob C' [f] [d])) : EvD W (tXob C' (spI1 W.K f) ta) δ P := fun M σ H p Q q =>
  h M σ H p _ fun vs ds H1 g1 k1 r1 h1 => by
    obtain ⟨d, rfl, hP⟩ := h1
    cases r1 with
    | @cons v vs d ds r1 r2 =>
      cases r2
      refine ⟨by show 1 ≤ 1000; decide, fun a ha => ⟨a, C', v, rfl, hC, hf, upd_same, fun dx hdx hne => ⟨rfl, ?_⟩⟩⟩
      have hd1 : H1 dx = none := by
        rw [upd_ne hne] at hdx
        exact hdx
      have eH : upd (upd (upd H1 a (exo a C' none)) dx (exd dx [(f, v)])) a (exo a C' (some dx)) = upd (upd H1 dx (exd dx [(f, v)])) a (exo a C' (some dx)) := by
        funext b
        by_cases e2 : b = a
        · simp [upd, e2]
        · simp [upd, e2]
      rw [eH]
      have ha2 : upd H1 dx (exd dx [(f, v)]) a = none := by
        rw [upd_ne (Ne.symm hne)]
        exact ha
      have w1 := p.wf.next g1 k1
      have k2 : Keep W H1 (upd (upd H1 dx (exd dx [(f, v)])) a (exo a C' (some dx))) := (Keep.new hd1).trans (Keep.new ha2)
      refine q _ _ _ ((g1.new hd1).new ha2) (k1.trans k2) (.xob (fs := [(f, v)]) (ds := [d]) (notM w1 ha) upd_same (notM w1 hd1) ?_ rfl (.cons (r1.keep w1 k2) .nil)) hP
      rw [upd_ne hne, upd_same]
end
def rIsX (K : PySem.W.Frag) : List V → Hp → VK → Prop := fun xs H Q => ∃ (a C : Addr) (d : Option Addr) (c : V) (cv : Value) (b : Bool), xs = [.ref a, c] ∧ H a = some (exo a C d) ∧ (∀ dx, d = some dx → ∃ fs, H dx = some (exd dx fs)) ∧ L2.ExcC K C ∧ (∀ u, RelV c u → u = cv) ∧ PySem.W.kitOne K (.ref C) cv = some b ∧ Q (.bl b) H
/-- the object behind -/
theorem exo_inst {P : Program} {w : World} {H : Hp} {h : Heap} {a C : Addr} {d : Option Addr} (hok : HOk P w H h) (ha : H a = some (exo a C d)) (hd : ∀ dx, d = some dx → ∃ fs, H dx = some (exd dx fs)) : ∃ ox od, PySem.W.InstAt h a ox C od := by
  obtain ⟨t1, ho⟩ := exo_at hok ha
  cases d with
  | none => exact ⟨_, none, ho, rfl, rfl, trivial⟩
  | some dx =>
    obtain ⟨fs, hx⟩ := hd dx rfl
    obtain ⟨mA, hns, rel⟩ := exd_at hok hx
    obtain ⟨oD, _, _, hoD, _, _⟩ := hns.count (within_of rel)
    exact ⟨_, some oD, ho, rfl, rfl, hoD⟩
theorem call_isX {X : Cx} : CallR X (.builtin "isinstance") (rIsX X.K) := by
  intro pins s σ H xs us Q I r h
  obtain ⟨a, C, d, c, cv, b, rfl, ha, hd, E, hc, hk, q⟩ := h
  obtain ⟨u1, u2, rfl, r1, r2⟩ := vals2 r
  obtain rfl : u1 = Value.ref a := r1
  obtain rfl := hc u2 r2
  obtain ⟨ox, od, J⟩ := exo_inst I.hok ha hd
  obtain ⟨cd, hcd, _⟩ := PySem.W.any_some E.hd
  exact PySem.W.kia_one (PySem.W.kitx_exc (by rw [hcd]; rfl) E.hg E.hk E.hs E.ha E.hn E.ht E.hm) I.kIn J hk (fun z => nomatch z) fun tk => ⟨.bl b, H, I.tok tk, rfl, q⟩
theorem call_isXK {X : Cx} {K : PySem.W.Frag} (h : X.K = K) : CallR X (.builtin "isinstance") (rIsX K) := by subst h; exact call_isX
section
variable {W : Wd} {δ : DS} {P : D → Prop}
theorem xob_at {M : Addr → Prop} {H : Hp} {v : V} {C : Addr} {ns : List Str} {ds : List D} (r : Rep W M H v (.xob C ns ds)) : ∃ a d, v = .ref a ∧ H a = some (exo a C d) ∧ ∀ dx, d = some dx → ∃ fs, H dx = some (exd dx fs) := by
  cases r with
  | xob0 n h => exact ⟨_, none, rfl, h, fun _ z => nomatch z⟩
  | xob n h n2 h2 e r => exact ⟨_, _, rfl, h, fun dx z => by cases z; exact ⟨_, h2⟩⟩
theorem rc_isX {C B : Addr} {b : Bool} {ns : List Str} {ds : List D} (hE : L2.ExcC W.K C) (hk : PySem.W.kitOne W.K (.ref C) (.ref B) = some b) (h : P (.bl b)) : RCD W (rIsX W.K) [.xob C ns ds, .obj B] P := fun M H vs w r Q q => by
  cases r with
  | cons r1 r2 =>
    cases r2 with
    | cons r2 r3 =>
      cases r3
      cases r2
      obtain ⟨a, d, rfl, h1, h2⟩ := xob_at r1
      exact ⟨a, C, d, _, .ref B, b, rfl, h1, h2, hE, fun u hu => hu, hk, q _ _ H w.g (Keep.refl H) (.bl _) h⟩
theorem rc_isXT {C : Addr} {n : String} {b : Bool} {ns : List Str} {ds : List D} (hE : L2.ExcC W.K C) (hk : PySem.W.kitOne W.K (.ref C) (.type n) = some b) (h : P (.bl b)) : RCD W (rIsX W.K) [.xob C ns ds, .ty n] P := fun M H vs w r Q q => by
  cases r with
  | cons r1 r2 =>
    cases r2 with
    | cons r2 r3 =>
      cases r3
      cases r2
      obtain ⟨a, d, rfl, h1, h2⟩ := xob_at r1
      exact ⟨a, C, d, _, .type n, b, rfl, h1, h2, hE, fun u hu => hu, hk, q _ _ H w.g (Keep.refl H) (.bl _) h⟩
end
/-- e.f, e an exception -/
def tXfl (K : PySem.W.Frag) (te : TE) (f : Str) : TE := fun σ H Q => te σ H fun x H1 => ∃ (a C dx : Addr) (fs : List (Str × V)) (v : V), x = .ref a ∧ H1 a = some (exo a C (some dx)) ∧ H1 dx = some (exd dx fs) ∧ XfC K C ∧ PySem.W.findIn K (.ref C) f = some none ∧ fs.lookup f = some v ∧ Q v H1
theorem pe_xflK {X : Cx} {K : PySem.W.Frag} {e : Expr} {te : TE} {f : Str} {pos : Pos} (hK : X.K = K) (he : PE X e te) (hb : attributeBase e f X.env (eval e X.env) = eval e X.env) : PE X (.Attribute e f pos) (tXfl K te f) := by
  subst hK
  refine ⟨fun pins s σ H Q I h => attr_of hb (thn (he.run pins s σ H _ I h) fun u s1 ⟨x, H1, I1, rx, a, C, dx, fs, v, ex, ha, hd, T, hno, hl, q⟩ => ?_)⟩
  subst ex
  obtain rfl : u = Value.ref a := rx
  obtain ⟨t1, ho⟩ := exo_at I1.hok ha
  obtain ⟨mA, hns, rel⟩ := exd_at I1.hok hd
  obtain ⟨od, hod, hlk⟩ := lookIn_ns hns
  obtain ⟨u, hu, ru⟩ := RelO.some_of (v := v) (o := mA f) (by rw [← hl]; exact rel f)
  have J : PySem.W.InstAt s1.heap a _ C (some od) := ⟨ho, rfl, rfl, hod⟩
  exact HandSPX.exc_get I1.kIn J T.ga T.gg T.exC (PySem.W.findObj_own T.hdC hno rfl (by rw [hlk, hu])) (handed_of ru) ⟨v, H1, I1.tok _, ru, q⟩
theorem ev_xfl {W : Wd} {δ : DS} {te : TE} {f : Str} {P : D → Prop} (h : EvD W te δ fun x => ∃ C d, x = .xob C [f] [d] ∧ XfC W.K C ∧ PySem.W.findIn W.K (.ref C) f = some none ∧ P d) : EvD W (tXfl W.K te f) δ P := fun M σ H p Q q =>
  h M σ H p _ fun v x H1 g1 k1 r1 h1 => by
    obtain ⟨C, d, rfl, hT, hn, hP⟩ := h1
    cases r1 with
    | @xob a C dx fs ns ds n hh n2 h2 e r =>
      match fs, e, r with
      | [], e, _ => cases e
      | (g, y) :: rest, e, r =>
        cases r with
        | cons r1 r2 =>
          cases rest with
          | cons _ _ => cases r2
          | nil =>
            cases e
            exact ⟨a, C, dx, _, y, rfl, hh, h2, hT, hn, by simp [List.lookup], q y d H1 g1 k1 r1 hP⟩
def rReprD (K : PySem.W.Frag) : List V → Hp → VK → Prop := fun xs H Q => ∃ x d, xs = [x] ∧ Dp K H x d ∧ d.showable = true ∧ d.hasDict = false ∧ d.depth ≤ 60 ∧ d.shown.length ≤ sizeLine ∧ Q (.str d.shown) H
theorem call_reprD {X : Cx} (hG : X.A.guards = some []) (hu : X.A.units + 64 < cLine) : CallR X (.builtin "repr") (rReprD X.K) := by
  intro pins s σ H xs us Q I r h
  obtain ⟨x, d, rfl, hd, hs, hn, hdp, hz, q⟩ := h
  obtain ⟨u, rfl, ru⟩ := vals1 r
  obtain ⟨as, rd⟩ := Dp.reads I d x u hd ru
  have fin : ∀ (t : Str) (tk : Tok) (n : Nat), d.shown = t → EP X pins σ Q (.str t tk) { s with toks := n } := fun t tk n e => ⟨.str t, H, I.tok n, ⟨_, rfl⟩, by rw [← e]; exact q⟩
  cases rd with
  | none => exact PySem.P.repr_of_none (fin _ _ _ (by simp only [PyData.shown]))
  | bool b => exact PySem.P.repr_of_bool (fin _ _ _ (by simp only [PyData.shown]))
  | int i t => exact PySem.P.repr_of_int (by simpa [PyData.showable] using hs) (fin _ _ _ (by simp only [PyData.shown]))
  | str y t => exact PySem.P.repr_of_str (fin _ _ _ (by simp only [PyData.shown])) (by simpa only [PyData.shown] using hz)
  | list h1 h2 h3 h4 => exact repr_of_reads' (.list h1 h2 h3 h4) hs (PyData.noDict_hsm hn) hG (by omega) (fun _ _ e => e) (fun h' u tk k => ⟨.str _, H, I.kept (t' := tk) k, ⟨_, rfl⟩, q⟩) hz
  | tuple h1 h2 h3 h4 => exact repr_of_reads' (.tuple h1 h2 h3 h4) hs (PyData.noDict_hsm hn) hG (by omega) (fun _ _ e => e) (fun h' u tk k => ⟨.str _, H, I.kept (t' := tk) k, ⟨_, rfl⟩, q⟩) hz
  | dict h1 h2 h3 h4 h5 => simp [PyData.hasDict] at hn
theorem call_reprDK {X : Cx} {K : PySem.W.Frag} (h : X.K = K) (hG : X.A.guards = some []) (hu : X.A.units + 64 < cLine) : CallR X (.builtin "repr") (rReprD K) := by subst h; exact call_reprD hG hu
/-- what repr shows whole -/
def ShD (d : D) : Prop := d.fine = true ∧ d.py.showable = true ∧ d.py.hasDict = false ∧ d.py.depth ≤ 60 ∧ d.py.shown.length ≤ sizeLine
theorem rc_reprD {W : Wd} {P : D → Prop} {d : D} (h : ShD d) (hP : P (.str d.py.shown)) : RCD W (rReprD W.K) [d] P := fun M H vs w r Q q => by
  obtain ⟨hf, h1, h2, h3, h4⟩ := h
  cases r with
  | cons r1 r2 =>
    cases r2
    exact ⟨_, d.py, rfl, dp_of r1 (Bool.and_eq_true_iff.mp hf).1, h1, h2, h3, h4, q _ _ H w.g (Keep.refl H) (.str _) hP⟩
def rMulS : R2 := fun x y H Q => ∃ (a : Str) (n : Int), x = .str a ∧ y = .int n ∧ MulOk a n ∧ Q (.str (Txt.mul a n)) H
theorem op_mulS {X : Cx} : OpR X (binaryOp .Mult) rMulS := by
  intro pins s σ H x y v u Q I rx ry h
  obtain ⟨a, n, rfl, rfl, ok, q⟩ := h
  obtain ⟨t, rfl⟩ := rx
  obtain ⟨t2, rfl⟩ := ry
  exact SB.mul ok fun t' k => ⟨.str _, H, I.tok k, ⟨_, rfl⟩, q⟩
def rAddTx : R2 := fun x y H Q => ∃ i j, x = .str i ∧ y = .str j ∧ i.length + j.length ≤ sizeLine ∧ Q (.str (i ++ j)) H
theorem op_addTx {X : Cx} : OpR X (binaryOp .Add) rAddTx := op_add_str
section
variable {W : Wd} {P : D → Prop}
theorem rd_mulS {a : Str} {n : Int} (ok : MulOk a n) (h : P (.str (Txt.mul a n))) : RD W rMulS (.str a) (.int n) P := fun M H v u w r1 r2 Q q => by
  cases r1
  cases r2
  exact ⟨a, n, rfl, rfl, ok, q _ _ H w.g (Keep.refl H) (.str _) h⟩
theorem rd_addTx {i j : Str} (hz : i.length + j.length ≤ sizeLine) (h : P (.str (i ++ j))) : RD W rAddTx (.str i) (.str j) P := fun M H v u w r1 r2 Q q => by
  cases r1
  cases r2
  exact ⟨i, j, rfl, rfl, hz, q _ _ H w.g (Keep.refl H) (.str _) h⟩
end
theorem rd_eqTx {W : Wd} {P : D → Prop} {i j : Str} (h : P (.bl (decide (i = j)))) : RD W L2.rEq (.str i) (.str j) P := fun M H v u w r1 r2 Q q => by
  cases r1
  cases r2
  refine ⟨rfl, q _ _ H w.g (Keep.refl H) (.bl _) ?_⟩
  have e : decide (V.str i = V.str j) = decide (i = j) := by simp
  rw [e]
  exact h
theorem small_log {n : Int} (h : n.natAbs < 10 ^ 41) : n.natAbs.log2 < 1920 := log2_small (Nat.lt_of_lt_of_le h (by decide +kernel))
theorem int_shown {n : Int} (h : n.natAbs < 10 ^ 41) : (toString n).length ≤ 42 := int_text_length_le10 (by decide) h
theorem sh_int {n : Int} (h : n.natAbs < 10 ^ 41) : ShD (.int n) :=
  ⟨fineI n, by simpa [D.py, PyData.showable] using small_log h, by simp only [D.py, PyData.hasDict], by simp [D.py, PyData.depth], by
    simp only [D.py, PyData.shown]
    have := int_shown h
    rw [sizeLine_eq]
    show (Str.ofString (toString n)).length ≤ _
    rw [PySem.ofString_length]
    omega⟩
theorem sh_tup {n : Int} (h : n.natAbs < 10 ^ 41) : ShD (.tup [.int n, .int 2]) :=
  ⟨by simp [D.fine, D.plain, D.plains, D.py, D.pys, SeqAt.shaped, PyData.canLay0, PyData.canLayAll0, PyData.depth, PyData.depthAll], by
    simp only [D.py, D.pys, PyData.showable, PyData.showableAll, Bool.and_true, Bool.and_eq_true, decide_eq_true_eq]
    exact ⟨small_log h, by decide⟩, by simp only [D.py, D.pys, PyData.hasDict, PyData.hasDictAll, Bool.or_self], by simp [D.py, D.pys, PyData.depth, PyData.depthAll], by
    simp only [D.py, D.pys, PyData.shown, PyData.shownAll]
    have := int_shown h
    refine Nat.le_trans (tupleText_len_le _) ?_
    have e : ((toString n : String) : Str).length = (toString n).length := PySem.ofString_length _
    have e2 : ((toString (2 : Int) : String) : Str).length = 1 := by decide +kernel
    simp only [List.map_cons, List.map_nil, List.sum_cons, List.sum_nil, List.length_cons, List.length_nil, e, e2]
    rw [sizeLine_eq]
    omega⟩
theorem sh_lst {n : Int} (h : n.natAbs < 10 ^ 41) : ShD (.lst [.int n]) :=
  ⟨by simp [D.fine, D.plain, D.plains, D.py, D.pys, SeqAt.shaped, PyData.canLay0, PyData.canLayAll0, PyData.depth, PyData.depthAll], by
    simp only [D.py, D.pys, PyData.showable, PyData.showableAll, Bool.and_true, decide_eq_true_eq]
    exact small_log h, by simp only [D.py, D.pys, PyData.hasDict, PyData.hasDictAll, Bool.or_self], by simp [D.py, D.pys, PyData.depth, PyData.depthAll], by
    simp only [D.py, D.pys, PyData.shown, PyData.shownAll]
    have := int_shown h
    refine Nat.le_trans (listText_len_le _) ?_
    have e : ((toString n : String) : Str).length = (toString n).length := PySem.ofString_length _
    simp only [List.map_cons, List.map_nil, List.sum_cons, List.sum_nil, List.length_cons, List.length_nil, e]
    rw [sizeLine_eq]
    omega⟩
instance (d : D) : Decidable (ShD d) := by unfold ShD; infer_instance
theorem sh_rest : ShD .non ∧ ShD (.bl true) ∧ ShD (.bl false) ∧ ShD (.tup [.str "rows", .lst [.int 0]]) := by decide +kernel
theorem sh_names : ∀ k : Nat, k < 5 → ShD (.str (("name" : Str) ++ Txt.mul "x" k)) := by decide +kernel
theorem len_names : ∀ k : Nat, k < 5 → ("name" : Str).length + (Txt.mul "x" k).length ≤ sizeLine := by decide +kernel
theorem mul_names : ∀ k : Nat, k < 5 → MulOk ("x" : Str) k := by unfold MulOk; decide +kernel
def xoB (K : PySem.W.Frag) (D : Addr) : Bool :=
  decide (PySem.W.findIn K (.ref D) "__getattribute__" = some (some (.builtin "BaseException.__getattribute__"))) && decide (PySem.W.findIn K (.ref D) "__getattr__" = some none) && decide (PySem.W.subIn K (.ref D) (.type "BaseException") = some true) && decide (PySem.W.hasDictIn K D = true) &&
  decide (PySem.W.findIn K (.ref D) "__class__" = some (some (.builtin "object.__class__"))) && decide (PySem.W.specialIn K (.builtin "object.__class__") "__get__" = some (some (.builtin "getset_descriptor.__get__"))) && decide (PySem.W.takesIn K (.builtin "object.__class__") = some true) && decide (PySem.W.mroIn K D (.type "object") = some true)
theorem xo_of {K : PySem.W.Frag} {D : Addr} (h : xoB K D = true) : L2.ExcC K D := by
  unfold xoB at h
  simp only [Bool.and_eq_true, decide_eq_true_eq] at h
  obtain ⟨⟨⟨⟨⟨⟨⟨h1, h2⟩, h3⟩, h4⟩, h5⟩, h6⟩, h7⟩, h8⟩ := h
  exact ⟨h1, h2, h3, h4, h5, h6, h7, h8⟩
def koB (K : PySem.W.Frag) (D : Addr) (c : Value) (b : Bool) : Bool := decide (PySem.W.kitOne K (.ref D) c = some b)
/-- each of them is an error of its own, under G -/
def xcB (K : PySem.W.Frag) (G : Addr) (cs : List Addr) : Bool := decide cs.Nodup && cs.all fun C => xoB K C && (koB K C (.ref G) true && (koB K C (.type "ValueError") true && cs.all fun B => koB K C (.ref B) (C == B)))
structure XcK (K : PySem.W.Frag) (G : Addr) (cs : List Addr) : Prop where
  e : ∀ C ∈ cs, L2.ExcC K C
  g : ∀ C ∈ cs, PySem.W.kitOne K (.ref C) (.ref G) = some true
  v : ∀ C ∈ cs, PySem.W.kitOne K (.ref C) (.type "ValueError") = some true
  k : ∀ C ∈ cs, ∀ B ∈ cs, PySem.W.kitOne K (.ref C) (.ref B) = some (C == B)
  n : cs.Nodup
theorem xc_of {K : PySem.W.Frag} {G : Addr} {cs : List Addr} (h : xcB K G cs = true) : XcK K G cs := by
  unfold xcB koB at h
  simp only [List.all_eq_true, Bool.and_eq_true, decide_eq_true_eq] at h
  obtain ⟨h0, h⟩ := h
  exact ⟨fun C m => xo_of (h C m).1, fun C m => (h C m).2.1, fun C m => (h C m).2.2.1, fun C m B n => (h C m).2.2.2 B n, h0⟩
end PD
set_option Elab.async false
set_option linter.all false
set_option maxRecDepth 100000
set_option maxHeartbeats 4000000
namespace PDSR
end PDSR
namespace WarM
end WarM
namespace Lk00
open PySem PySem.Spec PyProof.Rows L2 PD PDX PDI PDT PDZ PDSR WarM
/-- the next steps of a reading, by its form -/
local macro_rules | `(tactic| walk_at "pd") => `(tactic| repeat' (first | ((with_reducible (show EvD _ _ _ _)); (first | ((with_reducible (show EvD _ (tVar _) _ _)); refine ev_var rfl ?_) | with_reducible (first | refine ev_op ?_ | refine ev_int ?_ | refine ev_bl ?_ | refine ev_non ?_ | refine ev_str ?_ | refine ev_ty ?_ | refine ev_obj ?_ | refine ev_un ?_ | refine ev_cb ?_ | refine ev_call ?_ | refine ev_tup ?_ | refine ev_lst ?_ | refine ev_dnew ?_ | refine ev_disp1 ?_ | refine ev_make ?_ | refine ev_sl ?_ | refine ev_slL ?_ | refine ev_andV ?_ | refine ev_orV ?_ | refine ev_notV ?_ | refine ev_if ?_ | refine ev_chain ?_) | refine ev_var rfl ?_)) | ((with_reducible (show RD _ _ _ _ _)); (first | with_reducible (first | refine rd_plusI ?_ | refine rd_eqI ?_ | refine rd_neI ?_ | refine rd_eqSh ?_ | refine rd_neS (by first | assumption | decide +kernel) (by decide +kernel) ?_ | refine rd_eqS (by first | assumption | decide +kernel) (by decide +kernel) ?_) | (with_reducible (refine rd_I (C := CPow) (cpow_ok (by decide)) ?_)) | refine rd_I0 ?_ | refine rd_I0b ?_ | refine rd_isN ?_ | refine rd_notN ?_ | refine rd_ixT (j := 0) rfl rfl ?_ | refine rd_ixT (j := 1) rfl rfl ?_ | refine rd_ixL (j := 0) rfl rfl ?_ | refine rd_ixL (j := 1) rfl rfl ?_ | refine rd_I ?_ ?_)) | ((with_reducible (show SX _ _ _ _ _ _ _ _ _)); with_reducible (first | refine sx_drop ?_ | refine sx_ret ?_ | refine sd_seq ?_ | refine sd_asg ?_ | refine sd_if ?_ | refine sd_ret ?_ | refine sd_next ?_ | refine sd_drop ?_ | refine sd_par ?_ | refine sd_retN ?_)) | ((with_reducible (show EvA _ _ _ _)); with_reducible (first | refine ea_nil ?_ | refine ea_cons ?_)) | ((with_reducible (show EvT _ _ _ _)); with_reducible (first | refine et_B ?_ | refine et_test ?_ | refine et_and ?_ | refine et_or ?_ | refine et_not ?_)) | ((with_reducible (show RCD _ _ _ _)); (first | with_reducible (first | refine rc_max2 ?_ | refine rc_min2 ?_ | refine rc_gcd ?_ | refine rc_abs ?_ | refine rc_int1 ?_ | refine rc_tupL ?_ | refine rc_lenT ?_ | refine rc_lenL ?_) | refine rc_isiIJ (by first | assumption | rfl) ?_ | refine rc_isiBJ (by first | assumption | rfl) ?_ | refine rc_isiTJ (by first | assumption | rfl) ?_ | refine rc_isiSJ (by first | assumption | rfl) ?_ | refine rc_isiI (by first | assumption | rfl) ?_ | refine rc_isiB (by first | assumption | rfl) ?_ | refine rc_isiT (by first | assumption | rfl) ?_)) | with_reducible (first | refine eo_none ?_ | refine eo_some ?_) | refine ru_I ?_ | (first | refine exb_t rfl ?_ | refine exb_f rfl ?_ | refine exo_f rfl ?_ | refine exo_t rfl ?_ | refine bt rfl ?_ | refine bf rfl ?_ | refine bof rfl ?_ | refine bot rfl ?_ | (with_reducible refine exb ?_) | refine And.intro (Nat.le_of_ble_eq_true rfl) ?_)))
local macro_rules | `(tactic| walk_at "pdE") => `(tactic| repeat' (first | (with_reducible (refine rd_I (C := CPow) (cpow_ok (by decide)) ?_)) | (first | refine rc_isiIJ (by first | assumption | rfl) ?_ | refine rc_isiBJ (by first | assumption | rfl) ?_ | refine rc_isiTJ (by first | assumption | rfl) ?_ | refine rc_isiSJ (by first | assumption | rfl) ?_ | refine rc_isiI (by first | assumption | rfl) ?_ | refine rc_isiB (by first | assumption | rfl) ?_ | refine rc_isiT (by first | assumption | rfl) ?_) | (first | refine ev_var rfl ?_ | refine rd_I0 ?_ | refine rd_I0b ?_ | refine ru_I ?_ | refine rd_isN ?_ | refine rd_notN ?_ | refine rd_ixT (j := 0) rfl rfl ?_ | refine rd_ixT (j := 1) rfl rfl ?_ | refine rd_ixL (j := 0) rfl rfl ?_ | refine rd_ixL (j := 1) rfl rfl ?_ | refine rd_I ?_ ?_) | (first | refine exb_t rfl ?_ | refine exb_f rfl ?_ | refine exo_f rfl ?_ | refine exo_t rfl ?_ | refine bt rfl ?_ | refine bf rfl ?_ | refine bof rfl ?_ | refine bot rfl ?_ | (with_reducible refine exb ?_) | refine And.intro (Nat.le_of_ble_eq_true rfl) ?_) | with_reducible (first | refine ev_op ?_ | refine ev_int ?_ | refine ev_bl ?_ | refine ev_tup ?_ | refine ea_nil ?_ | refine ea_cons ?_)))
abbrev s__law_state : Stmt := Hd.tS 30
theorem sc__law_state : FnScope ["script", "turn"] ["script", "turn"] (defScope s__law_state) := ⟨rfl, rfl, rfl, by decide +kernel, rfl, by decide +kernel, by decide +kernel⟩
abbrev s__law_mixed : Stmt := Hd.tS 31
theorem sc__law_mixed : FnScope ["number", "more"] ["number", "more"] (defScope s__law_mixed) := ⟨rfl, rfl, rfl, by decide +kernel, rfl, by decide +kernel, by decide +kernel⟩
abbrev s__law_draw : Stmt := Hd.tS 32
theorem sc__law_draw : FnScope ["state", "many", "taken", "found"] ["state", "many"] (defScope s__law_draw) := ⟨rfl, rfl, rfl, by decide +kernel, rfl, by decide +kernel, by decide +kernel⟩
abbrev s__law_value : Stmt := Hd.tS 33
theorem sc__law_value : FnScope ["state", "number", "values"] ["state"] (defScope s__law_value) := ⟨rfl, rfl, rfl, by decide +kernel, rfl, by decide +kernel, by decide +kernel⟩
abbrev s_BadGrid___init__ : Stmt := L2.inClass (Hd.tS 7) 0
theorem sc_BadGrid___init__ : FnScope ["self", "part"] ["self", "part"] (defScope s_BadGrid___init__) := ⟨rfl, rfl, rfl, by decide +kernel, rfl, by decide +kernel, by decide +kernel⟩
abbrev s_BadScript___init__ : Stmt := L2.inClass (Hd.tS 10) 0
theorem sc_BadScript___init__ : FnScope ["self", "part"] ["self", "part"] (defScope s_BadScript___init__) := ⟨rfl, rfl, rfl, by decide +kernel, rfl, by decide +kernel, by decide +kernel⟩
abbrev s_TooMany___init__ : Stmt := L2.inClass (Hd.tS 16) 0
theorem sc_TooMany___init__ : FnScope ["self", "most"] ["self", "most"] (defScope s_TooMany___init__) := ⟨rfl, rfl, rfl, by decide +kernel, rfl, by decide +kernel, by decide +kernel⟩
abbrev s_TooLong___init__ : Stmt := L2.inClass (Hd.tS 17) 0
theorem sc_TooLong___init__ : FnScope ["self", "most"] ["self", "most"] (defScope s_TooLong___init__) := ⟨rfl, rfl, rfl, by decide +kernel, rfl, by decide +kernel, by decide +kernel⟩
abbrev s_BadLine___init__ : Stmt := L2.inClass (Hd.tS 23) 0
theorem sc_BadLine___init__ : FnScope ["self", "place"] ["self", "place"] (defScope s_BadLine___init__) := ⟨rfl, rfl, rfl, by decide +kernel, rfl, by decide +kernel, by decide +kernel⟩
abbrev s_Unknown___init__ : Stmt := L2.inClass (Hd.tS 28) 0
theorem sc_Unknown___init__ : FnScope ["self", "name"] ["self", "name"] (defScope s_Unknown___init__) := ⟨rfl, rfl, rfl, by decide +kernel, rfl, by decide +kernel, by decide +kernel⟩
abbrev s_GridError___init__ : Stmt := L2.inClass (Hd.tS 1) 0
theorem sc_GridError___init__ : FnScope ["self"] ["self"] (defScope s_GridError___init__) := ⟨rfl, rfl, rfl, by decide +kernel, rfl, by decide +kernel, by decide +kernel⟩
abbrev s__law_made : Stmt := Hd.tS 34
theorem sc__law_made : FnScope ["value", "first", "second", "third"] ["value"] (defScope s__law_made) := ⟨rfl, rfl, rfl, by decide +kernel, rfl, by decide +kernel, by decide +kernel⟩
abbrev s__law_classes : Stmt := Hd.tS 35
theorem sc__law_classes : FnScope ["e", "first", "second", "third", "fourth", "fifth", "sixth"] ["e"] (defScope s__law_classes) := ⟨rfl, rfl, rfl, by decide +kernel, rfl, by decide +kernel, by decide +kernel⟩
abbrev s__law_alike : Stmt := Hd.tS 37
theorem sc__law_alike : FnScope ["one", "other"] ["one", "other"] (defScope s__law_alike) := ⟨rfl, rfl, rfl, by decide +kernel, rfl, by decide +kernel, by decide +kernel⟩
abbrev s__law_kept : Stmt := Hd.tS 36
theorem sc__law_kept : FnScope ["made"] ["made"] (defScope s__law_kept) := ⟨rfl, rfl, rfl, by decide +kernel, rfl, by decide +kernel, by decide +kernel⟩
abbrev s_law : Stmt := Hd.tS 38
theorem sc_law : FnScope ["script", "state", "value", "made", "k", "one", "other"] ["script"] (defScope s_law) := ⟨rfl, rfl, rfl, by decide +kernel, rfl, by decide +kernel, by decide +kernel⟩
structure Txt (K : PySem.W.Frag) (mg : Str → Option Value) where
  D__law_state : DefT K mg "_law_state" s__law_state ["script", "turn"]
  D__law_mixed : DefT K mg "_law_mixed" s__law_mixed ["number", "more"]
  D__law_draw : DefT K mg "_law_draw" s__law_draw ["state", "many"]
  D__law_value : DefT K mg "_law_value" s__law_value ["state"]
  D_BadGrid___init__ : DefM K "__init__" "BadGrid.__init__" s_BadGrid___init__ ["self", "part"]
  D_BadScript___init__ : DefM K "__init__" "BadScript.__init__" s_BadScript___init__ ["self", "part"]
  D_TooMany___init__ : DefM K "__init__" "TooMany.__init__" s_TooMany___init__ ["self", "most"]
  D_TooLong___init__ : DefM K "__init__" "TooLong.__init__" s_TooLong___init__ ["self", "most"]
  D_BadLine___init__ : DefM K "__init__" "BadLine.__init__" s_BadLine___init__ ["self", "place"]
  D_Unknown___init__ : DefM K "__init__" "Unknown.__init__" s_Unknown___init__ ["self", "name"]
  D_GridError___init__ : DefM K "__init__" "GridError.__init__" s_GridError___init__ ["self"]
  D__law_made : DefT K mg "_law_made" s__law_made ["value"]
  D__law_classes : DefT K mg "_law_classes" s__law_classes ["e"]
  D__law_alike : DefT K mg "_law_alike" s__law_alike ["one", "other"]
  D__law_kept : DefT K mg "_law_kept" s__law_kept ["made"]
  D_law : DefT K mg "law" s_law ["script"]
  ty_BadGrid___init__ : PySem.W.typeIn K (.ref D_BadGrid___init__.f) = some (.type "function")
  ty_BadScript___init__ : PySem.W.typeIn K (.ref D_BadScript___init__.f) = some (.type "function")
  ty_TooMany___init__ : PySem.W.typeIn K (.ref D_TooMany___init__.f) = some (.type "function")
  ty_TooLong___init__ : PySem.W.typeIn K (.ref D_TooLong___init__.f) = some (.type "function")
  ty_BadLine___init__ : PySem.W.typeIn K (.ref D_BadLine___init__.f) = some (.type "function")
  ty_Unknown___init__ : PySem.W.typeIn K (.ref D_Unknown___init__.f) = some (.type "function")
  ty_GridError___init__ : PySem.W.typeIn K (.ref D_GridError___init__.f) = some (.type "function")
  x_GridError : ExcT K mg "GridError" D_GridError___init__.f
  x_NoUnit : ExcT K mg "NoUnit" D_GridError___init__.f
  x_OtherBases : ExcT K mg "OtherBases" D_GridError___init__.f
  x_NoFraction : ExcT K mg "NoFraction" D_GridError___init__.f
  x_NoRoots : ExcT K mg "NoRoots" D_GridError___init__.f
  x_NoScale : ExcT K mg "NoScale" D_GridError___init__.f
  x_BadGrid : ExcT K mg "BadGrid" D_BadGrid___init__.f
  x_NoCell : ExcT K mg "NoCell" D_GridError___init__.f
  x_NoNumbers : ExcT K mg "NoNumbers" D_GridError___init__.f
  x_BadScript : ExcT K mg "BadScript" D_BadScript___init__.f
  x_NoGrid : ExcT K mg "NoGrid" D_GridError___init__.f
  x_NoOrder : ExcT K mg "NoOrder" D_GridError___init__.f
  x_NoValues : ExcT K mg "NoValues" D_GridError___init__.f
  x_NoWay : ExcT K mg "NoWay" D_GridError___init__.f
  x_NoNumber : ExcT K mg "NoNumber" D_GridError___init__.f
  x_TooMany : ExcT K mg "TooMany" D_TooMany___init__.f
  x_TooLong : ExcT K mg "TooLong" D_TooLong___init__.f
  x_NoParting : ExcT K mg "NoParting" D_GridError___init__.f
  x_NotSquare : ExcT K mg "NotSquare" D_GridError___init__.f
  x_NoSquare : ExcT K mg "NoSquare" D_GridError___init__.f
  x_NoPlacing : ExcT K mg "NoPlacing" D_GridError___init__.f
  x_NoRight : ExcT K mg "NoRight" D_GridError___init__.f
  x_BadLine : ExcT K mg "BadLine" D_BadLine___init__.f
  x_NoAnswer : ExcT K mg "NoAnswer" D_GridError___init__.f
  x_NoText : ExcT K mg "NoText" D_GridError___init__.f
  x_NothingDone : ExcT K mg "NothingDone" D_GridError___init__.f
  x_NoLine : ExcT K mg "NoLine" D_GridError___init__.f
  x_Unknown : ExcT K mg "Unknown" D_Unknown___init__.f
  xf_BadGrid : XfC K x_BadGrid.C
  xf_BadLine : XfC K x_BadLine.C
  xf_BadScript : XfC K x_BadScript.C
  xf_TooLong : XfC K x_TooLong.C
  xf_TooMany : XfC K x_TooMany.C
  xf_Unknown : XfC K x_Unknown.C
  nx_BadGrid_part : PySem.W.findIn K (.ref x_BadGrid.C) "part" = some none
  nx_BadLine_place : PySem.W.findIn K (.ref x_BadLine.C) "place" = some none
  nx_BadScript_part : PySem.W.findIn K (.ref x_BadScript.C) "part" = some none
  nx_TooLong_most : PySem.W.findIn K (.ref x_TooLong.C) "most" = some none
  nx_TooMany_most : PySem.W.findIn K (.ref x_TooMany.C) "most" = some none
  nx_Unknown_name : PySem.W.findIn K (.ref x_Unknown.C) "name" = some none
  xcs : XcK K x_GridError.C [x_BadGrid.C, x_BadScript.C, x_TooMany.C, x_TooLong.C, x_BadLine.C, x_Unknown.C, x_NoUnit.C, x_OtherBases.C, x_NoFraction.C, x_NoRoots.C, x_NoScale.C, x_NoCell.C, x_NoNumbers.C, x_NoGrid.C, x_NoOrder.C, x_NoValues.C, x_NoWay.C, x_NoNumber.C, x_NoParting.C, x_NotSquare.C, x_NoSquare.C, x_NoPlacing.C, x_NoRight.C, x_NoAnswer.C, x_NoText.C, x_NothingDone.C, x_NoLine.C]
  v_VE : PySem.W.findCls K (.type "ValueError") (.type "type") "__init__" = some (.val (.builtin "ValueError.__init__"))
  n_ValueError : mg "ValueError" = none
  n_all : mg "all" = none
  n_int : mg "int" = none
  n_isinstance : mg "isinstance" = none
  n_len : mg "len" = none
  n_list : mg "list" = none
  n_range : mg "range" = none
  n_repr : mg "repr" = none
def csT {K : PySem.W.Frag} {mg : Str → Option Value} (T : Txt K mg) : List Addr := [T.x_BadGrid.C, T.x_BadScript.C, T.x_TooMany.C, T.x_TooLong.C, T.x_BadLine.C, T.x_Unknown.C, T.x_NoUnit.C, T.x_OtherBases.C, T.x_NoFraction.C, T.x_NoRoots.C, T.x_NoScale.C, T.x_NoCell.C, T.x_NoNumbers.C, T.x_NoGrid.C, T.x_NoOrder.C, T.x_NoValues.C, T.x_NoWay.C, T.x_NoNumber.C, T.x_NoParting.C, T.x_NotSquare.C, T.x_NoSquare.C, T.x_NoPlacing.C, T.x_NoRight.C, T.x_NoAnswer.C, T.x_NoText.C, T.x_NothingDone.C, T.x_NoLine.C]
def fssD (v : D) : List (List Str × List D) := [(["part"], [v]), (["part"], [v]), (["most"], [v]), (["most"], [v]), (["place"], [v]), (["name"], [v]), ([], []), ([], []), ([], []), ([], []), ([], []), ([], []), ([], []), ([], []), ([], []), ([], []), ([], []), ([], []), ([], []), ([], []), ([], []), ([], []), ([], []), ([], []), ([], []), ([], []), ([], [])]
def xobsD {K : PySem.W.Frag} {mg : Str → Option Value} (T : Txt K mg) (v : D) : List D := List.zipWith (fun C f => .xob C f.1 f.2) (csT T) (fssD v)
theorem xobs_len {K : PySem.W.Frag} {mg : Str → Option Value} (T : Txt K mg) (v : D) : (xobsD T v).length = 27 := rfl
theorem xobs_get {K : PySem.W.Frag} {mg : Str → Option Value} (T : Txt K mg) (v : D) {k : Nat} (hk : k < 27) : ∃ C ns es, (xobsD T v)[k]? = some (.xob C ns es) ∧ (csT T)[k]? = some C := by
  have h1 : k < (csT T).length := hk
  have h2 : k < (fssD v).length := hk
  exact ⟨_, _, _, by unfold xobsD; rw [List.getElem?_zipWith, List.getElem?_eq_getElem h1, List.getElem?_eq_getElem h2], List.getElem?_eq_getElem h1⟩
/-- just its own place -/
theorem own_place {K : PySem.W.Frag} {mg : Str → Option Value} (T : Txt K mg) {k : Nat} {C : Addr} (hC : (csT T)[k]? = some C) : ((csT T).map fun B => D.bl (C == B)) = (List.range 27).map fun i => D.bl (decide (i = k)) := by
  have n : (csT T).Nodup := T.xcs.n
  have hl : (csT T).length = 27 := rfl
  refine List.ext_getElem (by rw [List.length_map, List.length_map, hl, List.length_range]) fun i h1 h2 => ?_
  rw [List.length_map] at h1
  obtain ⟨hk, e⟩ := List.getElem?_eq_some_iff.mp hC
  rw [List.getElem_map, List.getElem_map, List.getElem_range]
  congr 1
  rw [← e, Bool.eq_iff_iff, beq_iff_eq, decide_eq_true_eq]
  refine ⟨fun z => ?_, fun z => by subst z; rfl⟩
  rcases Nat.lt_trichotomy i k with h | h | h
  · exact absurd z.symm (List.pairwise_iff_getElem.mp n i k h1 hk h)
  · exact h
  · exact absurd z (List.pairwise_iff_getElem.mp n k i hk h1 h)
theorem fine_places : ∀ k : Nat, k < 27 → (D.lst ((List.range 27).map fun i => D.bl (decide (i = k)))).fine = true := by decide +kernel
section
variable {Pg : Program} {w : World} {K : PySem.W.Frag} {mg : Str → Option Value} {base : Heap}
theorem ok__law_state (T : Txt K mg) : FnOk Pg w K mg base CX0 1 T.D__law_state.f T.D__law_state.d ["script", "turn"] (spState K) := by
  refine T.D__law_state.F.ok (k := 0) sc__law_state (fun vs H Q E h => by obtain ⟨_, _, _, rfl, _⟩ := h; rfl) (fun cdv A outer s H vs Q E hr h => ?_)
  refine ⟨_, (pss_one (ps_ret (pe_lst (pa_cons (pe_callTy (call_list_ofK (K := K) rfl) (by rfl) T.n_list (by decide +kernel) (pa_cons (pv 0) pa_nil)) (pa_cons pe_int (pa_cons pe_int (pa_cons (pe_op (op_plusK (K := K) rfl) pe_int (pv 1)) pa_nil))))))), ?_⟩
  try dsimp only [cxOf, Cx.blk, Cx.nox, Cx.wish]
  obtain ⟨a, ns, t, rfl, hS, hl, h0, h1, q⟩ := h
  refine ⟨.ref a, rfl, a, _, rfl, .inl hS, fun b hb => ?_⟩
  refine ⟨.int t, rfl, .inl ⟨1, t, rfl, rfl, ?_⟩⟩
  refine ⟨by show 4 ≤ sizeLine; decide, fun s hs => ?_⟩
  have hbs : b ≠ s := ne_of_none (upd_same (H := H) (a := b) (o := .lst (ns.map V.int))) hs
  have hs0 : H s = none := by
    rw [upd_ne hbs.symm] at hs
    exact hs
  refine q _ s b (fun x o hx => ?_) hs0 hbs upd_same ?_
  · rw [upd_ne (ne_of_none hx hs0), upd_ne (ne_of_none hx hb)]
    exact hx
  · rw [upd_ne hbs]
    exact upd_same
def F__law_mixed : FD := fun ds P => ∃ a b : Int, ds = [.int a, .int b] ∧ 0 ≤ a ∧ a < 2147483647 ∧ ∀ r, 0 ≤ r → r < 2147483399 → P (.int r)
theorem len__law_mixed : ∀ ds P, F__law_mixed ds P → ds.length = 2 := by (intro ds P h; first | exact h | (obtain ⟨_, rfl, _⟩ := h; rfl) | (obtain ⟨_, _, rfl, _⟩ := h; rfl) | (obtain ⟨_, _, _, rfl, _⟩ := h; rfl) | (obtain ⟨_, _, _, _, rfl, _⟩ := h; rfl) | (obtain ⟨_, _, _, _, _, rfl, _⟩ := h; rfl) | (obtain ⟨_, _, _, _, _, _, rfl, _⟩ := h; rfl) | (obtain ⟨_, _, _, _, _, _, _, rfl, _⟩ := h; rfl) | (obtain ⟨_, _, _, _, _, _, _, _, rfl, _⟩ := h; rfl) | (obtain ⟨_, _, _, _, _, _, _, _, _, rfl, _⟩ := h; rfl) | (obtain ⟨_, _, _, _, _, _, _, _, _, _, rfl, _⟩ := h; rfl) | (obtain ⟨_, _, _, _, _, _, _, _, _, _, _, rfl, _⟩ := h; rfl) | (obtain ⟨_, _, _, _, _, _, _, _, _, _, _, _, rfl, _⟩ := h; rfl) | (obtain ⟨_, _, _, _, _, _, _, _, _, _, _, _, _, rfl, _⟩ := h; rfl) | (obtain ⟨_, _, _, _, _, _, _, _, _, _, _, _, _, rfl, _⟩ := h; rfl) | (obtain ⟨_, _, _, _, _, _, _, _, _, _, _, _, _, _, rfl, _⟩ := h; rfl) | (obtain ⟨_, _, _, _, _, _, _, _, _, _, _, _, _, _, _, rfl, _⟩ := h; rfl) | (obtain ⟨_, _, _, _, _, _, _, _, _, _, _, _, _, _, _, _, rfl, _⟩ := h; rfl) | (obtain ⟨_, _, _, _, _, _, _, _, _, _, _, _, _, _, _, _, _, rfl, _⟩ := h; rfl) | (obtain ⟨_, _, _, _, _, _, _, _, _, _, _, _, _, _, _, _, _, _, rfl, _⟩ := h; rfl) | (obtain ⟨_, _, _, _, _, _, _, _, _, _, _, _, _, _, _, _, _, _, _, rfl, _⟩ := h; rfl) | (obtain ⟨_, _, _, _, _, _, _, _, _, _, _, _, _, _, _, _, _, _, _, _, rfl, _⟩ := h; rfl) | (obtain ⟨_, _, _, _, _, _, _, _, _, _, _, _, _, _, _, _, _, _, _, _, _, rfl, _⟩ := h; rfl) | (obtain ⟨rfl, _⟩ := h; rfl))
theorem ok__law_mixed (T : Txt K mg) : FnOk Pg w K mg base CX0 1 T.D__law_mixed.f T.D__law_mixed.d ["number", "more"] ((spD K F__law_mixed)) := by
  refine T.D__law_mixed.F.ok (k := 0) sc__law_mixed (spD_len (len__law_mixed)) (fun cdv A outer s H vs Q E hr h => ?_)
  refine ⟨_, (pss_cons (ps_set (i := 0) sc__law_mixed.nd rfl (by first | exact Or.inl rfl | exact Or.inr rfl) (pe_op op_mod (pe_callTy call_int1 (by rfl) T.n_int (by decide +kernel) (pa_cons (pe_op (op_plusK (K := K) rfl) (pe_op (op_plusK (K := K) rfl) (pe_op op_mulW (pv 0) pe_int) (pe_op op_mulW (pe_op op_mod (pe_callTy call_int1 (by rfl) T.n_int (by decide +kernel) (pa_cons (pv 1) pa_nil)) pe_int) pe_int)) pe_int) pa_nil)) pe_int))
    (pss_cons (ps_set (i := 0) sc__law_mixed.nd rfl (by first | exact Or.inl rfl | exact Or.inr rfl) (pe_op op_mod (pe_callTy call_int1 (by rfl) T.n_int (by decide +kernel) (pa_cons (pe_op op_mulW (pv 0) (pe_op (op_plusK (K := K) rfl) (pe_op op_fdivW (pv 0) pe_int) pe_int)) pa_nil)) pe_int))
    (pss_one (ps_ret (pe_op op_mod (pe_callTy call_int1 (by rfl) T.n_int (by decide +kernel) (pa_cons (pe_op op_mulW (pv 0) (pe_op (op_plusK (K := K) rfl) (pe_op op_fdivW (pv 0) pe_int) pe_int)) pa_nil)) pe_int))))), ?_⟩
  try dsimp only [cxOf, Cx.blk, Cx.nox, Cx.wish]
  (refine body_of h fun W ds P eK f => ?_); subst eK
  obtain ⟨a, b, rfl, h0, h1, hP⟩ := f
  walk_at "pd"
  all_goals first | (refine mul_small ?_ ?_ ?_ ?_ <;> omega) | (refine div_small ?_ ?_ <;> omega) | decide | skip
  exact hP _ (Int.emod_nonneg _ (by decide)) (Int.emod_lt_of_pos _ (by decide))
def F__law_draw : FD := fun ds P => ∃ n : Int, ds = [.st, .int n] ∧ 0 < n ∧ n.natAbs < 2 ^ 8000 ∧ ∀ r, 0 ≤ r → r < n → P (.int r)
theorem draw_lit {n : Int} {P : D → Prop} (h : (decide (0 < n) && decide (n < 10 ^ 41)) = true) (hP : ∀ r, 0 ≤ r → r < n → P (.int r)) : F__law_draw [.st, .int n] P := by
  rw [Bool.and_eq_true] at h
  have h1 := of_decide_eq_true h.1
  have h2 := of_decide_eq_true h.2
  have h3 : n.natAbs < 2 ^ 140 := by
    have : ((10 : Int) ^ 41).natAbs < 2 ^ 140 := by decide
    omega
  exact ⟨n, rfl, h1, lt_pow h3 (by decide), hP⟩
theorem dr_ix {K : PySem.W.Frag} {σ : L2.St} {H : Hp} {p : Addr} {xs : List V} {te ti : TE} {k : Int} {v : V} (h0 : Evl.Ev te σ H (.ref p)) (h1 : Evl.Ev ti σ H (.int k)) (hs : H p = some (.lst xs)) (hv : atI xs k = some v) : Evl.Ev (tOp (rIx K) te ti) σ H v :=
  Evl.ev_op h0 h1 fun H1 e _ q => .inl ⟨p, xs, k, v, rfl, rfl, .inl (.inl (e _ _ hs)), hv, q H1 (Evl.Ex.refl H1)⟩
theorem dr_eq {K : PySem.W.Frag} {σ : L2.St} {H : Hp} {ta tb : TE} {i j : Int} (ha : Evl.Ev ta σ H (.int i)) (hb : Evl.Ev tb σ H (.int j)) : Evl.Ev (tOp (rEqD K) ta tb) σ H (.bl (decide (i = j))) :=
  Evl.ev_op ha hb fun H1 e _ q => ⟨.int i, .int j, .int i, .int j, by simp [SeqAt.shaped, PyData.canLay0, PyData.depth], by simp [SeqAt.shaped, PyData.canLay0, PyData.depth], by
    have h := q H1 (Evl.Ex.refl H1)
    simp only [PyData.eqv]
    exact h⟩
theorem dr_len {K : PySem.W.Frag} {σ : L2.St} {H : Hp} {te : TE} {p : Addr} {xs : List V} (h : Evl.Ev te σ H (.ref p)) (hs : H p = some (.lst xs)) :
    Evl.Ev (tCB (fun xs H Q => ∃ x n, xs = [x] ∧ LenV K x H n ∧ Q (.int n) H) (tCons te tNil)) σ H (.int (xs.length : Int)) := fun H1 e Q q =>
  h H1 e _ fun H2 e2 => ⟨_, _, rfl, .inl ⟨xs, .inl (.inl ((e.trans e2) _ _ hs)), rfl⟩, q H2 e2⟩
theorem dr_plus {K : PySem.W.Frag} {σ : L2.St} {H : Hp} {ta tb : TE} {i j : Int} (ha : Evl.Ev ta σ H (.int i)) (hb : Evl.Ev tb σ H (.int j)) : Evl.Ev (tOp (rPlus K) ta tb) σ H (.int (i + j)) :=
  Evl.ev_op ha hb fun H1 _ _ q => .inl ⟨i, j, rfl, rfl, q H1 (Evl.Ex.refl H1)⟩
theorem dr_int {σ : L2.St} {H : Hp} {te : TE} {i : Int} (h : Evl.Ev te σ H (.int i)) : Evl.Ev (tCB (fun xs H Q => (∃ i, xs = [.int i] ∧ Q (.int i) H) ∨ ∃ k, xs = [.bl k] ∧ Q (.int (if k then 1 else 0)) H) (tCons te tNil)) σ H (.int i) := fun H1 e _ q =>
  h H1 e _ fun H2 e2 => .inl ⟨i, rfl, q H2 e2⟩
/-- what a draw knows of the heap: entered at H0 -/
structure DrS (W : Wd) (H0 : Hp) (s : Addr) (ns : List Int) (H : Hp) (i c m : Int) : Prop where
  k : Keep W H0 H
  hs : H s = some (.lst [.ref W.b, .int i, .int c, .int m])
  hb : H W.b = some (.lst (ns.map V.int))
  i0 : 0 ≤ i
  i1 : i ≤ 100
  c0 : 0 ≤ c
  m0 : 0 ≤ m
  m1 : m < 2147483647
theorem DrS.ex {W : Wd} {H0 H H' : Hp} {s : Addr} {ns : List Int} {i c m : Int} (d : DrS W H0 s ns H i c m) (e : Evl.Ex H H') : DrS W H0 s ns H' i c m :=
  ⟨d.k.trans fun a o _ h => e a o h, e _ _ d.hs, e _ _ d.hb, d.i0, d.i1, d.c0, d.m0, d.m1⟩
theorem DrS.set {W : Wd} {H0 H : Hp} {s : Addr} {ns : List Int} {i c m i' c' m' : Int} (d : DrS W H0 s ns H i c m) (hW : W.s = some s) (hne : W.b ≠ s) (h1 : 0 ≤ i') (h2 : i' ≤ 100) (h3 : 0 ≤ c') (h4 : 0 ≤ m') (h5 : m' < 2147483647) :
    DrS W H0 s ns (upd H s (.lst [.ref W.b, .int i', .int c', .int m'])) i' c' m' :=
  ⟨fun a o n h => by
    have e : a ≠ s := fun z => n (by rw [z]; exact hW)
    rw [upd_ne e]
    exact d.k a o n h, upd_same, by rw [upd_ne hne]; exact d.hb, h1, h2, h3, h4, h5⟩
theorem seq_tail {t u : TS} {D : Ends} {σ : L2.St} {H : Hp} (Mid : L2.St → Hp → Prop) (tail : ∀ σ' H', Mid σ' H' → u D σ' H') (main : (∀ σ' H', Mid σ' H' → u D σ' H') → tSeq t u D σ H) : tSeq t u D σ H := main tail
theorem len__law_draw : ∀ ds P, F__law_draw ds P → ds.length = 2 := by (intro ds P h; first | exact h | (obtain ⟨_, rfl, _⟩ := h; rfl) | (obtain ⟨_, _, rfl, _⟩ := h; rfl) | (obtain ⟨_, _, _, rfl, _⟩ := h; rfl) | (obtain ⟨_, _, _, _, rfl, _⟩ := h; rfl) | (obtain ⟨_, _, _, _, _, rfl, _⟩ := h; rfl) | (obtain ⟨_, _, _, _, _, _, rfl, _⟩ := h; rfl) | (obtain ⟨_, _, _, _, _, _, _, rfl, _⟩ := h; rfl) | (obtain ⟨_, _, _, _, _, _, _, _, rfl, _⟩ := h; rfl) | (obtain ⟨_, _, _, _, _, _, _, _, _, rfl, _⟩ := h; rfl) | (obtain ⟨_, _, _, _, _, _, _, _, _, _, rfl, _⟩ := h; rfl) | (obtain ⟨_, _, _, _, _, _, _, _, _, _, _, rfl, _⟩ := h; rfl) | (obtain ⟨_, _, _, _, _, _, _, _, _, _, _, _, rfl, _⟩ := h; rfl) | (obtain ⟨_, _, _, _, _, _, _, _, _, _, _, _, _, rfl, _⟩ := h; rfl) | (obtain ⟨_, _, _, _, _, _, _, _, _, _, _, _, _, rfl, _⟩ := h; rfl) | (obtain ⟨_, _, _, _, _, _, _, _, _, _, _, _, _, _, rfl, _⟩ := h; rfl) | (obtain ⟨_, _, _, _, _, _, _, _, _, _, _, _, _, _, _, rfl, _⟩ := h; rfl) | (obtain ⟨_, _, _, _, _, _, _, _, _, _, _, _, _, _, _, _, rfl, _⟩ := h; rfl) | (obtain ⟨_, _, _, _, _, _, _, _, _, _, _, _, _, _, _, _, _, rfl, _⟩ := h; rfl) | (obtain ⟨_, _, _, _, _, _, _, _, _, _, _, _, _, _, _, _, _, _, rfl, _⟩ := h; rfl) | (obtain ⟨_, _, _, _, _, _, _, _, _, _, _, _, _, _, _, _, _, _, _, rfl, _⟩ := h; rfl) | (obtain ⟨_, _, _, _, _, _, _, _, _, _, _, _, _, _, _, _, _, _, _, _, rfl, _⟩ := h; rfl) | (obtain ⟨_, _, _, _, _, _, _, _, _, _, _, _, _, _, _, _, _, _, _, _, _, rfl, _⟩ := h; rfl) | (obtain ⟨rfl, _⟩ := h; rfl))
theorem ok__law_draw (T : Txt K mg) : FnOk Pg w K mg base CX0 2 T.D__law_draw.f T.D__law_draw.d ["state", "many"] ((spD K F__law_draw)) := by
  have G__law_mixed := ok__law_mixed (Pg := Pg) (w := w) (base := base) T
  refine T.D__law_draw.F.ok (k := 1) sc__law_draw (spD_len (len__law_draw)) (fun cdv A outer s H vs Q E hr h => ?_)
  refine ⟨_, (pss_cons (ps_if (PW.pt (pw_and (pt_cmpR (op_eqDK (K := K) rfl (hr_u hr)) (pe_ix (ix_seqK (K := K) rfl) (pv 0) pe_int (fun _ _ => rfl)) pe_int (nomark _)) (pw_and1 (pt_cmpR op_lt (pe_ix (ix_seqK (K := K) rfl) (pv 0) pe_int (fun _ _ => rfl)) (pe_callB (call_lenK (K := K) rfl) (by rfl) T.n_len (by decide +kernel) (pa_cons (pe_ix (ix_seqK (K := K) rfl) (pv 0) pe_int (fun _ _ => rfl)) pa_nil)) (nomark _)))))
      (pss_cons (ps_set (i := 2) sc__law_draw.nd rfl (by first | exact Or.inl rfl | exact Or.inr rfl) (pe_ix (ix_seqK (K := K) rfl) (pe_ix (ix_seqK (K := K) rfl) (pv 0) pe_int (fun _ _ => rfl)) (pe_ix (ix_seqK (K := K) rfl) (pv 0) pe_int (fun _ _ => rfl)) (fun _ _ => rfl)))
    (pss_cons (ps_asg (pe_op (op_plusK (K := K) rfl) (pe_ix (ix_seqK (K := K) rfl) (pv 0) pe_int (fun _ _ => rfl)) pe_int) (pg_sub (pv 0) pe_int set_list))
    (pss_one (ps_if (pt_cmpR op_ge (pv 2) (pe_op op_pow pe_int pe_int) (nomark _))
      (pss_one (ps_asg (pv 2) (pg_sub (pv 0) pe_int set_list)))
      (pss_one (ps_asg (pe_call G__law_mixed (hr.mono (by decide)) (by rfl) T.D__law_mixed.g T.D__law_mixed.F.kp T.D__law_mixed.b .nil pass0 (pa_cons (pe_ix (ix_seqK (K := K) rfl) (pv 0) pe_int (fun _ _ => rfl)) (pa_cons (pv 2) pa_nil))) (pg_sub (pv 0) pe_int set_list)))))))
      pss_nil)
    (pss_cons (ps_if (pt_cmpR op_gt (pe_ix (ix_seqK (K := K) rfl) (pv 0) pe_int (fun _ _ => rfl)) pe_int (nomark _))
      (pss_cons (ps_set (i := 3) sc__law_draw.nd rfl (by first | exact Or.inl rfl | exact Or.inr rfl) (pe_op op_mod (pe_callTy call_int1 (by rfl) T.n_int (by decide +kernel) (pa_cons (pe_ix (ix_seqK (K := K) rfl) (pv 0) pe_int (fun _ _ => rfl)) pa_nil)) (pv 1)))
    (pss_cons (ps_asg (pe_op op_fdivW (pe_ix (ix_seqK (K := K) rfl) (pv 0) pe_int (fun _ _ => rfl)) (pv 1)) (pg_sub (pv 0) pe_int set_list))
    (pss_one (ps_ret (pv 3)))))
      pss_nil)
    (pss_cons (ps_asg (pe_call G__law_mixed (hr.mono (by decide)) (by rfl) T.D__law_mixed.g T.D__law_mixed.F.kp T.D__law_mixed.b .nil pass0 (pa_cons (pe_ix (ix_seqK (K := K) rfl) (pv 0) pe_int (fun _ _ => rfl)) (pa_cons (pe_ix (ix_seqK (K := K) rfl) (pv 0) pe_int (fun _ _ => rfl)) pa_nil))) (pg_sub (pv 0) pe_int set_list))
    (pss_one (ps_ret (pe_op op_mod (pe_op op_fdivW (pe_callTy call_int1 (by rfl) T.n_int (by decide +kernel) (pa_cons (pe_ix (ix_seqK (K := K) rfl) (pv 0) pe_int (fun _ _ => rfl)) pa_nil)) pe_int) (pv 1))))))), ?_⟩
  try dsimp only [cxOf, Cx.blk, Cx.nox, Cx.wish]
  obtain ⟨W, M, ds, P, eK, wf, hr1, ⟨n, rfl, hn, hn2, hP⟩, q⟩ := h
  subst eK
  cases hr1 with
  | cons r1 r2 =>
  cases r2 with
  | cons r2 r3 =>
  cases r3
  cases r2
  cases r1 with
  | @st s hW =>
  obtain ⟨ns, i, c, m, hs, hne, hb, i0, i1, hl, c0, m0, m1⟩ := wf.g s hW
  have dS : DrS W H s ns H i c m := ⟨Keep.refl H, hs, hb, i0, i1, c0, m0, m1⟩
  have ok : ∀ {H' : Hp} {i c m : Int}, DrS W H s ns H' i c m → ∀ r, 0 ≤ r → r < n → Q (.int r) H' := fun {H' i c m} d r h0 h1 => q (.int r) (.int r) H' (fun s' e => by
    have e2 : s' = s := Option.some.inj (e.symm.trans hW)
    subst e2
    exact ⟨ns, i, c, m, d.hs, hne, d.hb, d.i0, d.i1, hl, d.c0, d.m0, d.m1⟩) d.k (.int r) (hP r h0 h1)
  -- state[k] = the mix
  have mix : ∀ {σ : L2.St} {H' : Hp} {ta : TA} {E : XK} {i c m b : Int} {D : Ends}, DrS W H s ns H' i c m → σ[0]? = some (some (.ref s)) → Evl.EvA ta σ H' [.int m, .int b] →
      (∀ H2 m', DrS W H s ns H2 i c m' → D.nx σ H2) → tAsg (tCall (spD W.K F__law_mixed) [] E ta) (gSub (tVar 0) (tC (.int 3)) rSetL) D σ H' := fun {σ H' ta E i c m b D} d hσ ha hk =>
    ha H' (Evl.Ex.refl _) _ fun H1 e1 => ⟨⟨W.K, none, 0⟩, fun _ => False, [.int m, .int b], fun x => ∃ r, x = .int r ∧ 0 ≤ r ∧ r < 2147483399, rfl, ⟨fun _ z => (by cases z), fun _ z => (by cases z), fun _ z => False.elim z⟩, .cons (.int _) (.cons (.int _) .nil),
      ⟨m, b, rfl, d.m0, d.m1, fun r h0 h1 => ⟨r, rfl, h0, h1⟩⟩, fun v x H2 _ k2 rx hx => by
        obtain ⟨r, rfl, h0, h1⟩ := hx
        cases rx
        have e2 : Evl.Ex H1 H2 := fun a o h => k2 a o (by intro z; cases z) h
        have d2 := d.ex (e1.trans e2)
        exact ⟨.ref s, hσ, s, _, _, 3, rfl, rfl, d2.hs, rfl, hk _ _ (d2.set hW hne d2.i0 d2.i1 d2.c0 h0 (by omega))⟩⟩
  have at0 : ∀ {i c m : Int}, atI [V.ref W.b, .int i, .int c, .int m] 0 = some (.ref W.b) := atI_nat (j := 0) rfl
  have at1 : ∀ {i c m : Int}, atI [V.ref W.b, .int i, .int c, .int m] 1 = some (.int i) := atI_nat (j := 1) rfl
  have at2 : ∀ {i c m : Int}, atI [V.ref W.b, .int i, .int c, .int m] 2 = some (.int c) := atI_nat (j := 2) rfl
  have at3 : ∀ {i c m : Int}, atI [V.ref W.b, .int i, .int c, .int m] 3 = some (.int m) := atI_nat (j := 3) rfl
  have x0 : ∀ {σ : L2.St} {H' : Hp} {i c m : Int}, DrS W H s ns H' i c m → σ[0]? = some (some (.ref s)) → Evl.Ev (tOp (rIx W.K) (tVar 0) (tC (V.int 0))) σ H' (.ref W.b) := fun d h => dr_ix (Evl.ev_var h) Evl.ev_c d.hs at0
  have x1 : ∀ {σ : L2.St} {H' : Hp} {i c m : Int}, DrS W H s ns H' i c m → σ[0]? = some (some (.ref s)) → Evl.Ev (tOp (rIx W.K) (tVar 0) (tC (V.int 1))) σ H' (.int i) := fun d h => dr_ix (Evl.ev_var h) Evl.ev_c d.hs at1
  have x2 : ∀ {σ : L2.St} {H' : Hp} {i c m : Int}, DrS W H s ns H' i c m → σ[0]? = some (some (.ref s)) → Evl.Ev (tOp (rIx W.K) (tVar 0) (tC (V.int 2))) σ H' (.int c) := fun d h => dr_ix (Evl.ev_var h) Evl.ev_c d.hs at2
  have x3 : ∀ {σ : L2.St} {H' : Hp} {i c m : Int}, DrS W H s ns H' i c m → σ[0]? = some (some (.ref s)) → Evl.Ev (tOp (rIx W.K) (tVar 0) (tC (V.int 3))) σ H' (.int m) := fun d h => dr_ix (Evl.ev_var h) Evl.ev_c d.hs at3
  have put : ∀ {σ : L2.St} {H' : Hp} {i c m i' c' : Int} {k z : Int} {j : Nat} {te : TE} {D : Ends}, DrS W H s ns H' i c m → σ[0]? = some (some (.ref s)) → Evl.Ev te σ H' (.int z) → k = (j : Int) → j < 4 →
      [V.ref W.b, .int i, .int c, .int m].set j (.int z) = [V.ref W.b, .int i', .int c', .int m] → 0 ≤ i' → i' ≤ 100 → 0 ≤ c' → (∀ H2, DrS W H s ns H2 i' c' m → D.nx σ H2) →
      tAsg te (gSub (tVar 0) (tC (.int k)) rSetL) D σ H' := fun {σ H' i c m i' c' k z j te D} d hσ he hk hj hset h0 h1 h2 kk => by
    subst hk
    refine Evl.s_setL d.hs he (Evl.ev_var hσ) Evl.ev_c hj fun H2 e2 => ?_
    rw [hset]
    exact kk _ ((d.ex e2).set hW hne h0 h1 h2 d.m0 d.m1)
  refine seq_tail (fun σ H' => ∃ i c m, DrS W H s ns H' i c m ∧ σ[0]? = some (some (.ref s)) ∧ σ[1]? = some (some (.int n)) ∧ 3 < σ.length) ?_ (fun tail => ?_)
  · rintro σ H' ⟨i, c, m, d, hσ, hn1, hl4⟩
    refine Evl.q_when (D := { nx := fun x H' => Q V.non H', rt := Q }) (Evl.et_test (Evl.ev_op (x2 d hσ) Evl.ev_c Evl.rv_I0)) (fun hb1 H1 e1 => ?_) (fun hb1 H1 e1 => ?_)
    · have hc := of_decide_eq_true hb1
      have d1 := d.ex e1
      refine Evl.q_asg (Evl.ev_op (dr_int (x2 d1 hσ)) (Evl.ev_var hn1) (Evl.rv_I (C := fun _ j => 0 < j) hn)) fun H2 e2 => ?_
      have d2 := d1.ex e2
      have hσ2 : (σ.set 3 (some (V.int (c % n))))[0]? = some (some (.ref s)) := by rw [List.getElem?_set_ne (by decide)]; exact hσ
      have hn2' : (σ.set 3 (some (V.int (c % n))))[1]? = some (some (.int n)) := by rw [List.getElem?_set_ne (by decide)]; exact hn1
      have h3 : (σ.set 3 (some (V.int (c % n))))[3]? = some (some (.int (c % n))) := by rw [List.getElem?_set_self hl4]
      refine put (i' := i) (c' := c / n) (j := 2) d2 hσ2 (Evl.ev_op (x2 d2 hσ2) (Evl.ev_var hn2') (Evl.rv_I (div_ok hn hn2))) rfl (by decide) rfl d2.i0 d2.i1 (Int.ediv_nonneg d2.c0 (by omega)) fun H3 d3 => ?_
      exact Evl.s_ret (Evl.ev_var h3) fun H4 e4 => ok (d3.ex e4) _ (Int.emod_nonneg _ (by omega)) (Int.emod_lt_of_pos _ hn)
    · have d1 := d.ex e1
      refine mix d1 hσ (Evl.ea_cons (x3 d1 hσ) (Evl.ea_cons (x1 d1 hσ) Evl.ea_nil)) fun H2 m' d2 => ?_
      refine Evl.s_ret (Evl.ev_op (Evl.ev_op (dr_int (x3 d2 hσ)) Evl.ev_c (Evl.rv_I (div_small (by decide) (by decide)))) (Evl.ev_var hn1) (Evl.rv_I (C := fun _ j => 0 < j) hn)) fun H3 e3 => ?_
      exact ok (d2.ex e3) _ (Int.emod_nonneg _ (by omega)) (Int.emod_lt_of_pos _ hn)
  · refine Evl.q_when (D := { nx := fun x H' => Q V.non H', rt := Q }) (Evl.et_and (Evl.et_test (dr_eq (x2 dS rfl) Evl.ev_c)) (fun _ => Evl.et_test (Evl.ev_op (x1 dS rfl) (dr_len (x0 dS rfl) dS.hb) Evl.rv_I0))) (fun hb1 H1 e1 => ?_) (fun hb1 H1 e1 => tail _ _ ⟨_, _, _, dS.ex e1, rfl, rfl, by show 3 < 4; decide⟩)
    rw [Bool.and_eq_true] at hb1
    have hi := of_decide_eq_true hb1.2
    rw [List.length_map] at hi
    have d1 := dS.ex e1
    obtain ⟨j, rfl⟩ := Int.eq_ofNat_of_zero_le i0
    have hj : j < ns.length := by omega
    have hat : atI (ns.map V.int) (j : Int) = some (.int ns[j]) := atI_nat (by rw [List.getElem?_map, List.getElem?_eq_getElem hj]; rfl)
    refine Evl.q_asg (dr_ix (x0 d1 rfl) (x1 d1 rfl) d1.hb hat) fun H2 e2 => ?_
    have d2 := d1.ex e2
    refine put (i' := (j : Int) + 1) (c' := c) (j := 1) d2 rfl (dr_plus (x1 d2 rfl) Evl.ev_c) rfl (by decide) rfl (by omega) (by omega) d2.c0 fun H3 d3 => ?_
    refine Evl.s_if (Evl.et_test (Evl.ev_op (Evl.ev_var rfl) (Evl.ev_op Evl.ev_c Evl.ev_c (Evl.rv_I ⟨by decide, by decide, by decide⟩)) Evl.rv_I0)) (fun hb2 H4 e4 => ?_) (fun hb2 H4 e4 => ?_)
    · have ht := of_decide_eq_true hb2
      refine put (i' := (j : Int) + 1) (c' := ns[j]) (j := 2) (d3.ex e4) rfl (Evl.ev_var rfl) rfl (by decide) rfl (by omega) (by omega) (by
        have : (0 : Int) ≤ 10 ^ (18 : Int).toNat := by decide
        omega) fun H5 d5 => ?_
      exact tail _ _ ⟨_, _, _, d5, rfl, rfl, by show 3 < 4; decide⟩
    · have d4 := d3.ex e4
      refine mix d4 rfl (Evl.ea_cons (x3 d4 rfl) (Evl.ea_cons (Evl.ev_var rfl) Evl.ea_nil)) fun H5 m' d5 => ?_
      exact tail _ _ ⟨_, _, _, d5, rfl, rfl, by show 3 < 4; decide⟩
def F__law_value : FD := fun ds P => ds = [.st] ∧ ∀ d, ShD d → P d
theorem len__law_value : ∀ ds P, F__law_value ds P → ds.length = 1 := by (intro ds P h; first | exact h | (obtain ⟨_, rfl, _⟩ := h; rfl) | (obtain ⟨_, _, rfl, _⟩ := h; rfl) | (obtain ⟨_, _, _, rfl, _⟩ := h; rfl) | (obtain ⟨_, _, _, _, rfl, _⟩ := h; rfl) | (obtain ⟨_, _, _, _, _, rfl, _⟩ := h; rfl) | (obtain ⟨_, _, _, _, _, _, rfl, _⟩ := h; rfl) | (obtain ⟨_, _, _, _, _, _, _, rfl, _⟩ := h; rfl) | (obtain ⟨_, _, _, _, _, _, _, _, rfl, _⟩ := h; rfl) | (obtain ⟨_, _, _, _, _, _, _, _, _, rfl, _⟩ := h; rfl) | (obtain ⟨_, _, _, _, _, _, _, _, _, _, rfl, _⟩ := h; rfl) | (obtain ⟨_, _, _, _, _, _, _, _, _, _, _, rfl, _⟩ := h; rfl) | (obtain ⟨_, _, _, _, _, _, _, _, _, _, _, _, rfl, _⟩ := h; rfl) | (obtain ⟨_, _, _, _, _, _, _, _, _, _, _, _, _, rfl, _⟩ := h; rfl) | (obtain ⟨_, _, _, _, _, _, _, _, _, _, _, _, _, rfl, _⟩ := h; rfl) | (obtain ⟨_, _, _, _, _, _, _, _, _, _, _, _, _, _, rfl, _⟩ := h; rfl) | (obtain ⟨_, _, _, _, _, _, _, _, _, _, _, _, _, _, _, rfl, _⟩ := h; rfl) | (obtain ⟨_, _, _, _, _, _, _, _, _, _, _, _, _, _, _, _, rfl, _⟩ := h; rfl) | (obtain ⟨_, _, _, _, _, _, _, _, _, _, _, _, _, _, _, _, _, rfl, _⟩ := h; rfl) | (obtain ⟨_, _, _, _, _, _, _, _, _, _, _, _, _, _, _, _, _, _, rfl, _⟩ := h; rfl) | (obtain ⟨_, _, _, _, _, _, _, _, _, _, _, _, _, _, _, _, _, _, _, rfl, _⟩ := h; rfl) | (obtain ⟨_, _, _, _, _, _, _, _, _, _, _, _, _, _, _, _, _, _, _, _, rfl, _⟩ := h; rfl) | (obtain ⟨_, _, _, _, _, _, _, _, _, _, _, _, _, _, _, _, _, _, _, _, _, rfl, _⟩ := h; rfl) | (obtain ⟨rfl, _⟩ := h; rfl))
theorem ok__law_value (T : Txt K mg) : FnOk Pg w K mg base CX0 3 T.D__law_value.f T.D__law_value.d ["state"] ((spD K F__law_value)) := by
  have G__law_draw := ok__law_draw (Pg := Pg) (w := w) (base := base) T
  refine T.D__law_value.F.ok (k := 2) sc__law_value (spD_len (len__law_value)) (fun cdv A outer s H vs Q E hr h => ?_)
  refine ⟨_, (pss_cons (ps_set (i := 1) sc__law_value.nd rfl (by first | exact Or.inl rfl | exact Or.inr rfl) (pe_call G__law_draw (hr.mono (by decide)) (by rfl) T.D__law_draw.g T.D__law_draw.F.kp T.D__law_draw.b .nil pass0 (pa_cons (pv 0) (pa_cons (pe_op op_pow pe_int pe_int) pa_nil))))
    (pss_cons (ps_set (i := 2) sc__law_value.nd rfl (by first | exact Or.inl rfl | exact Or.inr rfl) (pe_lst (pa_cons (pv 1) (pa_cons (pe_un un_neg (pv 1)) (pa_cons (pe_op op_addTx pe_str (pe_op op_mulS pe_str (pe_op op_mod (pv 1) pe_int))) (pa_cons (pe_tup (pa_cons (pv 1) (pa_cons pe_int pa_nil))) (pa_cons (pe_lst (pa_cons (pv 1) pa_nil)) (pa_cons pe_non (pa_cons pe_bl (pa_cons pe_bl (pa_cons (pe_tup (pa_cons pe_str (pa_cons (pe_lst (pa_cons pe_int pa_nil)) pa_nil))) pa_nil)))))))))))
    (pss_one (ps_ret (pe_ix (ix_seqK (K := K) rfl) (pv 2) (pe_call G__law_draw (hr.mono (by decide)) (by rfl) T.D__law_draw.g T.D__law_draw.F.kp T.D__law_draw.b .nil pass0 (pa_cons (pv 0) (pa_cons pe_int pa_nil))) (fun _ _ => rfl)))))), ?_⟩
  try dsimp only [cxOf, Cx.blk, Cx.nox, Cx.wish]
  (refine body_of h fun W ds P eK f => ?_); subst eK
  obtain ⟨rfl, hP⟩ := f
  walk_at "pd"
  refine draw_lit (by decide +kernel) fun n n0 n1 => ?_
  obtain ⟨k, hk, ek⟩ : ∃ k : Nat, k < 5 ∧ n % 5 = (k : Int) := ⟨(n % 5).toNat, by omega, by omega⟩
  have hn : n.natAbs < 10 ^ 41 := by
    have e : (10 : Int) ^ Int.toNat 40 = 10000000000000000000000000000000000000000 := by decide
    rw [e] at n1
    omega
  have hn2 : (-n).natAbs < 10 ^ 41 := by
    rw [Int.natAbs_neg]
    exact hn
  walk_at "pd"
  · decide
  rw [ek]
  refine rd_mulS (mul_names k hk) ?_
  refine rd_addTx (len_names k hk) ?_
  walk_at "pd"
  refine draw_lit (by decide +kernel) fun r r0 r1 => ?_
  refine rd_ixLm r0 r1 fun d hd => hP d ?_
  simp only [List.mem_cons, List.not_mem_nil, or_false] at hd
  obtain ⟨s1, s2, s3, s4⟩ := sh_rest
  rcases hd with rfl | rfl | rfl | rfl | rfl | rfl | rfl | rfl | rfl
  · exact sh_int hn
  · exact sh_int hn2
  · exact sh_names k hk
  · exact sh_tup hn
  · exact sh_lst hn
  · exact s1
  · exact s2
  · exact s3
  · exact s4
theorem ok_BadGrid___init__ (T : Txt K mg) : FnOk Pg w K mg base CX0 1 T.D_BadGrid___init__.f T.D_BadGrid___init__.d ["self", "part"] (spI1 K "part") := by
  refine T.D_BadGrid___init__.F.ok (k := 0) sc_BadGrid___init__ (fun vs H Q E h => by obtain ⟨_, _, _, rfl, _⟩ := h; rfl) (fun cdv A outer s H vs Q E hr h => ?_)
  refine ⟨_, (pss_one (ps_ost (pv 0) (pv 1))), ?_⟩
  try dsimp only [cxOf, Cx.blk, Cx.nox, Cx.wish]
  obtain ⟨a, C, y, rfl, hC, hf, e, q⟩ := h
  refine ⟨y, rfl, .ref a, rfl, a, C, rfl, hC, hf, .inl ⟨e, fun dx h1 h2 => ?_⟩⟩
  exact q dx h1 h2
theorem ok_BadScript___init__ (T : Txt K mg) : FnOk Pg w K mg base CX0 1 T.D_BadScript___init__.f T.D_BadScript___init__.d ["self", "part"] (spI1 K "part") := by
  refine T.D_BadScript___init__.F.ok (k := 0) sc_BadScript___init__ (fun vs H Q E h => by obtain ⟨_, _, _, rfl, _⟩ := h; rfl) (fun cdv A outer s H vs Q E hr h => ?_)
  refine ⟨_, (pss_one (ps_ost (pv 0) (pv 1))), ?_⟩
  try dsimp only [cxOf, Cx.blk, Cx.nox, Cx.wish]
  obtain ⟨a, C, y, rfl, hC, hf, e, q⟩ := h
  refine ⟨y, rfl, .ref a, rfl, a, C, rfl, hC, hf, .inl ⟨e, fun dx h1 h2 => ?_⟩⟩
  exact q dx h1 h2
theorem ok_TooMany___init__ (T : Txt K mg) : FnOk Pg w K mg base CX0 1 T.D_TooMany___init__.f T.D_TooMany___init__.d ["self", "most"] (spI1 K "most") := by
  refine T.D_TooMany___init__.F.ok (k := 0) sc_TooMany___init__ (fun vs H Q E h => by obtain ⟨_, _, _, rfl, _⟩ := h; rfl) (fun cdv A outer s H vs Q E hr h => ?_)
  refine ⟨_, (pss_one (ps_ost (pv 0) (pv 1))), ?_⟩
  try dsimp only [cxOf, Cx.blk, Cx.nox, Cx.wish]
  obtain ⟨a, C, y, rfl, hC, hf, e, q⟩ := h
  refine ⟨y, rfl, .ref a, rfl, a, C, rfl, hC, hf, .inl ⟨e, fun dx h1 h2 => ?_⟩⟩
  exact q dx h1 h2
theorem ok_TooLong___init__ (T : Txt K mg) : FnOk Pg w K mg base CX0 1 T.D_TooLong___init__.f T.D_TooLong___init__.d ["self", "most"] (spI1 K "most") := by
  refine T.D_TooLong___init__.F.ok (k := 0) sc_TooLong___init__ (fun vs H Q E h => by obtain ⟨_, _, _, rfl, _⟩ := h; rfl) (fun cdv A outer s H vs Q E hr h => ?_)
  refine ⟨_, (pss_one (ps_ost (pv 0) (pv 1))), ?_⟩
  try dsimp only [cxOf, Cx.blk, Cx.nox, Cx.wish]
  obtain ⟨a, C, y, rfl, hC, hf, e, q⟩ := h
  refine ⟨y, rfl, .ref a, rfl, a, C, rfl, hC, hf, .inl ⟨e, fun dx h1 h2 => ?_⟩⟩
  exact q dx h1 h2
theorem ok_BadLine___init__ (T : Txt K mg) : FnOk Pg w K mg base CX0 1 T.D_BadLine___init__.f T.D_BadLine___init__.d ["self", "place"] (spI1 K "place") := by
  refine T.D_BadLine___init__.F.ok (k := 0) sc_BadLine___init__ (fun vs H Q E h => by obtain ⟨_, _, _, rfl, _⟩ := h; rfl) (fun cdv A outer s H vs Q E hr h => ?_)
  refine ⟨_, (pss_one (ps_ost (pv 0) (pv 1))), ?_⟩
  try dsimp only [cxOf, Cx.blk, Cx.nox, Cx.wish]
  obtain ⟨a, C, y, rfl, hC, hf, e, q⟩ := h
  refine ⟨y, rfl, .ref a, rfl, a, C, rfl, hC, hf, .inl ⟨e, fun dx h1 h2 => ?_⟩⟩
  exact q dx h1 h2
theorem ok_Unknown___init__ (T : Txt K mg) : FnOk Pg w K mg base CX0 1 T.D_Unknown___init__.f T.D_Unknown___init__.d ["self", "name"] (spI1 K "name") := by
  refine T.D_Unknown___init__.F.ok (k := 0) sc_Unknown___init__ (fun vs H Q E h => by obtain ⟨_, _, _, rfl, _⟩ := h; rfl) (fun cdv A outer s H vs Q E hr h => ?_)
  refine ⟨_, (pss_one (ps_ost (pv 0) (pv 1))), ?_⟩
  try dsimp only [cxOf, Cx.blk, Cx.nox, Cx.wish]
  obtain ⟨a, C, y, rfl, hC, hf, e, q⟩ := h
  refine ⟨y, rfl, .ref a, rfl, a, C, rfl, hC, hf, .inl ⟨e, fun dx h1 h2 => ?_⟩⟩
  exact q dx h1 h2
theorem ok_GridError___init__ (T : Txt K mg) : FnOk Pg w K mg base CX0 1 T.D_GridError___init__.f T.D_GridError___init__.d ["self"] (spI0 K) := by
  refine T.D_GridError___init__.F.ok (k := 0) sc_GridError___init__ (fun vs H Q E h => by obtain ⟨_, _, rfl, _⟩ := h; rfl) (fun cdv A outer s H vs Q E hr h => ?_)
  refine ⟨_, (pss_one (ps_expr (pe_veinit (by rfl) T.n_ValueError T.v_VE (pa_cons (pv 0) pa_nil)))), ?_⟩
  try dsimp only [cxOf, Cx.blk, Cx.nox, Cx.wish]
  exact init0_body h
def F__law_made {K : PySem.W.Frag} {mg : Str → Option Value} (T : Txt K mg) : FD := fun ds P => ∃ v, ds = [v] ∧ P (.lst (xobsD T v))
theorem len__law_made {K : PySem.W.Frag} {mg : Str → Option Value} (T : Txt K mg) : ∀ ds P, (F__law_made T) ds P → ds.length = 1 := by (intro ds P h; first | exact h | (obtain ⟨_, rfl, _⟩ := h; rfl) | (obtain ⟨_, _, rfl, _⟩ := h; rfl) | (obtain ⟨_, _, _, rfl, _⟩ := h; rfl) | (obtain ⟨_, _, _, _, rfl, _⟩ := h; rfl) | (obtain ⟨_, _, _, _, _, rfl, _⟩ := h; rfl) | (obtain ⟨_, _, _, _, _, _, rfl, _⟩ := h; rfl) | (obtain ⟨_, _, _, _, _, _, _, rfl, _⟩ := h; rfl) | (obtain ⟨_, _, _, _, _, _, _, _, rfl, _⟩ := h; rfl) | (obtain ⟨_, _, _, _, _, _, _, _, _, rfl, _⟩ := h; rfl) | (obtain ⟨_, _, _, _, _, _, _, _, _, _, rfl, _⟩ := h; rfl) | (obtain ⟨_, _, _, _, _, _, _, _, _, _, _, rfl, _⟩ := h; rfl) | (obtain ⟨_, _, _, _, _, _, _, _, _, _, _, _, rfl, _⟩ := h; rfl) | (obtain ⟨_, _, _, _, _, _, _, _, _, _, _, _, _, rfl, _⟩ := h; rfl) | (obtain ⟨_, _, _, _, _, _, _, _, _, _, _, _, _, rfl, _⟩ := h; rfl) | (obtain ⟨_, _, _, _, _, _, _, _, _, _, _, _, _, _, rfl, _⟩ := h; rfl) | (obtain ⟨_, _, _, _, _, _, _, _, _, _, _, _, _, _, _, rfl, _⟩ := h; rfl) | (obtain ⟨_, _, _, _, _, _, _, _, _, _, _, _, _, _, _, _, rfl, _⟩ := h; rfl) | (obtain ⟨_, _, _, _, _, _, _, _, _, _, _, _, _, _, _, _, _, rfl, _⟩ := h; rfl) | (obtain ⟨_, _, _, _, _, _, _, _, _, _, _, _, _, _, _, _, _, _, rfl, _⟩ := h; rfl) | (obtain ⟨_, _, _, _, _, _, _, _, _, _, _, _, _, _, _, _, _, _, _, rfl, _⟩ := h; rfl) | (obtain ⟨_, _, _, _, _, _, _, _, _, _, _, _, _, _, _, _, _, _, _, _, rfl, _⟩ := h; rfl) | (obtain ⟨_, _, _, _, _, _, _, _, _, _, _, _, _, _, _, _, _, _, _, _, _, rfl, _⟩ := h; rfl) | (obtain ⟨rfl, _⟩ := h; rfl))
theorem ok__law_made (T : Txt K mg) : FnOk Pg w K mg base CX0 3 T.D__law_made.f T.D__law_made.d ["value"] ((spD K (F__law_made T))) := by
  have G_BadGrid___init__ := ok_BadGrid___init__ (Pg := Pg) (w := w) (base := base) T
  have G_BadLine___init__ := ok_BadLine___init__ (Pg := Pg) (w := w) (base := base) T
  have G_BadScript___init__ := ok_BadScript___init__ (Pg := Pg) (w := w) (base := base) T
  have G_GridError___init__ := ok_GridError___init__ (Pg := Pg) (w := w) (base := base) T
  have G_TooLong___init__ := ok_TooLong___init__ (Pg := Pg) (w := w) (base := base) T
  have G_TooMany___init__ := ok_TooMany___init__ (Pg := Pg) (w := w) (base := base) T
  have G_Unknown___init__ := ok_Unknown___init__ (Pg := Pg) (w := w) (base := base) T
  refine T.D__law_made.F.ok (k := 2) sc__law_made (spD_len (len__law_made T)) (fun cdv A outer s H vs Q E hr h => ?_)
  refine ⟨_, (pss_cons (ps_set (i := 1) sc__law_made.nd rfl (by first | exact Or.inl rfl | exact Or.inr rfl) (pe_lst (pa_cons (pe_xob T.x_BadGrid.o T.x_BadGrid.i T.ty_BadGrid___init__ G_BadGrid___init__ (hr.mono (by decide)) T.D_BadGrid___init__.b pass0 (by rfl) T.x_BadGrid.g (pa_cons (pv 0) pa_nil)) (pa_cons (pe_xob T.x_BadScript.o T.x_BadScript.i T.ty_BadScript___init__ G_BadScript___init__ (hr.mono (by decide)) T.D_BadScript___init__.b pass0 (by rfl) T.x_BadScript.g (pa_cons (pv 0) pa_nil)) (pa_cons (pe_xob T.x_TooMany.o T.x_TooMany.i T.ty_TooMany___init__ G_TooMany___init__ (hr.mono (by decide)) T.D_TooMany___init__.b pass0 (by rfl) T.x_TooMany.g (pa_cons (pv 0) pa_nil)) (pa_cons (pe_xob T.x_TooLong.o T.x_TooLong.i T.ty_TooLong___init__ G_TooLong___init__ (hr.mono (by decide)) T.D_TooLong___init__.b pass0 (by rfl) T.x_TooLong.g (pa_cons (pv 0) pa_nil)) (pa_cons (pe_xob T.x_BadLine.o T.x_BadLine.i T.ty_BadLine___init__ G_BadLine___init__ (hr.mono (by decide)) T.D_BadLine___init__.b pass0 (by rfl) T.x_BadLine.g (pa_cons (pv 0) pa_nil)) (pa_cons (pe_xob T.x_Unknown.o T.x_Unknown.i T.ty_Unknown___init__ G_Unknown___init__ (hr.mono (by decide)) T.D_Unknown___init__.b pass0 (by rfl) T.x_Unknown.g (pa_cons (pv 0) pa_nil)) pa_nil))))))))
    (pss_cons (ps_set (i := 2) sc__law_made.nd rfl (by first | exact Or.inl rfl | exact Or.inr rfl) (pe_lst (pa_cons (pe_xob0 T.x_NoUnit.o T.x_NoUnit.i T.ty_GridError___init__ G_GridError___init__ (hr.mono (by decide)) T.D_GridError___init__.b pass0 (by rfl) T.x_NoUnit.g) (pa_cons (pe_xob0 T.x_OtherBases.o T.x_OtherBases.i T.ty_GridError___init__ G_GridError___init__ (hr.mono (by decide)) T.D_GridError___init__.b pass0 (by rfl) T.x_OtherBases.g) (pa_cons (pe_xob0 T.x_NoFraction.o T.x_NoFraction.i T.ty_GridError___init__ G_GridError___init__ (hr.mono (by decide)) T.D_GridError___init__.b pass0 (by rfl) T.x_NoFraction.g) (pa_cons (pe_xob0 T.x_NoRoots.o T.x_NoRoots.i T.ty_GridError___init__ G_GridError___init__ (hr.mono (by decide)) T.D_GridError___init__.b pass0 (by rfl) T.x_NoRoots.g) (pa_cons (pe_xob0 T.x_NoScale.o T.x_NoScale.i T.ty_GridError___init__ G_GridError___init__ (hr.mono (by decide)) T.D_GridError___init__.b pass0 (by rfl) T.x_NoScale.g) (pa_cons (pe_xob0 T.x_NoCell.o T.x_NoCell.i T.ty_GridError___init__ G_GridError___init__ (hr.mono (by decide)) T.D_GridError___init__.b pass0 (by rfl) T.x_NoCell.g) (pa_cons (pe_xob0 T.x_NoNumbers.o T.x_NoNumbers.i T.ty_GridError___init__ G_GridError___init__ (hr.mono (by decide)) T.D_GridError___init__.b pass0 (by rfl) T.x_NoNumbers.g) (pa_cons (pe_xob0 T.x_NoGrid.o T.x_NoGrid.i T.ty_GridError___init__ G_GridError___init__ (hr.mono (by decide)) T.D_GridError___init__.b pass0 (by rfl) T.x_NoGrid.g) (pa_cons (pe_xob0 T.x_NoOrder.o T.x_NoOrder.i T.ty_GridError___init__ G_GridError___init__ (hr.mono (by decide)) T.D_GridError___init__.b pass0 (by rfl) T.x_NoOrder.g) pa_nil)))))))))))
    (pss_cons (ps_set (i := 3) sc__law_made.nd rfl (by first | exact Or.inl rfl | exact Or.inr rfl) (pe_lst (pa_cons (pe_xob0 T.x_NoValues.o T.x_NoValues.i T.ty_GridError___init__ G_GridError___init__ (hr.mono (by decide)) T.D_GridError___init__.b pass0 (by rfl) T.x_NoValues.g) (pa_cons (pe_xob0 T.x_NoWay.o T.x_NoWay.i T.ty_GridError___init__ G_GridError___init__ (hr.mono (by decide)) T.D_GridError___init__.b pass0 (by rfl) T.x_NoWay.g) (pa_cons (pe_xob0 T.x_NoNumber.o T.x_NoNumber.i T.ty_GridError___init__ G_GridError___init__ (hr.mono (by decide)) T.D_GridError___init__.b pass0 (by rfl) T.x_NoNumber.g) (pa_cons (pe_xob0 T.x_NoParting.o T.x_NoParting.i T.ty_GridError___init__ G_GridError___init__ (hr.mono (by decide)) T.D_GridError___init__.b pass0 (by rfl) T.x_NoParting.g) (pa_cons (pe_xob0 T.x_NotSquare.o T.x_NotSquare.i T.ty_GridError___init__ G_GridError___init__ (hr.mono (by decide)) T.D_GridError___init__.b pass0 (by rfl) T.x_NotSquare.g) (pa_cons (pe_xob0 T.x_NoSquare.o T.x_NoSquare.i T.ty_GridError___init__ G_GridError___init__ (hr.mono (by decide)) T.D_GridError___init__.b pass0 (by rfl) T.x_NoSquare.g) (pa_cons (pe_xob0 T.x_NoPlacing.o T.x_NoPlacing.i T.ty_GridError___init__ G_GridError___init__ (hr.mono (by decide)) T.D_GridError___init__.b pass0 (by rfl) T.x_NoPlacing.g) (pa_cons (pe_xob0 T.x_NoRight.o T.x_NoRight.i T.ty_GridError___init__ G_GridError___init__ (hr.mono (by decide)) T.D_GridError___init__.b pass0 (by rfl) T.x_NoRight.g) pa_nil))))))))))
    (pss_one (ps_ret (pe_op (op_plusK (K := K) rfl) (pe_op (op_plusK (K := K) rfl) (pe_op (op_plusK (K := K) rfl) (pv 1) (pv 2)) (pv 3)) (pe_lst (pa_cons (pe_xob0 T.x_NoAnswer.o T.x_NoAnswer.i T.ty_GridError___init__ G_GridError___init__ (hr.mono (by decide)) T.D_GridError___init__.b pass0 (by rfl) T.x_NoAnswer.g) (pa_cons (pe_xob0 T.x_NoText.o T.x_NoText.i T.ty_GridError___init__ G_GridError___init__ (hr.mono (by decide)) T.D_GridError___init__.b pass0 (by rfl) T.x_NoText.g) (pa_cons (pe_xob0 T.x_NothingDone.o T.x_NothingDone.i T.ty_GridError___init__ G_GridError___init__ (hr.mono (by decide)) T.D_GridError___init__.b pass0 (by rfl) T.x_NothingDone.g) (pa_cons (pe_xob0 T.x_NoLine.o T.x_NoLine.i T.ty_GridError___init__ G_GridError___init__ (hr.mono (by decide)) T.D_GridError___init__.b pass0 (by rfl) T.x_NoLine.g) pa_nil))))))))))), ?_⟩
  try dsimp only [cxOf, Cx.blk, Cx.nox, Cx.wish]
  (refine body_of h fun W ds P eK f => ?_); subst eK
  obtain ⟨v, rfl, hP⟩ := f
  walk_at "pd"
  refine ev_xob1 T.x_BadGrid.o T.nx_BadGrid_part ?_
  walk_at "pd"
  refine ⟨_, rfl, ?_⟩
  walk_at "pd"
  refine ev_xob1 T.x_BadScript.o T.nx_BadScript_part ?_
  walk_at "pd"
  refine ⟨_, rfl, ?_⟩
  walk_at "pd"
  refine ev_xob1 T.x_TooMany.o T.nx_TooMany_most ?_
  walk_at "pd"
  refine ⟨_, rfl, ?_⟩
  walk_at "pd"
  refine ev_xob1 T.x_TooLong.o T.nx_TooLong_most ?_
  walk_at "pd"
  refine ⟨_, rfl, ?_⟩
  walk_at "pd"
  refine ev_xob1 T.x_BadLine.o T.nx_BadLine_place ?_
  walk_at "pd"
  refine ⟨_, rfl, ?_⟩
  walk_at "pd"
  refine ev_xob1 T.x_Unknown.o T.nx_Unknown_name ?_
  walk_at "pd"
  refine ⟨_, rfl, ?_⟩
  walk_at "pd"
  refine ev_xob0 T.x_NoUnit.o ?_
  walk_at "pd"
  refine ev_xob0 T.x_OtherBases.o ?_
  walk_at "pd"
  refine ev_xob0 T.x_NoFraction.o ?_
  walk_at "pd"
  refine ev_xob0 T.x_NoRoots.o ?_
  walk_at "pd"
  refine ev_xob0 T.x_NoScale.o ?_
  walk_at "pd"
  refine ev_xob0 T.x_NoCell.o ?_
  walk_at "pd"
  refine ev_xob0 T.x_NoNumbers.o ?_
  walk_at "pd"
  refine ev_xob0 T.x_NoGrid.o ?_
  walk_at "pd"
  refine ev_xob0 T.x_NoOrder.o ?_
  walk_at "pd"
  refine ev_xob0 T.x_NoValues.o ?_
  walk_at "pd"
  refine ev_xob0 T.x_NoWay.o ?_
  walk_at "pd"
  refine ev_xob0 T.x_NoNumber.o ?_
  walk_at "pd"
  refine ev_xob0 T.x_NoParting.o ?_
  walk_at "pd"
  refine ev_xob0 T.x_NotSquare.o ?_
  walk_at "pd"
  refine ev_xob0 T.x_NoSquare.o ?_
  walk_at "pd"
  refine ev_xob0 T.x_NoPlacing.o ?_
  walk_at "pd"
  refine ev_xob0 T.x_NoRight.o ?_
  walk_at "pd"
  refine rd_plusL (Nat.le_of_ble_eq_true rfl) ?_
  walk_at "pd"
  refine rd_plusL (Nat.le_of_ble_eq_true rfl) ?_
  walk_at "pd"
  refine ev_xob0 T.x_NoAnswer.o ?_
  walk_at "pd"
  refine ev_xob0 T.x_NoText.o ?_
  walk_at "pd"
  refine ev_xob0 T.x_NothingDone.o ?_
  walk_at "pd"
  refine ev_xob0 T.x_NoLine.o ?_
  walk_at "pd"
  refine rd_plusL (Nat.le_of_ble_eq_true rfl) ?_
  exact hP
def F__law_classes {K : PySem.W.Frag} {mg : Str → Option Value} (T : Txt K mg) : FD := fun ds P => ∃ C ns es, ds = [.xob C ns es] ∧ C ∈ csT T ∧ P (.lst ((csT T).map fun B => .bl (C == B)))
theorem len__law_classes {K : PySem.W.Frag} {mg : Str → Option Value} (T : Txt K mg) : ∀ ds P, (F__law_classes T) ds P → ds.length = 1 := by (intro ds P h; first | exact h | (obtain ⟨_, rfl, _⟩ := h; rfl) | (obtain ⟨_, _, rfl, _⟩ := h; rfl) | (obtain ⟨_, _, _, rfl, _⟩ := h; rfl) | (obtain ⟨_, _, _, _, rfl, _⟩ := h; rfl) | (obtain ⟨_, _, _, _, _, rfl, _⟩ := h; rfl) | (obtain ⟨_, _, _, _, _, _, rfl, _⟩ := h; rfl) | (obtain ⟨_, _, _, _, _, _, _, rfl, _⟩ := h; rfl) | (obtain ⟨_, _, _, _, _, _, _, _, rfl, _⟩ := h; rfl) | (obtain ⟨_, _, _, _, _, _, _, _, _, rfl, _⟩ := h; rfl) | (obtain ⟨_, _, _, _, _, _, _, _, _, _, rfl, _⟩ := h; rfl) | (obtain ⟨_, _, _, _, _, _, _, _, _, _, _, rfl, _⟩ := h; rfl) | (obtain ⟨_, _, _, _, _, _, _, _, _, _, _, _, rfl, _⟩ := h; rfl) | (obtain ⟨_, _, _, _, _, _, _, _, _, _, _, _, _, rfl, _⟩ := h; rfl) | (obtain ⟨_, _, _, _, _, _, _, _, _, _, _, _, _, rfl, _⟩ := h; rfl) | (obtain ⟨_, _, _, _, _, _, _, _, _, _, _, _, _, _, rfl, _⟩ := h; rfl) | (obtain ⟨_, _, _, _, _, _, _, _, _, _, _, _, _, _, _, rfl, _⟩ := h; rfl) | (obtain ⟨_, _, _, _, _, _, _, _, _, _, _, _, _, _, _, _, rfl, _⟩ := h; rfl) | (obtain ⟨_, _, _, _, _, _, _, _, _, _, _, _, _, _, _, _, _, rfl, _⟩ := h; rfl) | (obtain ⟨_, _, _, _, _, _, _, _, _, _, _, _, _, _, _, _, _, _, rfl, _⟩ := h; rfl) | (obtain ⟨_, _, _, _, _, _, _, _, _, _, _, _, _, _, _, _, _, _, _, rfl, _⟩ := h; rfl) | (obtain ⟨_, _, _, _, _, _, _, _, _, _, _, _, _, _, _, _, _, _, _, _, rfl, _⟩ := h; rfl) | (obtain ⟨_, _, _, _, _, _, _, _, _, _, _, _, _, _, _, _, _, _, _, _, _, rfl, _⟩ := h; rfl) | (obtain ⟨rfl, _⟩ := h; rfl))
theorem ok__law_classes (T : Txt K mg) : FnOk Pg w K mg base CX0 1 T.D__law_classes.f T.D__law_classes.d ["e"] ((spD K (F__law_classes T))) := by
  refine T.D__law_classes.F.ok (k := 0) sc__law_classes (spD_len (len__law_classes T)) (fun cdv A outer s H vs Q E hr h => ?_)
  refine ⟨_, (pss_cons (ps_set (i := 1) sc__law_classes.nd rfl (by first | exact Or.inl rfl | exact Or.inr rfl) (pe_lst (pa_cons (pe_callB (call_isXK (K := K) rfl) (by rfl) T.n_isinstance (by decide +kernel) (pa_cons (pv 0) (pa_cons (pe_glob (v := .ref T.x_BadGrid.C) rfl T.x_BadGrid.g rfl) pa_nil))) (pa_cons (pe_callB (call_isXK (K := K) rfl) (by rfl) T.n_isinstance (by decide +kernel) (pa_cons (pv 0) (pa_cons (pe_glob (v := .ref T.x_BadScript.C) rfl T.x_BadScript.g rfl) pa_nil))) (pa_cons (pe_callB (call_isXK (K := K) rfl) (by rfl) T.n_isinstance (by decide +kernel) (pa_cons (pv 0) (pa_cons (pe_glob (v := .ref T.x_TooMany.C) rfl T.x_TooMany.g rfl) pa_nil))) (pa_cons (pe_callB (call_isXK (K := K) rfl) (by rfl) T.n_isinstance (by decide +kernel) (pa_cons (pv 0) (pa_cons (pe_glob (v := .ref T.x_TooLong.C) rfl T.x_TooLong.g rfl) pa_nil))) pa_nil))))))
    (pss_cons (ps_set (i := 2) sc__law_classes.nd rfl (by first | exact Or.inl rfl | exact Or.inr rfl) (pe_lst (pa_cons (pe_callB (call_isXK (K := K) rfl) (by rfl) T.n_isinstance (by decide +kernel) (pa_cons (pv 0) (pa_cons (pe_glob (v := .ref T.x_BadLine.C) rfl T.x_BadLine.g rfl) pa_nil))) (pa_cons (pe_callB (call_isXK (K := K) rfl) (by rfl) T.n_isinstance (by decide +kernel) (pa_cons (pv 0) (pa_cons (pe_glob (v := .ref T.x_Unknown.C) rfl T.x_Unknown.g rfl) pa_nil))) (pa_cons (pe_callB (call_isXK (K := K) rfl) (by rfl) T.n_isinstance (by decide +kernel) (pa_cons (pv 0) (pa_cons (pe_glob (v := .ref T.x_NoUnit.C) rfl T.x_NoUnit.g rfl) pa_nil))) (pa_cons (pe_callB (call_isXK (K := K) rfl) (by rfl) T.n_isinstance (by decide +kernel) (pa_cons (pv 0) (pa_cons (pe_glob (v := .ref T.x_OtherBases.C) rfl T.x_OtherBases.g rfl) pa_nil))) pa_nil))))))
    (pss_cons (ps_set (i := 3) sc__law_classes.nd rfl (by first | exact Or.inl rfl | exact Or.inr rfl) (pe_lst (pa_cons (pe_callB (call_isXK (K := K) rfl) (by rfl) T.n_isinstance (by decide +kernel) (pa_cons (pv 0) (pa_cons (pe_glob (v := .ref T.x_NoFraction.C) rfl T.x_NoFraction.g rfl) pa_nil))) (pa_cons (pe_callB (call_isXK (K := K) rfl) (by rfl) T.n_isinstance (by decide +kernel) (pa_cons (pv 0) (pa_cons (pe_glob (v := .ref T.x_NoRoots.C) rfl T.x_NoRoots.g rfl) pa_nil))) (pa_cons (pe_callB (call_isXK (K := K) rfl) (by rfl) T.n_isinstance (by decide +kernel) (pa_cons (pv 0) (pa_cons (pe_glob (v := .ref T.x_NoScale.C) rfl T.x_NoScale.g rfl) pa_nil))) (pa_cons (pe_callB (call_isXK (K := K) rfl) (by rfl) T.n_isinstance (by decide +kernel) (pa_cons (pv 0) (pa_cons (pe_glob (v := .ref T.x_NoCell.C) rfl T.x_NoCell.g rfl) pa_nil))) pa_nil))))))
    (pss_cons (ps_set (i := 4) sc__law_classes.nd rfl (by first | exact Or.inl rfl | exact Or.inr rfl) (pe_lst (pa_cons (pe_callB (call_isXK (K := K) rfl) (by rfl) T.n_isinstance (by decide +kernel) (pa_cons (pv 0) (pa_cons (pe_glob (v := .ref T.x_NoNumbers.C) rfl T.x_NoNumbers.g rfl) pa_nil))) (pa_cons (pe_callB (call_isXK (K := K) rfl) (by rfl) T.n_isinstance (by decide +kernel) (pa_cons (pv 0) (pa_cons (pe_glob (v := .ref T.x_NoGrid.C) rfl T.x_NoGrid.g rfl) pa_nil))) (pa_cons (pe_callB (call_isXK (K := K) rfl) (by rfl) T.n_isinstance (by decide +kernel) (pa_cons (pv 0) (pa_cons (pe_glob (v := .ref T.x_NoOrder.C) rfl T.x_NoOrder.g rfl) pa_nil))) (pa_cons (pe_callB (call_isXK (K := K) rfl) (by rfl) T.n_isinstance (by decide +kernel) (pa_cons (pv 0) (pa_cons (pe_glob (v := .ref T.x_NoValues.C) rfl T.x_NoValues.g rfl) pa_nil))) pa_nil))))))
    (pss_cons (ps_set (i := 5) sc__law_classes.nd rfl (by first | exact Or.inl rfl | exact Or.inr rfl) (pe_lst (pa_cons (pe_callB (call_isXK (K := K) rfl) (by rfl) T.n_isinstance (by decide +kernel) (pa_cons (pv 0) (pa_cons (pe_glob (v := .ref T.x_NoWay.C) rfl T.x_NoWay.g rfl) pa_nil))) (pa_cons (pe_callB (call_isXK (K := K) rfl) (by rfl) T.n_isinstance (by decide +kernel) (pa_cons (pv 0) (pa_cons (pe_glob (v := .ref T.x_NoNumber.C) rfl T.x_NoNumber.g rfl) pa_nil))) (pa_cons (pe_callB (call_isXK (K := K) rfl) (by rfl) T.n_isinstance (by decide +kernel) (pa_cons (pv 0) (pa_cons (pe_glob (v := .ref T.x_NoParting.C) rfl T.x_NoParting.g rfl) pa_nil))) (pa_cons (pe_callB (call_isXK (K := K) rfl) (by rfl) T.n_isinstance (by decide +kernel) (pa_cons (pv 0) (pa_cons (pe_glob (v := .ref T.x_NotSquare.C) rfl T.x_NotSquare.g rfl) pa_nil))) pa_nil))))))
    (pss_cons (ps_set (i := 6) sc__law_classes.nd rfl (by first | exact Or.inl rfl | exact Or.inr rfl) (pe_lst (pa_cons (pe_callB (call_isXK (K := K) rfl) (by rfl) T.n_isinstance (by decide +kernel) (pa_cons (pv 0) (pa_cons (pe_glob (v := .ref T.x_NoSquare.C) rfl T.x_NoSquare.g rfl) pa_nil))) (pa_cons (pe_callB (call_isXK (K := K) rfl) (by rfl) T.n_isinstance (by decide +kernel) (pa_cons (pv 0) (pa_cons (pe_glob (v := .ref T.x_NoPlacing.C) rfl T.x_NoPlacing.g rfl) pa_nil))) (pa_cons (pe_callB (call_isXK (K := K) rfl) (by rfl) T.n_isinstance (by decide +kernel) (pa_cons (pv 0) (pa_cons (pe_glob (v := .ref T.x_NoRight.C) rfl T.x_NoRight.g rfl) pa_nil))) (pa_cons (pe_callB (call_isXK (K := K) rfl) (by rfl) T.n_isinstance (by decide +kernel) (pa_cons (pv 0) (pa_cons (pe_glob (v := .ref T.x_NoAnswer.C) rfl T.x_NoAnswer.g rfl) pa_nil))) pa_nil))))))
    (pss_one (ps_ret (pe_op (op_plusK (K := K) rfl) (pe_op (op_plusK (K := K) rfl) (pe_op (op_plusK (K := K) rfl) (pe_op (op_plusK (K := K) rfl) (pe_op (op_plusK (K := K) rfl) (pe_op (op_plusK (K := K) rfl) (pv 1) (pv 2)) (pv 3)) (pv 4)) (pv 5)) (pv 6)) (pe_lst (pa_cons (pe_callB (call_isXK (K := K) rfl) (by rfl) T.n_isinstance (by decide +kernel) (pa_cons (pv 0) (pa_cons (pe_glob (v := .ref T.x_NoText.C) rfl T.x_NoText.g rfl) pa_nil))) (pa_cons (pe_callB (call_isXK (K := K) rfl) (by rfl) T.n_isinstance (by decide +kernel) (pa_cons (pv 0) (pa_cons (pe_glob (v := .ref T.x_NothingDone.C) rfl T.x_NothingDone.g rfl) pa_nil))) (pa_cons (pe_callB (call_isXK (K := K) rfl) (by rfl) T.n_isinstance (by decide +kernel) (pa_cons (pv 0) (pa_cons (pe_glob (v := .ref T.x_NoLine.C) rfl T.x_NoLine.g rfl) pa_nil))) pa_nil))))))))))))), ?_⟩
  try dsimp only [cxOf, Cx.blk, Cx.nox, Cx.wish]
  (refine body_of h fun W ds P eK f => ?_); subst eK
  obtain ⟨C, ns, es, rfl, hC, hP⟩ := f
  have hE := T.xcs.e C hC
  have hk : ∀ (j : Nat) (B : Addr), (csT T)[j]? = some B → PySem.W.kitOne W.K (.ref C) (.ref B) = some (C == B) := fun j B h => T.xcs.k C hC B (List.mem_of_getElem? h)
  walk_at "pd"
  refine rc_isX hE (hk 0 _ rfl) ?_
  walk_at "pd"
  refine rc_isX hE (hk 1 _ rfl) ?_
  walk_at "pd"
  refine rc_isX hE (hk 2 _ rfl) ?_
  walk_at "pd"
  refine rc_isX hE (hk 3 _ rfl) ?_
  walk_at "pd"
  refine rc_isX hE (hk 4 _ rfl) ?_
  walk_at "pd"
  refine rc_isX hE (hk 5 _ rfl) ?_
  walk_at "pd"
  refine rc_isX hE (hk 6 _ rfl) ?_
  walk_at "pd"
  refine rc_isX hE (hk 7 _ rfl) ?_
  walk_at "pd"
  refine rc_isX hE (hk 8 _ rfl) ?_
  walk_at "pd"
  refine rc_isX hE (hk 9 _ rfl) ?_
  walk_at "pd"
  refine rc_isX hE (hk 10 _ rfl) ?_
  walk_at "pd"
  refine rc_isX hE (hk 11 _ rfl) ?_
  walk_at "pd"
  refine rc_isX hE (hk 12 _ rfl) ?_
  walk_at "pd"
  refine rc_isX hE (hk 13 _ rfl) ?_
  walk_at "pd"
  refine rc_isX hE (hk 14 _ rfl) ?_
  walk_at "pd"
  refine rc_isX hE (hk 15 _ rfl) ?_
  walk_at "pd"
  refine rc_isX hE (hk 16 _ rfl) ?_
  walk_at "pd"
  refine rc_isX hE (hk 17 _ rfl) ?_
  walk_at "pd"
  refine rc_isX hE (hk 18 _ rfl) ?_
  walk_at "pd"
  refine rc_isX hE (hk 19 _ rfl) ?_
  walk_at "pd"
  refine rc_isX hE (hk 20 _ rfl) ?_
  walk_at "pd"
  refine rc_isX hE (hk 21 _ rfl) ?_
  walk_at "pd"
  refine rc_isX hE (hk 22 _ rfl) ?_
  walk_at "pd"
  refine rc_isX hE (hk 23 _ rfl) ?_
  walk_at "pd"
  refine rd_plusL (Nat.le_of_ble_eq_true rfl) ?_
  walk_at "pd"
  refine rd_plusL (Nat.le_of_ble_eq_true rfl) ?_
  walk_at "pd"
  refine rd_plusL (Nat.le_of_ble_eq_true rfl) ?_
  walk_at "pd"
  refine rd_plusL (Nat.le_of_ble_eq_true rfl) ?_
  walk_at "pd"
  refine rd_plusL (Nat.le_of_ble_eq_true rfl) ?_
  walk_at "pd"
  refine rc_isX hE (hk 24 _ rfl) ?_
  walk_at "pd"
  refine rc_isX hE (hk 25 _ rfl) ?_
  walk_at "pd"
  refine rc_isX hE (hk 26 _ rfl) ?_
  walk_at "pd"
  refine rd_plusL (Nat.le_of_ble_eq_true rfl) ?_
  exact hP
def F__law_alike : FD := fun ds P => ∃ d, ds = [d, d] ∧ ShD d ∧ P (.bl true)
theorem len__law_alike : ∀ ds P, F__law_alike ds P → ds.length = 2 := by (intro ds P h; first | exact h | (obtain ⟨_, rfl, _⟩ := h; rfl) | (obtain ⟨_, _, rfl, _⟩ := h; rfl) | (obtain ⟨_, _, _, rfl, _⟩ := h; rfl) | (obtain ⟨_, _, _, _, rfl, _⟩ := h; rfl) | (obtain ⟨_, _, _, _, _, rfl, _⟩ := h; rfl) | (obtain ⟨_, _, _, _, _, _, rfl, _⟩ := h; rfl) | (obtain ⟨_, _, _, _, _, _, _, rfl, _⟩ := h; rfl) | (obtain ⟨_, _, _, _, _, _, _, _, rfl, _⟩ := h; rfl) | (obtain ⟨_, _, _, _, _, _, _, _, _, rfl, _⟩ := h; rfl) | (obtain ⟨_, _, _, _, _, _, _, _, _, _, rfl, _⟩ := h; rfl) | (obtain ⟨_, _, _, _, _, _, _, _, _, _, _, rfl, _⟩ := h; rfl) | (obtain ⟨_, _, _, _, _, _, _, _, _, _, _, _, rfl, _⟩ := h; rfl) | (obtain ⟨_, _, _, _, _, _, _, _, _, _, _, _, _, rfl, _⟩ := h; rfl) | (obtain ⟨_, _, _, _, _, _, _, _, _, _, _, _, _, rfl, _⟩ := h; rfl) | (obtain ⟨_, _, _, _, _, _, _, _, _, _, _, _, _, _, rfl, _⟩ := h; rfl) | (obtain ⟨_, _, _, _, _, _, _, _, _, _, _, _, _, _, _, rfl, _⟩ := h; rfl) | (obtain ⟨_, _, _, _, _, _, _, _, _, _, _, _, _, _, _, _, rfl, _⟩ := h; rfl) | (obtain ⟨_, _, _, _, _, _, _, _, _, _, _, _, _, _, _, _, _, rfl, _⟩ := h; rfl) | (obtain ⟨_, _, _, _, _, _, _, _, _, _, _, _, _, _, _, _, _, _, rfl, _⟩ := h; rfl) | (obtain ⟨_, _, _, _, _, _, _, _, _, _, _, _, _, _, _, _, _, _, _, rfl, _⟩ := h; rfl) | (obtain ⟨_, _, _, _, _, _, _, _, _, _, _, _, _, _, _, _, _, _, _, _, rfl, _⟩ := h; rfl) | (obtain ⟨_, _, _, _, _, _, _, _, _, _, _, _, _, _, _, _, _, _, _, _, _, rfl, _⟩ := h; rfl) | (obtain ⟨rfl, _⟩ := h; rfl))
theorem ok__law_alike (T : Txt K mg) : FnOkG Pg w K mg base CX0 1 T.D__law_alike.f T.D__law_alike.d ["one", "other"] ((spD K F__law_alike)) := by
  refine okG (k := 0) T.D__law_alike.F sc__law_alike (spD_len (len__law_alike)) (fun cdv A outer s H vs Q E hG hr h => ?_)
  refine ⟨_, (pss_one (ps_ret (pe_and (pe_cmpR op_eq (pe_callB (call_reprDK (K := K) rfl hG (hr_u hr)) (by rfl) T.n_repr (by decide +kernel) (pa_cons (pv 0) pa_nil)) (pe_callB (call_reprDK (K := K) rfl hG (hr_u hr)) (by rfl) T.n_repr (by decide +kernel) (pa_cons (pv 1) pa_nil)) (nomark _)) (pe_one (pe_cmpR (op_eqDK (K := K) rfl (hr_u hr)) (pv 0) (pv 1) (nomark _)))))), ?_⟩
  try dsimp only [cxOf, Cx.blk, Cx.nox, Cx.wish]
  (refine body_of h fun W ds P eK f => ?_); subst eK
  obtain ⟨d, rfl, hd, hP⟩ := f
  walk_at "pd"
  refine rc_reprD hd ?_
  walk_at "pd"
  refine rc_reprD hd ?_
  refine rd_eqTx ?_
  rw [decide_eq_true rfl]
  walk_at "pd"
  refine rd_eqD hd.1 hd.1 ?_
  rw [D.eqv_self hd.1]
  exact hP
def F__law_kept {K : PySem.W.Frag} {mg : Str → Option Value} (T : Txt K mg) : FD := fun ds P => ∃ v, ds = [.lst (xobsD T v)] ∧ P (.lst [v, v, v, v, v, v])
theorem len__law_kept {K : PySem.W.Frag} {mg : Str → Option Value} (T : Txt K mg) : ∀ ds P, (F__law_kept T) ds P → ds.length = 1 := by (intro ds P h; first | exact h | (obtain ⟨_, rfl, _⟩ := h; rfl) | (obtain ⟨_, _, rfl, _⟩ := h; rfl) | (obtain ⟨_, _, _, rfl, _⟩ := h; rfl) | (obtain ⟨_, _, _, _, rfl, _⟩ := h; rfl) | (obtain ⟨_, _, _, _, _, rfl, _⟩ := h; rfl) | (obtain ⟨_, _, _, _, _, _, rfl, _⟩ := h; rfl) | (obtain ⟨_, _, _, _, _, _, _, rfl, _⟩ := h; rfl) | (obtain ⟨_, _, _, _, _, _, _, _, rfl, _⟩ := h; rfl) | (obtain ⟨_, _, _, _, _, _, _, _, _, rfl, _⟩ := h; rfl) | (obtain ⟨_, _, _, _, _, _, _, _, _, _, rfl, _⟩ := h; rfl) | (obtain ⟨_, _, _, _, _, _, _, _, _, _, _, rfl, _⟩ := h; rfl) | (obtain ⟨_, _, _, _, _, _, _, _, _, _, _, _, rfl, _⟩ := h; rfl) | (obtain ⟨_, _, _, _, _, _, _, _, _, _, _, _, _, rfl, _⟩ := h; rfl) | (obtain ⟨_, _, _, _, _, _, _, _, _, _, _, _, _, rfl, _⟩ := h; rfl) | (obtain ⟨_, _, _, _, _, _, _, _, _, _, _, _, _, _, rfl, _⟩ := h; rfl) | (obtain ⟨_, _, _, _, _, _, _, _, _, _, _, _, _, _, _, rfl, _⟩ := h; rfl) | (obtain ⟨_, _, _, _, _, _, _, _, _, _, _, _, _, _, _, _, rfl, _⟩ := h; rfl) | (obtain ⟨_, _, _, _, _, _, _, _, _, _, _, _, _, _, _, _, _, rfl, _⟩ := h; rfl) | (obtain ⟨_, _, _, _, _, _, _, _, _, _, _, _, _, _, _, _, _, _, rfl, _⟩ := h; rfl) | (obtain ⟨_, _, _, _, _, _, _, _, _, _, _, _, _, _, _, _, _, _, _, rfl, _⟩ := h; rfl) | (obtain ⟨_, _, _, _, _, _, _, _, _, _, _, _, _, _, _, _, _, _, _, _, rfl, _⟩ := h; rfl) | (obtain ⟨_, _, _, _, _, _, _, _, _, _, _, _, _, _, _, _, _, _, _, _, _, rfl, _⟩ := h; rfl) | (obtain ⟨rfl, _⟩ := h; rfl))
theorem ok__law_kept (T : Txt K mg) : FnOk Pg w K mg base CX0 1 T.D__law_kept.f T.D__law_kept.d ["made"] ((spD K (F__law_kept T))) := by
  refine T.D__law_kept.F.ok (k := 0) sc__law_kept (spD_len (len__law_kept T)) (fun cdv A outer s H vs Q E hr h => ?_)
  refine ⟨_, (pss_one (ps_ret (pe_lst (pa_cons (pe_xflK (K := K) rfl (pe_ix (ix_seqK (K := K) rfl) (pv 0) pe_int (fun _ _ => rfl)) rfl) (pa_cons (pe_xflK (K := K) rfl (pe_ix (ix_seqK (K := K) rfl) (pv 0) pe_int (fun _ _ => rfl)) rfl) (pa_cons (pe_xflK (K := K) rfl (pe_ix (ix_seqK (K := K) rfl) (pv 0) pe_int (fun _ _ => rfl)) rfl) (pa_cons (pe_xflK (K := K) rfl (pe_ix (ix_seqK (K := K) rfl) (pv 0) pe_int (fun _ _ => rfl)) rfl) (pa_cons (pe_xflK (K := K) rfl (pe_ix (ix_seqK (K := K) rfl) (pv 0) pe_int (fun _ _ => rfl)) rfl) (pa_cons (pe_xflK (K := K) rfl (pe_ix (ix_seqK (K := K) rfl) (pv 0) pe_int (fun _ _ => rfl)) rfl) pa_nil))))))))), ?_⟩
  try dsimp only [cxOf, Cx.blk, Cx.nox, Cx.wish]
  (refine body_of h fun W ds P eK f => ?_); subst eK
  obtain ⟨v, rfl, hP⟩ := f
  walk_at "pd"
  refine ev_xfl ?_
  walk_at "pd"
  first | refine rd_ixL (j := 0) rfl rfl ?_ | skip
  refine ⟨_, _, rfl, T.xf_BadGrid, T.nx_BadGrid_part, ?_⟩
  walk_at "pd"
  refine ev_xfl ?_
  walk_at "pd"
  first | refine rd_ixL (j := 1) rfl rfl ?_ | skip
  refine ⟨_, _, rfl, T.xf_BadScript, T.nx_BadScript_part, ?_⟩
  walk_at "pd"
  refine ev_xfl ?_
  walk_at "pd"
  first | refine rd_ixL (j := 2) rfl rfl ?_ | skip
  refine ⟨_, _, rfl, T.xf_TooMany, T.nx_TooMany_most, ?_⟩
  walk_at "pd"
  refine ev_xfl ?_
  walk_at "pd"
  first | refine rd_ixL (j := 3) rfl rfl ?_ | skip
  refine ⟨_, _, rfl, T.xf_TooLong, T.nx_TooLong_most, ?_⟩
  walk_at "pd"
  refine ev_xfl ?_
  walk_at "pd"
  first | refine rd_ixL (j := 4) rfl rfl ?_ | skip
  refine ⟨_, _, rfl, T.xf_BadLine, T.nx_BadLine_place, ?_⟩
  walk_at "pd"
  refine ev_xfl ?_
  walk_at "pd"
  first | refine rd_ixL (j := 5) rfl rfl ?_ | skip
  refine ⟨_, _, rfl, T.xf_Unknown, T.nx_Unknown_name, ?_⟩
  walk_at "pd"

  exact hP
set_option maxHeartbeats 0 in
theorem ok_law (T : Txt K mg) : FnOkG Pg w K mg base CX0 4 T.D_law.f T.D_law.d ["script"] (spLaw K) := by
  have G__law_alike := ok__law_alike (Pg := Pg) (w := w) (base := base) T
  have G__law_classes := ok__law_classes (Pg := Pg) (w := w) (base := base) T
  have G__law_kept := ok__law_kept (Pg := Pg) (w := w) (base := base) T
  have G__law_made := ok__law_made (Pg := Pg) (w := w) (base := base) T
  have G__law_state := ok__law_state (Pg := Pg) (w := w) (base := base) T
  have G__law_value := ok__law_value (Pg := Pg) (w := w) (base := base) T
  refine okG (k := 3) T.D_law.F sc_law (fun vs H Q E h => by obtain ⟨_, _, rfl, _⟩ := h; rfl) (fun cdv A outer s H vs Q E hG hr h => ?_)
  refine ⟨_, (pss_cons (ps_set (i := 1) sc_law.nd rfl (by first | exact Or.inl rfl | exact Or.inr rfl) (pe_call G__law_state (hr.mono (by decide)) (by rfl) T.D__law_state.g T.D__law_state.F.kp T.D__law_state.b .nil pass0 (pa_cons (pv 0) (pa_cons pe_int pa_nil))))
    (pss_cons (ps_set (i := 2) sc_law.nd rfl (by first | exact Or.inl rfl | exact Or.inr rfl) (pe_call G__law_value (hr.mono (by decide)) (by rfl) T.D__law_value.g T.D__law_value.F.kp T.D__law_value.b .nil pass0 (pa_cons (pv 1) pa_nil)))
    (pss_cons (ps_set (i := 3) sc_law.nd rfl (by first | exact Or.inl rfl | exact Or.inr rfl) (pe_call G__law_made (hr.mono (by decide)) (by rfl) T.D__law_made.g T.D__law_made.F.kp T.D__law_made.b .nil pass0 (pa_cons (pv 2) pa_nil)))
    (pss_cons (ps_for PassesOwn.never rfl (pi_range1 (by rfl) T.n_range (pa_cons (pe_callB (call_lenK (K := K) rfl) (by rfl) T.n_len (by decide +kernel) (pa_cons (pv 3) pa_nil)) pa_nil)) (pg_name (i := 4) sc_law.nd rfl (by first | exact Or.inl rfl | exact Or.inr rfl))
      (pss_cons (ps_if (PW.pt (pw_or (pt_not (pt_val (pe_callB (call_isXK (K := K) rfl) (by rfl) T.n_isinstance (by decide +kernel) (pa_cons (pe_ix (ix_seqK (K := K) rfl) (pv 3) (pv 4) (fun _ _ => rfl)) (pa_cons (pe_glob (v := .ref T.x_GridError.C) rfl T.x_GridError.g rfl) pa_nil))))) (pw_or1 (pt_not (pt_val (pe_callB (call_isXK (K := K) rfl) (by rfl) T.n_isinstance (by decide +kernel) (pa_cons (pe_ix (ix_seqK (K := K) rfl) (pv 3) (pv 4) (fun _ _ => rfl)) (pa_cons (pe_bltn (v := .ty "ValueError") (u := .type "ValueError") (by rfl) T.n_ValueError (by decide +kernel) rfl) pa_nil))))))))
      (pss_one (ps_ret pe_bl))
      pss_nil)
    (pss_one (ps_if (pt_cmpR (op_neDK (K := K) rfl (hr_u hr)) (pe_call G__law_classes (hr.mono (by decide)) (by rfl) T.D__law_classes.g T.D__law_classes.F.kp T.D__law_classes.b .nil pass0 (pa_cons (pe_ix (ix_seqK (K := K) rfl) (pv 3) (pv 4) (fun _ _ => rfl)) pa_nil)) (pe_lc (own := [("other", 6)]) rfl sc_law.nd (pi_range1 (by rfl) T.n_range (pa_cons (pe_callB (call_lenK (K := K) rfl) (by rfl) T.n_len (by decide +kernel) (pa_cons (pv 3) pa_nil)) pa_nil)) (blkOk_by (N := ["script", "state", "value", "made", "k", "one", "other"]) (sc := defScope s_law) (by decide +kernel)) (fun _ _ _ _ _ => (pg_name (i := 6) sc_law.nd rfl (by first | exact Or.inl rfl | exact Or.inr rfl))) (fun _ _ _ _ _ => pts_nil) (fun _ _ _ _ _ => (pe_cmpR (op_eqDK (K := K) rfl (hr_u hr)) (pv 6) (pv 4) (nomark _)))) (nomark _))
      (pss_one (ps_ret pe_bl))
      pss_nil))))
    (pss_one (ps_ret (pe_callB (cr_allK (K := K) rfl rfl) (by rfl) T.n_all (by decide +kernel) (pa_cons (pe_lc (own := [("one", 5)]) rfl sc_law.nd (pi_seqK (K := K) rfl (pe_call G__law_kept (hr.mono (by decide)) (by rfl) T.D__law_kept.g T.D__law_kept.F.kp T.D__law_kept.b .nil pass0 (pa_cons (pv 3) pa_nil))) (blkOk_by (N := ["script", "state", "value", "made", "k", "one", "other"]) (sc := defScope s_law) (by decide +kernel)) (fun _ _ _ _ _ => (pg_name (i := 5) sc_law.nd rfl (by first | exact Or.inl rfl | exact Or.inr rfl))) (fun _ _ _ _ _ => pts_nil) (fun _ _ _ _ _ => (pe_callG G__law_alike hG (hr.mono (by decide)) (by rfl) T.D__law_alike.g T.D__law_alike.F.kp T.D__law_alike.b .nil pass0 (pa_cons (pv 5) (pa_cons (pv 2) pa_nil))))) pa_nil)))))))), ?_⟩
  try dsimp only [cxOf, Cx.blk, Cx.nox, Cx.wish]
  refine law_body h (by decide) (by decide) fun W eK => ?_
  subst eK
  walk_at "pd"
  refine ⟨rfl, fun v hv => ?_⟩
  walk_at "pd"
  refine ⟨v, rfl, ?_⟩
  walk_at "pd"
  refine sd_for (it_rng1 ?_)
  walk_at "pd"
  refine ⟨_, rfl, by rw [xobs_len]; decide, by rw [xobs_len]; decide, fun i δ => ∃ k, δ = [none, some .st, some v, some (.lst (xobsD T v)), k, none, none], ⟨none, rfl⟩, fun i d δ hd hI => ?_, fun δ hI => ?_⟩
  · obtain ⟨k0, rfl⟩ := hI
    obtain ⟨hi, rfl⟩ := rngD_get hd
    have hi : i < 27 := hi
    obtain ⟨C, ns, es, h1, h2⟩ := xobs_get T v hi
    have hC : C ∈ csT T := List.mem_of_getElem? h2
    refine ⟨_, gd_name ?_⟩
    walk_at "pd"
    refine rd_ixL (j := i) (by omega) h1 ?_
    walk_at "pd"
    refine rc_isX (T.xcs.e C hC) (T.xcs.g C hC) ?_
    walk_at "pd"
    refine rd_ixL (j := i) (by omega) h1 ?_
    walk_at "pd"
    refine rc_isXT (T.xcs.e C hC) (T.xcs.v C hC) ?_
    walk_at "pd"
    refine rd_ixL (j := i) (by omega) h1 ?_
    walk_at "pd"
    refine ⟨C, ns, es, rfl, hC, ?_⟩
    rw [own_place T h2]
    refine ev_lcL (it_rng1 ?_)
    walk_at "pd"
    refine ⟨_, rfl, by rw [xobs_len]; decide, by rw [xobs_len]; decide, by rw [rngD_length, xobs_len]; decide, (List.range 27).map fun j => D.bl (decide (j = i)), by rw [rngD_length]; rfl, fun j d y hd hy => ⟨[6], by simp, gd_name ?_⟩, ?_⟩
    · obtain ⟨hj, rfl⟩ := rngD_get hd
      walk_at "pd"
      rw [List.getElem?_map] at hy
      obtain ⟨j2, h3, rfl⟩ := Option.map_eq_some_iff.mp hy
      obtain ⟨h4, rfl⟩ := List.getElem?_eq_some_iff.mp h3
      rw [List.getElem_range]
      congr 1
      exact decide_eq_decide.mpr (by omega)
    · refine rd_neD (fine_places i hi) (fine_places i hi) ?_
      rw [D.eqv_self (fine_places i hi)]
      walk_at "pd"
      exact ⟨_, rfl⟩
  · obtain ⟨k0, rfl⟩ := hI
    walk_at "pd"
    refine ev_lcL (it_seqL ?_)
    walk_at "pd"
    refine ⟨v, rfl, _, rfl, by simp, List.replicate 6 (.bl true), rfl, fun j d y hd hy => ⟨[5], by simp, gd_name ?_⟩, ?_⟩
    · have e1 : d = v := by
        have := List.mem_of_getElem? hd
        simpa using this
      have e2 : y = .bl true := (List.mem_replicate.mp (List.mem_of_getElem? hy)).2
      subst e1 e2
      walk_at "pd"
      exact ⟨_, rfl, hv, rfl⟩
    · walk_at "pd"
      refine rc_all (bs := List.replicate 6 true) ?_
      rfl
end
theorem all_mk {Pg : Program} {w : World} {K : PySem.W.Frag} {h : Heap} {mg : Str → Option Value} {fa : Addr} (X : K.In h) (G : h.Ns mainGlobals mg) (hfa : mg "law" = some (.ref fa))
    {f0 : Addr} {od0 an0 : Option Addr} {sl0 : Array (Option Value)} {oc0 kV0 dc0 pm0 cd0 ct0 : Value}
    {f1 : Addr} {od1 an1 : Option Addr} {sl1 : Array (Option Value)} {oc1 kV1 dc1 pm1 cd1 ct1 : Value}
    {f2 : Addr} {od2 an2 : Option Addr} {sl2 : Array (Option Value)} {oc2 kV2 dc2 pm2 cd2 ct2 : Value}
    {f3 : Addr} {od3 an3 : Option Addr} {sl3 : Array (Option Value)} {oc3 kV3 dc3 pm3 cd3 ct3 : Value}
    {f4 : Addr} {od4 an4 : Option Addr} {sl4 : Array (Option Value)} {oc4 kV4 dc4 pm4 cd4 ct4 : Value}
    {f5 : Addr} {od5 an5 : Option Addr} {sl5 : Array (Option Value)} {oc5 kV5 dc5 pm5 cd5 ct5 : Value}
    {f6 : Addr} {od6 an6 : Option Addr} {sl6 : Array (Option Value)} {oc6 kV6 dc6 pm6 cd6 ct6 : Value}
    {f7 : Addr} {od7 an7 : Option Addr} {sl7 : Array (Option Value)} {oc7 kV7 dc7 pm7 cd7 ct7 : Value}
    {f8 : Addr} {od8 an8 : Option Addr} {sl8 : Array (Option Value)} {oc8 kV8 dc8 pm8 cd8 ct8 : Value}
    {f9 : Addr} {od9 an9 : Option Addr} {sl9 : Array (Option Value)} {oc9 kV9 dc9 pm9 cd9 ct9 : Value}
    {f10 : Addr} {od10 an10 : Option Addr} {sl10 : Array (Option Value)} {oc10 kV10 dc10 pm10 cd10 ct10 : Value}
    {f11 : Addr} {od11 an11 : Option Addr} {sl11 : Array (Option Value)} {oc11 kV11 dc11 pm11 cd11 ct11 : Value}
    {f12 : Addr} {od12 an12 : Option Addr} {sl12 : Array (Option Value)} {oc12 kV12 dc12 pm12 cd12 ct12 : Value}
    {f13 : Addr} {od13 an13 : Option Addr} {sl13 : Array (Option Value)} {oc13 kV13 dc13 pm13 cd13 ct13 : Value}
    {f14 : Addr} {od14 an14 : Option Addr} {sl14 : Array (Option Value)} {oc14 kV14 dc14 pm14 cd14 ct14 : Value}
    {f15 : Addr} {od15 an15 : Option Addr} {sl15 : Array (Option Value)} {oc15 kV15 dc15 pm15 cd15 ct15 : Value}
    {C_GridError : Addr}
    {nm_GridError : _} {q_GridError : _} {N_GridError : _} {bs_GridError : _} {bm_GridError : _} {sn_GridError : _} {sub_GridError : _} {ab_GridError : _} {col_GridError : _} {dd_GridError : _} {k0_GridError : _} {k1_GridError : _} {k2_GridError : _} {k3_GridError : _} {k5_GridError : _}
    {C_NoUnit : Addr}
    {nm_NoUnit : _} {q_NoUnit : _} {N_NoUnit : _} {bs_NoUnit : _} {bm_NoUnit : _} {sn_NoUnit : _} {sub_NoUnit : _} {ab_NoUnit : _} {col_NoUnit : _} {dd_NoUnit : _} {k0_NoUnit : _} {k1_NoUnit : _} {k2_NoUnit : _} {k3_NoUnit : _} {k5_NoUnit : _}
    {C_OtherBases : Addr}
    {nm_OtherBases : _} {q_OtherBases : _} {N_OtherBases : _} {bs_OtherBases : _} {bm_OtherBases : _} {sn_OtherBases : _} {sub_OtherBases : _} {ab_OtherBases : _} {col_OtherBases : _} {dd_OtherBases : _} {k0_OtherBases : _} {k1_OtherBases : _} {k2_OtherBases : _} {k3_OtherBases : _} {k5_OtherBases : _}
    {C_NoFraction : Addr}
    {nm_NoFraction : _} {q_NoFraction : _} {N_NoFraction : _} {bs_NoFraction : _} {bm_NoFraction : _} {sn_NoFraction : _} {sub_NoFraction : _} {ab_NoFraction : _} {col_NoFraction : _} {dd_NoFraction : _} {k0_NoFraction : _} {k1_NoFraction : _} {k2_NoFraction : _} {k3_NoFraction : _} {k5_NoFraction : _}
    {C_NoRoots : Addr}
    {nm_NoRoots : _} {q_NoRoots : _} {N_NoRoots : _} {bs_NoRoots : _} {bm_NoRoots : _} {sn_NoRoots : _} {sub_NoRoots : _} {ab_NoRoots : _} {col_NoRoots : _} {dd_NoRoots : _} {k0_NoRoots : _} {k1_NoRoots : _} {k2_NoRoots : _} {k3_NoRoots : _} {k5_NoRoots : _}
    {C_NoScale : Addr}
    {nm_NoScale : _} {q_NoScale : _} {N_NoScale : _} {bs_NoScale : _} {bm_NoScale : _} {sn_NoScale : _} {sub_NoScale : _} {ab_NoScale : _} {col_NoScale : _} {dd_NoScale : _} {k0_NoScale : _} {k1_NoScale : _} {k2_NoScale : _} {k3_NoScale : _} {k5_NoScale : _}
    {C_BadGrid : Addr}
    {nm_BadGrid : _} {q_BadGrid : _} {N_BadGrid : _} {bs_BadGrid : _} {bm_BadGrid : _} {sn_BadGrid : _} {sub_BadGrid : _} {ab_BadGrid : _} {col_BadGrid : _} {dd_BadGrid : _} {k0_BadGrid : _} {k1_BadGrid : _} {k2_BadGrid : _} {k3_BadGrid : _} {k5_BadGrid : _}
    {C_NoCell : Addr}
    {nm_NoCell : _} {q_NoCell : _} {N_NoCell : _} {bs_NoCell : _} {bm_NoCell : _} {sn_NoCell : _} {sub_NoCell : _} {ab_NoCell : _} {col_NoCell : _} {dd_NoCell : _} {k0_NoCell : _} {k1_NoCell : _} {k2_NoCell : _} {k3_NoCell : _} {k5_NoCell : _}
    {C_NoNumbers : Addr}
    {nm_NoNumbers : _} {q_NoNumbers : _} {N_NoNumbers : _} {bs_NoNumbers : _} {bm_NoNumbers : _} {sn_NoNumbers : _} {sub_NoNumbers : _} {ab_NoNumbers : _} {col_NoNumbers : _} {dd_NoNumbers : _} {k0_NoNumbers : _} {k1_NoNumbers : _} {k2_NoNumbers : _} {k3_NoNumbers : _} {k5_NoNumbers : _}
    {C_BadScript : Addr}
    {nm_BadScript : _} {q_BadScript : _} {N_BadScript : _} {bs_BadScript : _} {bm_BadScript : _} {sn_BadScript : _} {sub_BadScript : _} {ab_BadScript : _} {col_BadScript : _} {dd_BadScript : _} {k0_BadScript : _} {k1_BadScript : _} {k2_BadScript : _} {k3_BadScript : _} {k5_BadScript : _}
    {C_NoGrid : Addr}
    {nm_NoGrid : _} {q_NoGrid : _} {N_NoGrid : _} {bs_NoGrid : _} {bm_NoGrid : _} {sn_NoGrid : _} {sub_NoGrid : _} {ab_NoGrid : _} {col_NoGrid : _} {dd_NoGrid : _} {k0_NoGrid : _} {k1_NoGrid : _} {k2_NoGrid : _} {k3_NoGrid : _} {k5_NoGrid : _}
    {C_NoOrder : Addr}
    {nm_NoOrder : _} {q_NoOrder : _} {N_NoOrder : _} {bs_NoOrder : _} {bm_NoOrder : _} {sn_NoOrder : _} {sub_NoOrder : _} {ab_NoOrder : _} {col_NoOrder : _} {dd_NoOrder : _} {k0_NoOrder : _} {k1_NoOrder : _} {k2_NoOrder : _} {k3_NoOrder : _} {k5_NoOrder : _}
    {C_NoValues : Addr}
    {nm_NoValues : _} {q_NoValues : _} {N_NoValues : _} {bs_NoValues : _} {bm_NoValues : _} {sn_NoValues : _} {sub_NoValues : _} {ab_NoValues : _} {col_NoValues : _} {dd_NoValues : _} {k0_NoValues : _} {k1_NoValues : _} {k2_NoValues : _} {k3_NoValues : _} {k5_NoValues : _}
    {C_NoWay : Addr}
    {nm_NoWay : _} {q_NoWay : _} {N_NoWay : _} {bs_NoWay : _} {bm_NoWay : _} {sn_NoWay : _} {sub_NoWay : _} {ab_NoWay : _} {col_NoWay : _} {dd_NoWay : _} {k0_NoWay : _} {k1_NoWay : _} {k2_NoWay : _} {k3_NoWay : _} {k5_NoWay : _}
    {C_NoNumber : Addr}
    {nm_NoNumber : _} {q_NoNumber : _} {N_NoNumber : _} {bs_NoNumber : _} {bm_NoNumber : _} {sn_NoNumber : _} {sub_NoNumber : _} {ab_NoNumber : _} {col_NoNumber : _} {dd_NoNumber : _} {k0_NoNumber : _} {k1_NoNumber : _} {k2_NoNumber : _} {k3_NoNumber : _} {k5_NoNumber : _}
    {C_TooMany : Addr}
    {nm_TooMany : _} {q_TooMany : _} {N_TooMany : _} {bs_TooMany : _} {bm_TooMany : _} {sn_TooMany : _} {sub_TooMany : _} {ab_TooMany : _} {col_TooMany : _} {dd_TooMany : _} {k0_TooMany : _} {k1_TooMany : _} {k2_TooMany : _} {k3_TooMany : _} {k5_TooMany : _}
    {C_TooLong : Addr}
    {nm_TooLong : _} {q_TooLong : _} {N_TooLong : _} {bs_TooLong : _} {bm_TooLong : _} {sn_TooLong : _} {sub_TooLong : _} {ab_TooLong : _} {col_TooLong : _} {dd_TooLong : _} {k0_TooLong : _} {k1_TooLong : _} {k2_TooLong : _} {k3_TooLong : _} {k5_TooLong : _}
    {C_NoParting : Addr}
    {nm_NoParting : _} {q_NoParting : _} {N_NoParting : _} {bs_NoParting : _} {bm_NoParting : _} {sn_NoParting : _} {sub_NoParting : _} {ab_NoParting : _} {col_NoParting : _} {dd_NoParting : _} {k0_NoParting : _} {k1_NoParting : _} {k2_NoParting : _} {k3_NoParting : _} {k5_NoParting : _}
    {C_NotSquare : Addr}
    {nm_NotSquare : _} {q_NotSquare : _} {N_NotSquare : _} {bs_NotSquare : _} {bm_NotSquare : _} {sn_NotSquare : _} {sub_NotSquare : _} {ab_NotSquare : _} {col_NotSquare : _} {dd_NotSquare : _} {k0_NotSquare : _} {k1_NotSquare : _} {k2_NotSquare : _} {k3_NotSquare : _} {k5_NotSquare : _}
    {C_NoSquare : Addr}
    {nm_NoSquare : _} {q_NoSquare : _} {N_NoSquare : _} {bs_NoSquare : _} {bm_NoSquare : _} {sn_NoSquare : _} {sub_NoSquare : _} {ab_NoSquare : _} {col_NoSquare : _} {dd_NoSquare : _} {k0_NoSquare : _} {k1_NoSquare : _} {k2_NoSquare : _} {k3_NoSquare : _} {k5_NoSquare : _}
    {C_NoPlacing : Addr}
    {nm_NoPlacing : _} {q_NoPlacing : _} {N_NoPlacing : _} {bs_NoPlacing : _} {bm_NoPlacing : _} {sn_NoPlacing : _} {sub_NoPlacing : _} {ab_NoPlacing : _} {col_NoPlacing : _} {dd_NoPlacing : _} {k0_NoPlacing : _} {k1_NoPlacing : _} {k2_NoPlacing : _} {k3_NoPlacing : _} {k5_NoPlacing : _}
    {C_NoRight : Addr}
    {nm_NoRight : _} {q_NoRight : _} {N_NoRight : _} {bs_NoRight : _} {bm_NoRight : _} {sn_NoRight : _} {sub_NoRight : _} {ab_NoRight : _} {col_NoRight : _} {dd_NoRight : _} {k0_NoRight : _} {k1_NoRight : _} {k2_NoRight : _} {k3_NoRight : _} {k5_NoRight : _}
    {C_BadLine : Addr}
    {nm_BadLine : _} {q_BadLine : _} {N_BadLine : _} {bs_BadLine : _} {bm_BadLine : _} {sn_BadLine : _} {sub_BadLine : _} {ab_BadLine : _} {col_BadLine : _} {dd_BadLine : _} {k0_BadLine : _} {k1_BadLine : _} {k2_BadLine : _} {k3_BadLine : _} {k5_BadLine : _}
    {C_NoAnswer : Addr}
    {nm_NoAnswer : _} {q_NoAnswer : _} {N_NoAnswer : _} {bs_NoAnswer : _} {bm_NoAnswer : _} {sn_NoAnswer : _} {sub_NoAnswer : _} {ab_NoAnswer : _} {col_NoAnswer : _} {dd_NoAnswer : _} {k0_NoAnswer : _} {k1_NoAnswer : _} {k2_NoAnswer : _} {k3_NoAnswer : _} {k5_NoAnswer : _}
    {C_NoText : Addr}
    {nm_NoText : _} {q_NoText : _} {N_NoText : _} {bs_NoText : _} {bm_NoText : _} {sn_NoText : _} {sub_NoText : _} {ab_NoText : _} {col_NoText : _} {dd_NoText : _} {k0_NoText : _} {k1_NoText : _} {k2_NoText : _} {k3_NoText : _} {k5_NoText : _}
    {C_NothingDone : Addr}
    {nm_NothingDone : _} {q_NothingDone : _} {N_NothingDone : _} {bs_NothingDone : _} {bm_NothingDone : _} {sn_NothingDone : _} {sub_NothingDone : _} {ab_NothingDone : _} {col_NothingDone : _} {dd_NothingDone : _} {k0_NothingDone : _} {k1_NothingDone : _} {k2_NothingDone : _} {k3_NothingDone : _} {k5_NothingDone : _}
    {C_NoLine : Addr}
    {nm_NoLine : _} {q_NoLine : _} {N_NoLine : _} {bs_NoLine : _} {bm_NoLine : _} {sn_NoLine : _} {sub_NoLine : _} {ab_NoLine : _} {col_NoLine : _} {dd_NoLine : _} {k0_NoLine : _} {k1_NoLine : _} {k2_NoLine : _} {k3_NoLine : _} {k5_NoLine : _}
    {C_Unknown : Addr}
    {nm_Unknown : _} {q_Unknown : _} {N_Unknown : _} {bs_Unknown : _} {bm_Unknown : _} {sn_Unknown : _} {sub_Unknown : _} {ab_Unknown : _} {col_Unknown : _} {dd_Unknown : _} {k0_Unknown : _} {k1_Unknown : _} {k2_Unknown : _} {k3_Unknown : _} {k5_Unknown : _}
    (a0 : PySem.W.nsIn K mainGlobals "_law_state" = some (some (.ref f0)))
    (a1 : PySem.W.nsIn K mainGlobals "_law_mixed" = some (some (.ref f1)))
    (a2 : PySem.W.nsIn K mainGlobals "_law_draw" = some (some (.ref f2)))
    (a3 : PySem.W.nsIn K mainGlobals "_law_value" = some (some (.ref f3)))
    (a11 : PySem.W.nsIn K mainGlobals "_law_made" = some (some (.ref f11)))
    (a12 : PySem.W.nsIn K mainGlobals "_law_classes" = some (some (.ref f12)))
    (a13 : PySem.W.nsIn K mainGlobals "_law_alike" = some (some (.ref f13)))
    (a14 : PySem.W.nsIn K mainGlobals "_law_kept" = some (some (.ref f14)))
    (a15 : PySem.W.nsIn K mainGlobals "law" = some (some (.ref f15)))
    (gC_GridError : PySem.W.nsIn K mainGlobals "GridError" = some (some (.ref C_GridError)))
    (iC_GridError : PySem.W.findIn K (.ref C_GridError) "__init__" = some (some (.ref f10)))
    (lk_GridError : K.lookup C_GridError = some (excClassObj nm_GridError q_GridError C_GridError N_GridError bs_GridError bm_GridError true sn_GridError sub_GridError ab_GridError col_GridError dd_GridError k0_GridError k1_GridError k2_GridError k3_GridError k5_GridError "ValueError.__new__"))
    (rv_GridError : PySem.HandSPX.refsVE bm_GridError = true)
    (sa_GridError : PySem.W.findIn K (.ref C_GridError) "__setattr__" = some (some (.builtin "object.__setattr__")))
    (eb_GridError : PySem.W.subIn K (.ref C_GridError) (.type "BaseException") = some true)
    (ty_GridError : PySem.W.typeIn K (.ref C_GridError) = some (.type "type"))
    (kp_GridError : PySem.W.keepIn K (.ref C_GridError) = true)
    (gC_NoUnit : PySem.W.nsIn K mainGlobals "NoUnit" = some (some (.ref C_NoUnit)))
    (iC_NoUnit : PySem.W.findIn K (.ref C_NoUnit) "__init__" = some (some (.ref f10)))
    (lk_NoUnit : K.lookup C_NoUnit = some (excClassObj nm_NoUnit q_NoUnit C_NoUnit N_NoUnit bs_NoUnit bm_NoUnit true sn_NoUnit sub_NoUnit ab_NoUnit col_NoUnit dd_NoUnit k0_NoUnit k1_NoUnit k2_NoUnit k3_NoUnit k5_NoUnit "ValueError.__new__"))
    (rv_NoUnit : PySem.HandSPX.refsVE bm_NoUnit = true)
    (sa_NoUnit : PySem.W.findIn K (.ref C_NoUnit) "__setattr__" = some (some (.builtin "object.__setattr__")))
    (eb_NoUnit : PySem.W.subIn K (.ref C_NoUnit) (.type "BaseException") = some true)
    (ty_NoUnit : PySem.W.typeIn K (.ref C_NoUnit) = some (.type "type"))
    (kp_NoUnit : PySem.W.keepIn K (.ref C_NoUnit) = true)
    (gC_OtherBases : PySem.W.nsIn K mainGlobals "OtherBases" = some (some (.ref C_OtherBases)))
    (iC_OtherBases : PySem.W.findIn K (.ref C_OtherBases) "__init__" = some (some (.ref f10)))
    (lk_OtherBases : K.lookup C_OtherBases = some (excClassObj nm_OtherBases q_OtherBases C_OtherBases N_OtherBases bs_OtherBases bm_OtherBases true sn_OtherBases sub_OtherBases ab_OtherBases col_OtherBases dd_OtherBases k0_OtherBases k1_OtherBases k2_OtherBases k3_OtherBases k5_OtherBases "ValueError.__new__"))
    (rv_OtherBases : PySem.HandSPX.refsVE bm_OtherBases = true)
    (sa_OtherBases : PySem.W.findIn K (.ref C_OtherBases) "__setattr__" = some (some (.builtin "object.__setattr__")))
    (eb_OtherBases : PySem.W.subIn K (.ref C_OtherBases) (.type "BaseException") = some true)
    (ty_OtherBases : PySem.W.typeIn K (.ref C_OtherBases) = some (.type "type"))
    (kp_OtherBases : PySem.W.keepIn K (.ref C_OtherBases) = true)
    (gC_NoFraction : PySem.W.nsIn K mainGlobals "NoFraction" = some (some (.ref C_NoFraction)))
    (iC_NoFraction : PySem.W.findIn K (.ref C_NoFraction) "__init__" = some (some (.ref f10)))
    (lk_NoFraction : K.lookup C_NoFraction = some (excClassObj nm_NoFraction q_NoFraction C_NoFraction N_NoFraction bs_NoFraction bm_NoFraction true sn_NoFraction sub_NoFraction ab_NoFraction col_NoFraction dd_NoFraction k0_NoFraction k1_NoFraction k2_NoFraction k3_NoFraction k5_NoFraction "ValueError.__new__"))
    (rv_NoFraction : PySem.HandSPX.refsVE bm_NoFraction = true)
    (sa_NoFraction : PySem.W.findIn K (.ref C_NoFraction) "__setattr__" = some (some (.builtin "object.__setattr__")))
    (eb_NoFraction : PySem.W.subIn K (.ref C_NoFraction) (.type "BaseException") = some true)
    (ty_NoFraction : PySem.W.typeIn K (.ref C_NoFraction) = some (.type "type"))
    (kp_NoFraction : PySem.W.keepIn K (.ref C_NoFraction) = true)
    (gC_NoRoots : PySem.W.nsIn K mainGlobals "NoRoots" = some (some (.ref C_NoRoots)))
    (iC_NoRoots : PySem.W.findIn K (.ref C_NoRoots) "__init__" = some (some (.ref f10)))
    (lk_NoRoots : K.lookup C_NoRoots = some (excClassObj nm_NoRoots q_NoRoots C_NoRoots N_NoRoots bs_NoRoots bm_NoRoots true sn_NoRoots sub_NoRoots ab_NoRoots col_NoRoots dd_NoRoots k0_NoRoots k1_NoRoots k2_NoRoots k3_NoRoots k5_NoRoots "ValueError.__new__"))
    (rv_NoRoots : PySem.HandSPX.refsVE bm_NoRoots = true)
    (sa_NoRoots : PySem.W.findIn K (.ref C_NoRoots) "__setattr__" = some (some (.builtin "object.__setattr__")))
    (eb_NoRoots : PySem.W.subIn K (.ref C_NoRoots) (.type "BaseException") = some true)
    (ty_NoRoots : PySem.W.typeIn K (.ref C_NoRoots) = some (.type "type"))
    (kp_NoRoots : PySem.W.keepIn K (.ref C_NoRoots) = true)
    (gC_NoScale : PySem.W.nsIn K mainGlobals "NoScale" = some (some (.ref C_NoScale)))
    (iC_NoScale : PySem.W.findIn K (.ref C_NoScale) "__init__" = some (some (.ref f10)))
    (lk_NoScale : K.lookup C_NoScale = some (excClassObj nm_NoScale q_NoScale C_NoScale N_NoScale bs_NoScale bm_NoScale true sn_NoScale sub_NoScale ab_NoScale col_NoScale dd_NoScale k0_NoScale k1_NoScale k2_NoScale k3_NoScale k5_NoScale "ValueError.__new__"))
    (rv_NoScale : PySem.HandSPX.refsVE bm_NoScale = true)
    (sa_NoScale : PySem.W.findIn K (.ref C_NoScale) "__setattr__" = some (some (.builtin "object.__setattr__")))
    (eb_NoScale : PySem.W.subIn K (.ref C_NoScale) (.type "BaseException") = some true)
    (ty_NoScale : PySem.W.typeIn K (.ref C_NoScale) = some (.type "type"))
    (kp_NoScale : PySem.W.keepIn K (.ref C_NoScale) = true)
    (gC_BadGrid : PySem.W.nsIn K mainGlobals "BadGrid" = some (some (.ref C_BadGrid)))
    (iC_BadGrid : PySem.W.findIn K (.ref C_BadGrid) "__init__" = some (some (.ref f4)))
    (lk_BadGrid : K.lookup C_BadGrid = some (excClassObj nm_BadGrid q_BadGrid C_BadGrid N_BadGrid bs_BadGrid bm_BadGrid true sn_BadGrid sub_BadGrid ab_BadGrid col_BadGrid dd_BadGrid k0_BadGrid k1_BadGrid k2_BadGrid k3_BadGrid k5_BadGrid "ValueError.__new__"))
    (rv_BadGrid : PySem.HandSPX.refsVE bm_BadGrid = true)
    (sa_BadGrid : PySem.W.findIn K (.ref C_BadGrid) "__setattr__" = some (some (.builtin "object.__setattr__")))
    (eb_BadGrid : PySem.W.subIn K (.ref C_BadGrid) (.type "BaseException") = some true)
    (ty_BadGrid : PySem.W.typeIn K (.ref C_BadGrid) = some (.type "type"))
    (kp_BadGrid : PySem.W.keepIn K (.ref C_BadGrid) = true)
    (gC_NoCell : PySem.W.nsIn K mainGlobals "NoCell" = some (some (.ref C_NoCell)))
    (iC_NoCell : PySem.W.findIn K (.ref C_NoCell) "__init__" = some (some (.ref f10)))
    (lk_NoCell : K.lookup C_NoCell = some (excClassObj nm_NoCell q_NoCell C_NoCell N_NoCell bs_NoCell bm_NoCell true sn_NoCell sub_NoCell ab_NoCell col_NoCell dd_NoCell k0_NoCell k1_NoCell k2_NoCell k3_NoCell k5_NoCell "ValueError.__new__"))
    (rv_NoCell : PySem.HandSPX.refsVE bm_NoCell = true)
    (sa_NoCell : PySem.W.findIn K (.ref C_NoCell) "__setattr__" = some (some (.builtin "object.__setattr__")))
    (eb_NoCell : PySem.W.subIn K (.ref C_NoCell) (.type "BaseException") = some true)
    (ty_NoCell : PySem.W.typeIn K (.ref C_NoCell) = some (.type "type"))
    (kp_NoCell : PySem.W.keepIn K (.ref C_NoCell) = true)
    (gC_NoNumbers : PySem.W.nsIn K mainGlobals "NoNumbers" = some (some (.ref C_NoNumbers)))
    (iC_NoNumbers : PySem.W.findIn K (.ref C_NoNumbers) "__init__" = some (some (.ref f10)))
    (lk_NoNumbers : K.lookup C_NoNumbers = some (excClassObj nm_NoNumbers q_NoNumbers C_NoNumbers N_NoNumbers bs_NoNumbers bm_NoNumbers true sn_NoNumbers sub_NoNumbers ab_NoNumbers col_NoNumbers dd_NoNumbers k0_NoNumbers k1_NoNumbers k2_NoNumbers k3_NoNumbers k5_NoNumbers "ValueError.__new__"))
    (rv_NoNumbers : PySem.HandSPX.refsVE bm_NoNumbers = true)
    (sa_NoNumbers : PySem.W.findIn K (.ref C_NoNumbers) "__setattr__" = some (some (.builtin "object.__setattr__")))
    (eb_NoNumbers : PySem.W.subIn K (.ref C_NoNumbers) (.type "BaseException") = some true)
    (ty_NoNumbers : PySem.W.typeIn K (.ref C_NoNumbers) = some (.type "type"))
    (kp_NoNumbers : PySem.W.keepIn K (.ref C_NoNumbers) = true)
    (gC_BadScript : PySem.W.nsIn K mainGlobals "BadScript" = some (some (.ref C_BadScript)))
    (iC_BadScript : PySem.W.findIn K (.ref C_BadScript) "__init__" = some (some (.ref f5)))
    (lk_BadScript : K.lookup C_BadScript = some (excClassObj nm_BadScript q_BadScript C_BadScript N_BadScript bs_BadScript bm_BadScript true sn_BadScript sub_BadScript ab_BadScript col_BadScript dd_BadScript k0_BadScript k1_BadScript k2_BadScript k3_BadScript k5_BadScript "ValueError.__new__"))
    (rv_BadScript : PySem.HandSPX.refsVE bm_BadScript = true)
    (sa_BadScript : PySem.W.findIn K (.ref C_BadScript) "__setattr__" = some (some (.builtin "object.__setattr__")))
    (eb_BadScript : PySem.W.subIn K (.ref C_BadScript) (.type "BaseException") = some true)
    (ty_BadScript : PySem.W.typeIn K (.ref C_BadScript) = some (.type "type"))
    (kp_BadScript : PySem.W.keepIn K (.ref C_BadScript) = true)
    (gC_NoGrid : PySem.W.nsIn K mainGlobals "NoGrid" = some (some (.ref C_NoGrid)))
    (iC_NoGrid : PySem.W.findIn K (.ref C_NoGrid) "__init__" = some (some (.ref f10)))
    (lk_NoGrid : K.lookup C_NoGrid = some (excClassObj nm_NoGrid q_NoGrid C_NoGrid N_NoGrid bs_NoGrid bm_NoGrid true sn_NoGrid sub_NoGrid ab_NoGrid col_NoGrid dd_NoGrid k0_NoGrid k1_NoGrid k2_NoGrid k3_NoGrid k5_NoGrid "ValueError.__new__"))
    (rv_NoGrid : PySem.HandSPX.refsVE bm_NoGrid = true)
    (sa_NoGrid : PySem.W.findIn K (.ref C_NoGrid) "__setattr__" = some (some (.builtin "object.__setattr__")))
    (eb_NoGrid : PySem.W.subIn K (.ref C_NoGrid) (.type "BaseException") = some true)
    (ty_NoGrid : PySem.W.typeIn K (.ref C_NoGrid) = some (.type "type"))
    (kp_NoGrid : PySem.W.keepIn K (.ref C_NoGrid) = true)
    (gC_NoOrder : PySem.W.nsIn K mainGlobals "NoOrder" = some (some (.ref C_NoOrder)))
    (iC_NoOrder : PySem.W.findIn K (.ref C_NoOrder) "__init__" = some (some (.ref f10)))
    (lk_NoOrder : K.lookup C_NoOrder = some (excClassObj nm_NoOrder q_NoOrder C_NoOrder N_NoOrder bs_NoOrder bm_NoOrder true sn_NoOrder sub_NoOrder ab_NoOrder col_NoOrder dd_NoOrder k0_NoOrder k1_NoOrder k2_NoOrder k3_NoOrder k5_NoOrder "ValueError.__new__"))
    (rv_NoOrder : PySem.HandSPX.refsVE bm_NoOrder = true)
    (sa_NoOrder : PySem.W.findIn K (.ref C_NoOrder) "__setattr__" = some (some (.builtin "object.__setattr__")))
    (eb_NoOrder : PySem.W.subIn K (.ref C_NoOrder) (.type "BaseException") = some true)
    (ty_NoOrder : PySem.W.typeIn K (.ref C_NoOrder) = some (.type "type"))
    (kp_NoOrder : PySem.W.keepIn K (.ref C_NoOrder) = true)
    (gC_NoValues : PySem.W.nsIn K mainGlobals "NoValues" = some (some (.ref C_NoValues)))
    (iC_NoValues : PySem.W.findIn K (.ref C_NoValues) "__init__" = some (some (.ref f10)))
    (lk_NoValues : K.lookup C_NoValues = some (excClassObj nm_NoValues q_NoValues C_NoValues N_NoValues bs_NoValues bm_NoValues true sn_NoValues sub_NoValues ab_NoValues col_NoValues dd_NoValues k0_NoValues k1_NoValues k2_NoValues k3_NoValues k5_NoValues "ValueError.__new__"))
    (rv_NoValues : PySem.HandSPX.refsVE bm_NoValues = true)
    (sa_NoValues : PySem.W.findIn K (.ref C_NoValues) "__setattr__" = some (some (.builtin "object.__setattr__")))
    (eb_NoValues : PySem.W.subIn K (.ref C_NoValues) (.type "BaseException") = some true)
    (ty_NoValues : PySem.W.typeIn K (.ref C_NoValues) = some (.type "type"))
    (kp_NoValues : PySem.W.keepIn K (.ref C_NoValues) = true)
    (gC_NoWay : PySem.W.nsIn K mainGlobals "NoWay" = some (some (.ref C_NoWay)))
    (iC_NoWay : PySem.W.findIn K (.ref C_NoWay) "__init__" = some (some (.ref f10)))
    (lk_NoWay : K.lookup C_NoWay = some (excClassObj nm_NoWay q_NoWay C_NoWay N_NoWay bs_NoWay bm_NoWay true sn_NoWay sub_NoWay ab_NoWay col_NoWay dd_NoWay k0_NoWay k1_NoWay k2_NoWay k3_NoWay k5_NoWay "ValueError.__new__"))
    (rv_NoWay : PySem.HandSPX.refsVE bm_NoWay = true)
    (sa_NoWay : PySem.W.findIn K (.ref C_NoWay) "__setattr__" = some (some (.builtin "object.__setattr__")))
    (eb_NoWay : PySem.W.subIn K (.ref C_NoWay) (.type "BaseException") = some true)
    (ty_NoWay : PySem.W.typeIn K (.ref C_NoWay) = some (.type "type"))
    (kp_NoWay : PySem.W.keepIn K (.ref C_NoWay) = true)
    (gC_NoNumber : PySem.W.nsIn K mainGlobals "NoNumber" = some (some (.ref C_NoNumber)))
    (iC_NoNumber : PySem.W.findIn K (.ref C_NoNumber) "__init__" = some (some (.ref f10)))
    (lk_NoNumber : K.lookup C_NoNumber = some (excClassObj nm_NoNumber q_NoNumber C_NoNumber N_NoNumber bs_NoNumber bm_NoNumber true sn_NoNumber sub_NoNumber ab_NoNumber col_NoNumber dd_NoNumber k0_NoNumber k1_NoNumber k2_NoNumber k3_NoNumber k5_NoNumber "ValueError.__new__"))
    (rv_NoNumber : PySem.HandSPX.refsVE bm_NoNumber = true)
    (sa_NoNumber : PySem.W.findIn K (.ref C_NoNumber) "__setattr__" = some (some (.builtin "object.__setattr__")))
    (eb_NoNumber : PySem.W.subIn K (.ref C_NoNumber) (.type "BaseException") = some true)
    (ty_NoNumber : PySem.W.typeIn K (.ref C_NoNumber) = some (.type "type"))
    (kp_NoNumber : PySem.W.keepIn K (.ref C_NoNumber) = true)
    (gC_TooMany : PySem.W.nsIn K mainGlobals "TooMany" = some (some (.ref C_TooMany)))
    (iC_TooMany : PySem.W.findIn K (.ref C_TooMany) "__init__" = some (some (.ref f6)))
    (lk_TooMany : K.lookup C_TooMany = some (excClassObj nm_TooMany q_TooMany C_TooMany N_TooMany bs_TooMany bm_TooMany true sn_TooMany sub_TooMany ab_TooMany col_TooMany dd_TooMany k0_TooMany k1_TooMany k2_TooMany k3_TooMany k5_TooMany "ValueError.__new__"))
    (rv_TooMany : PySem.HandSPX.refsVE bm_TooMany = true)
    (sa_TooMany : PySem.W.findIn K (.ref C_TooMany) "__setattr__" = some (some (.builtin "object.__setattr__")))
    (eb_TooMany : PySem.W.subIn K (.ref C_TooMany) (.type "BaseException") = some true)
    (ty_TooMany : PySem.W.typeIn K (.ref C_TooMany) = some (.type "type"))
    (kp_TooMany : PySem.W.keepIn K (.ref C_TooMany) = true)
    (gC_TooLong : PySem.W.nsIn K mainGlobals "TooLong" = some (some (.ref C_TooLong)))
    (iC_TooLong : PySem.W.findIn K (.ref C_TooLong) "__init__" = some (some (.ref f7)))
    (lk_TooLong : K.lookup C_TooLong = some (excClassObj nm_TooLong q_TooLong C_TooLong N_TooLong bs_TooLong bm_TooLong true sn_TooLong sub_TooLong ab_TooLong col_TooLong dd_TooLong k0_TooLong k1_TooLong k2_TooLong k3_TooLong k5_TooLong "ValueError.__new__"))
    (rv_TooLong : PySem.HandSPX.refsVE bm_TooLong = true)
    (sa_TooLong : PySem.W.findIn K (.ref C_TooLong) "__setattr__" = some (some (.builtin "object.__setattr__")))
    (eb_TooLong : PySem.W.subIn K (.ref C_TooLong) (.type "BaseException") = some true)
    (ty_TooLong : PySem.W.typeIn K (.ref C_TooLong) = some (.type "type"))
    (kp_TooLong : PySem.W.keepIn K (.ref C_TooLong) = true)
    (gC_NoParting : PySem.W.nsIn K mainGlobals "NoParting" = some (some (.ref C_NoParting)))
    (iC_NoParting : PySem.W.findIn K (.ref C_NoParting) "__init__" = some (some (.ref f10)))
    (lk_NoParting : K.lookup C_NoParting = some (excClassObj nm_NoParting q_NoParting C_NoParting N_NoParting bs_NoParting bm_NoParting true sn_NoParting sub_NoParting ab_NoParting col_NoParting dd_NoParting k0_NoParting k1_NoParting k2_NoParting k3_NoParting k5_NoParting "ValueError.__new__"))
    (rv_NoParting : PySem.HandSPX.refsVE bm_NoParting = true)
    (sa_NoParting : PySem.W.findIn K (.ref C_NoParting) "__setattr__" = some (some (.builtin "object.__setattr__")))
    (eb_NoParting : PySem.W.subIn K (.ref C_NoParting) (.type "BaseException") = some true)
    (ty_NoParting : PySem.W.typeIn K (.ref C_NoParting) = some (.type "type"))
    (kp_NoParting : PySem.W.keepIn K (.ref C_NoParting) = true)
    (gC_NotSquare : PySem.W.nsIn K mainGlobals "NotSquare" = some (some (.ref C_NotSquare)))
    (iC_NotSquare : PySem.W.findIn K (.ref C_NotSquare) "__init__" = some (some (.ref f10)))
    (lk_NotSquare : K.lookup C_NotSquare = some (excClassObj nm_NotSquare q_NotSquare C_NotSquare N_NotSquare bs_NotSquare bm_NotSquare true sn_NotSquare sub_NotSquare ab_NotSquare col_NotSquare dd_NotSquare k0_NotSquare k1_NotSquare k2_NotSquare k3_NotSquare k5_NotSquare "ValueError.__new__"))
    (rv_NotSquare : PySem.HandSPX.refsVE bm_NotSquare = true)
    (sa_NotSquare : PySem.W.findIn K (.ref C_NotSquare) "__setattr__" = some (some (.builtin "object.__setattr__")))
    (eb_NotSquare : PySem.W.subIn K (.ref C_NotSquare) (.type "BaseException") = some true)
    (ty_NotSquare : PySem.W.typeIn K (.ref C_NotSquare) = some (.type "type"))
    (kp_NotSquare : PySem.W.keepIn K (.ref C_NotSquare) = true)
    (gC_NoSquare : PySem.W.nsIn K mainGlobals "NoSquare" = some (some (.ref C_NoSquare)))
    (iC_NoSquare : PySem.W.findIn K (.ref C_NoSquare) "__init__" = some (some (.ref f10)))
    (lk_NoSquare : K.lookup C_NoSquare = some (excClassObj nm_NoSquare q_NoSquare C_NoSquare N_NoSquare bs_NoSquare bm_NoSquare true sn_NoSquare sub_NoSquare ab_NoSquare col_NoSquare dd_NoSquare k0_NoSquare k1_NoSquare k2_NoSquare k3_NoSquare k5_NoSquare "ValueError.__new__"))
    (rv_NoSquare : PySem.HandSPX.refsVE bm_NoSquare = true)
    (sa_NoSquare : PySem.W.findIn K (.ref C_NoSquare) "__setattr__" = some (some (.builtin "object.__setattr__")))
    (eb_NoSquare : PySem.W.subIn K (.ref C_NoSquare) (.type "BaseException") = some true)
    (ty_NoSquare : PySem.W.typeIn K (.ref C_NoSquare) = some (.type "type"))
    (kp_NoSquare : PySem.W.keepIn K (.ref C_NoSquare) = true)
    (gC_NoPlacing : PySem.W.nsIn K mainGlobals "NoPlacing" = some (some (.ref C_NoPlacing)))
    (iC_NoPlacing : PySem.W.findIn K (.ref C_NoPlacing) "__init__" = some (some (.ref f10)))
    (lk_NoPlacing : K.lookup C_NoPlacing = some (excClassObj nm_NoPlacing q_NoPlacing C_NoPlacing N_NoPlacing bs_NoPlacing bm_NoPlacing true sn_NoPlacing sub_NoPlacing ab_NoPlacing col_NoPlacing dd_NoPlacing k0_NoPlacing k1_NoPlacing k2_NoPlacing k3_NoPlacing k5_NoPlacing "ValueError.__new__"))
    (rv_NoPlacing : PySem.HandSPX.refsVE bm_NoPlacing = true)
    (sa_NoPlacing : PySem.W.findIn K (.ref C_NoPlacing) "__setattr__" = some (some (.builtin "object.__setattr__")))
    (eb_NoPlacing : PySem.W.subIn K (.ref C_NoPlacing) (.type "BaseException") = some true)
    (ty_NoPlacing : PySem.W.typeIn K (.ref C_NoPlacing) = some (.type "type"))
    (kp_NoPlacing : PySem.W.keepIn K (.ref C_NoPlacing) = true)
    (gC_NoRight : PySem.W.nsIn K mainGlobals "NoRight" = some (some (.ref C_NoRight)))
    (iC_NoRight : PySem.W.findIn K (.ref C_NoRight) "__init__" = some (some (.ref f10)))
    (lk_NoRight : K.lookup C_NoRight = some (excClassObj nm_NoRight q_NoRight C_NoRight N_NoRight bs_NoRight bm_NoRight true sn_NoRight sub_NoRight ab_NoRight col_NoRight dd_NoRight k0_NoRight k1_NoRight k2_NoRight k3_NoRight k5_NoRight "ValueError.__new__"))
    (rv_NoRight : PySem.HandSPX.refsVE bm_NoRight = true)
    (sa_NoRight : PySem.W.findIn K (.ref C_NoRight) "__setattr__" = some (some (.builtin "object.__setattr__")))
    (eb_NoRight : PySem.W.subIn K (.ref C_NoRight) (.type "BaseException") = some true)
    (ty_NoRight : PySem.W.typeIn K (.ref C_NoRight) = some (.type "type"))
    (kp_NoRight : PySem.W.keepIn K (.ref C_NoRight) = true)
    (gC_BadLine : PySem.W.nsIn K mainGlobals "BadLine" = some (some (.ref C_BadLine)))
    (iC_BadLine : PySem.W.findIn K (.ref C_BadLine) "__init__" = some (some (.ref f8)))
    (lk_BadLine : K.lookup C_BadLine = some (excClassObj nm_BadLine q_BadLine C_BadLine N_BadLine bs_BadLine bm_BadLine true sn_BadLine sub_BadLine ab_BadLine col_BadLine dd_BadLine k0_BadLine k1_BadLine k2_BadLine k3_BadLine k5_BadLine "ValueError.__new__"))
    (rv_BadLine : PySem.HandSPX.refsVE bm_BadLine = true)
    (sa_BadLine : PySem.W.findIn K (.ref C_BadLine) "__setattr__" = some (some (.builtin "object.__setattr__")))
    (eb_BadLine : PySem.W.subIn K (.ref C_BadLine) (.type "BaseException") = some true)
    (ty_BadLine : PySem.W.typeIn K (.ref C_BadLine) = some (.type "type"))
    (kp_BadLine : PySem.W.keepIn K (.ref C_BadLine) = true)
    (gC_NoAnswer : PySem.W.nsIn K mainGlobals "NoAnswer" = some (some (.ref C_NoAnswer)))
    (iC_NoAnswer : PySem.W.findIn K (.ref C_NoAnswer) "__init__" = some (some (.ref f10)))
    (lk_NoAnswer : K.lookup C_NoAnswer = some (excClassObj nm_NoAnswer q_NoAnswer C_NoAnswer N_NoAnswer bs_NoAnswer bm_NoAnswer true sn_NoAnswer sub_NoAnswer ab_NoAnswer col_NoAnswer dd_NoAnswer k0_NoAnswer k1_NoAnswer k2_NoAnswer k3_NoAnswer k5_NoAnswer "ValueError.__new__"))
    (rv_NoAnswer : PySem.HandSPX.refsVE bm_NoAnswer = true)
    (sa_NoAnswer : PySem.W.findIn K (.ref C_NoAnswer) "__setattr__" = some (some (.builtin "object.__setattr__")))
    (eb_NoAnswer : PySem.W.subIn K (.ref C_NoAnswer) (.type "BaseException") = some true)
    (ty_NoAnswer : PySem.W.typeIn K (.ref C_NoAnswer) = some (.type "type"))
    (kp_NoAnswer : PySem.W.keepIn K (.ref C_NoAnswer) = true)
    (gC_NoText : PySem.W.nsIn K mainGlobals "NoText" = some (some (.ref C_NoText)))
    (iC_NoText : PySem.W.findIn K (.ref C_NoText) "__init__" = some (some (.ref f10)))
    (lk_NoText : K.lookup C_NoText = some (excClassObj nm_NoText q_NoText C_NoText N_NoText bs_NoText bm_NoText true sn_NoText sub_NoText ab_NoText col_NoText dd_NoText k0_NoText k1_NoText k2_NoText k3_NoText k5_NoText "ValueError.__new__"))
    (rv_NoText : PySem.HandSPX.refsVE bm_NoText = true)
    (sa_NoText : PySem.W.findIn K (.ref C_NoText) "__setattr__" = some (some (.builtin "object.__setattr__")))
    (eb_NoText : PySem.W.subIn K (.ref C_NoText) (.type "BaseException") = some true)
    (ty_NoText : PySem.W.typeIn K (.ref C_NoText) = some (.type "type"))
    (kp_NoText : PySem.W.keepIn K (.ref C_NoText) = true)
    (gC_NothingDone : PySem.W.nsIn K mainGlobals "NothingDone" = some (some (.ref C_NothingDone)))
    (iC_NothingDone : PySem.W.findIn K (.ref C_NothingDone) "__init__" = some (some (.ref f10)))
    (lk_NothingDone : K.lookup C_NothingDone = some (excClassObj nm_NothingDone q_NothingDone C_NothingDone N_NothingDone bs_NothingDone bm_NothingDone true sn_NothingDone sub_NothingDone ab_NothingDone col_NothingDone dd_NothingDone k0_NothingDone k1_NothingDone k2_NothingDone k3_NothingDone k5_NothingDone "ValueError.__new__"))
    (rv_NothingDone : PySem.HandSPX.refsVE bm_NothingDone = true)
    (sa_NothingDone : PySem.W.findIn K (.ref C_NothingDone) "__setattr__" = some (some (.builtin "object.__setattr__")))
    (eb_NothingDone : PySem.W.subIn K (.ref C_NothingDone) (.type "BaseException") = some true)
    (ty_NothingDone : PySem.W.typeIn K (.ref C_NothingDone) = some (.type "type"))
    (kp_NothingDone : PySem.W.keepIn K (.ref C_NothingDone) = true)
    (gC_NoLine : PySem.W.nsIn K mainGlobals "NoLine" = some (some (.ref C_NoLine)))
    (iC_NoLine : PySem.W.findIn K (.ref C_NoLine) "__init__" = some (some (.ref f10)))
    (lk_NoLine : K.lookup C_NoLine = some (excClassObj nm_NoLine q_NoLine C_NoLine N_NoLine bs_NoLine bm_NoLine true sn_NoLine sub_NoLine ab_NoLine col_NoLine dd_NoLine k0_NoLine k1_NoLine k2_NoLine k3_NoLine k5_NoLine "ValueError.__new__"))
    (rv_NoLine : PySem.HandSPX.refsVE bm_NoLine = true)
    (sa_NoLine : PySem.W.findIn K (.ref C_NoLine) "__setattr__" = some (some (.builtin "object.__setattr__")))
    (eb_NoLine : PySem.W.subIn K (.ref C_NoLine) (.type "BaseException") = some true)
    (ty_NoLine : PySem.W.typeIn K (.ref C_NoLine) = some (.type "type"))
    (kp_NoLine : PySem.W.keepIn K (.ref C_NoLine) = true)
    (gC_Unknown : PySem.W.nsIn K mainGlobals "Unknown" = some (some (.ref C_Unknown)))
    (iC_Unknown : PySem.W.findIn K (.ref C_Unknown) "__init__" = some (some (.ref f9)))
    (lk_Unknown : K.lookup C_Unknown = some (excClassObj nm_Unknown q_Unknown C_Unknown N_Unknown bs_Unknown bm_Unknown true sn_Unknown sub_Unknown ab_Unknown col_Unknown dd_Unknown k0_Unknown k1_Unknown k2_Unknown k3_Unknown k5_Unknown "ValueError.__new__"))
    (rv_Unknown : PySem.HandSPX.refsVE bm_Unknown = true)
    (sa_Unknown : PySem.W.findIn K (.ref C_Unknown) "__setattr__" = some (some (.builtin "object.__setattr__")))
    (eb_Unknown : PySem.W.subIn K (.ref C_Unknown) (.type "BaseException") = some true)
    (ty_Unknown : PySem.W.typeIn K (.ref C_Unknown) = some (.type "type"))
    (kp_Unknown : PySem.W.keepIn K (.ref C_Unknown) = true)
    (tI_BadGrid___init__ : PySem.W.typeIn K (.ref f4) = some (.type "function"))
    (tI_BadScript___init__ : PySem.W.typeIn K (.ref f5) = some (.type "function"))
    (tI_TooMany___init__ : PySem.W.typeIn K (.ref f6) = some (.type "function"))
    (tI_TooLong___init__ : PySem.W.typeIn K (.ref f7) = some (.type "function"))
    (tI_BadLine___init__ : PySem.W.typeIn K (.ref f8) = some (.type "function"))
    (tI_Unknown___init__ : PySem.W.typeIn K (.ref f9) = some (.type "function"))
    (tI_GridError___init__ : PySem.W.typeIn K (.ref f10) = some (.type "function"))
    (xf_BadGrid : xfB K C_BadGrid = true)
    (xf_BadLine : xfB K C_BadLine = true)
    (xf_BadScript : xfB K C_BadScript = true)
    (xf_TooLong : xfB K C_TooLong = true)
    (xf_TooMany : xfB K C_TooMany = true)
    (xf_Unknown : xfB K C_Unknown = true)
    (nx_BadGrid_part : PySem.W.findIn K (.ref C_BadGrid) "part" = some none)
    (nx_BadLine_place : PySem.W.findIn K (.ref C_BadLine) "place" = some none)
    (nx_BadScript_part : PySem.W.findIn K (.ref C_BadScript) "part" = some none)
    (nx_TooLong_most : PySem.W.findIn K (.ref C_TooLong) "most" = some none)
    (nx_TooMany_most : PySem.W.findIn K (.ref C_TooMany) "most" = some none)
    (nx_Unknown_name : PySem.W.findIn K (.ref C_Unknown) "name" = some none)
    (v_VE : PySem.W.findCls K (.type "ValueError") (.type "type") "__init__" = some (.val (.builtin "ValueError.__init__")))
    (xcs : xcB K C_GridError [C_BadGrid, C_BadScript, C_TooMany, C_TooLong, C_BadLine, C_Unknown, C_NoUnit, C_OtherBases, C_NoFraction, C_NoRoots, C_NoScale, C_NoCell, C_NoNumbers, C_NoGrid, C_NoOrder, C_NoValues, C_NoWay, C_NoNumber, C_NoParting, C_NotSquare, C_NoSquare, C_NoPlacing, C_NoRight, C_NoAnswer, C_NoText, C_NothingDone, C_NoLine] = true)
    (l0 : K.lookup f0 = some ⟨oc0, od0, .func (PySem.W.fnOf "_law_state" "_law_state" (defArgs s__law_state) (defBody s__law_state) (defScope s__law_state) .none kV0 dc0 pm0 an0 cd0 ct0), sl0⟩)
    (c0 : PySem.W.codeIn K cd0 "_law_state" = true)
    (k0 : PySem.W.keepIn K (.ref f0) = true)
    (l1 : K.lookup f1 = some ⟨oc1, od1, .func (PySem.W.fnOf "_law_mixed" "_law_mixed" (defArgs s__law_mixed) (defBody s__law_mixed) (defScope s__law_mixed) .none kV1 dc1 pm1 an1 cd1 ct1), sl1⟩)
    (c1 : PySem.W.codeIn K cd1 "_law_mixed" = true)
    (k1 : PySem.W.keepIn K (.ref f1) = true)
    (l2 : K.lookup f2 = some ⟨oc2, od2, .func (PySem.W.fnOf "_law_draw" "_law_draw" (defArgs s__law_draw) (defBody s__law_draw) (defScope s__law_draw) .none kV2 dc2 pm2 an2 cd2 ct2), sl2⟩)
    (c2 : PySem.W.codeIn K cd2 "_law_draw" = true)
    (k2 : PySem.W.keepIn K (.ref f2) = true)
    (l3 : K.lookup f3 = some ⟨oc3, od3, .func (PySem.W.fnOf "_law_value" "_law_value" (defArgs s__law_value) (defBody s__law_value) (defScope s__law_value) .none kV3 dc3 pm3 an3 cd3 ct3), sl3⟩)
    (c3 : PySem.W.codeIn K cd3 "_law_value" = true)
    (k3 : PySem.W.keepIn K (.ref f3) = true)
    (l4 : K.lookup f4 = some ⟨oc4, od4, .func (PySem.W.fnOf "__init__" "BadGrid.__init__" (defArgs s_BadGrid___init__) (defBody s_BadGrid___init__) (defScope s_BadGrid___init__) .none kV4 dc4 pm4 an4 cd4 ct4), sl4⟩)
    (c4 : PySem.W.codeIn K cd4 "BadGrid.__init__" = true)
    (k4 : PySem.W.keepIn K (.ref f4) = true)
    (l5 : K.lookup f5 = some ⟨oc5, od5, .func (PySem.W.fnOf "__init__" "BadScript.__init__" (defArgs s_BadScript___init__) (defBody s_BadScript___init__) (defScope s_BadScript___init__) .none kV5 dc5 pm5 an5 cd5 ct5), sl5⟩)
    (c5 : PySem.W.codeIn K cd5 "BadScript.__init__" = true)
    (k5 : PySem.W.keepIn K (.ref f5) = true)
    (l6 : K.lookup f6 = some ⟨oc6, od6, .func (PySem.W.fnOf "__init__" "TooMany.__init__" (defArgs s_TooMany___init__) (defBody s_TooMany___init__) (defScope s_TooMany___init__) .none kV6 dc6 pm6 an6 cd6 ct6), sl6⟩)
    (c6 : PySem.W.codeIn K cd6 "TooMany.__init__" = true)
    (k6 : PySem.W.keepIn K (.ref f6) = true)
    (l7 : K.lookup f7 = some ⟨oc7, od7, .func (PySem.W.fnOf "__init__" "TooLong.__init__" (defArgs s_TooLong___init__) (defBody s_TooLong___init__) (defScope s_TooLong___init__) .none kV7 dc7 pm7 an7 cd7 ct7), sl7⟩)
    (c7 : PySem.W.codeIn K cd7 "TooLong.__init__" = true)
    (k7 : PySem.W.keepIn K (.ref f7) = true)
    (l8 : K.lookup f8 = some ⟨oc8, od8, .func (PySem.W.fnOf "__init__" "BadLine.__init__" (defArgs s_BadLine___init__) (defBody s_BadLine___init__) (defScope s_BadLine___init__) .none kV8 dc8 pm8 an8 cd8 ct8), sl8⟩)
    (c8 : PySem.W.codeIn K cd8 "BadLine.__init__" = true)
    (k8 : PySem.W.keepIn K (.ref f8) = true)
    (l9 : K.lookup f9 = some ⟨oc9, od9, .func (PySem.W.fnOf "__init__" "Unknown.__init__" (defArgs s_Unknown___init__) (defBody s_Unknown___init__) (defScope s_Unknown___init__) .none kV9 dc9 pm9 an9 cd9 ct9), sl9⟩)
    (c9 : PySem.W.codeIn K cd9 "Unknown.__init__" = true)
    (k9 : PySem.W.keepIn K (.ref f9) = true)
    (l10 : K.lookup f10 = some ⟨oc10, od10, .func (PySem.W.fnOf "__init__" "GridError.__init__" (defArgs s_GridError___init__) (defBody s_GridError___init__) (defScope s_GridError___init__) .none kV10 dc10 pm10 an10 cd10 ct10), sl10⟩)
    (c10 : PySem.W.codeIn K cd10 "GridError.__init__" = true)
    (k10 : PySem.W.keepIn K (.ref f10) = true)
    (l11 : K.lookup f11 = some ⟨oc11, od11, .func (PySem.W.fnOf "_law_made" "_law_made" (defArgs s__law_made) (defBody s__law_made) (defScope s__law_made) .none kV11 dc11 pm11 an11 cd11 ct11), sl11⟩)
    (c11 : PySem.W.codeIn K cd11 "_law_made" = true)
    (k11 : PySem.W.keepIn K (.ref f11) = true)
    (l12 : K.lookup f12 = some ⟨oc12, od12, .func (PySem.W.fnOf "_law_classes" "_law_classes" (defArgs s__law_classes) (defBody s__law_classes) (defScope s__law_classes) .none kV12 dc12 pm12 an12 cd12 ct12), sl12⟩)
    (c12 : PySem.W.codeIn K cd12 "_law_classes" = true)
    (k12 : PySem.W.keepIn K (.ref f12) = true)
    (l13 : K.lookup f13 = some ⟨oc13, od13, .func (PySem.W.fnOf "_law_alike" "_law_alike" (defArgs s__law_alike) (defBody s__law_alike) (defScope s__law_alike) .none kV13 dc13 pm13 an13 cd13 ct13), sl13⟩)
    (c13 : PySem.W.codeIn K cd13 "_law_alike" = true)
    (k13 : PySem.W.keepIn K (.ref f13) = true)
    (l14 : K.lookup f14 = some ⟨oc14, od14, .func (PySem.W.fnOf "_law_kept" "_law_kept" (defArgs s__law_kept) (defBody s__law_kept) (defScope s__law_kept) .none kV14 dc14 pm14 an14 cd14 ct14), sl14⟩)
    (c14 : PySem.W.codeIn K cd14 "_law_kept" = true)
    (k14 : PySem.W.keepIn K (.ref f14) = true)
    (l15 : K.lookup f15 = some ⟨oc15, od15, .func (PySem.W.fnOf "law" "law" (defArgs s_law) (defBody s_law) (defScope s_law) .none kV15 dc15 pm15 an15 cd15 ct15), sl15⟩)
    (c15 : PySem.W.codeIn K cd15 "law" = true)
    (k15 : PySem.W.keepIn K (.ref f15) = true)
    (n_ValueError : PySem.W.nsIn K mainGlobals "ValueError" = some none)
    (n_all : PySem.W.nsIn K mainGlobals "all" = some none)
    (n_int : PySem.W.nsIn K mainGlobals "int" = some none)
    (n_isinstance : PySem.W.nsIn K mainGlobals "isinstance" = some none)
    (n_len : PySem.W.nsIn K mainGlobals "len" = some none)
    (n_list : PySem.W.nsIn K mainGlobals "list" = some none)
    (n_range : PySem.W.nsIn K mainGlobals "range" = some none)
    (n_repr : PySem.W.nsIn K mainGlobals "repr" = some none) :
    ∃ fd : FuncData, (∀ (s : Shared) (v : Value), BindsTo s fd ⟨[v], []⟩ [("script", v)]) ∧ ∀ base : Heap, K.In base → base.Ns mainGlobals mg → FnOkG Pg w K mg base CX0 4 fa fd ["script"] (spLaw K) := by
  have e := hfa.symm.trans (PySem.W.mg_of X G a15)
  cases e
  have F0 := fun_mk (st := s__law_state) l0 c0 k0
  have b0 := F0.binds (ps := ["script", "turn"]) fun _ _ _ _ _ _ us hl => match us, hl with | [_, _], _ => rfl
  have F1 := fun_mk (st := s__law_mixed) l1 c1 k1
  have b1 := F1.binds (ps := ["number", "more"]) fun _ _ _ _ _ _ us hl => match us, hl with | [_, _], _ => rfl
  have F2 := fun_mk (st := s__law_draw) l2 c2 k2
  have b2 := F2.binds (ps := ["state", "many"]) fun _ _ _ _ _ _ us hl => match us, hl with | [_, _], _ => rfl
  have F3 := fun_mk (st := s__law_value) l3 c3 k3
  have b3 := F3.binds (ps := ["state"]) fun _ _ _ _ _ _ us hl => match us, hl with | [_], _ => rfl
  have F4 := fun_mk (st := s_BadGrid___init__) l4 c4 k4
  have b4 := F4.binds (ps := ["self", "part"]) fun _ _ _ _ _ _ us hl => match us, hl with | [_, _], _ => rfl
  have F5 := fun_mk (st := s_BadScript___init__) l5 c5 k5
  have b5 := F5.binds (ps := ["self", "part"]) fun _ _ _ _ _ _ us hl => match us, hl with | [_, _], _ => rfl
  have F6 := fun_mk (st := s_TooMany___init__) l6 c6 k6
  have b6 := F6.binds (ps := ["self", "most"]) fun _ _ _ _ _ _ us hl => match us, hl with | [_, _], _ => rfl
  have F7 := fun_mk (st := s_TooLong___init__) l7 c7 k7
  have b7 := F7.binds (ps := ["self", "most"]) fun _ _ _ _ _ _ us hl => match us, hl with | [_, _], _ => rfl
  have F8 := fun_mk (st := s_BadLine___init__) l8 c8 k8
  have b8 := F8.binds (ps := ["self", "place"]) fun _ _ _ _ _ _ us hl => match us, hl with | [_, _], _ => rfl
  have F9 := fun_mk (st := s_Unknown___init__) l9 c9 k9
  have b9 := F9.binds (ps := ["self", "name"]) fun _ _ _ _ _ _ us hl => match us, hl with | [_, _], _ => rfl
  have F10 := fun_mk (st := s_GridError___init__) l10 c10 k10
  have b10 := F10.binds (ps := ["self"]) fun _ _ _ _ _ _ us hl => match us, hl with | [_], _ => rfl
  have F11 := fun_mk (st := s__law_made) l11 c11 k11
  have b11 := F11.binds (ps := ["value"]) fun _ _ _ _ _ _ us hl => match us, hl with | [_], _ => rfl
  have F12 := fun_mk (st := s__law_classes) l12 c12 k12
  have b12 := F12.binds (ps := ["e"]) fun _ _ _ _ _ _ us hl => match us, hl with | [_], _ => rfl
  have F13 := fun_mk (st := s__law_alike) l13 c13 k13
  have b13 := F13.binds (ps := ["one", "other"]) fun _ _ _ _ _ _ us hl => match us, hl with | [_, _], _ => rfl
  have F14 := fun_mk (st := s__law_kept) l14 c14 k14
  have b14 := F14.binds (ps := ["made"]) fun _ _ _ _ _ _ us hl => match us, hl with | [_], _ => rfl
  have F15 := fun_mk (st := s_law) l15 c15 k15
  have b15 := F15.binds (ps := ["script"]) fun _ _ _ _ _ _ us hl => match us, hl with | [_], _ => rfl
  let T : Txt K mg := { D__law_state := ⟨f0, _, F0, PySem.W.mg_of X G a0, b0⟩, D__law_mixed := ⟨f1, _, F1, PySem.W.mg_of X G a1, b1⟩, D__law_draw := ⟨f2, _, F2, PySem.W.mg_of X G a2, b2⟩, D__law_value := ⟨f3, _, F3, PySem.W.mg_of X G a3, b3⟩, D_BadGrid___init__ := ⟨f4, _, F4, b4⟩, D_BadScript___init__ := ⟨f5, _, F5, b5⟩, D_TooMany___init__ := ⟨f6, _, F6, b6⟩, D_TooLong___init__ := ⟨f7, _, F7, b7⟩, D_BadLine___init__ := ⟨f8, _, F8, b8⟩, D_Unknown___init__ := ⟨f9, _, F9, b9⟩, D_GridError___init__ := ⟨f10, _, F10, b10⟩, D__law_made := ⟨f11, _, F11, PySem.W.mg_of X G a11, b11⟩, D__law_classes := ⟨f12, _, F12, PySem.W.mg_of X G a12, b12⟩, D__law_alike := ⟨f13, _, F13, PySem.W.mg_of X G a13, b13⟩, D__law_kept := ⟨f14, _, F14, PySem.W.mg_of X G a14, b14⟩, D_law := ⟨fa, _, F15, PySem.W.mg_of X G a15, b15⟩, ty_BadGrid___init__ := tI_BadGrid___init__, ty_BadScript___init__ := tI_BadScript___init__, ty_TooMany___init__ := tI_TooMany___init__, ty_TooLong___init__ := tI_TooLong___init__, ty_BadLine___init__ := tI_BadLine___init__, ty_Unknown___init__ := tI_Unknown___init__, ty_GridError___init__ := tI_GridError___init__, x_GridError := ⟨C_GridError, PySem.W.mg_of X G gC_GridError, ⟨⟨_, _, _, _, _, _, _, _, _, _, _, _, _, _, _, lk_GridError, rv_GridError⟩, sa_GridError, eb_GridError, ty_GridError, kp_GridError⟩, iC_GridError⟩, x_NoUnit := ⟨C_NoUnit, PySem.W.mg_of X G gC_NoUnit, ⟨⟨_, _, _, _, _, _, _, _, _, _, _, _, _, _, _, lk_NoUnit, rv_NoUnit⟩, sa_NoUnit, eb_NoUnit, ty_NoUnit, kp_NoUnit⟩, iC_NoUnit⟩, x_OtherBases := ⟨C_OtherBases, PySem.W.mg_of X G gC_OtherBases, ⟨⟨_, _, _, _, _, _, _, _, _, _, _, _, _, _, _, lk_OtherBases, rv_OtherBases⟩, sa_OtherBases, eb_OtherBases, ty_OtherBases, kp_OtherBases⟩, iC_OtherBases⟩, x_NoFraction := ⟨C_NoFraction, PySem.W.mg_of X G gC_NoFraction, ⟨⟨_, _, _, _, _, _, _, _, _, _, _, _, _, _, _, lk_NoFraction, rv_NoFraction⟩, sa_NoFraction, eb_NoFraction, ty_NoFraction, kp_NoFraction⟩, iC_NoFraction⟩, x_NoRoots := ⟨C_NoRoots, PySem.W.mg_of X G gC_NoRoots, ⟨⟨_, _, _, _, _, _, _, _, _, _, _, _, _, _, _, lk_NoRoots, rv_NoRoots⟩, sa_NoRoots, eb_NoRoots, ty_NoRoots, kp_NoRoots⟩, iC_NoRoots⟩, x_NoScale := ⟨C_NoScale, PySem.W.mg_of X G gC_NoScale, ⟨⟨_, _, _, _, _, _, _, _, _, _, _, _, _, _, _, lk_NoScale, rv_NoScale⟩, sa_NoScale, eb_NoScale, ty_NoScale, kp_NoScale⟩, iC_NoScale⟩, x_BadGrid := ⟨C_BadGrid, PySem.W.mg_of X G gC_BadGrid, ⟨⟨_, _, _, _, _, _, _, _, _, _, _, _, _, _, _, lk_BadGrid, rv_BadGrid⟩, sa_BadGrid, eb_BadGrid, ty_BadGrid, kp_BadGrid⟩, iC_BadGrid⟩, x_NoCell := ⟨C_NoCell, PySem.W.mg_of X G gC_NoCell, ⟨⟨_, _, _, _, _, _, _, _, _, _, _, _, _, _, _, lk_NoCell, rv_NoCell⟩, sa_NoCell, eb_NoCell, ty_NoCell, kp_NoCell⟩, iC_NoCell⟩, x_NoNumbers := ⟨C_NoNumbers, PySem.W.mg_of X G gC_NoNumbers, ⟨⟨_, _, _, _, _, _, _, _, _, _, _, _, _, _, _, lk_NoNumbers, rv_NoNumbers⟩, sa_NoNumbers, eb_NoNumbers, ty_NoNumbers, kp_NoNumbers⟩, iC_NoNumbers⟩, x_BadScript := ⟨C_BadScript, PySem.W.mg_of X G gC_BadScript, ⟨⟨_, _, _, _, _, _, _, _, _, _, _, _, _, _, _, lk_BadScript, rv_BadScript⟩, sa_BadScript, eb_BadScript, ty_BadScript, kp_BadScript⟩, iC_BadScript⟩, x_NoGrid := ⟨C_NoGrid, PySem.W.mg_of X G gC_NoGrid, ⟨⟨_, _, _, _, _, _, _, _, _, _, _, _, _, _, _, lk_NoGrid, rv_NoGrid⟩, sa_NoGrid, eb_NoGrid, ty_NoGrid, kp_NoGrid⟩, iC_NoGrid⟩, x_NoOrder := ⟨C_NoOrder, PySem.W.mg_of X G gC_NoOrder, ⟨⟨_, _, _, _, _, _, _, _, _, _, _, _, _, _, _, lk_NoOrder, rv_NoOrder⟩, sa_NoOrder, eb_NoOrder, ty_NoOrder, kp_NoOrder⟩, iC_NoOrder⟩, x_NoValues := ⟨C_NoValues, PySem.W.mg_of X G gC_NoValues, ⟨⟨_, _, _, _, _, _, _, _, _, _, _, _, _, _, _, lk_NoValues, rv_NoValues⟩, sa_NoValues, eb_NoValues, ty_NoValues, kp_NoValues⟩, iC_NoValues⟩, x_NoWay := ⟨C_NoWay, PySem.W.mg_of X G gC_NoWay, ⟨⟨_, _, _, _, _, _, _, _, _, _, _, _, _, _, _, lk_NoWay, rv_NoWay⟩, sa_NoWay, eb_NoWay, ty_NoWay, kp_NoWay⟩, iC_NoWay⟩, x_NoNumber := ⟨C_NoNumber, PySem.W.mg_of X G gC_NoNumber, ⟨⟨_, _, _, _, _, _, _, _, _, _, _, _, _, _, _, lk_NoNumber, rv_NoNumber⟩, sa_NoNumber, eb_NoNumber, ty_NoNumber, kp_NoNumber⟩, iC_NoNumber⟩, x_TooMany := ⟨C_TooMany, PySem.W.mg_of X G gC_TooMany, ⟨⟨_, _, _, _, _, _, _, _, _, _, _, _, _, _, _, lk_TooMany, rv_TooMany⟩, sa_TooMany, eb_TooMany, ty_TooMany, kp_TooMany⟩, iC_TooMany⟩, x_TooLong := ⟨C_TooLong, PySem.W.mg_of X G gC_TooLong, ⟨⟨_, _, _, _, _, _, _, _, _, _, _, _, _, _, _, lk_TooLong, rv_TooLong⟩, sa_TooLong, eb_TooLong, ty_TooLong, kp_TooLong⟩, iC_TooLong⟩, x_NoParting := ⟨C_NoParting, PySem.W.mg_of X G gC_NoParting, ⟨⟨_, _, _, _, _, _, _, _, _, _, _, _, _, _, _, lk_NoParting, rv_NoParting⟩, sa_NoParting, eb_NoParting, ty_NoParting, kp_NoParting⟩, iC_NoParting⟩, x_NotSquare := ⟨C_NotSquare, PySem.W.mg_of X G gC_NotSquare, ⟨⟨_, _, _, _, _, _, _, _, _, _, _, _, _, _, _, lk_NotSquare, rv_NotSquare⟩, sa_NotSquare, eb_NotSquare, ty_NotSquare, kp_NotSquare⟩, iC_NotSquare⟩, x_NoSquare := ⟨C_NoSquare, PySem.W.mg_of X G gC_NoSquare, ⟨⟨_, _, _, _, _, _, _, _, _, _, _, _, _, _, _, lk_NoSquare, rv_NoSquare⟩, sa_NoSquare, eb_NoSquare, ty_NoSquare, kp_NoSquare⟩, iC_NoSquare⟩, x_NoPlacing := ⟨C_NoPlacing, PySem.W.mg_of X G gC_NoPlacing, ⟨⟨_, _, _, _, _, _, _, _, _, _, _, _, _, _, _, lk_NoPlacing, rv_NoPlacing⟩, sa_NoPlacing, eb_NoPlacing, ty_NoPlacing, kp_NoPlacing⟩, iC_NoPlacing⟩, x_NoRight := ⟨C_NoRight, PySem.W.mg_of X G gC_NoRight, ⟨⟨_, _, _, _, _, _, _, _, _, _, _, _, _, _, _, lk_NoRight, rv_NoRight⟩, sa_NoRight, eb_NoRight, ty_NoRight, kp_NoRight⟩, iC_NoRight⟩, x_BadLine := ⟨C_BadLine, PySem.W.mg_of X G gC_BadLine, ⟨⟨_, _, _, _, _, _, _, _, _, _, _, _, _, _, _, lk_BadLine, rv_BadLine⟩, sa_BadLine, eb_BadLine, ty_BadLine, kp_BadLine⟩, iC_BadLine⟩, x_NoAnswer := ⟨C_NoAnswer, PySem.W.mg_of X G gC_NoAnswer, ⟨⟨_, _, _, _, _, _, _, _, _, _, _, _, _, _, _, lk_NoAnswer, rv_NoAnswer⟩, sa_NoAnswer, eb_NoAnswer, ty_NoAnswer, kp_NoAnswer⟩, iC_NoAnswer⟩, x_NoText := ⟨C_NoText, PySem.W.mg_of X G gC_NoText, ⟨⟨_, _, _, _, _, _, _, _, _, _, _, _, _, _, _, lk_NoText, rv_NoText⟩, sa_NoText, eb_NoText, ty_NoText, kp_NoText⟩, iC_NoText⟩, x_NothingDone := ⟨C_NothingDone, PySem.W.mg_of X G gC_NothingDone, ⟨⟨_, _, _, _, _, _, _, _, _, _, _, _, _, _, _, lk_NothingDone, rv_NothingDone⟩, sa_NothingDone, eb_NothingDone, ty_NothingDone, kp_NothingDone⟩, iC_NothingDone⟩, x_NoLine := ⟨C_NoLine, PySem.W.mg_of X G gC_NoLine, ⟨⟨_, _, _, _, _, _, _, _, _, _, _, _, _, _, _, lk_NoLine, rv_NoLine⟩, sa_NoLine, eb_NoLine, ty_NoLine, kp_NoLine⟩, iC_NoLine⟩, x_Unknown := ⟨C_Unknown, PySem.W.mg_of X G gC_Unknown, ⟨⟨_, _, _, _, _, _, _, _, _, _, _, _, _, _, _, lk_Unknown, rv_Unknown⟩, sa_Unknown, eb_Unknown, ty_Unknown, kp_Unknown⟩, iC_Unknown⟩, xf_BadGrid := xfB_ok xf_BadGrid, xf_BadLine := xfB_ok xf_BadLine, xf_BadScript := xfB_ok xf_BadScript, xf_TooLong := xfB_ok xf_TooLong, xf_TooMany := xfB_ok xf_TooMany, xf_Unknown := xfB_ok xf_Unknown, nx_BadGrid_part := nx_BadGrid_part, nx_BadLine_place := nx_BadLine_place, nx_BadScript_part := nx_BadScript_part, nx_TooLong_most := nx_TooLong_most, nx_TooMany_most := nx_TooMany_most, nx_Unknown_name := nx_Unknown_name, xcs := xc_of xcs, v_VE := v_VE, n_ValueError := PySem.W.mg_none_of X G n_ValueError, n_all := PySem.W.mg_none_of X G n_all, n_int := PySem.W.mg_none_of X G n_int, n_isinstance := PySem.W.mg_none_of X G n_isinstance, n_len := PySem.W.mg_none_of X G n_len, n_list := PySem.W.mg_none_of X G n_list, n_range := PySem.W.mg_none_of X G n_range, n_repr := PySem.W.mg_none_of X G n_repr }
  exact ⟨T.D_law.d, fun s v => .of_eq rfl, fun base _ _ => ok_law T⟩
end Lk00
open PySem PySem.W PyProof.Rows
set_option maxRecDepth 100000 in
set_option maxHeartbeats 0 in
theorem PySem.Challenge.cw_unitgrids_k00_errors_holds : PySem.Challenge.rw_unitgrids_k00_errors.Holds := by
  w_on; o_law
  refine HeadRun.head_imp (q := Hd.q_) (H := kHook Hd.KF Hd.as_ Hd.ek_) (ob := fun s => Hd.as_.map (HeadRun.getT s)) (M := 13730) (loose := Hd.loose_) (fun s => HdT.ob_of s) Hd.run_ (by rfl) (by rfl) (by rfl) (by rfl) (by assumption) (by decide +kernel) ⟨rfl, rfl, rfl, rfl, rfl, by decide +kernel⟩ ?hw ?hc
  case hw => w_witness2
  k_fill
  refine PD.walk_ofG (l := PySem.Challenge.rw_unitgrids_k00_errors) (n := 63) (k := 4) (x := "script") (CX := fun _ => L2.CX0) (sp := fun w => PD.spLaw _) rfl (by decide) rfl ⟨rfl, by decide, by decide⟩ (fun w h Y => PySem.W.kIn_of Y) ?F (fun _ _ a ns hl _ hS => ⟨a, ns, rfl, hS, hl, fun _ => rfl⟩) (fun _ _ _ _ _ h => h)
  case F =>
    intro w mg fa h KX G hmg
    refine' Lk00.all_mk KX G hmg ?a0 ?a1 ?a2 ?a3 ?a11 ?a12 ?a13 ?a14 ?a15 ?gC_GridError ?iC_GridError ?lk_GridError ?rv_GridError ?sa_GridError ?eb_GridError ?ty_GridError ?kp_GridError ?gC_NoUnit ?iC_NoUnit ?lk_NoUnit ?rv_NoUnit ?sa_NoUnit ?eb_NoUnit ?ty_NoUnit ?kp_NoUnit ?gC_OtherBases ?iC_OtherBases ?lk_OtherBases ?rv_OtherBases ?sa_OtherBases ?eb_OtherBases ?ty_OtherBases ?kp_OtherBases ?gC_NoFraction ?iC_NoFraction ?lk_NoFraction ?rv_NoFraction ?sa_NoFraction ?eb_NoFraction ?ty_NoFraction ?kp_NoFraction ?gC_NoRoots ?iC_NoRoots ?lk_NoRoots ?rv_NoRoots ?sa_NoRoots ?eb_NoRoots ?ty_NoRoots ?kp_NoRoots ?gC_NoScale ?iC_NoScale ?lk_NoScale ?rv_NoScale ?sa_NoScale ?eb_NoScale ?ty_NoScale ?kp_NoScale ?gC_BadGrid ?iC_BadGrid ?lk_BadGrid ?rv_BadGrid ?sa_BadGrid ?eb_BadGrid ?ty_BadGrid ?kp_BadGrid ?gC_NoCell ?iC_NoCell ?lk_NoCell ?rv_NoCell ?sa_NoCell ?eb_NoCell ?ty_NoCell ?kp_NoCell ?gC_NoNumbers ?iC_NoNumbers ?lk_NoNumbers ?rv_NoNumbers ?sa_NoNumbers ?eb_NoNumbers ?ty_NoNumbers ?kp_NoNumbers ?gC_BadScript ?iC_BadScript ?lk_BadScript ?rv_BadScript ?sa_BadScript ?eb_BadScript ?ty_BadScript ?kp_BadScript ?gC_NoGrid ?iC_NoGrid ?lk_NoGrid ?rv_NoGrid ?sa_NoGrid ?eb_NoGrid ?ty_NoGrid ?kp_NoGrid ?gC_NoOrder ?iC_NoOrder ?lk_NoOrder ?rv_NoOrder ?sa_NoOrder ?eb_NoOrder ?ty_NoOrder ?kp_NoOrder ?gC_NoValues ?iC_NoValues ?lk_NoValues ?rv_NoValues ?sa_NoValues ?eb_NoValues ?ty_NoValues ?kp_NoValues ?gC_NoWay ?iC_NoWay ?lk_NoWay ?rv_NoWay ?sa_NoWay ?eb_NoWay ?ty_NoWay ?kp_NoWay ?gC_NoNumber ?iC_NoNumber ?lk_NoNumber ?rv_NoNumber ?sa_NoNumber ?eb_NoNumber ?ty_NoNumber ?kp_NoNumber ?gC_TooMany ?iC_TooMany ?lk_TooMany ?rv_TooMany ?sa_TooMany ?eb_TooMany ?ty_TooMany ?kp_TooMany ?gC_TooLong ?iC_TooLong ?lk_TooLong ?rv_TooLong ?sa_TooLong ?eb_TooLong ?ty_TooLong ?kp_TooLong ?gC_NoParting ?iC_NoParting ?lk_NoParting ?rv_NoParting ?sa_NoParting ?eb_NoParting ?ty_NoParting ?kp_NoParting ?gC_NotSquare ?iC_NotSquare ?lk_NotSquare ?rv_NotSquare ?sa_NotSquare ?eb_NotSquare ?ty_NotSquare ?kp_NotSquare ?gC_NoSquare ?iC_NoSquare ?lk_NoSquare ?rv_NoSquare ?sa_NoSquare ?eb_NoSquare ?ty_NoSquare ?kp_NoSquare ?gC_NoPlacing ?iC_NoPlacing ?lk_NoPlacing ?rv_NoPlacing ?sa_NoPlacing ?eb_NoPlacing ?ty_NoPlacing ?kp_NoPlacing ?gC_NoRight ?iC_NoRight ?lk_NoRight ?rv_NoRight ?sa_NoRight ?eb_NoRight ?ty_NoRight ?kp_NoRight ?gC_BadLine ?iC_BadLine ?lk_BadLine ?rv_BadLine ?sa_BadLine ?eb_BadLine ?ty_BadLine ?kp_BadLine ?gC_NoAnswer ?iC_NoAnswer ?lk_NoAnswer ?rv_NoAnswer ?sa_NoAnswer ?eb_NoAnswer ?ty_NoAnswer ?kp_NoAnswer ?gC_NoText ?iC_NoText ?lk_NoText ?rv_NoText ?sa_NoText ?eb_NoText ?ty_NoText ?kp_NoText ?gC_NothingDone ?iC_NothingDone ?lk_NothingDone ?rv_NothingDone ?sa_NothingDone ?eb_NothingDone ?ty_NothingDone ?kp_NothingDone ?gC_NoLine ?iC_NoLine ?lk_NoLine ?rv_NoLine ?sa_NoLine ?eb_NoLine ?ty_NoLine ?kp_NoLine ?gC_Unknown ?iC_Unknown ?lk_Unknown ?rv_Unknown ?sa_Unknown ?eb_Unknown ?ty_Unknown ?kp_Unknown ?tI_BadGrid___init__ ?tI_BadScript___init__ ?tI_TooMany___init__ ?tI_TooLong___init__ ?tI_BadLine___init__ ?tI_Unknown___init__ ?tI_GridError___init__ ?xf_BadGrid ?xf_BadLine ?xf_BadScript ?xf_TooLong ?xf_TooMany ?xf_Unknown ?nx_BadGrid_part ?nx_BadLine_place ?nx_BadScript_part ?nx_TooLong_most ?nx_TooMany_most ?nx_Unknown_name ?v_VE ?xcs ?l0 ?c0 ?k0 ?l1 ?c1 ?k1 ?l2 ?c2 ?k2 ?l3 ?c3 ?k3 ?l4 ?c4 ?k4 ?l5 ?c5 ?k5 ?l6 ?c6 ?k6 ?l7 ?c7 ?k7 ?l8 ?c8 ?k8 ?l9 ?c9 ?k9 ?l10 ?c10 ?k10 ?l11 ?c11 ?k11 ?l12 ?c12 ?k12 ?l13 ?c13 ?k13 ?l14 ?c14 ?k14 ?l15 ?c15 ?k15 ?n_ValueError ?n_all ?n_int ?n_isinstance ?n_len ?n_list ?n_range ?n_repr
    (case a0 => k_is)
    (case a1 => k_is)
    (case a2 => k_is)
    (case a3 => k_is)
    (case a11 => k_is)
    (case a12 => k_is)
    (case a13 => k_is)
    (case a14 => k_is)
    (case a15 => k_is)
    (case gC_GridError => k_is)
    (case iC_GridError => k_is)
    (case lk_GridError => k_is)
    (case rv_GridError => kernel_rfl)
    (case sa_GridError => k_is)
    (case eb_GridError => k_is)
    (case ty_GridError => k_is)
    (case kp_GridError => k_is)
    (case gC_NoUnit => k_is)
    (case iC_NoUnit => k_is)
    (case lk_NoUnit => k_is)
    (case rv_NoUnit => kernel_rfl)
    (case sa_NoUnit => k_is)
    (case eb_NoUnit => k_is)
    (case ty_NoUnit => k_is)
    (case kp_NoUnit => k_is)
    (case gC_OtherBases => k_is)
    (case iC_OtherBases => k_is)
    (case lk_OtherBases => k_is)
    (case rv_OtherBases => kernel_rfl)
    (case sa_OtherBases => k_is)
    (case eb_OtherBases => k_is)
    (case ty_OtherBases => k_is)
    (case kp_OtherBases => k_is)
    (case gC_NoFraction => k_is)
    (case iC_NoFraction => k_is)
    (case lk_NoFraction => k_is)
    (case rv_NoFraction => kernel_rfl)
    (case sa_NoFraction => k_is)
    (case eb_NoFraction => k_is)
    (case ty_NoFraction => k_is)
    (case kp_NoFraction => k_is)
    (case gC_NoRoots => k_is)
    (case iC_NoRoots => k_is)
    (case lk_NoRoots => k_is)
    (case rv_NoRoots => kernel_rfl)
    (case sa_NoRoots => k_is)
    (case eb_NoRoots => k_is)
    (case ty_NoRoots => k_is)
    (case kp_NoRoots => k_is)
    (case gC_NoScale => k_is)
    (case iC_NoScale => k_is)
    (case lk_NoScale => k_is)
    (case rv_NoScale => kernel_rfl)
    (case sa_NoScale => k_is)
    (case eb_NoScale => k_is)
    (case ty_NoScale => k_is)
    (case kp_NoScale => k_is)
    (case gC_BadGrid => k_is)
    (case iC_BadGrid => k_is)
    (case lk_BadGrid => k_is)
    (case rv_BadGrid => kernel_rfl)
    (case sa_BadGrid => k_is)
    (case eb_BadGrid => k_is)
    (case ty_BadGrid => k_is)
    (case kp_BadGrid => k_is)
    (case gC_NoCell => k_is)
    (case iC_NoCell => k_is)
    (case lk_NoCell => k_is)
    (case rv_NoCell => kernel_rfl)
    (case sa_NoCell => k_is)
    (case eb_NoCell => k_is)
    (case ty_NoCell => k_is)
    (case kp_NoCell => k_is)
    (case gC_NoNumbers => k_is)
    (case iC_NoNumbers => k_is)
    (case lk_NoNumbers => k_is)
    (case rv_NoNumbers => kernel_rfl)
    (case sa_NoNumbers => k_is)
    (case eb_NoNumbers => k_is)
    (case ty_NoNumbers => k_is)
    (case kp_NoNumbers => k_is)
    (case gC_BadScript => k_is)
    (case iC_BadScript => k_is)
    (case lk_BadScript => k_is)
    (case rv_BadScript => kernel_rfl)
    (case sa_BadScript => k_is)
    (case eb_BadScript => k_is)
    (case ty_BadScript => k_is)
    (case kp_BadScript => k_is)
    (case gC_NoGrid => k_is)
    (case iC_NoGrid => k_is)
    (case lk_NoGrid => k_is)
    (case rv_NoGrid => kernel_rfl)
    (case sa_NoGrid => k_is)
    (case eb_NoGrid => k_is)
    (case ty_NoGrid => k_is)
    (case kp_NoGrid => k_is)
    (case gC_NoOrder => k_is)
    (case iC_NoOrder => k_is)
    (case lk_NoOrder => k_is)
    (case rv_NoOrder => kernel_rfl)
    (case sa_NoOrder => k_is)
    (case eb_NoOrder => k_is)
    (case ty_NoOrder => k_is)
    (case kp_NoOrder => k_is)
    (case gC_NoValues => k_is)
    (case iC_NoValues => k_is)
    (case lk_NoValues => k_is)
    (case rv_NoValues => kernel_rfl)
    (case sa_NoValues => k_is)
    (case eb_NoValues => k_is)
    (case ty_NoValues => k_is)
    (case kp_NoValues => k_is)
    (case gC_NoWay => k_is)
    (case iC_NoWay => k_is)
    (case lk_NoWay => k_is)
    (case rv_NoWay => kernel_rfl)
    (case sa_NoWay => k_is)
    (case eb_NoWay => k_is)
    (case ty_NoWay => k_is)
    (case kp_NoWay => k_is)
    (case gC_NoNumber => k_is)
    (case iC_NoNumber => k_is)
    (case lk_NoNumber => k_is)
    (case rv_NoNumber => kernel_rfl)
    (case sa_NoNumber => k_is)
    (case eb_NoNumber => k_is)
    (case ty_NoNumber => k_is)
    (case kp_NoNumber => k_is)
    (case gC_TooMany => k_is)
    (case iC_TooMany => k_is)
    (case lk_TooMany => k_is)
    (case rv_TooMany => kernel_rfl)
    (case sa_TooMany => k_is)
    (case eb_TooMany => k_is)
    (case ty_TooMany => k_is)
    (case kp_TooMany => k_is)
    (case gC_TooLong => k_is)
    (case iC_TooLong => k_is)
    (case lk_TooLong => k_is)
    (case rv_TooLong => kernel_rfl)
    (case sa_TooLong => k_is)
    (case eb_TooLong => k_is)
    (case ty_TooLong => k_is)
    (case kp_TooLong => k_is)
    (case gC_NoParting => k_is)
    (case iC_NoParting => k_is)
    (case lk_NoParting => k_is)
    (case rv_NoParting => kernel_rfl)
    (case sa_NoParting => k_is)
    (case eb_NoParting => k_is)
    (case ty_NoParting => k_is)
    (case kp_NoParting => k_is)
    (case gC_NotSquare => k_is)
    (case iC_NotSquare => k_is)
    (case lk_NotSquare => k_is)
    (case rv_NotSquare => kernel_rfl)
    (case sa_NotSquare => k_is)
    (case eb_NotSquare => k_is)
    (case ty_NotSquare => k_is)
    (case kp_NotSquare => k_is)
    (case gC_NoSquare => k_is)
    (case iC_NoSquare => k_is)
    (case lk_NoSquare => k_is)
    (case rv_NoSquare => kernel_rfl)
    (case sa_NoSquare => k_is)
    (case eb_NoSquare => k_is)
    (case ty_NoSquare => k_is)
    (case kp_NoSquare => k_is)
    (case gC_NoPlacing => k_is)
    (case iC_NoPlacing => k_is)
    (case lk_NoPlacing => k_is)
    (case rv_NoPlacing => kernel_rfl)
    (case sa_NoPlacing => k_is)
    (case eb_NoPlacing => k_is)
    (case ty_NoPlacing => k_is)
    (case kp_NoPlacing => k_is)
    (case gC_NoRight => k_is)
    (case iC_NoRight => k_is)
    (case lk_NoRight => k_is)
    (case rv_NoRight => kernel_rfl)
    (case sa_NoRight => k_is)
    (case eb_NoRight => k_is)
    (case ty_NoRight => k_is)
    (case kp_NoRight => k_is)
    (case gC_BadLine => k_is)
    (case iC_BadLine => k_is)
    (case lk_BadLine => k_is)
    (case rv_BadLine => kernel_rfl)
    (case sa_BadLine => k_is)
    (case eb_BadLine => k_is)
    (case ty_BadLine => k_is)
    (case kp_BadLine => k_is)
    (case gC_NoAnswer => k_is)
    (case iC_NoAnswer => k_is)
    (case lk_NoAnswer => k_is)
    (case rv_NoAnswer => kernel_rfl)
    (case sa_NoAnswer => k_is)
    (case eb_NoAnswer => k_is)
    (case ty_NoAnswer => k_is)
    (case kp_NoAnswer => k_is)
    (case gC_NoText => k_is)
    (case iC_NoText => k_is)
    (case lk_NoText => k_is)
    (case rv_NoText => kernel_rfl)
    (case sa_NoText => k_is)
    (case eb_NoText => k_is)
    (case ty_NoText => k_is)
    (case kp_NoText => k_is)
    (case gC_NothingDone => k_is)
    (case iC_NothingDone => k_is)
    (case lk_NothingDone => k_is)
    (case rv_NothingDone => kernel_rfl)
    (case sa_NothingDone => k_is)
    (case eb_NothingDone => k_is)
    (case ty_NothingDone => k_is)
    (case kp_NothingDone => k_is)
    (case gC_NoLine => k_is)
    (case iC_NoLine => k_is)
    (case lk_NoLine => k_is)
    (case rv_NoLine => kernel_rfl)
    (case sa_NoLine => k_is)
    (case eb_NoLine => k_is)
    (case ty_NoLine => k_is)
    (case kp_NoLine => k_is)
    (case gC_Unknown => k_is)
    (case iC_Unknown => k_is)
    (case lk_Unknown => k_is)
    (case rv_Unknown => kernel_rfl)
    (case sa_Unknown => k_is)
    (case eb_Unknown => k_is)
    (case ty_Unknown => k_is)
    (case kp_Unknown => k_is)
    (case tI_BadGrid___init__ => k_is)
    (case tI_BadScript___init__ => k_is)
    (case tI_TooMany___init__ => k_is)
    (case tI_TooLong___init__ => k_is)
    (case tI_BadLine___init__ => k_is)
    (case tI_Unknown___init__ => k_is)
    (case tI_GridError___init__ => k_is)
    (case xf_BadGrid => kernel_rfl)
    (case xf_BadLine => kernel_rfl)
    (case xf_BadScript => kernel_rfl)
    (case xf_TooLong => kernel_rfl)
    (case xf_TooMany => kernel_rfl)
    (case xf_Unknown => kernel_rfl)
    (case nx_BadGrid_part => k_is)
    (case nx_BadLine_place => k_is)
    (case nx_BadScript_part => k_is)
    (case nx_TooLong_most => k_is)
    (case nx_TooMany_most => k_is)
    (case nx_Unknown_name => k_is)
    (case v_VE => k_is)
    (case xcs => kernel_rfl)
    (case l0 => k_is)
    (case c0 => k_is)
    (case k0 => k_is)
    (case l1 => k_is)
    (case c1 => k_is)
    (case k1 => k_is)
    (case l2 => k_is)
    (case c2 => k_is)
    (case k2 => k_is)
    (case l3 => k_is)
    (case c3 => k_is)
    (case k3 => k_is)
    (case l4 => k_is)
    (case c4 => k_is)
    (case k4 => k_is)
    (case l5 => k_is)
    (case c5 => k_is)
    (case k5 => k_is)
    (case l6 => k_is)
    (case c6 => k_is)
    (case k6 => k_is)
    (case l7 => k_is)
    (case c7 => k_is)
    (case k7 => k_is)
    (case l8 => k_is)
    (case c8 => k_is)
    (case k8 => k_is)
    (case l9 => k_is)
    (case c9 => k_is)
    (case k9 => k_is)
    (case l10 => k_is)
    (case c10 => k_is)
    (case k10 => k_is)
    (case l11 => k_is)
    (case c11 => k_is)
    (case k11 => k_is)
    (case l12 => k_is)
    (case c12 => k_is)
    (case k12 => k_is)
    (case l13 => k_is)
    (case c13 => k_is)
    (case k13 => k_is)
    (case l14 => k_is)
    (case c14 => k_is)
    (case k14 => k_is)
    (case l15 => k_is)
    (case c15 => k_is)
    (case k15 => k_is)
    (case n_ValueError => k_is)
    (case n_all => k_is)
    (case n_int => k_is)
    (case n_isinstance => k_is)
    (case n_len => k_is)
    (case n_list => k_is)
    (case n_range => k_is)
    (case n_repr => k_is)
