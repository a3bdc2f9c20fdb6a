import PyProof.Rows.All
import Wide.All
import OpenK.AllK
import Wide.FinOn
import Lean
import PyProof.EqAt
import PyProof.EqKinds
import PyProof.TupleCall
import PySem.Challenge.RW_readgrove_k81_no_grammars
set_option Elab.async false
set_option compiler.extract_closed false
set_option bootstrap.genMatcherCode false
set_option linter.all false
set_option maxRecDepth 100000
namespace L2
open PySem PySem.Spec PyProof.Rows
def a4 (s : Stmt) : Arguments := match s with
 | .FunctionDef _ a _ _ _ _ _ _ _ _ => a
 | _ => { posonlyargs := [], args := [], vararg := none, kwonlyargs := [], kw_defaults := [], kwarg := none, defaults := [] }
def aM (s : Stmt) : List Stmt := match s with
 | .FunctionDef _ _ b _ _ _ _ _ _ _ => b
 | _ => []
def aE (s : Stmt) : Scope := match s with
 | .FunctionDef _ _ _ _ _ _ sc _ _ _ => sc
 | _ => { kind := .function, names := [], isGenerator := false, isCoroutine := false }
end L2
namespace Rg
open PySem PySem.Spec PyProof.Rows L2
noncomputable def aP (i : Nat) : Stmt := PySem.Challenge.pw_readgrove_k81_no_grammars.main.body.getD i (.Pass ⟨0, 0, 0, 0⟩)
noncomputable abbrev c7 : Stmt := aP 11
noncomputable abbrev dU : Stmt := aP 12
noncomputable abbrev eW : Stmt := aP 13
noncomputable abbrev eX : Stmt := aP 14
noncomputable abbrev fI : Stmt := aP 15
noncomputable abbrev uB : Stmt := aP 19
noncomputable abbrev uC : Stmt := aP 20
noncomputable abbrev uD : Stmt := aP 21
noncomputable abbrev uE : Stmt := aP 22
noncomputable abbrev uF : Stmt := aP 23
noncomputable abbrev eJ : Stmt := aP 24
noncomputable abbrev eK : Stmt := aP 25
noncomputable abbrev eY : Stmt := aP 26
noncomputable abbrev eZ : Stmt := aP 32
noncomputable abbrev e6 : Stmt := aP 33
noncomputable abbrev eL : Stmt := aP 34
noncomputable abbrev fJ : Stmt := aP 35
noncomputable abbrev f7 : Stmt := aP 36
noncomputable abbrev e7 : Stmt := aP 37
noncomputable abbrev fK : Stmt := aP 38
noncomputable abbrev f9 : Stmt := aP 39
noncomputable abbrev eM : Stmt := aP 41
noncomputable abbrev e8 : Stmt := aP 42
noncomputable abbrev eO : Stmt := aP 43
noncomputable abbrev e9 : Stmt := aP 44
noncomputable abbrev fL : Stmt := aP 45
noncomputable abbrev fM : Stmt := aP 46
noncomputable abbrev fN : Stmt := aP 47
noncomputable abbrev fO : Stmt := aP 48
noncomputable abbrev gA : Stmt := aP 49
noncomputable abbrev d9 : Stmt := aP 50
noncomputable abbrev eQ : Stmt := aP 51
noncomputable abbrev fP : Stmt := aP 52
noncomputable abbrev gB : Stmt := aP 53
noncomputable abbrev gC : Stmt := aP 54
noncomputable abbrev hJ : Stmt := aP 55
noncomputable def en (P : Params) (x : String) (t : Tok) (v : Value) : DictEntry := ⟨PyData.keyHash P (Str.ofString x), .str (Str.ofString x) t, v⟩
noncomputable def hpK : Params → PySem.W.Frag := fun P => [(nat_lit 3, ⟨(.type "dict"), none, .dict [en P "__name__" 165 (.str (Str.ofString "law_readgrove_k81_no_grammars") 502), en P "__doc__" 166 .none, en P "__package__" 167 .none, en P "__loader__" 168 (.builtin "__main__.__loader__#opaque"), en P "__spec__" 169 .none, en P "__annotations__" 170 (.ref 6), en P "__builtins__" 171 (.ref 4), en P "__file__" 173 (.str (Str.ofString "/claim/cut.py") 172), en P "__cached__" 174 .none, en P "GroveError" 206 (.ref 24), en P "NoGrammar" 222 (.ref 37), en P "NoReading" 238 (.ref 49), en P "Endless" 254 (.ref 61), en P "TooMany" 270 (.ref 73), en P "NoText" 286 (.ref 85), en P "NoOrder" 302 (.ref 97), en P "GREAT_LETTERS" 306 (.str (Str.ofString "ABCDEFGHIJKLMNOPQRSTUVWXYZ") 305), en P "FIGURES" 308 (.str (Str.ofString "0123456789") 307), en P "made_of" 314 (.ref 104), en P "is_name" 323 (.ref 111), en P "names" 332 (.ref 118), en P "check_rule" 341 (.ref 125), en P "grammar_of" 350 (.ref 132), en P "FEW_BITS" 354 (.int 4000 353), en P "PIECE_FIGURES" 356 (.int 64 355), en P "all_bits" 363 (.ref 139), en P "low_bits" 371 (.ref 146), en P "halving_size" 379 (.ref 153), en P "divided_by_upper" 393 (.ref 160), en P "divided_by_size" 405 (.ref 167), en P "divided" 422 (.ref 174), en P "squared_powers" 430 (.ref 181), en P "figures_of" 436 (.ref 186), en P "SMALL_LETTERS" 440 (.str (Str.ofString "abcdefghijklmnopqrstuvwxyz") 439), en P "MOST_LETTERS" 442 (.int 8 441), en P "MOST_NAME_FIGURES" 444 (.int 4 443), en P "MOST_FIGURES" 446 (.int 60 445), en P "writes_word" 453 (.ref 193), en P "writes_name" 461 (.ref 200), en P "writes_number" 468 (.ref 207), en P "shown_rule" 476 (.ref 214), en P "shown_grammar" 482 (.ref 219), en P "written_cost" 489 (.ref 226), en P "read_rule" 495 (.ref 231), en P "read_grammar" 501 (.ref 236), en P "_law_cell_at" 511 (.ref 243), en P "_law_heads" 517 (.ref 248), en P "_law_word" 523 (.ref 253), en P "_law_rule" 536 (.ref 260), en P "_law_rules" 546 (.ref 267), en P "_law_shown" 558 (.ref 274), en P "_law_odd" 566 (.ref 281), en P "_law_long" 574 (.ref 288), en P "_law_text" 588 (.ref 295), en P "_law_of" 594 (.ref 300), en P "_law_is_head" 605 (.ref 307), en P "_law_row" 614 (.ref 314), en P "_law_due" 620 (.ref 319), en P "_law_kinds" 628 (.ref 326), en P "law" 640 (.ref 333)].toArray 60, #[]⟩),
 (nat_lit 23, ⟨(.type "dict"), none, .dict [en P "__module__" 196 (.str (Str.ofString "readgrove.errors") 187), en P "__firstlineno__" 200 (.int 2 199), en P "__static_attributes__" 201 (.ref 22), en P "__weakref__" 203 (.ref 25), en P "__doc__" 204 .none].toArray 3, #[]⟩),
 (nat_lit 24, ⟨(.type "type"), none, .cls ⟨(Str.ofString "GroveError"), [(.type "ValueError")], [(.ref 24), (.type "ValueError"), (.type "Exception"), (.type "BaseException"), (.type "object")], 23, (Str.ofString "GroveError"), true, [], [(.ref 37), (.ref 49), (.ref 61), (.ref 73), (.ref 85), (.ref 97)], false, none, false⟩, #[some (.ref 15), none, some (.str (Str.ofString "GroveError") 189), some (.str (Str.ofString "GroveError") 197), some (.builtin "ValueError.__new__"), some (.bool true)]⟩),
 (nat_lit 36, ⟨(.type "dict"), none, .dict [en P "__module__" 214 (.str (Str.ofString "readgrove.errors") 187), en P "__firstlineno__" 218 (.int 4 217), en P "__static_attributes__" 219 (.ref 35), en P "__doc__" 220 .none].toArray 2, #[]⟩),
 (nat_lit 37, ⟨(.type "type"), none, .cls ⟨(Str.ofString "NoGrammar"), [(.ref 24)], [(.ref 37), (.ref 24), (.type "ValueError"), (.type "Exception"), (.type "BaseException"), (.type "object")], 36, (Str.ofString "NoGrammar"), true, [], [], false, none, false⟩, #[some (.ref 28), none, some (.str (Str.ofString "NoGrammar") 207), some (.str (Str.ofString "NoGrammar") 215), some (.builtin "ValueError.__new__"), some (.bool true)]⟩),
 (nat_lit 48, ⟨(.type "dict"), none, .dict [en P "__module__" 230 (.str (Str.ofString "readgrove.errors") 187), en P "__firstlineno__" 234 (.int 6 233), en P "__static_attributes__" 235 (.ref 47), en P "__doc__" 236 .none].toArray 2, #[]⟩),
 (nat_lit 49, ⟨(.type "type"), none, .cls ⟨(Str.ofString "NoReading"), [(.ref 24)], [(.ref 49), (.ref 24), (.type "ValueError"), (.type "Exception"), (.type "BaseException"), (.type "object")], 48, (Str.ofString "NoReading"), true, [], [], false, none, false⟩, #[some (.ref 40), none, some (.str (Str.ofString "NoReading") 223), some (.str (Str.ofString "NoReading") 231), some (.builtin "ValueError.__new__"), some (.bool true)]⟩),
 (nat_lit 60, ⟨(.type "dict"), none, .dict [en P "__module__" 246 (.str (Str.ofString "readgrove.errors") 187), en P "__firstlineno__" 250 (.int 8 249), en P "__static_attributes__" 251 (.ref 59), en P "__doc__" 252 .none].toArray 2, #[]⟩),
 (nat_lit 61, ⟨(.type "type"), none, .cls ⟨(Str.ofString "Endless"), [(.ref 24)], [(.ref 61), (.ref 24), (.type "ValueError"), (.type "Exception"), (.type "BaseException"), (.type "object")], 60, (Str.ofString "Endless"), true, [], [], false, none, false⟩, #[some (.ref 52), none, some (.str (Str.ofString "Endless") 239), some (.str (Str.ofString "Endless") 247), some (.builtin "ValueError.__new__"), some (.bool true)]⟩),
 (nat_lit 72, ⟨(.type "dict"), none, .dict [en P "__module__" 262 (.str (Str.ofString "readgrove.errors") 187), en P "__firstlineno__" 266 (.int 10 265), en P "__static_attributes__" 267 (.ref 71), en P "__doc__" 268 .none].toArray 2, #[]⟩),
 (nat_lit 73, ⟨(.type "type"), none, .cls ⟨(Str.ofString "TooMany"), [(.ref 24)], [(.ref 73), (.ref 24), (.type "ValueError"), (.type "Exception"), (.type "BaseException"), (.type "object")], 72, (Str.ofString "TooMany"), true, [], [], false, none, false⟩, #[some (.ref 64), none, some (.str (Str.ofString "TooMany") 255), some (.str (Str.ofString "TooMany") 263), some (.builtin "ValueError.__new__"), some (.bool true)]⟩),
 (nat_lit 84, ⟨(.type "dict"), none, .dict [en P "__module__" 278 (.str (Str.ofString "readgrove.errors") 187), en P "__firstlineno__" 282 (.int 12 281), en P "__static_attributes__" 283 (.ref 83), en P "__doc__" 284 .none].toArray 2, #[]⟩),
 (nat_lit 85, ⟨(.type "type"), none, .cls ⟨(Str.ofString "NoText"), [(.ref 24)], [(.ref 85), (.ref 24), (.type "ValueError"), (.type "Exception"), (.type "BaseException"), (.type "object")], 84, (Str.ofString "NoText"), true, [], [], false, none, false⟩, #[some (.ref 76), none, some (.str (Str.ofString "NoText") 271), some (.str (Str.ofString "NoText") 279), some (.builtin "ValueError.__new__"), some (.bool true)]⟩),
 (nat_lit 96, ⟨(.type "dict"), none, .dict [en P "__module__" 294 (.str (Str.ofString "readgrove.errors") 187), en P "__firstlineno__" 298 (.int 14 297), en P "__static_attributes__" 299 (.ref 95), en P "__doc__" 300 .none].toArray 2, #[]⟩),
 (nat_lit 97, ⟨(.type "type"), none, .cls ⟨(Str.ofString "NoOrder"), [(.ref 24)], [(.ref 97), (.ref 24), (.type "ValueError"), (.type "Exception"), (.type "BaseException"), (.type "object")], 96, (Str.ofString "NoOrder"), true, [], [], false, none, false⟩, #[some (.ref 88), none, some (.str (Str.ofString "NoOrder") 287), some (.str (Str.ofString "NoOrder") 295), some (.builtin "ValueError.__new__"), some (.bool true)]⟩),
 (nat_lit 103, ⟨(.type "code"), none, .fields #[(.str (Str.ofString "made_of") 309), (.str (Str.ofString "made_of") 310), (.str (Str.ofString "/claim/cut.py") 311), (.int 19 0), (.int 2 0), (.int 0 0), (.int 0 0), (.int 3 0), (.ref 100), (.bool true), (.int 181 0), (.ref 101), .none, .none, .none, (.ref 102), (.int 312 0), (.int 19 0), (.str (Str.ofString "/claim/cut.py") 313)], #[]⟩),
 (nat_lit 104, ⟨(.type "function"), none, .func (PySem.W.fnOf "made_of" "made_of" (a4 c7) (aM c7) (aE c7) .none .none .none (.str (Str.ofString "readgrove.grammars") 303) none (.ref 103) .none), #[]⟩),
 (nat_lit 110, ⟨(.type "code"), none, .fields #[(.str (Str.ofString "is_name") 315), (.str (Str.ofString "is_name") 316), (.str (Str.ofString "/claim/cut.py") 317), (.int 21 0), (.int 1 0), (.int 0 0), (.int 0 0), (.int 3 0), (.ref 105), (.bool true), (.int 181 0), (.ref 106), .none, (.ref 107), (.ref 108), (.ref 109), (.int 321 0), (.int 21 0), (.str (Str.ofString "/claim/cut.py") 322)], #[]⟩),
 (nat_lit 111, ⟨(.type "function"), none, .func (PySem.W.fnOf "is_name" "is_name" (a4 dU) (aM dU) (aE dU) .none .none .none (.str (Str.ofString "readgrove.grammars") 303) none (.ref 110) .none), #[]⟩),
 (nat_lit 117, ⟨(.type "code"), none, .fields #[(.str (Str.ofString "names") 324), (.str (Str.ofString "names") 325), (.str (Str.ofString "/claim/cut.py") 326), (.int 25 0), (.int 1 0), (.int 0 0), (.int 0 0), (.int 3 0), (.ref 112), (.bool true), (.int 181 0), (.ref 113), .none, (.ref 114), (.ref 115), (.ref 116), (.int 330 0), (.int 25 0), (.str (Str.ofString "/claim/cut.py") 331)], #[]⟩),
 (nat_lit 118, ⟨(.type "function"), none, .func (PySem.W.fnOf "names" "names" (a4 eW) (aM eW) (aE eW) .none .none .none (.str (Str.ofString "readgrove.grammars") 303) none (.ref 117) .none), #[]⟩),
 (nat_lit 124, ⟨(.type "code"), none, .fields #[(.str (Str.ofString "check_rule") 333), (.str (Str.ofString "check_rule") 334), (.str (Str.ofString "/claim/cut.py") 335), (.int 30 0), (.int 2 0), (.int 0 0), (.int 0 0), (.int 3 0), (.ref 119), (.bool true), (.int 181 0), (.ref 120), .none, (.ref 121), (.ref 122), (.ref 123), (.int 339 0), (.int 30 0), (.str (Str.ofString "/claim/cut.py") 340)], #[]⟩),
 (nat_lit 125, ⟨(.type "function"), none, .func (PySem.W.fnOf "check_rule" "check_rule" (a4 eX) (aM eX) (aE eX) .none .none .none (.str (Str.ofString "readgrove.grammars") 303) none (.ref 124) .none), #[]⟩),
 (nat_lit 131, ⟨(.type "code"), none, .fields #[(.str (Str.ofString "grammar_of") 342), (.str (Str.ofString "grammar_of") 343), (.str (Str.ofString "/claim/cut.py") 344), (.int 36 0), (.int 1 0), (.int 0 0), (.int 0 0), (.int 3 0), (.ref 126), (.bool true), (.int 181 0), (.ref 127), .none, (.ref 128), (.ref 129), (.ref 130), (.int 348 0), (.int 36 0), (.str (Str.ofString "/claim/cut.py") 349)], #[]⟩),
 (nat_lit 132, ⟨(.type "function"), none, .func (PySem.W.fnOf "grammar_of" "grammar_of" (a4 fI) (aM fI) (aE fI) .none .none .none (.str (Str.ofString "readgrove.grammars") 303) none (.ref 131) .none), #[]⟩),
 (nat_lit 138, ⟨(.type "code"), none, .fields #[(.str (Str.ofString "all_bits") 357), (.str (Str.ofString "all_bits") 358), (.str (Str.ofString "/claim/cut.py") 359), (.int 46 0), (.int 1 0), (.int 0 0), (.int 0 0), (.int 3 0), (.ref 133), (.bool true), (.int 181 0), (.ref 134), .none, (.ref 135), (.ref 136), (.ref 137), (.int 361 0), (.int 46 0), (.str (Str.ofString "/claim/cut.py") 362)], #[]⟩),
 (nat_lit 139, ⟨(.type "function"), none, .func (PySem.W.fnOf "all_bits" "all_bits" (a4 uB) (aM uB) (aE uB) .none .none .none (.str (Str.ofString "readgrove.greats") 351) none (.ref 138) .none), #[]⟩),
 (nat_lit 145, ⟨(.type "code"), none, .fields #[(.str (Str.ofString "low_bits") 364), (.str (Str.ofString "low_bits") 365), (.str (Str.ofString "/claim/cut.py") 366), (.int 48 0), (.int 2 0), (.int 0 0), (.int 0 0), (.int 3 0), (.ref 140), (.bool true), (.int 181 0), (.ref 141), .none, (.ref 142), (.ref 143), (.ref 144), (.int 369 0), (.int 48 0), (.str (Str.ofString "/claim/cut.py") 370)], #[]⟩),
 (nat_lit 146, ⟨(.type "function"), none, .func (PySem.W.fnOf "low_bits" "low_bits" (a4 uC) (aM uC) (aE uC) .none .none .none (.str (Str.ofString "readgrove.greats") 351) none (.ref 145) .none), #[]⟩),
 (nat_lit 152, ⟨(.type "code"), none, .fields #[(.str (Str.ofString "halving_size") 372), (.str (Str.ofString "halving_size") 373), (.str (Str.ofString "/claim/cut.py") 374), (.int 50 0), (.int 1 0), (.int 0 0), (.int 0 0), (.int 3 0), (.ref 147), (.bool true), (.int 181 0), (.ref 148), .none, (.ref 149), (.ref 150), (.ref 151), (.int 377 0), (.int 50 0), (.str (Str.ofString "/claim/cut.py") 378)], #[]⟩),
 (nat_lit 153, ⟨(.type "function"), none, .func (PySem.W.fnOf "halving_size" "halving_size" (a4 uD) (aM uD) (aE uD) .none .none .none (.str (Str.ofString "readgrove.greats") 351) none (.ref 152) .none), #[]⟩),
 (nat_lit 159, ⟨(.type "code"), none, .fields #[(.str (Str.ofString "divided_by_upper") 380), (.str (Str.ofString "divided_by_upper") 381), (.str (Str.ofString "/claim/cut.py") 382), (.int 55 0), (.int 3 0), (.int 0 0), (.int 0 0), (.int 3 0), (.ref 154), (.bool true), (.int 181 0), (.ref 155), .none, (.ref 156), (.ref 157), (.ref 158), (.int 391 0), (.int 55 0), (.str (Str.ofString "/claim/cut.py") 392)], #[]⟩),
 (nat_lit 160, ⟨(.type "function"), none, .func (PySem.W.fnOf "divided_by_upper" "divided_by_upper" (a4 uE) (aM uE) (aE uE) .none .none .none (.str (Str.ofString "readgrove.greats") 351) none (.ref 159) .none), #[]⟩),
 (nat_lit 166, ⟨(.type "code"), none, .fields #[(.str (Str.ofString "divided_by_size") 394), (.str (Str.ofString "divided_by_size") 395), (.str (Str.ofString "/claim/cut.py") 396), (.int 68 0), (.int 3 0), (.int 0 0), (.int 0 0), (.int 3 0), (.ref 161), (.bool true), (.int 181 0), (.ref 162), .none, (.ref 163), (.ref 164), (.ref 165), (.int 403 0), (.int 68 0), (.str (Str.ofString "/claim/cut.py") 404)], #[]⟩),
 (nat_lit 167, ⟨(.type "function"), none, .func (PySem.W.fnOf "divided_by_size" "divided_by_size" (a4 uF) (aM uF) (aE uF) .none .none .none (.str (Str.ofString "readgrove.greats") 351) none (.ref 166) .none), #[]⟩),
 (nat_lit 173, ⟨(.type "code"), none, .fields #[(.str (Str.ofString "divided") 406), (.str (Str.ofString "divided") 407), (.str (Str.ofString "/claim/cut.py") 408), (.int 75 0), (.int 2 0), (.int 0 0), (.int 0 0), (.int 3 0), (.ref 168), (.bool true), (.int 181 0), (.ref 169), .none, (.ref 170), (.ref 171), (.ref 172), (.int 420 0), (.int 75 0), (.str (Str.ofString "/claim/cut.py") 421)], #[]⟩),
 (nat_lit 174, ⟨(.type "function"), none, .func (PySem.W.fnOf "divided" "divided" (a4 eJ) (aM eJ) (aE eJ) .none .none .none (.str (Str.ofString "readgrove.greats") 351) none (.ref 173) .none), #[]⟩),
 (nat_lit 180, ⟨(.type "code"), none, .fields #[(.str (Str.ofString "squared_powers") 423), (.str (Str.ofString "squared_powers") 424), (.str (Str.ofString "/claim/cut.py") 425), (.int 90 0), (.int 1 0), (.int 0 0), (.int 0 0), (.int 3 0), (.ref 175), (.bool true), (.int 181 0), (.ref 176), .none, (.ref 177), (.ref 178), (.ref 179), (.int 428 0), (.int 90 0), (.str (Str.ofString "/claim/cut.py") 429)], #[]⟩),
 (nat_lit 181, ⟨(.type "function"), none, .func (PySem.W.fnOf "squared_powers" "squared_powers" (a4 eK) (aM eK) (aE eK) .none .none .none (.str (Str.ofString "readgrove.greats") 351) none (.ref 180) .none), #[]⟩),
 (nat_lit 185, ⟨(.type "code"), none, .fields #[(.str (Str.ofString "figures_of") 431), (.str (Str.ofString "figures_of") 432), (.str (Str.ofString "/claim/cut.py") 433), (.int 95 0), (.int 1 0), (.int 0 0), (.int 0 0), (.int 3 0), (.ref 182), (.bool true), (.int 181 0), (.ref 183), .none, .none, .none, (.ref 184), (.int 434 0), (.int 95 0), (.str (Str.ofString "/claim/cut.py") 435)], #[]⟩),
 (nat_lit 186, ⟨(.type "function"), none, .func (PySem.W.fnOf "figures_of" "figures_of" (a4 eY) (aM eY) (aE eY) .none .none .none (.str (Str.ofString "readgrove.greats") 351) none (.ref 185) .none), #[]⟩),
 (nat_lit 192, ⟨(.type "code"), none, .fields #[(.str (Str.ofString "writes_word") 447), (.str (Str.ofString "writes_word") 448), (.str (Str.ofString "/claim/cut.py") 449), (.int 109 0), (.int 1 0), (.int 0 0), (.int 0 0), (.int 3 0), (.ref 187), (.bool true), (.int 181 0), (.ref 188), .none, (.ref 189), (.ref 190), (.ref 191), (.int 451 0), (.int 109 0), (.str (Str.ofString "/claim/cut.py") 452)], #[]⟩),
 (nat_lit 193, ⟨(.type "function"), none, .func (PySem.W.fnOf "writes_word" "writes_word" (a4 eZ) (aM eZ) (aE eZ) .none .none .none (.str (Str.ofString "readgrove.texts") 437) none (.ref 192) .none), #[]⟩),
 (nat_lit 199, ⟨(.type "code"), none, .fields #[(.str (Str.ofString "writes_name") 454), (.str (Str.ofString "writes_name") 455), (.str (Str.ofString "/claim/cut.py") 456), (.int 111 0), (.int 1 0), (.int 0 0), (.int 0 0), (.int 3 0), (.ref 194), (.bool true), (.int 181 0), (.ref 195), .none, (.ref 196), (.ref 197), (.ref 198), (.int 459 0), (.int 111 0), (.str (Str.ofString "/claim/cut.py") 460)], #[]⟩),
 (nat_lit 200, ⟨(.type "function"), none, .func (PySem.W.fnOf "writes_name" "writes_name" (a4 e6) (aM e6) (aE e6) .none .none .none (.str (Str.ofString "readgrove.texts") 437) none (.ref 199) .none), #[]⟩),
 (nat_lit 206, ⟨(.type "code"), none, .fields #[(.str (Str.ofString "writes_number") 462), (.str (Str.ofString "writes_number") 463), (.str (Str.ofString "/claim/cut.py") 464), (.int 114 0), (.int 1 0), (.int 0 0), (.int 0 0), (.int 3 0), (.ref 201), (.bool true), (.int 181 0), (.ref 202), .none, (.ref 203), (.ref 204), (.ref 205), (.int 466 0), (.int 114 0), (.str (Str.ofString "/claim/cut.py") 467)], #[]⟩),
 (nat_lit 207, ⟨(.type "function"), none, .func (PySem.W.fnOf "writes_number" "writes_number" (a4 eL) (aM eL) (aE eL) .none .none .none (.str (Str.ofString "readgrove.texts") 437) none (.ref 206) .none), #[]⟩),
 (nat_lit 213, ⟨(.type "code"), none, .fields #[(.str (Str.ofString "shown_rule") 469), (.str (Str.ofString "shown_rule") 470), (.str (Str.ofString "/claim/cut.py") 471), (.int 116 0), (.int 1 0), (.int 0 0), (.int 0 0), (.int 3 0), (.ref 208), (.bool true), (.int 181 0), (.ref 209), .none, (.ref 210), (.ref 211), (.ref 212), (.int 474 0), (.int 116 0), (.str (Str.ofString "/claim/cut.py") 475)], #[]⟩),
 (nat_lit 214, ⟨(.type "function"), none, .func (PySem.W.fnOf "shown_rule" "shown_rule" (a4 fJ) (aM fJ) (aE fJ) .none .none .none (.str (Str.ofString "readgrove.texts") 437) none (.ref 213) .none), #[]⟩),
 (nat_lit 218, ⟨(.type "code"), none, .fields #[(.str (Str.ofString "shown_grammar") 477), (.str (Str.ofString "shown_grammar") 478), (.str (Str.ofString "/claim/cut.py") 479), (.int 121 0), (.int 1 0), (.int 0 0), (.int 0 0), (.int 3 0), (.ref 215), (.bool true), (.int 181 0), (.ref 216), .none, .none, .none, (.ref 217), (.int 480 0), (.int 121 0), (.str (Str.ofString "/claim/cut.py") 481)], #[]⟩),
 (nat_lit 219, ⟨(.type "function"), none, .func (PySem.W.fnOf "shown_grammar" "shown_grammar" (a4 f7) (aM f7) (aE f7) .none .none .none (.str (Str.ofString "readgrove.texts") 437) none (.ref 218) .none), #[]⟩),
 (nat_lit 225, ⟨(.type "code"), none, .fields #[(.str (Str.ofString "written_cost") 483), (.str (Str.ofString "written_cost") 484), (.str (Str.ofString "/claim/cut.py") 485), (.int 123 0), (.int 1 0), (.int 0 0), (.int 0 0), (.int 3 0), (.ref 220), (.bool true), (.int 181 0), (.ref 221), .none, (.ref 222), (.ref 223), (.ref 224), (.int 487 0), (.int 123 0), (.str (Str.ofString "/claim/cut.py") 488)], #[]⟩),
 (nat_lit 226, ⟨(.type "function"), none, .func (PySem.W.fnOf "written_cost" "written_cost" (a4 e7) (aM e7) (aE e7) .none .none .none (.str (Str.ofString "readgrove.texts") 437) none (.ref 225) .none), #[]⟩),
 (nat_lit 230, ⟨(.type "code"), none, .fields #[(.str (Str.ofString "read_rule") 490), (.str (Str.ofString "read_rule") 491), (.str (Str.ofString "/claim/cut.py") 492), (.int 129 0), (.int 1 0), (.int 0 0), (.int 0 0), (.int 3 0), (.ref 227), (.bool true), (.int 181 0), (.ref 228), .none, .none, .none, (.ref 229), (.int 493 0), (.int 129 0), (.str (Str.ofString "/claim/cut.py") 494)], #[]⟩),
 (nat_lit 231, ⟨(.type "function"), none, .func (PySem.W.fnOf "read_rule" "read_rule" (a4 fK) (aM fK) (aE fK) .none .none .none (.str (Str.ofString "readgrove.texts") 437) none (.ref 230) .none), #[]⟩),
 (nat_lit 235, ⟨(.type "code"), none, .fields #[(.str (Str.ofString "read_grammar") 496), (.str (Str.ofString "read_grammar") 497), (.str (Str.ofString "/claim/cut.py") 498), (.int 138 0), (.int 1 0), (.int 0 0), (.int 0 0), (.int 3 0), (.ref 232), (.bool true), (.int 181 0), (.ref 233), .none, .none, .none, (.ref 234), (.int 499 0), (.int 138 0), (.str (Str.ofString "/claim/cut.py") 500)], #[]⟩),
 (nat_lit 236, ⟨(.type "function"), none, .func (PySem.W.fnOf "read_grammar" "read_grammar" (a4 f9) (aM f9) (aE f9) .none .none .none (.str (Str.ofString "readgrove.texts") 437) none (.ref 235) .none), #[]⟩),
 (nat_lit 242, ⟨(.type "code"), none, .fields #[(.str (Str.ofString "_law_cell_at") 504), (.str (Str.ofString "_law_cell_at") 505), (.str (Str.ofString "/claim/cut.py") 506), (.int 141 0), (.int 2 0), (.int 0 0), (.int 0 0), (.int 3 0), (.ref 237), (.bool true), (.int 181 0), (.ref 238), .none, (.ref 239), (.ref 240), (.ref 241), (.int 509 0), (.int 141 0), (.str (Str.ofString "/claim/cut.py") 510)], #[]⟩),
 (nat_lit 243, ⟨(.type "function"), none, .func (PySem.W.fnOf "_law_cell_at" "_law_cell_at" (a4 eM) (aM eM) (aE eM) .none .none .none (.str (Str.ofString "law_readgrove_k81_no_grammars") 502) none (.ref 242) .none), #[]⟩),
 (nat_lit 247, ⟨(.type "code"), none, .fields #[(.str (Str.ofString "_law_heads") 512), (.str (Str.ofString "_law_heads") 513), (.str (Str.ofString "/claim/cut.py") 514), (.int 145 0), (.int 1 0), (.int 0 0), (.int 0 0), (.int 3 0), (.ref 244), (.bool true), (.int 181 0), (.ref 245), .none, .none, .none, (.ref 246), (.int 515 0), (.int 145 0), (.str (Str.ofString "/claim/cut.py") 516)], #[]⟩),
 (nat_lit 248, ⟨(.type "function"), none, .func (PySem.W.fnOf "_law_heads" "_law_heads" (a4 e8) (aM e8) (aE e8) .none .none .none (.str (Str.ofString "law_readgrove_k81_no_grammars") 502) none (.ref 247) .none), #[]⟩),
 (nat_lit 252, ⟨(.type "code"), none, .fields #[(.str (Str.ofString "_law_word") 518), (.str (Str.ofString "_law_word") 519), (.str (Str.ofString "/claim/cut.py") 520), (.int 155 0), (.int 1 0), (.int 0 0), (.int 0 0), (.int 3 0), (.ref 249), (.bool true), (.int 181 0), (.ref 250), .none, .none, .none, (.ref 251), (.int 521 0), (.int 155 0), (.str (Str.ofString "/claim/cut.py") 522)], #[]⟩),
 (nat_lit 253, ⟨(.type "function"), none, .func (PySem.W.fnOf "_law_word" "_law_word" (a4 eO) (aM eO) (aE eO) .none .none .none (.str (Str.ofString "law_readgrove_k81_no_grammars") 502) none (.ref 252) .none), #[]⟩),
 (nat_lit 259, ⟨(.type "code"), none, .fields #[(.str (Str.ofString "_law_rule") 524), (.str (Str.ofString "_law_rule") 525), (.str (Str.ofString "/claim/cut.py") 526), (.int 157 0), (.int 3 0), (.int 0 0), (.int 0 0), (.int 3 0), (.ref 254), (.bool true), (.int 181 0), (.ref 255), .none, (.ref 256), (.ref 257), (.ref 258), (.int 534 0), (.int 157 0), (.str (Str.ofString "/claim/cut.py") 535)], #[]⟩),
 (nat_lit 260, ⟨(.type "function"), none, .func (PySem.W.fnOf "_law_rule" "_law_rule" (a4 e9) (aM e9) (aE e9) .none .none .none (.str (Str.ofString "law_readgrove_k81_no_grammars") 502) none (.ref 259) .none), #[]⟩),
 (nat_lit 266, ⟨(.type "code"), none, .fields #[(.str (Str.ofString "_law_rules") 537), (.str (Str.ofString "_law_rules") 538), (.str (Str.ofString "/claim/cut.py") 539), (.int 167 0), (.int 1 0), (.int 0 0), (.int 0 0), (.int 3 0), (.ref 261), (.bool true), (.int 181 0), (.ref 262), .none, (.ref 263), (.ref 264), (.ref 265), (.int 544 0), (.int 167 0), (.str (Str.ofString "/claim/cut.py") 545)], #[]⟩),
 (nat_lit 267, ⟨(.type "function"), none, .func (PySem.W.fnOf "_law_rules" "_law_rules" (a4 fL) (aM fL) (aE fL) .none .none .none (.str (Str.ofString "law_readgrove_k81_no_grammars") 502) none (.ref 266) .none), #[]⟩),
 (nat_lit 273, ⟨(.type "code"), none, .fields #[(.str (Str.ofString "_law_shown") 547), (.str (Str.ofString "_law_shown") 548), (.str (Str.ofString "/claim/cut.py") 549), (.int 173 0), (.int 1 0), (.int 0 0), (.int 0 0), (.int 3 0), (.ref 268), (.bool true), (.int 181 0), (.ref 269), .none, (.ref 270), (.ref 271), (.ref 272), (.int 556 0), (.int 173 0), (.str (Str.ofString "/claim/cut.py") 557)], #[]⟩),
 (nat_lit 274, ⟨(.type "function"), none, .func (PySem.W.fnOf "_law_shown" "_law_shown" (a4 fM) (aM fM) (aE fM) .none .none .none (.str (Str.ofString "law_readgrove_k81_no_grammars") 502) none (.ref 273) .none), #[]⟩),
 (nat_lit 280, ⟨(.type "code"), none, .fields #[(.str (Str.ofString "_law_odd") 559), (.str (Str.ofString "_law_odd") 560), (.str (Str.ofString "/claim/cut.py") 561), (.int 181 0), (.int 1 0), (.int 0 0), (.int 0 0), (.int 3 0), (.ref 275), (.bool true), (.int 181 0), (.ref 276), .none, (.ref 277), (.ref 278), (.ref 279), (.int 564 0), (.int 181 0), (.str (Str.ofString "/claim/cut.py") 565)], #[]⟩),
 (nat_lit 281, ⟨(.type "function"), none, .func (PySem.W.fnOf "_law_odd" "_law_odd" (a4 fN) (aM fN) (aE fN) .none .none .none (.str (Str.ofString "law_readgrove_k81_no_grammars") 502) none (.ref 280) .none), #[]⟩),
 (nat_lit 287, ⟨(.type "code"), none, .fields #[(.str (Str.ofString "_law_long") 567), (.str (Str.ofString "_law_long") 568), (.str (Str.ofString "/claim/cut.py") 569), (.int 187 0), (.int 1 0), (.int 0 0), (.int 0 0), (.int 3 0), (.ref 282), (.bool true), (.int 181 0), (.ref 283), .none, (.ref 284), (.ref 285), (.ref 286), (.int 572 0), (.int 187 0), (.str (Str.ofString "/claim/cut.py") 573)], #[]⟩),
 (nat_lit 288, ⟨(.type "function"), none, .func (PySem.W.fnOf "_law_long" "_law_long" (a4 fO) (aM fO) (aE fO) .none .none .none (.str (Str.ofString "law_readgrove_k81_no_grammars") 502) none (.ref 287) .none), #[]⟩),
 (nat_lit 294, ⟨(.type "code"), none, .fields #[(.str (Str.ofString "_law_text") 575), (.str (Str.ofString "_law_text") 576), (.str (Str.ofString "/claim/cut.py") 577), (.int 190 0), (.int 1 0), (.int 0 0), (.int 0 0), (.int 3 0), (.ref 289), (.bool true), (.int 181 0), (.ref 290), .none, (.ref 291), (.ref 292), (.ref 293), (.int 586 0), (.int 190 0), (.str (Str.ofString "/claim/cut.py") 587)], #[]⟩),
 (nat_lit 295, ⟨(.type "function"), none, .func (PySem.W.fnOf "_law_text" "_law_text" (a4 gA) (aM gA) (aE gA) .none .none .none (.str (Str.ofString "law_readgrove_k81_no_grammars") 502) none (.ref 294) .none), #[]⟩),
 (nat_lit 299, ⟨(.type "code"), none, .fields #[(.str (Str.ofString "_law_of") 589), (.str (Str.ofString "_law_of") 590), (.str (Str.ofString "/claim/cut.py") 591), (.int 208 0), (.int 3 0), (.int 0 0), (.int 0 0), (.int 3 0), (.ref 296), (.bool true), (.int 181 0), (.ref 297), .none, .none, .none, (.ref 298), (.int 592 0), (.int 208 0), (.str (Str.ofString "/claim/cut.py") 593)], #[]⟩),
 (nat_lit 300, ⟨(.type "function"), none, .func (PySem.W.fnOf "_law_of" "_law_of" (a4 d9) (aM d9) (aE d9) .none .none .none (.str (Str.ofString "law_readgrove_k81_no_grammars") 502) none (.ref 299) .none), #[]⟩),
 (nat_lit 306, ⟨(.type "code"), none, .fields #[(.str (Str.ofString "_law_is_head") 595), (.str (Str.ofString "_law_is_head") 596), (.str (Str.ofString "/claim/cut.py") 597), (.int 210 0), (.int 1 0), (.int 0 0), (.int 0 0), (.int 3 0), (.ref 301), (.bool true), (.int 181 0), (.ref 302), .none, (.ref 303), (.ref 304), (.ref 305), (.int 603 0), (.int 210 0), (.str (Str.ofString "/claim/cut.py") 604)], #[]⟩),
 (nat_lit 307, ⟨(.type "function"), none, .func (PySem.W.fnOf "_law_is_head" "_law_is_head" (a4 eQ) (aM eQ) (aE eQ) .none .none .none (.str (Str.ofString "law_readgrove_k81_no_grammars") 502) none (.ref 306) .none), #[]⟩),
 (nat_lit 313, ⟨(.type "code"), none, .fields #[(.str (Str.ofString "_law_row") 606), (.str (Str.ofString "_law_row") 607), (.str (Str.ofString "/claim/cut.py") 608), (.int 214 0), (.int 1 0), (.int 0 0), (.int 0 0), (.int 3 0), (.ref 308), (.bool true), (.int 181 0), (.ref 309), .none, (.ref 310), (.ref 311), (.ref 312), (.int 612 0), (.int 214 0), (.str (Str.ofString "/claim/cut.py") 613)], #[]⟩),
 (nat_lit 314, ⟨(.type "function"), none, .func (PySem.W.fnOf "_law_row" "_law_row" (a4 fP) (aM fP) (aE fP) .none .none .none (.str (Str.ofString "law_readgrove_k81_no_grammars") 502) none (.ref 313) .none), #[]⟩),
 (nat_lit 318, ⟨(.type "code"), none, .fields #[(.str (Str.ofString "_law_due") 615), (.str (Str.ofString "_law_due") 616), (.str (Str.ofString "/claim/cut.py") 617), (.int 226 0), (.int 1 0), (.int 0 0), (.int 0 0), (.int 3 0), (.ref 315), (.bool true), (.int 181 0), (.ref 316), .none, .none, .none, (.ref 317), (.int 618 0), (.int 226 0), (.str (Str.ofString "/claim/cut.py") 619)], #[]⟩),
 (nat_lit 319, ⟨(.type "function"), none, .func (PySem.W.fnOf "_law_due" "_law_due" (a4 gB) (aM gB) (aE gB) .none .none .none (.str (Str.ofString "law_readgrove_k81_no_grammars") 502) none (.ref 318) .none), #[]⟩),
 (nat_lit 325, ⟨(.type "code"), none, .fields #[(.str (Str.ofString "_law_kinds") 621), (.str (Str.ofString "_law_kinds") 622), (.str (Str.ofString "/claim/cut.py") 623), (.int 236 0), (.int 1 0), (.int 0 0), (.int 0 0), (.int 3 0), (.ref 320), (.bool true), (.int 181 0), (.ref 321), .none, (.ref 322), (.ref 323), (.ref 324), (.int 626 0), (.int 236 0), (.str (Str.ofString "/claim/cut.py") 627)], #[]⟩),
 (nat_lit 326, ⟨(.type "function"), none, .func (PySem.W.fnOf "_law_kinds" "_law_kinds" (a4 gC) (aM gC) (aE gC) .none .none .none (.str (Str.ofString "law_readgrove_k81_no_grammars") 502) none (.ref 325) .none), #[]⟩),
 (nat_lit 332, ⟨(.type "code"), none, .fields #[(.str (Str.ofString "law") 629), (.str (Str.ofString "law") 630), (.str (Str.ofString "/claim/cut.py") 631), (.int 239 0), (.int 1 0), (.int 0 0), (.int 0 0), (.int 3 0), (.ref 327), (.bool true), (.int 181 0), (.ref 328), .none, (.ref 329), (.ref 330), (.ref 331), (.int 638 0), (.int 239 0), (.str (Str.ofString "/claim/cut.py") 639)], #[]⟩),
 (nat_lit 333, ⟨(.type "function"), none, .func (PySem.W.fnOf "law" "law" (a4 hJ) (aM hJ) (aE hJ) .none .none .none (.str (Str.ofString "law_readgrove_k81_no_grammars") 502) none (.ref 332) .none), #[]⟩)]
noncomputable def JK : List Addr := [nat_lit 3, nat_lit 23, nat_lit 24, nat_lit 36, nat_lit 37, nat_lit 48, nat_lit 49, nat_lit 60, nat_lit 61, nat_lit 72, nat_lit 73, nat_lit 84, nat_lit 85, nat_lit 96, nat_lit 97, nat_lit 103, nat_lit 104, nat_lit 110, nat_lit 111, nat_lit 117, nat_lit 118, nat_lit 124, nat_lit 125, nat_lit 131, nat_lit 132, nat_lit 138, nat_lit 139, nat_lit 145, nat_lit 146, nat_lit 152, nat_lit 153, nat_lit 159, nat_lit 160, nat_lit 166, nat_lit 167, nat_lit 173, nat_lit 174, nat_lit 180, nat_lit 181, nat_lit 185, nat_lit 186, nat_lit 192, nat_lit 193, nat_lit 199, nat_lit 200, nat_lit 206, nat_lit 207, nat_lit 213, nat_lit 214, nat_lit 218, nat_lit 219, nat_lit 225, nat_lit 226, nat_lit 230, nat_lit 231, nat_lit 235, nat_lit 236, nat_lit 242, nat_lit 243, nat_lit 247, nat_lit 248, nat_lit 252, nat_lit 253, nat_lit 259, nat_lit 260, nat_lit 266, nat_lit 267, nat_lit 273, nat_lit 274, nat_lit 280, nat_lit 281, nat_lit 287, nat_lit 288, nat_lit 294, nat_lit 295, nat_lit 299, nat_lit 300, nat_lit 306, nat_lit 307, nat_lit 313, nat_lit 314, nat_lit 318, nat_lit 319, nat_lit 325, nat_lit 326, nat_lit 332, nat_lit 333]
noncomputable def qv : Program := { PySem.Challenge.pw_readgrove_k81_no_grammars with main := { PySem.Challenge.pw_readgrove_k81_no_grammars.main with body := [aP 1, aP 2, aP 3, aP 4, aP 5, aP 6, aP 7, aP 9, aP 10, aP 11, aP 12, aP 13, aP 14, aP 15, aP 17, aP 18, aP 19, aP 20, aP 21, aP 22, aP 23, aP 24, aP 25, aP 26, aP 28, aP 29, aP 30, aP 31, aP 32, aP 33, aP 34, aP 35, aP 36, aP 37, aP 38, aP 39, aP 41, aP 42, aP 43, aP 44, aP 45, aP 46, aP 47, aP 48, aP 49, aP 50, aP 51, aP 52, aP 53, aP 54, aP 55] } }
noncomputable def hk : PySem.W.Hook := PySem.W.kHook hpK JK (fun _ => by kernel_rfl)
theorem JL {σ α β : Type} {o : Option σ} {f : σ → α} {g : σ → β} {a : α} {b : β} (h : o.map f = some a) (k : o.map g = some b) : o.map (fun s => (f s, g s)) = some (a, b) := by
 cases o with
 | none => cases h
 | some s => cases h; cases k; rfl
set_option maxHeartbeats 0 in
open PySem.W in
theorem mM (w : World) : (openEnds treeTable PySem.Challenge.rw_readgrove_k81_no_grammars.row.prog w 5464).map hk.obs = some (hk.val w) := by kernel_rfl
set_option maxHeartbeats 0 in
open PySem.W in
theorem nY (w : World) : (openEnds treeTable PySem.Challenge.rw_readgrove_k81_no_grammars.row.prog w 5464).map (fun s => openSeen qv [] (importedModules PySem.Challenge.rw_readgrove_k81_no_grammars.row.prog.main.body) (fun s => xlAt qv [] s && recOk (RowW.records (OpenRow.toRowW PySem.Challenge.rw_readgrove_k81_no_grammars.row)) s) true s) = some (openGood qv []) := by kernel_rfl
set_option maxHeartbeats 0 in
theorem JM : PySem.Challenge.rw_readgrove_k81_no_grammars.wellSaid = true := by kernel_rfl
open PySem.W in
theorem JN : LeftO PySem.Challenge.rw_readgrove_k81_no_grammars.row.prog qv [] (fun s => xlAt qv [] s && recOk (RowW.records (OpenRow.toRowW PySem.Challenge.rw_readgrove_k81_no_grammars.row)) s) hk.obs hk.val 5464 := fun w => JL (nY w) (mM w)
end Rg
namespace L2
open PySem PySem.Spec PyProof.Rows
abbrev aN := Sum Int Str
def lS : aN → Value → Bool
 | .inl k, v => Value.isInt k v
 | .inr x, v => Value.isStrOf x v
def JO (w : World) : aN → Int
 | .inl k => hashInt k
 | .inr x => hashStr w x
theorem jM : ∀ {k : aN} {v : Value}, lS k v = true → (∃ i t, k = Sum.inl i ∧ v = Value.int i t) ∨ (∃ x t, k = Sum.inr x ∧ v = Value.str x t)
 | .inl i, v, h => by
  obtain ⟨t, e⟩ := Value.isInt_shape (k := i) (v := v) h
  exact .inl ⟨i, t, rfl, e⟩
 | .inr x, v, h => by
  obtain ⟨t, e⟩ := Value.isStrOf_shape (x := x) (v := v) h
  exact .inr ⟨x, t, rfl, e⟩
theorem JP (i : Int) (t : Tok) : lS (.inl i) (.int i t) = true := by simp [lS, Value.isInt]
theorem JQ (x : Str) (t : Tok) : lS (.inr x) (.str x t) = true := by simp [lS, Value.isStrOf]
theorem JR (a b : Int) : decide ((Sum.inl a : aN) = Sum.inl b) = (a == b) := by
 by_cases e : a = b
 ·subst e; simp
 ·have h : ¬ (Sum.inl a : aN) = Sum.inl b := fun q => e (Sum.inl.inj q)
  rw [decide_eq_false h]
  exact (beq_eq_false_iff_ne.mpr e).symm
theorem JS (a b : Str) : decide ((Sum.inr a : aN) = Sum.inr b) = decide (a = b) := by
 by_cases e : a = b
 ·subst e; simp
 ·have h : ¬ (Sum.inr a : aN) = Sum.inr b := fun q => e (Sum.inr.inj q)
  rw [decide_eq_false h, decide_eq_false e]
theorem JT (a : Int) (b : Str) : decide ((Sum.inl a : aN) = Sum.inr b) = false := decide_eq_false (fun q => nomatch q)
theorem JU (a : Str) (b : Int) : decide ((Sum.inr a : aN) = Sum.inl b) = false := decide_eq_false (fun q => nomatch q)
def gD (prog : Program) (w : World) : PySem.KeyKind prog w aN where
 is := lS
 hash := JO w
 inj := fun v a b ha hb => by
  rcases jM ha with ⟨i, t, rfl, rfl⟩ | ⟨x, t, rfl, rfl⟩
  ·rcases jM hb with ⟨j, u, rfl, e⟩ | ⟨y, u, rfl, e⟩
   ·injection e with e1 _; rw [e1]
   ·exact nomatch e
  ·rcases jM hb with ⟨j, u, rfl, e⟩ | ⟨y, u, rfl, e⟩
   ·exact nomatch e
   ·injection e with e1 _; rw [e1]
 byValue := fun k v h => by
  rcases jM h with ⟨i, t, rfl, rfl⟩ | ⟨x, t, rfl, rfl⟩ <;> rfl
 pyHash := fun hv h => by
  rcases jM hv with ⟨i, t, rfl, rfl⟩ | ⟨x, t, rfl, rfl⟩
  ·exact wpAny_pyHash_int h
  ·exact wpAny_pyHash_str h
 eqBool := fun hu hv h => by
  rcases jM hu with ⟨i, t, rfl, rfl⟩ | ⟨x, t, rfl, rfl⟩
  ·rcases jM hv with ⟨j, u, rfl, rfl⟩ | ⟨y, u, rfl, rfl⟩
   ·rw [JR] at h; exact wpAny_eqBool_int h
   ·rw [JT] at h; exact SeqAt.EqAt.int_str i t y u _ _ _ _ h
  ·rcases jM hv with ⟨j, u, rfl, rfl⟩ | ⟨y, u, rfl, rfl⟩
   ·rw [JU] at h; exact SeqAt.EqAt.str_int x t j u _ _ _ _ h
   ·rw [JS] at h; exact wpAny_eqBool_str h
 «strs» := fun k x t v h => by
  rcases jM h with ⟨i, u, rfl, e⟩ | ⟨y, u, rfl, e⟩
  ·exact nomatch e
  ·injection e with e1 _
   subst e1
   cases v <;> rfl
theorem JV (prog : Program) (w : World) (i : Int) (t : Tok) : (gD prog w).is (.inl i) (.int i t) = true := JP i t
theorem JW (prog : Program) (w : World) (x : Str) (t : Tok) : (gD prog w).is (.inr x) (.str x t) = true := JQ x t
end L2
namespace L2
open PySem PySem.Spec PyProof.Rows
inductive V where
 | non | bl (b : Bool) | int (i : Int) | str (x : Str) | byt (b : Array UInt8) | flt (b : UInt64) | ref (a : Addr) | ty (n : String)
 deriving DecidableEq
def RelV : V → Value → Prop
 | .non, u => u = Value.none
 | .bl b, u => u = Value.bool b
 | .int i, u => ∃ t, u = Value.int i t
 | .str x, u => ∃ t, u = Value.str x t
 | .byt b, u => ∃ t, u = Value.bytes b t
 | .flt b, u => ∃ t, u = Value.float b t
 | .ref a, u => u = Value.ref a
 | .ty n, u => u = Value.type n
abbrev aY : List V → List Value → Prop := Paired RelV
theorem aY.length {xs : List V} {us : List Value} (r : aY xs us) : xs.length = us.length := Paired.length r
theorem aY.get : ∀ {xs : List V} {us : List Value} {i : Nat} {x : V}, aY xs us → xs[i]? = some x → ∃ u, us[i]? = some u ∧ RelV x u
 | _, _, _, _, .nil, e => by simp at e
 | _, _, 0, _, .cons r _, e => by simp at e; subst e; exact ⟨_, rfl, r⟩
 | _, _, i + 1, x, .cons _ t, e => by
  obtain ⟨u, h1, h2⟩ := aY.get (i := i) (x := x) t (by simpa using e)
  exact ⟨u, by simpa using h1, h2⟩
theorem aY.set {x : V} {u : Value} (r : RelV x u) : ∀ {xs : List V} {us : List Value} (i : Nat), aY xs us → aY (xs.set i x) (us.set i u)
 | _, _, _, .nil => .nil
 | _, _, 0, .cons _ t => .cons r t
 | _, _, i + 1, .cons q t => .cons q (aY.set r i t)
theorem aY.append : ∀ {xs ys : List V} {us ws : List Value}, aY xs us → aY ys ws → aY (xs ++ ys) (us ++ ws)
 | _, _, _, _, .nil, s => s
 | _, _, _, _, .cons r t, s => .cons r (aY.append t s)
theorem aY.take : ∀ {xs : List V} {us : List Value} (n : Nat), aY xs us → aY (xs.take n) (us.take n)
 | _, _, 0, _ => .nil
 | _, _, _ + 1, .nil => .nil
 | _, _, n + 1, .cons r t => .cons r (aY.take n t)
theorem aY.drop : ∀ {xs : List V} {us : List Value} (n : Nat), aY xs us → aY (xs.drop n) (us.drop n)
 | _, _, 0, r => r
 | _, _, _ + 1, .nil => .nil
 | _, _, n + 1, .cons _ t => aY.drop n t
def hU : Option V → Option Value → Prop
 | some v, some u => RelV v u
 | none, none => True
 | _, _ => False
def KV {κ : Type} : List (κ × V) → List (κ × Value) → Prop := Paired fun (p : κ × V) (q : κ × Value) => p.1 = q.1 ∧ RelV p.2 q.2
def kV : aN → V
 | .inl i => .int i
 | .inr x => .str x
inductive HO where
 /-- a list -/
 | lst (xs : List V)
 /-- a tuple (never changes) -/
 | tup (xs : List V)
 /-- a dict whose keys are ints and texts; one whose keys are tuples of ints and texts (the empty one is both) -/
 | dK (kvs : List (aN × V)) | dT (kvs : List (List aN × V))
 /-- a set of ints: its members, its size -/
 | set (S : Int → Bool) (n : Nat)
 /-- an instance of the class at C, its dict at dx, its attributes -/
 | ins (C dx : Addr) (fs : List (Str × V))
 /-- the dict of the instance at x -/
 | own (x : Addr)
 /-- the dict of an exception -/
 | xd (fs : List (Str × V))
 /-- a bound method, f of x -/
 | met (f x : Addr)
 /-- a range object lo, lo + 1, .. below hi -/
 | rng (lo hi : Int)
 /-- a thing that is known to the object (the script; a dict while a loop walks it): read, never written while it is so -/
 | frz (o : Obj) (u : HO)
 /-- a code object's table -/
 | tbl (ps : Array Value)
 /-- any other thing, by what is true of its one object (a def of one's own: SetO a S n := HO.ext fun h => ..) -/
 | ext (φ : Heap → Prop)
abbrev Hp := Addr → Option HO
def aU (H : Hp) (a : Addr) (o : HO) : Hp := fun b => if b = a then some o else H b
theorem fA {H : Hp} {a : Addr} {o : HO} : aU H a o a = some o := by unfold aU; rw [if_pos rfl]
theorem bU {H : Hp} {a b : Addr} {o : HO} (h : b ≠ a) : aU H a o b = H b := by unfold aU; rw [if_neg h]
theorem JX {H : Hp} {a b : Addr} {o u : HO} (h : H a = some o) (h' : H b = some u) (d : o ≠ u) : a ≠ b := by
 intro e; subst e; rw [h] at h'; exact d (Option.some.inj h')
theorem dW {H : Hp} {a b : Addr} {o : HO} (h : H a = some o) (h' : H b = none) : a ≠ b := by
 intro e; subst e; rw [h] at h'; cases h'
section
variable (P : Program) (w : World)
def cL (H : Hp) (h : Heap) (a : Addr) : HO → Prop
 | .lst xs => xs.length ≤ sizeLine ∧ ∃ (its : List Value) (n : Nat), aY xs its ∧ h.get? a = some { cls := .type "list", data := .seq its.toArray n }
 | .tup xs => xs.length ≤ sizeLine ∧ ∃ its : List Value, aY xs its ∧ IsTup h a its.toArray
 | .dK kvs => kvs.length ≤ sizeLine ∧ (a == sysModules) = false ∧ ∃ vs, KV kvs vs ∧ h.DictOf (gD P w) a vs
 | .dT kvs => kvs.length ≤ sizeLine ∧ (a == sysModules) = false ∧ ∃ xs : List (List aN × Addr × Value),
   Paired (fun (p : List aN × V) (q : List aN × Addr × Value) => p.1 = q.1 ∧ H q.2.1 = some (.tup (p.1.map kV)) ∧ RelV p.2 q.2.2) kvs xs ∧
   ∃ o es ep, h.get? a = some o ∧ o.ExactDict ∧ o.data = .dict es ep ∧ es.toList = xs.map (entryOfKey (tupleKind (gD P w))) ∧ (xs.map (·.1)).Nodup
 | .set S n => h.SetOf (intKind P w) a S n
 | .ins C dx fs => H dx = some (.own a) ∧ fs.length ≤ 1000 ∧ dx ≠ a ∧ h.get? a = some (PySem.W.instObj C dx) ∧
   ∃ mA, h.Ns1 dx mA ∧ (∀ f, hU (fs.lookup f) (mA f)) ∧ PySem.Within mA (fs.map (·.1))
 | .own _ => ∃ o, h.get? a = some o
 | .xd fs => ∃ mA, h.Ns1 a mA ∧ ∀ f, hU (fs.lookup f) (mA f)
 | .rng lo hi => ∃ t u v, h.get? a = some { cls := .type "range", data := .fields #[.int lo t, .int hi u, .int 1 v] }
 | .frz o u => h.get? a = some o ∧ cL H h a u
 | .tbl ps => h.get? a = some { cls := .none, data := .fields ps }
 | .met f x => h.get? a = some (PySem.W.methodObj (.ref f) (.ref x))
 | .ext φ => φ h ∧ (∃ o, h.get? a = some o) ∧ ∀ h1 h2 : Heap, φ h1 → (∀ o, h1.get? a = some o → h2.get? a = some o) → φ h2
def bZ (H : Hp) (h : Heap) : Prop := ∀ a o, H a = some o → cL P w H h a o
end
section
variable {P : Program} {w : World} {H H' : Hp} {h h' : Heap} {a : Addr} {o : HO}
theorem cL.lt (x : cL P w H h a o) : a < h.objs.size := by
 cases o with
 | lst xs => obtain ⟨_, _, _, _, e⟩ := x; exact Heap.lt_size e
 | tup xs => obtain ⟨_, _, _, p⟩ := x; exact p.lt
 | dK kvs => obtain ⟨_, _, _, _, o, _, _, e, _⟩ := x; exact Heap.lt_size e
 | dT kvs => obtain ⟨_, _, _, _, o, _, _, e, _⟩ := x; exact Heap.lt_size e
 | set S n => obtain ⟨o, _, _, _, e, _⟩ := x; exact Heap.lt_size e
 | ins C dx fs => obtain ⟨_, _, _, e, _⟩ := x; exact Heap.lt_size e
 | own y => obtain ⟨_, e⟩ := x; exact Heap.lt_size e
 | xd fs => obtain ⟨_, ⟨_, _, _, e, _⟩, _⟩ := x; exact Heap.lt_size e
 | rng lo hi => obtain ⟨_, _, _, e⟩ := x; exact Heap.lt_size e
 | frz ob u => obtain ⟨e, _⟩ := x; exact Heap.lt_size e
 | tbl ps => exact Heap.lt_size (show h.get? a = some _ from x)
 | met f y => exact Heap.lt_size (show h.get? a = some _ from x)
 | ext φ => obtain ⟨_, ⟨_, e⟩, _⟩ := x; exact Heap.lt_size e
theorem Paired.mapP {α β : Type} {F G : α → β → Prop} : ∀ {l₁ : List α} {l₂ : List β}, Paired F l₁ l₂ → (∀ a b, F a b → G a b) → Paired G l₁ l₂
 | _, _, .nil, _ => .nil
 | _, _, .cons r t, f => .cons (f _ _ r) (Paired.mapP t f)
theorem cL.stay (x : cL P w H h a o) (k : ∀ b u, (b = a ∨ H b = some (.own a)) → h.get? b = some u → h'.get? b = some u)
  (ho : ∀ b, H b = some (.own a) → H' b = some (.own a)) (ht : ∀ b xs, H b = some (.tup xs) → H' b = some (.tup xs)) : cL P w H' h' a o := by
 induction o with
 | lst xs => obtain ⟨z, its, n, r, e⟩ := x; exact ⟨z, its, n, r, k _ _ (.inl rfl) e⟩
 | tup xs => obtain ⟨z, its, r, ob, e, c⟩ := x; exact ⟨z, its, r, ob, k _ _ (.inl rfl) e, c⟩
 | dK kvs => obtain ⟨z, y, vs, r, ob, es, ep, e, c⟩ := x; exact ⟨z, y, vs, r, ob, es, ep, k _ _ (.inl rfl) e, c⟩
 | dT kvs =>
  obtain ⟨z, y, xs, r, ob, es, ep, e, c⟩ := x
  exact ⟨z, y, xs, Paired.mapP r fun p q z => ⟨z.1, ht _ _ z.2.1, z.2.2⟩, ob, es, ep, k _ _ (.inl rfl) e, c⟩
 | set S n => obtain ⟨ob, es, ep, t, e, c⟩ := x; exact ⟨ob, es, ep, t, k _ _ (.inl rfl) e, c⟩
 | ins C dx fs =>
  obtain ⟨d, z, ne, e, mA, ⟨od, es, ep, e2, c⟩, r⟩ := x
  exact ⟨ho _ d, z, ne, k _ _ (.inl rfl) e, mA, ⟨od, es, ep, k _ _ (.inr d) e2, c⟩, r⟩
 | own y => obtain ⟨ob, e⟩ := x; exact ⟨ob, k _ _ (.inl rfl) e⟩
 | xd fs => obtain ⟨mA, ⟨od, es, ep, e, c⟩, r⟩ := x; exact ⟨mA, ⟨od, es, ep, k _ _ (.inl rfl) e, c⟩, r⟩
 | rng lo hi => obtain ⟨t, u, v, e⟩ := x; exact ⟨t, u, v, k _ _ (.inl rfl) e⟩
 | frz ob u ih => obtain ⟨e, q⟩ := x; exact ⟨k _ _ (.inl rfl) e, ih q⟩
 | tbl ps =>
  have e : h.get? a = some { cls := .none, data := .fields ps } := x
  show h'.get? a = some { cls := .none, data := .fields ps }
  exact k a _ (.inl rfl) e
 | met f y =>
  have e : h.get? a = some (PySem.W.methodObj (.ref f) (.ref y)) := x
  show h'.get? a = some (PySem.W.methodObj (.ref f) (.ref y))
  exact k a _ (.inl rfl) e
 | ext φ => obtain ⟨p, ⟨o, e⟩, st⟩ := x; exact ⟨st _ _ p fun o q => k _ _ (.inl rfl) q, ⟨o, k _ _ (.inl rfl) e⟩, st⟩
theorem bZ.lt (x : bZ P w H h) (e : H a = some o) : a < h.objs.size := (x a o e).lt
theorem bZ.fresh (x : bZ P w H h) (e : h.objs.size ≤ a) : H a = none := by
 cases q : H a with
 | none => rfl
 | some u => exact absurd (Nat.lt_of_lt_of_le (x.lt q) e) (Nat.lt_irrefl _)
theorem bZ.kept (x : bZ P w H h) (k : ∀ b u, h.get? b = some u → h'.get? b = some u) : bZ P w H h' := fun a o e =>
 (x a o e).stay (fun b u _ q => k b u q) (fun _ q => q) fun _ _ q => q
theorem bZ.laid (x : bZ P w H h) (k : ∀ b u, h.get? b = some u → h'.get? b = some u) (hp : h.objs.size ≤ a) (new : cL P w (aU H a o) h' a o) : bZ P w (aU H a o) h' := fun b u e => by
 have hn := x.fresh hp
 by_cases hb : b = a
 ·subst hb; rw [fA] at e; cases e; exact new
 ·rw [bU hb] at e
  exact (x b u e).stay (fun c v _ q => k c v q) (fun c q => by rw [bU (dW q hn)]; exact q) fun c xs q => by rw [bU (dW q hn)]; exact q
end
def Rd (H : Hp) (a : Addr) (u : HO) : Prop := H a = some u ∨ ∃ o, H a = some (.frz o u)
theorem Rd.ok {P : Program} {w : World} {H : Hp} {h : Heap} {a : Addr} {u : HO} (r : Rd H a u) (x : bZ P w H h) : cL P w H h a u := by
 rcases r with r | ⟨o, r⟩
 ·exact x a u r
 ·obtain ⟨_, q⟩ := x a _ r
  exact q
def nZ : Option HO → Prop
 | some (.lst _) => True
 | some (.dK _) => True
 | some (.dT _) => True
 | some (.set _ _) => True
 | some (.ins _ _ _) => True
 | some (.ext _) => True
 | _ => False
section
variable {P : Program} {w : World} {H : Hp} {h h' : Heap} {x e : Addr} {o' : HO}
theorem bZ.write (ok : bZ P w H h) (mu : nZ (H x)) (he : e = x ∨ H e = some (.own x)) (k : ∀ b u, b ≠ e → h.get? b = some u → h'.get? b = some u) (heo : ∃ u, h'.get? e = some u)
  (new : cL P w (aU H x o') h' x o') : bZ P w (aU H x o') h' := fun b u q => by
 have nown : ∀ c y, H c = some (.own y) → c ≠ x := fun c y r z => by subst z; rw [r] at mu; exact mu
 have ntup : ∀ c xs, H c = some (.tup xs) → c ≠ x := fun c xs r z => by subst z; rw [r] at mu; exact mu
 by_cases hb : b = x
 ·subst hb; rw [fA] at q; cases q; exact new
 ·rw [bU hb] at q
  by_cases hbe : b = e
  ·have q' : H b = some (.own x) := by
    rcases he with z | z
    ·exact absurd (hbe.trans z) hb
    ·rw [hbe]; exact z
   rw [q] at q'; cases q'
   obtain ⟨v, hv⟩ := heo
   exact ⟨v, by rw [hbe]; exact hv⟩
  ·refine (ok b u q).stay (fun c v hc r => k c v ?_ r) (fun c r => by rw [bU (nown c b r)]; exact r) fun c xs r => by rw [bU (ntup c xs r)]; exact r
   rcases hc with rfl | hc
   ·exact hbe
   ·rintro rfl
    rcases he with z | z
    ·exact nown c b hc z
    ·rw [hc] at z; cases z; exact hb rfl
end
structure Un (fs ex : List Addr) (H H' : Hp) (h h' : Heap) : Prop where
 keep : ∀ b o, h.get? b = some o → H b = none → b ∉ fs → b ∉ ex → h'.get? b = some o
 slot : ∀ b o, h.get? b = some o → H b = none → b ∈ fs → b ∉ ex → ∃ sl, h'.get? b = some { o with slots := sl }
 free : ∀ b o, h.get? b = some o → H b = none → b ∉ ex → H' b = none
 there : ∀ b o, h.get? b = some o → b ∉ ex → ∃ o', h'.get? b = some o'
 tups : ∀ b xs, H b = some (.tup xs) → H' b = some (.tup xs)
 frzs : ∀ b o u, H b = some (.frz o u) → H' b = some (.frz o u)
 tbls : ∀ b ps, H b = some (.tbl ps) → ∃ more, H' b = some (.tbl (ps ++ more))
section
variable {fs fs' ex ex' : List Addr} {H H1 H2 : Hp} {h h1 h2 h' : Heap} {a x e : Addr} {o : HO}
theorem Un.any (u : Un fs ex H H1 h h1) {b : Addr} {ob : Obj} (q : h.get? b = some ob) (n : H b = none) (hx : b ∉ ex) : ∃ sl, h1.get? b = some { ob with slots := sl } := by
 by_cases hb : b ∈ fs
 ·exact u.slot b ob q n hb hx
 ·exact ⟨ob.slots, u.keep b ob q n hb hx⟩
theorem Un.kept (k : ∀ b u, h.get? b = some u → h'.get? b = some u) : Un fs ex H H h h' :=
 ⟨fun b ob q _ _ _ => k b ob q, fun b ob q _ _ _ => ⟨ob.slots, k b ob q⟩, fun _ _ _ n _ => n, fun b ob q _ => ⟨ob, k b ob q⟩, fun _ _ q => q, fun _ _ _ q => q, fun _ ps q => ⟨#[], by rw [q]; simp⟩⟩
theorem Un.refl : Un fs ex H H h h := Un.kept fun _ _ q => q
theorem Un.laid (k : ∀ b u, h.get? b = some u → h'.get? b = some u) (hp : h.objs.size ≤ a) (hn : H a = none) : Un fs ex H (aU H a o) h h' where
 keep := fun b u q _ _ _ => k b u q
 slot := fun b u q _ _ _ => ⟨u.slots, k b u q⟩
 free := fun b u q n _ => by rw [bU (Nat.ne_of_lt (Nat.lt_of_lt_of_le (Heap.lt_size q) hp))]; exact n
 there := fun b u q _ => ⟨u, k b u q⟩
 tups := fun b xs q => by rw [bU (dW q hn)]; exact q
 frzs := fun b u xs q => by rw [bU (dW q hn)]; exact q
 tbls := fun b ps q => ⟨#[], by rw [bU (dW q hn), q]; simp⟩
theorem Un.write (mu : nZ (H x)) (he : e = x ∨ H e = some (.own x)) (k : ∀ b u, b ≠ e → h.get? b = some u → h'.get? b = some u) (heo : ∃ u, h'.get? e = some u) : Un fs ex H (aU H x o) h h' := by
 have hx : ∀ b, H b = none → b ≠ x := fun b n z => by subst z; rw [n] at mu; exact mu
 have hb : ∀ b, H b = none → b ≠ e := fun b n z => by
  subst z
  rcases he with r | r
  ·exact hx b n r
  ·rw [n] at r; cases r
 have hm : ∀ b u, H b = some u → ¬ nZ (some u) → b ≠ x := fun b u q nm z => by subst z; rw [q] at mu; exact nm mu
 refine ⟨fun b u q n _ _ => k b u (hb b n) q, fun b u q n _ _ => ⟨u.slots, k b u (hb b n) q⟩, fun b u q n _ => by rw [bU (hx b n)]; exact n, fun b u q _ => ?_,
  fun b xs q => by rw [bU (hm b _ q fun z => z)]; exact q, fun b u xs q => by rw [bU (hm b _ q fun z => z)]; exact q, fun b ps q => ⟨#[], by rw [bU (hm b _ q fun z => z), q]; simp⟩⟩
 by_cases hbe : b = e
 ·subst hbe; exact heo
 ·exact ⟨u, k b u hbe q⟩
end
def rA (h : Heap) (H : Hp) : List Addr := (List.range h.objs.size).filter fun a => (H a).isSome
def j2 (h : Heap) (H : Hp) : Heap := PySem.W.hideAll h (rA h H)
theorem JY (h : Heap) (H : Hp) : (j2 h H).objs.size = h.objs.size := PySem.W.hideAll_size _ _
theorem JZ {h : Heap} {H : Hp} {b : Addr} {o : Obj} (e : h.get? b = some o) (n : H b = none) : (j2 h H).get? b = some o :=
 PySem.W.hideAll_get _ e fun hm => by
  have q : (H b).isSome = true := (List.mem_filter.mp hm).2
  rw [n] at q; simp at q
theorem J0 {h : Heap} {H : Hp} {b : Addr} {o : Obj} (e : (j2 h H).get? b = some o) : h.get? b = some o ∧ H b = none := by
 have e' : h.get? b = some o := PySem.W.of_hideAll (rA h H) e
 refine ⟨e', ?_⟩
 cases q : H b with
 | none => rfl
 | some x =>
  have hm : b ∈ rA h H := List.mem_filter.mpr ⟨List.mem_range.mpr (Heap.lt_size e'), by simp [q]⟩
  have z : (j2 h H).get? b = none := PySem.W.hideAll_none (rA h H) hm
  rw [z] at e; cases e
def J1 (g h : Heap) (L : Addr) : List (Addr × Obj) := (List.range h.objs.size).filterMap fun a => if a = L ∨ (g.get? a).isSome = true then none else (h.get? a).map fun o => (a, o)
def rest (g h : Heap) (L d : Addr) : List (Addr × Obj) := (J1 g h L).filter fun p => decide (p.1 ≠ d)
end L2
namespace L2
open PySem PySem.Spec PyProof.Rows
structure Mod (K : PySem.W.Frag) (mg : Str → Option Value) (base : Heap) : Prop where
 kin : K.In base
 glob : base.Ns mainGlobals mg
 blt : ∃ mb, base.Ns builtinsNs mb ∧ ∀ x : Str, x ≠ "__name__" → mb x = bootBuiltins x
 nolimit : base.NoLimit
structure Cx where
 prog : Program
 w : World
 K : PySem.W.Frag
 mg : Str → Option Value
 base : Heap
 A : Around
 N : List Str
 s₀ : Shared
 H₀ : Hp
 env : Env
 outer : List Env
 stack : List Env
 ex : List Addr
 fn : Str → Bool
 calm : Bool
 pn : List (Addr × Obj)
 xe : Value → Shared → Prop
def bP (l : List Env) : List Addr := l.filterMap (·.frame)
abbrev Cx.fs (X : Cx) : List Addr := bP X.outer
def rB (sc : Scope) (x : Str) : Prop := sc.names.lookup x = some .local ∨ sc.names.lookup x = some .cell ∨ sc.names.lookup x = some .free
def Loc (sc : Scope) (x : Str) : Prop := sc.names.lookup x = some .local ∨ sc.names.lookup x = some .cell
def Look (env : Env) (h : Heap) (m : Str → Option Value) (x : Str) (u : Value) : Prop :=
 (env.kindOf x = some .local ∧ m x = some u) ∨ ((env.kindOf x = some .cell ∨ env.kindOf x = some .free) ∧ ∃ c, env.cells.lookup x = some c ∧ h.IsCell c (some u))
structure Cx.Ok (X : Cx) : Prop where
 mod : Mod X.K X.mg X.base
 kind : X.env.scope.kind = .function
 glob : X.env.globals = mainGlobals
 blt : X.env.builtins = builtinsNs
 above : X.s₀.heap.objs.size ≤ X.env.locals
 inj : ∀ x y c, X.env.cells.lookup x = some c → X.env.cells.lookup y = some c → x = y
 has : ∀ x, (X.env.kindOf x = some .cell ∨ X.env.kindOf x = some .free) → ∃ c, X.env.cells.lookup x = some c
 cab : ∀ x c, X.fn x = true → X.env.cells.lookup x = some c → X.s₀.heap.objs.size ≤ c
 hd : X.calm = true → X.A.handled = none
 frames : X.A.frames = some X.stack
 stk : X.stack = X.outer ∨ (X.stack = X.env :: X.outer ∧ X.env.frame = some X.env.locals)
 exf : ∀ b ∈ X.ex, b ≠ X.env.locals ∧ ∀ x c, X.env.cells.lookup x = some c → c ≠ b
 bs : ∀ b o, X.base.get? b = some o → X.s₀.heap.get? b = some o ∧ X.H₀ b = none
 bsz : X.base.objs.size ≤ X.s₀.heap.objs.size
 noex : ∀ b o, X.base.get? b = some o → b ∉ X.ex
 exfs : ∀ b ∈ X.ex, b ∉ X.fs
 funs : X.s₀.heap.FunFrames X.base X.outer
 frf : ∀ b ∈ X.fs, X.H₀ b = none
structure Inv (X : Cx) (pins : List (Addr × Obj)) (σ : List (Option V)) (H : Hp) (s : Shared) : Prop where
 ok : X.Ok
 os : s.os = X.s₀.os
 bare : AllBare s.gens
 base : Un X.fs X.ex X.H₀ H X.s₀.heap s.heap
 loc : ∃ m, s.heap.Ns X.env.locals m ∧ ∀ (i : Nat) (x : Str) (v : V), X.N[i]? = some x → σ[i]? = some (some v) → rB X.env.scope x → ∃ u, RelV v u ∧ Look X.env s.heap m x u
 cell : ∀ x c, X.env.cells.lookup x = some c → ∃ v, s.heap.IsCell c v
 free : H X.env.locals = none
 freeC : ∀ x c, X.env.cells.lookup x = some c → H c = none
 pin : ∀ p ∈ X.pn ++ pins, s.heap.get? p.1 = some p.2 ∧ H p.1 = none ∧ p.1 ≠ X.env.locals ∧ p.1 ∉ X.fs ∧ ∀ v, p.2.data ≠ .cell v
 hok : bZ X.prog X.w H s.heap
 len : σ.length = X.N.length
section
variable {X : Cx} {pins : List (Addr × Obj)} {σ : List (Option V)} {H H' : Hp} {s : Shared} {h' : Heap}
theorem Cx.Ok.nofr (ok : X.Ok) {b : Addr} {o : Obj} (e : X.base.get? b = some o) : b ∉ X.fs := fun hb => by
 have := (ok.funs.mem hb).1
 rw [e] at this; cases this
theorem Inv.bs (I : Inv X pins σ H s) : ∀ b o, X.base.get? b = some o → s.heap.get? b = some o ∧ H b = none := fun b o e =>
 ⟨I.base.keep b o (I.ok.bs b o e).1 (I.ok.bs b o e).2 (I.ok.nofr e) (I.ok.noex b o e), I.base.free b o (I.ok.bs b o e).1 (I.ok.bs b o e).2 (I.ok.noex b o e)⟩
theorem Inv.bk (I : Inv X pins σ H s) : ∀ b o, X.base.get? b = some o → s.heap.get? b = some o := fun b o e => (I.bs b o e).1
theorem Inv.mod (I : Inv X pins σ H s) : Mod X.K X.mg X.base := I.ok.mod
theorem Inv.kIn (I : Inv X pins σ H s) : X.K.In s.heap := I.ok.mod.kin.keeps I.bk
theorem Inv.nolimit (I : Inv X pins σ H s) : s.heap.NoLimit := I.ok.mod.nolimit.keeps I.bk
theorem Inv.fr (I : Inv X pins σ H s) : ∃ m, Fr X.base X.env.locals s.heap m :=
 let ⟨m, hn, _⟩ := I.loc
 ⟨m, hn, I.bk, Nat.le_trans I.ok.bsz I.ok.above⟩
theorem Inv.lt (I : Inv X pins σ H s) : X.env.locals < s.heap.objs.size := let ⟨_, hn, _⟩ := I.loc; hn.lt
theorem Inv.sz (I : Inv X pins σ H s) : X.s₀.heap.objs.size ≤ s.heap.objs.size := Nat.le_trans I.ok.above (Nat.le_of_lt I.lt)
theorem Inv.nofs (I : Inv X pins σ H s) {a : Addr} (h : s.heap.objs.size ≤ a) : a ∉ X.fs := fun hb => by
 obtain ⟨_, o, ho, _⟩ := I.ok.funs.mem hb
 exact absurd (Nat.lt_of_lt_of_le (Heap.lt_size ho) (Nat.le_trans I.sz h)) (Nat.lt_irrefl _)
theorem Inv.cne (I : Inv X pins σ H s) : ∀ x c, X.env.cells.lookup x = some c → c ≠ X.env.locals := fun x c e z => by
 obtain ⟨v, o, ho, hd⟩ := I.cell x c e
 obtain ⟨m, ⟨o', es, ep, ho', hd', _⟩, _⟩ := I.loc
 rw [z, ho'] at ho; cases ho; rw [hd'] at hd; cases hd
theorem Inv.funs (I : Inv X pins σ H s) : s.heap.FunFrames X.base X.outer := by
 have all : ∀ (l : List Env), (∀ b ∈ bP l, b ∈ X.fs) → X.s₀.heap.FunFrames X.base l → s.heap.FunFrames X.base l := by
  intro l
  induction l with
  | nil => intro _ _; trivial
  | cons env r ih =>
   intro hs hl
   obtain ⟨hk, ⟨L, o, hf, hn, ho, hd⟩, hr⟩ := hl
   have hL : L ∈ X.fs := hs L (by unfold bP; rw [List.filterMap_cons, hf]; exact List.mem_cons_self)
   obtain ⟨sl, e⟩ := I.base.slot L o ho (I.ok.frf L hL) hL fun z => I.ok.exfs L z hL
   exact ⟨hk, ⟨L, _, hf, hn, e, hd⟩, ih (fun b hb => hs b (by unfold bP; rw [List.filterMap_cons, hf]; exact List.mem_cons_of_mem _ hb)) hr⟩
 exact all X.outer (fun _ hb => hb) I.ok.funs
theorem Inv.stack (I : Inv X pins σ H s) : s.heap.FunFrames X.base X.stack := by
 rcases I.ok.stk with e | ⟨e, hf⟩
 ·rw [e]; exact I.funs
 ·rw [e]
  obtain ⟨m, hn, _⟩ := I.loc
  refine .cons (by rw [I.ok.kind]; decide) hf hn ?_ I.funs
  exact Heap.get?_none_of_le (Nat.le_trans I.ok.bsz I.ok.above)
theorem Inv.stkSub (I : Inv X pins σ H s) : ∀ b ∈ bP X.stack, b ∈ X.env.locals :: X.fs := fun b hb => by
 rcases I.ok.stk with e | ⟨e, hf⟩
 ·rw [e] at hb; exact List.mem_cons_of_mem _ hb
 ·rw [e] at hb
  unfold bP at hb
  rw [List.filterMap_cons, hf] at hb
  exact hb
theorem Inv.stkFree (I : Inv X pins σ H s) : ∀ b ∈ bP X.stack, H b = none := fun b hb => by
 rcases List.mem_cons.mp (I.stkSub b hb) with e | hb
 ·rw [e]; exact I.free
 ·obtain ⟨_, o, ho, _⟩ := I.ok.funs.mem hb
  exact I.base.free b o ho (I.ok.frf b hb) fun z => I.ok.exfs b z hb
theorem Inv.step {g' : Array GenState} {t' : Nat} {d' : Drawn} {ch : List Addr} (I : Inv X pins σ H s)
  (hch : ∀ b ∈ ch, (b ∈ X.ex ∨ X.s₀.heap.objs.size ≤ b) ∧ b ≠ X.env.locals ∧ (∀ x c, X.env.cells.lookup x = some c → c ≠ b) ∧ ∀ p ∈ X.pn ++ pins, p.1 ≠ b)
  (keep : ∀ b o, b ≠ X.env.locals → b ∉ X.fs → b ∉ ch → s.heap.get? b = some o → H b = none → h'.get? b = some o)
  (slot : ∀ b o, b ≠ X.env.locals → b ∈ X.fs → b ∉ ch → s.heap.get? b = some o → H b = none → ∃ sl, h'.get? b = some { o with slots := sl }) (free : ∀ b o, b ∉ ch → s.heap.get? b = some o → H b = none → H' b = none)
  (there : ∀ b o, b ∉ ch → s.heap.get? b = some o → ∃ o', h'.get? b = some o')
  (tups : ∀ b xs, H b = some (.tup xs) → H' b = some (.tup xs)) (frzs : ∀ b o u, H b = some (.frz o u) → H' b = some (.frz o u)) (tbls : ∀ b ps, H b = some (.tbl ps) → ∃ more, H' b = some (.tbl (ps ++ more)))
  (ns : ∀ m, s.heap.Ns X.env.locals m → h'.Ns X.env.locals m) (hok : bZ X.prog X.w H' h') (hg : AllBare g') :
  Inv X pins σ H' { s with heap := h', gens := g', drawn := d', toks := t' } := by
 have neL : ∀ b o, X.s₀.heap.get? b = some o → b ≠ X.env.locals := fun b o e => Nat.ne_of_lt (Nat.lt_of_lt_of_le (Heap.lt_size e) I.ok.above)
 have neC : ∀ b o, X.s₀.heap.get? b = some o → b ∉ X.ex → b ∉ ch := fun b o e hx hb => by
  rcases (hch b hb).1 with z | z
  ·exact hx z
  ·exact absurd (Nat.lt_of_lt_of_le (Heap.lt_size e) z) (Nat.lt_irrefl _)
 have cellK : ∀ x c, X.env.cells.lookup x = some c → ∀ v, s.heap.IsCell c v → h'.IsCell c v := fun x c e v ⟨o, ho, hd⟩ => by
  have nch : c ∉ ch := fun z => (hch c z).2.2.1 x c e rfl
  by_cases hc : c ∈ X.fs
  ·obtain ⟨sl, q⟩ := slot c o (I.cne x c e) hc nch ho (I.freeC x c e)
   exact ⟨_, q, hd⟩
  ·exact ⟨o, keep c o (I.cne x c e) hc nch ho (I.freeC x c e), hd⟩
 refine ⟨I.ok, I.os, hg, ⟨fun b o e n hb hx => ?_, fun b o e n hb hx => ?_, fun b o e n hx => ?_, fun b o e hx => ?_, fun b xs e => tups b xs (I.base.tups b xs e), fun b o xs e => frzs b o xs (I.base.frzs b o xs e), fun b ps e => ?_⟩, ?_, fun x c e => ?_, ?_, fun x c e => ?_, fun p hp => ?_, hok, I.len⟩
 ·exact keep b o (neL b o e) hb (neC b o e hx) (I.base.keep b o e n hb hx) (I.base.free b o e n hx)
 ·obtain ⟨sl, e1⟩ := I.base.slot b o e n hb hx
  obtain ⟨sl', e2⟩ := slot b _ (neL b o e) hb (neC b o e hx) e1 (I.base.free b o e n hx)
  exact ⟨sl', e2⟩
 ·obtain ⟨o', e1⟩ := I.base.there b o e hx
  exact free b o' (neC b o e hx) e1 (I.base.free b o e n hx)
 ·obtain ⟨o', e1⟩ := I.base.there b o e hx
  exact there b o' (neC b o e hx) e1
 ·obtain ⟨m1, e1⟩ := I.base.tbls b ps e
  obtain ⟨m2, e2⟩ := tbls b _ e1
  exact ⟨m1 ++ m2, by rw [e2, Array.append_assoc]⟩
 ·obtain ⟨m, hn, hl⟩ := I.loc
  refine ⟨m, ns m hn, fun i x v e1 e2 e3 => ?_⟩
  obtain ⟨u, r, l⟩ := hl i x v e1 e2 e3
  refine ⟨u, r, ?_⟩
  rcases l with l | ⟨k, c, e, z⟩
  ·exact .inl l
  ·exact .inr ⟨k, c, e, cellK x c e _ z⟩
 ·obtain ⟨v, z⟩ := I.cell x c e
  exact ⟨v, cellK x c e v z⟩
 ·obtain ⟨m, ⟨o, _, _, ho, _⟩, _⟩ := I.loc
  exact free _ o (fun z => (hch _ z).2.1 rfl) ho I.free
 ·obtain ⟨v, o, ho, hd⟩ := I.cell x c e
  exact free c o (fun z => (hch c z).2.2.1 x c e rfl) ho (I.freeC x c e)
 ·obtain ⟨e, n, ne, nf, d⟩ := I.pin p hp
  have nch : p.1 ∉ ch := fun z => (hch p.1 z).2.2.2 p hp rfl
  exact ⟨keep p.1 p.2 ne nf nch e n, free p.1 p.2 nch e n, ne, nf, d⟩
theorem Inv.un {t' : Nat} (I : Inv X pins σ H s) (u : Un X.fs [] H H' s.heap h') (hok : bZ X.prog X.w H' h') : Inv X pins σ H' { s with heap := h', toks := t' } := by
 obtain ⟨m, ⟨o, es, ep, ho, r⟩, _⟩ := id I.loc
 obtain ⟨sl, hL⟩ := u.any ho I.free (by simp)
 exact I.step (g' := s.gens) (d' := s.drawn) (ch := []) (fun _ z => nomatch z) (fun b o _ hb _ e n => u.keep b o e n hb (by simp)) (fun b o _ hb _ e n => u.slot b o e n hb (by simp)) (fun b o _ e n => u.free b o e n (by simp)) (fun b o _ e => u.there b o e (by simp)) u.tups u.frzs u.tbls (fun m' hm => by
  obtain ⟨o', es', ep', ho', r'⟩ := hm
  rw [ho] at ho'; cases ho'
  exact ⟨_, es', ep', hL, r'⟩) hok I.bare
theorem Inv.call {g' : Array GenState} {t' : Nat} {d' : Drawn} {ch : List Addr} (I : Inv X pins σ H s) (u : Un (bP X.stack) ch H H' s.heap h') (hok : bZ X.prog X.w H' h') (hg : AllBare g')
  (hch : ∀ b ∈ ch, (b ∈ X.ex ∨ X.s₀.heap.objs.size ≤ b) ∧ b ≠ X.env.locals ∧ (∀ x c, X.env.cells.lookup x = some c → c ≠ b) ∧ ∀ p ∈ X.pn ++ pins, p.1 ≠ b) :
  Inv X pins σ H' { s with heap := h', gens := g', drawn := d', toks := t' } := by
 obtain ⟨m, ⟨o, es, ep, ho, r⟩, _⟩ := id I.loc
 obtain ⟨sl, hL⟩ := u.any ho I.free fun z => (hch _ z).2.1 rfl
 exact I.step (ch := ch) hch (fun b o hL hb hc e n => u.keep b o e n (fun z => (List.mem_cons.mp (I.stkSub b z)).elim hL hb) hc) (fun b o _ _ hc e n => u.any e n hc) (fun b o hc e n => u.free b o e n hc) (fun b o hc e => u.there b o e hc) u.tups u.frzs u.tbls (fun m' hm => by
  obtain ⟨o', es', ep', ho', r'⟩ := hm
  rw [ho] at ho'; cases ho'
  exact ⟨_, es', ep', hL, r'⟩) hok hg
theorem Inv.turned {t' : Nat} {it : Addr} (I : Inv X pins σ H s) (k : ∀ b o, b ≠ it → s.heap.get? b = some o → h'.get? b = some o) (hn : H it = none) (hL : it ≠ X.env.locals)
  (h1 : it ∈ X.ex ∨ X.s₀.heap.objs.size ≤ it) (h2 : ∀ x c, X.env.cells.lookup x = some c → c ≠ it) (h3 : ∀ p ∈ X.pn ++ pins, p.1 ≠ it) : Inv X pins σ H { s with heap := h', toks := t' } := by
 have nit : ∀ b u, H b = some u → b ≠ it := fun b u e z => by rw [z, hn] at e; cases e
 refine I.step (g' := s.gens) (d' := s.drawn) (ch := [it]) (fun b hb => ?_) (fun b o _ _ hc e _ => k b o (fun z => hc (by simp [z])) e) (fun b o _ _ hc e _ => ⟨o.slots, k b o (fun z => hc (by simp [z])) e⟩) (fun _ _ _ _ n => n)
  (fun b o hc e => ⟨o, k b o (fun z => hc (by simp [z])) e⟩) (fun _ _ e => e) (fun _ _ _ e => e) (fun b ps e => ⟨#[], by rw [e]; simp⟩) (fun m hm => ?_) (fun b u e => ?_) I.bare
 ·have e : b = it := by simpa using hb
  subst e
  exact ⟨h1, hL, h2, h3⟩
 ·obtain ⟨o, es, ep, ho, r⟩ := hm
  exact ⟨o, es, ep, k _ o (Ne.symm hL) ho, r⟩
 ·refine (I.hok b u e).stay (fun c v hc q => k c v ?_ q) (fun _ q => q) fun _ _ q => q
  rcases hc with z | z
  ·rw [z]; exact nit b u e
  ·exact nit c _ z
theorem Inv.tok (I : Inv X pins σ H s) (t : Nat) : Inv X pins σ H { s with toks := t } := I.un (h' := s.heap) (t' := t) Un.refl I.hok
theorem Inv.kept {t' : Nat} (I : Inv X pins σ H s) (k : ∀ b u, s.heap.get? b = some u → h'.get? b = some u) : Inv X pins σ H { s with heap := h', toks := t' } := I.un (Un.kept k) (I.hok.kept k)
theorem Inv.laid {a : Addr} {o : HO} {t' : Nat} (I : Inv X pins σ H s) (k : ∀ b u, s.heap.get? b = some u → h'.get? b = some u) (hp : s.heap.objs.size ≤ a) (new : cL X.prog X.w (aU H a o) h' a o) :
  Inv X pins σ (aU H a o) { s with heap := h', toks := t' } := I.un (Un.laid k hp (I.hok.fresh hp)) (I.hok.laid k hp new)
theorem Inv.write {x e : Addr} {o : HO} {t' : Nat} (I : Inv X pins σ H s) (mu : nZ (H x)) (he : e = x ∨ H e = some (.own x)) (k : ∀ b u, b ≠ e → s.heap.get? b = some u → h'.get? b = some u) (heo : ∃ u, h'.get? e = some u)
  (new : cL X.prog X.w (aU H x o) h' x o) : Inv X pins σ (aU H x o) { s with heap := h', toks := t' } := I.un (Un.write mu he k heo) (I.hok.write mu he k heo new)
theorem Inv.pins_of {pins' : List (Addr × Obj)} (I : Inv X pins σ H s) (h : ∀ p ∈ pins', s.heap.get? p.1 = some p.2 ∧ H p.1 = none ∧ p.1 ≠ X.env.locals ∧ p.1 ∉ X.fs ∧ ∀ v, p.2.data ≠ .cell v) : Inv X pins' σ H s :=
 ⟨I.ok, I.os, I.bare, I.base, I.loc, I.cell, I.free, I.freeC, fun p hp => (List.mem_append.mp hp).elim (fun z => I.pin p (List.mem_append_left _ z)) (h p), I.hok, I.len⟩
theorem uG {N : List Str} (hN : N.Nodup) {i j : Nat} {x : Str} (a : N[i]? = some x) (b : N[j]? = some x) : i = j := by
 obtain ⟨h1, e1⟩ := List.getElem?_eq_some_iff.mp a
 obtain ⟨h2, e2⟩ := List.getElem?_eq_some_iff.mp b
 exact (List.getElem_inj hN).mp (e1.trans e2.symm)
theorem zE {M : Model} {A : Around} {E : Value → Shared → Prop} {i : Nat} {x : Str} {v : V} {u : Value} {Q : Unit → Shared → Prop} (I : Inv X pins σ H s) (hN : X.N.Nodup) (hi : X.N[i]? = some x) (hx : Loc X.env.scope x) (r : RelV v u)
  (h : ∀ s', Inv X pins (σ.set i (some v)) H s' → (∃ a, Heap.SameBut a s.heap s'.heap ∧ (a = X.env.locals ∨ X.env.cells.lookup x = some a)) → Q () s') (hf : X.fn x = true ∨ X.env.scope.names.lookup x = some .local := by first | exact .inl rfl | exact .inr rfl | assumption) : wpAny M A (storeName X.env x u) Q E s := by
 obtain ⟨m, hn, hl⟩ := id I.loc
 have hcls : (X.env.scope.kind == .class || (X.env.scope.kind == .module && X.env.locals != X.env.globals)) = false := by rw [I.ok.kind]; rfl
 have hiσ : i < σ.length := by rw [I.len]; exact (List.getElem?_eq_some_iff.mp hi).1
 have cne := I.cne
 have tracked : ∀ {a : Addr} {h' : Heap}, (∃ o, s.heap.get? a = some o ∧ H a = none) → Heap.SameBut a s.heap h' → bZ X.prog X.w H h' := fun {a h'} ha hs b ob e => by
  obtain ⟨_, _, hfree⟩ := ha
  refine (I.hok b ob e).stay (fun c w' hc q => (hs.2 c ?_).trans q) (fun _ q => q) fun _ _ q => q
  rintro rfl
  rcases hc with rfl | hc
  ·rw [hfree] at e; cases e
  ·rw [hfree] at hc; cases hc
 rcases hx with hk | hk
 ·refine wpAny_storeName_local hk hn (fun h' hn' hs => ?_) hcls
  obtain ⟨oL, _, _, hoL, _⟩ := id hn
  refine h _ ⟨I.ok, I.os, I.bare, ⟨fun b o e n hb hx => ?_, fun b o e n hb hx => ?_, I.base.free, fun b o e hx => ?_, I.base.tups, I.base.frzs, I.base.tbls⟩, ⟨_, hn', fun j y v' e1 e2 e3 => ?_⟩, fun y c e => ?_, I.free, I.freeC, fun p hp => ?_, tracked ⟨oL, hoL, I.free⟩ hs, by simpa using I.len⟩ ⟨_, hs, .inl rfl⟩
  ·exact (hs.2 b (Nat.ne_of_lt (Nat.lt_of_lt_of_le (Heap.lt_size e) I.ok.above))).trans (I.base.keep b o e n hb hx)
  ·obtain ⟨sl, e1⟩ := I.base.slot b o e n hb hx
   exact ⟨sl, (hs.2 b (Nat.ne_of_lt (Nat.lt_of_lt_of_le (Heap.lt_size e) I.ok.above))).trans e1⟩
  ·obtain ⟨o', e1⟩ := I.base.there b o e hx
   exact ⟨o', (hs.2 b (Nat.ne_of_lt (Nat.lt_of_lt_of_le (Heap.lt_size e) I.ok.above))).trans e1⟩
  ·by_cases hj : j = i
   ·subst hj
    rw [hi] at e1; cases e1
    rw [List.getElem?_set_self hiσ] at e2
    cases e2
    exact ⟨u, r, .inl ⟨hk, by simp⟩⟩
   ·rw [List.getElem?_set_ne (Ne.symm hj)] at e2
    obtain ⟨u', r', q⟩ := hl j y v' e1 e2 e3
    refine ⟨u', r', ?_⟩
    rcases q with ⟨k, e⟩ | ⟨k, c, e, z⟩
    ·refine .inl ⟨k, ?_⟩
     have : y ≠ x := fun e => hj (uG hN e1 (e ▸ hi))
     simp [this, e]
    ·exact .inr ⟨k, c, e, z.sameBut hs (cne y c e)⟩
  ·obtain ⟨w', z⟩ := I.cell y c e
   exact ⟨w', z.sameBut hs (cne y c e)⟩
  ·obtain ⟨e, n, ne, nf, d⟩ := I.pin p hp
   exact ⟨(hs.2 p.1 ne).trans e, n, ne, nf, d⟩
 ·have hfn : X.fn x = true := by
   rcases hf with z | z
   ·exact z
   ·rw [z] at hk; cases hk
  obtain ⟨c, hc⟩ := I.ok.has x (.inl hk)
  obtain ⟨w', z⟩ := I.cell x c hc
  refine wpAny_storeName_cell I.ok.kind hk hc z (fun h' hc' hs => ?_)
  obtain ⟨oc, hoc, hocd⟩ := id z
  refine h { s with heap := h' } ⟨I.ok, I.os, I.bare, ⟨fun b o e n hb hx => ?_, fun b o e n hb hx => ?_, I.base.free, fun b o e hx => ?_, I.base.tups, I.base.frzs, I.base.tbls⟩, ⟨m, hn.sameBut hs (Ne.symm (cne x c hc)), fun j y v' e1 e2 e3 => ?_⟩, fun y c' e => ?_, I.free, I.freeC, fun p hp => ?_, tracked ⟨oc, hoc, I.freeC x c hc⟩ hs, by simpa using I.len⟩ ⟨c, hs, .inr hc⟩
  ·exact (hs.2 b (Nat.ne_of_lt (Nat.lt_of_lt_of_le (Heap.lt_size e) (I.ok.cab x c hfn hc)))).trans (I.base.keep b o e n hb hx)
  ·obtain ⟨sl, e1⟩ := I.base.slot b o e n hb hx
   exact ⟨sl, (hs.2 b (Nat.ne_of_lt (Nat.lt_of_lt_of_le (Heap.lt_size e) (I.ok.cab x c hfn hc)))).trans e1⟩
  ·obtain ⟨o', e1⟩ := I.base.there b o e hx
   exact ⟨o', (hs.2 b (Nat.ne_of_lt (Nat.lt_of_lt_of_le (Heap.lt_size e) (I.ok.cab x c hfn hc)))).trans e1⟩
  ·by_cases hj : j = i
   ·subst hj
    rw [hi] at e1; cases e1
    rw [List.getElem?_set_self hiσ] at e2
    cases e2
    exact ⟨u, r, .inr ⟨.inl hk, c, hc, hc'⟩⟩
   ·rw [List.getElem?_set_ne (Ne.symm hj)] at e2
    obtain ⟨u', r', q⟩ := hl j y v' e1 e2 e3
    refine ⟨u', r', ?_⟩
    rcases q with q | ⟨k, c', e, z'⟩
    ·exact .inl q
    ·refine .inr ⟨k, c', e, z'.sameBut hs ?_⟩
     rintro rfl
     exact hj (uG hN e1 (I.ok.inj _ _ _ e hc ▸ hi))
  ·by_cases hcc : c' = c
   ·subst hcc; exact ⟨_, hc'⟩
   ·obtain ⟨w2, z2⟩ := I.cell y c' e
    exact ⟨w2, z2.sameBut hs hcc⟩
  ·obtain ⟨e, n, ne, nf, d⟩ := I.pin p hp
   refine ⟨(hs.2 p.1 ?_).trans e, n, ne, nf, d⟩
   intro q
   rw [q, hoc] at e
   have q' : oc = p.2 := Option.some.inj e
   exact d w' (by rw [← q']; exact hocd)
theorem rC {M : Model} {A : Around} {E : Value → Shared → Prop} {i : Nat} {x : Str} {v : V} {u : Value} {Q : Unit → Shared → Prop} (I : Inv X pins σ H s) (hN : X.N.Nodup) (hi : X.N[i]? = some x) (hx : Loc X.env.scope x) (r : RelV v u)
  (h : ∀ s', Inv X pins (σ.set i (some v)) H s' → Q () s') (hf : X.fn x = true ∨ X.env.scope.names.lookup x = some .local := by first | exact .inl rfl | exact .inr rfl | assumption) : wpAny M A (storeName X.env x u) Q E s :=
 zE I hN hi hx r (fun s' I' _ => h s' I') hf
theorem Inv.call' {s' : Shared} {ch : List Addr} (I : Inv X pins σ H s) (ho : s'.os = s.os) (u : Un (bP X.stack) ch H H' s.heap s'.heap) (hok : bZ X.prog X.w H' s'.heap) (hg : AllBare s'.gens)
  (hch : ∀ b ∈ ch, (b ∈ X.ex ∨ X.s₀.heap.objs.size ≤ b) ∧ b ≠ X.env.locals ∧ (∀ x c, X.env.cells.lookup x = some c → c ≠ b) ∧ ∀ p ∈ X.pn ++ pins, p.1 ≠ b) : Inv X pins σ H' s' := by
 obtain ⟨h', g', d', t', o'⟩ := s'
 have e : o' = s.os := ho
 subst e
 exact I.call (g' := g') (t' := t') (d' := d') u hok hg hch
end
abbrev XK := Value → Option Addr → Hp → Prop
abbrev St := List (Option V)
abbrev VK := V → Hp → Prop
abbrev TE := St → Hp → VK → Prop
abbrev TT := St → Hp → (Bool → Hp → Prop) → Prop
abbrev TA := St → Hp → (List V → Hp → Prop) → Prop
structure hV where
 nx : St → Hp → Prop
 rt : VK
 bk : St → Hp → Prop := fun _ _ => False
 ct : St → Hp → Prop := fun _ _ => False
abbrev TS := hV → St → Hp → Prop
def EP (X : Cx) (pins : List (Addr × Obj)) (σ : St) (Q : VK) (u : Value) (s' : Shared) : Prop := ∃ v H', Inv X pins σ H' s' ∧ RelV v u ∧ Q v H'
def TP (X : Cx) (pins : List (Addr × Obj)) (σ : St) (Q : Bool → Hp → Prop) (b : Bool) (s' : Shared) : Prop := ∃ H', Inv X pins σ H' s' ∧ Q b H'
def AP (X : Cx) (pins : List (Addr × Obj)) (σ : St) (Q : List V → Hp → Prop) (us : List Value) (s' : Shared) : Prop := ∃ vs H', Inv X pins σ H' s' ∧ aY vs us ∧ Q vs H'
def SP (X : Cx) (pins : List (Addr × Obj)) (D : hV) (f : Flow) (s' : Shared) : Prop :=
 match f with
 | .next => ∃ σ' H', Inv X pins σ' H' s' ∧ D.nx σ' H'
 | .brk => ∃ σ' H', Inv X pins σ' H' s' ∧ D.bk σ' H'
 | .cont => ∃ σ' H', Inv X pins σ' H' s' ∧ D.ct σ' H'
 | .ret u => ∃ v σ' H', Inv X pins σ' H' s' ∧ RelV v u ∧ D.rt v H'
def PE (X : Cx) (e : Expr) (t : TE) : Prop :=
 ∀ (pins : List (Addr × Obj)) (s : Shared) (σ : St) (H : Hp) (Q : VK), Inv X pins σ H s → t σ H Q → wpAny (model X.prog X.w) X.A (eval e X.env) (EP X pins σ Q) X.xe s
def PT (X : Cx) (e : Expr) (t : TT) : Prop :=
 ∀ (pins : List (Addr × Obj)) (s : Shared) (σ : St) (H : Hp) (Q : Bool → Hp → Prop), Inv X pins σ H s → t σ H Q → wpAny (model X.prog X.w) X.A (isTrue e X.env (eval e X.env)) (TP X pins σ Q) X.xe s
def PW (X : Cx) (e : Expr) (t : TT) : Prop :=
 ∀ (whole : Sem Value) (pins : List (Addr × Obj)) (s : Shared) (σ : St) (H : Hp) (Q : Bool → Hp → Prop), Inv X pins σ H s → t σ H Q → wpAny (model X.prog X.w) X.A (isTrue e X.env whole) (TP X pins σ Q) X.xe s
theorem PW.pt {X : Cx} {e : Expr} {t : TT} (h : PW X e t) : PT X e t := h _
def PA (X : Cx) (es : List Expr) (t : TA) : Prop :=
 ∀ (pos : Pos) (pins : List (Addr × Obj)) (s : Shared) (σ : St) (H : Hp) (Q : List V → Hp → Prop), Inv X pins σ H s → t σ H Q → wpAny (model X.prog X.w) X.A (spliced (backTo pos (starEach es X.env))) (AP X pins σ Q) X.xe s
def PS (X : Cx) (st : Stmt) (t : TS) : Prop :=
 ∀ (pins : List (Addr × Obj)) (s : Shared) (σ : St) (H : Hp) (D : hV), Inv X pins σ H s → t D σ H → wpAny (model X.prog X.w) X.A (exec st X.env) (SP X pins D) X.xe s
def dX (X : Cx) (st : List Stmt) (t : TS) : Prop :=
 ∀ (pins : List (Addr × Obj)) (s : Shared) (σ : St) (H : Hp) (D : hV), Inv X pins σ H s → t D σ H → wpAny (model X.prog X.w) X.A (execs st X.env) (SP X pins D) X.xe s
theorem aV {α : Type} {t : Sem α} {Q Q' : α → Shared → Prop} {M : Model} {A : Around} {E : Value → Shared → Prop} {s : Shared} (h : wpAny M A t Q E s) (hQ : ∀ a s, Q a s → Q' a s) : wpAny M A t Q' E s := wpAny_mono h hQ fun _ _ x => x
end L2
namespace L2
open PySem PySem.Spec PyProof.Rows
section
variable {X : Cx}
theorem bin {a b : Expr} {ta tb : TE} (ha : PE X a ta) (hb : PE X b tb) {pins : List (Addr × Obj)} {s : Shared} {σ : St} {H : Hp} {R : V → V → Hp → Prop} (I : Inv X pins σ H s) (h : ta σ H fun x H1 => tb σ H1 fun y H2 => R x y H2)
  {α : Type} {Q : α → Shared → Prop} {f : Value → Value → Sem α}
  (hf : ∀ v u s2 x y H2, Inv X pins σ H2 s2 → RelV x v → RelV y u → R x y H2 → wpAny (model X.prog X.w) X.A (f v u) Q X.xe s2) :
  wpAny (model X.prog X.w) X.A (eval a X.env) (fun v s₁ => wpAny (model X.prog X.w) X.A (eval b X.env) (fun u s₂ => wpAny (model X.prog X.w) X.A (f v u) Q X.xe s₂) X.xe s₁) X.xe s := by
 refine aV (ha pins s σ H _ I h) fun v s1 ⟨x, H1, I1, r1, q1⟩ => ?_
 refine aV (hb pins s1 σ H1 _ I1 q1) fun u s2 ⟨y, H2, I2, r2, q2⟩ => ?_
 exact hf v u s2 x y H2 I2 r1 r2 q2
def zF (i : Nat) : TE := fun σ H Q => ∃ v, σ[i]? = some (some v) ∧ Q v H
def tC (v : V) : TE := fun _ H Q => Q v H
theorem zG {i : Nat} {x : Str} {pos : Pos} (hN : X.N[i]? = some x) (hv : rB X.env.scope x) (hd : (x == ("__debug__" : Str)) = false := by decide) (hcd : (x == ("__classdict__" : Str)) = false := by decide) : PE X (.Name x pos) (zF i) := by
 intro pins s σ H Q I h
 obtain ⟨v, e, h⟩ := h
 obtain ⟨m, hn, hl⟩ := I.loc
 obtain ⟨u, r, l⟩ := hl i x v hN e hv
 have fin : EP X pins σ Q u s := ⟨v, H, I, r, h⟩
 rcases l with ⟨hk, hm⟩ | ⟨hk, c, hc, hcell⟩
 ·exact wpAny_Name (wpAny_loadName_local I.ok.kind hk hn hm fin) hd
 ·rcases hk with hk | hk
  ·exact wpAny_Name (wpAny_loadName_cell I.ok.kind hk hc hcell fin) hd
  ·exact wpAny_Name (wpAny_loadName_free I.ok.kind hk hc hcell fin hcd) hd
theorem J6 {i j pos} : PE X (.Constant (.int i) j pos) (tC (.int i)) := fun _ _ _ H _ I h => wpAny_Constant_int ⟨.int i, H, I.tok _, ⟨_, rfl⟩, h⟩
theorem J7 {b j pos} : PE X (.Constant (.bool b) j pos) (tC (.bl b)) := fun _ _ _ H _ I h => Constant_bool ⟨.bl b, H, I, rfl, h⟩
theorem J8 {j pos} : PE X (.Constant .none j pos) (tC .non) := fun _ _ _ H _ I h => Constant_none ⟨.non, H, I, rfl, h⟩
theorem J9 {x j pos} : PE X (.Constant (.str x) j pos) (tC (.str x)) := fun _ _ _ H _ I h => Calls.Constant_str ⟨.str x, H, I.tok _, ⟨_, rfl⟩, h⟩
def Gl (X : Cx) (x : Str) : Prop := X.env.kindOf x = some .globalImplicit
theorem n4 {E : Value → Shared → Prop} {pins : List (Addr × Obj)} {s : Shared} {σ : St} {H : Hp} {x : Str} {u : Value} {pos : Pos} {Q : Value → Shared → Prop} (I : Inv X pins σ H s) (hg : Gl X x) (hm : X.mg x = some u) (h : Q u s)
  (hd : (x == ("__debug__" : Str)) = false := by decide) : wpAny (model X.prog X.w) X.A (eval (.Name x pos) X.env) Q E s :=
 Calls.Name_function_global I.ok.kind hg (Calls.loadGlobal_global (by rw [I.ok.glob]; exact I.mod.glob.keeps I.bk) hm h) hd
theorem n5 {E : Value → Shared → Prop} {pins : List (Addr × Obj)} {s : Shared} {σ : St} {H : Hp} {x : Str} {u : Value} {pos : Pos} {Q : Value → Shared → Prop} (I : Inv X pins σ H s) (hg : Gl X x) (hm : X.mg x = none) (hv : bootBuiltins x = some u) (h : Q u s)
  (hn : x ≠ "__name__" := by decide) (hd : (x == ("__debug__" : Str)) = false := by decide) : wpAny (model X.prog X.w) X.A (eval (.Name x pos) X.env) Q E s := by
 obtain ⟨mb, h1, h2⟩ := I.mod.blt
 exact Calls.Name_function_global I.ok.kind hg (Calls.loadGlobal_builtin (by rw [I.ok.glob]; exact I.mod.glob.keeps I.bk) hm (by rw [I.ok.blt]; exact h1.keeps I.bk) ((h2 x hn).trans hv) h) hd
theorem KA {x : Str} {v : V} {u : Value} {pos : Pos} (hg : Gl X x) (hm : X.mg x = some u) (r : RelV v u) (hd : (x == ("__debug__" : Str)) = false := by decide) : PE X (.Name x pos) (tC v) :=
 fun _ _ _ H _ I h => n4 I hg hm ⟨v, H, I, r, h⟩ hd
theorem KC {x : Str} {v : V} {u : Value} {pos : Pos} (hg : Gl X x) (hm : X.mg x = none) (hv : bootBuiltins x = some u) (r : RelV v u) (hn : x ≠ "__name__" := by decide) (hd : (x == ("__debug__" : Str)) = false := by decide) : PE X (.Name x pos) (tC v) :=
 fun _ _ _ H _ I h => n5 I hg hm hv ⟨v, H, I, r, h⟩ hn hd
variable {a b : Expr} {ta tb : TE} {pos : Pos}
variable {tA tB' : TT} {rest : List Expr}
def KD (t u : TT) : TT := fun σ H Q => t σ H fun c H1 => if c = true then u σ H1 Q else Q false H1
def KG (t u : TT) : TT := fun σ H Q => t σ H fun c H1 => if c = true then Q true H1 else u σ H1 Q
def KH (t : TT) : TT := fun σ H Q => t σ H fun c H1 => Q (!c) H1
theorem KI (ha : PT X a tA) : PW X (.BoolOp .And [a] pos) tA := by
 intro wh pins s σ H Q I h
 refine isTrue_and (aV (ha pins s σ H Q I h) fun c s1 e => ?_)
 cases c with
 | true => exact isTrue_and_nil e
 | false => exact e
theorem KJ (ha : PT X a tA) : PW X (.BoolOp .Or [a] pos) tA := by
 intro wh pins s σ H Q I h
 refine isTrue_or (aV (ha pins s σ H Q I h) fun c s1 e => ?_)
 cases c with
 | false => exact isTrue_or_nil e
 | true => exact e
theorem KL (ha : PT X a tA) (hb : PW X (.BoolOp .And (b :: rest) pos) tB') : PW X (.BoolOp .And (a :: b :: rest) pos) (KD tA tB') := by
 intro wh pins s σ H Q I h
 refine isTrue_and (aV (ha pins s σ H _ I h) fun c s1 ⟨H1, I1, q1⟩ => ?_)
 cases c with
 | true => exact hb wh pins s1 σ H1 Q I1 q1
 | false => exact ⟨H1, I1, q1⟩
theorem KN (ha : PT X a tA) (hb : PW X (.BoolOp .Or (b :: rest) pos) tB') : PW X (.BoolOp .Or (a :: b :: rest) pos) (KG tA tB') := by
 intro wh pins s σ H Q I h
 refine isTrue_or (aV (ha pins s σ H _ I h) fun c s1 ⟨H1, I1, q1⟩ => ?_)
 cases c with
 | true => exact ⟨H1, I1, q1⟩
 | false => exact hb wh pins s1 σ H1 Q I1 q1
theorem KO (ha : PT X a tA) : PT X (.UnaryOp .Not a pos) (KH tA) := by
 intro pins s σ H Q I h
 exact isTrue_not (ha pins s σ H (fun c H1 => Q (!c) H1) I h)
def KP (ta tb : TE) : TE := fun σ H Q => ta σ H fun x H1 => ∃ c, x = .bl c ∧ if c = true then tb σ H1 Q else Q (.bl false) H1
def KQ (ta tb : TE) : TE := fun σ H Q => ta σ H fun x H1 => ∃ c, x = .bl c ∧ if c = true then Q (.bl true) H1 else tb σ H1 Q
theorem KR {op} {t : TE} (h : PE X a t) : PE X (.BoolOp op [a] pos) t := fun pins s σ H Q I hw => BoolOp_one (h pins s σ H Q I hw)
theorem KS (ha : PE X a ta) (hb : PE X (.BoolOp .And (b :: rest) pos) tb) : PE X (.BoolOp .And (a :: b :: rest) pos) (KP ta tb) := by
 intro pins s σ H Q I h
 refine BoolOp_and (aV (ha pins s σ H _ I h) fun v s1 ⟨x, H1, I1, r1, q1⟩ => ?_)
 obtain ⟨c, rfl, q1⟩ := q1
 cases r1
 refine wpAny_truthy_bool ?_
 cases c with
 | true => exact hb pins s1 σ H1 Q I1 q1
 | false => exact ⟨.bl false, H1, I1, rfl, q1⟩
theorem KU (ha : PE X a ta) (hb : PE X (.BoolOp .Or (b :: rest) pos) tb) : PE X (.BoolOp .Or (a :: b :: rest) pos) (KQ ta tb) := by
 intro pins s σ H Q I h
 refine BoolOp_or (aV (ha pins s σ H _ I h) fun v s1 ⟨x, H1, I1, r1, q1⟩ => ?_)
 obtain ⟨c, rfl, q1⟩ := q1
 cases r1
 refine wpAny_truthy_bool ?_
 cases c with
 | false => exact hb pins s1 σ H1 Q I1 q1
 | true => exact ⟨.bl true, H1, I1, rfl, q1⟩
def KW (t : TT) (ta tb : TE) : TE := fun σ H Q => t σ H fun c H1 => if c = true then ta σ H1 Q else tb σ H1 Q
theorem KY {c : Expr} (hc : PT X c tA) (ha : PE X a ta) (hb : PE X b tb) : PE X (.IfExp c a b pos) (KW tA ta tb) := by
 intro pins s σ H Q I h
 refine wpAny_IfExp (aV (hc pins s σ H _ I h) fun d s1 ⟨H1, I1, q1⟩ => ?_)
 cases d with
 | true => exact ha pins s1 σ H1 Q I1 q1
 | false => exact hb pins s1 σ H1 Q I1 q1
end
end L2
namespace L2
open PySem PySem.Spec PyProof.Rows
def a6 (K : PySem.W.Frag) (H : Hp) (a : Addr) (xs : List V) : Prop :=
 Rd H a (.lst xs) ∨
  ∃ (o : Obj) (its : Array Value) (n : Nat), K.lookup a = some o ∧ o.cls = .type "list" ∧ o.dict = none ∧ o.data = .seq its n ∧ its.size ≤ sizeLine ∧ aY xs its.toList
def bV (K : PySem.W.Frag) (H : Hp) (a : Addr) (xs : List V) : Prop :=
 Rd H a (.tup xs) ∨
  ∃ (o : Obj) (its : Array Value) (n : Nat), K.lookup a = some o ∧ o.cls = .type "tuple" ∧ o.data = .seq its n ∧ its.size ≤ sizeLine ∧ aY xs its.toList
def KZ : Value → Option V
 | .none => some .non
 | .bool b => some (.bl b)
 | .int i _ => some (.int i)
 | .str x _ => some (.str x)
 | .bytes b _ => some (.byt b)
 | .float b _ => some (.flt b)
 | .ref a => some (.ref a)
 | .type n => some (.ty n)
 | _ => none
theorem RelV.abs {x : V} {u : Value} (r : RelV x u) : KZ u = some x := by
 cases x with
 | non => cases r; rfl
 | bl _ => cases r; rfl
 | int _ => obtain ⟨t, rfl⟩ := r; rfl
 | str _ => obtain ⟨t, rfl⟩ := r; rfl
 | byt _ => obtain ⟨t, rfl⟩ := r; rfl
 | flt _ => obtain ⟨t, rfl⟩ := r; rfl
 | ref _ => cases r; rfl
 | ty _ => cases r; rfl
theorem RelV.inj {x y : V} {u : Value} (r : RelV x u) (q : RelV y u) : x = y := Option.some.inj (r.abs.symm.trans q.abs)
theorem aY.inj : ∀ {xs ys : List V} {us : List Value}, aY xs us → aY ys us → xs = ys
 | _, _, _, .nil, .nil => rfl
 | _, _, _, .cons r t, .cons r' t' => by rw [r.inj r', aY.inj t t']
section
variable {X : Cx} {pins : List (Addr × Obj)} {σ : St} {H : Hp} {s : Shared} {a : Addr} {xs ys : List V}
theorem a6.of {K : PySem.W.Frag} (h : H a = some (.lst xs)) : a6 K H a xs := .inl (.inl h)
theorem bV.of {K : PySem.W.Frag} (h : H a = some (.tup xs)) : bV K H a xs := .inl (.inl h)
theorem Inv.list (I : Inv X pins σ H s) (h : a6 X.K H a xs) : ∃ its : List Value, aY xs its ∧ PlainL s.heap a its.toArray ∧ xs.length ≤ sizeLine := by
 rcases h with h | ⟨o, its, n, hk, hc, hd, hs, hz, r⟩
 ·obtain ⟨z, its, n, r, e⟩ := h.ok I.hok
  exact ⟨its, r, ⟨_, n, e, rfl, rfl, rfl⟩, z⟩
 ·refine ⟨its.toList, r, ⟨o, n, I.kIn a o hk, hc, hd, by simpa using hs⟩, ?_⟩
  have e := r.length
  simp only [Array.length_toList] at e
  omega
theorem Inv.tuple (I : Inv X pins σ H s) (h : bV X.K H a xs) : ∃ its : List Value, aY xs its ∧ IsTup s.heap a its.toArray ∧ xs.length ≤ sizeLine := by
 rcases h with h | ⟨o, its, n, hk, hc, hs, hz, r⟩
 ·obtain ⟨z, its, r, p⟩ := h.ok I.hok
  exact ⟨its, r, p, z⟩
 ·refine ⟨its.toList, r, ⟨o, I.kIn a o hk, hc, n, by simpa using hs⟩, ?_⟩
  have e := r.length
  simp only [Array.length_toList] at e
  omega
theorem Inv.list_inj (I : Inv X pins σ H s) (h : a6 X.K H a xs) (h' : a6 X.K H a ys) : xs = ys := by
 obtain ⟨its, r, ⟨o, n, e, _, _, d⟩, _⟩ := I.list h
 obtain ⟨its', r', ⟨o', n', e', _, _, d'⟩, _⟩ := I.list h'
 rw [e] at e'; cases e'
 rw [d] at d'
 injection d' with d1 _
 have : its = its' := by simpa using congrArg Array.toList d1
 subst this
 exact r.inj r'
theorem Inv.tuple_inj (I : Inv X pins σ H s) (h : bV X.K H a xs) (h' : bV X.K H a ys) : xs = ys := by
 obtain ⟨its, r, ⟨o, e, _, n, d⟩, _⟩ := I.tuple h
 obtain ⟨its', r', ⟨o', e', _, n', d'⟩, _⟩ := I.tuple h'
 rw [e] at e'; cases e'
 rw [d] at d'
 injection d' with d1 _
 have : its = its' := by simpa using congrArg Array.toList d1
 subst this
 exact r.inj r'
end
abbrev Cx.wish (X : Cx) (E : Value → Shared → Prop) : Cx := { X with xe := E }
abbrev Cx.nox (X : Cx) : Cx := X.wish fun _ _ => False
theorem Cx.Ok.wish {X : Cx} (ok : X.Ok) (E : Value → Shared → Prop) : (X.wish E).Ok :=
 ⟨ok.mod, ok.kind, ok.glob, ok.blt, ok.above, ok.inj, ok.has, ok.cab, ok.hd, ok.frames, ok.stk, ok.exf, ok.bs, ok.bsz, ok.noex, ok.exfs, ok.funs, ok.frf⟩
theorem Cx.Ok.unwish {X : Cx} {E : Value → Shared → Prop} (ok : (X.wish E).Ok) : X.Ok :=
 ⟨ok.mod, ok.kind, ok.glob, ok.blt, ok.above, ok.inj, ok.has, ok.cab, ok.hd, ok.frames, ok.stk, ok.exf, ok.bs, ok.bsz, ok.noex, ok.exfs, ok.funs, ok.frf⟩
section
variable {X : Cx} {pins : List (Addr × Obj)} {σ : St} {H : Hp} {s : Shared} {E : Value → Shared → Prop}
theorem Inv.wish (I : Inv X pins σ H s) (E : Value → Shared → Prop) : Inv (X.wish E) pins σ H s := ⟨I.ok.wish E, I.os, I.bare, I.base, I.loc, I.cell, I.free, I.freeC, I.pin, I.hok, I.len⟩
theorem Inv.unwish (I : Inv (X.wish E) pins σ H s) : Inv X pins σ H s := ⟨I.ok.unwish, I.os, I.bare, I.base, I.loc, I.cell, I.free, I.freeC, I.pin, I.hok, I.len⟩
theorem SP.unwish {D : hV} {f : Flow} {s' : Shared} (h : SP (X.wish E) pins D f s') : SP X pins D f s' := by
 cases f with
 | next => obtain ⟨σ', H', I, q⟩ := h; exact ⟨σ', H', I.unwish, q⟩
 | brk => obtain ⟨σ', H', I, q⟩ := h; exact ⟨σ', H', I.unwish, q⟩
 | cont => obtain ⟨σ', H', I, q⟩ := h; exact ⟨σ', H', I.unwish, q⟩
 | ret u => obtain ⟨v, σ', H', I, r, q⟩ := h; exact ⟨v, σ', H', I.unwish, r, q⟩
theorem dX.nox {st : List Stmt} {t : TS} (h : dX X.nox st t) : dX X st t := fun pins s σ H D I hw =>
 wpAny_mono (h pins s σ H D (I.wish _) hw) (fun _ _ q => q.unwish) fun _ _ z => False.elim z
end
section
variable {X : Cx} {st : Stmt} {rest : List Stmt} {t u : TS} {e : Expr} {te : TE} {pos : Pos}
def K0 : TS := fun D σ H => D.nx σ H
def K1 (t u : TS) : TS := fun D σ H => t { D with nx := u D } σ H
theorem zH : dX X [] K0 := fun _ _ σ H _ I h => wpAny_execs_nil ⟨σ, H, I, h⟩
theorem zJ (h1 : PS X st t) (h2 : dX X rest u) : dX X (st :: rest) (K1 t u) := by
 intro pins s σ H D I h
 refine wpAny_execs_cons (aV (h1 pins s σ H { D with nx := u D } I h) fun f s1 q => ?_)
 cases f with
 | next =>
  obtain ⟨σ', H', I', q⟩ := q
  exact h2 pins s1 σ' H' D I' q
 | ret v => exact q
 | brk => exact q
 | cont => exact q
theorem zK (h1 : PS X st t) : dX X [st] t := by
 intro pins s σ H D I h
 refine wpAny_execs_cons (aV (h1 pins s σ H D I h) fun f s1 q => ?_)
 cases f with
 | next => exact wpAny_execs_nil q
 | ret v => exact q
 | brk => exact q
 | cont => exact q
theorem Inv.quiet {pins : List (Addr × Obj)} {σ : St} {H : Hp} {s : Shared} (I : Inv X pins σ H s) : interactive X.env = false := by simp [interactive, I.ok.kind]
def K2 (te : TE) : TS := fun D σ H => te σ H fun _ H1 => D.nx σ H1
theorem zL (he : PE X e te) (hs : swapsWith e none pos.line X.env = pure false := by rfl) : PS X (.Expr e pos) (K2 te) := by
 intro pins s σ H D I h
 exact wpAny_Expr_any (aV (he pins s σ H _ I h) fun v s1 ⟨x, H1, I1, r1, q1⟩ => ⟨σ, H1, I1, q1⟩) I.quiet hs
def K4 (te : TE) : TS := fun D σ H => te σ H D.rt
theorem uH (he : PE X e te) : PS X (.Return (some e) pos) (K4 te) := by
 intro pins s σ H D I h
 exact wpAny_Return_some (aV (he pins s σ H _ I h) fun v s1 ⟨x, H1, I1, r1, q1⟩ => ⟨x, σ, H1, I1, r1, q1⟩)
def K5 (c : TT) (t u : TS) : TS := fun D σ H => c σ H fun b H1 => if b = true then t D σ H1 else u D σ H1
theorem zM {c : Expr} {a b : List Stmt} {tc : TT} (hc : PT X c tc) (ha : dX X a t) (hb : dX X b u) : PS X (.If c a b pos) (K5 tc t u) := by
 intro pins s σ H D I h
 refine wpAny_If (aV (hc pins s σ H _ I h) fun d s1 ⟨H1, I1, q1⟩ => ?_)
 cases d with
 | true => exact ha pins s1 σ H1 D I1 q1
 | false => exact hb pins s1 σ H1 D I1 q1
def K6 : TS := fun _ _ _ => False
theorem K7 {sts : List Stmt} : dX X sts K6 := fun _ _ _ _ _ _ h => h.elim
end
abbrev TG := V → St → Hp → (St → Hp → Prop) → Prop
abbrev i0 := List V → St → Hp → (St → Hp → Prop) → Prop
def PG (X : Cx) (target : Expr) (t : TG) : Prop :=
 ∀ (pins : List (Addr × Obj)) (s : Shared) (σ : St) (H : Hp) (v : V) (u : Value) (Q : St → Hp → Prop), Inv X pins σ H s → RelV v u → t v σ H Q →
  wpAny (model X.prog X.w) X.A (assign target X.env u) (fun _ s' => ∃ σ' H', Inv X pins σ' H' s' ∧ Q σ' H') X.xe s
def iM (X : Cx) (ts : List Expr) (t : i0) : Prop :=
 ∀ (pins : List (Addr × Obj)) (s : Shared) (σ : St) (H : Hp) (vs : List V) (us : List Value) (Q : St → Hp → Prop), Inv X pins σ H s → aY vs us → t vs σ H Q →
  wpAny (model X.prog X.w) X.A (assignInOrder ((assignEach ts X.env).map (·.2)) us) (fun _ s' => ∃ σ' H', Inv X pins σ' H' s' ∧ Q σ' H') X.xe s
abbrev rD := V → V → V → Hp → (Hp → Prop) → Prop
def rE (X : Cx) (t : rD) : Prop :=
 ∀ (pins : List (Addr × Obj)) (s : Shared) (σ : St) (H : Hp) (o i v : V) (ov iv u : Value) (Q : Hp → Prop), Inv X pins σ H s → RelV o ov → RelV i iv → RelV v u → t o i v H Q →
  wpAny (model X.prog X.w) X.A (setItem ov iv u) (fun _ s' => ∃ H', Inv X pins σ H' s' ∧ Q H') X.xe s
section
variable {X : Cx} {pos : Pos}
def uI (i : Nat) : TG := fun v σ H Q => Q (σ.set i (some v)) H
theorem K8 {i : Nat} {x : Str} (hN : X.N.Nodup) (hi : X.N[i]? = some x) (hx : Loc X.env.scope x) (hf : X.fn x = true ∨ X.env.scope.names.lookup x = some .local := by first | exact .inl rfl | exact .inr rfl | assumption) : PG X (.Name x pos) (uI i) := by
 intro pins s σ H v u Q I r h
 exact wpAny_assign_Name (rC I hN hi hx r (fun s' I' => ⟨_, H, I', h⟩) hf)
def K9 : i0 := fun vs σ H Q => vs = [] ∧ Q σ H
def LA (t : TG) (u : i0) : i0 := fun vs σ H Q => ∃ v r, vs = v :: r ∧ t v σ H fun σ' H' => u r σ' H' Q
theorem LB : iM X [] K9 := by
 intro pins s σ H vs us Q I r h
 obtain ⟨e, h⟩ := h
 subst e
 cases r
 exact assignInOrder_nil ⟨σ, H, I, h⟩
theorem LC {e : Expr} {es : List Expr} {t : TG} {u : i0} (h1 : PG X e t) (h2 : iM X es u)
  (hs : (assignEach (e :: es) X.env).map (·.2) = assign e X.env :: (assignEach es X.env).map (·.2) := by rfl) : iM X (e :: es) (LA t u) := by
 intro pins s σ H vs us Q I r h
 obtain ⟨v, vr, e1, h⟩ := h
 subst e1
 cases r with
 | cons r rr =>
  rw [hs]
  refine assignInOrder_cons (aV (h1 pins s σ H _ _ _ I r h) fun _ s1 ⟨σ1, H1, I1, q1⟩ => ?_)
  exact h2 pins s1 σ1 H1 _ _ Q I1 rr q1
def LD (K : PySem.W.Frag) (n : Nat) (t : i0) : TG := fun v σ H Q => ∃ a xs, v = .ref a ∧ bV K H a xs ∧ xs.length = n ∧ t xs σ H Q
theorem LF {es : List Expr} {k : Nat} {t : i0} {n : Nat} (hc : X.calm = true) (h : iM X es t)
  (hn : (assignEach es X.env).length = n := by rfl) (hst : (assignEach es X.env).findIdx? (·.1) = none := by rfl) : PG X (.Tuple es k pos) (LD X.K n t) := by
 intro pins s σ H v u Q I r hw
 obtain ⟨a, xs, e1, hq, hl, hw⟩ := hw
 subst e1
 cases r
 obtain ⟨its, rv, ht, hz⟩ := I.tuple hq
 refine assign_Tuple_tuple (I.ok.hd hc) ht (by simp [hn, ← hl, rv.length]) hst fun h' hx => ?_
 have I1 : Inv X pins σ H { s with heap := h' } := I.kept (t' := s.toks) fun b o e => hx b o (Nat.ne_of_lt (Heap.lt_size e)) e
 exact h pins _ σ H xs _ Q I1 (by simpa using rv) hw
def LG (to ti : TE) (t : rD) : TG := fun v σ H Q => to σ H fun o H1 => ti σ H1 fun i H2 => t o i v H2 fun H3 => Q σ H3
theorem LH {o i : Expr} {to ti : TE} {t : rD} (ho : PE X o to) (hi : PE X i ti) (hs : rE X t)
  (ha : ∀ v, assign (.Subscript o i pos) X.env v = (do
   let ov ← holding [v] (eval o X.env)
   let iv ← holding [v, ov] (eval i X.env)
   standAt pos
   holding [v, ov, iv] (setItem ov iv v)
   release [v, ov, iv] []) := by intro _; rfl) : PG X (.Subscript o i pos) (LG to ti t) := by
 intro pins s σ H v u Q I r h
 rw [ha]
 refine wpAny_bind (wpAny_holding (aV (ho pins s σ H _ I h) fun ov s1 ⟨x, H1, I1, r1, q1⟩ => ?_))
 refine wpAny_bind (wpAny_holding (aV (hi pins s1 σ H1 _ I1 q1) fun iv s2 ⟨y, H2, I2, r2, q2⟩ => ?_))
 refine wpAny_bind (wpAny_standAt (wpAny_bind (wpAny_holding (aV (hs pins s2 σ H2 x y v ov iv u _ I2 r1 r2 r q2) fun _ s3 ⟨H3, I3, q3⟩ => ?_))))
 exact wpAny_release ⟨σ, H3, I3, q3⟩
def rF (te : TE) (g : TG) : TS := fun D σ H => te σ H fun x H1 => g x σ H1 D.nx
theorem LI {tg e : Expr} {te : TE} {g : TG} (he : PE X e te) (hg : PG X tg g) (hs : swapsWithSole [tg] e pos.line X.env = pure false := by rfl) (hw : swappedStores [tg] e X.env = pure none := by rfl)
  (h1 : (assignEach [tg] X.env).map (·.2) = [assign tg X.env] := by rfl) : PS X (.Assign [tg] e pos) (rF te g) := by
 intro pins s σ H D I h
 refine wpAny_Assign_stores (aV (he pins s σ H _ I h) fun v s1 ⟨x, H1, I1, r1, q1⟩ => ?_) hs hw
 rw [h1]
 exact aV (hg pins s1 σ H1 x v _ I1 r1 q1) fun _ s2 q => q
theorem zN {i : Nat} {x : Str} {e : Expr} {te : TE} {pos' : Pos} (hN : X.N.Nodup) (hi : X.N[i]? = some x) (hx : Loc X.env.scope x) (he : PE X e te) (hs : swapsWith e (some (.Name x pos')) pos.line X.env = pure false := by rfl) (hf : X.fn x = true ∨ X.env.scope.names.lookup x = some .local := by first | exact .inl rfl | exact .inr rfl | assumption) :
  PS X (.Assign [.Name x pos'] e pos) (rF te (uI i)) := by
 intro pins s σ H D I h
 refine wpAny_Assign_Name (aV (he pins s σ H _ I h) fun v s1 ⟨y, H1, I1, r1, q1⟩ => ?_) hs
 exact rC I1 hN hi hx r1 (fun s2 I2 => ⟨_, H1, I2, q1⟩) hf
end
section
variable {X : Cx} {pos : Pos}
def LJ (c : TT) (tb : TS) : TS := fun D σ H => ∃ W : Nat → St → Hp → Prop, (∃ m, W m σ H) ∧ ∀ m σ H, W m σ H →
 c σ H fun b H1 => if b = true then ∃ N : St → Hp → Prop, (∀ σ' H', N σ' H' → ∃ m', m' < m ∧ W m' σ' H') ∧ tb { D with nx := N, ct := N, bk := D.nx } σ H1 else D.nx σ H1
theorem LK {c : Expr} {body : List Stmt} {tc : TT} {tb : TS} (hp : PassesOwn (model X.prog X.w) X.A X.env X.xe) (hc : PT X c tc) (hb : dX X body tb) : PS X (.While c body [] pos) (LJ tc tb) := by
 intro pins s σ H D I h
 obtain ⟨W, ⟨m0, w0⟩, turn⟩ := h
 refine wpAny_While (codeAny_whileLoop (fun n s' => ∃ σ' H', Inv X pins σ' H' s' ∧ W n σ' H') ?_ m0 ⟨σ, H, I, w0⟩)
 rintro n s1 ⟨σ1, H1, I1, w1⟩
 refine wpAny_passesOwn hp (aV (hc pins s1 σ1 H1 _ I1 (turn n σ1 H1 w1)) fun b s2 ⟨H2, I2, q2⟩ => ?_)
 cases b with
 | true =>
  obtain ⟨N, hN, q2⟩ := q2
  rw [if_pos rfl]
  refine wpAny_passesOwn hp (aV (hb pins s2 σ1 H2 _ I2 q2) fun f s3 q3 => ?_)
  cases f with
  | next =>
   obtain ⟨σ3, H3, I3, n3⟩ := q3
   obtain ⟨m', hm, w3⟩ := hN σ3 H3 n3
   exact ⟨m', hm, σ3, H3, I3, w3⟩
  | cont =>
   obtain ⟨σ3, H3, I3, n3⟩ := q3
   obtain ⟨m', hm, w3⟩ := hN σ3 H3 n3
   exact ⟨m', hm, σ3, H3, I3, w3⟩
  | brk => exact q3
  | ret v => exact q3
 | false =>
  rw [if_neg Bool.false_ne_true]
  exact wpAny_execs_nil ⟨σ1, H2, I2, q2⟩
end
structure It where
 go : Nat → Hp → Prop
 yld : Nat → Hp → V → Hp → Prop
 stop : Nat → Hp → Prop
def fQ (X : Cx) (pins : List (Addr × Obj)) (H : Hp) (b : Addr) : Prop :=
 H b = none ∧ b ≠ X.env.locals ∧ b ∉ X.fs ∧ (b ∈ X.ex ∨ X.s₀.heap.objs.size ≤ b) ∧ (∀ x c, X.env.cells.lookup x = some c → c ≠ b) ∧ ∀ p ∈ X.pn ++ pins, p.1 ≠ b
theorem Inv.fpOk {X : Cx} {pins : List (Addr × Obj)} {σ : St} {H H' : Hp} {s : Shared} {b : Addr} (I : Inv X pins σ H s) (hb : s.heap.objs.size ≤ b) (hn : H' b = none) : fQ X pins H' b := by
 refine ⟨hn, Nat.ne_of_gt (Nat.lt_of_lt_of_le I.lt hb), I.nofs hb, .inr (Nat.le_trans I.sz hb), fun x c e z => ?_, fun p hp z => ?_⟩
 ·obtain ⟨v, q⟩ := I.cell x c e
  exact absurd (Nat.lt_of_lt_of_le q.lt (by rw [z]; exact hb)) (Nat.lt_irrefl _)
 ·exact absurd (Nat.lt_of_lt_of_le (Heap.lt_size (I.pin p hp).1) (by rw [z]; exact hb)) (Nat.lt_irrefl _)
structure kQ (P : Program) (w : World) (K : PySem.W.Frag) (tg : Expr) (J : It) (fp : List Addr) (it : Addr) (tn : Nat → Heap → Prop) : Prop where
 mem : it ∈ fp
 obj : ∀ i h, tn i h → ∀ b ∈ fp, ∃ o, h.get? b = some o ∧ ∀ v, o.data ≠ .cell v
 keep : ∀ i h h', tn i h → (∀ b ∈ fp, ∀ o, h.get? b = some o → h'.get? b = some o) → tn i h'
 item : ∀ (X : Cx), X.prog = P → X.w = w → X.K = K → X.calm = true → ∀ (i : Nat) (pins : List (Addr × Obj)) (s : Shared) (σ : St) (H : Hp) (E : Value → Shared → Prop), Inv X pins σ H s → (∀ b ∈ fp, fQ X pins H b) → tn i s.heap → J.go i H →
  wpAny (model P w) X.A (pyNext (.ref it)) (fun r s1 => ∃ u, r = some u ∧
   wpAny (model P w) X.A (letOwnedTupleGo tg (.ref it) u) (fun _ s2 => ∃ x H', Inv X pins σ H' s2 ∧ RelV x u ∧ J.yld i H x H' ∧ tn (i + 1) s2.heap ∧ ∀ b ∈ fp, H' b = none) E s1) E s
 done : ∀ (X : Cx), X.prog = P → X.w = w → X.K = K → X.calm = true → ∀ (i : Nat) (pins : List (Addr × Obj)) (s : Shared) (σ : St) (H : Hp) (E : Value → Shared → Prop), Inv X pins σ H s → (∀ b ∈ fp, fQ X pins H b) → tn i s.heap → J.stop i H →
  wpAny (model P w) X.A (pyNext (.ref it)) (fun r s1 => r = none ∧ Inv X pins σ H s1) E s
 self : ∀ (A : Around) (i : Nat) (s : Shared) (Q : Value → Shared → Prop) (E : Value → Shared → Prop), tn i s.heap → Q (.ref it) s → wpAny (model P w) A (pyIter (.ref it)) Q E s
abbrev TI := St → Hp → (It → Hp → Prop) → Prop
def uJ (X : Cx) (pins : List (Addr × Obj)) (σ : St) (tg : Expr) (R : It → Hp → Prop) (itv : Value) (s2 : Shared) : Prop :=
 ∃ (it : Addr) (fp : List Addr) (tn : Nat → Heap → Prop) (J : It) (H' : Hp), itv = .ref it ∧ Inv X pins σ H' s2 ∧ kQ X.prog X.w X.K tg J fp it tn ∧ tn 0 s2.heap ∧ (∀ b ∈ fp, fQ X pins H' b) ∧ R J H'
def PI (X : Cx) (tg iter : Expr) (wi : TI) : Prop :=
 ∀ (pins : List (Addr × Obj)) (s : Shared) (σ : St) (H : Hp) (R : It → Hp → Prop), Inv X pins σ H s → wi σ H R →
  wpAny (model X.prog X.w) X.A (eval iter X.env) (fun v s1 => wpAny (model X.prog X.w) X.A (pyIter v) (uJ X pins σ tg R) X.xe s1) X.xe s
theorem rG {M : Model} {A : Around} {E : Value → Shared → Prop} {s : Shared} {tg : Expr} {it : Addr} {u : Value} {o : Obj} {n : String} {vs : Array Value} {Q : Unit → Shared → Prop} (ho : s.heap.get? it = some o) (hc : o.cls = .type n) (hd : o.data = .fields vs)
  (hn : ["enumerate", "zip", "dict_itemiterator", "dict_reverseitemiterator", "odict_iterator", "itertools.zip_longest", "itertools.pairwise"].contains n = false) (hQ : Q () s) : wpAny M A (letOwnedTupleGo tg (.ref it) u) Q E s := by
 unfold letOwnedTupleGo
 cases tg <;> first
  | exact wpAny_pure hQ
  | (cases u <;> first
    | exact wpAny_pure hQ
    | (refine wpAny_bind (wpAny_load ho ?_)
       rw [hc, hd]
       show wpAny M A (if (["enumerate", "zip", "dict_itemiterator", "dict_reverseitemiterator", "odict_iterator", "itertools.zip_longest", "itertools.pairwise"].contains n && vs[0]? == some (rawInt _)) = true then _ else _) Q E s
       rw [if_neg (by intro h; rw [hn, Bool.false_and] at h; cases h)]
       exact wpAny_pure hQ))
def mO (K : PySem.W.Frag) (a : Addr) : It :=
 ⟨fun i H => ∃ xs x, a6 K H a xs ∧ xs[i]? = some x, fun i H x H' => H' = H ∧ ∀ xs, a6 K H a xs → xs[i]? = some x, fun i H => ∃ xs, a6 K H a xs ∧ xs.length ≤ i⟩
def uK (K : PySem.W.Frag) (a : Addr) : It :=
 ⟨fun i H => ∃ xs x, bV K H a xs ∧ xs[i]? = some x, fun i H x H' => H' = H ∧ ∀ xs, bV K H a xs → xs[i]? = some x, fun i H => ∃ xs, bV K H a xs ∧ xs.length ≤ i⟩
def rH (lo : Int) (n : Nat) : It := ⟨fun i _ => i < n, fun i H x H' => H' = H ∧ x = .int (lo + i), fun i _ => n ≤ i⟩
theorem LL {P : Program} {w : World} {K : PySem.W.Frag} {tg : Expr} (a it : Addr) : kQ P w K tg (mO K a) [it] it (fun i h => h.IsListIter it a i) where
 mem := by simp
 obj := fun i h st b hb => by
  have e : b = it := by simpa using hb
  subst e
  obtain ⟨o, e, c, d⟩ := st
  exact ⟨o, e, fun v z => by rw [d] at z; cases z⟩
 keep := fun i h h' st k => st.at fun o e => k it (by simp) o e
 item := by
  intro X hP hw hK hc i pins s σ H E I hf st hg
  subst hP hw hK
  obtain ⟨xs, x, hq, hx⟩ := hg
  obtain ⟨its, rv, p, hz⟩ := I.list hq
  obtain ⟨u, hu, ru⟩ := rv.get hx
  obtain ⟨f0, f1, f2, f3, f4, f5⟩ := hf it (by simp)
  refine wpAny_pyNext_list_item st p.isList (x := u) (by simpa using hu) fun h' st' sb => ?_
  have I1 : Inv X pins σ H { s with heap := h' } := I.turned (t' := s.toks) (fun b o hb e => (sb.2 b hb).trans e) f0 f1 f3 f4 f5
  obtain ⟨o, e, c, d⟩ := id st'
  exact ⟨u, rfl, rG (s := { s with heap := h' }) e c d (by decide) ⟨x, H, I1, ru, ⟨rfl, fun ys hy => by rw [I.list_inj hy hq]; exact hx⟩, st', fun b hb => (hf b hb).1⟩⟩
 done := by
  intro X hP hw hK hc i pins s σ H E I hf st hg
  subst hP hw hK
  obtain ⟨xs, hq, hx⟩ := hg
  obtain ⟨its, rv, p, hz⟩ := I.list hq
  obtain ⟨f0, f1, f2, f3, f4, f5⟩ := hf it (by simp)
  have hl := rv.length
  exact wpAny_pyNext_list_end (I.ok.hd hc) st p.isList (by simp; omega) fun h' eb => ⟨rfl, I.turned (t' := s.toks) (fun b o hb e => eb b o hb e) f0 f1 f3 f4 f5⟩
 self := fun _ _ _ _ _ st h => wpAny_pyIter_listiter st h
theorem LM {P : Program} {w : World} {K : PySem.W.Frag} {tg : Expr} (a it : Addr) : kQ P w K tg (uK K a) [it] it (fun i h => h.IsTupleIter it a i) where
 mem := by simp
 obj := fun i h st b hb => by
  have e : b = it := by simpa using hb
  subst e
  obtain ⟨o, e, c, d⟩ := st
  exact ⟨o, e, fun v z => by rw [d] at z; cases z⟩
 keep := fun i h h' st k => st.at fun o e => k it (by simp) o e
 item := by
  intro X hP hw hK hc i pins s σ H E I hf st hg
  subst hP hw hK
  obtain ⟨xs, x, hq, hx⟩ := hg
  obtain ⟨its, rv, p, hz⟩ := I.tuple hq
  obtain ⟨u, hu, ru⟩ := rv.get hx
  obtain ⟨f0, f1, f2, f3, f4, f5⟩ := hf it (by simp)
  refine wpAny_pyNext_tuple_item st (show s.heap.IsTuple a its.toArray from p) (x := u) (by simpa using hu) fun h' st' sb => ?_
  have I1 : Inv X pins σ H { s with heap := h' } := I.turned (t' := s.toks) (fun b o hb e => (sb.2 b hb).trans e) f0 f1 f3 f4 f5
  obtain ⟨o, e, c, d⟩ := id st'
  exact ⟨u, rfl, rG (s := { s with heap := h' }) e c d (by decide) ⟨x, H, I1, ru, ⟨rfl, fun ys hy => by rw [I.tuple_inj hy hq]; exact hx⟩, st', fun b hb => (hf b hb).1⟩⟩
 done := by
  intro X hP hw hK hc i pins s σ H E I hf st hg
  subst hP hw hK
  obtain ⟨xs, hq, hx⟩ := hg
  obtain ⟨its, rv, p, hz⟩ := I.tuple hq
  obtain ⟨f0, f1, f2, f3, f4, f5⟩ := hf it (by simp)
  have hl := rv.length
  exact wpAny_pyNext_tuple_end (I.ok.hd hc) st (show s.heap.IsTuple a its.toArray from p) (by simp; omega) fun h' eb => ⟨rfl, I.turned (t' := s.toks) (fun b o hb e => eb b o hb e) f0 f1 f3 f4 f5⟩
 self := fun _ _ _ _ _ st h => wpAny_pyIter_tupleiter st h
theorem LN {P : Program} {w : World} {K : PySem.W.Frag} {tg : Expr} (it : Addr) (lo : Int) (n : Nat) : kQ P w K tg (rH lo n) [it] it (fun i h => IsRangeIter h it (lo + (i : Nat) * 1) ((n : Int) - (i : Nat)) 1) where
 mem := by simp
 obj := fun i h st b hb => by
  have e : b = it := by simpa using hb
  subst e
  exact ⟨_, st, fun v z => by
   have z' : Data.fields _ = Data.cell v := z
   cases z'⟩
 keep := fun i h h' st k => k it (by simp) _ st
 item := by
  intro X hP hw hK hc i pins s σ H E I hf st hg
  subst hP hw hK
  obtain ⟨f0, f1, f2, f3, f4, f5⟩ := hf it (by simp)
  have W := Walks.range (prog := X.prog) (w := X.w) (I.ok.hd hc) it lo 1 n
  refine W.item i s _ _ hg st fun v h' tk hv st' kk => ?_
  obtain ⟨t, rfl⟩ := hv
  have I1 : Inv X pins σ H { s with heap := h', toks := tk } := I.turned (fun b o hb e => kk b o (by simpa using hb) e) f0 f1 f3 f4 f5
  refine ⟨_, rfl, rG (s := { s with heap := h', toks := tk }) (n := "range_iterator") st' rfl rfl (by decide) ⟨.int (lo + i), H, I1, ⟨t, ?_⟩, ⟨rfl, rfl⟩, st', fun b hb => (hf b hb).1⟩⟩
  rw [Int.mul_one]
 done := by
  intro X hP hw hK hc i pins s σ H E I hf st hg
  subst hP hw hK
  obtain ⟨f0, f1, f2, f3, f4, f5⟩ := hf it (by simp)
  exact wpAny_pyNext_range_end (I.ok.hd hc) st (by have : n ≤ i := hg; omega) fun h' eb => ⟨rfl, I.turned (t' := s.toks) (fun b o hb e => eb b o hb e) f0 f1 f3 f4 f5⟩
 self := fun _ _ _ _ _ st h => wpAny_pyIter_rangeiter st h
end L2
namespace L2
open PySem PySem.Spec PyProof.Rows
section
variable {X : Cx} {tg : Expr}
theorem LO {pins : List (Addr × Obj)} {σ : St} {H : Hp} {s : Shared} {R : It → Hp → Prop} {E : Value → Shared → Prop} {lo hi : Int} {t u v : Tok} {tk : Nat} (I : Inv X pins σ H s) (h1 : -(2 ^ 62) ≤ lo) (h2 : lo < 2 ^ 62) (h3 : -(2 ^ 62) ≤ hi) (h4 : hi < 2 ^ 62)
  (q : R (rH lo (hi - lo).toNat) H) : wpAny (model X.prog X.w) X.A (pyIter (.ref s.heap.objs.size)) (uJ X pins σ tg R) E { s with heap := s.heap.push { cls := .type "range", data := .fields #[.int lo t, .int hi u, .int 1 v] }, toks := tk } := by
 refine wpAny_pyIter_range (IsRange.new ..) (small_one h1 h2 h3 h4) ?_
 have I1 : Inv X pins σ H { s with heap := s.heap.push { cls := .type "range", data := .fields #[.int lo t, .int hi u, .int 1 v] }, toks := tk } := I.kept fun b o e => Heap.get?_push_of_some _ e
 refine ⟨(s.heap.push { cls := .type "range", data := .fields #[.int lo t, .int hi u, .int 1 v] }).objs.size, [(s.heap.push { cls := .type "range", data := .fields #[.int lo t, .int hi u, .int 1 v] }).objs.size], _, _, H, rfl,
  I1.kept (t' := tk) fun b o e => Heap.get?_push_of_some _ e, LN _ lo (hi - lo).toNat, ?_, fun b hb => ?_, q⟩
 ·have e1 : lo + ((0 : Nat) : Int) * 1 = lo := by simp
  have e2 : (((hi - lo).toNat : Nat) : Int) - ((0 : Nat) : Int) = Builtin.Range.rangeSize lo hi 1 := by rw [rangeSize_one]; split <;> omega
  show IsRangeIter _ _ (lo + ((0 : Nat) : Int) * 1) ((((hi - lo).toNat : Nat) : Int) - ((0 : Nat) : Int)) 1
  rw [e1, e2]
  exact Heap.get?_push_size _ rfl
 ·have e : b = (s.heap.push { cls := .type "range", data := .fields #[.int lo t, .int hi u, .int 1 v] }).objs.size := by simpa using hb
  subst e
  exact I1.fpOk (Nat.le_refl _) (I1.hok.fresh (Nat.le_refl _))
def LP (ta : TA) : TI := fun σ H R => ta σ H fun vs H1 => ∃ j : Int, vs = [.int j] ∧ -(2 ^ 62) ≤ j ∧ j < 2 ^ 62 ∧ R (rH 0 j.toNat) H1
theorem LQ {a : Expr} {ta : TA} {p pos : Pos} (hg : Gl X "range") (hm : X.mg "range" = none) (ha : PA X [a] ta) (hs : starEach [a] X.env = [(false, eval a X.env)] := by rfl) : PI X tg (.Call (.Name "range" p) [a] [] pos) (LP ta) := by
 intro pins s σ H R I h
 refine Call_ (n5 I hg hm boot_range (PyProof.Rows.callWith_type1 (aV (ha pos pins s σ H _ I h) fun us s1 ⟨vs, H1, I1, r1, q1⟩ => ?_) hs rfl))
 obtain ⟨j, e, q1, q2, q⟩ := q1
 subst e
 cases r1 with
 | cons r rr =>
  cases rr
  obtain ⟨t, rfl⟩ := r
  exact call_range_1 (LO I1 (by omega) (by omega) q1 q2 (by simpa using q))
def LR (wi : TI) (g : TG) (tb : TS) : TS := fun D σ H => wi σ H fun J H1 => ∃ W : Nat → Nat → St → Hp → Prop, (∃ m, W 0 m σ H1) ∧ ∀ i m σ H, W i m σ H →
 (J.stop i H ∧ D.nx σ H) ∨ (J.go i H ∧ ∃ N : St → Hp → Prop, (∀ σ' H', N σ' H' → ∃ m', m' < m ∧ W (i + 1) m' σ' H') ∧ ∀ x H', J.yld i H x H' → g x σ H' fun σ2 H2 => tb { D with nx := N, ct := N, bk := D.nx } σ2 H2)
def mP (fp : List Addr) (h : Heap) : List (Addr × Obj) := fp.filterMap fun b => (h.get? b).map fun o => (b, o)
theorem mQ {fp : List Addr} {h : Heap} {b : Addr} {o : Obj} (hb : b ∈ fp) (e : h.get? b = some o) : (b, o) ∈ mP fp h := List.mem_filterMap.mpr ⟨b, hb, by rw [e]; rfl⟩
theorem LS {fp : List Addr} {h : Heap} {p : Addr × Obj} (hp : p ∈ mP fp h) : p.1 ∈ fp ∧ h.get? p.1 = some p.2 := by
 obtain ⟨b, hb, e⟩ := List.mem_filterMap.mp hp
 cases q : h.get? b with
 | none => rw [q] at e; cases e
 | some o =>
  rw [q] at e
  have e' : (b, o) = p := Option.some.inj e
  subst e'
  exact ⟨hb, q⟩
theorem Inv.pinned {pins : List (Addr × Obj)} {σ : St} {H : Hp} {s : Shared} {fp : List Addr} (I : Inv X pins σ H s) (hf : ∀ b ∈ fp, fQ X pins H b) (ho : ∀ b ∈ fp, ∃ o, s.heap.get? b = some o ∧ ∀ v, o.data ≠ .cell v) : Inv X (pins ++ mP fp s.heap) σ H s :=
 I.pins_of fun p hp => (List.mem_append.mp hp).elim (fun z => I.pin p (List.mem_append_right _ z)) fun z => by
  obtain ⟨hb, e⟩ := LS z
  obtain ⟨f0, f1, f2, _⟩ := hf p.1 hb
  obtain ⟨o, e', d⟩ := ho p.1 hb
  rw [e] at e'; cases e'
  exact ⟨e, f0, f1, f2, d⟩
theorem Inv.unpinned {pins pl : List (Addr × Obj)} {σ : St} {H : Hp} {s : Shared} (I : Inv X (pins ++ pl) σ H s) : Inv X pins σ H s := I.pins_of fun p hp => I.pin p (List.mem_append_right _ (List.mem_append_left _ hp))
theorem zP {iter : Expr} {body : List Stmt} {wi : TI} {g : TG} {tb : TS} {pos : Pos} (hp : PassesOwn (model X.prog X.w) X.A X.env X.xe) (hc : X.calm = true) (hi : PI X tg iter wi) (hg : PG X tg g) (hb : dX X body tb)
  (hs : ∀ x, foldedSetIterable iter X.env x = pure x := by intro _; rfl) : PS X (.For tg iter body [] pos) (LR wi g tb) := by
 intro pins s σ H D I h
 refine wpAny_For (aV (hi pins s σ H _ I h) fun v s1 h1 => aV h1 fun itv s2 h2 => ?_) hs
 obtain ⟨it, fp, tn, J, H2, e, I2, T, st2, f2, W, ⟨m0, w0⟩, turn⟩ := h2
 subst e
 -- what stays true of the iterator's objects through the loop
 have stat : ∀ {H' : Hp}, (∀ b ∈ fp, H' b = none) → ∀ b ∈ fp, fQ X pins H' b := fun hn b hb => ⟨hn b hb, (f2 b hb).2⟩
 refine codeAny_forLoop_any (fun n s' => ∃ i σ' H', Inv X pins σ' H' s' ∧ tn i s'.heap ∧ (∀ b ∈ fp, H' b = none) ∧ W i n σ' H') ?_ m0 ⟨0, σ, H2, I2, st2, fun b hb => (f2 b hb).1, w0⟩
 rintro n s3 ⟨i, σ3, H3, I3, st3, fr3, w3⟩
 rcases turn i n σ3 H3 w3 with ⟨stop, qn⟩ | ⟨go, N, hN, step⟩
 ·refine wpAny_passesOwn hp (aV (T.done X rfl rfl rfl hc i pins s3 σ3 H3 X.xe I3 (stat fr3) st3 stop) fun r s4 ⟨hr, I4⟩ => ?_)
  subst hr
  exact wpAny_execs_nil ⟨σ3, H3, I4, qn⟩
 ·refine wpAny_passesOwn hp (aV (T.item X rfl rfl rfl hc i pins s3 σ3 H3 X.xe I3 (stat fr3) st3 go) fun r s4 ⟨u, hr, h4⟩ => ?_)
  subst hr
  refine wpAny_passesOwn hp (aV h4 fun _ s5 ⟨x, H5, I5, r5, y5, st5, fr5⟩ => ?_)
  have I5' := I5.pinned (stat fr5) (T.obj _ _ st5)
  refine wpAny_passesOwn hp (aV (hg _ s5 σ3 H5 x u _ I5' r5 (step x H5 y5)) fun _ s6 ⟨σ6, H6, I6, q6⟩ => ?_)
  refine wpAny_passesOwn hp (aV (hb _ s6 σ6 H6 _ I6 q6) fun f s7 q7 => ?_)
  have again : ∀ {σ7 : St} {H7 : Hp}, Inv X (pins ++ mP fp s5.heap) σ7 H7 s7 → N σ7 H7 → ∃ m, m < n ∧ ∃ i σ' H', Inv X pins σ' H' s7 ∧ tn i s7.heap ∧ (∀ b ∈ fp, H' b = none) ∧ W i m σ' H' := fun {σ7 H7} I7 n7 => by
   obtain ⟨m', hm, w7⟩ := hN σ7 H7 n7
   refine ⟨m', hm, i + 1, σ7, H7, I7.unpinned, T.keep _ _ _ st5 fun b hb o e => (I7.pin (b, o) (List.mem_append_right _ (List.mem_append_right _ (mQ hb e)))).1, fun b hb => ?_, w7⟩
   obtain ⟨o, e, d⟩ := T.obj _ _ st5 b hb
   exact (I7.pin (b, o) (List.mem_append_right _ (List.mem_append_right _ (mQ hb e)))).2.1
  cases f with
  | next => obtain ⟨σ7, H7, I7, n7⟩ := q7; exact again I7 n7
  | cont => obtain ⟨σ7, H7, I7, n7⟩ := q7; exact again I7 n7
  | brk => obtain ⟨σ7, H7, I7, q7⟩ := q7; exact ⟨σ7, H7, I7.unpinned, q7⟩
  | ret v => obtain ⟨x7, σ7, H7, I7, r7, q7⟩ := q7; exact ⟨x7, σ7, H7, I7.unpinned, r7, q7⟩
end
end L2
namespace L2
open PySem PySem.Spec PyProof.Rows
abbrev R2 := V → V → Hp → VK → Prop
def bC (X : Cx) (f : Value → Value → Sem Value) (r : R2) : Prop :=
 ∀ (pins : List (Addr × Obj)) (s : Shared) (σ : St) (H : Hp) (x y : V) (v u : Value) (Q : VK), Inv X pins σ H s → RelV x v → RelV y u → r x y H Q →
  wpAny (model X.prog X.w) X.A (f v u) (EP X pins σ Q) X.xe s
def n6 (X : Cx) (f : Value → Sem Value) (r : V → Hp → VK → Prop) : Prop :=
 ∀ (pins : List (Addr × Obj)) (s : Shared) (σ : St) (H : Hp) (x : V) (v : Value) (Q : VK), Inv X pins σ H s → RelV x v → r x H Q →
  wpAny (model X.prog X.w) X.A (f v) (EP X pins σ Q) X.xe s
def c8 (X : Cx) (f : Value) (r : List V → Hp → VK → Prop) : Prop :=
 ∀ (pins : List (Addr × Obj)) (s : Shared) (σ : St) (H : Hp) (xs : List V) (us : List Value) (Q : VK), Inv X pins σ H s → aY xs us → r xs H Q →
  wpAny (model X.prog X.w) X.A (call f us) (EP X pins σ Q) X.xe s
def LU (X : Cx) (r : V → Hp → (Bool → Hp → Prop) → Prop) : Prop :=
 ∀ (pins : List (Addr × Obj)) (s : Shared) (σ : St) (H : Hp) (x : V) (v : Value) (Q : Bool → Hp → Prop), Inv X pins σ H s → RelV x v → r x H Q →
  wpAny (model X.prog X.w) X.A (truthy v) (TP X pins σ Q) X.xe s
def n8 (r : R2) (ta tb : TE) : TE := fun σ H Q => ta σ H fun x H1 => tb σ H1 fun y H2 => r x y H2 Q
def LV (r : V → Hp → VK → Prop) (ta : TE) : TE := fun σ H Q => ta σ H fun x H1 => r x H1 Q
def rI (C : Int → Int → Prop) (g : Int → Int → V) : R2 := fun x y H Q => ∃ i j, x = .int i ∧ y = .int j ∧ C i j ∧ Q (g i j) H
def kR (g : Int → Int → V) : R2 := fun x y H Q => ∃ i j, x = .int i ∧ y = .int j ∧ Q (g i j) H
def rU (g : Int → V) : V → Hp → VK → Prop := fun x H Q => ∃ i, x = .int i ∧ Q (g i) H
section
variable {X : Cx} {a b c : Expr} {ta tb tc : TE} {pos : Pos}
theorem uL (ha : PE X a ta) (hb : PE X b tb) {pins : List (Addr × Obj)} {s : Shared} {σ : St} {H : Hp} {R : V → V → Hp → Prop} (I : Inv X pins σ H s)
  (h : ta σ H fun x H1 => tb σ H1 fun y H2 => R x y H2) {Q : Value → Shared → Prop} {f : Value → Value → Sem Value}
  (hf : ∀ v u s2 x y H2, Inv X pins σ H2 s2 → RelV x v → RelV y u → R x y H2 → wpAny (model X.prog X.w) X.A (f v u) Q X.xe s2) :
  wpAny (model X.prog X.w) X.A (eval a X.env) (fun v s₁ => wpAny (model X.prog X.w) X.A (eval b X.env) (fun u s₂ => wpAny (model X.prog X.w) X.A (f v u) Q X.xe s₂) X.xe s₁) X.xe s := by
 refine aV (ha pins s σ H _ I h) fun v s1 ⟨x, H1, I1, r1, q1⟩ => ?_
 refine aV (hb pins s1 σ H1 _ I1 q1) fun u s2 ⟨y, H2, I2, r2, q2⟩ => ?_
 exact hf v u s2 x y H2 I2 r1 r2 q2
theorem LW {op : Operator} {r : R2} (ho : bC X (binaryOp op) r) (ha : PE X a ta) (hb : PE X b tb) : PE X (.BinOp a op b pos) (n8 r ta tb) := by
 intro pins s σ H Q I h
 exact wpAny_BinOp (uL ha hb I h fun v u s2 x y H2 I2 rx ry q => ho pins s2 σ H2 x y v u Q I2 rx ry q)
theorem LX {op : UnaryOp} {r : V → Hp → VK → Prop} (ho : n6 X (unaryOp op) r) (ha : PE X a ta) : PE X (.UnaryOp op a pos) (LV r ta) := by
 intro pins s σ H Q I h
 exact UnaryOp_ (aV (ha pins s σ H _ I h) fun v s1 ⟨x, H1, I1, r1, q1⟩ => ho pins s1 σ H1 x v Q I1 r1 q1)
theorem n9 {f : Value → Value → Sem Value} {C : Int → Int → Prop} {g : Int → Int → Int}
  (rule : ∀ (i j : Int) (t u : Tok) (s : Shared) (Q : Value → Shared → Prop) (E : Value → Shared → Prop), C i j → Q (.int (g i j) s.toks) { s with toks := s.toks + 1 } → wpAny (model X.prog X.w) X.A (f (.int i t) (.int j u)) Q E s) :
  bC X f (rI C fun i j => .int (g i j)) := by
 intro pins s σ H x y v u Q I rx ry h
 obtain ⟨i, j, rfl, rfl, hc, q⟩ := h
 obtain ⟨t, rfl⟩ := rx
 obtain ⟨t', rfl⟩ := ry
 exact rule i j t t' s _ _ hc ⟨.int (g i j), H, I.tok _, ⟨_, rfl⟩, q⟩
theorem zQ {f : Value → Value → Sem Value} {g : Int → Int → Int}
  (rule : ∀ (i j : Int) (t u : Tok) (s : Shared) (Q : Value → Shared → Prop) (E : Value → Shared → Prop), Q (.int (g i j) s.toks) { s with toks := s.toks + 1 } → wpAny (model X.prog X.w) X.A (f (.int i t) (.int j u)) Q E s) :
  bC X f (kR fun i j => .int (g i j)) := by
 intro pins s σ H x y v u Q I rx ry h
 obtain ⟨i, j, rfl, rfl, q⟩ := h
 obtain ⟨t, rfl⟩ := rx
 obtain ⟨t', rfl⟩ := ry
 exact rule i j t t' s _ _ ⟨.int (g i j), H, I.tok _, ⟨_, rfl⟩, q⟩
theorem uM {f : Value → Value → Sem Value} {g : Int → Int → Bool}
  (rule : ∀ (i j : Int) (t u : Tok) (s : Shared) (Q : Value → Shared → Prop) (E : Value → Shared → Prop), Q (.bool (g i j)) s → wpAny (model X.prog X.w) X.A (f (.int i t) (.int j u)) Q E s) :
  bC X f (kR fun i j => .bl (g i j)) := by
 intro pins s σ H x y v u Q I rx ry h
 obtain ⟨i, j, rfl, rfl, q⟩ := h
 obtain ⟨t, rfl⟩ := rx
 obtain ⟨t', rfl⟩ := ry
 exact rule i j t t' s _ _ ⟨.bl (g i j), H, I, rfl, q⟩
def zR (i j : Int) : Prop := 0 ≤ j ∧ j ≤ 1000000 ∧ i.natAbs < 2 ^ 64
def lT (i j : Int) : Prop := (-(2 ^ 64) < i ∧ i < 2 ^ 64) ∨ (-(2 ^ 64) < j ∧ j < 2 ^ 64)
theorem lT.ok {i j : Int} (h : lT i j) : IntMulOk i j := by
 rcases h with ⟨h1, h2⟩ | ⟨h1, h2⟩
 ·exact .of_left (intBits_le_64 h1 h2)
 ·exact .of_right (intBits_le_64 h1 h2)
theorem LY : bC X (binaryOp .Add) (kR fun i j => .int (i + j)) := zQ fun _ _ _ _ _ _ _ q => add_int q
theorem LZ : bC X (binaryOp .Sub) (kR fun i j => .int (i - j)) := zQ fun _ _ _ _ _ _ _ q => sub_int q
theorem L0 : bC X (binaryOp .Mult) (rI lT fun i j => .int (i * j)) := n9 fun _ _ _ _ _ _ _ hc q => mul_int q hc.ok
theorem L1 : bC X (binaryOp .Mod) (rI (fun _ j => 0 < j) fun i j => .int (i % j)) := n9 fun i j _ _ _ _ _ hc q => by
 have h1 : (0 : Int) < j := hc
 exact mod_int' (by omega) (by rw [Int.fmod_eq_emod_of_nonneg i (by omega)]; exact q)
theorem L4 : bC X (binaryOp .Pow) (rI zR fun i j => .int (i ^ j.toNat)) := n9 fun _ _ _ _ _ _ _ hc q => pow_int_small hc.1 hc.2.1 hc.2.2 q
theorem L5 {f : Value → Sem Value} {g : Int → Int}
  (rule : ∀ (i : Int) (t : Tok) (s : Shared) (Q : Value → Shared → Prop) (E : Value → Shared → Prop), Q (.int (g i) s.toks) { s with toks := s.toks + 1 } → wpAny (model X.prog X.w) X.A (f (.int i t)) Q E s) :
  n6 X f (rU fun i => .int (g i)) := by
 intro pins s σ H x v Q I rx h
 obtain ⟨i, rfl, q⟩ := h
 obtain ⟨t, rfl⟩ := rx
 exact rule i t s _ _ ⟨.int (g i), H, I.tok _, ⟨_, rfl⟩, q⟩
theorem L6 : n6 X (unaryOp .USub) (rU fun i => .int (-i)) := L5 fun _ _ _ _ _ q => neg_int q
end
def zS : V → V → Bool
 | .non, .non => true | .non, .int _ => true | .int _, .non => true | .non, .bl _ => true | .bl _, .non => true | .non, .str _ => true | .str _, .non => true
 | .int _, .int _ => true | .bl _, .bl _ => true | .str _, .str _ => true | .byt _, .byt _ => true
 | .int _, .str _ => true | .str _, .int _ => true | .bl _, .str _ => true | .str _, .bl _ => true
 | _, _ => false
def rEq : R2 := fun x y H Q => zS x y = true ∧ Q (.bl (decide (x = y))) H
def L7 : R2 := fun x y H Q => zS x y = true ∧ Q (.bl (!decide (x = y))) H
theorem zT {i j : Int} : decide (V.int i = V.int j) = (i == j) := by
 rw [Bool.eq_iff_iff]
 simp
theorem zU {i j : Bool} : decide (V.bl i = V.bl j) = (i == j) := by
 rw [Bool.eq_iff_iff]
 simp
theorem zV {i j : Str} : decide (V.str i = V.str j) = (i == j) := by
 rw [Bool.eq_iff_iff]
 simp
theorem zW {i j : Array UInt8} : decide (V.byt i = V.byt j) = (i.toList == j.toList) := by
 rw [Bool.eq_iff_iff]
 cases i
 cases j
 simp
section
variable {X : Cx} {a b c : Expr} {ta tb tc : TE} {pos : Pos}
theorem cG {pins : List (Addr × Obj)} {σ : St} {H : Hp} {s : Shared} {Q : VK} {k k' : Bool} (I : Inv X pins σ H s) (q : Q (.bl k) H) (e : k = k') : EP X pins σ Q (.bool k') s := by
 subst e
 exact ⟨.bl k, H, I, rfl, q⟩
theorem uN : bC X (compareOp .Eq) rEq := by
 intro pins s σ H x y v u Q I rx ry h
 obtain ⟨hs, q⟩ := h
 cases x with
 | non =>
  cases rx
  cases y with
  | non => cases ry; exact PySem.EqNone.eq_none_none (cG I q (by simp))
  | bl j => cases ry; exact PySem.EqNone.eq_none_bool (cG I q (by simp))
  | int j => obtain ⟨t', rfl⟩ := ry; exact PySem.EqNone.eq_none_int (cG I q (by simp))
  | str j => obtain ⟨t', rfl⟩ := ry; exact PySem.EqNone.eq_none_str (cG I q (by simp))
  | _ => exact absurd (show false = true from hs) Bool.false_ne_true
 | bl i =>
  cases rx
  cases y with
  | non => cases ry; exact PySem.EqNone.eq_bool_none (cG I q (by simp))
  | bl j => cases ry; exact eq_bool (cG I q zU)
  | str j => obtain ⟨t', rfl⟩ := ry; exact PySem.EqMixed.eq_bool_str (cG I q (by simp))
  | _ => exact absurd (show false = true from hs) Bool.false_ne_true
 | int i =>
  obtain ⟨t, rfl⟩ := rx
  cases y with
  | non => cases ry; exact PySem.EqNone.eq_int_none (cG I q (by simp))
  | int j => obtain ⟨t', rfl⟩ := ry; exact eq_int (cG I q zT)
  | str j => obtain ⟨t', rfl⟩ := ry; exact PySem.EqMixed.eq_int_str (cG I q (by simp))
  | _ => exact absurd (show false = true from hs) Bool.false_ne_true
 | str i =>
  obtain ⟨t, rfl⟩ := rx
  cases y with
  | non => cases ry; exact PySem.EqNone.eq_str_none (cG I q (by simp))
  | bl j => cases ry; exact PySem.EqMixed.eq_str_bool (cG I q (by simp))
  | int j => obtain ⟨t', rfl⟩ := ry; exact PySem.EqMixed.eq_str_int (cG I q (by simp))
  | str j => obtain ⟨t', rfl⟩ := ry; exact eq_str (cG I q zV)
  | _ => exact absurd (show false = true from hs) Bool.false_ne_true
 | byt i =>
  obtain ⟨t, rfl⟩ := rx
  cases y with
  | byt j => obtain ⟨t', rfl⟩ := ry; exact PySem.W.eq_bytes (cG I q zW)
  | _ => exact absurd (show false = true from hs) Bool.false_ne_true
 | _ => cases y <;> exact absurd (show false = true from hs) Bool.false_ne_true
theorem uO : bC X (compareOp .NotEq) L7 := by
 intro pins s σ H x y v u Q I rx ry h
 obtain ⟨hs, q⟩ := h
 cases x with
 | non =>
  cases rx
  cases y with
  | non => cases ry; exact PySem.EqNone.ne_none_none (cG I q (by simp))
  | bl j => cases ry; exact PySem.EqNone.ne_none_bool (cG I q (by simp))
  | int j => obtain ⟨t', rfl⟩ := ry; exact PySem.EqNone.ne_none_int (cG I q (by simp))
  | str j => obtain ⟨t', rfl⟩ := ry; exact PySem.EqNone.ne_none_str (cG I q (by simp))
  | _ => exact absurd (show false = true from hs) Bool.false_ne_true
 | bl i =>
  cases rx
  cases y with
  | non => cases ry; exact PySem.EqNone.ne_bool_none (cG I q (by simp))
  | bl j => cases ry; exact ne_bool (cG I q (congrArg not zU))
  | str j => obtain ⟨t', rfl⟩ := ry; exact PySem.EqMixed.ne_bool_str (cG I q (by simp))
  | _ => exact absurd (show false = true from hs) Bool.false_ne_true
 | int i =>
  obtain ⟨t, rfl⟩ := rx
  cases y with
  | non => cases ry; exact PySem.EqNone.ne_int_none (cG I q (by simp))
  | int j => obtain ⟨t', rfl⟩ := ry; exact ne_int (cG I q (congrArg not zT))
  | str j => obtain ⟨t', rfl⟩ := ry; exact PySem.EqMixed.ne_int_str (cG I q (by simp))
  | _ => exact absurd (show false = true from hs) Bool.false_ne_true
 | str i =>
  obtain ⟨t, rfl⟩ := rx
  cases y with
  | non => cases ry; exact PySem.EqNone.ne_str_none (cG I q (by simp))
  | bl j => cases ry; exact PySem.EqMixed.ne_str_bool (cG I q (by simp))
  | int j => obtain ⟨t', rfl⟩ := ry; exact PySem.EqMixed.ne_str_int (cG I q (by simp))
  | str j => obtain ⟨t', rfl⟩ := ry; exact ne_str (cG I q (congrArg not zV))
  | _ => exact absurd (show false = true from hs) Bool.false_ne_true
 | byt i =>
  obtain ⟨t, rfl⟩ := rx
  cases y with
  | byt j => obtain ⟨t', rfl⟩ := ry; exact PySem.W.ne_bytes (cG I q (congrArg not zW))
  | _ => exact absurd (show false = true from hs) Bool.false_ne_true
 | _ => cases y <;> exact absurd (show false = true from hs) Bool.false_ne_true
theorem L8 : bC X (compareOp .Lt) (kR fun i j => .bl (decide (i < j))) := uM fun _ _ _ _ _ _ _ q => lt_int q
theorem L9 : bC X (compareOp .LtE) (kR fun i j => .bl (decide (i ≤ j))) := uM fun _ _ _ _ _ _ _ q => le_int q
theorem MA : bC X (compareOp .Gt) (kR fun i j => .bl (decide (j < i))) := uM fun _ _ _ _ _ _ _ q => gt_int q
theorem MB : bC X (compareOp .Lt) (fun x y H Q => ∃ i j, x = .str i ∧ y = .str j ∧ Q (.bl (decide (i.cps.toList < j.cps.toList))) H) := by
 intro pins s σ H x y v u Q I rx ry h
 obtain ⟨i, j, rfl, rfl, q⟩ := h
 obtain ⟨t, rfl⟩ := rx
 obtain ⟨t', rfl⟩ := ry
 exact lt_str (cG I q rfl)
theorem MC : bC X (compareOp .In) (fun x y H Q => ∃ i j, x = .str i ∧ y = .str j ∧ Q (.bl (!(Builtin.Str.occurrences j i 0 j.length 1).isEmpty)) H) := by
 intro pins s σ H x y v u Q I rx ry h
 obtain ⟨i, j, rfl, rfl, q⟩ := h
 obtain ⟨t, rfl⟩ := rx
 obtain ⟨t', rfl⟩ := ry
 exact in_str (cG I q rfl)
theorem MD : bC X (compareOp .Is) (fun x y H Q => y = .non ∧ Q (.bl (decide (x = .non))) H) := by
 intro pins s σ H x y v u Q I rx ry h
 obtain ⟨rfl, q⟩ := h
 cases ry
 refine is_none_gen (cG I q ?_)
 cases x <;> first
  | (cases rx; rfl)
  | (obtain ⟨t, rfl⟩ := rx; rfl)
theorem ME : bC X (compareOp .NotIn) (fun x y H Q => ∃ i j, x = .str i ∧ y = .str j ∧ Q (.bl (!(!(Builtin.Str.occurrences j i 0 j.length 1).isEmpty))) H) := by
 intro pins s σ H x y v u Q I rx ry h
 obtain ⟨i, j, rfl, rfl, q⟩ := h
 obtain ⟨t, rfl⟩ := rx
 obtain ⟨t', rfl⟩ := ry
 exact notIn_str (cG I q rfl)
theorem bM (b : Expr) {op : CmpOp} (h : op ≠ .In := by decide) (h2 : op ≠ .NotIn := by decide) : behindInMarks op b = false := by
 have e1 : (op == CmpOp.In) = false := by cases op <;> first | rfl | exact absurd rfl h
 have e2 : (op == CmpOp.NotIn) = false := by cases op <;> first | rfl | exact absurd rfl h2
 cases b <;> simp [behindInMarks, e1, e2]
theorem MF {op : CmpOp} {r : R2} (ho : bC X (compareOp op) r) (ha : PE X a ta) (hb : PE X b tb) (hm : behindInMarks op b = false) : PE X (.Compare a [op] [b] pos) (n8 r ta tb) := by
 intro pins s σ H Q I h
 exact wpAny_Compare1 (uL ha hb I h fun v u s2 x y H2 I2 rx ry q => ho pins s2 σ H2 x y v u Q I2 rx ry q) hm
def MG (t : TE) : TT := fun σ H Q => t σ H fun x H' => ∃ k, x = .bl k ∧ Q k H'
theorem MH {op : CmpOp} {r : R2} (ho : bC X (compareOp op) r) (ha : PE X a ta) (hb : PE X b tb) (hm : behindInMarks op b = false) : PT X (.Compare a [op] [b] pos) (MG (n8 r ta tb)) := by
 intro pins s σ H Q I h
 refine wpAny_isTrue_Compare1 (aV (ha pins s σ H _ I h) fun v s1 ⟨x, H1, I1, r1, q1⟩ => aV (hb pins s1 σ H1 _ I1 q1) fun u s2 ⟨y, H2, I2, r2, q2⟩ =>
  aV (ho pins s2 σ H2 x y v u _ I2 r1 r2 q2) fun c s3 ⟨z, H3, I3, r3, k, e, q3⟩ => ?_) hm
 subst e
 cases r3
 exact wpAny_truthy_bool ⟨H3, I3, q3⟩
def zX (r r' : R2) (ta tb tc : TE) : TE := fun σ H Q => ta σ H fun x H1 => tb σ H1 fun y H2 => r x y H2 fun z H3 => ∃ k, z = .bl k ∧
 (if k = true then tc σ H3 fun w' H4 => r' y w' H4 Q else Q (.bl false) H3)
theorem MI {op op' : CmpOp} {r r' : R2} (ho : bC X (compareOp op) r) (ho' : bC X (compareOp op') r') (ha : PE X a ta) (hb : PE X b tb) (hc : PE X c tc)
  (hm : lastMarks [op, op'] [b, c] = false := by with_unfolding_all rfl) : PE X (.Compare a [op, op'] [b, c] pos) (zX r r' ta tb tc) := by
 intro pins s σ H Q I h
 refine Compare_chain (aV (ha pins s σ H _ I h) fun v s1 ⟨x, H1, I1, r1, q1⟩ => chain_link (aV (hb pins s1 σ H1 _ I1 q1) fun u s2 ⟨y, H2, I2, r2, q2⟩ =>
  aV (ho pins s2 σ H2 x y v u _ I2 r1 r2 q2) fun d s3 ⟨z, H3, I3, r3, k, e, q3⟩ => ?_)) hm
 subst e
 cases r3
 refine wpAny_truthy_bool ?_
 cases k with
 | false => exact ite_ff ⟨.bl false, H3, I3, rfl, q3⟩
 | true => exact ite_tt (chain_last (aV (hc pins s3 σ H3 _ I3 q3) fun w' s4 ⟨z', H4, I4, r4, q4⟩ => ho' pins s4 σ H4 y z' u w' Q I4 r2 r4 q4))
def zY (K : PySem.W.Frag) (x : V) (H : Hp) (k : Bool) : Prop :=
 match x with
 | .non => k = false
 | .bl b => k = b
 | .int i => k = (i != 0)
 | .str y => y.length ≤ sizeLine ∧ k = ((y.length : Int) != 0)
 | .byt y => y.size ≤ sizeLine ∧ k = ((y.size : Int) != 0)
 | .ref p => (∃ xs, a6 K H p xs ∧ k = !xs.isEmpty) ∨ (∃ xs, bV K H p xs ∧ k = !xs.isEmpty) ∨ ∃ kvs, H p = some (.dK kvs) ∧ k = !kvs.isEmpty
 | _ => False
theorem MJ {κ : Type} {kvs : List (κ × V)} {vs : List (κ × Value)} (r : KV kvs vs) : (!vs.isEmpty) = !kvs.isEmpty := by
 cases r <;> rfl
theorem zZ {xs : List V} {its : List Value} (r : aY xs its) : (!its.toArray.isEmpty) = !xs.isEmpty := by
 cases r <;> simp
theorem kS : (sizeLine : Nat) < 2 ^ 63 := by rw [sizeLine_eq]; decide
theorem MK : LU X (fun x H Q => ∃ k, zY X.K x H k ∧ Q k H) := by
 intro pins s σ H x v Q I rx h
 obtain ⟨k, e, q⟩ := h
 have hl := kS
 have hs : sizeLine = 16777216 := sizeLine_eq
 cases x with
 | non =>
  cases rx
  have e' : k = false := e
  subst e'
  exact truthy_none ⟨H, I, q⟩
 | bl b =>
  cases rx
  have e' : k = b := e
  subst e'
  exact wpAny_truthy_bool ⟨H, I, q⟩
 | int i =>
  obtain ⟨t, rfl⟩ := rx
  have e' : k = (i != 0) := e
  subst e'
  exact PySem.P.truthy_int ⟨H, I, q⟩
 | str y =>
  obtain ⟨t, rfl⟩ := rx
  obtain ⟨hy, e'⟩ : y.length ≤ sizeLine ∧ k = ((y.length : Int) != 0) := e
  subst e'
  exact PySem.P.truthy_str (by omega) ⟨H, I.tok _, q⟩
 | byt y =>
  obtain ⟨t, rfl⟩ := rx
  obtain ⟨hy, e'⟩ : y.size ≤ sizeLine ∧ k = ((y.size : Int) != 0) := e
  subst e'
  exact PySem.W.truthy_bytes (by omega) ⟨H, I.tok _, q⟩
 | ref p =>
  cases rx
  have e' : (∃ xs, a6 X.K H p xs ∧ k = !xs.isEmpty) ∨ (∃ xs, bV X.K H p xs ∧ k = !xs.isEmpty) ∨ ∃ kvs, H p = some (.dK kvs) ∧ k = !kvs.isEmpty := e
  rcases e' with ⟨xs, hx, e'⟩ | ⟨xs, hx, e'⟩ | ⟨kvs, hx, e'⟩
  ·subst e'
   obtain ⟨its, r, pl, hz⟩ := I.list hx
   have hlen := r.length
   exact wpAny_truthy_list pl.isList (by simp only [List.size_toArray]; omega) ⟨H, I.tok _, by rw [zZ r]; exact q⟩
  ·subst e'
   obtain ⟨its, r, pl, hz⟩ := I.tuple hx
   have hlen := r.length
   exact truthy_tuple pl (by simp only [List.size_toArray]; omega) ⟨H, I.tok _, by rw [zZ r]; exact q⟩
  ·subst e'
   obtain ⟨hz, hS, vs, r, m⟩ : kvs.length ≤ sizeLine ∧ (p == sysModules) = false ∧ ∃ vs, KV kvs vs ∧ s.heap.DictOf (gD X.prog X.w) p vs := I.hok p _ hx
   have hlen : kvs.length = vs.length := Paired.length r
   exact wpAny_truthy_dict hS m (by omega) ⟨H, I.tok _, by rw [MJ r]; exact q⟩
 | _ => exact (show False from e).elim
theorem ML (ha : PE X a ta) (he : ∀ whole, isTrue a X.env whole = (do let v ← whole; standAt a.pos; holding [v] (truthy v))) :
  PT X a (fun σ H Q => ta σ H fun x H' => ∃ k, zY X.K x H' k ∧ Q k H') := by
 intro pins s σ H Q I h
 exact isTrue_plain (aV (ha pins s σ H _ I h) fun v s1 ⟨x, H1, I1, r1, q1⟩ => MK pins s1 σ H1 x v Q I1 r1 q1) (he _)
theorem MM : bC X (binaryOp .Add) (fun x y H Q => ∃ i j, x = .str i ∧ y = .str j ∧ i.length + j.length ≤ sizeLine ∧ Q (.str (i ++ j)) H) := by
 intro pins s σ H x y v u Q I rx ry h
 obtain ⟨i, j, rfl, rfl, hz, q⟩ := h
 obtain ⟨t, rfl⟩ := rx
 obtain ⟨t', rfl⟩ := ry
 exact add_str (fun t' tk => ⟨.str (i ++ j), H, I.tok _, ⟨_, rfl⟩, q⟩) hz
theorem vals1 {x : V} {us : List Value} (r : aY [x] us) : ∃ u, us = [u] ∧ RelV x u := by
 cases r with
 | cons r1 r2 => cases r2; exact ⟨_, rfl, r1⟩
theorem vals2 {x y : V} {us : List Value} (r : aY [x, y] us) : ∃ u w', us = [u, w'] ∧ RelV x u ∧ RelV y w' := by
 cases r with
 | cons r1 r2 =>
  cases r2 with
  | cons r3 r4 => cases r4; exact ⟨_, _, rfl, r1, r3⟩
theorem MN : c8 X (.type "str") (fun xs H Q => ∃ i, xs = [.int i] ∧ i.natAbs.log2 < 1920 ∧ Q (.str (toString i)) H) := by
 intro pins s σ H xs us Q I r h
 obtain ⟨i, rfl, hz, q⟩ := h
 obtain ⟨u, rfl, t, rfl⟩ := vals1 r
 exact PySem.P.str_of_int hz ⟨.str _, H, I.tok _, ⟨_, rfl⟩, q⟩
end
end L2
namespace L2
open PySem PySem.Spec PyProof.Rows
structure uP (h : Heap) (x dx C : Addr) (mA : Str → Option Value) : Prop where
 obj : h.get? x = some (PySem.W.instObj C dx)
 ns : h.Ns1 dx mA
 ne : dx ≠ x
theorem MP {h : Heap} {dx : Addr} {mA : Str → Option Value} (n : h.Ns1 dx mA) : ∃ od, h.get? dx = some od ∧ ∀ name, PySem.W.lookIn name od = some (mA name) := by
 obtain ⟨o, es, ep, ho, hd, hk, _, hm⟩ := n
 refine ⟨o, ho, fun name => ?_⟩
 have e := hm name
 unfold nsFind findBy at e
 rw [← Array.find?_toList] at e
 unfold PySem.W.lookIn
 rw [hd]
 dsimp only
 split
 ·rename_i y q
  rw [q] at e
  exact congrArg some e
 ·rename_i q
  rw [q] at e
  have a : es.toList.any (·.refKey) = false := by
   rw [List.any_eq_false]
   intro y hy
   obtain ⟨z, t, hkey⟩ := hk y (Array.mem_toList_iff.mp hy)
   simp [DictEntry.refKey, hkey]
  have a' : ¬ es.toList.any (·.refKey) = true := by rw [a]; exact Bool.false_ne_true
  rw [if_neg a']
  exact congrArg some e
theorem uP.look {h : Heap} {x dx C : Addr} {mA : Str → Option Value} (I : uP h x dx C mA) : ∃ od, PySem.W.InstAt h x (PySem.W.instObj C dx) C (some od) ∧ ∀ name, PySem.W.lookIn name od = some (mA name) :=
 let ⟨od, ho, hl⟩ := MP I.ns
 ⟨od, ⟨I.obj, rfl, rfl, ho⟩, hl⟩
section
variable {prog : Program} {w : World} {A : Around} {E : Value → Shared → Prop} {s : Shared} {K : PySem.W.Frag} {x dx C f : Addr} {mA : Str → Option Value} {name : Str} {v : Value}
end
theorem hU.some_of {v : V} {o : Option Value} (r : hU (some v) o) : ∃ u, o = some u ∧ RelV v u := by
 cases o with
 | none => exact (show False from r).elim
 | some u => exact ⟨u, rfl, r⟩
section
variable {P : Program} {w : World} {H H' : Hp} {h h' : Heap} {a C dx : Addr} {fs fs' : List (Str × V)}
theorem MQ (hok : bZ P w H h) (e : H a = some (.ins C dx fs)) : ∃ mA, uP h a dx C mA ∧ (∀ f, hU (fs.lookup f) (mA f)) ∧ PySem.Within mA (fs.map (·.1)) ∧ fs.length ≤ 1000 ∧ H dx = some (.own a) := by
 obtain ⟨d, z, ne, ob, mA, n, r, q⟩ := (show cL P w H h a (.ins C dx fs) from hok a _ e)
 exact ⟨mA, ⟨ob, n, ne⟩, r, q, z, d⟩
end
structure uQ (K : PySem.W.Frag) (C : Addr) : Prop where
 pg : PySem.W.plainGet K C Str.empty = true
 hd : PySem.W.hasDictIn K C = true
 po : PySem.W.plainOver K C = true
 sa : PySem.W.findIn K (.ref C) "__setattr__" = some (some (.builtin "object.__setattr__"))
theorem uQ.get {K : PySem.W.Frag} {C : Addr} (c : uQ K C) (f : Str) : PySem.W.plainGet K C f = true := c.pg
section
variable {X : Cx} {pins : List (Addr × Obj)} {σ : St} {H : Hp} {s : Shared} {a C dx : Addr} {fs : List (Str × V)} {f : Str} {v : V} {A : Around} {E : Value → Shared → Prop}
end
section
variable {X : Cx} {o e value : Expr} {f : Str} {pos pos' tpos : Pos} {ta tv : TE}
end
section
variable {X : Cx} {pins : List (Addr × Obj)} {σ : St} {H : Hp} {s : Shared} {A : Around} {E : Value → Shared → Prop} {Q : Value → Shared → Prop} {c : Value} {b : Bool}
inductive gR (K : PySem.W.Frag) (H : Hp) : V → Value → Prop where
 | non : gR K H .non (.type "NoneType")
 | bl (x : Bool) : gR K H (.bl x) (.type "bool")
 | int (i : Int) : gR K H (.int i) (.type "int")
 | str (x : Str) : gR K H (.str x) (.type "str")
 | flt (x : UInt64) : gR K H (.flt x) (.type "float")
 | lst {a : Addr} {xs : List V} (e : H a = some (.lst xs)) : gR K H (.ref a) (.type "list")
 | frz {a : Addr} {o : Obj} {xs : List V} (e : H a = some (.frz o (.lst xs))) : gR K H (.ref a) (.type "list")
 | tup {a : Addr} {xs : List V} (e : H a = some (.tup xs)) : gR K H (.ref a) (.type "tuple")
 | dK {a : Addr} {kvs : List (aN × V)} (e : H a = some (.dK kvs)) : gR K H (.ref a) (.type "dict")
 | dT {a : Addr} {kvs : List (List aN × V)} (e : H a = some (.dT kvs)) : gR K H (.ref a) (.type "dict")
 | ins {a C dx : Addr} {fs : List (Str × V)} (e : H a = some (.ins C dx fs)) (cl : uQ K C) (ha : PySem.W.findIn K (.ref C) "__class__" = some (some (.builtin "object.__class__")))
   (hn : PySem.W.specialIn K (.builtin "object.__class__") "__get__" = some (some (.builtin "getset_descriptor.__get__"))) (htk : PySem.W.takesIn K (.builtin "object.__class__") = some true)
   (hm : PySem.W.mroIn K C (.type "object") = some true) : gR K H (.ref a) (.ref C)
theorem MR {x : V} {u t : Value} (I : Inv X pins σ H s) (rx : RelV x u) (ty : gR X.K H x t) (e : PySem.W.kitOne X.K t c = some b) (h : ∀ tk, Q (.bool b) { s with toks := tk }) :
  wpAny (model X.prog X.w) A (call (.builtin "isinstance") [u, c]) Q E s := by
 cases ty with
 | non => cases (show u = Value.none from rx); exact PySem.W.kia_one PySem.W.kitx_none I.kIn True.intro e (fun z => nomatch z) h
 | bl y => cases (show u = Value.bool y from rx); exact PySem.W.kia_one PySem.W.kitx_bool I.kIn True.intro e (fun z => nomatch z) h
 | int i => obtain ⟨t, q⟩ := (show ∃ t, u = Value.int i t from rx); cases q; exact PySem.W.kia_one PySem.W.kitx_int I.kIn True.intro e (fun z => nomatch z) h
 | str y => obtain ⟨t, q⟩ := (show ∃ t, u = Value.str y t from rx); cases q; exact PySem.W.kia_one PySem.W.kitx_str I.kIn True.intro e (fun z => nomatch z) h
 | flt y => obtain ⟨t, q⟩ := (show ∃ t, u = Value.float y t from rx); cases q; exact PySem.W.kia_one PySem.W.kitx_float I.kIn True.intro e (fun z => nomatch z) h
 | @lst a xs ea =>
  cases (show u = Value.ref a from rx)
  obtain ⟨_, _, n, _, h1⟩ := (show cL X.prog X.w H s.heap a (.lst xs) from I.hok a _ ea)
  exact PySem.W.kia_one PySem.W.kitx_list I.kIn ⟨_, h1, rfl⟩ e (fun z => nomatch z) h
 | @frz a ob xs ea =>
  cases (show u = Value.ref a from rx)
  obtain ⟨_, _, _, n, _, h1⟩ := (show cL X.prog X.w H s.heap a (.frz ob (.lst xs)) from I.hok a _ ea)
  exact PySem.W.kia_one PySem.W.kitx_list I.kIn ⟨_, h1, rfl⟩ e (fun z => nomatch z) h
 | @tup a xs ea =>
  cases (show u = Value.ref a from rx)
  obtain ⟨_, _, _, p⟩ := (show cL X.prog X.w H s.heap a (.tup xs) from I.hok a _ ea)
  obtain ⟨o, h1, h2, _⟩ := p
  exact PySem.W.kia_one PySem.W.kitx_tuple I.kIn ⟨o, h1, h2⟩ e (fun z => nomatch z) h
 | @dK a kvs ea =>
  cases (show u = Value.ref a from rx)
  obtain ⟨_, _, vs, _, p⟩ := (show cL X.prog X.w H s.heap a (.dK kvs) from I.hok a _ ea)
  obtain ⟨o, es, ep, h1, h2, _⟩ := p
  exact PySem.W.kia_one PySem.W.kitx_dict I.kIn ⟨o, h1, h2.1⟩ e (fun z => nomatch z) h
 | @dT a kvs ea =>
  cases (show u = Value.ref a from rx)
  obtain ⟨_, _, xs, _, o, es, ep, h1, h2, _⟩ := (show cL X.prog X.w H s.heap a (.dT kvs) from I.hok a _ ea)
  exact PySem.W.kia_one PySem.W.kitx_dict I.kIn ⟨o, h1, h2.1⟩ e (fun z => nomatch z) h
 | @ins a C dx fs ea cl ha hn htk hm =>
  cases (show u = Value.ref a from rx)
  obtain ⟨mA, O, _⟩ := MQ I.hok ea
  obtain ⟨od, J, _⟩ := O.look
  exact PySem.W.kia_one (PySem.W.kitx_own (cl.get _) cl.hd ha hn htk hm) I.kIn J e (fun z => nomatch z) h
end
end L2
namespace L2
open PySem PySem.Spec PyProof.Rows
structure bA (k : Nat) (A : Around) : Prop where
 hd : A.handled = none
 dp : A.depth + 3 * k + 5 < recursionLimit
 un : A.units + 16 * k + 200 < cLine
theorem bA.mono {j k : Nat} {A : Around} (r : bA k A) (h : j ≤ k) : bA j A := ⟨r.hd, by have := r.dp; omega, by have := r.un; omega⟩
theorem bA.deeper {k : Nat} {A : Around} (r : bA (k + 1) A) (env : Env) : bA k (A.deeper env) :=
 ⟨r.hd, by have := r.dp; show A.depth + 1 + 3 * k + 5 < _; omega, by have := r.un; show A.units + 3 + 16 * k + 200 < _; omega⟩
theorem bA.in1 {k : Nat} {A : Around} (r : bA (k + 1) A) : bA k A.in1 :=
 ⟨r.hd, by have := r.dp; show A.depth + 3 * k + 5 < _; omega, by have := r.un; show A.units + 1 + 16 * k + 200 < _; omega⟩
theorem bA.depth {k : Nat} {A : Around} (r : bA k A) : A.depth < recursionLimit := by have := r.dp; omega
theorem bA.units {k : Nat} {A : Around} (r : bA k A) : A.units + 64 < cLine := by have := r.un; omega
def MS : TA := fun _ H Q => Q [] H
def MT (ta : TE) (tr : TA) : TA := fun σ H Q => ta σ H fun x H1 => tr σ H1 fun xs H2 => Q (x :: xs) H2
section
variable {X : Cx} {e : Expr} {es : List Expr} {te : TE} {t : TA} {pos : Pos}
theorem z9 : PA X [] MS := fun _ _ _ _ H Q I h => Calls.spliced_nil ⟨[], H, I, .nil, h⟩
theorem AA (ha : PE X e te) (hr : PA X es t) (hs : starEach (e :: es) X.env = (false, eval e X.env) :: starEach es X.env := by rfl) : PA X (e :: es) (MT te t) := by
 intro pos pins s σ H Q I h
 rw [hs]
 show wpAny _ _ (spliced ((false, eval e X.env) :: backTo pos (starEach es X.env))) _ _ s
 refine Calls.spliced_cons (aV (ha pins s σ H _ I h) fun u s1 ⟨x, H1, I1, r1, q1⟩ => ?_)
 exact aV (hr pos pins s1 σ H1 _ I1 q1) fun us s2 ⟨xs, H2, I2, r2, q2⟩ => ⟨x :: xs, H2, I2, .cons r1 r2, q2⟩
def MU (t : TA) : TE := fun σ H Q => t σ H fun xs H1 => xs.length ≤ sizeLine ∧ ∀ p, H1 p = none → Q (.ref p) (aU H1 p (.tup xs))
def MV (t : TA) : TE := fun σ H Q => t σ H fun xs H1 => xs.length ≤ sizeLine ∧ ∀ p, H1 p = none → Q (.ref p) (aU H1 p (.lst xs))
theorem MW {x1} (h : PA X es t) : PE X (.Tuple es x1 pos) (MU t) := by
 intro pins s σ H Q I hq
 refine wpAny_Tuple_spliced (aV (h pos pins s σ H _ I hq) fun us s1 ⟨xs, H1, I1, r, z, q⟩ => ⟨by rw [← r.length]; exact z, ?_⟩)
 have hf : H1 s1.heap.objs.size = none := I1.hok.fresh (Nat.le_refl _)
 refine ⟨.ref s1.heap.objs.size, aU H1 s1.heap.objs.size (.tup xs), I1.laid (t' := s1.toks) (fun b u e => Heap.get?_push_of_some _ e) (Nat.le_refl _) ?_, rfl, q _ hf⟩
 exact ⟨z, us, r, ⟨_, Heap.get?_push_size _ rfl, rfl, _, rfl⟩⟩
theorem AB (h : PA X es t) : PE X (.List es pos) (MV t) := by
 intro pins s σ H Q I hq
 refine wpAny_List_spliced (aV (h pos pins s σ H _ I hq) fun us s1 ⟨xs, H1, I1, r, z, q⟩ => ⟨by rw [← r.length]; exact z, ?_⟩)
 have hf : H1 s1.heap.objs.size = none := I1.hok.fresh (Nat.le_refl _)
 refine ⟨.ref s1.heap.objs.size, aU H1 s1.heap.objs.size (.lst xs), I1.laid (t' := s1.toks) (fun b u e => Heap.get?_push_of_some _ e) (Nat.le_refl _) ?_, rfl, q _ hf⟩
 exact ⟨z, us, 0, r, Heap.get?_push_size _ rfl⟩
end
abbrev Sp := List V → Hp → VK → XK → Prop
abbrev hW := List Env → Hp → Shared → XK → Value → Shared → Prop
structure lU (P : Program) (w : World) (K : PySem.W.Frag) (mg : Str → Option Value) (base : Heap) (A : Around) (outer : List Env) (s : Shared) (H : Hp) : Prop where
 frames : A.frames = some outer
 mod : Mod K mg base
 bs : ∀ b o, base.get? b = some o → s.heap.get? b = some o ∧ H b = none
 bsz : base.objs.size ≤ s.heap.objs.size
 funs : s.heap.FunFrames base outer
 frf : ∀ b ∈ bP outer, H b = none
 hok : bZ P w H s.heap
 bare : AllBare s.gens
def CE (outer : List Env) (P : Program) (w : World) (H : Hp) (s : Shared) (Q : VK) (u : Value) (s' : Shared) : Prop :=
 ∃ v H', s'.os = s.os ∧ AllBare s'.gens ∧ Un (bP outer) [] H H' s.heap s'.heap ∧ bZ P w H' s'.heap ∧ RelV v u ∧ Q v H'
def CR (CX : hW) (outer : List Env) (P : Program) (w : World) (H : Hp) (s : Shared) (Q : VK) (E : XK) (r : Result) (s' : Shared) : Prop :=
 match r with
 | .ok (.ret u) => CE outer P w H s Q u s'
 | .ok _ => False
 | .error e => CX outer H s E e s'
structure aS (P : Program) (w : World) (K : PySem.W.Frag) (mg : Str → Option Value) (base : Heap) (CX : hW) (k : Nat) (f : Addr) (fd : FuncData) (ps : List Str) (sp : Sp) : Prop where
 len : ∀ vs H Q E, sp vs H Q E → vs.length = ps.length
 run : ∀ (A : Around) (outer : List Env) (s : Shared) (H : Hp) (args : Args) (us : List Value) (vs : List V) (Q : VK) (E : XK), bA k A → lU P w K mg base A outer s H → BindsTo s fd args (ps.zip us) → aY vs us → sp vs H Q E →
  codeAny (model P w) A (.call (.ref f) args) (CR CX outer P w H s Q E) s
theorem aS.imp {P : Program} {w : World} {K : PySem.W.Frag} {mg : Str → Option Value} {base : Heap} {CX : hW} {k : Nat} {f : Addr} {fd : FuncData} {ps : List Str} {sp sp' : Sp} (F : aS P w K mg base CX k f fd ps sp)
  (h : ∀ vs H Q E, sp' vs H Q E → sp vs H Q E) : aS P w K mg base CX k f fd ps sp' :=
 ⟨fun vs H Q E q => F.len vs H Q E (h _ _ _ _ q), fun A outer s H args us vs Q E hr he hb hv hs => F.run A outer s H args us vs Q E hr he hb hv (h _ _ _ _ hs)⟩
theorem lU.in1 {P : Program} {w : World} {K : PySem.W.Frag} {mg : Str → Option Value} {base : Heap} {A : Around} {outer : List Env} {s : Shared} {H : Hp} (e : lU P w K mg base A outer s H) :
  lU P w K mg base A.in1 outer s H := ⟨e.frames, e.mod, e.bs, e.bsz, e.funs, e.frf, e.hok, e.bare⟩
section
variable {X : Cx} {pins : List (Addr × Obj)} {σ : St} {H : Hp} {s s' : Shared}
theorem Inv.env0 (I : Inv X pins σ H s) : lU X.prog X.w X.K X.mg X.base X.A X.stack s H :=
 ⟨I.ok.frames, I.ok.mod, I.bs, Nat.le_trans I.ok.bsz I.sz, I.stack, I.stkFree, I.hok, I.bare⟩
theorem Inv.after {Q : VK} {u : Value} (I : Inv X pins σ H s) (h : CE X.stack X.prog X.w H s Q u s') : EP X pins σ Q u s' := by
 obtain ⟨v, H', os, bare, un, hok, r, q⟩ := h
 obtain ⟨hh, g, d, t, os'⟩ := s'
 obtain rfl : os' = s.os := os
 exact ⟨v, H', I.call (h' := hh) (g' := g) (d' := d) (t' := t) (ch := []) un hok bare (fun b z => absurd z (by simp)), r, q⟩
end
def AD (sp : Sp) (dvs : List V) (E : XK) (t : TA) : TE := fun σ H Q => t σ H fun vs H1 => sp (vs ++ dvs) H1 Q E
def Binds (K : PySem.W.Frag) (fd : FuncData) (ps : List Str) (ds : List Value) : Prop :=
 ∀ (s : Shared) (us : List Value), K.In s.heap → (us ++ ds).length = ps.length → BindsTo s fd ⟨us, []⟩ (ps.zip (us ++ ds))
theorem Binds.all {K : PySem.W.Frag} {fd : FuncData} {ps : List Str} (h : ∀ us : List Value, us.length = ps.length → bindArgs fd ⟨us, []⟩ = pure (ps.zip us)) : Binds K fd ps [] := fun s us _ hl => by
 rw [List.append_nil] at hl ⊢
 exact .of_eq (h us hl)
def mR (CX : hW) (X : Cx) (E : XK) : Prop := ∀ (pins : List (Addr × Obj)) (σ : St) (H : Hp) (s : Shared) (e : Value) (s' : Shared), Inv X pins σ H s → CX X.stack H s E e s' → X.xe e s'
section
variable {X : Cx} {CX : hW} {k : Nat} {f C : Addr} {fd : FuncData} {ps : List Str} {sp : Sp} {dvs : List V} {ds : List Value} {E : XK} {x m : Str} {p pos apos : Pos} {e o : Expr} {es : List Expr} {ta : TE} {t : TA}
theorem AE {pins : List (Addr × Obj)} {σ : St} {H : Hp} {s : Shared} {Q : VK} {us : List Value} {vs : List V} (F : aS X.prog X.w X.K X.mg X.base CX k f fd ps sp) (hr : bA k X.A) (hb : Binds X.K fd ps ds) (hd : aY dvs ds) (hx : mR CX X E)
  (I : Inv X pins σ H s) (r : aY vs us) (h : sp (vs ++ dvs) H Q E) : wpAny (model X.prog X.w) X.A (call (.ref f) us) (EP X pins σ Q) X.xe s := by
 have r2 : aY (vs ++ dvs) (us ++ ds) := r.append hd
 have hl : (us ++ ds).length = ps.length := by rw [← r2.length]; exact F.len _ _ _ _ h
 refine wpAny_call (codeAny_mono (F.run X.A X.stack s H ⟨us, []⟩ (us ++ ds) (vs ++ dvs) Q E hr I.env0 (hb s us I.kIn hl) r2 h) fun r s' hq => ?_)
 cases r with
 | error e => exact hx pins σ H s e s' I hq
 | ok fl =>
  cases fl with
  | ret u => exact I.after hq
  | next => exact False.elim hq
  | brk => exact False.elim hq
  | cont => exact False.elim hq
theorem uR (F : aS X.prog X.w X.K X.mg X.base CX k f fd ps sp) (hr : bA k X.A) (hg : Gl X x) (hm : X.mg x = some (.ref f)) (hk : PySem.W.keepIn X.K (.ref f) = true) (hb : Binds X.K fd ps ds) (hd : aY dvs ds) (hx : mR CX X E)
  (ha : PA X (e :: es) t) (hdb : (x == ("__debug__" : Str)) = false := by decide) (he : starEach (e :: es) X.env = (false, eval e X.env) :: starEach es X.env := by rfl) (hpl : (backTo pos (starEach es X.env)).any (·.1) = false := by rfl) :
  PE X (.Call (.Name x p) (e :: es) [] pos) (AD sp dvs E t) := by
 intro pins s σ H Q I h
 refine wpAny_Call_Name_kw (n4 I hg hm ?_ hdb)
 refine PySem.W.callWith_K (h₀ := X.base) I.ok.mod.kin hk (aV (ha pos pins s σ H _ I h) fun us s1 ⟨vs, H1, I1, r, q⟩ => ⟨I1.kIn, ?_⟩) he hpl
 exact AE F hr hb hd hx I1 r q
end
section
variable {X : Cx} {CX : hW} {k : Nat} {f C : Addr} {fd : FuncData} {ps ks : List Str} {sp : Sp} {E : XK} {x m : Str} {p pos apos kpos : Pos} {e o : Expr} {es : List Expr} {kws : List Keyword} {te ta : TE} {t tk : TA} {nm : Option Str}
variable {g : List Value → List Value → List Value} {gV : List V → List V → List V}
end
structure b7 (N P : List Str) (sc : Scope) : Prop where
 kind : sc.kind = .function
 co : sc.isCoroutine = false
 gen : sc.isGenerator = false
 nd : N.Nodup
 pre : N.take P.length = P
 par : ∀ x ∈ P, sc.names.lookup x = some .local ∨ sc.names.lookup x = some .cell
 nofree : ∀ y ∈ sc.names, y.2 ≠ .free
theorem AF {kindOf : Str → Option NameKind} {x : Str} : ∀ {binds : List (Str × Value)} {m : Str → Option Value}, (∀ v, (x, v) ∉ binds) → bindL kindOf binds m x = m x
 | [], _, _ => rfl
 | (n, v) :: r, m, h => by
  unfold bindL
  rw [AF fun w hw => h w (List.mem_cons_of_mem _ hw)]
  split
  ·have : x ≠ n := by rintro rfl; exact h v List.mem_cons_self
   simp [this]
  ·rfl
theorem AG {kindOf : Str → Option NameKind} {x : Str} : ∀ {binds : List (Str × Value)} {m : Str → Option Value}, (∀ v, (x, v) ∉ binds) → bindC kindOf binds m x = m x
 | [], _, _ => rfl
 | (n, v) :: r, m, h => by
  unfold bindC
  rw [AG fun w hw => h w (List.mem_cons_of_mem _ hw)]
  split
  ·rfl
  ·have : x ≠ n := by rintro rfl; exact h v List.mem_cons_self
   simp [this]
theorem AH {kindOf : Str → Option NameKind} {x : Str} {v : Value} : ∀ {P : List Str} {vs : List Value} {i : Nat} {m : Str → Option Value}, P.Nodup → P[i]? = some x → vs[i]? = some v → kindOf x = some .local →
  bindL kindOf (P.zip vs) m x = some v
 | [], _, _, _, _, h, _, _ => by simp at h
 | _ :: _, [], _, _, _, _, h, _ => by simp at h
 | p :: P, w :: vs, 0, m, nd, h1, h2, hk => by
  simp at h1 h2; subst h1; subst h2
  show bindL kindOf ((p, w) :: P.zip vs) m p = _
  unfold bindL
  rw [AF fun v hv => (List.nodup_cons.mp nd).1 (List.of_mem_zip hv).1, if_pos hk]
  simp
 | p :: P, w :: vs, i + 1, m, nd, h1, h2, hk => by
  show bindL kindOf ((p, w) :: P.zip vs) m x = _
  unfold bindL
  exact AH (i := i) (List.nodup_cons.mp nd).2 (by simpa using h1) (by simpa using h2) hk
theorem AI {kindOf : Str → Option NameKind} {x : Str} {v : Value} : ∀ {P : List Str} {vs : List Value} {i : Nat} {m : Str → Option Value}, P.Nodup → P[i]? = some x → vs[i]? = some v → kindOf x ≠ some .local →
  bindC kindOf (P.zip vs) m x = some v
 | [], _, _, _, _, h, _, _ => by simp at h
 | _ :: _, [], _, _, _, _, h, _ => by simp at h
 | p :: P, w :: vs, 0, m, nd, h1, h2, hk => by
  simp at h1 h2; subst h1; subst h2
  show bindC kindOf ((p, w) :: P.zip vs) m p = _
  unfold bindC
  rw [AG fun v hv => (List.nodup_cons.mp nd).1 (List.of_mem_zip hv).1, if_neg hk]
  simp
 | p :: P, w :: vs, i + 1, m, nd, h1, h2, hk => by
  show bindC kindOf ((p, w) :: P.zip vs) m x = _
  unfold bindC
  exact AI (i := i) (List.nodup_cons.mp nd).2 (by simpa using h1) (by simpa using h2) hk
def start (N : List Str) (vs : List V) : St := vs.map some ++ List.replicate (N.length - vs.length) none
def aW (CX : hW) (P : Program) (w : World) (K : PySem.W.Frag) (mg : Str → Option Value) (base : Heap) (N : List Str) (qual : Str) (scope : Scope) (f : Addr) (cd : Value) (A : Around) (outer : List Env) (s : Shared) (H : Hp) (E : XK) : Cx where
 prog := P
 w := w
 K := K
 mg := mg
 base := base
 A := A.deeper (envOfC qual scope s.heap.objs.size f cd)
 N := N
 s₀ := s
 H₀ := H
 env := envOfC qual scope s.heap.objs.size f cd
 outer := outer
 stack := envOfC qual scope s.heap.objs.size f cd :: outer
 ex := []
 calm := true
 fn := fun _ => true
 pn := []
 xe := fun e s' => wpAny (model P w) (A.deeper (envOfC qual scope s.heap.objs.size f cd)) (leaving (envOfC qual scope s.heap.objs.size f cd) e) (fun _ s'' => CX outer H s E e s'') (fun e' s'' => CX outer H s E e' s'') s'
theorem AJ {sc : Scope} {n : Nat} {x : Str} (h : sc.names.lookup x = some .cell) : ∃ c, (cellsFrom n sc.names []).lookup x = some c := by
 have q := PySem.W.cellsFrom_some sc.names n [] (.inl h)
 exact Option.isSome_iff_exists.mp q
theorem MX {CX : hW} {P : Program} {w : World} {K : PySem.W.Frag} {mg : Str → Option Value} {base : Heap} {N ps : List Str} {qual : Str} {scope : Scope} {f : Addr} {cd : Value} {A : Around} {outer : List Env} {s s1 : Shared} {H : Hp} {E : XK} {us : List Value} {vs : List V}
  (S : b7 N ps scope) (hd : A.handled = none) (e0 : lU P w K mg base A outer s H) (hl : vs.length = ps.length) (r : aY vs us)
  (x : InCallC s s.heap.objs.size (bindL (envOfC qual scope s.heap.objs.size f cd).kindOf (ps.zip us) fun _ => none) (cellsFrom (s.heap.objs.size + 1) scope.names []) (bindC (envOfC qual scope s.heap.objs.size f cd).kindOf (ps.zip us) fun _ => none) s1) :
  Inv (aW CX P w K mg base N qual scope f cd A outer s H E) [] (start N vs) H s1 := by
 have hpl : ps.length ≤ N.length := by have := congrArg List.length S.pre; rw [List.length_take] at this; omega
 obtain ⟨h1, tk, rfl, hk⟩ := x.done
 have noA : ∀ b : Addr, b ∉ (aW CX P w K mg base N qual scope f cd A outer s H E).ex := fun b z => absurd (show b ∈ ([] : List Addr) from z) (by simp)
 refine ⟨⟨e0.mod, S.kind, rfl, rfl, Nat.le_refl _, fun y z c h1 h2 => ?_, fun y hy => ?_, fun y c _ h => ?_, fun _ => hd, Around.frames_deeper e0.frames, .inr ⟨rfl, rfl⟩, fun b z => absurd z (noA b), e0.bs, e0.bsz, fun b _ _ => noA b, fun b z => absurd z (noA b), e0.funs, e0.frf⟩,
  rfl, e0.bare, Un.kept hk, ⟨_, x.toInCall.ns, fun i y v h1 h2 h3 => ?_⟩, fun y c h => ⟨_, x.cell y c h⟩, e0.hok.fresh (Nat.le_refl _), fun y c h => ?_, fun p hp => absurd (show p ∈ ([] : List (Addr × Obj)) from hp) (by simp), e0.hok.kept hk, ?_⟩
 ·exact name_of_addr x.apart (PySem.mem_of_lookup h1) (PySem.mem_of_lookup h2)
 ·have hy : scope.names.lookup y = some .cell ∨ scope.names.lookup y = some .free := hy
  rcases hy with hy | hy
  ·exact AJ hy
  ·exact absurd rfl (S.nofree _ (PySem.mem_of_lookup hy))
 ·exact Nat.le_of_lt (x.above y c (PySem.mem_of_lookup h))
 ·have hi : i < vs.length := by
   unfold start at h2
   by_cases hi : i < vs.length
   ·exact hi
   ·rw [List.getElem?_append_right (by simpa using hi)] at h2
    rw [List.getElem?_replicate] at h2
    split at h2 <;> cases h2
  have ha : vs[i]? = some v := by
   unfold start at h2
   rw [List.getElem?_append_left (by simpa using hi), List.getElem?_map] at h2
   cases e : vs[i]? with
   | none => rw [e] at h2; cases h2
   | some a => rw [e] at h2; cases h2; rfl
  obtain ⟨u, hu, rv⟩ := r.get ha
  have hp : ps[i]? = some y := by
   rw [← S.pre, List.getElem?_take_of_lt (by omega)]; exact h1
  have ndP : ps.Nodup := by rw [← S.pre]; exact S.nd.sublist (List.take_sublist _ _)
  refine ⟨u, rv, ?_⟩
  rcases S.par y (List.mem_of_getElem? hp) with k | k
  ·exact .inl ⟨k, AH ndP hp hu k⟩
  ·obtain ⟨c, e⟩ := AJ (n := s.heap.objs.size + 1) k
   refine .inr ⟨.inl k, c, e, ?_⟩
   have q := x.cell y c e
   rw [AI ndP hp hu (by show scope.names.lookup y ≠ _; rw [k]; decide)] at q
   exact q
 ·exact e0.hok.fresh (Nat.le_of_lt (x.above y c (PySem.mem_of_lookup h)))
 ·unfold start
  show _ = N.length
  rw [List.length_append, List.length_map, List.length_replicate]
  omega
theorem AK {CX : hW} {P : Program} {w : World} {K : PySem.W.Frag} {mg : Str → Option Value} {base : Heap} {k : Nat} {f : Addr} {name qual : Str} {params : Arguments} {body : List Stmt} {scope : Scope} {dV kV doc pm cdv ct oc : Value} {an od : Option Addr}
  {osl : Array (Option Value)} {N ps : List Str} {sp : Sp} (lk : K.lookup f = some ⟨oc, od, .func (PySem.W.fnOf name qual params body scope dV kV doc pm an cdv ct), osl⟩) (hcd : PySem.W.codeIn K cdv qual = true) (S : b7 N ps scope)
  (len : ∀ vs H Q E, sp vs H Q E → vs.length = ps.length)
  (hbody : ∀ (A : Around) (outer : List Env) (s : Shared) (H : Hp) (vs : List V) (Q : VK) (E : XK), bA k (A.deeper (envOfC qual scope s.heap.objs.size f cdv)) → sp vs H Q E →
   ∃ t, dX (aW CX P w K mg base N qual scope f cdv A outer s H E) body t ∧ t { nx := fun _ H' => Q .non H', rt := Q } (start N vs) H) :
  aS P w K mg base CX (k + 1) f (PySem.W.fnOf name qual params body scope dV kV doc pm an cdv ct) ps sp := by
 refine ⟨len, fun A outer s H args us vs Q E hr e0 hb r hsp => ?_⟩
 have hl := len _ _ _ _ hsp
 have KX : K.In s.heap := e0.mod.kin.keeps fun b o e => (e0.bs b o e).1
 have lim : s.heap.NoLimit := e0.mod.nolimit.keeps fun b o e => (e0.bs b o e).1
 have hkind : ∀ y ∈ ps.zip us, scope.names.lookup y.1 = some .local ∨ (scope.names.lookup y.1 = some .cell ∧ ((cellsFrom (s.heap.objs.size + 1) scope.names []).lookup y.1).isSome = true) := fun ⟨n, v⟩ hy => by
  rcases S.par n (List.of_mem_zip hy).1 with q | q
  ·exact .inl q
  ·exact .inr ⟨q, PySem.W.cellsFrom_some _ _ _ (.inl q)⟩
 refine codeAny_call_function hr.depth (KX _ _ lk) rfl S.co S.gen rfl (PySem.W.codeRec_of KX hcd) (hb _ _ _ _ ?_)
 refine wpAny_newFunctionEnv_cells S.kind hkind fun env he s1 x => ?_
 subst he
 refine ⟨lim.keeps x.toInCall.keep, codeAny_func ?_⟩
 obtain ⟨t, ht, hq⟩ := hbody A outer s H vs Q E (hr.deeper _) hsp
 have I : Inv (aW CX P w K mg base N qual scope f cdv A outer s H E) [] (start N vs) H s1 := MX S hr.hd e0 hl r x
 refine wpAny_mono (ht [] s1 (start N vs) H _ I hq) (fun fl s' hs => ?_) fun e s' hs => hs
 have fin : ∀ {σ' : St} {H' : Hp} {v : V} {u : Value}, Inv (aW CX P w K mg base N qual scope f cdv A outer s H E) [] σ' H' s' → RelV v u → Q v H' → CE outer P w H s Q u s' :=
  fun {σ' H' v u} J rv q => ⟨v, H', J.os, J.bare, J.base, J.hok, rv, q⟩
 cases fl with
 | ret u =>
  obtain ⟨v, σ', H', J, rv, q⟩ := hs
  exact fin J rv q
 | next =>
  obtain ⟨σ', H', J, q⟩ := hs
  exact fin (v := V.non) (u := Value.none) J rfl q
 | brk =>
  obtain ⟨_, _, _, q⟩ := hs
  exact False.elim q
 | cont =>
  obtain ⟨_, _, _, q⟩ := hs
  exact False.elim q
end L2
namespace L2
open PySem PySem.Spec PyProof.Rows
section
variable {X : Cx} {x : Str} {p pos : Pos} {e : Expr} {es : List Expr} {t : TA} {id T : String} {r : List V → Hp → VK → Prop}
def uS (r : List V → Hp → VK → Prop) (t : TA) : TE := fun σ H Q => t σ H fun vs H1 => r vs H1 Q
theorem MY (hc : c8 X (.builtin id) r) (hg : Gl X x) (hm : X.mg x = none) (hv : bootBuiltins x = some (.builtin id)) (ha : PA X (e :: es) t) (hn : x ≠ "__name__" := by decide) (hdb : (x == ("__debug__" : Str)) = false := by decide)
  (he : starEach (e :: es) X.env = (false, eval e X.env) :: starEach es X.env := by rfl) (hpl : (backTo pos (starEach es X.env)).any (·.1) = false := by rfl) : PE X (.Call (.Name x p) (e :: es) [] pos) (uS r t) := by
 intro pins s σ H Q I h
 refine wpAny_Call_Name_kw (n5 I hg hm hv ?_ hn hdb)
 exact PyProof.Rows.callWith_builtin1 (aV (ha pos pins s σ H _ I h) fun us s1 ⟨vs, H1, I1, r1, q1⟩ => hc pins s1 σ H1 vs us Q I1 r1 q1) he hpl
theorem MZ (hc : c8 X (.type T) r) (hg : Gl X x) (hm : X.mg x = none) (hv : bootBuiltins x = some (.type T)) (ha : PA X (e :: es) t) (hn : x ≠ "__name__" := by decide) (hdb : (x == ("__debug__" : Str)) = false := by decide)
  (he : starEach (e :: es) X.env = (false, eval e X.env) :: starEach es X.env := by rfl) (hpl : (backTo pos (starEach es X.env)).any (·.1) = false := by rfl) : PE X (.Call (.Name x p) (e :: es) [] pos) (uS r t) := by
 intro pins s σ H Q I h
 refine wpAny_Call_Name_kw (n5 I hg hm hv ?_ hn hdb)
 exact PyProof.Rows.callWith_type1 (aV (ha pos pins s σ H _ I h) fun us s1 ⟨vs, H1, I1, r1, q1⟩ => hc pins s1 σ H1 vs us Q I1 r1 q1) he hpl
end
end L2
namespace HT
open PySem PyProof.Rows
section
open PySem.SeqAt
open PySem.AutoSeq1 (wpAny_loadPart')
open PySem.MeetsSeq PySem.MeetsSeq2 PySem.MeetsSeq3
end
section
variable {prog : Program} {w : World} {A : Around} {E : Value → Shared → Prop} {s : Shared}
theorem cat_tup {t b : Addr} {vs ws : List Value} {Q : Value → Shared → Prop} (ht : IsTup s.heap t vs.toArray) (hb : IsTup s.heap b ws.toArray) (hv : vs ≠ [])
  (h1 : ws = [] → Q (.ref t) s) (h2 : ws ≠ [] → Q (.ref s.heap.objs.size) { s with heap := s.heap.push { cls := .type "tuple", data := .seq (vs ++ ws).toArray } })
  (hsz : vs.length + ws.length ≤ sizeLine) : wpAny (model prog w) A (binaryOp .Add (.ref t) (.ref b)) Q E s := by
 obtain ⟨⟨cls, dd, data, sl⟩, ho, hc, n, hd⟩ := id ht
 obtain ⟨⟨cls2, dd2, data2, sl2⟩, ho2, hc2, n2, hd2⟩ := id hb
 simp only at hc hd hc2 hd2
 subst hc hd hc2 hd2
 have e : vs.toArray ++ ws.toArray = (vs ++ ws).toArray := by simp
 by_cases hw : ws = []
 ·exact concat_meets ⟨_, ho, rfl⟩ ⟨_, ho2, rfl⟩ noFill_tuple_add seq_tuple_add PySem.F.slot_tuple_add PySem.F.entry_tuple_add (PySem.F.args_tuple_add_2 _ _)
   (tuple_addW1 t b vs.toArray ws.toArray n n2 dd dd2 sl sl2 (by simpa using hv) (by simp [hw])) ⟨ho, ho2, h1 hw⟩
 ·refine concat_meets ⟨_, ho, rfl⟩ ⟨_, ho2, rfl⟩ noFill_tuple_add seq_tuple_add PySem.F.slot_tuple_add PySem.F.entry_tuple_add (PySem.F.args_tuple_add_2 _ _)
   (tuple_addW2 t b vs.toArray ws.toArray n n2 dd dd2 sl sl2 (by simpa using hv) (by simpa using hw) (by rw [List.size_toArray, List.size_toArray]; exact hsz)) ⟨ho, ho2, ?_⟩
  rw [e]
  exact h2 hw
def sIx (n d : Nat) : Option Int → Nat
 | none => d
 | some v => if v < 0 then (v + (n : Int)).toNat else min v.toNat n
theorem sIx_nat (n d k : Nat) : sIx n d (some (k : Int)) = min k n := by
 show (if (k : Int) < 0 then ((k : Int) + (n : Int)).toNat else min (k : Int).toNat n) = min k n
 rw [if_neg (by omega), Int.toNat_natCast]
theorem M8 (n d : Nat) (hd : d ≤ n) (o : Option Int) : sIx n d o ≤ n := by
 cases o with
 | none => exact hd
 | some v =>
  show (if v < 0 then (v + (n : Int)).toNat else min v.toNat n) ≤ n
  by_cases hv : v < 0
  ·rw [if_pos hv]; omega
  ·rw [if_neg hv]; exact Nat.min_le_right _ _
theorem AL (v : Int) (n d : Nat) : (if v < 0 then max (v + (n : Int)) 0 else min v (n : Int)) = ((sIx n d (some v) : Nat) : Int) := by
 show (if v < 0 then max (v + (n : Int)) 0 else min v (n : Int)) = (((if v < 0 then (v + (n : Int)).toNat else min v.toNat n) : Nat) : Int)
 by_cases hv : v < 0
 ·simp only [if_pos hv]; omega
 ·simp only [if_neg hv]; omega
theorem M9 (lo hi : Option Int) (n : Nat) : Builtin.Slice.sliceAdjust lo hi 1 (n : Int) = (((sIx n 0 lo : Nat) : Int), ((sIx n n hi : Nat) : Int)) := by
 have h1 : ¬ ((1 : Int) < 0) := by omega
 unfold Builtin.Slice.sliceAdjust
 simp only [h1, if_false]
 refine Prod.ext ?_ ?_
 ·cases lo with
  | none => rfl
  | some v => exact AL v n 0
 ·cases hi with
  | none => rfl
  | some v => exact AL v n n
theorem NA (i j : Nat) : Builtin.Slice.slicePlaces (i : Int) (j : Int) 1 = j - i := by
 unfold Builtin.Slice.slicePlaces
 have h1 : (1 : Int) > 0 := by omega
 simp only [h1, if_true, Int.ediv_one]
 split <;> omega
theorem AN {v : Value} {o : Option Int} {Q : Option Int → Shared → Prop} (p : IsPart v o) (h : Q o s) : wpAny (model prog w) A (Builtin.Slice.slicePartIndex v) Q E s := by
 cases p with
 | none => exact slicePart_none h
 | int i t => exact slicePart_int h
theorem AQ {sl : Addr} {vl vu : Value} {lo hi : Option Int} {n : Nat} {Q : Int × Int × Nat → Shared → Prop} (hs : s.heap.IsSliceOf sl vl vu .none) (pl : IsPart vl lo) (pu : IsPart vu hi)
  (h : Q (((sIx n 0 lo : Nat) : Int), 1, sIx n n hi - sIx n 0 lo) s) : wpAny (model prog w) A (Builtin.Slice.sliceApplied (.ref sl) (pure (n : Int))) Q E s := by
 obtain ⟨os, hos, hcs, hds⟩ := id hs
 unfold Builtin.Slice.sliceApplied Builtin.Slice.sliceFields
 refine wpAny_bind (wpAny_bind (wpAny_field hos hds (x := vl) rfl (wpAny_bind (wpAny_field hos hds (x := vu) rfl (wpAny_bind (wpAny_field hos hds (x := .none) rfl (wpAny_pure ?_)))))))
 refine wpAny_bind (slicePart_none ?_)
 show wpAny _ _ (if ((1 : Int) == 0) = true then _ else _) _ _ s
 rw [if_neg (by decide)]
 refine wpAny_bind (AN pl (wpAny_bind (AN pu (wpAny_bind (wpAny_pure ?_)))))
 show wpAny _ _ (match Builtin.Slice.sliceAdjust lo hi 1 (n : Int) with | (lo, hi) => pure (lo, (1 : Int), Builtin.Slice.slicePlaces lo hi 1)) _ _ s
 rw [M9 lo hi n]
 show wpAny _ _ (pure (((sIx n 0 lo : Nat) : Int), (1 : Int), Builtin.Slice.slicePlaces ((sIx n 0 lo : Nat) : Int) ((sIx n n hi : Nat) : Int) 1)) _ _ s
 rw [NA]
 exact wpAny_pure h
theorem NB (xs : Array Value) (i k : Nat) : ((List.range k).filterMap fun (m : Nat) => xs[((i : Int) + (m : Int) * 1).toNat]?).toArray = ((xs.toList.drop i).take k).toArray := by
 have e : (fun (m : Nat) => xs[((i : Int) + (m : Int) * 1).toNat]?) = fun m => xs[i + m]? := by
  funext m
  have : ((i : Int) + (m : Int) * 1).toNat = i + m := by omega
  rw [this]
 rw [e]
 have := pick_run xs i k
 rw [List.filterMap_map] at this
 have e2 : ((fun x => xs[x]?) ∘ fun x => i + x) = fun m => xs[i + m]? := rfl
 rw [e2] at this
 rw [this]
theorem getItem_tuple_cut {t sl : Addr} {items : Array Value} {vl vu : Value} {lo hi : Option Int} {Q : Value → Shared → Prop} (ht : IsTup s.heap t items) (hs : s.heap.IsSliceOf sl vl vu .none) (pl : IsPart vl lo) (pu : IsPart vu hi)
  (hw : ¬ (sIx items.size 0 lo = 0 ∧ sIx items.size items.size hi = items.size))
  (h : Q (.ref s.heap.objs.size) { s with heap := s.heap.push { cls := .type "tuple", data := .seq ((items.toList.drop (sIx items.size 0 lo)).take (sIx items.size items.size hi - sIx items.size 0 lo)).toArray } })
  (hsz : items.size ≤ sizeLine) : wpAny (model prog w) A (getItem (.ref t) (.ref sl)) Q E s := by
 have htake : sizeOk (.seq ((items.toList.drop (sIx items.size 0 lo)).take (sIx items.size items.size hi - sIx items.size 0 lo)).toArray) := by
  show ((items.toList.drop (sIx items.size 0 lo)).take (sIx items.size items.size hi - sIx items.size 0 lo)).toArray.size ≤ sizeLine
  rw [List.size_toArray, List.length_take, List.length_drop, Array.length_toList]
  omega
 have hj : sIx items.size items.size hi ≤ items.size := M8 _ _ (Nat.le_refl _) hi
 obtain ⟨os, hos, hcs, hds⟩ := id hs
 have hTs : s.TypeIs (.ref sl) "slice" := ⟨os, hos, hcs⟩
 unfold getItem
 try with_reducible refine wpAny_holding ?_
 first | refine wpAny_bind (wpAny_pure ?_) | skip
 refine wpAny_bind (wpAny_sequenceKey ht.typeIs (by decide) ?_)
 refine wpAny_bind (wpAny_callSpecial?_slot (name := Str.ofString "__getitem__") ht.typeIs PyProof.Rows.slot_tuple_getitem
  (wpAny_call_entry PyProof.Rows.slot_tuple_getitem ht.typeIs entry_tuple_getitem ?_ (args_tuple_getitem _ _)))
 show wpAny _ _ (Builtin.Tuple.tupleItemsOf (.ref t) >>= _) _ _ s
 refine wpAny_bind (tupleItemsOf_ ht ?_)
 refine wpAny_bind (wpAny_typeOf hTs ?_)
 rw [if_pos (by decide)]
 refine wpAny_bind (AQ hs pl pu ?_)
 have hno : ¬ ((((sIx items.size 0 lo : Nat) : Int) == 0 && (1 : Int) == 1 && (sIx items.size items.size hi - sIx items.size 0 lo) == items.size) = true) := by
  intro q
  rw [Bool.and_eq_true, Bool.and_eq_true] at q
  have q1 : ((sIx items.size 0 lo : Nat) : Int) = 0 := eq_of_beq q.1.1
  have q2 : sIx items.size items.size hi - sIx items.size 0 lo = items.size := eq_of_beq q.2
  exact hw ⟨by omega, by omega⟩
 show wpAny _ _ (if (((sIx items.size 0 lo : Nat) : Int) == 0 && (1 : Int) == 1 && (sIx items.size items.size hi - sIx items.size 0 lo) == items.size) = true then _ else _) _ _ s
 rw [if_neg hno, NB]
 first
  | exact wpAny_bind (m := Builtin.Tuple.tupleExact _) (wpAny_newObj_type (wpAny_pure ⟨_, rfl, wpAny_pure h⟩) htake)
  | exact wpAny_bind (m := Builtin.Tuple.tupleExact _) (wpAny_newObj_type (wpAny_bind (wpAny_pure (wpAny_pure ⟨_, rfl, wpAny_pure h⟩))) htake)
  | exact wpAny_bind (wpAny_bind (m := Builtin.Tuple.tupleExact _) (wpAny_newObj_type (wpAny_pure (wpAny_pure ⟨_, rfl, wpAny_pure h⟩)) htake))
  | exact wpAny_bind (wpAny_bind (m := Builtin.Tuple.tupleExact _) (wpAny_newObj_type (wpAny_pure ⟨_, rfl, wpAny_pure h⟩) htake))
end
end HT
namespace L2
open PySem PySem.Spec PyProof.Rows
abbrev TO := St → Hp → (Option Int → Hp → Prop) → Prop
def PO (X : Cx) (e : Option Expr) (t : TO) : Prop :=
 ∀ (pins : List (Addr × Obj)) (s : Shared) (σ : St) (H : Hp) (Q : Option Int → Hp → Prop), Inv X pins σ H s → t σ H Q →
  wpAny (model X.prog X.w) X.A (evalPart e X.env) (fun u s' => ∃ o H', Inv X pins σ H' s' ∧ IsPart u o ∧ Q o H') X.xe s
def NC : TO := fun _ H Q => Q none H
def ND (t : TE) : TO := fun σ H Q => t σ H fun x H1 => ∃ i, x = .int i ∧ Q (some i) H1
section
variable {X : Cx} {e : Expr} {te : TE} {lo hi : Option Expr} {tl th : TO} {pos p2 : Pos}
theorem NF : PO X none NC := by
 intro pins s σ H Q I h
 rw [evalPart_none]
 exact wpAny_pure ⟨none, H, I, .none, h⟩
theorem NG (h : PE X e te) : PO X (some e) (ND te) := by
 intro pins s σ H Q I hw
 rw [evalPart_some]
 refine aV (h pins s σ H _ I hw) fun u s1 ⟨x, H1, I1, r1, q1⟩ => ?_
 obtain ⟨i, rfl, q⟩ := q1
 obtain ⟨t, rfl⟩ := r1
 exact ⟨some i, H1, I1, .int i t, q⟩
def lV (X : Cx) (r : V → Option Int → Option Int → Hp → VK → Prop) : Prop :=
 ∀ (pins : List (Addr × Obj)) (s : Shared) (σ : St) (H : Hp) (x : V) (v vl vu : Value) (lo hi : Option Int) (sl : Addr) (Q : VK), Inv X pins σ H s → RelV x v → s.heap.IsSliceOf sl vl vu .none → IsPart vl lo → IsPart vu hi → r x lo hi H Q →
  ∃ T id, typeLookup (.type T) "__getitem__" = pure (some (.builtin id)) ∧ s.TypeIs v T ∧ wpAny (model X.prog X.w) X.A (getItem v (.ref sl)) (EP X pins σ Q) X.xe s
def NH (r : V → Option Int → Option Int → Hp → VK → Prop) (te : TE) (tl th : TO) : TE := fun σ H Q => te σ H fun x H1 => tl σ H1 fun l H2 => th σ H2 fun u H3 => r x l u H3 Q
theorem AR {r : V → Option Int → Option Int → Hp → VK → Prop} (hr : lV X r) (he : PE X e te) (hl : PO X lo tl) (hu : PO X hi th) : PE X (.Subscript e (.Slice lo hi none p2) pos) (NH r te tl th) := by
 intro pins s σ H Q I h
 refine Subscript_ (aV (he pins s σ H _ I h) fun v s1 ⟨x, H1, I1, r1, q1⟩ => ?_)
 refine wpAny_Slice (aV (hl pins s1 σ H1 _ I1 q1) fun vl s2 ⟨l, H2, I2, pl, q2⟩ => aV (hu pins s2 σ H2 _ I2 q2) fun vu s3 ⟨u, H3, I3, pu, q3⟩ => ?_)
 rw [evalPart_none]
 refine wpAny_pure ?_
 have I4 : Inv X pins σ H3 { s3 with heap := s3.heap.push { cls := .type "slice", data := .fields #[vl, vu, .none] } } := I3.kept (t' := s3.toks) fun b ob q => Heap.get?_push_of_some _ q
 obtain ⟨T, id, hT, ht, hg⟩ := hr pins { s3 with heap := s3.heap.push { cls := .type "slice", data := .fields #[vl, vu, .none] } } σ H3 x v vl vu l u s3.heap.objs.size Q I4 r1 (Heap.IsSliceOf.new ..) pl pu q3
 show wpAny (model X.prog X.w) X.A (subscriptTail e (.Slice lo hi none p2) v (.ref s3.heap.objs.size)) (EP X pins σ Q) X.xe { s3 with heap := s3.heap.push { cls := .type "slice", data := .fields #[vl, vu, .none] } }
 exact tail_any (ops := [.ref s3.heap.objs.size, v]) ht hT hg (by with_unfolding_all rfl)
def kT (xs : List V) (lo hi : Option Int) : List V := (xs.drop (HT.sIx xs.length 0 lo)).take (HT.sIx xs.length xs.length hi - HT.sIx xs.length 0 lo)
theorem AU (xs : List V) (lo hi : Option Int) : (kT xs lo hi).length ≤ xs.length := by
 unfold kT
 rw [List.length_take, List.length_drop]
 omega
def NI (K : PySem.W.Frag) : V → Option Int → Option Int → Hp → VK → Prop := fun x lo hi H Q => ∃ a xs, x = .ref a ∧ bV K H a xs ∧
 ¬ (HT.sIx xs.length 0 lo = 0 ∧ HT.sIx xs.length xs.length hi = xs.length) ∧ ∀ p, H p = none → Q (.ref p) (aU H p (.tup (kT xs lo hi)))
theorem AW : lV X (NI X.K) := by
 intro pins s σ H x v vl vu lo hi sl Q I rx hs pl pu h
 obtain ⟨a, xs, rfl, hx, hw, q⟩ := h
 cases rx
 obtain ⟨its, r, ht, hz⟩ := I.tuple hx
 have hlen : its.toArray.size = xs.length := by rw [List.size_toArray]; exact r.length.symm
 refine ⟨"tuple", _, PyProof.Rows.slot_tuple_getitem.lookup, ht.typeIs, ?_⟩
 refine HT.getItem_tuple_cut ht hs pl pu (by rw [hlen]; exact hw) ?_ (by rw [hlen]; exact hz)
 rw [hlen]
 refine ⟨.ref s.heap.objs.size, _, I.laid (t' := s.toks) (o := .tup (kT xs lo hi)) (fun b ob q => Heap.get?_push_of_some _ q) (Nat.le_refl _) ?_, rfl, q _ (I.hok.fresh (Nat.le_refl _))⟩
 exact ⟨Nat.le_trans (AU xs lo hi) hz, _, (r.drop (HT.sIx xs.length 0 lo)).take (HT.sIx xs.length xs.length hi - HT.sIx xs.length 0 lo), IsTup.new _ _⟩
def NJ (K : PySem.W.Frag) : R2 := fun x y H Q => ∃ a b xs ys, x = .ref a ∧ y = .ref b ∧ bV K H a xs ∧ bV K H b ys ∧ xs ≠ [] ∧ xs.length + ys.length ≤ sizeLine ∧
 (ys = [] → Q (.ref a) H) ∧ (ys ≠ [] → ∀ p, H p = none → Q (.ref p) (aU H p (.tup (xs ++ ys))))
theorem aY.nil_iff {xs : List V} {us : List Value} (r : aY xs us) : us = [] ↔ xs = [] := by
 cases r with
 | nil => simp
 | cons _ _ => simp
theorem NK : bC X (binaryOp .Add) (NJ X.K) := by
 intro pins s σ H x y v u Q I rx ry h
 obtain ⟨a, b, xs, ys, rfl, rfl, ha, hb, hx, hz, q1, q2⟩ := h
 cases rx
 cases ry
 obtain ⟨its, r1, p1, _⟩ := I.tuple ha
 obtain ⟨its2, r2, p2, _⟩ := I.tuple hb
 refine HT.cat_tup p1 p2 (fun z => hx (r1.nil_iff.mp z)) (fun z => ⟨.ref a, H, I, rfl, q1 (r2.nil_iff.mp z)⟩) (fun z => ?_) (by rw [← r1.length, ← r2.length]; exact hz)
 refine ⟨.ref s.heap.objs.size, _, I.laid (t' := s.toks) (o := .tup (xs ++ ys)) (fun b ob q => Heap.get?_push_of_some _ q) (Nat.le_refl _) ?_, rfl, q2 (fun w => z (r2.nil_iff.mpr w)) _ (I.hok.fresh (Nat.le_refl _))⟩
 exact ⟨by rw [List.length_append]; exact hz, _, r1.append r2, IsTup.new _ _⟩
end
end L2
namespace L2
open PySem PySem.Spec PyProof.Rows
def gE (n : Nat) (i : Int) : Option Nat := if 0 ≤ i then (if i < n then some i.toNat else none) else if -(n : Int) ≤ i then some (i + n).toNat else none
def cC {α : Type} (xs : List α) (i : Int) : Option α := (gE xs.length i).bind fun j => xs[j]?
theorem AX {n : Nat} {i : Int} {j : Nat} (h : gE n i = some j) : seqIndex? i n = some j ∧ j < n ∧ -(n : Int) ≤ i ∧ i < n := by
 unfold gE at h
 by_cases h0 : 0 ≤ i
 ·rw [if_pos h0] at h
  by_cases h1 : i < n
  ·rw [if_pos h1] at h
   have e : i.toNat = j := Option.some.inj h
   exact ⟨by rw [seqIndex_of h0 h1, e], by omega, by omega, h1⟩
  ·rw [if_neg h1] at h; cases h
 ·rw [if_neg h0] at h
  by_cases h1 : -(n : Int) ≤ i
  ·rw [if_pos h1] at h
   have e : (i + n).toNat = j := Option.some.inj h
   exact ⟨by rw [seqIndex_neg (by omega) h1, e], by omega, h1, by omega⟩
  ·rw [if_neg h1] at h; cases h
theorem uT {α : Type} {xs : List α} {i : Int} {v : α} (h : cC xs i = some v) : ∃ j, seqIndex? i xs.length = some j ∧ xs[j]? = some v ∧ j < xs.length ∧ -(xs.length : Int) ≤ i ∧ i < xs.length := by
 unfold cC at h
 cases e : gE xs.length i with
 | none => rw [e] at h; cases h
 | some j =>
  rw [e] at h
  obtain ⟨h1, h2, h3, h4⟩ := AX e
  exact ⟨j, h1, h, h2, h3, h4⟩
theorem AY {α : Type} {xs : List α} {j : Nat} {v : α} (h : xs[j]? = some v) : cC xs (j : Int) = some v := by
 have hj : j < xs.length := (List.getElem?_eq_some_iff.mp h).1
 have e : gE xs.length (j : Int) = some j := by
  unfold gE
  rw [if_pos (by omega), if_pos (by omega)]; simp
 unfold cC; rw [e]; exact h
def uU (b : Expr) : Prop := ∀ o i, subscripted b false o i = operate [o, i] (getItem o i)
def mS (X : Cx) (r : R2) : Prop :=
 ∀ (value slice : Expr) (pins : List (Addr × Obj)) (s : Shared) (σ : St) (H : Hp) (x y : V) (v u : Value) (Q : VK), Inv X pins σ H s → RelV x v → RelV y u → r x y H Q →
  subscripted slice false v u = operate [v, u] (getItem v u) → wpAny (model X.prog X.w) X.A (subscriptTail value slice v u) (EP X pins σ Q) X.xe s
def fR (X : Cx) (id : String) (r : V → List V → Hp → VK → Prop) : Prop :=
 ∀ (pins : List (Addr × Obj)) (s : Shared) (σ : St) (H : Hp) (x : V) (xs : List V) (v : Value) (us : List Value) (Q : VK), Inv X pins σ H s → RelV x v → aY xs us → r x xs H Q →
  wpAny (model X.prog X.w) X.A (call (.builtin id) (v :: us)) (EP X pins σ Q) X.xe s
section
variable {X : Cx} {a b : Expr} {ta tb : TE} {pos : Pos}
theorem NL {r : R2} (hr : mS X r) (ha : PE X a ta) (hb : PE X b tb) (hs : uU b) : PE X (.Subscript a b pos) (n8 r ta tb) := by
 intro pins s σ H Q I h
 exact Subscript_ (uL ha hb I h fun v u s2 x y H2 I2 rx ry q => hr a b pins s2 σ H2 x y v u Q I2 rx ry q (hs _ _))
def NO (K : PySem.W.Frag) : R2 := fun x y H Q => ∃ p xs i v, x = .ref p ∧ y = .int i ∧ a6 K H p xs ∧ cC xs i = some v ∧ Q v H
def NP (K : PySem.W.Frag) : R2 := fun x y H Q => ∃ p xs i v, x = .ref p ∧ y = .int i ∧ bV K H p xs ∧ cC xs i = some v ∧ Q v H
def NQ : R2 := fun x y H Q => ∃ z i c, x = .str z ∧ y = .int i ∧ z.length ≤ sizeLine ∧ cC z.cps.toList i = some c ∧ Q (.str ⟨#[c]⟩) H
theorem uV : mS X (NO X.K) := by
 intro value slice pins s σ H x y v u Q I rx ry h hs
 obtain ⟨p, xs, i, z, rfl, rfl, hq, he, q⟩ := h
 cases rx
 obtain ⟨t, rfl⟩ := ry
 obtain ⟨its, r, pl, hz⟩ := I.list hq
 obtain ⟨j, h1, h2, h3, h4, h5⟩ := uT he
 obtain ⟨w, ew, rw'⟩ := r.get h2
 have hl := r.length
 have hn := kS
 have fin : EP X pins σ Q w s := ⟨z, H, I, rw', q⟩
 by_cases h0 : 0 ≤ i
 ·have hj : i.toNat = j := by
   rw [seqIndex_of h0 h5] at h1
   exact Option.some.inj h1
  exact item_listR pl.isList h0 (by omega) (by rw [hj]; simpa using ew) fin hs
 ·have hj : (i + (its.toArray.size : Int)).toNat = j := by
   rw [seqIndex_neg (by omega) h4] at h1
   rw [List.size_toArray, ← hl]
   exact Option.some.inj h1
  exact subscriptTail_builtinR (x := w) pl.isList.typeIs slot_list_getitem.lookup
   (wpAny_getItem_list_neg (Q := fun r s' => r = w ∧ EP X pins σ Q r s') pl.isList (by omega) (by rw [List.size_toArray] <;> omega) (by omega) (by rw [hj]; simpa using ew) ⟨rfl, fin⟩) hs
theorem NR : mS X (NP X.K) := by
 intro value slice pins s σ H x y v u Q I rx ry h hs
 obtain ⟨p, xs, i, z, rfl, rfl, hq, he, q⟩ := h
 cases rx
 obtain ⟨t, rfl⟩ := ry
 obtain ⟨its, r, pl, hz⟩ := I.tuple hq
 obtain ⟨j, h1, h2, h3, h4, h5⟩ := uT he
 obtain ⟨w, ew, rw'⟩ := r.get h2
 have hl := r.length
 have hn := kS
 have fin : EP X pins σ Q w s := ⟨z, H, I, rw', q⟩
 exact subscriptTail_builtinR (x := w) pl.typeIs slot_tuple_getitem.lookup
  (getItem_tuple (j := j) (Q := fun r s' => r = w ∧ EP X pins σ Q r s') pl (by omega) (by omega) (by rw [List.size_toArray, ← hl]; exact h1) (by simpa using ew) ⟨rfl, fin⟩) hs
theorem NS : mS X NQ := by
 intro value slice pins s σ H x y v u Q I rx ry h hs
 obtain ⟨z, i, c, rfl, rfl, hz, he, q⟩ := h
 obtain ⟨t, rfl⟩ := rx
 obtain ⟨t', rfl⟩ := ry
 obtain ⟨j, h1, h2, h3, h4, h5⟩ := uT he
 have hl : z.cps.toList.length = z.length := by simp [Str.length]
 rw [hl] at h1 h4 h5
 have hn := kS
 exact tail_any (typeIs_str s z t) slot_str_getitem.lookup (getItem_str (c := c) (by
  have e1 : decide (i < -(2 ^ 63 : Int)) = false := decide_eq_false (by omega)
  have e2 : decide (i ≥ 2 ^ 63) = false := decide_eq_false (by omega)
  rw [e1, e2, Bool.or_false]) (by rw [h1]; simpa using h2) ⟨.str ⟨#[c]⟩, H, I.tok _, ⟨_, rfl⟩, q⟩) hs
theorem NT (its : List Value) (n j : Nat) (u : Value) : Obj.mapSeq (·.setIfInBounds j u) { cls := .type "list", data := .seq its.toArray n } = { cls := .type "list", data := .seq (its.set j u).toArray n } := by
 simp [Obj.mapSeq]
theorem Inv.lst {pins : List (Addr × Obj)} {σ : St} {H : Hp} {s : Shared} {p : Addr} {xs : List V} (I : Inv X pins σ H s) (h : H p = some (.lst xs)) :
  ∃ (its : List Value) (n : Nat), aY xs its ∧ s.heap.get? p = some { cls := .type "list", data := .seq its.toArray n } ∧ xs.length ≤ sizeLine := by
 obtain ⟨z, its, n, r, e⟩ := I.hok p _ h
 exact ⟨its, n, r, e, z⟩
theorem Inv.lstUpd {pins : List (Addr × Obj)} {σ : St} {H : Hp} {s : Shared} {p : Addr} {xs ys : List V} {its its' : List Value} {n n' : Nat} {f : Obj → Obj} (I : Inv X pins σ H s) (h : H p = some (.lst xs))
  (ho : s.heap.get? p = some { cls := .type "list", data := .seq its.toArray n }) (hf : f { cls := .type "list", data := .seq its.toArray n } = { cls := .type "list", data := .seq its'.toArray n' }) (r : aY ys its') (hz : ys.length ≤ sizeLine) (t : Nat) :
  Inv X pins σ (aU H p (.lst ys)) { s with heap := s.heap.update p f, toks := t } := by
 have e : (s.heap.update p f).get? p = some { cls := .type "list", data := .seq its'.toArray n' } := by
  rw [Heap.get?_update_self f ho (by rw [hf] <;> rfl), hf]
 refine I.write (x := p) (e := p) (by rw [h]; trivial) (.inl rfl) (fun b u hb q => (Heap.get?_update_other _ _ (Ne.symm hb)).trans q) ⟨_, e⟩ ?_
 exact ⟨hz, its', n', r, e⟩
def NU : V → V → V → Hp → (Hp → Prop) → Prop := fun o i v H Q => ∃ p xs k j, o = .ref p ∧ i = .int k ∧ H p = some (.lst xs) ∧ gE xs.length k = some j ∧ Q (aU H p (.lst (xs.set j v)))
theorem NV : rE X NU := by
 intro pins s σ H o i v ov iv u Q I ro ri rv h
 obtain ⟨p, xs, k, j, rfl, rfl, hp, hj, q⟩ := h
 cases ro
 obtain ⟨t, rfl⟩ := ri
 obtain ⟨its, n, r, ho, hz⟩ := I.lst hp
 obtain ⟨h1, h2, h3, h4⟩ := AX hj
 have hl := r.length
 have hn := kS
 have I' : Inv X pins σ (aU H p (.lst (xs.set j v))) { s with heap := s.heap.update p (Obj.mapSeq (·.setIfInBounds j u)) } :=
  I.lstUpd hp ho (NT its n j u) (r.set rv j) (by rw [List.length_set]; exact hz) s.toks
 by_cases h0 : 0 ≤ k
 ·have hk : k.toNat = j := by
   rw [seqIndex_of h0 h4] at h1
   exact Option.some.inj h1
  exact PySem.W.ki_setAt ho h0 (by omega) (by rw [List.size_toArray, ← hl]; exact h4) (by rw [hk]; exact ⟨_, I', q⟩)
 ·have hk : (k + (its.toArray.size : Int)).toNat = j := by
   rw [seqIndex_neg (by omega) h3] at h1
   rw [List.size_toArray, ← hl]
   exact Option.some.inj h1
  exact PySem.W.ki_setBack ho (by omega) (by rw [List.size_toArray, ← hl]; exact h3) (by omega) (by rw [hk]; exact ⟨_, I', q⟩)
theorem NW (lo hi : Option Int) (n : Nat) : (sliceBounds lo hi none n).1 = ((HT.sIx n 0 lo : Nat) : Int) ∧ (sliceBounds lo hi none n).2.1 = ((HT.sIx n n hi : Nat) : Int) ∧ (sliceBounds lo hi none n).2.2 = 1 := by
 refine ⟨?_, ?_, rfl⟩
 ·cases lo with
  | none => simp [sliceBounds, HT.sIx]
  | some i =>
   simp only [sliceBounds, HT.sIx, Option.getD_none, show (1 : Int) > 0 by decide, if_true]
   by_cases h : i < 0
   ·simp only [h, if_true] <;> omega
   ·simp only [h, if_false] <;> omega
 ·cases hi with
  | none => simp [sliceBounds, HT.sIx]
  | some i =>
   simp only [sliceBounds, HT.sIx, Option.getD_none, show (1 : Int) > 0 by decide, if_true]
   by_cases h : i < 0
   ·simp only [h, if_true] <;> omega
   ·simp only [h, if_false] <;> omega
theorem NX (its : List Value) (lo hi : Option Int) : slicePick its.toArray lo hi none = ((its.drop (HT.sIx its.length 0 lo)).take (HT.sIx its.length its.length hi - HT.sIx its.length 0 lo)).toArray := by
 obtain ⟨h1, h2, h3⟩ := NW lo hi its.toArray.size
 unfold slicePick
 rw [h1, h2, h3]
 simp only [sliceRange_one, pick_run, List.size_toArray] <;> rfl
def NY (K : PySem.W.Frag) : V → Option Int → Option Int → Hp → VK → Prop := fun x lo hi H Q => ∃ a xs, x = .ref a ∧ a6 K H a xs ∧ ∀ p, H p = none → Q (.ref p) (aU H p (.lst (kT xs lo hi)))
theorem uW : lV X (NY X.K) := by
 intro pins s σ H x v vl vu lo hi sl Q I rx hs pl pu h
 obtain ⟨a, xs, rfl, hx, q⟩ := h
 cases rx
 obtain ⟨its, r, ht, hz⟩ := I.list hx
 have hlen := r.length
 refine ⟨"list", _, slot_list_getitem.lookup, ht.isList.typeIs, ?_⟩
 refine wpAny_getItem_list_slice ht.isList hs pl pu .none (by simp) ?_ (by rw [List.size_toArray] <;> omega)
 rw [NX, ← hlen]
 refine ⟨.ref s.heap.objs.size, _, I.laid (t' := s.toks) (o := .lst (kT xs lo hi)) (fun b ob q => Heap.get?_push_of_some _ q) (Nat.le_refl _) ?_, rfl, q _ (I.hok.fresh (Nat.le_refl _))⟩
 exact ⟨Nat.le_trans (AU xs lo hi) hz, _, 0, (r.drop (HT.sIx xs.length 0 lo)).take (HT.sIx xs.length xs.length hi - HT.sIx xs.length 0 lo), Heap.get?_push_size _ rfl⟩
def jN : V → Bool
 | .non => true
 | .bl _ => true
 | .int _ => true
 | .str _ => true
 | _ => false
def j3 : V → V → Bool
 | .non, .non => true
 | .bl a, .bl b => a == b
 | .bl a, .int b => (if a then 1 else 0) == b
 | .int a, .bl b => a == (if b then 1 else 0)
 | .int a, .int b => a == b
 | .str a, .str b => a == b
 | _, _ => false
theorem NZ {A : Around} {s : Shared} {y x : V} {u v : Value} (ry : RelV y u) (rx : RelV x v) (fy : jN y = true) (fx : jN x = true) : SeqAt.EqAt A s u v (j3 y x) := by
 cases y with
 | non =>
  cases ry
  cases x with
  | non => cases rx; exact SeqAt.EqAt.same _
  | bl b => cases rx; exact SeqAt.EqAt.none_bool b
  | int b => obtain ⟨t, rfl⟩ := rx; exact SeqAt.EqAt.none_int b t
  | str b => obtain ⟨t, rfl⟩ := rx; exact SeqAt.EqAt.none_str b t
  | _ => exact absurd (show false = true from fx) Bool.false_ne_true
 | bl a =>
  cases ry
  cases x with
  | non => cases rx; exact SeqAt.EqAt.bool_none a
  | bl b => cases rx; exact SeqAt.EqAt.bool_bool a b
  | int b => obtain ⟨t, rfl⟩ := rx; exact SeqAt.EqAt.bool_int a b t
  | str b => obtain ⟨t, rfl⟩ := rx; exact SeqAt.EqAt.bool_str a b t
  | _ => exact absurd (show false = true from fx) Bool.false_ne_true
 | int a =>
  obtain ⟨t', rfl⟩ := ry
  cases x with
  | non => cases rx; exact SeqAt.EqAt.int_none a t'
  | bl b => cases rx; exact SeqAt.EqAt.int_bool a t' b
  | int b => obtain ⟨t, rfl⟩ := rx; exact SeqAt.EqAt.int_int a t' b t
  | str b => obtain ⟨t, rfl⟩ := rx; exact SeqAt.EqAt.int_str a t' b t
  | _ => exact absurd (show false = true from fx) Bool.false_ne_true
 | str a =>
  obtain ⟨t', rfl⟩ := ry
  cases x with
  | non => cases rx; exact SeqAt.EqAt.str_none a t'
  | bl b => cases rx; exact SeqAt.EqAt.str_bool a t' b
  | int b => obtain ⟨t, rfl⟩ := rx; exact SeqAt.EqAt.str_int a t' b t
  | str b => obtain ⟨t, rfl⟩ := rx; exact SeqAt.EqAt.str_str a t' b t
  | _ => exact absurd (show false = true from fx) Bool.false_ne_true
 | _ => exact absurd (show false = true from fy) Bool.false_ne_true
def gF (x : V) (u : Value) : Bool := match u with
 | .none => j3 .non x
 | .bool b => j3 (.bl b) x
 | .int i _ => j3 (.int i) x
 | .str z _ => j3 (.str z) x
 | _ => false
theorem AZ {x y : V} {u : Value} (r : RelV y u) (f : jN y = true) : gF x u = j3 y x := by
 cases y with
 | non => cases r; rfl
 | bl b => cases r; rfl
 | int i => obtain ⟨t, rfl⟩ := r; rfl
 | str z => obtain ⟨t, rfl⟩ := r; rfl
 | _ => exact absurd (show false = true from f) Bool.false_ne_true
theorem oA {x : V} : ∀ {xs : List V} {us : List Value}, aY xs us → xs.all jN = true → us.any (gF x) = xs.any fun y => j3 y x
 | _, _, .nil, _ => rfl
 | y :: xs, u :: us, .cons r t, f => by
  rw [List.all_cons, Bool.and_eq_true] at f
  rw [List.any_cons, List.any_cons, AZ r f.1, oA t f.2]
theorem oB {A : Around} {s : Shared} {x : V} {v : Value} (rx : RelV x v) (fx : jN x = true) : ∀ {xs : List V} {us : List Value}, aY xs us → xs.all jN = true → ∀ u ∈ us, SeqAt.EqAt A s u v (gF x u)
 | _, _, .nil, _ => fun u hu => by cases hu
 | y :: xs, u :: us, .cons r t, f => fun u' hu => by
  rw [List.all_cons, Bool.and_eq_true] at f
  rcases List.mem_cons.mp hu with rfl | hu
  ·rw [AZ r f.1]; exact NZ r rx f.1 fx
  ·exact oB rx fx t f.2 u' hu
def inV (x : V) (xs : List V) : Bool := xs.any fun y => j3 y x
def rIn (K : PySem.W.Frag) (neg : Bool) : R2 := fun x y H Q => ∃ p xs, y = .ref p ∧ (a6 K H p xs ∨ bV K H p xs) ∧ jN x = true ∧ xs.all jN = true ∧ Q (.bl (if neg then !inV x xs else inV x xs)) H
theorem uX : bC X (compareOp .In) (rIn X.K false) := by
 intro pins s σ H x y v u Q I rx ry h
 obtain ⟨p, xs, rfl, hq, fx, fs, q⟩ := h
 cases ry
 rcases hq with hq | hq
 ·obtain ⟨its, r, pl, hz⟩ := I.list hq
  refine SeqAt.in_listAt (gF x) pl.isList (fun w hw => oB rx fx r fs w (by simpa using hw)) ⟨.bl _, H, I, rfl, ?_⟩
  rw [show its.toArray.any (gF x) = its.any (gF x) by simp, oA r fs]
  exact q
 ·obtain ⟨its, r, pl, hz⟩ := I.tuple hq
  refine SeqAt.in_tupleAt (gF x) pl (fun w hw => oB rx fx r fs w (by simpa using hw)) ⟨.bl _, H, I, rfl, ?_⟩
  rw [show its.toArray.any (gF x) = its.any (gF x) by simp, oA r fs]
  exact q
theorem uY : bC X (compareOp .NotIn) (rIn X.K true) := by
 intro pins s σ H x y v u Q I rx ry h
 obtain ⟨p, xs, rfl, hq, fx, fs, q⟩ := h
 cases ry
 rcases hq with hq | hq
 ·obtain ⟨its, r, pl, hz⟩ := I.list hq
  refine SeqAt.notIn_listAt (gF x) pl.isList (fun w hw => oB rx fx r fs w (by simpa using hw)) ⟨.bl _, H, I, rfl, ?_⟩
  rw [show its.toArray.any (gF x) = its.any (gF x) by simp, oA r fs]
  exact q
 ·obtain ⟨its, r, pl, hz⟩ := I.tuple hq
  refine SeqAt.notIn_tupleAt (gF x) pl (fun w hw => oB rx fx r fs w (by simpa using hw)) ⟨.bl _, H, I, rfl, ?_⟩
  rw [show its.toArray.any (gF x) = its.any (gF x) by simp, oA r fs]
  exact q
theorem rJ : c8 X (.builtin "len") (fun xs H Q => ∃ p ys, xs = [.ref p] ∧ (a6 X.K H p ys ∨ bV X.K H p ys) ∧ Q (.int ys.length) H) := by
 intro pins s σ H xs us Q I r h
 obtain ⟨p, ys, rfl, hq, q⟩ := h
 obtain ⟨u, rfl, rx⟩ := vals1 r
 cases rx
 have hn := kS
 rcases hq with hq | hq
 ·obtain ⟨its, r', pl, hz⟩ := I.list hq
  have hlen := r'.length
  exact Calls.call_len_list pl.isList (by simp only [List.size_toArray] <;> omega) ⟨.int ys.length, H, I.tok _, ⟨s.toks + 1, by rw [List.size_toArray, hlen]⟩, q⟩
 ·obtain ⟨its, r', pl, hz⟩ := I.tuple hq
  have hlen := r'.length
  exact len_tuple pl (by simp only [List.size_toArray] <;> omega) ⟨.int ys.length, H, I.tok _, ⟨s.toks + 1, by rw [List.size_toArray, hlen]⟩, q⟩
theorem N0 : c8 X (.builtin "len") (fun xs H Q => ∃ z, xs = [.str z] ∧ z.length ≤ sizeLine ∧ Q (.int z.length) H) := by
 intro pins s σ H xs us Q I r h
 obtain ⟨z, rfl, hz, q⟩ := h
 obtain ⟨u, rfl, t, rfl⟩ := vals1 r
 have hn := kS
 exact len_str (by omega) ⟨.int z.length, H, I.tok _, ⟨_, rfl⟩, q⟩
theorem rK : c8 X (.type "list") (fun xs H Q => ∃ p ys, xs = [.ref p] ∧ (a6 X.K H p ys ∨ bV X.K H p ys) ∧ ∀ l, H l = none → Q (.ref l) (aU H l (.lst ys))) := by
 intro pins s σ H xs us Q I r h
 obtain ⟨p, ys, rfl, hq, q⟩ := h
 obtain ⟨u, rfl, rx⟩ := vals1 r
 cases rx
 have fin : ∀ (its : List Value), aY ys its → ys.length ≤ sizeLine → ∀ (h' : Heap) (c' : Nat), (∀ b o', s.heap.get? b = some o' → h'.get? b = some o') →
   h'.get? s.heap.objs.size = some { cls := .type "list", dict := none, data := .seq its.toArray c', slots := #[] } → EP X pins σ Q (.ref s.heap.objs.size) { s with heap := h' } := fun its r' hz h' c' kp e =>
  ⟨.ref s.heap.objs.size, _, I.laid (t' := s.toks) kp (Nat.le_refl _) (show cL X.prog X.w _ h' _ (.lst ys) from ⟨hz, its, c', r', e⟩), rfl, q _ (I.hok.fresh (Nat.le_refl _))⟩
 rcases hq with hq | hq
 ·obtain ⟨its, r', pl, hz⟩ := I.list hq
  have hlen := r'.length
  obtain ⟨o, ho, hc, n, hd⟩ := pl.isList
  exact call_list_seq p (.inl rfl) ho hc hd (fun h' c' kp e => fin its r' hz h' c' kp e) (by simp only [List.size_toArray] <;> omega)
 ·obtain ⟨its, r', pl, hz⟩ := I.tuple hq
  have hlen := r'.length
  obtain ⟨o, ho, hc, n, hd⟩ := pl
  exact call_list_seq p (.inr rfl) ho hc hd (fun h' c' kp e => fin its r' hz h' c' kp e) (by simp only [List.size_toArray] <;> omega)
theorem uZ : c8 X (.type "tuple") (fun xs H Q => ∃ p ys, xs = [.ref p] ∧ ((a6 X.K H p ys ∧ ∀ l, H l = none → Q (.ref l) (aU H l (.tup ys))) ∨ (bV X.K H p ys ∧ Q (.ref p) H))) := by
 intro pins s σ H xs us Q I r h
 obtain ⟨p, ys, rfl, h⟩ := h
 obtain ⟨u, rfl, rx⟩ := vals1 r
 cases rx
 rcases h with ⟨hq, q⟩ | ⟨hq, q⟩
 ·obtain ⟨its, r', pl, hz⟩ := I.list hq
  have hlen := r'.length
  refine call_tuple_list pl.isList (fun h' kp => ?_) (by simp only [List.size_toArray] <;> omega)
  have I1 : Inv X pins σ H { s with heap := h' } := I.kept (t' := s.toks) kp
  have I2 : Inv X pins σ (aU H h'.objs.size (.tup ys)) { s with heap := h'.push { cls := .type "tuple", data := .seq its.toArray } } :=
   I1.laid (t' := s.toks) (fun b o e => Heap.get?_push_of_some _ e) (Nat.le_refl _) (show cL X.prog X.w _ _ _ (.tup ys) from ⟨hz, its, r', IsTup.new _ _⟩)
  exact ⟨.ref h'.objs.size, _, I2, rfl, q _ (I1.hok.fresh (Nat.le_refl _))⟩
 ·obtain ⟨its, r', pl, hz⟩ := I.tuple hq
  exact call_tuple_same pl ⟨.ref p, H, I, rfl, q⟩
def rL (K : PySem.W.Frag) (T : String) (x : V) (H : Hp) : Prop := match x with
 | .str _ => T = "str"
 | .int _ => T = "int"
 | .ref p => (T = "list" ∧ ∃ xs, a6 K H p xs) ∨ (T = "tuple" ∧ ∃ o, K.lookup p = some o ∧ o.cls = .type "tuple" ∧ o.dict = none) ∨
   (T = "dict" ∧ ((∃ kvs, H p = some (.dK kvs)) ∨ ∃ kvs, H p = some (.dT kvs))) ∨ (T = "set" ∧ ∃ S n, H p = some (.set S n))
 | _ => False
theorem A0 {pins : List (Addr × Obj)} {σ : St} {H : Hp} {s : Shared} {T : String} {x : V} {v : Value} (I : Inv X pins σ H s) (r : RelV x v) (ty : rL X.K T x H) :
  s.TypeIs v T ∧ ∀ a, v = .ref a → ∃ ob, s.heap.get? a = some ob ∧ ob.dict = none := by
 cases x with
 | str z =>
  obtain ⟨t, rfl⟩ := r
  cases (show T = "str" from ty)
  exact ⟨typeIs_str s z t, fun _ e => nomatch e⟩
 | int i =>
  obtain ⟨t, rfl⟩ := r
  cases (show T = "int" from ty)
  exact ⟨typeIs_int s i t, fun _ e => nomatch e⟩
 | ref p =>
  cases r
  rcases ty with ⟨rfl, xs, hq⟩ | ⟨rfl, o, hk, hc, hd⟩ | ⟨rfl, hk⟩ | ⟨rfl, S, n, hk⟩
  ·obtain ⟨its, _, pl, _⟩ := I.list hq
   refine ⟨pl.isList.typeIs, fun a e => ?_⟩
   cases e
   obtain ⟨o, n, e, c, hd, _⟩ := pl
   exact ⟨o, e, hd⟩
  ·refine ⟨⟨o, I.kIn p o hk, hc⟩, fun a e => ?_⟩
   cases e
   exact ⟨o, I.kIn _ o hk, hd⟩
  ·have z : ∃ o, s.heap.get? p = some o ∧ o.ExactDict := by
    rcases hk with ⟨kvs, hk⟩ | ⟨kvs, hk⟩
    ·obtain ⟨_, _, _, _, o, _, _, e, ex, _⟩ := I.hok p _ hk
     exact ⟨o, e, ex⟩
    ·obtain ⟨_, _, _, _, o, _, _, e, ex, _⟩ := I.hok p _ hk
     exact ⟨o, e, ex⟩
   obtain ⟨o, e, ex⟩ := z
   refine ⟨⟨o, e, ex.1⟩, fun a e2 => ?_⟩
   cases e2
   exact ⟨o, e, ex.2.1⟩
  ·obtain ⟨o, _, _, _, e, ex, _⟩ := I.hok p _ hk
   refine ⟨⟨o, e, ex.1⟩, fun a e2 => ?_⟩
   cases e2
   exact ⟨o, e, ex.2.1⟩
 | _ => exact False.elim ty
def N1 (K : PySem.W.Frag) (T : String) (r : V → List V → Hp → VK → Prop) (to : TE) : TE := fun σ H Q => to σ H fun x H1 => rL K T x H1 ∧ r x [] H1 Q
def N2 (K : PySem.W.Frag) (T : String) (r : V → List V → Hp → VK → Prop) (to : TE) (t : TA) : TE := fun σ H Q => to σ H fun x H1 => rL K T x H1 ∧ t σ H1 fun xs H2 => r x xs H2 Q
variable {o e : Expr} {es : List Expr} {to : TE} {t : TA} {name : Str} {apos cpos : Pos} {T id : String} {r : V → List V → Hp → VK → Prop}
theorem N3 (pa : PlainAttrs T) (slot : Slot T name id) (hty : typeOf (.builtin id) = pure (.type "method_descriptor")) (hm : fR X id r) (ho : PE X o to)
  (hbase : attributeBase o name X.env (eval o X.env) = eval o X.env := by rfl) (hline : (apos.endLine == cpos.line) = true := by rfl) : PE X (.Call (.Attribute o name apos) [] [] cpos) (N1 X.K T r to) := by
 intro pins s σ H Q I h
 refine wpAny_Call_method0_late hbase hline (aV (ho pins s σ H _ I h) fun v s1 ⟨x, H1, I1, r1, ty, q1⟩ => ?_)
 obtain ⟨h1, h2⟩ := A0 I1 r1 ty
 exact ⟨T, id, pa, slot, hty, h1, h2, Calls.callWith_builtin rfl (PySem.evalArgs_none (hm pins s1 σ H1 x [] v [] Q I1 r1 .nil q1))⟩
theorem N4 (pa : PlainAttrs T) (slot : Slot T name id) (hty : typeOf (.builtin id) = pure (.type "method_descriptor")) (hm : fR X id r) (ho : PE X o to) (ha : PA X (e :: es) t)
  (hbase : attributeBase o name X.env (eval o X.env) = eval o X.env := by rfl)
  (hfew : ((backTo cpos (starEach (e :: es) X.env)).all (fun x => !x.1) && (backToKw cpos (keywordEach [] X.env)).all (fun x => x.1.isSome)
   && decide ((e :: es).length + ([] : List Keyword).length + (if ([] : List Keyword).isEmpty then 0 else 1) < 30)) = true := by rfl)
  (hline : (apos.endLine == cpos.line) = true := by rfl) (hs : starEach (e :: es) X.env = (false, eval e X.env) :: starEach es X.env := by rfl) (hplain : (backTo cpos (starEach es X.env)).any (·.1) = false := by rfl) :
  PE X (.Call (.Attribute o name apos) (e :: es) [] cpos) (N2 X.K T r to t) := by
 intro pins s σ H Q I h
 refine wpAny_Call_method_late hbase hfew hline rfl (aV (ho pins s σ H _ I h) fun v s1 ⟨x, H1, I1, r1, ty, q1⟩ => ?_)
 obtain ⟨h1, h2⟩ := A0 I1 r1 ty
 refine ⟨T, id, pa, slot, hty, h1, h2, ?_⟩
 have hA := ha cpos pins s1 σ H1 _ I1 q1
 rw [hs] at hA ⊢
 refine Calls.callWith_builtin (by show (false || (backTo cpos (starEach es X.env)).any (·.1)) = false; rw [hplain] <;> rfl) (Calls.evalArgs_plain ?_)
 exact aV hA fun us s2 ⟨vs, H2, I2, r2, q2⟩ => hm pins s2 σ H2 x vs v us Q I2 r1 r2 q2
end
end L2
namespace L2
open PySem PySem.Spec PyProof.Rows
def A1 (X : Cx) (id : String) (r : V → List V → Hp → VK → Prop) : Prop :=
 ∀ (pins : List (Addr × Obj)) (s : Shared) (σ : St) (H : Hp) (x : V) (xs : List V) (v : Value) (us : List Value) (Q : VK), Inv X pins σ H s → RelV x v → aY xs us → r x xs H Q →
  wpAny (model X.prog X.w) X.A (call (.builtin id) (v :: us)) (EP X pins σ Q) X.xe s
theorem aY.one : ∀ {x : V} {us : List Value}, aY [x] us → ∃ u, us = [u] ∧ RelV x u
 | _, _, .cons r .nil => ⟨_, rfl, r⟩
theorem aY.zero : ∀ {us : List Value}, aY [] us → us = []
 | _, .nil => rfl
theorem aY.dropLast {xs : List V} {us : List Value} (h : aY xs us) : aY xs.dropLast us.dropLast := by
 induction h with
 | nil => exact .nil
 | cons r t ih =>
  cases t with
  | nil => exact .nil
  | cons q t' => exact .cons r ih
theorem aY.rep {xs : List V} {us : List Value} (h : aY xs us) : ∀ k : Nat, aY (List.replicate k xs).flatten (List.replicate k us).flatten
 | 0 => .nil
 | k + 1 => by
  rw [List.replicate_succ, List.replicate_succ, List.flatten_cons, List.flatten_cons]
  exact aY.append h (aY.rep h k)
theorem foldl_rep (its : List Value) : ∀ (k : Nat) (acc : List Value),
  List.foldl (fun x1 x2 => x1 ++ x2) acc.toArray (List.replicate k its.toArray) = (acc ++ (List.replicate k its).flatten).toArray
 | 0, acc => by simp
 | k + 1, acc => by
  have e : acc.toArray ++ its.toArray = (acc ++ its).toArray := by simp
  have e2 : (acc ++ its) ++ (List.replicate k its).flatten = acc ++ (List.replicate (k + 1) its).flatten := by
   rw [List.replicate_succ, List.flatten_cons, List.append_assoc]
  rw [← e2, ← foldl_rep its k (acc ++ its), ← e, List.replicate_succ, List.foldl_cons]
section
variable {X : Cx} {pins : List (Addr × Obj)} {σ : St} {H : Hp} {s : Shared} {l b : Addr} {xs ys zs : List V}
theorem Inv.lset {its its' : List Value} {n : Nat} {f : Array Value → Array Value} {t' : Nat} (I : Inv X pins σ H s) (hH : H l = some (.lst xs))
  (e : s.heap.get? l = some { cls := .type "list", data := .seq its.toArray n }) (hf : f its.toArray = its'.toArray) (hv : aY ys its') (hz : ys.length ≤ sizeLine) :
  Inv X pins σ (aU H l (.lst ys)) { s with heap := s.heap.update l (Obj.mapSeq f), toks := t' } := by
 have q := PySem.IsL.update e f
 rw [hf] at q
 refine I.write (x := l) (e := l) (by rw [hH]; exact trivial) (.inl rfl) (fun b' u hb hu => (Heap.get?_update_other s.heap (Obj.mapSeq f) (Ne.symm hb)).trans hu) ⟨_, q⟩ ?_
 exact ⟨hz, its', _, hv, q⟩
theorem Inv.lnew {its : List Value} {t' : Nat} (I : Inv X pins σ H s) (hv : aY ys its) (hz : ys.length ≤ sizeLine) :
  Inv X pins σ (aU H s.heap.objs.size (.lst ys)) { s with heap := s.heap.push { cls := .type "list", data := .seq its.toArray }, toks := t' } :=
 I.laid (fun _ _ q => Heap.get?_push_of_some _ q) (Nat.le_refl _) ⟨hz, its, 0, hv, Heap.get?_push_size _ rfl⟩
theorem Inv.fresh (I : Inv X pins σ H s) : H s.heap.objs.size = none := I.hok.fresh (Nat.le_refl _)
theorem Inv.lstM (I : Inv X pins σ H s) (hH : H l = some (.lst xs)) : xs.length ≤ sizeLine ∧ ∃ (its : List Value) (n : Nat), aY xs its ∧ xs.length = its.length ∧ s.heap.get? l = some { cls := .type "list", data := .seq its.toArray n } := by
 obtain ⟨z, its, n, r, e⟩ := I.hok l _ hH
 exact ⟨z, its, n, r, r.length, e⟩
theorem u0 {n : Nat} (h : n ≤ sizeLine) : Builtin.List.listTooLong n = false := by
 unfold Builtin.List.listTooLong
 exact decide_eq_false (by omega)
end
section
variable {X : Cx}
def rAppend : V → List V → Hp → VK → Prop := fun x vs H Q => ∃ l xs y, x = .ref l ∧ vs = [y] ∧ H l = some (.lst xs) ∧ xs.length < sizeLine ∧ Q .non (aU H l (.lst (xs ++ [y])))
theorem u1 : A1 X "list.append" rAppend := by
 intro pins s σ H x vs v us Q I rx rv h
 obtain ⟨l, xs, y, rfl, rfl, hH, hz, q⟩ := h
 cases rx
 obtain ⟨u, rfl, ru⟩ := rv.one
 obtain ⟨z, its, n, r, hl, e⟩ := I.lstM hH
 refine call_meets F.slot_list_append ⟨_, e, rfl⟩ F.entry_list_append (F.args_list_append_2 _ _) (PySem.list_append l its.toArray n u (by rw [List.size_toArray]; omega)) ⟨e, ?_⟩
 refine ⟨.non, _, I.lset (its' := its ++ [u]) hH e (by simp) (r.append (.cons ru .nil)) ?_, rfl, q⟩
 rw [List.length_append, List.length_singleton]
 omega
def rExtend : V → List V → Hp → VK → Prop := fun x vs H Q => ∃ l b xs zs, x = .ref l ∧ vs = [.ref b] ∧ H l = some (.lst xs) ∧ H b = some (.lst zs) ∧ xs.length + zs.length ≤ sizeLine ∧ Q .non (aU H l (.lst (xs ++ zs)))
theorem A2 : A1 X "list.extend" rExtend := by
 intro pins s σ H x vs v us Q I rx rv h
 obtain ⟨l, b, xs, zs, rfl, rfl, hH, hB, hz, q⟩ := h
 cases rx
 obtain ⟨u, rfl, ru⟩ := rv.one
 cases ru
 obtain ⟨z, its, n, r, hl, e⟩ := I.lstM hH
 obtain ⟨z2, its2, n2, r2, hl2, e2⟩ := I.lstM hB
 have hsz : its.toArray.size + its2.toArray.size ≤ sizeLine := by rw [List.size_toArray, List.size_toArray]; omega
 have hlong : ¬ (!its.toArray.isEmpty && Builtin.List.listTooLong (its.toArray.size + its2.toArray.size)) = true := by
  rw [u0 hsz, Bool.and_false]
  exact Bool.false_ne_true
 refine call_meets F.slot_list_extend ⟨_, e, rfl⟩ F.entry_list_extend (F.args_list_extend_2 _ _)
  (AutoSeq1.list_extend_list_list_0 l its.toArray n b its2.toArray n2 hlong (by rw [List.size_toArray]; omega) (by omega)) ⟨e, e2, ?_⟩
 refine ⟨.non, _, I.lset (its' := its ++ its2) hH e (by simp) (r.append r2) ?_, rfl, q⟩
 rw [List.length_append]
 omega
def rPop : V → List V → Hp → VK → Prop := fun x vs H Q => ∃ l xs y, x = .ref l ∧ vs = [] ∧ H l = some (.lst xs) ∧ xs[xs.length - 1]? = some y ∧ Q y (aU H l (.lst xs.dropLast))
def N5 : R2 := fun x y H Q => ∃ l b xs zs, x = .ref l ∧ y = .ref b ∧ H l = some (.lst xs) ∧ H b = some (.lst zs) ∧ xs.length + zs.length ≤ sizeLine ∧ ∀ p, H p = none → Q (.ref p) (aU H p (.lst (xs ++ zs)))
theorem rM : bC X (binaryOp .Add) N5 := by
 intro pins s σ H x y v u Q I rx ry h
 obtain ⟨l, b, xs, zs, rfl, rfl, hH, hB, hz, q⟩ := h
 cases rx
 cases ry
 obtain ⟨z, its, n, r, hl, e⟩ := I.lstM hH
 obtain ⟨z2, its2, n2, r2, hl2, e2⟩ := I.lstM hB
 refine PySem.P.add_list e e2 ?_ (by rw [List.size_toArray, List.size_toArray]; omega)
 have ea : its.toArray ++ its2.toArray = (its ++ its2).toArray := by simp
 rw [ea]
 exact ⟨.ref _, _, I.lnew (t' := s.toks) (r.append r2) (by rw [List.length_append]; omega), rfl, q _ I.fresh⟩
def N6 : R2 := fun x y H Q => ∃ l k xs, x = .ref l ∧ y = .int k ∧ H l = some (.lst xs) ∧ -(2 ^ 63) ≤ k ∧ k < 2 ^ 63 ∧ xs.length * k.toNat ≤ sizeLine ∧
 ∀ p, H p = none → Q (.ref p) (aU H p (.lst (List.replicate k.toNat xs).flatten))
theorem N7 {α : Type} (xs : List α) (k : Nat) : (List.replicate k xs).flatten.length = k * xs.length := by
 induction k with
 | zero => simp
 | succ k ih => rw [List.replicate_succ, List.flatten_cons, List.length_append, ih, Nat.succ_mul, Nat.add_comm]
theorem A4 : bC X (binaryOp .Mult) N6 := by
 intro pins s σ H x y v u Q I rx ry h
 obtain ⟨l, k, xs, rfl, rfl, hH, h1, h2, hz, q⟩ := h
 cases rx
 obtain ⟨t, rfl⟩ := ry
 obtain ⟨z, its, n, r, hl, e⟩ := I.lstM hH
 have hlen : its.toArray.size * k.toNat ≤ sizeLine := by rw [List.size_toArray, ← hl]; exact hz
 have hcap : ¬ its.toArray.size * k.toNat > (2 ^ 63 - 1) / 8 := by
  have : (sizeLine : Nat) ≤ (2 ^ 63 - 1) / 8 := by decide
  omega
 have hfit : ¬ (!Builtin.List.listFitsIndex k) = true := by
  rw [fitsIndex_both h1 h2]
  exact Bool.false_ne_true
 have hlong : ¬ Builtin.List.listTooLong (its.toArray.size * k.toNat) = true := by
  rw [u0 hlen]
  exact Bool.false_ne_true
 have hnew : List.foldl (fun x1 x2 => x1 ++ x2) #[] (List.replicate (if its.toArray.isEmpty = true then 0 else k.toNat) its.toArray) = (List.replicate k.toNat its).flatten.toArray := by
  have f0 : ∀ m : Nat, List.foldl (fun x1 x2 => x1 ++ x2) #[] (List.replicate m its.toArray) = (List.replicate m its).flatten.toArray := fun m => by
   have := foldl_rep its m []
   rw [List.nil_append] at this
   exact this
  rw [f0]
  cases its with
  | nil => simp
  | cons a r' => rw [if_neg (by simp)]
 refine wpAny_binaryOp_repeat_ref (T := "list") (U := "int") (by decide) ⟨_, e, rfl⟩ (fun s' => typeIs_int s' k t) noFill_list_mul F.fills_int_mul F.slot_int_rmul repeat_list F.slot_int_index.lookup
  (call_meets F.slot_int_rmul (typeIs_int s k t) F.entry_int_rmul (F.args_int_rmul_2 _ _) (int___rmul___int_list k t l its.toArray n)
   ⟨e, rfl, ⟨_, e, rfl⟩, call_meets F.slot_list_mul ⟨_, e, rfl⟩ F.entry_list_mul (F.args_list_mul_2 _ _) (AutoListH.list___mul___list_int_3 l its.toArray n k t hfit hcap hlong) ⟨e, ?_⟩⟩)
 rw [hnew]
 exact ⟨.ref _, _, I.lnew (t' := s.toks) (r.rep k.toNat) (by rw [N7, Nat.mul_comm]; exact hz), rfl, q _ I.fresh⟩
end
section
variable {prog : Program} {w : World} {A : Around} {E : Value → Shared → Prop} {s : Shared}
end
section
variable {X : Cx}
end
end L2
namespace L2
open PySem PySem.Spec PyProof.Rows
section
variable {κ : Type} [DecidableEq κ]
def gS (kvs : List (κ × V)) (k : κ) : Option V := (kvs.find? fun kv => decide (kv.1 = k)).map (·.2)
def fS (kvs : List (κ × V)) (k : κ) (v : V) : List (κ × V) :=
 if (kvs.any fun kv => decide (kv.1 = k)) = true then kvs.map (fun kv => if kv.1 = k then (kv.1, v) else kv) else kvs ++ [(k, v)]
theorem rN {p : κ × V} {r : List (κ × V)} {k : κ} (e : p.1 = k) : gS (p :: r) k = some p.2 := by simp [gS, List.find?_cons, e]
theorem rO {p : κ × V} {r : List (κ × V)} {k : κ} (e : ¬ p.1 = k) : gS (p :: r) k = gS r k := by simp [gS, List.find?_cons, e]
theorem A5 (k : κ) : ∀ kvs : List (κ × V), (kvs.any fun kv => decide (kv.1 = k)) = (gS kvs k).isSome
 | [] => rfl
 | p :: r => by
  rw [List.any_cons]
  by_cases e : p.1 = k
  ·simp only [rN e, decide_eq_true e, Bool.true_or, Option.isSome_some]
  ·rw [rO e, decide_eq_false e, Bool.false_or]; exact A5 k r
theorem A6 (kvs : List (κ × V)) (k : κ) (v : V) : (fS kvs k v).length ≤ kvs.length + 1 := by
 unfold fS
 split
 ·rw [List.length_map]; omega
 ·rw [List.length_append, List.length_cons, List.length_nil]; omega
theorem hU.isSome_eq {o : Option V} {u : Option Value} (r : hU o u) : o.isSome = u.isSome := by
 cases o with
 | none => cases u with
  | none => rfl
  | some _ => exact (show False from r).elim
 | some _ => cases u with
  | none => exact (show False from r).elim
  | some _ => rfl
theorem hU.getD {o : Option V} {u : Option Value} {d : V} {d' : Value} (r : hU o u) (rd : RelV d d') : RelV (o.getD d) (u.getD d') := by
 cases o with
 | none => cases u with
  | none => exact rd
  | some _ => exact (show False from r).elim
 | some _ => cases u with
  | none => exact (show False from r).elim
  | some _ => exact r
theorem KV.val {kvs : List (κ × V)} {vs : List (κ × Value)} (r : KV kvs vs) (k : κ) : hU (gS kvs k) (valueAt vs k) := by
 unfold KV at r
 induction r with
 | nil => exact True.intro
 | @cons p q ps qs h t ih =>
  obtain ⟨h1, h2⟩ := h
  by_cases e : p.1 = k
  ·have e' : q.1 = k := h1.symm.trans e
   have b : valueAt (q :: qs) k = some q.2 := by simp [valueAt, List.find?_cons, e']
   rw [rN e, b]; exact h2
  ·have e' : ¬ q.1 = k := fun z => e (h1.trans z)
   have b : valueAt (q :: qs) k = valueAt qs k := by simp [valueAt, List.find?_cons, e']
   rw [rO e, b]; exact ih
theorem KV.any {kvs : List (κ × V)} {vs : List (κ × Value)} (r : KV kvs vs) (k : κ) : (kvs.any fun kv => decide (kv.1 = k)) = vs.any fun kv => decide (kv.1 = k) := by
 unfold KV at r
 induction r with
 | nil => rfl
 | cons h t ih => rw [List.any_cons, List.any_cons, ih, h.1]
theorem KV.repl {kvs : List (κ × V)} {vs : List (κ × Value)} (r : KV kvs vs) (k : κ) {y : V} {u : Value} (ry : RelV y u) :
  KV (kvs.map fun kv => if kv.1 = k then (kv.1, y) else kv) (vs.map fun kv => if kv.1 = k then (kv.1, u) else kv) := by
 unfold KV at r ⊢
 induction r with
 | nil => exact .nil
 | @cons p q ps qs h t ih =>
  rw [List.map_cons, List.map_cons]
  refine .cons ?_ ih
  obtain ⟨h1, h2⟩ := h
  by_cases e : p.1 = k
  ·rw [if_pos e, if_pos (h1.symm.trans e)]; exact ⟨h1, ry⟩
  ·rw [if_neg e, if_neg (fun z => e (h1.trans z))]; exact ⟨h1, h2⟩
theorem KV.put {kvs : List (κ × V)} {vs : List (κ × Value)} (r : KV kvs vs) (k : κ) {y : V} {u : Value} (ry : RelV y u) : KV (fS kvs k y) (stored vs k u) := by
 unfold fS stored
 rw [r.any k]
 by_cases e : (vs.any fun kv => decide (kv.1 = k)) = true
 ·rw [if_pos e, if_pos e]; exact r.repl k ry
 ·rw [if_neg e, if_neg e]; exact Paired.snoc r ⟨rfl, ry⟩
theorem KV.length {kvs : List (κ × V)} {vs : List (κ × Value)} (r : KV kvs vs) : kvs.length = vs.length := Paired.length r
end
theorem oD {P : Program} {w : World} {k : aN} {u : Value} (r : RelV (kV k) u) : (gD P w).is k u = true := by
 cases k with
 | inl i => obtain ⟨t, e⟩ := (show ∃ t, u = Value.int i t from r); subst e; exact JV P w i t
 | inr x => obtain ⟨t, e⟩ := (show ∃ t, u = Value.str x t from r); subst e; exact JW P w x t
theorem A7 {P : Program} {w : World} : ∀ {ks : List aN} {us : List Value}, aY (ks.map kV) us → ItemsAre (gD P w) ks us
 | [], _, r => by rw [List.map_nil] at r; cases r; exact .nil
 | k :: ks, _, r => by
  rw [List.map_cons] at r
  cases r with
  | cons h t => exact .cons (oD h) (A7 t)
abbrev KT (H : Hp) : List (List aN × V) → List (List aN × Addr × Value) → Prop := Paired fun p q => p.1 = q.1 ∧ H q.2.1 = some (.tup (p.1.map kV)) ∧ RelV p.2 q.2.2
theorem KT.val {H : Hp} {kvs : List (List aN × V)} {xs : List (List aN × Addr × Value)} (r : KT H kvs xs) (k : List aN) : hU (gS kvs k) ((atKey xs k).map (·.2)) := by
 induction r with
 | nil => exact True.intro
 | @cons p q ps qs h t ih =>
  obtain ⟨h1, _, h2⟩ := h
  by_cases e : p.1 = k
  ·have e' : q.1 = k := h1.symm.trans e
   have b : atKey (q :: qs) k = some q.2 := by simp [atKey, List.find?_cons, e']
   rw [rN e, b]; exact h2
  ·have e' : ¬ q.1 = k := fun z => e (h1.trans z)
   have b : atKey (q :: qs) k = atKey qs k := by simp [atKey, List.find?_cons, e']
   rw [rO e, b]; exact ih
theorem KT.repl {H : Hp} {kvs : List (List aN × V)} {xs : List (List aN × Addr × Value)} (r : KT H kvs xs) (k : List aN) {y : V} {u : Value} (ry : RelV y u) :
  KT H (kvs.map fun kv => if kv.1 = k then (kv.1, y) else kv) (xs.map (putAt k u)) := by
 induction r with
 | nil => exact .nil
 | @cons p q ps qs h t ih =>
  rw [List.map_cons, List.map_cons]
  refine .cons ?_ ih
  obtain ⟨h1, h2, h3⟩ := h
  unfold putAt
  by_cases e : p.1 = k
  ·rw [if_pos e, if_pos (h1.symm.trans e)]; exact ⟨h1, h2, ry⟩
  ·rw [if_neg e, if_neg (fun z => e (h1.trans z))]; exact ⟨h1, h2, h3⟩
theorem KT.put {H : Hp} {kvs : List (List aN × V)} {xs : List (List aN × Addr × Value)} (r : KT H kvs xs) (k : List aN) {b : Addr} {y : V} {u : Value} (hb : H b = some (.tup (k.map kV))) (ry : RelV y u) :
  KT H (fS kvs k y) (storedH xs k b u) := by
 have e : (kvs.any fun kv => decide (kv.1 = k)) = (atKey xs k).isSome := by
  rw [A5, (r.val k).isSome_eq, Option.isSome_map]
 unfold fS storedH
 rw [e]
 by_cases q : (atKey xs k).isSome = true
 ·rw [if_pos q, if_pos q]; exact r.repl k ry
 ·rw [if_neg q, if_neg q]; exact Paired.snoc r ⟨rfl, hb, ry⟩
theorem KT.keeps {H H' : Hp} {kvs : List (List aN × V)} {xs : List (List aN × Addr × Value)} (r : KT H kvs xs) (ht : ∀ b ys, H b = some (.tup ys) → H' b = some (.tup ys)) : KT H' kvs xs :=
 Paired.mapP r fun _ _ z => ⟨z.1, ht _ _ z.2.1, z.2.2⟩
section
variable {P : Program} {w : World} {H : Hp} {h : Heap} {a : Addr}
theorem A8 {u : HO} (ok : bZ P w H h) (e : Rd H a u) : cL P w H h a u := e.ok ok
theorem mT {kvs : List (aN × V)} (ok : bZ P w H h) (e : Rd H a (.dK kvs)) : kvs.length ≤ sizeLine ∧ (a == sysModules) = false ∧ ∃ vs, KV kvs vs ∧ h.DictOf (gD P w) a vs :=
 show cL P w H h a (.dK kvs) from A8 ok e
theorem N8 {kvs : List (aN × V)} (ok : bZ P w H h) (e : H a = some (.dK kvs)) : kvs.length ≤ sizeLine ∧ (a == sysModules) = false ∧ ∃ vs, KV kvs vs ∧ h.DictOf (gD P w) a vs := mT ok (.inl e)
theorem oE {ks : List aN} (ok : bZ P w H h) (e : H a = some (.tup (ks.map kV))) : (tupleKind (gD P w)).is h ks a := by
 obtain ⟨_, its, r, o, h1, h2, n, h3⟩ := (show cL P w H h a (.tup (ks.map kV)) from ok a _ e)
 exact ⟨o, its.toArray, n, h1, h2, h3, by simpa using A7 r⟩
theorem oF {kvs : List (List aN × V)} (ok : bZ P w H h) (e : Rd H a (.dT kvs)) : kvs.length ≤ sizeLine ∧ (a == sysModules) = false ∧
  ∃ xs, KT H kvs xs ∧ h.DictOfH (tupleKind (gD P w)) a xs := by
 obtain ⟨z, y, xs, r, o, es, ep, h1, h2, h3, h4, h5⟩ := (show cL P w H h a (.dT kvs) from A8 ok e)
 refine ⟨z, y, xs, r, o, es, ep, h1, h2, h3, h4, fun x hx => ?_, h5⟩
 have all : ∀ {l : List (List aN × V)} {m : List (List aN × Addr × Value)}, KT H l m → ∀ x ∈ m, (tupleKind (gD P w)).is h x.1 x.2.1 := by
  intro l m q
  induction q with
  | nil => intro x hx; exact nomatch hx
  | @cons p q ps qs hq t ih =>
   intro x hx
   rcases List.mem_cons.mp hx with e | hx
   ·subst e
    exact oE ok (by rw [← hq.1]; exact hq.2.1)
   ·exact ih x hx
 exact all r x hx
theorem N9 {kvs : List (List aN × V)} (ok : bZ P w H h) (e : H a = some (.dT kvs)) : kvs.length ≤ sizeLine ∧ (a == sysModules) = false ∧
  ∃ xs, KT H kvs xs ∧ h.DictOfH (tupleKind (gD P w)) a xs := oF ok (.inl e)
end
def eA (H : Hp) (a : Addr) (y : V) (r : Option V) : Prop :=
 (∃ kvs k, Rd H a (.dK kvs) ∧ y = kV k ∧ r = gS kvs k) ∨ ∃ kvs k b, Rd H a (.dT kvs) ∧ y = .ref b ∧ H b = some (.tup (k.map kV)) ∧ r = gS kvs k
def kU (H : Hp) (a : Addr) (y v : V) (H' : Hp) : Prop :=
 (∃ kvs k, H a = some (.dK kvs) ∧ y = kV k ∧ kvs.length < sizeLine ∧ H' = aU H a (.dK (fS kvs k v))) ∨
 ∃ kvs k b, H a = some (.dT kvs) ∧ y = .ref b ∧ H b = some (.tup (k.map kV)) ∧ kvs.length < sizeLine ∧ H' = aU H a (.dT (fS kvs k v))
theorem eA.k {H : Hp} {a : Addr} {kvs : List (aN × V)} {k : aN} (e : H a = some (.dK kvs)) : eA H a (kV k) (gS kvs k) := .inl ⟨kvs, k, .inl e, rfl, rfl⟩
theorem eA.t {H : Hp} {a b : Addr} {kvs : List (List aN × V)} {k : List aN} (e : H a = some (.dT kvs)) (eb : H b = some (.tup (k.map kV))) : eA H a (.ref b) (gS kvs k) := .inr ⟨kvs, k, b, .inl e, rfl, eb, rfl⟩
theorem kU.k {H : Hp} {a : Addr} {kvs : List (aN × V)} {k : aN} {v : V} (e : H a = some (.dK kvs)) (hl : kvs.length < sizeLine) : kU H a (kV k) v (aU H a (.dK (fS kvs k v))) := .inl ⟨kvs, k, e, rfl, hl, rfl⟩
theorem kU.t {H : Hp} {a b : Addr} {kvs : List (List aN × V)} {k : List aN} {v : V} (e : H a = some (.dT kvs)) (eb : H b = some (.tup (k.map kV))) (hl : kvs.length < sizeLine) :
  kU H a (.ref b) v (aU H a (.dT (fS kvs k v))) := .inr ⟨kvs, k, b, e, rfl, eb, hl, rfl⟩
section
variable {X : Cx} {pins : List (Addr × Obj)} {σ : St} {H : Hp} {s : Shared} {a : Addr} {y v : V} {u r : Value} {o : Option V} {A : Around} {E : Value → Shared → Prop}
theorem Inv.big (I : Inv X pins σ H s) : sysModules < s.heap.objs.size := by
 have h : mainGlobals < s.heap.objs.size := (I.mod.glob.keeps I.bk).lt
 exact Nat.lt_trans (by decide) h
theorem OA {Q : Value → Shared → Prop} (hu : A.units + 1 < cLine) (I : Inv X pins σ H s) (g : eA H a y (some v)) (ry : RelV y u) (h : ∀ w' s', Inv X pins σ H s' → RelV v w' → Q w' s') :
  wpAny (model X.prog X.w) A (getItem (.ref a) u) Q E s := by
 rcases g with ⟨kvs, k, e, ey, l⟩ | ⟨kvs, k, b, e, ey, eb, l⟩
 ·subst ey
  obtain ⟨z, hd, vs, rel, dd⟩ := mT I.hok e
  obtain ⟨w', hw, rw'⟩ := hU.some_of (v := v) (o := valueAt vs k) (by rw [l]; exact rel.val k)
  exact wpAny_getItem_of (oD ry) dd.mapOf hw (h w' _ (I.tok _) rw')
 ·subst ey
  cases (show u = Value.ref b from ry)
  obtain ⟨z, hd, xs, rel, dd⟩ := oF I.hok e
  obtain ⟨w', hw, rw'⟩ := hU.some_of (v := v) (o := (atKey xs k).map (·.2)) (by rw [l]; exact rel.val k)
  obtain ⟨p, hp, hp2⟩ := Option.map_eq_some_iff.mp hw
  refine wpAny_getItem_heap (tupleKind_room_in1 hu) (oE I.hok eb) dd hp ?_
  rw [hp2]
  exact h w' _ (I.tok _) rw'
theorem A9 {Q : Value → Shared → Prop} (hu : A.units + 1 < cLine) (I : Inv X pins σ H s) (g : eA H a y o) (ry : RelV y u) (h : ∀ s', Inv X pins σ H s' → Q (.bool o.isSome) s') :
  wpAny (model X.prog X.w) A (compareOp .In u (.ref a)) Q E s := by
 rcases g with ⟨kvs, k, e, ey, l⟩ | ⟨kvs, k, b, e, ey, eb, l⟩
 ·subst ey
  obtain ⟨z, hd, vs, rel, dd⟩ := mT I.hok e
  refine wpAny_in_of (oD ry) hd dd.mapOf ?_
  rw [← (rel.val k).isSome_eq, ← l]
  exact h _ (I.tok _)
 ·subst ey
  cases (show u = Value.ref b from ry)
  obtain ⟨z, hd, xs, rel, dd⟩ := oF I.hok e
  refine wpAny_in_heap (tupleKind_room_in1 hu) (oE I.hok eb) hd dd ?_
  have q := (rel.val k).isSome_eq
  rw [Option.isSome_map] at q
  rw [← q, ← l]
  exact h _ (I.tok _)
theorem BA {Q : Value → Shared → Prop} (hu : A.units + 1 < cLine) (I : Inv X pins σ H s) (g : eA H a y o) (ry : RelV y u) (h : ∀ s', Inv X pins σ H s' → Q (.bool (!o.isSome)) s') :
  wpAny (model X.prog X.w) A (compareOp .NotIn u (.ref a)) Q E s := by
 rcases g with ⟨kvs, k, e, ey, l⟩ | ⟨kvs, k, b, e, ey, eb, l⟩
 ·subst ey
  obtain ⟨z, hd, vs, rel, dd⟩ := mT I.hok e
  refine wpAny_notIn_of (oD ry) hd dd.mapOf ?_
  rw [← (rel.val k).isSome_eq, ← l]
  exact h _ (I.tok _)
 ·subst ey
  cases (show u = Value.ref b from ry)
  obtain ⟨z, hd, xs, rel, dd⟩ := oF I.hok e
  refine wpAny_notIn_heap (tupleKind_room_in1 hu) (oE I.hok eb) hd dd ?_
  have q := (rel.val k).isSome_eq
  rw [Option.isSome_map] at q
  rw [← q, ← l]
  exact h _ (I.tok _)
theorem BB {h' : Heap} {t' : Nat} {ob : HO} (I : Inv X pins σ H s) (mu : nZ (H a)) (hs : Heap.SameBut a s.heap h') (he : ∃ q, h'.get? a = some q) (new : cL X.prog X.w (aU H a ob) h' a ob) :
  Inv X pins σ (aU H a ob) { s with heap := h', toks := t' } :=
 I.write (x := a) (e := a) mu (.inl rfl) (fun b q hb z => (hs.2 b hb).trans z) he new
theorem OB {P : Program} {w : World} {H' : Hp} {h' : Heap} {kvs : List (aN × V)} {vs : List (aN × Value)} (z : kvs.length ≤ sizeLine) (hd : (a == sysModules) = false) (rel : KV kvs vs) (dd : h'.DictOf (gD P w) a vs) :
  cL P w H' h' a (.dK kvs) := ⟨z, hd, vs, rel, dd⟩
theorem OC {H' : Hp} {Q : Unit → Shared → Prop} (hu : A.units + 1 < cLine) (I : Inv X pins σ H s) (g : kU H a y v H') (ry : RelV y u) (rv : RelV v r) (h : ∀ s', Inv X pins σ H' s' → Q () s') :
  wpAny (model X.prog X.w) A (setItem (.ref a) u r) Q E s := by
 rcases g with ⟨kvs, k, e, ey, l, eH⟩ | ⟨kvs, k, b, e, ey, eb, l, eH⟩
 ·subst ey eH
  obtain ⟨z, hd, vs, rel, dd⟩ := N8 I.hok e
  have hz : vs.length ≤ sizeLine := by rw [← rel.length]; exact z
  have hl : (fS kvs k v).length ≤ sizeLine := by have := A6 kvs k v; omega
  refine wpAny_setItem_pairs (hsz := hz) (oD ry) dd fun h' dd' hs => h _ ?_
  have he : ∃ q, h'.get? a = some q := let ⟨q, _, _, hq, _⟩ := dd'; ⟨q, hq⟩
  exact BB I (by rw [e]; exact True.intro) hs he (OB hl hd (rel.put k rv) dd')
 ·subst ey eH
  cases (show u = Value.ref b from ry)
  obtain ⟨z, hd, xs, rel, dd⟩ := N9 I.hok e
  have hz : xs.length ≤ sizeLine := by rw [← Paired.length rel]; exact z
  have hl : (fS kvs k v).length ≤ sizeLine := by have := A6 kvs k v; omega
  refine wpAny_setItem_heap (hsz := hz) (tupleKind_room_in1 hu) (oE I.hok eb) dd fun h' dd' hs => h _ ?_
  obtain ⟨q, es, ep, hq, h2, h3, h4, _, h5⟩ := dd'
  refine BB I (by rw [e]; exact True.intro) hs ⟨q, hq⟩ ⟨hl, hd, _, (rel.put k eb rv).keeps fun c ys ec => ?_, q, es, ep, hq, h2, h3, h4, h5⟩
  rw [bU (JX ec e (fun z => nomatch z))]
  exact ec
end
section
variable {X : Cx} {pins : List (Addr × Obj)} {σ : St} {H : Hp} {s : Shared} {a : Addr} {kvs : List (aN × V)} {k : aN} {u : Value} {A : Around} {E : Value → Shared → Prop}
theorem OD {Q : Value → Shared → Prop} (I : Inv X pins σ H s) (e : Rd H a (.dK kvs)) (h : ∀ t s', Inv X pins σ H s' → Q (.int kvs.length t) s') : wpAny (model X.prog X.w) A (call (.builtin "len") [.ref a]) Q E s := by
 obtain ⟨z, hd, vs, rel, dd⟩ := mT I.hok e
 refine call_len_dict hd dd (by rw [← rel.length]; rw [sizeLine_eq] at z; omega) ?_
 rw [← rel.length]
 exact h _ _ (I.tok _)
end
theorem OE {X : Cx} {pins : List (Addr × Obj)} {σ : St} {H : Hp} {s : Shared} {a : Addr} {y : V} {o : Option V} (I : Inv X pins σ H s) (g : eA H a y o) : s.TypeIs (.ref a) "dict" := by
 rcases g with ⟨kvs, k, e, _, _⟩ | ⟨kvs, k, b, e, _, _, _⟩
 ·obtain ⟨_, _, vs, _, dd⟩ := mT I.hok e
  exact dd.typeIs
 ·obtain ⟨_, _, xs, _, dd⟩ := oF I.hok e
  exact dd.typeIs
section
variable {X : Cx} {o i e value : Expr} {pos pos' tpos : Pos} {td ty tv : TE}
end
theorem OF {P : Program} {w : World} {H : Hp} (h : Heap) (hb : sysModules < h.objs.size) : cL P w H (h.push { cls := .type "dict", data := .dict #[] }) h.objs.size (.dK []) :=
 ⟨Nat.zero_le _, beq_eq_false_iff_ne.mpr (Ne.symm (Nat.ne_of_lt hb)), [], .nil, Heap.DictOf.new h⟩
def OG : TE := fun _ H Q => ∀ p, H p = none → Q (.ref p) (aU H p (.dK []))
section
variable {X : Cx} {pos : Pos}
theorem OH : PE X (.Dict [] [] pos) OG := fun pins s σ H Q I h =>
 wpAny_Dict_empty ⟨.ref s.heap.objs.size, _, I.laid (a := s.heap.objs.size) (o := .dK []) (t' := s.toks) (fun _ _ q => Heap.get?_push_of_some _ q) (Nat.le_refl _) (OF s.heap I.big), rfl, h _ (I.hok.fresh (Nat.le_refl _))⟩
end
structure M1 (X : Cx) (o : Expr) (m : Str) (apos : Pos) (e : Expr) (cpos : Pos) : Prop where
 base : attributeBase o m X.env (eval o X.env) = eval o X.env
 few : ((backTo cpos (starEach [e] X.env)).all (fun x => !x.1) && (backToKw cpos (keywordEach [] X.env)).all (fun x => x.1.isSome)
  && decide (([e] : List Expr).length + ([] : List Keyword).length + (if ([] : List Keyword).isEmpty then 0 else 1) < 30)) = true
 line : (apos.endLine == cpos.line) = true
 trees : backTo cpos (starEach [e] X.env) = [(false, eval e X.env)]
structure M2 (X : Cx) (o : Expr) (m : Str) (apos : Pos) (e f : Expr) (cpos : Pos) : Prop where
 base : attributeBase o m X.env (eval o X.env) = eval o X.env
 few : ((backTo cpos (starEach [e, f] X.env)).all (fun x => !x.1) && (backToKw cpos (keywordEach [] X.env)).all (fun x => x.1.isSome)
  && decide (([e, f] : List Expr).length + ([] : List Keyword).length + (if ([] : List Keyword).isEmpty then 0 else 1) < 30)) = true
 line : (apos.endLine == cpos.line) = true
 trees : backTo cpos (starEach [e, f] X.env) = [(false, eval e X.env), (false, eval f X.env)]
section
variable {X : Cx} {pins : List (Addr × Obj)} {σ : St} {H : Hp} {s : Shared} {a : Addr} {y d : V} {u r : Value} {o : Option V} {A : Around} {E : Value → Shared → Prop}
end
section
variable {X : Cx} {o e f : Expr} {apos cpos : Pos} {td ty tx : TE}
end
section
variable {X : Cx} {pins : List (Addr × Obj)} {σ : St} {H : Hp} {s : Shared} {a : Addr} {kvs : List (aN × V)} {A : Around} {E : Value → Shared → Prop}
end
section
variable {X : Cx} {pins : List (Addr × Obj)} {σ : St} {H : Hp} {s : Shared} {a : Addr} {y : V} {u : Value} {A : Around} {E : Value → Shared → Prop}
end
end L2
namespace Att
open PySem PySem.W PySem.Calls PyProof.Rows
theorem OI {P : Params} {h : Heap} : ∀ (ns : List Int) (vs : List Value), WellAll P h vs (ns.map WData.int) → IntsAre vs ns := by
 intro ns
 induction ns with
 | nil =>
  intro vs w
  rw [List.map_nil] at w
  cases w
  exact .nil
 | cons n ns ih =>
  intro vs w
  rw [List.map_cons] at w
  cases w with
  | cons a b =>
   cases a
   exact .cons _ _ (ih _ b)
theorem OJ {l : OpenLaw} {n : Nat} (hn : l.most = some n) {P : Params} {h : Heap} {args : List WData} {vals : List Value}
  (hpre : l.row.toRowW.claim.pre args = true) (hwl : WellAll P h vals args) :
  ∃ a vs ns, vals = [Value.ref a] ∧ args = [WData.list (ns.map WData.int)] ∧ h.get? a = some { cls := .type "list", data := .seq vs.toArray } ∧ IntsAre vs ns ∧ ns.length ≤ n := by
 have hsh : WShape.hasAll [] args [.list .int] = true := (pre_splitW hpre).1
 have hc : l.pre.holds [] { args := args } = true := (pre_splitW hpre).2
 obtain ⟨d, r, rfl, h1, h2⟩ := hasAllW_cons hsh
 obtain rfl := hasAllW_nil h2
 obtain ⟨xs, rfl, h3⟩ := hasW_list h1
 obtain ⟨ns, rfl⟩ := items_int h3
 have hlen : ns.length ≤ n := by
  unfold OpenLaw.pre at hc
  have h4 : (WTm.not (.lt (.lit (.int (n : Int))) (.len (.arg 0)))).holds [] { args := [.list (ns.map .int)] } = true := by
   have h4 := (holds_andW hc).1
   rw [hn] at h4
   exact h4
  have h5 := condW_of h4 (w_not (w_lt w_lit (w_len_list (w_arg rfl))))
  rw [List.length_map] at h5
  refine Nat.le_of_not_lt fun q => ?_
  have q' : (n : Int) < ((ns.length : Nat) : Int) := by omega
  first
   | (rw [decide_eq_true q'] at h5; exact absurd h5 (by decide))
   | (simp at h5; omega)
 cases hwl with
 | cons w1 w2 =>
  cases w2
  cases w1 with
  | list ho hall => exact ⟨_, _, ns, rfl, rfl, ho, OI ns _ hall, hlen⟩
theorem OK (l : OpenLaw) (args : List WData) : l.row.toRowW.claim.post args (.bool true) args = true :=
 postW_of (r := l.row.toRowW) (X := (true == true))
  (show WShape.has [] (.bool true) .bool = true by first | rfl | decide | simp [WShape.has, WShape.arms, WShape.armsAll])
  (show (WTm.eq .res (.lit (.bool true))).value [] { args := args, res := some (.bool true), after := args } = some (.bool (true == true)) from w_eq_bool (w_res rfl) w_lit) rfl
theorem attach_call {l : OpenLaw} {n : Nat} {q : Program} {loose : List Str} {XP : (Str → Option Value) → Heap → Prop} {YP : World → Heap → Prop} {d : DefRec}
  (hn : l.most = some n) (hdf : d.params.defaults = [])
  (call : ∀ (w : World) (s₀ s₁ : Shared) (mg mb : Str → Option Value) (fa : Addr) (o : Obj) (pm cd doc : Value) (a : Addr) (vs : List Value) (ns : List Int),
   Ground q loose [] XP w s₀ mg mb s₁.heap → YP w s₁.heap →
   s₁.heap.get? fa = some o → o.data = .func (docDef d.name d.params d.body d.scope pm cd doc) → s₁.heap.CodeRec cd d.name → mg d.name = some (.ref fa) →
   s₁.heap.get? a = some { cls := .type "list", data := .seq vs.toArray } → IntsAre vs ns → ns.length ≤ n → s₁.gens = #[] →
   codeAny (model l.prog w) callerA (.call (.ref fa) ⟨[.ref a], []⟩) (fun r s' => r = .ok (.ret (.bool true)) ∧ OldK s₁.heap s'.heap ∧ s'.os = s₁.os ∧ AllBare s'.gens) s₁) :
  WalkO q loose XP YP l.row.toRowW d [] (fun f vs => PySem.call f vs) := by
 intro w s₀ s₁ mg mb G Y fa o pm cd doc dV kV ho hd hcd hD hmg hg args vals as hpre hlay hrd hwl mM
 obtain rfl : dV = .none := Dflts.none hD hdf
 obtain rfl : kV = .none := Dflts.noKw hD
 obtain ⟨a, vs, ns, rfl, rfl, hobj, hints, hlen⟩ := OJ hn hpre hwl
 refine enter_call (codeAny_mono (call w s₀ s₁ mg mb fa o pm cd doc a vs ns G Y ho (fd_plain hd) hcd hmg hobj hints hlen hg) fun r s' hq => ?_)
 obtain ⟨rfl, h2, h3, h4⟩ := hq
 exact ⟨.inl ⟨.bool true, .bool true, [], rfl, fun _ => rfl, .bool true, OK l _, fun _ => ⟨List.Pairwise.nil, fun _ hm => (nomatch hm)⟩⟩, h2, h3, h4⟩
section
variable {prog : Program} {w : World} {A : Around} {E : Value → Shared → Prop} {s : Shared} {K : Frag}
end
end Att
namespace L2
open PySem PySem.Spec PyProof.Rows
theorem BC : ∀ {vs : List Value} {ns : List Int}, IntsAre vs ns → aY (ns.map V.int) vs
 | _, _, .nil => .nil
 | _, _, .cons n t h => .cons ⟨t, rfl⟩ (BC h)
def rP (H : Hp) : Prop := ∀ b, H b = none ∨ ∃ o xs, H b = some (.frz o (.lst xs))
theorem OL {P : Program} {w : World} {K : PySem.W.Frag} {mg mb : Str → Option Value} {CX : hW} {k : Nat} {fa a : Addr} {fd : FuncData} {x : Str} {sp : Sp} {s₁ : Shared} {vs : List Value} {ns : List Int}
  (KX : K.In s₁.heap) (hns : s₁.heap.Ns mainGlobals mg) (hb : s₁.heap.Ns builtinsNs mb) (hbb : ∀ x : Str, x ≠ "__name__" → mb x = bootBuiltins x) (hlim : s₁.heap.NoLimit) (hg : s₁.gens = #[])
  (ha : s₁.heap.get? a = some { cls := .type "list", data := .seq vs.toArray }) (hi : IntsAre vs ns) (hl : ns.length ≤ sizeLine) (hr : bA k callerA)
  (F : ∀ base : Heap, K.In base → base.Ns mainGlobals mg → aS P w K mg base CX k fa fd [x] sp) (hbind : ∀ (s : Shared) (u : Value), BindsTo s fd ⟨[u], []⟩ [(x, u)])
  (hsp : ∀ H : Hp, rP H → a6 K H a (ns.map V.int) → sp [.ref a] H (fun v _ => v = .bl true) fun _ _ _ => False)
  (hCX : ∀ H e s', CX [] H s₁ (fun _ _ _ => False) e s' → False) :
  codeAny (model P w) callerA (.call (.ref fa) ⟨[.ref a], []⟩) (fun r s' => r = .ok (.ret (.bool true)) ∧ OldK s₁.heap s'.heap ∧ s'.os = s₁.os ∧ AllBare s'.gens) s₁ := by
 have rv := BC hi
 have lenV := hi.length
 -- from an abstract heap in which nothing but the script may be tracked
 have core : ∀ H : Hp, rP H → a6 K H a (ns.map V.int) → bZ P w H s₁.heap → (∀ b, H b ≠ none → b = a) → (H a ≠ none → K.lookup a = none) →
   codeAny (model P w) callerA (.call (.ref fa) ⟨[.ref a], []⟩) (fun r s' => r = .ok (.ret (.bool true)) ∧ OldK s₁.heap s'.heap ∧ s'.os = s₁.os ∧ AllBare s'.gens) s₁ := by
  intro H hO hS hok hA hK
  have base_of : ∀ {b : Addr} {o : Obj}, s₁.heap.get? b = some o → H b = none → (j2 s₁.heap H).get? b = some o := fun e n => JZ e n
  have noA : ∀ {b : Addr} {o : Obj} {es : Array DictEntry} {ep : Nat}, s₁.heap.get? b = some o → o.data = .dict es ep → H b = none := fun {b o es ep} e d => by
   cases q : H b with
   | none => rfl
   | some u =>
    have e' : b = a := hA b (by rw [q]; simp)
    subst e'
    rw [ha] at e; cases e
    have d' : Data.seq vs.toArray _ = Data.dict es ep := d
    cases d'
  have nsK : ∀ {b : Addr} {m : Str → Option Value}, s₁.heap.Ns b m → (j2 s₁.heap H).Ns b m := fun {b m} ⟨o, es, ep, e, d, r⟩ => ⟨o, es, ep, base_of e (noA e d), d, r⟩
  have hKb : K.In (j2 s₁.heap H) := fun b o e => base_of (KX b o e) (by
   cases q : H b with
   | none => rfl
   | some u =>
    have e' : b = a := hA b (by rw [q]; simp)
    subst e'
    rw [hK (by rw [q]; simp)] at e; cases e)
  have hM : Mod K mg (j2 s₁.heap H) := ⟨hKb, nsK hns, ⟨mb, nsK hb, hbb⟩, let ⟨mc, h1, h2⟩ := hlim; ⟨mc, nsK h1, h2⟩⟩
  have e0 : lU P w K mg (j2 s₁.heap H) callerA [] s₁ H := ⟨rfl, hM, fun b o e => J0 e, Nat.le_of_eq (JY _ _), trivial, fun b hb => absurd (show b ∈ ([] : List Addr) from hb) (by simp), hok, .of_eq hg⟩
  refine codeAny_mono ((F _ hKb (nsK hns)).run callerA [] s₁ H ⟨[.ref a], []⟩ [.ref a] [.ref a] _ _ hr e0 (hbind s₁ (.ref a)) (.cons rfl .nil) (hsp H hO hS)) fun r s' h => ?_
  cases r with
  | error e => exact (hCX H e s' h).elim
  | ok fl =>
   cases fl with
   | next => exact False.elim h
   | brk => exact False.elim h
   | cont => exact False.elim h
   | ret u =>
    obtain ⟨v, H', os, bare, un, hok', r', q⟩ := h
    have q' : v = .bl true := q
    subst q'
    obtain rfl : u = Value.bool true := r'
    refine ⟨rfl, OldK.of_keep fun b o e => ?_, os, bare⟩
    cases q : H b with
    | none => exact un.keep b o e q (by intro z; exact absurd (show b ∈ ([] : List Addr) from z) (by simp)) (by simp)
    | some u =>
     rcases hO b with z | ⟨ob, xs, z⟩
     ·rw [q] at z; cases z
     ·have z2 := un.frzs b ob _ z
      obtain ⟨e1, _⟩ := hok b _ z
      obtain ⟨e2, _⟩ := hok' b _ z2
      rw [e] at e1; cases e1
      exact e2
 cases hk : K.lookup a with
 | some o =>
  -- the script is one of the module's own objects
  have e := KX a o hk
  rw [ha] at e
  cases e
  refine core (fun _ => none) (fun _ => .inl rfl) (.inr ⟨_, vs.toArray, _, hk, rfl, rfl, rfl, by rw [List.size_toArray, lenV]; exact hl, by simpa using rv⟩) (fun b u z => by have z' : (none : Option HO) = some u := z; cases z') (fun b z => absurd rfl z) fun z => absurd rfl z
 | none =>
  refine core (fun b => if b = a then some (.frz { cls := .type "list", data := .seq vs.toArray } (.lst (ns.map V.int))) else none) (fun b => ?_) (.inl (.inr ⟨{ cls := .type "list", data := .seq vs.toArray }, if_pos rfl⟩)) (fun b u z => ?_) (fun b z => ?_) fun _ => hk
  ·by_cases hb : b = a
   ·exact .inr ⟨_, _, if_pos hb⟩
   ·exact .inl (if_neg hb)
  ·by_cases hb : b = a
   ·have z' := (if_pos hb).symm.trans z
    cases z'
    subst hb
    exact ⟨ha, by rw [List.length_map]; exact hl, vs, _, rv, ha⟩
   ·have z' := (if_neg hb).symm.trans z
    cases z'
  ·by_cases hb : b = a
   ·exact hb
   ·exact absurd (if_neg hb) z
end L2
namespace L2
open PySem PySem.Spec PyProof.Rows
theorem OM {l : PySem.W.OpenLaw} {n k : Nat} {q : Program} {loose : List Str} {XP : (Str → Option Value) → Heap → Prop} {YP : World → Heap → Prop} {d : DefRec} {K : Params → PySem.W.Frag} {CX : World → hW} {sp : World → Sp} {x : Str}
  (hn : l.most = some n) (hn2 : n ≤ sizeLine) (hdf : d.params.defaults = []) (hr : bA k callerA)
  (hY : ∀ (w : World) (h : Heap), YP w h → (K w.params).In h)
  (F : ∀ (w : World) (mg : Str → Option Value) (fa : Addr) (h : Heap), (K w.params).In h → h.Ns mainGlobals mg → mg d.name = some (.ref fa) →
   ∃ fd : FuncData, (∀ (s : Shared) (u : Value), BindsTo s fd ⟨[u], []⟩ [(x, u)]) ∧
    ∀ base : Heap, (K w.params).In base → base.Ns mainGlobals mg → aS l.prog w (K w.params) mg base (CX w) k fa fd [x] (sp w))
  (hsp : ∀ (w : World) (H : Hp) (a : Addr) (ns : List Int), ns.length ≤ n → rP H → a6 (K w.params) H a (ns.map V.int) → sp w [.ref a] H (fun v _ => v = .bl true) fun _ _ _ => False)
  (hCX : ∀ (w : World) (H : Hp) (s : Shared) (e : Value) (s' : Shared), CX w [] H s (fun _ _ _ => False) e s' → False) :
  PySem.W.WalkO q loose XP YP l.row.toRowW d [] (fun f vs => PySem.call f vs) := by
 refine Att.attach_call hn hdf fun w s₀ s₁ mg mb fa o pm cd doc a vs ns G Y ho hd hcd hmg hobj hints hlen hg => ?_
 have KX := hY w _ Y
 obtain ⟨fd, hb, hF⟩ := F w mg fa _ KX G.T.g hmg
 exact OL KX G.T.g G.T.b G.T.builtins G.T.nolimit hg hobj hints (Nat.le_trans hlen hn2) hr hF hb (fun H hO hS => hsp w H a ns hlen hO hS) fun H e s' => hCX w H s₁ e s'
end L2
namespace L2
open PySem PySem.Spec PyProof.Rows
abbrev aQ : hW := fun _ _ _ _ _ _ => False
abbrev E0 : XK := fun _ _ _ => False
theorem BD {X : Cx} : mR aQ X E0 := fun _ _ _ _ _ _ _ h => h.elim
structure j4 (K : PySem.W.Frag) (x qual : Str) (st : Stmt) (f : Addr) (fd : FuncData) : Prop where
 ex : ∃ (oc : Value) (od : Option Addr) (kV doc pm : Value) (an : Option Addr) (cdv ct : Value) (osl : Array (Option Value)),
  fd = PySem.W.fnOf x qual (a4 st) (aM st) (aE st) .none kV doc pm an cdv ct ∧ K.lookup f = some ⟨oc, od, .func fd, osl⟩ ∧ PySem.W.codeIn K cdv qual = true
 kp : PySem.W.keepIn K (.ref f) = true
section
variable {P : Program} {w : World} {K : PySem.W.Frag} {mg : Str → Option Value} {base : Heap}
theorem j4.ok {x qual : Str} {st : Stmt} {f : Addr} {fd : FuncData} {N ps : List Str} {k : Nat} {sp : Sp} (F : j4 K x qual st f fd) (S : b7 N ps (aE st)) (len : ∀ vs H Q E, sp vs H Q E → vs.length = ps.length)
  (hbody : ∀ (cdv : Value) (A : Around) (outer : List Env) (s : Shared) (H : Hp) (vs : List V) (Q : VK) (E : XK), bA k (A.deeper (envOfC qual (aE st) s.heap.objs.size f cdv)) → sp vs H Q E →
   ∃ t, dX (aW aQ P w K mg base N qual (aE st) f cdv A outer s H E).nox (aM st) t ∧ t { nx := fun _ H' => Q .non H', rt := Q } (start N vs) H) : aS P w K mg base aQ (k + 1) f fd ps sp := by
 obtain ⟨oc, od, kV, doc, pm, an, cdv, ct, osl, rfl, lk, hcd⟩ := F.ex
 refine AK lk hcd S len fun A outer s H vs Q E hr hsp => ?_
 obtain ⟨t, h, q⟩ := hbody cdv A outer s H vs Q E hr hsp
 exact ⟨t, h.nox, q⟩
theorem j4.binds {x qual : Str} {st : Stmt} {f : Addr} {fd : FuncData} {ps : List Str} (F : j4 K x qual st f fd)
  (h : ∀ (kV doc pm : Value) (an : Option Addr) (cdv ct : Value) (us : List Value), us.length = ps.length → bindArgs (PySem.W.fnOf x qual (a4 st) (aM st) (aE st) .none kV doc pm an cdv ct) ⟨us, []⟩ = pure (ps.zip us)) : Binds K fd ps [] := by
 obtain ⟨oc, od, kV, doc, pm, an, cdv, ct, osl, rfl, lk, hcd⟩ := F.ex
 exact .all (h kV doc pm an cdv ct)
theorem cM {x qual : Str} {st : Stmt} {f : Addr} {oc : Value} {od an : Option Addr} {osl : Array (Option Value)} {kV doc pm cdv ct : Value} (l : K.lookup f = some ⟨oc, od, .func (PySem.W.fnOf x qual (a4 st) (aM st) (aE st) .none kV doc pm an cdv ct), osl⟩)
  (c : PySem.W.codeIn K cdv qual = true) (k : PySem.W.keepIn K (.ref f) = true) : j4 K x qual st f (PySem.W.fnOf x qual (a4 st) (aM st) (aE st) .none kV doc pm an cdv ct) := ⟨⟨oc, od, kV, doc, pm, an, cdv, ct, osl, rfl, l, c⟩, k⟩
end
theorem cN {A : Around} {k : Nat} (hr : bA k A) : A.units + 1 < cLine := Nat.lt_of_le_of_lt (Nat.add_le_add_left (by decide : 1 ≤ 64) _) hr.units
section
variable {X : Cx}
theorem pv (i : Nat) {x : Str} {pos : Pos} (hN : X.N[i]? = some x := by rfl) (hv : rB X.env.scope x := by first | exact Or.inl rfl | exact Or.inr (Or.inl rfl) | exact Or.inr (Or.inr rfl)) (hd : (x == ("__debug__" : Str)) = false := by decide)
  (hcd : (x == ("__classdict__" : Str)) = false := by decide) : PE X (.Name x pos) (zF i) := zG hN hv hd hcd
theorem BE : c8 X (.builtin "len") (fun xs H Q => ∃ a kvs, xs = [V.ref a] ∧ H a = some (.dK kvs) ∧ Q (.int kvs.length) H) := by
 intro pins s σ H xs us Q I r h
 obtain ⟨a, kvs, rfl, ha, q⟩ := h
 obtain ⟨u, rfl, ru⟩ := vals1 r
 cases ru
 exact OD I (.inl ha) fun t s' I' => ⟨.int kvs.length, H, I', ⟨t, rfl⟩, q⟩
end
theorem BF {A B : Prop} (h : B) : if false = true then A else B := by
 rw [if_neg Bool.false_ne_true]
 exact h
theorem BG {A B : Prop} (h : A) : if true = true then A else B := by
 rw [if_pos rfl]
 exact h
def BH (H H' : Hp) : Prop := ∀ b o, H b = some o → H' b = some o
theorem BH.seq {K : PySem.W.Frag} {H H' : Hp} {a : Addr} {xs : List V} (e : BH H H') (h : a6 K H a xs) : a6 K H' a xs := by
 rcases h with (h | ⟨o, h⟩) | h
 ·exact .inl (.inl (e _ _ h))
 ·exact .inl (.inr ⟨o, e _ _ h⟩)
 ·exact .inr h
section
variable {κ : Type} [DecidableEq κ]
end
end L2
set_option Elab.async false
set_option compiler.extract_closed false
set_option bootstrap.genMatcherCode false
set_option linter.all false
set_option maxRecDepth 100000
set_option maxHeartbeats 4000000
namespace L2
open PySem PySem.Spec PyProof.Rows
structure eR where
 cl : List (Str × Addr)
 s : Shared
 H : Hp
 fp : List Addr
 C : Addr
def bQ (X : Cx) (sc : Scope) (N' : List Str) (B : eR) : Cx where
 prog := X.prog
 w := X.w
 K := X.K
 mg := X.mg
 base := X.base
 A := X.A
 N := N'
 s₀ := B.s
 H₀ := B.H
 env := compEnvC sc B.cl B.C X.env
 outer := X.stack
 stack := X.stack
 ex := B.fp
 fn := fun _ => false
 calm := X.calm
 pn := []
 xe := fun _ _ => False
def dH (cells : List (Str × Addr)) : List (Str × NameKind) → List (Str × Addr) → List (Str × Addr)
 | [], acc => acc
 | (n, k) :: r, acc => if k = .free then dH cells r ((n, (cells.lookup n).getD 0) :: acc) else dH cells r acc
theorem u2 {scope : Scope} {env : Env} (h : ∀ y ∈ scope.names, y.2 = .free → ∃ c, env.cells.lookup y.1 = some c) : closureFor scope env = pure (dH env.cells scope.names []) := by
 have key : ∀ (names : List (Str × NameKind)) (acc : List (Str × Addr)), (∀ y ∈ names, y.2 = .free → ∃ c, env.cells.lookup y.1 = some c) →
   (forIn names acc fun (x : Str × NameKind) (cs : List (Str × Addr)) => (if (x.2 == NameKind.free) = true then (do let a ← cellOf env x.1; pure (ForInStep.yield ((x.1, a) :: cs))) else pure (ForInStep.yield cs) : Sem (ForInStep (List (Str × Addr))))) = (pure (dH env.cells names acc) : Sem _) := by
  intro names
  induction names with
  | nil => intro acc _; rfl
  | cons y r ih =>
   intro acc hy
   obtain ⟨n, k⟩ := y
   rw [List.forIn_cons]
   by_cases hk : k = .free
   ·subst hk
    obtain ⟨c, hc⟩ := hy (n, .free) List.mem_cons_self rfl
    have e1 : cellOf env n = (pure c : Sem Addr) := by
     unfold cellOf
     rw [show env.cells.lookup n = some c from hc]
    simp only [beq_self_eq_true, if_true, e1, pure_bind]
    rw [ih _ fun z hz => hy z (List.mem_cons_of_mem _ hz)]
    simp only [dH, if_true]
    rw [show env.cells.lookup n = some c from hc]
    rfl
   ·have hb : (k == NameKind.free) = false := by simpa using hk
    simp only [hb, Bool.false_eq_true, if_false, pure_bind]
    rw [ih _ fun z hz => hy z (List.mem_cons_of_mem _ hz)]
    simp only [dH, if_neg hk]
 have e : closureFor scope env = ((forIn scope.names [] fun (x : Str × NameKind) (cs : List (Str × Addr)) => (if (x.2 == NameKind.free) = true then (do let a ← cellOf env x.1; pure (ForInStep.yield ((x.1, a) :: cs))) else pure (ForInStep.yield cs) : Sem (ForInStep (List (Str × Addr))))) >>= fun cs => pure cs) := by
  unfold closureFor
  rfl
 rw [e, key _ _ h, pure_bind]
theorem u3 {cells : List (Str × Addr)} {x : Str} {c : Addr} : ∀ {names : List (Str × NameKind)} {acc : List (Str × Addr)}, (∀ y ∈ names, y.2 = .free → ∃ c, cells.lookup y.1 = some c) →
  (∀ x c, acc.lookup x = some c → cells.lookup x = some c) → (dH cells names acc).lookup x = some c → cells.lookup x = some c
 | [], acc, _, ha, e => ha x c e
 | (n, k) :: r, acc, hy, ha, e => by
  have hr : ∀ y ∈ r, y.2 = .free → ∃ c, cells.lookup y.1 = some c := fun z hz => hy z (List.mem_cons_of_mem _ hz)
  unfold dH at e
  by_cases hk : k = .free
  ·subst hk
   rw [if_pos rfl] at e
   obtain ⟨d, hd⟩ := hy (n, .free) List.mem_cons_self rfl
   have hd : cells.lookup n = some d := hd
   refine u3 hr (fun z b q => ?_) e
   rw [List.lookup_cons] at q
   by_cases hz : z = n
   ·subst hz
    rw [beq_self_eq_true, hd] at q
    rw [hd]; exact q
   ·have : (z == n) = false := beq_eq_false_iff_ne.mpr hz
    rw [this] at q
    exact ha z b q
  ·rw [if_neg hk] at e
   exact u3 hr ha e
theorem rQ {cells : List (Str × Addr)} {x : Str} : ∀ {names : List (Str × NameKind)} {acc : List (Str × Addr)}, ((x, NameKind.free) ∈ names ∨ ∃ c, acc.lookup x = some c) → ∃ c, (dH cells names acc).lookup x = some c
 | [], acc, h => by
  rcases h with h | h
  ·cases h
  ·exact h
 | (n, k) :: r, acc, h => by
  unfold dH
  by_cases hk : k = .free
  ·subst hk
   rw [if_pos rfl]
   refine rQ ?_
   by_cases hx : x = n
   ·subst hx
    right
    rw [List.lookup_cons, beq_self_eq_true]
    exact ⟨_, rfl⟩
   ·have hb : (x == n) = false := beq_eq_false_iff_ne.mpr hx
    rcases h with h | ⟨c, h⟩
    ·rcases List.mem_cons.mp h with e | h
     ·cases e; exact absurd rfl hx
     ·exact .inl h
    ·right
     rw [List.lookup_cons, hb]
     exact ⟨c, h⟩
  ·rw [if_neg hk]
   refine rQ ?_
   rcases h with h | h
   ·rcases List.mem_cons.mp h with e | h
    ·cases e; exact absurd rfl hk
    ·exact .inl h
   ·exact .inr h
structure j5 (N' : List Str) (sc osc : Scope) : Prop where
 kind : sc.kind = .function
 nd : N'.Nodup
 nocell : ∀ y ∈ sc.names, y.2 ≠ .cell
 loc : ∀ y ∈ sc.names, y.2 = .local → sc.names.lookup y.1 = some .local
 free : ∀ y ∈ sc.names, y.2 = .free → osc.names.lookup y.1 = some .cell ∨ osc.names.lookup y.1 = some .free
def kW (N' : List Str) (sc osc : Scope) : Bool :=
 decide (sc.kind = .function) && decide N'.Nodup && sc.names.all (fun y => decide (y.2 ≠ .cell)) && sc.names.all (fun y => decide (y.2 = .local → sc.names.lookup y.1 = some .local)) &&
  sc.names.all (fun y => decide (y.2 = .free → osc.names.lookup y.1 = some .cell ∨ osc.names.lookup y.1 = some .free))
theorem j5.of {N' : List Str} {sc osc : Scope} (h : kW N' sc osc = true) : j5 N' sc osc := by
 unfold kW at h
 simp only [Bool.and_eq_true] at h
 obtain ⟨⟨⟨⟨h1, h2⟩, h3⟩, h4⟩, h5⟩ := h
 exact ⟨of_decide_eq_true h1, of_decide_eq_true h2, fun y hy => of_decide_eq_true (List.all_eq_true.mp h3 y hy), fun y hy => of_decide_eq_true (List.all_eq_true.mp h4 y hy), fun y hy => of_decide_eq_true (List.all_eq_true.mp h5 y hy)⟩
def cmap (js : List (Option Nat)) (σ : St) : St := js.map fun o => o.bind fun j => (σ[j]?).join
def dO (N' N : List Str) (sc : Scope) : List (Option Nat) → List Str → Bool
 | [], [] => true
 | none :: js, _ :: r => dO N' N sc js r
 | some j :: js, x :: r => decide (N[j]? = some x) && decide (sc.names.lookup x = some .free) && dO N' N sc js r
 | _, _ => false
theorem u5 {N' N : List Str} {sc : Scope} : ∀ {js : List (Option Nat)} {r : List Str}, dO N' N sc js r = true → js.length = r.length
 | [], [], _ => rfl
 | none :: js, _ :: r, h => by
  have := u5 (js := js) (r := r) h
  simp [this]
 | some j :: js, x :: r, h => by
  unfold dO at h
  rw [Bool.and_eq_true] at h
  have := u5 (js := js) (r := r) h.2
  simp [this]
 | [], _ :: _, h => by simp [dO] at h
 | none :: _, [], h => by simp [dO] at h
 | some _ :: _, [], h => by simp [dO] at h
theorem u6 {N' N : List Str} {sc : Scope} : ∀ {js : List (Option Nat)} {r : List Str} {i j : Nat} {x : Str}, dO N' N sc js r = true → js[i]? = some (some j) → r[i]? = some x → N[j]? = some x ∧ sc.names.lookup x = some .free
 | [], [], i, j, x, _, e, _ => by simp at e
 | none :: js, _ :: r, 0, j, x, h, e, _ => by simp at e
 | none :: js, _ :: r, i + 1, j, x, h, e, e2 => u6 (js := js) (r := r) (i := i) h (by simpa using e) (by simpa using e2)
 | some k :: js, y :: r, 0, j, x, h, e, e2 => by
  unfold dO at h
  rw [Bool.and_eq_true, Bool.and_eq_true] at h
  simp at e e2
  subst e; subst e2
  exact ⟨of_decide_eq_true h.1.1, of_decide_eq_true h.1.2⟩
 | some k :: js, y :: r, i + 1, j, x, h, e, e2 => by
  unfold dO at h
  rw [Bool.and_eq_true, Bool.and_eq_true] at h
  exact u6 (js := js) (r := r) (i := i) h.2 (by simpa using e) (by simpa using e2)
 | [], _ :: _, _, _, _, h, _, _ => by simp [dO] at h
 | none :: _, [], _, _, _, h, _, _ => by simp [dO] at h
 | some _ :: _, [], _, _, _, h, _, _ => by simp [dO] at h
theorem u7 {env : Env} {x : Str} : ∀ {names : List (Str × NameKind)}, (∀ y ∈ names, y.2 ≠ .cell) →
  (((names.map fun (n, k) => if (k == NameKind.free && env.scope.kind == .function && env.kindOf n == some .cell) then (n, NameKind.cell) else (n, k)).lookup x = some .cell ∨
    (names.map fun (n, k) => if (k == NameKind.free && env.scope.kind == .function && env.kindOf n == some .cell) then (n, NameKind.cell) else (n, k)).lookup x = some .free) ↔ names.lookup x = some .free)
 | [], _ => by simp
 | (n, k) :: r, h => by
  have ih := @u7 env x r fun y hy => h y (List.mem_cons_of_mem _ hy)
  have hk : k ≠ .cell := h (n, k) List.mem_cons_self
  rw [List.map_cons]
  dsimp only
  by_cases hx : (x == n) = true
  ·by_cases hc : (k == NameKind.free && env.scope.kind == .function && env.kindOf n == some .cell) = true
   ·rw [if_pos hc]
    simp only [List.lookup_cons, hx]
    have : k = .free := by
     rw [Bool.and_eq_true, Bool.and_eq_true] at hc
     exact beq_iff_eq.mp hc.1.1
    simp [this]
   ·rw [if_neg hc]
    simp only [List.lookup_cons, hx]
    constructor
    ·rintro (e | e)
     ·cases e; exact absurd rfl hk
     ·exact e
    ·intro e; exact .inr e
  ·have hx : (x == n) = false := by simpa using hx
   by_cases hc : (k == NameKind.free && env.scope.kind == .function && env.kindOf n == some .cell) = true
   ·rw [if_pos hc]
    simp only [List.lookup_cons, hx]
    exact ih
   ·rw [if_neg hc]
    simp only [List.lookup_cons, hx]
    exact ih
theorem u9 {x : Str} {k : NameKind} : ∀ {names : List (Str × NameKind)}, names.lookup x = some k → (x, k) ∈ names := fun h => PySem.mem_of_lookup h
section
variable {X : Cx} {sc : Scope} {N' : List Str} {js : List (Option Nat)} {pins : List (Addr × Obj)} {σ : St} {H H1 : Hp} {s : Shared} {fp : List Addr} {C : Addr}
theorem rR (S : j5 N' sc X.env.scope) (I : Inv X pins σ H s) : ∀ y ∈ sc.names, y.2 = .free → ∃ c, X.env.cells.lookup y.1 = some c := fun y hy hk =>
 I.ok.has y.1 (S.free y hy hk)
theorem BI (S : j5 N' sc X.env.scope) (hj : dO N' X.N sc js N' = true) (I : Inv X pins σ H s) (hf : ∀ b ∈ fp, fQ X pins H b) (ho : ∀ b ∈ fp, ∃ o, s.heap.get? b = some o)
  {h1 : Heap} {tk : Nat} {m : Str → Option Value} (hC : s.heap.objs.size ≤ C) (keep : ∀ b o, s.heap.get? b = some o → h1.get? b = some o) (un : Un (bP X.stack) fp H H1 s.heap h1) (hok : bZ X.prog X.w H1 h1) (hn : h1.Ns C m) (hfree : H1 C = none) :
  Inv (bQ X sc N' ⟨dH X.env.cells sc.names [], s, H, fp, C⟩) [] (cmap js σ) H1 { s with heap := h1, toks := tk } := by
 have cs := rR S I
 have sub : ∀ x c, (dH X.env.cells sc.names []).lookup x = some c → X.env.cells.lookup x = some c := fun x c e => u3 cs (fun _ _ z => by simp at z) e
 refine ⟨⟨I.ok.mod, S.kind, I.ok.glob, I.ok.blt, hC, fun x y c e1 e2 => I.ok.inj x y c (sub x c e1) (sub y c e2), fun x hx => ?_, fun _ _ h _ => absurd (show false = true from h) Bool.false_ne_true, I.ok.hd, I.ok.frames, .inl rfl, fun b hb => ?_, I.bs, Nat.le_trans I.ok.bsz I.sz, fun b o e hb => ?_, fun b hb hb' => ?_, I.stack, I.stkFree⟩,
  rfl, I.bare, un, ⟨m, hn, fun i x v e1 e2 e3 => ?_⟩, fun x c e => ?_, hfree, fun x c e => ?_, fun p hp => absurd (show p ∈ ([] : List (Addr × Obj)) from hp) (by simp), hok, ?_⟩
 ·have q : sc.names.lookup x = some .free := (u7 (env := X.env) S.nocell).mp hx
  exact rQ (.inl (u9 q))
 ·obtain ⟨o, e⟩ := ho b hb
  exact ⟨Nat.ne_of_lt (Nat.lt_of_lt_of_le (Heap.lt_size e) hC), fun x c q => (hf b hb).2.2.2.2.1 x c (sub x c q)⟩
 ·rcases (hf b hb).2.2.2.1 with z | z
  ·exact I.ok.noex b o e z
  ·exact absurd (Nat.lt_of_lt_of_le (Heap.lt_size e) (Nat.le_trans I.ok.bsz z)) (Nat.lt_irrefl _)
 ·rcases List.mem_cons.mp (I.stkSub b hb') with z | z
  ·exact (hf b hb).2.1 z
  ·exact (hf b hb).2.2.1 z
 ·-- the names that are handed in
  have e1 : N'[i]? = some x := e1
  unfold cmap at e2
  rw [List.getElem?_map] at e2
  cases hji : js[i]? with
  | none => rw [hji] at e2; cases e2
  | some o =>
   rw [hji] at e2
   cases o with
   | none => cases e2
   | some j =>
    obtain ⟨a1, a2⟩ := u6 hj hji e1
    have e2 : (σ[j]?).join = some v := by simpa using e2
    have e2' : σ[j]? = some (some v) := by
     cases q : σ[j]? with
     | none => rw [q] at e2; cases e2
     | some z => rw [q] at e2; simpa using e2
    obtain ⟨m0, hn0, hl0⟩ := I.loc
    have kx := S.free _ (u9 a2) rfl
    obtain ⟨u, r, l⟩ := hl0 j x v a1 e2' (kx.elim (fun z => .inr (.inl z)) fun z => .inr (.inr z))
    refine ⟨u, r, .inr ⟨(u7 (env := X.env) S.nocell).mpr a2, ?_⟩⟩
    rcases l with ⟨k, _⟩ | ⟨_, c, ec, hc⟩
    ·have k : X.env.scope.names.lookup x = some .local := k
     rcases kx with z | z
     ·rw [k] at z; cases z
     ·rw [k] at z; cases z
    ·obtain ⟨c', ec'⟩ := rQ (cells := X.env.cells) (acc := []) (.inl (u9 a2))
     have : c' = c := Option.some.inj ((sub x c' ec').symm.trans ec)
     subst this
     obtain ⟨oc, hoc, hd⟩ := hc
     exact ⟨c', ec', oc, keep _ _ hoc, hd⟩
 ·obtain ⟨v, oc, hoc, hd⟩ := I.cell x c (sub x c e)
  exact ⟨v, oc, keep _ _ hoc, hd⟩
 ·obtain ⟨v, oc, hoc, hd⟩ := I.cell x c (sub x c e)
  have nfp : c ∉ fp := fun z => (hf c z).2.2.2.2.1 x c (sub x c e) rfl
  exact un.free c oc hoc (I.freeC x c (sub x c e)) nfp
 ·show (cmap js σ).length = N'.length
  unfold cmap
  rw [List.length_map]
  exact u5 hj
end
section
variable {prog : Program} {w : World} {A : Around} {R : Result → Shared → Prop} {s : Shared}
theorem ON {elt target iter : Expr} {ifs : List Expr} {scope : Scope} {pos : Pos} {it acc : Value} {env : Env} (I : Nat → Shared → Prop)
  (turn : ∀ n s, I n s → wpAny (model prog w) A (pyNext it) (fun r s₁ => match r with
   | none => R (.ok .next) s₁
   | some v => wpAny (model prog w) A (letOwnedTupleGo target it v) (fun _ s₀ => wpAny (model prog w) A (assign target env v) (fun _ s₂ =>
     wpAny (model prog w) A (forIn ifs true fun c r => if r = true then do let ok ← isTrue c env (eval c env); pure (ForInStep.yield ok) else pure (ForInStep.yield r)) (fun ok s₃ =>
      if ok = true then wpAny (model prog w) A (eval elt env) (fun x s₄ =>
       wpAny (model prog w) A (call (.builtin "list.append") [acc, x]) (fun _ s₅ => ∃ m, m < n ∧ I m s₅) (fun _ _ => False) s₄) (fun _ _ => False) s₃
      else ∃ m, m < n ∧ I m s₃) (fun _ _ => False) s₂) (fun _ _ => False) s₀) (fun _ _ => False) s₁) (fun _ _ => False) s)
  (n : Nat) (h : I n s) :
  codeAny (model prog w) A (.compLoop (.ListComp elt [⟨target, iter, ifs, 0⟩] scope pos) 0 it acc env) R s := by
 refine codeAny_loop rfl I (fun n s hI => ?_) n h
 show wpAny _ A ((compTurn (.ListComp elt [⟨target, iter, ifs, 0⟩] scope pos) 0 it acc env).onRaise (fun x => do noteFrame x env; theTreesLotGoes x)) _ _ s
 refine wpAny_noted ?_
 rw [compTurn_list]
 refine wpAny_bind (wpAny_standAt (wpAny_bind (wpAny_mono (turn n s hI) (fun r s₁ h₁ => ?_) fun _ _ h' => h'.elim)))
 cases r with
 | none => exact wpAny_pure h₁
 | some v =>
  refine wpAny_bind (wpAny_mono h₁ (fun _ s₀ h₀ => ?_) fun _ _ h' => h'.elim)
  refine wpAny_bind (wpAny_mono h₀ (fun _ s₂ h₂ => wpAny_bind (wpAny_mono h₂ (fun ok s₃ h₃ => ?_) fun _ _ h' => h'.elim)) fun _ _ h' => h'.elim)
  cases ok with
  | false => exact wpAny_pure ⟨rfl, h₃⟩
  | true =>
   exact wpAny_bind (wpAny_bind (wpAny_mono h₃ (fun x s₄ h₄ => wpAny_bind (wpAny_mono h₄ (fun _ s₅ h₅ => wpAny_pure (wpAny_pure ⟨rfl, h₅⟩)) fun _ _ h' => h'.elim)) fun _ _ h' => h'.elim))
end
def hZ (X : Cx) (ifs : List Expr) (t : TT) : Prop :=
 ∀ (pins : List (Addr × Obj)) (s : Shared) (σ : St) (H : Hp) (Q : Bool → Hp → Prop), Inv X pins σ H s → t σ H Q →
  wpAny (model X.prog X.w) X.A (forIn ifs true fun c r => if r = true then do let ok ← isTrue c X.env (eval c X.env); pure (ForInStep.yield ok) else pure (ForInStep.yield r)) (TP X pins σ Q) X.xe s
def OO : TT := fun _ H Q => Q true H
theorem OP {X : Cx} : hZ X [] OO := fun _ _ _ H _ I h => wpAny_tests_nil ⟨H, I, h⟩
def rS (J : It) (g : TG) (tt : TT) (te : TE) (p : Addr) (σ₀ : St) (H1 : Hp) (Q : VK) : Prop :=
 ∃ W : Nat → Nat → St → List V → Hp → Prop, (∃ m, W 0 m σ₀ [] (aU H1 p (.lst []))) ∧ ∀ i m σ' acc H, W i m σ' acc H →
  (J.stop i H ∧ Q (.ref p) H) ∨ (J.go i H ∧ ∃ N : St → List V → Hp → Prop, (∀ σ2 acc' H', N σ2 acc' H' → ∃ m', m' < m ∧ W (i + 1) m' σ2 acc' H') ∧ ∀ x H', J.yld i H x H' → g x σ' H' fun σ2 H2 => tt σ2 H2 fun b H3 =>
   if b = true then te σ2 H3 fun y H4 => H4 p = some (.lst acc) ∧ acc.length < sizeLine ∧ N σ2 (acc ++ [y]) (aU H4 p (.lst (acc ++ [y])))
   else N σ2 acc H3)
def oG (wi : TI) (g : eR → TG) (tt : eR → TT) (te : eR → TE) (js : List (Option Nat)) : TE := fun σ H Q => wi σ H fun J H1 => ∀ p, H1 p = none → ∀ B : eR, rS J (g B) (tt B) (te B) p (cmap js σ) H1 Q
section
variable {X : Cx} {sc : Scope} {N' : List Str} {js : List (Option Nat)} {tg iter elt : Expr} {ifs : List Expr} {pos : Pos} {wi : TI} {g : eR → TG} {tt : eR → TT} {te : eR → TE}
theorem BJ (S : j5 N' sc X.env.scope) (hj : dO N' X.N sc js N' = true) (hc : X.calm = true)
  (hg : ∀ B, PG (bQ X sc N' B) tg (g B)) (ht : ∀ B, hZ (bQ X sc N' B) ifs (tt B)) (he : ∀ B, PE (bQ X sc N' B) elt (te B))
  {pins : List (Addr × Obj)} {s : Shared} {σ : St} {J : It} {H : Hp} {it : Addr} {fp : List Addr} {tn : Nat → Heap → Prop} (I : Inv X pins σ H s) (T : kQ X.prog X.w X.K tg J fp it tn) (st : tn 0 s.heap) (hf : ∀ b ∈ fp, fQ X pins H b)
  {Q : VK} (hw : ∀ p, H p = none → ∀ B : eR, rS J (g B) (tt B) (te B) p (cmap js σ) H Q) {E : Value → Shared → Prop} {RR : Value → Addr → Result → Shared → Prop}
  (hRR : ∀ p C H' s' m, Inv X pins σ H' s' → fQ X pins H' C → s'.heap.Ns C m → Q (.ref p) H' → RR (.ref p) C (.ok .next) s') :
  wpAny (model X.prog X.w) X.A (newList []) (fun acc s₃ => wpAny (model X.prog X.w) X.A (newFunctionEnv sc X.env.globals (dH X.env.cells sc.names []) [] X.env.qual none .none (some X.env)) (fun cenv s₄ =>
   codeAny (model X.prog X.w) X.A (.compStart (.ListComp elt [⟨tg, iter, ifs, 0⟩] sc pos) 0 (.ref it) acc { cenv with scope := relabel sc X.env }) (RR acc cenv.locals) s₄) E s₃) E s := by
 refine wpAny_newObj_type (wpAny_newFunctionEnv S.nocell (by intro y hy; simp at hy) (fun h₁ hns₁ hsb₁ => ?_) S.kind)
 dsimp only at hns₁ hsb₁ ⊢
 generalize hH2 : s.heap.push { cls := .type "list", dict := none, data := .seq ([] : List Value).toArray } = H2 at hns₁ hsb₁ ⊢
 have hC : H2.objs.size = s.heap.objs.size + 1 := by rw [← hH2, Heap.size_push]
 have hDC : s.heap.objs.size ≠ H2.objs.size := by rw [hC]; exact Nat.ne_of_lt (Nat.lt_succ_self _)
 have hCle : s.heap.objs.size ≤ H2.objs.size := by rw [hC]; exact Nat.le_succ _
 have below : ∀ b, b < s.heap.objs.size → b ≠ H2.objs.size := fun b hb => by rw [hC]; exact Nat.ne_of_lt (Nat.lt_succ_of_lt hb)
 have old : ∀ b o, s.heap.get? b = some o → h₁.get? b = some o := fun b o e => hsb₁.extBut b o (below b (Heap.lt_size e)) (Heap.get?_push_of_some _ (hH2 ▸ Heap.get?_push_of_some _ e))
 have hacc : h₁.get? s.heap.objs.size = some { cls := .type "list", dict := none, data := .seq ([] : List Value).toArray } := hsb₁.extBut _ _ hDC (Heap.get?_push_of_some _ (hH2 ▸ Heap.get?_push_size _ rfl))
 have hp0 : H s.heap.objs.size = none := I.hok.fresh (Nat.le_refl _)
 have newO : cL X.prog X.w (aU H s.heap.objs.size (.lst [])) h₁ s.heap.objs.size (.lst []) := ⟨Nat.zero_le _, [], _, .nil, hacc⟩
 have hok1 : bZ X.prog X.w (aU H s.heap.objs.size (.lst [])) h₁ := I.hok.laid old (Nat.le_refl _) newO
 have un1 : Un (bP X.stack) fp H (aU H s.heap.objs.size (.lst [])) s.heap h₁ := Un.laid old (Nat.le_refl _) hp0
 have fC : (aU H s.heap.objs.size (.lst [])) H2.objs.size = none := by rw [bU (Ne.symm hDC)]; exact I.hok.fresh hCle
 have IB := BI (tk := s.toks + ([] : List (Str × Value)).length) S hj I hf (fun b hb => let ⟨o, e, _⟩ := T.obj 0 _ st b hb; ⟨o, e⟩) hCle old un1 hok1 hns₁ fC
 obtain ⟨W, ⟨m0, w0⟩, turn⟩ := hw _ hp0 ⟨dH X.env.cells sc.names [], s, H, fp, H2.objs.size⟩
 have st1 : tn 0 h₁ := T.keep _ _ _ st fun b _ o e => old b o e
 have loop : ∀ s₃ : Shared, s₃ = { s with heap := h₁, toks := s.toks + ([] : List (Str × Value)).length } →
   codeAny (model X.prog X.w) X.A (.compLoop (.ListComp elt [⟨tg, iter, ifs, 0⟩] sc pos) 0 (.ref it) (.ref s.heap.objs.size) (compEnvC sc (dH X.env.cells sc.names []) H2.objs.size X.env))
    (RR (.ref s.heap.objs.size) H2.objs.size) s₃ := by
  rintro s₃ rfl
  generalize hB : (⟨dH X.env.cells sc.names [], s, H, fp, H2.objs.size⟩ : eR) = B at turn w0 IB
  have eB : compEnvC sc (dH X.env.cells sc.names []) H2.objs.size X.env = (bQ X sc N' B).env := by subst hB; rfl
  have exB : (bQ X sc N' B).ex = fp := by subst hB; rfl
  rw [eB]
  have stat : ∀ {σ' : St} {H' : Hp} {s' : Shared}, Inv (bQ X sc N' B) [] σ' H' s' → (∀ b ∈ fp, H' b = none) → ∀ b ∈ fp, fQ (bQ X sc N' B) [] H' b := fun {σ' H' s'} J' hn b hb => by
   refine ⟨hn b hb, (J'.ok.exf b (by rw [exB]; exact hb)).1, J'.ok.exfs b (by rw [exB]; exact hb), .inl (by rw [exB]; exact hb), (J'.ok.exf b (by rw [exB]; exact hb)).2, fun p hp => absurd (show p ∈ ([] : List (Addr × Obj)) from hp) (by simp)⟩
  have fp0 : ∀ b ∈ fp, (aU H s.heap.objs.size (.lst [])) b = none := fun b hb => by
   obtain ⟨o, e, _⟩ := T.obj 0 _ st b hb
   rw [bU (Nat.ne_of_lt (Heap.lt_size e))]
   exact (hf b hb).1
  refine ON (fun n s' => ∃ i σ' acc H', Inv (bQ X sc N' B) [] σ' H' s' ∧ tn i s'.heap ∧ (∀ b ∈ fp, H' b = none) ∧ W i n σ' acc H') ?_ m0 ⟨0, _, [], _, IB, st1, fp0, w0⟩
  rintro n s3 ⟨i, σ3, acc, H3, I3, st3, fr3, w3⟩
  rcases turn i n σ3 acc H3 w3 with ⟨stop, qn⟩ | ⟨go, N, hN, step⟩
  ·refine aV (T.done (bQ X sc N' B) rfl rfl rfl hc i [] s3 σ3 H3 (fun _ _ => False) I3 (stat I3 fr3) st3 stop) fun r s4 ⟨hr, I4⟩ => ?_
   subst hr
   obtain ⟨m4, hn4, _⟩ := I4.loc
   have u4 : Un (bP X.stack) fp H H3 s.heap s4.heap := by have := I4.base; subst hB; exact this
   have o4 : s4.os = s.os := by have := I4.os; subst hB; exact this
   have c4 : (bQ X sc N' B).env.locals = H2.objs.size := by subst hB; rfl
   have hIX : Inv X pins σ H3 s4 := I.call' (ch := fp) o4 u4 I4.hok I4.bare fun b hb => ⟨(hf b hb).2.2.2.1, (hf b hb).2.1, (hf b hb).2.2.2.2.1, (hf b hb).2.2.2.2.2⟩
   exact hRR _ _ H3 s4 m4 hIX (I.fpOk hCle (by rw [← c4]; exact I4.free)) (by rw [← c4]; exact hn4) qn
  ·refine aV (T.item (bQ X sc N' B) rfl rfl rfl hc i [] s3 σ3 H3 (fun _ _ => False) I3 (stat I3 fr3) st3 go) fun r s4 ⟨u, hr, h4⟩ => ?_
   subst hr
   refine aV h4 fun _ s5 ⟨x, H5, I5, r5, y5, st5, fr5⟩ => ?_
   have I5' := I5.pinned (stat I5 fr5) (T.obj _ _ st5)
   refine aV (hg B _ s5 σ3 H5 x u _ I5' r5 (step x H5 y5)) fun _ s6 ⟨σ6, H6, I6, q6⟩ => ?_
   refine aV (ht B _ s6 σ6 H6 _ I6 q6) fun ok s7 ⟨H7, I7, q7⟩ => ?_
   have again : ∀ {H8 : Hp} {s8 : Shared} {acc' : List V}, Inv (bQ X sc N' B) ([] ++ mP fp s5.heap) σ6 H8 s8 → (∃ m', m' < n ∧ W (i + 1) m' σ6 acc' H8) → ∃ m, m < n ∧ ∃ i σ' acc H', Inv (bQ X sc N' B) [] σ' H' s8 ∧ tn i s8.heap ∧ (∀ b ∈ fp, H' b = none) ∧ W i m σ' acc H' :=
    fun {H8 s8 acc'} I8 ⟨m', hm, w8⟩ => by
     refine ⟨m', hm, i + 1, σ6, acc', H8, I8.unpinned, T.keep _ _ _ st5 fun b hb o e => (I8.pin (b, o) (List.mem_append_right _ (List.mem_append_right _ (mQ hb e)))).1, fun b hb => ?_, w8⟩
     obtain ⟨o, e, d⟩ := T.obj _ _ st5 b hb
     exact (I8.pin (b, o) (List.mem_append_right _ (List.mem_append_right _ (mQ hb e)))).2.1
   cases ok with
   | false =>
    rw [if_neg Bool.false_ne_true] at q7
    rw [if_neg Bool.false_ne_true]
    exact again I7 (hN _ _ _ q7)
   | true =>
    rw [if_pos rfl] at q7
    rw [if_pos rfl]
    refine aV (he B _ s7 σ6 H7 _ I7 q7) fun y s8 ⟨z, H8, I8, r8, hp8, hl8, q8⟩ => ?_
    exact aV (u1 _ s8 σ6 H8 (.ref s.heap.objs.size) [z] (.ref s.heap.objs.size) [y] (fun _ H9 => N σ6 (acc ++ [z]) H9) I8 rfl (.cons r8 .nil) ⟨_, acc, z, rfl, rfl, hp8, hl8, q8⟩) fun _ s9 ⟨_, H9, I9, _, q9⟩ => again I9 (hN _ _ _ q9)
 exact codeAny_compStart_list (loop _ rfl) (T.self _ 0 _ _ _ st1 (loop _ rfl))
theorem OQ (N' : List Str) (js : List (Option Nat)) (hi : PI X tg iter wi)
  (hg : ∀ B, PG (bQ X sc N' B) tg (g B)) (ht : ∀ B, hZ (bQ X sc N' B) ifs (tt B)) (he : ∀ B, PE (bQ X sc N' B) elt (te B))
  (S0 : kW N' sc X.env.scope = true := by kernel_rfl) (hj : dO N' X.N sc js N' = true := by kernel_rfl) (hc : X.calm = true := by rfl) (hs : ∀ x, foldedSetIterable iter X.env x = pure x := by intro _; rfl) : PE X (.ListComp elt [⟨tg, iter, ifs, 0⟩] sc pos) (oG wi g tt te js) := by
 intro pins s σ H Q I h
 have S := j5.of S0
 rw [eval_ListComp]
 refine wpAny_comprehension_free (use := none) rfl hs (u2 (rR S I)) S.kind S.loc (aV (hi pins s σ H _ I h) fun xv s₁ h₁ => aV h₁ fun itv s₂ h₂ => ?_)
 obtain ⟨it, fp, tn, J, H2, e, I2, T, st2, f2, hw⟩ := h₂
 subst e
 refine BJ (RR := fun acc C => compPost (model X.prog X.w) X.A X.xe none (EP X pins σ Q) acc C) S hj hc hg ht he I2 T st2 f2 hw ?_
 intro p C H' s' m I' fC hn q
 refine ⟨m, hn, fun h' hs' => ⟨.ref p, H', ?_, rfl, q⟩⟩
 exact I'.turned (t' := s'.toks) (fun b o hb e => (hs'.2 b hb).trans e) fC.1 fC.2.1 fC.2.2.2.1 fC.2.2.2.2.1 fC.2.2.2.2.2
theorem OR {i : Nat} {x : Str} {px spos : Pos} (hN : X.N.Nodup) (hi0 : X.N[i]? = some x) (hx : Loc X.env.scope x) (N' : List Str) (js : List (Option Nat)) (hi : PI X tg iter wi)
  (hg : ∀ B, PG (bQ X sc N' B) tg (g B)) (ht : ∀ B, hZ (bQ X sc N' B) ifs (tt B)) (he : ∀ B, PE (bQ X sc N' B) elt (te B))
  (S0 : kW N' sc X.env.scope = true := by kernel_rfl) (hj : dO N' X.N sc js N' = true := by kernel_rfl) (hc : X.calm = true := by rfl) (hsw : swapsWith (.ListComp elt [⟨tg, iter, ifs, 0⟩] sc pos) (some (.Name x px)) spos.line X.env = pure true := by rfl)
  (hf : X.fn x = true ∨ X.env.scope.names.lookup x = some .local := by first | exact .inl rfl | exact .inr rfl | assumption)
  (hs : ∀ x, foldedSetIterable iter X.env x = pure x := by intro _; rfl) : PS X (.Assign [.Name x px] (.ListComp elt [⟨tg, iter, ifs, 0⟩] sc pos) spos) (rF (oG wi g tt te js) (uI i)) := by
 intro pins s σ H D I h
 have S := j5.of S0
 rw [exec_Assign_Name_used _ _ _ _ hsw]
 refine wpAny_bind (wpAny_standAt (wpAny_bind ?_))
 show wpAny _ X.A (do let _ ← comprehension (.ListComp elt [⟨tg, iter, ifs, 0⟩] sc pos) sc X.env _ (newList []) false (eval iter X.env) (some (assign (.Name x px) X.env))) _ _ s
 refine wpAny_bind (wpAny_mono (wpAny_comprehension_free (use := some (assign (.Name x px) X.env)) (Q := fun _ s' => SP X pins D .next s') rfl hs (u2 (rR S I)) S.kind S.loc
  (aV (hi pins s σ H _ I h) fun xv s₁ h₁ => aV h₁ fun itv s₂ h₂ => ?_)) (fun _ s' hq => wpAny_pure (wpAny_pure hq)) fun _ _ e => e)
 obtain ⟨it, fp, tn, J, H2, e, I2, T, st2, f2, hw⟩ := h₂
 subst e
 refine BJ (RR := fun acc C => compPost (model X.prog X.w) X.A X.xe (some (assign (.Name x px) X.env)) (fun _ s' => SP X pins D .next s') acc C) S hj hc hg ht he I2 T st2 f2 hw ?_
 intro p C H' s' m I' fC hn q
 show wpAny _ X.A (assign (.Name x px) X.env (.ref p)) _ _ _
 refine wpAny_assign_Name (zE I' hN hi0 hx (v := .ref p) rfl (fun s'' I'' ⟨a, sb, ha⟩ => ?_) hf)
 have hCa : C ≠ a := by
  rcases ha with e | e
  ·rw [e]; exact fC.2.1
  ·exact fun z => fC.2.2.2.2.1 x a e z.symm
 refine ⟨m, hn.sameBut sb hCa, fun h' hs' => ⟨_, H', ?_, q⟩⟩
 exact I''.turned (t' := s''.toks) (fun b o hb e => (hs'.2 b hb).trans e) fC.1 fC.2.1 fC.2.2.2.1 fC.2.2.2.2.1 fC.2.2.2.2.2
end
section
variable {g : TG} {tt : TT} {te : TE} {p : Addr} {σ₀ : St} {H1 : Hp} {Q : VK}
theorem BK {J : It} (n : Nat) (Pv : Nat → St → List V → Hp → Prop) (h0 : Pv 0 σ₀ [] (aU H1 p (.lst []))) (hd : ∀ σ acc H, Pv n σ acc H → J.stop n H ∧ Q (.ref p) H)
  (hs : ∀ i σ acc H, i < n → Pv i σ acc H → J.go i H ∧ ∀ x H', J.yld i H x H' → g x σ H' fun σ2 H2 => tt σ2 H2 fun b H3 =>
   if b = true then te σ2 H3 fun y H4 => H4 p = some (.lst acc) ∧ acc.length < sizeLine ∧ Pv (i + 1) σ2 (acc ++ [y]) (aU H4 p (.lst (acc ++ [y]))) else Pv (i + 1) σ2 acc H3) : rS J g tt te p σ₀ H1 Q := by
 refine ⟨fun i m σ acc H => m = n - i ∧ i ≤ n ∧ Pv i σ acc H, ⟨n, by simp, Nat.zero_le _, h0⟩, ?_⟩
 rintro i m σ acc H ⟨rfl, hi, q⟩
 by_cases hlt : i < n
 ·obtain ⟨hg, hy⟩ := hs i σ acc H hlt q
  exact .inr ⟨hg, Pv (i + 1), fun σ2 acc' H' q' => ⟨n - (i + 1), by omega, rfl, hlt, q'⟩, hy⟩
 ·have e : i = n := by omega
  subst e
  exact .inl (hd σ acc H q)
end
end L2
set_option Elab.async false
set_option compiler.extract_closed false
set_option bootstrap.genMatcherCode false
set_option linter.all false
set_option maxRecDepth 100000
set_option maxHeartbeats 4000000
namespace L2
open PySem PySem.Spec PyProof.Rows
section
variable {X : Cx}
theorem BL {i : Int} (h : i.natAbs < 2 ^ 4096) : Builtin.Int.intBits i ≤ 2 ^ 20 := by
 unfold Builtin.Int.intBits
 split
 ·exact Nat.zero_le _
 ·rename_i h0
  have hn : i.natAbs ≠ 0 := by
   intro z
   have : i = 0 := Int.natAbs_eq_zero.mp z
   rw [this] at h0
   exact h0 rfl
  have : i.natAbs.log2 < 4096 := (Nat.log2_lt hn).mpr h
  have e : (2 : Nat) ^ 20 = 1048576 := by decide
  omega
def oH (i j : Int) : Prop := i.natAbs < 2 ^ 4096 ∧ j.natAbs < 2 ^ 4096
theorem OS : bC X (binaryOp .Mult) (rI oH fun i j => .int (i * j)) := n9 fun _ _ _ _ _ _ _ hc q => mul_int q (IntMulOk.of_bits (BL hc.1) (BL hc.2))
def rT (i j : Int) : Prop := 0 < j ∧ j < 2 ^ 4096
theorem OT : bC X (binaryOp .FloorDiv) (rI rT fun i j => .int (i / j)) := n9 fun i j _ _ _ _ _ hc q => by
 refine floordiv_int (by have := hc.1; omega) ?_ (.inl (PyProof.noPylong_of_log2 ?_))
 ·rw [Int.fdiv_eq_ediv_of_nonneg _ (Int.le_of_lt hc.1)]; exact q
 ·have h0 : j.natAbs ≠ 0 := by have := hc.1; omega
  have h1 : j.natAbs < 2 ^ 4096 := by
   have a := hc.1
   have b := hc.2
   omega
  have := (Nat.log2_lt h0).mpr h1
  omega
theorem OU : bC X (binaryOp .Mult) (fun x y H Q => ∃ z n, x = .str z ∧ y = .int n ∧ z.length ≤ 16 ∧ -(2 ^ 63) ≤ n ∧ n ≤ 1048576 ∧ Q (.str (Txt.mul z n)) H) := by
 intro pins s σ H x y v u Q I rx ry h
 obtain ⟨z, n, rfl, rfl, h1, h2, h3, q⟩ := h
 obtain ⟨t, rfl⟩ := rx
 obtain ⟨t', rfl⟩ := ry
 exact SB.mul (mulOk_of 16 1048576 h1 h3 h2 (by decide) (by decide)) fun t' k => ⟨.str _, H, I.tok _, ⟨_, rfl⟩, q⟩
theorem OV : fR X "str.partition" (fun x vs H Q => ∃ z y, x = .str z ∧ vs = [.str y] ∧ (y.length == 0) = false ∧ z.length ≤ sizeLine ∧
  ∀ p, H p = none → Q (.ref p) (aU H p (.tup [.str (Txt.partition z y).1, .str (Txt.partition z y).2.1, .str (Txt.partition z y).2.2]))) := by
 intro pins s σ H x xs v us Q I rx rv h
 obtain ⟨z, y, rfl, rfl, hy, hz, q⟩ := h
 obtain ⟨t, rfl⟩ := rx
 obtain ⟨u, rfl, ru⟩ := rv.one
 obtain ⟨t', rfl⟩ := ru
 refine call_meets F.slot_str_partition (typeIs_str _ _ _) F.entry_str_partition (F.args_str_partition_2 _ _) (meets_str_partition z y t t' hy hz) ?_
 have q' := q s.heap.objs.size (I.hok.fresh (Nat.le_refl _))
 have fin : ∀ (a b c : Str) (ta tb tc : Tok) (tk : Nat), Q (.ref s.heap.objs.size) (aU H s.heap.objs.size (.tup [.str a, .str b, .str c])) →
   EP X pins σ Q (.ref s.heap.objs.size) { s with toks := tk, heap := s.heap.push { cls := .type "tuple", data := .seq [.str a ta, .str b tb, .str c tc].toArray } } := fun a b c ta tb tc tk qq =>
  ⟨.ref s.heap.objs.size, _, I.laid (o := .tup [.str a, .str b, .str c]) (t' := tk) (fun b o e => Heap.get?_push_of_some _ e) (Nat.le_refl _)
   ⟨by show 3 ≤ sizeLine; decide, [.str a ta, .str b tb, .str c tc], .cons ⟨_, rfl⟩ (.cons ⟨_, rfl⟩ (.cons ⟨_, rfl⟩ .nil)), ⟨_, Heap.get?_push_size _ rfl, rfl, _, rfl⟩⟩, rfl, qq⟩
 unfold Txt.partition at q'
 revert q'
 cases Builtin.Str.occurrences z y 0 z.length 1 with
 | nil => intro q'; exact fin _ _ _ _ _ _ _ q'
 | cons i r => intro q'; exact fin _ _ _ _ _ _ _ q'
theorem all_range {bs : List Bool} : (List.range bs.length).all (fun i => bs.getD i false) = bs.all id := by
 induction bs with
 | nil => rfl
 | cons b r ih =>
  rw [List.length_cons, List.range_succ_eq_map, List.all_cons, List.all_map, List.all_cons]
  have : ((fun i => (b :: r).getD i false) ∘ Nat.succ) = fun i => r.getD i false := by
   funext i; simp [List.getD]
  rw [this, ih]
  simp
theorem BM (hc : X.calm = true) : c8 X (.builtin "all") (fun xs H Q => ∃ (p : Addr) (bs : List Bool), xs = [.ref p] ∧ a6 X.K H p (bs.map V.bl) ∧ Q (.bl (bs.all id)) H) := by
 intro pins s σ H xs us Q I r h
 obtain ⟨p, bs, rfl, hq, q⟩ := h
 obtain ⟨u, rfl, ru⟩ := vals1 r
 cases ru
 obtain ⟨its, rv, pl, hz⟩ := I.list hq
 have hlt : p < s.heap.objs.size := by obtain ⟨_, e, _⟩ := pl.isList; exact Heap.lt_size e
 refine call_all_walk (wpAny_pyIter_list pl.isList ?_)
 have hA : X.A.in1.handled = none := I.ok.hd hc
 refine ⟨s.heap.objs.size, [s.heap.objs.size, p], [s.heap.objs.size], its.toArray.size, (fun i v => its.toArray[i]? = some v), _, (fun i => bs.getD i false), rfl, Walks.list hA s.heap.objs.size p (Nat.ne_of_lt hlt) its.toArray,
  ⟨⟨_, Heap.get?_push_size _ rfl, rfl, rfl⟩, pl.isList.push _⟩, ?_, fun h' tk hk => ?_⟩
 ·intro i v s' Q' E' hv hQ'
  have hv' : its[i]? = some v := by simpa using hv
  have hi : i < its.length := (List.getElem?_eq_some_iff.mp hv').1
  have hl := rv.length
  rw [List.length_map] at hl
  have hb : bs[i]? = some (bs.getD i false) := by
   have hi' : i < bs.length := by omega
   simp [List.getD, List.getElem?_eq_getElem hi']
  obtain ⟨u, hu, ru⟩ := rv.get (i := i) (x := .bl (bs.getD i false)) (by rw [List.getElem?_map, hb]; rfl)
  rw [hv'] at hu; cases hu
  cases (show v = Value.bool (bs.getD i false) from ru)
  exact wpAny_pure hQ'
 ·have hl := rv.length
  rw [List.length_map] at hl
  have e : (List.range its.toArray.size).all (fun i => bs.getD i false) = bs.all id := by
   rw [List.size_toArray, ← hl, all_range]
  rw [e]
  refine ⟨.bl (bs.all id), H, ?_, rfl, q⟩
  exact I.kept (t' := tk) fun b o eb => hk b o (fun z => by
   have : b = s.heap.objs.size := by simpa using z
   exact absurd (Heap.lt_size eb) (by rw [this]; exact Nat.lt_irrefl _)) (Heap.get?_push_of_some _ eb)
theorem OW : c8 X (.builtin "isinstance") (fun xs H Q => ∃ x T t b, xs = [x, .ty T] ∧ gR X.K H x t ∧ PySem.W.kitOne X.K t (.type T) = some b ∧ Q (.bl b) H) := by
 intro pins s σ H xs us Q I r h
 obtain ⟨x, T, t, b, rfl, ty, e, q⟩ := h
 obtain ⟨u, w', rfl, ru, rw'⟩ := vals2 r
 cases (show w' = Value.type T from rw')
 exact MR I ru ty e fun tk => ⟨.bl b, H, I.tok _, rfl, q⟩
def vA (z : Str) : It := ⟨fun i _ => i < z.cps.size, fun i H x H' => H' = H ∧ ∃ c, z.cps.toList[i]? = some c ∧ x = .str ⟨#[c]⟩, fun i _ => z.cps.size ≤ i⟩
theorem BN {P : Program} {w : World} {K : PySem.W.Frag} {x : Str} {px : Pos} (z : Str) (it : Addr) (ty : String) (tk0 : Tok)
  (nx : ∀ (A : Around) (s : Shared) (i c : Nat) (Q : Option Value → Shared → Prop) (E : Value → Shared → Prop), s.heap.IsStrIter it ty z tk0 i → z.cps[i]? = some c →
   (∀ h', h'.IsStrIter it ty z tk0 (i + 1) → Heap.SameBut it s.heap h' → Q (some (.str ⟨#[c]⟩ s.toks)) { s with heap := h', toks := s.toks + 1 }) → wpAny (model P w) A (pyNext (.ref it)) Q E s)
  (en : ∀ (A : Around) (s : Shared) (i : Nat) (Q : Option Value → Shared → Prop) (E : Value → Shared → Prop), A.handled = none → s.heap.IsStrIter it ty z tk0 i → z.cps[i]? = none →
   (∀ h', Heap.ExtBut it s.heap h' → Q none { s with heap := h' }) → wpAny (model P w) A (pyNext (.ref it)) Q E s)
  (slf : ∀ (A : Around) (i : Nat) (s : Shared) (Q : Value → Shared → Prop) (E : Value → Shared → Prop), s.heap.IsStrIter it ty z tk0 i → Q (.ref it) s → wpAny (model P w) A (pyIter (.ref it)) Q E s) :
  kQ P w K (.Name x px) (vA z) [it] it (fun i h => h.IsStrIter it ty z tk0 i) where
 mem := by simp
 obj := fun i h st b hb => by
  have e : b = it := by simpa using hb
  subst e
  obtain ⟨o, ho, _, hd⟩ := st
  exact ⟨o, ho, fun v q => by rw [hd] at q; cases q⟩
 keep := fun i h h' st k => by
  obtain ⟨o, ho, r⟩ := st
  exact ⟨o, k it (by simp) o ho, r⟩
 item := by
  intro X hP hw hK hc i pins s σ H E I hf st hg
  subst hP hw hK
  obtain ⟨f0, f1, f2, f3, f4, f5⟩ := hf it (by simp)
  have hi : z.cps[i]? = some z.cps[i] := Array.getElem?_eq_getElem hg
  refine nx X.A s i _ _ _ st hi fun h' st' sb => ?_
  have I1 : Inv X pins σ H { s with heap := h', toks := s.toks + 1 } := I.turned (fun b o hb e => (sb.2 b hb).trans e) f0 f1 f3 f4 f5
  exact ⟨_, rfl, wpAny_pure ⟨.str ⟨#[z.cps[i]]⟩, H, I1, ⟨_, rfl⟩, ⟨rfl, z.cps[i], by rw [Array.getElem?_toList]; exact hi, rfl⟩, st', fun b hb => (hf b hb).1⟩⟩
 done := by
  intro X hP hw hK hc i pins s σ H E I hf st hg
  subst hP hw hK
  obtain ⟨f0, f1, f2, f3, f4, f5⟩ := hf it (by simp)
  have hg' : z.cps.size ≤ i := hg
  exact en X.A s i _ _ (I.ok.hd hc) st (Array.getElem?_eq_none hg') fun h' eb => ⟨rfl, I.turned (t' := s.toks) (fun b o hb e => eb b o hb e) f0 f1 f3 f4 f5⟩
 self := slf
theorem BO {prog : Program} {w : World} {A : Around} {E : Value → Shared → Prop} {it l : Addr} {items : Array Value} (hne : l ≠ it) : ∀ (n i : Nat) (s : Shared) (Q : List Value → Shared → Prop), s.heap.IsListIter it l i → s.heap.IsList l items → i + n ≤ items.size →
  (∀ h', h'.IsListIter it l (i + n) → Heap.SameBut it s.heap h' → Q ((items.toList.drop i).take n) { s with heap := h' }) → wpAny (model prog w) A (draw (.ref it) n) Q E s
 | 0, i, s, Q, hit, _, _, hQ => by
  show wpAny _ _ (pure []) Q E s
  exact wpAny_pure (by simpa using hQ s.heap hit (Heap.SameBut.refl ..))
 | n + 1, i, s, Q, hit, ht, hle, hQ => by
  have hlt : i < items.size := by omega
  show wpAny _ _ (pyNext (.ref it) >>= _) Q E s
  refine wpAny_bind (wpAny_pyNext_list_item hit ht (x := items[i]) (by simp [hlt]) fun h₁ hit₁ hs₁ => ?_)
  refine wpAny_bind (wpAny_holding (BO hne n (i + 1) _ _ hit₁ (ht.extBut hs₁.extBut hne) (by omega) fun h₂ hit₂ hs₂ => wpAny_pure ?_))
  have hd : items.toList.drop i = items[i] :: items.toList.drop (i + 1) := by simp [List.drop_eq_getElem_cons, hlt]
  have := hQ h₂ (by rw [show i + (n + 1) = i + 1 + n by omega]; exact hit₂) (hs₁.trans hs₂)
  rw [hd, List.take_succ_cons] at this
  exact this
theorem OX {prog : Program} {w : World} {A : Around} {E : Value → Shared → Prop} {s : Shared} {t : Addr} {items : Array Value} {targets : List (Bool × (Value → Sem Unit))} {Q : Unit → Shared → Prop} (hh : A.handled = none) (ht : s.heap.IsList t items)
  (hn : targets.length = items.size) (hstar : targets.findIdx? (·.1) = none)
  (h : ∀ h', Heap.ExtBut s.heap.objs.size s.heap h' → wpAny (model prog w) A (assignInOrder (targets.map (·.2)) items.toList) Q E { s with heap := h' }) :
  wpAny (model prog w) A (unpack (.ref t) targets) Q E s := by
 have hlt : t ≠ s.heap.objs.size := by obtain ⟨o, ho, _⟩ := ht; exact Nat.ne_of_lt (Heap.lt_size ho)
 unfold unpack
 rw [hn, hstar]
 refine wpAny_bind (wpAny_holding ?_)
 unfold unpackItems
 refine wpAny_bind ?_
 unfold notIterableAtAll
 refine wpAny_bind (wpAny_specialOf ht.typeIs F.slot_list_iter.lookup ?_)
 refine wpAny_pure ?_
 simp only [Bool.false_eq_true, if_false]
 refine wpAny_bind (wpAny_holding (wpAny_pyIter_list ht ?_))
 refine wpAny_bind (wpAny_holding (BO hlt items.size 0 _ _ ⟨_, Heap.get?_push_size _ rfl, rfl, rfl⟩ (ht.push _) (by omega) fun h₁ hit₁ hs₁ => ?_))
 have hall : List.take items.size (List.drop 0 items.toList) = items.toList := by
  rw [List.drop_zero]; exact List.take_of_length_le (by simp)
 rw [hall]
 rw [if_neg (by simp)]
 have ht₁ : h₁.IsList t items := (ht.push _).extBut hs₁.extBut hlt
 refine wpAny_bind (wpAny_holding (wpAny_pyNext_list_end hh hit₁ ht₁ (by simp) fun h₂ he₂ => ?_))
 simp only [Option.isSome_none, Bool.false_eq_true, if_false]
 refine wpAny_pure (h h₂ fun b o hb e => he₂ b o hb (hs₁.extBut b o hb (Heap.get?_push_of_some _ e)))
def OY (K : PySem.W.Frag) (n : Nat) (t : i0) : TG := fun v σ H Q => ∃ a xs, v = .ref a ∧ a6 K H a xs ∧ xs.length = n ∧ t xs σ H Q
theorem BP {es : List Expr} {k : Nat} {pos : Pos} {t : i0} {n : Nat} (hc : X.calm = true) (h : iM X es t)
  (hn : (assignEach es X.env).length = n := by rfl) (hst : (assignEach es X.env).findIdx? (·.1) = none := by rfl) : PG X (.Tuple es k pos) (OY X.K n t) := by
 intro pins s σ H v u Q I r hw
 obtain ⟨a, xs, e1, hq, hl, hw⟩ := hw
 subst e1
 cases r
 obtain ⟨its, rv, ht, hz⟩ := I.list hq
 rw [PyProof.Rows.assign_Tuple]
 refine wpAny_bind (wpAny_standAt (OX (I.ok.hd hc) ht.isList (by simp [hn, ← hl, rv.length]) hst fun h' hx => ?_))
 have I1 : Inv X pins σ H { s with heap := h' } := I.kept (t' := s.toks) fun b o e => hx b o (Nat.ne_of_lt (Heap.lt_size e)) e
 exact h pins _ σ H xs _ Q I1 (by simpa using rv) hw
end
end L2
set_option Elab.async false
set_option compiler.extract_closed false
set_option bootstrap.genMatcherCode false
set_option linter.all false
set_option maxRecDepth 100000
set_option maxHeartbeats 4000000
namespace Rg
open PySem PySem.Spec PyProof.Rows L2
abbrev dP : Str := "ABCDEFGHIJKLMNOPQRSTUVWXYZ"
abbrev dQ : Str := "0123456789"
abbrev i4 : Str := "abcdefghijklmnopqrstuvwxyz"
def cs (z : Str) : List Nat := z.cps.toList
def b3 (z g : Str) : Bool := (!decide (V.str z = V.str "")) && (cs z).all fun c => decide (c ∈ cs g)
def isNameB (z : Str) : Bool := (decide (V.str (Txt.partition z "_").2.1 = V.str "") || b3 (Txt.partition z "_").2.2 dQ) && b3 (Txt.partition z "_").1 dP
theorem h9 {x y : Str} (h : cs x = cs y) : x = y := by
 obtain ⟨x⟩ := x; obtain ⟨y⟩ := y
 exact congrArg Str.mk (Array.toList_inj.mp h)
theorem bH (x : Str) : (cs x).length = x.length := by unfold cs Str.length; simp
theorem gG (x y : Str) : cs (x ++ y) = cs x ++ cs y := by
 show (x.cps ++ y.cps).toList = _
 rw [Array.toList_append]; rfl
theorem vB : cs "" = [] := by decide +kernel
theorem BQ (z : Str) : decide (V.str z = V.str "") = decide (cs z = []) := by
 by_cases h : z = ""
 ·subst h; simp [vB]
 ·rw [decide_eq_false (fun e => h (V.str.inj e)), decide_eq_false]
  intro e
  exact h (h9 (e.trans vB.symm))
theorem kX (z g : Str) : b3 z g = (!decide (cs z = []) && (cs z).all fun c => decide (c ∈ cs g)) := by unfold b3; rw [BQ]
theorem BR : ("_" : Str) = ⟨#[95]⟩ := by decide +kernel
theorem OZ : cs "_" = [95] := by decide +kernel
theorem oI {z : Str} (h : 95 ∉ cs z) : Txt.partition z "_" = (z, Str.empty, Str.empty) := by
 rw [BR]
 rcases partition_whole z ⟨#[95]⟩ with ⟨e, _⟩ | ⟨i, _, hi, _⟩
 ·exact e
 ·exact absurd ((mem_iff_at z 95).mpr ⟨i, hi⟩) h
theorem mU (z : Str) (i j : Nat) : cs (Builtin.Str.strSub z i j) = ((cs z).drop i).take (j - i) := by
 show (z.cps.extract i j).toList = _
 rw [Array.toList_extract]; rfl
theorem rV {z a b : Str} (e : cs z = cs a ++ 95 :: cs b) (h : 95 ∉ cs a) : Txt.partition z "_" = (a, ("_" : Str), b) := by
 have hz : z.length = (cs a).length + 1 + (cs b).length := by
  rw [← bH, e, List.length_append, List.length_cons]; omega
 rw [BR]
 rcases partition_whole z ⟨#[95]⟩ with ⟨_, hn⟩ | ⟨i, hp, hi, hn⟩
 ·have hm : 95 ∈ cs z := by rw [e]; simp
  obtain ⟨j, hj⟩ := (mem_iff_at z 95).mp hm
  exact absurd hj (hn j)
 ·have h1 : (cs z)[i]? = some 95 := (StrLaws.subAt_one z 95 i).mp hi
  have h2 : ∀ k, k < i → (cs z)[k]? ≠ some 95 := fun k hk q => hn k hk ((StrLaws.subAt_one z 95 k).mpr q)
  have hi' : i = (cs a).length := by
   rcases Nat.lt_trichotomy i (cs a).length with q | q | q
   ·rw [e, List.getElem?_append_left q] at h1
    exact absurd (List.mem_of_getElem? h1) h
   ·exact q
   ·refine absurd ?_ (h2 (cs a).length q)
    rw [e, List.getElem?_append_right (Nat.le_refl _)]
    simp
  rw [hp]
  have ea : Builtin.Str.strSub z 0 i = a := by
   apply h9
   rw [mU, List.drop_zero, e, hi', Nat.sub_zero, List.take_left']
   rfl
  have eb : Builtin.Str.strSub z (i + (⟨#[95]⟩ : Str).length) z.length = b := by
   apply h9
   have l1 : (⟨#[95]⟩ : Str).length = 1 := rfl
   rw [mU, l1, e, hi', hz]
   have d : (cs a ++ 95 :: cs b).drop ((cs a).length + 1) = cs b := by
    rw [List.drop_append]
    simp
   rw [d]
   have : (cs a).length + 1 + (cs b).length - ((cs a).length + 1) = (cs b).length := by omega
   rw [this, List.take_length]
  rw [ea, eb]
theorem O0 {z : Str} (h0 : cs z ≠ []) (h : ∀ c ∈ cs z, c ∈ cs dP) : isNameB z = true := by
 have h95 : 95 ∉ cs z := fun m => absurd (h _ m) (by decide +kernel)
 unfold isNameB
 rw [oI h95]
 dsimp only
 rw [BQ]
 have e : cs Str.empty = [] := by decide +kernel
 simp only [e, decide_true, Bool.true_or, Bool.true_and]
 rw [kX, decide_eq_false h0, List.all_eq_true.mpr fun c hc => decide_eq_true (h c hc)]
 rfl
theorem O3 {z a b : Str} (e : cs z = cs a ++ 95 :: cs b) (h0 : cs a ≠ []) (h : ∀ c ∈ cs a, c ∈ cs dP) (h1 : cs b ≠ []) (h2 : ∀ c ∈ cs b, c ∈ cs dQ) : isNameB z = true := by
 have h95 : 95 ∉ cs a := fun m => absurd (h _ m) (by decide +kernel)
 unfold isNameB
 rw [rV e h95, kX, kX]
 rw [decide_eq_false h0, List.all_eq_true.mpr fun c hc => decide_eq_true (h c hc), decide_eq_false h1, List.all_eq_true.mpr fun c hc => decide_eq_true (h2 c hc)]
 simp
theorem BS {z : Str} (h0 : cs z ≠ []) (h : ∀ c ∈ cs z, c ∈ cs i4) : isNameB z = false := by
 have h95 : 95 ∉ cs z := fun m => absurd (h _ m) (by decide +kernel)
 unfold isNameB
 rw [oI h95, kX, kX]
 have hh : ((cs z).all fun c => decide (c ∈ cs dP)) = false := by
  cases hz : cs z with
  | nil => exact absurd hz h0
  | cons c r =>
   have hc : c ∈ cs i4 := h c (by rw [hz]; simp)
   have hn : c ∉ cs dP := by
    have key : ∀ c ∈ cs i4, c ∉ cs dP := by decide +kernel
    exact key c hc
   rw [List.all_cons, decide_eq_false hn, Bool.false_and]
 rw [hh]
 simp
theorem rW {m : Nat} : (∀ c ∈ cs (Str.ofString (toString ((m : Nat) : Int))), c ∈ cs dQ) ∧ cs (Str.ofString (toString ((m : Nat) : Int))) ≠ [] := by
 have e := PySem.W.KIN.signs_num m
 have e : cs (Str.ofString (toString ((m : Nat) : Int))) = (Nat.toDigits 10 m).map Char.toNat := e
 constructor
 ·intro c hc
  rw [e] at hc
  obtain ⟨ch, hch, rfl⟩ := List.mem_map.mp hc
  have hd : ch.isDigit = true := Nat.isDigit_of_mem_toDigits (by decide) (by decide) hch
  have : 48 ≤ ch.toNat ∧ ch.toNat ≤ 57 := by
   unfold Char.isDigit at hd
   simp only [Bool.and_eq_true, decide_eq_true_eq] at hd
   exact ⟨hd.1, hd.2⟩
  have key : ∀ k, 48 ≤ k → k ≤ 57 → k ∈ cs dQ := by
   intro k h1 h2
   have : k = 48 ∨ k = 49 ∨ k = 50 ∨ k = 51 ∨ k = 52 ∨ k = 53 ∨ k = 54 ∨ k = 55 ∨ k = 56 ∨ k = 57 := by omega
   rcases this with h | h | h | h | h | h | h | h | h | h <;> subst h <;> decide +kernel
  exact key _ this.1 this.2
 ·rw [e]
  intro z
  have : Nat.toDigits 10 m = [] := List.map_eq_nil_iff.mp z
  have hl : 0 < (Nat.toDigits 10 m).length := by
   by_cases h : m < 10
   ·rw [Nat.toDigits_of_lt_base h]; simp
   ·have hm : m % 10 < 10 := Nat.mod_lt m (by decide)
    have t : Nat.toDigits 10 (m / 10) ++ Nat.toDigits 10 (m % 10) = Nat.toDigits 10 (10 * (m / 10) + m % 10) := Nat.toDigits_append_toDigits (by decide) (by omega) hm
    rw [Nat.div_add_mod] at t
    rw [← t, Nat.toDigits_of_lt_base hm]
    simp
  rw [this] at hl
  exact absurd hl (by simp)
theorem mul_one (x : Str) : Txt.mul x 1 = x := by unfold Txt.mul; rw [if_neg (by decide), if_pos (by simp)]
def Below (d s : Int) : Prop := 0 ≤ d ∧ d < s
abbrev Drawn : List Int → List Int → Prop := Paired Below
end Rg
set_option Elab.async false
set_option compiler.extract_closed false
set_option bootstrap.genMatcherCode false
set_option linter.all false
set_option maxRecDepth 100000
set_option maxHeartbeats 4000000
namespace L2
open PySem PySem.Spec PyProof.Rows
mutual
inductive RT (H : Hp) : V → PyData → Prop
 | non : RT H .non .none
 | bl (b : Bool) : RT H (.bl b) (.bool b)
 | int (i : Int) : RT H (.int i) (.int i)
 | str (x : Str) : RT H (.str x) (.str x)
 | tup {a : Addr} {xs : List V} {ds : List PyData} : H a = some (.tup xs) → gT H xs ds → RT H (.ref a) (.tuple ds)
inductive gT (H : Hp) : List V → List PyData → Prop
 | nil : gT H [] []
 | cons {v : V} {vs : List V} {d : PyData} {ds : List PyData} : RT H v d → gT H vs ds → gT H (v :: vs) (d :: ds)
end
def BU (H H' : Hp) : Prop := ∀ b xs, H b = some (.tup xs) → H' b = some (.tup xs)
mutual
theorem RT.keep {H H' : Hp} (k : BU H H') : ∀ {v : V} {d : PyData}, RT H v d → RT H' v d
 | _, _, .non => .non
 | _, _, .bl b => .bl b
 | _, _, .int i => .int i
 | _, _, .str x => .str x
 | _, _, .tup e r => .tup (k _ _ e) (gT.keep k r)
theorem gT.keep {H H' : Hp} (k : BU H H') : ∀ {vs : List V} {ds : List PyData}, gT H vs ds → gT H' vs ds
 | _, _, .nil => .nil
 | _, _, .cons a b => .cons (RT.keep k a) (gT.keep k b)
end
theorem gT.getD {H : Hp} : ∀ {vs : List V} {ds : List PyData} {i : Nat} {d : PyData}, gT H vs ds → ds[i]? = some d → ∃ v, vs[i]? = some v ∧ RT H v d
 | _, _, _, _, .nil, e => by simp at e
 | _, _, 0, _, .cons a _, e => by simp at e; subst e; exact ⟨_, rfl, a⟩
 | _, _, i + 1, d, .cons _ r, e => by
  obtain ⟨v, h1, h2⟩ := gT.getD (i := i) (d := d) r (by simpa using e)
  exact ⟨v, by simpa using h1, h2⟩
section
variable {P : Program} {w : World} {H : Hp} {h : Heap}
end
def RD (K : PySem.W.Frag) (H : Hp) (v : V) (d : PyData) : Prop := RT H v d ∨ ∃ a xs ds, v = .ref a ∧ d = .list ds ∧ a6 K H a xs ∧ gT H xs ds
theorem RD.l {K : PySem.W.Frag} {H : Hp} {a : Addr} {xs : List V} {ds : List PyData} (h : a6 K H a xs) (r : gT H xs ds) : RD K H (.ref a) (.list ds) := .inr ⟨a, xs, ds, rfl, rfl, h, r⟩
section
variable {X : Cx}
def mV (d : PyData) : Prop := d.canLay0 = true ∧ d.depth ≤ 60
theorem BV : ∀ {xs : List V} {us : List Value}, xs.length = us.length → (∀ (j : Nat) (u : Value), us[j]? = some u → ∃ x, xs[j]? = some x ∧ RelV x u) → aY xs us
 | [], [], _, _ => .nil
 | [], _ :: _, h, _ => by simp at h
 | _ :: _, [], h, _ => by simp at h
 | x :: xs, u :: us, h, k => by
  obtain ⟨y, e, r⟩ := k 0 u rfl
  simp at e
  subst e
  exact .cons r (BV (by simpa using h) fun j v hv => by
   obtain ⟨y, e, r⟩ := k (j + 1) v (by simpa using hv)
   exact ⟨y, by simpa using e, r⟩)
theorem BW : ∀ {kvs : List (aN × V)} {vs : List (aN × Value)} {j : Nat} {k : aN} {x : Value}, KV kvs vs → vs[j]? = some (k, x) → ∃ v, kvs[j]? = some (k, v)
 | _, _, _, _, _, .nil, e => by simp at e
 | _, _, 0, _, _, .cons (a := p) r _, e => by
  simp at e
  subst e
  exact ⟨p.2, by obtain ⟨a, b⟩ := p; cases r.1; rfl⟩
 | _, _, j + 1, k, x, .cons _ t, e => by
  obtain ⟨v, q⟩ := BW (j := j) (k := k) (x := x) t (by simpa using e)
  exact ⟨v, by simpa using q⟩
theorem O4 {k : aN} {v : Value} (h : lS k v = true) : RelV (kV k) v := by
 rcases jM h with ⟨i, t, rfl, rfl⟩ | ⟨x, t, rfl, rfl⟩
 ·exact ⟨t, rfl⟩
 ·exact ⟨t, rfl⟩
theorem BX (hc : X.calm = true) : c8 X (.type "list") (fun xs H Q => ∃ d kvs, xs = [.ref d] ∧ H d = some (.dK kvs) ∧ ∀ l, H l = none → Q (.ref l) (aU H l (.lst (kvs.map fun kv => kV kv.1)))) := by
 intro pins s σ H xs us Q I r h
 obtain ⟨d, kvs, rfl, hd, q⟩ := h
 obtain ⟨u, rfl, ru⟩ := vals1 r
 cases ru
 obtain ⟨hz, hne, vs, rkv, hD⟩ := (show cL X.prog X.w H s.heap d (.dK kvs) from I.hok d _ hd)
 obtain ⟨ep, hat⟩ := hD.dictAt
 have hl := rkv.length
 refine PySem.W.kdl_call (PySem.W.kdl_dict (knd := gD X.prog X.w) (kvs := vs) (ep := ep) hne) (I.ok.hd hc) hat (by rw [← hl]; exact hz) fun h' tk acc' c' hk hS hacc => ?_
 refine ⟨.ref s.heap.objs.size, _, I.laid (o := .lst (kvs.map fun kv => kV kv.1)) (t' := tk) hk (Nat.le_refl _) ⟨by rw [List.length_map]; exact hz, acc'.toList, c', ?_, by rw [Array.toArray_toList]; exact hS⟩, rfl, q _ (I.hok.fresh (Nat.le_refl _))⟩
 refine BV (by have h1 := hacc.1; have h2 : acc'.toList.length = acc'.size := Array.length_toList; have h3 : (kvs.map fun kv => kV kv.1).length = kvs.length := List.length_map ..; omega) fun j v hv => ?_
 obtain ⟨k, x, hx, hk'⟩ := hacc.2 j v (by rw [← Array.getElem?_toList]; exact hv)
 obtain ⟨y, hy⟩ := BW rkv hx
 exact ⟨kV k, by rw [List.getElem?_map, hy]; rfl, O4 hk'⟩
end
end L2
set_option Elab.async false
set_option compiler.extract_closed false
set_option bootstrap.genMatcherCode false
set_option linter.all false
set_option maxRecDepth 100000
set_option maxHeartbeats 4000000
namespace L2
open PySem PySem.Spec PyProof.Rows
section
variable {X : Cx}
theorem Inv.turnedT {pins : List (Addr × Obj)} {σ : St} {H : Hp} {s : Shared} {fp : List Addr} {h'' : Heap} {tk : Nat} (I : Inv X pins σ H s) (hf : ∀ b ∈ fp, fQ X pins H b)
  (keep2 : ∀ q o, q ∉ fp → s.heap.get? q = some o → h''.get? q = some o) : Inv X pins σ H { s with heap := h'', toks := tk } := by
 have nfp : ∀ q ∈ fp, H q = none := fun q hq => (hf q hq).1
 refine I.step (g' := s.gens) (d' := s.drawn) (t' := tk) (ch := fp) (fun q hq => ⟨(hf q hq).2.2.2.1, (hf q hq).2.1, (hf q hq).2.2.2.2.1, (hf q hq).2.2.2.2.2⟩)
   (fun q o _ _ hc e _ => keep2 q o hc e) (fun q o _ _ hc e _ => ⟨o.slots, keep2 q o hc e⟩) (fun q o _ e n => n)
   (fun q o hc e => ⟨o, keep2 q o hc e⟩) (fun q zs e => e) (fun q o zs e => e) (fun q ps e => ⟨#[], by rw [e]; simp⟩) (fun m hm => ?_) ?_ I.bare
 ·obtain ⟨o, es, ep, ho, r⟩ := hm
  exact ⟨o, es, ep, keep2 _ o (fun z => absurd rfl (hf _ z).2.1) ho, r⟩
 ·intro q o e
  refine (I.hok q o e).stay (fun t w' ht qq => keep2 t w' (fun z => ?_) qq) (fun t qq => qq) fun t zs qq => qq
  have n0 := nfp t z
  rcases ht with rfl | ht
  ·rw [n0] at e; cases e
  ·rw [n0] at ht; cases ht
end
end L2
set_option Elab.async false
set_option compiler.extract_closed false
set_option bootstrap.genMatcherCode false
set_option linter.all false
set_option maxRecDepth 100000
set_option maxHeartbeats 4000000
namespace PySem
namespace Rv
open PyProof.Rows L2 PySem.Spec
section
variable {prog : Program} {w : World} {A : Around} {E : Value → Shared → Prop} {s : Shared}
end
end Rv
end PySem
namespace PySem
namespace Rv
open PyProof.Rows L2 PySem.Spec
section
variable {prog : Program} {w : World} {A : Around} {E : Value → Shared → Prop} {s : Shared}
end
end Rv
end PySem
set_option Elab.async false
set_option compiler.extract_closed false
set_option bootstrap.genMatcherCode false
set_option linter.all false
set_option maxRecDepth 100000
set_option maxHeartbeats 4000000
namespace PySem
namespace Rv
open PyProof.Rows L2 PySem.Spec
section
variable {prog : Program} {w : World} {A : Around} {E : Value → Shared → Prop} {s : Shared}
end
end Rv
end PySem
set_option Elab.async false
set_option compiler.extract_closed false
set_option bootstrap.genMatcherCode false
set_option linter.all false
set_option maxRecDepth 100000
set_option maxHeartbeats 4000000
namespace L2
open PySem PySem.Spec PyProof.Rows
section
variable {X : Cx} {a : Expr} {ta : TA} {p p2 pos pos2 : Pos}
theorem O5 : bootBuiltins "reversed" = some (.type "reversed") := by decide +kernel
end
end L2
set_option Elab.async false
set_option compiler.extract_closed false
set_option bootstrap.genMatcherCode false
set_option linter.all false
set_option maxRecDepth 100000
set_option maxHeartbeats 4000000
namespace PySem
namespace Zt
open PyProof.Rows L2 PySem.Spec
section
variable {prog : Program} {w : World} {A : Around} {E : Value → Shared → Prop} {s : Shared}
structure rX (prog : Program) (w : World) (i l : Addr) (xs : Array Value) (St : Nat → Heap → Prop) : Prop where
 keep : ∀ k h h', St k h → (∀ c, c = i ∨ c = l → ∀ o, h.get? c = some o → h'.get? c = some o) → St k h'
 there : ∀ k h, St k h → i < h.objs.size
 item : ∀ (A : Around) (E : Value → Shared → Prop) (s : Shared) (k : Nat) (x : Value) (Q : Value → Shared → Prop), St k s.heap → xs[k]? = some x → (∀ h', St (k + 1) h' → Heap.SameBut i s.heap h' → Q x { s with heap := h' }) →
  wpAny (model prog w) A (Builtin.SmallTypes.nextOf (.ref i)) Q E s
 stop : ∀ (A : Around) (E : Value → Shared → Prop) (s : Shared) (k : Nat) (Q : Value → Shared → Prop), A.handled = none → St k s.heap → xs[k]? = none →
  (∀ h' e, Heap.ExtBut i s.heap h' → (∃ o, h'.get? e = some o ∧ o.cls = .type "StopIteration") → E (.ref e) { s with heap := h' }) → wpAny (model prog w) A (Builtin.SmallTypes.nextOf (.ref i)) Q E s
structure Apart (z TI TO i1 i2 l1 l2 : Addr) : Prop where
 nd : [z, TI, TO, i1, i2].Nodup
 a : l1 ≠ z ∧ l1 ≠ TI ∧ l1 ≠ TO ∧ l1 ≠ i1 ∧ l1 ≠ i2
 b : l2 ≠ z ∧ l2 ≠ TI ∧ l2 ≠ TO ∧ l2 ≠ i1 ∧ l2 ≠ i2
variable {z TI TO i1 i2 l1 l2 : Addr} {xs ys : Array Value} {S1 S2 : Nat → Heap → Prop}
theorem item {k : Nat} {x y a b : Value} {Q : Value → Shared → Prop} (D : Apart z TI TO i1 i2 l1 l2) (W1 : rX prog w i1 l1 xs S1) (W2 : rX prog w i2 l2 ys S2) (hz : IsZip s.heap z TI TO .none) (hI : IsPair s.heap TI (.ref i1) (.ref i2)) (hO : IsPair s.heap TO a b)
  (h1 : S1 k s.heap) (h2 : S2 k s.heap) (hx : xs[k]? = some x) (hy : ys[k]? = some y)
  (hQ : ∀ h', IsZip h' z TI TO (rawInt s.heap.objs.size) → IsPair h' TO x y → S1 (k + 1) h' → S2 (k + 1) h' → IsPair h' s.heap.objs.size x y → (∀ c o, c ≠ z → c ≠ TO → c ≠ i1 → c ≠ i2 → s.heap.get? c = some o → h'.get? c = some o) → Q (.ref s.heap.objs.size) { s with heap := h' }) :
  wpAny (model prog w) A (Builtin.«zip.__next__» ⟨[.ref z], []⟩) (fun fin s' => ∃ v, fin = .done (.ret v) ∧ Q v s') E s := by
 have nd := D.nd
 simp only [List.nodup_cons, List.mem_cons, List.not_mem_nil, or_false, not_or, not_false_eq_true, List.nodup_nil, and_true] at nd
 obtain ⟨⟨zI, zO, z1, z2⟩, ⟨IO, I1, I2⟩, ⟨O1, O2⟩, n12⟩ := nd
 obtain ⟨az, aI, aO, a1, a2⟩ := D.a
 obtain ⟨bz, bI, bO, b1, b2⟩ := D.b
 show wpAny _ _ (field (.ref z) 2 >>= fun q => _) _ _ _
 refine wpAny_bind (wpAny_field hz rfl (x := .bool false) rfl ?_)
 show wpAny _ _ (field (.ref z) 3 >>= fun q => _) _ _ _
 refine wpAny_bind (wpAny_field hz rfl (x := .ref TI) rfl (wpAny_bind (wpAny_seqItems hI rfl ?_)))
 show wpAny _ _ (Builtin.SmallTypes.ownedTupleIsFree (.ref z) >>= fun q => _) _ _ _
 refine wpAny_bind ?_
 unfold Builtin.SmallTypes.ownedTupleIsFree
 refine wpAny_bind (wpAny_field hz rfl (x := .none) rfl (wpAny_pure ?_))
 simp only [if_true]
 refine wpAny_bind (wpAny_rule (wpAny_bind (wpAny_field hz rfl (x := .ref TO) rfl (wpAny_bind (wpAny_setField_rec hz (by simp) fun g1 q1 s1 => wpAny_bind ?_)))))
 simp only [List.zipIdx_cons, List.zipIdx_nil, List.forIn_cons, List.forIn_nil]
 have k1 : ∀ c, c = i1 ∨ c = l1 → c ≠ z ∧ c ≠ TO ∧ c ≠ i2 := fun c hc => by
  rcases hc with rfl | rfl
  ·exact ⟨Ne.symm z1, Ne.symm O1, n12⟩
  ·exact ⟨az, aO, a2⟩
 have k2 : ∀ c, c = i2 ∨ c = l2 → c ≠ z ∧ c ≠ TO ∧ c ≠ i1 := fun c hc => by
  rcases hc with rfl | rfl
  ·exact ⟨Ne.symm z2, Ne.symm O2, Ne.symm n12⟩
  ·exact ⟨bz, bO, b1⟩
 refine wpAny_bind (wpAny_bind (wpAny_onRaise ?_))
 show wpAny _ _ (Builtin.SmallTypes.nextOf (.ref i1) >>= fun q => _) _ _ _
 refine wpAny_bind (W1.item _ _ { s with heap := g1 } k x _ (W1.keep k _ _ h1 fun c hc o e => s1.extBut c o (k1 c hc).1 e) hx fun g2 t2 s2 => wpAny_pure ?_)
 have o2 : IsPair g2 TO a b := s2.extBut _ _ O1 (s1.extBut _ _ (Ne.symm zO) hO)
 refine wpAny_bind (wpAny_seqItems o2 rfl (wpAny_bind (wpAny_updateSeq_pair o2 fun g3 o3 s3 => wpAny_bind (wpAny_letGo (wpAny_pure ?_)))))
 replace o3 : IsPair g3 TO x b := o3
 refine wpAny_bind (wpAny_bind (wpAny_onRaise ?_))
 show wpAny _ _ (Builtin.SmallTypes.nextOf (.ref i2) >>= fun q => _) _ _ _
 refine wpAny_bind (W2.item _ _ { s with heap := g3 } k y _ (W2.keep k _ _ h2 fun c hc o e => s3.extBut c o (k2 c hc).2.1 (s2.extBut c o (k2 c hc).2.2 (s1.extBut c o (k2 c hc).1 e))) hy fun g4 t4 s4 => wpAny_pure ?_)
 have o4 : IsPair g4 TO x b := s4.extBut _ _ O2 o3
 refine wpAny_bind (wpAny_seqItems o4 rfl (wpAny_bind (wpAny_updateSeq_pair o4 fun g5 o5 s5 => wpAny_bind (wpAny_letGo (wpAny_pure (wpAny_pure ?_))))))
 replace o5 : IsPair g5 TO x y := o5
 refine wpAny_bind (wpAny_seqItems o5 rfl (wpAny_bind (wpAny_newTuple ?_)))
 have size5 : g5.objs.size = s.heap.objs.size := by rw [s5.1, s4.1, s3.1, s2.1, s1.1]
 have z5 : IsZip g5 z TI TO .ellipsis := s5.extBut _ _ zO (s4.extBut _ _ z2 (s3.extBut _ _ zO (s2.extBut _ _ z1 q1)))
 have lz : z < g5.objs.size := Heap.lt_size z5
 refine wpAny_bind (m := Builtin.SmallTypes.ownedTupleHandOut _ _) ?_
 unfold Builtin.SmallTypes.ownedTupleHandOut
 have z6 : IsZip (g5.push { cls := .type "tuple", data := .seq #[x, y] }) z TI TO .ellipsis := Heap.get?_push_of_some _ z5
 refine wpAny_bind (wpAny_setField_rec z6 (by simp) fun g7 z7 s7 => wpAny_setField_rec z7 (by simp) fun g8 z8 s8 => wpAny_pure ⟨_, rfl, ?_⟩)
 have up : ∀ c o, c ≠ z → g5.get? c = some o → g8.get? c = some o := fun c o hc e => s8.extBut _ _ hc (s7.extBut _ _ hc (Heap.get?_push_of_some _ e))
 have t8 : IsPair g8 g5.objs.size x y := s8.extBut _ _ (Nat.ne_of_gt lz) (s7.extBut _ _ (Nat.ne_of_gt lz) (Heap.get?_push_size _ rfl))
 have r1 : S1 (k + 1) g8 := W1.keep _ _ _ t2 fun c hc o e => up c o (k1 c hc).1 (s5.extBut _ _ (k1 c hc).2.1 (s4.extBut _ _ (k1 c hc).2.2 (s3.extBut _ _ (k1 c hc).2.1 e)))
 have r2 : S2 (k + 1) g8 := W2.keep _ _ _ t4 fun c hc o e => up c o (k2 c hc).1 (s5.extBut _ _ (k2 c hc).2.1 e)
 show Q (.ref g5.objs.size) _
 replace z8 : IsZip g8 z TI TO (rawInt g5.objs.size) := z8
 rw [size5] at z8 t8 ⊢
 exact hQ g8 z8 (up _ _ (Ne.symm zO) o5) r1 r2 t8 fun c o c1 c2 c3 c4 e => up c o c1 (s5.extBut _ _ c2 (s4.extBut _ _ c4 (s3.extBut _ _ c2 (s2.extBut _ _ c3 (s1.extBut _ _ c1 e)))))
theorem stop {k : Nat} {a b : Value} {Q : Fin → Shared → Prop} (hh : A.handled = none) (D : Apart z TI TO i1 i2 l1 l2) (W1 : rX prog w i1 l1 xs S1) (W2 : rX prog w i2 l2 ys S2) (hz : IsZip s.heap z TI TO .none) (hI : IsPair s.heap TI (.ref i1) (.ref i2)) (hO : IsPair s.heap TO a b)
  (h1 : S1 k s.heap) (h2 : S2 k s.heap) (hend : xs[k]? = none ∨ ys[k]? = none)
  (hE : ∀ h' e, (∀ c o, c ≠ z → c ≠ TO → c ≠ i1 → c ≠ i2 → s.heap.get? c = some o → h'.get? c = some o) → (∃ o, h'.get? e = some o ∧ o.cls = .type "StopIteration") → E (.ref e) { s with heap := h' }) :
  wpAny (model prog w) A (Builtin.«zip.__next__» ⟨[.ref z], []⟩) Q E s := by
 have nd := D.nd
 simp only [List.nodup_cons, List.mem_cons, List.not_mem_nil, or_false, not_or, not_false_eq_true, List.nodup_nil, and_true] at nd
 obtain ⟨⟨zI, zO, z1, z2⟩, ⟨IO, I1, I2⟩, ⟨O1, O2⟩, n12⟩ := nd
 obtain ⟨az, aI, aO, a1, a2⟩ := D.a
 obtain ⟨bz, bI, bO, b1, b2⟩ := D.b
 have k1 : ∀ c, c = i1 ∨ c = l1 → c ≠ z := fun c hc => by rcases hc with rfl | rfl; exact Ne.symm z1; exact az
 have k2 : ∀ c, c = i2 ∨ c = l2 → c ≠ z ∧ c ≠ TO ∧ c ≠ i1 := fun c hc => by
  rcases hc with rfl | rfl
  ·exact ⟨Ne.symm z2, Ne.symm O2, Ne.symm n12⟩
  ·exact ⟨bz, bO, b1⟩
 show wpAny _ _ (field (.ref z) 2 >>= fun q => _) _ _ _
 refine wpAny_bind (wpAny_field hz rfl (x := .bool false) rfl ?_)
 show wpAny _ _ (field (.ref z) 3 >>= fun q => _) _ _ _
 refine wpAny_bind (wpAny_field hz rfl (x := .ref TI) rfl (wpAny_bind (wpAny_seqItems hI rfl ?_)))
 show wpAny _ _ (Builtin.SmallTypes.ownedTupleIsFree (.ref z) >>= fun q => _) _ _ _
 refine wpAny_bind ?_
 unfold Builtin.SmallTypes.ownedTupleIsFree
 refine wpAny_bind (wpAny_field hz rfl (x := .none) rfl (wpAny_pure ?_))
 simp only [if_true]
 refine wpAny_bind (wpAny_rule (wpAny_bind (wpAny_field hz rfl (x := .ref TO) rfl (wpAny_bind (wpAny_setField_rec hz (by simp) fun g1 q1 s1 => wpAny_bind ?_)))))
 simp only [List.zipIdx_cons, List.zipIdx_nil, List.forIn_cons, List.forIn_nil]
 refine wpAny_bind (wpAny_bind (wpAny_onRaise ?_))
 show wpAny _ _ (Builtin.SmallTypes.nextOf (.ref i1) >>= fun q => _) _ _ _
 cases hx : xs[k]? with
 | none =>
  refine wpAny_bind (W1.stop _ _ { s with heap := g1 } k _ hh (W1.keep k _ _ h1 fun c hc o e => s1.extBut c o (k1 c hc) e) hx fun g2 e s2 he => ?_)
  obtain ⟨oe, ge, ce⟩ := he
  have q2 : IsZip g2 z TI TO .ellipsis := s2 _ _ z1 q1
  have ez : e ≠ z := fun u => by subst u; rw [q2] at ge; cases ge; simp at ce
  exact wpAny_setField_rec q2 (by simp) fun g3 _ s3 => hE g3 e (fun c o c1 _ c3 _ u => s3.extBut _ _ c1 (s2 _ _ c3 (s1.extBut _ _ c1 u))) ⟨oe, s3.extBut _ _ ez ge, ce⟩
 | some x =>
  have hy : ys[k]? = none := by rcases hend with h | h; rw [hx] at h; cases h; exact h
  refine wpAny_bind (W1.item _ _ { s with heap := g1 } k x _ (W1.keep k _ _ h1 fun c hc o e => s1.extBut c o (k1 c hc) e) hx fun g2 t2 s2 => wpAny_pure ?_)
  have o2 : IsPair g2 TO a b := s2.extBut _ _ O1 (s1.extBut _ _ (Ne.symm zO) hO)
  refine wpAny_bind (wpAny_seqItems o2 rfl (wpAny_bind (wpAny_updateSeq_pair o2 fun g3 o3 s3 => wpAny_bind (wpAny_letGo (wpAny_pure ?_)))))
  refine wpAny_bind (wpAny_bind (wpAny_onRaise ?_))
  show wpAny _ _ (Builtin.SmallTypes.nextOf (.ref i2) >>= fun q => _) _ _ _
  refine wpAny_bind (W2.stop _ _ { s with heap := g3 } k _ hh (W2.keep k _ _ h2 fun c hc o e => s3.extBut c o (k2 c hc).2.1 (s2.extBut c o (k2 c hc).2.2 (s1.extBut c o (k2 c hc).1 e))) hy fun g4 e s4 he => ?_)
  obtain ⟨oe, ge, ce⟩ := he
  have q4 : IsZip g4 z TI TO .ellipsis := s4 _ _ z2 (s3.extBut _ _ zO (s2.extBut _ _ z1 q1))
  have ez : e ≠ z := fun u => by subst u; rw [q4] at ge; cases ge; simp at ce
  exact wpAny_setField_rec q4 (by simp) fun g5 _ s5 => hE g5 e (fun c o c1 c2 c3 c4 u => s5.extBut _ _ c1 (s4 _ _ c4 (s3.extBut _ _ c2 (s2.extBut _ _ c3 (s1.extBut _ _ c1 u))))) ⟨oe, s5.extBut _ _ ez ge, ce⟩
end
end Zt
end PySem
set_option Elab.async false
set_option compiler.extract_closed false
set_option bootstrap.genMatcherCode false
set_option linter.all false
set_option maxRecDepth 100000
set_option maxHeartbeats 4000000
namespace PySem
namespace Zt
open PyProof.Rows L2 PySem.Spec
section
variable {prog : Program} {w : World} {A : Around} {E : Value → Shared → Prop} {s : Shared} {z TI TO i1 i2 l1 l2 : Addr} {xs ys : Array Value} {S1 S2 : Nat → Heap → Prop}
end
end Zt
end PySem
set_option Elab.async false
set_option compiler.extract_closed false
set_option bootstrap.genMatcherCode false
set_option linter.all false
set_option maxRecDepth 100000
set_option maxHeartbeats 4000000
namespace L2
open PySem PySem.Spec PyProof.Rows
section
variable {X : Cx}
end
end L2
set_option Elab.async false
set_option compiler.extract_closed false
set_option bootstrap.genMatcherCode false
set_option linter.all false
set_option maxRecDepth 100000
set_option maxHeartbeats 4000000
namespace L2
open PySem PySem.Spec PyProof.Rows
section
variable {X : Cx}
end
end L2
set_option Elab.async false
set_option compiler.extract_closed false
set_option bootstrap.genMatcherCode false
set_option linter.all false
set_option maxRecDepth 100000
set_option maxHeartbeats 4000000
namespace L2
open PySem PySem.Spec PyProof.Rows
section
variable {X : Cx}
end
end L2
set_option Elab.async false
set_option compiler.extract_closed false
set_option bootstrap.genMatcherCode false
set_option linter.all false
set_option maxRecDepth 100000
set_option maxHeartbeats 4000000
namespace L3
open PySem PySem.Spec PyProof.Rows L2
abbrev SV := L2.St
inductive W where
 | non | bl (b : Bool) | int (i : Int) | str (x : Str) | ty (n : String) | tup (ws : List W) | rl (ws : List W) | sc (ws : List W) | ref (a : Addr)
 | dk (kvs : List (aN × W)) | dt (kvs : List (List aN × W))
inductive MO where
 | lst (ws : List W) | dK (kvs : List (aN × W)) | dT (kvs : List (List aN × W)) | fix (vs : List V) | exc (cls : Value)
abbrev Mm := Addr → Option MO
def put (M : Mm) (a : Addr) (o : MO) : Mm := fun b => if b = a then some o else M b
def del (M : Mm) (a : Addr) : Mm := fun b => if b = a then none else M b
theorem d7 {M : Mm} {a : Addr} {o : MO} : put M a o a = some o := by unfold put; rw [if_pos rfl]
theorem gH {M : Mm} {a b : Addr} {o : MO} (h : b ≠ a) : put M a o b = M b := by unfold put; rw [if_neg h]
theorem BY {M : Mm} {a : Addr} {o u : MO} : put (put M a o) a u = put M a u := by
 funext b; unfold put; split <;> rfl
theorem vD {M : Mm} {a : Addr} {o : MO} (h : M a = none) : del (put M a o) a = M := by
 funext b; unfold del put; split
 ·rename_i e; rw [e, h]
 ·rfl
theorem lW {M : Mm} {a : Addr} : del M a a = none := by unfold del; rw [if_pos rfl]
theorem BZ {M : Mm} {a : Addr} {o : MO} (h : M a = some o) : put M a o = M := by
 funext b; unfold put; split
 ·rename_i e; rw [e, h]
 ·rfl
def Sub (M M' : Mm) : Prop := ∀ a o, M a = some o → M' a = some o
theorem Sub.refl (M : Mm) : Sub M M := fun _ _ h => h
theorem Sub.trans {M M1 M2 : Mm} (a : Sub M M1) (b : Sub M1 M2) : Sub M M2 := fun c o h => b c o (a c o h)
theorem Sub.new {M : Mm} {a : Addr} {o : MO} (h : M a = none) : Sub M (put M a o) := fun b u e => by
 rw [gH (fun z => by rw [z, h] at e; cases e)]; exact e
theorem Sub.put {M M' : Mm} {a : Addr} {o : MO} (h : Sub M M') : Sub (put M a o) (put M' a o) := fun b u e => by
 unfold L3.put at e ⊢
 split at e
 ·rename_i z; rw [if_pos z]; exact e
 ·rename_i z; rw [if_neg z]; exact h b u e
theorem Sub.del {M : Mm} {a : Addr} : Sub (del M a) M := fun b u e => by
 unfold L3.del at e
 split at e
 ·cases e
 ·exact e
theorem Sub.non {M M' : Mm} (h : Sub M M') {a : Addr} (e : M' a = none) : M a = none := by
 cases q : M a with
 | none => rfl
 | some o => rw [h a o q] at e; cases e
def mW (K : PySem.W.Frag) (H : Hp) (a : Addr) (xs : List V) : Prop :=
 (∃ o, H a = some (.frz o (.lst xs))) ∨
  ∃ (o : Obj) (its : Array Value) (n : Nat), K.lookup a = some o ∧ o.cls = .type "list" ∧ o.dict = none ∧ o.data = .seq its n ∧ its.size ≤ sizeLine ∧ aY xs its.toList
theorem mW.sq {K : PySem.W.Frag} {H : Hp} {a : Addr} {xs : List V} (h : mW K H a xs) : a6 K H a xs := by
 rcases h with ⟨o, h⟩ | h
 ·exact .inl (.inr ⟨o, h⟩)
 ·exact .inr h
mutual
inductive AV (K : PySem.W.Frag) (H : Hp) (M : Mm) : V → W → Prop
 | non : AV K H M .non .non
 | bl (b : Bool) : AV K H M (.bl b) (.bl b)
 | int (i : Int) : AV K H M (.int i) (.int i)
 | str (x : Str) : AV K H M (.str x) (.str x)
 | ty (n : String) : AV K H M (.ty n) (.ty n)
 | tup {a : Addr} {xs : List V} {ws : List W} : H a = some (.tup xs) → aJ K H M xs ws → AV K H M (.ref a) (.tup ws)
 | sc {a : Addr} {xs : List V} {ws : List W} : mW K H a xs → aJ K H M xs ws → AV K H M (.ref a) (.sc ws)
 | rl {a : Addr} {xs : List V} {ws : List W} : H a = some (.lst xs) → M a = none → aJ K H M xs ws → AV K H M (.ref a) (.rl ws)
 | ref (a : Addr) : AV K H M (.ref a) (.ref a)
 | dk {a : Addr} {ks : List (aN × V)} {kvs : List (aN × W)} : H a = some (.dK ks) → M a = none → ks.map Prod.fst = kvs.map Prod.fst → aJ K H M (ks.map Prod.snd) (kvs.map Prod.snd) → AV K H M (.ref a) (.dk kvs)
 | dt {a : Addr} {ks : List (List aN × V)} {kvs : List (List aN × W)} : H a = some (.dT ks) → M a = none → ks.map Prod.fst = kvs.map Prod.fst → aJ K H M (ks.map Prod.snd) (kvs.map Prod.snd) → AV K H M (.ref a) (.dt kvs)
inductive aJ (K : PySem.W.Frag) (H : Hp) (M : Mm) : List V → List W → Prop
 | nil : aJ K H M [] []
 | cons {v : V} {vs : List V} {w : W} {ws : List W} : AV K H M v w → aJ K H M vs ws → aJ K H M (v :: vs) (w :: ws)
end
abbrev dY (K : PySem.W.Frag) (H : Hp) (M : Mm) (κ : Type) : List (κ × V) → List (κ × W) → Prop := Paired fun p q => p.1 = q.1 ∧ AV K H M p.2 q.2
theorem mX {K : PySem.W.Frag} {H : Hp} {M : Mm} {κ : Type} : ∀ {ks : List (κ × V)} {kvs : List (κ × W)}, ks.map Prod.fst = kvs.map Prod.fst → aJ K H M (ks.map Prod.snd) (kvs.map Prod.snd) → dY K H M κ ks kvs
 | [], [], _, _ => .nil
 | [], _ :: _, e, _ => by simp at e
 | _ :: _, [], e, _ => by simp at e
 | p :: ps, q :: qs, e, h => by
  rw [List.map_cons, List.map_cons] at e h
  rw [List.cons.injEq] at e
  cases h with
  | cons x r => exact .cons ⟨e.1, x⟩ (mX e.2 r)
theorem dY.keys {K : PySem.W.Frag} {H : Hp} {M : Mm} {κ : Type} {ks : List (κ × V)} {kvs : List (κ × W)} (h : dY K H M κ ks kvs) : ks.map Prod.fst = kvs.map Prod.fst := by
 induction h with
 | nil => rfl
 | cons r _ ih => rw [List.map_cons, List.map_cons, ih, r.1]
theorem dY.vals {K : PySem.W.Frag} {H : Hp} {M : Mm} {κ : Type} {ks : List (κ × V)} {kvs : List (κ × W)} (h : dY K H M κ ks kvs) : aJ K H M (ks.map Prod.snd) (kvs.map Prod.snd) := by
 induction h with
 | nil => exact .nil
 | cons r _ ih => exact .cons r.2 ih
def AO (K : PySem.W.Frag) (H : Hp) (M : Mm) (a : Addr) : MO → Prop
 | .lst ws => ∃ vs, H a = some (.lst vs) ∧ aJ K H M vs ws
 | .dK kvs => ∃ ks, H a = some (.dK ks) ∧ dY K H M aN ks kvs
 | .dT kvs => ∃ ks, H a = some (.dT ks) ∧ dY K H M (List aN) ks kvs
 | .fix vs => H a = some (.lst vs)
 | .exc c => H a = some (.ext fun h => ∃ o, h.get? a = some o ∧ o.cls = c)
def AM (K : PySem.W.Frag) (H : Hp) (M : Mm) : Prop := ∀ a o, M a = some o → AO K H M a o
structure Kp (H : Hp) (M : Mm) (H' : Hp) (M' : Mm) : Prop where
 fr : ∀ a o, M a = none → H a = some o → H' a = some o ∧ M' a = none
 dom : ∀ a o, M a = some o → ∃ u, H' a = some u
structure Go (H : Hp) (M : Mm) (H' : Hp) (M' : Mm) : Prop where
 ht : ∀ b xs, H b = some (.tup xs) → H' b = some (.tup xs)
 hf : ∀ b o u, H b = some (.frz o u) → H' b = some (.frz o u)
 hl : ∀ b o, M b = none → H b = some o → H' b = some o ∧ M' b = none
section
variable {K : PySem.W.Frag} {H H' H1 H2 : Hp} {M M' M1 M2 : Mm} {a : Addr}
theorem AO.has {o : MO} (h : AO K H M a o) : ∃ u, H a = some u := by
 cases o with
 | lst ws => obtain ⟨vs, e, _⟩ := h; exact ⟨_, e⟩
 | dK kvs => obtain ⟨ks, e, _⟩ := h; exact ⟨_, e⟩
 | dT kvs => obtain ⟨ks, e, _⟩ := h; exact ⟨_, e⟩
 | fix vs => exact ⟨_, h⟩
 | exc c => exact ⟨_, h⟩
theorem AM.nonM (am : AM K H M) (h : H a = none) : M a = none := by
 cases q : M a with
 | none => rfl
 | some o => obtain ⟨u, e⟩ := (am a o q).has; rw [h] at e; cases e
theorem AM.noTup (am : AM K H M) {xs : List V} (h : H a = some (.tup xs)) : M a = none := by
 cases q : M a with
 | none => rfl
 | some o =>
  have := am a o q
  cases o with
  | lst ws => obtain ⟨vs, e, _⟩ := this; rw [h] at e; cases e
  | dK kvs => obtain ⟨ks, e, _⟩ := this; rw [h] at e; cases e
  | dT kvs => obtain ⟨ks, e, _⟩ := this; rw [h] at e; cases e
  | fix vs => have e : H a = some (.lst vs) := this; rw [h] at e; cases e
  | exc c => have e : H a = some (.ext fun h => ∃ o, h.get? a = some o ∧ o.cls = c) := this; rw [h] at e; cases e
theorem AM.noFrz (am : AM K H M) {ob : Obj} {u : HO} (h : H a = some (.frz ob u)) : M a = none := by
 cases q : M a with
 | none => rfl
 | some o =>
  have := am a o q
  cases o with
  | lst ws => obtain ⟨vs, e, _⟩ := this; rw [h] at e; cases e
  | dK kvs => obtain ⟨ks, e, _⟩ := this; rw [h] at e; cases e
  | dT kvs => obtain ⟨ks, e, _⟩ := this; rw [h] at e; cases e
  | fix vs => have e : H a = some (.lst vs) := this; rw [h] at e; cases e
  | exc c => have e : H a = some (.ext fun h => ∃ o, h.get? a = some o ∧ o.cls = c) := this; rw [h] at e; cases e
theorem Kp.refl (am : AM K H M) : Kp H M H M := ⟨fun a o h e => ⟨e, h⟩, fun a o h => (am a o h).has⟩
theorem Kp.trans (x : Kp H M H1 M1) (y : Kp H1 M1 H2 M2) : Kp H M H2 M2 where
 fr := fun a o h e => by
  obtain ⟨e1, n1⟩ := x.fr a o h e
  exact y.fr a o n1 e1
 dom := fun a o h => by
  obtain ⟨u, e⟩ := x.dom a o h
  cases q : M1 a with
  | none => exact ⟨u, (y.fr a u q e).1⟩
  | some o1 => exact y.dom a o1 q
theorem Kp.sub (x : Kp H M H1 M1) (h : Sub M2 M1) : Kp H M H1 M2 where
 fr := fun a o n e => ⟨(x.fr a o n e).1, h.non (x.fr a o n e).2⟩
 dom := x.dom
theorem Kp.go (am : AM K H M) (k : Kp H M H' M') : Go H M H' M' := ⟨fun b xs e => (k.fr b _ (am.noTup e) e).1, fun b o u e => (k.fr b _ (am.noFrz e) e).1, k.fr⟩
theorem Go.sub (h : Sub M' M) : Go H M H M' := ⟨fun _ _ e => e, fun _ _ _ e => e, fun b o n e => ⟨e, h.non n⟩⟩
mutual
theorem AV.go (g : Go H M H' M') : ∀ {v : V} {w : W}, AV K H M v w → AV K H' M' v w
 | _, _, .non => .non
 | _, _, .bl b => .bl b
 | _, _, .int i => .int i
 | _, _, .str x => .str x
 | _, _, .ty n => .ty n
 | _, _, .tup e r => .tup (g.ht _ _ e) (aJ.go g r)
 | _, _, .sc e r => .sc (e.elim (fun ⟨o, q⟩ => .inl ⟨o, g.hf _ _ _ q⟩) .inr) (aJ.go g r)
 | _, _, .rl e n r => .rl (g.hl _ _ n e).1 (g.hl _ _ n e).2 (aJ.go g r)
 | _, _, .ref a => .ref a
 | _, _, .dk e n ke r => .dk (g.hl _ _ n e).1 (g.hl _ _ n e).2 ke (aJ.go g r)
 | _, _, .dt e n ke r => .dt (g.hl _ _ n e).1 (g.hl _ _ n e).2 ke (aJ.go g r)
theorem aJ.go (g : Go H M H' M') : ∀ {vs : List V} {ws : List W}, aJ K H M vs ws → aJ K H' M' vs ws
 | _, _, .nil => .nil
 | _, _, .cons x r => .cons (AV.go g x) (aJ.go g r)
end
theorem dY.go {κ : Type} {ks : List (κ × V)} {kvs : List (κ × W)} (g : Go H M H' M') (h : dY K H M κ ks kvs) : dY K H' M' κ ks kvs := Paired.mapP h fun p q z => ⟨z.1, z.2.go g⟩
theorem AO.go {o : MO} (g : Go H M H' M') (e : H' a = H a) (h : AO K H M a o) : AO K H' M' a o := by
 cases o with
 | lst ws => obtain ⟨vs, e1, r⟩ := h; exact ⟨vs, by rw [e]; exact e1, r.go g⟩
 | dK kvs => obtain ⟨vs, e1, r⟩ := h; exact ⟨vs, by rw [e]; exact e1, r.go g⟩
 | dT kvs => obtain ⟨vs, e1, r⟩ := h; exact ⟨vs, by rw [e]; exact e1, r.go g⟩
 | fix vs => exact e.trans h
 | exc c => exact e.trans h
theorem AM.sub (am : AM K H M') (h : Sub M M') : AM K H M := fun a o e => (am a o (h a o e)).go (Go.sub h) rfl
theorem AV.sub (h : Sub M' M) {v : V} {w : W} (x : AV K H M v w) : AV K H M' v w := x.go (Go.sub h)
theorem aJ.sub (h : Sub M' M) {v : List V} {w : List W} (x : aJ K H M v w) : aJ K H M' v w := x.go (Go.sub h)
theorem AV.kp (am : AM K H M) (k : Kp H M H' M') {v : V} {w : W} (h : AV K H M v w) : AV K H' M' v w := h.go (k.go am)
theorem aJ.kp (am : AM K H M) (k : Kp H M H' M') {vs : List V} {ws : List W} (h : aJ K H M vs ws) : aJ K H' M' vs ws := h.go (k.go am)
theorem aJ.length : ∀ {vs : List V} {ws : List W}, aJ K H M vs ws → vs.length = ws.length
 | _, _, .nil => rfl
 | _, _, .cons _ r => by simp [aJ.length r]
theorem aJ.append : ∀ {vs us : List V} {ws zs : List W}, aJ K H M vs ws → aJ K H M us zs → aJ K H M (vs ++ us) (ws ++ zs)
 | _, _, _, _, .nil, s => s
 | _, _, _, _, .cons x r, s => .cons x (aJ.append r s)
theorem aJ.getW : ∀ {vs : List V} {ws : List W} {i : Nat} {w : W}, aJ K H M vs ws → ws[i]? = some w → ∃ v, vs[i]? = some v ∧ AV K H M v w
 | _, _, _, _, .nil, e => by simp at e
 | _, _, 0, _, .cons x _, e => by simp at e; subst e; exact ⟨_, rfl, x⟩
 | _, _, i + 1, w, .cons _ r, e => by
  obtain ⟨v, h1, h2⟩ := aJ.getW (i := i) (w := w) r (by simpa using e)
  exact ⟨v, by simpa using h1, h2⟩
theorem aJ.getV : ∀ {vs : List V} {ws : List W} {i : Nat} {v : V}, aJ K H M vs ws → vs[i]? = some v → ∃ w, ws[i]? = some w ∧ AV K H M v w
 | _, _, _, _, .nil, e => by simp at e
 | _, _, 0, _, .cons x _, e => by simp at e; subst e; exact ⟨_, rfl, x⟩
 | _, _, i + 1, v, .cons _ r, e => by
  obtain ⟨w, h1, h2⟩ := aJ.getV (i := i) (v := v) r (by simpa using e)
  exact ⟨w, by simpa using h1, h2⟩
theorem aJ.set {v : V} {w : W} (x : AV K H M v w) : ∀ {vs : List V} {ws : List W} (i : Nat), aJ K H M vs ws → aJ K H M (vs.set i v) (ws.set i w)
 | _, _, _, .nil => .nil
 | _, _, 0, .cons _ t => .cons x t
 | _, _, i + 1, .cons q t => .cons q (aJ.set x i t)
theorem aJ.take : ∀ {vs : List V} {ws : List W} (n : Nat), aJ K H M vs ws → aJ K H M (vs.take n) (ws.take n)
 | _, _, 0, _ => by simp; exact .nil
 | _, _, _ + 1, .nil => .nil
 | _, _, n + 1, .cons x t => .cons x (aJ.take n t)
theorem aJ.drop : ∀ {vs : List V} {ws : List W} (n : Nat), aJ K H M vs ws → aJ K H M (vs.drop n) (ws.drop n)
 | _, _, 0, h => h
 | _, _, _ + 1, .nil => .nil
 | _, _, n + 1, .cons _ t => aJ.drop n t
theorem aJ.reverse {vs : List V} {ws : List W} (h : aJ K H M vs ws) : aJ K H M vs.reverse ws.reverse := by
 induction vs generalizing ws with
 | nil => cases h; exact .nil
 | cons v vs ih =>
  cases h with
  | cons x r => rw [List.reverse_cons, List.reverse_cons]; exact (ih r).append (.cons x .nil)
theorem aJ.dropLast {vs : List V} {ws : List W} (h : aJ K H M vs ws) : aJ K H M vs.dropLast ws.dropLast := by
 rw [List.dropLast_eq_take, List.dropLast_eq_take, h.length]; exact h.take _
theorem aJ.flatRep {vs : List V} {ws : List W} (h : aJ K H M vs ws) : ∀ n : Nat, aJ K H M (List.replicate n vs).flatten (List.replicate n ws).flatten
 | 0 => .nil
 | n + 1 => by
  rw [List.replicate_succ, List.replicate_succ, List.flatten_cons, List.flatten_cons]
  exact h.append (aJ.flatRep h n)
theorem aJ.int (is : List Int) : aJ K H M (is.map V.int) (is.map W.int) := by
 induction is with
 | nil => exact .nil
 | cons i r ih => exact .cons (.int i) ih
theorem B0 {p : Addr} {u : HO} (hp : H p = none) (hs : ∀ b, b ≠ p → M b = none → M' b = none) : Go H M (aU H p u) M' :=
 ⟨fun b xs e => by rw [bU (dW e hp)]; exact e, fun b o x e => by rw [bU (dW e hp)]; exact e, fun b o n e => ⟨by rw [bU (dW e hp)]; exact e, hs b (dW e hp) n⟩⟩
theorem B1 {p : Addr} {o : MO} {u : HO} (hp : H p = none) : Go H M (aU H p u) (put M p o) := B0 hp fun b ne n => by rw [gH ne]; exact n
theorem go_same {p : Addr} {u : HO} (hp : H p = none) : Go H M (aU H p u) M := B0 hp fun b ne n => n
theorem AM.laid {p : Addr} {o : MO} {u : HO} (am : AM K H M) (hp : H p = none) (h : AO K (aU H p u) (put M p o) p o) : AM K (aU H p u) (put M p o) ∧ Kp H M (aU H p u) (put M p o) := by
 refine ⟨fun a x e => ?_, fun a x h e => ⟨?_, ?_⟩, fun a x h => ?_⟩
 ·by_cases ha : a = p
  ·subst ha; rw [d7] at e; cases e; exact h
  ·rw [gH ha] at e
   exact (am a x e).go (B1 hp) (bU ha)
 ·rw [bU (dW e hp)]; exact e
 ·rw [gH (dW e hp)]; exact h
 ·obtain ⟨y, e⟩ := (am a x h).has
  exact ⟨y, by rw [bU (dW e hp)]; exact e⟩
theorem rY {p : Addr} {o u : MO} : Go H (put M p o) H (put M p u) := ⟨fun _ _ e => e, fun _ _ _ e => e, fun b x n e => ⟨e, by
 have ne : b ≠ p := fun z => by rw [z, d7] at n; cases n
 rw [gH ne] at n ⊢; exact n⟩⟩
theorem AM.tup {p : Addr} {u : HO} (am : AM K H M) (hp : H p = none) : AM K (aU H p u) M ∧ Kp H M (aU H p u) M := by
 refine ⟨fun a x e => ?_, fun a x h e => ⟨?_, h⟩, fun a x h => ?_⟩
 ·have ne : a ≠ p := fun z => by rw [z, am.nonM hp] at e; cases e
  exact (am a x e).go (go_same hp) (bU ne)
 ·rw [bU (dW e hp)]; exact e
 ·obtain ⟨y, e⟩ := (am a x h).has
  exact ⟨y, by rw [bU (dW e hp)]; exact e⟩
theorem vE {l : Addr} {o0 o : MO} {u : HO} (am : AM K H M) (hl : M l = some o0) : Go H M (aU H l u) (put M l o) :=
 ⟨fun b xs e => by rw [bU (fun z => by rw [← z, am.noTup e] at hl; cases hl)]; exact e, fun b ob x e => by rw [bU (fun z => by rw [← z, am.noFrz e] at hl; cases hl)]; exact e,
   fun b x n e => by
  have ne : b ≠ l := fun z => by rw [← z, n] at hl; cases hl
  rw [bU ne, gH ne]; exact ⟨e, n⟩⟩
theorem AM.write {l : Addr} {o0 o : MO} {u : HO} (am : AM K H M) (hl : M l = some o0) (h : AO K (aU H l u) (put M l o) l o) : AM K (aU H l u) (put M l o) ∧ Kp H M (aU H l u) (put M l o) := by
 refine ⟨fun a x e => ?_, fun a x h e => ?_, fun a x h => ?_⟩
 ·by_cases ha : a = l
  ·subst ha; rw [d7] at e; cases e; exact h
  ·rw [gH ha] at e
   exact (am a x e).go (vE am hl) (bU ha)
 ·have : a ≠ l := fun z => by rw [z, hl] at h; cases h
  rw [bU this, gH this]; exact ⟨e, h⟩
 ·by_cases ha : a = l
  ·subst ha; exact ⟨u, fA⟩
  ·obtain ⟨y, e⟩ := (am a x h).has
   exact ⟨y, by rw [bU ha]; exact e⟩
theorem AM.lst (am : AM K H M) {ws : List W} (h : M a = some (.lst ws)) : ∃ vs, H a = some (.lst vs) ∧ aJ K H M vs ws := am a _ h
theorem aJ.newT {p : Addr} {u : HO} {vs : List V} {ws : List W} (hp : H p = none) (h : aJ K H M vs ws) : aJ K (aU H p u) M vs ws := h.go (go_same hp)
theorem aJ.newL {p : Addr} {u : HO} {o : MO} {vs : List V} {ws : List W} (hp : H p = none) (h : aJ K H M vs ws) : aJ K (aU H p u) (put M p o) vs ws := h.go (B1 hp)
theorem aJ.wr {l : Addr} {o0 o : MO} {u : HO} {vs : List V} {ws : List W} (am : AM K H M) (hl : M l = some o0) (h : aJ K H M vs ws) : aJ K (aU H l u) (put M l o) vs ws := h.go (vE am hl)
theorem AV.wr {l : Addr} {o0 o : MO} {u : HO} {v : V} {w : W} (am : AM K H M) (hl : M l = some o0) (h : AV K H M v w) : AV K (aU H l u) (put M l o) v w := h.go (vE am hl)
end
abbrev S3 := List (Option W)
abbrev K3 := W → Mm → Prop
abbrev aR := S3 → Mm → K3 → Prop
abbrev cZ := S3 → Mm → (Bool → Mm → Prop) → Prop
abbrev c9 := S3 → Mm → (List W → Mm → Prop) → Prop
abbrev R3 := W → W → Mm → K3 → Prop
structure D3 where
 nx : S3 → Mm → Prop
 rt : K3
 bk : S3 → Mm → Prop := fun _ _ => False
 ct : S3 → Mm → Prop := fun _ _ => False
abbrev aF := D3 → S3 → Mm → Prop
def AS (K : PySem.W.Frag) (H : Hp) (M : Mm) : SV → S3 → Prop := Paired fun ov ow => ∀ w, ow = some w → ∃ v, ov = some v ∧ AV K H M v w
section
variable {K : PySem.W.Frag} {H H' : Hp} {M M' : Mm}
theorem AS.kp (am : AM K H M) (k : Kp H M H' M') {σ : SV} {τ : S3} (h : AS K H M σ τ) : AS K H' M' σ τ :=
 Paired.mapP h fun ov ow z w e => by obtain ⟨v, e1, r⟩ := z w e; exact ⟨v, e1, r.kp am k⟩
theorem AS.sub {M' : Mm} (g : Sub M' M) {σ : SV} {τ : S3} (h : AS K H M σ τ) : AS K H M' σ τ :=
 Paired.mapP h fun ov ow z w e => by obtain ⟨v, e1, r⟩ := z w e; exact ⟨v, e1, r.sub g⟩
theorem AS.get {w : W} : ∀ {σ : SV} {τ : S3} {i : Nat}, AS K H M σ τ → τ[i]? = some (some w) → ∃ v, σ[i]? = some (some v) ∧ AV K H M v w
 | _, _, _, .nil, e => by simp at e
 | _, _, 0, .cons r _, e => by
  simp at e
  obtain ⟨v, h1, h2⟩ := r w e
  exact ⟨v, by rw [h1]; rfl, h2⟩
 | _, _, i + 1, .cons _ t, e => by
  obtain ⟨v, h1, h2⟩ := AS.get (i := i) t (by simpa using e)
  exact ⟨v, by simpa using h1, h2⟩
theorem AS.set {v : V} {w : W} (r : AV K H M v w) : ∀ {σ : SV} {τ : S3} (i : Nat), AS K H M σ τ → AS K H M (σ.set i (some v)) (τ.set i (some w))
 | _, _, _, .nil => .nil
 | _, _, 0, .cons _ t => .cons (fun x e => ⟨v, rfl, by cases e; exact r⟩) t
 | _, _, i + 1, .cons q t => .cons q (AS.set r i t)
theorem AS.nones : ∀ n : Nat, AS K H M (List.replicate n none) (List.replicate n none)
 | 0 => .nil
 | n + 1 => .cons (fun _ e => nomatch e) (AS.nones n)
theorem AS.start {vs : List V} {ws : List W} (h : aJ K H M vs ws) (n : Nat) : AS K H M (vs.map some ++ List.replicate n none) (ws.map some ++ List.replicate n none) := by
 induction vs generalizing ws with
 | nil => cases h; exact AS.nones n
 | cons v vs ih =>
  cases h with
  | cons x r => exact .cons (fun w e => ⟨v, rfl, by cases e; exact x⟩) (ih r)
end
def Up (K : PySem.W.Frag) (H : Hp) (M : Mm) (R : K3) (Q : VK) : Prop := ∀ v H' w M', Kp H M H' M' → AM K H' M' → AV K H' M' v w → R w M' → Q v H'
def up (K : PySem.W.Frag) (t : aR) : TE := fun σ H Q => ∃ τ M R, AS K H M σ τ ∧ AM K H M ∧ t τ M R ∧ Up K H M R Q
def kY (K : PySem.W.Frag) (t : cZ) : TT := fun σ H Q => ∃ (τ : S3) (M : Mm) (R : Bool → Mm → Prop), AS K H M σ τ ∧ AM K H M ∧ t τ M R ∧ ∀ b H' M', Kp H M H' M' → AM K H' M' → R b M' → Q b H'
def rZ (K : PySem.W.Frag) (t : c9) : TA := fun σ H Q => ∃ (τ : S3) (M : Mm) (R : List W → Mm → Prop), AS K H M σ τ ∧ AM K H M ∧ t τ M R ∧ ∀ vs H' ws M', Kp H M H' M' → AM K H' M' → aJ K H' M' vs ws → R ws M' → Q vs H'
def fT (K : PySem.W.Frag) (H : Hp) (M : Mm) (R : S3 → Mm → Prop) (Q : SV → Hp → Prop) : Prop := ∀ σ' H' τ' M', Kp H M H' M' → AM K H' M' → AS K H' M' σ' τ' → R τ' M' → Q σ' H'
structure r6 (K : PySem.W.Frag) (H : Hp) (M : Mm) (D : D3) (E : hV) : Prop where
 nx : fT K H M D.nx E.nx
 rt : Up K H M D.rt E.rt
 bk : fT K H M D.bk E.bk
 ct : fT K H M D.ct E.ct
def mY (K : PySem.W.Frag) (t : aF) : TS := fun E σ H => ∃ τ M D, AS K H M σ τ ∧ AM K H M ∧ t D τ M ∧ r6 K H M D E
section
variable {K : PySem.W.Frag} {H H1 : Hp} {M M1 : Mm}
theorem Up.kp {R : K3} {Q : VK} (h : Up K H M R Q) (k : Kp H M H1 M1) : Up K H1 M1 R Q := fun v H' w M' k' am av r => h v H' w M' (k.trans k') am av r
theorem fT.kp {R : S3 → Mm → Prop} {Q : SV → Hp → Prop} (h : fT K H M R Q) (k : Kp H M H1 M1) : fT K H1 M1 R Q := fun v H' w M' k' am av r => h v H' w M' (k.trans k') am av r
theorem r6.kp {D : D3} {E : hV} (h : r6 K H M D E) (k : Kp H M H1 M1) : r6 K H1 M1 D E := ⟨h.nx.kp k, h.rt.kp k, h.bk.kp k, h.ct.kp k⟩
theorem Up.at {R : K3} {Q : VK} (h : Up K H M R Q) (am : AM K H M) {v : V} {w : W} (av : AV K H M v w) (r : R w M) : Q v H := h v H w M (Kp.refl am) am av r
end
def frz : W → Mm → K3 → Prop
 | .ref p, M, R => (∃ ws, M p = some (.lst ws) ∧ R (.rl ws) (del M p)) ∨ (∃ kvs, M p = some (.dK kvs) ∧ R (.dk kvs) (del M p)) ∨ (∃ kvs, M p = some (.dT kvs) ∧ R (.dt kvs) (del M p)) ∨ R (.ref p) M
 | w, M, R => R w M
theorem Up.frz {K : PySem.W.Frag} {H : Hp} {M : Mm} {R : K3} {Q : VK} (h : Up K H M R Q) : Up K H M (fun w M' => frz w M' R) Q := fun v H' w M' k am av r => by
 have av' := av
 cases av <;> first | exact h _ _ _ _ k am av' r | skip
 case ref p =>
  rcases r with ⟨ws, e, r⟩ | ⟨kvs, e, r⟩ | ⟨kvs, e, r⟩ | r
  ·obtain ⟨vs, f, q⟩ := am.lst e
   exact h _ _ _ _ (k.sub Sub.del) (am.sub Sub.del) (.rl f lW (q.sub Sub.del)) r
  ·obtain ⟨ks, f, q⟩ := am _ _ e
   exact h _ _ _ _ (k.sub Sub.del) (am.sub Sub.del) (.dk f lW q.keys (q.vals.sub Sub.del)) r
  ·obtain ⟨ks, f, q⟩ := am _ _ e
   exact h _ _ _ _ (k.sub Sub.del) (am.sub Sub.del) (.dt f lW q.keys (q.vals.sub Sub.del)) r
  ·exact h _ _ _ _ k am (.ref p) r
theorem vF {M : Mm} {p : Addr} {ws : List W} {R : K3} (hp : M p = none) (r : R (.rl ws) M) : frz (.ref p) (put M p (.lst ws)) R := .inl ⟨ws, d7, by rw [vD hp]; exact r⟩
def aZ (ws : List W) (M : Mm) (R : K3) : Prop := ∀ p, M p = none → R (.ref p) (put M p (.lst ws))
def O6 (kvs : List (aN × W)) (M : Mm) (R : K3) : Prop := ∀ p, M p = none → R (.ref p) (put M p (.dK kvs))
def O7 (kvs : List (List aN × W)) (M : Mm) (R : K3) : Prop := ∀ p, M p = none → R (.ref p) (put M p (.dT kvs))
theorem aZ.frz {M : Mm} {ws : List W} {R : K3} (r : R (.rl ws) M) : aZ ws M fun w M' => L3.frz w M' R := fun p hp => vF hp r
def cU (t : aR) : aR := fun τ M R => t τ M fun w M' => frz w M' R
end L3
namespace L2
section
variable {X : Cx}
theorem PE.weak {e : PySem.Expr} {t t' : TE} (h : PE X e t) (k : ∀ σ H Q, t' σ H Q → t σ H Q) : PE X e t' := fun pins s σ H Q I q => h pins s σ H Q I (k σ H Q q)
theorem PT.weak {e : PySem.Expr} {t t' : TT} (h : PT X e t) (k : ∀ σ H Q, t' σ H Q → t σ H Q) : PT X e t' := fun pins s σ H Q I q => h pins s σ H Q I (k σ H Q q)
theorem PW.weak {e : PySem.Expr} {t t' : TT} (h : PW X e t) (k : ∀ σ H Q, t' σ H Q → t σ H Q) : PW X e t' := fun wh pins s σ H Q I q => h wh pins s σ H Q I (k σ H Q q)
theorem PA.weak {es : List PySem.Expr} {t t' : TA} (h : PA X es t) (k : ∀ σ H Q, t' σ H Q → t σ H Q) : PA X es t' := fun pos pins s σ H Q I q => h pos pins s σ H Q I (k σ H Q q)
theorem PS.weak {st : PySem.Stmt} {t t' : TS} (h : PS X st t) (k : ∀ D σ H, t' D σ H → t D σ H) : PS X st t' := fun pins s σ H D I q => h pins s σ H D I (k D σ H q)
theorem dX.weak {st : List PySem.Stmt} {t t' : TS} (h : dX X st t) (k : ∀ D σ H, t' D σ H → t D σ H) : dX X st t' := fun pins s σ H D I q => h pins s σ H D I (k D σ H q)
theorem PO.weak {e : Option PySem.Expr} {t t' : TO} (h : PO X e t) (k : ∀ σ H Q, t' σ H Q → t σ H Q) : PO X e t' := fun pins s σ H Q I q => h pins s σ H Q I (k σ H Q q)
theorem hZ.weak {es : List PySem.Expr} {t t' : TT} (h : hZ X es t) (k : ∀ σ H Q, t' σ H Q → t σ H Q) : hZ X es t' := fun pins s σ H Q I q => h pins s σ H Q I (k σ H Q q)
end
end L2
set_option Elab.async false
set_option compiler.extract_closed false
set_option bootstrap.genMatcherCode false
set_option linter.all false
set_option maxRecDepth 100000
set_option maxHeartbeats 4000000
namespace L3
open PySem PySem.Spec PyProof.Rows L2
abbrev E3 (X : Cx) (e : Expr) (t : aR) : Prop := PE X e (up X.K t)
abbrev T3 (X : Cx) (e : Expr) (t : cZ) : Prop := PT X e (kY X.K t)
abbrev W3 (X : Cx) (e : Expr) (t : cZ) : Prop := PW X e (kY X.K t)
abbrev A3 (X : Cx) (es : List Expr) (t : c9) : Prop := PA X es (rZ X.K t)
def cV (K : PySem.W.Frag) (r : R3) : R2 := fun x y H Q => ∃ wx wy M R, AM K H M ∧ AV K H M x wx ∧ AV K H M y wy ∧ r wx wy M R ∧ Up K H M R Q
def B2 (K : PySem.W.Frag) (r : W → Mm → K3 → Prop) : V → Hp → VK → Prop := fun x H Q => ∃ wx M R, AM K H M ∧ AV K H M x wx ∧ r wx M R ∧ Up K H M R Q
def gI (K : PySem.W.Frag) (r : List W → Mm → K3 → Prop) : List V → Hp → VK → Prop := fun xs H Q => ∃ ws M R, AM K H M ∧ aJ K H M xs ws ∧ r ws M R ∧ Up K H M R Q
def iN (K : PySem.W.Frag) (r : W → List W → Mm → K3 → Prop) : V → List V → Hp → VK → Prop := fun x xs H Q => ∃ wx ws M R, AM K H M ∧ AV K H M x wx ∧ aJ K H M xs ws ∧ r wx ws M R ∧ Up K H M R Q
section
variable {X : Cx} {a b c : Expr} {ta tb tc : aR} {pos : Pos}
def aA (i : Nat) : aR := fun τ M R => ∃ w, τ[i]? = some (some w) ∧ R w M
def vC (w : W) : aR := fun _ M R => R w M
theorem v (i : Nat) {x : Str} {pos : Pos} (hN : X.N[i]? = some x := by rfl) (hv : rB X.env.scope x := by first | exact Or.inl rfl | exact Or.inr (Or.inl rfl) | exact Or.inr (Or.inr rfl)) (hd : (x == ("__debug__" : Str)) = false := by decide)
  (hcd : (x == ("__classdict__" : Str)) = false := by decide) : E3 X (.Name x pos) (aA i) := (zG hN hv hd hcd).weak fun σ H Q ⟨τ, M, R, as, am, ⟨w, e, r⟩, k⟩ => by
 obtain ⟨v, e1, av⟩ := as.get e
 exact ⟨v, e1, k.at am av r⟩
theorem aK {i j pos} : E3 X (.Constant (.int i) j pos) (vC (.int i)) := J6.weak fun σ H Q ⟨τ, M, R, as, am, r, k⟩ => k.at am (.int i) r
theorem mZ {b j pos} : E3 X (.Constant (.bool b) j pos) (vC (.bl b)) := J7.weak fun σ H Q ⟨τ, M, R, as, am, r, k⟩ => k.at am (.bl b) r
theorem lX {j pos} : E3 X (.Constant .none j pos) (vC .non) := J8.weak fun σ H Q ⟨τ, M, R, as, am, r, k⟩ => k.at am .non r
theorem bE {x j pos} : E3 X (.Constant (.str x) j pos) (vC (.str x)) := J9.weak fun σ H Q ⟨τ, M, R, as, am, r, k⟩ => k.at am (.str x) r
theorem i5 {x : Str} {y : V} {w : W} {u : Value} {pos : Pos} (hg : Gl X x) (hm : X.mg x = some u) (r : RelV y u) (hw : ∀ H M, AV X.K H M y w) (hd : (x == ("__debug__" : Str)) = false := by decide) : E3 X (.Name x pos) (vC w) :=
 (KA hg hm r hd).weak fun σ H Q ⟨τ, M, R, as, am, r, k⟩ => k.at am (hw H M) r
theorem B3 {x : Str} {y : V} {w : W} {u : Value} {pos : Pos} (hg : Gl X x) (hm : X.mg x = none) (hv : bootBuiltins x = some u) (r : RelV y u) (hw : ∀ H M, AV X.K H M y w) (hn : x ≠ "__name__" := by decide) (hd : (x == ("__debug__" : Str)) = false := by decide) : E3 X (.Name x pos) (vC w) :=
 (KC hg hm hv r hn hd).weak fun σ H Q ⟨τ, M, R, as, am, r, k⟩ => k.at am (hw H M) r
theorem fB (ha : E3 X a ta) : E3 X a (cU ta) := ha.weak fun σ H Q ⟨τ, M, R, as, am, h, k⟩ => ⟨τ, M, _, as, am, h, k.frz⟩
def aB (r : R3) (ta tb : aR) : aR := fun τ M R => ta τ M fun x M1 => tb τ M1 fun y M2 => r x y M2 R
theorem r9 {K : PySem.W.Frag} {r : R3} {σ : SV} {H : Hp} {Q : VK} (h : up K (aB r ta tb) σ H Q) : n8 (cV K r) (up K ta) (up K tb) σ H Q := by
 obtain ⟨τ, M, R, as, am, h, k⟩ := h
 refine ⟨τ, M, _, as, am, h, fun x H1 wx M1 k1 am1 ax h1 => ⟨τ, M1, _, as.kp am k1, am1, h1, fun y H2 wy M2 k2 am2 ay h2 => ?_⟩⟩
 exact ⟨wx, wy, M2, R, am2, ax.kp am1 k2, ay, h2, (k.kp k1).kp k2⟩
theorem aT {op : Operator} {r : R3} (ho : bC X (binaryOp op) (cV X.K r)) (ha : E3 X a ta) (hb : E3 X b tb) : E3 X (.BinOp a op b pos) (aB r ta tb) := (LW ho ha hb).weak fun _ _ _ h => r9 h
theorem fU {op : CmpOp} {r : R3} (ho : bC X (compareOp op) (cV X.K r)) (ha : E3 X a ta) (hb : E3 X b tb) (hm : behindInMarks op b = false) : E3 X (.Compare a [op] [b] pos) (aB r ta tb) := (MF ho ha hb hm).weak fun _ _ _ h => r9 h
def cD (t : aR) : cZ := fun τ M Q => t τ M fun w M' => ∃ k, w = .bl k ∧ Q k M'
theorem AV.bl_inv {K : PySem.W.Frag} {H : Hp} {M : Mm} {v : V} {k : Bool} (h : AV K H M v (.bl k)) : v = .bl k := by cases h; rfl
theorem cO {op : CmpOp} {r : R3} (ho : bC X (compareOp op) (cV X.K r)) (ha : E3 X a ta) (hb : E3 X b tb) (hm : behindInMarks op b = false) : T3 X (.Compare a [op] [b] pos) (cD (aB r ta tb)) :=
 (MH ho ha hb hm).weak fun σ H Q ⟨τ, M, R, as, am, h, k⟩ => r9 ⟨τ, M, _, as, am, h, fun v H' w M' k' am' av ⟨c, e, r⟩ => by
  subst e
  exact ⟨c, av.bl_inv, k c H' M' k' am' r⟩⟩
def iO (r : W → Mm → K3 → Prop) (ta : aR) : aR := fun τ M R => ta τ M fun x M1 => r x M1 R
theorem jO {op : UnaryOp} {r : W → Mm → K3 → Prop} (ho : n6 X (unaryOp op) (B2 X.K r)) (ha : E3 X a ta) : E3 X (.UnaryOp op a pos) (iO r ta) :=
 (LX ho ha).weak fun σ H Q ⟨τ, M, R, as, am, h, k⟩ => ⟨τ, M, _, as, am, h, fun x H1 wx M1 k1 am1 ax h1 => ⟨wx, M1, R, am1, ax, h1, k.kp k1⟩⟩
def jP : W → Mm → (Bool → Mm → Prop) → Prop
 | .non, M, Q => Q false M
 | .bl b, M, Q => Q b M
 | .int i, M, Q => Q (i != 0) M
 | .str y, M, Q => y.length ≤ sizeLine ∧ Q ((y.length : Int) != 0) M
 | .tup ws, M, Q => Q (!ws.isEmpty) M
 | .rl ws, M, Q => Q (!ws.isEmpty) M
 | .sc ws, M, Q => Q (!ws.isEmpty) M
 | .dk kvs, M, Q => Q (!kvs.isEmpty) M
 | .ref p, M, Q => (∃ ws, M p = some (.lst ws) ∧ Q (!ws.isEmpty) M) ∨ ∃ kvs, M p = some (.dK kvs) ∧ Q (!kvs.isEmpty) M
 | _, _, _ => False
def iP (t : aR) : cZ := fun τ M Q => t τ M fun w M' => jP w M' Q
theorem aJ.empty {K : PySem.W.Frag} {H : Hp} {M : Mm} {vs : List V} {ws : List W} (h : aJ K H M vs ws) : (!ws.isEmpty) = !vs.isEmpty := by cases h <;> rfl
theorem jQ (ha : E3 X a ta) (he : ∀ whole, isTrue a X.env whole = (do let v ← whole; standAt a.pos; holding [v] (truthy v)) := by intro _; rfl) : T3 X a (iP ta) :=
 (ML ha he).weak fun σ H Q ⟨τ, M, R, as, am, h, k⟩ => ⟨τ, M, _, as, am, h, fun v H' w M' k' am' av r => by
  cases av with
  | non => exact ⟨false, rfl, k _ _ _ k' am' r⟩
  | bl b => exact ⟨b, rfl, k _ _ _ k' am' r⟩
  | int i => exact ⟨_, rfl, k _ _ _ k' am' r⟩
  | str y => exact ⟨_, ⟨r.1, rfl⟩, k _ _ _ k' am' r.2⟩
  | ty n => exact (show False from r).elim
  | tup e q => exact ⟨_, .inr (.inl ⟨_, bV.of e, q.empty⟩), k _ _ _ k' am' r⟩
  | rl e n q => exact ⟨_, .inl ⟨_, a6.of e, q.empty⟩, k _ _ _ k' am' r⟩
  | sc e q => exact ⟨_, .inl ⟨_, e.sq, q.empty⟩, k _ _ _ k' am' r⟩
  | @dk a ks kvs e n ke q => exact ⟨!kvs.isEmpty, .inr (.inr ⟨_, e, by have := mX ke q; cases this <;> rfl⟩), k _ _ _ k' am' r⟩
  | dt e n ke q => exact (show False from r).elim
  | ref p =>
   rcases r with ⟨ws, e, r⟩ | ⟨kvs, e, r⟩
   ·obtain ⟨vs, e1, q⟩ := am'.lst e
    exact ⟨_, .inl ⟨_, a6.of e1, q.empty⟩, k _ _ _ k' am' r⟩
   ·obtain ⟨ks, e1, q⟩ := am' _ _ e
    exact ⟨!kvs.isEmpty, .inr (.inr ⟨_, e1, by cases q <;> rfl⟩), k _ _ _ k' am' r⟩⟩
def m3 (t u : cZ) : cZ := fun τ M Q => t τ M fun c M1 => if c = true then u τ M1 Q else Q false M1
def i6 (t u : cZ) : cZ := fun τ M Q => t τ M fun c M1 => if c = true then Q true M1 else u τ M1 Q
def jR (t : cZ) : cZ := fun τ M Q => t τ M fun c M1 => Q (!c) M1
variable {tA tB' : cZ} {rest : List Expr}
theorem sA (ha : T3 X a tA) : W3 X (.BoolOp .And [a] pos) tA := KI ha
theorem lY (ha : T3 X a tA) : W3 X (.BoolOp .Or [a] pos) tA := KJ ha
theorem sC (ha : T3 X a tA) (hb : W3 X (.BoolOp .And (b :: rest) pos) tB') : W3 X (.BoolOp .And (a :: b :: rest) pos) (m3 tA tB') :=
 (KL ha hb).weak fun σ H Q ⟨τ, M, R, as, am, h, k⟩ => ⟨τ, M, _, as, am, h, fun c H1 M1 k1 am1 h1 => by
  cases c with
  | true => exact ⟨τ, M1, R, as.kp am k1, am1, h1, fun b H' M' k' am' r => k b H' M' (k1.trans k') am' r⟩
  | false => exact k false H1 M1 k1 am1 h1⟩
theorem j6 (ha : T3 X a tA) (hb : W3 X (.BoolOp .Or (b :: rest) pos) tB') : W3 X (.BoolOp .Or (a :: b :: rest) pos) (i6 tA tB') :=
 (KN ha hb).weak fun σ H Q ⟨τ, M, R, as, am, h, k⟩ => ⟨τ, M, _, as, am, h, fun c H1 M1 k1 am1 h1 => by
  cases c with
  | true => exact k true H1 M1 k1 am1 h1
  | false => exact ⟨τ, M1, R, as.kp am k1, am1, h1, fun b H' M' k' am' r => k b H' M' (k1.trans k') am' r⟩⟩
theorem kZ (ha : T3 X a tA) : T3 X (.UnaryOp .Not a pos) (jR tA) :=
 (KO ha).weak fun σ H Q ⟨τ, M, R, as, am, h, k⟩ => ⟨τ, M, _, as, am, h, fun c H1 M1 k1 am1 h1 => k (!c) H1 M1 k1 am1 h1⟩
def gU (ta tb : aR) : aR := fun τ M R => ta τ M fun x M1 => ∃ c, x = .bl c ∧ if c = true then tb τ M1 R else R (.bl false) M1
def m7 (ta tb : aR) : aR := fun τ M R => ta τ M fun x M1 => ∃ c, x = .bl c ∧ if c = true then R (.bl true) M1 else tb τ M1 R
def O8 (ta : aR) : aR := fun τ M R => ta τ M fun x M1 => ∃ c, x = .bl c ∧ R (.bl (!c)) M1
theorem iQ {op} (h : E3 X a ta) : E3 X (.BoolOp op [a] pos) ta := KR h
theorem v_and (ha : E3 X a ta) (hb : E3 X (.BoolOp .And (b :: rest) pos) tb) : E3 X (.BoolOp .And (a :: b :: rest) pos) (gU ta tb) :=
 (KS ha hb).weak fun σ H Q ⟨τ, M, R, as, am, h, k⟩ => ⟨τ, M, _, as, am, h, fun x H1 wx M1 k1 am1 ax ⟨c, e, h1⟩ => by
  subst e
  refine ⟨c, ax.bl_inv, ?_⟩
  cases c with
  | true => exact ⟨τ, M1, R, as.kp am k1, am1, h1, k.kp k1⟩
  | false => exact (k.kp k1).at am1 (.bl false) h1⟩
theorem v_or (ha : E3 X a ta) (hb : E3 X (.BoolOp .Or (b :: rest) pos) tb) : E3 X (.BoolOp .Or (a :: b :: rest) pos) (m7 ta tb) :=
 (KU ha hb).weak fun σ H Q ⟨τ, M, R, as, am, h, k⟩ => ⟨τ, M, _, as, am, h, fun x H1 wx M1 k1 am1 ax ⟨c, e, h1⟩ => by
  subst e
  refine ⟨c, ax.bl_inv, ?_⟩
  cases c with
  | true => exact (k.kp k1).at am1 (.bl true) h1
  | false => exact ⟨τ, M1, R, as.kp am k1, am1, h1, k.kp k1⟩⟩
def vG (t : cZ) (ta tb : aR) : aR := fun τ M R => t τ M fun c M1 => if c = true then ta τ M1 R else tb τ M1 R
theorem O9 {c : Expr} (hc : T3 X c tA) (ha : E3 X a ta) (hb : E3 X b tb) : E3 X (.IfExp c a b pos) (vG tA ta tb) :=
 (KY hc ha hb).weak fun σ H Q ⟨τ, M, R, as, am, h, k⟩ => ⟨τ, M, _, as, am, h, fun c H1 M1 k1 am1 h1 => by
  cases c with
  | true => exact ⟨τ, M1, R, as.kp am k1, am1, h1, k.kp k1⟩
  | false => exact ⟨τ, M1, R, as.kp am k1, am1, h1, k.kp k1⟩⟩
def aG : c9 := fun _ M R => R [] M
def aC (ta : aR) (tr : c9) : c9 := fun τ M R => ta τ M fun x M1 => tr τ M1 fun xs M2 => R (x :: xs) M2
variable {e : Expr} {es : List Expr} {te : aR} {t : c9}
theorem aH : A3 X [] aG := z9.weak fun σ H Q ⟨τ, M, R, as, am, h, k⟩ => k [] H [] M (Kp.refl am) am .nil h
theorem aD (ha : E3 X e te) (hr : A3 X es t) (hs : starEach (e :: es) X.env = (false, eval e X.env) :: starEach es X.env := by rfl) : A3 X (e :: es) (aC te t) :=
 (AA ha hr hs).weak fun σ H Q ⟨τ, M, R, as, am, h, k⟩ => ⟨τ, M, _, as, am, h, fun x H1 wx M1 k1 am1 ax h1 => ⟨τ, M1, _, as.kp am k1, am1, h1, fun xs H2 ws M2 k2 am2 axs h2 =>
  k (x :: xs) H2 (wx :: ws) M2 (k1.trans k2) am2 (.cons (ax.kp am1 k2) axs) h2⟩⟩
def sD (t : c9) : aR := fun τ M R => t τ M fun ws M1 => ws.length ≤ sizeLine ∧ R (.tup ws) M1
def k7 (t : c9) : aR := fun τ M R => t τ M fun ws M1 => ws.length ≤ sizeLine ∧ aZ ws M1 R
theorem k9 {K : PySem.W.Frag} {H : Hp} {M : Mm} {R : K3} {Q : VK} {p : Addr} {xs : List V} {ws : List W} (am : AM K H M) (k : Up K H M R Q) (hp : H p = none) (ax : aJ K H M xs ws) (r : R (.tup ws) M) : Q (.ref p) (aU H p (.tup xs)) := by
 obtain ⟨am2, k2⟩ := am.tup (u := .tup xs) hp
 exact k _ _ _ _ k2 am2 (.tup fA (ax.newT hp)) r
theorem eS {K : PySem.W.Frag} {H : Hp} {M : Mm} {R : K3} {Q : VK} {p : Addr} {xs : List V} {ws : List W} (am : AM K H M) (k : Up K H M R Q) (hp : H p = none) (ax : aJ K H M xs ws) (r : ∀ p, M p = none → R (.ref p) (put M p (.lst ws))) : Q (.ref p) (aU H p (.lst xs)) := by
 obtain ⟨am2, k2⟩ := am.laid (o := .lst ws) (u := .lst xs) hp ⟨xs, fA, ax.newL hp⟩
 exact k _ _ _ _ k2 am2 (.ref p) (r p (am.nonM hp))
theorem sE {K : PySem.W.Frag} {H : Hp} {M : Mm} {R : K3} {Q : VK} {l : Addr} {xs : List V} {ws ws0 : List W} {y : V} {w : W} (am : AM K H M) (k : Up K H M R Q) (hl : M l = some (.lst ws0)) (ax : aJ K H M xs ws) (ay : AV K H M y w) (r : R w (put M l (.lst ws))) : Q y (aU H l (.lst xs)) := by
 obtain ⟨am2, k2⟩ := am.write (o := .lst ws) (u := .lst xs) hl ⟨xs, fA, ax.wr am hl⟩
 exact k _ _ _ _ k2 am2 (ay.wr am hl) r
theorem B4 {x1} (h : A3 X es t) : E3 X (.Tuple es x1 pos) (sD t) :=
 (MW h).weak fun σ H Q ⟨τ, M, R, as, am, h, k⟩ => ⟨τ, M, _, as, am, h, fun xs H1 ws M1 k1 am1 axs ⟨hl, r⟩ => ⟨by rw [axs.length]; exact hl, fun p hp => k9 am1 (k.kp k1) hp axs r⟩⟩
theorem m8 (h : A3 X es t) : E3 X (.List es pos) (k7 t) :=
 (AB h).weak fun σ H Q ⟨τ, M, R, as, am, h, k⟩ => ⟨τ, M, _, as, am, h, fun xs H1 ws M1 k1 am1 axs ⟨hl, r⟩ => ⟨by rw [axs.length]; exact hl, fun p hp => eS am1 (k.kp k1) hp axs r⟩⟩
def bN (r : List W → Mm → K3 → Prop) (t : c9) : aR := fun τ M R => t τ M fun ws M1 => r ws M1 R
variable {x : Str} {p : Pos} {id T : String} {r : List W → Mm → K3 → Prop}
theorem B5 {K : PySem.W.Frag} {σ : SV} {H : Hp} {Q : VK} (h : up K (bN r t) σ H Q) : uS (gI K r) (rZ K t) σ H Q := by
 obtain ⟨τ, M, R, as, am, h, k⟩ := h
 exact ⟨τ, M, _, as, am, h, fun xs H1 ws M1 k1 am1 axs h1 => ⟨ws, M1, R, am1, axs, h1, k.kp k1⟩⟩
theorem cY (hc : c8 X (.builtin id) (gI X.K r)) (hg : Gl X x) (hm : X.mg x = none) (hv : bootBuiltins x = some (.builtin id)) (ha : A3 X (e :: es) t) (hn : x ≠ "__name__" := by decide) (hdb : (x == ("__debug__" : Str)) = false := by decide)
  (hs : starEach (e :: es) X.env = (false, eval e X.env) :: starEach es X.env := by rfl) (hpl : (backTo pos (starEach es X.env)).any (·.1) = false := by rfl) : E3 X (.Call (.Name x p) (e :: es) [] pos) (bN r t) := (MY hc hg hm hv ha hn hdb hs hpl).weak fun _ _ _ h => B5 h
theorem jS (hc : c8 X (.type T) (gI X.K r)) (hg : Gl X x) (hm : X.mg x = none) (hv : bootBuiltins x = some (.type T)) (ha : A3 X (e :: es) t) (hn : x ≠ "__name__" := by decide) (hdb : (x == ("__debug__" : Str)) = false := by decide)
  (hs : starEach (e :: es) X.env = (false, eval e X.env) :: starEach es X.env := by rfl) (hpl : (backTo pos (starEach es X.env)).any (·.1) = false := by rfl) : E3 X (.Call (.Name x p) (e :: es) [] pos) (bN r t) := (MZ hc hg hm hv ha hn hdb hs hpl).weak fun _ _ _ h => B5 h
abbrev bK := List W → Mm → K3 → Prop
def a8 (K : PySem.W.Frag) (sp : bK) : Sp := fun vs H Q _ => ∃ ws M R, AM K H M ∧ aJ K H M vs ws ∧ sp ws M R ∧ Up K H M R Q
variable {k : Nat} {f : Addr} {fd : FuncData} {ps : List Str} {sp : bK}
def bW (sp : bK) (t : c9) : aR := fun τ M R => t τ M fun ws M1 => sp ws M1 R
theorem PB {K : PySem.W.Frag} {σ : SV} {H : Hp} {Q : VK} (h : up K (bW sp t) σ H Q) : AD (a8 K sp) [] E0 (rZ K t) σ H Q := by
 obtain ⟨τ, M, R, as, am, h, k⟩ := h
 exact ⟨τ, M, _, as, am, h, fun xs H1 ws M1 k1 am1 axs h1 => ⟨ws, M1, R, am1, by rw [List.append_nil]; exact axs, h1, k.kp k1⟩⟩
theorem b4 (F : aS X.prog X.w X.K X.mg X.base aQ k f fd ps (a8 X.K sp)) (hr : bA k X.A) (hg : Gl X x) (hm : X.mg x = some (.ref f)) (hk : PySem.W.keepIn X.K (.ref f) = true) (hb : Binds X.K fd ps [])
  (ha : A3 X (e :: es) t) (hdb : (x == ("__debug__" : Str)) = false := by decide) (he : starEach (e :: es) X.env = (false, eval e X.env) :: starEach es X.env := by rfl) (hpl : (backTo pos (starEach es X.env)).any (·.1) = false := by rfl) :
  E3 X (.Call (.Name x p) (e :: es) [] pos) (bW sp t) := (uR F hr hg hm hk hb .nil BD ha hdb he hpl).weak fun _ _ _ h => PB h
def jT (T : String) : W → Mm → Prop
 | .str _, _ => T = "str"
 | .int _, _ => T = "int"
 | .rl _, _ => T = "list"
 | .sc _, _ => T = "list"
 | .dk _, _ => T = "dict"
 | .dt _, _ => T = "dict"
 | .ref p, M => (T = "list" ∧ ∃ ws, M p = some (.lst ws)) ∨ (T = "dict" ∧ ((∃ kvs, M p = some (.dK kvs)) ∨ ∃ kvs, M p = some (.dT kvs)))
 | _, _ => False
theorem B6 {K : PySem.W.Frag} {H : Hp} {M : Mm} {v : V} {w : W} (am : AM K H M) (av : AV K H M v w) (h : jT T w M) : rL K T v H := by
 cases av with
 | str y => exact h
 | int i => exact h
 | rl e n q => exact .inl ⟨h, _, a6.of e⟩
 | sc e q => exact .inl ⟨h, _, e.sq⟩
 | dk e n ke q => exact .inr (.inr (.inl ⟨h, .inl ⟨_, e⟩⟩))
 | dt e n ke q => exact .inr (.inr (.inl ⟨h, .inr ⟨_, e⟩⟩))
 | ref p =>
  rcases h with ⟨e, ws, h⟩ | ⟨e, h⟩
  ·obtain ⟨vs, e1, _⟩ := am.lst h
   exact .inl ⟨e, vs, a6.of e1⟩
  ·refine .inr (.inr (.inl ⟨e, ?_⟩))
   rcases h with ⟨kvs, h⟩ | ⟨kvs, h⟩
   ·obtain ⟨ks, e1, _⟩ := am _ _ h; exact .inl ⟨ks, e1⟩
   ·obtain ⟨ks, e1, _⟩ := am _ _ h; exact .inr ⟨ks, e1⟩
 | non => exact h.elim
 | bl b => exact h.elim
 | ty n => exact h.elim
 | tup e q => exact h.elim
variable {o : Expr} {to : aR} {name : Str} {apos cpos : Pos} {rm : W → List W → Mm → K3 → Prop}
def oJ (T : String) (r : W → List W → Mm → K3 → Prop) (to : aR) : aR := fun τ M R => to τ M fun x M1 => jT T x M1 ∧ r x [] M1 R
def cW (T : String) (r : W → List W → Mm → K3 → Prop) (to : aR) (t : c9) : aR := fun τ M R => to τ M fun x M1 => jT T x M1 ∧ t τ M1 fun xs M2 => r x xs M2 R
theorem vH (pa : PlainAttrs T) (slot : Slot T name id) (hty : typeOf (.builtin id) = pure (.type "method_descriptor")) (hm : fR X id (iN X.K rm)) (ho : E3 X o to)
  (hbase : attributeBase o name X.env (eval o X.env) = eval o X.env := by rfl) (hline : (apos.endLine == cpos.line) = true := by rfl) : E3 X (.Call (.Attribute o name apos) [] [] cpos) (oJ T rm to) :=
 (N3 pa slot hty hm ho hbase hline).weak fun σ H Q ⟨τ, M, R, as, am, h, k⟩ => ⟨τ, M, _, as, am, h, fun x H1 wx M1 k1 am1 ax ⟨ty, h1⟩ => ⟨B6 am1 ax ty, wx, [], M1, R, am1, ax, .nil, h1, k.kp k1⟩⟩
theorem dI (pa : PlainAttrs T) (slot : Slot T name id) (hty : typeOf (.builtin id) = pure (.type "method_descriptor")) (hm : fR X id (iN X.K rm)) (ho : E3 X o to) (ha : A3 X (e :: es) t)
  (hbase : attributeBase o name X.env (eval o X.env) = eval o X.env := by rfl)
  (hfew : ((backTo cpos (starEach (e :: es) X.env)).all (fun x => !x.1) && (backToKw cpos (keywordEach [] X.env)).all (fun x => x.1.isSome)
   && decide ((e :: es).length + ([] : List Keyword).length + (if ([] : List Keyword).isEmpty then 0 else 1) < 30)) = true := by rfl)
  (hline : (apos.endLine == cpos.line) = true := by rfl) (hs : starEach (e :: es) X.env = (false, eval e X.env) :: starEach es X.env := by rfl) (hplain : (backTo cpos (starEach es X.env)).any (·.1) = false := by rfl) :
  E3 X (.Call (.Attribute o name apos) (e :: es) [] cpos) (cW T rm to t) :=
 (N4 pa slot hty hm ho ha hbase hfew hline hs hplain).weak fun σ H Q ⟨τ, M, R, as, am, h, k⟩ => ⟨τ, M, _, as, am, h, fun x H1 wx M1 k1 am1 ax ⟨ty, h1⟩ => ⟨B6 am1 ax ty, τ, M1, _, as.kp am k1, am1, h1, fun xs H2 ws M2 k2 am2 axs h2 =>
  ⟨wx, ws, M2, R, am2, ax.kp am1 k2, axs, h2, (k.kp k1).kp k2⟩⟩⟩
end
end L3
set_option Elab.async false
set_option compiler.extract_closed false
set_option bootstrap.genMatcherCode false
set_option linter.all false
set_option maxRecDepth 100000
set_option maxHeartbeats 4000000
namespace L3
open PySem PySem.Spec PyProof.Rows L2
section
variable {X : Cx}
def j7 : R3
 | .int i, .int j, M, R => R (.int (i + j)) M
 | .str i, .str j, M, R => i.length + j.length ≤ sizeLine ∧ R (.str (i ++ j)) M
 | .tup xs, .tup ys, M, R => xs ≠ [] ∧ xs.length + ys.length ≤ sizeLine ∧ R (.tup (xs ++ ys)) M
 | .ref a, .ref b, M, R => ∃ xs ys, M a = some (.lst xs) ∧ M b = some (.lst ys) ∧ xs.length + ys.length ≤ sizeLine ∧ aZ (xs ++ ys) M R
 | .rl xs, .ref b, M, R => ∃ ys, M b = some (.lst ys) ∧ xs.length + ys.length ≤ sizeLine ∧ aZ (xs ++ ys) M R
 | .ref a, .rl ys, M, R => ∃ xs, M a = some (.lst xs) ∧ xs.length + ys.length ≤ sizeLine ∧ aZ (xs ++ ys) M R
 | .rl xs, .rl ys, M, R => xs.length + ys.length ≤ sizeLine ∧ aZ (xs ++ ys) M R
 | _, _, _, _ => False
theorem B7 : bC X (binaryOp .Add) (cV X.K j7) := by
 rintro pins s σ H x y v u Q I rx ry ⟨wx, wy, M, R, am, ax, ay, h, k⟩
 cases ax <;> cases ay <;> first | exact (show False from h).elim | skip
 case int.int i j => exact LY pins s σ H _ _ v u Q I rx ry ⟨i, j, rfl, rfl, k.at am (.int _) h⟩
 case str.str i j => exact MM pins s σ H _ _ v u Q I rx ry ⟨i, j, rfl, rfl, h.1, k.at am (.str _) h.2⟩
 case tup.tup a xs ws e q b ys zs e2 q2 =>
  refine NK pins s σ H _ _ v u Q I rx ry ⟨a, b, xs, ys, rfl, rfl, bV.of e, bV.of e2, fun z => ?_, by rw [q.length, q2.length]; exact h.2.1, fun z => ?_, fun _ p hp => ?_⟩
  ·subst z; cases q; exact h.1 rfl
  ·subst z; cases q2
   have := h.2.2
   rw [List.append_nil] at this
   exact k.at am (.tup e q) this
  ·exact k9 am k hp (q.append q2) h.2.2
 case ref.ref a b =>
  obtain ⟨xs, ys, e1, e2, hl, r⟩ := h
  obtain ⟨vs, f1, q1⟩ := am.lst e1
  obtain ⟨us, f2, q2⟩ := am.lst e2
  exact rM pins s σ H _ _ v u Q I rx ry ⟨a, b, vs, us, rfl, rfl, f1, f2, by rw [q1.length, q2.length]; exact hl, fun p hp => eS am k hp (q1.append q2) r⟩
 case rl.ref a vs xs f1 _ q1 b =>
  obtain ⟨ys, e2, hl, r⟩ := h
  obtain ⟨us, f2, q2⟩ := am.lst e2
  exact rM pins s σ H _ _ v u Q I rx ry ⟨a, b, vs, us, rfl, rfl, f1, f2, by rw [q1.length, q2.length]; exact hl, fun p hp => eS am k hp (q1.append q2) r⟩
 case ref.rl a b us ys f2 _ q2 =>
  obtain ⟨xs, e1, hl, r⟩ := h
  obtain ⟨vs, f1, q1⟩ := am.lst e1
  exact rM pins s σ H _ _ v u Q I rx ry ⟨a, b, vs, us, rfl, rfl, f1, f2, by rw [q1.length, q2.length]; exact hl, fun p hp => eS am k hp (q1.append q2) r⟩
 case rl.rl a vs xs f1 _ q1 b us ys f2 _ q2 =>
  exact rM pins s σ H _ _ v u Q I rx ry ⟨a, b, vs, us, rfl, rfl, f1, f2, by rw [q1.length, q2.length]; exact h.1, fun p hp => eS am k hp (q1.append q2) h.2⟩
def oK (C : Int → Int → Prop) (g : Int → Int → W) : R3
 | .int i, .int j, M, R => C i j ∧ R (g i j) M
 | _, _, _, _ => False
theorem vI {f : Value → Value → Sem Value} {C : Int → Int → Prop} {g : Int → Int → V} {g' : Int → Int → W} (h0 : bC X f (rI C g)) (hg : ∀ H M i j, AV X.K H M (g i j) (g' i j)) : bC X f (cV X.K (oK C g')) := by
 rintro pins s σ H x y v u Q I rx ry ⟨wx, wy, M, R, am, ax, ay, h, k⟩
 cases ax <;> cases ay <;> first | exact (show False from h).elim | skip
 case int.int i j => exact h0 pins s σ H _ _ v u Q I rx ry ⟨i, j, rfl, rfl, h.1, k.at am (hg H M i j) h.2⟩
def oM (g : Int → Int → W) : R3
 | .int i, .int j, M, R => R (g i j) M
 | _, _, _, _ => False
theorem vJ {f : Value → Value → Sem Value} {g : Int → Int → V} {g' : Int → Int → W} (h0 : bC X f (kR g)) (hg : ∀ H M i j, AV X.K H M (g i j) (g' i j)) : bC X f (cV X.K (oM g')) := by
 rintro pins s σ H x y v u Q I rx ry ⟨wx, wy, M, R, am, ax, ay, h, k⟩
 cases ax <;> cases ay <;> first | exact (show False from h).elim | skip
 case int.int i j => exact h0 pins s σ H _ _ v u Q I rx ry ⟨i, j, rfl, rfl, k.at am (hg H M i j) h⟩
abbrev B8 : R3 := oM fun i j => .int (i - j)
theorem PC : bC X (binaryOp .Sub) (cV X.K B8) := vJ LZ fun _ _ _ _ => .int _
abbrev dZ : R3 := oK rT fun i j => .int (i / j)
theorem fV : bC X (binaryOp .FloorDiv) (cV X.K dZ) := vI OT fun _ _ _ _ => .int _
abbrev cK : R3 := oK (fun _ j => 0 < j) fun i j => .int (i % j)
theorem dE : bC X (binaryOp .Mod) (cV X.K cK) := vI L1 fun _ _ _ _ => .int _
abbrev lZ : R3 := oK zR fun i j => .int (i ^ j.toNat)
theorem oN : bC X (binaryOp .Pow) (cV X.K lZ) := vI L4 fun _ _ _ _ => .int _
def oO : R3
 | .int i, .int j, M, R => (lT i j ∨ oH i j) ∧ R (.int (i * j)) M
 | .str z, .int n, M, R => z.length ≤ 16 ∧ -(2 ^ 63) ≤ n ∧ n ≤ 1048576 ∧ R (.str (Txt.mul z n)) M
 | .ref a, .int n, M, R => ∃ xs, M a = some (.lst xs) ∧ -(2 ^ 63) ≤ n ∧ n < 2 ^ 63 ∧ xs.length * n.toNat ≤ sizeLine ∧ aZ (List.replicate n.toNat xs).flatten M R
 | .rl xs, .int n, M, R => -(2 ^ 63) ≤ n ∧ n < 2 ^ 63 ∧ xs.length * n.toNat ≤ sizeLine ∧ aZ (List.replicate n.toNat xs).flatten M R
 | _, _, _, _ => False
theorem PD : bC X (binaryOp .Mult) (cV X.K oO) := by
 rintro pins s σ H x y v u Q I rx ry ⟨wx, wy, M, R, am, ax, ay, h, k⟩
 cases ax <;> cases ay <;> first | exact (show False from h).elim | skip
 case int.int i j =>
  rcases h with ⟨h | h, r⟩
  ·exact L0 pins s σ H _ _ v u Q I rx ry ⟨i, j, rfl, rfl, h, k.at am (.int _) r⟩
  ·exact OS pins s σ H _ _ v u Q I rx ry ⟨i, j, rfl, rfl, h, k.at am (.int _) r⟩
 case str.int z n => exact OU pins s σ H _ _ v u Q I rx ry ⟨z, n, rfl, rfl, h.1, h.2.1, h.2.2.1, k.at am (.str _) h.2.2.2⟩
 case ref.int a n =>
  obtain ⟨xs, e, h1, h2, h3, r⟩ := h
  obtain ⟨vs, f, q⟩ := am.lst e
  exact A4 pins s σ H _ _ v u Q I rx ry ⟨a, n, vs, rfl, rfl, f, h1, h2, by rw [q.length]; exact h3, fun p hp => eS am k hp (q.flatRep _) r⟩
 case rl.int a vs xs f _ q n =>
  obtain ⟨h1, h2, h3, r⟩ := h
  exact A4 pins s σ H _ _ v u Q I rx ry ⟨a, n, vs, rfl, rfl, f, h1, h2, by rw [q.length]; exact h3, fun p hp => eS am k hp (q.flatRep _) r⟩
def iR : W → Mm → K3 → Prop
 | .int i, M, R => R (.int (-i)) M
 | _, _, _ => False
theorem jU : n6 X (unaryOp .USub) (B2 X.K iR) := by
 rintro pins s σ H x v Q I rx ⟨wx, M, R, am, ax, h, k⟩
 cases ax <;> first | exact (show False from h).elim | skip
 case int i => exact L6 pins s σ H _ v Q I rx ⟨i, rfl, k.at am (.int _) h⟩
def B9 (i j : Str) : Bool := decide (i.cps.toList < j.cps.toList)
def gW : R3
 | .int i, .int j, M, R => R (.bl (decide (i < j))) M
 | .str i, .str j, M, R => R (.bl (B9 i j)) M
 | _, _, _, _ => False
theorem jV : bC X (compareOp .Lt) (cV X.K gW) := by
 rintro pins s σ H x y v u Q I rx ry ⟨wx, wy, M, R, am, ax, ay, h, k⟩
 cases ax <;> cases ay <;> first | exact (show False from h).elim | skip
 case int.int i j => exact L8 pins s σ H _ _ v u Q I rx ry ⟨i, j, rfl, rfl, k.at am (.bl _) h⟩
 case str.str i j => exact MB pins s σ H _ _ v u Q I rx ry ⟨i, j, rfl, rfl, k.at am (.bl _) h⟩
abbrev i7 : R3 := oM fun i j => .bl (decide (i ≤ j))
theorem m9 : bC X (compareOp .LtE) (cV X.K i7) := vJ L9 fun _ _ _ _ => .bl _
abbrev vK : R3 := oM fun i j => .bl (decide (j < i))
theorem CA : bC X (compareOp .Gt) (cV X.K vK) := vJ MA fun _ _ _ _ => .bl _
def isNon : W → Bool
 | .non => true
 | _ => false
def vL (neg : Bool) : R3
 | x, .non, M, R => R (.bl (if neg then !isNon x else isNon x)) M
 | _, _, _, _ => False
theorem AV.isNon {K : PySem.W.Frag} {H : Hp} {M : Mm} {v : V} {w : W} (h : AV K H M v w) : decide (v = .non) = L3.isNon w := by cases h <;> rfl
theorem PF : bC X (compareOp .Is) (cV X.K (vL false)) := by
 rintro pins s σ H x y v u Q I rx ry ⟨wx, wy, M, R, am, ax, ay, h, k⟩
 cases ay <;> first | exact (show False from h).elim | skip
 exact MD pins s σ H _ _ v u Q I rx ry ⟨rfl, by rw [ax.isNon]; exact k.at am (.bl _) h⟩
mutual
inductive Snap (M : Mm) : W → PyData → Prop
 | non : Snap M .non .none
 | bl (b : Bool) : Snap M (.bl b) (.bool b)
 | int (i : Int) : Snap M (.int i) (.int i)
 | str (x : Str) : Snap M (.str x) (.str x)
 | tup {ws : List W} {ds : List PyData} : fD M ws ds → Snap M (.tup ws) (.tuple ds)
 | rl {ws : List W} {ds : List PyData} : fD M ws ds → Snap M (.rl ws) (.list ds)
 | ref {a : Addr} {ws : List W} {ds : List PyData} : M a = some (.lst ws) → fD M ws ds → Snap M (.ref a) (.list ds)
inductive fD (M : Mm) : List W → List PyData → Prop
 | nil : fD M [] []
 | cons {w : W} {ws : List W} {d : PyData} {ds : List PyData} : Snap M w d → fD M ws ds → fD M (w :: ws) (d :: ds)
end
section
variable {pins : List (Addr × Obj)} {σ : SV} {H : Hp} {s : Shared} {M : Mm}
mutual
theorem Snap.reads (I : Inv X pins σ H s) (am : AM X.K H M) : ∀ {w : W} {d : PyData} {v : V} {u : Value}, Snap M w d → AV X.K H M v w → RelV v u → ∃ as, Reads s.heap u d as
 | _, _, _, _, .non, av, r => by cases av; cases r; exact ⟨_, .none⟩
 | _, _, _, _, .bl b, av, r => by cases av; cases r; exact ⟨_, .bool b⟩
 | _, _, _, _, .int i, av, r => by cases av; obtain ⟨t, rfl⟩ := r; exact ⟨_, .int i t⟩
 | _, _, _, _, .str x, av, r => by cases av; obtain ⟨t, rfl⟩ := r; exact ⟨_, .str x t⟩
 | _, _, _, _, .tup h, av, r => by
  cases av with
  | tup e q =>
   cases r
   obtain ⟨its, rv, ⟨o, e1, e2, n, e3⟩, _⟩ := I.tuple (bV.of e)
   obtain ⟨as, z⟩ := fD.reads I am h q rv
   exact ⟨_, .tuple e1 e2 e3 (by simpa using z)⟩
 | _, _, _, _, .rl h, av, r => by
  cases av with
  | rl e _ q =>
   cases r
   obtain ⟨its, rv, pl, _⟩ := I.list (a6.of e)
   obtain ⟨o, e1, e2, n, e3⟩ := pl.isList
   obtain ⟨as, z⟩ := fD.reads I am h q rv
   exact ⟨_, .list e1 e2 e3 (by simpa using z)⟩
 | _, _, _, _, .ref e h, av, r => by
  cases av with
  | ref a =>
   cases r
   obtain ⟨vs, e0, q⟩ := am.lst e
   obtain ⟨its, rv, pl, _⟩ := I.list (a6.of e0)
   obtain ⟨o, e1, e2, n, e3⟩ := pl.isList
   obtain ⟨as, z⟩ := fD.reads I am h q rv
   exact ⟨_, .list e1 e2 e3 (by simpa using z)⟩
theorem fD.reads (I : Inv X pins σ H s) (am : AM X.K H M) : ∀ {ws : List W} {ds : List PyData} {vs : List V} {us : List Value}, fD M ws ds → aJ X.K H M vs ws → aY vs us → ∃ as, ReadsAll s.heap us ds as
 | _, _, _, _, .nil, av, r => by cases av; cases r; exact ⟨_, .nil⟩
 | _, _, _, _, .cons h t, av, r => by
  cases av with
  | cons a b =>
   cases r with
   | cons r1 r2 =>
    obtain ⟨x, q1⟩ := Snap.reads I am h a r1
    obtain ⟨y, q2⟩ := fD.reads I am t b r2
    exact ⟨_, .cons q1 q2⟩
end
end
def vM (neg : Bool) : R3 := fun x y M R => ∃ da db, Snap M x da ∧ Snap M y db ∧ mV da ∧ mV db ∧ R (.bl (if neg then !PyData.eqv da db else PyData.eqv da db)) M
def rEq (neg : Bool) : R3
 | .int i, .int j, M, R => R (.bl (if neg then !decide (i = j) else decide (i = j))) M
 | .str i, .str j, M, R => R (.bl (if neg then !decide (i = j) else decide (i = j))) M
 | .bl i, .bl j, M, R => R (.bl (if neg then !decide (i = j) else decide (i = j))) M
 | x, y, M, R => vM neg x y M R
theorem CB {i j : Int} : decide (V.int i = V.int j) = decide (i = j) := by rw [Bool.eq_iff_iff]; simp
theorem oP {i j : Str} : decide (V.str i = V.str j) = decide (i = j) := by rw [Bool.eq_iff_iff]; simp
theorem CC {i j : Bool} : decide (V.bl i = V.bl j) = decide (i = j) := by rw [Bool.eq_iff_iff]; simp
theorem eT (hu : X.A.units + 64 < cLine) : bC X (compareOp .Eq) (cV X.K (rEq false)) := by
 rintro pins s σ H x y v u Q I rx ry ⟨wx, wy, M, R, am, ax, ay, h, k⟩
 have data : vM false wx wy M R → wpAny (model X.prog X.w) X.A (compareOp .Eq v u) (EP X pins σ Q) X.xe s := fun h => by
  obtain ⟨da, db, ha, hb, fa, fb, q⟩ := h
  obtain ⟨as, ra⟩ := ha.reads I am ax rx
  obtain ⟨bs, rb⟩ := hb.reads I am ay ry
  exact SeqAt.compareEq_reads ra rb fa.1 fb.1 (Nat.lt_of_le_of_lt (Nat.add_le_add_left (Nat.le_trans (Nat.min_le_left _ _) (Nat.le_trans fa.2 (by decide))) _) hu) ⟨.bl _, H, I, rfl, k.at am (.bl _) q⟩
 cases ax <;> cases ay <;> first | exact data h | skip
 case int.int i j => exact uN pins s σ H _ _ v u Q I rx ry ⟨rfl, by rw [CB]; exact k.at am (.bl _) h⟩
 case str.str i j => exact uN pins s σ H _ _ v u Q I rx ry ⟨rfl, by rw [oP]; exact k.at am (.bl _) h⟩
 case bl.bl i j => exact uN pins s σ H _ _ v u Q I rx ry ⟨rfl, by rw [CC]; exact k.at am (.bl _) h⟩
theorem nA (hu : X.A.units + 64 < cLine) : bC X (compareOp .NotEq) (cV X.K (rEq true)) := by
 rintro pins s σ H x y v u Q I rx ry ⟨wx, wy, M, R, am, ax, ay, h, k⟩
 have data : vM true wx wy M R → wpAny (model X.prog X.w) X.A (compareOp .NotEq v u) (EP X pins σ Q) X.xe s := fun h => by
  obtain ⟨da, db, ha, hb, fa, fb, q⟩ := h
  obtain ⟨as, ra⟩ := ha.reads I am ax rx
  obtain ⟨bs, rb⟩ := hb.reads I am ay ry
  exact SeqAt.compareNe_reads ra rb fa.1 fb.1 (Nat.lt_of_le_of_lt (Nat.add_le_add_left (Nat.le_trans (Nat.min_le_left _ _) (Nat.le_trans fa.2 (by decide))) _) hu) ⟨.bl _, H, I, rfl, k.at am (.bl _) q⟩
 cases ax <;> cases ay <;> first | exact data h | skip
 case int.int i j => exact uO pins s σ H _ _ v u Q I rx ry ⟨rfl, by rw [CB]; exact k.at am (.bl _) h⟩
 case str.str i j => exact uO pins s σ H _ _ v u Q I rx ry ⟨rfl, by rw [oP]; exact k.at am (.bl _) h⟩
 case bl.bl i j => exact uO pins s σ H _ _ v u Q I rx ry ⟨rfl, by rw [CC]; exact k.at am (.bl _) h⟩
def wK : aN → W
 | .inl i => .int i
 | .inr x => .str x
def gX {κ : Type} [DecidableEq κ] (kvs : List (κ × W)) (k : κ) : Option W := (kvs.find? fun kv => decide (kv.1 = k)).map (·.2)
def i8 {κ : Type} [DecidableEq κ] (kvs : List (κ × W)) (k : κ) (v : W) : List (κ × W) :=
 if (kvs.any fun kv => decide (kv.1 = k)) = true then kvs.map (fun kv => if kv.1 = k then (kv.1, v) else kv) else kvs ++ [(k, v)]
theorem AV.key {K : PySem.W.Frag} {H : Hp} {M : Mm} {v : V} {k : aN} (h : AV K H M v (wK k)) : v = kV k := by
 cases k <;> (cases h; rfl)
theorem aJ.keys {K : PySem.W.Frag} {H : Hp} {M : Mm} : ∀ {vs : List V} {k : List aN}, aJ K H M vs (k.map wK) → vs = k.map kV
 | _, [], h => by cases h; rfl
 | _, a :: r, h => by
  cases h with
  | cons x y => rw [x.key, aJ.keys y]; rfl
section
variable {κ : Type} [DecidableEq κ] {K : PySem.W.Frag} {H : Hp} {M : Mm}
theorem CD {ks : List (κ × V)} {kvs : List (κ × W)} (h : dY K H M κ ks kvs) (k : κ) : (gX kvs k = none ∧ gS ks k = none) ∨ ∃ v w, gX kvs k = some w ∧ gS ks k = some v ∧ AV K H M v w := by
 induction h with
 | nil => exact .inl ⟨rfl, rfl⟩
 | @cons p q ps qs r t ih =>
  by_cases e : p.1 = k
  ·refine .inr ⟨p.2, q.2, ?_, ?_, r.2⟩
   ·unfold gX; rw [List.find?_cons, decide_eq_true (by rw [← r.1]; exact e)]; rfl
   ·exact rN e
  ·have e2 : ¬ q.1 = k := by rw [← r.1]; exact e
   have l : gX (q :: qs) k = gX qs k := by unfold gX; rw [List.find?_cons, decide_eq_false e2]
   rw [l, rO e]
   exact ih
theorem PH {ks : List (κ × V)} {kvs : List (κ × W)} (h : dY K H M κ ks kvs) (k : κ) : (ks.any fun kv => decide (kv.1 = k)) = (kvs.any fun kv => decide (kv.1 = k)) := by
 induction h with
 | nil => rfl
 | cons r t ih => rw [List.any_cons, List.any_cons, ih, r.1]
theorem PJ {ks : List (κ × V)} {kvs : List (κ × W)} {v : V} {w : W} {k : κ} (av : AV K H M v w) (h : dY K H M κ ks kvs) : dY K H M κ (ks.map (fun kv => if kv.1 = k then (kv.1, v) else kv)) (kvs.map (fun kv => if kv.1 = k then (kv.1, w) else kv)) := by
 induction h with
 | nil => exact .nil
 | @cons p q ps qs r t ih =>
  rw [List.map_cons, List.map_cons]
  refine .cons ?_ ih
  by_cases e : p.1 = k
  ·rw [if_pos e, if_pos (by rw [← r.1]; exact e)]; exact ⟨r.1, av⟩
  ·rw [if_neg e, if_neg (by rw [← r.1]; exact e)]; exact r
theorem PK {ks : List (κ × V)} {kvs : List (κ × W)} {v : V} {w : W} {k : κ} (av : AV K H M v w) (h : dY K H M κ ks kvs) : dY K H M κ (ks ++ [(k, v)]) (kvs ++ [(k, w)]) := by
 induction h with
 | nil => exact .cons ⟨rfl, av⟩ .nil
 | cons r t ih => exact .cons r ih
theorem CF {ks : List (κ × V)} {kvs : List (κ × W)} {v : V} {w : W} (h : dY K H M κ ks kvs) (k : κ) (av : AV K H M v w) : dY K H M κ (fS ks k v) (i8 kvs k w) := by
 unfold fS i8
 rw [PH h k]
 split
 ·exact PJ av h
 ·exact PK av h
end
def d0 (M : Mm) : W → W → Option W → Prop
 | .ref a, y, o => (∃ kvs k, M a = some (.dK kvs) ∧ y = wK k ∧ o = gX kvs k) ∨ ∃ kvs k, M a = some (.dT kvs) ∧ y = .tup (k.map wK) ∧ o = gX kvs k
 | .dk kvs, y, o => ∃ k, y = wK k ∧ o = gX kvs k
 | .dt kvs, y, o => ∃ k, y = .tup (k.map wK) ∧ o = gX kvs k
 | _, _, _ => False
theorem CG {K : PySem.W.Frag} {H : Hp} {M : Mm} {a : Addr} {y : V} {k : aN} {ks : List (aN × V)} {kvs : List (aN × W)} (e1 : H a = some (.dK ks)) (q : dY K H M aN ks kvs) (ay : AV K H M y (wK k)) : (gX kvs k = none ∧ eA H a y none) ∨ ∃ v w, gX kvs k = some w ∧ eA H a y (some v) ∧ AV K H M v w := by
 rw [ay.key]
 rcases CD q k with ⟨l1, l2⟩ | ⟨v, w, l1, l2, av⟩
 ·exact .inl ⟨l1, by rw [← l2]; exact eA.k e1⟩
 ·exact .inr ⟨v, w, l1, by rw [← l2]; exact eA.k e1, av⟩
theorem CH {K : PySem.W.Frag} {H : Hp} {M : Mm} {a : Addr} {y : V} {k : List aN} {ks : List (List aN × V)} {kvs : List (List aN × W)} (e1 : H a = some (.dT ks)) (q : dY K H M (List aN) ks kvs) (ay : AV K H M y (.tup (k.map wK))) : (gX kvs k = none ∧ eA H a y none) ∨ ∃ v w, gX kvs k = some w ∧ eA H a y (some v) ∧ AV K H M v w := by
 cases ay with
 | tup eb qb =>
  have eb' := eb
  rw [qb.keys] at eb'
  rcases CD q k with ⟨l1, l2⟩ | ⟨v, w, l1, l2, av⟩
  ·exact .inl ⟨l1, by rw [← l2]; exact eA.t e1 eb'⟩
  ·exact .inr ⟨v, w, l1, by rw [← l2]; exact eA.t e1 eb', av⟩
theorem vN {K : PySem.W.Frag} {H : Hp} {M : Mm} {x y : V} {wx wy : W} {o : Option W} (am : AM K H M) (ax : AV K H M x wx) (ay : AV K H M y wy) (h : d0 M wx wy o) : ∃ a, x = .ref a ∧ ((o = none ∧ eA H a y none) ∨ ∃ v w, o = some w ∧ eA H a y (some v) ∧ AV K H M v w) := by
 cases ax <;> first | exact (show False from h).elim | skip
 case ref a =>
  rcases h with ⟨kvs, k, e, rfl, rfl⟩ | ⟨kvs, k, e, rfl, rfl⟩
  ·obtain ⟨ks, e1, q⟩ := am _ _ e
   exact ⟨a, rfl, CG e1 q ay⟩
  ·obtain ⟨ks, e1, q⟩ := am _ _ e
   exact ⟨a, rfl, CH e1 q ay⟩
 case dk a ks kvs e _ ke q =>
  obtain ⟨k, rfl, rfl⟩ := h
  exact ⟨a, rfl, CG e (mX ke q) ay⟩
 case dt a ks kvs e _ ke q =>
  obtain ⟨k, rfl, rfl⟩ := h
  exact ⟨a, rfl, CH e (mX ke q) ay⟩
def bG : R3
 | .tup ws, .int i, M, R => ∃ w, cC ws i = some w ∧ R w M
 | .rl ws, .int i, M, R => ∃ w, cC ws i = some w ∧ R w M
 | .sc ws, .int i, M, R => ∃ w, cC ws i = some w ∧ R w M
 | .dk kvs, y, M, R => ∃ w, d0 M (.dk kvs) y (some w) ∧ R w M
 | .dt kvs, y, M, R => ∃ w, d0 M (.dt kvs) y (some w) ∧ R w M
 | .str z, .int i, M, R => z.length ≤ sizeLine ∧ ∃ c, cC z.cps.toList i = some c ∧ R (.str ⟨#[c]⟩) M
 | .ref a, .int i, M, R => (∃ ws w, M a = some (.lst ws) ∧ cC ws i = some w ∧ R w M) ∨ ∃ w, d0 M (.ref a) (.int i) (some w) ∧ R w M
 | .ref a, y, M, R => ∃ w, d0 M (.ref a) y (some w) ∧ R w M
 | _, _, _, _ => False
theorem sF {K : PySem.W.Frag} {H : Hp} {M : Mm} {vs : List V} {ws : List W} {i : Int} {w : W} (q : aJ K H M vs ws) (h : cC ws i = some w) : ∃ v, cC vs i = some v ∧ AV K H M v w := by
 unfold cC at h ⊢
 rw [q.length]
 cases e : gE ws.length i with
 | none => rw [e] at h; cases h
 | some j =>
  rw [e] at h
  exact q.getW (i := j) h
theorem PL (hu : X.A.units + 1 < cLine) : mS X (fun x y H Q => ∃ a v, x = .ref a ∧ eA H a y (some v) ∧ Q v H) := by
 intro value slice pins s σ H x y v u Q I rx ry h hs
 obtain ⟨a, z, rfl, g, q⟩ := h
 cases rx
 exact tail_any (OE I g) PySem.F.slot_dict_getitem.lookup (OA hu I g ry fun w' s3 I3 rw' => ⟨z, H, I3, rw', q⟩) hs
theorem PM (hu : X.A.units + 1 < cLine) : mS X (cV X.K bG) := by
 rintro value slice pins s σ H x y v u Q I rx ry ⟨wx, wy, M, R, am, ax, ay, h, k⟩ hs
 have dict : (∃ w, d0 M wx wy (some w) ∧ R w M) → wpAny (model X.prog X.w) X.A (subscriptTail value slice v u) (EP X pins σ Q) X.xe s := fun ⟨w, g, r⟩ => by
  obtain ⟨a, e, g⟩ := vN am ax ay g
  rcases g with ⟨z, _⟩ | ⟨z, w', e', g', av⟩
  ·cases z
  ·cases e'
   exact PL hu value slice pins s σ H x y v u Q I rx ry ⟨a, z, e, g', k.at am av r⟩ hs
 cases ax <;> first | exact (show False from h).elim | skip
 case str z =>
  cases ay <;> first | exact (show False from h).elim | skip
  case int i =>
   obtain ⟨hz, c, e, r⟩ := h
   exact NS value slice pins s σ H _ _ v u Q I rx ry ⟨z, i, c, rfl, rfl, hz, e, k.at am (.str _) r⟩ hs
 case tup a xs ws e q =>
  cases ay <;> first | exact (show False from h).elim | skip
  case int i =>
   obtain ⟨w, e2, r⟩ := h
   obtain ⟨z, e3, av⟩ := sF q e2
   exact NR value slice pins s σ H _ _ v u Q I rx ry ⟨a, xs, i, z, rfl, rfl, bV.of e, e3, k.at am av r⟩ hs
 case dk a ks kvs e n ke q => exact dict (by cases ay <;> exact h)
 case dt a ks kvs e n ke q => exact dict (by cases ay <;> exact h)
 case rl a xs ws e _ q =>
  cases ay <;> first | exact (show False from h).elim | skip
  case int i =>
   obtain ⟨w, e2, r⟩ := h
   obtain ⟨z, e3, av⟩ := sF q e2
   exact uV value slice pins s σ H _ _ v u Q I rx ry ⟨a, xs, i, z, rfl, rfl, a6.of e, e3, k.at am av r⟩ hs
 case sc a xs ws e q =>
  cases ay <;> first | exact (show False from h).elim | skip
  case int i =>
   obtain ⟨w, e2, r⟩ := h
   obtain ⟨z, e3, av⟩ := sF q e2
   exact uV value slice pins s σ H _ _ v u Q I rx ry ⟨a, xs, i, z, rfl, rfl, e.sq, e3, k.at am av r⟩ hs
 case ref a =>
  cases ay <;> first | exact dict h | skip
  case int i =>
   rcases h with ⟨ws, w, e, e2, r⟩ | h
   ·obtain ⟨vs, f, q⟩ := am.lst e
    obtain ⟨z, e3, av⟩ := sF q e2
    exact uV value slice pins s σ H _ _ v u Q I rx ry ⟨a, vs, i, z, rfl, rfl, a6.of f, e3, k.at am av r⟩ hs
   ·exact dict h
variable {a b : Expr} {ta tb : aR} {pos : Pos}
theorem bX (hu : X.A.units + 1 < cLine) (ha : E3 X a ta) (hb : E3 X b tb) (hs : uU b := by exact fun _ _ => rfl) : E3 X (.Subscript a b pos) (aB bG ta tb) := (NL (PM hu) ha hb hs).weak fun _ _ _ h => r9 h
def b8 (ws : List W) (lo hi : Option Int) : List W := (ws.drop (HT.sIx ws.length 0 lo)).take (HT.sIx ws.length ws.length hi - HT.sIx ws.length 0 lo)
def l0 : W → Option Int → Option Int → Mm → K3 → Prop
 | .rl ws, lo, hi, M, R => aZ (b8 ws lo hi) M R
 | .sc ws, lo, hi, M, R => aZ (b8 ws lo hi) M R
 | .ref a, lo, hi, M, R => ∃ ws, M a = some (.lst ws) ∧ aZ (b8 ws lo hi) M R
 | .tup ws, lo, hi, M, R => ¬ (HT.sIx ws.length 0 lo = 0 ∧ HT.sIx ws.length ws.length hi = ws.length) ∧ R (.tup (b8 ws lo hi)) M
 | _, _, _, _, _ => False
theorem oQ {K : PySem.W.Frag} {H : Hp} {M : Mm} {vs : List V} {ws : List W} {lo hi : Option Int} (q : aJ K H M vs ws) : aJ K H M (kT vs lo hi) (b8 ws lo hi) := by
 unfold kT b8
 rw [q.length]
 exact (q.drop _).take _
def CI (K : PySem.W.Frag) (r : W → Option Int → Option Int → Mm → K3 → Prop) : V → Option Int → Option Int → Hp → VK → Prop := fun x lo hi H Q => ∃ wx M R, AM K H M ∧ AV K H M x wx ∧ r wx lo hi M R ∧ Up K H M R Q
theorem PN : lV X (CI X.K l0) := by
 rintro pins s σ H x v vl vu lo hi sl Q I rx hs pl pu ⟨wx, M, R, am, ax, h, k⟩
 cases ax <;> first | exact (show False from h).elim | skip
 case tup a xs ws e q => exact AW pins s σ H _ v vl vu lo hi sl Q I rx hs pl pu ⟨a, xs, rfl, bV.of e, by rw [q.length]; exact h.1, fun p hp => k9 am k hp (oQ q) h.2⟩
 case sc a xs ws e q => exact uW pins s σ H _ v vl vu lo hi sl Q I rx hs pl pu ⟨a, xs, rfl, e.sq, fun p hp => eS am k hp (oQ q) h⟩
 case rl a xs ws e _ q => exact uW pins s σ H _ v vl vu lo hi sl Q I rx hs pl pu ⟨a, xs, rfl, a6.of e, fun p hp => eS am k hp (oQ q) h⟩
 case ref a =>
  obtain ⟨ws, e, r⟩ := h
  obtain ⟨vs, f, q⟩ := am.lst e
  exact uW pins s σ H _ v vl vu lo hi sl Q I rx hs pl pu ⟨a, vs, rfl, a6.of f, fun p hp => eS am k hp (oQ q) r⟩
abbrev lA := S3 → Mm → (Option Int → Mm → Prop) → Prop
def nB (K : PySem.W.Frag) (t : lA) : TO := fun σ H Q => ∃ (τ : S3) (M : Mm) (R : Option Int → Mm → Prop), AS K H M σ τ ∧ AM K H M ∧ t τ M R ∧ ∀ o H' M', Kp H M H' M' → AM K H' M' → R o M' → Q o H'
def fW : lA := fun _ M Q => Q none M
def d8 (t : aR) : lA := fun τ M Q => t τ M fun x M1 => ∃ i, x = .int i ∧ Q (some i) M1
theorem iA : PO X none (nB X.K fW) := NF.weak fun σ H Q ⟨τ, M, R, as, am, h, k⟩ => k none H M (Kp.refl am) am h
theorem fE (h : E3 X a ta) : PO X (some a) (nB X.K (d8 ta)) := (NG h).weak fun σ H Q ⟨τ, M, R, as, am, h, k⟩ => ⟨τ, M, _, as, am, h, fun x H1 wx M1 k1 am1 ax ⟨i, e, h1⟩ => by
 subst e; cases ax; exact ⟨i, rfl, k _ _ _ k1 am1 h1⟩⟩
def PQ (ta : aR) (tl th : lA) : aR := fun τ M R => ta τ M fun x M1 => tl τ M1 fun l M2 => th τ M2 fun u M3 => l0 x l u M3 R
def c5 : W → Bool
 | .non => true
 | .bl _ => true
 | .int _ => true
 | .str _ => true
 | _ => false
def vO : W → W → Bool
 | .non, .non => true
 | .bl a, .bl b => a == b
 | .bl a, .int b => (if a then 1 else 0) == b
 | .int a, .bl b => a == (if b then 1 else 0)
 | .int a, .int b => a == b
 | .str a, .str b => a == b
 | _, _ => false
def inW (x : W) (ws : List W) : Bool := ws.any fun y => vO y x
theorem AV.flat {K : PySem.W.Frag} {H : Hp} {M : Mm} {v : V} {w : W} (h : AV K H M v w) (f : c5 w = true) : jN v = true := by cases h <;> first | rfl | exact f
theorem AV.eq {K : PySem.W.Frag} {H : Hp} {M : Mm} {v u : V} {w z : W} (h : AV K H M v w) (h2 : AV K H M u z) (f : c5 w = true) (f2 : c5 z = true) : j3 v u = vO w z := by
 cases h <;> cases h2 <;> first | rfl | (exact absurd f Bool.false_ne_true) | (exact absurd f2 Bool.false_ne_true)
theorem aJ.inn {K : PySem.W.Frag} {H : Hp} {M : Mm} {u : V} {z : W} (hz : AV K H M u z) (fz : c5 z = true) : ∀ {vs : List V} {ws : List W}, aJ K H M vs ws → ws.all c5 = true → vs.all jN = true ∧ inV u vs = inW z ws
 | _, _, .nil, _ => ⟨rfl, rfl⟩
 | _, _, .cons x r, f => by
  rw [List.all_cons, Bool.and_eq_true] at f
  obtain ⟨h1, h2⟩ := aJ.inn hz fz r f.2
  refine ⟨by rw [List.all_cons, x.flat f.1, h1]; rfl, ?_⟩
  unfold inV inW at h2 ⊢
  rw [List.any_cons, List.any_cons, h2, x.eq hz f.1 fz]
def occ (i j : Str) : Bool := !(Builtin.Str.occurrences j i 0 j.length 1).isEmpty
def rIn (neg : Bool) : R3
 | .str i, .str j, M, R => R (.bl (if neg then !occ i j else occ i j)) M
 | x, .tup ws, M, R => c5 x = true ∧ ws.all c5 = true ∧ R (.bl (if neg then !inW x ws else inW x ws)) M
 | x, .rl ws, M, R => c5 x = true ∧ ws.all c5 = true ∧ R (.bl (if neg then !inW x ws else inW x ws)) M
 | x, .ref a, M, R => (∃ ws, M a = some (.lst ws) ∧ c5 x = true ∧ ws.all c5 = true ∧ R (.bl (if neg then !inW x ws else inW x ws)) M) ∨ ∃ o, d0 M (.ref a) x o ∧ R (.bl (if neg then !o.isSome else o.isSome)) M
 | x, .dk kvs, M, R => ∃ o, d0 M (.dk kvs) x o ∧ R (.bl (if neg then !o.isSome else o.isSome)) M
 | x, .dt kvs, M, R => ∃ o, d0 M (.dt kvs) x o ∧ R (.bl (if neg then !o.isSome else o.isSome)) M
 | _, _, _, _ => False
theorem CJ (hu : X.A.units + 1 < cLine) : bC X (compareOp .In) (cV X.K (rIn false)) := by
 rintro pins s σ H x y v u Q I rx ry ⟨wx, wy, M, R, am, ax, ay, h, k⟩
 have dict : ∀ {y : V} {u : Value} {wy : W}, RelV y u → AV X.K H M y wy → ∀ o, d0 M wy wx o → R (.bl (o.isSome)) M → wpAny (model X.prog X.w) X.A (compareOp .In v u) (EP X pins σ Q) X.xe s := fun {y u wy} ry ay o g r => by
  obtain ⟨a, rfl, g⟩ := vN am ay ax g
  cases ry
  rcases g with ⟨rfl, g'⟩ | ⟨z, w, rfl, g', av⟩
  ·exact A9 hu I g' rx fun s3 I3 => ⟨.bl false, H, I3, rfl, k.at am (.bl _) r⟩
  ·exact A9 hu I g' rx fun s3 I3 => ⟨.bl true, H, I3, rfl, k.at am (.bl _) r⟩
 cases ay <;> first | (cases wx <;> exact (show False from h).elim) | skip
 case str j =>
  cases ax <;> first | exact (show False from h).elim | skip
  case str i => exact MC pins s σ H _ _ v u Q I rx ry ⟨i, j, rfl, rfl, k.at am (.bl _) h⟩
 case tup a xs ws e q =>
  have h : c5 wx = true ∧ ws.all c5 = true ∧ R (.bl (inW wx ws)) M := by cases wx <;> exact h
  obtain ⟨h1, h2⟩ := aJ.inn ax h.1 q h.2.1
  exact uX pins s σ H _ _ v u Q I rx ry ⟨a, xs, rfl, .inr (bV.of e), ax.flat h.1, h1, by rw [h2]; exact k.at am (.bl _) h.2.2⟩
 case rl a xs ws e _ q =>
  have h : c5 wx = true ∧ ws.all c5 = true ∧ R (.bl (inW wx ws)) M := by cases wx <;> exact h
  obtain ⟨h1, h2⟩ := aJ.inn ax h.1 q h.2.1
  exact uX pins s σ H _ _ v u Q I rx ry ⟨a, xs, rfl, .inl (a6.of e), ax.flat h.1, h1, by rw [h2]; exact k.at am (.bl _) h.2.2⟩
 case dk a ks kvs e n ke q =>
  have h : ∃ o, d0 M (.dk kvs) wx o ∧ R (.bl (o.isSome)) M := by cases wx <;> exact h
  obtain ⟨o, g, r⟩ := h
  exact dict ry (.dk e n ke q) o g r
 case dt a ks kvs e n ke q =>
  have h : ∃ o, d0 M (.dt kvs) wx o ∧ R (.bl (o.isSome)) M := by cases wx <;> exact h
  obtain ⟨o, g, r⟩ := h
  exact dict ry (.dt e n ke q) o g r
 case ref a =>
  have h : (∃ ws, M a = some (.lst ws) ∧ c5 wx = true ∧ ws.all c5 = true ∧ R (.bl (inW wx ws)) M) ∨ ∃ o, d0 M (.ref a) wx o ∧ R (.bl o.isSome) M := by cases wx <;> exact h
  rcases h with ⟨ws, e, h⟩ | ⟨o, g, r⟩
  ·obtain ⟨vs, f, q⟩ := am.lst e
   obtain ⟨h1, h2⟩ := aJ.inn ax h.1 q h.2.1
   exact uX pins s σ H _ _ v u Q I rx ry ⟨a, vs, rfl, .inl (a6.of f), ax.flat h.1, h1, by rw [h2]; exact k.at am (.bl _) h.2.2⟩
  ·exact dict ry (.ref a) o g r
theorem vP (hu : X.A.units + 1 < cLine) : bC X (compareOp .NotIn) (cV X.K (rIn true)) := by
 rintro pins s σ H x y v u Q I rx ry ⟨wx, wy, M, R, am, ax, ay, h, k⟩
 have dict : ∀ {y : V} {u : Value} {wy : W}, RelV y u → AV X.K H M y wy → ∀ o, d0 M wy wx o → R (.bl (!o.isSome)) M → wpAny (model X.prog X.w) X.A (compareOp .NotIn v u) (EP X pins σ Q) X.xe s := fun {y u wy} ry ay o g r => by
  obtain ⟨a, rfl, g⟩ := vN am ay ax g
  cases ry
  rcases g with ⟨rfl, g'⟩ | ⟨z, w, rfl, g', av⟩
  ·exact BA hu I g' rx fun s3 I3 => ⟨.bl true, H, I3, rfl, k.at am (.bl _) r⟩
  ·exact BA hu I g' rx fun s3 I3 => ⟨.bl false, H, I3, rfl, k.at am (.bl _) r⟩
 cases ay <;> first | (cases wx <;> exact (show False from h).elim) | skip
 case str j =>
  cases ax <;> first | exact (show False from h).elim | skip
  case str i => exact ME pins s σ H _ _ v u Q I rx ry ⟨i, j, rfl, rfl, k.at am (.bl _) h⟩
 case tup a xs ws e q =>
  have h : c5 wx = true ∧ ws.all c5 = true ∧ R (.bl (!inW wx ws)) M := by cases wx <;> exact h
  obtain ⟨h1, h2⟩ := aJ.inn ax h.1 q h.2.1
  exact uY pins s σ H _ _ v u Q I rx ry ⟨a, xs, rfl, .inr (bV.of e), ax.flat h.1, h1, by rw [h2]; exact k.at am (.bl _) h.2.2⟩
 case rl a xs ws e _ q =>
  have h : c5 wx = true ∧ ws.all c5 = true ∧ R (.bl (!inW wx ws)) M := by cases wx <;> exact h
  obtain ⟨h1, h2⟩ := aJ.inn ax h.1 q h.2.1
  exact uY pins s σ H _ _ v u Q I rx ry ⟨a, xs, rfl, .inl (a6.of e), ax.flat h.1, h1, by rw [h2]; exact k.at am (.bl _) h.2.2⟩
 case dk a ks kvs e n ke q =>
  have h : ∃ o, d0 M (.dk kvs) wx o ∧ R (.bl (!o.isSome)) M := by cases wx <;> exact h
  obtain ⟨o, g, r⟩ := h
  exact dict ry (.dk e n ke q) o g r
 case dt a ks kvs e n ke q =>
  have h : ∃ o, d0 M (.dt kvs) wx o ∧ R (.bl (!o.isSome)) M := by cases wx <;> exact h
  obtain ⟨o, g, r⟩ := h
  exact dict ry (.dt e n ke q) o g r
 case ref a =>
  have h : (∃ ws, M a = some (.lst ws) ∧ c5 wx = true ∧ ws.all c5 = true ∧ R (.bl (!inW wx ws)) M) ∨ ∃ o, d0 M (.ref a) wx o ∧ R (.bl (!o.isSome)) M := by cases wx <;> exact h
  rcases h with ⟨ws, e, h⟩ | ⟨o, g, r⟩
  ·obtain ⟨vs, f, q⟩ := am.lst e
   obtain ⟨h1, h2⟩ := aJ.inn ax h.1 q h.2.1
   exact uY pins s σ H _ _ v u Q I rx ry ⟨a, vs, rfl, .inl (a6.of f), ax.flat h.1, h1, by rw [h2]; exact k.at am (.bl _) h.2.2⟩
  ·exact dict ry (.ref a) o g r
def dJ : List W → Mm → K3 → Prop
 | [.tup ws], M, R => R (.int ws.length) M
 | [.rl ws], M, R => R (.int ws.length) M
 | [.sc ws], M, R => R (.int ws.length) M
 | [.dk kvs], M, R => R (.int kvs.length) M
 | [.str z], M, R => z.length ≤ sizeLine ∧ R (.int z.length) M
 | [.ref a], M, R => (∃ ws, M a = some (.lst ws) ∧ R (.int ws.length) M) ∨ ∃ kvs, M a = some (.dK kvs) ∧ R (.int kvs.length) M
 | _, _, _ => False
theorem aJ.one {K : PySem.W.Frag} {H : Hp} {M : Mm} {vs : List V} {w : W} (h : aJ K H M vs [w]) : ∃ v, vs = [v] ∧ AV K H M v w := by
 cases h with
 | cons x r => cases r; exact ⟨_, rfl, x⟩
theorem aJ.two {K : PySem.W.Frag} {H : Hp} {M : Mm} {vs : List V} {w z : W} (h : aJ K H M vs [w, z]) : ∃ v u, vs = [v, u] ∧ AV K H M v w ∧ AV K H M u z := by
 cases h with
 | cons x r => obtain ⟨u, rfl, y⟩ := r.one; exact ⟨_, _, rfl, x, y⟩
theorem fF : c8 X (.builtin "len") (gI X.K dJ) := by
 rintro pins s σ H xs us Q I rs ⟨ws, M, R, am, axs, h, k⟩
 match ws, h with
 | [.tup ws], h =>
  obtain ⟨v, rfl, av⟩ := axs.one
  cases av with
  | tup e q => exact rJ pins s σ H _ us Q I rs ⟨_, _, rfl, .inr (bV.of e), by rw [q.length]; exact k.at am (.int _) h⟩
 | [.rl ws], h =>
  obtain ⟨v, rfl, av⟩ := axs.one
  cases av with
  | rl e _ q => exact rJ pins s σ H _ us Q I rs ⟨_, _, rfl, .inl (a6.of e), by rw [q.length]; exact k.at am (.int _) h⟩
 | [.sc ws], h =>
  obtain ⟨v, rfl, av⟩ := axs.one
  cases av with
  | sc e q => exact rJ pins s σ H _ us Q I rs ⟨_, _, rfl, .inl e.sq, by rw [q.length]; exact k.at am (.int _) h⟩
 | [.dk kvs], h =>
  obtain ⟨v, rfl, av⟩ := axs.one
  cases av with
  | dk e n ke q => exact BE pins s σ H _ us Q I rs ⟨_, _, rfl, e, by rw [Paired.length (mX ke q)]; exact k.at am (.int _) h⟩
 | [.str z], h =>
  obtain ⟨v, rfl, av⟩ := axs.one
  cases av
  exact N0 pins s σ H _ us Q I rs ⟨z, rfl, h.1, k.at am (.int _) h.2⟩
 | [.ref a], h =>
  obtain ⟨v, rfl, av⟩ := axs.one
  cases av
  rcases h with ⟨ws, e, r⟩ | ⟨kvs, e, r⟩
  ·obtain ⟨vs, f, q⟩ := am.lst e
   exact rJ pins s σ H _ us Q I rs ⟨_, _, rfl, .inl (a6.of f), by rw [q.length]; exact k.at am (.int _) r⟩
  ·obtain ⟨ks, f, q⟩ := am _ _ e
   exact BE pins s σ H _ us Q I rs ⟨a, ks, rfl, f, by rw [Paired.length q]; exact k.at am (.int _) r⟩
def lB : List W → Mm → K3 → Prop
 | [.tup ws], M, R => aZ ws M R
 | [.rl ws], M, R => aZ ws M R
 | [.sc ws], M, R => aZ ws M R
 | [.dk kvs], M, R => aZ (kvs.map fun kv => wK kv.1) M R
 | [.ref a], M, R => (∃ ws, M a = some (.lst ws) ∧ aZ ws M R) ∨ ∃ kvs, M a = some (.dK kvs) ∧ aZ (kvs.map fun kv => wK kv.1) M R
 | _, _, _ => False
theorem CK {K : PySem.W.Frag} {H : Hp} {M : Mm} {ks : List (aN × V)} {kvs : List (aN × W)} (h : dY K H M aN ks kvs) : aJ K H M (ks.map fun kv => kV kv.1) (kvs.map fun kv => wK kv.1) := by
 induction h with
 | nil => exact .nil
 | @cons p q ps qs r t ih =>
  refine .cons ?_ ih
  show AV K H M (kV p.1) (wK q.1)
  rw [r.1]
  cases q.1 with
  | inl i => exact .int i
  | inr x => exact .str x
theorem vQ (hc : X.calm = true) : c8 X (.type "list") (gI X.K lB) := by
 rintro pins s σ H xs us Q I rs ⟨ws, M, R, am, axs, h, k⟩
 match ws, h with
 | [.tup ws], h =>
  obtain ⟨v, rfl, av⟩ := axs.one
  cases av with
  | tup e q => exact rK pins s σ H _ us Q I rs ⟨_, _, rfl, .inr (bV.of e), fun p hp => eS am k hp q h⟩
 | [.rl ws], h =>
  obtain ⟨v, rfl, av⟩ := axs.one
  cases av with
  | rl e _ q => exact rK pins s σ H _ us Q I rs ⟨_, _, rfl, .inl (a6.of e), fun p hp => eS am k hp q h⟩
 | [.sc ws], h =>
  obtain ⟨v, rfl, av⟩ := axs.one
  cases av with
  | sc e q => exact rK pins s σ H _ us Q I rs ⟨_, _, rfl, .inl e.sq, fun p hp => eS am k hp q h⟩
 | [.dk kvs], h =>
  obtain ⟨v, rfl, av⟩ := axs.one
  cases av with
  | dk e n ke q => exact BX hc pins s σ H _ us Q I rs ⟨_, _, rfl, e, fun p hp => eS am k hp (CK (mX ke q)) h⟩
 | [.ref a], h =>
  obtain ⟨v, rfl, av⟩ := axs.one
  cases av
  rcases h with ⟨ws, e, r⟩ | ⟨kvs, e, r⟩
  ·obtain ⟨vs, f, q⟩ := am.lst e
   exact rK pins s σ H _ us Q I rs ⟨_, _, rfl, .inl (a6.of f), fun p hp => eS am k hp q r⟩
  ·obtain ⟨ks, f, q⟩ := am _ _ e
   exact BX hc pins s σ H _ us Q I rs ⟨a, ks, rfl, f, fun p hp => eS am k hp (CK q) r⟩
def nC : List W → Mm → K3 → Prop
 | [.tup ws], M, R => R (.tup ws) M
 | [.rl ws], M, R => R (.tup ws) M
 | [.ref a], M, R => ∃ ws, M a = some (.lst ws) ∧ R (.tup ws) M
 | _, _, _ => False
theorem CL : c8 X (.type "tuple") (gI X.K nC) := by
 rintro pins s σ H xs us Q I rs ⟨ws, M, R, am, axs, h, k⟩
 match ws, h with
 | [.tup ws], h =>
  obtain ⟨v, rfl, av⟩ := axs.one
  cases av with
  | tup e q => exact uZ pins s σ H _ us Q I rs ⟨_, _, rfl, .inr ⟨bV.of e, k.at am (.tup e q) h⟩⟩
 | [.rl ws], h =>
  obtain ⟨v, rfl, av⟩ := axs.one
  cases av with
  | rl e _ q => exact uZ pins s σ H _ us Q I rs ⟨_, _, rfl, .inl ⟨a6.of e, fun p hp => k9 am k hp q h⟩⟩
 | [.ref a], h =>
  obtain ⟨v, rfl, av⟩ := axs.one
  cases av
  obtain ⟨ws, e, r⟩ := h
  obtain ⟨vs, f, q⟩ := am.lst e
  exact uZ pins s σ H _ us Q I rs ⟨_, _, rfl, .inl ⟨a6.of f, fun p hp => k9 am k hp q r⟩⟩
def l3 : List W → Mm → K3 → Prop
 | [.int i], M, R => i.natAbs.log2 < 1920 ∧ R (.str (toString i)) M
 | _, _, _ => False
theorem vR : c8 X (.type "str") (gI X.K l3) := by
 rintro pins s σ H xs us Q I rs ⟨ws, M, R, am, axs, h, k⟩
 match ws, h with
 | [.int i], h =>
  obtain ⟨v, rfl, av⟩ := axs.one
  cases av
  exact MN pins s σ H _ us Q I rs ⟨i, rfl, h.1, k.at am (.str _) h.2⟩
def bools (bs : List Bool) : List W := bs.map W.bl
theorem aJ.bools {K : PySem.W.Frag} {H : Hp} {M : Mm} : ∀ {bs : List Bool} {vs : List V}, aJ K H M vs (L3.bools bs) → vs = bs.map V.bl
 | [], _, h => by cases h; rfl
 | b :: r, _, h => by
  cases h with
  | cons x y => cases x; rw [aJ.bools y]; rfl
theorem aJ.ints {K : PySem.W.Frag} {H : Hp} {M : Mm} : ∀ {bs : List Int} {vs : List V}, aJ K H M vs (bs.map W.int) → vs = bs.map V.int
 | [], _, h => by cases h; rfl
 | b :: r, _, h => by
  cases h with
  | cons x y => cases x; rw [aJ.ints y]; rfl
def j8 : List W → Mm → K3 → Prop
 | [.ref a], M, R => ∃ bs, M a = some (.lst (bools bs)) ∧ R (.bl (bs.all id)) M
 | [.rl ws], M, R => ∃ bs, ws = bools bs ∧ R (.bl (bs.all id)) M
 | _, _, _ => False
theorem vS (hc : X.calm = true) : c8 X (.builtin "all") (gI X.K j8) := by
 rintro pins s σ H xs us Q I rs ⟨ws, M, R, am, axs, h, k⟩
 match ws, h with
 | [.ref a], h =>
  obtain ⟨v, rfl, av⟩ := axs.one
  cases av
  obtain ⟨bs, e, r⟩ := h
  obtain ⟨vs, f, q⟩ := am.lst e
  rw [q.bools] at f
  exact BM hc pins s σ H _ us Q I rs ⟨a, bs, rfl, a6.of f, k.at am (.bl _) r⟩
 | [.rl ws], h =>
  obtain ⟨v, rfl, av⟩ := axs.one
  obtain ⟨bs, rfl, r⟩ := h
  cases av with
  | rl f _ q =>
   rw [q.bools] at f
   exact BM hc pins s σ H _ us Q I rs ⟨_, bs, rfl, a6.of f, k.at am (.bl _) r⟩
def l4 : W → List W → Mm → K3 → Prop
 | .ref l, [y], M, R => ∃ ws, M l = some (.lst ws) ∧ ws.length < sizeLine ∧ R .non (put M l (.lst (ws ++ [y])))
 | _, _, _, _ => False
theorem sG : fR X "list.append" (iN X.K l4) := by
 rintro pins s σ H x xs v us Q I rx rs ⟨wx, ws, M, R, am, ax, axs, h, k⟩
 match wx, ws, h with
 | .ref l, [y], h =>
  obtain ⟨z, rfl, az⟩ := axs.one
  cases ax
  obtain ⟨ws, e, hl, r⟩ := h
  obtain ⟨vs, f, q⟩ := am.lst e
  exact u1 pins s σ H _ _ v us Q I rx rs ⟨l, vs, z, rfl, rfl, f, by rw [q.length]; exact hl, sE am k e (q.append (.cons az .nil)) .non r⟩
def sH : W → List W → Mm → K3 → Prop
 | .ref l, [.ref b], M, R => ∃ ws zs, M l = some (.lst ws) ∧ M b = some (.lst zs) ∧ ws.length + zs.length ≤ sizeLine ∧ R .non (put M l (.lst (ws ++ zs)))
 | .ref l, [.rl zs], M, R => ∃ ws, M l = some (.lst ws) ∧ ws.length + zs.length ≤ sizeLine ∧ R .non (put M l (.lst (ws ++ zs)))
 | _, _, _, _ => False
theorem PR : fR X "list.extend" (iN X.K sH) := by
 rintro pins s σ H x xs v us Q I rx rs ⟨wx, ws, M, R, am, ax, axs, h, k⟩
 match wx, ws, h with
 | .ref l, [.ref b], h =>
  obtain ⟨z, rfl, az⟩ := axs.one
  cases ax
  cases az
  obtain ⟨ws, zs, e, e2, hl, r⟩ := h
  obtain ⟨vs, f, q⟩ := am.lst e
  obtain ⟨vz, f2, q2⟩ := am.lst e2
  exact A2 pins s σ H _ _ v us Q I rx rs ⟨l, b, vs, vz, rfl, rfl, f, f2, by rw [q.length, q2.length]; exact hl, sE am k e (q.append q2) .non r⟩
 | .ref l, [.rl zs], h =>
  obtain ⟨z, rfl, az⟩ := axs.one
  cases ax
  cases az with
  | rl f2 _ q2 =>
   obtain ⟨ws, e, hl, r⟩ := h
   obtain ⟨vs, f, q⟩ := am.lst e
   exact A2 pins s σ H _ _ v us Q I rx rs ⟨l, _, vs, _, rfl, rfl, f, f2, by rw [q.length, q2.length]; exact hl, sE am k e (q.append q2) .non r⟩
def rPop : W → List W → Mm → K3 → Prop
 | .ref l, [], M, R => ∃ ws w, M l = some (.lst (ws ++ [w])) ∧ R w (put M l (.lst ws))
 | _, _, _, _ => False
def vT : aR := fun _ M R => O6 [] M R
def PU : aR := fun _ M R => O7 [] M R
theorem PV : E3 X (.Dict [] [] pos) vT := OH.weak fun σ H Q ⟨τ, M, R, as, am, h, k⟩ p hp => by
 obtain ⟨am2, k2⟩ := am.laid (o := .dK []) (u := .dK []) hp ⟨[], fA, .nil⟩
 exact k _ _ _ _ k2 am2 (.ref p) (h p (am.nonM hp))
end
end L3
set_option Elab.async false
set_option compiler.extract_closed false
set_option bootstrap.genMatcherCode false
set_option linter.all false
set_option maxRecDepth 100000
set_option maxHeartbeats 4000000
namespace L3
open PySem PySem.Spec PyProof.Rows L2
abbrev P3 (X : Cx) (st : Stmt) (t : aF) : Prop := PS X st (mY X.K t)
abbrev b9 (X : Cx) (st : List Stmt) (t : aF) : Prop := dX X st (mY X.K t)
abbrev dR := W → S3 → Mm → (S3 → Mm → Prop) → Prop
abbrev l5 := List W → S3 → Mm → (S3 → Mm → Prop) → Prop
def iB (K : PySem.W.Frag) (g : dR) : TG := fun v σ H Q => ∃ w τ M R, AV K H M v w ∧ AS K H M σ τ ∧ AM K H M ∧ g w τ M R ∧ fT K H M R Q
def sI (K : PySem.W.Frag) (g : l5) : i0 := fun vs σ H Q => ∃ ws τ M R, aJ K H M vs ws ∧ AS K H M σ τ ∧ AM K H M ∧ g ws τ M R ∧ fT K H M R Q
section
variable {X : Cx} {pos : Pos}
theorem _root_.L2.PG.weak {e : Expr} {t t' : TG} (h : PG X e t) (k : ∀ v σ H Q, t' v σ H Q → t v σ H Q) : PG X e t' := fun pins s σ H v u Q I r q => h pins s σ H v u Q I r (k v σ H Q q)
theorem _root_.L2.iM.weak {e : List Expr} {t t' : i0} (h : iM X e t) (k : ∀ v σ H Q, t' v σ H Q → t v σ H Q) : iM X e t' := fun pins s σ H v u Q I r q => h pins s σ H v u Q I r (k v σ H Q q)
theorem fT.at {K : PySem.W.Frag} {H : Hp} {M : Mm} {R : S3 → Mm → Prop} {Q : SV → Hp → Prop} (h : fT K H M R Q) (am : AM K H M) {σ : SV} {τ : S3} (as : AS K H M σ τ) (r : R τ M) : Q σ H := h σ H τ M (Kp.refl am) am as r
def cH (i : Nat) : dR := fun w τ M R => R (τ.set i (some w)) M
theorem c6 {i : Nat} {x : Str} (hN : X.N.Nodup) (hi : X.N[i]? = some x) (hx : Loc X.env.scope x) (hf : X.fn x = true ∨ X.env.scope.names.lookup x = some .local := by first | exact .inl rfl | exact .inr rfl | assumption) : PG X (.Name x pos) (iB X.K (cH i)) :=
 (K8 hN hi hx hf).weak fun v σ H Q ⟨w, τ, M, R, av, as, am, h, k⟩ => k.at am (as.set av i) h
def sJ : l5 := fun ws τ M R => ws = [] ∧ R τ M
def lC (t : dR) (u : l5) : l5 := fun ws τ M R => match ws with
 | w :: r => t w τ M fun τ' M' => u r τ' M' R
 | [] => False
theorem CM : iM X [] (sI X.K sJ) := LB.weak fun vs σ H Q ⟨ws, τ, M, R, av, as, am, ⟨e, h⟩, k⟩ => by
 subst e; cases av; exact ⟨rfl, k.at am as h⟩
theorem nD {e : Expr} {es : List Expr} {t : dR} {u : l5} (h1 : PG X e (iB X.K t)) (h2 : iM X es (sI X.K u))
  (hs : (assignEach (e :: es) X.env).map (·.2) = assign e X.env :: (assignEach es X.env).map (·.2) := by rfl) : iM X (e :: es) (sI X.K (lC t u)) :=
 (LC h1 h2 hs).weak fun vs σ H Q ⟨ws, τ, M, R, av, as, am, h, k⟩ => by
  cases av with
  | nil => exact (show False from h).elim
  | cons x r => exact ⟨_, _, rfl, _, τ, M, _, x, as, am, h, fun σ' H' τ' M' k' am' as' h' => ⟨_, τ', M', R, r.kp am k', as', am', h', k.kp k'⟩⟩
def sL (n : Nat) (g : l5) : dR := fun w τ M R => match w with
 | .tup ws => ws.length = n ∧ g ws τ M R
 | .rl ws => ws.length = n ∧ g ws τ M R
 | .ref a => ∃ ws, M a = some (.lst ws) ∧ ws.length = n ∧ g ws τ M R
 | _ => False
theorem CN {es : List Expr} {k : Nat} {t : l5} {n : Nat} (hc : X.calm = true) (h : iM X es (sI X.K t))
  (hn : (assignEach es X.env).length = n := by rfl) (hst : (assignEach es X.env).findIdx? (·.1) = none := by rfl) : PG X (.Tuple es k pos) (iB X.K (sL n t)) := by
 rintro pins s σ H v u Q I r ⟨w, τ, M, R, av, as, am, hw, kk⟩
 cases av <;> first | exact (show False from hw).elim | skip
 case tup a xs ws e q =>
  exact LF hc h hn hst pins s σ H _ u Q I r ⟨a, xs, rfl, bV.of e, by rw [q.length]; exact hw.1, _, τ, M, R, q, as, am, hw.2, kk⟩
 case rl a vs ws f _ q =>
  exact BP hc h hn hst pins s σ H _ u Q I r ⟨a, vs, rfl, a6.of f, by rw [q.length]; exact hw.1, _, τ, M, R, q, as, am, hw.2, kk⟩
 case ref a =>
  obtain ⟨ws, e, hl, hw⟩ := hw
  obtain ⟨vs, f, q⟩ := am.lst e
  exact BP hc h hn hst pins s σ H _ u Q I r ⟨a, vs, rfl, a6.of f, by rw [q.length]; exact hl, _, τ, M, R, q, as, am, hw, kk⟩
def oR (te : aR) (g : dR) : aF := fun D τ M => te τ M fun x M1 => g x τ M1 D.nx
theorem PX {K : PySem.W.Frag} {te : aR} {g : dR} {D : hV} {σ : SV} {H : Hp} (h : mY K (oR te g) D σ H) : rF (up K te) (iB K g) D σ H := by
 obtain ⟨τ, M, D', as, am, h, k⟩ := h
 exact ⟨τ, M, _, as, am, h, fun x H1 wx M1 k1 am1 ax h1 => ⟨wx, τ, M1, D'.nx, ax, as.kp am k1, am1, h1, k.nx.kp k1⟩⟩
theorem CO {tg e : Expr} {te : aR} {g : dR} (he : E3 X e te) (hg : PG X tg (iB X.K g)) (hs : swapsWithSole [tg] e pos.line X.env = pure false := by rfl) (hw : swappedStores [tg] e X.env = pure none := by rfl)
  (h1 : (assignEach [tg] X.env).map (·.2) = [assign tg X.env] := by rfl) : P3 X (.Assign [tg] e pos) (oR te g) := (LI he hg hs hw h1).weak fun _ _ _ h => PX h
def bB (i : Nat) (te : aR) : aF := fun D τ M => te τ M fun x M1 => D.nx (τ.set i (some x)) M1
theorem bJ {i : Nat} {x : Str} {e : Expr} {te : aR} {pos' : Pos} (hN : X.N.Nodup) (hi : X.N[i]? = some x) (hx : Loc X.env.scope x) (he : E3 X e te) (hs : swapsWith e (some (.Name x pos')) pos.line X.env = pure false := by rfl) (hf : X.fn x = true ∨ X.env.scope.names.lookup x = some .local := by first | exact .inl rfl | exact .inr rfl | assumption) :
  P3 X (.Assign [.Name x pos'] e pos) (bB i te) := (zN hN hi hx he hs hf).weak fun D σ H ⟨τ, M, D', as, am, h, k⟩ => ⟨τ, M, _, as, am, h, fun y H1 wy M1 k1 am1 ay h1 => k.nx _ _ _ _ k1 am1 ((as.kp am k1).set ay i) h1⟩
def vU (o i v : W) (M : Mm) (Q : Mm → Prop) : Prop := match o with
 | .ref a => (∃ ws k j, i = .int k ∧ M a = some (.lst ws) ∧ gE ws.length k = some j ∧ Q (put M a (.lst (ws.set j v)))) ∨
   (∃ kvs k, i = wK k ∧ M a = some (.dK kvs) ∧ kvs.length < sizeLine ∧ Q (put M a (.dK (i8 kvs k v)))) ∨
   ∃ kvs k, i = .tup (k.map wK) ∧ M a = some (.dT kvs) ∧ kvs.length < sizeLine ∧ Q (put M a (.dT (i8 kvs k v)))
 | _ => False
def PY (K : PySem.W.Frag) : rD := fun o i v H Q => ∃ wo wi wv M R, AV K H M o wo ∧ AV K H M i wi ∧ AV K H M v wv ∧ AM K H M ∧ vU wo wi wv M R ∧ ∀ H' M', Kp H M H' M' → AM K H' M' → R M' → Q H'
theorem set_dict (hu : X.A.units + 1 < cLine) : rE X (fun o i v H Q => ∃ a H', o = .ref a ∧ kU H a i v H' ∧ Q H') := by
 intro pins s σ H o i v ov iv u Q I ro ri rv h
 obtain ⟨a, H', rfl, d, q⟩ := h
 cases ro
 exact OC hu I d ri rv fun s4 I4 => ⟨H', I4, q⟩
theorem PZ (hu : X.A.units + 1 < cLine) : rE X (PY X.K) := by
 rintro pins s σ H o i v ov iv u Q I ro ri rv ⟨wo, wi, wv, M, R, ao, ai, av, am, h, k⟩
 cases ao <;> first | exact (show False from h).elim | skip
 case ref a =>
  rcases h with ⟨ws, n, j, rfl, e, hj, r⟩ | ⟨kvs, n, rfl, e, hl, r⟩ | ⟨kvs, n, rfl, e, hl, r⟩
  ·cases ai
   obtain ⟨vs, f, q⟩ := am.lst e
   obtain ⟨am2, k2⟩ := am.write (o := .lst (ws.set j wv)) (u := .lst (vs.set j v)) e ⟨_, fA, (aJ.set av j q).wr am e⟩
   exact NV pins s σ H _ _ v ov iv u Q I ro ri rv ⟨a, vs, n, j, rfl, rfl, f, by rw [q.length]; exact hj, k _ _ k2 am2 r⟩
  ·obtain ⟨ks, f, q⟩ := am _ _ e
   rw [ai.key] at ri
   have z : AO X.K (aU H a (.dK (fS ks n v))) (put M a (.dK (i8 kvs n wv))) a (.dK (i8 kvs n wv)) := ⟨_, fA, Paired.mapP (CF q n av) fun p q z => ⟨z.1, z.2.wr am e⟩⟩
   obtain ⟨am2, k2⟩ := am.write e z
   exact set_dict hu pins s σ H _ _ v ov iv u Q I ro ri rv ⟨a, _, rfl, kU.k f (by rw [Paired.length q]; exact hl), k _ _ k2 am2 r⟩
  ·obtain ⟨ks, f, q⟩ := am _ _ e
   cases ai with
   | tup eb qb =>
    have eb' := eb
    rw [qb.keys] at eb'
    have z : AO X.K (aU H a (.dT (fS ks n v))) (put M a (.dT (i8 kvs n wv))) a (.dT (i8 kvs n wv)) := ⟨_, fA, Paired.mapP (CF q n av) fun p q z => ⟨z.1, z.2.wr am e⟩⟩
    obtain ⟨am2, k2⟩ := am.write e z
    exact set_dict hu pins s σ H _ _ v ov iv u Q I ro ri rv ⟨a, _, rfl, kU.t f eb' (by rw [Paired.length q]; exact hl), k _ _ k2 am2 r⟩
def vV (to ti : aR) : dR := fun w τ M R => to τ M fun o M1 => ti τ M1 fun i M2 => vU o i w M2 fun M3 => R τ M3
theorem w_sub {o i : Expr} {to ti : aR} (hu : X.A.units + 1 < cLine) (ho : E3 X o to) (hi : E3 X i ti)
  (ha : ∀ v, assign (.Subscript o i pos) X.env v = (do
   let ov ← holding [v] (eval o X.env)
   let iv ← holding [v, ov] (eval i X.env)
   standAt pos
   holding [v, ov, iv] (setItem ov iv v)
   release [v, ov, iv] []) := by intro _; rfl) : PG X (.Subscript o i pos) (iB X.K (vV to ti)) :=
 (LH ho hi (PZ hu) ha).weak fun v σ H Q ⟨w, τ, M, R, av, as, am, h, k⟩ => ⟨τ, M, _, as, am, h, fun o H1 wo M1 k1 am1 ao h1 => ⟨τ, M1, _, as.kp am k1, am1, h1, fun i H2 wi M2 k2 am2 ai h2 =>
  ⟨wo, wi, w, M2, _, ao.kp am1 k2, ai, (av.kp am k1).kp am1 k2, am2, h2, fun H' M' k' am' r => k _ _ _ _ ((k1.trans k2).trans k') am' (((as.kp am k1).kp am1 k2).kp am2 k') r⟩⟩⟩
def cP : aF := fun D τ M => D.nx τ M
def aL (t u : aF) : aF := fun D τ M => t { D with nx := u D } τ M
variable {st : Stmt} {rest : List Stmt} {t u : aF} {e : Expr} {te : aR}
theorem eC : b9 X [] cP := zH.weak fun D σ H ⟨τ, M, D', as, am, h, k⟩ => k.nx.at am as h
theorem a7 (h1 : P3 X st t) (h2 : b9 X rest u) : b9 X (st :: rest) (aL t u) := (zJ h1 h2).weak fun D σ H ⟨τ, M, D', as, am, h, k⟩ =>
 ⟨τ, M, _, as, am, h, ⟨fun σ' H' τ' M' k' am' as' h' => ⟨τ', M', D', as', am', h', k.kp k'⟩, k.rt, k.bk, k.ct⟩⟩
theorem bF (h1 : P3 X st t) : b9 X [st] t := zK h1
def j9 (te : aR) : aF := fun D τ M => te τ M fun _ M1 => D.nx τ M1
theorem nE (he : E3 X e te) (hs : swapsWith e none pos.line X.env = pure false := by rfl) : P3 X (.Expr e pos) (j9 te) := (zL he hs).weak fun D σ H ⟨τ, M, D', as, am, h, k⟩ =>
 ⟨τ, M, _, as, am, h, fun v H' w M' k' am' av r => k.nx _ _ _ _ k' am' (as.kp am k') r⟩
def bY (te : aR) : aF := fun D τ M => te τ M D.rt
theorem b6 (he : E3 X e te) : P3 X (.Return (some e) pos) (bY te) := (uH he).weak fun D σ H ⟨τ, M, D', as, am, h, k⟩ => ⟨τ, M, _, as, am, h, k.rt⟩
def cQ (c : cZ) (t u : aF) : aF := fun D τ M => c τ M fun b M1 => if b = true then t D τ M1 else u D τ M1
theorem eD {c : Expr} {a b : List Stmt} {tc : cZ} (hc : T3 X c tc) (ha : b9 X a t) (hb : b9 X b u) : P3 X (.If c a b pos) (cQ tc t u) := (zM hc ha hb).weak fun D σ H ⟨τ, M, D', as, am, h, k⟩ =>
 ⟨τ, M, _, as, am, h, fun b H1 M1 k1 am1 h1 => by
  cases b with
  | true => exact ⟨τ, M1, D', as.kp am k1, am1, h1, k.kp k1⟩
  | false => exact ⟨τ, M1, D', as.kp am k1, am1, h1, k.kp k1⟩⟩
def vW (c : cZ) (tb : aF) : aF := fun D τ M => ∃ Pv : Nat → S3 → Mm → Prop, (∃ m, Pv m τ M) ∧ ∀ m τ M, Pv m τ M →
 c τ M fun b M1 => if b = true then tb { D with nx := fun τ' M' => ∃ m' M'', m' < m ∧ Sub M'' M' ∧ Pv m' τ' M'', ct := fun τ' M' => ∃ m' M'', m' < m ∧ Sub M'' M' ∧ Pv m' τ' M'', bk := D.nx } τ M1 else D.nx τ M1
theorem P0 {c : Expr} {body : List Stmt} {tc : cZ} {tb : aF} (hp : PassesOwn (model X.prog X.w) X.A X.env X.xe) (hc : T3 X c tc) (hb : b9 X body tb) : P3 X (.While c body [] pos) (vW tc tb) :=
 (LK hp hc hb).weak fun D σ H ⟨τ, M, D', as, am, ⟨Pv, ⟨m, h0⟩, h⟩, k⟩ => by
  refine ⟨fun m σ' H' => ∃ τ' M', Kp H M H' M' ∧ AM X.K H' M' ∧ AS X.K H' M' σ' τ' ∧ Pv m τ' M', ⟨m, τ, M, Kp.refl am, am, as, h0⟩, ?_⟩
  rintro m σ1 H1 ⟨τ1, M1, k1, am1, as1, p1⟩
  refine ⟨τ1, M1, _, as1, am1, h m τ1 M1 p1, fun b H2 M2 k2 am2 h2 => ?_⟩
  cases b with
  | false => exact k.nx _ _ _ _ (k1.trans k2) am2 (as1.kp am1 k2) h2
  | true =>
   have h2 : tb { D' with nx := fun τ' M' => ∃ m' M'', m' < m ∧ Sub M'' M' ∧ Pv m' τ' M'', ct := fun τ' M' => ∃ m' M'', m' < m ∧ Sub M'' M' ∧ Pv m' τ' M'', bk := D'.nx } τ1 M2 := h2
   refine ⟨fun σ' H' => ∃ m' τ' M', m' < m ∧ Kp H M H' M' ∧ AM X.K H' M' ∧ AS X.K H' M' σ' τ' ∧ Pv m' τ' M', fun σ' H' ⟨m', τ', M', q1, q2, q3, q4, q5⟩ => ⟨m', q1, τ', M', q2, q3, q4, q5⟩, τ1, M2, _, as1.kp am1 k2, am2, h2, ?_⟩
   have again : fT X.K H2 M2 (fun τ' M' => ∃ m' M'', m' < m ∧ Sub M'' M' ∧ Pv m' τ' M'') (fun σ' H' => ∃ m' τ' M', m' < m ∧ Kp H M H' M' ∧ AM X.K H' M' ∧ AS X.K H' M' σ' τ' ∧ Pv m' τ' M') :=
    fun σ' H' τ' M' k' am' as' ⟨m', M'', q1, q2, q3⟩ => ⟨m', τ', M'', q1, ((k1.trans k2).trans k').sub q2, am'.sub q2, as'.sub q2, q3⟩
   exact ⟨again, (k.rt.kp k1).kp k2, (k.nx.kp k1).kp k2, again⟩
abbrev gY := S3 → Mm → (List W → (Mm → Prop) → Mm → Prop) → Prop
structure kA (K : PySem.W.Frag) (H0 : Hp) (M0 : Mm) (J : It) (ws : List W) (keep : Mm → Prop) : Prop where
 go : ∀ i H M, Kp H0 M0 H M → AM K H M → keep M → i < ws.length → J.go i H
 stop : ∀ H M, Kp H0 M0 H M → AM K H M → keep M → J.stop ws.length H
 yld : ∀ i H M x H', Kp H0 M0 H M → AM K H M → keep M → i < ws.length → J.yld i H x H' → ∃ w, ws[i]? = some w ∧ Kp H M H' M ∧ AM K H' M ∧ AV K H' M x w
def iS (K : PySem.W.Frag) (wi : gY) : TI := fun σ H R' => ∃ (τ : S3) (M : Mm) (R : List W → (Mm → Prop) → Mm → Prop), AS K H M σ τ ∧ AM K H M ∧ wi τ M R ∧ ∀ J H' ws keep M', Kp H M H' M' → AM K H' M' → kA K H' M' J ws keep → R ws keep M' → R' J H'
theorem _root_.L2.PI.weak {tg iter : Expr} {t t' : TI} (h : PI X tg iter t) (k : ∀ σ H R, t' σ H R → t σ H R) : PI X tg iter t' := fun pins s σ H R I q => h pins s σ H R I (k σ H R q)
def CP (ws : List W) (keep : Mm → Prop) (g : dR) (tb : aF) (D : D3) (τ : S3) (M : Mm) : Prop :=
 ∃ Pv : Nat → S3 → Mm → Prop, Pv 0 τ M ∧ (∀ i τ M, i ≤ ws.length → Pv i τ M → keep M) ∧
  (∀ i w τ M, ws[i]? = some w → Pv i τ M → g w τ M fun τ2 M2 => tb { D with nx := fun τ' M' => ∃ M'', Sub M'' M' ∧ Pv (i + 1) τ' M'', ct := fun τ' M' => ∃ M'', Sub M'' M' ∧ Pv (i + 1) τ' M'', bk := D.nx } τ2 M2) ∧
  ∀ τ M, Pv ws.length τ M → D.nx τ M
def gJ (wi : gY) (g : dR) (tb : aF) : aF := fun D τ M => wi τ M fun ws keep M1 => CP ws keep g tb D τ M1
theorem jW {tg iter : Expr} {body : List Stmt} {wi : gY} {g : dR} {tb : aF} {pos : Pos} (hp : PassesOwn (model X.prog X.w) X.A X.env X.xe) (hc : X.calm = true) (hi : PI X tg iter (iS X.K wi)) (hg : PG X tg (iB X.K g)) (hb : b9 X body tb)
  (hs : ∀ x, foldedSetIterable iter X.env x = pure x := by intro _; rfl) : P3 X (.For tg iter body [] pos) (gJ wi g tb) :=
 (zP hp hc hi hg hb hs).weak fun D σ H ⟨τ, M, D', as, am, h, k⟩ => by
  refine ⟨τ, M, _, as, am, h, fun J H1 ws keep M1 k1 am1 it ⟨Pv, h0, hk, hs, hd⟩ => ?_⟩
  refine ⟨fun i m σ' H' => m = ws.length - i ∧ i ≤ ws.length ∧ ∃ τ' M', Kp H1 M1 H' M' ∧ AM X.K H' M' ∧ AS X.K H' M' σ' τ' ∧ Pv i τ' M', ⟨_, rfl, Nat.zero_le _, τ, M1, Kp.refl am1, am1, as.kp am k1, h0⟩, ?_⟩
  rintro i m σ2 H2 ⟨rfl, hi, τ2, M2, k2, am2, as2, p2⟩
  by_cases hlt : i < ws.length
  ·refine .inr ⟨it.go i H2 M2 k2 am2 (hk i τ2 M2 hi p2) hlt, fun σ' H' => ∃ τ' M', Kp H1 M1 H' M' ∧ AM X.K H' M' ∧ AS X.K H' M' σ' τ' ∧ Pv (i + 1) τ' M', fun σ' H' q => ⟨ws.length - (i + 1), by omega, rfl, hlt, q⟩, fun x H3 y => ?_⟩
   obtain ⟨w, hw, k3, am3, ax⟩ := it.yld i H2 M2 x H3 k2 am2 (hk i τ2 M2 hi p2) hlt y
   refine ⟨w, τ2, M2, _, ax, as2.kp am2 k3, am3, hs i w τ2 M2 hw p2, fun σ4 H4 τ4 M4 k4 am4 as4 h4 => ⟨τ4, M4, _, as4, am4, h4, ?_⟩⟩
   have kk := ((k2.trans k3).trans k4)
   have again : fT X.K H4 M4 (fun τ' M' => ∃ M'', Sub M'' M' ∧ Pv (i + 1) τ' M'') (fun σ' H' => ∃ τ' M', Kp H1 M1 H' M' ∧ AM X.K H' M' ∧ AS X.K H' M' σ' τ' ∧ Pv (i + 1) τ' M') :=
    fun σ' H' τ' M' k' am' as' ⟨M'', q2, q3⟩ => ⟨τ', M'', (kk.trans k').sub q2, am'.sub q2, as'.sub q2, q3⟩
   exact ⟨again, k.rt.kp (k1.trans kk), k.nx.kp (k1.trans kk), again⟩
  ·have e : i = ws.length := by omega
   subst e
   exact .inl ⟨it.stop H2 M2 k2 am2 (hk _ τ2 M2 hi p2), k.nx _ _ _ _ (k1.trans k2) am2 as2 (hd τ2 M2 p2)⟩
theorem iT {ws : List W} {keep : Mm → Prop} {g : dR} {tb : aF} {D : D3} {τ : S3} {M : Mm} (Pv : Nat → S3 → Mm → Prop) (h0 : Pv 0 τ M) (hk : ∀ i τ M, i ≤ ws.length → Pv i τ M → keep M)
  (hs : ∀ i w τ M, ws[i]? = some w → Pv i τ M → g w τ M fun τ2 M2 => tb { D with nx := fun τ' M' => ∃ M'', Sub M'' M' ∧ Pv (i + 1) τ' M'', ct := fun τ' M' => ∃ M'', Sub M'' M' ∧ Pv (i + 1) τ' M'', bk := D.nx } τ2 M2)
  (hd : ∀ τ M, Pv ws.length τ M → D.nx τ M) : CP ws keep g tb D τ M := ⟨Pv, h0, hk, hs, hd⟩
variable {tg l a b : Expr} {tl ta tb' : aR}
theorem CQ {K : PySem.W.Frag} {H0 : Hp} {M0 : Mm} {p : Addr} {ws : List W} : kA K H0 M0 (mO K p) ws fun M => M p = some (.lst ws) where
 go := fun i H M _ am e hi => by
  obtain ⟨vs, f, q⟩ := am.lst e
  exact ⟨vs, vs[i]'(by rw [q.length]; exact hi), a6.of f, by simp⟩
 stop := fun H M _ am e => by
  obtain ⟨vs, f, q⟩ := am.lst e
  exact ⟨vs, a6.of f, by rw [q.length]; exact Nat.le_refl _⟩
 yld := fun i H M x H' _ am e hi y => by
  obtain ⟨rfl, y⟩ := y
  obtain ⟨vs, f, q⟩ := am.lst e
  obtain ⟨w, hw, av⟩ := q.getV (y vs (a6.of f))
  exact ⟨w, hw, Kp.refl am, am, av⟩
theorem CS {K : PySem.W.Frag} {H0 : Hp} {M0 : Mm} {p : Addr} {vs : List V} {ws : List W} (am0 : AM K H0 M0) (st : ∀ H M, Kp H0 M0 H M → a6 K H p vs) (q0 : aJ K H0 M0 vs ws) : kA K H0 M0 (mO K p) ws fun _ => True := by
 refine ⟨fun i H M k am _ hi => ⟨vs, vs[i]'(by rw [q0.length]; exact hi), st H M k, by simp⟩, fun H M k am _ => ⟨vs, st H M k, by rw [q0.length]; exact Nat.le_refl _⟩, fun i H M x H' k am _ hi y => ?_⟩
 obtain ⟨rfl, y⟩ := y
 obtain ⟨w, hw, av⟩ := (q0.kp am0 k).getV (y vs (st _ M k))
 exact ⟨w, hw, Kp.refl am, am, av⟩
theorem CT {K : PySem.W.Frag} {H0 : Hp} {M0 : Mm} {p : Addr} {vs : List V} {ws : List W} (am0 : AM K H0 M0) (e : mW K H0 p vs) (q0 : aJ K H0 M0 vs ws) : kA K H0 M0 (mO K p) ws fun _ => True :=
 CS am0 (fun H M k => by
  refine mW.sq ?_
  rcases e with ⟨o, e⟩ | e
  ·exact .inl ⟨o, (k.fr _ _ (am0.noFrz e) e).1⟩
  ·exact .inr e) q0
theorem CU {K : PySem.W.Frag} {H0 : Hp} {M0 : Mm} {p : Addr} {vs : List V} {ws : List W} (am0 : AM K H0 M0) (e : H0 p = some (.lst vs)) (n : M0 p = none) (q0 : aJ K H0 M0 vs ws) : kA K H0 M0 (mO K p) ws fun _ => True :=
 CS am0 (fun H M k => a6.of (k.fr _ _ n e).1) q0
theorem CV {K : PySem.W.Frag} {H0 : Hp} {M0 : Mm} {p : Addr} {vs : List V} {ws : List W} (am0 : AM K H0 M0) (e : H0 p = some (.tup vs)) (q0 : aJ K H0 M0 vs ws) : kA K H0 M0 (uK K p) ws fun _ => True := by
 have st : ∀ H M, Kp H0 M0 H M → bV K H p vs := fun H M k => bV.of (k.fr _ _ (am0.noTup e) e).1
 refine ⟨fun i H M k am _ hi => ⟨vs, vs[i]'(by rw [q0.length]; exact hi), st H M k, by simp⟩, fun H M k am _ => ⟨vs, st H M k, by rw [q0.length]; exact Nat.le_refl _⟩, fun i H M x H' k am _ hi y => ?_⟩
 obtain ⟨rfl, y⟩ := y
 obtain ⟨w, hw, av⟩ := (q0.kp am0 k).getV (y vs (st _ M k))
 exact ⟨w, hw, Kp.refl am, am, av⟩
theorem P1 {K : PySem.W.Frag} {H0 : Hp} {M0 : Mm} {lo : Int} {n : Nat} : kA K H0 M0 (rH lo n) ((List.range n).map fun i => W.int (lo + (i : Nat))) fun _ => True where
 go := fun i H M _ am _ hi => by show i < n; simpa using hi
 stop := fun H M _ am _ => by show n ≤ _; simp
 yld := fun i H M x H' _ am _ hi y => by
  obtain ⟨rfl, rfl⟩ := y
  have hi : i < n := by simpa using hi
  exact ⟨.int (lo + i), by simp [hi], Kp.refl am, am, .int _⟩
theorem P2 {K : PySem.W.Frag} {H0 : Hp} {M0 : Mm} {z : Str} : kA K H0 M0 (vA z) (z.cps.toList.map fun c => W.str ⟨#[c]⟩) fun _ => True where
 go := fun i H M _ am _ hi => by show i < z.cps.size; simpa using hi
 stop := fun H M _ am _ => by show z.cps.size ≤ _; simp
 yld := fun i H M x H' _ am _ hi y => by
  obtain ⟨rfl, c, hc, rfl⟩ := y
  exact ⟨.str ⟨#[c]⟩, by rw [List.getElem?_map, hc]; rfl, Kp.refl am, am, .str _⟩
def l6 (X : Cx) (tg : Expr) (r : V → Hp → (It → Hp → Prop) → Prop) : Prop :=
 ∀ (pins : List (Addr × Obj)) (s : Shared) (σ : SV) (H : Hp) (x : V) (u : Value) (R : It → Hp → Prop), Inv X pins σ H s → RelV x u → r x H R → wpAny (model X.prog X.w) X.A (pyIter u) (uJ X pins σ tg R) X.xe s
theorem nF : l6 X tg (fun x H R => ∃ a, x = .ref a ∧ (∃ xs, a6 X.K H a xs) ∧ R (mO X.K a) H) := by
 rintro pins s1 σ H1 x u R I1 r1 ⟨a, rfl, ⟨xs, hq⟩, q⟩
 cases r1
 obtain ⟨its, rv, p, hz⟩ := I1.list hq
 refine wpAny_pyIter_list p.isList ?_
 refine ⟨s1.heap.objs.size, [s1.heap.objs.size], _, _, H1, rfl, I1.kept (t' := s1.toks) fun b o e => Heap.get?_push_of_some _ e, LL a _, ⟨_, Heap.get?_push_size _ rfl, rfl, rfl⟩, fun b hb => ?_, q⟩
 have e : b = s1.heap.objs.size := by simpa using hb
 subst e
 exact I1.fpOk (Nat.le_refl _) (I1.hok.fresh (Nat.le_refl _))
theorem CW : l6 X tg (fun x H R => ∃ a, x = .ref a ∧ (∃ xs, bV X.K H a xs) ∧ R (uK X.K a) H) := by
 rintro pins s1 σ H1 x u R I1 r1 ⟨a, rfl, ⟨xs, hq⟩, q⟩
 cases r1
 obtain ⟨its, rv, p, hz⟩ := I1.tuple hq
 refine wpAny_pyIter_tuple (show s1.heap.IsTuple a its.toArray from p) ?_
 refine ⟨s1.heap.objs.size, [s1.heap.objs.size], _, _, H1, rfl, I1.kept (t' := s1.toks) fun b o e => Heap.get?_push_of_some _ e, LM a _, ⟨_, Heap.get?_push_size _ rfl, rfl, rfl⟩, fun b hb => ?_, q⟩
 have e : b = s1.heap.objs.size := by simpa using hb
 subst e
 exact I1.fpOk (Nat.le_refl _) (I1.hok.fresh (Nat.le_refl _))
theorem P4 {x : Str} {px : Pos} : l6 X (.Name x px) (fun x H R => ∃ z, x = .str z ∧ R (vA z) H) := by
 rintro pins s1 σ H1 x u R I1 r1 ⟨z, rfl, q⟩
 obtain ⟨t, rfl⟩ := r1
 have fp : ∀ b ∈ [s1.heap.objs.size], fQ X pins H1 b := fun b hb => by
  have e : b = s1.heap.objs.size := by simpa using hb
  subst e
  exact I1.fpOk (Nat.le_refl _) (I1.hok.fresh (Nat.le_refl _))
 cases ha : z.cps.all (· < 128)
 ·refine wpAny_pyIter_wide ha ?_
  exact ⟨s1.heap.objs.size, [s1.heap.objs.size], _, _, H1, rfl, I1.kept (t' := s1.toks) fun b o e => Heap.get?_push_of_some _ e,
   BN z _ "str_iterator" t (fun A s i c Q E a b d => wpAny_pyNext_wide_item a b d) (fun A s i Q E a b c d => wpAny_pyNext_wide_end a b c d) (fun A i s Q E a b => wpAny_pyIter_striter_wide a b), ⟨_, Heap.get?_push_size _ rfl, rfl, rfl⟩, fp, q⟩
 ·refine wpAny_pyIter_ascii ha ?_
  exact ⟨s1.heap.objs.size, [s1.heap.objs.size], _, _, H1, rfl, I1.kept (t' := s1.toks) fun b o e => Heap.get?_push_of_some _ e,
   BN z _ "str_ascii_iterator" t (fun A s i c Q E a b d => wpAny_pyNext_ascii_item a b d) (fun A s i Q E a b c d => wpAny_pyNext_ascii_end a b c d) (fun A i s Q E a b => wpAny_pyIter_striter_ascii a b), ⟨_, Heap.get?_push_size _ rfl, rfl, rfl⟩, fp, q⟩
theorem _root_.L2.PI.of {r : V → Hp → (It → Hp → Prop) → Prop} {tl : TE} (hl : PE X l tl) (hr : l6 X tg r) : PI X tg l (fun σ H R => tl σ H fun x H1 => r x H1 R) := fun pins s σ H R I h =>
 aV (hl pins s σ H _ I h) fun u s1 ⟨x, H1, I1, r1, q1⟩ => hr pins s1 σ H1 x u R I1 r1 q1
def vX (K : PySem.W.Frag) (r : W → Mm → (List W → (Mm → Prop) → Mm → Prop) → Prop) : V → Hp → (It → Hp → Prop) → Prop := fun x H R' => ∃ (wx : W) (M : Mm) (R : List W → (Mm → Prop) → Mm → Prop), AV K H M x wx ∧ AM K H M ∧ r wx M R ∧
 ∀ J H' ws keep M', Kp H M H' M' → AM K H' M' → kA K H' M' J ws keep → R ws keep M' → R' J H'
def l7 : W → Mm → (List W → (Mm → Prop) → Mm → Prop) → Prop
 | .tup ws, M1, R => R ws (fun _ => True) M1
 | .rl ws, M1, R => R ws (fun _ => True) M1
 | .sc ws, M1, R => R ws (fun _ => True) M1
 | .ref a, M1, R => ∃ ws, M1 a = some (.lst ws) ∧ R ws (fun M => M a = some (.lst ws)) M1
 | _, _, _ => False
def dF : W → Mm → (List W → (Mm → Prop) → Mm → Prop) → Prop
 | .tup ws, M1, R => R ws (fun _ => True) M1
 | .rl ws, M1, R => R ws (fun _ => True) M1
 | .sc ws, M1, R => R ws (fun _ => True) M1
 | .str z, M1, R => R (z.cps.toList.map fun c => W.str ⟨#[c]⟩) (fun _ => True) M1
 | .ref a, M1, R => ∃ ws, M1 a = some (.lst ws) ∧ R ws (fun M => M a = some (.lst ws)) M1
 | _, _, _ => False
theorem P5 : l6 X tg (vX X.K l7) := by
 rintro pins s σ H x u R' I r1 ⟨wx, M, R, ax, am, h, k⟩
 cases ax <;> first | exact (show False from h).elim | skip
 case tup a xs ws e q => exact CW pins s σ H _ u R' I r1 ⟨a, rfl, ⟨xs, bV.of e⟩, k _ _ _ _ _ (Kp.refl am) am (CV am e q) h⟩
 case rl a xs ws e n q => exact nF pins s σ H _ u R' I r1 ⟨a, rfl, ⟨xs, a6.of e⟩, k _ _ _ _ _ (Kp.refl am) am (CU am e n q) h⟩
 case sc a xs ws e q => exact nF pins s σ H _ u R' I r1 ⟨a, rfl, ⟨xs, e.sq⟩, k _ _ _ _ _ (Kp.refl am) am (CT am e q) h⟩
 case ref a =>
  obtain ⟨ws, e, r⟩ := h
  obtain ⟨vs, f, q⟩ := am.lst e
  exact nF pins s σ H _ u R' I r1 ⟨a, rfl, ⟨vs, a6.of f⟩, k _ _ _ _ _ (Kp.refl am) am CQ r⟩
theorem P6 {y : Str} {py : Pos} : l6 X (.Name y py) (vX X.K dF) := by
 rintro pins s σ H x u R' I r1 ⟨wx, M, R, ax, am, h, k⟩
 cases ax <;> first | exact (show False from h).elim | skip
 case str z => exact P4 pins s σ H _ u R' I r1 ⟨z, rfl, k _ _ _ _ _ (Kp.refl am) am P2 h⟩
 case tup a xs ws e q => exact CW pins s σ H _ u R' I r1 ⟨a, rfl, ⟨xs, bV.of e⟩, k _ _ _ _ _ (Kp.refl am) am (CV am e q) h⟩
 case rl a xs ws e n q => exact nF pins s σ H _ u R' I r1 ⟨a, rfl, ⟨xs, a6.of e⟩, k _ _ _ _ _ (Kp.refl am) am (CU am e n q) h⟩
 case sc a xs ws e q => exact nF pins s σ H _ u R' I r1 ⟨a, rfl, ⟨xs, e.sq⟩, k _ _ _ _ _ (Kp.refl am) am (CT am e q) h⟩
 case ref a =>
  obtain ⟨ws, e, r⟩ := h
  obtain ⟨vs, f, q⟩ := am.lst e
  exact nF pins s σ H _ u R' I r1 ⟨a, rfl, ⟨vs, a6.of f⟩, k _ _ _ _ _ (Kp.refl am) am CQ r⟩
def dM (r : W → Mm → (List W → (Mm → Prop) → Mm → Prop) → Prop) (tl : aR) : gY := fun τ M R => tl τ M fun w M1 => r w M1 R
theorem CY {r : W → Mm → (List W → (Mm → Prop) → Mm → Prop) → Prop} (hl : E3 X l tl) (hr : l6 X tg (vX X.K r)) : PI X tg l (iS X.K (dM r tl)) := (PI.of hl hr).weak fun σ H R' ⟨τ, M, R, as, am, h, k⟩ =>
 ⟨τ, M, _, as, am, h, fun x H1 wx M1 k1 am1 ax h1 => ⟨wx, M1, R, ax, am1, h1, fun J H' ws keep M' k' am' it r => k J H' ws keep M' (k1.trans k') am' it r⟩⟩
theorem P7 (hl : E3 X l tl) : PI X tg l (iS X.K (dM l7 tl)) := CY hl P5
theorem fX {y : Str} {py : Pos} (hl : E3 X l tl) : PI X (.Name y py) l (iS X.K (dM dF tl)) := CY hl P6
def l8 (lo : Int) (n : Nat) : List W := (List.range n).map fun i => W.int (lo + (i : Nat))
def l9 (ta : c9) : gY := fun τ M R => ta τ M fun ws M1 => ∃ j : Int, ws = [.int j] ∧ -(2 ^ 62) ≤ j ∧ j < 2 ^ 62 ∧ R (l8 0 j.toNat) (fun _ => True) M1
def P8 (ta : c9) : gY := fun τ M R => ta τ M fun ws M1 => ∃ i j : Int, ws = [.int i, .int j] ∧ (-(2 ^ 62) ≤ i ∧ i < 2 ^ 62 ∧ -(2 ^ 62) ≤ j ∧ j < 2 ^ 62) ∧ R (l8 i (j - i).toNat) (fun _ => True) M1
theorem sM {tA : c9} {p pos : Pos} (hg : Gl X "range") (hm : X.mg "range" = none) (ha : A3 X [a] tA) (hs : starEach [a] X.env = [(false, eval a X.env)] := by rfl) : PI X tg (.Call (.Name "range" p) [a] [] pos) (iS X.K (l9 tA)) :=
 (LQ hg hm ha hs).weak fun σ H R' ⟨τ, M, R, as, am, h, k⟩ => ⟨τ, M, _, as, am, h, fun vs H1 ws M1 k1 am1 ax ⟨j, e, h1, h2, r⟩ => by
  subst e
  obtain ⟨v, rfl, av⟩ := ax.one
  cases av
  exact ⟨j, rfl, h1, h2, k _ _ _ _ _ k1 am1 P1 r⟩⟩
def sN (ws : List W) (keep : Mm → Prop) (g : dR) (tt : cZ) (te : aR) (τ₀ : S3) (M1 : Mm) (R : K3) : Prop :=
 ∀ p, M1 p = none → ∃ Pv : Nat → S3 → List W → Mm → Prop, Pv 0 τ₀ [] M1 ∧ (∀ vs i τ acc M, i ≤ ws.length → M p = none → Pv i τ acc M → keep (put M p (.fix vs))) ∧
  (∀ vs i w τ acc M, ws[i]? = some w → M p = none → Pv i τ acc M → g w τ (put M p (.fix vs)) fun τ2 M2 => tt τ2 M2 fun b M3 =>
   if b = true then te τ2 M3 fun y M4 => M4 p = some (.fix vs) ∧ acc.length < sizeLine ∧ ∃ M5, Sub M5 (del M4 p) ∧ Pv (i + 1) τ2 (acc ++ [y]) M5
   else M3 p = some (.fix vs) ∧ ∃ M5, Sub M5 (del M3 p) ∧ Pv (i + 1) τ2 acc M5) ∧
  ∀ τ acc M, M p = none → Pv ws.length τ acc M → R (.ref p) (put M p (.lst acc))
def oS (js : List (Option Nat)) (τ : S3) : S3 := js.map fun o => o.bind fun j => (τ[j]?).join
theorem AS.cmap {K : PySem.W.Frag} {H : Hp} {M : Mm} {σ : SV} {τ : S3} (h : AS K H M σ τ) : ∀ js : List (Option Nat), AS K H M (cmap js σ) (oS js τ)
 | [] => .nil
 | none :: r => .cons (fun _ e => nomatch e) (AS.cmap h r)
 | some j :: r => .cons (fun w e => by
   have e : (τ[j]?).join = some w := e
   cases q : τ[j]? with
   | none => rw [q] at e; cases e
   | some z =>
    rw [q] at e
    have e : z = some w := e
    subst e
    obtain ⟨v, h1, h2⟩ := h.get q
    exact ⟨v, by show (σ[j]?).join = some v; rw [h1]; rfl, h2⟩) (AS.cmap h r)
def eE (wi : gY) (g : dR) (tt : cZ) (te : aR) (js : List (Option Nat)) : aR := fun τ M R => wi τ M fun ws keep M1 => sN ws keep g tt te (oS js τ) M1 R
theorem CZ {wi : gY} {g : dR} {tt : cZ} {te : aR} {js : List (Option Nat)} {σ : SV} {H : Hp} {Q : VK} (h : up X.K (eE wi g tt te js) σ H Q) : oG (iS X.K wi) (fun _ => iB X.K g) (fun _ => kY X.K tt) (fun _ => up X.K te) js σ H Q := by
 obtain ⟨τ, M, R, as, am, h, k⟩ := h
 refine ⟨τ, M, _, as, am, h, fun J H1 ws keep M1 k1 am1 it hall p hp B => ?_⟩
 obtain ⟨Pv, h0, hk, hs, hd⟩ := hall p (am1.nonM hp)
 obtain ⟨amp, kp⟩ := am1.laid (o := .fix []) (u := .lst []) hp fA
 have hMp := am1.nonM hp
 refine BK ws.length (fun i σ' acc' H' => ∃ τ' acc M', M' p = none ∧ Kp H1 M1 H' (put M' p (.fix acc')) ∧ AM X.K H' (put M' p (.fix acc')) ∧ AS X.K H' (put M' p (.fix acc')) σ' τ' ∧ aJ X.K H' (put M' p (.fix acc')) acc' acc ∧ Pv i τ' acc M') ?_ ?_ ?_
 ·exact ⟨oS js τ, [], M1, hMp, kp, amp, ((as.kp am k1).kp am1 kp).cmap js, .nil, h0⟩
 ·rintro σ' acc' H' ⟨τ', acc, M', mp, k', am', as', av, pv⟩
  refine ⟨it.stop H' _ k' am' (hk _ _ _ _ _ (Nat.le_refl _) mp pv), ?_⟩
  have hp' : H' p = some (.lst acc') := am' p _ d7
  refine k _ H' _ (put M' p (.lst acc)) (k1.trans ⟨fun a o n e => ?_, k'.dom⟩) (fun a o e => ?_) (.ref p) (hd τ' acc M' mp pv)
  ·obtain ⟨x, y⟩ := k'.fr a o n e
   exact ⟨x, by rw [gH (dW e hp)] at y ⊢; exact y⟩
  ·by_cases ha : a = p
   ·subst ha; rw [d7] at e; cases e; exact ⟨acc', hp', av.go rY⟩
   ·rw [gH ha] at e; exact (am' a o (by rw [gH ha]; exact e)).go rY rfl
 ·rintro i σ' acc' H' hi ⟨τ', acc, M', mp, k', am', as', av, pv⟩
  have hkp := hk acc' i τ' acc M' (Nat.le_of_lt hi) mp pv
  refine ⟨it.go i H' _ k' am' hkp hi, fun x H3 y => ?_⟩
  obtain ⟨w, hw, k3, am3, ax⟩ := it.yld i H' _ x H3 k' am' hkp hi y
  refine ⟨w, τ', _, _, ax, as'.kp am' k3, am3, hs acc' i w τ' acc M' hw mp pv, fun σ4 H4 τ4 M4 k4 am4 as4 h4 => ⟨τ4, M4, _, as4, am4, h4, fun b H5 M5 k5 am5 h5 => ?_⟩⟩
  have kk : Kp H' (put M' p (.fix acc')) H5 M5 := (k3.trans k4).trans k5
  cases b with
  | false =>
   obtain ⟨m5, M6, sb, pv6⟩ : M5 p = some (.fix acc') ∧ ∃ M6, Sub M6 (del M5 p) ∧ Pv (i + 1) τ4 acc M6 := h5
   have sb' : Sub (put M6 p (.fix acc')) M5 := by
    have := (sb.trans Sub.del).put (a := p) (o := .fix acc')
    rwa [BZ m5] at this
   exact BF ⟨τ4, acc, M6, sb.non lW, (k'.trans kk).sub sb', am5.sub sb', (as4.kp am4 k5).sub sb', (av.kp am' kk).sub sb', pv6⟩
  | true =>
   have h5 : te τ4 M5 fun y M4 => M4 p = some (.fix acc') ∧ acc.length < sizeLine ∧ ∃ M5, Sub M5 (del M4 p) ∧ Pv (i + 1) τ4 (acc ++ [y]) M5 := h5
   refine BG ⟨τ4, M5, _, as4.kp am4 k5, am5, h5, fun y H6 wy M6 k6 am6 ay ⟨m6, hl, M7, sb, pv7⟩ => ?_⟩
   have kk6 := kk.trans k6
   have hp6 : H6 p = some (.lst acc') := am6 p _ m6
   obtain ⟨am8, k8⟩ := am6.write (o := .fix (acc' ++ [y])) (u := .lst (acc' ++ [y])) m6 fA
   have sb' : Sub (put M7 p (.fix (acc' ++ [y]))) (put M6 p (.fix (acc' ++ [y]))) := (sb.trans Sub.del).put
   refine ⟨hp6, by rw [av.length]; exact hl, τ4, acc ++ [wy], M7, sb.non lW, ((k'.trans kk6).trans k8).sub sb', am8.sub sb', (((as4.kp am4 k5).kp am5 k6).kp am6 k8).sub sb', ?_, pv7⟩
   exact (((av.kp am' kk6).append (.cons ay .nil)).kp am6 k8).sub sb'
variable {sc : Scope} {N' : List Str} {js : List (Option Nat)} {iter elt : Expr} {ifs : List Expr} {wi : gY} {g : dR} {tt : cZ}
def fG : cZ := fun _ M Q => Q true M
theorem jX : hZ X [] (kY X.K fG) := OP.weak fun σ H Q ⟨τ, M, R, as, am, h, k⟩ => k true H M (Kp.refl am) am h
theorem mB (N' : List Str) (js : List (Option Nat)) (hi : PI X tg iter (iS X.K wi))
  (hg : ∀ B, PG (bQ X sc N' B) tg (iB X.K g)) (ht : ∀ B, hZ (bQ X sc N' B) ifs (kY X.K tt)) (he : ∀ B, PE (bQ X sc N' B) elt (up X.K te))
  (S0 : kW N' sc X.env.scope = true := by kernel_rfl) (hj : dO N' X.N sc js N' = true := by kernel_rfl) (hc : X.calm = true := by rfl) (hs : ∀ x, foldedSetIterable iter X.env x = pure x := by intro _; rfl) :
  E3 X (.ListComp elt [⟨tg, iter, ifs, 0⟩] sc pos) (eE wi g tt te js) := (OQ N' js hi hg ht he S0 hj hc hs).weak fun _ _ _ h => CZ h
end
def b5 (N : List Str) (ws : List W) : S3 := ws.map some ++ List.replicate (N.length - ws.length) none
def aX (R : K3) : D3 := { nx := fun _ M' => ∃ M'', Sub M'' M' ∧ R .non M'', rt := fun w M' => ∃ M'', Sub M'' M' ∧ R w M'' }
section
variable {P : Program} {w : World} {K : PySem.W.Frag} {mg : Str → Option Value} {base : Heap}
theorem dA {x qual : Str} {st : Stmt} {f : Addr} {fd : FuncData} {N ps : List Str} {k : Nat} {sp : bK} (F : j4 K x qual st f fd) (S : b7 N ps (aE st)) (len : ∀ ws M R, sp ws M R → ws.length = ps.length)
  (hbody : ∀ (cdv : Value) (A : Around) (outer : List Env) (s : Shared) (H : Hp) (E : XK) (ws : List W) (M : Mm) (R : K3), bA k (A.deeper (envOfC qual (aE st) s.heap.objs.size f cdv)) → sp ws M R →
   ∃ t, b9 (aW aQ P w K mg base N qual (aE st) f cdv A outer s H E).nox (aM st) t ∧ t (aX R) (b5 N ws) M) : aS P w K mg base aQ (k + 1) f fd ps (a8 K sp) := by
 refine F.ok S (fun vs H Q E ⟨ws, M, R, am, av, h, _⟩ => by rw [av.length]; exact len ws M R h) fun cdv A outer s H vs Q E hr ⟨ws, M, R, am, av, h, kk⟩ => ?_
 obtain ⟨t, ht, h'⟩ := hbody cdv A outer s H E ws M R hr h
 refine ⟨_, ht, b5 N ws, M, aX R, ?_, am, h', ⟨fun σ' H' τ' M' k' am' as' ⟨M'', sb, r⟩ => kk _ H' _ M'' (k'.sub sb) (am'.sub sb) .non r, fun v H' w M' k' am' av' ⟨M'', sb, r⟩ => kk v H' w M'' (k'.sub sb) (am'.sub sb) (av'.sub sb) r, fun _ _ _ _ _ _ _ z => z.elim, fun _ _ _ _ _ _ _ z => z.elim⟩⟩
 unfold L2.start b5
 rw [av.length]
 exact AS.start av _
def oU : bK := fun ws M R => ∃ ns : List Int, ws = [.sc (ns.map W.int)] ∧ ns.length ≤ 63 ∧ (M = fun _ => none) ∧ ∀ M', R (.bl true) M'
theorem P9 {H : Hp} {a : Addr} {ns : List Int} (hl : ns.length ≤ 63) (ho : rP H) (hs : a6 K H a (ns.map V.int)) : a8 K oU [.ref a] H (fun v _ => v = .bl true) fun _ _ _ => False := by
 have hr : mW K H a (ns.map V.int) := by
  rcases hs with (e | ⟨o, e⟩) | e
  ·rcases ho a with z | ⟨o, xs, z⟩
   ·rw [z] at e; cases e
   ·rw [z] at e; cases e
  ·exact .inl ⟨o, e⟩
  ·exact .inr e
 exact ⟨[.sc (ns.map W.int)], fun _ => none, fun w _ => w = .bl true, fun a o e => (nomatch e), .cons (.sc hr (aJ.int ns)) .nil, ⟨ns, rfl, hl, rfl, fun _ => rfl⟩, fun v H' w M' _ _ av r => by subst r; exact av.bl_inv⟩
end
end L3
set_option Elab.async false
set_option compiler.extract_closed false
set_option bootstrap.genMatcherCode false
set_option linter.all false
set_option maxRecDepth 100000
set_option maxHeartbeats 4000000
namespace L3
open PySem PySem.Spec PyProof.Rows L2
section
variable {X : Cx} {a b c : Expr} {ta tb tc : aR} {pos : Pos}
def sO (r r' : R3) (ta tb tc : aR) : aR := fun τ M R => ta τ M fun x M1 => tb τ M1 fun y M2 => r x y M2 fun z M3 => ∃ k, z = .bl k ∧ if k = true then tc τ M3 fun w M4 => r' y w M4 R else R (.bl false) M3
def sP : aF := fun _ _ _ => False
def C0 (M : Mm) : W → String → Prop
 | .non, T => T = "NoneType"
 | .bl _, T => T = "bool"
 | .int _, T => T = "int"
 | .str _, T => T = "str"
 | .tup _, T => T = "tuple"
 | .rl _, T => T = "list"
 | .dk _, T => T = "dict"
 | .ref a, T => (T = "list" ∧ ∃ ws, M a = some (.lst ws)) ∨ (T = "dict" ∧ ((∃ kvs, M a = some (.dK kvs)) ∨ ∃ kvs, M a = some (.dT kvs)))
 | _, _ => False
def C2 : List (String × String × Bool) := [("int", "int", true), ("int", "bool", false), ("int", "str", false), ("int", "tuple", false), ("int", "list", false), ("bool", "bool", true), ("bool", "int", true), ("bool", "str", false), ("bool", "list", false), ("bool", "tuple", false), ("str", "str", true), ("str", "int", false), ("str", "tuple", false), ("str", "list", false), ("str", "bool", false), ("tuple", "tuple", true), ("tuple", "list", false), ("tuple", "str", false), ("tuple", "int", false), ("tuple", "bool", false), ("list", "list", true), ("list", "tuple", false), ("list", "str", false), ("list", "int", false), ("list", "bool", false), ("NoneType", "list", false), ("NoneType", "tuple", false), ("NoneType", "int", false), ("NoneType", "str", false), ("NoneType", "bool", false), ("dict", "dict", true), ("dict", "list", false)]
def vY (n T : String) : Option Bool := (C2.find? fun p => p.1 == n && p.2.1 == T).map fun p => p.2.2
def C3 (K : PySem.W.Frag) : List (String × String × Bool) → Prop
 | [] => True
 | p :: l => PySem.W.kitOne K (.type p.1) (.type p.2.1) = some p.2.2 ∧ C3 K l
theorem C4 {K : PySem.W.Frag} : ∀ {l : List (String × String × Bool)}, C3 K l → ∀ p ∈ l, PySem.W.kitOne K (.type p.1) (.type p.2.1) = some p.2.2
 | _ :: _, h, _, m => by
  cases m with
  | head => exact h.1
  | tail _ m => exact C4 h.2 _ m
theorem QA (K : PySem.W.Frag) : ∀ p ∈ C2, PySem.W.kitOne K (.type p.1) (.type p.2.1) = some p.2.2 := by
 refine C4 ?_
 refine ⟨by kernel_rfl, by kernel_rfl, by kernel_rfl, by kernel_rfl, by kernel_rfl, by kernel_rfl, by kernel_rfl, by kernel_rfl, by kernel_rfl, by kernel_rfl, by kernel_rfl, by kernel_rfl, by kernel_rfl, by kernel_rfl, by kernel_rfl, by kernel_rfl, by kernel_rfl, by kernel_rfl, by kernel_rfl, by kernel_rfl, by kernel_rfl, by kernel_rfl, by kernel_rfl, by kernel_rfl, by kernel_rfl, by kernel_rfl, by kernel_rfl, by kernel_rfl, by kernel_rfl, by kernel_rfl, by kernel_rfl, by kernel_rfl, trivial⟩
theorem QB (K : PySem.W.Frag) {n T : String} {b : Bool} (h : vY n T = some b) : PySem.W.kitOne K (.type n) (.type T) = some b := by
 obtain ⟨p, hp, e⟩ := Option.map_eq_some_iff.mp h
 have h1 := List.find?_some hp
 have h2 := QA K p (List.mem_of_find?_eq_some hp)
 rw [Bool.and_eq_true, beq_iff_eq, beq_iff_eq] at h1
 rw [← h1.1, ← h1.2, h2, e]
def cE : List W → Mm → K3 → Prop
 | [w, .ty T], M, R => ∃ n b, C0 M w n ∧ vY n T = some b ∧ R (.bl b) M
 | _, _, _ => False
theorem QC : c8 X (.builtin "isinstance") (gI X.K cE) := by
 rintro pins s σ H xs us Q I rs ⟨ws, M, R, am, axs, h, k⟩
 match ws, h with
 | [w, .ty T], h =>
  obtain ⟨v, u, rfl, av, au⟩ := axs.two
  cases au
  obtain ⟨n, b, hn, hs, r⟩ := h
  have ty : gR X.K H v (.type n) := by
   cases av <;> first | exact (show False from hn).elim | skip
   case non => cases (show n = _ from hn); exact .non
   case bl b => cases (show n = _ from hn); exact .bl b
   case int i => cases (show n = _ from hn); exact .int i
   case str x => cases (show n = _ from hn); exact .str x
   case tup e q => cases (show n = _ from hn); exact .tup e
   case rl e _ q => cases (show n = _ from hn); exact .lst e
   case dk e _ _ q => cases (show n = _ from hn); exact .dK e
   case ref a =>
    rcases hn with ⟨e, ws, h⟩ | ⟨e, h⟩
    ·subst e
     obtain ⟨vs, f, _⟩ := am.lst h
     exact .lst f
    ·subst e
     rcases h with ⟨kvs, h⟩ | ⟨kvs, h⟩
     ·obtain ⟨ks, f, _⟩ := am _ _ h; exact .dK f
     ·obtain ⟨ks, f, _⟩ := am _ _ h; exact .dT f
  exact OW pins s σ H _ us Q I rs ⟨v, T, _, b, rfl, ty, QB X.K hs, k.at am (.bl b) r⟩
def zb7 : W → List W → Mm → K3 → Prop
 | .str z, [], M, R => z.length ≤ 5592405 ∧ R (.str (Txt.upper z)) M
 | _, _, _, _ => False
def mC : W → List W → Mm → K3 → Prop
 | .str z, [.str y], M, R => (y.length == 0) = false ∧ z.length ≤ sizeLine ∧ R (.tup [.str (Txt.partition z y).1, .str (Txt.partition z y).2.1, .str (Txt.partition z y).2.2]) M
 | _, _, _, _ => False
theorem m_partition : fR X "str.partition" (iN X.K mC) := by
 rintro pins s σ H x xs v us Q I rx rs ⟨wx, ws, M, R, am, ax, axs, h, k⟩
 match wx, ws, h with
 | .str z, [.str y], h =>
  obtain ⟨u, rfl, au⟩ := axs.one
  cases ax; cases au
  exact OV pins s σ H _ _ v us Q I rx rs ⟨z, y, rfl, rfl, h.1, h.2.1, fun p hp => k9 am k hp (.cons (.str _) (.cons (.str _) (.cons (.str _) .nil))) h.2.2⟩
end
end L3
set_option Elab.async false
set_option compiler.extract_closed false
set_option bootstrap.genMatcherCode false
set_option linter.all false
set_option maxRecDepth 100000
set_option maxHeartbeats 4000000
namespace L3
open PySem PySem.Spec PyProof.Rows L2
section
variable {X : Cx} {a b : Expr} {ta tb : aR} {pos : Pos} {es : List Expr} {t : c9}
theorem QD {K : PySem.W.Frag} {H : Hp} {M : Mm} {R : K3} {Q : VK} {p : Addr} {xs : List V} {ws : List W} (am : AM K H M) (k : Up K H M R Q) (hp : H p = none) (ax : aJ K H M xs ws) (r : R (.rl ws) M) : Q (.ref p) (aU H p (.lst xs)) := by
 obtain ⟨am2, k2⟩ := am.tup (u := .lst xs) hp
 exact k _ _ _ _ k2 am2 (.rl fA (am.nonM hp) (ax.newT hp)) r
def eU (t : c9) : aR := fun τ M R => t τ M fun ws M1 => ws.length ≤ sizeLine ∧ R (.rl ws) M1
theorem gK (h : A3 X es t) : E3 X (.List es pos) (eU t) :=
 (AB h).weak fun σ H Q ⟨τ, M, R, as, am, h, k⟩ => ⟨τ, M, _, as, am, h, fun xs H1 ws M1 k1 am1 axs ⟨hl, r⟩ => ⟨by rw [axs.length]; exact hl, fun p hp => QD am1 (k.kp k1) hp axs r⟩⟩
theorem C5 {f : Value → Value → Sem Value} {r r' : R3} (h : bC X f (cV X.K r)) (k : ∀ x y M R, r' x y M R → r x y M fun w M' => frz w M' R) : bC X f (cV X.K r') := fun pins s σ H x y v u Q I rx ry ⟨wx, wy, M, R, am, ax, ay, h', kk⟩ =>
 h pins s σ H x y v u Q I rx ry ⟨wx, wy, M, _, am, ax, ay, k _ _ _ _ h', kk.frz⟩
theorem QE {f : Value} {r r' : List W → Mm → K3 → Prop} (h : c8 X f (gI X.K r)) (k : ∀ x M R, r' x M R → r x M fun w M' => frz w M' R) : c8 X f (gI X.K r') := fun pins s σ H xs us Q I rs ⟨ws, M, R, am, ax, h', kk⟩ =>
 h pins s σ H xs us Q I rs ⟨ws, M, _, am, ax, k _ _ _ h', kk.frz⟩
def bL : R3
 | .int i, .int j, M, R => R (.int (i + j)) M
 | .str i, .str j, M, R => i.length + j.length ≤ sizeLine ∧ R (.str (i ++ j)) M
 | .tup xs, .tup ys, M, R => xs ≠ [] ∧ xs.length + ys.length ≤ sizeLine ∧ R (.tup (xs ++ ys)) M
 | .ref a, .ref b, M, R => ∃ xs ys, M a = some (.lst xs) ∧ M b = some (.lst ys) ∧ xs.length + ys.length ≤ sizeLine ∧ R (.rl (xs ++ ys)) M
 | .rl xs, .ref b, M, R => ∃ ys, M b = some (.lst ys) ∧ xs.length + ys.length ≤ sizeLine ∧ R (.rl (xs ++ ys)) M
 | .ref a, .rl ys, M, R => ∃ xs, M a = some (.lst xs) ∧ xs.length + ys.length ≤ sizeLine ∧ R (.rl (xs ++ ys)) M
 | .rl xs, .rl ys, M, R => xs.length + ys.length ≤ sizeLine ∧ R (.rl (xs ++ ys)) M
 | _, _, _, _ => False
theorem cA : bC X (binaryOp .Add) (cV X.K bL) := C5 B7 fun x y M R h => by
 cases x <;> cases y <;> first | exact (show False from h).elim | skip
 case int.int i j => exact h
 case str.str i j => exact h
 case tup.tup i j => exact h
 case ref.ref i j => obtain ⟨xs, ys, h1, h2, h3, r⟩ := h; exact ⟨xs, ys, h1, h2, h3, aZ.frz r⟩
 case rl.ref i j => obtain ⟨ys, h2, h3, r⟩ := h; exact ⟨ys, h2, h3, aZ.frz r⟩
 case ref.rl i j => obtain ⟨ys, h2, h3, r⟩ := h; exact ⟨ys, h2, h3, aZ.frz r⟩
 case rl.rl i j => exact ⟨h.1, aZ.frz h.2⟩
def i9 : R3
 | .int i, .int j, M, R => (lT i j ∨ oH i j) ∧ R (.int (i * j)) M
 | .str z, .int n, M, R => z.length ≤ 16 ∧ -(2 ^ 63) ≤ n ∧ n ≤ 1048576 ∧ R (.str (Txt.mul z n)) M
 | .ref a, .int n, M, R => ∃ xs, M a = some (.lst xs) ∧ -(2 ^ 63) ≤ n ∧ n < 2 ^ 63 ∧ xs.length * n.toNat ≤ sizeLine ∧ R (.rl (List.replicate n.toNat xs).flatten) M
 | .rl xs, .int n, M, R => -(2 ^ 63) ≤ n ∧ n < 2 ^ 63 ∧ xs.length * n.toNat ≤ sizeLine ∧ R (.rl (List.replicate n.toNat xs).flatten) M
 | _, _, _, _ => False
theorem oV : bC X (binaryOp .Mult) (cV X.K i9) := C5 PD fun x y M R h => by
 cases x <;> cases y <;> first | exact (show False from h).elim | skip
 case int.int i j => exact h
 case str.int i j => exact h
 case ref.int i j => obtain ⟨xs, h1, h2, h3, h4, r⟩ := h; exact ⟨xs, h1, h2, h3, h4, aZ.frz r⟩
 case rl.int i j => obtain ⟨h2, h3, h4, r⟩ := h; exact ⟨h2, h3, h4, aZ.frz r⟩
def lD : List W → Mm → K3 → Prop
 | [.tup ws], M, R => R (.rl ws) M
 | [.rl ws], M, R => R (.rl ws) M
 | [.sc ws], M, R => R (.rl ws) M
 | [.dk kvs], M, R => R (.rl (kvs.map fun kv => wK kv.1)) M
 | [.ref a], M, R => (∃ ws, M a = some (.lst ws) ∧ R (.rl ws) M) ∨ ∃ kvs, M a = some (.dK kvs) ∧ R (.rl (kvs.map fun kv => wK kv.1)) M
 | _, _, _ => False
theorem C6 (hc : X.calm = true) : c8 X (.type "list") (gI X.K lD) := QE (vQ hc) fun x M R h => by
 match x, h with
 | [.tup ws], h => exact aZ.frz h
 | [.rl ws], h => exact aZ.frz h
 | [.sc ws], h => exact aZ.frz h
 | [.dk kvs], h => exact aZ.frz h
 | [.ref a], h =>
  rcases h with ⟨ws, e, r⟩ | ⟨kvs, e, r⟩
  ·exact .inl ⟨ws, e, aZ.frz r⟩
  ·exact .inr ⟨kvs, e, aZ.frz r⟩
def nG : W → Option Int → Option Int → Mm → K3 → Prop
 | .rl ws, lo, hi, M, R => R (.rl (b8 ws lo hi)) M
 | .sc ws, lo, hi, M, R => R (.rl (b8 ws lo hi)) M
 | .ref a, lo, hi, M, R => ∃ ws, M a = some (.lst ws) ∧ R (.rl (b8 ws lo hi)) M
 | .tup ws, lo, hi, M, R => ¬ (HT.sIx ws.length 0 lo = 0 ∧ HT.sIx ws.length ws.length hi = ws.length) ∧ R (.tup (b8 ws lo hi)) M
 | _, _, _, _, _ => False
theorem QF {x : W} {l u : Option Int} {M : Mm} {R : K3} (h : nG x l u M R) : l0 x l u M fun w M' => frz w M' R := by
 cases x <;> first | exact (show False from h).elim | skip
 case tup ws => exact h
 case rl ws => exact aZ.frz h
 case sc ws => exact aZ.frz h
 case ref a => obtain ⟨ws, e, r⟩ := h; exact ⟨ws, e, aZ.frz r⟩
def iU (ta : aR) (tl th : lA) : aR := fun τ M R => ta τ M fun x M1 => tl τ M1 fun l M2 => th τ M2 fun u M3 => nG x l u M3 R
theorem kB {lo hi : Option Expr} {tl th : lA} {p2 : Pos} (he : E3 X a ta) (hl : PO X lo (nB X.K tl)) (hu : PO X hi (nB X.K th)) : E3 X (.Subscript a (.Slice lo hi none p2) pos) (iU ta tl th) :=
 (AR PN he hl hu).weak fun σ H Q ⟨τ, M, R, as, am, h, k⟩ => ⟨τ, M, _, as, am, h, fun x H1 wx M1 k1 am1 ax h1 => ⟨τ, M1, _, as.kp am k1, am1, h1, fun l H2 M2 k2 am2 h2 => ⟨τ, M2, _, (as.kp am k1).kp am1 k2, am2, h2, fun u H3 M3 k3 am3 h3 =>
  ⟨wx, M3, _, am3, (ax.kp am1 k2).kp am2 k3, QF h3, (((k.kp k1).kp k2).kp k3).frz⟩⟩⟩⟩
variable {sc : Scope} {N' : List Str} {js : List (Option Nat)} {tg iter elt : Expr} {ifs : List Expr} {wi : gY} {g : dR} {tt : cZ} {te : aR}
theorem C7 {i : Nat} {x : Str} {px spos : Pos} (hN : X.N.Nodup) (hi0 : X.N[i]? = some x) (hx : Loc X.env.scope x) (N' : List Str) (js : List (Option Nat)) (hi : PI X tg iter (iS X.K wi))
  (hg : ∀ B, PG (bQ X sc N' B) tg (iB X.K g)) (ht : ∀ B, hZ (bQ X sc N' B) ifs (kY X.K tt)) (he : ∀ B, PE (bQ X sc N' B) elt (up X.K te))
  (S0 : kW N' sc X.env.scope = true := by kernel_rfl) (hj : dO N' X.N sc js N' = true := by kernel_rfl) (hc : X.calm = true := by rfl) (hsw : swapsWith (.ListComp elt [⟨tg, iter, ifs, 0⟩] sc pos) (some (.Name x px)) spos.line X.env = pure true := by rfl)
  (hf : X.fn x = true ∨ X.env.scope.names.lookup x = some .local := by first | exact .inl rfl | exact .inr rfl | assumption)
  (hs : ∀ x, foldedSetIterable iter X.env x = pure x := by intro _; rfl) : P3 X (.Assign [.Name x px] (.ListComp elt [⟨tg, iter, ifs, 0⟩] sc pos) spos) (bB i (cU (eE wi g tt te js))) :=
 (OR hN hi0 hx N' js hi hg ht he S0 hj hc hsw hf hs).weak fun D σ H ⟨τ, M, D', as, am, h, k⟩ => CZ ⟨τ, M, _, as, am, h, Up.frz fun y H1 wy M1 k1 am1 ay h1 => k.nx _ _ _ _ k1 am1 ((as.kp am k1).set ay i) h1⟩
end
def Pl : Nat → W → Prop
 | _, .non => True
 | _, .int _ => True
 | _, .str x => PyData.strOk x = true
 | n + 1, .tup ws => ∀ w ∈ ws, Pl n w
 | n + 1, .rl ws => ∀ w ∈ ws, Pl n w
 | _, _ => False
def dG (M : Mm) : W → W
 | .ref a => match M a with
  | some (.lst ws) => .rl ws
  | _ => .ref a
 | w => w
section
variable {M : Mm}
theorem vZ {n : Nat} (ih : ∀ {w : W}, Pl n w → ∃ d, Snap M w d ∧ d.canLay0 = true ∧ d.depth ≤ n) : ∀ {ws : List W}, (∀ w ∈ ws, Pl n w) → ∃ ds, fD M ws ds ∧ PyData.canLayAll0 ds = true ∧ PyData.depthAll ds ≤ n
 | [], _ => ⟨[], .nil, rfl, by simp [PyData.depthAll]⟩
 | w :: ws, h => by
  obtain ⟨d, s, c, e⟩ := ih (h w List.mem_cons_self)
  obtain ⟨ds, ss, cc, ee⟩ := vZ ih fun z hz => h z (List.mem_cons_of_mem _ hz)
  exact ⟨d :: ds, .cons s ss, by simp [PyData.canLayAll0, c, cc], by simp only [PyData.depthAll]; omega⟩
theorem QG : ∀ {n : Nat} {w : W}, Pl n w → ∃ d, Snap M w d ∧ d.canLay0 = true ∧ d.depth ≤ n := by
 intro n
 induction n with
 | zero =>
  intro w h
  cases w <;> first | exact (show False from h).elim | skip
  case non => exact ⟨_, .non, rfl, by simp [PyData.depth]⟩
  case int i => exact ⟨_, .int i, rfl, by simp [PyData.depth]⟩
  case str x => exact ⟨_, .str x, h, by simp [PyData.depth]⟩
 | succ n ih =>
  intro w h
  cases w <;> first | exact (show False from h).elim | skip
  case non => exact ⟨_, .non, rfl, by simp [PyData.depth]⟩
  case int i => exact ⟨_, .int i, rfl, by simp [PyData.depth]⟩
  case str x => exact ⟨_, .str x, h, by simp [PyData.depth]⟩
  case tup ws =>
   obtain ⟨ds, s, c, e⟩ := vZ ih h
   exact ⟨_, .tup s, by simpa [PyData.canLay0] using c, by simp only [PyData.depth]; omega⟩
  case rl ws =>
   obtain ⟨ds, s, c, e⟩ := vZ ih h
   exact ⟨_, .rl s, by simpa [PyData.canLay0] using c, by simp only [PyData.depth]; omega⟩
theorem C8 {n : Nat} {w : W} (h : Pl n (dG M w)) : ∃ d, Snap M w d ∧ Snap M (dG M w) d ∧ d.canLay0 = true ∧ d.depth ≤ n := by
 obtain ⟨d, s, c, e⟩ := QG (M := M) h
 refine ⟨d, ?_, s, c, e⟩
 cases w <;> first | exact s | skip
 case ref a =>
  cases q : M a with
  | none =>
   have e : dG M (.ref a) = .ref a := by simp [dG, q]
   rw [e] at s; exact s
  | some o =>
   cases o with
   | lst ws =>
    have e : dG M (.ref a) = .rl ws := by simp [dG, q]
    rw [e] at s
    cases s with
    | rl r => exact .ref q r
   | dK _ =>
    have e : dG M (.ref a) = .ref a := by simp [dG, q]
    rw [e] at s; exact s
   | dT _ =>
    have e : dG M (.ref a) = .ref a := by simp [dG, q]
    rw [e] at s; exact s
   | fix _ =>
    have e : dG M (.ref a) = .ref a := by simp [dG, q]
    rw [e] at s; exact s
   | exc _ =>
    have e : dG M (.ref a) = .ref a := by simp [dG, q]
    rw [e] at s; exact s
theorem v3 {n : Nat} (ih : ∀ {x y : W} {dx dy : PyData}, Pl n x → Pl n y → Snap M x dx → Snap M y dy → (PyData.eqv dx dy = true ↔ x = y)) : ∀ {xs ys : List W} {dx dy : List PyData}, (∀ w ∈ xs, Pl n w) → (∀ w ∈ ys, Pl n w) → fD M xs dx → fD M ys dy → (PyData.eqvAll dx dy = true ↔ xs = ys)
 | [], [], _, _, _, _, .nil, .nil => by simp [PyData.eqvAll]
 | [], _ :: _, _, _, _, _, .nil, .cons _ _ => by simp [PyData.eqvAll]
 | _ :: _, [], _, _, _, _, .cons _ _, .nil => by simp [PyData.eqvAll]
 | x :: xs, y :: ys, _, _, hx, hy, .cons s1 r1, .cons s2 r2 => by
  rw [PyData.eqvAll, Bool.and_eq_true, ih (hx x List.mem_cons_self) (hy y List.mem_cons_self) s1 s2, v3 ih (fun z hz => hx z (List.mem_cons_of_mem _ hz)) (fun z hz => hy z (List.mem_cons_of_mem _ hz)) r1 r2]
  simp
theorem QH : ∀ {n : Nat} {x y : W} {dx dy : PyData}, Pl n x → Pl n y → Snap M x dx → Snap M y dy → (PyData.eqv dx dy = true ↔ x = y) := by
 intro n
 induction n with
 | zero =>
  intro x y dx dy hx hy sx sy
  cases sx <;> first | exact (show False from hx).elim | skip
  all_goals cases sy <;> first | exact (show False from hy).elim | simp [PyData.eqv]
 | succ n ih =>
  intro x y dx dy hx hy sx sy
  cases sx <;> first | exact (show False from hx).elim | skip
  all_goals cases sy <;> first | exact (show False from hy).elim | skip
  all_goals first | (simp [PyData.eqv]; done) | skip
  case tup.tup r1 _ _ r2 => rw [PyData.eqv, v3 ih hx hy r1 r2]; simp
  case rl.rl r1 _ _ r2 => rw [PyData.eqv, v3 ih hx hy r1 r2]; simp
end
theorem C9 {ws : List W} {keep : Mm → Prop} {g : dR} {tt : cZ} {te : aR} {τ₀ : S3} {M1 : Mm} {R : K3} (St : S3 → Prop) (tgt : W → S3) (Rel : W → Option W → Prop) (hl : ws.length ≤ sizeLine) (hk : ∀ M, Sub M1 M → keep M)
  (h0 : St τ₀) (ht : ∀ w ∈ ws, St (tgt w)) (hg : ∀ w ∈ ws, ∀ τ M (C : S3 → Mm → Prop), St τ → C (tgt w) M → g w τ M C)
  (hs : ∀ w ∈ ws, ∀ M (C : K3) (D : Mm → Prop), Sub M1 M → (∀ y, Rel w (some y) → C y M) → (Rel w none → D M) → tt (tgt w) M fun b M3 => if b = true then te (tgt w) M3 C else D M3)
  (r : ∀ os, Paired Rel ws os → aZ (os.filterMap id) M1 R) : sN ws keep g tt te τ₀ M1 R := by
 intro p hp
 refine ⟨fun i τ acc M => St τ ∧ (∃ os, Paired Rel (ws.take i) os ∧ acc = os.filterMap id) ∧ M = M1, ⟨h0, ⟨[], by simp; exact .nil, rfl⟩, rfl⟩, ?_, ?_, ?_⟩
 ·rintro vs i τ acc M _ mp ⟨_, _, rfl⟩; exact hk _ (Sub.new hp)
 ·rintro vs i w τ acc M hw mp ⟨st, ⟨os, po, rfl⟩, rfl⟩
  have hm : w ∈ ws := List.mem_of_getElem? hw
  have hi : i < ws.length := (List.getElem?_eq_some_iff.mp hw).1
  have htk : ws.take (i + 1) = ws.take i ++ [w] := by rw [List.take_add_one, hw]; rfl
  have snoc : ∀ o, Rel w o → Paired Rel (ws.take (i + 1)) (os ++ [o]) := fun o ro => by
   rw [htk]
   clear hw mp st htk
   revert os
   generalize ws.take i = l
   intro os po
   induction po with
   | nil => exact .cons ro .nil
   | cons a b ih => exact .cons a ih
  have hlen : (os.filterMap id).length < sizeLine := by
   have h1 := List.length_filterMap_le id os
   have h2 := Paired.length po
   rw [List.length_take] at h2
   omega
  refine hg w hm τ _ _ st (hs w hm _ _ _ (Sub.new hp) (fun y hy => ⟨d7, hlen, M, ?_, ht w hm, ⟨_, snoc _ hy, ?_⟩, rfl⟩) fun hn => ⟨d7, M, ?_, ht w hm, ⟨_, snoc _ hn, ?_⟩, rfl⟩)
  ·rw [vD hp]; exact Sub.refl _
  ·simp
  ·rw [vD hp]; exact Sub.refl _
  ·simp
 ·rintro τ acc M mp ⟨_, ⟨os, po, rfl⟩, rfl⟩
  rw [List.take_length] at po
  exact r os po p hp
def DA (rest : S3) : S3 → Prop := fun τ => ∃ o, τ = o :: rest
theorem lE {ws : List W} {keep : Mm → Prop} {te : aR} {o : Option W} {rest : S3} {M1 : Mm} {R : K3} (f : W → W) (hl : ws.length ≤ sizeLine) (hk : ∀ M, Sub M1 M → keep M)
  (hs : ∀ w ∈ ws, ∀ M (C : K3), Sub M1 M → C (f w) M → te (some w :: rest) M C) (r : aZ (ws.map f) M1 R) : sN ws keep (cH 0) fG te (o :: rest) M1 R := by
 refine C9 (DA rest) (fun w => some w :: rest) (fun w o => o = some (f w)) hl hk ⟨_, rfl⟩ (fun w _ => ⟨_, rfl⟩) ?_ ?_ ?_
 ·rintro w _ τ M C ⟨o, rfl⟩ h; exact h
 ·intro w hw M C D sb h1 _
  show (if true = true then te (some w :: rest) M C else D M)
  rw [if_pos rfl]
  exact hs w hw M C sb (h1 _ rfl)
 ·intro os po
  have : os.filterMap id = ws.map f := by
   clear r hs hl hk
   induction po with
   | nil => rfl
   | cons a b ih => subst a; simp [ih]
  rw [this]; exact r
theorem v5 {ws : List W} {keep : Mm → Prop} {te : aR} {o : Option W} {rest : S3} {M1 : Mm} {R : K3} (P : W → W → Prop) (hl : ws.length ≤ sizeLine) (hk : ∀ M, Sub M1 M → keep M)
  (hs : ∀ w ∈ ws, ∀ M (C : K3), Sub M1 M → (∀ y, P w y → C y M) → te (some w :: rest) M C) (r : ∀ ys, Paired P ws ys → aZ ys M1 R) : sN ws keep (cH 0) fG te (o :: rest) M1 R := by
 refine C9 (DA rest) (fun w => some w :: rest) (fun w o => ∃ y, o = some y ∧ P w y) hl hk ⟨_, rfl⟩ (fun w _ => ⟨_, rfl⟩) ?_ ?_ ?_
 ·rintro w _ τ M C ⟨o, rfl⟩ h; exact h
 ·intro w hw M C D sb h1 _
  show (if true = true then te (some w :: rest) M C else D M)
  rw [if_pos rfl]
  exact hs w hw M C sb fun y py => h1 y ⟨y, rfl, py⟩
 ·intro os po
  have : ∃ ys, os = ys.map some ∧ Paired P ws ys := by
   clear r hs hl hk
   induction po with
   | nil => exact ⟨[], rfl, .nil⟩
   | cons a b ih =>
    obtain ⟨y, rfl, py⟩ := a
    obtain ⟨ys, rfl, h⟩ := ih
    exact ⟨y :: ys, rfl, .cons py h⟩
  obtain ⟨ys, rfl, py⟩ := this
  rw [List.filterMap_map]
  have : (ys.filterMap (id ∘ some)) = ys := by simp
  rw [this]
  exact r ys py
theorem Paired.all {P : W → W → Prop} {Q : W → Prop} {xs ys : List W} (h : Paired P xs ys) (k : ∀ x y, P x y → Q y) : ∀ y ∈ ys, Q y := by
 induction h with
 | nil => intro y hy; cases hy
 | cons a b ih =>
  intro y hy
  rcases List.mem_cons.mp hy with rfl | hy
  ·exact k _ _ a
  ·exact ih y hy
end L3
set_option Elab.async false
set_option compiler.extract_closed false
set_option bootstrap.genMatcherCode false
set_option linter.all false
set_option maxRecDepth 100000
set_option maxHeartbeats 4000000
namespace L3
open PySem PySem.Spec PyProof.Rows L2
structure Df (K : PySem.W.Frag) (mg : Str → Option Value) (x : Str) (st : Stmt) (ps : List Str) (f : Addr) (fd : FuncData) : Prop where
 fn : j4 K x x st f fd
 at_ : mg x = some (.ref f)
 bi : Binds K fd ps []
theorem cR {K : PySem.W.Frag} {x : Str} {st : Stmt} {f : Addr} {fd : FuncData} {ps : List Str} {mg : Str → Option Value} (F : j4 K x x st f fd) (hm : mg x = some (.ref f))
  (h : ∀ (kV doc pm : Value) (an : Option Addr) (cdv ct : Value) (us : List Value), us.length = ps.length → bindArgs (PySem.W.fnOf x x (a4 st) (aM st) (aE st) .none kV doc pm an cdv ct) ⟨us, []⟩ = pure (ps.zip us)) : Df K mg x st ps f fd := ⟨F, hm, F.binds h⟩
theorem fH : bootBuiltins "len" = some (.builtin "len") := PySem.boot_len
theorem oW : bootBuiltins "list" = some (.type "list") := by decide +kernel
theorem DB : bootBuiltins "tuple" = some (.type "tuple") := by decide +kernel
theorem v7 : bootBuiltins "str" = some (.type "str") := by decide +kernel
theorem QI : bootBuiltins "int" = some (.type "int") := by decide +kernel
theorem lF : bootBuiltins "isinstance" = some (.builtin "isinstance") := by decide +kernel
theorem v8 : bootBuiltins "all" = some (.builtin "all") := by decide +kernel
theorem v9 {α : Type} (x : α) (xs : List α) : cC (x :: xs) 0 = some x := by simp [cC, gE]
theorem QJ {α : Type} (x y : α) (xs : List α) : cC (x :: y :: xs) 1 = some y := AY (j := 1) rfl
theorem QK {α : Type} (x y z : α) (xs : List α) : cC (x :: y :: z :: xs) 2 = some z := AY (j := 2) rfl
theorem sQ {α : Type} {xs : List α} {i : Int} (h0 : 0 ≤ i) (h1 : i < xs.length) : ∃ x, cC xs i = some x ∧ xs[i.toNat]? = some x ∧ x ∈ xs := by
 have hlt : i.toNat < xs.length := by omega
 refine ⟨xs[i.toNat], ?_, List.getElem?_eq_getElem hlt, List.getElem_mem hlt⟩
 simp [cC, gE, h0, h1, hlt]
theorem lG {α : Type} {xs : List α} {i n : Int} (hn : n = xs.length) (hp : 0 < n) : ∃ x, cC xs (i % n) = some x ∧ x ∈ xs := by
 have h0 : 0 ≤ i % n := Int.emod_nonneg _ (by omega)
 have h1 : i % n < n := Int.emod_lt_of_pos _ hp
 obtain ⟨x, e, _, m⟩ := sQ (xs := xs) h0 (by omega)
 exact ⟨x, e, m⟩
theorem wA {ws : List W} {lo hi : Option Int} {w : W} (h : w ∈ b8 ws lo hi) : w ∈ ws := List.mem_of_mem_drop (List.mem_of_mem_take h)
end L3
namespace L3
open PySem PySem.Spec PyProof.Rows L2
theorem sR {i j : Int} (h0 : 0 < j) (h1 : j ≤ 1000000000) : rT i j := ⟨h0, Int.lt_of_le_of_lt h1 (by decide +kernel)⟩
theorem QL {i j : Int} (h0 : 0 < j) (h1 : j ≤ 1000000000) : rT i j ↔ True := iff_true_intro (sR h0 h1)
def QM (x : Str) : Prop := PyData.strOk x = true
def wB (ws : List W) : Prop := ∀ w ∈ ws, ∃ x, QM x ∧ w = W.str x
def nH (ws : List W) : Prop := ∀ w ∈ ws, ∃ i, w = W.int i
theorem ints_map (ns : List Int) : nH (ns.map W.int) := fun w h => by
 obtain ⟨i, _, e⟩ := List.mem_map.mp h
 exact ⟨i, e.symm⟩
theorem nH.cut {ws : List W} (h : nH ws) (lo hi : Option Int) : nH (b8 ws lo hi) := fun w m => h w (wA m)
theorem wB.cut {ws : List W} (h : wB ws) (lo hi : Option Int) : wB (b8 ws lo hi) := fun w m => h w (wA m)
theorem iV {n : Nat} (h : n ≤ 10000000) : n ≤ sizeLine := Nat.le_trans h (by decide)
theorem sS {n : Nat} (h : n < 10000000) : n < sizeLine := Nat.lt_of_lt_of_le h (by decide)
theorem QN {S : List W} {i : Int} (h0 : 0 ≤ i) (h1 : i ≤ S.length) : b8 S none (some i) = S.take i.toNat := by
 unfold b8 HT.sIx
 simp only [List.drop_zero, Nat.sub_zero]
 rw [if_neg (by omega), Nat.min_eq_left (by omega)]
theorem DC {S : List W} {i : Int} (h0 : 0 ≤ i) : b8 S (some i) none = S.drop i.toNat := by
 unfold b8 HT.sIx
 simp only []
 rw [if_neg (by omega)]
 by_cases h : i.toNat ≤ S.length
 ·rw [Nat.min_eq_left h, List.take_of_length_le (by rw [List.length_drop]; exact Nat.le_refl _)]
 ·rw [Nat.min_eq_right (by omega)]
  rw [List.drop_of_length_le (Nat.le_refl _), List.drop_of_length_le (by omega)]; simp
theorem QO {S : List W} {i j : Int} (h0 : 0 ≤ i) (h1 : 0 ≤ j) : (b8 S (some i) (some j)).length ≤ (j - i).toNat := by
 unfold b8 HT.sIx
 simp only []
 rw [if_neg (by omega), if_neg (by omega), List.length_take, List.length_drop]
 omega
end L3
namespace L3
open PySem PySem.Spec PyProof.Rows L2
theorem cS {w : W} {T n : String} {b : Bool} {M : Mm} {R : K3} (hn : ∀ m, C0 M w m ↔ m = n) (hs : vY n T = some b) : cE [w, .ty T] M R ↔ R (.bl b) M :=
 ⟨fun ⟨_, _, h1, h2, h3⟩ => by cases (hn _).mp h1; cases hs.symm.trans h2; exact h3, fun h => ⟨n, b, (hn n).mpr rfl, hs, h⟩⟩
theorem QP {M : Mm} {R : K3} : cE [W.non, .ty "list"] M R ↔ R (.bl false) M := cS (fun _ => Iff.rfl) (by decide)
theorem QQ {M : Mm} {R : K3} : cE [W.non, .ty "tuple"] M R ↔ R (.bl false) M := cS (fun _ => Iff.rfl) (by decide)
theorem QR {M : Mm} {R : K3} : cE [W.non, .ty "int"] M R ↔ R (.bl false) M := cS (fun _ => Iff.rfl) (by decide)
theorem QS {M : Mm} {R : K3} : cE [W.non, .ty "str"] M R ↔ R (.bl false) M := cS (fun _ => Iff.rfl) (by decide)
theorem QT {M : Mm} {R : K3} : cE [W.non, .ty "bool"] M R ↔ R (.bl false) M := cS (fun _ => Iff.rfl) (by decide)
theorem QU {b : Bool} {M : Mm} {R : K3} : cE [W.bl b, .ty "bool"] M R ↔ R (.bl true) M := cS (fun _ => Iff.rfl) (by decide)
theorem QV {b : Bool} {M : Mm} {R : K3} : cE [W.bl b, .ty "int"] M R ↔ R (.bl true) M := cS (fun _ => Iff.rfl) (by decide)
theorem QW {b : Bool} {M : Mm} {R : K3} : cE [W.bl b, .ty "str"] M R ↔ R (.bl false) M := cS (fun _ => Iff.rfl) (by decide)
theorem QX {b : Bool} {M : Mm} {R : K3} : cE [W.bl b, .ty "list"] M R ↔ R (.bl false) M := cS (fun _ => Iff.rfl) (by decide)
theorem QY {b : Bool} {M : Mm} {R : K3} : cE [W.bl b, .ty "tuple"] M R ↔ R (.bl false) M := cS (fun _ => Iff.rfl) (by decide)
theorem QZ {i : Int} {M : Mm} {R : K3} : cE [W.int i, .ty "int"] M R ↔ R (.bl true) M := cS (fun _ => Iff.rfl) (by decide)
theorem Q0 {i : Int} {M : Mm} {R : K3} : cE [W.int i, .ty "bool"] M R ↔ R (.bl false) M := cS (fun _ => Iff.rfl) (by decide)
theorem Q1 {i : Int} {M : Mm} {R : K3} : cE [W.int i, .ty "str"] M R ↔ R (.bl false) M := cS (fun _ => Iff.rfl) (by decide)
theorem Q2 {i : Int} {M : Mm} {R : K3} : cE [W.int i, .ty "tuple"] M R ↔ R (.bl false) M := cS (fun _ => Iff.rfl) (by decide)
theorem Q3 {i : Int} {M : Mm} {R : K3} : cE [W.int i, .ty "list"] M R ↔ R (.bl false) M := cS (fun _ => Iff.rfl) (by decide)
theorem Q4 {x : Str} {M : Mm} {R : K3} : cE [W.str x, .ty "str"] M R ↔ R (.bl true) M := cS (fun _ => Iff.rfl) (by decide)
theorem Q5 {x : Str} {M : Mm} {R : K3} : cE [W.str x, .ty "int"] M R ↔ R (.bl false) M := cS (fun _ => Iff.rfl) (by decide)
theorem Q6 {x : Str} {M : Mm} {R : K3} : cE [W.str x, .ty "tuple"] M R ↔ R (.bl false) M := cS (fun _ => Iff.rfl) (by decide)
theorem Q7 {x : Str} {M : Mm} {R : K3} : cE [W.str x, .ty "list"] M R ↔ R (.bl false) M := cS (fun _ => Iff.rfl) (by decide)
theorem Q8 {x : Str} {M : Mm} {R : K3} : cE [W.str x, .ty "bool"] M R ↔ R (.bl false) M := cS (fun _ => Iff.rfl) (by decide)
theorem Q9 {ws : List W} {M : Mm} {R : K3} : cE [W.tup ws, .ty "tuple"] M R ↔ R (.bl true) M := cS (fun _ => Iff.rfl) (by decide)
theorem RA {ws : List W} {M : Mm} {R : K3} : cE [W.tup ws, .ty "list"] M R ↔ R (.bl false) M := cS (fun _ => Iff.rfl) (by decide)
theorem RB {ws : List W} {M : Mm} {R : K3} : cE [W.tup ws, .ty "str"] M R ↔ R (.bl false) M := cS (fun _ => Iff.rfl) (by decide)
theorem RC {ws : List W} {M : Mm} {R : K3} : cE [W.tup ws, .ty "int"] M R ↔ R (.bl false) M := cS (fun _ => Iff.rfl) (by decide)
theorem RE {ws : List W} {M : Mm} {R : K3} : cE [W.tup ws, .ty "bool"] M R ↔ R (.bl false) M := cS (fun _ => Iff.rfl) (by decide)
theorem RF {ws : List W} {M : Mm} {R : K3} : cE [W.rl ws, .ty "list"] M R ↔ R (.bl true) M := cS (fun _ => Iff.rfl) (by decide)
theorem RG {ws : List W} {M : Mm} {R : K3} : cE [W.rl ws, .ty "tuple"] M R ↔ R (.bl false) M := cS (fun _ => Iff.rfl) (by decide)
theorem RH {ws : List W} {M : Mm} {R : K3} : cE [W.rl ws, .ty "str"] M R ↔ R (.bl false) M := cS (fun _ => Iff.rfl) (by decide)
theorem RI {ws : List W} {M : Mm} {R : K3} : cE [W.rl ws, .ty "int"] M R ↔ R (.bl false) M := cS (fun _ => Iff.rfl) (by decide)
theorem RJ {ws : List W} {M : Mm} {R : K3} : cE [W.rl ws, .ty "bool"] M R ↔ R (.bl false) M := cS (fun _ => Iff.rfl) (by decide)
theorem RK {p : Addr} {ws : List W} {M : Mm} {R : K3} : cE [.ref p, .ty "list"] (put M p (.lst ws)) R ↔ R (.bl true) (put M p (.lst ws)) :=
 cS (n := "list") (fun m => Iff.intro (fun h => h.elim And.left (fun h => h.2.elim (fun ⟨_, e⟩ => nomatch d7.symm.trans e) (fun ⟨_, e⟩ => nomatch d7.symm.trans e))) (fun e => Or.inl ⟨e, ws, d7⟩)) (by decide)
theorem RL {neg : Bool} {i j : Int} {M : Mm} {R : K3} : L3.rEq neg (.int i) (.int j) M R = R (.bl (if neg then !decide (i = j) else decide (i = j))) M := rfl
theorem RM {neg : Bool} {i j : Str} {M : Mm} {R : K3} : L3.rEq neg (.str i) (.str j) M R = R (.bl (if neg then !decide (i = j) else decide (i = j))) M := rfl
theorem RN {neg : Bool} {i j : Bool} {M : Mm} {R : K3} : L3.rEq neg (.bl i) (.bl j) M R = R (.bl (if neg then !decide (i = j) else decide (i = j))) M := rfl
theorem RO {M : Mm} {a : Addr} {k : Str} {v : W} {kvs : List (aN × W)} {Q : Mm → Prop} (h : M a = some (.dK kvs)) (hl : kvs.length < sizeLine) (q : Q (put M a (.dK (i8 kvs (Sum.inr k) v)))) : vU (.ref a) (.str k) v M Q := .inr (.inl ⟨kvs, .inr k, rfl, h, hl, q⟩)
end L3
set_option Elab.async false
set_option compiler.extract_closed false
set_option bootstrap.genMatcherCode false
set_option linter.all false
set_option maxRecDepth 100000
set_option maxHeartbeats 4000000
namespace L3
open PySem PySem.Spec PyProof.Rows L2
section
variable {X : Cx} {a b c : Expr} {ta tb tc : aR} {pos : Pos}
theorem RP {K : PySem.W.Frag} {r r' : R3} {σ : SV} {H : Hp} {Q : VK} (h : up K (sO r r' ta tb tc) σ H Q) : zX (cV K r) (cV K r') (up K ta) (up K tb) (up K tc) σ H Q := by
 obtain ⟨τ, M, R, as, am, h, k⟩ := h
 refine ⟨τ, M, _, as, am, h, fun x H1 wx M1 k1 am1 ax h1 => ⟨τ, M1, _, as.kp am k1, am1, h1, fun y H2 wy M2 k2 am2 ay h2 => ⟨wx, wy, M2, _, am2, ax.kp am1 k2, ay, h2, fun z H3 wz M3 k3 am3 az ⟨c, e, h3⟩ => ?_⟩⟩⟩
 subst e
 refine ⟨c, az.bl_inv, ?_⟩
 cases c with
 | false => exact ((k.kp k1).kp k2).kp k3 |>.at am3 (.bl false) h3
 | true => exact ⟨τ, M3, _, ((as.kp am k1).kp am1 k2).kp am2 k3, am3, h3, fun w H4 ww M4 k4 am4 aw h4 => ⟨wy, ww, M4, R, am4, (ay.kp am2 k3).kp am3 k4, aw, h4, (((k.kp k1).kp k2).kp k3).kp k4⟩⟩
theorem RQ {op op' : CmpOp} {r r' : R3} (ho : bC X (compareOp op) (cV X.K r)) (ho' : bC X (compareOp op') (cV X.K r')) (ha : E3 X a ta) (hb : E3 X b tb) (hc : E3 X c tc)
  (hm : lastMarks [op, op'] [b, c] = false := by with_unfolding_all rfl) : E3 X (.Compare a [op, op'] [b, c] pos) (sO r r' ta tb tc) := (MI ho ho' ha hb hc hm).weak fun _ _ _ h => RP h
end
end L3
namespace L3
open PySem PySem.Spec PyProof.Rows L2
section
variable {X : Cx} {a b c : Expr} {ta tb tc : aR} {pos : Pos}
end
end L3
set_option Elab.async false
set_option compiler.extract_closed false
set_option bootstrap.genMatcherCode false
set_option linter.all false
set_option maxRecDepth 100000
set_option maxHeartbeats 4000000
namespace L3
open PySem PySem.Spec PyProof.Rows L2
theorem RS : ∀ (z0 : Mm) (z1 : Bool → Mm → Prop), jP W.non z0 z1 = z1 Bool.false z0 := by intros; rfl
theorem RU : ∀ (z0 : Mm) (z1 : Bool → Mm → Prop) (b : Bool), jP (W.bl b) z0 z1 = z1 b z0 := by intros; rfl
theorem RV : ∀ (z0 : Mm) (z1 : Bool → Mm → Prop) (i : Int), jP (W.int i) z0 z1 = z1 (i != 0) z0 := by intros; rfl
theorem RW : ∀ (z0 : Mm) (z1 : Bool → Mm → Prop) (y : PySem.Str), jP (W.str y) z0 z1 = (Str.length y ≤ PySem.sizeLine ∧ z1 ((↑(Str.length y) : Int) != 0) z0) := by intros; rfl
theorem RX : ∀ (z0 : Mm) (z1 : Bool → Mm → Prop) (ws : List W), jP (W.tup ws) z0 z1 = z1 (!List.isEmpty ws) z0 := by intros; rfl
theorem RY : ∀ (z0 : Mm) (z1 : Bool → Mm → Prop) (ws : List W), jP (W.rl ws) z0 z1 = z1 (!List.isEmpty ws) z0 := by intros; rfl
theorem RZ : ∀ (z0 : Mm) (z1 : Bool → Mm → Prop) (ws : List W), jP (W.sc ws) z0 z1 = z1 (!List.isEmpty ws) z0 := by intros; rfl
theorem R0 : ∀ (z0 : Mm) (z1 : Bool → Mm → Prop) (kvs : List (L2.aN × W)), jP (W.dk kvs) z0 z1 = z1 (!List.isEmpty kvs) z0 := by intros; rfl
theorem R1 : ∀ (z0 : Mm) (z1 : Bool → Mm → Prop) (p : PySem.Addr), jP (W.ref p) z0 z1 = ((∃ (ws : List W), z0 p = Option.some (MO.lst ws) ∧ z1 (!List.isEmpty ws) z0) ∨ ∃ (kvs : List (L2.aN × W)), z0 p = Option.some (MO.dK kvs) ∧ z1 (!List.isEmpty kvs) z0) := by intros; rfl
theorem R4 : ∀ (z0 : Mm) (z1 : List W → (Mm → Prop) → Mm → Prop) (ws : List W), dF (W.tup ws) z0 z1 = z1 ws (fun (x : Mm) => True) z0 := by intros; rfl
theorem R5 : ∀ (z0 : Mm) (z1 : List W → (Mm → Prop) → Mm → Prop) (ws : List W), dF (W.rl ws) z0 z1 = z1 ws (fun (x : Mm) => True) z0 := by intros; rfl
theorem R6 : ∀ (z0 : Mm) (z1 : List W → (Mm → Prop) → Mm → Prop) (ws : List W), dF (W.sc ws) z0 z1 = z1 ws (fun (x : Mm) => True) z0 := by intros; rfl
theorem R7 : ∀ (z0 : Mm) (z1 : List W → (Mm → Prop) → Mm → Prop) (z : PySem.Str), dF (W.str z) z0 z1 = z1 (List.map (fun (c : Nat) => W.str { cps := #[c] }) (Array.toList (PySem.Str.cps z))) (fun (x : Mm) => True) z0 := by intros; rfl
theorem R8 : ∀ (z0 : Mm) (z1 : List W → (Mm → Prop) → Mm → Prop) (a : PySem.Addr), dF (W.ref a) z0 z1 = ∃ (ws : List W), z0 a = Option.some (MO.lst ws) ∧ z1 ws (fun (M : Mm) => M a = Option.some (MO.lst ws)) z0 := by intros; rfl
theorem R9 : ∀ (z0 : Mm) (z1 : List W → (Mm → Prop) → Mm → Prop) (ws : List W), l7 (W.tup ws) z0 z1 = z1 ws (fun (x : Mm) => True) z0 := by intros; rfl
theorem SA : ∀ (z0 : Mm) (z1 : List W → (Mm → Prop) → Mm → Prop) (ws : List W), l7 (W.rl ws) z0 z1 = z1 ws (fun (x : Mm) => True) z0 := by intros; rfl
theorem SD : ∀ (z0 : Mm) (z1 : List W → (Mm → Prop) → Mm → Prop) (ws : List W), l7 (W.sc ws) z0 z1 = z1 ws (fun (x : Mm) => True) z0 := by intros; rfl
theorem SE : ∀ (z0 : Mm) (z1 : List W → (Mm → Prop) → Mm → Prop) (a : PySem.Addr), l7 (W.ref a) z0 z1 = ∃ (ws : List W), z0 a = Option.some (MO.lst ws) ∧ z1 ws (fun (M : Mm) => M a = Option.some (MO.lst ws)) z0 := by intros; rfl
theorem SF : ∀ (z0 : Mm) (z1 : K3) (i j : Int), j7 (W.int i) (W.int j) z0 z1 = z1 (W.int (i + j)) z0 := by intros; rfl
theorem SG : ∀ (z0 : Mm) (z1 : K3) (i j : PySem.Str), j7 (W.str i) (W.str j) z0 z1 = (Str.length i + Str.length j ≤ PySem.sizeLine ∧ z1 (W.str (i ++ j)) z0) := by intros; rfl
theorem SH : ∀ (z0 : Mm) (z1 : K3) (xs ys : List W), j7 (W.tup xs) (W.tup ys) z0 z1 = (xs ≠ [] ∧ List.length xs + List.length ys ≤ PySem.sizeLine ∧ z1 (W.tup (xs ++ ys)) z0) := by intros; rfl
theorem SI : ∀ (z0 : Mm) (z1 : K3) (a b : PySem.Addr), j7 (W.ref a) (W.ref b) z0 z1 = ∃ (xs : List W), ∃ (ys : List W), z0 a = Option.some (MO.lst xs) ∧ z0 b = Option.some (MO.lst ys) ∧ List.length xs + List.length ys ≤ PySem.sizeLine ∧ aZ (xs ++ ys) z0 z1 := by intros; rfl
theorem SJ : ∀ (z0 : Mm) (z1 : K3) (xs : List W) (b : PySem.Addr), j7 (W.rl xs) (W.ref b) z0 z1 = ∃ (ys : List W), z0 b = Option.some (MO.lst ys) ∧ List.length xs + List.length ys ≤ PySem.sizeLine ∧ aZ (xs ++ ys) z0 z1 := by intros; rfl
theorem SK : ∀ (z0 : Mm) (z1 : K3) (a : PySem.Addr) (ys : List W), j7 (W.ref a) (W.rl ys) z0 z1 = ∃ (xs : List W), z0 a = Option.some (MO.lst xs) ∧ List.length xs + List.length ys ≤ PySem.sizeLine ∧ aZ (xs ++ ys) z0 z1 := by intros; rfl
theorem SM : ∀ (z0 : Mm) (z1 : K3) (xs ys : List W), j7 (W.rl xs) (W.rl ys) z0 z1 = (List.length xs + List.length ys ≤ PySem.sizeLine ∧ aZ (xs ++ ys) z0 z1) := by intros; rfl
theorem SN : ∀ (z0 : Mm) (z1 : K3) (i j : Int), bL (W.int i) (W.int j) z0 z1 = z1 (W.int (i + j)) z0 := by intros; rfl
theorem SO : ∀ (z0 : Mm) (z1 : K3) (i j : PySem.Str), bL (W.str i) (W.str j) z0 z1 = (Str.length i + Str.length j ≤ PySem.sizeLine ∧ z1 (W.str (i ++ j)) z0) := by intros; rfl
theorem SQ : ∀ (z0 : Mm) (z1 : K3) (xs ys : List W), bL (W.tup xs) (W.tup ys) z0 z1 = (xs ≠ [] ∧ List.length xs + List.length ys ≤ PySem.sizeLine ∧ z1 (W.tup (xs ++ ys)) z0) := by intros; rfl
theorem SR : ∀ (z0 : Mm) (z1 : K3) (a b : PySem.Addr), bL (W.ref a) (W.ref b) z0 z1 = ∃ (xs : List W), ∃ (ys : List W), z0 a = Option.some (MO.lst xs) ∧ z0 b = Option.some (MO.lst ys) ∧ List.length xs + List.length ys ≤ PySem.sizeLine ∧ z1 (W.rl (xs ++ ys)) z0 := by intros; rfl
theorem SS : ∀ (z0 : Mm) (z1 : K3) (xs : List W) (b : PySem.Addr), bL (W.rl xs) (W.ref b) z0 z1 = ∃ (ys : List W), z0 b = Option.some (MO.lst ys) ∧ List.length xs + List.length ys ≤ PySem.sizeLine ∧ z1 (W.rl (xs ++ ys)) z0 := by intros; rfl
theorem SU : ∀ (z0 : Mm) (z1 : K3) (a : PySem.Addr) (ys : List W), bL (W.ref a) (W.rl ys) z0 z1 = ∃ (xs : List W), z0 a = Option.some (MO.lst xs) ∧ List.length xs + List.length ys ≤ PySem.sizeLine ∧ z1 (W.rl (xs ++ ys)) z0 := by intros; rfl
theorem SW : ∀ (z0 : Mm) (z1 : K3) (xs ys : List W), bL (W.rl xs) (W.rl ys) z0 z1 = (List.length xs + List.length ys ≤ PySem.sizeLine ∧ z1 (W.rl (xs ++ ys)) z0) := by intros; rfl
theorem SX : ∀ (g : Int → Int → W) (z1 : Mm) (z2 : K3) (i j : Int), oM g (W.int i) (W.int j) z1 z2 = z2 (g i j) z1 := by intros; rfl
theorem SY : ∀ (C : Int → Int → Prop) (g : Int → Int → W) (z2 : Mm) (z3 : K3) (i j : Int), oK C g (W.int i) (W.int j) z2 z3 = (C i j ∧ z3 (g i j) z2) := by intros; rfl
theorem S4 : ∀ (z0 : Mm) (z1 : K3) (i j : Int), gW (W.int i) (W.int j) z0 z1 = z1 (W.bl (Decidable.decide (i < j))) z0 := by intros; rfl
theorem S5 : ∀ (z0 : Mm) (z1 : K3) (i j : PySem.Str), gW (W.str i) (W.str j) z0 z1 = z1 (W.bl (B9 i j)) z0 := by intros; rfl
theorem S6 : ∀ (z0 : Mm) (z1 : K3) (i : Int), iR (W.int i) z0 z1 = z1 (W.int (-i)) z0 := by intros; rfl
theorem S7 : ∀ (z0 : Mm) (z1 : K3) (ws : List W) (i : Int), bG (W.tup ws) (W.int i) z0 z1 = ∃ (w : W), L2.cC ws i = Option.some w ∧ z1 w z0 := by intros; rfl
theorem S8 : ∀ (z0 : Mm) (z1 : K3) (ws : List W) (i : Int), bG (W.rl ws) (W.int i) z0 z1 = ∃ (w : W), L2.cC ws i = Option.some w ∧ z1 w z0 := by intros; rfl
theorem S9 : ∀ (z0 : Mm) (z1 : K3) (ws : List W) (i : Int), bG (W.sc ws) (W.int i) z0 z1 = ∃ (w : W), L2.cC ws i = Option.some w ∧ z1 w z0 := by intros; rfl
theorem TC : ∀ (z0 : W) (z1 : Mm) (z2 : K3) (kvs : List (L2.aN × W)), bG (W.dk kvs) z0 z1 z2 = ∃ (w : W), d0 z1 (W.dk kvs) z0 (Option.some w) ∧ z2 w z1 := by intros; rfl
theorem TF : ∀ (z0 : W) (z1 : Mm) (z2 : K3) (kvs : List (List L2.aN × W)), bG (W.dt kvs) z0 z1 z2 = ∃ (w : W), d0 z1 (W.dt kvs) z0 (Option.some w) ∧ z2 w z1 := by intros; rfl
theorem DD : ∀ (z0 : Mm) (z1 : K3) (z : PySem.Str) (i : Int), bG (W.str z) (W.int i) z0 z1 = (Str.length z ≤ PySem.sizeLine ∧ ∃ (c : Nat), L2.cC (Array.toList (PySem.Str.cps z)) i = Option.some c ∧ z1 (W.str { cps := #[c] }) z0) := by intros; rfl
theorem TH : ∀ (z0 : Mm) (z1 : K3) (a : PySem.Addr) (i : Int), bG (W.ref a) (W.int i) z0 z1 = ((∃ (ws : List W), ∃ (w : W), z0 a = Option.some (MO.lst ws) ∧ L2.cC ws i = Option.some w ∧ z1 w z0) ∨ ∃ (w : W), d0 z0 (W.ref a) (W.int i) (Option.some w) ∧ z1 w z0) := by intros; rfl
theorem TJ : ∀ (z0 : W) (z1 : Mm) (z2 : K3) (a : PySem.Addr), (∀ (i : Int), z0 = W.int i → False) → bG (W.ref a) z0 z1 z2 = ∃ (w : W), d0 z1 (W.ref a) z0 (Option.some w) ∧ z2 w z1 := by
 intro x M R a h; cases x <;> first | rfl | exact (h _ rfl).elim
theorem TK : ∀ (z0 : Mm) (z1 : K3) (ws : List W), dJ [W.tup ws] z0 z1 = z1 (W.int (↑(List.length ws) : Int)) z0 := by intros; rfl
theorem TL : ∀ (z0 : Mm) (z1 : K3) (ws : List W), dJ [W.rl ws] z0 z1 = z1 (W.int (↑(List.length ws) : Int)) z0 := by intros; rfl
theorem TM : ∀ (z0 : Mm) (z1 : K3) (ws : List W), dJ [W.sc ws] z0 z1 = z1 (W.int (↑(List.length ws) : Int)) z0 := by intros; rfl
theorem TQ : ∀ (z0 : Mm) (z1 : K3) (kvs : List (L2.aN × W)), dJ [W.dk kvs] z0 z1 = z1 (W.int (↑(List.length kvs) : Int)) z0 := by intros; rfl
theorem TR : ∀ (z0 : Mm) (z1 : K3) (z : PySem.Str), dJ [W.str z] z0 z1 = (Str.length z ≤ PySem.sizeLine ∧ z1 (W.int (↑(Str.length z) : Int)) z0) := by intros; rfl
theorem TU : ∀ (z0 : Mm) (z1 : K3) (a : PySem.Addr), dJ [W.ref a] z0 z1 = ((∃ (ws : List W), z0 a = Option.some (MO.lst ws) ∧ z1 (W.int (↑(List.length ws) : Int)) z0) ∨ ∃ (kvs : List (L2.aN × W)), z0 a = Option.some (MO.dK kvs) ∧ z1 (W.int (↑(List.length kvs) : Int)) z0) := by intros; rfl
theorem TV : ∀ (z0 : Mm) (z1 : K3) (ws : List W), lB [W.tup ws] z0 z1 = aZ ws z0 z1 := by intros; rfl
theorem TX : ∀ (z0 : Mm) (z1 : K3) (ws : List W), lB [W.rl ws] z0 z1 = aZ ws z0 z1 := by intros; rfl
theorem TY : ∀ (z0 : Mm) (z1 : K3) (ws : List W), lB [W.sc ws] z0 z1 = aZ ws z0 z1 := by intros; rfl
theorem TZ : ∀ (z0 : Mm) (z1 : K3) (kvs : List (L2.aN × W)), lB [W.dk kvs] z0 z1 = aZ (List.map (fun (kv : L2.aN × W) => wK (Prod.fst kv)) kvs) z0 z1 := by intros; rfl
theorem T1 : ∀ (z0 : Mm) (z1 : K3) (a : PySem.Addr), lB [W.ref a] z0 z1 = ((∃ (ws : List W), z0 a = Option.some (MO.lst ws) ∧ aZ ws z0 z1) ∨ ∃ (kvs : List (L2.aN × W)), z0 a = Option.some (MO.dK kvs) ∧ aZ (List.map (fun (kv : L2.aN × W) => wK (Prod.fst kv)) kvs) z0 z1) := by intros; rfl
theorem T6 : ∀ (z0 : Mm) (z1 : K3) (ws : List W), lD [W.tup ws] z0 z1 = z1 (W.rl ws) z0 := by intros; rfl
theorem T7 : ∀ (z0 : Mm) (z1 : K3) (ws : List W), lD [W.rl ws] z0 z1 = z1 (W.rl ws) z0 := by intros; rfl
theorem T9 : ∀ (z0 : Mm) (z1 : K3) (ws : List W), lD [W.sc ws] z0 z1 = z1 (W.rl ws) z0 := by intros; rfl
theorem UA : ∀ (z0 : Mm) (z1 : K3) (kvs : List (L2.aN × W)), lD [W.dk kvs] z0 z1 = z1 (W.rl (List.map (fun (kv : L2.aN × W) => wK (Prod.fst kv)) kvs)) z0 := by intros; rfl
theorem UB : ∀ (z0 : Mm) (z1 : K3) (a : PySem.Addr), lD [W.ref a] z0 z1 = ((∃ (ws : List W), z0 a = Option.some (MO.lst ws) ∧ z1 (W.rl ws) z0) ∨ ∃ (kvs : List (L2.aN × W)), z0 a = Option.some (MO.dK kvs) ∧ z1 (W.rl (List.map (fun (kv : L2.aN × W) => wK (Prod.fst kv)) kvs)) z0) := by intros; rfl
theorem UC : ∀ (z0 : Mm) (z1 : K3) (ws : List W), nC [W.tup ws] z0 z1 = z1 (W.tup ws) z0 := by intros; rfl
theorem UD : ∀ (z0 : Mm) (z1 : K3) (ws : List W), nC [W.rl ws] z0 z1 = z1 (W.tup ws) z0 := by intros; rfl
theorem UE : ∀ (z0 : Mm) (z1 : K3) (a : PySem.Addr), nC [W.ref a] z0 z1 = ∃ (ws : List W), z0 a = Option.some (MO.lst ws) ∧ z1 (W.tup ws) z0 := by intros; rfl
theorem UG : ∀ (z0 : Mm) (z1 : K3) (i : Int), l3 [W.int i] z0 z1 = (Nat.log2 (Int.natAbs i) < 1920 ∧ z1 (W.str (PySem.Str.ofString (ToString.toString i))) z0) := by intros; rfl
theorem UH : ∀ (z0 z1 : Option Int) (z2 : Mm) (z3 : K3) (ws : List W), nG (W.rl ws) z0 z1 z2 z3 = z3 (W.rl (b8 ws z0 z1)) z2 := by intros; rfl
theorem UI : ∀ (z0 z1 : Option Int) (z2 : Mm) (z3 : K3) (ws : List W), nG (W.sc ws) z0 z1 z2 z3 = z3 (W.rl (b8 ws z0 z1)) z2 := by intros; rfl
theorem UJ : ∀ (z0 z1 : Option Int) (z2 : Mm) (z3 : K3) (a : PySem.Addr), nG (W.ref a) z0 z1 z2 z3 = ∃ (ws : List W), z2 a = Option.some (MO.lst ws) ∧ z3 (W.rl (b8 ws z0 z1)) z2 := by intros; rfl
theorem UK : ∀ (z0 z1 : Option Int) (z2 : Mm) (z3 : K3) (ws : List W), nG (W.tup ws) z0 z1 z2 z3 = (¬(HT.sIx (List.length ws) 0 z0 = 0 ∧ HT.sIx (List.length ws) (List.length ws) z1 = List.length ws) ∧ z3 (W.tup (b8 ws z0 z1)) z2) := by intros; rfl
theorem UL : ∀ (z0 z1 : Option Int) (z2 : Mm) (z3 : K3) (ws : List W), l0 (W.rl ws) z0 z1 z2 z3 = aZ (b8 ws z0 z1) z2 z3 := by intros; rfl
theorem UM : ∀ (z0 z1 : Option Int) (z2 : Mm) (z3 : K3) (ws : List W), l0 (W.sc ws) z0 z1 z2 z3 = aZ (b8 ws z0 z1) z2 z3 := by intros; rfl
theorem UN : ∀ (z0 z1 : Option Int) (z2 : Mm) (z3 : K3) (a : PySem.Addr), l0 (W.ref a) z0 z1 z2 z3 = ∃ (ws : List W), z2 a = Option.some (MO.lst ws) ∧ aZ (b8 ws z0 z1) z2 z3 := by intros; rfl
theorem UO : ∀ (z0 z1 : Option Int) (z2 : Mm) (z3 : K3) (ws : List W), l0 (W.tup ws) z0 z1 z2 z3 = (¬(HT.sIx (List.length ws) 0 z0 = 0 ∧ HT.sIx (List.length ws) (List.length ws) z1 = List.length ws) ∧ z3 (W.tup (b8 ws z0 z1)) z2) := by intros; rfl
theorem UP : ∀ (z0 : Mm) (z1 : K3) (l : PySem.Addr) (y : W), l4 (W.ref l) [y] z0 z1 = ∃ (ws : List W), z0 l = Option.some (MO.lst ws) ∧ List.length ws < PySem.sizeLine ∧ z1 W.non (put z0 l (MO.lst (ws ++ [y]))) := by intros; rfl
theorem UQ : ∀ (z0 : Mm) (z1 : K3) (l b : PySem.Addr), sH (W.ref l) [W.ref b] z0 z1 = ∃ (ws : List W), ∃ (zs : List W), z0 l = Option.some (MO.lst ws) ∧ z0 b = Option.some (MO.lst zs) ∧ List.length ws + List.length zs ≤ PySem.sizeLine ∧ z1 W.non (put z0 l (MO.lst (ws ++ zs))) := by intros; rfl
theorem UR : ∀ (z0 : Mm) (z1 : K3) (l : PySem.Addr) (zs : List W), sH (W.ref l) [W.rl zs] z0 z1 = ∃ (ws : List W), z0 l = Option.some (MO.lst ws) ∧ List.length ws + List.length zs ≤ PySem.sizeLine ∧ z1 W.non (put z0 l (MO.lst (ws ++ zs))) := by intros; rfl
theorem US : ∀ (z0 : Mm) (z1 : K3) (l : PySem.Addr), rPop (W.ref l) [] z0 z1 = ∃ (ws : List W), ∃ (w : W), z0 l = Option.some (MO.lst (ws ++ [w])) ∧ z1 w (put z0 l (MO.lst ws)) := by intros; rfl
theorem UT : ∀ (T : String) (z1 : Mm) (x_2 : PySem.Str), jT T (W.str x_2) z1 = (T = "str") := by intros; rfl
theorem UU : ∀ (T : String) (z1 : Mm) (i : Int), jT T (W.int i) z1 = (T = "int") := by intros; rfl
theorem UW : ∀ (T : String) (z1 : Mm) (ws : List W), jT T (W.rl ws) z1 = (T = "list") := by intros; rfl
theorem UX : ∀ (T : String) (z1 : Mm) (ws : List W), jT T (W.sc ws) z1 = (T = "list") := by intros; rfl
theorem UY : ∀ (T : String) (z1 : Mm) (kvs : List (L2.aN × W)), jT T (W.dk kvs) z1 = (T = "dict") := by intros; rfl
theorem UZ : ∀ (T : String) (z1 : Mm) (kvs : List (List L2.aN × W)), jT T (W.dt kvs) z1 = (T = "dict") := by intros; rfl
theorem U0 : ∀ (T : String) (z1 : Mm) (p : PySem.Addr), jT T (W.ref p) z1 = ((T = "list" ∧ ∃ (ws : List W), z1 p = Option.some (MO.lst ws)) ∨ T = "dict" ∧ ((∃ (kvs : List (L2.aN × W)), z1 p = Option.some (MO.dK kvs)) ∨ ∃ (kvs : List (List L2.aN × W)), z1 p = Option.some (MO.dT kvs))) := by intros; rfl
theorem U1 : ∀ (z0 : Mm) (z1 : K3) (i j : Int), oO (W.int i) (W.int j) z0 z1 = ((L2.lT i j ∨ L2.oH i j) ∧ z1 (W.int (i * j)) z0) := by intros; rfl
theorem U2 : ∀ (z0 : Mm) (z1 : K3) (z : PySem.Str) (n : Int), oO (W.str z) (W.int n) z0 z1 = (Str.length z ≤ 16 ∧ -2 ^ 63 ≤ n ∧ n ≤ 1048576 ∧ z1 (W.str (PySem.Txt.mul z n)) z0) := by intros; rfl
theorem U3 : ∀ (z0 : Mm) (z1 : K3) (a : PySem.Addr) (n : Int), oO (W.ref a) (W.int n) z0 z1 = ∃ (xs : List W), z0 a = Option.some (MO.lst xs) ∧ -2 ^ 63 ≤ n ∧ n < 2 ^ 63 ∧ List.length xs * Int.toNat n ≤ PySem.sizeLine ∧ aZ (List.flatten (List.replicate (Int.toNat n) xs)) z0 z1 := by intros; rfl
theorem U4 : ∀ (z0 : Mm) (z1 : K3) (xs : List W) (n : Int), oO (W.rl xs) (W.int n) z0 z1 = (-2 ^ 63 ≤ n ∧ n < 2 ^ 63 ∧ List.length xs * Int.toNat n ≤ PySem.sizeLine ∧ aZ (List.flatten (List.replicate (Int.toNat n) xs)) z0 z1) := by intros; rfl
theorem U5 : ∀ (z0 : Mm) (z1 : K3) (i j : Int), i9 (W.int i) (W.int j) z0 z1 = ((L2.lT i j ∨ L2.oH i j) ∧ z1 (W.int (i * j)) z0) := by intros; rfl
theorem U6 : ∀ (z0 : Mm) (z1 : K3) (z : PySem.Str) (n : Int), i9 (W.str z) (W.int n) z0 z1 = (Str.length z ≤ 16 ∧ -2 ^ 63 ≤ n ∧ n ≤ 1048576 ∧ z1 (W.str (PySem.Txt.mul z n)) z0) := by intros; rfl
theorem U7 : ∀ (z0 : Mm) (z1 : K3) (a : PySem.Addr) (n : Int), i9 (W.ref a) (W.int n) z0 z1 = ∃ (xs : List W), z0 a = Option.some (MO.lst xs) ∧ -2 ^ 63 ≤ n ∧ n < 2 ^ 63 ∧ List.length xs * Int.toNat n ≤ PySem.sizeLine ∧ z1 (W.rl (List.flatten (List.replicate (Int.toNat n) xs))) z0 := by intros; rfl
theorem U8 : ∀ (z0 : Mm) (z1 : K3) (xs : List W) (n : Int), i9 (W.rl xs) (W.int n) z0 z1 = (-2 ^ 63 ≤ n ∧ n < 2 ^ 63 ∧ List.length xs * Int.toNat n ≤ PySem.sizeLine ∧ z1 (W.rl (List.flatten (List.replicate (Int.toNat n) xs))) z0) := by intros; rfl
end L3
set_option Elab.async false
set_option compiler.extract_closed false
set_option bootstrap.genMatcherCode false
set_option linter.all false
set_option maxRecDepth 100000
set_option maxHeartbeats 4000000
namespace L3
open PySem PySem.Spec PyProof.Rows L2
section
variable {X : Cx} {a b c : Expr} {ta tb tc : aR} {pos : Pos}
end
end L3
namespace L3
open PySem PySem.Spec PyProof.Rows L2
section
variable {X : Cx}
theorem DE {K : PySem.W.Frag} {H : Hp} {M : Mm} (ss : List Str) : aJ K H M (ss.map V.str) (ss.map W.str) := by
 induction ss with
 | nil => exact .nil
 | cons s r ih => exact .cons (.str s) ih
end
end L3
set_option Elab.async false
set_option compiler.extract_closed false
set_option bootstrap.genMatcherCode false
set_option linter.all false
set_option maxRecDepth 100000
set_option maxHeartbeats 4000000
namespace Rg
open PySem PySem.Spec PyProof.Rows L2 L3
structure a9 where
 name : Str
 parts : List Str
 cost : Int
def gZ (t : Str) : Prop := ∀ c ∈ cs t, c < 128
structure DF (t : Str) : Prop where
 len : t.length ≤ 20
 nm : isNameB t = true
 hd : ∃ c r, cs t = c :: r ∧ c ∈ cs dP
 asc : gZ t
structure nI (t : Str) : Prop where
 len : t.length ≤ 20
 ne : cs t ≠ []
 sm : ∀ c ∈ cs t, c ∈ cs i4
theorem DG : ∀ c ∈ cs i4, c < 128 := by decide +kernel
theorem sT : ∀ c ∈ cs dP, c < 128 := by decide +kernel
theorem DH : ∀ c ∈ cs dQ, c < 128 := by decide +kernel
theorem nI.asc {t : Str} (h : nI t) : gZ t := fun c hc => DG c (h.sm c hc)
theorem nI.nm {t : Str} (h : nI t) : isNameB t = false := BS h.ne h.sm
structure U9 (hs ws : List Str) (r : a9) : Prop where
 name : r.name ∈ hs
 parts : ∀ t ∈ r.parts, t ∈ ws ∨ t ∈ hs
 few : r.parts.length ≤ 4
 lo : 0 ≤ r.cost
 hi : r.cost < 10 ^ 60
structure oX (rs : List a9) : Prop where
 ne : rs ≠ []
 few : rs.length ≤ 60
 ex : ∃ hs ws : List Str, hs.length ≤ 12 ∧ (∀ t ∈ hs, DF t) ∧ (∀ t ∈ ws, nI t) ∧ (∀ r ∈ rs, U9 hs ws r) ∧ ∀ t ∈ hs, ∃ r ∈ rs, r.name = t
def jA (acc : List Str) (t : Str) : List Str := if t ∈ acc then acc else acc ++ [t]
def sU (acc : List Str) (rs : List a9) : List Str := (rs.map a9.name).foldl jA acc
def namesOf (rs : List a9) : List Str := sU [] rs
theorem VA {acc : List Str} {t u : Str} : u ∈ jA acc t ↔ u ∈ acc ∨ u = t := by
 unfold jA
 split
 ·rename_i h
  constructor
  ·exact .inl
  ·rintro (q | q)
   ·exact q
   ·rw [q]; exact h
 ·rw [List.mem_append, List.mem_singleton]
theorem VB {acc : List Str} {t : Str} : (jA acc t).length ≤ acc.length + 1 := by
 unfold jA
 split
 ·omega
 ·rw [List.length_append]; exact Nat.le_refl _
theorem DI : ∀ {ts acc : List Str} {u : Str}, u ∈ ts.foldl jA acc ↔ u ∈ acc ∨ u ∈ ts
 | [], acc, u => by simp
 | t :: r, acc, u => by
  rw [List.foldl_cons, DI, VA, List.mem_cons]
  constructor
  ·rintro ((h | h) | h)
   ·exact .inl h
   ·exact .inr (.inl h)
   ·exact .inr (.inr h)
  ·rintro (h | h | h)
   ·exact .inl (.inl h)
   ·exact .inl (.inr h)
   ·exact .inr h
theorem VC {rs : List a9} {u : Str} : u ∈ namesOf rs ↔ ∃ r ∈ rs, r.name = u := by
 unfold namesOf sU
 rw [DI]
 simp
theorem DJ {t : Str} (h : gZ t) : PyData.strOk t = true := by
 unfold PyData.strOk
 rw [Array.all_eq_true']
 intro c hc
 have := h c (by unfold cs; exact Array.mem_toList_iff.mpr hc)
 exact decide_eq_true (by omega)
theorem oX.asc {rs : List a9} (g : oX rs) {r : a9} (hr : r ∈ rs) : gZ r.name ∧ ∀ t ∈ r.parts, gZ t := by
 obtain ⟨hs, ws, _, hh, hw, hr', _⟩ := g.ex
 refine ⟨(hh _ (hr' r hr).name).asc, fun t ht => ?_⟩
 rcases (hr' r hr).parts t ht with q | q
 ·exact (hw t q).asc
 ·exact (hh t q).asc
theorem DK : ∀ (ts acc : List Str), (ts.foldl jA acc).length ≤ acc.length + ts.length
 | [], acc => by simp
 | t :: r, acc => by
  rw [List.foldl_cons, List.length_cons]
  have := DK r (jA acc t)
  have := VB (acc := acc) (t := t)
  omega
def cB (r : a9) : W := .tup [.str r.name, .tup (r.parts.map W.str), .int r.cost]
end Rg
set_option Elab.async false
set_option compiler.extract_closed false
set_option bootstrap.genMatcherCode false
set_option linter.all false
set_option maxRecDepth 100000
set_option maxHeartbeats 4000000
namespace Rg
open PySem PySem.Spec PyProof.Rows L2 L3
def VD : bK := fun ws M R => ∃ z g : Str, ws = [.str z, .str g] ∧ z.length ≤ 1000 ∧ R (.bl (b3 z g)) M
def oY : bK := fun ws M R => ∃ rs : List a9, ws = [.rl (rs.map cB)] ∧ rs.length ≤ 100 ∧ aZ ((namesOf rs).map W.str) M R
def jB : bK := fun ws M R => ∃ (zs : List W) (k : Int), (ws = [.sc zs, .int k] ∨ ws = [.rl zs, .int k]) ∧ nH zs ∧ 0 ≤ k ∧ ∀ i, R (.int i) M
abbrev VE : List Str := ["text", "signs"]
def wC : aF :=
   (bY (gU (aB (rEq true) (aA 0) (vC (.str ""))) (bN j8 (aC (cU (eE (dM dF (aA 0)) (cH 0) fG (aB (rIn false) (aA 0) (aA 1)) [none, some 1])) aG))))
abbrev wD : List Str := ["grammar", "found", "rule"]
def DL : aF :=
   (bB 1 vT)
def DM : aF :=
   (oR (vC (.bl true)) (vV (aA 1) (aB bG (aA 2) (vC (.int 0)))))
def DN : aF :=
   (gJ (dM dF (aA 0)) (cH 2) DM)
def DO : aF :=
   (bY (bN lB (aC (aA 1) aG)))
def oZ : aF := (aL DL (aL DN DO))
abbrev wF : List Str := ["rule", "known", "part"]
abbrev wG : List Str := ["rules", "known", "rule"]
def DP : aF :=
   (bB 1 (cU (bW oY (aC (aA 0) aG))))
abbrev wH : List Str := ["script", "k"]
def mD : aF :=
   (aL (cQ (cD (aB gW (aA 1) (bN dJ (aC (aA 0) aG))))
    (bY (aB bG (aA 0) (aA 1)))
    cP)
   (bY (vC (.int 0))))
end Rg
set_option hygiene false in
local macro_rules | `(tactic| simp? only [$xs,*] $[$l:location]?) => `(tactic| simp only [L3.oR, L3.vV, L3.sL, L3.lC, L3.sJ, L3.vT, L3.PU, L3.sP, L3.aL, L3.bB, L3.aA, L3.vC, L3.aB, L3.cD, L3.iO, L3.bN, L3.bW, L3.aG, L3.aC, L3.sD, L3.k7, L3.eU, L3.vG, L3.cQ, L3.m3, L3.i6, L3.jR, L3.gU, L3.m7, L3.O8, L3.iP, L3.RS, L3.RU, L3.RV, L3.RW, L3.RX, L3.RY, L3.RZ, L3.R0, L3.R1, L3.bY, L3.j9, L3.cP, L3.cW, L3.oJ, L3.PQ, L3.iU, L3.fW, L3.d8, L3.gJ, L3.dM, L3.l9, L3.P8, L3.cH, L3.eE, L3.cU, L3.fG, L3.R4, L3.R5, L3.R6, L3.R7, L3.R8, L3.R9, L3.SA, L3.SD, L3.SE, L3.SF, L3.SG, L3.SH, L3.SI, L3.SJ, L3.SK, L3.SM, L3.SN, L3.SO, L3.SQ, L3.SR, L3.SS, L3.SU, L3.SW, L3.SX, L3.SY, L3.RL, L3.RM, L3.RN, QP, QQ, QR, QS, QT, QU, QV, QW, QX, QY, QZ, Q0, Q1, Q2, Q3, Q4, Q5, Q6, Q7, Q8, Q9, RA, RB, RC, RE, RF, RG, RH, RI, RJ, RK, L3.S4, L3.S5, L3.S6, L3.S7, L3.S8, L3.S9, L3.TC, L3.TF, L3.DD, L3.TH, L3.TJ, L3.TK, L3.TL, L3.TM, L3.TQ, L3.TR, L3.TU, L3.TV, L3.TX, L3.TY, L3.TZ, L3.T1, L3.T6, L3.T7, L3.T9, L3.UA, L3.UB, L3.UC, L3.UD, L3.UE, L3.UG, L3.UH, L3.UI, L3.UJ, L3.UK, L3.UL, L3.UM, L3.UN, L3.UO, L3.UP, L3.UQ, L3.UR, L3.US, L3.UT, L3.UU, L3.UW, L3.UX, L3.UY, L3.UZ, L3.U0, L3.U1, L3.U2, L3.U3, L3.U4, L3.U5, L3.U6, L3.U7, L3.U8, L3.aX, L3.oS, v9, QJ, QK, List.map_cons, List.map_nil, Option.bind_some, Option.bind_none, Option.join_some, List.getElem?_cons_zero, List.getElem?_cons_succ, List.set_cons_zero, List.set_cons_succ, Option.some.injEq, exists_eq_left', exists_eq_left, W.bl.injEq, W.int.injEq, W.str.injEq, Bool.false_eq_true, if_true, if_false, ↓reduceIte, true_and, and_true, sizeLine, d7, BY, MO.lst.injEq, MO.dK.injEq, MO.dT.injEq, exists_eq', exists_eq, true_or, or_true, false_and, and_false, or_false, false_or, reduceCtorEq, String.reduceEq, exists_false, QL, decide_eq_true_eq, Bool.not_eq_true', Bool.not_true, Bool.not_false, Classical.not_not, decide_eq_false_iff_not, Int.reduceLT, Int.reduceLE, Nat.reduceLT, Nat.reduceLeDiff, Nat.reducePow, List.length_cons, List.length_nil, Nat.reduceAdd, Nat.zero_add, Nat.zero_le, $xs,*] $[$l:location]?)
set_option Elab.async false
set_option compiler.extract_closed false
set_option bootstrap.genMatcherCode false
set_option linter.all false
set_option maxRecDepth 100000
set_option maxHeartbeats 4000000
namespace Rg
open PySem PySem.Spec PyProof.Rows L2 L3
theorem VF : ∀ ws M R, oY ws M R → ws.length = 1 := by rintro ws M R ⟨_, rfl, _⟩; rfl
theorem VG : ∀ ws M R, jB ws M R → ws.length = 2 := by rintro ws M R ⟨_, _, rfl | rfl, _⟩ <;> rfl
theorem wI (c : Nat) (g : Str) : occ ⟨#[c]⟩ g = decide (c ∈ cs g) := StrLaws.found_one g c
theorem zb8 {ws : List W} {M : Mm} {R : K3} (h : VD ws M R) : wC (aX R) (b5 VE ws) M := by
 obtain ⟨z, g, rfl, hz, r⟩ := h
 show wC (aX R) [some (.str z), some (.str g)] M
 have em : b3 z g = (!decide (V.str z = V.str "") && (cs z).all fun c => decide (c ∈ cs g)) := rfl
 rw [oP] at em
 simp? only [wC]
 by_cases hc : z = ""
 ·rw [decide_eq_true hc] at em
  simp? only [hc]
  rw [if_neg (by simp)]
  simp at em; rw [em] at r
  exact ⟨_, Sub.refl _, r⟩
 ·rw [decide_eq_false hc] at em
  rw [if_pos hc]
  refine lE (rest := [some (.str g)]) (fun w => match w with | .str x => .bl (occ x g) | _ => .non) (iV (by simp; have := bH z; unfold cs at this; simp at this; omega)) (fun _ _ => trivial) (fun w hw M' C sb h1 => ?_) (aZ.frz ?_)
  ·obtain ⟨c, _, rfl⟩ := List.mem_map.mp hw
   simp? only [L3.rIn]
   exact h1
  ·simp? only [L3.j8]
   refine ⟨(cs z).map fun c => decide (c ∈ cs g), ?_, _, Sub.refl _, ?_⟩
   ·unfold bools
    rw [List.map_map, List.map_map]
    refine List.map_congr_left fun c _ => ?_
    show W.bl (occ ⟨#[c]⟩ g) = _
    rw [wI]; rfl
   ·rw [List.all_map]
    simp at em
    have e2 : (cs z).all (id ∘ fun c => decide (c ∈ cs g)) = b3 z g := by rw [Bool.eq_iff_iff]; simp [em]
    rw [e2]; exact r
theorem wJ (z : Str) : (Txt.partition z "_").1.length ≤ z.length ∧ (Txt.partition z "_").2.2.length ≤ z.length := by
 have := fact_partition z "_"
 exact ⟨this.1, this.2.2⟩
theorem sV (z : Str) : isNameB z = ((decide ((Txt.partition z "_").2.1 = "") || b3 (Txt.partition z "_").2.2 dQ) && b3 (Txt.partition z "_").1 dP) := by
 unfold isNameB; rw [oP]
def nJ (t : Str) : aN × W := (Sum.inr t, .bl true)
theorem VH (acc : List Str) (t : Str) : i8 (acc.map nJ) (Sum.inr t : aN) (.bl true) = (jA acc t).map nJ := by
 unfold i8 jA
 have e : ((acc.map nJ).any fun kv => decide (kv.1 = Sum.inr t)) = decide (t ∈ acc) := by
  rw [List.any_map, Bool.eq_iff_iff]
  simp [nJ, Function.comp]
 rw [e]
 by_cases h : t ∈ acc
 ·rw [if_pos (decide_eq_true h), if_pos h, List.map_map]
  refine List.map_congr_left fun u hu => ?_
  simp [nJ, Function.comp]
 ·rw [if_neg (by simpa using h), if_neg h, List.map_append]; rfl
theorem VI {ws : List W} {M : Mm} {R : K3} (h : oY ws M R) : oZ (aX R) (b5 wD ws) M := by
 obtain ⟨rs, rfl, hl, r⟩ := h
 show oZ (aX R) [some (.rl (rs.map cB)), none, none] M
 simp? only [oZ, DL, DN]
 intro p hp
 refine iT (fun i τ M' => ∃ o, τ = [some (.rl (rs.map cB)), some (.ref p), o] ∧ M' = put M p (.dK ((namesOf (rs.take i)).map nJ))) ⟨_, rfl, rfl⟩ (fun _ _ _ _ _ => trivial) ?_ ?_
 ·rintro i w τ M' hw ⟨o, rfl, rfl⟩
  rw [List.getElem?_map] at hw
  obtain ⟨q, hq, rfl⟩ := Option.map_eq_some_iff.mp hw
  have hi : i < rs.length := (List.getElem?_eq_some_iff.mp hq).1
  simp? only [DM, cB]
  have e : namesOf (rs.take (i + 1)) = jA (namesOf (rs.take i)) q.name := by
   rw [List.take_add_one, hq]
   unfold namesOf sU
   simp
  have hlen : (namesOf (rs.take i)).length ≤ i := by
   have := DK ((rs.take i).map a9.name) []
   unfold namesOf sU
   simp at this
   simp; omega
  refine RO d7 (by rw [List.length_map]; exact sS (by omega)) ⟨_, Sub.refl _, _, rfl, ?_⟩
  rw [BY, VH, e]
 ·rintro τ M' ⟨o, rfl, rfl⟩
  rw [List.length_map, List.take_length]
  simp? only [DO]
  intro q hq
  have hpq : q ≠ p := fun e => by subst e; rw [d7] at hq; cases hq
  rw [gH hpq] at hq
  refine ⟨_, ?_, r q hq⟩
  rw [List.map_map]
  exact Sub.put (Sub.new hp)
theorem DQ {t : Str} {ts : List Str} : inW (.str t) (ts.map W.str) = decide (t ∈ ts) := by
 unfold inW
 rw [List.any_map, Bool.eq_iff_iff]
 simp [Function.comp, vO]
theorem DR (ts : List Str) : (ts.map W.str).all c5 = true := by
 rw [List.all_map, List.all_eq_true]; intro t _; rfl
theorem VJ {ws : List W} {M : Mm} {R : K3} (h : jB ws M R) : mD (aX R) (b5 wH ws) M := by
 obtain ⟨zs, k, e, hi, hk, r⟩ := h
 rcases e with rfl | rfl
 ·show mD (aX R) [some (.sc zs), some (.int k)] M
  simp? only [mD]
  by_cases hd : k < zs.length
  ·obtain ⟨x, e, _, m⟩ := sQ hk hd
   obtain ⟨i, rfl⟩ := hi x m
   rw [if_pos hd]
   exact ⟨_, e, _, Sub.refl _, r i⟩
  ·rw [if_neg hd]
   exact ⟨_, Sub.refl _, r 0⟩
 ·show mD (aX R) [some (.rl zs), some (.int k)] M
  simp? only [mD]
  by_cases hd : k < zs.length
  ·obtain ⟨x, e, _, m⟩ := sQ hk hd
   obtain ⟨i, rfl⟩ := hi x m
   rw [if_pos hd]
   exact ⟨_, e, _, Sub.refl _, r i⟩
  ·rw [if_neg hd]
   exact ⟨_, Sub.refl _, r 0⟩
end Rg
set_option Elab.async false
set_option compiler.extract_closed false
set_option bootstrap.genMatcherCode false
set_option linter.all false
set_option maxRecDepth 100000
set_option maxHeartbeats 4000000
namespace PySem
namespace Rl
open PyProof.Rows L2 PySem.Spec
section
variable {prog : Program} {w : World} {A : Around} {E : Value → Shared → Prop} {s : Shared}
theorem sub_self : isSubtype (.type "list_reverseiterator") (.type "list_reverseiterator") = pure true := by rw [isSubtype_type]; kernel_rfl
end
end Rl
end PySem
namespace L2
open PySem PySem.Spec PyProof.Rows
section
variable {X : Cx} {a : Expr} {ta : TA} {p p2 pos pos2 : Pos}
end
end L2
namespace L3
open PySem PySem.Spec PyProof.Rows L2
section
variable {X : Cx} {a : Expr} {ta : aR} {pos : Pos}
end
end L3
set_option Elab.async false
set_option compiler.extract_closed false
set_option bootstrap.genMatcherCode false
set_option linter.all false
set_option maxRecDepth 100000
set_option maxHeartbeats 4000000
namespace PySem
namespace Dp
open PyProof.Rows L2 PySem.Spec
section
variable {prog : Program} {w : World} {A : Around} {E : Value → Shared → Prop} {s : Shared}
theorem DS : entryFor table "dict.update.loop" = some Builtin.«dict.update.loop» := entryFor_of_tree (by kernel_rfl)
theorem wL : plainId "dict.update.loop" = true := by decide +kernel
variable {K : Type} [DecidableEq K] {knd : KeyKind prog w K}
theorem VL (kvs : List (K × Value)) (k : K) (v : Value) : (stored kvs k v).length ≤ kvs.length + 1 := by
 unfold stored
 split
 ·rw [List.length_map]; omega
 ·rw [List.length_append, List.length_singleton]; exact Nat.le_refl _
def all (kvs : List (K × Value)) (ps : List (K × Value)) : List (K × Value) := ps.foldl (fun kvs p => stored kvs p.1 p.2) kvs
theorem loop {d I l : Addr} {items : Array Value} {ps : List (K × Value)} {R : Result → Shared → Prop} (hh : A.handled = none) (hdI : d ≠ I) (hdl : d ≠ l) (hlI : l ≠ I) (hn : ps.length = items.size) (hz : items.size ≤ sizeLine) :
  ∀ (k i : Nat) (s : Shared) (kvs : List (K × Value)), items.size - i = k → i ≤ items.size → kvs.length ≤ i → s.heap.IsListIter I l i → s.heap.IsList l items → s.heap.DictOf knd d kvs →
  (∀ (j : Nat) (p : K × Value), ps[j]? = some p → ∃ (a : Addr) (key : Value), items[j]? = some (.ref a) ∧ a ≠ d ∧ a ≠ I ∧ s.heap.IsTuple a #[key, p.2] ∧ knd.is p.1 key = true) →
  (∀ h' tk, (∀ b o, b ≠ d → b ≠ I → s.heap.get? b = some o → h'.get? b = some o) → h'.DictOf knd d (all kvs (ps.drop i)) → R (.ok (.ret .none)) { s with heap := h', toks := tk }) →
  codeAny (model prog w) A (.builtin "dict.update.loop" ⟨[.ref d, .ref I, rawInt (i : Int), .none], []⟩) R s := by
 intro k
 induction k with
 | zero =>
  intro i s kvs hk hi hl hit nY hd hp hR
  have hin : i = items.size := by omega
  refine codeAny_builtin DS ?_
  rw [Around.under_plainId wL _]
  show wpAny _ A.in1 (pyNext (.ref I) >>= _) _ _ s
  have W := Walks.list (prog := prog) (w := w) (A := A.in1) hh I l hlI items
  refine wpAny_bind (W.done s _ _ (by rw [← hin]; exact ⟨hit, nY⟩) fun h' tk hm => ?_)
  show wpAny _ A.in1 (Builtin.Dict.addKeywords d [] >>= _) _ _ _
  have hd' : h'.DictOf knd d kvs := by
   obtain ⟨o, es, ep, ho, rest⟩ := hd
   exact ⟨o, es, ep, hm d o (by simp [hdI]) ho, rest⟩
  refine wpAny_bind (wpAny_pure (wpAny_pure (hR h' tk (fun b o _ hb e => hm b o (by simp [hb]) e) ?_)))
  rw [List.drop_of_length_le (by omega)]
  exact hd'
 | succ k ih =>
  intro i s kvs hk hi hl hit nY hd hp hR
  have hlt : i < items.size := by omega
  refine codeAny_builtin DS ?_
  rw [Around.under_plainId wL _]
  show wpAny _ A.in1 (pyNext (.ref I) >>= _) _ _ s
  have W := Walks.list (prog := prog) (w := w) (A := A.in1) hh I l hlI items
  refine wpAny_bind (W.item i s _ _ hlt ⟨hit, nY⟩ fun v h' tk hv hst hm => ?_)
  obtain ⟨p, hpi⟩ : ∃ p, ps[i]? = some p := ⟨_, List.getElem?_eq_getElem (by omega)⟩
  obtain ⟨a, key, ha, had, haI, hat, hkey⟩ := hp i p hpi
  rw [ha] at hv
  cases hv
  have hd' : h'.DictOf knd d kvs := by
   obtain ⟨o, es, ep, ho, rest⟩ := hd
   exact ⟨o, es, ep, hm d o (by simp [hdI]) ho, rest⟩
  have hat' : h'.IsTuple a #[key, p.2] := by
   obtain ⟨o, ho, rest⟩ := hat
   exact ⟨o, hm a o (by simp [haI]) ho, rest⟩
  show wpAny _ A.in1 (holding [Value.ref a] _ >>= _) _ _ _
  refine wpAny_bind (wpAny_holding (wpAny_bind (wpAny_tryCatch ?_)))
  unfold Builtin.Dict.pairItems
  obtain ⟨o, ho, hc, n, hd2⟩ := hat'
  refine wpAny_bind (wpAny_typeOf (T := "tuple") ⟨o, ho, hc⟩ ?_)
  rw [if_pos (by decide)]
  refine wpAny_bind (wpAny_seqItems ho hd2 (wpAny_pure ?_))
  show wpAny _ _ (holding [key, p.2] (dictSet d key p.2)) _ _ _
  refine wpAny_holding (wpAny_dictSet_pairs hkey hd' (hsz := by omega) fun h2 hd3 hs2 => ?_)
  have e1 : ps.drop i = p :: ps.drop (i + 1) := by rw [List.drop_eq_getElem_cons (by omega)]; congr 1; exact (List.getElem?_eq_some_iff.mp hpi).2
  refine wpAny_pure ⟨plainId_quiet wL _, ?_⟩
  refine ih (i + 1) _ (stored kvs p.1 p.2) (by omega) hlt (by have := VL kvs p.1 p.2; omega) (hst.1.at fun o e => (hs2.2 I (Ne.symm hdI)).trans e) (hst.2.at fun o e => (hs2.2 l (Ne.symm hdl)).trans e) hd3 (fun j q hq => ?_) fun h3 tk3 hk3 hd4 => ?_
  ·obtain ⟨a, key, g1, g2, g3, ⟨o, g4, g5⟩, g6⟩ := hp j q hq
   exact ⟨a, key, g1, g2, g3, ⟨o, (hs2.2 a g2).trans (hm a o (by simp [g3]) g4), g5⟩, g6⟩
  ·refine hR h3 tk3 (fun b o h1 h2 e => hk3 b o h1 h2 ((hs2.2 b h1).trans (hm b o (by simp [h2]) e))) ?_
   rw [e1]; exact hd4
end
end Dp
end PySem
set_option Elab.async false
set_option compiler.extract_closed false
set_option bootstrap.genMatcherCode false
set_option linter.all false
set_option maxRecDepth 100000
set_option maxHeartbeats 4000000
namespace L3
open PySem PySem.Spec PyProof.Rows L2
section
variable {X : Cx}
end
end L3
namespace L3
open PySem PySem.Spec PyProof.Rows L2
section
variable {X : Cx}
def sW (neg : Bool) : R3 := fun x y M R => ∃ ws dx ds, (y = .rl ws ∨ ∃ a, y = .ref a ∧ M a = some (.lst ws)) ∧ Snap M x dx ∧ fD M ws ds ∧ mV dx ∧ (∀ d ∈ ds, mV d) ∧
 R (.bl (if neg then !(ds.any fun d => PyData.eqv d dx) else ds.any fun d => PyData.eqv d dx)) M
noncomputable def nK (h : Heap) (dx : PyData) (u : Value) : Bool := @decide (∃ d as, Reads h u d as ∧ PyData.eqv d dx = true) (Classical.propDecidable _)
theorem DT {h : Heap} {dx d : PyData} {u : Value} {as : List Addr} (r : Reads h u d as) (hd : d.canLay0 = true) : nK h dx u = PyData.eqv d dx := by
 unfold nK
 rw [Bool.eq_iff_iff, @decide_eq_true_eq _ (Classical.propDecidable _)]
 exact ⟨fun ⟨d', as', r', e⟩ => by rw [SeqAt.Reads.unique d d' u as as' hd r r']; exact e, fun e => ⟨d, as, r, e⟩⟩
theorem DU {h : Heap} {dx : PyData} : ∀ {us : List Value} {ds : List PyData} {as : List Addr}, ReadsAll h us ds as → (∀ d ∈ ds, mV d) → us.any (nK h dx) = ds.any fun d => PyData.eqv d dx
 | _, _, _, .nil, _ => rfl
 | _, _, _, .cons r t, f => by
  rw [List.any_cons, List.any_cons, DT r (f _ List.mem_cons_self).1, DU t fun d hd => f d (List.mem_cons_of_mem _ hd)]
theorem DV {h : Heap} : ∀ {us : List Value} {ds : List PyData} {as : List Addr}, ReadsAll h us ds as → ∀ u ∈ us, ∃ d ∈ ds, ∃ bs, Reads h u d bs
 | _, _, _, .nil, u, hu => by cases hu
 | _, _, _, .cons r t, u, hu => by
  rcases List.mem_cons.mp hu with rfl | hu
  ·exact ⟨_, List.mem_cons_self, _, r⟩
  ·obtain ⟨d, hd, q⟩ := DV t u hu
   exact ⟨d, List.mem_cons_of_mem _ hd, q⟩
theorem VM {pins : List (Addr × Obj)} {σ : L2.St} {H : Hp} {s : Shared} {M : Mm} {R : K3} {x y : V} {wx wy : W} {v u : Value} {neg : Bool} (hu : X.A.units + 64 < cLine) (I : L2.Inv X pins σ H s) (am : AM X.K H M) (ax : AV X.K H M x wx) (ay : AV X.K H M y wy) (rx : RelV x v) (ry : RelV y u) (h : sW neg wx wy M R) :
  ∃ (l : Addr) (its : Array Value) (e : Value → Bool), u = .ref l ∧ s.heap.IsList l its ∧ (∀ w ∈ its, SeqAt.EqAt X.A.in1 s w v (e w)) ∧ R (.bl (if neg then !its.any e else its.any e)) M := by
 obtain ⟨ws, dx, ds, hy, sx, ss, fx, fs, q⟩ := h
 obtain ⟨as, ra⟩ := sx.reads I am ax rx
 obtain ⟨l, vs, its, rfl, rv, pl, qv⟩ : ∃ (l : Addr) (vs : List V) (its : List Value), u = .ref l ∧ aY vs its ∧ s.heap.IsList l its.toArray ∧ aJ X.K H M vs ws := by
  rcases hy with rfl | ⟨a, rfl, e⟩
  ·cases ay with
   | rl e _ q =>
    cases ry
    obtain ⟨its, rv, pl, _⟩ := I.list (a6.of e)
    exact ⟨_, _, its, rfl, rv, pl.isList, q⟩
  ·cases ay
   cases ry
   obtain ⟨vs, e0, q⟩ := am.lst e
   obtain ⟨its, rv, pl, _⟩ := I.list (a6.of e0)
   exact ⟨_, _, its, rfl, rv, pl.isList, q⟩
 obtain ⟨bs, rb⟩ := ss.reads I am qv rv
 refine ⟨l, its.toArray, nK s.heap dx, rfl, pl, fun w hw => ?_, ?_⟩
 ·obtain ⟨d, hd, cs, r⟩ := DV rb w (by simpa using hw)
  rw [DT r (fs d hd).1]
  refine SeqAt.eqAt_reads d dx X.A.in1 s w v _ _ r ra (fs d hd).1 fx.1 ?_
  have h1 := (fs d hd).2
  have h2 : X.A.in1.units = X.A.units + 1 := rfl
  exact Nat.lt_of_le_of_lt (by omega) hu
 ·rw [show its.toArray.any (nK s.heap dx) = its.any (nK s.heap dx) by simp, DU rb fs]
  exact q
theorem VN (hu : X.A.units + 64 < cLine) : bC X (compareOp .In) (cV X.K (sW false)) := by
 rintro pins s σ H x y v u Q I rx ry ⟨wx, wy, M, R, am, ax, ay, h, k⟩
 obtain ⟨l, its, e, rfl, pl, he, q⟩ := VM hu I am ax ay rx ry h
 exact SeqAt.in_listAt e pl he ⟨.bl _, H, I, rfl, k.at am (.bl _) q⟩
end
end L3
namespace L3
open PySem PySem.Spec PyProof.Rows L2
end L3
set_option Elab.async false
set_option compiler.extract_closed false
set_option bootstrap.genMatcherCode false
set_option linter.all false
set_option maxRecDepth 100000
set_option maxHeartbeats 4000000
namespace Rg
open PySem PySem.Spec PyProof.Rows
def jn (c : Nat) : List (List Nat) → List Nat
 | [] => []
 | [p] => p
 | p :: q :: r => p ++ c :: jn c (q :: r)
def sp (c : Nat) : List Nat → List (List Nat)
 | [] => [[]]
 | a :: r => if a = c then [] :: sp c r else match sp c r with
  | [] => [[a]]
  | p :: ps => (a :: p) :: ps
theorem kC (c : Nat) : ∀ l, ∃ p ps, sp c l = p :: ps
 | [] => ⟨_, _, rfl⟩
 | a :: r => by
  obtain ⟨p, ps, e⟩ := kC c r
  rw [sp]
  split
  ·exact ⟨_, _, rfl⟩
  ·rw [e]; exact ⟨_, _, rfl⟩
theorem DW {c : Nat} : ∀ {p : List Nat}, c ∉ p → sp c p = [p]
 | [], _ => rfl
 | a :: p, h => by
  rw [sp, if_neg (fun e => h (by rw [e]; exact List.mem_cons_self)), DW (fun z => h (List.mem_cons_of_mem _ z))]
theorem DX {c : Nat} {l : List Nat} : ∀ {p : List Nat}, c ∉ p → sp c (p ++ c :: l) = p :: sp c l
 | [], _ => by rw [List.nil_append, sp, if_pos rfl]
 | a :: p, h => by
  rw [List.cons_append, sp, if_neg (fun e => h (by rw [e]; exact List.mem_cons_self)), DX (fun z => h (List.mem_cons_of_mem _ z))]
theorem DY {c : Nat} : ∀ {ps : List (List Nat)}, ps ≠ [] → (∀ p ∈ ps, c ∉ p) → sp c (jn c ps) = ps
 | [], h, _ => absurd rfl h
 | [p], _, h => DW (h p (by simp))
 | p :: q :: r, _, h => by
  rw [jn, DX (h p (by simp)), DY (by simp) fun x hx => h x (List.mem_cons_of_mem _ hx)]
def bR (l : List Nat) : Str := ⟨l.toArray⟩
theorem dB (l : List Nat) : cs (bR l) = l := by unfold cs bR; simp
theorem wM (x : Str) : bR (cs x) = x := h9 (dB _)
theorem nL {sep : Str} {c : Nat} (hs : cs sep = [c]) : ∀ xs : List Str, cs (Str.join sep xs) = jn c (xs.map cs)
 | [] => rfl
 | [x] => rfl
 | x :: y :: r => by
  show cs (x ++ sep ++ Str.join sep (y :: r)) = _
  rw [gG, gG, nL hs (y :: r), hs, List.append_assoc]; rfl
def pos (c : Nat) : Nat → List Nat → List Nat
 | _, [] => []
 | i, b :: r => if b = c then i :: pos c (i + 1) r else pos c (i + 1) r
open PySem.Builtin.Str PySem.StrLaws in
theorem VO (x : Str) (c : Nat) (limit : Nat) : ∀ (n a : Nat) (st : Array Nat × Nat), n = x.length - a → a + n ≤ limit → st.2 ≤ a → st.1.size ≤ a →
  (forIn (List.range' a (n + 1)) st (occBody x ⟨#[c]⟩ x.length limit)).run.fst.toList = st.1.toList ++ pos c a ((cs x).drop a) := by
 intro n
 induction n with
 | zero =>
  intro a st hn hl h1 h2
  have hd : (cs x).drop a = [] := List.drop_of_length_le (by rw [bH]; omega)
  rw [hd, pos, List.append_nil, List.range'_succ, List.forIn_cons]
  unfold occBody
  rw [if_neg (by intro ⟨⟨_, h⟩, _⟩; have : a + 1 ≤ x.length := h; omega)]
  rfl
 | succ n ih =>
  intro a st hn hl h1 h2
  have ha : a < (cs x).length := by rw [bH]; omega
  have hd : (cs x).drop a = (cs x)[a] :: (cs x).drop (a + 1) := List.drop_eq_getElem_cons ha
  have hs : subAt x ⟨#[c]⟩ a = decide ((cs x)[a] = c) := by
   rw [subAt_eq]
   show (((cs x).drop a).take 1 == [c]) = _
   rw [hd, List.take_succ_cons, List.take_zero, Bool.eq_iff_iff, beq_iff_eq, decide_eq_true_eq]
   exact ⟨fun h => (List.cons.inj h).1, fun h => by rw [h]⟩
  rw [List.range'_succ, List.forIn_cons]
  unfold occBody
  rw [hd, pos]
  by_cases hc : (cs x)[a] = c
  ·rw [if_pos ⟨⟨⟨by omega, h1⟩, by show a + 1 ≤ x.length; rw [bH] at ha; omega⟩, by rw [hs]; simp [hc]⟩, if_pos hc]
   have := ih (a + 1) (st.1.push a, a + 1) (by omega) (by omega) (Nat.le_refl _) (by simp; omega)
   refine Eq.trans this ?_
   simp
  ·rw [if_neg (by rw [hs]; simp [hc]), if_neg hc]
   exact ih (a + 1) st (by omega) (by omega) (by omega) (by omega)
open PySem.Builtin.Str PySem.StrLaws in
theorem VP (x : Str) (c : Nat) : occurrences x ⟨#[c]⟩ 0 x.length (x.length + 1) = pos c 0 (cs x) := by
 rw [occ_eq]
 have := VO x c (x.length + 1) x.length 0 (#[], 0) (by omega) (by omega) (Nat.le_refl _) (by simp)
 simpa using this
open PySem.Builtin.Str PySem.StrLaws in
theorem VQ (x : Str) (c : Nat) : ∀ (l : List Nat) (a i : Nat), a ≤ i → (cs x).drop i = l → partsFrom x 1 a (pos c i l) = (match sp c l with | [] => [] | p :: ps => (((cs x).drop a).take (i - a) ++ p) :: ps).map bR := by
 intro l
 induction l with
 | nil =>
  intro a i h e
  have hi : (cs x).length ≤ i := by
   by_cases hh : (cs x).length ≤ i
   ·exact hh
   ·have := congrArg List.length e; rw [List.length_drop] at this; simp at this; omega
  show [strSub x a x.length] = [bR (((cs x).drop a).take (i - a) ++ [])]
  congr 1
  apply h9
  rw [dB, mU, List.append_nil, List.take_of_length_le (by rw [List.length_drop, bH]; exact Nat.le_refl _), List.take_of_length_le (by rw [List.length_drop]; omega)]
 | cons b r ih =>
  intro a i h e
  have hi : i < (cs x).length := by
   by_cases hh : (cs x).length ≤ i
   ·rw [List.drop_of_length_le hh] at e; cases e
   ·omega
  have e2 : (cs x).drop (i + 1) = r := by rw [← List.drop_drop, e]; rfl
  have hb : (cs x)[i] = b := by rw [List.drop_eq_getElem_cons hi] at e; exact (List.cons.inj e).1
  rw [pos, sp]
  by_cases hc : b = c
  ·rw [if_pos hc, if_pos hc, partsFrom, ih (i + 1) (i + 1) (Nat.le_refl _) e2]
   obtain ⟨p, ps, eq⟩ := kC c r
   rw [eq]
   show strSub x a i :: _ = bR (((cs x).drop a).take (i - a) ++ []) :: List.map bR (p :: ps)
   congr 1
   ·apply h9; rw [dB, mU, List.append_nil]
   ·rw [Nat.sub_self, List.take_zero]; rfl
  ·rw [if_neg hc, if_neg hc, ih a (i + 1) (by omega) e2]
   obtain ⟨p, ps, eq⟩ := kC c r
   rw [eq]
   show bR (((cs x).drop a).take (i + 1 - a) ++ p) :: _ = bR (((cs x).drop a).take (i - a) ++ (b :: p)) :: _
   congr 2
   have h3 : ((cs x).drop a).take (i + 1 - a) = ((cs x).drop a).take (i - a) ++ [b] := by
    rw [show i + 1 - a = (i - a) + 1 by omega, List.take_add_one, List.getElem?_drop, show a + (i - a) = i by omega, List.getElem?_eq_getElem hi, hb]; rfl
   rw [h3, List.append_assoc]; rfl
open PySem.Builtin.Str PySem.StrLaws in
theorem VR (x : Str) (c : Nat) : partsBetween x (occurrences x ⟨#[c]⟩ 0 x.length (x.length + 1)) 1 = (sp c (cs x)).map bR := by
 rw [partsBetween_eq, VP, VQ x c (cs x) 0 0 (Nat.le_refl _) rfl]
 obtain ⟨p, ps, e⟩ := kC c (cs x)
 rw [e]; rfl
end Rg
set_option Elab.async false
set_option compiler.extract_closed false
set_option bootstrap.genMatcherCode false
set_option linter.all false
set_option maxRecDepth 100000
set_option maxHeartbeats 4000000
namespace L3
open PySem PySem.Spec PyProof.Rows L2
section
variable {X : Cx}
def Joins (sep : Str) (xs : List Str) : Prop := ∃ B : Nat, (∀ y ∈ xs, y.length ≤ B) ∧ xs.length * B + xs.length * sep.length ≤ 16777216
def eF : W → List W → Mm → K3 → Prop
 | .str sep, [.rl ws], M, R => ∃ xs : List Str, ws = xs.map W.str ∧ Joins sep xs ∧ R (.str (Str.join sep xs)) M
 | .str sep, [.ref a], M, R => ∃ xs : List Str, M a = some (.lst (xs.map W.str)) ∧ Joins sep xs ∧ R (.str (Str.join sep xs)) M
 | _, _, _, _ => False
theorem DZ {K : PySem.W.Frag} {H : Hp} {M : Mm} : ∀ {xs : List Str} {vs : List V} {us : List Value}, aJ K H M vs (xs.map W.str) → aY vs us → ∃ l : List (Str × Tok), strValues l = us ∧ l.map (·.1) = xs
 | [], _, _, .nil, .nil => ⟨[], rfl, rfl⟩
 | x :: xs, _, _, .cons av avs, .cons rv rvs => by
  obtain ⟨l, e1, e2⟩ := DZ avs rvs
  cases av
  obtain ⟨t, rfl⟩ := rv
  exact ⟨(x, t) :: l, by rw [← e1]; rfl, by rw [← e2]; rfl⟩
theorem D0 {pins : List (Addr × Obj)} {σ : L2.St} {H : Hp} {M : Mm} {s : Shared} {Q : VK} {R : K3} {sep : Str} {ts : List Str} {vs : List V} {l : Addr} {t : Tok} (I : L2.Inv X pins σ H s) (am : AM X.K H M) (k : Up X.K H M R Q) (f : H l = some (.lst vs)) (q : aJ X.K H M vs (ts.map W.str)) (hj : Joins sep ts) (r : R (.str (Str.join sep ts)) M) :
  wpAny (model X.prog X.w) X.A (call (.builtin "str.join") [.str sep t, .ref l]) (EP X pins σ Q) X.xe s := by
 obtain ⟨B, hB, hl⟩ := hj
 obtain ⟨its, rv, pl, _⟩ := I.list (a6.of f)
 obtain ⟨l, e1, e2⟩ := DZ q rv
 refine call_meets F.slot_str_join (typeIs_str _ _ _) F.entry_str_join (F.args_str_join_2 _ _) (meets_str_join_list sep t _ l (by rw [e2]; exact StrLaws.joinFits hB hl)) ⟨by rw [e1]; exact pl.isList, ?_⟩
 have fin : ∀ (y : Str) (tk tk' : Nat), y = Str.join sep ts → EP X pins σ Q (.str y tk) { s with toks := tk' } := fun y tk tk' e => by
  subst e
  exact ⟨.str _, H, I.tok _, ⟨_, rfl⟩, k.at am (.str _) r⟩
 have hz : (Builtin.Str.glued sep ts).length ≤ sizeLine := by
  have h1 := StrLaws.sumLen_le ts hB
  rw [size_glued, sizeLine_eq]
  have h2 : (ts.length - 1) * sep.length ≤ ts.length * sep.length := Nat.mul_le_mul_right _ (Nat.sub_le _ _)
  omega
 have ge := StrLaws.glued_eq_join sep ts
 match l, e2 with
 | [], e2 => subst e2; exact ⟨hz, fin _ _ _ ge⟩
 | [p], e2 => subst e2; exact fin _ _ s.toks rfl
 | p :: p2 :: r2, e2 =>
  rw [← e2] at hz ge
  exact ⟨hz, fin _ _ _ (by rw [← e2]; exact ge)⟩
theorem lH : fR X "str.join" (iN X.K eF) := by
 rintro pins s σ H x xs v us Q I rx rs ⟨wx, ws, M, R, am, ax, axs, h, k⟩
 match wx, ws, h with
 | .str sep, [.rl ws], h =>
  obtain ⟨u, rfl, au⟩ := axs.one
  obtain ⟨ts, rfl, hj, r⟩ := h
  cases ax
  obtain ⟨t, rfl⟩ := rx
  obtain ⟨u', rfl, ru⟩ := rs.one
  cases au with
  | rl f n q => cases ru; exact D0 I am k f q hj r
 | .str sep, [.ref a], h =>
  obtain ⟨u, rfl, au⟩ := axs.one
  obtain ⟨ts, e, hj, r⟩ := h
  cases ax
  obtain ⟨t, rfl⟩ := rx
  obtain ⟨u', rfl, ru⟩ := rs.one
  cases au
  cases ru
  obtain ⟨vs, f, q⟩ := am.lst e
  exact D0 I am k f q hj r
def VS (x : Str) (c : Nat) : Prop := 0 < x.length ∧ x.length ≤ 1000000 ∧ (∀ a ∈ Rg.cs x, a < 256) ∧ c < 256
def VT : W → List W → Mm → K3 → Prop
 | .str x, [.str y], M, R => ∃ c : Nat, y = ⟨#[c]⟩ ∧ VS x c ∧ aZ ((Rg.sp c (Rg.cs x)).map fun p => W.str (Rg.bR p)) M R
 | _, _, _, _ => False
theorem D1 (c : Nat) : ∀ l : List Nat, (Rg.sp c l).length ≤ l.length + 1
 | [] => Nat.le_refl _
 | a :: r => by
  have ih := D1 c r
  rw [Rg.sp]
  split
  ·simp; omega
  ·obtain ⟨p, ps, e⟩ := Rg.kC c r
   rw [e] at ih ⊢
   simp at ih ⊢; omega
theorem D2 : ∀ (tk : Nat) (ps : List Str), aY (ps.map V.str) (strsFrom tk ps)
 | _, [] => .nil
 | tk, p :: ps => .cons ⟨tk, rfl⟩ (D2 (tk + 1) ps)
theorem D4 {x : Str} (h : ∀ a ∈ Rg.cs x, a < 256) : Builtin.Str.strKind x = 1 := by
 unfold Builtin.Str.strKind
 rw [if_pos]
 rw [Array.all_eq_true']
 intro a ha
 simpa using h a (by unfold Rg.cs; simpa using ha)
theorem m_split : fR X "str.split" (iN X.K VT) := by
 rintro pins s σ H x xs v us Q I rx rs ⟨wx, ws, M, R, am, ax, axs, h, k⟩
 match wx, ws, h with
 | .str x, [.str y], h =>
  obtain ⟨u, rfl, au⟩ := axs.one
  obtain ⟨c, rfl, ⟨h0, h1, h2, h3⟩, r⟩ := h
  cases ax; cases au
  obtain ⟨t, rfl⟩ := rx
  obtain ⟨u', rfl, ru⟩ := rs.one
  obtain ⟨t', rfl⟩ := ru
  have k1 : (decide (x.length < (⟨#[c]⟩ : Str).length) || decide (Builtin.Str.strKind x < Builtin.Str.strKind ⟨#[c]⟩)) = false := by
   rw [D4 h2, D4 (x := ⟨#[c]⟩) (by unfold Rg.cs; simp; exact h3)]
   have : (⟨#[c]⟩ : Str).length = 1 := rfl
   rw [this]
   simp
   omega
  have hp := Rg.VR x c
  have hlen : ((Rg.sp c (Rg.cs x)).map Rg.bR).length ≤ sizeLine := by
   rw [List.length_map, sizeLine_eq]
   have := D1 c (Rg.cs x)
   rw [Rg.bH] at this
   omega
  have hfr := I.hok.fresh (Nat.le_refl s.heap.objs.size)
  have fin : ∀ (its : List Value) (tk : Nat), aY (((Rg.sp c (Rg.cs x)).map Rg.bR).map V.str) its → EP X pins σ Q (.ref s.heap.objs.size) { s with toks := tk, heap := s.heap.push { cls := .type "list", data := .seq its.toArray } } := fun its tk hv =>
   ⟨.ref s.heap.objs.size, _, I.lnew (t' := tk) hv (by rw [List.length_map]; exact hlen), rfl, eS am k hfr (DE _) (by
    have r' := r
    rw [show (Rg.sp c (Rg.cs x)).map (fun p => W.str (Rg.bR p)) = ((Rg.sp c (Rg.cs x)).map Rg.bR).map W.str by rw [List.map_map]; rfl] at r'
    exact r')⟩
  cases hf : (Builtin.Str.occurrences x ⟨#[c]⟩ 0 x.length (x.length + 1)).isEmpty with
  | false =>
   refine call_meets F.slot_str_split (typeIs_str _ _ _) F.entry_str_split (F.args_str_split_2 _ _) (meets_str_split_sep x ⟨#[c]⟩ t t' k1 rfl hf (by rw [sizeLine_eq]; omega) (by show (Builtin.Str.partsBetween x _ 1).length ≤ _; rw [hp]; exact hlen)) ?_
   show EP X pins σ Q _ _
   have hv := D2 s.toks ((Rg.sp c (Rg.cs x)).map Rg.bR)
   have := fin _ (s.toks + ((Rg.sp c (Rg.cs x)).map Rg.bR).length) hv
   show EP X pins σ Q (.ref s.heap.objs.size) { s with toks := s.toks + (Builtin.Str.partsBetween x (Builtin.Str.occurrences x ⟨#[c]⟩ 0 x.length (x.length + 1)) 1).length, heap := s.heap.push { cls := .type "list", data := .seq (strsFrom s.toks (Builtin.Str.partsBetween x (Builtin.Str.occurrences x ⟨#[c]⟩ 0 x.length (x.length + 1)) 1)).toArray } }
   rw [hp]
   exact this
  | true =>
   obtain ⟨raising, htree⟩ := split_sep_tree x ⟨#[c]⟩ t t'
   refine call_meets F.slot_str_split (typeIs_str _ _ _) F.entry_str_split (F.args_str_split_2 _ _) (S := fun _ R s => R (.ok (.ret (.ref s.heap.objs.size))) { s with heap := s.heap.push { cls := .type "list", data := .seq [Value.str x t].toArray } }) (.of_wp fun prog w A R s h => ?_) ?_
   ·rw [htree, k1, hf]
    show wpAny _ _ (do rule "str.split.same-object"; ret (← newList [.str x t])) _ _ s
    exact wpAny_bind (wpAny_rule (wpAny_bind (wpAny_newList (wpAny_pure ⟨_, rfl, h⟩) (by show 1 ≤ sizeLine; decide))))
   ·have hpos : Rg.sp c (Rg.cs x) = [Rg.cs x] := by
     have h5 : Builtin.Str.occurrences x ⟨#[c]⟩ 0 x.length (x.length + 1) = [] := List.isEmpty_iff.mp hf
     rw [h5] at hp
     have h6 : [Builtin.Str.strSub x 0 x.length] = (Rg.sp c (Rg.cs x)).map Rg.bR := hp
     obtain ⟨p, ps, e⟩ := Rg.kC c (Rg.cs x)
     rw [e] at h6 ⊢
     simp at h6
     obtain ⟨h7, rfl⟩ := h6
     congr 1
     have := congrArg Rg.cs h7
     rw [Rg.dB, Rg.mU, Nat.sub_zero, List.drop_zero, List.take_of_length_le (by rw [Rg.bH]; exact Nat.le_refl _)] at this
     exact this.symm
    have := fin [.str x t] s.toks (by rw [hpos, List.map_cons, List.map_nil, Rg.wM]; exact .cons ⟨t, rfl⟩ .nil)
    exact this
def wN : List W → Mm → K3 → Prop
 | [.str x], M, R => ∃ n : Int, x.length ≤ 640 ∧ PySem.intText? x = some n ∧ R (.int n) M
 | _, _, _ => False
theorem VU : c8 X (.type "int") (gI X.K wN) := by
 rintro pins s σ H xs us Q I rs ⟨ws, M, R, am, axs, h, k⟩
 match ws, h with
 | [.str x], h =>
  obtain ⟨v, rfl, av⟩ := axs.one
  obtain ⟨n, h1, h2, r⟩ := h
  obtain ⟨u, rfl, ru⟩ := vals1 rs
  cases av
  obtain ⟨t, rfl⟩ := ru
  exact call_int_1 (PySem.W.KIN.gives_text h1 h2).meets (show (Made.int n).post _ s from ⟨rfl, .int n, H, I.tok _, ⟨_, rfl⟩, k.at am (.int n) r⟩)
end
end L3
set_option Elab.async false
set_option compiler.extract_closed false
set_option bootstrap.genMatcherCode false
set_option linter.all false
set_option maxRecDepth 100000
set_option maxHeartbeats 4000000
namespace Rg
open PySem PySem.Spec PyProof.Rows L2 L3
theorem wO : ∀ d, d < 10 → (Nat.digitChar d).toNat = 48 + d := by decide
theorem D5 {m : Nat} (h : 10 ≤ m) : Nat.toDigits 10 m = Nat.toDigits 10 (m / 10) ++ [Nat.digitChar (m % 10)] := Nat.toDigits_of_base_le (by decide) h
theorem VV : ∀ (m : Nat), 0 < m → ∃ d r, Nat.toDigits 10 m = Nat.digitChar d :: r ∧ 1 ≤ d ∧ d ≤ 9 := by
 intro m
 induction m using Nat.strongRecOn with
 | ind m ih =>
  intro h0
  by_cases h : m < 10
  ·exact ⟨m, [], Nat.toDigits_of_lt_base h, h0, by omega⟩
  ·obtain ⟨d, r, e, h1, h2⟩ := ih (m / 10) (by omega) (by omega)
   exact ⟨d, r ++ [Nat.digitChar (m % 10)], by rw [D5 (by omega), e]; rfl, h1, h2⟩
def bS (m : Nat) : Str := Str.ofString (toString ((m : Nat) : Int))
theorem sX (m : Nat) : cs (bS m) = (Nat.toDigits 10 m).map Char.toNat := PySem.W.KIN.signs_num m
theorem o7 {m : Nat} (h : m < 10 ^ 60) : (bS m).length ≤ 60 := by
 rw [← bH, sX, List.length_map]
 exact (Nat.length_toDigits_le_iff (by decide) (by decide)).mpr h
theorem o8 {c : Nat} (h : c ∈ cs dQ) : 48 ≤ c ∧ c ≤ 57 := by
 have key : ∀ c ∈ cs dQ, 48 ≤ c ∧ c ≤ 57 := by decide +kernel
 exact key c h
theorem D6 {m : Nat} (h : 0 < m) : ∃ c r, cs (bS m) = c :: r ∧ c ≠ 48 := by
 obtain ⟨d, r, e, h1, h2⟩ := VV m h
 refine ⟨48 + d, r.map Char.toNat, ?_, by omega⟩
 rw [sX, e, List.map_cons, wO d (by omega)]
theorem sY : cs ("0" : Str) = [48] := by decide +kernel
def kD (z : Str) : Bool := decide (z.length ≤ 8) && b3 z i4
def cI (z : Str) : Bool := isNameB z && (decide ((Txt.partition z "_").1.length ≤ 8) && decide ((Txt.partition z "_").2.2.length ≤ 4))
structure TW (z : Str) : Prop where
 wd : nI z
 len : z.length ≤ 8
structure TN (z : Str) : Prop where
 hd : DF z
 wn : cI z = true
 ch : ∀ c ∈ cs z, c ∈ cs dP ∨ c = 95 ∨ c ∈ cs dQ
theorem TW.ww {z : Str} (h : TW z) : kD z = true := by
 unfold kD
 rw [kX, decide_eq_true h.len, decide_eq_false h.wd.ne]
 simp
 exact h.wd.sm
theorem TW.ch {z : Str} (h : TW z) : ∀ c ∈ cs z, 97 ≤ c ∧ c ≤ 122 := fun c hc => by
 have key : ∀ c ∈ cs i4, 97 ≤ c ∧ c ≤ 122 := by decide +kernel
 exact key c (h.wd.sm c hc)
theorem TN.rng {z : Str} (h : TN z) : ∀ c ∈ cs z, 48 ≤ c ∧ c ≠ 58 ∧ c < 128 := fun c hc => by
 have key : ∀ c ∈ cs dP, 65 ≤ c ∧ c ≤ 90 := by decide +kernel
 rcases h.ch c hc with h | h | h
 ·have := key c h; omega
 ·omega
 ·have := o8 h; omega
theorem TN.ne {z : Str} (h : TN z) : cs z ≠ [] := by
 obtain ⟨c, r, e, _⟩ := h.hd.hd
 rw [e]; simp
def TP (z : Str) : Prop := TW z ∨ TN z
theorem TP.rng {z : Str} (h : TP z) : ∀ c ∈ cs z, 48 ≤ c ∧ c ≠ 58 ∧ c < 128 := fun c hc => by
 rcases h with h | h
 ·have := h.ch c hc; omega
 ·exact h.rng c hc
theorem TP.ne {z : Str} (h : TP z) : cs z ≠ [] := h.elim (fun h => h.wd.ne) TN.ne
theorem TP.len {z : Str} (h : TP z) : z.length ≤ 20 := h.elim (fun h => h.wd.len) fun h => h.hd.len
theorem D7 : cs (":" : Str) = [58] := by decide +kernel
theorem VW : cs ("=" : Str) = [61] := by decide +kernel
theorem sZ : cs (" " : Str) = [32] := by decide +kernel
theorem wQ : cs ("\n" : Str) = [10] := by decide +kernel
structure g0 (r : a9) : Prop where
 nm : TN r.name
 pt : ∀ p ∈ r.parts, TP p
 few : r.parts.length ≤ 4
 lo : 0 ≤ r.cost
 hi : r.cost < 10 ^ 60
def iW (r : a9) : List Str := if r.cost = 0 then [] else [":", bS r.cost.toNat]
def piecesOf (r : a9) : List Str := [r.name, "="] ++ r.parts ++ iW r
def cF (r : a9) : Str := Str.join " " (piecesOf r)
def lI (rs : List a9) : Str := Str.join "\n" (rs.map cF)
theorem g0.nat {r : a9} (h : g0 r) : r.cost.toNat < 10 ^ 60 := by
 have := h.hi; have := h.lo; omega
theorem VX {m : Nat} : ∀ c ∈ cs (bS m), 48 ≤ c ∧ c ≤ 57 := fun c hc => o8 ((rW (m := m)).1 c hc)
theorem wR {r : a9} (h : g0 r) : ∀ p ∈ piecesOf r, (∀ c ∈ cs p, 33 ≤ c ∧ c < 128) ∧ p.length ≤ 60 ∧ cs p ≠ [] := by
 intro p hp
 unfold piecesOf at hp
 rcases List.mem_append.mp hp with hp | hp
 ·rcases List.mem_append.mp hp with hp | hp
  ·simp at hp
   rcases hp with rfl | rfl
   ·exact ⟨fun c hc => by have := h.nm.rng c hc; omega, by have := h.nm.hd.len; omega, h.nm.ne⟩
   ·rw [VW]; exact ⟨by simp, by decide +kernel, by simp⟩
  ·exact ⟨fun c hc => by have := (h.pt p hp).rng c hc; omega, by have := (h.pt p hp).len; omega, (h.pt p hp).ne⟩
 ·unfold iW at hp
  split at hp
  ·cases hp
  ·simp at hp
   rcases hp with rfl | rfl
   ·rw [D7]; exact ⟨by simp, by decide +kernel, by simp⟩
   ·exact ⟨fun c hc => by have := VX c hc; omega, o7 h.nat, (rW (m := r.cost.toNat)).2⟩
theorem D8 {r : a9} (h : g0 r) : (piecesOf r).length ≤ 8 := by
 unfold piecesOf iW
 have := h.few
 split <;> simp <;> omega
end Rg
set_option Elab.async false
set_option compiler.extract_closed false
set_option bootstrap.genMatcherCode false
set_option linter.all false
set_option maxRecDepth 100000
set_option maxHeartbeats 4000000
namespace Rg
open PySem PySem.Spec PyProof.Rows L2 L3
theorem D9 (c : Nat) : ∀ l, jn c (sp c l) = l
 | [] => rfl
 | a :: r => by
  have ih := D9 c r
  obtain ⟨p, ps, e⟩ := kC c r
  rw [sp]
  split
  ·rename_i h
   rw [e] at ih ⊢
   rw [jn, ih, h]; rfl
  ·rw [e] at ih ⊢
   cases ps with
   | nil => rw [jn] at ih; show a :: p = _; rw [ih]
   | cons q qs =>
    rw [jn] at ih
    show (a :: p) ++ c :: jn c (q :: qs) = _
    rw [List.cons_append, ih]
theorem EA (c : Nat) : ∀ l, ∀ p ∈ sp c l, (∀ d ∈ p, d ∈ l) ∧ p.length ≤ l.length
 | [] => by intro p hp; simp [sp] at hp; subst hp; simp
 | a :: r => by
  have ih := EA c r
  obtain ⟨p, ps, e⟩ := kC c r
  rw [sp]
  split
  ·intro q hq
   rcases List.mem_cons.mp hq with z | z
   ·subst z; simp
   ·exact ⟨fun d hd => List.mem_cons_of_mem _ ((ih q z).1 d hd), by have := (ih q z).2; simp; omega⟩
  ·rw [e] at ih ⊢
   intro q hq
   rcases List.mem_cons.mp hq with z | z
   ·subst z
    have h := ih p List.mem_cons_self
    exact ⟨fun d hd => by
     rcases List.mem_cons.mp hd with y | y
     ·rw [y]; exact List.mem_cons_self
     ·exact List.mem_cons_of_mem _ (h.1 d y), by have := h.2; simp; omega⟩
   ·have h := ih q (List.mem_cons_of_mem _ z)
    exact ⟨fun d hd => List.mem_cons_of_mem _ (h.1 d hd), by have := h.2; simp; omega⟩
theorem EB (c : Nat) : ∀ l, (sp c l).length = l.count c + 1
 | [] => rfl
 | a :: r => by
  have ih := EB c r
  obtain ⟨p, ps, e⟩ := kC c r
  rw [sp]
  split
  ·rename_i h; subst h; rw [List.length_cons, ih, List.count_cons_self]
  ·rename_i h
   rw [List.count_cons_of_ne h, ← ih, e]; rfl
theorem EC {c : Nat} : ∀ {ps : List (List Nat)}, (∀ p ∈ ps, c ∉ p) → (jn c ps).count c ≤ ps.length
 | [], _ => by simp [jn]
 | [p], h => by rw [jn, List.count_eq_zero.mpr (h p (by simp))]; simp
 | p :: q :: r, h => by
  have := EC (c := c) (ps := q :: r) fun x hx => h x (List.mem_cons_of_mem _ hx)
  rw [jn, List.count_append, List.count_eq_zero.mpr (h p (by simp)), List.count_cons_self]
  rw [List.length_cons]; omega
theorem VY : ∀ (n : Nat) (l : List Nat), l.length = n + 1 → (∀ d ∈ l, 48 ≤ d ∧ d ≤ 57) → l.head? ≠ some 48 → 0 < PySem.NumText.digitsVal l ∧ PySem.NumText.digitsVal l < 10 ^ l.length ∧ (Nat.toDigits 10 (PySem.NumText.digitsVal l)).map Char.toNat = l := by
 intro n
 induction n with
 | zero =>
  intro l hl hd h0
  match l, hl with
  | [d], _ =>
   have h1 := hd d (by simp)
   have h2 : d ≠ 48 := fun e => h0 (by rw [e]; rfl)
   have e : PySem.NumText.digitsVal [d] = d - 48 := by simp [PySem.NumText.digitsVal]
   rw [e]
   refine ⟨by omega, by show d - 48 < 10 ^ 1; omega, ?_⟩
   rw [Nat.toDigits_of_lt_base (by omega), List.map_cons, List.map_nil, wO _ (by omega)]
   congr 1; omega
 | succ n ih =>
  intro l hl hd h0
  have hne : l ≠ [] := by intro e; subst e; simp at hl
  have hl' : l = l.dropLast ++ [l.getLast hne] := (List.dropLast_concat_getLast hne).symm
  generalize hr : l.dropLast = r at hl'
  generalize hq : l.getLast hne = d at hl'
  have hrl : r.length = n + 1 := by rw [← hr, List.length_dropLast]; omega
  have hrne : r ≠ [] := by intro e; subst e; simp at hrl
  subst hl'
  have hdd := hd d (by simp)
  obtain ⟨i1, i2, i3⟩ := ih r hrl (fun x hx => hd x (by simp [hx])) (by
   cases r with
   | nil => exact absurd rfl hrne
   | cons a b => exact h0)
  rw [PySem.NumText.digitsVal_snoc]
  generalize PySem.NumText.digitsVal r = v at i1 i2 i3
  refine ⟨by omega, ?_, ?_⟩
  ·rw [List.length_append, List.length_cons, List.length_nil, Nat.pow_succ]; omega
  ·rw [D5 (by omega), show (v * 10 + (d - 48)) / 10 = v by omega, show (v * 10 + (d - 48)) % 10 = d - 48 by omega, List.map_append, i3, List.map_cons, List.map_nil, wO _ (by omega)]
   congr 2; omega
def kE (z : Str) : Nat := PySem.NumText.digitsVal (cs z)
def iX (z : Str) : Bool := b3 z dQ && (decide (z.length ≤ 60) && decide ((cs z).head? ≠ some 48))
def o9 (z : Str) : Bool := b3 z dQ && (decide (z.length ≤ 60) && (decide (z = "0") || decide ((cs z).head? ≠ some 48)))
theorem VZ (z : Str) : iX z = (o9 z && !decide (z = "0")) := by
 by_cases h : z = "0"
 ·subst h
  have : iX "0" = false := by decide +kernel
  rw [this, decide_eq_true rfl, Bool.not_true, Bool.and_false]
 ·unfold iX o9
  rw [decide_eq_false h, Bool.not_false, Bool.and_true, Bool.false_or]
theorem mE {z g : Str} : b3 z g = true ↔ cs z ≠ [] ∧ ∀ c ∈ cs z, c ∈ cs g := by
 rw [kX]; simp
theorem ED {z : Str} : iX z = true ↔ (cs z ≠ [] ∧ ∀ c ∈ cs z, c ∈ cs dQ) ∧ z.length ≤ 60 ∧ (cs z).head? ≠ some 48 := by
 unfold iX; rw [Bool.and_eq_true, Bool.and_eq_true, mE]; simp
theorem wU {z : Str} (h : iX z = true) : 0 < kE z ∧ kE z < 10 ^ 60 ∧ bS (kE z) = z ∧ PySem.intText? z = some (kE z : Int) := by
 obtain ⟨⟨h0, h1⟩, h2, h3⟩ := ED.mp h
 have hl : (cs z).length = ((cs z).length - 1) + 1 := by
  have : 0 < (cs z).length := List.length_pos_iff.mpr h0
  omega
 obtain ⟨k1, k2, k3⟩ := VY _ (cs z) hl (fun d hd => o8 (h1 d hd)) h3
 refine ⟨k1, Nat.lt_of_lt_of_le k2 (Nat.pow_le_pow_right (by decide) (by rw [bH]; exact h2)), h9 ?_, ?_⟩
 ·rw [sX]; exact k3
 ·have := PySem.intText_digits (x := z) (fun c hc => o8 (h1 c hc)) h0 (by omega)
  rw [this]; rfl
def bT (c : Nat) (z : Str) : List Str := (sp c (cs z)).map bR
theorem V0 (c : Nat) (z : Str) : (bT c z).map cs = sp c (cs z) := by
 unfold bT; rw [List.map_map]
 conv => rhs; rw [← List.map_id (sp c (cs z))]
 exact List.map_congr_left fun p _ => dB p
theorem wV {sep : Str} {c : Nat} (hs : cs sep = [c]) (z : Str) : Str.join sep (bT c z) = z := h9 (by rw [nL hs, V0, D9])
theorem lJ {c : Nat} {z p : Str} (h : p ∈ bT c z) : (∀ d ∈ cs p, d ∈ cs z) ∧ p.length ≤ z.length := by
 obtain ⟨q, hq, rfl⟩ := List.mem_map.mp h
 obtain ⟨h1, h2⟩ := EA c _ q hq
 rw [dB]
 exact ⟨h1, by rw [← bH, dB, ← bH]; exact h2⟩
theorem wW (c : Nat) (z : Str) : (bT c z).length = (cs z).count c + 1 := by unfold bT; rw [List.length_map, EB]
theorem EE (c : Nat) (z : Str) : bT c z ≠ [] := fun e => by have := wW c z; rw [e] at this; simp at this
theorem pA (c : Nat) (z : Str) : (bT c z).length ≤ z.length + 1 := by
 rw [wW, ← bH]
 have := List.count_le_length (a := c) (l := cs z)
 omega
def gL {α β : Type} (f : α → Option β) : List α → Option (List β)
 | [] => some []
 | a :: r => match f a with
  | none => none
  | some b => match gL f r with
   | none => none
   | some bs => some (b :: bs)
theorem tB {α β : Type} {f : α → Option β} : ∀ {l : List α}, gL f l = none ↔ ∃ a ∈ l, f a = none
 | [] => by simp [gL]
 | a :: r => by
  have ih := tB (f := f) (l := r)
  cases h : f a with
  | none => simp [gL, h]
  | some b =>
   cases h2 : gL f r with
   | none =>
    obtain ⟨x, hx, e⟩ := ih.mp h2
    simp only [gL, h, h2, true_iff]
    exact ⟨x, List.mem_cons_of_mem _ hx, e⟩
   | some bs =>
    simp only [gL, h, h2, reduceCtorEq, false_iff]
    rintro ⟨x, hx, e⟩
    rcases List.mem_cons.mp hx with z | z
    ·subst z; rw [h] at e; cases e
    ·rw [ih.mpr ⟨x, z, e⟩] at h2; cases h2
theorem tD {α β : Type} {f : α → Option β} : ∀ {l : List α} {bs : List β}, gL f l = some bs → l.map f = bs.map some
 | [], bs, h => by cases h; rfl
 | a :: r, bs, h => by
  cases h1 : f a with
  | none => simp [gL, h1] at h
  | some b =>
   cases h2 : gL f r with
   | none => simp [gL, h1, h2] at h
   | some cs' =>
    simp [gL, h1, h2] at h
    subst h
    rw [List.map_cons, List.map_cons, h1, tD h2]
def eG (z : Str) : Bool := kD z || cI z
def mF (ps : List Str) : Option (List Str × Str) := match ps.reverse with
 | z :: c :: r => if c = ":" then some (r.reverse, z) else none
 | _ => none
theorem kF {xs : List Str} {z : Str} : mF (xs ++ [(":" : Str), z]) = some (xs, z) := by
 unfold mF
 rw [List.reverse_append]
 show (if (":" : Str) = ":" then some (xs.reverse.reverse, z) else none) = _
 rw [if_pos rfl, List.reverse_reverse]
theorem V1 {α : Type} {ps : List α} (h : 2 ≤ ps.length) : ∃ xs a b, ps = xs ++ [a, b] := by
 rcases List.eq_nil_or_concat ps with e | ⟨l1, b, e⟩
 ·rw [e] at h; simp at h
 ·rcases List.eq_nil_or_concat l1 with e2 | ⟨l2, a, e2⟩
  ·rw [e, e2] at h; simp at h
  ·exact ⟨l2, a, b, by rw [e, e2]; simp⟩
theorem tE (ps : List Str) : (∃ (xs : List Str) (z : Str), ps = xs ++ [(":" : Str), z]) ∨ (mF ps = none ∧ (ps.length < 2 ∨ ∃ (xs : List Str) (a b : Str), ps = xs ++ [a, b] ∧ a ≠ ":")) := by
 by_cases h : 2 ≤ ps.length
 ·obtain ⟨xs, a, b, rfl⟩ := V1 h
  by_cases ha : a = ":"
  ·subst ha; exact .inl ⟨xs, b, rfl⟩
  ·refine .inr ⟨?_, .inr ⟨xs, a, b, rfl, ha⟩⟩
   unfold mF
   rw [List.reverse_append]
   show (if a = ":" then some (xs.reverse.reverse, b) else none) = _
   rw [if_neg ha]
 ·refine .inr ⟨?_, .inl (by omega)⟩
  match ps, h with
  | [], _ => rfl
  | [a], _ => rfl
  | a :: b :: r, h => simp at h
def eI (a b : Str) (ps : List Str) (c : Int) : Option a9 := if (cI a && decide (b = "=") && ps.all eG) = true then some ⟨a, ps, c⟩ else none
def cX : List Str → Option a9
 | a :: b :: rest => match mF rest with
  | none => eI a b rest 0
  | some (qs, z) => if iX z = true then eI a b qs (kE z) else none
 | _ => none
def jY (z : Str) : Option (List a9) := gL (fun row => cX (bT 32 row)) (bT 10 z)
structure lK (r : a9) : Prop where
 nm : cI r.name = true
 pt : ∀ p ∈ r.parts, eG p = true
 lo : 0 ≤ r.cost
 hi : r.cost < 10 ^ 60
theorem EF {a b : Str} {ps : List Str} {c : Int} {r : a9} (h : eI a b ps c = some r) : r = ⟨a, ps, c⟩ ∧ cI a = true ∧ b = "=" ∧ ∀ p ∈ ps, eG p = true := by
 unfold eI at h
 split at h
 ·rename_i q
  rw [Bool.and_eq_true, Bool.and_eq_true, decide_eq_true_eq, List.all_eq_true] at q
  exact ⟨(Option.some.inj h).symm, q.1.1, q.1.2, q.2⟩
 ·cases h
theorem wX {ps : List Str} {r : a9} (h : cX ps = some r) : lK r ∧ piecesOf r = ps := by
 match ps, h with
 | a :: b :: rest, h =>
  rcases tE rest with ⟨xs, z, rfl⟩ | ⟨e, _⟩
  ·rw [cX, kF] at h
   simp only at h
   split at h
   ·rename_i hz
    obtain ⟨rfl, h1, rfl, h3⟩ := EF h
    obtain ⟨k1, k2, k3, _⟩ := wU hz
    refine ⟨⟨h1, h3, by simp, by simp only; exact_mod_cast k2⟩, ?_⟩
    unfold piecesOf iW
    rw [if_neg (by simp only; omega)]
    simp only [Int.toNat_natCast, k3]
    simp
   ·cases h
  ·rw [cX, e] at h
   obtain ⟨rfl, h1, rfl, h3⟩ := EF (show eI a b rest 0 = some r from h)
   refine ⟨⟨h1, h3, by simp, by simp only; decide⟩, ?_⟩
   unfold piecesOf iW
   rw [if_pos rfl]
   simp
 | [], h => cases h
 | [_], h => cases h
theorem EG {z : Str} (h : cI z = true) : isNameB z = true := by unfold cI at h; rw [Bool.and_eq_true] at h; exact h.1
theorem V2 {z : Str} (h : eG z = true) : isNameB z = cI z := by
 cases hw : cI z with
 | true => exact EG hw
 | false =>
  unfold eG at h
  rw [hw, Bool.or_false] at h
  unfold kD at h
  rw [Bool.and_eq_true, mE] at h
  exact BS h.2.1 h.2.2
theorem wY {z : Str} (h : cI z = true) : z.length ≤ 13 ∧ gZ z := by
 unfold cI at h
 rw [Bool.and_eq_true, Bool.and_eq_true, decide_eq_true_eq, decide_eq_true_eq] at h
 obtain ⟨hn, h1, h2⟩ := h
 by_cases h95 : 95 ∈ cs z
 ·obtain ⟨x, y, e, hx⟩ := List.eq_append_cons_of_mem h95
  have p := rV (z := z) (a := bR x) (b := bR y) (by rw [dB, dB]; exact e) (by rw [dB]; exact hx)
  rw [sV, p] at hn
  rw [p] at h1 h2
  simp only [Bool.and_eq_true, Bool.or_eq_true, mE, decide_eq_true_eq, dB] at hn
  obtain ⟨k1, k2, k3⟩ := hn
  have l1 : x.length ≤ 8 := by have := h1; rw [← bH, dB] at this; exact this
  have l2 : y.length ≤ 4 := by have := h2; rw [← bH, dB] at this; exact this
  refine ⟨by rw [← bH, e, List.length_append, List.length_cons]; omega, fun c hc => ?_⟩
  rw [e] at hc
  rcases List.mem_append.mp hc with q | q
  ·exact sT c (k3 c q)
  ·rcases List.mem_cons.mp q with q | q
   ·omega
   ·rcases k1 with z' | z'
    ·exact absurd z' (by decide +kernel)
    ·exact DH c (z'.2 c q)
 ·have p := oI h95
  rw [sV, p] at hn
  rw [p] at h1
  simp only [Bool.and_eq_true, mE] at hn
  exact ⟨by simp only at h1; omega, fun c hc => sT c (hn.2.2 c hc)⟩
theorem tF {z : Str} (h : eG z = true) : z.length ≤ 13 ∧ gZ z := by
 unfold eG at h
 rw [Bool.or_eq_true] at h
 rcases h with h | h
 ·unfold kD at h
  rw [Bool.and_eq_true, mE, decide_eq_true_eq] at h
  exact ⟨by omega, fun c hc => DG c (h.2.2 c hc)⟩
 ·exact wY h
theorem V3 (z : Str) : cI z = ((b3 (Txt.partition z "_").1 dP && decide ((Txt.partition z "_").1.length ≤ 8)) && (decide ((Txt.partition z "_").2.1 = "") || (b3 (Txt.partition z "_").2.2 dQ && decide ((Txt.partition z "_").2.2.length ≤ 4)))) := by
 unfold cI
 rw [sV]
 by_cases h95 : 95 ∈ cs z
 ·obtain ⟨x, y, e, hx⟩ := List.eq_append_cons_of_mem h95
  have p := rV (z := z) (a := bR x) (b := bR y) (by rw [dB, dB]; exact e) (by rw [dB]; exact hx)
  rw [p]
  have : decide (("_" : Str) = "") = false := by decide +kernel
  simp only [this, Bool.false_or]
  cases b3 (bR x) dP <;> cases b3 (bR y) dQ <;> simp
 ·rw [oI h95]
  have : decide (Str.empty = ("" : Str)) = true := by decide +kernel
  simp only [this, Bool.true_or, Bool.true_and, Bool.and_true]
  have : decide (Str.empty.length ≤ 4) = true := by decide +kernel
  rw [this, Bool.and_true]
structure tG (z : Str) : Prop where
 len : z.length ≤ 40000
 asc : gZ z
 rows : (cs z).count 10 ≤ 70
def tH (rs : List a9) : Prop := ∀ r ∈ rs, ∀ p ∈ r.parts, cI p = true → p ∈ rs.map a9.name
def tI (r : a9) (ns : List Str) : Prop := 0 ≤ r.cost ∧ ∀ t ∈ r.parts, isNameB t = true → t ∈ ns
def nM (rs : List a9) : Prop := rs ≠ [] ∧ ∀ r ∈ rs, tI r (namesOf rs)
theorem nN {z : Str} {rs : List a9} (h : jY z = some rs) : (∀ r ∈ rs, lK r) ∧ rs.map cF = bT 10 z := by
 have e := tD h
 have key : ∀ {l : List Str} {rs : List a9}, l.map (fun row => cX (bT 32 row)) = rs.map some → (∀ r ∈ rs, lK r) ∧ rs.map cF = l := by
  intro l
  induction l with
  | nil => intro rs e; cases rs with | nil => exact ⟨by simp, rfl⟩ | cons a b => simp at e
  | cons a l ih =>
   intro rs e
   cases rs with
   | nil => simp at e
   | cons r rs =>
    rw [List.map_cons, List.map_cons, List.cons.injEq] at e
    obtain ⟨i1, i2⟩ := ih e.2
    obtain ⟨q1, q2⟩ := wX e.1
    refine ⟨fun x hx => ?_, ?_⟩
    ·rcases List.mem_cons.mp hx with z | z
     ·rw [z]; exact q1
     ·exact i1 x z
    ·rw [List.map_cons, i2]
     unfold cF
     rw [q2, wV sZ]
 exact key e
theorem V4 {z : Str} {rs : List a9} (h : jY z = some rs) : lI rs = z := by
 unfold lI
 rw [(nN h).2, wV wQ]
theorem tJ {z : Str} {rs : List a9} (h : jY z = some rs) : rs.length = (cs z).count 10 + 1 := by
 have := congrArg List.length (nN h).2
 rw [List.length_map, wW] at this
 exact this
theorem EH {rs : List a9} (hq : ∀ r ∈ rs, lK r) (hne : rs ≠ []) : nM rs ↔ tH rs := by
 have hm : ∀ u, u ∈ namesOf rs ↔ u ∈ rs.map a9.name := fun u => by rw [VC, List.mem_map]
 constructor
 ·intro ⟨_, h⟩ r hr p hp hw
  exact (hm p).mp ((h r hr).2 p hp (EG hw))
 ·intro h
  refine ⟨hne, fun r hr => ⟨(hq r hr).lo, fun t ht hn => (hm t).mpr (h r hr t ht ?_)⟩⟩
  rw [← V2 ((hq r hr).pt t ht)]; exact hn
noncomputable def lL (z : Str) : Str := match jY z with
 | none => "text"
 | some rs => open Classical in if tH rs then "good" else "grammar"
end Rg
set_option Elab.async false
set_option compiler.extract_closed false
set_option bootstrap.genMatcherCode false
set_option linter.all false
set_option maxRecDepth 100000
set_option maxHeartbeats 4000000
namespace L3
open PySem PySem.Spec PyProof.Rows L2
section
variable {X : Cx}
theorem V5 {c : Const} {j : Nat} {pos : Pos} {es : List Expr} {env : Env} : starEach (.Constant c j pos :: es) env = (false, eval (.Constant c j pos) env) :: starEach es env := rfl
theorem V6 {x : Str} {j : Nat} {pos : Pos} {es : List Expr} {t : c9} (hr : A3 X es t) : A3 X (.Constant (.str x) j pos :: es) (aC (vC (.str x)) t) := aD bE hr V5
def wZ (xs : List Str) : c9 := fun τ M R => R (xs.map W.str) M
def tK : List Expr → Option (List Str)
 | [] => some []
 | .Constant (.str x) _ _ :: es => (tK es).map (x :: ·)
 | _ :: _ => none
theorem EI : ∀ {es : List Expr} {xs : List Str}, tK es = some xs → A3 X es (wZ xs)
 | [], xs, h => by cases h; exact aH
 | e :: es, xs, h => by
  match e, h with
  | .Constant (.str x) j p, h =>
   obtain ⟨ys, e1, rfl⟩ := Option.map_eq_some_iff.mp (show (tK es).map (x :: ·) = some xs from h)
   exact V6 (EI e1)
def nO (xs : List Str) : aR := eU (wZ xs)
theorem tL {es : List Expr} {xs : List Str} {pos : Pos} (h : tK es = some xs) : E3 X (.List es pos) (nO xs) := gK (EI h)
def iC : W → List W → Mm → K3 → Prop
 | .str x, [.str y], M, R => ∃ c : Nat, y = ⟨#[c]⟩ ∧ x.length ≤ 1000000 ∧ (∀ a ∈ Rg.cs x, a < 256) ∧ c < 256 ∧ aZ ((Rg.bT c x).map W.str) M R
 | _, _, _, _ => False
theorem pB : fR X "str.split" (iN X.K iC) := by
 rintro pins s σ H x xs v us Q I rx rs ⟨wx, ws, M, R, am, ax, axs, h, k⟩
 match wx, ws, h with
 | .str x, [.str y], h =>
  obtain ⟨c, rfl, h1, h2, h3, r⟩ := h
  by_cases h0 : 0 < x.length
  ·refine m_split pins s σ H _ xs v us Q I rx rs ⟨.str x, [.str ⟨#[c]⟩], M, R, am, ax, axs, ⟨c, rfl, ⟨h0, h1, h2, h3⟩, ?_⟩, k⟩
   have e : (Rg.bT c x).map W.str = (Rg.sp c (Rg.cs x)).map fun p => W.str (Rg.bR p) := by unfold Rg.bT; rw [List.map_map]; rfl
   rw [← e]; exact r
  ·obtain ⟨u, rfl, au⟩ := axs.one
   cases ax; cases au
   obtain ⟨t, rfl⟩ := rx
   obtain ⟨u', rfl, ru⟩ := rs.one
   obtain ⟨t', rfl⟩ := ru
   have hx : Rg.cs x = [] := List.length_eq_zero_iff.mp (by rw [Rg.bH]; omega)
   have e : Rg.bT c x = [x] := by unfold Rg.bT; rw [hx]; show [Rg.bR []] = [x]; rw [← hx, Rg.wM]
   rw [e] at r
   have hfr := I.hok.fresh (Nat.le_refl s.heap.objs.size)
   refine call_meets F.slot_str_split (typeIs_str _ _ _) F.entry_str_split (F.args_str_split_2 _ _) (meets_str_split_cannot_occur x ⟨#[c]⟩ t t' (by
    have : (⟨#[c]⟩ : Str).length = 1 := rfl
    rw [this, decide_eq_true (by omega), Bool.true_or])) ?_
   exact ⟨.ref s.heap.objs.size, _, I.lnew (t' := s.toks) (ys := [.str x]) (its := [.str x t]) (.cons ⟨t, rfl⟩ .nil) (by show 1 ≤ sizeLine; decide), rfl, eS am k hfr (DE [x]) r⟩
end
end L3
set_option Elab.async false
set_option compiler.extract_closed false
set_option bootstrap.genMatcherCode false
set_option linter.all false
set_option maxRecDepth 100000
set_option maxHeartbeats 4000000
namespace L2
open PySem PySem.Spec PyProof.Rows
section
variable {X : Cx}
def EJ (K : PySem.W.Frag) (a : Addr) (xs : List V) : It :=
 ⟨fun i H => a6 K H a xs ∧ i < xs.length, fun i H x H' => H' = H ∧ xs.reverse[i]? = some x, fun i H => a6 K H a xs ∧ i = xs.length⟩
theorem V7 {P : Program} {w : World} {K : PySem.W.Frag} {tg : Expr} (a it : Addr) (xs : List V) : kQ P w K tg (EJ K a xs) [it] it (fun i h => h.IsRevIter it a ((xs.length : Int) - 1 - (i : Int))) where
 mem := by simp
 obj := fun i h st b hb => by
  cases (by simpa using hb : b = it)
  obtain ⟨o, e, _, d⟩ := st
  exact ⟨o, e, fun v z => by rw [d] at z; cases z⟩
 keep := fun i h h' st k => st.at fun o e => k it (by simp) o e
 item := by
  intro X hP hw hK hc i pins s σ H E I hf st hg
  subst hP hw hK
  obtain ⟨hq, hi⟩ := hg
  obtain ⟨its, rv, p, hz⟩ := I.list hq
  have hl := rv.length
  have hx : xs.reverse[i]? = some xs[xs.length - 1 - i] := by rw [List.getElem?_reverse hi]; exact List.getElem?_eq_getElem (by lia)
  obtain ⟨u, hu, ru⟩ := rv.get (List.getElem?_eq_getElem (l := xs) (i := xs.length - 1 - i) (by lia))
  obtain ⟨f0, f1, f2, f3, f4, f5⟩ := hf it (by simp)
  rw [show (xs.length : Int) - 1 - (i : Int) = ((xs.length - 1 - i : Nat) : Int) by lia] at st
  refine wpAny_pyNext_rev_item st p.isList (x := u) (by simpa using hu) fun h' st' sb => ?_
  have I1 : Inv X pins σ H { s with heap := h' } := I.turned (t' := s.toks) (fun b o hb e => (sb.2 b hb).trans e) f0 f1 f3 f4 f5
  obtain ⟨o', e, c, d⟩ := id st'
  refine ⟨u, rfl, rG (s := { s with heap := h' }) e c d (by decide) ⟨_, H, I1, ru, ⟨rfl, hx⟩, ?_, fun b hb => (hf b hb).1⟩⟩
  rw [show (xs.length : Int) - 1 - ((i + 1 : Nat) : Int) = ((xs.length - 1 - i : Nat) : Int) - 1 by lia]
  exact st'
 done := by
  intro X hP hw hK hc i pins s σ H E I hf st hg
  subst hP hw hK
  obtain ⟨hq, rfl⟩ := hg
  rw [show (xs.length : Int) - 1 - (xs.length : Int) = -1 by lia] at st
  refine wpAny_pyNext_rev_end (I.ok.hd hc) st fun h' hk => ⟨rfl, ?_⟩
  exact I.turnedT (tk := s.toks) hf fun q o hq eq => hk q o (fun z => hq (by simp [z])) eq
 self := fun _ _ _ _ _ st h => wpAny_pyIter_revIter st h
theorem V8 {a : Expr} {ta : TA} {tg : Expr} {p pos : Pos} (hg : Gl X "reversed") (hm : X.mg "reversed" = none) (ha : PA X [a] ta) (hs : starEach [a] X.env = [(false, eval a X.env)] := by rfl) :
  PI X tg (.Call (.Name "reversed" p) [a] [] pos) (fun σ H R => ta σ H fun vs H1 => ∃ a xs, vs = [.ref a] ∧ a6 X.K H1 a xs ∧ R (EJ X.K a xs) H1) := by
 intro pins s σ H R I h
 refine Call_ (n5 I hg hm O5 (PyProof.Rows.callWith_type1 (aV (ha pos pins s σ H _ I h) fun us s1 ⟨vs, H1, I1, r1, q1⟩ => ?_) hs rfl))
 obtain ⟨a, xs, rfl, hqa, q⟩ := q1
 obtain ⟨u, rfl, ru⟩ := vals1 r1
 cases ru
 obtain ⟨its, rv1, pl, hz⟩ := I1.list hqa
 have hl := rv1.length
 refine call_reversed_list pl.isList ?_
 have st : (s1.heap.push (revObj a ((its.toArray.size : Int) - 1))).IsRevIter s1.heap.objs.size a ((its.toArray.size : Int) - 1) := ⟨_, Heap.get?_push_size _ rfl, rfl, rfl⟩
 refine wpAny_pyIter_revIter st ⟨s1.heap.objs.size, [s1.heap.objs.size], _, _, H1, rfl, I1.kept (t' := s1.toks) (fun b o e => Heap.get?_push_of_some _ e), V7 a _ xs, ?_, fun b hb => ?_, q⟩
 ·rw [List.size_toArray, ← hl] at st
  show Heap.IsRevIter _ _ _ ((xs.length : Int) - 1 - ((0 : Nat) : Int))
  rw [show (xs.length : Int) - 1 - ((0 : Nat) : Int) = (xs.length : Int) - 1 by lia, show (its.toArray.size : Int) = (xs.length : Int) by rw [List.size_toArray, hl]]
  exact st
 ·cases (by simpa using hb : b = s1.heap.objs.size)
  exact I1.fpOk (Nat.le_refl _) (I1.hok.fresh (Nat.le_refl _))
end
end L2
namespace L3
open PySem PySem.Spec PyProof.Rows L2
section
variable {X : Cx} {a : Expr}
def w6 (ta : c9) : gY := fun τ M R => ta τ M fun ws M1 => ∃ zs, ws = [.rl zs] ∧ R zs.reverse (fun _ => True) M1
theorem V9 {tA : c9} {tg : Expr} {p pos : Pos} (hg : Gl X "reversed") (hm : X.mg "reversed" = none) (ha : A3 X [a] tA) (hs : starEach [a] X.env = [(false, eval a X.env)] := by rfl) : PI X tg (.Call (.Name "reversed" p) [a] [] pos) (iS X.K (w6 tA)) :=
 (V8 hg hm ha hs).weak fun σ H R' ⟨τ, M, R, as, am, h, k⟩ => ⟨τ, M, _, as, am, h, fun vs H1 ws M1 k1 am1 ax ⟨zs, ew, r⟩ => by
  subst ew
  obtain ⟨v, rfl, av⟩ := ax.one
  obtain ⟨b, xs, eb, fb, nb, qb⟩ : ∃ b xs, v = .ref b ∧ H1 b = some (.lst xs) ∧ M1 b = none ∧ aJ X.K H1 M1 xs zs := by
   cases av with
   | rl f n q => exact ⟨_, _, rfl, f, n, q⟩
  refine ⟨b, xs, by rw [eb], a6.of fb, k _ _ _ _ _ k1 am1 ?_ r⟩
  have st : ∀ H M, Kp H1 M1 H M → a6 X.K H b xs := fun H M k => a6.of (k.fr _ _ nb fb).1
  refine ⟨fun i H M k am kp hi => ⟨st H M k, by rw [List.length_reverse] at hi; rw [qb.length]; exact hi⟩, fun H M k am kp => ⟨st H M k, by rw [List.length_reverse, qb.length]⟩, fun i H M x H' k am kp hi y => ?_⟩
  obtain ⟨rfl, y⟩ := y
  obtain ⟨w, hw, av⟩ := ((qb.kp am1 k).reverse).getV y
  exact ⟨w, hw, Kp.refl am, am, av⟩⟩
end
end L3
set_option Elab.async false
set_option compiler.extract_closed false
set_option bootstrap.genMatcherCode false
set_option linter.all false
set_option maxRecDepth 100000
set_option maxHeartbeats 4000000
namespace L2
open PySem PySem.Spec PyProof.Rows
section
variable {X : Cx}
theorem WA (l : Addr) (ys : Array Value) (n : Nat) (b : Addr) (zs : Array Value) (n2 : Nat) (d2 : Option Addr) (sl2 : Array (Option Value)) (h0 : ¬(!ys.isEmpty && Builtin.List.listTooLong (ys.size + zs.size)) = true) (h1 : ys.size ≤ sizeLine) (h2 : ys.size + zs.size ≤ sizeLine + 1) :
  Meets (Builtin.«list.extend» ⟨[.ref l, .ref b], []⟩) (fun _ R s => s.heap.get? l = some { cls := .type "list", dict := none, data := .seq ys n, slots := #[] } ∧
   s.heap.get? b = some { cls := .type "tuple", dict := d2, data := .seq zs n2, slots := sl2 } ∧ R (.ok (.ret Value.none)) { s with heap := s.heap.update l (Obj.mapSeq fun x => x ++ zs), toks := s.toks }) := .of_wp fun _ _ _ R s h => by
  obtain ⟨hp, g, d, tk, os⟩ := s
  obtain ⟨hl, hb, h⟩ := h
  have f3 := sub_list_list; have f5 := sub_list_tuple; have f4 := sub_tuple_list; have f2 := sub_tuple_tuple
  have hz' : (ys ++ zs).size ≤ sizeLine + 1 := by rw [Array.size_append]; exact h2
  wp_walk using (wpAny_updateSeq hl rfl (hz := h1) (_hz' := hz')), wpAny_loadPart' hl, wpAny_loadPart' hb
  exact ⟨_, rfl, h⟩
theorem WB : fR X "list.extend" (fun x vs H Q => ∃ l b xs zs, x = .ref l ∧ vs = [.ref b] ∧ H l = some (.lst xs) ∧ bV X.K H b zs ∧ xs.length + zs.length ≤ sizeLine ∧ Q .non (aU H l (.lst (xs ++ zs)))) := by
 intro pins s σ H x vs v us Q I rx rv h
 obtain ⟨l, b, xs, zs, rfl, rfl, hH, hB, hz, q⟩ := h
 cases rx
 obtain ⟨u, rfl, ru⟩ := rv.one
 cases ru
 obtain ⟨z, its, n, r, hl, e⟩ := I.lstM hH
 obtain ⟨its2, r2, ⟨⟨c2, d2, t2, s2⟩, e2, rfl, n2, rfl⟩, hl2⟩ := I.tuple hB
 have h2 := r2.length
 have hsz : its.toArray.size + its2.toArray.size ≤ sizeLine := by rw [List.size_toArray, List.size_toArray]; omega
 have hlong : ¬ (!its.toArray.isEmpty && Builtin.List.listTooLong (its.toArray.size + its2.toArray.size)) = true := by
  rw [u0 hsz, Bool.and_false]
  exact Bool.false_ne_true
 refine call_meets F.slot_list_extend ⟨_, e, rfl⟩ F.entry_list_extend (F.args_list_extend_2 _ _)
  (WA l its.toArray n b its2.toArray n2 d2 s2 hlong (by rw [List.size_toArray]; omega) (by omega)) ⟨e, e2, ?_⟩
 refine ⟨.non, _, I.lset (its' := its ++ its2) hH e (by simp) (r.append r2) ?_, rfl, q⟩
 rw [List.length_append]
 omega
theorem WC : c8 X (.builtin "divmod") (fun xs H Q => ∃ i j : Int, xs = [.int i, .int j] ∧ (0 < j ∧ j.natAbs.log2 < 9000) ∧ ∀ p, H p = none → Q (.ref p) (aU H p (.tup [.int (i / j), .int (i % j)]))) := by
 intro pins s σ H xs us Q I r h
 obtain ⟨i, j, rfl, ⟨h1, h2⟩, q⟩ := h
 obtain ⟨u, w', rfl, ⟨t, rfl⟩, ⟨t', rfl⟩⟩ := vals2 r
 refine divmod_int (by omega) ?_ (.inl (PyProof.noPylong_of_log2 h2))
 rw [Int.fdiv_eq_ediv_of_nonneg i (by omega), Int.fmod_eq_emod_of_nonneg i (by omega)]
 have hn : H s.heap.objs.size = none := I.hok.fresh (Nat.le_refl _)
 refine ⟨.ref s.heap.objs.size, _, ?_, rfl, q _ hn⟩
 refine I.laid (fun b o e => Heap.get?_push_of_some _ e) (Nat.le_refl _) ⟨by simp only [List.length_cons, List.length_nil]; rw [sizeLine_eq]; decide, [.int (i / j) s.toks, .int (i % j) (s.toks + 1)], .cons ⟨_, rfl⟩ (.cons ⟨_, rfl⟩ .nil), ?_⟩
 exact ⟨_, Heap.get?_push_size s.heap rfl, rfl, 0, rfl⟩
theorem WD : bootBuiltins "divmod" = some (.builtin "divmod") := by decide +kernel
def WE (ta : TE) : TE := fun σ H Q => ta σ H fun x H1 => ∃ z : Str, x = .str z ∧ z.length ≤ sizeLine ∧ z.length ≠ 0 ∧ Q x H1
theorem WG {a : PySem.Expr} {ta : TE} {b : PySem.Expr} {rest : List PySem.Expr} {pos : Pos} (ha : PE X a ta) : PE X (.BoolOp .Or (a :: b :: rest) pos) (WE ta) := by
 intro pins s σ H Q I h
 refine BoolOp_or (aV (ha pins s σ H _ I h) fun v s1 ⟨x, H1, I1, r1, q1⟩ => ?_)
 obtain ⟨z, rfl, hz, h0, q1⟩ := q1
 obtain ⟨t, rfl⟩ := r1
 have hl := kS
 refine PySem.P.truthy_str (by omega) ?_
 have e : ((z.length : Int) != 0) = true := by simp [bne_iff_ne]; omega
 rw [e]
 exact ⟨.str z, H1, I1.tok _, ⟨t, rfl⟩, q1⟩
end
end L2
namespace L3
open PySem PySem.Spec PyProof.Rows L2
section
variable {X : Cx}
def w9 : List W → Mm → K3 → Prop
 | [.int i, .int j], M, R => (0 < j ∧ j.natAbs.log2 < 9000) ∧ R (.tup [.int (i / j), .int (i % j)]) M
 | _, _, _ => False
theorem WH : c8 X (.builtin "divmod") (gI X.K w9) := by
 rintro pins s σ H xs us Q I rs ⟨ws, M, R, am, axs, h, k⟩
 match ws, h with
 | [.int i, .int j], h =>
  cases axs with
  | cons a1 axs =>
   obtain ⟨v, rfl, a2⟩ := axs.one
   cases a1; cases a2
   exact WC pins s σ H _ us Q I rs ⟨i, j, rfl, h.1, fun p hp => k9 am k hp (.cons (.int _) (.cons (.int _) .nil)) h.2⟩
def nP : W → List W → Mm → K3 → Prop
 | .int i, [], M, R => R (.int ((Builtin.Int.intBits i : Nat) : Int)) M
 | _, _, _, _ => False
theorem xA : fR X "int.bit_length" (iN X.K nP) := by
 rintro pins s σ H x xs v us Q I rx rs ⟨wx, ws, M, R, am, ax, axs, h, k⟩
 match wx, ws, h with
 | .int i, [], h =>
  cases ax; cases axs
  obtain ⟨t, rfl⟩ := rx
  have := rs.zero
  subst this
  exact call_gives PySem.F.slot_int_bit_length (typeIs_int _ _ _) PySem.F.entry_int_bit_length (PySem.F.args_int_bit_length_1 _) (AutoIntG2.int_bit_length_int_0 i t) ⟨.int _, H, I.tok _, ⟨_, rfl⟩, k.at am (.int _) h⟩
def tM : W → List W → Mm → K3 → Prop
 | .str z, [.int i], M, R => PadOk i = true ∧ R (.str (Txt.zfill z i)) M
 | _, _, _, _ => False
theorem WI : fR X "str.zfill" (iN X.K tM) := by
 rintro pins s σ H x xs v us Q I rx rs ⟨wx, ws, M, R, am, ax, axs, h, k⟩
 match wx, ws, h with
 | .str z, [.int i], h =>
  obtain ⟨u, rfl, au⟩ := axs.one
  cases ax; cases au
  obtain ⟨t, rfl⟩ := rx
  obtain ⟨u, rfl, ⟨t', rfl⟩⟩ := rs.one
  exact SC.zfill h.1 fun t' k' => ⟨.str _, H, I.tok _, ⟨_, rfl⟩, k.at am (.str _) h.2⟩
def xB : W → List W → Mm → K3 → Prop
 | .str z, [.str y], M, R => z.length ≤ sizeLine ∧ R (.str (Txt.lstripChars z y)) M
 | _, _, _, _ => False
theorem m_lstrip : fR X "str.lstrip" (iN X.K xB) := by
 rintro pins s σ H x xs v us Q I rx rs ⟨wx, ws, M, R, am, ax, axs, h, k⟩
 match wx, ws, h with
 | .str z, [.str y], h =>
  obtain ⟨u, rfl, au⟩ := axs.one
  cases ax; cases au
  obtain ⟨t, rfl⟩ := rx
  obtain ⟨u, rfl, ⟨t', rfl⟩⟩ := rs.one
  exact SC.lstripChars (fun t' k' => ⟨.str _, H, I.tok _, ⟨_, rfl⟩, k.at am (.str _) h.2⟩) h.1
def tN : W → List W → Mm → K3 → Prop
 | .ref l, [.tup zs], M, R => ∃ ws, M l = some (.lst ws) ∧ ws.length + zs.length ≤ sizeLine ∧ R .non (put M l (.lst (ws ++ zs)))
 | _, _, _, _ => False
theorem WJ : fR X "list.extend" (iN X.K tN) := by
 rintro pins s σ H x xs v us Q I rx rs ⟨wx, ws, M, R, am, ax, axs, h, k⟩
 match wx, ws, h with
 | .ref l, [.tup zs], h =>
  obtain ⟨z, rfl, az⟩ := axs.one
  cases ax
  cases az with
  | tup f2 q2 =>
   obtain ⟨ws, e, hl, r⟩ := h
   obtain ⟨vs, f, q⟩ := am.lst e
   exact WB pins s σ H _ _ v us Q I rx rs ⟨l, _, vs, _, rfl, rfl, f, bV.of f2, by rw [q.length, q2.length]; exact hl, sE am k e (q.append q2) .non r⟩
def xC (ta : aR) : aR := fun τ M R => ta τ M fun x M1 => ∃ z : Str, x = .str z ∧ z.length ≤ sizeLine ∧ z.length ≠ 0 ∧ R x M1
theorem WK {a : PySem.Expr} {ta : aR} {b : PySem.Expr} {rest : List PySem.Expr} {pos : Pos} (ha : E3 X a ta) : E3 X (.BoolOp .Or (a :: b :: rest) pos) (xC ta) :=
 (WG ha).weak fun σ H Q ⟨τ, M, R, as, am, h, k⟩ => ⟨τ, M, _, as, am, h, fun x H1 wx M1 k1 am1 ax ⟨z, e, hz, h0, h1⟩ => by
  subst e
  cases ax
  exact ⟨z, rfl, hz, h0, (k.kp k1).at am1 (.str _) h1⟩⟩
theorem EK {sts : List Stmt} : b9 X sts sP := K7.weak fun D σ H ⟨τ, M, D', as, am, h, k⟩ => h.elim
end
end L3
set_option Elab.async false
set_option compiler.extract_closed false
set_option bootstrap.genMatcherCode false
set_option linter.all false
set_option maxRecDepth 100000
set_option maxHeartbeats 4000000
namespace Rg
open PySem PySem.Spec PyProof.Rows L2 L3
abbrev lM : Int := 10 ^ (64 : Int).toNat
def pC : bK := fun ws M R => ∃ n : Int, ws = [.int n, .int lM] ∧ 0 ≤ n ∧ n < 10 ^ 60 ∧ R (.tup [.int 0, .int n]) M
def pD : bK := fun ws M R => ∃ n : Int, ws = [.int n] ∧ 0 ≤ n ∧ n < 10 ^ 60 ∧ aZ [.int lM] M R
def pE : bK := fun ws M R => ∃ n : Int, ws = [.int n] ∧ 0 < n ∧ n < 10 ^ 60 ∧ R (.str (bS n.toNat)) M
abbrev xD : List Str := ["number", "divisor", "bits", "size", "shift", "shifted", "quotient", "rest", "k", "block", "told"]
def EL : aF :=
   (bB 2 (oJ "int" nP (aA 1)))
def EM : aF :=
   (cQ (i6 (cD (aB i7 (aA 2) (vC (.int 4000)))) (cD (aB gW (aA 0) (aA 1))))
    (bY (bN w9 (aC (aA 0) (aC (aA 1) aG))))
    cP)
def pF : aF := (aL EL (aL EM sP))
abbrev xE : List Str := ["number", "powers"]
def EN : aF :=
   (bB 1 (k7 (aC (aB lZ (vC (.int 10)) (vC (.int 64))) aG)))
def WL : aF :=
   sP
def EO : aF :=
   (vW (cD (aB gW (aB i9 (vC (.int 2)) (aB B8 (oJ "int" nP (aB bG (aA 1) (iO iR (vC (.int 1))))) (vC (.int 1)))) (oJ "int" nP (aA 0)))) WL)
def ER : aF :=
   (bY (aA 1))
def pG : aF := (aL EN (aL EO ER))
abbrev xF : List Str := ["number", "pieces", "power", "halves", "piece", "written"]
def ES : aF :=
   (bB 1 (eU (aC (aA 0) aG)))
def ET : aF :=
   (aL (bB 3 (k7 aG))
   (aL (gJ (dM dF (aA 1)) (cH 4)
    (j9 (cW "list" tN (aA 3) (aC (bW pC (aC (aA 4) (aC (aA 2) aG))) aG))))
   (bB 1 (cU (aA 3)))))
def EU : aF :=
   (gJ (w6 (aC (cU (bW pD (aC (aA 0) aG))) aG)) (cH 2) ET)
def EV : aF :=
   (bB 5 (cW "str" eF (vC (.str "")) (aC (cU (eE (dM dF (aA 1)) (cH 0) fG (cW "str" tM (bN l3 (aC (aA 0) aG)) (aC (vC (.int 64)) aG)) [none])) aG)))
def EW : aF :=
   (bY (xC (cW "str" xB (aA 5) (aC (vC (.str "0")) aG))))
def pH : aF := (aL ES (aL EU (aL EV EW)))
theorem WM : ∀ ws M R, pC ws M R → ws.length = 2 := by rintro ws M R ⟨_, rfl, _⟩; rfl
theorem WN : ∀ ws M R, pD ws M R → ws.length = 1 := by rintro ws M R ⟨_, rfl, _⟩; rfl
theorem WO : ∀ ws M R, pE ws M R → ws.length = 1 := by rintro ws M R ⟨_, rfl, _⟩; rfl
theorem EY : Builtin.Int.intBits lM = 213 := by decide +kernel
theorem WQ {ws : List W} {M : Mm} {R : K3} (h : pC ws M R) : pF (aX R) (b5 xD ws) M := by
 obtain ⟨n, rfl, h0, h1, r⟩ := h
 show pF (aX R) [some (.int n), some (.int lM), none, none, none, none, none, none, none, none, none] M
 have e1 : n / lM = 0 := Int.ediv_eq_zero_of_lt h0 (Int.lt_trans h1 (by decide +kernel))
 have e2 : n % lM = n := Int.emod_eq_of_lt h0 (Int.lt_trans h1 (by decide +kernel))
 simp? only [pF, EL, EM, nP.eq_1]
 rw [EY, if_pos (by decide)]
 simp? only [w9.eq_1]
 refine ⟨⟨by decide +kernel, by decide +kernel⟩, ?_⟩
 rw [e1, e2]
 exact ⟨_, Sub.refl _, r⟩
theorem EZ {n : Int} (h0 : 0 < n) (h1 : n < 10 ^ 60) : n.natAbs.log2 < 200 := by
 rw [Nat.log2_lt (by omega)]
 have : n.natAbs < 10 ^ 60 := by omega
 exact Nat.lt_of_lt_of_le this (by decide +kernel)
theorem WR {n : Int} (h0 : 0 ≤ n) (h1 : n < 10 ^ 60) : Builtin.Int.intBits n ≤ 200 := by
 unfold Builtin.Int.intBits
 by_cases hz : n.natAbs = 0
 ·simp [show n = 0 by omega]
 ·have := EZ (show 0 < n by omega) h1
  split <;> omega
theorem WS {ws : List W} {M : Mm} {R : K3} (h : pD ws M R) : pG (aX R) (b5 xE ws) M := by
 obtain ⟨n, rfl, h0, h1, r⟩ := h
 show pG (aX R) [some (.int n), none] M
 simp? only [pG, EN]
 refine ⟨⟨by decide, by decide, by decide⟩, fun a ha => ?_⟩
 simp? only [EO, vW]
 refine ⟨fun _ τ M' => τ = [some (.int n), some (.ref a)] ∧ M' = put M a (.lst [.int lM]), ⟨0, rfl, rfl⟩, ?_⟩
 rintro _ _ _ ⟨rfl, rfl⟩
 have hb := WR h0 h1
 simp? only []
 refine .inl ⟨_, _, rfl, rfl, rfl, ?_⟩
 simp? only [nP.eq_1]
 rw [EY]
 refine ⟨.inl (.inl ⟨by decide, by decide⟩), ?_⟩
 rw [if_neg (by omega)]
 simp? only [ER]
 exact ⟨_, Sub.refl _, r a ha⟩
theorem E4 {i : Int} (h : 0 ≤ i) : (Str.ofString (toString i)) = bS i.toNat := by unfold bS; rw [Int.toNat_of_nonneg h]
theorem E5 {m : Nat} (h : m < 10 ^ 60) : ∃ k, cs (Txt.zfill (bS m) 64) = List.replicate k 48 ++ cs (bS m) ∧ k ≤ 64 := by
 have hl := o7 h
 refine ⟨64 - (bS m).length, ?_, by omega⟩
 unfold Txt.zfill
 rw [if_neg (by omega)]
 obtain ⟨h1, h2⟩ := rW (m := m)
 unfold zfilled
 have e : (bS m).cps[0]? = (cs (bS m))[0]? := by unfold cs; simp
 obtain ⟨c, q, hc⟩ : ∃ c q, cs (bS m) = c :: q := by
  cases hh : cs (bS m) with
  | nil => exact absurd hh h2
  | cons c q => exact ⟨c, q, rfl⟩
 have hr := o8 (h1 c (by rw [show cs (Str.ofString (toString ((m : Nat) : Int))) = c :: q from hc]; simp))
 rw [e, hc]
 have pd : cs (Builtin.Str.padded (bS m) ((64 : Int).toNat - (bS m).length) 0 48) = List.replicate (64 - (bS m).length) 48 ++ (c :: q) := by
  unfold cs at hc ⊢
  rw [padded_list, hc]
  simp
 rw [← pd]
 show cs (match some c with | some 43 | some 45 => _ | _ => _) = _
 split
 ·rename_i z; cases z; omega
 ·rename_i z; cases z; omega
 ·rfl
theorem E6 {c : Nat} {q : List Nat} (h : c ≠ 48) : ∀ k, ((List.replicate k 48 ++ c :: q).takeWhile fun x => x == 48).length = k
 | 0 => by simp [h]
 | k + 1 => by rw [List.replicate_succ, List.cons_append, List.takeWhile_cons, if_pos (by decide), List.length_cons, E6 h k]
theorem WT {z : Str} {m k : Nat} (h : cs z = List.replicate k 48 ++ cs (bS m)) (h0 : 0 < m) : Txt.lstripChars z "0" = bS m := by
 obtain ⟨c, q, e1, e2⟩ := D6 h0
 apply h9
 unfold Txt.lstripChars
 rw [PyProof.Rows.stripBy_eq, mU]
 have mM : stripLo (Str.ofString "0").cps.contains true z = k := by
  unfold stripLo
  rw [if_pos rfl]
  have e : (Str.ofString "0").cps.contains = fun x => x == 48 := by
   funext x
   show (#[48] : Array Nat).contains x = _
   by_cases hx : x = 48
   ·subst hx; rw [Array.contains_eq_mem, decide_eq_true (by simp)]; rfl
   ·have h1 : ¬ x ∈ (#[48] : Array Nat) := by simp [hx]
    rw [Array.contains_eq_mem, decide_eq_false h1]
    simp [hx]
  rw [e]
  show ((cs z).takeWhile _).length = k
  rw [h, e1]
  exact E6 e2 k
 rw [mM, h]
 have hz : z.length = k + (cs (bS m)).length := by rw [← bH, h, List.length_append, List.length_replicate]
 show List.take ((if false = true then _ else z.length) - k) _ = _
 rw [if_neg (by decide), List.drop_left' (by simp), hz]
 apply List.take_of_length_le
 omega
def WU : W → W
 | .int i => .str (Txt.zfill (Str.ofString (toString i)) 64)
 | w => w
theorem WV {ws : List W} {M : Mm} {R : K3} (h : pE ws M R) : pH (aX R) (b5 xF ws) M := by
 obtain ⟨n, rfl, h0, h1, r⟩ := h
 show pH (aX R) [some (.int n), none, none, none, none, none] M
 simp? only [pH, ES, EU, w6]
 refine ⟨n, rfl, by omega, h1, aZ.frz ⟨_, rfl, ?_⟩⟩
 refine iT (fun i τ M' => ∃ o2 o3 o4 : Option W, τ = [some (.int n), some (.rl (if i = 0 then [.int n] else [.int 0, .int n])), o2, o3, o4, none] ∧ M' = M) ⟨_, _, _, rfl, rfl⟩ (fun _ _ _ _ _ => trivial) ?_ ?_
 ·rintro i w τ M' hw ⟨o2, o3, o4, rfl, rfl⟩
  have hi : i = 0 := by have := (List.getElem?_eq_some_iff.mp hw).1; simp at this; exact this
  subst hi
  cases hw
  simp? only [ET]
  intro a ha
  refine iT (fun i τ M2 => ∃ o4 : Option W, τ = [some (.int n), some (.rl [.int n]), some (.int lM), some (.ref a), o4, none] ∧ M2 = put M' a (.lst (if i = 0 then [] else [.int 0, .int n]))) ⟨_, rfl, rfl⟩ (fun _ _ _ _ _ => trivial) ?_ ?_
  ·rintro i w τ M2 hw ⟨o4, rfl, rfl⟩
   have hi : i = 0 := by have := (List.getElem?_eq_some_iff.mp hw).1; simp at this; exact this
   subst hi
   cases hw
   simp? only [tN.eq_1]
   refine ⟨n, rfl, by omega, h1, ?_⟩
   simp? only [tN.eq_1]
   exact ⟨_, Sub.refl _, _, rfl, by simp⟩
  ·rintro τ M2 ⟨o4, rfl, rfl⟩
   simp? only []
   exact vF ha ⟨_, Sub.refl _, _, _, _, rfl, rfl⟩
 ·rintro τ M' ⟨o2, o3, o4, rfl, rfl⟩
  simp? only [EV, EW, xC]
  rw [if_neg (by decide)]
  refine lE (rest := []) WU (iV (by simp)) (fun _ _ => trivial) (fun w hw M2 C sb h2 => ?_) (aZ.frz ?_)
  ·have key : ∀ i : Int, i.natAbs.log2 < 1920 → w = .int i → cW "str" tM (bN l3 (aC (aA 0) aG)) (aC (vC (W.int 64)) aG) [some w] M2 C := fun i hb e => by
    subst e
    simp? only [tM.eq_1]
    exact ⟨hb, by decide, h2⟩
   simp at hw
   rcases hw with e | e
   ·exact key 0 (by decide) e
   ·exact key n (Nat.lt_of_lt_of_le (EZ h0 h1) (by decide)) e
  ·obtain ⟨k0, e0, hk0⟩ := E5 (m := 0) (by decide)
   obtain ⟨k1, e1, hk1⟩ := E5 (m := n.toNat) (by omega)
   simp? only [eF.eq_1, xB.eq_1]
   have hn := o7 (m := n.toNat) (by omega)
   have h0' : cs (bS 0) = [48] := by decide +kernel
   have ej : cs (Str.join (Str.ofString "") [Txt.zfill (bS 0) 64, Txt.zfill (bS n.toNat) 64]) = List.replicate (k0 + 1 + k1) 48 ++ cs (bS n.toNat) := by
    show cs (Txt.zfill (bS 0) 64 ++ "" ++ Txt.zfill (bS n.toNat) 64) = _
    rw [gG, gG, e0, e1, h0', show cs ("" : Str) = [] from by decide +kernel, show List.replicate (k0 + 1 + k1) 48 = List.replicate k0 48 ++ [48] ++ List.replicate k1 48 from ?_]
    ·simp
    ·rw [show ([48] : List Nat) = List.replicate 1 48 from rfl, List.replicate_append_replicate, List.replicate_append_replicate]
   have es := WT ej (by omega)
   refine ⟨[Txt.zfill (bS 0) 64, Txt.zfill (bS n.toNat) 64], ?_, ⟨200, ?_, by rw [show (Str.ofString "").length = 0 from by decide +kernel]; simp⟩, ?_⟩
   ·show [W.str (Txt.zfill (Str.ofString (toString (0 : Int))) 64), W.str (Txt.zfill (Str.ofString (toString n)) 64)] = _
    rw [E4 (by omega), E4 (by omega)]; rfl
   ·intro y hy
    simp at hy
    rcases hy with e | e <;> rw [e, ← bH]
    ·rw [e0, h0', List.length_append, List.length_replicate]; simp; omega
    ·rw [e1, List.length_append, List.length_replicate, bH]; omega
   ·rw [es]
    obtain ⟨c, q, f1, f2⟩ := D6 (m := n.toNat) (by omega)
    have hq := congrArg List.length f1
    rw [bH, List.length_cons] at hq
    exact ⟨by rw [← bH, ej, List.length_append, List.length_replicate, bH]; omega, by omega, by omega, _, Sub.refl _, r⟩
end Rg
set_option Elab.async false
set_option compiler.extract_closed false
set_option bootstrap.genMatcherCode false
set_option linter.all false
set_option maxRecDepth 100000
set_option maxHeartbeats 4000000
namespace L2
open PySem PySem.Spec PyProof.Rows
def mG (B : Heap) (l : List Env) (H : Hp) (h : Heap) : Prop := ∀ b o, h.get? b = some o → b ∉ bP l → ∃ o', B.get? b = some o' ∧ (H b = none → o' = o)
def bD (P : Program) (w : World) : hW := fun outer H s E e s' => s'.os = s.os ∧ AllBare s'.gens ∧ ∃ (ea : Addr) (cls a0 : Value) (B : Heap) (H' : Hp),
 e = .ref ea ∧ Heap.FlyingW B outer ea cls a0 s'.heap ∧ bZ P w H' B ∧ Un (bP outer) [] H H' s.heap s'.heap ∧ mG B outer H s.heap ∧ E cls none H'
theorem xG {B h h1 h2 : Heap} {l : List Env} {H H' : Hp} (u : Un (bP l) [] H H' h h1) (cv : mG B l H h) (fr : h1.FunFrames B l) (st : B.StaysIn h2) (us : h1.UpToSlots h2) : Un (bP l) [] H H' h h2 where
 keep := fun b o e n hb _ => by
  obtain ⟨o', e1, e2⟩ := cv b o e hb
  rw [← e2 n]; exact st b o' e1
 slot := fun b o e n hb _ => by
  obtain ⟨sl, e1⟩ := u.slot b o e n hb (by simp)
  obtain ⟨_, o1, e2, nf⟩ := fr.mem hb
  rw [e1] at e2; cases e2
  obtain ⟨sl', e3⟩ := us b _ e1 nf
  exact ⟨sl', e3⟩
 free := u.free
 there := fun b o e _ => by
  by_cases hb : b ∈ bP l
  ·obtain ⟨_, o1, e2, nf⟩ := fr.mem hb
   obtain ⟨sl', e3⟩ := us b o1 e2 nf
   exact ⟨_, e3⟩
  ·obtain ⟨o', e1, _⟩ := cv b o e hb
   exact ⟨o', st b o' e1⟩
 tups := u.tups
 frzs := u.frzs
 tbls := u.tbls
section
variable {P : Program} {w : World} {K : PySem.W.Frag} {mg : Str → Option Value} {base : Heap} {N : List Str} {qual : Str} {scope : Scope} {f : Addr} {cd : Value} {A : Around} {outer : List Env} {s : Shared} {H : Hp} {E : XK}
 {pins : List (Addr × Obj)} {σ : St} {H1 : Hp} {s1 : Shared}
theorem WW (I : Inv (aW (bD P w) P w K mg base N qual scope f cd A outer s H E) pins σ H1 s1) : bZ P w H1 (PySem.W.hideAll s1.heap (bP (aW (bD P w) P w K mg base N qual scope f cd A outer s H E).stack)) := fun a o e => by
 refine (I.hok a o e).stay (fun b u hb q => PySem.W.hideAll_get _ q fun hm => ?_) (fun _ q => q) fun _ _ q => q
 have n := I.stkFree b hm
 rcases hb with z | z
 ·rw [z, e] at n; cases n
 ·rw [z] at n; cases n
theorem E7 (I : Inv (aW (bD P w) P w K mg base N qual scope f cd A outer s H E) pins σ H1 s1) {b : Addr} {o : Obj} (e : s.heap.get? b = some o) (hb : b ∉ bP outer) : b ∉ bP (aW (bD P w) P w K mg base N qual scope f cd A outer s H E).stack := fun hm => by
 rcases List.mem_cons.mp (I.stkSub b hm) with z | z
 ·have h1 : s.heap.objs.size ≤ (aW (bD P w) P w K mg base N qual scope f cd A outer s H E).env.locals := I.ok.above
  rw [← z] at h1
  exact absurd (Nat.lt_of_lt_of_le (Heap.lt_size e) h1) (Nat.lt_irrefl _)
 ·exact hb z
theorem WX (I : Inv (aW (bD P w) P w K mg base N qual scope f cd A outer s H E) pins σ H1 s1) : mG (PySem.W.hideAll s1.heap (bP (aW (bD P w) P w K mg base N qual scope f cd A outer s H E).stack)) outer H s.heap := fun b o e hb => by
 obtain ⟨o', e1⟩ := I.base.there b o e (by simp [aW])
 refine ⟨o', PySem.W.hideAll_get _ e1 (E7 I e hb), fun n => ?_⟩
 have e2 := I.base.keep b o e n hb (by simp [aW])
 rw [e1] at e2; exact Option.some.inj e2
theorem WY {ea C : Addr} {args : List Value} {h' : Heap} (I : Inv (aW (bD P w) P w K mg base N qual scope f cd A outer s H E) pins σ H1 s1) (hx : Heap.MadeExcOf s1.heap h' ea (.ref C) args) (hE : E (.ref C) none H1) : (aW (bD P w) P w K mg base N qual scope f cd A outer s H E).xe (.ref ea) { s1 with heap := h' } := by
 have hin : ∀ env ∈ (aW (bD P w) P w K mg base N qual scope f cd A outer s H E).stack, ∀ a, env.frame = some a → a ∈ bP (aW (bD P w) P w K mg base N qual scope f cd A outer s H E).stack := fun env he a ha => List.mem_filterMap.mpr ⟨env, he, ha⟩
 have hl := PySem.W.funFrames_hide I.stack hin
 refine wpAny_leaves_madeW (base := PySem.W.hideAll s1.heap (bP (aW (bD P w) P w K mg base N qual scope f cd A outer s H E).stack)) (h := s1.heap) I.ok.frames rfl (fun b o q => PySem.W.of_hideAll _ q) hl hx fun h2 t fl _ _ us => ?_
 have cv := WX I
 exact ⟨I.os, I.bare, ea, .ref C, .ref t, _, H1, rfl, fl, WW I, xG I.base cv hl.2.2 fl.1 ((Heap.UpToSlots.of_keeps hx.keeps).trans us), cv, hE⟩
theorem xH {E1 : XK} (hE : ∀ c d H', E1 c d H' → E c d H') : mR (bD P w) (aW (bD P w) P w K mg base N qual scope f cd A outer s H E) E1 := fun pins σ H1 s1 e s' I h => by
 obtain ⟨os, bare, ea, cls, a0, B, H', rfl, fl, hok, un, cov, he⟩ := h
 have I' := I.call' os un (hok.kept fl.1) bare (fun b z => absurd z (by simp))
 have cv : mG B outer H s.heap := fun b o e hb => by
  obtain ⟨o1, e1⟩ := I.base.there b o e (by simp [aW])
  obtain ⟨o', e2, e3⟩ := cov b o1 e1 (E7 I e hb)
  refine ⟨o', e2, fun n => ?_⟩
  have e4 := I.base.keep b o e n hb (by simp [aW])
  rw [e1] at e4; cases e4
  exact e3 (I.base.free b o e n (by simp [aW]))
 refine wpAny_leaves_onW I.ok.frames rfl fl fun h2 fl2 us => ?_
 exact ⟨I'.os, I'.bare, ea, cls, a0, B, H', rfl, fl2, hok, xG I'.base cv fl.2.2.1.2.2 fl2.1 us, cv, hE _ _ _ he⟩
theorem E8 : PassesOwn (model P w) (aW (bD P w) P w K mg base N qual scope f cd A outer s H E).A (aW (bD P w) P w K mg base N qual scope f cd A outer s H E).env (aW (bD P w) P w K mg base N qual scope f cd A outer s H E).xe := PassesOwn.leaving
end
end L2
set_option Elab.async false
set_option compiler.extract_closed false
set_option bootstrap.genMatcherCode false
set_option linter.all false
set_option maxRecDepth 100000
set_option maxHeartbeats 4000000
namespace L2
open PySem PySem.Spec PyProof.Rows
structure xI (K : PySem.W.Frag) (mg : Str → Option Value) (x : Str) (C : Addr) : Prop where
 at_ : mg x = some (.ref C)
 ex : PySem.W.excIn K C [.type "ValueError", .type "Exception", .type "BaseException", .type "object"] "ValueError.__new__" = true
theorem WZ {K : PySem.W.Frag} {h : Heap} {C : Addr} {bl : List Value} {nw : String} (Z : K.In h) (q : PySem.W.excIn K C bl nw = true) :
  ∃ bm N nm qn bs hd sn sub ab col dd k0 k1 k2 k3 k5 mN, h.get? C = some (excClassObj nm qn C N bs bm hd sn sub ab col dd k0 k1 k2 k3 k5 nw) ∧ h.Ns N mN ∧ mN "__init__" = none ∧ OwnTail h bl bm := by
 unfold PySem.W.excIn at q
 split at q
 case h_2 => cases q
 rename_i dd cd sl lk
 split at q
 case h_2 => cases q
 rename_i C1 bm a0 a1 a2 a3 nn a5 em es
 simp only [Bool.and_eq_true, beq_iff_eq, Bool.not_eq_true'] at q
 rcases q with ⟨⟨⟨⟨⟨z1, z2⟩, z3⟩, z4⟩, z5⟩, z6⟩
 subst z1 z2
 rcases cd with ⟨nm, bs, mro, ns, qn, hd, sn, sub, ab, col, dl⟩
 simp only at em z3 z5 z6
 subst em z3
 obtain rfl : sl = #[a0, a1, a2, a3, some (.builtin nn), a5] := by
  rcases sl with ⟨l⟩
  simp only at es
  rw [es]
 exact ⟨bm, ns, nm, qn, bs, hd, sn, sub, ab, col, dd, a0, a1, a2, a3, a5, _, Z _ _ lk, .of_isNs (PySem.W.isNs_of_in Z z5), PySem.W.nsMap_none_of_in Z z5 z6, PySem.W.tail_of_in Z z4⟩
end L2
namespace L3
open PySem PySem.Spec PyProof.Rows L2
def NM (w : W) : Prop := ∀ n, w ≠ .ty n
def pI (K : PySem.W.Frag) (H : Hp) (M : Mm) (R : K3) (Q : VK) : Prop := ∀ v H' w M', NM w → Kp H M H' M' → AM K H' M' → AV K H' M' v w → R w M' → Q v H'
structure tO (K : PySem.W.Frag) (H : Hp) (M : Mm) (D : D3) (E : hV) : Prop where
 nx : fT K H M D.nx E.nx
 rt : pI K H M D.rt E.rt
 bk : fT K H M D.bk E.bk
 ct : fT K H M D.ct E.ct
theorem pI.kp {K : PySem.W.Frag} {H H1 : Hp} {M M1 : Mm} {R : K3} {Q : VK} (h : pI K H M R Q) (k : Kp H M H1 M1) : pI K H1 M1 R Q := fun v H' w M' n k' am av r => h v H' w M' n (k.trans k') am av r
theorem tO.kp {K : PySem.W.Frag} {H H1 : Hp} {M M1 : Mm} {D : D3} {E : hV} (h : tO K H M D E) (k : Kp H M H1 M1) : tO K H1 M1 D E := ⟨h.nx.kp k, h.rt.kp k, h.bk.kp k, h.ct.kp k⟩
def E9 (K : PySem.W.Frag) (H0 : Hp) (M0 : Mm) (r0 : K3) (t : aF) : TS := fun E σ H => ∃ τ M D, AS K H M σ τ ∧ AM K H M ∧ Kp H0 M0 H M ∧ D.rt = r0 ∧ t D τ M ∧ tO K H M D E
abbrev X3 (X : Cx) (H0 : Hp) (M0 : Mm) (r0 : K3) (st : Stmt) (t : aF) : Prop := PS X st (E9 X.K H0 M0 r0 t)
abbrev iD (X : Cx) (H0 : Hp) (M0 : Mm) (r0 : K3) (st : List Stmt) (t : aF) : Prop := dX X st (E9 X.K H0 M0 r0 t)
section
variable {X : Cx} {H0 : Hp} {M0 : Mm} {r0 : K3} {pos : Pos} {st : Stmt} {rest : List Stmt} {t u : aF} {e : Expr} {te : aR}
theorem mH : iD X H0 M0 r0 [] cP := zH.weak fun D σ H ⟨τ, M, D', as, am, k0, e0, h, k⟩ => k.nx.at am as h
theorem jC (h1 : X3 X H0 M0 r0 st t) (h2 : iD X H0 M0 r0 rest u) : iD X H0 M0 r0 (st :: rest) (aL t u) := (zJ h1 h2).weak fun D σ H ⟨τ, M, D', as, am, k0, e0, h, k⟩ =>
 ⟨τ, M, { D' with nx := u D' }, as, am, k0, e0, h, ⟨fun σ' H' τ' M' k' am' as' h' => ⟨τ', M', D', as', am', k0.trans k', e0, h', k.kp k'⟩, k.rt, k.bk, k.ct⟩⟩
theorem g9 (h1 : X3 X H0 M0 r0 st t) : iD X H0 M0 r0 [st] t := zK h1
theorem mI {c : Expr} {a b : List Stmt} {tc : cZ} (hc : T3 X c tc) (ha : iD X H0 M0 r0 a t) (hb : iD X H0 M0 r0 b u) : X3 X H0 M0 r0 (.If c a b pos) (cQ tc t u) := (zM hc ha hb).weak fun D σ H ⟨τ, M, D', as, am, k0, e0, h, k⟩ =>
 ⟨τ, M, _, as, am, h, fun b H1 M1 k1 am1 h1 => by
  cases b with
  | true => exact ⟨τ, M1, D', as.kp am k1, am1, k0.trans k1, e0, h1, k.kp k1⟩
  | false => exact ⟨τ, M1, D', as.kp am k1, am1, k0.trans k1, e0, h1, k.kp k1⟩⟩
theorem xJ (h : P3 X st t) (irr : ∀ D r τ M, t D τ M → t { D with rt := r } τ M) : X3 X H0 M0 r0 st t := h.weak fun E σ H ⟨τ, M, D, as, am, k0, e0, q, k⟩ =>
 ⟨τ, M, { D with rt := fun _ _ => False }, as, am, irr _ _ _ _ q, ⟨k.nx, fun _ _ _ _ _ _ _ z => z.elim, k.bk, k.ct⟩⟩
def kG (te : aR) : aF := fun D τ M => te τ M fun w M' => NM w ∧ D.rt w M'
theorem tP (he : E3 X e te) : X3 X H0 M0 r0 (.Return (some e) pos) (kG te) := (uH he).weak fun D σ H ⟨τ, M, D', as, am, k0, e0, h, k⟩ => ⟨τ, M, _, as, am, h, fun v H' w M' k' am' av ⟨n, r⟩ => k.rt _ _ _ _ n k' am' av r⟩
theorem FA {tg iter : Expr} {body : List Stmt} {wi : gY} {g : dR} {tb : aF} {pos : Pos} (hp : PassesOwn (model X.prog X.w) X.A X.env X.xe) (hc : X.calm = true) (hi : PI X tg iter (iS X.K wi)) (hg : PG X tg (iB X.K g)) (hb : iD X H0 M0 r0 body tb)
  (hs : ∀ x, foldedSetIterable iter X.env x = pure x := by intro _; rfl) : X3 X H0 M0 r0 (.For tg iter body [] pos) (gJ wi g tb) :=
 (zP hp hc hi hg hb hs).weak fun D σ H ⟨τ, M, D', as, am, k0, e0, h, k⟩ => by
  refine ⟨τ, M, _, as, am, h, fun J H1 ws keep M1 k1 am1 it ⟨Pv, h0, hk, hs, hd⟩ => ?_⟩
  refine ⟨fun i m σ' H' => m = ws.length - i ∧ i ≤ ws.length ∧ ∃ τ' M', Kp H1 M1 H' M' ∧ AM X.K H' M' ∧ AS X.K H' M' σ' τ' ∧ Pv i τ' M', ⟨_, rfl, Nat.zero_le _, τ, M1, Kp.refl am1, am1, as.kp am k1, h0⟩, ?_⟩
  rintro i m σ2 H2 ⟨rfl, hi, τ2, M2, k2, am2, as2, p2⟩
  by_cases hlt : i < ws.length
  ·refine .inr ⟨it.go i H2 M2 k2 am2 (hk i τ2 M2 hi p2) hlt, fun σ' H' => ∃ τ' M', Kp H1 M1 H' M' ∧ AM X.K H' M' ∧ AS X.K H' M' σ' τ' ∧ Pv (i + 1) τ' M', fun σ' H' q => ⟨ws.length - (i + 1), by omega, rfl, hlt, q⟩, fun x H3 y => ?_⟩
   obtain ⟨w, hw, k3, am3, ax⟩ := it.yld i H2 M2 x H3 k2 am2 (hk i τ2 M2 hi p2) hlt y
   refine ⟨w, τ2, M2, _, ax, as2.kp am2 k3, am3, hs i w τ2 M2 hw p2, fun σ4 H4 τ4 M4 k4 am4 as4 h4 => ?_⟩
   have kk := ((k2.trans k3).trans k4)
   have again : fT X.K H4 M4 (fun τ' M' => ∃ M'', Sub M'' M' ∧ Pv (i + 1) τ' M'') (fun σ' H' => ∃ τ' M', Kp H1 M1 H' M' ∧ AM X.K H' M' ∧ AS X.K H' M' σ' τ' ∧ Pv (i + 1) τ' M') :=
    fun σ' H' τ' M' k' am' as' ⟨M'', q2, q3⟩ => ⟨τ', M'', (kk.trans k').sub q2, am'.sub q2, as'.sub q2, q3⟩
   exact ⟨τ4, M4, { D' with nx := fun τ' M' => ∃ M'', Sub M'' M' ∧ Pv (i + 1) τ' M'', ct := fun τ' M' => ∃ M'', Sub M'' M' ∧ Pv (i + 1) τ' M'', bk := D'.nx }, as4, am4, k0.trans (k1.trans kk), e0, h4, ⟨again, k.rt.kp (k1.trans kk), k.nx.kp (k1.trans kk), again⟩⟩
  ·have e : i = ws.length := by omega
   subst e
   exact .inl ⟨it.stop H2 M2 k2 am2 (hk _ τ2 M2 hi p2), k.nx _ _ _ _ (k1.trans k2) am2 as2 (hd τ2 M2 p2)⟩
end
def fY (K : PySem.W.Frag) (cl : String → Option Addr) (sp : bK) : Sp := fun vs H Q E => ∃ ws M R, AM K H M ∧ aJ K H M vs ws ∧ sp ws M R ∧ pI K H M R Q ∧ ∀ n C H' M', cl n = some C → Kp H M H' M' → AM K H' M' → R (.ty n) M' → E (.ref C) none H'
section
variable {P : Program} {w : World} {K : PySem.W.Frag} {mg : Str → Option Value} {base : Heap}
theorem aS.calm {k : Nat} {f : Addr} {fd : FuncData} {ps : List Str} {cl : String → Option Addr} {sp : bK} (F : aS P w K mg base (bD P w) k f fd ps (fY K cl sp)) :
  aS P w K mg base aQ k f fd ps (a8 K fun ws M R => sp ws M fun w M' => NM w ∧ R w M') := by
 have cv : ∀ vs H Q, a8 K (fun ws M R => sp ws M fun w M' => NM w ∧ R w M') vs H Q E0 → fY K cl sp vs H Q E0 := fun vs H Q ⟨ws, M, R, am, av, h, k⟩ =>
  ⟨ws, M, _, am, av, h, fun v H' w M' n k' am' av' r => k v H' w M' k' am' av' r.2, fun n C H' M' _ _ _ r => absurd rfl (r.1 n)⟩
 refine ⟨fun vs H Q E h => F.len vs H Q E0 (cv vs H Q h), fun A outer s H args us vs Q E hr he hb hv hs => ?_⟩
 refine codeAny_mono (F.run A outer s H args us vs Q E0 hr he hb hv (cv vs H Q hs)) fun r s' h => ?_
 cases r with
 | error e => obtain ⟨_, _, _, _, _, _, _, _, _, _, _, _, z⟩ := h; exact z.elim
 | ok fl => cases fl <;> exact h
theorem pJ {x qual : Str} {st : Stmt} {f : Addr} {fd : FuncData} {N ps : List Str} {k : Nat} {sp : bK} {cl : String → Option Addr} (F : j4 K x qual st f fd) (S : b7 N ps (aE st)) (len : ∀ ws M R, sp ws M R → ws.length = ps.length)
  (hbody : ∀ (cdv : Value) (A : Around) (outer : List Env) (s : Shared) (H : Hp) (E : XK) (ws : List W) (M : Mm) (R : K3), bA k (A.deeper (envOfC qual (aE st) s.heap.objs.size f cdv)) → sp ws M R →
   (∀ n C H' M', cl n = some C → Kp H M H' M' → AM K H' M' → (aX R).rt (.ty n) M' → E (.ref C) none H') →
   ∃ t, iD (aW (bD P w) P w K mg base N qual (aE st) f cdv A outer s H E) H M (aX R).rt (aM st) t ∧ t (aX R) (b5 N ws) M) : aS P w K mg base (bD P w) (k + 1) f fd ps (fY K cl sp) := by
 obtain ⟨oc, od, kV, doc, pm, an, cdv, ct, osl, rfl, lk, hcd⟩ := F.ex
 refine AK lk hcd S (fun vs H Q E ⟨ws, M, R, am, av, h, _⟩ => by rw [av.length]; exact len ws M R h) fun A outer s H vs Q E hr ⟨ws, M, R, am, av, h, kk, kx⟩ => ?_
 obtain ⟨t, ht, h'⟩ := hbody cdv A outer s H E ws M R hr h fun n C H' M' c k' am' ⟨M'', sb, r⟩ => kx n C H' M'' c (k'.sub sb) (am'.sub sb) r
 refine ⟨_, ht, b5 N ws, M, aX R, ?_, am, Kp.refl am, rfl, h', ⟨fun σ' H' τ' M' k' am' as' ⟨M'', sb, r⟩ => kk _ H' _ M'' (fun n z => W.noConfusion z) (k'.sub sb) (am'.sub sb) .non r, fun v H' w M' n k' am' av' ⟨M'', sb, r⟩ => kk v H' w M'' n (k'.sub sb) (am'.sub sb) (av'.sub sb) r, fun _ _ _ _ _ _ _ z => z.elim, fun _ _ _ _ _ _ _ z => z.elim⟩⟩
 unfold L2.start b5
 rw [av.length]
 exact AS.start av _
end
section
variable {P : Program} {w : World} {K : PySem.W.Frag} {mg : Str → Option Value} {base : Heap} {N : List Str} {qual : Str} {scope : Scope} {f : Addr} {cd : Value} {A : Around} {outer : List Env} {s : Shared} {H : Hp} {E : XK}
 {H0 : Hp} {M0 : Mm} {r0 : K3} {cl : String → Option Addr}
def hG (n : String) (te : aR) : aF := fun D τ M => te τ M fun _ M' => D.rt (.ty n) M'
theorem nQ {x : Str} {C : Addr} {n : String} {e : Expr} {te : aR} {np cpos pos : Pos} (hx : ∀ n C H' M', cl n = some C → Kp H0 M0 H' M' → AM K H' M' → r0 (.ty n) M' → E (.ref C) none H') (hh : (aW (bD P w) P w K mg base N qual scope f cd A outer s H E).A.handled = none)
  (c : xI K mg x C) (hc : cl n = some C) (hg : Gl (aW (bD P w) P w K mg base N qual scope f cd A outer s H E) x) (he : E3 (aW (bD P w) P w K mg base N qual scope f cd A outer s H E) e te) (hd : (x == ("__debug__" : Str)) = false := by decide)
  (hs : starEach [e] (aW (bD P w) P w K mg base N qual scope f cd A outer s H E).env = (false, eval e (aW (bD P w) P w K mg base N qual scope f cd A outer s H E).env) :: starEach [] (aW (bD P w) P w K mg base N qual scope f cd A outer s H E).env := by rfl) : X3 (aW (bD P w) P w K mg base N qual scope f cd A outer s H E) H0 M0 r0 (.Raise (some (.Call (.Name x np) [e] [] cpos)) none pos) (hG n te) := by
 intro pins s1 σ H1 D I ⟨τ, M, D', as, am, k0, e0, h, k⟩
 obtain ⟨bm, NN, nm, qn, bs, hd', sn, sub, ab, col, dd, k0', k1, k2, k3, k5, mN, hC, hN, hni, T⟩ := WZ I.ok.mod.kin c.ex
 refine wpAny_Raise_call_subT (C := C) (nm := nm) (q := qn) (N := NN) (bs := bs) (bm := bm) (hdct := hd') (sn := sn) (sub := sub) (ab := ab) (col := col) (dd := dd) (k0 := k0') (k1 := k1) (k2 := k2) (k3 := k3) (k5 := k5) PySem.F.excBase_ValueError (mN := mN)
  (T.hasType PySem.F.excBase_ValueError.hasBase) hh (by rw [hs]; rfl) hni (n4 I hg c.at_ ⟨rfl, ?_⟩ hd)
 rw [hs]
 refine Calls.evalArgs_plain (Calls.spliced_cons (aV (he pins s1 σ H1 (fun _ H2 => E (.ref C) none H2) I ⟨τ, M, _, as, am, h, fun v H2 w M2 k2' am2 _ r => ?_⟩) fun u s2 ⟨v, H2, I2, _, q2⟩ => ?_))
 ·rw [e0] at r
  exact hx n C H2 M2 hc (k0.trans k2') am2 r
 ·exact spliced_none ⟨rfl, by show 1 ≤ sizeLine; decide, I2.bk _ _ hC, hN.keeps I2.bk, T.keeps I2.bk, fun h' ea hm => WY I2 hm q2⟩
def xK (sp : bK) (t : c9) : aF := fun D τ M => t τ M fun ws M1 => sp ws M1 fun w M2 => (NM w ∧ D.nx τ M2) ∨ ((∃ n, w = .ty n) ∧ D.rt w M2)
theorem W0 {k : Nat} {g : Addr} {fd : FuncData} {ps : List Str} {sp : bK} {x : Str} {e : Expr} {es : List Expr} {t : c9} {p cpos pos : Pos} (hx : ∀ n C H' M', cl n = some C → Kp H0 M0 H' M' → AM K H' M' → r0 (.ty n) M' → E (.ref C) none H')
  (F : aS P w K mg base (bD P w) k g fd ps (fY K cl sp)) (hr : bA k (aW (bD P w) P w K mg base N qual scope f cd A outer s H E).A) (hg : Gl (aW (bD P w) P w K mg base N qual scope f cd A outer s H E) x) (hm : mg x = some (.ref g)) (hk : PySem.W.keepIn K (.ref g) = true) (hb : Binds K fd ps [])
  (ha : A3 (aW (bD P w) P w K mg base N qual scope f cd A outer s H E) (e :: es) t) (hdb : (x == ("__debug__" : Str)) = false := by decide) (he : starEach (e :: es) (aW (bD P w) P w K mg base N qual scope f cd A outer s H E).env = (false, eval e (aW (bD P w) P w K mg base N qual scope f cd A outer s H E).env) :: starEach es (aW (bD P w) P w K mg base N qual scope f cd A outer s H E).env := by rfl) (hpl : (backTo cpos (starEach es (aW (bD P w) P w K mg base N qual scope f cd A outer s H E).env)).any (·.1) = false := by rfl)
  (hs : swapsWith (.Call (.Name x p) (e :: es) [] cpos) none pos.line (aW (bD P w) P w K mg base N qual scope f cd A outer s H E).env = pure false := by rfl) :
  X3 (aW (bD P w) P w K mg base N qual scope f cd A outer s H E) H0 M0 r0 (.Expr (.Call (.Name x p) (e :: es) [] cpos) pos) (xK sp t) :=
 (zL (uR (E := E) F hr hg hm hk hb .nil (xH fun _ _ _ z => z) ha hdb he hpl) hs).weak fun D σ H1 ⟨τ, M, D', as, am, k0, e0, h, kk⟩ =>
  ⟨τ, M, _, as, am, h, fun xs H2 ws M2 k2 am2 axs h2 => ⟨ws, M2, _, am2, by rw [List.append_nil]; exact axs, h2, fun v H' w M' n k' am' av r => by
   rcases r with ⟨_, r⟩ | ⟨⟨m, rfl⟩, _⟩
   ·exact kk.nx _ _ _ _ (k2.trans k') am' ((as.kp am k2).kp am2 k') r
   ·exact absurd rfl (n m), fun n C H' M' c k' am' r => by
   rcases r with ⟨z, _⟩ | ⟨_, r⟩
   ·exact absurd rfl (z n)
   ·rw [e0] at r
    exact hx n C H' M' c ((k0.trans k2).trans k') am' r⟩⟩
end
end L3
set_option Elab.async false
set_option compiler.extract_closed false
set_option bootstrap.genMatcherCode false
set_option linter.all false
set_option maxRecDepth 100000
set_option maxHeartbeats 4000000
namespace L2
open PySem PySem.Spec PyProof.Rows
structure dC (P : Program) (w : World) (l : List Env) (H : Hp) (s : Shared) (ea : Addr) (cls : Value) (H' : Hp) (B : Heap) (s' : Shared) : Prop where
 os : s'.os = s.os
 bare : AllBare s'.gens
 fl : ∃ a0, Heap.FlyingW B l ea cls a0 s'.heap
 hok : bZ P w H' B
 un : Un (bP l) [] H H' s.heap s'.heap
 cov : mG B l H s.heap
section
variable {P : Program} {w : World} {l : List Env} {H H' : Hp} {s s' : Shared} {ea : Addr} {cls : Value} {B : Heap} {M : Model} {A : Around} {E E' : Value → Shared → Prop}
theorem dC.re (a : dC P w l H s ea cls H' B s') {h2 : Heap} {tk : Nat} {a1 : Value} (fl : Heap.FlyingW B l ea cls a1 h2) (us : s'.heap.UpToSlots h2) : dC P w l H s ea cls H' B { s' with heap := h2, toks := tk } := by
 obtain ⟨a0, f0⟩ := a.fl
 exact ⟨a.os, a.bare, ⟨a1, fl⟩, a.hok, xG a.un a.cov f0.2.2.1 fl.1 us, a.cov⟩
theorem dC.look {env : Env} {outer : List Env} {L : Addr} {G : Shared → Prop} (a : dC P w (env :: outer) H s ea cls H' B s') (hfr : A.frames = some (env :: outer)) (hf : env.frame = some L) (h : ∀ s2, dC P w (env :: outer) H s ea cls H' B s2 → G s2) :
  wpAny M A (noteFrame (.ref ea) env) (fun _ s2 => wpAny M A (setFlight (.ref ea) none) (fun _ s3 => G s3) E s2) E' s' := by
 obtain ⟨a0, f0⟩ := a.fl
 refine wpAny_looks_onW hfr hf f0 fun h2 held us => ?_
 refine wpAny_landsW held fun h3 fl us' => ?_
 exact h _ (a.re (tk := s'.toks) fl (us.trans us'))
theorem dC.land {G : Shared → Prop} (a : dC P w l H s ea cls H' B s') (h : ∀ s2, dC P w l H s ea cls H' B s2 → G s2) : wpAny M A (setFlight (.ref ea) none) (fun _ s3 => G s3) E s' := by
 obtain ⟨a0, f0⟩ := a.fl
 exact PyProof.Rows.lands_againW f0 fun h3 fl us => h _ (a.re (tk := s'.toks) fl us)
theorem dC.ty (a : dC P w l H s ea cls H' B s') : PySem.W.Looks M s'.heap (typeOf (.ref ea)) cls := by
 obtain ⟨a0, f0⟩ := a.fl
 obtain ⟨ob, e, rfl⟩ := f0.there
 exact (PySem.W.Looks.ld e).andThen .now
theorem dC.obj (a : dC P w l H s ea cls H' B s') : ∃ o vs, s'.heap.get? ea = some o ∧ o.cls = cls ∧ o.data = .fields vs := by
 obtain ⟨a0, f0⟩ := a.fl
 obtain ⟨oe, vs, e, c, d, _⟩ := f0.first
 exact ⟨oe, vs, e, c, d⟩
theorem dC.new (a : dC P w l H s ea cls H' B s') : s.heap.get? ea = none := by
 obtain ⟨a0, f0⟩ := a.fl
 cases q : s.heap.get? ea with
 | none => rfl
 | some o =>
  by_cases hb : ea ∈ bP l
  ·obtain ⟨_, o1, e1, nf⟩ := f0.2.2.1.mem hb
   obtain ⟨o2, vs, e2, _, d⟩ := a.obj
   rw [e1] at e2; cases e2
   exact absurd d (nf vs)
  ·obtain ⟨o', e', _⟩ := a.cov ea o q hb
   rw [f0.2.1] at e'; cases e'
theorem dC.free (a : dC P w l H s ea cls H' B s') : H' ea = none := by
 obtain ⟨a0, f0⟩ := a.fl
 cases q : H' ea with
 | none => rfl
 | some u =>
  have x := a.hok ea u q
  have : ∃ o, B.get? ea = some o := by
   cases u with
   | lst xs => obtain ⟨_, _, _, _, e⟩ := x; exact ⟨_, e⟩
   | tup xs => obtain ⟨_, _, _, o, e, _⟩ := x; exact ⟨_, e⟩
   | dK kvs => obtain ⟨_, _, _, _, o, _, _, e, _⟩ := x; exact ⟨_, e⟩
   | dT kvs => obtain ⟨_, _, _, _, o, _, _, e, _⟩ := x; exact ⟨_, e⟩
   | set S n => obtain ⟨o, _, _, _, e, _⟩ := x; exact ⟨_, e⟩
   | ins C dx fs => obtain ⟨_, _, _, e, _⟩ := x; exact ⟨_, e⟩
   | own y => exact x
   | xd fs => obtain ⟨_, ⟨_, _, _, e, _⟩, _⟩ := x; exact ⟨_, e⟩
   | rng lo hi => obtain ⟨_, _, _, e⟩ := x; exact ⟨_, e⟩
   | frz ob u => exact ⟨_, x.1⟩
   | tbl ps => exact ⟨_, x⟩
   | met f y => exact ⟨_, x⟩
   | ext φ => exact x.2.1
  obtain ⟨o, e⟩ := this
  rw [f0.2.1] at e; cases e
end
section
variable {X : Cx} {pins : List (Addr × Obj)} {σ : St} {H H' : Hp} {s s' : Shared} {ea : Addr} {cls : Value} {B : Heap} {A : Around} {E : Value → Shared → Prop}
theorem dC.inv (a : dC X.prog X.w X.stack H s ea cls H' B s') (I : Inv X pins σ H s) : Inv X pins σ H' s' := by
 obtain ⟨a0, f0⟩ := a.fl
 exact I.call' a.os a.un (a.hok.kept f0.1) a.bare (fun b z => absurd z (by simp))
abbrev Cx.inX (X : Cx) (ea : Addr) (oe : Obj) : Cx := { X with A := X.A.mark (some (.ref ea)), calm := false, pn := (ea, oe) :: X.pn, xe := fun _ _ => False }
theorem Inv.inX {oe : Obj} {vs : Array Value} (I : Inv X pins σ H s) (e : s.heap.get? ea = some oe) (hd : oe.data = .fields vs) (n : H ea = none) (hs : X.s₀.heap.get? ea = none) : Inv (X.inX ea oe) pins σ H s := by
 refine ⟨⟨I.ok.mod, I.ok.kind, I.ok.glob, I.ok.blt, I.ok.above, I.ok.inj, I.ok.has, I.ok.cab, (fun z => nomatch z), I.ok.frames, I.ok.stk, I.ok.exf, I.ok.bs, I.ok.bsz, I.ok.noex, I.ok.exfs, I.ok.funs, I.ok.frf⟩, I.os, I.bare, I.base, I.loc, I.cell, I.free, I.freeC, fun p hp => ?_, I.hok, I.len⟩
 rcases List.mem_cons.mp (show p ∈ (ea, oe) :: (X.pn ++ pins) from hp) with z | z
 ·subst z
  refine ⟨e, n, fun q => ?_, fun q => ?_, fun v q => by rw [hd] at q; cases q⟩
  ·obtain ⟨m, ⟨o', es, ep, ho', hd', _⟩, _⟩ := I.loc
   rw [← q, e] at ho'; cases ho'; rw [hd'] at hd; cases hd
  ·obtain ⟨_, o, ho, _⟩ := I.ok.funs.mem q
   rw [hs] at ho; cases ho
 ·exact I.pin p z
theorem W4 {M : Model} {i : Nat} {n : Str} {pos : Pos} {Q : Unit → Shared → Prop} (I : Inv X pins σ H s) (hN : X.N.Nodup) (hi : X.N[i]? = some n) (hl : X.env.scope.names.lookup n = some .local) (h : ∀ s', Inv X pins (σ.set i none) H s' → Q () s') :
  wpAny M A (do bindName X.env n .none; unbindBehindTheSuite X.env n pos) Q E s := by
 obtain ⟨m, hn, hlk⟩ := id I.loc
 obtain ⟨oL, _, _, hoL, _⟩ := id hn
 refine wpAny_nameGoes_keeps hl hn (by rw [I.ok.kind]; rfl) fun h' v hn' hs => h _ ?_
 have neL : ∀ {b : Addr} {o : Obj}, X.s₀.heap.get? b = some o → b ≠ X.env.locals := fun {b o} e => Nat.ne_of_lt (Nat.lt_of_lt_of_le (Heap.lt_size e) I.ok.above)
 have cell' : ∀ x c, X.env.cells.lookup x = some c → ∀ u, s.heap.IsCell c u → h'.IsCell c u := fun x c e u z => z.sameBut hs (I.cne x c e)
 refine ⟨I.ok, I.os, I.bare, ⟨?_, ?_, I.base.free, ?_, I.base.tups, I.base.frzs, I.base.tbls⟩, ⟨_, hn', ?_⟩, ?_, I.free, I.freeC, ?_, ?_, by simpa using I.len⟩
 ·intro b o e n1 hb hx
  exact (hs.2 b (neL e)).trans (I.base.keep b o e n1 hb hx)
 ·intro b o e n1 hb hx
  obtain ⟨sl, e1⟩ := I.base.slot b o e n1 hb hx
  exact ⟨sl, (hs.2 b (neL e)).trans e1⟩
 ·intro b o e hx
  obtain ⟨o', e1⟩ := I.base.there b o e hx
  exact ⟨o', (hs.2 b (neL e)).trans e1⟩
 ·intro j y v' e1 e2 e3
  by_cases hj : j = i
  ·subst hj
   rw [List.getElem?_set] at e2
   simp at e2
  ·rw [List.getElem?_set_ne (Ne.symm hj)] at e2
   obtain ⟨u', r', q⟩ := hlk j y v' e1 e2 e3
   refine ⟨u', r', ?_⟩
   rcases q with ⟨k, e⟩ | ⟨k, c, e, z⟩
   ·refine .inl ⟨k, ?_⟩
    have : y ≠ n := fun e => hj (uG hN e1 (e ▸ hi))
    simp [this, e]
   ·exact .inr ⟨k, c, e, cell' y c e _ z⟩
 ·intro y c e
  obtain ⟨u, z⟩ := I.cell y c e
  exact ⟨u, cell' y c e u z⟩
 ·intro p hp
  obtain ⟨e, n1, ne, nf, d⟩ := I.pin p hp
  exact ⟨(hs.2 p.1 ne).trans e, n1, ne, nf, d⟩
 ·intro b ob e
  refine (I.hok b ob e).stay (fun c u hc q => (hs.2 c ?_).trans q) (fun _ q => q) fun _ _ q => q
  intro z
  subst z
  rcases hc with z | z
  ·rw [← z, I.free] at e; cases e
  ·rw [I.free] at z; cases z
end
end L2
set_option Elab.async false
set_option compiler.extract_closed false
set_option bootstrap.genMatcherCode false
set_option linter.all false
set_option maxRecDepth 100000
set_option maxHeartbeats 4000000
namespace L2
open PySem PySem.Spec PyProof.Rows
section
variable {K : PySem.W.Frag} {M : Model}
end
section
variable {X : Cx} {pins : List (Addr × Obj)} {σ : St} {H H' : Hp} {s s' : Shared} {ea : Addr} {cls : Value} {B : Heap} {E : Value → Shared → Prop}
theorem dC.inX (a : dC X.prog X.w X.stack H s ea cls H' B s') (I : Inv X pins σ H s) (hex : X.ex = []) : ∃ oe vs, oe.cls = cls ∧ oe.data = .fields vs ∧ Inv (X.inX ea oe) pins σ H' s' := by
 obtain ⟨oe, vs, e, c, d⟩ := a.obj
 refine ⟨oe, vs, c, d, (a.inv I).inX e d a.free ?_⟩
 cases q : X.s₀.heap.get? ea with
 | none => rfl
 | some o =>
  obtain ⟨o', e'⟩ := I.base.there ea o q (by rw [hex]; simp)
  rw [a.new] at e'; cases e'
end
section
variable {X : Cx} {k : Nat} {f : Addr} {fd : FuncData} {ps : List Str} {sp : Sp} {g : Str} {p cpos spos pos : Pos} {e : Expr} {es : List Expr} {t : TA} {hs : List ExceptHandler} {h0 : ExceptHandler}
def FC (X : Cx) (pins : List (Addr × Obj)) (σ : St) (E2 : XK) : Value → Shared → Prop := fun e s1 => ∃ H1 s0 ea cls H' B, e = .ref ea ∧ dC X.prog X.w X.stack H1 s0 ea cls H' B s1 ∧ Inv X pins σ H1 s0 ∧ E2 cls none H'
end
end L2
set_option Elab.async false
set_option compiler.extract_closed false
set_option bootstrap.genMatcherCode false
set_option linter.all false
set_option maxRecDepth 100000
set_option maxHeartbeats 4000000
namespace L2
open PySem PySem.Spec PyProof.Rows
section
variable {K : PySem.W.Frag} {x t : Value} {Hh : Heap → Prop}
end
end L2
namespace L3
open PySem PySem.Spec PyProof.Rows L2
theorem AS.setN {K : PySem.W.Frag} {H : Hp} {M : Mm} : ∀ {σ : SV} {τ : S3} (i : Nat), AS K H M σ τ → AS K H M (σ.set i none) (τ.set i none)
 | _, _, _, .nil => .nil
 | _, _, 0, .cons _ t => .cons (fun x e => nomatch e) t
 | _, _, i + 1, .cons q t => .cons q (AS.setN i t)
section
variable {X : Cx} {ea : Addr} {oe : Obj}
def xM (a : Str) (te : aR) : aR := fun τ M R => te τ M fun w M' => ∃ z, w = .str z ∧ z.length ≤ sizeLine ∧ (Str.empty ++ a ++ z).length ≤ sizeLine ∧ R (.str (Str.empty ++ a ++ z)) M'
theorem W5 {a : Str} {e : Expr} {te : aR} {j} {p1 p2 pos : Pos} (he : E3 X e te) (hl : (Str.empty ++ a).length ≤ sizeLine := by decide) : E3 X (.JoinedStr [.Constant (.str a) j p1, .FormattedValue e (-1) none p2] pos) (xM a te) := by
 rintro pins s σ H Q I ⟨τ, M, R, as, am, h, k⟩
 refine JoinedStr_many (joinParts_cons (Calls.Constant_str ⟨hl, joinParts_cons (FormattedValue_plain (aV (he pins _ σ H (fun v H' => ∃ z, v = .str z ∧ z.length ≤ sizeLine ∧ (Str.empty ++ a ++ z).length ≤ sizeLine ∧ Q (.str (Str.empty ++ a ++ z)) H') (I.tok _) ⟨τ, M, _, as, am, h, ?_⟩) fun u s1 ⟨v, H1, I1, rv, z, e1, l1, l2, q⟩ => ?_))⟩))
 ·rintro v H' w M' k' am' av ⟨z, rfl, l1, l2, r⟩
  cases av
  exact ⟨z, rfl, l1, l2, k _ _ _ _ k' am' (.str _) r⟩
 ·subst e1
  obtain ⟨tk, rfl⟩ := (show ∃ t, u = Value.str z t from rv)
  exact formatField_str (fun t' tk' => ⟨l2, joinParts_nil ⟨.str _, H1, (I1.tok _).tok _, ⟨_, rfl⟩, q⟩ l2⟩) l1
theorem lN {x : Str} {C : Addr} {pos : Pos} (hg : Gl X x) (hm : X.mg x = some (.ref C)) (hd : (x == ("__debug__" : Str)) = false := by decide) : E3 X (.Name x pos) (vC (.ref C)) := i5 hg hm (y := .ref C) rfl (fun _ _ => .ref C) hd
end
end L3
set_option Elab.async false
set_option compiler.extract_closed false
set_option bootstrap.genMatcherCode false
set_option linter.all false
set_option maxRecDepth 100000
set_option maxHeartbeats 4000000
namespace HT
open PySem PySem.Spec PyProof.Rows
section
variable {prog : Program} {w : World} {A : Around} {E : Value → Shared → Prop} {s : Shared}
theorem getItem_tuple_all {t sl : Addr} {items : Array Value} {vl vu : Value} {lo hi : Option Int} {Q : Value → Shared → Prop} (ht : IsTup s.heap t items) (hs : s.heap.IsSliceOf sl vl vu .none) (pl : IsPart vl lo) (pu : IsPart vu hi)
  (hw : sIx items.size 0 lo = 0 ∧ sIx items.size items.size hi = items.size) (h : Q (.ref t) s) : wpAny (model prog w) A (getItem (.ref t) (.ref sl)) Q E s := by
 obtain ⟨os, hos, hcs, hds⟩ := id hs
 have hTs : s.TypeIs (.ref sl) "slice" := ⟨os, hos, hcs⟩
 unfold getItem
 try with_reducible refine wpAny_holding ?_
 first | refine wpAny_bind (wpAny_pure ?_) | skip
 refine wpAny_bind (wpAny_sequenceKey ht.typeIs (by decide) ?_)
 refine wpAny_bind (wpAny_callSpecial?_slot (name := Str.ofString "__getitem__") ht.typeIs PyProof.Rows.slot_tuple_getitem
  (wpAny_call_entry PyProof.Rows.slot_tuple_getitem ht.typeIs entry_tuple_getitem ?_ (args_tuple_getitem _ _)))
 show wpAny _ _ (Builtin.Tuple.tupleItemsOf (.ref t) >>= _) _ _ s
 refine wpAny_bind (tupleItemsOf_ ht ?_)
 refine wpAny_bind (wpAny_typeOf hTs ?_)
 rw [if_pos (by decide)]
 refine wpAny_bind (AQ hs pl pu ?_)
 show wpAny _ _ (if (((sIx items.size 0 lo : Nat) : Int) == 0 && (1 : Int) == 1 && (sIx items.size items.size hi - sIx items.size 0 lo) == items.size) = true then _ else _) _ _ s
 rw [if_pos (by rw [hw.1, hw.2]; simp)]
 first
  | exact wpAny_pure ⟨_, rfl, wpAny_pure h⟩
  | exact wpAny_bind (wpAny_rule (wpAny_pure ⟨_, rfl, wpAny_pure h⟩))
  | exact wpAny_bind (wpAny_pure (wpAny_pure ⟨_, rfl, wpAny_pure h⟩))
  | exact wpAny_bind (wpAny_rule (wpAny_bind (wpAny_pure (wpAny_pure ⟨_, rfl, wpAny_pure h⟩))))
  | (refine wpAny_bind ?_
     unfold Builtin.Tuple.tupleIsExact
     refine wpAny_bind (wpAny_typeOf ht.typeIs ?_)
     refine wpAny_pure ?_
     rw [if_pos (by decide)]
     exact wpAny_bind (wpAny_rule (wpAny_pure ⟨_, rfl, wpAny_pure h⟩)))
end
end HT
namespace HT
open PySem PySem.Spec PyProof.Rows
section
variable {prog : Program} {w : World} {A : Around} {E : Value → Shared → Prop} {s : Shared}
end
end HT
namespace L2
open PySem PySem.Spec PyProof.Rows
section
variable {X : Cx}
theorem W6 : lV X (fun x lo hi H Q => ∃ z : Str, x = .str z ∧ z.length ≤ sizeLine ∧ Q (.str (Txt.slice z lo hi)) H) := by
 intro pins s σ H x v vl vu lo hi sl Q I rx hs pl pu h
 obtain ⟨z, rfl, hz, q⟩ := h
 obtain ⟨t, rfl⟩ := (show ∃ t, v = Value.str z t from rx)
 have fin : ∀ (l u : Option (Int × Tok)), l.map (·.1) = lo → u.map (·.1) = hi → vl = partValue l → vu = partValue u → wpAny (model X.prog X.w) X.A (getItem (.str z t) (.ref sl)) (EP X pins σ Q) X.xe s := by
  rintro l u rfl rfl rfl rfl
  obtain ⟨o, ho, hc, hd⟩ := hs
  exact wpAny_getItem_str_slice (l := l) (u := u) (st := none) ⟨o, ho, hc, hd⟩ rfl (post_val_or_str ⟨Nat.le_trans (Txt.slice_le z _ _) hz, fun t' k => ⟨.str _, H, I.tok _, ⟨_, rfl⟩, q⟩⟩)
 refine ⟨"str", _, PySem.F.slot_str_getitem.lookup, typeIs_str _ _ _, ?_⟩
 cases pl with
 | none =>
  cases pu with
  | none => exact fin none none rfl rfl rfl rfl
  | int j tj => exact fin none (some (j, tj)) rfl rfl rfl rfl
 | int i ti =>
  cases pu with
  | none => exact fin (some (i, ti)) none rfl rfl rfl rfl
  | int j tj => exact fin (some (i, ti)) (some (j, tj)) rfl rfl rfl rfl
theorem W7 : lV X (fun x lo hi H Q => ∃ a xs, x = .ref a ∧ bV X.K H a xs ∧ (HT.sIx xs.length 0 lo = 0 ∧ HT.sIx xs.length xs.length hi = xs.length) ∧ Q (.ref a) H) := by
 intro pins s σ H x v vl vu lo hi sl Q I rx hs pl pu h
 obtain ⟨a, xs, rfl, hx, hw, q⟩ := h
 cases rx
 obtain ⟨its, r, ht, hz⟩ := I.tuple hx
 have hlen : its.toArray.size = xs.length := by rw [List.size_toArray]; exact r.length.symm
 refine ⟨"tuple", _, PyProof.Rows.slot_tuple_getitem.lookup, ht.typeIs, ?_⟩
 exact HT.getItem_tuple_all ht hs pl pu (by rw [hlen]; exact hw) ⟨.ref a, H, I, rfl, q⟩
end
end L2
namespace L3
open PySem PySem.Spec PyProof.Rows L2
section
variable {X : Cx}
def pK : W → Option Int → Option Int → Mm → K3 → Prop
 | .str z, lo, hi, M, R => z.length ≤ sizeLine ∧ R (.str (Txt.slice z lo hi)) M
 | .tup ws, lo, hi, M, R => R (.tup (b8 ws lo hi)) M
 | _, _, _, _, _ => False
theorem W8 {ws : List W} {lo hi : Option Int} (h : HT.sIx ws.length 0 lo = 0 ∧ HT.sIx ws.length ws.length hi = ws.length) : b8 ws lo hi = ws := by
 unfold b8
 rw [h.1, h.2]; simp
theorem W9 : lV X (CI X.K pK) := by
 rintro pins s σ H x v vl vu lo hi sl Q I rx hs pl pu ⟨wx, M, R, am, ax, h, k⟩
 cases ax <;> first | exact (show False from h).elim | skip
 case str z => exact W6 pins s σ H _ v vl vu lo hi sl Q I rx hs pl pu ⟨z, rfl, h.1, k.at am (.str _) h.2⟩
 case tup a xs ws e q =>
  by_cases hw : HT.sIx ws.length 0 lo = 0 ∧ HT.sIx ws.length ws.length hi = ws.length
  ·have h' : R (.tup (b8 ws lo hi)) M := h
   rw [W8 hw] at h'
   exact W7 pins s σ H _ v vl vu lo hi sl Q I rx hs pl pu ⟨a, xs, rfl, bV.of e, by rw [q.length]; exact hw, k.at am (.tup e q) h'⟩
  ·exact AW pins s σ H _ v vl vu lo hi sl Q I rx hs pl pu ⟨a, xs, rfl, bV.of e, by rw [q.length]; exact hw, fun p hp => k9 am k hp (oQ q) h⟩
variable {a : Expr} {ta : aR} {pos : Pos}
def jZ (ta : aR) (tl th : lA) : aR := fun τ M R => ta τ M fun x M1 => tl τ M1 fun l M2 => th τ M2 fun u M3 => pK x l u M3 R
theorem nR {lo hi : Option Expr} {tl th : lA} {p2 : Pos} (he : E3 X a ta) (hl : PO X lo (nB X.K tl)) (hu : PO X hi (nB X.K th)) : E3 X (.Subscript a (.Slice lo hi none p2) pos) (jZ ta tl th) :=
 (AR W9 he hl hu).weak fun σ H Q ⟨τ, M, R, as, am, h, k⟩ => ⟨τ, M, _, as, am, h, fun x H1 wx M1 k1 am1 ax h1 => ⟨τ, M1, _, as.kp am k1, am1, h1, fun l H2 M2 k2 am2 h2 => ⟨τ, M2, _, (as.kp am k1).kp am1 k2, am2, h2, fun u H3 M3 k3 am3 h3 =>
  ⟨wx, M3, R, am3, (ax.kp am1 k2).kp am2 k3, h3, k.kp ((k1.trans k2).trans k3)⟩⟩⟩⟩
end
end L3
set_option Elab.async false
set_option compiler.extract_closed false
set_option bootstrap.genMatcherCode false
set_option linter.all false
set_option maxRecDepth 100000
set_option maxHeartbeats 4000000
namespace L2
open PySem PySem.Spec PyProof.Rows
section
variable {M : Model} {A : Around} {E : Value → Shared → Prop} {s : Shared}
def nS (B : Heap) (l : List Env) (ea : Addr) (cls a0 fl : Value) (h : Heap) : Prop := B.StaysIn h ∧ B.get? ea = none ∧ h.FunFrames B l ∧ h.TracedAtW B ea cls a0 fl
theorem nS.held {B : Heap} {l : List Env} {ea L : Addr} {cls a0 : Value} {h : Heap} (f : Heap.HeldW B l ea cls a0 L h) : nS B l ea cls a0 (rawInt L) h := ⟨f.1, f.2.1, f.2.2.1, f.2.2.2⟩
theorem XA {B : Heap} {env : Env} {outer : List Env} {L ea : Addr} {cls a0 fl : Value} {Q : Unit → Shared → Prop} (hfr : A.frames = some (env :: outer)) (hf : env.frame = some L) (x : nS B (env :: outer) ea cls a0 fl s.heap)
  (hQ : ∀ h', Heap.FlyingW B outer ea cls a0 h' → s.heap.UpToSlots h' → Q () { s with heap := h' }) : wpAny M A (leaving env (.ref ea)) Q E s := by
 obtain ⟨x1, x2, x3, x4⟩ := x
 by_cases hL : fl = rawInt L
 ·subst hL
  unfold leaving
  refine wpAny_bind (wpAny_noteFrame_againW hf x4 (wpAny_landsW ⟨x1, x2, x3, x4⟩ fun h' f us => hQ h' ⟨f.1, f.2.1, f.2.2.1.2.2, f.2.2.2⟩ us))
 ·obtain ⟨oe, vs, T, oT, ts, q1, ⟨q2, q3⟩, q4, q5, q6, q7, q8, q9, q10⟩ := x4
  subst q2
  have oth : ∀ b, b ≠ T → (s.heap.update T (Obj.mapFields (·.setIfInBounds 3 Value.none))).get? b = s.heap.get? b := fun b hb => Heap.get?_update_other _ _ (Ne.symm hb)
  have rec' : ∀ b o, s.heap.get? b = some o → (∀ v, o.data ≠ .fields v) → b ≠ T := fun b o e nf z => by
   rw [z, q8] at e; cases e; exact nf ts q9
  unfold leaving noteFrame
  simp only [hf]
  refine wpAny_bind (wpAny_bind (wpAny_field q1 q4 q5 ?_))
  rw [if_pos (by simp)]
  refine wpAny_bind (wpAny_field q8 q9 q10 ?_)
  rw [if_neg (fun z => hL (beq_iff_eq.mp z))]
  refine wpAny_bind (wpAny_setField q8 q9 (Array.getElem?_eq_some_iff.mp q10).1 ?_)
  refine wpAny_newEntryW hfr (x3.of_keeps fun b o e nf => ⟨o, (oth b (rec' b o e nf)).trans e, rfl⟩) hf ((oth ea (Ne.symm q7)).trans q1) (fun b o e => (oth b fun z => by rw [z, q6] at e; cases e).trans (x1 b o e)) x2 q4 (Array.getElem?_eq_some_iff.mp q5).1 q3 ?_
  rintro h' ⟨k1, ⟨_, _, k2⟩, k3, k4⟩
  exact hQ h' ⟨k1, x2, k2, k3⟩ fun b o e nf => k4 b o ((oth b (rec' b o e nf)).trans e) nf
theorem XB {α : Type} {B : Heap} {l : List Env} {ea : Addr} {cls a0 fl : Value} {env : Env} {what : String} {Q : α → Shared → Prop} (x : nS B l ea cls a0 fl s.heap)
  (h : ∀ fl' h', nS B l ea cls a0 fl' h' → s.heap.UpToSlots h' → E (.ref ea) { s with heap := h' }) : wpAny M A (PySem.passOn what (.ref ea) env : Sem α) Q E s := by
 obtain ⟨x1, x2, x3, oe, vs, T, oT, ts, q1, q2, q4, q5, q6, q7, q8, q9, q10⟩ := x
 have hz : 3 < ts.size := (Array.getElem?_eq_some_iff.mp q10).1
 unfold PySem.passOn
 refine wpAny_bind (wpAny_field q1 q4 q5 ?_)
 rw [if_neg (by simp)]
 have oth : ∀ v b, b ≠ T → (s.heap.update T (Obj.mapFields (·.setIfInBounds 3 v))).get? b = s.heap.get? b := fun v b hb => Heap.get?_update_other _ _ (Ne.symm hb)
 have rec' : ∀ b o, s.heap.get? b = some o → (∀ v, o.data ≠ .fields v) → b ≠ T := fun b o e nf z => by
  rw [z, q8] at e; cases e; exact nf ts q9
 have fin : wpAny M A (do setFlight (.ref ea) env.frame; throw (.ref ea) : Sem α) Q E s := by
  unfold setFlight
  refine wpAny_bind (wpAny_bind (wpAny_field q1 q4 q5 ?_))
  rw [if_pos (by simp)]
  refine wpAny_setField q8 q9 hz (wpAny_throw (h (env.frame.elim Value.none fun f => rawInt f) _ ⟨fun b o e => (oth _ b fun z => by rw [z, q6] at e; cases e).trans (x1 b o e), x2, x3.of_keeps fun b o e nf => ⟨o, (oth _ b (rec' b o e nf)).trans e, rfl⟩, ?_⟩ fun b o e nf => ⟨o.slots, (oth _ b (rec' b o e nf)).trans e⟩))
  exact ⟨oe, vs, T, _, _, (oth _ ea (Ne.symm q7)).trans q1, q2, q4, q5, q6, q7, Heap.get?_update_self _ q8 (Obj.isFreed_of_fields (Obj.data_mapFields q9 _)), Obj.data_mapFields q9 _, by simp [hz]⟩
 first
  | exact fin
  | exact wpAny_bind (wpAny_pure fin)
end
end L2
set_option Elab.async false
set_option compiler.extract_closed false
set_option bootstrap.genMatcherCode false
set_option linter.all false
set_option maxRecDepth 100000
set_option maxHeartbeats 4000000
namespace L2
open PySem PySem.Spec PyProof.Rows
section
variable {X : Cx} {sc : Scope} {N' : List Str} {B : eR} {E1 E2 : XK}
def XC (Bh : Heap) (l : List Env) (fp : List Addr) (H : Hp) (h : Heap) : Prop := ∀ b o, h.get? b = some o → b ∉ bP l → b ∉ fp → ∃ o', Bh.get? b = some o' ∧ (H b = none → o' = o)
def tQ (X : Cx) (B : eR) (E : XK) : Value → Shared → Prop := fun e s' => ∃ (ea : Addr) (cls a0 : Value) (Bh : Heap) (H' : Hp), e = .ref ea ∧ s'.os = B.s.os ∧ AllBare s'.gens ∧ Heap.FlyingW Bh X.stack ea cls a0 s'.heap ∧ bZ X.prog X.w H' Bh ∧
 Un (bP X.stack) B.fp B.H H' B.s.heap s'.heap ∧ XC Bh X.stack B.fp B.H B.s.heap ∧ H' B.C = none ∧ (∃ m, s'.heap.Ns B.C m) ∧ E cls none H'
abbrev tR (X : Cx) (sc : Scope) (N' : List Str) (B : eR) (E : XK) : Cx := (bQ X sc N' B).wish (tQ X B E)
theorem XD (hE : ∀ c d H', E1 c d H' → E2 c d H') : mR (bD X.prog X.w) (tR X sc N' B E2) E1 := fun pins σ H1 s1 e s' I h => by
 obtain ⟨os, bare, ea, cls, a0, Bh, H', rfl, fl, hok, un, cov, he⟩ := h
 have I' := I.call' os un (hok.kept fl.1) bare (fun b z => absurd z (by simp))
 refine ⟨ea, cls, a0, Bh, H', rfl, I'.os, I'.bare, fl, hok, I'.base, fun b o e hb hf => ?_, I'.free, ?_, hE _ _ _ he⟩
 ·obtain ⟨o1, e1⟩ := I.base.there b o e hf
  obtain ⟨o', e2, e3⟩ := cov b o1 e1 hb
  refine ⟨o', e2, fun n => ?_⟩
  have e4 := I.base.keep b o e n hb hf
  rw [e1] at e4; cases e4
  exact e3 (I.base.free b o e n hf)
 ·obtain ⟨m, hn, _⟩ := I'.loc
  exact ⟨m, hn⟩
end
section
variable {prog : Program} {w : World} {A : Around} {R : Result → Shared → Prop} {s : Shared}
theorem XE {elt target iter : Expr} {ifs : List Expr} {scope : Scope} {pos : Pos} {it acc : Value} {env : Env} {EX : Value → Shared → Prop} (I : Nat → Shared → Prop)
  (turn : ∀ n s, I n s → wpAny (model prog w) A (pyNext it) (fun r s₁ => match r with
   | none => R (.ok .next) s₁
   | some v => wpAny (model prog w) A (letOwnedTupleGo target it v) (fun _ s₀ => wpAny (model prog w) A (assign target env v) (fun _ s₂ =>
     wpAny (model prog w) A (forIn ifs true fun c r => if r = true then do let ok ← isTrue c env (eval c env); pure (ForInStep.yield ok) else pure (ForInStep.yield r)) (fun ok s₃ =>
      if ok = true then wpAny (model prog w) A (eval elt env) (fun x s₄ =>
       wpAny (model prog w) A (call (.builtin "list.append") [acc, x]) (fun _ s₅ => ∃ m, m < n ∧ I m s₅) (fun _ _ => False) s₄) EX s₃
      else ∃ m, m < n ∧ I m s₃) (fun _ _ => False) s₂) (fun _ _ => False) s₀) (fun _ _ => False) s₁) (fun _ _ => False) s)
  (hx : ∀ x s, EX x s → notedBy (model prog w) A env (fun x s' => R (.error x) s') x s) (n : Nat) (h : I n s) :
  codeAny (model prog w) A (.compLoop (.ListComp elt [⟨target, iter, ifs, 0⟩] scope pos) 0 it acc env) R s := by
 refine codeAny_loop rfl I (fun n s hI => ?_) n h
 show wpAny _ A ((compTurn (.ListComp elt [⟨target, iter, ifs, 0⟩] scope pos) 0 it acc env).onRaise (fun x => do noteFrame x env; theTreesLotGoes x)) _ _ s
 refine wpAny_noted ?_
 rw [compTurn_list]
 refine wpAny_bind (wpAny_standAt (wpAny_bind (wpAny_mono (turn n s hI) (fun r s₁ h₁ => ?_) fun _ _ h' => h'.elim)))
 cases r with
 | none => exact wpAny_pure h₁
 | some v =>
  refine wpAny_bind (wpAny_mono h₁ (fun _ s₀ h₀ => ?_) fun _ _ h' => h'.elim)
  refine wpAny_bind (wpAny_mono h₀ (fun _ s₂ h₂ => wpAny_bind (wpAny_mono h₂ (fun ok s₃ h₃ => ?_) fun _ _ h' => h'.elim)) fun _ _ h' => h'.elim)
  cases ok with
  | false => exact wpAny_pure ⟨rfl, h₃⟩
  | true =>
   exact wpAny_bind (wpAny_bind (wpAny_mono h₃ (fun x s₄ h₄ => wpAny_bind (wpAny_mono h₄ (fun _ s₅ h₅ => wpAny_pure (wpAny_pure ⟨rfl, h₅⟩)) fun _ _ h' => h'.elim)) fun x s' h' => hx x s' h'))
end
end L2
set_option Elab.async false
set_option compiler.extract_closed false
set_option bootstrap.genMatcherCode false
set_option linter.all false
set_option maxRecDepth 100000
set_option maxHeartbeats 4000000
namespace L2
open PySem PySem.Spec PyProof.Rows
theorem FD {h h' B : Heap} {C : Addr} (sb : Heap.SameBut C h h') : ∀ {l : List Env}, h.FunFrames B l → C ∉ bP l → h'.FunFrames B l
 | [], _, _ => trivial
 | env :: r, ⟨k, ⟨L, o, e1, e2, e3, e4⟩, q⟩, hC => by
  have hm : bP (env :: r) = L :: bP r := by unfold bP; rw [List.filterMap_cons, e1]
  rw [hm] at hC
  exact ⟨k, ⟨L, o, e1, e2, (sb.2 L fun z => hC (by rw [z]; exact List.mem_cons_self)).trans e3, e4⟩, FD sb q fun z => hC (List.mem_cons_of_mem _ z)⟩
theorem XF {B h h1 h2 : Heap} {l : List Env} {H H' : Hp} (u : Un (bP l) [] H H' h h1) (cv : mG B l H h) (fr : h1.FunFrames B l) (st : B.StaysIn h2)
  (us : ∀ b o, b ∈ bP l → h1.get? b = some o → (∀ vs, o.data ≠ .fields vs) → ∃ sl, h2.get? b = some { o with slots := sl }) : Un (bP l) [] H H' h h2 where
 keep := fun b o e n hb _ => by
  obtain ⟨o', e1, e2⟩ := cv b o e hb
  rw [← e2 n]; exact st b o' e1
 slot := fun b o e n hb _ => by
  obtain ⟨sl, e1⟩ := u.slot b o e n hb (by simp)
  obtain ⟨_, o1, e2, nf⟩ := fr.mem hb
  rw [e1] at e2; cases e2
  obtain ⟨sl', e3⟩ := us b _ hb e1 nf
  exact ⟨sl', e3⟩
 free := u.free
 there := fun b o e _ => by
  by_cases hb : b ∈ bP l
  ·obtain ⟨_, o1, e2, nf⟩ := fr.mem hb
   obtain ⟨sl', e3⟩ := us b o1 hb e2 nf
   exact ⟨_, e3⟩
  ·obtain ⟨o', e1, _⟩ := cv b o e hb
   exact ⟨o', st b o' e1⟩
 tups := u.tups
 frzs := u.frzs
 tbls := u.tbls
section
variable {P : Program} {w : World} {K : PySem.W.Frag} {mg : Str → Option Value} {base : Heap} {N : List Str} {qual : Str} {scope : Scope} {f : Addr} {cd : Value} {A : Around} {outer : List Env} {s0 : Shared} {H0 : Hp} {E : XK} {X : Cx}
 {pins : List (Addr × Obj)} {σ : St} {H : Hp} {s : Shared} {sc : Scope} {cl : List (Str × Addr)} {C : Addr} {fp : List Addr}
theorem XG (hX : X = aW (bD P w) P w K mg base N qual scope f cd A outer s0 H0 E) (I : Inv X pins σ H s) (hf : ∀ b ∈ fp, fQ X pins H b) (hC : s.heap.objs.size ≤ C) {x : Value} {s' : Shared} (a : tQ X ⟨cl, s, H, fp, C⟩ E x s') {acc : Value} {Q : Value → Shared → Prop} {use : Option (Value → Sem Unit)} :
  notedBy (model X.prog X.w) X.A (compEnvC sc cl C X.env) (fun x s2 => compPost (model X.prog X.w) X.A X.xe use Q acc C (.error x) s2) x s' := by
 obtain ⟨ea, cls, a0, Bh, H', rfl, os, bare, fl, hok, un, cov, hCn, ⟨m, hn⟩, he⟩ := a
 have I' : Inv X pins σ H' s' := I.call' (ch := fp) os un (hok.kept fl.1) bare fun b hb => ⟨(hf b hb).2.2.2.1, (hf b hb).2.1, (hf b hb).2.2.2.2.1, (hf b hb).2.2.2.2.2⟩
 have hfrm : X.env.frame = some X.env.locals := by subst hX; rfl
 have hstk : X.stack = X.env :: outer := by subst hX; rfl
 have hCf : C ∉ bP X.stack := fun z => by
  obtain ⟨_, o, e, _⟩ := I.stack.mem z
  exact absurd (Nat.lt_of_lt_of_le (Heap.lt_size e) hC) (Nat.lt_irrefl _)
 have hst : (PySem.W.hideAll Bh [C]).StaysIn Bh := fun b o e => PySem.W.of_hideAll _ e
 have hne : ∀ b o, (PySem.W.hideAll Bh [C]).get? b = some o → b ≠ C := fun b o e z => by
  rw [z, PySem.W.hideAll_none [C] (by simp)] at e; cases e
 have hok2 : bZ P w H' (PySem.W.hideAll Bh [C]) := fun b o e => by
  have hh : bZ P w H' Bh := by subst hX; exact hok
  refine (hh b o e).stay (fun c u hc q => PySem.W.hideAll_get _ q ?_) (fun _ q => q) fun _ _ q => q
  intro z
  rw [List.mem_singleton] at z
  subst z
  rcases hc with z | z
  ·rw [← z, hCn] at e; cases e
  ·rw [hCn] at z; cases z
 show wpAny _ _ (noteFrame (.ref ea) X.env) _ _ s'
 rw [hstk] at fl
 refine wpAny_looks_onW (by rw [← hstk]; exact I.ok.frames) hfrm fl fun h2 held us => ?_
 have hn2 := us.ns hn
 have err : ∃ m, (h2.Ns C m) ∧ ∀ h', Heap.SameBut C h2 h' → ∀ cenv : Env, cenv.locals = C → wpAny (model X.prog X.w) X.A (PySem.passOn "comprehension.variables-let-go" (.ref ea) cenv : Sem Value) (fun _ _ => False) X.xe { s' with heap := h' } := by
  refine ⟨m, hn2, fun h3 sb cenv _ => ?_⟩
  obtain ⟨k1, k2, k3, oe, vs, T, oT, ts, q1, q2, q4, q5, q6, q7, q8, q9, q10⟩ := held
  obtain ⟨oC, es, ep, c1, c2, _⟩ := hn2
  have neE : ea ≠ C := fun z => by rw [z, c1] at q1; cases q1; rw [c2] at q4; cases q4
  have neT : T ≠ C := fun z => by rw [z, c1] at q8; cases q8; rw [c2] at q9; cases q9
  have fa : nS (PySem.W.hideAll Bh [C]) (X.env :: outer) ea cls a0 (rawInt X.env.locals) h3 := by
   refine ⟨fun b o e => (sb.2 b (hne b o e)).trans (k1 b o (hst b o e)), PySem.W.fresh_of_stays hst k2, FD sb (PySem.W.funFrames_base hst k3) (by rw [← hstk]; exact hCf), oe, vs, T, oT, ts, (sb.2 ea neE).trans q1, q2, q4, q5, PySem.W.fresh_of_stays hst q6, q7, (sb.2 T neT).trans q8, q9, q10⟩
  refine XB (s := { s' with heap := h3 }) fa fun fl' h4 f4 us4 => ?_
  have cv : mG (PySem.W.hideAll Bh [C]) outer H0 s0.heap := fun b o e hb => by
   have hfs : X.fs = bP outer := by subst hX; rfl
   have hex : b ∉ X.ex := by subst hX; simp [aW]
   have e' : X.s₀.heap.get? b = some o := by subst hX; exact e
   have hlt := Heap.lt_size e'
   obtain ⟨o1, e1⟩ := I.base.there b o e' hex
   have hbs : b ∉ bP X.stack := fun z => by
    rcases List.mem_cons.mp (I.stkSub b z) with z | z
    ·exact absurd (Nat.lt_of_lt_of_le hlt (by rw [z]; exact I.ok.above)) (Nat.lt_irrefl _)
    ·exact hb (hfs ▸ z)
   have hbf : b ∉ fp := fun z => by
    rcases (hf b z).2.2.2.1 with q | q
    ·exact hex q
    ·exact absurd (Nat.lt_of_lt_of_le hlt q) (Nat.lt_irrefl _)
   obtain ⟨o', e2, e3⟩ := cov b o1 e1 hbs hbf
   have hbC : b ≠ C := fun z => absurd (Nat.lt_of_lt_of_le (Heap.lt_size e1) (by rw [z]; exact hC)) (Nat.lt_irrefl _)
   refine ⟨o', PySem.W.hideAll_get _ e2 (by simpa using hbC), fun n => ?_⟩
   have n' : X.H₀ b = none := by subst hX; exact n
   have e4 := I.base.keep b o e' n' (by rw [hfs]; exact hb) hex
   rw [e1] at e4; cases e4
   exact e3 (I.base.free b o e' n' hex)
  have un1 : Un (bP outer) [] H0 H' s0.heap s'.heap := by have z := I'.base; subst hX; exact z
  have fr1 : s'.heap.FunFrames (PySem.W.hideAll Bh [C]) outer := (PySem.W.funFrames_base hst fl.2.2.1).2.2
  have hos : s'.os = s0.os := by have z := I'.os; subst hX; exact z
  have inS : ∀ b, b ∈ bP outer → b ≠ C := fun b hb z => hCf (by rw [← z, hstk]; unfold bP; rw [List.filterMap_cons, hfrm]; exact List.mem_cons_of_mem _ hb)
  subst hX
  refine XA (s := { s' with heap := h4 }) I.ok.frames rfl f4 fun h5 f5 us5 => ?_
  refine ⟨hos, I'.bare, ea, cls, a0, _, H', rfl, f5, hok2, XF un1 cv fr1 f5.1 (fun b o hb e nf => ?_), cv, he⟩
  obtain ⟨sl2, e2⟩ := us b o e nf
  obtain ⟨sl4, e4⟩ := us4 b _ ((sb.2 b (inS b hb)).trans e2) nf
  obtain ⟨sl5, e5⟩ := us5 b _ e4 nf
  exact ⟨sl5, e5⟩
 cases use <;> exact err
end
end L2
set_option Elab.async false
set_option compiler.extract_closed false
set_option bootstrap.genMatcherCode false
set_option linter.all false
set_option maxRecDepth 100000
set_option maxHeartbeats 4000000
namespace L2
open PySem PySem.Spec PyProof.Rows
section
variable {X : Cx} {sc : Scope} {N' : List Str} {js : List (Option Nat)} {tg iter elt : Expr} {ifs : List Expr} {pos : Pos} {wi : TI} {g : eR → TG} {tt : eR → TT} {te : eR → TE}
theorem XH {E2 : XK} (S : j5 N' sc X.env.scope) (hj : dO N' X.N sc js N' = true) (hc : X.calm = true)
  (hg : ∀ B, PG (bQ X sc N' B) tg (g B)) (ht : ∀ B, hZ (bQ X sc N' B) ifs (tt B)) (he : ∀ B, PE (tR X sc N' B E2) elt (te B))
  {pins : List (Addr × Obj)} {s : Shared} {σ : St} {J : It} {H : Hp} {it : Addr} {fp : List Addr} {tn : Nat → Heap → Prop} (I : Inv X pins σ H s) (T : kQ X.prog X.w X.K tg J fp it tn) (st : tn 0 s.heap) (hf : ∀ b ∈ fp, fQ X pins H b)
  {Q : VK} (hw : ∀ p, H p = none → ∀ B : eR, rS J (g B) (tt B) (te B) p (cmap js σ) H Q) {E : Value → Shared → Prop} {RR : Value → Addr → Result → Shared → Prop}
  (hRR : ∀ p C H' s' m, Inv X pins σ H' s' → fQ X pins H' C → s'.heap.Ns C m → Q (.ref p) H' → RR (.ref p) C (.ok .next) s')
  (hRX : ∀ p C x s', s.heap.objs.size ≤ C → tQ X ⟨dH X.env.cells sc.names [], s, H, fp, C⟩ E2 x s' → notedBy (model X.prog X.w) X.A (compEnvC sc (dH X.env.cells sc.names []) C X.env) (fun x s2 => RR (.ref p) C (.error x) s2) x s') :
  wpAny (model X.prog X.w) X.A (newList []) (fun acc s₃ => wpAny (model X.prog X.w) X.A (newFunctionEnv sc X.env.globals (dH X.env.cells sc.names []) [] X.env.qual none .none (some X.env)) (fun cenv s₄ =>
   codeAny (model X.prog X.w) X.A (.compStart (.ListComp elt [⟨tg, iter, ifs, 0⟩] sc pos) 0 (.ref it) acc { cenv with scope := relabel sc X.env }) (RR acc cenv.locals) s₄) E s₃) E s := by
 refine wpAny_newObj_type (wpAny_newFunctionEnv S.nocell (by intro y hy; simp at hy) (fun h₁ hns₁ hsb₁ => ?_) S.kind)
 dsimp only at hns₁ hsb₁ ⊢
 generalize hH2 : s.heap.push { cls := .type "list", dict := none, data := .seq ([] : List Value).toArray } = H2 at hns₁ hsb₁ ⊢
 have hC : H2.objs.size = s.heap.objs.size + 1 := by rw [← hH2, Heap.size_push]
 have hDC : s.heap.objs.size ≠ H2.objs.size := by rw [hC]; exact Nat.ne_of_lt (Nat.lt_succ_self _)
 have hCle : s.heap.objs.size ≤ H2.objs.size := by rw [hC]; exact Nat.le_succ _
 have below : ∀ b, b < s.heap.objs.size → b ≠ H2.objs.size := fun b hb => by rw [hC]; exact Nat.ne_of_lt (Nat.lt_succ_of_lt hb)
 have old : ∀ b o, s.heap.get? b = some o → h₁.get? b = some o := fun b o e => hsb₁.extBut b o (below b (Heap.lt_size e)) (Heap.get?_push_of_some _ (hH2 ▸ Heap.get?_push_of_some _ e))
 have hacc : h₁.get? s.heap.objs.size = some { cls := .type "list", dict := none, data := .seq ([] : List Value).toArray } := hsb₁.extBut _ _ hDC (Heap.get?_push_of_some _ (hH2 ▸ Heap.get?_push_size _ rfl))
 have hp0 : H s.heap.objs.size = none := I.hok.fresh (Nat.le_refl _)
 have newO : cL X.prog X.w (aU H s.heap.objs.size (.lst [])) h₁ s.heap.objs.size (.lst []) := ⟨Nat.zero_le _, [], _, .nil, hacc⟩
 have hok1 : bZ X.prog X.w (aU H s.heap.objs.size (.lst [])) h₁ := I.hok.laid old (Nat.le_refl _) newO
 have un1 : Un (bP X.stack) fp H (aU H s.heap.objs.size (.lst [])) s.heap h₁ := Un.laid old (Nat.le_refl _) hp0
 have fC : (aU H s.heap.objs.size (.lst [])) H2.objs.size = none := by rw [bU (Ne.symm hDC)]; exact I.hok.fresh hCle
 have IB := BI (tk := s.toks + ([] : List (Str × Value)).length) S hj I hf (fun b hb => let ⟨o, e, _⟩ := T.obj 0 _ st b hb; ⟨o, e⟩) hCle old un1 hok1 hns₁ fC
 obtain ⟨W, ⟨m0, w0⟩, turn⟩ := hw _ hp0 ⟨dH X.env.cells sc.names [], s, H, fp, H2.objs.size⟩
 have st1 : tn 0 h₁ := T.keep _ _ _ st fun b _ o e => old b o e
 have loop : ∀ s₃ : Shared, s₃ = { s with heap := h₁, toks := s.toks + ([] : List (Str × Value)).length } →
   codeAny (model X.prog X.w) X.A (.compLoop (.ListComp elt [⟨tg, iter, ifs, 0⟩] sc pos) 0 (.ref it) (.ref s.heap.objs.size) (compEnvC sc (dH X.env.cells sc.names []) H2.objs.size X.env))
    (RR (.ref s.heap.objs.size) H2.objs.size) s₃ := by
  rintro s₃ rfl
  generalize hB : (⟨dH X.env.cells sc.names [], s, H, fp, H2.objs.size⟩ : eR) = B at turn w0 IB
  have eB : compEnvC sc (dH X.env.cells sc.names []) H2.objs.size X.env = (bQ X sc N' B).env := by subst hB; rfl
  have exB : (bQ X sc N' B).ex = fp := by subst hB; rfl
  rw [eB]
  have stat : ∀ {σ' : St} {H' : Hp} {s' : Shared}, Inv (bQ X sc N' B) [] σ' H' s' → (∀ b ∈ fp, H' b = none) → ∀ b ∈ fp, fQ (bQ X sc N' B) [] H' b := fun {σ' H' s'} J' hn b hb => by
   refine ⟨hn b hb, (J'.ok.exf b (by rw [exB]; exact hb)).1, J'.ok.exfs b (by rw [exB]; exact hb), .inl (by rw [exB]; exact hb), (J'.ok.exf b (by rw [exB]; exact hb)).2, fun p hp => absurd (show p ∈ ([] : List (Addr × Obj)) from hp) (by simp)⟩
  have fp0 : ∀ b ∈ fp, (aU H s.heap.objs.size (.lst [])) b = none := fun b hb => by
   obtain ⟨o, e, _⟩ := T.obj 0 _ st b hb
   rw [bU (Nat.ne_of_lt (Heap.lt_size e))]
   exact (hf b hb).1
  refine XE (EX := tQ X B E2) (fun n s' => ∃ i σ' acc H', Inv (bQ X sc N' B) [] σ' H' s' ∧ tn i s'.heap ∧ (∀ b ∈ fp, H' b = none) ∧ W i n σ' acc H') ?_ (fun x s' a => by subst hB; exact hRX _ _ _ _ hCle a) m0 ⟨0, _, [], _, IB, st1, fp0, w0⟩
  rintro n s3 ⟨i, σ3, acc, H3, I3, st3, fr3, w3⟩
  rcases turn i n σ3 acc H3 w3 with ⟨stop, qn⟩ | ⟨go, N, hN, step⟩
  ·refine aV (T.done (bQ X sc N' B) rfl rfl rfl hc i [] s3 σ3 H3 (fun _ _ => False) I3 (stat I3 fr3) st3 stop) fun r s4 ⟨hr, I4⟩ => ?_
   subst hr
   obtain ⟨m4, hn4, _⟩ := I4.loc
   have u4 : Un (bP X.stack) fp H H3 s.heap s4.heap := by have := I4.base; subst hB; exact this
   have o4 : s4.os = s.os := by have := I4.os; subst hB; exact this
   have c4 : (bQ X sc N' B).env.locals = H2.objs.size := by subst hB; rfl
   have hIX : Inv X pins σ H3 s4 := I.call' (ch := fp) o4 u4 I4.hok I4.bare fun b hb => ⟨(hf b hb).2.2.2.1, (hf b hb).2.1, (hf b hb).2.2.2.2.1, (hf b hb).2.2.2.2.2⟩
   exact hRR _ _ H3 s4 m4 hIX (I.fpOk hCle (by rw [← c4]; exact I4.free)) (by rw [← c4]; exact hn4) qn
  ·refine aV (T.item (bQ X sc N' B) rfl rfl rfl hc i [] s3 σ3 H3 (fun _ _ => False) I3 (stat I3 fr3) st3 go) fun r s4 ⟨u, hr, h4⟩ => ?_
   subst hr
   refine aV h4 fun _ s5 ⟨x, H5, I5, r5, y5, st5, fr5⟩ => ?_
   have I5' := I5.pinned (stat I5 fr5) (T.obj _ _ st5)
   refine aV (hg B _ s5 σ3 H5 x u _ I5' r5 (step x H5 y5)) fun _ s6 ⟨σ6, H6, I6, q6⟩ => ?_
   refine aV (ht B _ s6 σ6 H6 _ I6 q6) fun ok s7 ⟨H7, I7, q7⟩ => ?_
   have again : ∀ {H8 : Hp} {s8 : Shared} {acc' : List V}, Inv (bQ X sc N' B) ([] ++ mP fp s5.heap) σ6 H8 s8 → (∃ m', m' < n ∧ W (i + 1) m' σ6 acc' H8) → ∃ m, m < n ∧ ∃ i σ' acc H', Inv (bQ X sc N' B) [] σ' H' s8 ∧ tn i s8.heap ∧ (∀ b ∈ fp, H' b = none) ∧ W i m σ' acc H' :=
    fun {H8 s8 acc'} I8 ⟨m', hm, w8⟩ => by
     refine ⟨m', hm, i + 1, σ6, acc', H8, I8.unpinned, T.keep _ _ _ st5 fun b hb o e => (I8.pin (b, o) (List.mem_append_right _ (List.mem_append_right _ (mQ hb e)))).1, fun b hb => ?_, w8⟩
     obtain ⟨o, e, d⟩ := T.obj _ _ st5 b hb
     exact (I8.pin (b, o) (List.mem_append_right _ (List.mem_append_right _ (mQ hb e)))).2.1
   cases ok with
   | false =>
    rw [if_neg Bool.false_ne_true] at q7
    rw [if_neg Bool.false_ne_true]
    exact again I7 (hN _ _ _ q7)
   | true =>
    rw [if_pos rfl] at q7
    rw [if_pos rfl]
    refine aV (he B _ s7 σ6 H7 _ (I7.wish _) q7) fun y s8 ⟨z, H8, I8x, r8, hp8, hl8, q8⟩ => ?_
    have I8 := I8x.unwish
    exact aV (u1 _ s8 σ6 H8 (.ref s.heap.objs.size) [z] (.ref s.heap.objs.size) [y] (fun _ H9 => N σ6 (acc ++ [z]) H9) I8 rfl (.cons r8 .nil) ⟨_, acc, z, rfl, rfl, hp8, hl8, q8⟩) fun _ s9 ⟨_, H9, I9, _, q9⟩ => again I9 (hN _ _ _ q9)
 exact codeAny_compStart_list (loop _ rfl) (T.self _ 0 _ _ _ st1 (loop _ rfl))
theorem XI {P : Program} {w : World} {K : PySem.W.Frag} {mg : Str → Option Value} {base : Heap} {N : List Str} {qual : Str} {scope : Scope} {f : Addr} {cd : Value} {A : Around} {outer : List Env} {s0 : Shared} {H0 : Hp} {E : XK} (hX : X = aW (bD P w) P w K mg base N qual scope f cd A outer s0 H0 E) (N' : List Str) (js : List (Option Nat)) (hi : PI X tg iter wi)
  (hg : ∀ B, PG (bQ X sc N' B) tg (g B)) (ht : ∀ B, hZ (bQ X sc N' B) ifs (tt B)) (he : ∀ B, PE (tR X sc N' B E) elt (te B))
  (S0 : kW N' sc X.env.scope = true := by kernel_rfl) (hj : dO N' X.N sc js N' = true := by kernel_rfl) (hc : X.calm = true := by rfl) (hs : ∀ x, foldedSetIterable iter X.env x = pure x := by intro _; rfl) : PE X (.ListComp elt [⟨tg, iter, ifs, 0⟩] sc pos) (oG wi g tt te js) := by
 intro pins s σ H Q I h
 have S := j5.of S0
 rw [eval_ListComp]
 refine wpAny_comprehension_free (use := none) rfl hs (u2 (rR S I)) S.kind S.loc (aV (hi pins s σ H _ I h) fun xv s₁ h₁ => aV h₁ fun itv s₂ h₂ => ?_)
 obtain ⟨it, fp, tn, J, H2, e, I2, T, st2, f2, hw⟩ := h₂
 subst e
 refine XH (RR := fun acc C => compPost (model X.prog X.w) X.A X.xe none (EP X pins σ Q) acc C) S hj hc hg ht he I2 T st2 f2 hw ?_ fun p C x s' hC a => XG hX I2 f2 hC a
 intro p C H' s' m I' fC hn q
 refine ⟨m, hn, fun h' hs' => ⟨.ref p, H', ?_, rfl, q⟩⟩
 exact I'.turned (t' := s'.toks) (fun b o hb e => (hs'.2 b hb).trans e) fC.1 fC.2.1 fC.2.2.2.1 fC.2.2.2.2.1 fC.2.2.2.2.2
end
end L2
set_option Elab.async false
set_option compiler.extract_closed false
set_option bootstrap.genMatcherCode false
set_option linter.all false
set_option maxRecDepth 100000
set_option maxHeartbeats 4000000
namespace L3
open PySem PySem.Spec PyProof.Rows L2
def jD (K : PySem.W.Frag) (H0 : Hp) (M0 : Mm) (t : aR) : TE := fun σ H Q => ∃ τ M R, AS K H M σ τ ∧ AM K H M ∧ Kp H0 M0 H M ∧ t τ M R ∧ Up K H M R Q
section
variable {X : Cx}
theorem FE {H0 : Hp} {M0 : Mm} {e : Expr} {t : aR} (h : E3 X e t) : PE X e (jD X.K H0 M0 t) := h.weak fun σ H Q ⟨τ, M, R, as, am, _, q, k⟩ => ⟨τ, M, R, as, am, q, k⟩
theorem FF {H0 : Hp} {M0 : Mm} {e : Expr} {t : aR} (h : PE X e (jD X.K H0 M0 t)) : PE X e (jD X.K H0 M0 (cU t)) := h.weak fun σ H Q ⟨τ, M, R, as, am, k0, q, k⟩ => ⟨τ, M, _, as, am, k0, q, k.frz⟩
def kH (sp : bK) (ta : aR) (r0 : K3) : aR := fun τ M R => ta τ M fun wa M1 => sp [wa] M1 fun w M2 => (NM w ∧ R w M2) ∨ ((∃ n, w = .ty n) ∧ r0 w M2)
theorem xN {H0 : Hp} {M0 : Mm} {E : XK} {cl : String → Option Addr} {r0 : K3} {k : Nat} {g : Addr} {fd : FuncData} {ps : List Str} {sp : bK} {x : Str} {a : Expr} {ta : aR} {p pos : Pos} (hp : mR (bD X.prog X.w) X E)
  (hx : ∀ n C H' M', cl n = some C → Kp H0 M0 H' M' → AM X.K H' M' → r0 (.ty n) M' → E (.ref C) none H') (F : aS X.prog X.w X.K X.mg X.base (bD X.prog X.w) k g fd ps (fY X.K cl sp)) (hr : bA k X.A) (hg : Gl X x) (hm : X.mg x = some (.ref g)) (hk : PySem.W.keepIn X.K (.ref g) = true) (hb : Binds X.K fd ps [])
  (ha : PE X a (jD X.K H0 M0 ta)) (hdb : (x == ("__debug__" : Str)) = false := by decide) (he : starEach [a] X.env = (false, eval a X.env) :: starEach [] X.env := by rfl) (hpl : (backTo pos (starEach [] X.env)).any (·.1) = false := by rfl) :
  PE X (.Call (.Name x p) [a] [] pos) (jD X.K H0 M0 (kH sp ta r0)) :=
 (uR (E := E) F hr hg hm hk hb .nil hp (AA ha z9 he) hdb he hpl).weak fun σ H Q ⟨τ, M, R, as, am, k0, h, kk⟩ =>
  ⟨τ, M, _, as, am, k0, h, fun v H1 wa M1 k1 am1 av h1 => ⟨[wa], M1, _, am1, .cons av .nil, h1, fun y H' w M' n k' am' ay r => by
   rcases r with ⟨_, r⟩ | ⟨⟨m, rfl⟩, _⟩
   ·exact kk _ _ _ _ (k1.trans k') am' ay r
   ·exact absurd rfl (n m), fun n C H' M' c k' am' r => by
   rcases r with ⟨z, _⟩ | ⟨_, r⟩
   ·exact absurd rfl (z n)
   ·exact hx n C H' M' c ((k0.trans k1).trans k') am' r⟩⟩
theorem XJ {H0 : Hp} {M0 : Mm} {wi : gY} {g : dR} {tt : cZ} {te : aR} {js : List (Option Nat)} {σ : SV} {H : Hp} {Q : VK} (h : jD X.K H0 M0 (eE wi g tt te js) σ H Q) : oG (iS X.K wi) (fun _ => iB X.K g) (fun _ => kY X.K tt) (fun _ => jD X.K H0 M0 te) js σ H Q := by
 obtain ⟨τ, M, R, as, am, k0, h, k⟩ := h
 refine ⟨τ, M, _, as, am, h, fun J H1 ws keep M1 k1 am1 it hall p hp B => ?_⟩
 obtain ⟨Pv, h0, hk, hs, hd⟩ := hall p (am1.nonM hp)
 obtain ⟨amp, kp⟩ := am1.laid (o := .fix []) (u := .lst []) hp fA
 have hMp := am1.nonM hp
 refine BK ws.length (fun i σ' acc' H' => ∃ τ' acc M', M' p = none ∧ Kp H1 M1 H' (put M' p (.fix acc')) ∧ AM X.K H' (put M' p (.fix acc')) ∧ AS X.K H' (put M' p (.fix acc')) σ' τ' ∧ aJ X.K H' (put M' p (.fix acc')) acc' acc ∧ Pv i τ' acc M') ?_ ?_ ?_
 ·exact ⟨oS js τ, [], M1, hMp, kp, amp, ((as.kp am k1).kp am1 kp).cmap js, .nil, h0⟩
 ·rintro σ' acc' H' ⟨τ', acc, M', mp, k', am', as', av, pv⟩
  refine ⟨it.stop H' _ k' am' (hk _ _ _ _ _ (Nat.le_refl _) mp pv), ?_⟩
  have hp' : H' p = some (.lst acc') := am' p _ d7
  refine k _ H' _ (put M' p (.lst acc)) (k1.trans ⟨fun a o n e => ?_, k'.dom⟩) (fun a o e => ?_) (.ref p) (hd τ' acc M' mp pv)
  ·obtain ⟨x, y⟩ := k'.fr a o n e
   exact ⟨x, by rw [gH (dW e hp)] at y ⊢; exact y⟩
  ·by_cases ha : a = p
   ·subst ha; rw [d7] at e; cases e; exact ⟨acc', hp', av.go rY⟩
   ·rw [gH ha] at e; exact (am' a o (by rw [gH ha]; exact e)).go rY rfl
 ·rintro i σ' acc' H' hi ⟨τ', acc, M', mp, k', am', as', av, pv⟩
  have hkp := hk acc' i τ' acc M' (Nat.le_of_lt hi) mp pv
  refine ⟨it.go i H' _ k' am' hkp hi, fun x H3 y => ?_⟩
  obtain ⟨w, hw, k3, am3, ax⟩ := it.yld i H' _ x H3 k' am' hkp hi y
  refine ⟨w, τ', _, _, ax, as'.kp am' k3, am3, hs acc' i w τ' acc M' hw mp pv, fun σ4 H4 τ4 M4 k4 am4 as4 h4 => ⟨τ4, M4, _, as4, am4, h4, fun b H5 M5 k5 am5 h5 => ?_⟩⟩
  have kk : Kp H' (put M' p (.fix acc')) H5 M5 := (k3.trans k4).trans k5
  cases b with
  | false =>
   obtain ⟨m5, M6, sb, pv6⟩ : M5 p = some (.fix acc') ∧ ∃ M6, Sub M6 (del M5 p) ∧ Pv (i + 1) τ4 acc M6 := h5
   have sb' : Sub (put M6 p (.fix acc')) M5 := by
    have := (sb.trans Sub.del).put (a := p) (o := .fix acc')
    rwa [BZ m5] at this
   exact BF ⟨τ4, acc, M6, sb.non lW, (k'.trans kk).sub sb', am5.sub sb', (as4.kp am4 k5).sub sb', (av.kp am' kk).sub sb', pv6⟩
  | true =>
   have h5 : te τ4 M5 fun y M4 => M4 p = some (.fix acc') ∧ acc.length < sizeLine ∧ ∃ M5, Sub M5 (del M4 p) ∧ Pv (i + 1) τ4 (acc ++ [y]) M5 := h5
   refine BG ⟨τ4, M5, _, as4.kp am4 k5, am5, (((k0.trans k1).trans k').trans kk), h5, fun y H6 wy M6 k6 am6 ay ⟨m6, hl, M7, sb, pv7⟩ => ?_⟩
   have kk6 := kk.trans k6
   have hp6 : H6 p = some (.lst acc') := am6 p _ m6
   obtain ⟨am8, k8⟩ := am6.write (o := .fix (acc' ++ [y])) (u := .lst (acc' ++ [y])) m6 fA
   have sb' : Sub (put M7 p (.fix (acc' ++ [y]))) (put M6 p (.fix (acc' ++ [y]))) := (sb.trans Sub.del).put
   refine ⟨hp6, by rw [av.length]; exact hl, τ4, acc ++ [wy], M7, sb.non lW, ((k'.trans kk6).trans k8).sub sb', am8.sub sb', (((as4.kp am4 k5).kp am5 k6).kp am6 k8).sub sb', ?_, pv7⟩
   exact (((av.kp am' kk6).append (.cons ay .nil)).kp am6 k8).sub sb'
end
section
variable {X : Cx} {H0 : Hp} {M0 : Mm} {r0 : K3} {pos : Pos}
def xO (te : K3 → aR) : aF := fun D τ M => te D.rt τ M fun w M' => NM w ∧ D.rt w M'
theorem XM {e : Expr} {te : K3 → aR} (he : PE X e (jD X.K H0 M0 (te r0))) : X3 X H0 M0 r0 (.Return (some e) pos) (xO te) := (uH he).weak fun D σ H ⟨τ, M, D', as, am, k0, e0, h, k⟩ =>
 ⟨τ, M, fun w M' => NM w ∧ r0 w M', as, am, k0, by subst e0; exact h, fun v H' w M' k' am' av r => k.rt _ _ _ _ r.1 k' am' av (by rw [e0]; exact r.2)⟩
def xP (i : Nat) (te : K3 → aR) : aF := fun D τ M => te D.rt τ M fun w M' => D.nx (τ.set i (some w)) M'
theorem XN {i : Nat} {x : Str} {e : Expr} {te : K3 → aR} {pos' : Pos} (hN : X.N.Nodup) (hi : X.N[i]? = some x) (hx : Loc X.env.scope x) (he : PE X e (jD X.K H0 M0 (te r0))) (hs : swapsWith e (some (.Name x pos')) pos.line X.env = pure false := by rfl)
  (hf : X.fn x = true ∨ X.env.scope.names.lookup x = some .local := by first | exact .inl rfl | exact .inr rfl | assumption) : X3 X H0 M0 r0 (.Assign [.Name x pos'] e pos) (xP i te) := (zN hN hi hx he hs hf).weak fun D σ H ⟨τ, M, D', as, am, k0, e0, h, k⟩ =>
 ⟨τ, M, fun w M' => D'.nx (τ.set i (some w)) M', as, am, k0, by subst e0; exact h, fun y H1 wy M1 k1 am1 ay h1 => k.nx _ _ _ _ k1 am1 ((as.kp am k1).set ay i) h1⟩
end
theorem XO {P : Program} {w : World} {K : PySem.W.Frag} {mg : Str → Option Value} {base : Heap} {N : List Str} {qual : Str} {scope : Scope} {f : Addr} {cd : Value} {A : Around} {outer : List Env} {s0 : Shared} {Hs : Hp} {E : XK} {H0 : Hp} {M0 : Mm} {X : Cx}
  {sc : Scope} {tg iter elt : Expr} {ifs : List Expr} {wi : gY} {g : dR} {tt : cZ} {te : aR} {pos : Pos} (hX : X = aW (bD P w) P w K mg base N qual scope f cd A outer s0 Hs E) (N' : List Str) (js : List (Option Nat)) (hi : PI X tg iter (iS X.K wi))
  (hg : ∀ B, PG (bQ X sc N' B) tg (iB X.K g)) (ht : ∀ B, hZ (bQ X sc N' B) ifs (kY X.K tt)) (he : ∀ B, PE (tR X sc N' B E) elt (jD X.K H0 M0 te))
  (S0 : kW N' sc X.env.scope = true := by kernel_rfl) (hj : dO N' X.N sc js N' = true := by kernel_rfl) (hc : X.calm = true := by rfl) (hs : ∀ x, foldedSetIterable iter X.env x = pure x := by intro _; rfl) :
  PE X (.ListComp elt [⟨tg, iter, ifs, 0⟩] sc pos) (jD X.K H0 M0 (eE wi g tt te js)) := (XI hX N' js hi hg ht he S0 hj hc hs).weak fun _ _ _ h => XJ h
end L3
set_option Elab.async false
set_option compiler.extract_closed false
set_option bootstrap.genMatcherCode false
set_option linter.all false
set_option maxRecDepth 100000
set_option maxHeartbeats 4000000
namespace L2
open PySem PySem.Spec PyProof.Rows
section
variable {X : Cx} {k : Nat} {f : Addr} {fd : FuncData} {ps : List Str} {sp : Sp} {g y : Str} {p py cpos spos pos : Pos} {e : Expr} {es : List Expr} {t : TA} {hs : List ExceptHandler} {h0 : ExceptHandler} {i : Nat}
def FG (sp : Sp) (t : TA) (i : Nat) (E1 : (St → Hp → Prop) → St → XK) : TS := fun D σ H => t σ H fun vs H1 => sp vs H1 (fun v H2 => D.nx (σ.set i (some v)) H2) (E1 D.nx σ)
theorem XQ {E1 : (St → Hp → Prop) → St → XK} (F : aS X.prog X.w X.K X.mg X.base (bD X.prog X.w) k f fd ps sp) (hr : bA k X.A) (hg : Gl X g) (hm : X.mg g = some (.ref f)) (hk : PySem.W.keepIn X.K (.ref f) = true) (hb : Binds X.K fd ps [])
  (hN : X.N.Nodup) (hi : X.N[i]? = some y) (hy : Loc X.env.scope y) (ha : ∀ E, PA (X.wish E) (e :: es) t) (hst : X.stack = X.env :: X.outer) (hfr : X.env.frame = some X.env.locals)
  (hh : ∀ (pins : List (Addr × Obj)) (σ : St) (H : Hp) (s : Shared) (ea : Addr) (cls : Value) (H' : Hp) (B : Heap) (s' : Shared) (D : hV), dC X.prog X.w X.stack H s ea cls H' B s' → Inv X pins σ H s → E1 D.nx σ cls none H' →
   wpAny (model X.prog X.w) X.A (handleBy (.ref ea) X.env (h0 :: hs)) (SP X pins D) X.xe s')
  (hdb : (g == ("__debug__" : Str)) = false := by decide) (he : starEach (e :: es) X.env = (false, eval e X.env) :: starEach es X.env := by rfl) (hpl : (backTo cpos (starEach es X.env)).any (·.1) = false := by rfl)
  (hsw : swapsWith (.Call (.Name g p) (e :: es) [] cpos) (some (.Name y py)) spos.line X.env = pure false := by rfl) (hf : X.fn y = true ∨ X.env.scope.names.lookup y = some .local := by first | exact .inl rfl | exact .inr rfl | assumption) :
  PS X (.Try [.Assign [.Name y py] (.Call (.Name g p) (e :: es) [] cpos) spos] (h0 :: hs) [] [] pos) (FG sp t i E1) := by
 intro pins s σ H D I h
 refine wpAny_Try_except ?_
 refine wpAny_execs_cons (wpAny_mono (Q := fun fl s1 => fl = .next ∧ ∃ v H', Inv X pins (σ.set i (some v)) H' s1 ∧ D.nx (σ.set i (some v)) H') (E := FC X pins σ (E1 D.nx σ)) ?_ ?_ ?_)
 ·refine wpAny_Assign_Name (Q := fun fl s1 => fl = .next ∧ ∃ v H', Inv X pins (σ.set i (some v)) H' s1 ∧ D.nx (σ.set i (some v)) H') ?_ hsw
  refine wpAny_Call_Name_kw (n4 I hg hm ?_ hdb)
  refine PySem.W.callWith_K (h₀ := X.base) I.ok.mod.kin hk (aV (ha (FC X pins σ (E1 D.nx σ)) cpos pins s σ H _ (I.wish _) h) fun us s1 ⟨vs, H1, I1, r, q⟩ => ⟨I1.kIn, ?_⟩) he hpl
  have I1' : Inv X pins σ H1 s1 := I1.unwish
  have hl : us.length = ps.length := by rw [← r.length]; exact F.len _ _ _ _ q
  refine wpAny_call (codeAny_mono (F.run X.A X.stack s1 H1 ⟨us, []⟩ us vs _ _ hr I1'.env0 (by have z := hb s1 us I1'.kIn (by rw [List.append_nil]; exact hl); rw [List.append_nil] at z; exact z) r q) fun rr s' hq => ?_)
  cases rr with
  | error ex =>
   obtain ⟨os, bare, ea, cls, a0, B, H', rfl, fl, hok, un, cov, e1⟩ := hq
   exact ⟨H1, s1, ea, cls, H', B, rfl, ⟨os, bare, ⟨a0, fl⟩, hok, un, cov⟩, I1', e1⟩
  | ok fl =>
   cases fl with
   | ret u =>
    obtain ⟨v, H', I', rv, q'⟩ := I1'.after hq
    exact rC I' hN hi hy rv (fun s2 I2 => ⟨rfl, v, H', I2, q'⟩) hf
   | next => exact False.elim hq
   | brk => exact False.elim hq
   | cont => exact False.elim hq
 ·rintro fl s1 ⟨rfl, v, H', I', q⟩
  exact wpAny_execs_nil (wpAny_execs_nil ⟨_, H', I', q⟩)
 ·rintro ex s1 ⟨H1, s0, ea, cls, H', B, rfl, a, I', q⟩
  have a' := a
  rw [hst] at a'
  refine a'.look (by rw [← hst]; exact I.ok.frames) hfr fun s2 a2 => ?_
  rw [← hst] at a2
  exact hh pins σ H1 s0 ea cls H' B s2 D a2 I' q
end
end L2
set_option Elab.async false
set_option compiler.extract_closed false
set_option bootstrap.genMatcherCode false
set_option linter.all false
set_option maxRecDepth 100000
set_option maxHeartbeats 4000000
namespace L2
open PySem PySem.Spec PyProof.Rows
abbrev pL (ea : Addr) (cls : Value) : HO := .ext fun h => ∃ o, h.get? ea = some o ∧ o.cls = cls
section
variable {X : Cx} {pins : List (Addr × Obj)} {σ : St} {H H' : Hp} {s s' : Shared} {ea : Addr} {cls : Value} {B : Heap} {E : Value → Shared → Prop}
theorem dC.tell (a : dC X.prog X.w X.stack H s ea cls H' B s') (I : Inv X pins σ H s) : Inv X pins σ (aU H' ea (pL ea cls)) s' := by
 obtain ⟨a0, f0⟩ := a.fl
 have hf := a.free
 have hn := a.new
 obtain ⟨o, vs, e, c, d⟩ := a.obj
 have u := a.un
 refine I.call' a.os ⟨u.keep, u.slot, fun b o' e' n x => ?_, u.there, fun b xs q => ?_, fun b o' w q => ?_, fun b ps q => ?_⟩ (fun b w q => ?_) a.bare (fun b z => absurd z (by simp))
 ·rw [bU (fun z => by subst z; rw [hn] at e'; cases e')]; exact u.free b o' e' n x
 ·rw [bU (dW (u.tups b xs q) hf)]; exact u.tups b xs q
 ·rw [bU (dW (u.frzs b o' w q) hf)]; exact u.frzs b o' w q
 ·obtain ⟨more, q'⟩ := u.tbls b ps q
  exact ⟨more, by rw [bU (dW q' hf)]; exact q'⟩
 ·by_cases hb : b = ea
  ·subst hb
   rw [fA] at q
   cases q
   exact ⟨⟨o, e, c⟩, ⟨o, e⟩, fun h1 h2 ⟨o', e1, c1⟩ k => ⟨o', k o' e1, c1⟩⟩
  ·rw [bU hb] at q
   exact ((a.hok.kept f0.1) b w q).stay (fun c v _ r => r) (fun c r => by rw [bU (dW r hf)]; exact r) fun c xs r => by rw [bU (dW r hf)]; exact r
abbrev Cx.inK (X : Cx) (ea : Addr) : Cx := { X with A := X.A.mark (some (.ref ea)), calm := false, xe := fun _ _ => False }
theorem Inv.inK (I : Inv X pins σ H s) : Inv (X.inK ea) pins σ H s :=
 ⟨⟨I.ok.mod, I.ok.kind, I.ok.glob, I.ok.blt, I.ok.above, I.ok.inj, I.ok.has, I.ok.cab, (fun z => nomatch z), I.ok.frames, I.ok.stk, I.ok.exf, I.ok.bs, I.ok.bsz, I.ok.noex, I.ok.exfs, I.ok.funs, I.ok.frf⟩, I.os, I.bare, I.base, I.loc, I.cell, I.free, I.freeC, I.pin, I.hok, I.len⟩
theorem Inv.outK (I : Inv (X.inK ea) pins σ H s) (c : X.Ok) : Inv X pins σ H s := ⟨c, I.os, I.bare, I.base, I.loc, I.cell, I.free, I.freeC, I.pin, I.hok, I.len⟩
theorem XR {x n : Str} {c : Value} {p pos : Pos} {i : Nat} {b0 : Stmt} {suite : List Stmt} {rest : List ExceptHandler} {D : hV} {ts : TS}
  (a : dC X.prog X.w X.stack H s ea cls H' B s') (I : Inv X pins σ H s) (hex : X.ex = []) (g1 : Gl X x) (m1 : X.mg x = some c) (d1 : (x == ("__debug__" : Str)) = false) (n1 : PySem.W.exmOne X.K cls c = some true)
  (hN : X.N.Nodup) (hi : X.N[i]? = some n) (hl : X.env.scope.names.lookup n = some .local) (hf : X.fn n = true ∨ X.env.scope.names.lookup n = some .local)
  (hs : dX (X.inK ea) (b0 :: suite) ts) (h : ts { nx := fun σ' H2 => D.nx (σ'.set i none) H2, rt := fun _ _ => False } (σ.set i (some (.ref ea))) (aU H' ea (pL ea cls))) :
  wpAny (model X.prog X.w) X.A (handleBy (.ref ea) X.env (.ExceptHandler (some (.Name x p)) (some n) (b0 :: suite) pos :: rest)) (SP X pins D) E s' := by
 obtain ⟨oe, vs, _, _, J⟩ := a.inX I hex
 refine wpAny_handleBy_cons (codeAny_handlers_test (n4 (X := X.inX ea oe) J g1 m1 ?_ d1)) (by intro q; cases q)
 refine (PySem.W.exm_one (a.inv I).kIn a.ty n1).here ?_
 refine codeAny_handlers_suite_as (a.land fun s2 a2 => ?_)
 have J2 : Inv (X.inK ea) pins σ (aU H' ea (pL ea cls)) s2 := (a2.tell I).inK
 refine rC (X := X.inK ea) J2 hN hi (.inl hl) (v := .ref ea) rfl (fun s3 J3 => ?_) hf
 refine wpAny_mono (hs pins s3 _ _ _ J3 h) (fun f s4 q => ?_) fun _ _ z => z.elim
 cases f with
 | next =>
  obtain ⟨σ4, H4, J4, q4⟩ := q
  exact W4 (J4.outK I.ok) hN hi hl fun s5 J5 => ⟨_, H4, J5, q4⟩
 | brk => obtain ⟨_, _, _, z⟩ := q; exact z.elim
 | cont => obtain ⟨_, _, _, z⟩ := q; exact z.elim
 | ret u => obtain ⟨_, _, _, _, _, z⟩ := q; exact z.elim
end
end L2
namespace L3
open PySem PySem.Spec PyProof.Rows L2
def xQ (sp : bK) (t : c9) (i j ie : Nat) (cl : String → Option Addr) : aF := fun D τ M => ie < τ.length ∧ t τ M fun ws M1 => sp ws M1 fun w M2 => (NM w ∧ D.nx (τ.set i (some w)) M2) ∨
 (∃ n, w = .ty n ∧ ∀ C, cl n = some C → ∀ ea, M2 ea = none → D.nx (((τ.set ie (some (.ref ea))).set j (some (.ref ea))).set ie none) (put M2 ea (.exc (.ref C))))
def FH (K : PySem.W.Frag) (cl : String → Option Addr) (j ie : Nat) : (SV → Hp → Prop) → SV → XK := fun nx σ cls _ H' => ∃ n C, cl n = some C ∧ cls = .ref C ∧ ∀ ea, H' ea = none →
 mY K (bB j (aA ie)) { nx := fun σ' H2 => nx (σ'.set ie none) H2, rt := fun _ _ => False } (σ.set ie (some (.ref ea))) (aU H' ea (pL ea cls))
theorem XS {K : PySem.W.Frag} {cl : String → Option Addr} {sp : bK} {t : c9} {i j ie : Nat} {D : hV} {σ : SV} {H : Hp} (h : mY K (xQ sp t i j ie cl) D σ H) :
  FG (fY K cl sp) (rZ K t) i (FH K cl j ie) D σ H := by
 obtain ⟨τ, M, D', as, am, ⟨hl, h⟩, kk⟩ := h
 refine ⟨τ, M, _, as, am, h, fun vs H1 ws M1 k1 am1 av h1 => ⟨ws, M1, _, am1, av, h1, ?_, ?_⟩⟩
 ·rintro v H2 w M2 nm k2 am2 av2 (⟨_, r⟩ | ⟨n, rfl, _⟩)
  ·exact kk.nx _ _ _ _ (k1.trans k2) am2 (((as.kp am k1).kp am1 k2).set av2 i) r
  ·exact absurd rfl (nm n)
 ·rintro n' C' H2 M2 hcl k2 am2 (⟨nm, _⟩ | ⟨n, e, r⟩)
  ·exact absurd rfl (nm n')
  ·cases e
   refine ⟨n', C', hcl, rfl, fun ea hea => ?_⟩
   obtain ⟨am3, k3⟩ := am2.laid (o := .exc (.ref C')) (u := pL ea (.ref C')) hea fA
   have as3 := (((as.kp am k1).kp am1 k2).kp am2 k3)
   refine ⟨_, _, { nx := fun τ' M' => D'.nx (τ'.set ie none) M', rt := fun _ _ => False, bk := fun _ _ => False, ct := fun _ _ => False }, as3.set (.ref ea) ie, am3, ?_, ⟨fun σ' H3 τ' M3 k4 am4 as4 r3 => ?_, fun _ _ _ _ _ _ _ z => z.elim, fun _ _ _ _ _ _ _ z => z.elim, fun _ _ _ _ _ _ _ z => z.elim⟩⟩
   ·refine ⟨.ref ea, ?_, r C' hcl ea (am2.nonM hea)⟩
    rw [List.getElem?_set_self hl]
   ·exact kk.nx _ _ _ _ (((k1.trans k2).trans k3).trans k4) am4 (as4.setN ie) r3
end L3
set_option Elab.async false
set_option compiler.extract_closed false
set_option bootstrap.genMatcherCode false
set_option linter.all false
set_option maxRecDepth 100000
set_option maxHeartbeats 4000000
namespace L3
open PySem PySem.Spec PyProof.Rows L2
section
variable {X : Cx}
def FI (sp1 sp2 : bK) (i : Nat) (ta : c9) : aR := fun τ M R => ∃ w, τ[i]? = some (some w) ∧ ((w = .int 0 ∧ ta τ M fun ws M1 => sp1 ws M1 R) ∨ (w = .int 1 ∧ ta τ M fun ws M1 => sp2 ws M1 R))
theorem XT {k1 k2 : Nat} {f1 f2 : Addr} {fd1 fd2 : FuncData} {ps1 ps2 : List Str} {sp1 sp2 : bK} {x1 x2 : Str} {p1 p2 spos pos : Pos} {lpos : Pos} {we e : Expr} {es : List Expr} {i : Nat} {ta : c9} (hu : X.A.units + 1 < cLine)
  (F1 : aS X.prog X.w X.K X.mg X.base aQ k1 f1 fd1 ps1 (a8 X.K sp1)) (hr1 : bA k1 X.A) (hg1 : Gl X x1) (hm1 : X.mg x1 = some (.ref f1)) (hk1 : PySem.W.keepIn X.K (.ref f1) = true) (hb1 : Binds X.K fd1 ps1 [])
  (F2 : aS X.prog X.w X.K X.mg X.base aQ k2 f2 fd2 ps2 (a8 X.K sp2)) (hr2 : bA k2 X.A) (hg2 : Gl X x2) (hm2 : X.mg x2 = some (.ref f2)) (hk2 : PySem.W.keepIn X.K (.ref f2) = true) (hb2 : Binds X.K fd2 ps2 [])
  (hw : E3 X we (aA i)) (ha : A3 X (e :: es) ta) (hs : uU we := by exact fun _ _ => rfl) (hd1 : (x1 == ("__debug__" : Str)) = false := by decide) (hd2 : (x2 == ("__debug__" : Str)) = false := by decide)
  (he : starEach (e :: es) X.env = (false, eval e X.env) :: starEach es X.env := by rfl) (hpl : (backTo pos (starEach es X.env)).any (·.1) = false := by rfl) :
  E3 X (.Call (.Subscript (.List [.Name x1 p1, .Name x2 p2] lpos) we spos) (e :: es) [] pos) (FI sp1 sp2 i ta) := by
 have hfe : E3 X (.Subscript (.List [.Name x1 p1, .Name x2 p2] lpos) we spos) (aB bG (eU (aC (vC (.ref f1)) (aC (vC (.ref f2)) aG))) (aA i)) := bX hu (gK (aD (lN hg1 hm1 hd1) (aD (lN hg2 hm2 hd2) aH))) hw hs
 rintro pins s σ H Q I ⟨τ, M, R, as, am, ⟨w, hwi, h⟩, k⟩
 have hev : eval (.Call (.Subscript (.List [.Name x1 p1, .Name x2 p2] lpos) we spos) (e :: es) [] pos) X.env = (do
   callWith pos (← eval (.Subscript (.List [.Name x1 p1, .Name x2 p2] lpos) we spos) X.env) [] (backTo pos (starEach (e :: es) X.env)) (backToKw pos (keywordEach [] X.env))) := rfl
 rw [hev]
 have go : ∀ {k : Nat} {f : Addr} {fd : FuncData} {ps : List Str} {sp : bK} (F : aS X.prog X.w X.K X.mg X.base aQ k f fd ps (a8 X.K sp)) (hr : bA k X.A) (hk : PySem.W.keepIn X.K (.ref f) = true) (hb : Binds X.K fd ps []) {H1 : Hp} {M1 : Mm} {s1 : Shared}
   (I1 : Inv X pins σ H1 s1) (k1 : Kp H M H1 M1) (am1 : AM X.K H1 M1) (q : ta τ M1 fun ws M2 => sp ws M2 R),
   wpAny (model X.prog X.w) X.A (callWith pos (.ref f) [] (backTo pos (starEach (e :: es) X.env)) (backToKw pos (keywordEach [] X.env))) (EP X pins σ Q) X.xe s1 := by
  intro k' f fd ps sp F hr hk hb H1 M1 s1 I1 k1 am1 q
  refine PySem.W.callWith_K (h₀ := X.base) I1.ok.mod.kin hk (aV (ha pos pins s1 σ H1 (fun vs H2 => a8 X.K sp (vs ++ []) H2 Q E0) I1 ⟨τ, M1, _, as.kp am k1, am1, q, fun vs H2 ws M2 k2 am2 avs h2 => ⟨ws, M2, R, am2, by rw [List.append_nil]; exact avs, h2, k.kp (k1.trans k2)⟩⟩) fun us s2 ⟨vs, H2, I2, r, q2⟩ => ⟨I2.kIn, ?_⟩) he hpl
  exact AE F hr hb .nil BD I2 r q2
 refine wpAny_bind (aV (hfe pins s σ H (fun v H1 => ∃ M1, Kp H M H1 M1 ∧ AM X.K H1 M1 ∧ ((v = .ref f1 ∧ ta τ M1 fun ws M2 => sp1 ws M2 R) ∨ (v = .ref f2 ∧ ta τ M1 fun ws M2 => sp2 ws M2 R))) I
  ⟨τ, M, fun w M1 => (w = .ref f1 ∧ ta τ M1 fun ws M2 => sp1 ws M2 R) ∨ (w = .ref f2 ∧ ta τ M1 fun ws M2 => sp2 ws M2 R), as, am, ?_, fun v H' w M' k' am' av r => ?_⟩) fun u s1 ⟨v, H1, I1, rv, M1, k1, am1, q⟩ => ?_)
 ·refine ⟨by show 2 ≤ sizeLine; decide, w, hwi, ?_⟩
  rcases h with ⟨rfl, h⟩ | ⟨rfl, h⟩
  ·exact ⟨.ref f1, rfl, .inl ⟨rfl, h⟩⟩
  ·exact ⟨.ref f2, rfl, .inr ⟨rfl, h⟩⟩
 ·rcases r with ⟨rfl, r⟩ | ⟨rfl, r⟩
  ·cases av; exact ⟨M', k', am', .inl ⟨rfl, r⟩⟩
  ·cases av; exact ⟨M', k', am', .inr ⟨rfl, r⟩⟩
 ·rcases q with ⟨rfl, q⟩ | ⟨rfl, q⟩
  ·obtain rfl : u = Value.ref f1 := rv
   exact go F1 hr1 hk1 hb1 I1 k1 am1 q
  ·obtain rfl : u = Value.ref f2 := rv
   exact go F2 hr2 hk2 hb2 I1 k1 am1 q
end
end L3
set_option Elab.async false
set_option compiler.extract_closed false
set_option bootstrap.genMatcherCode false
set_option linter.all false
set_option maxRecDepth 100000
set_option maxHeartbeats 4000000
namespace L2
open PySem PySem.Spec PySem.W PySem.Calls PyProof.Rows Builtin Builtin.ObjectAttr Builtin.Getset_descriptor
structure kI (K : PySem.W.Frag) (D : Addr) : Prop where
 ga : PySem.W.findIn K (.ref D) "__getattribute__" = some (some (.builtin "BaseException.__getattribute__"))
 gn : PySem.W.findIn K (.ref D) "__getattr__" = some none
 cl : PySem.W.findIn K (.ref D) "__class__" = some (some (.builtin "object.__class__"))
 sp : PySem.W.specialIn K (.builtin "object.__class__") "__get__" = some (some (.builtin "getset_descriptor.__get__"))
 tk : PySem.W.takesIn K (.builtin "object.__class__") = some true
 mo : PySem.W.mroIn K D (.type "object") = some true
 mb : PySem.W.mroIn K D (.type "BaseException") = some true
 is : (PySem.W.clsIn K D).isSome = true
section
variable {K : PySem.W.Frag} {D x : Addr} {M : Model} {h : Heap} {prog : Program} {w : World} {A : Around} {E : Value → Shared → Prop} {s : Shared}
theorem XU {name : Str} {a g : Value} (Z : K.In h) (ha : PySem.W.findIn K (.ref D) name = some (some a)) (hg : PySem.W.specialIn K a "__get__" = some (some g)) (ht : PySem.W.takesIn K a = some true) :
  PySem.W.Looks M h (find (.ref x) (.ref D) name) (.bind g a) := by
 have q1 := PySem.W.looks_findIn (M := M) Z ha
 have q2 : PySem.W.Looks M h (getOf (some a)) (some g) := PySem.W.looks_specialIn Z hg
 have q3 := PySem.W.looks_takesIn (M := M) Z ht
 exact q1.andThen (q2.andThen ((show PySem.W.Looks M h (dataDescriptor? (some a) (some g)) (some (g, a)) from q3.andThen .now).andThen (PySem.W.Looks.tag .now)))
def mJ (x D : Addr) (h : Heap) : Prop := ∃ o, h.get? x = some o ∧ o.cls = .ref D
theorem mJ.ty (p : mJ x D h) : PySem.W.Looks M h (typeOf (.ref x)) (.ref D) := by
 obtain ⟨o, e, c⟩ := p
 exact c ▸ (PySem.W.Looks.ld e).andThen .now
theorem XW {R : Result → Shared → Prop} {tp : Value} (Z : K.In s.heap) (p : mJ x D s.heap) (F : kI K D) (h : R (.ok (.ret (.ref D))) s) :
  codeAny (model prog w) A (.call (.builtin "getset_descriptor.__get__") ⟨[.builtin "object.__class__", .ref x, tp], []⟩) R s := by
 obtain ⟨hh, g, dr, tt, os⟩ := s
 have q0 := p.ty (M := model prog w)
 have q1 := PySem.W.looks_mroIn (M := model prog w) Z F.mo
 refine codeAny_call_builtin PySem.W.KF.slot_gs.plain PySem.W.KF.entry_gs (PySem.W.KF.slot_gs.check _ _ _ _ _ _ _ _ PySem.W.KF.type_class (PySem.W.KF.args_gs _ _ _) ?_)
 unfold Builtin.«getset_descriptor.__get__» descrGet
 rw [PySem.W.dga_obj]
 refine wpAny_bind (wpAny_pure ?_)
 unfold descrGetter descrCheckInstance descrNameAndClass isInstance
 simp only [PySem.W.KF.owner_class]
 repeat lk
 refine ⟨Code.quiet_builtin _ (by decide +kernel), codeAny_builtin PySem.W.KF.entry_class ?_⟩
 unfold Builtin.«object.__class__» shownTypeOf
 repeat lk
 exact h
theorem XX {tk : Tok} {R : Result → Shared → Prop} (Z : K.In s.heap) (p : mJ x D s.heap) (F : kI K D) (h : R (.ok (.ret (.ref D))) s) :
  codeAny (model prog w) A (.call (.builtin "BaseException.__getattribute__") ⟨[.ref x, .str "__class__" tk], []⟩) R s := by
 refine codeAny_call_builtin PySem.F.excAttr_ValueError.ga.plain PySem.F.entry_bexc_ga ?_
 have hk : builtinKind "BaseException.__getattribute__" = some .slot := by decide +kernel
 have hc : splitId "BaseException.__getattribute__" = some ("BaseException", "__getattribute__") := by decide +kernel
 have ha := PySem.F.args_bexc_ga (.ref x) (.str "__class__" tk)
 obtain ⟨hh, g, dr, tt, os⟩ := s
 have q0 := p.ty (M := model prog w)
 have q1 := PySem.W.looks_mroIn (M := model prog w) Z F.mb
 have q2 : PySem.W.Looks (model prog w) hh (isInstance (.ref x) (.type "BaseException")) true := q0.andThen q1
 simp only [checkBuiltinCall, hk, hc]
 refine wpAny_bind (q2.at ?_)
 repeat (any_goals (first | assumption | wp_step))
 have q3 := XU (x := x) (M := model prog w) Z F.cl F.sp F.tk
 obtain ⟨o, e, c⟩ := id p
 refine wpAny_loadPart e ?_
 refine wpAny_pure ?_
 rw [c]
 refine wpAny_bind (q3.at ?_)
 dsimp only
 unfold bindTo
 dsimp only
 refine wpAny_bind (wpAny_holding (wpAny_call (XW Z p F ?_)))
 exact wpAny_pure h
theorem XY {Q : Option Value → Shared → Prop} (Z : K.In s.heap) (p : mJ x D s.heap) (F : kI K D) (h : Q (some (.ref D)) { s with toks := s.toks + 1 }) : wpAny (model prog w) A (getAttr? (.ref x) "__class__") Q E s := by
 obtain ⟨hh, g, dr, tt, os⟩ := s
 have q0 := p.ty (M := model prog w)
 have q1 := PySem.W.looks_findIn (M := model prog w) Z F.ga
 have q2 := PySem.W.looks_findIn (M := model prog w) Z F.gn
 have n1 : (onTheHeap (Value.ref D) && Value.builtin "BaseException.__getattribute__" == Value.builtin "object.__getattribute__") = false := by
  have : (Value.builtin "BaseException.__getattribute__" == Value.builtin "object.__getattribute__") = false := by decide +kernel
  rw [this, Bool.and_false]
 unfold getAttr? getAttrBy? getAttrBy
 refine wpAny_bind (wpAny_mkText (wpAny_bind (wpAny_attempt (wpAny_holding (wpAny_bind (q0.at (wpAny_bind (q1.at ?_))))))))
 dsimp only
 rw [n1, if_neg (by decide)]
 unfold getAttrByItsOwn hookBefore
 have n2 : onTheHeap (Value.ref D) = true := rfl
 rw [n2, if_pos rfl]
 refine wpAny_bind (q2.at ?_)
 dsimp only
 refine wpAny_bind (wpAny_attempt (wpAny_holding ?_))
 unfold callGetattribute boundAndCalled
 have f3 := PySem.F.excAttr_ValueError.ga.bind (.ref x)
 rw [Bool.false_and, if_neg (by decide), f3]
 refine wpAny_bind (wpAny_pure ?_)
 refine wpAny_call (XX Z p F ?_)
 exact wpAny_pure (wpAny_pure h)
theorem FJ (F : kI K D) : PySem.W.KitX K (.ref x) (.ref D) (mJ x D) where
 ty := fun _ _ _ p => p.ty
 it := fun _ _ Z _ => by
  have hc := F.is
  unfold PySem.W.clsIn at hc
  split at hc
  ·rename_i ho
   intro A' Q' E' s' k q
   unfold isType loadHead
   exact wpAny_bind (wpAny_loadPart (k _ _ (Z _ _ ho)) (wpAny_pure q))
  ·cases hc
 ne := fun h tp dd its n sl Z htp => by
  refine Bool.eq_false_iff.mpr fun q => ?_
  have e : D = tp := Value.ref.inj (beq_iff_eq.mp q)
  subst e
  have hc := F.is
  unfold PySem.W.clsIn at hc
  split at hc
  ·rename_i ho
   have y := (Z _ _ ho).symm.trans htp
   cases y
  ·cases hc
 ca := fun Z p k => XY Z p F k
end
end L2
namespace L3
open PySem PySem.Spec PyProof.Rows L2
def kJ (K : PySem.W.Frag) : List W → Mm → K3 → Prop
 | [.ref ea, c], M, R => ∃ C b, M ea = some (.exc (.ref C)) ∧ kI K C ∧ ((∃ D, c = .ref D ∧ PySem.W.kitOne K (.ref C) (.ref D) = some b) ∨ ∃ T, c = .ty T ∧ PySem.W.kitOne K (.ref C) (.type T) = some b) ∧ R (.bl b) M
 | _, _, _ => False
theorem mK {X : Cx} : c8 X (.builtin "isinstance") (gI X.K (kJ X.K)) := by
 rintro pins s σ H xs us Q I rs ⟨ws, M, R, am, axs, h, k⟩
 match ws, h with
 | [.ref ea, c], h =>
  obtain ⟨C, b, hm, F, hc, r⟩ := h
  obtain ⟨v, u, rfl, av, au⟩ := axs.two
  cases av
  obtain ⟨y, z, rfl, ry, rz⟩ := vals2 rs
  cases (show y = Value.ref ea from ry)
  have e : H ea = some (.ext fun h => ∃ o, h.get? ea = some o ∧ o.cls = .ref C) := am ea _ hm
  have p : mJ ea C s.heap := (show cL X.prog X.w H s.heap ea (.ext fun h => ∃ o, h.get? ea = some o ∧ o.cls = .ref C) from I.hok ea _ e).1
  rcases hc with ⟨D, rfl, hk⟩ | ⟨T, rfl, hk⟩
  ·cases au
   cases (show z = Value.ref D from rz)
   exact PySem.W.kia_one (FJ F) I.kIn p hk (fun z => nomatch z) fun tk => ⟨.bl b, H, I.tok _, rfl, k.at am (.bl b) r⟩
  ·cases au
   cases (show z = Value.type T from rz)
   exact PySem.W.kia_one (FJ F) I.kIn p hk (fun z => nomatch z) fun tk => ⟨.bl b, H, I.tok _, rfl, k.at am (.bl b) r⟩
end L3
set_option Elab.async false
set_option compiler.extract_closed false
set_option bootstrap.genMatcherCode false
set_option linter.all false
set_option maxRecDepth 100000
set_option maxHeartbeats 4000000
namespace Rg
open PySem PySem.Spec PyProof.Rows L2 L3
def j0 : bK := fun ws M R => ∃ z g : Str, ws = [.str z, .str g] ∧ z.length ≤ 40000 ∧ R (.bl (b3 z g)) M
def mL : bK := fun ws M R => ∃ z : Str, ws = [.str z] ∧ z.length ≤ 40000 ∧ R (.bl (isNameB z)) M
def pM : bK := fun ws M R => ∃ z : Str, ws = [.str z] ∧ z.length ≤ 40000 ∧ R (.bl (kD z)) M
def nT : bK := fun ws M R => ∃ z : Str, ws = [.str z] ∧ z.length ≤ 40000 ∧ R (.bl (cI z)) M
def pN : bK := fun ws M R => ∃ z : Str, ws = [.str z] ∧ z.length ≤ 40000 ∧ R (.bl (o9 z)) M
def pO : bK := fun ws M R => ∃ r : a9, ws = [cB r] ∧ lK r ∧ r.parts.length ≤ 40000 ∧ R (.str (cF r)) M
def pP : bK := fun ws M R => ∃ rs : List a9, ws = [.rl (rs.map cB)] ∧ (∀ r ∈ rs, lK r ∧ r.parts.length ≤ 40000 ∧ (cF r).length ≤ 40000) ∧ rs.length ≤ 100 ∧ R (.str (lI rs)) M
def pQ : bK := fun ws M R => ∃ (r : a9) (ns : List Str), ws = [cB r, .rl (ns.map W.str)] ∧ (∀ t ∈ r.parts, t.length ≤ 40000) ∧ (tI r ns → R .non M) ∧ (¬ tI r ns → R (.ty "NoGrammar") M)
def nU : bK := fun ws M R => ∃ rs : List a9, ws = [.rl (rs.map cB)] ∧ rs.length ≤ 100 ∧ (∀ r ∈ rs, ∀ t ∈ r.parts, t.length ≤ 40000) ∧ (nM rs → aZ (rs.map cB) M R) ∧ (¬ nM rs → R (.ty "NoGrammar") M)
def nV : bK := fun ws M R => ∃ ps : List Str, ws = [.rl (ps.map W.str)] ∧ (∀ p ∈ ps, p.length ≤ 40000) ∧ ps.length ≤ 50000 ∧ (mF ps = none → R (.int 0) M) ∧ ∀ qs z, mF ps = some (qs, z) → (iX z = true → R (.int (kE z)) M) ∧ (iX z = false → R (.ty "NoText") M)
def nW : bK := fun ws M R => ∃ z : Str, ws = [.str z] ∧ z.length ≤ 40000 ∧ gZ z ∧ (∀ r, cX (bT 32 z) = some r → R (cB r) M) ∧ (cX (bT 32 z) = none → R (.ty "NoText") M)
def pR : bK := fun ws M R => ∃ z : Str, ws = [.str z] ∧ tG z ∧ (jY z = none → R (.ty "NoText") M) ∧ ∀ rs, jY z = some rs → (nM rs → R (.rl (rs.map cB)) M) ∧ (¬ nM rs → R (.ty "NoGrammar") M)
def pT : bK := fun ws M R => ∃ zs : List W, ws = [.rl zs] ∧ nH zs ∧ 0 < zs.length ∧ zs.length ≤ 10 ∧ ∀ hs : List Str, (∀ h ∈ hs, TN h) → 0 < hs.length → hs.length ≤ 10 → R (.rl (hs.map W.str)) M
def pU : bK := fun ws M R => ∃ n : Int, ws = [.int n] ∧ ∀ w, TW w → R (.str w) M
def pV : bK := fun ws M R => ∃ (c k : Int) (hs : List Str), ws = [.int c, .int k, .rl (hs.map W.str)] ∧ 0 ≤ k ∧ 0 < hs.length ∧ hs.length ≤ 10 ∧ (∀ h ∈ hs, TN h) ∧ ∀ r : a9, g0 r → r.name ∈ hs → (∀ p ∈ r.parts, TW p ∨ p ∈ hs) → (∀ h, hs[k.toNat]? = some h → r.name = h) → R (cB r) M
def pW : bK := fun ws M R => ∃ ns : List Int, ws = [.sc (ns.map W.int)] ∧ ∀ rs : List a9, oX rs → (∀ r ∈ rs, g0 r) → rs.length ≤ 20 → aZ (rs.map cB) M R
def pX : bK := fun ws M R => ∃ rs : List a9, ws = [.rl (rs.map cB)] ∧ (∀ r ∈ rs, g0 r) ∧ rs.length ≤ 60 ∧ R (.str (lI rs)) M
structure lO (z : Str) : Prop where
 len : z.length ≤ 500
 asc : gZ z
 no : 10 ∉ cs z
def pY : bK := fun ws M R => ∃ n : Int, ws = [.int n] ∧ ∀ z, lO z → R (.str z) M
def pZ : bK := fun ws M R => ∃ n : Int, ws = [.int n] ∧ ∀ z, lO z → R (.str z) M
def p0 : bK := fun ws M R => ∃ ns : List Int, ws = [.sc (ns.map W.int)] ∧ ∀ z, tG z → R (.str z) M
def kK : bK := fun ws M R => ∃ (z g : Str) (n : Int), ws = [.str z, .str g, .int n] ∧ z.length ≤ 40000 ∧ R (.bl (b3 z g && decide ((z.length : Int) ≤ n))) M
def lP : bK := fun ws M R => ∃ z : Str, ws = [.str z] ∧ z.length ≤ 40000 ∧ R (.bl (cI z)) M
def p4 : bK := fun ws M R => ∃ z : Str, ws = [.str z] ∧ z.length ≤ 40000 ∧ gZ z ∧ (∀ r, cX (bT 32 z) = some r → R (.rl ((r.name :: "=" :: r.parts).map W.str)) M) ∧ (cX (bT 32 z) = none → R .non M)
def p5 : bK := fun ws M R => ∃ z : Str, ws = [.str z] ∧ tG z ∧ R (.str (lL z)) M
def nX (Ct Cn : Addr) : bK := fun ws M R => ∃ ea, ws = [.ref ea] ∧ ((M ea = some (.exc (.ref Ct)) ∧ R (.rl [.bl true, .bl false, .bl false, .bl false, .bl false, .bl false]) M) ∨ (M ea = some (.exc (.ref Cn)) ∧ R (.rl [.bl false, .bl true, .bl false, .bl false, .bl false, .bl false]) M))
abbrev xR : bK := oU
abbrev xS : List Str := ["text", "signs"]
def p6 : aF :=
   (bY (gU (aB (rEq true) (aA 0) (vC (.str ""))) (bN j8 (aC (cU (eE (dM dF (aA 0)) (cH 0) fG (aB (rIn false) (aA 0) (aA 1)) [none, some 1])) aG))))
abbrev xT : List Str := ["part", "pieces", "right_end"]
def FK : aF :=
   (bB 1 (cW "str" mC (aA 0) (aC (vC (.str "_")) aG)))
def FL : aF :=
   (bB 2 (m7 (aB (rEq false) (aB bG (aA 1) (vC (.int 1))) (vC (.str ""))) (bW j0 (aC (aB bG (aA 1) (vC (.int 2))) (aC (vC (.str "0123456789")) aG)))))
def FN : aF :=
   (bY (gU (aA 2) (bW j0 (aC (aB bG (aA 1) (vC (.int 0))) (aC (vC (.str "ABCDEFGHIJKLMNOPQRSTUVWXYZ")) aG)))))
def p7 : aF := (aL FK (aL FL FN))
abbrev xU : List Str := ["text"]
def p8 : aF :=
   (bY (gU (aB i7 (bN dJ (aC (aA 0) aG)) (vC (.int 8))) (bW j0 (aC (aA 0) (aC (vC (.str "abcdefghijklmnopqrstuvwxyz")) aG)))))
abbrev xV : List Str := ["text", "pieces"]
def p9 : aF :=
   (aL (bB 1 (cW "str" mC (aA 0) (aC (vC (.str "_")) aG)))
   (bY (gU (bW mL (aC (aA 0) aG)) (gU (aB i7 (bN dJ (aC (aB bG (aA 1) (vC (.int 0))) aG)) (vC (.int 8))) (aB i7 (bN dJ (aC (aB bG (aA 1) (vC (.int 2))) aG)) (vC (.int 4)))))))
abbrev xW : List Str := ["text"]
def qA : aF :=
   (bY (gU (bW j0 (aC (aA 0) (aC (vC (.str "0123456789")) aG))) (gU (aB i7 (bN dJ (aC (aA 0) aG)) (vC (.int 60))) (m7 (aB (rEq false) (aA 0) (vC (.str "0"))) (aB (rEq true) (aB bG (aA 0) (vC (.int 0))) (vC (.str "0")))))))
abbrev xX : List Str := ["rule", "pieces"]
def FO : aF :=
   (bB 1 (aB j7 (eU (aC (aB bG (aA 0) (vC (.int 0))) (aC (vC (.str "=")) aG))) (bN lD (aC (aB bG (aA 0) (vC (.int 1))) aG))))
def FP : aF :=
   (cQ (cD (aB (rEq true) (aB bG (aA 0) (vC (.int 2))) (vC (.int 0))))
    (j9 (cW "list" sH (aA 1) (aC (eU (aC (vC (.str ":")) (aC (bW pE (aC (aB bG (aA 0) (vC (.int 2))) aG)) aG))) aG)))
    cP)
def xY : aF :=
   (bY (cW "str" eF (vC (.str " ")) (aC (aA 1) aG)))
def qB : aF := (aL FO (aL FP xY))
abbrev xZ : List Str := ["grammar"]
def qC : aF :=
   (bY (cW "str" eF (vC (.str "\n")) (aC (cU (eE (dM dF (aA 0)) (cH 0) fG (bW pO (aC (aA 0) aG)) [none])) aG)))
abbrev x5 : List Str := ["cells", "found", "cell", "name"]
def FQ : aF :=
   (bB 1 (k7 aG))
def FR : aF :=
   (aL (bB 2 (aB cK (aA 2) (aB lZ (vC (.int 10)) (vC (.int 40)))))
   (aL (bB 3 (cW "str" eF (vC (.str "")) (aC (cU (eE (l9 (aC (aB bL (vC (.int 1)) (aB cK (aB dZ (aA 2) (vC (.int 9))) (vC (.int 8)))) aG)) (cH 0) fG (aB bG (vC (.str "QXYZABMN")) (aB cK (aB bL (aB dZ (aA 1) (aB bL (aA 0) (vC (.int 1)))) (aB i9 (aA 0) (aA 0))) (vC (.int 8)))) [none, some 2])) aG)))
   (aL (cQ (cD (aB (rEq false) (aB cK (aA 2) (vC (.int 3))) (vC (.int 0))))
    (bB 3 (aB bL (aB bL (aA 3) (vC (.str "_"))) (bN l3 (aC (aB cK (aB dZ (aA 2) (vC (.int 3))) (aB bG (eU (aC (vC (.int 10)) (aC (vC (.int 10000)) aG))) (aB cK (aB dZ (aA 2) (vC (.int 70))) (vC (.int 2))))) aG))))
    cP)
   (cQ (cD (aB (rIn true) (aA 3) (aA 1)))
    (j9 (cW "list" l4 (aA 1) (aC (aA 3) aG)))
    cP))))
def FT : aF :=
   (gJ (dM dF (aA 0)) (cH 2) FR)
def FU : aF :=
   (bY (cU (aA 1)))
def qD : aF := (aL FQ (aL FT FU))
abbrev x6 : List Str := ["number"]
def qE : aF :=
   (bY (cW "str" eF (vC (.str "")) (aC (cU (eE (l9 (aC (aB bL (vC (.int 1)) (aB cK (aB dZ (aA 0) (vC (.int 5))) (vC (.int 8)))) aG)) (cH 0) fG (aB bG (vC (.str "eatonihsr")) (aB cK (aB bL (aB dZ (aA 1) (aB bL (aA 0) (vC (.int 1)))) (aA 0)) (vC (.int 9)))) [none, some 0])) aG)))
abbrev x8 : List Str := ["cell", "k", "heads", "name", "parts", "j", "one"]
def FV : aF :=
   (bB 0 (aB cK (aA 0) (aB lZ (vC (.int 10)) (vC (.int 40)))))
def FW : aF :=
   (bB 3 (aB bG (aA 2) (aB cK (aB dZ (aA 0) (vC (.int 7))) (bN dJ (aC (aA 2) aG)))))
def FX : aF :=
   (cQ (cD (aB gW (aA 1) (bN dJ (aC (aA 2) aG))))
    (bB 3 (aB bG (aA 2) (aA 1)))
    cP)
def x9 : aF :=
   (bB 4 (k7 aG))
def FY : aF :=
   (aL (bB 6 (aB cK (aB dZ (aB bL (aA 0) (aB i9 (aA 5) (vC (.int 7919)))) (aB bL (vC (.int 11)) (aA 5))) (aB lZ (vC (.int 10)) (vC (.int 20)))))
   (j9 (cW "list" l4 (aA 4) (aC (aB bG (eU (aC (bW pU (aC (aB dZ (aA 6) (vC (.int 2))) aG)) (aC (aB bG (aA 2) (aB cK (aB dZ (aA 6) (vC (.int 2))) (bN dJ (aC (aA 2) aG)))) aG))) (aB cK (aA 6) (vC (.int 2)))) aG))))
def yA : aF :=
   (gJ (l9 (aC (aB cK (aA 0) (vC (.int 4))) aG)) (cH 5) FY)
def yB : aF :=
   (bY (sD (aC (aA 3) (aC (bN nC (aC (aA 4) aG)) (aC (aB bG (eU (aC (vC (.int 0)) (aC (vC (.int 0)) (aC (aB cK (aB dZ (aA 0) (vC (.int 50))) (vC (.int 12))) (aC (aB cK (aB i9 (aB bL (aA 0) (vC (.int 1))) (aB bL (aA 0) (vC (.int 3)))) (aB lZ (vC (.int 10)) (vC (.int 60)))) aG))))) (aB cK (aB dZ (aA 0) (vC (.int 5))) (vC (.int 4)))) aG)))))
def qF : aF := (aL FV (aL FW (aL FX (aL x9 (aL yA yB)))))
abbrev yC : List Str := ["script", "heads", "rules", "k"]
def FZ : aF :=
   (bB 1 (bW pT (aC (aB bL (iU (aA 0) (d8 (vC (.int 1))) (d8 (vC (.int 4)))) (eU (aC (bW jB (aC (aA 0) (aC (vC (.int 0)) aG))) aG))) aG)))
def F0 : aF :=
   (bB 2 (k7 aG))
def F3 : aF :=
   (j9 (cW "list" l4 (aA 2) (aC (bW pV (aC (bW jB (aC (aA 0) (aC (aB bL (vC (.int 4)) (aA 3)) aG))) (aC (aA 3) (aC (aA 1) aG)))) aG)))
def F4 : aF :=
   (gJ (l9 (aC (aB bL (bN dJ (aC (aA 1) aG)) (aB cK (aB dZ (bW jB (aC (aA 0) (aC (vC (.int 0)) aG))) (vC (.int 8))) (vC (.int 6)))) aG)) (cH 3) F3)
def F5 : aF :=
   (bY (aA 2))
def qG : aF := (aL FZ (aL F0 (aL F4 F5)))
abbrev yD : List Str := ["rules", "rows", "name", "parts", "cost", "row"]
def F6 : aF :=
   (bB 1 (k7 aG))
def F7 : aF :=
   (aL (bB 5 (cW "str" eF (vC (.str " ")) (aC (aB bL (eU (aC (aA 2) (aC (vC (.str "=")) aG))) (bN lD (aC (aA 3) aG))) aG)))
   (aL (cQ (cD (aB vK (aA 4) (vC (.int 0))))
    (bB 5 (aB bL (aB bL (aA 5) (vC (.str " : "))) (bN l3 (aC (aA 4) aG))))
    cP)
   (j9 (cW "list" l4 (aA 1) (aC (aA 5) aG)))))
def F8 : aF :=
   (gJ (dM l7 (aA 0)) (sL 3 (lC (cH 2) (lC (cH 3) (lC (cH 4) sJ)))) F7)
def F9 : aF :=
   (bY (cW "str" eF (vC (.str "\n")) (aC (aA 1) aG)))
def qH : aF := (aL F6 (aL F8 F9))
abbrev yE : List Str := ["cell", "some"]
def GA : aF :=
   (bB 1 (nO ["", "S", "S =a", "S= a", "= a", "s = a", "S = a :", "S = a : 0", "S = a : 07", "S = a : x", "S : 3"]))
def GB : aF :=
   (bB 1 (aB bL (aA 1) (nO ["S = : 4", "S = a  b", "S = a ", " S = a", "S = a : 3 b", "S = a1", "S = Aa", "S = a = b"])))
def GC : aF :=
   (bB 1 (aB bL (aA 1) (nO ["S = a : -1", "S_ = a", "S_12345 = a", "_1 = a", "S_1 = a", "ABCDEFGHI = a"])))
def GD : aF :=
   (bB 1 (aB bL (aA 1) (nO ["S = abcdefghi", "S_1a = a", "S = a : : 3"])))
def GF : aF :=
   (bY (aB bG (aA 1) (aB cK (aA 0) (vC (.int 28)))))
def qI : aF := (aL GA (aL GB (aL GC (aL GD GF))))
abbrev yF : List Str := ["cell", "figures"]
def qJ : aF :=
   (aL (bB 1 (aB bL (vC (.str "1")) (aB i9 (vC (.str "0")) (aB bL (vC (.int 59)) (aB cK (aA 0) (vC (.int 2)))))))
   (bY (aB bG (eU (aC (aB bL (vC (.str "S = a : ")) (aA 1)) (aC (vC (.str "S = NOWHERE")) (aC (vC (.str "S = b NOWHERE_9 : 5")) (aC (vC (.str "NOWHERE = NOWHERE")) aG))))) (aB cK (aB dZ (aA 0) (vC (.int 2))) (vC (.int 4))))))
abbrev yG : List Str := ["script", "rows", "way", "cell", "place", "at", "text", "sign"]
def GG : aF :=
   (bB 1 (cU (cW "str" iC (bW pX (aC (cU (bW pW (aC (aA 0) aG))) aG)) (aC (vC (.str "\n")) aG))))
def GH : aF :=
   (bB 2 (aB cK (aB dZ (bW jB (aC (aA 0) (aC (vC (.int 0)) aG))) (vC (.int 48))) (vC (.int 8))))
def GI : aF :=
   (bB 3 (bW jB (aC (aA 0) (aC (vC (.int 12)) aG))))
def GJ : aF :=
   (bB 4 (bW jB (aC (aA 0) (aC (vC (.int 13)) aG))))
def GK : aF :=
   (cQ (cD (aB gW (aA 2) (vC (.int 2))))
    (aL (bB 5 (aB cK (aA 4) (aB bL (bN dJ (aC (aA 1) aG)) (vC (.int 1)))))
   (bB 1 (aB bL (aB bL (iU (aA 1) fW (d8 (aA 5))) (eU (aC (FI pY pZ 2 (aC (aA 3) aG)) aG))) (iU (aA 1) (d8 (aA 5)) fW))))
    cP)
def yH : aF :=
   (bB 6 (cW "str" eF (vC (.str "\n")) (aC (aA 1) aG)))
def yI : aF :=
   (bB 7 (aB bG (vC (.str "abSXQ_019:= \n\t.-+(){")) (aB cK (aB dZ (aA 3) (vC (.int 30))) (vC (.int 20)))))
def yJ : aF :=
   (bB 5 (aB cK (aA 4) (aB bL (bN dJ (aC (aA 6) aG)) (vC (.int 1)))))
def tS : aF :=
   (cQ (i6 (cD (aB (rEq false) (aA 2) (vC (.int 2)))) (cD (aB (rEq false) (aA 2) (vC (.int 3)))))
    (bY (aB bL (aB bL (jZ (aA 6) fW (d8 (aA 5))) (aA 7)) (jZ (aA 6) (d8 (aA 5)) fW)))
    cP)
def tT : aF :=
   (cQ (cD (aB (rEq false) (aA 2) (vC (.int 4))))
    (bY (aB bL (jZ (aA 6) fW (d8 (aA 5))) (jZ (aA 6) (d8 (aB bL (aA 5) (vC (.int 1)))) fW)))
    cP)
def tU : aF :=
   (cQ (cD (aB (rEq false) (aA 2) (vC (.int 5))))
    (bY (aB bL (aB bL (jZ (aA 6) fW (d8 (aA 5))) (aA 7)) (jZ (aA 6) (d8 (aB bL (aA 5) (vC (.int 1)))) fW)))
    cP)
def tV : aF :=
   (bY (aA 6))
def qK : aF := (aL GG (aL GH (aL GI (aL GJ (aL GK (aL yH (aL yI (aL yJ (aL tS (aL tT (aL tU tV)))))))))))
abbrev yK : List Str := ["text", "some", "most"]
def qL : aF :=
   (bY (gU (sO gW i7 (vC (.int 0)) (bN dJ (aC (aA 0) aG)) (aA 2)) (bN j8 (aC (cU (eE (dM dF (aA 0)) (cH 0) fG (aB (rIn false) (aA 0) (aA 1)) [none, some 1])) aG))))
abbrev yL : List Str := ["word", "letters", "stroke", "figures", "good"]
def GL : aF :=
   (oR (cW "str" mC (aA 0) (aC (vC (.str "_")) aG)) (sL 3 (lC (cH 1) (lC (cH 2) (lC (cH 3) sJ)))))
def GN : aF :=
   (bB 4 (bW kK (aC (aA 1) (aC (vC (.str "ABCDEFGHIJKLMNOPQRSTUVWXYZ")) (aC (vC (.int 8)) aG)))))
def GO : aF :=
   (bY (gU (aA 4) (m7 (aB (rEq false) (aA 2) (vC (.str ""))) (bW kK (aC (aA 3) (aC (vC (.str "0123456789")) (aC (vC (.int 4)) aG)))))))
def qM : aF := (aL GL (aL GN GO))
abbrev yM : List Str := ["row", "words", "word"]
def GP : aF :=
   (bB 1 (cU (cW "str" iC (aA 0) (aC (vC (.str " ")) aG))))
def tW : aF :=
   (cQ (m3 (cD (aB vK (bN dJ (aC (aA 1) aG)) (vC (.int 3)))) (cD (aB (rEq false) (aB bG (aA 1) (iO iR (vC (.int 2)))) (vC (.str ":")))))
    (aL (cQ (i6 (jR (iP (bW kK (aC (aB bG (aA 1) (iO iR (vC (.int 1)))) (aC (vC (.str "0123456789")) (aC (vC (.int 60)) aG)))))) (cD (aB (rEq false) (aB bG (aB bG (aA 1) (iO iR (vC (.int 1)))) (vC (.int 0))) (vC (.str "0")))))
    (bY (vC .non))
    cP)
   (bB 1 (iU (aA 1) fW (d8 (iO iR (vC (.int 2)))))))
    cP)
def tX : aF :=
   (cQ (i6 (cD (aB gW (bN dJ (aC (aA 1) aG)) (vC (.int 2)))) (i6 (cD (aB (rEq true) (aB bG (aA 1) (vC (.int 1))) (vC (.str "=")))) (jR (iP (bW lP (aC (aB bG (aA 1) (vC (.int 0))) aG))))))
    (bY (vC .non))
    cP)
def GQ : aF :=
   (cQ (m3 (jR (iP (bW kK (aC (aA 2) (aC (vC (.str "abcdefghijklmnopqrstuvwxyz")) (aC (vC (.int 8)) aG)))))) (jR (iP (bW lP (aC (aA 2) aG)))))
    (bY (vC .non))
    cP)
def yN : aF :=
   (gJ (dM dF (iU (aA 1) (d8 (vC (.int 2))) fW)) (cH 2) GQ)
def yO : aF :=
   (bY (aA 1))
def qN : aF := (aL GP (aL tW (aL tX (aL yN yO))))
abbrev yP : List Str := ["text", "rows", "heads", "words", "word"]
def GR : aF :=
   (bB 1 (cU (eE (dM dF (cU (cW "str" iC (aA 0) (aC (vC (.str "\n")) aG)))) (cH 0) fG (bW p4 (aC (aA 0) aG)) [none])))
def GS : aF :=
   (cQ (cD (aB (sW false) (vC .non) (aA 1)))
    (bY (vC (.str "text")))
    cP)
def yQ : aF :=
   (bB 2 (cU (eE (dM dF (aA 1)) (cH 0) fG (aB bG (aA 0) (vC (.int 0))) [none])))
def GU : aF :=
   (gJ (dM dF (iU (aA 3) (d8 (vC (.int 2))) fW)) (cH 4)
    (cQ (m3 (iP (bW lP (aC (aA 4) aG))) (cD (aB (rIn true) (aA 4) (aA 2))))
    (bY (vC (.str "grammar")))
    cP))
def yR : aF :=
   (gJ (dM dF (aA 1)) (cH 3) GU)
def yS : aF :=
   (bY (vC (.str "good")))
def qO : aF := (aL GR (aL GS (aL yQ (aL yR yS))))
def GV : aF :=
   (cQ (m3 (iP (bW mL (aC (aA 2) aG))) (cD (aB (rIn true) (aA 2) (aA 1))))
    (hG "NoGrammar" (xM "no rule is of the name " (aA 2)))
    cP)
def qP : aF :=
   (aL (cQ (cD (aB gW (aB bG (aA 0) (vC (.int 2))) (vC (.int 0))))
    (hG "NoGrammar" (vC (.str "a cost is below 0")))
    cP)
   (gJ (dM dF (aB bG (aA 0) (vC (.int 1)))) (cH 2) GV))
def GW : aF :=
   (cQ (cD (aB (rEq false) (bN dJ (aC (aA 0) aG)) (vC (.int 0))))
    (hG "NoGrammar" (vC (.str "a grammar has one rule at least")))
    cP)
def GX : aF := (xK pQ (aC (aA 2) (aC (aA 1) aG)))
def GY : aF :=
   (gJ (dM dF (aA 0)) (cH 2) GX)
def GZ : aF := (kG (bN lB (aC (aA 0) aG)))
def qQ : aF := (aL GW (aL DP (aL GY GZ)))
abbrev yT : List Str := ["pieces"]
def G0 : aF :=
   (cQ (i6 (cD (aB gW (bN dJ (aC (aA 0) aG)) (vC (.int 2)))) (cD (aB (rEq true) (aB bG (aA 0) (iO iR (vC (.int 2)))) (vC (.str ":")))))
    (kG (vC (.int 0)))
    cP)
def G1 : aF :=
   (cQ (i6 (jR (iP (bW pN (aC (aB bG (aA 0) (iO iR (vC (.int 1)))) aG)))) (cD (aB (rEq false) (aB bG (aA 0) (iO iR (vC (.int 1)))) (vC (.str "0")))))
    (hG "NoText" (vC (.str "a cost is figures without a 0 ahead, sixty at most")))
    cP)
def G2 : aF :=
   (kG (bN wN (aC (aB bG (aA 0) (iO iR (vC (.int 1)))) aG)))
def qR : aF := (aL G0 (aL G1 G2))
abbrev yU : List Str := ["text", "pieces", "cost", "parts"]
def G3 : aF :=
   (bB 1 (cU (cW "str" iC (aA 0) (aC (vC (.str " ")) aG))))
def yV : aF :=
   (cQ (i6 (cD (aB gW (bN dJ (aC (aA 1) aG)) (vC (.int 2)))) (i6 (jR (iP (bW nT (aC (aB bG (aA 1) (vC (.int 0))) aG)))) (cD (aB (rEq true) (aB bG (aA 1) (vC (.int 1))) (vC (.str "="))))))
    (hG "NoText" (vC (.str "a rule begins with a name, a blank and =")))
    cP)
def G4 : aF :=
   (xP 2 (fun r0 => kH nV (iU (aA 1) (d8 (vC (.int 2))) fW) r0))
def yW : aF :=
   (bB 3 (vG (cD (aB (rEq false) (aA 2) (vC (.int 0)))) (iU (aA 1) (d8 (vC (.int 2))) fW) (iU (aA 1) (d8 (vC (.int 2))) (d8 (iO iR (vC (.int 2)))))))
def tY : aF :=
   (cQ (jR (iP (bN j8 (aC (cU (eE (dM dF (aA 3)) (cH 0) fG (m7 (bW pM (aC (aA 0) aG)) (bW nT (aC (aA 0) aG))) [none])) aG))))
    (hG "NoText" (vC (.str "the parts of a rule are words and names, each behind a blank")))
    cP)
def tZ : aF :=
   (kG (sD (aC (aB bG (aA 1) (vC (.int 0))) (aC (bN nC (aC (aA 3) aG)) (aC (aA 2) aG)))))
def qS : aF := (aL G3 (aL yV (aL G4 (aL yW (aL tY tZ)))))
abbrev yX : List Str := ["text"]
def qT : aF :=
   (xO (fun r0 => cU (kH nU (cU (eE (dM dF (cU (cW "str" iC (aA 0) (aC (vC (.str "\n")) aG)))) (cH 0) fG (kH nW (aA 0) r0) [none])) r0)))
structure dN where
 t : Addr
 g : Addr
 e : Addr
 o : Addr
 r : Addr
 m : Addr
abbrev yY : List Str := ["e", "kinds"]
def qU (K : PySem.W.Frag) (c : dN) : aF :=
   (aL (bB 1 (eU (aC (bN (kJ K) (aC (aA 0) (aC (vC (.ref c.t)) aG))) (aC (bN (kJ K) (aC (aA 0) (aC (vC (.ref c.g)) aG))) (aC (bN (kJ K) (aC (aA 0) (aC (vC (.ref c.e)) aG))) (aC (bN (kJ K) (aC (aA 0) (aC (vC (.ref c.o)) aG))) aG))))))
   (bY (aB bL (aA 1) (eU (aC (bN (kJ K) (aC (aA 0) (aC (vC (.ref c.r)) aG))) (aC (bN (kJ K) (aC (aA 0) (aC (vC (.ref c.m)) aG))) aG))))))
abbrev yZ : List Str := ["script", "text", "told", "caught", "e", "due"]
def d6 (c : dN) : String → Option Addr := fun n => if n = "NoText" then some c.t else if n = "NoGrammar" then some c.g else none
def G5 : aF := (bB 1 (bW p0 (aC (aA 0) aG)))
def G6 : aF := (bB 2 (vC .non))
def G7 : aF := (bB 3 (vC .non))
def G8 (c : dN) : aF := (xQ pR (aC (aA 1) aG) 2 3 4 (d6 c))
def t5 : aF := (bB 5 (bW p5 (aC (aA 1) aG)))
def t6 : aF :=
   (cQ (cD (aB (rEq false) (aA 5) (vC (.str "good"))))
    (bY (gU (aB (vL false) (aA 3) (vC .non)) (gU (bN cE (aC (aA 2) (aC (vC (.ty "list")) aG))) (aB (rEq false) (bW pP (aC (aA 2) aG)) (aA 1)))))
    cP)
def y0 (K : PySem.W.Frag) : aF :=
   (cQ (jR (iP (bN (kJ K) (aC (aA 3) (aC (vC (.ty "ValueError")) aG)))))
    (bY (vC (.bl false)))
    cP)
def y1 (c : dN) : aF :=
   (bY (aB (rEq false) (bW (nX c.t c.g) (aC (aA 3) aG)) (eU (aC (aB (rEq false) (aA 5) (vC (.str "text"))) (aC (aB (rEq false) (aA 5) (vC (.str "grammar"))) (aC (vC (.bl false)) (aC (vC (.bl false)) (aC (vC (.bl false)) (aC (vC (.bl false)) aG)))))))))
def qV (K : PySem.W.Frag) (c : dN) : aF := (aL G5 (aL G6 (aL G7 (aL (G8 c) (aL t5 (aL t6 (aL (y0 K) (y1 c))))))))
theorem XZ : ∀ ws M R, j0 ws M R → ws.length = 2 := by rintro ws M R ⟨_, _, rfl, _⟩; rfl
theorem X0 : ∀ ws M R, mL ws M R → ws.length = 1 := by rintro ws M R ⟨_, rfl, _⟩; rfl
theorem X1 : ∀ ws M R, pM ws M R → ws.length = 1 := by rintro ws M R ⟨_, rfl, _⟩; rfl
theorem X2 : ∀ ws M R, nT ws M R → ws.length = 1 := by rintro ws M R ⟨_, rfl, _⟩; rfl
theorem X4 : ∀ ws M R, pN ws M R → ws.length = 1 := by rintro ws M R ⟨_, rfl, _⟩; rfl
theorem X5 : ∀ ws M R, pO ws M R → ws.length = 1 := by rintro ws M R ⟨_, rfl, _⟩; rfl
theorem X6 : ∀ ws M R, pP ws M R → ws.length = 1 := by rintro ws M R ⟨_, rfl, _⟩; rfl
theorem X7 : ∀ ws M R, pQ ws M R → ws.length = 2 := by rintro ws M R ⟨_, _, rfl, _⟩; rfl
theorem X8 : ∀ ws M R, nU ws M R → ws.length = 1 := by rintro ws M R ⟨_, rfl, _⟩; rfl
theorem X9 : ∀ ws M R, nV ws M R → ws.length = 1 := by rintro ws M R ⟨_, rfl, _⟩; rfl
theorem YA : ∀ ws M R, nW ws M R → ws.length = 1 := by rintro ws M R ⟨_, rfl, _⟩; rfl
theorem YB : ∀ ws M R, pR ws M R → ws.length = 1 := by rintro ws M R ⟨_, rfl, _⟩; rfl
theorem YC : ∀ ws M R, pT ws M R → ws.length = 1 := by rintro ws M R ⟨_, rfl, _⟩; rfl
theorem YD : ∀ ws M R, pU ws M R → ws.length = 1 := by rintro ws M R ⟨_, rfl, _⟩; rfl
theorem YE : ∀ ws M R, pV ws M R → ws.length = 3 := by rintro ws M R ⟨_, _, _, rfl, _⟩; rfl
theorem YF : ∀ ws M R, pW ws M R → ws.length = 1 := by rintro ws M R ⟨_, rfl, _⟩; rfl
theorem YG : ∀ ws M R, pX ws M R → ws.length = 1 := by rintro ws M R ⟨_, rfl, _⟩; rfl
theorem YH : ∀ ws M R, pY ws M R → ws.length = 1 := by rintro ws M R ⟨_, rfl, _⟩; rfl
theorem YI : ∀ ws M R, pZ ws M R → ws.length = 1 := by rintro ws M R ⟨_, rfl, _⟩; rfl
theorem YJ : ∀ ws M R, p0 ws M R → ws.length = 1 := by rintro ws M R ⟨_, rfl, _⟩; rfl
theorem YK : ∀ ws M R, kK ws M R → ws.length = 3 := by rintro ws M R ⟨_, _, _, rfl, _⟩; rfl
theorem YL : ∀ ws M R, lP ws M R → ws.length = 1 := by rintro ws M R ⟨_, rfl, _⟩; rfl
theorem YM : ∀ ws M R, p4 ws M R → ws.length = 1 := by rintro ws M R ⟨_, rfl, _⟩; rfl
theorem YN : ∀ ws M R, p5 ws M R → ws.length = 1 := by rintro ws M R ⟨_, rfl, _⟩; rfl
theorem YO {Ct Cn : Addr} : ∀ ws M R, nX Ct Cn ws M R → ws.length = 1 := by rintro ws M R ⟨_, rfl, _⟩; rfl
theorem YQ : ∀ ws M R, xR ws M R → ws.length = 1 := by rintro ws M R ⟨_, rfl, _⟩; rfl
end Rg
set_option Elab.async false
set_option compiler.extract_closed false
set_option bootstrap.genMatcherCode false
set_option linter.all false
set_option maxRecDepth 100000
set_option maxHeartbeats 4000000
namespace Rg
open PySem PySem.Spec PyProof.Rows L2 L3
theorem YR {ws : List W} {M : Mm} {R : K3} (h : j0 ws M R) : p6 (aX R) (b5 xS ws) M := by
 obtain ⟨z, g, rfl, hz, r⟩ := h
 show p6 (aX R) [some (.str z), some (.str g)] M
 have em : b3 z g = (!decide (V.str z = V.str "") && (cs z).all fun c => decide (c ∈ cs g)) := rfl
 rw [oP] at em
 simp? only [p6]
 by_cases hc : z = ""
 ·rw [decide_eq_true hc] at em
  simp? only [hc]
  rw [if_neg (by simp)]
  simp at em; rw [em] at r
  exact ⟨_, Sub.refl _, r⟩
 ·rw [decide_eq_false hc] at em
  rw [if_pos hc]
  refine lE (rest := [some (.str g)]) (fun w => match w with | .str x => .bl (occ x g) | _ => .non) (iV (by simp; have := bH z; unfold cs at this; simp at this; omega)) (fun _ _ => trivial) (fun w hw M' C sb h1 => ?_) (aZ.frz ?_)
  ·obtain ⟨c, _, rfl⟩ := List.mem_map.mp hw
   simp? only [L3.rIn]
   exact h1
  ·simp? only [L3.j8]
   refine ⟨(cs z).map fun c => decide (c ∈ cs g), ?_, _, Sub.refl _, ?_⟩
   ·unfold bools
    rw [List.map_map, List.map_map]
    refine List.map_congr_left fun c _ => ?_
    show W.bl (occ ⟨#[c]⟩ g) = _
    rw [wI]; rfl
   ·rw [List.all_map]
    simp at em
    have e2 : (cs z).all (id ∘ fun c => decide (c ∈ cs g)) = b3 z g := by rw [Bool.eq_iff_iff]; simp [em]
    rw [e2]; exact r
theorem YS {ws : List W} {M : Mm} {R : K3} (h : mL ws M R) : p7 (aX R) (b5 xT ws) M := by
 obtain ⟨z, rfl, hz, r⟩ := h
 show p7 (aX R) [some (.str z), none, none] M
 obtain ⟨h1, h3⟩ := wJ z
 have e := sV z
 simp? only [p7, FK, FL, FN, L3.mC]
 refine ⟨by decide +kernel, by omega, ?_⟩
 by_cases hc : (Txt.partition z "_").2.1 = ""
 ·rw [if_pos hc]
  refine ⟨_, _, rfl, by omega, _, Sub.refl _, ?_⟩
  rw [decide_eq_true hc, Bool.true_or, Bool.true_and] at e
  rw [← e]; exact r
 ·rw [if_neg hc]
  rw [decide_eq_false hc, Bool.false_or] at e
  refine ⟨_, _, rfl, by omega, _, rfl, ?_⟩
  split
  ·rename_i hb
   rw [show b3 (Txt.partition z "_").2.2 dQ = true from hb, Bool.true_and] at e
   refine ⟨_, _, rfl, by omega, _, Sub.refl _, ?_⟩
   rw [← e]; exact r
  ·rename_i hb
   rw [show b3 (Txt.partition z "_").2.2 dQ = false by simpa using hb, Bool.false_and] at e
   rw [← e]; exact ⟨_, Sub.refl _, r⟩
theorem YT {ws : List W} {M : Mm} {R : K3} (h : pM ws M R) : p8 (aX R) (b5 xU ws) M := by
 obtain ⟨z, rfl, hz, r⟩ := h
 show p8 (aX R) [some (.str z)] M
 unfold kD at r
 simp? only [p8, L3.i7]
 refine ⟨by omega, ?_⟩
 by_cases h : z.length ≤ 8
 ·rw [decide_eq_true h, Bool.true_and] at r
  rw [if_pos (by omega)]
  exact ⟨z, _, rfl, hz, _, Sub.refl _, r⟩
 ·rw [decide_eq_false h, Bool.false_and] at r
  rw [if_neg (by omega)]
  exact ⟨_, Sub.refl _, r⟩
theorem YU {ws : List W} {M : Mm} {R : K3} (h : nT ws M R) : p9 (aX R) (b5 xV ws) M := by
 obtain ⟨z, rfl, hz, r⟩ := h
 show p9 (aX R) [some (.str z), none] M
 obtain ⟨h1, h3⟩ := wJ z
 unfold cI at r
 simp? only [p9, L3.mC, L3.i7]
 refine ⟨by decide +kernel, by omega, z, rfl, hz, ?_⟩
 simp? only []
 cases hn : isNameB z with
 | false =>
  rw [hn, Bool.false_and] at r
  rw [if_neg (by simp)]
  exact ⟨_, Sub.refl _, r⟩
 | true =>
  rw [hn, Bool.true_and] at r
  rw [if_pos rfl]
  refine ⟨by omega, ?_⟩
  by_cases h8 : (Txt.partition z "_").1.length ≤ 8
  ·rw [if_pos (by omega)]
   rw [decide_eq_true h8, Bool.true_and] at r
   refine ⟨by omega, _, Sub.refl _, ?_⟩
   have e : decide (((Txt.partition z "_").2.2.length : Int) ≤ 4) = decide ((Txt.partition z "_").2.2.length ≤ 4) := by
    rw [Bool.eq_iff_iff, decide_eq_true_eq, decide_eq_true_eq]; omega
   rw [e]; exact r
  ·rw [if_neg (by omega)]
   rw [decide_eq_false h8, Bool.false_and] at r
   exact ⟨_, Sub.refl _, r⟩
theorem YV {ws : List W} {M : Mm} {R : K3} (h : pN ws M R) : qA (aX R) (b5 xW ws) M := by
 obtain ⟨z, rfl, hz, r⟩ := h
 unfold o9 at r
 show qA (aX R) [some (.str z)] M
 simp? only [qA, L3.i7]
 refine ⟨_, _, rfl, hz, ?_⟩
 cases hm : b3 z dQ with
 | false =>
  rw [hm, Bool.false_and] at r
  simp? only []
  exact ⟨_, Sub.refl _, r⟩
 | true =>
  rw [hm, Bool.true_and] at r
  simp? only []
  refine ⟨by omega, ?_⟩
  by_cases h60 : z.length ≤ 60
  ·rw [if_pos (by omega)]
   rw [decide_eq_true h60, Bool.true_and] at r
   by_cases h0 : z = "0"
   ·rw [if_pos h0]
    rw [decide_eq_true h0, Bool.true_or] at r
    exact ⟨_, Sub.refl _, r⟩
   ·rw [if_neg h0]
    rw [decide_eq_false h0, Bool.false_or] at r
    obtain ⟨hne, _⟩ := mE.mp hm
    obtain ⟨c, q, e1⟩ := List.exists_cons_of_ne_nil hne
    refine ⟨by omega, c, ?_, _, Sub.refl _, ?_⟩
    ·show cC (cs z) 0 = some c
     rw [e1]; exact v9 _ _
    ·rw [e1] at r
     have : decide (¬ ((⟨#[c]⟩ : Str) = "0")) = decide ((c :: q).head? ≠ some 48) := by
      rw [Bool.eq_iff_iff, decide_eq_true_eq, decide_eq_true_eq]
      constructor
      ·intro h e; apply h; apply h9; rw [sY]; simp at e; rw [e]; rfl
      ·intro h e; apply h
       have := congrArg cs e
       rw [sY] at this
       have : [c] = [48] := this
       cases this; rfl
     first
      | (rw [← this] at r; simpa using r)
      | (rw [← this] at r; exact r)
  ·rw [if_neg (by omega)]
   rw [decide_eq_false h60, Bool.false_and] at r
   exact ⟨_, Sub.refl _, r⟩
theorem YW {ws : List W} {M : Mm} {R : K3} (h : kK ws M R) : qL (aX R) (b5 yK ws) M := by
 obtain ⟨z, g, n, rfl, hz, r⟩ := h
 show qL (aX R) [some (.str z), some (.str g), some (.int n)] M
 have em := kX z g
 simp? only [qL, sO, L3.gW, L3.i7]
 refine ⟨by omega, ?_⟩
 by_cases hc : cs z = []
 ·rw [decide_eq_true hc] at em
  simp at em
  rw [em, Bool.false_and] at r
  have hl : z.length = 0 := by rw [← bH, hc]; rfl
  rw [hl, if_neg (by simp)]
  exact ⟨_, Sub.refl _, r⟩
 ·have hl : 0 < z.length := by rw [← bH]; exact List.length_pos_iff.mpr hc
  rw [decide_eq_false hc] at em
  simp at em
  rw [if_pos (by omega)]
  by_cases hn : (z.length : Int) ≤ n
  ·rw [decide_eq_true hn, Bool.and_true] at r
   rw [if_pos hn]
   refine lE (rest := [some (.str g)]) (fun w => match w with | .str x => .bl (occ x g) | _ => .non) (iV (by simp; have := bH z; unfold cs at this; simp at this; omega)) (fun _ _ => trivial) (fun w hw M' C sb h1 => ?_) (aZ.frz ?_)
   ·obtain ⟨c, _, rfl⟩ := List.mem_map.mp hw
    simp? only [L3.rIn]
    exact h1
   ·simp? only [L3.j8]
    refine ⟨(cs z).map fun c => decide (c ∈ cs g), ?_, _, Sub.refl _, ?_⟩
    ·unfold bools
     rw [List.map_map, List.map_map]
     refine List.map_congr_left fun c _ => ?_
     show W.bl (occ ⟨#[c]⟩ g) = _
     rw [wI]; rfl
    ·rw [List.all_map]
     have e2 : (cs z).all (id ∘ fun c => decide (c ∈ cs g)) = b3 z g := by rw [Bool.eq_iff_iff]; simp [em]
     rw [e2]; exact r
  ·rw [decide_eq_false hn, Bool.and_false] at r
   rw [if_neg hn]
   exact ⟨_, Sub.refl _, r⟩
end Rg
set_option Elab.async false
set_option compiler.extract_closed false
set_option bootstrap.genMatcherCode false
set_option linter.all false
set_option maxRecDepth 100000
set_option maxHeartbeats 4000000
namespace Rg
open PySem PySem.Spec PyProof.Rows L2 L3
theorem YX {r : a9} (h : g0 r) : Joins " " (piecesOf r) := ⟨60, fun p hp => (wR h p hp).2.1, by
 have := D8 h
 have e : (" " : Str).length = 1 := by decide +kernel
 rw [e]; omega⟩
theorem y2 {c : Nat} {B : Nat} : ∀ {ps : List (List Nat)}, (∀ p ∈ ps, p.length ≤ B) → (jn c ps).length ≤ ps.length * (B + 1)
 | [], _ => Nat.zero_le _
 | [p], h => by have := h p (by simp); show p.length ≤ 1 * (B + 1); omega
 | p :: q :: r, h => by
  have h1 := h p (by simp)
  have h2 := y2 (c := c) (ps := q :: r) fun x hx => h x (List.mem_cons_of_mem _ hx)
  rw [jn, List.length_append, List.length_cons]
  have : (p :: q :: r).length * (B + 1) = (q :: r).length * (B + 1) + (B + 1) := by simp [Nat.succ_mul]
  omega
theorem y3 {r : a9} : cs (cF r) = jn 32 ((piecesOf r).map cs) := nL sZ _
theorem y4 {r : a9} (h : g0 r) : (cF r).length ≤ 488 := by
 rw [← bH, y3]
 have h1 := y2 (c := 32) (B := 60) (ps := (piecesOf r).map cs) fun p hp => by
  obtain ⟨q, hq, rfl⟩ := List.mem_map.mp hp
  rw [bH]; exact (wR h q hq).2.1
 have h2 := D8 h
 rw [List.length_map] at h1
 omega
theorem y6 {c d : Nat} : ∀ {ps : List (List Nat)}, d ∈ jn c ps → d = c ∨ ∃ p ∈ ps, d ∈ p
 | [], h => by cases h
 | [p], h => .inr ⟨p, by simp, h⟩
 | p :: q :: r, h => by
  rw [jn] at h
  rcases List.mem_append.mp h with h | h
  ·exact .inr ⟨p, by simp, h⟩
  ·rcases List.mem_cons.mp h with h | h
   ·exact .inl h
   ·rcases y6 h with h | ⟨x, hx, h⟩
    ·exact .inl h
    ·exact .inr ⟨x, List.mem_cons_of_mem _ hx, h⟩
theorem y7 {r : a9} (h : g0 r) : ∀ c ∈ cs (cF r), 32 ≤ c ∧ c < 128 := fun c hc => by
 rw [y3] at hc
 rcases y6 hc with rfl | ⟨p, hp, hm⟩
 ·exact ⟨by decide, by decide⟩
 ·obtain ⟨q, hq, rfl⟩ := List.mem_map.mp hp
  have := (wR h q hq).1 c hm
  omega
theorem YY {rs : List a9} (h : ∀ r ∈ rs, g0 r) (hl : rs.length ≤ 60) : Joins "\n" (rs.map cF) := ⟨488, fun p hp => by
 obtain ⟨r, hr, rfl⟩ := List.mem_map.mp hp
 exact y4 (h r hr), by
 have e : ("\n" : Str).length = 1 := by decide +kernel
 rw [e, List.length_map]; omega⟩
theorem G9 {i : Int} (h0 : 0 ≤ i) (h1 : i < 10 ^ 60) : i.natAbs.log2 < 1920 := by
 by_cases hz : i.natAbs = 0
 ·rw [hz]; decide
 ·rw [Nat.log2_lt hz]
  have : i.natAbs < 10 ^ 60 := by omega
  exact Nat.lt_of_lt_of_le this (by decide +kernel)
theorem HA {i : Int} (h : 0 ≤ i) : (Str.ofString (toString i)) = bS i.toNat := by unfold bS; rw [Int.toNat_of_nonneg h]
theorem HB {c : Nat} {a b : List Nat} : ∀ {xs : List (List Nat)}, xs ≠ [] → jn c (xs ++ [a, b]) = jn c xs ++ (c :: a ++ c :: b)
 | [], h => absurd rfl h
 | [p], _ => by simp [jn]
 | p :: q :: r, _ => by
  have ih := HB (c := c) (a := a) (b := b) (xs := q :: r) (by simp)
  show p ++ c :: jn c ((q :: r) ++ [a, b]) = (p ++ c :: jn c (q :: r)) ++ _
  rw [ih]; simp
theorem YZ : cs (" : " : Str) = [32, 58, 32] := by decide +kernel
theorem HC {r : a9} (h : r.cost ≠ 0) : Str.join " " ([r.name, "="] ++ r.parts) ++ " : " ++ bS r.cost.toNat = cF r := by
 apply h9
 rw [y3, gG, gG, nL sZ, YZ]
 have e : (piecesOf r).map cs = ([r.name, "="] ++ r.parts).map cs ++ [cs (":" : Str), cs (bS r.cost.toNat)] := by unfold piecesOf iW; rw [if_neg h]; simp
 rw [e, HB (by simp), D7]; simp
theorem Y0 {r : a9} (h : r.cost = 0) : Str.join " " ([r.name, "="] ++ r.parts) = cF r := by unfold cF piecesOf iW; rw [if_pos h, List.append_nil]
theorem Y1 {ws : List W} {M : Mm} {R : K3} (h : pX ws M R) : qH (aX R) (b5 yD ws) M := by
 obtain ⟨rs, rfl, t, hl, r⟩ := h
 show qH (aX R) [some (.rl (rs.map cB)), none, none, none, none, none] M
 simp? only [qH, F6, F8]
 intro a ha
 refine iT (fun i τ M' => ∃ o2 o3 o4 o5 : Option W, τ = [some (.rl (rs.map cB)), some (.ref a), o2, o3, o4, o5] ∧ M' = put M a (.lst (((rs.take i).map cF).map W.str))) ⟨_, _, _, _, rfl, rfl⟩ (fun _ _ _ _ _ => trivial) ?_ ?_
 ·rintro i w τ M' hw ⟨o2, o3, o4, o5, rfl, rfl⟩
  rw [List.getElem?_map] at hw
  obtain ⟨q, hq, rfl⟩ := Option.map_eq_some_iff.mp hw
  have tq := t q (List.mem_of_getElem? hq)
  have hf := tq.few
  have htk : rs.take (i + 1) = rs.take i ++ [q] := by rw [List.take_add_one, hq]; rfl
  have htl : (rs.take i).length ≤ 60 := by rw [List.length_take]; omega
  have hj : Joins " " ([q.name, "="] ++ q.parts) := by
   obtain ⟨B, h1, h2⟩ := YX tq
   refine ⟨B, fun y hy => h1 y (by unfold piecesOf; exact List.mem_append_left _ hy), Nat.le_trans ?_ h2⟩
   have : ([q.name, "="] ++ q.parts).length ≤ (piecesOf q).length := by unfold piecesOf; rw [List.length_append (bs := iW q)]; omega
   exact Nat.add_le_add (Nat.mul_le_mul_right _ this) (Nat.mul_le_mul_right _ this)
  simp? only [F7, cB]
  refine ⟨by rw [List.length_map]; omega, ?_⟩
  simp? only [eF.eq_1]
  refine ⟨[q.name, "="] ++ q.parts, by simp, hj, ?_⟩
  have fin : ∀ o, (((rs.take i).map cF).map W.str).length < 16777216 ∧ ∃ M'', L3.Sub M'' (put M a (.lst (((rs.take i).map cF).map W.str ++ [.str (cF q)]))) ∧ ∃ o2 o3 o4 o5 : Option W, [some (.rl (rs.map cB)), some (.ref a), some (.str q.name), some (.tup (q.parts.map W.str)), some (.int q.cost), o] = [some (.rl (rs.map cB)), some (.ref a), o2, o3, o4, o5] ∧ M'' = put M a (.lst (((rs.take (i + 1)).map cF).map W.str)) := fun o =>
   ⟨by rw [List.length_map, List.length_map]; omega, _, Sub.refl _, _, _, _, _, rfl, by rw [htk]; simp⟩
  by_cases hc : q.cost = 0
  ·rw [if_neg (by omega), Y0 hc]
   exact fin _
  ·have mM := tq.lo
   rw [if_pos (by omega)]
   have hrl := y4 tq
   rw [← HC hc] at hrl
   have l1 : ∀ x y : Str, (x ++ y).length = x.length + y.length := fun x y => by rw [← bH, gG, List.length_append, bH, bH]
   rw [l1, l1] at hrl
   refine ⟨by omega, G9 tq.lo tq.hi, ?_⟩
   rw [HA tq.lo]
   refine ⟨by rw [l1]; omega, ?_⟩
   rw [HC hc]
   exact fin _
 ·rintro τ M' ⟨o2, o3, o4, o5, rfl, rfl⟩
  rw [List.length_map, List.take_length]
  simp? only [F9, eF.eq_2]
  exact ⟨rs.map cF, rfl, YY t hl, _, Sub.new ha, r⟩
theorem t7 {xs : List W} {a b : W} : cC (xs ++ [a, b]) (-2) = some a ∧ cC (xs ++ [a, b]) (-1) = some b := by
 have hl : (xs ++ [a, b]).length = xs.length + 2 := by simp
 have e2 : gE (xs ++ [a, b]).length (-2) = some xs.length := by
  unfold gE; rw [if_neg (by decide), hl, if_pos (by omega)]; congr 1; omega
 have e1 : gE (xs ++ [a, b]).length (-1) = some (xs.length + 1) := by
  unfold gE; rw [if_neg (by decide), hl, if_pos (by omega)]; congr 1; omega
 unfold cC
 rw [e2, e1]
 constructor
 ·show (xs ++ [a, b])[xs.length]? = _; simp
 ·show (xs ++ [a, b])[xs.length + 1]? = _; simp
theorem HD : (" " : Str) = ⟨#[32]⟩ := by decide +kernel
theorem y8 : ("\n" : Str) = ⟨#[10]⟩ := by decide +kernel
end Rg
set_option Elab.async false
set_option compiler.extract_closed false
set_option bootstrap.genMatcherCode false
set_option linter.all false
set_option maxRecDepth 100000
set_option maxHeartbeats 4000000
namespace Rg
open PySem PySem.Spec PyProof.Rows L2 L3
theorem HE : ∀ xs : List Str, cs (Str.join "" xs) = (xs.map cs).flatten
 | [] => rfl
 | [x] => by simp [Str.join]
 | x :: y :: r => by
  show cs (x ++ "" ++ Str.join "" (y :: r)) = _
  rw [gG, gG, HE (y :: r), show cs ("" : Str) = [] from vB]; simp
def j1 (c : Nat) : Str := ⟨#[c]⟩
theorem y9 {L : List Nat} : ∀ {ws ys : List W}, Paired (fun _ y => ∃ c ∈ L, y = W.str (j1 c)) ws ys → ∃ ds : List Nat, ys = (ds.map j1).map W.str ∧ ds.length = ws.length ∧ ∀ c ∈ ds, c ∈ L
 | _, _, .nil => ⟨[], rfl, rfl, by simp⟩
 | _, _, .cons ⟨c, hc, e⟩ t => by
  obtain ⟨ds, e2, e3, h⟩ := y9 t
  subst e e2
  exact ⟨c :: ds, rfl, by simp [e3], fun x hx => by rcases List.mem_cons.mp hx with rfl | hx; exact hc; exact h x hx⟩
theorem qW (ds : List Nat) : cs (Str.join "" (ds.map j1)) = ds := by
 rw [HE, List.map_map]
 induction ds with
 | nil => rfl
 | cons d ds ih => rw [List.map_cons, List.flatten_cons, ih]; rfl
theorem HF {ds : List Nat} (h : ds.length ≤ 1000) : Joins "" (ds.map j1) := ⟨1, fun y hy => by
 obtain ⟨c, _, rfl⟩ := List.mem_map.mp hy; exact Nat.le_refl _, by
 have e : ("" : Str).length = 0 := by decide +kernel
 rw [e, List.length_map]; omega⟩
theorem HG {z : Str} {i n : Int} (hn : n = (cs z).length) (h0 : 0 < n) (hz : z.length ≤ 1000) {M : Mm} {R : K3} (r : ∀ c ∈ cs z, R (.str (j1 c)) M) : bG (.str z) (.int (i % n)) M R := by
 rw [DD]
 refine ⟨iV (by omega), ?_⟩
 obtain ⟨c, e, m⟩ := lG (xs := cs z) (i := i) (n := n) hn h0
 exact ⟨c, e, r c m⟩
theorem zA {n : Nat} {w : W} (h : w ∈ l8 0 n) : ∃ j : Nat, j < n ∧ w = .int ((0 : Int) + (j : Int)) := by
 unfold l8 at h
 obtain ⟨j, hj, rfl⟩ := List.mem_map.mp h
 exact ⟨j, List.mem_range.mp hj, rfl⟩
theorem lQ {lo : Int} {n : Nat} : (l8 lo n).length = n := by unfold l8; simp
theorem Y2 : cs ("eatonihsr" : Str) = [101, 97, 116, 111, 110, 105, 104, 115, 114] := by decide +kernel
theorem Y3 : cs ("QXYZABMN" : Str) = [81, 88, 89, 90, 65, 66, 77, 78] := by decide +kernel
theorem Y4 {ws : List W} {M : Mm} {R : K3} (h : pU ws M R) : qE (aX R) (b5 x6 ws) M := by
 obtain ⟨n, rfl, r⟩ := h
 show qE (aX R) [some (.int n)] M
 simp? only [qE]
 have b1 := Int.emod_nonneg (n / 5) (show (8 : Int) ≠ 0 by decide)
 have b2 := Int.emod_lt_of_pos (n / 5) (show (0 : Int) < 8 by decide)
 refine ⟨_, rfl, by omega, by omega, ?_⟩
 refine v5 (rest := [some (.int n)]) (fun _ y => ∃ c ∈ cs ("eatonihsr" : Str), y = .str (j1 c)) (iV (by rw [lQ]; omega)) (fun _ _ => trivial) (fun w hw M' C sb h1 => ?_) fun ys hys => aZ.frz ?_
 ·obtain ⟨j, hj, rfl⟩ := zA hw
  simp? only []
  refine ⟨sR (by omega) (by omega), ?_⟩
  exact HG (by rw [Y2]; rfl) (by decide) (by decide +kernel) fun c hc => h1 _ ⟨c, hc, rfl⟩
 ·obtain ⟨ds, rfl, hl, hd⟩ := y9 hys
  rw [lQ] at hl
  simp? only [eF.eq_1]
  refine ⟨ds.map j1, rfl, HF (by omega), _, Sub.refl _, r _ ⟨⟨?_, ?_, ?_⟩, ?_⟩⟩
  ·rw [← bH, qW]; omega
  ·rw [qW]; intro z; rw [z] at hl; simp at hl; omega
  ·rw [qW]; intro c hc
   have key : ∀ c ∈ cs ("eatonihsr" : Str), c ∈ cs i4 := by decide +kernel
   exact key c (hd c hc)
  ·rw [← bH, qW]; omega
theorem Y5 {ds : List Nat} (h0 : ds ≠ []) (hl : ds.length ≤ 8) (hd : ∀ c ∈ ds, c ∈ cs ("QXYZABMN" : Str)) : TN (bR ds) := by
 have key : ∀ c ∈ cs ("QXYZABMN" : Str), c ∈ cs dP := by decide +kernel
 have hg : ∀ c ∈ cs (bR ds), c ∈ cs dP := fun c hc => by rw [dB] at hc; exact key c (hd c hc)
 have hne : cs (bR ds) ≠ [] := by rw [dB]; exact h0
 have hnm := O0 hne hg
 have h95 : 95 ∉ cs (bR ds) := fun z => by
  have k2 : 95 ∉ cs dP := by decide +kernel
  exact k2 (hg 95 z)
 have hlen : (bR ds).length = ds.length := by rw [← bH, dB]
 refine ⟨⟨by omega, hnm, ?_, fun c hc => sT c (hg c hc)⟩, ?_, fun c hc => .inl (hg c hc)⟩
 ·rw [dB]
  cases ds with
  | nil => exact absurd rfl h0
  | cons c r => exact ⟨c, r, rfl, key c (hd c (by simp))⟩
 ·unfold cI
  rw [hnm, oI h95]
  have : Str.empty.length = 0 := by decide +kernel
  simp [this]; omega
theorem Y6 {ds : List Nat} {m : Nat} (h0 : ds ≠ []) (hl : ds.length ≤ 8) (hd : ∀ c ∈ ds, c ∈ cs ("QXYZABMN" : Str)) (hm : m < 10000) : TN (bR ds ++ "_" ++ bS m) := by
 have key : ∀ c ∈ cs ("QXYZABMN" : Str), c ∈ cs dP := by decide +kernel
 have hg : ∀ c ∈ cs (bR ds), c ∈ cs dP := fun c hc => by rw [dB] at hc; exact key c (hd c hc)
 have hne : cs (bR ds) ≠ [] := by rw [dB]; exact h0
 obtain ⟨f1, f2⟩ := rW (m := m)
 have ez : cs (bR ds ++ "_" ++ bS m) = cs (bR ds) ++ 95 :: cs (bS m) := by rw [gG, gG, OZ]; simp
 have hnm := O3 ez hne hg f2 f1
 have h95 : 95 ∉ cs (bR ds) := fun z => by
  have k2 : 95 ∉ cs dP := by decide +kernel
  exact k2 (hg 95 z)
 have hlen : (bR ds).length = ds.length := by rw [← bH, dB]
 have hml : (bS m).length ≤ 4 := by
  rw [← bH, sX, List.length_map]
  exact (Nat.length_toDigits_le_iff (by decide) (by decide)).mpr hm
 have hch : ∀ c ∈ cs (bR ds ++ "_" ++ bS m), c ∈ cs dP ∨ c = 95 ∨ c ∈ cs dQ := fun c hc => by
  rw [ez] at hc
  rcases List.mem_append.mp hc with hc | hc
  ·exact .inl (hg c hc)
  ·rcases List.mem_cons.mp hc with hc | hc
   ·exact .inr (.inl hc)
   ·exact .inr (.inr (f1 c hc))
 refine ⟨⟨?_, hnm, ?_, fun c hc => ?_⟩, ?_, hch⟩
 ·rw [← bH, ez, List.length_append, List.length_cons, bH, bH]; omega
 ·rw [ez, dB]
  cases ds with
  | nil => exact absurd rfl h0
  | cons c r => exact ⟨c, _, rfl, key c (hd c (by simp))⟩
 ·rcases hch c hc with h | h | h
  ·exact sT c h
  ·omega
  ·exact DH c h
 ·unfold cI
  rw [hnm, rV ez h95]
  simp [hml]; omega
theorem HH : ∀ {xs : List Str}, (xs.map W.str).all c5 = true
 | [] => rfl
 | x :: xs => by rw [List.map_cons, List.all_cons, HH]; rfl
theorem Y7 (ds : List Nat) : Str.join "" (ds.map j1) = bR ds := h9 (by rw [qW, dB])
def zB : aF :=
   (cQ (cD (aB (rIn true) (aA 3) (aA 1)))
    (j9 (cW "list" l4 (aA 1) (aC (aA 3) aG)))
    cP)
theorem Y8 : FR = aL (bB 2 (aB cK (aA 2) (aB lZ (vC (.int 10)) (vC (.int 40))))) (aL (bB 3 (cW "str" eF (vC (.str "")) (aC (cU (eE (l9 (aC (aB bL (vC (.int 1)) (aB cK (aB dZ (aA 2) (vC (.int 9))) (vC (.int 8)))) aG)) (cH 0) fG (aB bG (vC (.str "QXYZABMN")) (aB cK (aB bL (aB dZ (aA 1) (aB bL (aA 0) (vC (.int 1)))) (aB i9 (aA 0) (aA 0))) (vC (.int 8)))) [none, some 2])) aG))) (aL (cQ (cD (aB (rEq false) (aB cK (aA 2) (vC (.int 3))) (vC (.int 0))))
    (bB 3 (aB bL (aB bL (aA 3) (vC (.str "_"))) (bN l3 (aC (aB cK (aB dZ (aA 2) (vC (.int 3))) (aB bG (eU (aC (vC (.int 10)) (aC (vC (.int 10000)) aG))) (aB cK (aB dZ (aA 2) (vC (.int 70))) (vC (.int 2))))) aG))))
    cP) zB)) := rfl
theorem Y9 {ws : List W} {M : Mm} {R : K3} (h : pT ws M R) : qD (aX R) (b5 x5 ws) M := by
 obtain ⟨zs, rfl, hi, z0, z1, r⟩ := h
 show qD (aX R) [some (.rl zs), none, none, none] M
 simp? only [qD, FQ, FT]
 intro a ha
 refine iT (fun i τ M' => ∃ (hs : List Str) (o2 o3 : Option W), τ = [some (.rl zs), some (.ref a), o2, o3] ∧ M' = put M a (.lst (hs.map W.str)) ∧ (∀ h ∈ hs, TN h) ∧ hs.length ≤ i ∧ (0 < i → 0 < hs.length)) ⟨[], _, _, rfl, rfl, by simp, Nat.le_refl _, by omega⟩ (fun _ _ _ _ _ => trivial) ?_ ?_
 ·rintro i w τ M' hw ⟨hs, o2, o3, rfl, rfl, ok, hl, hp⟩
  have hil := (List.getElem?_eq_some_iff.mp hw).1
  obtain ⟨c0, rfl⟩ := hi w (List.mem_of_getElem? hw)
  rw [Y8]
  simp? only []
  refine ⟨⟨by decide, by decide, by decide⟩, ?_⟩
  refine ⟨by decide, ?_⟩
  have c1 := Int.emod_nonneg c0 (show (10 : Int) ^ (40 : Int).toNat ≠ 0 by decide)
  generalize c0 % 10 ^ (40 : Int).toNat = c at c1
  have b1 := Int.emod_nonneg (c / 9) (show (8 : Int) ≠ 0 by decide)
  have b2 := Int.emod_lt_of_pos (c / 9) (show (0 : Int) < 8 by decide)
  refine ⟨_, rfl, by omega, by omega, ?_⟩
  refine v5 (rest := [some (.int c)]) (fun _ y => ∃ d ∈ cs ("QXYZABMN" : Str), y = .str (j1 d)) (iV (by rw [lQ]; omega)) (fun _ _ => trivial) (fun w hw M' C sb h1 => ?_) fun ys hys => aZ.frz ?_
  ·obtain ⟨j, hj, rfl⟩ := zA hw
   simp? only []
   refine ⟨sR (by omega) (by omega), .inl (.inl ⟨by omega, by omega⟩), ?_⟩
   exact HG (by rw [Y3]; rfl) (by decide) (by decide +kernel) fun c hc => h1 _ ⟨c, hc, rfl⟩
  obtain ⟨ds, rfl, hdl, hd⟩ := y9 hys
  rw [lQ] at hdl
  simp? only [eF.eq_1]
  refine ⟨ds.map j1, rfl, HF (by omega), ?_⟩
  rw [Y7]
  have h0 : ds ≠ [] := fun z => by rw [z] at hdl; simp at hdl; omega
  have h8 : ds.length ≤ 8 := by omega
  have go : ∀ (D : D3) (nm : Str), TN nm → (∀ τ' M', (∃ M'', L3.Sub M'' M' ∧ ∃ (hs : List Str) (o2 o3 : Option W), τ' = [some (.rl zs), some (.ref a), o2, o3] ∧ M'' = put M a (.lst (hs.map W.str)) ∧ (∀ h ∈ hs, TN h) ∧ hs.length ≤ i + 1 ∧ (0 < i + 1 → 0 < hs.length)) → D.nx τ' M') → zB D [some (.rl zs), some (.ref a), some (.int c), some (.str nm)] (put M a (.lst (hs.map W.str))) := fun D nm tn k => by
   simp? only [zB, L3.rIn]
   refine .inl ⟨rfl, HH, ?_⟩
   cases hin : inW (.str nm) (hs.map W.str) with
   | true =>
    rw [if_neg (by simp)]
    refine k _ _ ⟨_, Sub.refl _, hs, _, _, rfl, rfl, ok, by omega, fun _ => ?_⟩
    cases hs with
    | nil => cases hin
    | cons x y => simp
   | false =>
    rw [if_pos rfl]
    refine ⟨by rw [List.length_map]; exact sS (by omega), k _ _ ⟨_, Sub.refl _, hs ++ [nm], _, _, rfl, by rw [List.map_append]; rfl, fun h hh => ?_, by rw [List.length_append]; simp; omega, fun _ => by rw [List.length_append]; simp⟩⟩
    rcases List.mem_append.mp hh with hh | hh
    ·exact ok h hh
    ·rw [List.mem_singleton.mp hh]; exact tn
  by_cases h3 : c % 3 = 0
  ·rw [if_pos h3]
   have l1 : ∀ x y : Str, (x ++ y).length = x.length + y.length := fun x y => by rw [← bH, gG, List.length_append, bH, bH]
   have e1 : (bR ds).length = ds.length := by rw [← bH, dB]
   have e2 : ("_" : Str).length = 1 := by decide +kernel
   refine ⟨by rw [e1, e2]; omega, ?_⟩
   obtain ⟨x, ex, mx⟩ := lG (xs := [W.int 10, W.int 10000]) (i := c / 70) (n := 2) rfl (by decide)
   obtain ⟨aP, rfl, ht⟩ : ∃ aP : Int, x = .int aP ∧ (aP = 10 ∨ aP = 10000) := by
    simp at mx
    rcases mx with rfl | rfl
    ·exact ⟨10, rfl, .inl rfl⟩
    ·exact ⟨10000, rfl, .inr rfl⟩
   refine ⟨_, ex, ?_⟩
   simp? only []
   have t1 := Int.emod_nonneg (c / 3) (show aP ≠ 0 by omega)
   have t2 := Int.emod_lt_of_pos (c / 3) (show 0 < aP by omega)
   refine ⟨by omega, G9 t1 (by omega), ?_⟩
   rw [HA t1]
   have hm : (c / 3 % aP).toNat < 10000 := by omega
   have hml : (bS (c / 3 % aP).toNat).length ≤ 60 := o7 (by omega)
   refine ⟨by rw [l1, e1, e2]; omega, ?_⟩
   exact go _ _ (Y6 h0 h8 hd hm) fun _ _ h => h
  ·rw [if_neg h3]
   exact go _ _ (Y5 h0 h8 hd) fun _ _ h => h
 ·rintro τ M' ⟨hs, o2, o3, rfl, rfl, ok, hl, hp⟩
  simp? only [FU]
  exact aZ.frz (R := fun w M' => ∃ M'', L3.Sub M'' M' ∧ R w M'') ⟨_, Sub.refl _, r hs ok (hp z0) (by omega)⟩ a ha
end Rg
set_option Elab.async false
set_option compiler.extract_closed false
set_option bootstrap.genMatcherCode false
set_option linter.all false
set_option maxRecDepth 100000
set_option maxHeartbeats 4000000
namespace Rg
open PySem PySem.Spec PyProof.Rows L2 L3
theorem HI {hs : List Str} {i n : Int} (hn : n = ((hs.map W.str).length : Nat)) (h0 : 0 < n) : ∃ h ∈ hs, cC (hs.map W.str) (i % n) = some (.str h) := by
 obtain ⟨x, ex, mx⟩ := lG (xs := hs.map W.str) (i := i) (n := n) hn h0
 obtain ⟨h, hh, rfl⟩ := List.mem_map.mp mx
 exact ⟨h, hh, ex⟩
theorem ZA {ws : List W} {M : Mm} {R : K3} (h : pV ws M R) : qF (aX R) (b5 x8 ws) M := by
 obtain ⟨c0, k, hs, rfl, k0, h0, h1, tn, r⟩ := h
 show qF (aX R) [some (.int c0), some (.int k), some (.rl (hs.map W.str)), none, none, none, none] M
 simp? only [qF, FV]
 refine ⟨⟨by decide, by decide, by decide⟩, by decide, ?_⟩
 have c1 := Int.emod_nonneg c0 (show (10 : Int) ^ (40 : Int).toNat ≠ 0 by decide)
 have c2 : c0 % 10 ^ (40 : Int).toNat < 10 ^ 40 := Int.emod_lt_of_pos c0 (by decide)
 generalize c0 % 10 ^ (40 : Int).toNat = c at c1 c2
 simp? only [FW]
 obtain ⟨nm0, hm0, e0⟩ := HI (hs := hs) (i := c / 7) (n := ((hs.map W.str).length : Nat)) rfl (by rw [List.length_map]; omega)
 refine ⟨by rw [List.length_map]; omega, _, e0, ?_⟩
 obtain ⟨rest, hrest⟩ : ∃ x, x = (aL x9 (aL yA yB)) := ⟨_, rfl⟩
 have go : ∀ nm ∈ hs, (∀ h, hs[k.toNat]? = some h → nm = h) → rest (aX R) [some (.int c), some (.int k), some (.rl (hs.map W.str)), some (.str nm), none, none, none] M := by
  intro nm hm hk
  rw [hrest]
  simp? only [x9]
  intro a ha
  simp? only [yA]
  have b1 := Int.emod_nonneg c (show (4 : Int) ≠ 0 by decide)
  have b2 := Int.emod_lt_of_pos c (show (0 : Int) < 4 by decide)
  refine ⟨_, rfl, by omega, by omega, ?_⟩
  refine iT (fun i τ M' => ∃ (ps : List Str) (o5 o6 : Option W), τ = [some (.int c), some (.int k), some (.rl (hs.map W.str)), some (.str nm), some (.ref a), o5, o6] ∧ M' = put M a (.lst (ps.map W.str)) ∧ (∀ p ∈ ps, TW p ∨ p ∈ hs) ∧ ps.length ≤ i) ⟨[], _, _, rfl, rfl, by simp, Nat.le_refl _⟩ (fun _ _ _ _ _ => trivial) ?_ ?_
  ·rintro i w τ M' hw ⟨ps, o5, o6, rfl, rfl, ok, hl⟩
   obtain ⟨j, hj, rfl⟩ := zA (List.mem_of_getElem? hw)
   have hil := (List.getElem?_eq_some_iff.mp hw).1
   rw [lQ] at hil
   simp? only [FY]
   refine ⟨.inl (.inr ⟨by decide, by decide⟩), sR (by omega) (by omega), ⟨by decide, by decide, by decide⟩, by decide, ?_⟩
   generalize (c + (0 + (j : Int)) * 7919) / (11 + (0 + (j : Int))) % 10 ^ (20 : Int).toNat = one
   refine ⟨_, rfl, fun wd hwd => ?_⟩
   obtain ⟨nm2, hm2, e2⟩ := HI (hs := hs) (i := one / 2) (n := ((hs.map W.str).length : Nat)) rfl (by rw [List.length_map]; omega)
   simp? only []
   refine ⟨by rw [List.length_map]; omega, _, e2, ?_⟩
   obtain ⟨x, ex, mx⟩ := lG (xs := [W.str wd, W.str nm2]) (i := one) (n := 2) rfl (by decide)
   obtain ⟨p, rfl, hp⟩ : ∃ p : Str, x = .str p ∧ (TW p ∨ p ∈ hs) := by
    simp at mx
    rcases mx with rfl | rfl
    ·exact ⟨_, rfl, .inl hwd⟩
    ·exact ⟨_, rfl, .inr hm2⟩
   refine ⟨_, ex, ?_⟩
   refine ⟨by rw [List.length_map]; exact sS (by omega), _, Sub.refl _, ps ++ [p], _, _, rfl, by rw [List.map_append]; rfl, fun y hy => ?_, by rw [List.length_append]; simp; omega⟩
   rcases List.mem_append.mp hy with hy | hy
   ·exact ok y hy
   ·rw [List.mem_singleton.mp hy]; exact hp
  ·rintro τ M' ⟨ps, o5, o6, rfl, rfl, ok, hl⟩
   rw [lQ] at hl
   simp? only [yB]
   have d1 := Int.emod_nonneg (c / 50) (show (12 : Int) ≠ 0 by decide)
   have d2 := Int.emod_lt_of_pos (c / 50) (show (0 : Int) < 12 by decide)
   have d3 := Int.emod_nonneg ((c + 1) * (c + 3)) (show (10 : Int) ^ (60 : Int).toNat ≠ 0 by decide)
   have d4 := Int.emod_lt_of_pos ((c + 1) * (c + 3)) (show (0 : Int) < (10 : Int) ^ (60 : Int).toNat by decide)
   have d5 : (10 : Int) ^ (60 : Int).toNat = 10 ^ 60 := rfl
   have big : ∀ x : Int, 0 ≤ x → x ≤ 10 ^ 40 + 3 → x.natAbs < 2 ^ 4096 := fun x x1 x2 => by
    have : x.natAbs < 2 ^ 200 := by
     have h2 : (10 : Nat) ^ 40 + 3 < 2 ^ 200 := by decide
     omega
    exact Nat.lt_of_lt_of_le this (Nat.pow_le_pow_right (by decide) (by decide))
   refine ⟨.inr ⟨big _ (by omega) (by omega), big _ (by omega) (by omega)⟩, ⟨by decide, by decide, by decide⟩, by decide, ?_⟩
   obtain ⟨x, ex, mx⟩ := lG (xs := [W.int 0, W.int 0, W.int (c / 50 % 12), W.int ((c + 1) * (c + 3) % 10 ^ (60 : Int).toNat)]) (i := c / 5) (n := 4) rfl (by decide)
   obtain ⟨v, rfl, v0, v1⟩ : ∃ v : Int, x = .int v ∧ 0 ≤ v ∧ v < 10 ^ 60 := by
    rw [d5] at d4
    simp only [List.mem_cons, List.not_mem_nil, or_false] at mx
    rcases mx with rfl | rfl | rfl | rfl
    ·exact ⟨_, rfl, by decide, by decide⟩
    ·exact ⟨_, rfl, by decide, by decide⟩
    ·exact ⟨_, rfl, d1, Int.lt_trans d2 (by decide)⟩
    ·exact ⟨_, rfl, d3, d4⟩
   refine ⟨_, ex, _, Sub.new ha, ?_⟩
   exact r ⟨nm, ps, v⟩ ⟨tn nm hm, fun p hp => (ok p hp).imp id (tn p), by show ps.length ≤ 4; omega, v0, v1⟩ hm ok hk
 rw [← hrest]
 simp? only [FX]
 by_cases hk : k < ((hs.map W.str).length : Int)
 ·rw [if_pos hk]
  rw [List.length_map] at hk
  obtain ⟨nm, hn⟩ : ∃ nm, hs[k.toNat]? = some nm := ⟨_, List.getElem?_eq_getElem (by omega)⟩
  have e1 : cC (hs.map W.str) k = some (.str nm) := by
   obtain ⟨y, f1, f2, _⟩ := sQ (xs := hs.map W.str) (i := k) k0 (by rw [List.length_map]; exact hk)
   rw [List.getElem?_map, hn] at f2
   cases f2; exact f1
  refine ⟨_, e1, ?_⟩
  exact go nm (List.mem_of_getElem? hn) fun h hh => by rw [hn] at hh; cases hh; rfl
 ·rw [if_neg hk]
  rw [List.length_map] at hk
  exact go nm0 hm0 fun h hh => by
   have := (List.getElem?_eq_some_iff.mp hh).1
   omega
theorem ZC {hs : List Str} {rs : List a9} (h0 : rs ≠ []) (hl : rs.length ≤ 60) (hhl : hs.length ≤ 12) (tn : ∀ h ∈ hs, TN h) (t : ∀ r ∈ rs, g0 r) (hn : ∀ r ∈ rs, r.name ∈ hs) (hp : ∀ r ∈ rs, ∀ p ∈ r.parts, TW p ∨ p ∈ hs) (ha : ∀ h ∈ hs, ∃ r ∈ rs, r.name = h) : oX rs := by
 refine ⟨h0, hl, hs, (rs.flatMap a9.parts).filter fun p => !isNameB p, hhl, fun h hh => (tn h hh).hd, fun p hp' => ?_, fun r hr => ⟨hn r hr, fun p hpm => ?_, (t r hr).few, (t r hr).lo, (t r hr).hi⟩, ha⟩
 ·obtain ⟨h1, h2⟩ := List.mem_filter.mp hp'
  obtain ⟨r, hr, hpm⟩ := List.mem_flatMap.mp h1
  rcases hp r hr p hpm with h | h
  ·exact h.wd
  ·rw [(tn p h).hd.nm] at h2; cases h2
 ·rcases hp r hr p hpm with h | h
  ·exact .inl (List.mem_filter.mpr ⟨List.mem_flatMap.mpr ⟨r, hr, hpm⟩, by rw [h.wd.nm]; rfl⟩)
  ·exact .inr h
theorem ZD {ws : List W} {M : Mm} {R : K3} (h : pW ws M R) : qG (aX R) (b5 yC ws) M := by
 obtain ⟨ns, rfl, r⟩ := h
 show qG (aX R) [some (.sc (ns.map W.int)), none, none, none] M
 have hi := L3.ints_map ns
 have hcm := QO (S := ns.map W.int) (i := 1) (j := 4) (by decide) (by decide)
 simp? only [qG, FZ]
 refine ⟨_, 0, .inl rfl, hi, by decide, fun x0 => ?_⟩
 refine ⟨by omega, ?_⟩
 refine ⟨_, rfl, ?_, by rw [List.length_append]; simp, by rw [List.length_append]; simp; omega, fun hs tn h0 h1 => ?_⟩
 ·intro w hw
  rcases List.mem_append.mp hw with hw | hw
  ·exact hi w (wA hw)
  ·exact ⟨x0, List.mem_singleton.mp hw⟩
 simp? only [F0]
 intro a ha
 simp? only [F4]
 refine ⟨_, 0, .inl rfl, hi, by decide, fun x1 => ?_⟩
 simp? only []
 have b1 := Int.emod_nonneg (x1 / 8) (show (6 : Int) ≠ 0 by decide)
 have b2 := Int.emod_lt_of_pos (x1 / 8) (show (0 : Int) < 6 by decide)
 refine ⟨_, rfl, by rw [List.length_map]; omega, by rw [List.length_map]; omega, ?_⟩
 rw [List.length_map]
 refine iT (fun i τ M' => ∃ (rs : List a9) (o3 : Option W), τ = [some (.sc (ns.map W.int)), some (.rl (hs.map W.str)), some (.ref a), o3] ∧ M' = put M a (.lst (rs.map cB)) ∧ rs.length = i ∧ (∀ q ∈ rs, g0 q) ∧ (∀ q ∈ rs, q.name ∈ hs) ∧ (∀ q ∈ rs, ∀ p ∈ q.parts, TW p ∨ p ∈ hs) ∧ ∀ k h, k < i → hs[k]? = some h → ∃ q ∈ rs, q.name = h) ⟨[], _, rfl, rfl, rfl, by simp, by simp, by simp, by omega⟩ (fun _ _ _ _ _ => trivial) ?_ ?_
 ·rintro i w τ M' hw ⟨rs, o3, rfl, rfl, hl, t1, t2, t3, t4⟩
  have hil := (List.getElem?_eq_some_iff.mp hw).1
  rw [lQ] at hil
  have hwi : w = .int ((0 : Int) + (i : Int)) := by
   unfold l8 at hw
   rw [List.getElem?_map] at hw
   obtain ⟨j, hj, rfl⟩ := Option.map_eq_some_iff.mp hw
   obtain ⟨g1, g2⟩ := List.getElem?_eq_some_iff.mp hj
   rw [List.getElem_range] at g2
   rw [g2]
  subst hwi
  simp? only [F3]
  refine ⟨_, _, .inl rfl, hi, by omega, fun x2 => ?_⟩
  refine ⟨x2, _, hs, rfl, by omega, h0, h1, tn, fun q tq qn qp qk => ?_⟩
  simp? only []
  refine ⟨by rw [List.length_map]; exact sS (by omega), _, Sub.refl _, rs ++ [q], _, rfl, by rw [List.map_append]; rfl, by rw [List.length_append]; simp [hl], fun y hy => ?_, fun y hy => ?_, fun y hy => ?_, fun k h hk hh => ?_⟩
  ·rcases List.mem_append.mp hy with hy | hy
   ·exact t1 y hy
   ·rw [List.mem_singleton.mp hy]; exact tq
  ·rcases List.mem_append.mp hy with hy | hy
   ·exact t2 y hy
   ·rw [List.mem_singleton.mp hy]; exact qn
  ·rcases List.mem_append.mp hy with hy | hy
   ·exact t3 y hy
   ·rw [List.mem_singleton.mp hy]; exact qp
  ·rcases Nat.eq_or_lt_of_le (Nat.le_of_lt_succ hk) with rfl | hk
   ·refine ⟨q, List.mem_append_right _ (List.mem_singleton.mpr rfl), qk h ?_⟩
    rw [show ((0 : Int) + (k : Int)).toNat = k by omega]; exact hh
   ·obtain ⟨q', hq', e⟩ := t4 k h hk hh
    exact ⟨q', List.mem_append_left _ hq', e⟩
 ·rintro τ M' ⟨rs, o3, rfl, rfl, hl, t1, t2, t3, t4⟩
  rw [lQ] at hl t4
  simp? only [F5]
  have g : oX rs := ZC (hs := hs) (by intro z; rw [z] at hl; simp at hl; omega) (by omega) (by omega) tn t1 t2 t3 fun h hh => by
   obtain ⟨k, hk⟩ := List.getElem?_of_mem hh
   have := (List.getElem?_eq_some_iff.mp hk).1
   exact t4 k h (by omega) hk
  exact ⟨_, Sub.refl _, r rs g t1 (by omega) a ha⟩
end Rg
set_option Elab.async false
set_option compiler.extract_closed false
set_option bootstrap.genMatcherCode false
set_option linter.all false
set_option maxRecDepth 100000
set_option maxHeartbeats 4000000
namespace Rg
open PySem PySem.Spec PyProof.Rows L2 L3
theorem ZE : NM .non := fun n z => W.noConfusion z
theorem HJ (p : Addr) : NM (.ref p) := fun n z => W.noConfusion z
theorem qX (i : Int) : NM (.int i) := fun n z => W.noConfusion z
theorem HK (l : List W) : NM (.tup l) := fun n z => W.noConfusion z
theorem HL (l : List W) : NM (.rl l) := fun n z => W.noConfusion z
theorem ZF {ws : List W} {M : Mm} {R : K3} (h : pQ ws M R) : qP (aX R) (b5 wF ws) M := by
 obtain ⟨q, ns, rfl, hp, r1, r2⟩ := h
 show qP (aX R) [some (cB q), some (.rl (ns.map W.str)), none] M
 simp? only [qP, cB, hG]
 by_cases hc : q.cost < 0
 ·rw [if_pos hc]
  exact ⟨_, Sub.refl _, r2 fun o => by have := o.1; omega⟩
 rw [if_neg hc]
 refine iT (fun i τ M' => ∃ o, τ = [some (cB q), some (.rl (ns.map W.str)), o] ∧ M' = M ∧ ∀ t ∈ q.parts.take i, isNameB t = true → t ∈ ns) ⟨_, rfl, rfl, by simp⟩ (fun _ _ _ _ _ => trivial) ?_ ?_
 ·rintro i w τ M' hw ⟨o, rfl, rfl, hb⟩
  rw [List.getElem?_map] at hw
  obtain ⟨t, ht, rfl⟩ := Option.map_eq_some_iff.mp hw
  have htm := List.mem_of_getElem? ht
  simp? only [GV, L3.rIn, DQ, DR, c5, hG, xM]
  refine ⟨t, rfl, hp t htm, ?_⟩
  have nx : (isNameB t = true → t ∈ ns) → ∀ u ∈ q.parts.take (i + 1), isNameB u = true → u ∈ ns := fun h u hu => by
   rw [List.take_add_one, ht] at hu
   rcases List.mem_append.mp hu with z | z
   ·exact hb u z
   ·simp at z; subst z; exact h
  simp? only []
  split
  ·rename_i hn
   by_cases hin : t ∈ ns
   ·rw [if_neg (by simpa using hin)]
    exact ⟨_, Sub.refl _, _, rfl, rfl, nx fun _ => hin⟩
   ·rw [if_pos (by simpa using hin)]
    have h1 := hp t htm
    have h2 : (Str.empty ++ ("no rule is of the name " : Str)).length = 23 := by decide +kernel
    have h3 : sizeLine = 16777216 := sizeLine_eq
    refine ⟨by omega, ?_, _, Sub.refl _, r2 fun o => hin (o.2 t htm hn)⟩
    rw [strLen_append, h2]
    omega
  ·rename_i hn
   exact ⟨_, Sub.refl _, _, rfl, rfl, nx fun z => absurd z hn⟩
 ·rintro τ M' ⟨o, rfl, rfl, hb⟩
  rw [List.length_map, List.take_length] at hb
  exact ⟨_, Sub.refl _, r1 ⟨by omega, hb⟩⟩
theorem ZG {ws : List W} {M : Mm} {R : K3} (h : nU ws M R) : qQ (aX R) (b5 wG ws) M := by
 obtain ⟨rs, rfl, hl, ft, r1, r2⟩ := h
 show qQ (aX R) [some (.rl (rs.map cB)), none, none] M
 simp? only [qQ, GW, DP, hG]
 by_cases hne : rs = []
 ·subst hne
  rw [if_pos (by simp)]
  exact ⟨_, Sub.refl _, r2 fun o => o.1 rfl⟩
 rw [if_neg (by rw [List.length_map]; cases rs; exact absurd rfl hne; simp; omega)]
 refine ⟨rs, rfl, hl, aZ.frz ?_⟩
 simp? only [GY]
 refine iT (fun i τ M' => ∃ o, τ = [some (.rl (rs.map cB)), some (.rl ((namesOf rs).map W.str)), o] ∧ M' = M ∧ ∀ r ∈ rs.take i, tI r (namesOf rs)) ⟨_, rfl, rfl, by simp⟩ (fun _ _ _ _ _ => trivial) ?_ ?_
 ·rintro i w τ M' hw ⟨o, rfl, rfl, hb⟩
  rw [List.getElem?_map] at hw
  obtain ⟨t, ht, rfl⟩ := Option.map_eq_some_iff.mp hw
  have htm := List.mem_of_getElem? ht
  simp? only [GX, xK]
  refine ⟨t, _, rfl, ft t htm, fun o => .inl ⟨ZE, _, Sub.refl _, _, rfl, rfl, fun u hu => ?_⟩, fun o => .inr ⟨⟨_, rfl⟩, _, Sub.refl _, r2 fun z => o (z.2 t htm)⟩⟩
  rw [List.take_add_one, ht] at hu
  rcases List.mem_append.mp hu with z | z
  ·exact hb u z
  ·simp at z; subst z; exact o
 ·rintro τ M' ⟨o, rfl, rfl, hb⟩
  rw [List.length_map, List.take_length] at hb
  simp? only [GZ, kG]
  exact fun q hq => ⟨HJ q, _, Sub.refl _, r1 ⟨hne, hb⟩ q hq⟩
theorem ZH {ws : List W} {M : Mm} {R : K3} (h : nV ws M R) : qR (aX R) (b5 yT ws) M := by
 obtain ⟨ps, rfl, hp, hl, r0, r1⟩ := h
 show qR (aX R) [some (.rl (ps.map W.str))] M
 simp? only [qR, G0, kG]
 rcases tE ps with ⟨xs, z, rfl⟩ | ⟨e, h2⟩
 ·obtain ⟨k1, k2⟩ := r1 xs z kF
  have e1 : (xs ++ [(":" : Str), z]).map W.str = xs.map W.str ++ [.str ":", .str z] := by simp
  obtain ⟨l2, l1⟩ := t7 (xs := xs.map W.str) (a := .str ":") (b := .str z)
  have nw := VZ z
  rw [e1, if_neg (by simp; omega)]
  simp? only [l2]
  simp? only [G1, l1, hG]
  refine ⟨z, rfl, hp z (by simp), ?_⟩
  cases hw : o9 z with
  | false =>
   rw [hw, Bool.false_and] at nw
   simp? only []
   exact ⟨_, Sub.refl _, k2 nw⟩
  | true =>
   rw [hw, Bool.true_and] at nw
   simp? only []
   by_cases h0 : z = "0"
   ·rw [decide_eq_true h0] at nw
    rw [if_pos h0]
    exact ⟨_, Sub.refl _, k2 nw⟩
   ·rw [decide_eq_false h0] at nw
    rw [if_neg h0]
    obtain ⟨_, q2, _, q4⟩ := wU nw
    have h60 := (ED.mp nw).2.1
    simp? only [G2, l1, wN.eq_1, kG]
    exact ⟨(kE z : Int), by omega, q4, qX _, _, Sub.refl _, k1 nw⟩
 ·rcases h2 with h2 | ⟨xs, a, b, rfl, ha⟩
  ·rw [if_pos (by rw [List.length_map]; omega)]
   exact ⟨qX _, _, Sub.refl _, r0 e⟩
  ·have e1 : (xs ++ [a, b]).map W.str = xs.map W.str ++ [.str a, .str b] := by simp
   obtain ⟨l2, l1⟩ := t7 (xs := xs.map W.str) (a := .str a) (b := .str b)
   rw [e1, if_neg (by simp; omega)]
   simp? only [l2]
   rw [if_pos ha]
   exact ⟨qX _, _, Sub.refl _, r0 e⟩
theorem HM {a b : Str} {rest : List Str} (h : cI a = false ∨ b ≠ "=") : cX (a :: b :: rest) = none := by
 have key : ∀ ps c, eI a b ps c = none := fun ps c => by
  unfold eI
  rw [if_neg]
  rw [Bool.and_eq_true, Bool.and_eq_true, decide_eq_true_eq]
  rintro ⟨⟨h1, h2⟩, _⟩
  rcases h with h | h
  ·rw [h1] at h; cases h
  ·exact h h2
 rw [cX]
 split
 ·exact key _ _
 ·split
  ·exact key _ _
  ·rfl
theorem t9 {a b : W} {l : List W} : b8 (a :: b :: l) (some 2) none = l := by rw [DC (by decide)]; rfl
theorem ZI {a b : Str} {xs : List Str} {c z : Str} : b8 ((a :: b :: (xs ++ [c, z])).map W.str) (some 2) (some (-2)) = xs.map W.str := by
 unfold b8
 have hlen : ((a :: b :: (xs ++ [c, z])).map W.str).length = xs.length + 4 := by simp
 have s1 : HT.sIx (xs.length + 4) 0 (some 2) = 2 := by rw [show (2 : Int) = ((2 : Nat) : Int) from rfl, HT.sIx_nat]; omega
 have s2 : HT.sIx (xs.length + 4) (xs.length + 4) (some (-2)) = xs.length + 2 := by
  show (if (-2 : Int) < 0 then ((-2 : Int) + ((xs.length + 4 : Nat) : Int)).toNat else min (-2 : Int).toNat (xs.length + 4)) = _
  rw [if_pos (by decide)]; omega
 rw [hlen, s1, s2]
 show List.take _ ((xs ++ [c, z]).map W.str) = _
 rw [List.map_append, show xs.length + 2 - 2 = (xs.map W.str).length by simp, List.take_left]
theorem ZJ {a b : Str} {xs : List Str} {c z : Str} : b8 ((a :: b :: (xs ++ [c, z])).map W.str) none (some (-2)) = (a :: b :: xs).map W.str := by
 unfold b8
 have hlen : ((a :: b :: (xs ++ [c, z])).map W.str).length = xs.length + 4 := by simp
 have s1 : HT.sIx (xs.length + 4) 0 none = 0 := rfl
 have s2 : HT.sIx (xs.length + 4) (xs.length + 4) (some (-2)) = xs.length + 2 := by
  show (if (-2 : Int) < 0 then ((-2 : Int) + ((xs.length + 4 : Nat) : Int)).toNat else min (-2 : Int).toNat (xs.length + 4)) = _
  rw [if_pos (by decide)]; omega
 rw [hlen, s1, s2]
 show List.take _ ((a :: b :: (xs ++ [c, z])).map W.str) = _
 rw [show (a :: b :: (xs ++ [c, z])) = (a :: b :: xs) ++ [c, z] from rfl, List.map_append, show xs.length + 2 - 0 = ((a :: b :: xs).map W.str).length by simp, List.take_left]
def HN : W → W
 | .str p => .bl (eG p)
 | _ => .non
theorem ZK {ws : List W} {M : Mm} {R : K3} (h : nW ws M R) : qS (aX R) (b5 yU ws) M := by
 obtain ⟨z, rfl, hz, ha, r1, r2⟩ := h
 show qS (aX R) [some (.str z), none, none, none] M
 have hsub : ∀ p ∈ bT 32 z, p.length ≤ 40000 := fun p hp => by have := (lJ hp).2; omega
 have hlen := pA 32 z
 have hne := EE 32 z
 simp? only [qS, G3, iC.eq_1]
 refine ⟨32, HD, by omega, fun a h => by have := ha a h; omega, by decide, aZ.frz ?_⟩
 generalize bT 32 z = ps at r1 r2 hsub hlen hne
 match ps, hne with
 | [a], _ =>
  simp? only [yV, hG]
  rw [if_pos (by simp)]
  exact ⟨_, Sub.refl _, r2 rfl⟩
 | a :: b :: rest, _ =>
  have hal := hsub a (by simp)
  have hrest : ∀ p ∈ rest, p.length ≤ 40000 := fun p hp => hsub p (by simp [hp])
  simp? only [yV, hG, List.map_cons]
  rw [if_neg (by simp; omega)]
  refine ⟨a, rfl, hal, ?_⟩
  cases hw : cI a with
  | false =>
   simp? only []
   exact ⟨_, Sub.refl _, r2 (HM (.inl hw))⟩
  | true =>
   simp? only []
   by_cases hb : b = "="
   ·rw [if_neg (by simp [hb])]
    have tail : ∀ (qs : List Str) (c : Int) (ps : List W), ps = qs.map W.str → (∀ p ∈ qs, p.length ≤ 40000) → qs.length ≤ 50000 → (∀ r, eI a b qs c = some r → R (cB r) M) → (eI a b qs c = none → R (.ty "NoText") M) →
      (aL tY tZ) (aX R) [some (.str z), some (.rl (.str a :: .str b :: rest.map W.str)), some (.int c), some (.rl ps)] M := by
     rintro qs c ps rfl hq hql k1 k2
     simp? only [tY, hG]
     refine lE (rest := []) HN (iV (by rw [List.length_map]; omega)) (fun _ _ => trivial) (fun w hw M' C sb h1 => ?_) (aZ.frz ?_)
     ·obtain ⟨p, hp, rfl⟩ := List.mem_map.mp hw
      have hl := hq p hp
      have h1 : C (.bl (eG p)) M' := h1
      unfold eG at h1
      simp? only []
      refine ⟨p, rfl, by omega, ?_⟩
      simp? only []
      cases hw : kD p with
      | true => rw [if_pos rfl]; rw [hw, Bool.true_or] at h1; exact h1
      | false =>
       rw [if_neg (by simp)]
       rw [hw, Bool.false_or] at h1
       exact ⟨p, rfl, by omega, h1⟩
     ·have eb : (qs.map W.str).map HN = bools (qs.map eG) := by unfold bools; rw [List.map_map, List.map_map]; rfl
      rw [eb]
      simp? only [j8.eq_2]
      refine ⟨_, rfl, ?_⟩
      rw [List.all_map]
      cases hall : qs.all (id ∘ eG) with
      | true =>
       have hr : eI a b qs c = some ⟨a, qs, c⟩ := by
        unfold eI
        rw [if_pos]
        rw [hw, hb, decide_eq_true rfl]
        simpa using hall
       simp? only []
       simp? only [tZ, kG]
       exact ⟨HK _, _, Sub.refl _, k1 _ hr⟩
      | false =>
       have hr : eI a b qs c = none := by
        unfold eI
        rw [if_neg]
        rw [Bool.and_eq_true]
        rintro ⟨_, h⟩
        have : qs.all (id ∘ eG) = true := h
        rw [hall] at this; cases this
       simp? only []
       exact ⟨_, Sub.refl _, k2 hr⟩
    obtain ⟨tl, htl⟩ : ∃ x, x = (aL tY tZ) := ⟨_, rfl⟩
    rw [← htl] at tail ⊢
    simp? only [G4, xP, kH, t9]
    have hrl : rest.length ≤ 50000 := by simp at hlen; omega
    refine ⟨rest, rfl, hrest, hrl, fun e => .inl ⟨qX 0, ?_⟩, fun qs z' e => ⟨fun hn => .inl ⟨qX _, ?_⟩, fun hn => .inr ⟨⟨_, rfl⟩, _, Sub.refl _, r2 ?_⟩⟩⟩
    ·simp? only [yW, t9]
     refine tail rest 0 _ rfl hrest hrl (fun r h => r1 r ?_) fun h => r2 ?_
     ·rw [cX, e]; exact h
     ·rw [cX, e]; exact h
    ·obtain ⟨q1, _⟩ := wU hn
     rcases tE rest with ⟨xs, y, rfl⟩ | ⟨e2, _⟩
     ·rw [kF] at e
      cases e
      simp? only [yW]
      rw [if_neg (by omega)]
      refine tail qs (kE z') _ ?_ (fun p hp => hrest p (by simp [hp])) (by simp at hrl; omega) (fun r h => r1 r ?_) fun h => r2 ?_
      ·exact ZI
      ·rw [cX, kF]; simp only; rw [if_pos hn]; exact h
      ·rw [cX, kF]; simp only; rw [if_pos hn]; exact h
     ·rw [e2] at e; cases e
    ·rw [cX, e]
     simp only
     rw [if_neg (by rw [hn]; simp)]
   ·rw [if_pos hb]
    exact ⟨_, Sub.refl _, r2 (HM (.inr hb))⟩
end Rg
set_option Elab.async false
set_option compiler.extract_closed false
set_option bootstrap.genMatcherCode false
set_option linter.all false
set_option maxRecDepth 100000
set_option maxHeartbeats 4000000
namespace Rg
open PySem PySem.Spec PyProof.Rows L2 L3
theorem ZL {ws : List W} {M : Mm} {R : K3} (h : lP ws M R) : qM (aX R) (b5 yL ws) M := by
 obtain ⟨z, rfl, hz, r⟩ := h
 show qM (aX R) [some (.str z), none, none, none, none] M
 obtain ⟨h1, h3⟩ := wJ z
 have e := V3 z
 simp? only [qM, GL, GN, GO, L3.mC]
 refine ⟨by decide +kernel, by omega, _, _, _, rfl, by omega, ?_⟩
 simp? only []
 generalize (Txt.partition z "_").1 = p1 at *
 generalize (Txt.partition z "_").2.1 = p2 at *
 generalize (Txt.partition z "_").2.2 = p3 at *
 have e1 : decide ((p1.length : Int) ≤ 8) = decide (p1.length ≤ 8) := by rw [Bool.eq_iff_iff, decide_eq_true_eq, decide_eq_true_eq]; omega
 have e3 : decide ((p3.length : Int) ≤ 4) = decide (p3.length ≤ 4) := by rw [Bool.eq_iff_iff, decide_eq_true_eq, decide_eq_true_eq]; omega
 rw [e1]
 have e4 : b3 p1 (Str.ofString "ABCDEFGHIJKLMNOPQRSTUVWXYZ") = b3 p1 dP := rfl
 rw [e4]
 cases hg : (b3 p1 dP && decide (p1.length ≤ 8)) with
 | false =>
  rw [hg, Bool.false_and] at e
  rw [e] at r
  simp? only []
  exact ⟨_, Sub.refl _, r⟩
 | true =>
  rw [hg, Bool.true_and] at e
  simp? only []
  by_cases h2 : p2 = ""
  ·rw [decide_eq_true h2, Bool.true_or] at e
   rw [e] at r
   rw [if_pos h2]
   exact ⟨_, Sub.refl _, r⟩
  ·rw [decide_eq_false h2, Bool.false_or] at e
   rw [if_neg h2]
   refine ⟨_, _, _, rfl, by omega, _, Sub.refl _, ?_⟩
   rw [e3, show b3 p3 (Str.ofString "0123456789") = b3 p3 dQ from rfl, ← e]
   exact r
theorem ZM {ws : List W} {M : Mm} {R : K3} (h : p4 ws M R) : qN (aX R) (b5 yM ws) M := by
 obtain ⟨z, rfl, hz, ha, r1, r2⟩ := h
 show qN (aX R) [some (.str z), none, none] M
 have hsub : ∀ p ∈ bT 32 z, p.length ≤ 40000 := fun p hp => by have := (lJ hp).2; omega
 have hlen := pA 32 z
 have hne := EE 32 z
 obtain ⟨T2, hT2⟩ : ∃ x, x = (aL tX (aL yN yO)) := ⟨_, rfl⟩
 simp? only [qN, GP, iC.eq_1]
 rw [← hT2]
 refine ⟨32, HD, by omega, fun a h => by have := ha a h; omega, by decide, aZ.frz ?_⟩
 generalize bT 32 z = ps at r1 r2 hsub hlen hne
 match ps, hne with
 | [a], _ =>
  simp? only [tW]
  rw [if_neg (by simp)]
  subst hT2
  simp? only [tX]
  rw [if_pos (by simp)]
  exact ⟨_, Sub.refl _, r2 rfl⟩
 | a :: b :: rest, _ =>
  have hal := hsub a (by simp)
  have hrest : ∀ p ∈ rest, p.length ≤ 40000 := fun p hp => hsub p (by simp [hp])
  have tail : ∀ (qs : List Str) (c : Int), (∀ p ∈ qs, p.length ≤ 40000) → (∀ r, eI a b qs c = some r → R (.rl ((r.name :: "=" :: r.parts).map W.str)) M) → (eI a b qs c = none → R .non M) →
    T2 (aX R) [some (.str z), some (.rl ((a :: b :: qs).map W.str)), none] M := by
   intro qs c hq k1 k2
   have bad : (cI a = false ∨ b ≠ "=" ∨ ∃ p ∈ qs, eG p = false) → eI a b qs c = none := fun h => by
    unfold eI
    rw [if_neg]
    rw [Bool.and_eq_true, Bool.and_eq_true, decide_eq_true_eq, List.all_eq_true]
    rintro ⟨⟨g1, g2⟩, g3⟩
    rcases h with h | h | ⟨p, hp, h⟩
    ·rw [g1] at h; cases h
    ·exact h g2
    ·rw [g3 p hp] at h; cases h
   subst hT2
   simp? only [tX, List.map_cons]
   rw [if_neg (by simp; omega)]
   by_cases hb : b = "="
   ·rw [if_neg (by simp [hb])]
    refine ⟨a, rfl, hal, ?_⟩
    cases hw : cI a with
    | false =>
     simp? only []
     exact ⟨_, Sub.refl _, k2 (bad (.inl hw))⟩
    | true =>
     simp? only []
     simp? only [yN, t9]
     refine iT (fun i τ M' => ∃ o, τ = [some (.str z), some (.rl (.str a :: .str b :: qs.map W.str)), o] ∧ M' = M ∧ ∀ p ∈ qs.take i, eG p = true) ⟨_, rfl, rfl, by simp⟩ (fun _ _ _ _ _ => trivial) ?_ ?_
     ·rintro i w τ M' hw' ⟨o, rfl, rfl, hp⟩
      rw [List.getElem?_map] at hw'
      obtain ⟨p, hpi, rfl⟩ := Option.map_eq_some_iff.mp hw'
      have hpm := List.mem_of_getElem? hpi
      have hpl := hq p hpm
      have nx : eG p = true → ∀ u ∈ qs.take (i + 1), eG u = true := fun h u hu => by
       rw [List.take_add_one, hpi] at hu
       rcases List.mem_append.mp hu with y | y
       ·exact hp u y
       ·simp at y; subst y; exact h
      have eP : eG p = ((b3 p i4 && decide ((p.length : Int) ≤ 8)) || cI p) := by
       unfold eG kD
       have : decide ((p.length : Int) ≤ 8) = decide (p.length ≤ 8) := by rw [Bool.eq_iff_iff, decide_eq_true_eq, decide_eq_true_eq]; omega
       rw [this, Bool.and_comm]
      simp? only [GQ]
      refine ⟨_, _, _, rfl, hpl, ?_⟩
      rw [show b3 p (Str.ofString "abcdefghijklmnopqrstuvwxyz") = b3 p i4 from rfl]
      cases h1 : (b3 p i4 && decide ((p.length : Int) ≤ 8)) with
      | true =>
       rw [h1, Bool.true_or] at eP
       simp? only []
       exact ⟨_, Sub.refl _, _, rfl, rfl, nx eP⟩
      | false =>
       rw [h1, Bool.false_or] at eP
       simp? only []
       refine ⟨p, rfl, hpl, ?_⟩
       cases h2 : cI p with
       | true =>
        rw [h2] at eP
        simp? only []
        exact ⟨_, Sub.refl _, _, rfl, rfl, nx eP⟩
       | false =>
        rw [h2] at eP
        simp? only []
        exact ⟨_, Sub.refl _, k2 (bad (.inr (.inr ⟨p, hpm, eP⟩)))⟩
     ·rintro τ M' ⟨o, rfl, rfl, hp⟩
      rw [List.length_map, List.take_length] at hp
      simp? only [yO]
      refine ⟨_, Sub.refl _, ?_⟩
      have hr : eI a b qs c = some ⟨a, qs, c⟩ := by
       unfold eI
       rw [if_pos]
       rw [hw, hb, decide_eq_true rfl]
       simpa using hp
      have := k1 _ hr
      rw [hb]
      exact this
   ·rw [if_pos hb]
    exact ⟨_, Sub.refl _, k2 (bad (.inr (.inl hb)))⟩
  rcases tE rest with ⟨xs, y, rfl⟩ | ⟨e, h2⟩
  ·obtain ⟨l2, l1⟩ := t7 (xs := .str a :: .str b :: xs.map W.str) (a := .str ":") (b := .str y)
   have e1 : W.str a :: W.str b :: (xs ++ [(":" : Str), y]).map W.str = .str a :: .str b :: xs.map W.str ++ [.str ":", .str y] := by simp
   have hy := hrest y (by simp)
   have hc := ZJ (a := a) (b := b) (xs := xs) (c := ":") (z := y)
   simp? only [tW]
   rw [if_pos (by simp; omega)]
   rw [List.map_cons, List.map_cons, e1] at hc
   rw [e1]
   simp? only [l2, l1]
   refine ⟨_, _, _, rfl, hy, ?_⟩
   rw [show b3 y (Str.ofString "0123456789") = b3 y dQ from rfl]
   have e60 : decide ((y.length : Int) ≤ 60) = decide (y.length ≤ 60) := by rw [Bool.eq_iff_iff, decide_eq_true_eq, decide_eq_true_eq]; omega
   rw [e60]
   have eN : iX y = ((b3 y dQ && decide (y.length ≤ 60)) && decide ((cs y).head? ≠ some 48)) := by unfold iX; rw [Bool.and_assoc]
   cases hm : (b3 y dQ && decide (y.length ≤ 60)) with
   | false =>
    rw [hm, Bool.false_and] at eN
    simp? only []
    refine ⟨_, Sub.refl _, r2 ?_⟩
    rw [cX, kF]; simp only; rw [if_neg (by rw [eN]; simp)]
   | true =>
    rw [hm, Bool.true_and] at eN
    simp? only []
    obtain ⟨hne', _⟩ := mE.mp (Bool.and_eq_true_iff.mp hm).1
    obtain ⟨c, q, e2⟩ := List.exists_cons_of_ne_nil hne'
    refine ⟨by omega, c, ?_, ?_⟩
    ·show cC (cs y) 0 = some c
     rw [e2]; exact v9 _ _
    have key : ((⟨#[c]⟩ : Str) = "0") ↔ c = 48 := by
     constructor
     ·intro h
      have := congrArg cs h
      rw [sY] at this
      have : [c] = [48] := this
      cases this; rfl
     ·intro h; apply h9; rw [sY, h]; rfl
    by_cases h0 : c = 48
    ·rw [if_pos (key.mpr h0)]
     refine ⟨_, Sub.refl _, r2 ?_⟩
     rw [cX, kF]; simp only; rw [if_neg (by rw [eN, e2, h0]; simp)]
    ·rw [if_neg (fun h => h0 (key.mp h))]
     have hn : iX y = true := by rw [eN, e2]; simpa using h0
     rw [hc]
     refine tail xs (kE y) (fun p hp => hrest p (by simp [hp])) (fun r h => r1 r ?_) fun h => r2 ?_
     ·rw [cX, kF]; simp only; rw [if_pos hn]; exact h
     ·rw [cX, kF]; simp only; rw [if_pos hn]; exact h
  ·have fin := tail rest 0 hrest (fun r h => r1 r (by rw [cX, e]; exact h)) fun h => r2 (by rw [cX, e]; exact h)
   simp? only [tW]
   rcases h2 with h2 | ⟨xs, c, d, rfl, hcd⟩
   ·rw [if_neg (by simp; omega)]
    exact fin
   ·obtain ⟨l2, l1⟩ := t7 (xs := .str a :: .str b :: xs.map W.str) (a := .str c) (b := .str d)
    have e1 : W.str a :: W.str b :: (xs ++ [c, d]).map W.str = .str a :: .str b :: xs.map W.str ++ [.str c, .str d] := by simp
    rw [if_pos (by simp; omega)]
    rw [List.map_cons, List.map_cons, e1] at fin
    rw [e1]
    simp? only [l2]
    rw [if_neg hcd]
    exact fin
end Rg
set_option Elab.async false
set_option compiler.extract_closed false
set_option bootstrap.genMatcherCode false
set_option linter.all false
set_option maxRecDepth 100000
set_option maxHeartbeats 4000000
namespace Rg
open PySem PySem.Spec PyProof.Rows L2 L3
theorem HP : ∀ {l : List Str} {ys : List W}, Paired (fun w y => ∃ row r, w = W.str row ∧ cX (bT 32 row) = some r ∧ y = cB r) (l.map W.str) ys → ∃ rs, gL (fun row => cX (bT 32 row)) l = some rs ∧ ys = rs.map cB
 | [], _, .nil => ⟨[], rfl, rfl⟩
 | a :: l, _, .cons ⟨row, r, e1, e2, e3⟩ t => by
  obtain ⟨rs, h1, h2⟩ := HP t
  cases W.str.inj e1
  exact ⟨r :: rs, by simp only [gL, e2, h1], by rw [e3, h2]; rfl⟩
theorem ZN {ws : List W} {M : Mm} {R : K3} (h : pR ws M R) : qT (aX R) (b5 yX ws) M := by
 obtain ⟨z, rfl, t, r0, r1⟩ := h
 show qT (aX R) [some (.str z)] M
 have hz := t.len
 have hrows := t.rows
 have hsub : ∀ p ∈ bT 10 z, p.length ≤ 40000 ∧ gZ p := fun p hp => ⟨by have := (lJ hp).2; omega, fun c hc => t.asc c ((lJ hp).1 c hc)⟩
 simp? only [qT, xO, kH, iC.eq_1]
 refine ⟨10, y8, by omega, fun a h => by have := t.asc a h; omega, by decide, aZ.frz ?_⟩
 refine v5 (rest := []) (fun w y => ∃ row r, w = W.str row ∧ cX (bT 32 row) = some r ∧ y = cB r) (iV (by rw [List.length_map]; have := pA 10 z; omega)) (fun _ _ => trivial) (fun w hw M' C sb h1 => ?_) fun ys hys => aZ.frz ?_
 ·obtain ⟨row, hrow, rfl⟩ := List.mem_map.mp hw
  refine ⟨_, rfl, ?_⟩
  refine ⟨row, rfl, (hsub row hrow).1, (hsub row hrow).2, fun r e => .inl ⟨HK _, h1 _ ⟨row, r, rfl, e, rfl⟩⟩, fun e => .inr ⟨⟨_, rfl⟩, _, sb, r0 ?_⟩⟩
  exact tB.mpr ⟨row, hrow, e⟩
 ·obtain ⟨rs, e1, rfl⟩ := HP hys
  have e1 : jY z = some rs := e1
  obtain ⟨k1, k2⟩ := r1 rs e1
  obtain ⟨hq, _⟩ := nN e1
  have hl := tJ e1
  refine ⟨rs, rfl, by omega, fun r hr p hp => by have := (tF ((hq r hr).pt p hp)).1; omega, fun o p hp => .inl ⟨HJ p, ?_⟩, fun o => .inr ⟨⟨_, rfl⟩, _, Sub.refl _, k2 o⟩⟩
  exact vF hp ⟨HL _, _, Sub.refl _, k1 o⟩
theorem ZO {r : a9} (h : lK r) : ∀ p ∈ piecesOf r, p.length ≤ 60 := by
 intro p hp
 unfold piecesOf at hp
 rcases List.mem_append.mp hp with hp | hp
 ·rcases List.mem_append.mp hp with hp | hp
  ·simp at hp
   rcases hp with rfl | rfl
   ·have := (wY h.nm).1; omega
   ·decide +kernel
  ·have := (tF (h.pt p hp)).1; omega
 ·unfold iW at hp
  split at hp
  ·cases hp
  ·simp at hp
   have hn : r.cost.toNat < 10 ^ 60 := by have := h.hi; have := h.lo; omega
   rcases hp with rfl | rfl
   ·decide +kernel
   ·exact o7 hn
theorem ZP {ws : List W} {M : Mm} {R : K3} (h : pO ws M R) : qB (aX R) (b5 xX ws) M := by
 obtain ⟨q, rfl, t, hf, r⟩ := h
 show qB (aX R) [some (cB q), none] M
 have hj : Joins " " (piecesOf q) := ⟨60, ZO t, by
  have e : (" " : Str).length = 1 := by decide +kernel
  have : (piecesOf q).length ≤ q.parts.length + 4 := by unfold piecesOf iW; split <;> simp <;> omega
  rw [e]; omega⟩
 simp? only [qB, FO, cB]
 have hs : sizeLine = 16777216 := sizeLine_eq
 refine ⟨by rw [List.length_map]; omega, ?_⟩
 intro a ha
 have e0 : [W.str q.name, W.str "="] ++ q.parts.map W.str = ([q.name, "="] ++ q.parts).map W.str := by simp
 rw [e0]
 simp? only [FP]
 by_cases hc : q.cost = 0
 ·rw [if_neg (by simp [hc])]
  simp? only [xY, eF.eq_2]
  have ep : piecesOf q = [q.name, "="] ++ q.parts := by unfold piecesOf iW; rw [if_pos hc, List.append_nil]
  rw [← ep]
  exact ⟨piecesOf q, rfl, hj, _, Sub.new ha, r⟩
 ·rw [if_pos hc]
  have mM := t.lo
  refine ⟨_, rfl, by omega, t.hi, ?_⟩
  simp? only []
  refine ⟨by rw [List.length_map]; simp; omega, ?_⟩
  have ep : piecesOf q = [q.name, "="] ++ q.parts ++ [(":" : Str), bS q.cost.toNat] := by unfold piecesOf iW; rw [if_neg hc]
  have e1 : ([q.name, "="] ++ q.parts).map W.str ++ [W.str ":", W.str (bS q.cost.toNat)] = (piecesOf q).map W.str := by rw [ep]; simp
  simp? only [xY, eF.eq_2]
  rw [e1]
  exact ⟨piecesOf q, rfl, hj, _, Sub.new ha, r⟩
def uA : W → W
 | .tup [.str n, .tup ps, .int c] => .str (cF ⟨n, ps.filterMap (fun | .str p => some p | _ => none), c⟩)
 | _ => .non
theorem HQ (r : a9) : uA (cB r) = .str (cF r) := by
 unfold cB uA
 have : (r.parts.map W.str).filterMap (fun | .str p => some p | _ => none) = r.parts := by
  rw [List.filterMap_map]
  show r.parts.filterMap (fun p => some p) = _
  exact List.filterMap_some
 simp only [this]
theorem ZQ {ws : List W} {M : Mm} {R : K3} (h : pP ws M R) : qC (aX R) (b5 xZ ws) M := by
 obtain ⟨rs, rfl, t, hl, r⟩ := h
 show qC (aX R) [some (.rl (rs.map cB))] M
 simp? only [qC]
 refine lE (rest := []) uA (iV (by rw [List.length_map]; omega)) (fun _ _ => trivial) (fun w hw M' C sb h1 => ?_) (aZ.frz ?_)
 ·obtain ⟨q, hq, rfl⟩ := List.mem_map.mp hw
  rw [HQ] at h1
  simp? only []
  exact ⟨q, rfl, (t q hq).1, (t q hq).2.1, h1⟩
 ·have e : (rs.map cB).map uA = (rs.map cF).map W.str := by
   rw [List.map_map, List.map_map]
   exact List.map_congr_left fun q _ => HQ q
  rw [e]
  simp? only [eF.eq_1]
  refine ⟨rs.map cF, rfl, ⟨40000, fun p hp => ?_, ?_⟩, _, Sub.refl _, r⟩
  ·obtain ⟨q, hq, rfl⟩ := List.mem_map.mp hp
   exact (t q hq).2.2
  ·have e : ("\n" : Str).length = 1 := by decide +kernel
   rw [e, List.length_map]; omega
end Rg
set_option Elab.async false
set_option compiler.extract_closed false
set_option bootstrap.genMatcherCode false
set_option linter.all false
set_option maxRecDepth 100000
set_option maxHeartbeats 4000000
namespace Rg
open PySem PySem.Spec PyProof.Rows L2 L3
theorem ZR {neg : Bool} {y : W} {ws : List W} {M : Mm} {R : K3} (n : Nat) (hn : n ≤ 40) (hy : Pl n (dG M y)) (hx : ∀ x ∈ ws, Pl n (dG M x)) (h : ∀ b : Bool, (b = true ↔ ∃ x ∈ ws, dG M x = dG M y) → R (.bl (if neg then !b else b)) M) : sW neg y (.rl ws) M R := by
 obtain ⟨dy, s1, s1', c1, e1⟩ := C8 (M := M) (n := n) (w := y) hy
 have all : ∀ {xs : List W}, (∀ x ∈ xs, Pl n (dG M x)) → ∃ ds, fD M xs ds ∧ (∀ d ∈ ds, mV d) ∧ ((ds.any fun d => PyData.eqv d dy) = true ↔ ∃ x ∈ xs, dG M x = dG M y) := by
  intro xs
  induction xs with
  | nil => intro _; exact ⟨[], .nil, by simp, by simp⟩
  | cons x xs ih =>
   intro hx
   obtain ⟨ds, g1, g2, g3⟩ := ih fun z hz => hx z (List.mem_cons_of_mem _ hz)
   obtain ⟨dx, t1, t1', c2, e2⟩ := C8 (M := M) (n := n) (w := x) (hx x List.mem_cons_self)
   refine ⟨dx :: ds, .cons t1 g1, fun d hd => ?_, ?_⟩
   ·rcases List.mem_cons.mp hd with rfl | hd
    ·exact ⟨c2, by omega⟩
    ·exact g2 d hd
   ·rw [List.any_cons, Bool.or_eq_true, g3, QH (hx x List.mem_cons_self) hy t1' s1']
    simp
 obtain ⟨ds, g1, g2, g3⟩ := all hx
 exact ⟨_, dy, ds, .inl rfl, s1, g1, ⟨c1, by omega⟩, g2, h _ g3⟩
def iY (r : a9) : W := .rl ((r.name :: "=" :: r.parts).map W.str)
def gM : W → W
 | .str row => match cX (bT 32 row) with
  | some r => iY r
  | none => .non
 | _ => .non
def HR : W → W
 | .rl (x :: _) => x
 | _ => .non
theorem ZS {r : a9} (h : lK r) {M : Mm} : Pl 2 (dG M (iY r)) := by
 intro w hw
 obtain ⟨p, hp, rfl⟩ := List.mem_map.mp hw
 show PyData.strOk p = true
 rcases List.mem_cons.mp hp with rfl | hp
 ·exact DJ (wY h.nm).2
 ·rcases List.mem_cons.mp hp with rfl | hp
  ·decide +kernel
  ·exact DJ (tF (h.pt p hp)).2
theorem ZT {ws : List W} {M : Mm} {R : K3} (h : p5 ws M R) : qO (aX R) (b5 yP ws) M := by
 obtain ⟨z, rfl, t, r⟩ := h
 show qO (aX R) [some (.str z), none, none, none, none] M
 have hz := t.len
 have hrows := t.rows
 have hsub : ∀ p ∈ bT 10 z, p.length ≤ 40000 ∧ gZ p := fun p hp => ⟨by have := (lJ hp).2; omega, fun c hc => t.asc c ((lJ hp).1 c hc)⟩
 obtain ⟨T2, hT2⟩ : ∃ x, x = (aL yQ (aL yR yS)) := ⟨_, rfl⟩
 simp? only [qO, GR, iC.eq_1]
 rw [← hT2]
 refine ⟨10, y8, by omega, fun a h => by have := t.asc a h; omega, by decide, aZ.frz ?_⟩
 refine lE (rest := []) gM (iV (by rw [List.length_map]; have := pA 10 z; omega)) (fun _ _ => trivial) (fun w hw M' C sb h1 => ?_) (aZ.frz ?_)
 ·obtain ⟨row, hrow, rfl⟩ := List.mem_map.mp hw
  simp? only []
  refine ⟨row, rfl, (hsub row hrow).1, (hsub row hrow).2, fun q e => ?_, fun e => ?_⟩
  ·have e2 : gM (.str row) = iY q := by simp only [gM, e]
   rw [e2] at h1; exact h1
  ·have e2 : gM (.str row) = .non := by simp only [gM, e]
   rw [e2] at h1; exact h1
 ·simp? only [GS]
  refine ZR 2 (by decide) trivial (fun w hw => ?_) fun b hb => ?_
  ·rw [List.map_map] at hw
   obtain ⟨row, hrow, rfl⟩ := List.mem_map.mp hw
   show Pl 2 (dG M (gM (.str row)))
   cases e : cX (bT 32 row) with
   | none => simp only [gM, e]; exact trivial
   | some q => simp only [gM, e]; exact ZS (wX e).1
  ·have hbn : b = true ↔ jY z = none := by
    rw [hb]
    constructor
    ·rintro ⟨w, hw, e⟩
     rw [List.map_map] at hw
     obtain ⟨row, hrow, rfl⟩ := List.mem_map.mp hw
     refine tB.mpr ⟨row, hrow, ?_⟩
     cases e2 : cX (bT 32 row) with
     | none => rfl
     | some q =>
      exfalso
      have e3 : dG M (gM (.str row)) = dG M .non := e
      simp only [gM, e2] at e3
      exact W.noConfusion (show iY q = .non from e3)
    ·intro e
     obtain ⟨row, hrow, e2⟩ := tB.mp e
     refine ⟨gM (.str row), ?_, ?_⟩
     ·rw [List.map_map]; exact List.mem_map.mpr ⟨row, hrow, rfl⟩
     ·simp only [gM, e2]
   unfold lL at r
   cases hg : jY z with
   | none =>
    rw [hg] at r
    rw [hbn.mpr hg]
    simp? only []
    exact ⟨_, Sub.refl _, r⟩
   | some rs =>
    rw [hg] at r
    simp only at r
    have hbf : b = false := by
     cases hb2 : b with
     | false => rfl
     | true => rw [hbn.mp hb2] at hg; cases hg
    rw [hbf]
    simp? only []
    obtain ⟨hq, _⟩ := nN hg
    have hl := tJ hg
    have hlist : ((bT 10 z).map W.str).map gM = rs.map iY := by
     have key : ∀ {l : List Str} {rs : List a9}, l.map (fun row => cX (bT 32 row)) = rs.map some → (l.map W.str).map gM = rs.map iY := by
      intro l
      induction l with
      | nil => intro rs e; cases rs with | nil => rfl | cons a b => simp at e
      | cons a l ih =>
       intro rs e
       cases rs with
       | nil => simp at e
       | cons q rs =>
        rw [List.map_cons, List.map_cons, List.cons.injEq] at e
        rw [List.map_cons, List.map_cons, ih e.2, List.map_cons]
        simp only [gM, e.1]
     exact key (tD hg)
    rw [hlist]
    subst hT2
    simp? only [yQ]
    refine lE (rest := []) HR (iV (by rw [List.length_map]; omega)) (fun _ _ => trivial) (fun w hw M' C sb h1 => ?_) (aZ.frz ?_)
    ·obtain ⟨q, hqm, rfl⟩ := List.mem_map.mp hw
     simp? only [iY, List.map_cons]
     exact h1
    ·have hheads : (rs.map iY).map HR = (rs.map a9.name).map W.str := by rw [List.map_map, List.map_map]; rfl
     rw [hheads]
     have bad : ∀ q ∈ rs, ∀ p ∈ q.parts, cI p = true → p ∉ rs.map a9.name → R (.str "grammar") M := fun q hqm p hp hw hno => by
      have hnot : ¬ tH rs := fun o => hno (o q hqm p hp hw)
      rw [if_neg hnot] at r; exact r
     simp? only [yR]
     refine iT (fun i τ M' => ∃ o3 o4, τ = [some (.str z), some (.rl (rs.map iY)), some (.rl ((rs.map a9.name).map W.str)), o3, o4] ∧ M' = M ∧ ∀ q ∈ rs.take i, ∀ p ∈ q.parts, cI p = true → p ∈ rs.map a9.name) ⟨_, _, rfl, rfl, by simp⟩ (fun _ _ _ _ _ => trivial) ?_ ?_
     ·rintro i w τ M' hw ⟨o3, o4, rfl, rfl, hb'⟩
      rw [List.getElem?_map] at hw
      obtain ⟨q, hqi, rfl⟩ := Option.map_eq_some_iff.mp hw
      have hqm := List.mem_of_getElem? hqi
      have nx : (∀ p ∈ q.parts, cI p = true → p ∈ rs.map a9.name) → ∀ u ∈ rs.take (i + 1), ∀ p ∈ u.parts, cI p = true → p ∈ rs.map a9.name := fun h u hu => by
       rw [List.take_add_one, hqi] at hu
       rcases List.mem_append.mp hu with y | y
       ·exact hb' u y
       ·simp at y; subst y; exact h
      simp? only [GU, iY, t9]
      refine iT (fun j τ M2 => ∃ o4, τ = [some (.str z), some (.rl (rs.map iY)), some (.rl ((rs.map a9.name).map W.str)), some (iY q), o4] ∧ M2 = M' ∧ ∀ p ∈ q.parts.take j, cI p = true → p ∈ rs.map a9.name) ⟨_, rfl, rfl, by simp⟩ (fun _ _ _ _ _ => trivial) ?_ ?_
      ·rintro j w τ M' hw ⟨o4, rfl, rfl, hb2⟩
       rw [List.getElem?_map] at hw
       obtain ⟨p, hpi, rfl⟩ := Option.map_eq_some_iff.mp hw
       have hpm := List.mem_of_getElem? hpi
       have hpl := (tF ((hq q hqm).pt p hpm)).1
       have nx2 : (cI p = true → p ∈ rs.map a9.name) → ∀ u ∈ q.parts.take (j + 1), cI u = true → u ∈ rs.map a9.name := fun h u hu => by
        rw [List.take_add_one, hpi] at hu
        rcases List.mem_append.mp hu with y | y
        ·exact hb2 u y
        ·simp at y; subst y; exact h
       simp? only [L3.rIn, DQ, DR, c5]
       refine ⟨p, rfl, by omega, ?_⟩
       cases hw : cI p with
       | false =>
        simp? only []
        exact ⟨_, Sub.refl _, _, rfl, rfl, nx2 fun z => by rw [hw] at z; cases z⟩
       | true =>
        simp? only []
        by_cases hin : p ∈ rs.map a9.name
        ·rw [if_neg (by simpa using hin)]
         exact ⟨_, Sub.refl _, _, rfl, rfl, nx2 fun _ => hin⟩
        ·rw [if_pos (by simpa using hin)]
         exact ⟨_, Sub.refl _, bad q hqm p hpm hw hin⟩
      ·rintro τ M' ⟨o4, rfl, rfl, hb2⟩
       rw [List.length_map, List.take_length] at hb2
       exact ⟨_, Sub.refl _, _, _, rfl, rfl, nx hb2⟩
     ·rintro τ M' ⟨o3, o4, rfl, rfl, hb'⟩
      rw [List.length_map, List.take_length] at hb'
      simp? only [yS]
      have hok : tH rs := hb'
      rw [if_pos hok] at r
      exact ⟨_, Sub.refl _, r⟩
end Rg
set_option Elab.async false
set_option compiler.extract_closed false
set_option bootstrap.genMatcherCode false
set_option linter.all false
set_option maxRecDepth 100000
set_option maxHeartbeats 4000000
namespace Rg
open PySem PySem.Spec PyProof.Rows L2 L3
theorem ZU {a b : Int} {n : Nat} (h0 : 0 ≤ a) (h1 : a ≤ n) (h2 : b ≤ n) : ∃ i k : Nat, i + k ≤ n ∧ sliceRange a b 1 = (List.range k).map (i + ·) := by
 unfold sliceRange
 simp only [show ((1 : Int) > 0) = True from by simp, if_true]
 by_cases h : a < b
 ·refine ⟨a.toNat, (b - a).toNat, by omega, ?_⟩
  rw [if_pos h, show ((b - a + 1 - 1) / 1).toNat = (b - a).toNat by rw [Int.ediv_one]; omega]
  exact List.map_congr_left fun k _ => by omega
 ·exact ⟨0, 0, by omega, by rw [if_neg h]; rfl⟩
theorem ZV (lo hi : Option Int) (n : Nat) : ∃ i k : Nat, i + k ≤ n ∧ Builtin.Str.strSliceIndices lo hi 1 n = (List.range k).map (i + ·) := by
 unfold Builtin.Str.strSliceIndices
 simp only [show ((1 : Int) > 0) = True from by simp, if_true]
 apply ZU
 ·cases lo <;> simp only <;> (try split) <;> omega
 ·cases lo <;> simp only <;> (try split) <;> omega
 ·cases hi <;> simp only <;> (try split) <;> omega
theorem ZW (z : Str) (lo hi : Option Int) : (cs (Txt.slice z lo hi)).Sublist (cs z) := by
 unfold Txt.slice
 split
 ·exact List.Sublist.refl _
 ·obtain ⟨i, k, h, e⟩ := ZV lo hi z.length
  show ((Builtin.Str.strSliceIndices lo hi 1 z.length).filterMap (z.cps[·]?)).Sublist (cs z)
  have p := StrLaws.picks (cs z) k i (by rw [bH]; exact h)
  have e2 : (Builtin.Str.strSliceIndices lo hi 1 z.length).filterMap (z.cps[·]?) = ((cs z).drop i).take k := by
   rw [e, ← p]
   unfold cs
   simp
  rw [e2]
  exact (List.take_sublist _ _).trans (List.drop_sublist _ _)
structure TB (n m : Nat) (z : Str) : Prop where
 len : z.length ≤ n
 asc : gZ z
 rows : (cs z).count 10 ≤ m
theorem TB.slice {n m : Nat} {z : Str} (h : TB n m z) (lo hi : Option Int) : TB n m (Txt.slice z lo hi) := by
 have s := ZW z lo hi
 exact ⟨Nat.le_trans (by rw [← bH, ← bH]; exact s.length_le) h.len, fun c hc => h.asc c (s.subset hc), Nat.le_trans (s.count_le 10) h.rows⟩
theorem TB.app {n m n' m' : Nat} {z y : Str} (h : TB n m z) (h' : TB n' m' y) : TB (n + n') (m + m') (z ++ y) := by
 refine ⟨?_, fun c hc => ?_, ?_⟩
 ·rw [← bH, gG, List.length_append, bH, bH]
  have := h.len; have := h'.len; omega
 ·rw [gG] at hc
  rcases List.mem_append.mp hc with hc | hc
  ·exact h.asc c hc
  ·exact h'.asc c hc
 ·rw [gG, List.count_append]
  have := h.rows; have := h'.rows; omega
theorem TB.txt {n m : Nat} {z : Str} (h : TB n m z) (hn : n ≤ 40000) (hm : m ≤ 70) : tG z := ⟨Nat.le_trans h.len hn, h.asc, Nat.le_trans h.rows hm⟩
def lR (z : Str) : Bool := decide (z.length ≤ 500) && ((cs z).all (fun c => decide (c < 128)) && !(cs z).contains 10)
theorem HS {z : Str} (h : lR z = true) : lO z := by
 unfold lR at h
 simp only [Bool.and_eq_true, decide_eq_true_eq, List.all_eq_true, Bool.not_eq_true', List.contains_eq_mem, decide_eq_false_iff_not] at h
 exact ⟨h.1, h.2.1, h.2.2⟩
def zC : List Str := ["", "S", "S =a", "S= a", "= a", "s = a", "S = a :", "S = a : 0", "S = a : 07", "S = a : x", "S : 3", "S = : 4", "S = a  b", "S = a ", " S = a", "S = a : 3 b", "S = a1", "S = Aa", "S = a = b", "S = a : -1", "S_ = a", "S_12345 = a", "_1 = a", "S_1 = a", "ABCDEFGHI = a", "S = abcdefghi", "S_1a = a", "S = a : : 3"]
theorem ZX : ∀ z ∈ zC, lO z := fun z hz => HS (by
 have : zC.all lR = true := by decide +kernel
 exact List.all_eq_true.mp this z hz)
theorem ZY {ws : List W} {M : Mm} {R : K3} (h : pY ws M R) : qI (aX R) (b5 yE ws) M := by
 obtain ⟨n, rfl, r⟩ := h
 show qI (aX R) [some (.int n), none] M
 simp? only [qI, GA, GB, GC, GD, GF, nO, wZ]
 obtain ⟨x, ex, mx⟩ := lG (xs := zC.map W.str) (i := n) (n := 28) (by decide +kernel) (by decide)
 obtain ⟨z, hz, rfl⟩ := List.mem_map.mp mx
 exact ⟨by simp, by simp, _, ex, _, Sub.refl _, r z (ZX z hz)⟩
theorem ZZ : lR ("S = a : " ++ ("1" ++ Txt.mul "0" 59)) = true ∧ lR ("S = a : " ++ ("1" ++ Txt.mul "0" 60)) = true ∧ (Txt.mul "0" 59).length = 59 ∧ (Txt.mul "0" 60).length = 60 := by decide +kernel
theorem Z0 {ws : List W} {M : Mm} {R : K3} (h : pZ ws M R) : qJ (aX R) (b5 yF ws) M := by
 obtain ⟨n, rfl, r⟩ := h
 show qJ (aX R) [some (.int n), none] M
 have b1 := Int.emod_nonneg n (show (2 : Int) ≠ 0 by decide)
 have b2 := Int.emod_lt_of_pos n (show (0 : Int) < 2 by decide)
 obtain ⟨g1, g2, g3, g4⟩ := ZZ
 have hs : sizeLine = 16777216 := sizeLine_eq
 have go : ∀ m : Str, lR ("S = a : " ++ ("1" ++ m)) = true → m.length ≤ 60 → ∃ w, cC [W.str ("S = a : " ++ ("1" ++ m)), .str "S = NOWHERE", .str "S = b NOWHERE_9 : 5", .str "NOWHERE = NOWHERE"] (n / 2 % 4) = some w ∧ ∃ M'', Sub M'' M ∧ R w M'' := by
  intro m hm _
  obtain ⟨x, ex, mx⟩ := lG (xs := [("S = a : " ++ ("1" ++ m) : Str), "S = NOWHERE", "S = b NOWHERE_9 : 5", "NOWHERE = NOWHERE"].map W.str) (i := n / 2) (n := 4) rfl (by decide)
  obtain ⟨z, hz, rfl⟩ := List.mem_map.mp mx
  refine ⟨_, ex, _, Sub.refl _, r z (HS ?_)⟩
  have h3 : ([("S = NOWHERE" : Str), ("S = b NOWHERE_9 : 5" : Str), ("NOWHERE = NOWHERE" : Str)] : List Str).all lR = true := by decide +kernel
  rcases List.mem_cons.mp hz with rfl | hz
  ·exact hm
  ·exact List.all_eq_true.mp h3 z hz
 simp? only [qJ]
 refine ⟨by decide +kernel, by omega, by omega, ?_⟩
 have hw : ∃ m : Str, Txt.mul "0" (59 + n % 2) = m ∧ lR ("S = a : " ++ ("1" ++ m)) = true ∧ m.length ≤ 60 := by
  rcases (show n % 2 = 0 ∨ n % 2 = 1 by omega) with h | h
  ·rw [h]; exact ⟨_, rfl, g1, by rw [show (59 : Int) + 0 = 59 from rfl, g3]; decide⟩
  ·rw [h]; exact ⟨_, rfl, g2, by rw [show (59 : Int) + 1 = 60 from rfl, g4]; decide⟩
 obtain ⟨m, em, hm1, hm2⟩ := hw
 have l1 : ("1" : Str).length = 1 := by decide +kernel
 have l2 : ("S = a : " : Str).length = 8 := by decide +kernel
 have em' : Txt.mul (Str.ofString "0") (59 + n % 2) = m := em
 rw [em']
 refine ⟨?_, ?_, ?_⟩
 ·have : (Str.ofString "1").length = 1 := l1
  omega
 ·have h1 : (Str.ofString "S = a : ").length = 8 := l2
  have h2 : (Str.ofString "1" ++ m).length = 1 + m.length := by rw [strLen_append]; have : (Str.ofString "1").length = 1 := l1; omega
  omega
 ·exact go m hm1 hm2
theorem Z1 {rs : List a9} (hne : rs ≠ []) (t : ∀ r ∈ rs, g0 r) : bT 10 (lI rs) = rs.map cF := by
 unfold bT
 have hcs : cs (lI rs) = jn 10 ((rs.map cF).map cs) := by unfold lI; rw [nL wQ]
 rw [hcs, DY]
 ·rw [List.map_map]
  conv => rhs; rw [← List.map_id (rs.map cF)]
  exact List.map_congr_left fun p _ => wM p
 ·cases rs with
  | nil => exact absurd rfl hne
  | cons a b => simp
 ·intro p hp hm
  obtain ⟨q, hq, rfl⟩ := List.mem_map.mp hp
  obtain ⟨r, hr, rfl⟩ := List.mem_map.mp hq
  have := y7 (t r hr) 10 hm
  omega
theorem HU {rows : List Str} (h : ∀ p ∈ rows, lO p) (hl : rows.length ≤ 22) : TB 11022 22 (Str.join "\n" rows) := by
 have e := nL wQ rows
 refine ⟨?_, fun c hc => ?_, ?_⟩
 ·rw [← bH, e]
  have h1 := y2 (c := 10) (B := 500) (ps := rows.map cs) fun p hp => by
   obtain ⟨q, hq, rfl⟩ := List.mem_map.mp hp
   rw [bH]; exact (h q hq).len
  rw [List.length_map] at h1
  omega
 ·rw [e] at hc
  rcases y6 hc with rfl | ⟨p, hp, hm⟩
  ·decide
  ·obtain ⟨q, hq, rfl⟩ := List.mem_map.mp hp
   exact (h q hq).asc c hm
 ·rw [e]
  have := EC (c := 10) (ps := rows.map cs) fun p hp => by
   obtain ⟨q, hq, rfl⟩ := List.mem_map.mp hp
   exact (h q hq).no
  rw [List.length_map] at this
  omega
def HV : Str := "abSXQ_019:= \n\t.-+(){"
theorem Z2 : ∀ c ∈ cs HV, c < 128 := by decide +kernel
theorem Z3 {ws : List W} {M : Mm} {R : K3} (h : p0 ws M R) : qK (aX R) (b5 yG ws) M := by
 obtain ⟨ns, rfl, r⟩ := h
 show qK (aX R) [some (.sc (ns.map W.int)), none, none, none, none, none, none, none] M
 have hi := L3.ints_map ns
 have hs : sizeLine = 16777216 := sizeLine_eq
 obtain ⟨T5, hT5⟩ : ∃ x, x = (aL yH (aL yI (aL yJ (aL tS (aL tT (aL tU tV)))))) := ⟨_, rfl⟩
 have tail : ∀ (rows : List Str) (way cell place : Int) (o5 : Option W), (∀ p ∈ rows, lO p) → rows.length ≤ 22 → T5 (aX R) [some (.sc (ns.map W.int)), some (.rl (rows.map W.str)), some (.int way), some (.int cell), some (.int place), o5, none, none] M := by
  intro rows way cell place o5 hr hl
  have tb := HU hr hl
  subst hT5
  obtain ⟨T8, hT8⟩ : ∃ x, x = (aL tS (aL tT (aL tU tV))) := ⟨_, rfl⟩
  rw [← hT8]
  simp? only [yH, eF.eq_1]
  refine ⟨rows, rfl, ⟨500, fun p hp => (hr p hp).len, ?_⟩, ?_⟩
  ·have e : ("\n" : Str).length = 1 := by decide +kernel
   rw [e]; omega
  generalize Str.join "\n" rows = text at tb
  have hlen := tb.len
  simp? only [yI]
  obtain ⟨c, ec, hc⟩ := lG (xs := cs HV) (i := cell / 30) (n := 20) (by decide +kernel) (by decide)
  refine ⟨by decide +kernel, c, ec, ?_⟩
  have hsig : TB 1 1 ⟨#[c]⟩ := ⟨Nat.le_refl _, fun d hd => by
   have : d ∈ [c] := hd
   rw [List.mem_singleton.mp this]; exact Z2 c hc, by
   show List.count 10 [c] ≤ 1
   exact Nat.le_trans List.count_le_length (Nat.le_refl _)⟩
  have sl : (⟨#[c]⟩ : Str).length = 1 := rfl
  simp? only [yJ]
  refine ⟨by omega, by omega, ?_⟩
  generalize place % ((text.length : Int) + 1) = at'
  subst hT8
  have two := fun lo hi lo' hi' => ((tb.slice lo hi).app (tb.slice lo' hi')).txt (by decide) (by decide)
  have three := fun lo hi lo' hi' => (((tb.slice lo hi).app hsig).app (tb.slice lo' hi')).txt (by decide) (by decide)
  have s1 := fun lo hi => (tb.slice lo hi).len
  have s2 := fun lo hi => ((tb.slice lo hi).app hsig).len
  simp? only [tS, jZ, pK.eq_1]
  have A : ∀ lo hi lo' hi', (Txt.slice text lo hi).length + (⟨#[c]⟩ : Str).length ≤ 16777216 ∧ (Txt.slice text lo hi ++ ⟨#[c]⟩).length + (Txt.slice text lo' hi').length ≤ 16777216 := fun lo hi lo' hi' => by
   have := s1 lo hi; have := s2 lo hi; have := s1 lo' hi'
   omega
  by_cases w2 : way = 2
  ·rw [if_pos w2]
   exact ⟨by omega, (A _ _ none none).1, by omega, (A _ _ _ _).2, _, Sub.refl _, r _ (three _ _ _ _)⟩
  rw [if_neg w2]
  by_cases w3 : way = 3
  ·rw [if_pos w3]
   exact ⟨by omega, (A _ _ none none).1, by omega, (A _ _ _ _).2, _, Sub.refl _, r _ (three _ _ _ _)⟩
  rw [if_neg w3]
  simp? only [tT, jZ, pK.eq_1]
  by_cases w4 : way = 4
  ·rw [if_pos w4]
   exact ⟨by omega, by omega, by have := s1 none (some at'); have := s1 (some (at' + 1)) none; omega, _, Sub.refl _, r _ (two _ _ _ _)⟩
  rw [if_neg w4]
  simp? only [tU, jZ, pK.eq_1]
  by_cases w5 : way = 5
  ·rw [if_pos w5]
   exact ⟨by omega, (A _ _ none none).1, by omega, (A _ _ _ _).2, _, Sub.refl _, r _ (three _ _ _ _)⟩
  rw [if_neg w5]
  simp? only [tV]
  exact ⟨_, Sub.refl _, r _ (tb.txt (by decide) (by decide))⟩
 simp? only [qK, GG, iC.eq_1]
 rw [← hT5]
 refine ⟨ns, rfl, fun rs g tr h20 => aZ.frz ?_⟩
 refine ⟨rs, rfl, tr, by omega, ?_⟩
 simp? only [iC.eq_1]
 have hrows := Z1 g.ne tr
 have hrt : ∀ p ∈ rs.map cF, lO p := fun p hp => by
  obtain ⟨q, hq, rfl⟩ := List.mem_map.mp hp
  exact ⟨by have := y4 (tr q hq); omega, fun c hc => (y7 (tr q hq) c hc).2, fun hm => by have := y7 (tr q hq) 10 hm; omega⟩
 have tb := HU hrt (by rw [List.length_map]; omega)
 have tb : TB 11022 22 (lI rs) := tb
 refine ⟨10, y8, by have := tb.len; omega, fun a h => by have := tb.asc a h; omega, by decide, aZ.frz ?_⟩
 rw [hrows]
 have hrl : (rs.map cF).length ≤ 20 := by rw [List.length_map]; exact h20
 generalize rs.map cF = rows at hrt hrl
 simp? only [GH]
 refine ⟨_, 0, .inl rfl, hi, by decide, fun x0 => ?_⟩
 simp? only []
 have b1 := Int.emod_nonneg (x0 / 48) (show (8 : Int) ≠ 0 by decide)
 generalize x0 / 48 % 8 = way at b1
 simp? only [GI]
 refine ⟨_, 12, .inl rfl, hi, by decide, fun cell => ?_⟩
 simp? only [GJ]
 refine ⟨_, 13, .inl rfl, hi, by decide, fun place => ?_⟩
 simp? only [GK]
 by_cases hw : way < 2
 ·rw [if_pos hw]
  have hp1 := Int.emod_nonneg place (show (((rows.map W.str).length : Nat) : Int) + 1 ≠ 0 by omega)
  have hp2 := Int.emod_lt_of_pos place (show (0 : Int) < (((rows.map W.str).length : Nat) : Int) + 1 by omega)
  refine ⟨by omega, ?_⟩
  generalize place % ((((rows.map W.str).length : Nat) : Int) + 1) = k at hp1 hp2
  rw [QN hp1 (by omega), DC hp1]
  have fin : ∀ x : Str, lO x →
    T5 (aX R) [some (.sc (ns.map W.int)), some (.rl ((rows.map W.str).take k.toNat ++ [W.str x] ++ (rows.map W.str).drop k.toNat)), some (.int way), some (.int cell), some (.int place), some (.int k), none, none] M := by
   intro x hx
   have e : (rows.map W.str).take k.toNat ++ [W.str x] ++ (rows.map W.str).drop k.toNat = (rows.take k.toNat ++ [x] ++ rows.drop k.toNat).map W.str := by simp [List.map_take, List.map_drop]
   rw [e]
   refine tail _ _ _ _ _ (fun p hp => ?_) (by simp; omega)
   rcases List.mem_append.mp hp with hp | hp
   ·rcases List.mem_append.mp hp with hp | hp
    ·exact hrt p (List.mem_of_mem_take hp)
    ·rw [List.mem_singleton.mp hp]; exact hx
   ·exact hrt p (List.mem_of_mem_drop hp)
  refine ⟨_, rfl, ?_⟩
  rcases (show way = 0 ∨ way = 1 by omega) with h | h
  ·exact .inl ⟨by rw [h], _, rfl, cell, rfl, fun x hx => ⟨by simp; omega, by simp; omega, fin x hx⟩⟩
  ·exact .inr ⟨by rw [h], _, rfl, cell, rfl, fun x hx => ⟨by simp; omega, by simp; omega, fin x hx⟩⟩
 ·rw [if_neg hw]
  exact tail _ _ _ _ _ hrt (by omega)
end Rg
set_option Elab.async false
set_option compiler.extract_closed false
set_option bootstrap.genMatcherCode false
set_option linter.all false
set_option maxRecDepth 100000
set_option maxHeartbeats 4000000
namespace Rg
open PySem PySem.Spec PyProof.Rows L2 L3
structure Kx (K : PySem.W.Frag) (c : dN) : Prop where
 ft : kI K c.t
 fg : kI K c.g
 vt : PySem.W.kitOne K (.ref c.t) (.type "ValueError") = some true
 vg : PySem.W.kitOne K (.ref c.g) (.type "ValueError") = some true
 tt : PySem.W.kitOne K (.ref c.t) (.ref c.t) = some true
 tg : PySem.W.kitOne K (.ref c.t) (.ref c.g) = some false
 te : PySem.W.kitOne K (.ref c.t) (.ref c.e) = some false
 to : PySem.W.kitOne K (.ref c.t) (.ref c.o) = some false
 tr : PySem.W.kitOne K (.ref c.t) (.ref c.r) = some false
 tm : PySem.W.kitOne K (.ref c.t) (.ref c.m) = some false
 gt : PySem.W.kitOne K (.ref c.g) (.ref c.t) = some false
 gg : PySem.W.kitOne K (.ref c.g) (.ref c.g) = some true
 ge : PySem.W.kitOne K (.ref c.g) (.ref c.e) = some false
 go : PySem.W.kitOne K (.ref c.g) (.ref c.o) = some false
 gr : PySem.W.kitOne K (.ref c.g) (.ref c.r) = some false
 gm : PySem.W.kitOne K (.ref c.g) (.ref c.m) = some false
theorem iZ {K : PySem.W.Frag} {C D : Addr} {b : Bool} {ea : Addr} {M : Mm} {R : K3} (F : kI K C) (h : M ea = some (.exc (.ref C))) (k : PySem.W.kitOne K (.ref C) (.ref D) = some b) (r : R (.bl b) M) : kJ K [.ref ea, .ref D] M R := ⟨C, b, h, F, .inl ⟨D, rfl, k⟩, r⟩
theorem Z4 {K : PySem.W.Frag} {c : dN} (k : Kx K c) {ws : List W} {M : Mm} {R : K3} (h : nX c.t c.g ws M R) : qU K c (aX R) (b5 yY ws) M := by
 obtain ⟨ea, rfl, h⟩ := h
 show qU K c (aX R) [some (.ref ea), none] M
 have hs : sizeLine = 16777216 := sizeLine_eq
 simp? only [qU]
 rcases h with ⟨hm, r⟩ | ⟨hm, r⟩
 ·refine iZ k.ft hm k.tt (iZ k.ft hm k.tg (iZ k.ft hm k.te (iZ k.ft hm k.to ?_)))
  refine iZ k.ft hm k.tr (iZ k.ft hm k.tm ?_)
  exact ⟨_, Sub.refl _, r⟩
 ·refine iZ k.fg hm k.gt (iZ k.fg hm k.gg (iZ k.fg hm k.ge (iZ k.fg hm k.go ?_)))
  refine iZ k.fg hm k.gr (iZ k.fg hm k.gm ?_)
  exact ⟨_, Sub.refl _, r⟩
theorem Z5 {M : Mm} {R : K3} {a b : Bool} (r : R (.bl true) M) : L3.rEq false (.rl [.bl a, .bl b, .bl false, .bl false, .bl false, .bl false]) (.rl [.bl a, .bl b, .bl false, .bl false, .bl false, .bl false]) M R := by
 have s : Snap M (.rl [.bl a, .bl b, .bl false, .bl false, .bl false, .bl false]) (.list [.bool a, .bool b, .bool false, .bool false, .bool false, .bool false]) := .rl (.cons (.bl _) (.cons (.bl _) (.cons (.bl _) (.cons (.bl _) (.cons (.bl _) (.cons (.bl _) .nil))))))
 refine ⟨_, _, s, s, ?_, ?_, ?_⟩
 ·cases a <;> cases b <;> exact ⟨by decide +kernel, by decide +kernel⟩
 ·cases a <;> cases b <;> exact ⟨by decide +kernel, by decide +kernel⟩
 ·have e : PyData.eqv (.list [.bool a, .bool b, .bool false, .bool false, .bool false, .bool false]) (.list [.bool a, .bool b, .bool false, .bool false, .bool false, .bool false]) = true := by cases a <;> cases b <;> decide +kernel
  rw [e]; exact r
theorem Z6 {K : PySem.W.Frag} {c : dN} (k : Kx K c) {ws : List W} {M : Mm} {R : K3} (h : xR ws M R) : qV K c (aX R) (b5 yZ ws) M := by
 obtain ⟨ns, rfl, hl, _, r⟩ := h
 show qV K c (aX R) [some (.sc (ns.map W.int)), none, none, none, none, none] M
 obtain ⟨T4, hT4⟩ : ∃ x, x = (aL t5 (aL t6 (aL (y0 K) (y1 c)))) := ⟨_, rfl⟩
 simp? only [qV, G5, G6, G7]
 rw [← hT4]
 refine ⟨ns, rfl, fun z tz => ?_⟩
 simp? only []
 have good : ∀ rs, jY z = some rs → nM rs → T4 (aX R) [some (.sc (ns.map W.int)), some (.str z), some (.rl (rs.map cB)), some .non, none, none] M := by
  intro rs e ok
  obtain ⟨hq, hrow⟩ := nN e
  have hlen := tJ e
  have hdue : lL z = "good" := by unfold lL; rw [e]; simp only; rw [if_pos ((EH hq ok.1).mp ok)]
  have hback := V4 e
  have hrows := tz.rows
  subst hT4
  simp? only [t5]
  refine ⟨z, rfl, tz, ?_⟩
  rw [hdue]
  simp? only [t6, L3.vL, isNon, cE]
  refine ⟨"list", true, rfl, by decide +kernel, ?_⟩
  rw [if_pos rfl]
  refine ⟨rs, rfl, fun q hqm => ⟨hq q hqm, ?_, ?_⟩, by omega, ?_⟩
  ·have h1 : cF q ∈ bT 10 z := by rw [← hrow]; exact List.mem_map.mpr ⟨q, hqm, rfl⟩
   have h2 := (lJ h1).2
   have h3 := tz.len
   have h4 : bT 32 (cF q) = piecesOf q := by
    obtain ⟨row, hrw, e2⟩ : ∃ row ∈ bT 10 z, cX (bT 32 row) = some q := by
     have e3 := tD e
     have : some q ∈ rs.map some := List.mem_map.mpr ⟨q, hqm, rfl⟩
     rw [← e3] at this
     obtain ⟨row, hr, e4⟩ := List.mem_map.mp this
     exact ⟨row, hr, e4⟩
    have h5 := (wX e2).2
    have : cF q = row := by unfold cF; rw [h5, wV sZ]
    rw [this, h5]
   have h5 := pA 32 (cF q)
   rw [h4] at h5
   have h6 : q.parts.length + 2 ≤ (piecesOf q).length := by unfold piecesOf; simp
   omega
  ·have h1 : cF q ∈ bT 10 z := by rw [← hrow]; exact List.mem_map.mpr ⟨q, hqm, rfl⟩
   have h2 := (lJ h1).2
   have h3 := tz.len
   omega
  ·rw [hback]
   simp? only []
   exact ⟨_, Sub.refl _, r _⟩
 have caught : ∀ (C ea : Addr) (due : Str) (a b : Bool) (M' : Mm), lL z = due → due ≠ "good" → M' ea = some (.exc (.ref C)) → kI K C → PySem.W.kitOne K (.ref C) (.type "ValueError") = some true → decide (due = "text") = a → decide (due = "grammar") = b →
   (∀ R' : K3, R' (.rl [.bl a, .bl b, .bl false, .bl false, .bl false, .bl false]) M' → nX c.t c.g [.ref ea] M' R') →
   T4 (aX R) [some (.sc (ns.map W.int)), some (.str z), some .non, some (.ref ea), none, none] M' := by
  intro C ea due a b M' hdue hng hm hF hv ha hb hk
  subst hT4
  simp? only [t5]
  refine ⟨z, rfl, tz, ?_⟩
  rw [hdue]
  simp? only [t6]
  rw [if_neg hng]
  simp? only [y0]
  refine ⟨C, true, hm, hF, .inr ⟨_, rfl, hv⟩, ?_⟩
  simp? only [y1]
  refine hk _ ?_
  have ha' : decide (due = (Str.ofString "text")) = a := ha
  have hb' : decide (due = (Str.ofString "grammar")) = b := hb
  rw [ha', hb']
  exact Z5 ⟨_, Sub.refl _, r _⟩
 have ct : d6 c "NoText" = some c.t := rfl
 have cg : d6 c "NoGrammar" = some c.g := rfl
 simp? only [G8, xQ]
 refine ⟨z, rfl, tz, fun e => .inr ⟨_, rfl, fun C hC ea hea => ?_⟩, fun rs e => ⟨fun ok => .inl ⟨HL _, good rs e ok⟩, fun no => .inr ⟨_, rfl, fun C hC ea hea => ?_⟩⟩⟩
 ·rw [ct] at hC; cases hC
  refine caught c.t ea "text" true false _ (by unfold lL; rw [e]) (by decide +kernel) d7 k.ft k.vt (by decide +kernel) (by decide +kernel) fun R' h => ⟨ea, rfl, .inl ⟨d7, h⟩⟩
 ·rw [cg] at hC; cases hC
  obtain ⟨hq, hrow⟩ := nN e
  have hne : rs ≠ [] := by
   intro z'
   subst z'
   have := tJ e
   simp at this
  have hdue : lL z = "grammar" := by unfold lL; rw [e]; simp only; rw [if_neg (fun o => no ((EH hq hne).mpr o))]
  refine caught c.g ea "grammar" false true _ hdue (by decide +kernel) d7 k.fg k.vg (by decide +kernel) (by decide +kernel) fun R' h => ⟨ea, rfl, .inr ⟨d7, h⟩⟩
end Rg
set_option Elab.async false
set_option compiler.extract_closed false
set_option bootstrap.genMatcherCode false
set_option linter.all false
set_option maxRecDepth 100000
set_option maxHeartbeats 4000000
namespace Rg
open PySem PySem.Spec PyProof.Rows L2 L3
structure Zx (K : PySem.W.Frag) (mg : Str → Option Value) (c : dN) (Cg : Addr) : Prop where
 t : xI K mg "NoText" c.t
 g : xI K mg "NoGrammar" c.g
 grove : mg "GroveError" = some (.ref Cg)
 me : mg "Endless" = some (.ref c.e)
 mo : mg "NoOrder" = some (.ref c.o)
 mr : mg "NoReading" = some (.ref c.r)
 mm : mg "TooMany" = some (.ref c.m)
 yt : PySem.W.exmOne K (.ref c.t) (.ref Cg) = some true
 yg : PySem.W.exmOne K (.ref c.g) (.ref Cg) = some true
 kx : Kx K c
structure Tx (K : PySem.W.Frag) (mg : Str → Option Value) : Prop where
 zx : ∃ c Cg, Zx K mg c Cg
 isinstance_ : mg "isinstance" = none
 ValueError_ : mg "ValueError" = none
 c_FEW_BITS : ∃ t, mg "FEW_BITS" = some (.int 4000 t)
 c_FIGURES : ∃ t, mg "FIGURES" = some (.str "0123456789" t)
 c_GREAT_LETTERS : ∃ t, mg "GREAT_LETTERS" = some (.str "ABCDEFGHIJKLMNOPQRSTUVWXYZ" t)
 c_MOST_FIGURES : ∃ t, mg "MOST_FIGURES" = some (.int 60 t)
 c_MOST_LETTERS : ∃ t, mg "MOST_LETTERS" = some (.int 8 t)
 c_MOST_NAME_FIGURES : ∃ t, mg "MOST_NAME_FIGURES" = some (.int 4 t)
 c_PIECE_FIGURES : ∃ t, mg "PIECE_FIGURES" = some (.int 64 t)
 c_SMALL_LETTERS : ∃ t, mg "SMALL_LETTERS" = some (.str "abcdefghijklmnopqrstuvwxyz" t)
 all_ : mg "all" = none
 divmod_ : mg "divmod" = none
 int_ : mg "int" = none
 len_ : mg "len" = none
 list_ : mg "list" = none
 range_ : mg "range" = none
 reversed_ : mg "reversed" = none
 str_ : mg "str" = none
 tuple_ : mg "tuple" = none
section
variable {P : Program} {w : World} {K : PySem.W.Frag} {mg : Str → Option Value} {base : Heap}
seal L2.PE L2.PA L2.PS L2.dX L2.PT L2.PG L2.PI L2.PO
theorem HW : b7 xS ["text", "signs"] (aE c7) := ⟨rfl, rfl, rfl, by decide +kernel, rfl, by decide +kernel, by decide +kernel⟩
theorem Z7 {f : Addr} {cdv : Value} {A : Around} {outer : List Env} {s : Shared} {H : Hp} {E : XK} (T : Tx K mg) (hr : bA 0 (A.deeper (envOfC "made_of" (aE c7) s.heap.objs.size f cdv))) :
  b9 (aW aQ P w K mg base xS "made_of" (aE c7) f cdv A outer s H E).nox (aM c7) p6 := by
 have nd := HW.nd
 have hu := cN hr
 exact (bF (b6 (v_and (fU (nA hr.units) (v 0) bE (by first | exact bM _ | with_unfolding_all rfl)) (iQ (cY (vS rfl) (by rfl) T.all_ v8 (aD (fB (mB ["sign", "signs"] [none, some 1] (fX (v 0)) (fun B => (c6 (i := 0) (show (["sign", "signs"] : List Str).Nodup by decide +kernel) rfl (by first | exact Or.inl rfl | exact Or.inr rfl))) (fun B => jX) (fun B => (fU (CJ hu) (v 0) (v 1) (by first | exact bM _ | with_unfolding_all rfl))))) aH))))))
theorem zD (T : Tx K mg) {f_q_made_of : Addr} {cJ : FuncData} (F_q_made_of : Df K mg "made_of" c7 ["text", "signs"] f_q_made_of cJ) : aS P w K mg base aQ 1 f_q_made_of cJ ["text", "signs"] (a8 K j0) :=
 dA F_q_made_of.fn HW XZ fun cdv A outer s H E ws M R hr h => ⟨p6, Z7 T hr, YR h⟩
theorem HX : b7 xT ["part"] (aE dU) := ⟨rfl, rfl, rfl, by decide +kernel, rfl, by decide +kernel, by decide +kernel⟩
theorem Z8 {f : Addr} {cdv : Value} {A : Around} {outer : List Env} {s : Shared} {H : Hp} {E : XK} (T : Tx K mg) {f_q_made_of : Addr} {cJ : FuncData} (F_q_made_of : Df K mg "made_of" c7 ["text", "signs"] f_q_made_of cJ) (G_q_made_of : aS P w K mg base aQ 1 f_q_made_of cJ ["text", "signs"] (a8 K j0)) (hr : bA 1 (A.deeper (envOfC "is_name" (aE dU) s.heap.objs.size f cdv))) :
  b9 (aW aQ P w K mg base xT "is_name" (aE dU) f cdv A outer s H E).nox (aM dU) p7 := by
 obtain ⟨t_GREAT_LETTERS, h_GREAT_LETTERS⟩ := T.c_GREAT_LETTERS
 obtain ⟨t_FIGURES, h_FIGURES⟩ := T.c_FIGURES
 have nd := HX.nd
 have hu := cN hr
 exact (a7 (bJ (i := 1) nd rfl (by first | exact Or.inl rfl | exact Or.inr rfl) (dI PySem.F.plainAttrs_str PySem.F.slot_str_partition PySem.F.type_str_partition m_partition (v 0) (aD bE aH)))
   (a7 (bJ (i := 2) nd rfl (by first | exact Or.inl rfl | exact Or.inr rfl) (v_or (fU (eT hr.units) (bX hu (v 1) aK) bE (by first | exact bM _ | with_unfolding_all rfl)) (iQ (b4 G_q_made_of (hr.mono (by decide)) (by rfl) F_q_made_of.at_ F_q_made_of.fn.kp F_q_made_of.bi (aD (bX hu (v 1) aK) (aD (i5 (y := V.str "0123456789") (by rfl) h_FIGURES ⟨_, rfl⟩ (fun _ _ => .str _)) aH))))))
   (bF (b6 (v_and (v 2) (iQ (b4 G_q_made_of (hr.mono (by decide)) (by rfl) F_q_made_of.at_ F_q_made_of.fn.kp F_q_made_of.bi (aD (bX hu (v 1) aK) (aD (i5 (y := V.str "ABCDEFGHIJKLMNOPQRSTUVWXYZ") (by rfl) h_GREAT_LETTERS ⟨_, rfl⟩ (fun _ _ => .str _)) aH)))))))))
theorem HY (T : Tx K mg) {f_q_is_name : Addr} {dS : FuncData} (F_q_is_name : Df K mg "is_name" dU ["part"] f_q_is_name dS) {f_q_made_of : Addr} {cJ : FuncData} (F_q_made_of : Df K mg "made_of" c7 ["text", "signs"] f_q_made_of cJ) : aS P w K mg base aQ 2 f_q_is_name dS ["part"] (a8 K mL) :=
 dA F_q_is_name.fn HX X0 fun cdv A outer s H E ws M R hr h => ⟨p7, Z8 T F_q_made_of (zD T F_q_made_of) hr, YS h⟩
theorem HZ : b7 wD ["grammar"] (aE eW) := ⟨rfl, rfl, rfl, by decide +kernel, rfl, by decide +kernel, by decide +kernel⟩
theorem Z9 {f : Addr} {cdv : Value} {A : Around} {outer : List Env} {s : Shared} {H : Hp} {E : XK} (T : Tx K mg) (hr : bA 0 (A.deeper (envOfC "names" (aE eW) s.heap.objs.size f cdv))) :
  b9 (aW aQ P w K mg base wD "names" (aE eW) f cdv A outer s H E).nox (aM eW) oZ := by
 have nd := HZ.nd
 have hu := cN hr
 exact (a7 (bJ (i := 1) nd rfl (by first | exact Or.inl rfl | exact Or.inr rfl) PV)
   (a7 (jW PassesOwn.never rfl (fX (v 0)) (c6 (i := 2) nd rfl (by first | exact Or.inl rfl | exact Or.inr rfl))
    (bF (CO mZ (w_sub hu (v 1) (bX hu (v 2) aK)))))
   (bF (b6 (jS (vQ rfl) (by rfl) T.list_ oW (aD (v 1) aH))))))
theorem zaa (T : Tx K mg) {f_names : Addr} {iE : FuncData} (F_names : Df K mg "names" eW ["grammar"] f_names iE) : aS P w K mg base aQ 1 f_names iE ["grammar"] (a8 K oY) :=
 dA F_names.fn HZ VF fun cdv A outer s H E ws M R hr h => ⟨oZ, Z9 T hr, VI h⟩
theorem IA : b7 wF ["rule", "known"] (aE eX) := ⟨rfl, rfl, rfl, by decide +kernel, rfl, by decide +kernel, by decide +kernel⟩
theorem zab {f : Addr} {cdv : Value} {A : Around} {outer : List Env} {s : Shared} {H : Hp} {E : XK} {M : Mm} {r0 : K3} {c : dN} {Cg : Addr} (T : Tx K mg) (Z : Zx K mg c Cg) {f_q_is_name : Addr} {dS : FuncData} (F_q_is_name : Df K mg "is_name" dU ["part"] f_q_is_name dS) (G_q_is_name : aS P w K mg base aQ 2 f_q_is_name dS ["part"] (a8 K mL))
  (hr : bA 2 (A.deeper (envOfC "check_rule" (aE eX) s.heap.objs.size f cdv))) (hx : ∀ n D H' M', d6 c n = some D → Kp H M H' M' → AM K H' M' → r0 (.ty n) M' → E (.ref D) none H') :
  iD (aW (bD P w) P w K mg base wF "check_rule" (aE eX) f cdv A outer s H E) H M r0 (aM eX) qP := by
 have nd := IA.nd
 have hu := cN hr
 exact (jC (mI (cO jV (bX hu (v 0) aK) aK (by first | exact bM _ | with_unfolding_all rfl))
    (g9 (nQ hx hr.hd Z.g (by rfl) (by rfl) bE))
    mH)
   (g9 (FA E8 rfl (fX (bX hu (v 0) aK)) (c6 (i := 2) nd rfl (by first | exact Or.inl rfl | exact Or.inr rfl))
    (g9 (mI (PW.pt (sC (jQ (b4 G_q_is_name (hr.mono (by decide)) (by rfl) F_q_is_name.at_ F_q_is_name.fn.kp F_q_is_name.bi (aD (v 2) aH))) (sA (cO (vP hu) (v 2) (v 1) (by first | exact bM _ | with_unfolding_all rfl)))))
    (g9 (nQ hx hr.hd Z.g (by rfl) (by rfl) (W5 (v 2))))
    mH)))))
theorem zac {c : dN} {Cg : Addr} (T : Tx K mg) (Z : Zx K mg c Cg) {f_check_rule : Addr} {iF : FuncData} (F_check_rule : Df K mg "check_rule" eX ["rule", "known"] f_check_rule iF) {f_q_made_of : Addr} {cJ : FuncData} (F_q_made_of : Df K mg "made_of" c7 ["text", "signs"] f_q_made_of cJ) {f_q_is_name : Addr} {dS : FuncData} (F_q_is_name : Df K mg "is_name" dU ["part"] f_q_is_name dS) : aS P w K mg base (bD P w) 3 f_check_rule iF ["rule", "known"] (fY K (d6 c) pQ) :=
 pJ F_check_rule.fn IA X7 fun cdv A outer s H E ws M R hr h hx => ⟨qP, zab T Z F_q_is_name (HY T F_q_is_name F_q_made_of) hr hx, ZF h⟩
theorem IC : b7 wG ["rules"] (aE fI) := ⟨rfl, rfl, rfl, by decide +kernel, rfl, by decide +kernel, by decide +kernel⟩
theorem zad {f : Addr} {cdv : Value} {A : Around} {outer : List Env} {s : Shared} {H : Hp} {E : XK} {M : Mm} {r0 : K3} {c : dN} {Cg : Addr} (T : Tx K mg) (Z : Zx K mg c Cg) {f_names : Addr} {iE : FuncData} (F_names : Df K mg "names" eW ["grammar"] f_names iE) (G_names : aS P w K mg base aQ 1 f_names iE ["grammar"] (a8 K oY)) {f_check_rule : Addr} {iF : FuncData} (F_check_rule : Df K mg "check_rule" eX ["rule", "known"] f_check_rule iF) (G_check_rule : aS P w K mg base (bD P w) 3 f_check_rule iF ["rule", "known"] (fY K (d6 c) pQ))
  (hr : bA 3 (A.deeper (envOfC "grammar_of" (aE fI) s.heap.objs.size f cdv))) (hx : ∀ n D H' M', d6 c n = some D → Kp H M H' M' → AM K H' M' → r0 (.ty n) M' → E (.ref D) none H') :
  iD (aW (bD P w) P w K mg base wG "grammar_of" (aE fI) f cdv A outer s H E) H M r0 (aM fI) qQ := by
 have nd := IC.nd
 have hu := cN hr
 exact (jC (mI (cO (eT hr.units) (cY fF (by rfl) T.len_ fH (aD (v 0) aH)) aK (by first | exact bM _ | with_unfolding_all rfl))
    (g9 (nQ hx hr.hd Z.g (by rfl) (by rfl) bE))
    mH)
   (jC (xJ (bJ (i := 1) nd rfl (by first | exact Or.inl rfl | exact Or.inr rfl) (fB (b4 G_names (hr.mono (by decide)) (by rfl) F_names.at_ F_names.fn.kp F_names.bi (aD (v 0) aH)))) (fun _ _ _ _ h => h))
   (jC (FA E8 rfl (fX (v 0)) (c6 (i := 2) nd rfl (by first | exact Or.inl rfl | exact Or.inr rfl))
    (g9 (W0 hx G_check_rule (hr.mono (by decide)) (by rfl) F_check_rule.at_ F_check_rule.fn.kp F_check_rule.bi (aD (v 2) (aD (v 1) aH)))))
   (g9 (tP (jS (vQ rfl) (by rfl) T.list_ oW (aD (v 0) aH)))))))
theorem zae {c : dN} {Cg : Addr} (T : Tx K mg) (Z : Zx K mg c Cg) {f_grammar_of : Addr} {jE : FuncData} (F_grammar_of : Df K mg "grammar_of" fI ["rules"] f_grammar_of jE) {f_q_made_of : Addr} {cJ : FuncData} (F_q_made_of : Df K mg "made_of" c7 ["text", "signs"] f_q_made_of cJ) {f_q_is_name : Addr} {dS : FuncData} (F_q_is_name : Df K mg "is_name" dU ["part"] f_q_is_name dS) {f_names : Addr} {iE : FuncData} (F_names : Df K mg "names" eW ["grammar"] f_names iE) {f_check_rule : Addr} {iF : FuncData} (F_check_rule : Df K mg "check_rule" eX ["rule", "known"] f_check_rule iF) : aS P w K mg base (bD P w) 4 f_grammar_of jE ["rules"] (fY K (d6 c) nU) :=
 pJ F_grammar_of.fn IC X8 fun cdv A outer s H E ws M R hr h hx => ⟨qQ, zad T Z F_names (zaa T F_names) F_check_rule (zac T Z F_check_rule F_q_made_of F_q_is_name) hr hx, ZG h⟩
theorem ID : b7 xD ["number", "divisor"] (aE eJ) := ⟨rfl, rfl, rfl, by decide +kernel, rfl, by decide +kernel, by decide +kernel⟩
theorem zaf {f : Addr} {cdv : Value} {A : Around} {outer : List Env} {s : Shared} {H : Hp} {E : XK} (T : Tx K mg) (hr : bA 0 (A.deeper (envOfC "divided" (aE eJ) s.heap.objs.size f cdv))) :
  b9 (aW aQ P w K mg base xD "divided" (aE eJ) f cdv A outer s H E).nox (aM eJ) pF := by
 obtain ⟨t_FEW_BITS, h_FEW_BITS⟩ := T.c_FEW_BITS
 have nd := ID.nd
 have hu := cN hr
 exact (a7 (bJ (i := 2) nd rfl (by first | exact Or.inl rfl | exact Or.inr rfl) (vH PySem.F.plainAttrs_int PySem.F.slot_int_bit_length PySem.F.type_int_bit_length xA (v 1)))
   (a7 (eD (PW.pt (j6 (cO m9 (v 2) (i5 (y := V.int 4000) (by rfl) h_FEW_BITS ⟨_, rfl⟩ (fun _ _ => .int _)) (by first | exact bM _ | with_unfolding_all rfl)) (lY (cO jV (v 0) (v 1) (by first | exact bM _ | with_unfolding_all rfl)))))
    (bF (b6 (cY WH (by rfl) T.divmod_ WD (aD (v 0) (aD (v 1) aH)))))
    eC)
   EK))
theorem zag (T : Tx K mg) {f_divided : Addr} {gN : FuncData} (F_divided : Df K mg "divided" eJ ["number", "divisor"] f_divided gN) : aS P w K mg base aQ 1 f_divided gN ["number", "divisor"] (a8 K pC) :=
 dA F_divided.fn ID WM fun cdv A outer s H E ws M R hr h => ⟨pF, zaf T hr, WQ h⟩
theorem IE : b7 xE ["number"] (aE eK) := ⟨rfl, rfl, rfl, by decide +kernel, rfl, by decide +kernel, by decide +kernel⟩
theorem zah {f : Addr} {cdv : Value} {A : Around} {outer : List Env} {s : Shared} {H : Hp} {E : XK} (T : Tx K mg) (hr : bA 0 (A.deeper (envOfC "squared_powers" (aE eK) s.heap.objs.size f cdv))) :
  b9 (aW aQ P w K mg base xE "squared_powers" (aE eK) f cdv A outer s H E).nox (aM eK) pG := by
 have nd := IE.nd
 have hu := cN hr
 exact (a7 (bJ (i := 1) nd rfl (by first | exact Or.inl rfl | exact Or.inr rfl) (m8 (aD (aT oN aK aK) aH)))
   (a7 (P0 PassesOwn.never (cO jV (aT oV aK (aT PC (vH PySem.F.plainAttrs_int PySem.F.slot_int_bit_length PySem.F.type_int_bit_length xA (bX hu (v 1) (jO jU aK))) aK)) (vH PySem.F.plainAttrs_int PySem.F.slot_int_bit_length PySem.F.type_int_bit_length xA (v 0)) (by first | exact bM _ | with_unfolding_all rfl))
    EK)
   (bF (b6 (v 1)))))
theorem zai (T : Tx K mg) {f_squared_powers : Addr} {gO : FuncData} (F_squared_powers : Df K mg "squared_powers" eK ["number"] f_squared_powers gO) : aS P w K mg base aQ 1 f_squared_powers gO ["number"] (a8 K pD) :=
 dA F_squared_powers.fn IE WN fun cdv A outer s H E ws M R hr h => ⟨pG, zah T hr, WS h⟩
theorem IF : b7 xF ["number"] (aE eY) := ⟨rfl, rfl, rfl, by decide +kernel, rfl, by decide +kernel, by decide +kernel⟩
theorem zaj {f : Addr} {cdv : Value} {A : Around} {outer : List Env} {s : Shared} {H : Hp} {E : XK} (T : Tx K mg) {f_squared_powers : Addr} {gO : FuncData} (F_squared_powers : Df K mg "squared_powers" eK ["number"] f_squared_powers gO) (G_squared_powers : aS P w K mg base aQ 1 f_squared_powers gO ["number"] (a8 K pD)) {f_divided : Addr} {gN : FuncData} (F_divided : Df K mg "divided" eJ ["number", "divisor"] f_divided gN) (G_divided : aS P w K mg base aQ 1 f_divided gN ["number", "divisor"] (a8 K pC)) (hr : bA 1 (A.deeper (envOfC "figures_of" (aE eY) s.heap.objs.size f cdv))) :
  b9 (aW aQ P w K mg base xF "figures_of" (aE eY) f cdv A outer s H E).nox (aM eY) pH := by
 obtain ⟨t_PIECE_FIGURES, h_PIECE_FIGURES⟩ := T.c_PIECE_FIGURES
 have nd := IF.nd
 have hu := cN hr
 exact (a7 (bJ (i := 1) nd rfl (by first | exact Or.inl rfl | exact Or.inr rfl) (gK (aD (v 0) aH)))
   (a7 (jW PassesOwn.never rfl (V9 (by rfl) T.reversed_ (aD (fB (b4 G_squared_powers (hr.mono (by decide)) (by rfl) F_squared_powers.at_ F_squared_powers.fn.kp F_squared_powers.bi (aD (v 0) aH))) aH)) (c6 (i := 2) nd rfl (by first | exact Or.inl rfl | exact Or.inr rfl))
    (a7 (bJ (i := 3) nd rfl (by first | exact Or.inl rfl | exact Or.inr rfl) (m8 aH))
   (a7 (jW PassesOwn.never rfl (fX (v 1)) (c6 (i := 4) nd rfl (by first | exact Or.inl rfl | exact Or.inr rfl))
    (bF (nE (dI PySem.F.plainAttrs_list PySem.F.slot_list_extend PySem.F.type_list_extend WJ (v 3) (aD (b4 G_divided (hr.mono (by decide)) (by rfl) F_divided.at_ F_divided.fn.kp F_divided.bi (aD (v 4) (aD (v 2) aH))) aH)))))
   (bF (bJ (i := 1) nd rfl (by first | exact Or.inl rfl | exact Or.inr rfl) (fB (v 3)))))))
   (a7 (bJ (i := 5) nd rfl (by first | exact Or.inl rfl | exact Or.inr rfl) (dI PySem.F.plainAttrs_str PySem.F.slot_str_join PySem.F.type_str_join lH bE (aD (fB (mB ["piece"] [none] (fX (v 1)) (fun B => (c6 (i := 0) (show (["piece"] : List Str).Nodup by decide +kernel) rfl (by first | exact Or.inl rfl | exact Or.inr rfl))) (fun B => jX) (fun B => (dI PySem.F.plainAttrs_str PySem.F.slot_str_zfill PySem.F.type_str_zfill WI (jS vR (by rfl) T.str_ v7 (aD (v 0) aH)) (aD (i5 (y := V.int 64) (by rfl) h_PIECE_FIGURES ⟨_, rfl⟩ (fun _ _ => .int _)) aH))))) aH)))
   (bF (b6 (WK (dI PySem.F.plainAttrs_str PySem.F.slot_str_lstrip PySem.F.type_str_lstrip m_lstrip (v 5) (aD bE aH))))))))
theorem zak (T : Tx K mg) {f_figures_of : Addr} {iG : FuncData} (F_figures_of : Df K mg "figures_of" eY ["number"] f_figures_of iG) {f_divided : Addr} {gN : FuncData} (F_divided : Df K mg "divided" eJ ["number", "divisor"] f_divided gN) {f_squared_powers : Addr} {gO : FuncData} (F_squared_powers : Df K mg "squared_powers" eK ["number"] f_squared_powers gO) : aS P w K mg base aQ 2 f_figures_of iG ["number"] (a8 K pE) :=
 dA F_figures_of.fn IF WO fun cdv A outer s H E ws M R hr h => ⟨pH, zaj T F_squared_powers (zai T F_squared_powers) F_divided (zag T F_divided) hr, WV h⟩
theorem IG : b7 xU ["text"] (aE eZ) := ⟨rfl, rfl, rfl, by decide +kernel, rfl, by decide +kernel, by decide +kernel⟩
theorem zal {f : Addr} {cdv : Value} {A : Around} {outer : List Env} {s : Shared} {H : Hp} {E : XK} (T : Tx K mg) {f_q_made_of : Addr} {cJ : FuncData} (F_q_made_of : Df K mg "made_of" c7 ["text", "signs"] f_q_made_of cJ) (G_q_made_of : aS P w K mg base aQ 1 f_q_made_of cJ ["text", "signs"] (a8 K j0)) (hr : bA 1 (A.deeper (envOfC "writes_word" (aE eZ) s.heap.objs.size f cdv))) :
  b9 (aW aQ P w K mg base xU "writes_word" (aE eZ) f cdv A outer s H E).nox (aM eZ) p8 := by
 obtain ⟨t_SMALL_LETTERS, h_SMALL_LETTERS⟩ := T.c_SMALL_LETTERS
 obtain ⟨t_MOST_LETTERS, h_MOST_LETTERS⟩ := T.c_MOST_LETTERS
 have nd := IG.nd
 have hu := cN hr
 exact (bF (b6 (v_and (fU m9 (cY fF (by rfl) T.len_ fH (aD (v 0) aH)) (i5 (y := V.int 8) (by rfl) h_MOST_LETTERS ⟨_, rfl⟩ (fun _ _ => .int _)) (by first | exact bM _ | with_unfolding_all rfl)) (iQ (b4 G_q_made_of (hr.mono (by decide)) (by rfl) F_q_made_of.at_ F_q_made_of.fn.kp F_q_made_of.bi (aD (v 0) (aD (i5 (y := V.str "abcdefghijklmnopqrstuvwxyz") (by rfl) h_SMALL_LETTERS ⟨_, rfl⟩ (fun _ _ => .str _)) aH)))))))
theorem zam (T : Tx K mg) {f_writes_word : Addr} {iH : FuncData} (F_writes_word : Df K mg "writes_word" eZ ["text"] f_writes_word iH) {f_q_made_of : Addr} {cJ : FuncData} (F_q_made_of : Df K mg "made_of" c7 ["text", "signs"] f_q_made_of cJ) : aS P w K mg base aQ 2 f_writes_word iH ["text"] (a8 K pM) :=
 dA F_writes_word.fn IG X1 fun cdv A outer s H E ws M R hr h => ⟨p8, zal T F_q_made_of (zD T F_q_made_of) hr, YT h⟩
theorem IH : b7 xV ["text"] (aE e6) := ⟨rfl, rfl, rfl, by decide +kernel, rfl, by decide +kernel, by decide +kernel⟩
theorem zan {f : Addr} {cdv : Value} {A : Around} {outer : List Env} {s : Shared} {H : Hp} {E : XK} (T : Tx K mg) {f_q_is_name : Addr} {dS : FuncData} (F_q_is_name : Df K mg "is_name" dU ["part"] f_q_is_name dS) (G_q_is_name : aS P w K mg base aQ 2 f_q_is_name dS ["part"] (a8 K mL)) (hr : bA 2 (A.deeper (envOfC "writes_name" (aE e6) s.heap.objs.size f cdv))) :
  b9 (aW aQ P w K mg base xV "writes_name" (aE e6) f cdv A outer s H E).nox (aM e6) p9 := by
 obtain ⟨t_MOST_LETTERS, h_MOST_LETTERS⟩ := T.c_MOST_LETTERS
 obtain ⟨t_MOST_NAME_FIGURES, h_MOST_NAME_FIGURES⟩ := T.c_MOST_NAME_FIGURES
 have nd := IH.nd
 have hu := cN hr
 exact (a7 (bJ (i := 1) nd rfl (by first | exact Or.inl rfl | exact Or.inr rfl) (dI PySem.F.plainAttrs_str PySem.F.slot_str_partition PySem.F.type_str_partition m_partition (v 0) (aD bE aH)))
   (bF (b6 (v_and (b4 G_q_is_name (hr.mono (by decide)) (by rfl) F_q_is_name.at_ F_q_is_name.fn.kp F_q_is_name.bi (aD (v 0) aH)) (v_and (fU m9 (cY fF (by rfl) T.len_ fH (aD (bX hu (v 1) aK) aH)) (i5 (y := V.int 8) (by rfl) h_MOST_LETTERS ⟨_, rfl⟩ (fun _ _ => .int _)) (by first | exact bM _ | with_unfolding_all rfl)) (iQ (fU m9 (cY fF (by rfl) T.len_ fH (aD (bX hu (v 1) aK) aH)) (i5 (y := V.int 4) (by rfl) h_MOST_NAME_FIGURES ⟨_, rfl⟩ (fun _ _ => .int _)) (by first | exact bM _ | with_unfolding_all rfl))))))))
theorem zao (T : Tx K mg) {f_writes_name : Addr} {iI : FuncData} (F_writes_name : Df K mg "writes_name" e6 ["text"] f_writes_name iI) {f_q_made_of : Addr} {cJ : FuncData} (F_q_made_of : Df K mg "made_of" c7 ["text", "signs"] f_q_made_of cJ) {f_q_is_name : Addr} {dS : FuncData} (F_q_is_name : Df K mg "is_name" dU ["part"] f_q_is_name dS) : aS P w K mg base aQ 3 f_writes_name iI ["text"] (a8 K nT) :=
 dA F_writes_name.fn IH X2 fun cdv A outer s H E ws M R hr h => ⟨p9, zan T F_q_is_name (HY T F_q_is_name F_q_made_of) hr, YU h⟩
theorem II : b7 xW ["text"] (aE eL) := ⟨rfl, rfl, rfl, by decide +kernel, rfl, by decide +kernel, by decide +kernel⟩
theorem zap {f : Addr} {cdv : Value} {A : Around} {outer : List Env} {s : Shared} {H : Hp} {E : XK} (T : Tx K mg) {f_q_made_of : Addr} {cJ : FuncData} (F_q_made_of : Df K mg "made_of" c7 ["text", "signs"] f_q_made_of cJ) (G_q_made_of : aS P w K mg base aQ 1 f_q_made_of cJ ["text", "signs"] (a8 K j0)) (hr : bA 1 (A.deeper (envOfC "writes_number" (aE eL) s.heap.objs.size f cdv))) :
  b9 (aW aQ P w K mg base xW "writes_number" (aE eL) f cdv A outer s H E).nox (aM eL) qA := by
 obtain ⟨t_FIGURES, h_FIGURES⟩ := T.c_FIGURES
 obtain ⟨t_MOST_FIGURES, h_MOST_FIGURES⟩ := T.c_MOST_FIGURES
 have nd := II.nd
 have hu := cN hr
 exact (bF (b6 (v_and (b4 G_q_made_of (hr.mono (by decide)) (by rfl) F_q_made_of.at_ F_q_made_of.fn.kp F_q_made_of.bi (aD (v 0) (aD (i5 (y := V.str "0123456789") (by rfl) h_FIGURES ⟨_, rfl⟩ (fun _ _ => .str _)) aH))) (v_and (fU m9 (cY fF (by rfl) T.len_ fH (aD (v 0) aH)) (i5 (y := V.int 60) (by rfl) h_MOST_FIGURES ⟨_, rfl⟩ (fun _ _ => .int _)) (by first | exact bM _ | with_unfolding_all rfl)) (iQ (v_or (fU (eT hr.units) (v 0) bE (by first | exact bM _ | with_unfolding_all rfl)) (iQ (fU (nA hr.units) (bX hu (v 0) aK) bE (by first | exact bM _ | with_unfolding_all rfl)))))))))
theorem zaq (T : Tx K mg) {f_writes_number : Addr} {gP : FuncData} (F_writes_number : Df K mg "writes_number" eL ["text"] f_writes_number gP) {f_q_made_of : Addr} {cJ : FuncData} (F_q_made_of : Df K mg "made_of" c7 ["text", "signs"] f_q_made_of cJ) : aS P w K mg base aQ 2 f_writes_number gP ["text"] (a8 K pN) :=
 dA F_writes_number.fn II X4 fun cdv A outer s H E ws M R hr h => ⟨qA, zap T F_q_made_of (zD T F_q_made_of) hr, YV h⟩
theorem IJ : b7 xX ["rule"] (aE fJ) := ⟨rfl, rfl, rfl, by decide +kernel, rfl, by decide +kernel, by decide +kernel⟩
theorem zar {f : Addr} {cdv : Value} {A : Around} {outer : List Env} {s : Shared} {H : Hp} {E : XK} (T : Tx K mg) {f_figures_of : Addr} {iG : FuncData} (F_figures_of : Df K mg "figures_of" eY ["number"] f_figures_of iG) (G_figures_of : aS P w K mg base aQ 2 f_figures_of iG ["number"] (a8 K pE)) (hr : bA 2 (A.deeper (envOfC "shown_rule" (aE fJ) s.heap.objs.size f cdv))) :
  b9 (aW aQ P w K mg base xX "shown_rule" (aE fJ) f cdv A outer s H E).nox (aM fJ) qB := by
 have nd := IJ.nd
 have hu := cN hr
 exact (a7 (bJ (i := 1) nd rfl (by first | exact Or.inl rfl | exact Or.inr rfl) (aT B7 (gK (aD (bX hu (v 0) aK) (aD bE aH))) (jS (C6 rfl) (by rfl) T.list_ oW (aD (bX hu (v 0) aK) aH))))
   (a7 (eD (cO (nA hr.units) (bX hu (v 0) aK) aK (by first | exact bM _ | with_unfolding_all rfl))
    (bF (nE (dI PySem.F.plainAttrs_list PySem.F.slot_list_extend PySem.F.type_list_extend PR (v 1) (aD (gK (aD bE (aD (b4 G_figures_of (hr.mono (by decide)) (by rfl) F_figures_of.at_ F_figures_of.fn.kp F_figures_of.bi (aD (bX hu (v 0) aK) aH)) aH))) aH))))
    eC)
   (bF (b6 (dI PySem.F.plainAttrs_str PySem.F.slot_str_join PySem.F.type_str_join lH bE (aD (v 1) aH))))))
theorem zas (T : Tx K mg) {f_shown_rule : Addr} {jF : FuncData} (F_shown_rule : Df K mg "shown_rule" fJ ["rule"] f_shown_rule jF) {f_divided : Addr} {gN : FuncData} (F_divided : Df K mg "divided" eJ ["number", "divisor"] f_divided gN) {f_squared_powers : Addr} {gO : FuncData} (F_squared_powers : Df K mg "squared_powers" eK ["number"] f_squared_powers gO) {f_figures_of : Addr} {iG : FuncData} (F_figures_of : Df K mg "figures_of" eY ["number"] f_figures_of iG) : aS P w K mg base aQ 3 f_shown_rule jF ["rule"] (a8 K pO) :=
 dA F_shown_rule.fn IJ X5 fun cdv A outer s H E ws M R hr h => ⟨qB, zar T F_figures_of (zak T F_figures_of F_divided F_squared_powers) hr, ZP h⟩
theorem IK : b7 xZ ["grammar"] (aE f7) := ⟨rfl, rfl, rfl, by decide +kernel, rfl, by decide +kernel, by decide +kernel⟩
theorem zat {f : Addr} {cdv : Value} {A : Around} {outer : List Env} {s : Shared} {H : Hp} {E : XK} (T : Tx K mg) {f_shown_rule : Addr} {jF : FuncData} (F_shown_rule : Df K mg "shown_rule" fJ ["rule"] f_shown_rule jF) (G_shown_rule : aS P w K mg base aQ 3 f_shown_rule jF ["rule"] (a8 K pO)) (hr : bA 3 (A.deeper (envOfC "shown_grammar" (aE f7) s.heap.objs.size f cdv))) :
  b9 (aW aQ P w K mg base xZ "shown_grammar" (aE f7) f cdv A outer s H E).nox (aM f7) qC := by
 have nd := IK.nd
 have hu := cN hr
 exact (bF (b6 (dI PySem.F.plainAttrs_str PySem.F.slot_str_join PySem.F.type_str_join lH bE (aD (fB (mB ["rule"] [none] (fX (v 0)) (fun B => (c6 (i := 0) (show (["rule"] : List Str).Nodup by decide +kernel) rfl (by first | exact Or.inl rfl | exact Or.inr rfl))) (fun B => jX) (fun B => (b4 G_shown_rule (hr.mono (by decide)) (by rfl) F_shown_rule.at_ F_shown_rule.fn.kp F_shown_rule.bi (aD (v 0) aH))))) aH))))
theorem zau (T : Tx K mg) {f_shown_grammar : Addr} {kL : FuncData} (F_shown_grammar : Df K mg "shown_grammar" f7 ["grammar"] f_shown_grammar kL) {f_divided : Addr} {gN : FuncData} (F_divided : Df K mg "divided" eJ ["number", "divisor"] f_divided gN) {f_squared_powers : Addr} {gO : FuncData} (F_squared_powers : Df K mg "squared_powers" eK ["number"] f_squared_powers gO) {f_figures_of : Addr} {iG : FuncData} (F_figures_of : Df K mg "figures_of" eY ["number"] f_figures_of iG) {f_shown_rule : Addr} {jF : FuncData} (F_shown_rule : Df K mg "shown_rule" fJ ["rule"] f_shown_rule jF) : aS P w K mg base aQ 4 f_shown_grammar kL ["grammar"] (a8 K pP) :=
 dA F_shown_grammar.fn IK X6 fun cdv A outer s H E ws M R hr h => ⟨qC, zat T F_shown_rule (zas T F_shown_rule F_divided F_squared_powers F_figures_of) hr, ZQ h⟩
theorem IL : b7 yT ["pieces"] (aE e7) := ⟨rfl, rfl, rfl, by decide +kernel, rfl, by decide +kernel, by decide +kernel⟩
theorem zav {f : Addr} {cdv : Value} {A : Around} {outer : List Env} {s : Shared} {H : Hp} {E : XK} {M : Mm} {r0 : K3} {c : dN} {Cg : Addr} (T : Tx K mg) (Z : Zx K mg c Cg) {f_writes_number : Addr} {gP : FuncData} (F_writes_number : Df K mg "writes_number" eL ["text"] f_writes_number gP) (G_writes_number : aS P w K mg base aQ 2 f_writes_number gP ["text"] (a8 K pN))
  (hr : bA 2 (A.deeper (envOfC "written_cost" (aE e7) s.heap.objs.size f cdv))) (hx : ∀ n D H' M', d6 c n = some D → Kp H M H' M' → AM K H' M' → r0 (.ty n) M' → E (.ref D) none H') :
  iD (aW (bD P w) P w K mg base yT "written_cost" (aE e7) f cdv A outer s H E) H M r0 (aM e7) qR := by
 have nd := IL.nd
 have hu := cN hr
 exact (jC (mI (PW.pt (j6 (cO jV (cY fF (by rfl) T.len_ fH (aD (v 0) aH)) aK (by first | exact bM _ | with_unfolding_all rfl)) (lY (cO (nA hr.units) (bX hu (v 0) (jO jU aK)) bE (by first | exact bM _ | with_unfolding_all rfl)))))
    (g9 (tP aK))
    mH)
   (jC (mI (PW.pt (j6 (kZ (jQ (b4 G_writes_number (hr.mono (by decide)) (by rfl) F_writes_number.at_ F_writes_number.fn.kp F_writes_number.bi (aD (bX hu (v 0) (jO jU aK)) aH)))) (lY (cO (eT hr.units) (bX hu (v 0) (jO jU aK)) bE (by first | exact bM _ | with_unfolding_all rfl)))))
    (g9 (nQ hx hr.hd Z.t (by rfl) (by rfl) bE))
    mH)
   (g9 (tP (jS VU (by rfl) T.int_ QI (aD (bX hu (v 0) (jO jU aK)) aH))))))
theorem zaw {c : dN} {Cg : Addr} (T : Tx K mg) (Z : Zx K mg c Cg) {f_written_cost : Addr} {iJ : FuncData} (F_written_cost : Df K mg "written_cost" e7 ["pieces"] f_written_cost iJ) {f_q_made_of : Addr} {cJ : FuncData} (F_q_made_of : Df K mg "made_of" c7 ["text", "signs"] f_q_made_of cJ) {f_writes_number : Addr} {gP : FuncData} (F_writes_number : Df K mg "writes_number" eL ["text"] f_writes_number gP) : aS P w K mg base (bD P w) 3 f_written_cost iJ ["pieces"] (fY K (d6 c) nV) :=
 pJ F_written_cost.fn IL X9 fun cdv A outer s H E ws M R hr h hx => ⟨qR, zav T Z F_writes_number (zaq T F_writes_number F_q_made_of) hr hx, ZH h⟩
theorem IM : b7 yU ["text"] (aE fK) := ⟨rfl, rfl, rfl, by decide +kernel, rfl, by decide +kernel, by decide +kernel⟩
theorem zax {f : Addr} {cdv : Value} {A : Around} {outer : List Env} {s : Shared} {H : Hp} {E : XK} {M : Mm} {r0 : K3} {c : dN} {Cg : Addr} (T : Tx K mg) (Z : Zx K mg c Cg) {f_writes_name : Addr} {iI : FuncData} (F_writes_name : Df K mg "writes_name" e6 ["text"] f_writes_name iI) (G_writes_name : aS P w K mg base aQ 3 f_writes_name iI ["text"] (a8 K nT)) {f_written_cost : Addr} {iJ : FuncData} (F_written_cost : Df K mg "written_cost" e7 ["pieces"] f_written_cost iJ) (G_written_cost : aS P w K mg base (bD P w) 3 f_written_cost iJ ["pieces"] (fY K (d6 c) nV)) {f_writes_word : Addr} {iH : FuncData} (F_writes_word : Df K mg "writes_word" eZ ["text"] f_writes_word iH) (G_writes_word : aS P w K mg base aQ 2 f_writes_word iH ["text"] (a8 K pM))
  (hr : bA 3 (A.deeper (envOfC "read_rule" (aE fK) s.heap.objs.size f cdv))) (hx : ∀ n D H' M', d6 c n = some D → Kp H M H' M' → AM K H' M' → r0 (.ty n) M' → E (.ref D) none H') :
  iD (aW (bD P w) P w K mg base yU "read_rule" (aE fK) f cdv A outer s H E) H M r0 (aM fK) qS := by
 have nd := IM.nd
 have hu := cN hr
 exact (jC (xJ (bJ (i := 1) nd rfl (by first | exact Or.inl rfl | exact Or.inr rfl) (fB (dI PySem.F.plainAttrs_str PySem.F.slot_str_split PySem.F.type_str_split pB (v 0) (aD bE aH)))) (fun _ _ _ _ h => h))
   (jC (mI (PW.pt (j6 (cO jV (cY fF (by rfl) T.len_ fH (aD (v 1) aH)) aK (by first | exact bM _ | with_unfolding_all rfl)) (j6 (kZ (jQ (b4 G_writes_name (hr.mono (by decide)) (by rfl) F_writes_name.at_ F_writes_name.fn.kp F_writes_name.bi (aD (bX hu (v 1) aK) aH)))) (lY (cO (nA hr.units) (bX hu (v 1) aK) bE (by first | exact bM _ | with_unfolding_all rfl))))))
    (g9 (nQ hx hr.hd Z.t (by rfl) (by rfl) bE))
    mH)
   (jC (XN (i := 2) (te := fun r0 => (kH nV (iU (aA 1) (d8 (vC (.int 2))) fW) r0)) nd rfl (by first | exact Or.inl rfl | exact Or.inr rfl) (xN (xH fun _ _ _ z => z) hx G_written_cost (hr.mono (by decide)) (by rfl) F_written_cost.at_ F_written_cost.fn.kp F_written_cost.bi (FE (kB (v 1) (fE aK) iA))))
   (jC (xJ (bJ (i := 3) nd rfl (by first | exact Or.inl rfl | exact Or.inr rfl) (O9 (cO (eT hr.units) (v 2) aK (by first | exact bM _ | with_unfolding_all rfl)) (kB (v 1) (fE aK) iA) (kB (v 1) (fE aK) (fE (jO jU aK))))) (fun _ _ _ _ h => h))
   (jC (mI (kZ (jQ (cY (vS rfl) (by rfl) T.all_ v8 (aD (fB (mB ["part"] [none] (fX (v 3)) (fun B => (c6 (i := 0) (show (["part"] : List Str).Nodup by decide +kernel) rfl (by first | exact Or.inl rfl | exact Or.inr rfl))) (fun B => jX) (fun B => (v_or (b4 G_writes_word (hr.mono (by decide)) (by rfl) F_writes_word.at_ F_writes_word.fn.kp F_writes_word.bi (aD (v 0) aH)) (iQ (b4 G_writes_name (hr.mono (by decide)) (by rfl) F_writes_name.at_ F_writes_name.fn.kp F_writes_name.bi (aD (v 0) aH))))))) aH))))
    (g9 (nQ hx hr.hd Z.t (by rfl) (by rfl) bE))
    mH)
   (g9 (tP (B4 (aD (bX hu (v 1) aK) (aD (jS CL (by rfl) T.tuple_ DB (aD (v 3) aH)) (aD (v 2) aH)))))))))))
theorem zay {c : dN} {Cg : Addr} (T : Tx K mg) (Z : Zx K mg c Cg) {f_read_rule : Addr} {jG : FuncData} (F_read_rule : Df K mg "read_rule" fK ["text"] f_read_rule jG) {f_q_made_of : Addr} {cJ : FuncData} (F_q_made_of : Df K mg "made_of" c7 ["text", "signs"] f_q_made_of cJ) {f_q_is_name : Addr} {dS : FuncData} (F_q_is_name : Df K mg "is_name" dU ["part"] f_q_is_name dS) {f_writes_word : Addr} {iH : FuncData} (F_writes_word : Df K mg "writes_word" eZ ["text"] f_writes_word iH) {f_writes_name : Addr} {iI : FuncData} (F_writes_name : Df K mg "writes_name" e6 ["text"] f_writes_name iI) {f_writes_number : Addr} {gP : FuncData} (F_writes_number : Df K mg "writes_number" eL ["text"] f_writes_number gP) {f_written_cost : Addr} {iJ : FuncData} (F_written_cost : Df K mg "written_cost" e7 ["pieces"] f_written_cost iJ) : aS P w K mg base (bD P w) 4 f_read_rule jG ["text"] (fY K (d6 c) nW) :=
 pJ F_read_rule.fn IM YA fun cdv A outer s H E ws M R hr h hx => ⟨qS, zax T Z F_writes_name (zao T F_writes_name F_q_made_of F_q_is_name) F_written_cost (zaw T Z F_written_cost F_q_made_of F_writes_number) F_writes_word (zam T F_writes_word F_q_made_of) hr hx, ZK h⟩
theorem IP : b7 yX ["text"] (aE f9) := ⟨rfl, rfl, rfl, by decide +kernel, rfl, by decide +kernel, by decide +kernel⟩
theorem zaz {f : Addr} {cdv : Value} {A : Around} {outer : List Env} {s : Shared} {H : Hp} {E : XK} {M : Mm} {r0 : K3} {c : dN} {Cg : Addr} (T : Tx K mg) (Z : Zx K mg c Cg) {f_grammar_of : Addr} {jE : FuncData} (F_grammar_of : Df K mg "grammar_of" fI ["rules"] f_grammar_of jE) (G_grammar_of : aS P w K mg base (bD P w) 4 f_grammar_of jE ["rules"] (fY K (d6 c) nU)) {f_read_rule : Addr} {jG : FuncData} (F_read_rule : Df K mg "read_rule" fK ["text"] f_read_rule jG) (G_read_rule : aS P w K mg base (bD P w) 4 f_read_rule jG ["text"] (fY K (d6 c) nW))
  (hr : bA 4 (A.deeper (envOfC "read_grammar" (aE f9) s.heap.objs.size f cdv))) (hx : ∀ n D H' M', d6 c n = some D → Kp H M H' M' → AM K H' M' → r0 (.ty n) M' → E (.ref D) none H') :
  iD (aW (bD P w) P w K mg base yX "read_grammar" (aE f9) f cdv A outer s H E) H M r0 (aM f9) qT := by
 have nd := IP.nd
 have hu := cN hr
 exact (g9 (XM (te := fun r0 => (cU (kH nU (cU (eE (dM dF (cU (cW "str" iC (aA 0) (aC (vC (.str "\n")) aG)))) (cH 0) fG (kH nW (aA 0) r0) [none])) r0))) (FF (xN (xH fun _ _ _ z => z) hx G_grammar_of (hr.mono (by decide)) (by rfl) F_grammar_of.at_ F_grammar_of.fn.kp F_grammar_of.bi (FF (XO rfl ["row"] [none] (fX (fB (dI PySem.F.plainAttrs_str PySem.F.slot_str_split PySem.F.type_str_split pB (v 0) (aD bE aH)))) (fun B => (c6 (i := 0) (show (["row"] : List Str).Nodup by decide +kernel) rfl (by first | exact Or.inl rfl | exact Or.inr rfl))) (fun B => jX) (fun B => (xN (XD fun _ _ _ z => z) hx G_read_rule (hr.mono (by decide)) (by rfl) F_read_rule.at_ F_read_rule.fn.kp F_read_rule.bi (FE (v 0))))))))))
theorem zaA {c : dN} {Cg : Addr} (T : Tx K mg) (Z : Zx K mg c Cg) {f_read_grammar : Addr} {kM : FuncData} (F_read_grammar : Df K mg "read_grammar" f9 ["text"] f_read_grammar kM) {f_q_made_of : Addr} {cJ : FuncData} (F_q_made_of : Df K mg "made_of" c7 ["text", "signs"] f_q_made_of cJ) {f_q_is_name : Addr} {dS : FuncData} (F_q_is_name : Df K mg "is_name" dU ["part"] f_q_is_name dS) {f_names : Addr} {iE : FuncData} (F_names : Df K mg "names" eW ["grammar"] f_names iE) {f_check_rule : Addr} {iF : FuncData} (F_check_rule : Df K mg "check_rule" eX ["rule", "known"] f_check_rule iF) {f_grammar_of : Addr} {jE : FuncData} (F_grammar_of : Df K mg "grammar_of" fI ["rules"] f_grammar_of jE) {f_writes_word : Addr} {iH : FuncData} (F_writes_word : Df K mg "writes_word" eZ ["text"] f_writes_word iH) {f_writes_name : Addr} {iI : FuncData} (F_writes_name : Df K mg "writes_name" e6 ["text"] f_writes_name iI) {f_writes_number : Addr} {gP : FuncData} (F_writes_number : Df K mg "writes_number" eL ["text"] f_writes_number gP) {f_written_cost : Addr} {iJ : FuncData} (F_written_cost : Df K mg "written_cost" e7 ["pieces"] f_written_cost iJ) {f_read_rule : Addr} {jG : FuncData} (F_read_rule : Df K mg "read_rule" fK ["text"] f_read_rule jG) : aS P w K mg base (bD P w) 5 f_read_grammar kM ["text"] (fY K (d6 c) pR) :=
 pJ F_read_grammar.fn IP YB fun cdv A outer s H E ws M R hr h hx => ⟨qT, zaz T Z F_grammar_of (zae T Z F_grammar_of F_q_made_of F_q_is_name F_names F_check_rule) F_read_rule (zay T Z F_read_rule F_q_made_of F_q_is_name F_writes_word F_writes_name F_writes_number F_written_cost) hr hx, ZN h⟩
theorem IQ : b7 wH ["script", "k"] (aE eM) := ⟨rfl, rfl, rfl, by decide +kernel, rfl, by decide +kernel, by decide +kernel⟩
theorem zaB {f : Addr} {cdv : Value} {A : Around} {outer : List Env} {s : Shared} {H : Hp} {E : XK} (T : Tx K mg) (hr : bA 0 (A.deeper (envOfC "_law_cell_at" (aE eM) s.heap.objs.size f cdv))) :
  b9 (aW aQ P w K mg base wH "_law_cell_at" (aE eM) f cdv A outer s H E).nox (aM eM) mD := by
 have nd := IQ.nd
 have hu := cN hr
 exact (a7 (eD (cO jV (v 1) (cY fF (by rfl) T.len_ fH (aD (v 0) aH)) (by first | exact bM _ | with_unfolding_all rfl))
    (bF (b6 (bX hu (v 0) (v 1))))
    eC)
   (bF (b6 aK)))
theorem IS (T : Tx K mg) {f_l_cell_at : Addr} {fZ : FuncData} (F_l_cell_at : Df K mg "_law_cell_at" eM ["script", "k"] f_l_cell_at fZ) : aS P w K mg base aQ 1 f_l_cell_at fZ ["script", "k"] (a8 K jB) :=
 dA F_l_cell_at.fn IQ VG fun cdv A outer s H E ws M R hr h => ⟨mD, zaB T hr, VJ h⟩
theorem IT : b7 x5 ["cells"] (aE e8) := ⟨rfl, rfl, rfl, by decide +kernel, rfl, by decide +kernel, by decide +kernel⟩
theorem zaC {f : Addr} {cdv : Value} {A : Around} {outer : List Env} {s : Shared} {H : Hp} {E : XK} (T : Tx K mg) (hr : bA 0 (A.deeper (envOfC "_law_heads" (aE e8) s.heap.objs.size f cdv))) :
  b9 (aW aQ P w K mg base x5 "_law_heads" (aE e8) f cdv A outer s H E).nox (aM e8) qD := by
 have nd := IT.nd
 have hu := cN hr
 exact (a7 (bJ (i := 1) nd rfl (by first | exact Or.inl rfl | exact Or.inr rfl) (m8 aH))
   (a7 (jW PassesOwn.never rfl (fX (v 0)) (c6 (i := 2) nd rfl (by first | exact Or.inl rfl | exact Or.inr rfl))
    (a7 (bJ (i := 2) nd rfl (by first | exact Or.inl rfl | exact Or.inr rfl) (aT dE (v 2) (aT oN aK aK)))
   (a7 (bJ (i := 3) nd rfl (by first | exact Or.inl rfl | exact Or.inr rfl) (dI PySem.F.plainAttrs_str PySem.F.slot_str_join PySem.F.type_str_join lH bE (aD (fB (mB ["k", "cell"] [none, some 2] (sM (by rfl) T.range_ (aD (aT cA aK (aT dE (aT fV (v 2) aK) aK)) aH)) (fun B => (c6 (i := 0) (show (["k", "cell"] : List Str).Nodup by decide +kernel) rfl (by first | exact Or.inl rfl | exact Or.inr rfl))) (fun B => jX) (fun B => (bX hu bE (aT dE (aT cA (aT fV (v 1) (aT cA (v 0) aK)) (aT oV (v 0) (v 0))) aK))))) aH)))
   (a7 (eD (cO (eT hr.units) (aT dE (v 2) aK) aK (by first | exact bM _ | with_unfolding_all rfl))
    (bF (bJ (i := 3) nd rfl (by first | exact Or.inl rfl | exact Or.inr rfl) (aT cA (aT cA (v 3) bE) (jS vR (by rfl) T.str_ v7 (aD (aT dE (aT fV (v 2) aK) (bX hu (gK (aD aK (aD aK aH))) (aT dE (aT fV (v 2) aK) aK))) aH)))))
    eC)
   (bF (eD (cO (vP hu) (v 3) (v 1) (by first | exact bM _ | with_unfolding_all rfl))
    (bF (nE (dI PySem.F.plainAttrs_list PySem.F.slot_list_append PySem.F.type_list_append sG (v 1) (aD (v 3) aH))))
    eC))))))
   (bF (b6 (fB (v 1))))))
theorem zaD (T : Tx K mg) {f_m_heads : Addr} {iK : FuncData} (F_m_heads : Df K mg "_law_heads" e8 ["cells"] f_m_heads iK) : aS P w K mg base aQ 1 f_m_heads iK ["cells"] (a8 K pT) :=
 dA F_m_heads.fn IT YC fun cdv A outer s H E ws M R hr h => ⟨qD, zaC T hr, Y9 h⟩
theorem IU : b7 x6 ["number"] (aE eO) := ⟨rfl, rfl, rfl, by decide +kernel, rfl, by decide +kernel, by decide +kernel⟩
theorem zaE {f : Addr} {cdv : Value} {A : Around} {outer : List Env} {s : Shared} {H : Hp} {E : XK} (T : Tx K mg) (hr : bA 0 (A.deeper (envOfC "_law_word" (aE eO) s.heap.objs.size f cdv))) :
  b9 (aW aQ P w K mg base x6 "_law_word" (aE eO) f cdv A outer s H E).nox (aM eO) qE := by
 have nd := IU.nd
 have hu := cN hr
 exact (bF (b6 (dI PySem.F.plainAttrs_str PySem.F.slot_str_join PySem.F.type_str_join lH bE (aD (fB (mB ["k", "number"] [none, some 0] (sM (by rfl) T.range_ (aD (aT cA aK (aT dE (aT fV (v 0) aK) aK)) aH)) (fun B => (c6 (i := 0) (show (["k", "number"] : List Str).Nodup by decide +kernel) rfl (by first | exact Or.inl rfl | exact Or.inr rfl))) (fun B => jX) (fun B => (bX hu bE (aT dE (aT cA (aT fV (v 1) (aT cA (v 0) aK)) (v 0)) aK))))) aH))))
theorem zaF (T : Tx K mg) {f_m_word : Addr} {gQ : FuncData} (F_m_word : Df K mg "_law_word" eO ["number"] f_m_word gQ) : aS P w K mg base aQ 1 f_m_word gQ ["number"] (a8 K pU) :=
 dA F_m_word.fn IU YD fun cdv A outer s H E ws M R hr h => ⟨qE, zaE T hr, Y4 h⟩
theorem IV : b7 x8 ["cell", "k", "heads"] (aE e9) := ⟨rfl, rfl, rfl, by decide +kernel, rfl, by decide +kernel, by decide +kernel⟩
theorem zaG {f : Addr} {cdv : Value} {A : Around} {outer : List Env} {s : Shared} {H : Hp} {E : XK} (T : Tx K mg) {f_m_word : Addr} {gQ : FuncData} (F_m_word : Df K mg "_law_word" eO ["number"] f_m_word gQ) (G_m_word : aS P w K mg base aQ 1 f_m_word gQ ["number"] (a8 K pU)) (hr : bA 1 (A.deeper (envOfC "_law_rule" (aE e9) s.heap.objs.size f cdv))) :
  b9 (aW aQ P w K mg base x8 "_law_rule" (aE e9) f cdv A outer s H E).nox (aM e9) qF := by
 have nd := IV.nd
 have hu := cN hr
 exact (a7 (bJ (i := 0) nd rfl (by first | exact Or.inl rfl | exact Or.inr rfl) (aT dE (v 0) (aT oN aK aK)))
   (a7 (bJ (i := 3) nd rfl (by first | exact Or.inl rfl | exact Or.inr rfl) (bX hu (v 2) (aT dE (aT fV (v 0) aK) (cY fF (by rfl) T.len_ fH (aD (v 2) aH)))))
   (a7 (eD (cO jV (v 1) (cY fF (by rfl) T.len_ fH (aD (v 2) aH)) (by first | exact bM _ | with_unfolding_all rfl))
    (bF (bJ (i := 3) nd rfl (by first | exact Or.inl rfl | exact Or.inr rfl) (bX hu (v 2) (v 1))))
    eC)
   (a7 (bJ (i := 4) nd rfl (by first | exact Or.inl rfl | exact Or.inr rfl) (m8 aH))
   (a7 (jW PassesOwn.never rfl (sM (by rfl) T.range_ (aD (aT dE (v 0) aK) aH)) (c6 (i := 5) nd rfl (by first | exact Or.inl rfl | exact Or.inr rfl))
    (a7 (bJ (i := 6) nd rfl (by first | exact Or.inl rfl | exact Or.inr rfl) (aT dE (aT fV (aT cA (v 0) (aT oV (v 5) aK)) (aT cA aK (v 5))) (aT oN aK aK)))
   (bF (nE (dI PySem.F.plainAttrs_list PySem.F.slot_list_append PySem.F.type_list_append sG (v 4) (aD (bX hu (gK (aD (b4 G_m_word (hr.mono (by decide)) (by rfl) F_m_word.at_ F_m_word.fn.kp F_m_word.bi (aD (aT fV (v 6) aK) aH)) (aD (bX hu (v 2) (aT dE (aT fV (v 6) aK) (cY fF (by rfl) T.len_ fH (aD (v 2) aH)))) aH))) (aT dE (v 6) aK)) aH))))))
   (bF (b6 (B4 (aD (v 3) (aD (jS CL (by rfl) T.tuple_ DB (aD (v 4) aH)) (aD (bX hu (gK (aD aK (aD aK (aD (aT dE (aT fV (v 0) aK) aK) (aD (aT dE (aT oV (aT cA (v 0) aK) (aT cA (v 0) aK)) (aT oN aK aK)) aH))))) (aT dE (aT fV (v 0) aK) aK)) aH)))))))))))
theorem zaH (T : Tx K mg) {f_m_rule : Addr} {iL : FuncData} (F_m_rule : Df K mg "_law_rule" e9 ["cell", "k", "heads"] f_m_rule iL) {f_m_word : Addr} {gQ : FuncData} (F_m_word : Df K mg "_law_word" eO ["number"] f_m_word gQ) : aS P w K mg base aQ 2 f_m_rule iL ["cell", "k", "heads"] (a8 K pV) :=
 dA F_m_rule.fn IV YE fun cdv A outer s H E ws M R hr h => ⟨qF, zaG T F_m_word (zaF T F_m_word) hr, ZA h⟩
theorem IW : b7 yC ["script"] (aE fL) := ⟨rfl, rfl, rfl, by decide +kernel, rfl, by decide +kernel, by decide +kernel⟩
theorem zaI {f : Addr} {cdv : Value} {A : Around} {outer : List Env} {s : Shared} {H : Hp} {E : XK} (T : Tx K mg) {f_m_heads : Addr} {iK : FuncData} (F_m_heads : Df K mg "_law_heads" e8 ["cells"] f_m_heads iK) (G_m_heads : aS P w K mg base aQ 1 f_m_heads iK ["cells"] (a8 K pT)) {f_l_cell_at : Addr} {fZ : FuncData} (F_l_cell_at : Df K mg "_law_cell_at" eM ["script", "k"] f_l_cell_at fZ) (G_l_cell_at : aS P w K mg base aQ 1 f_l_cell_at fZ ["script", "k"] (a8 K jB)) {f_m_rule : Addr} {iL : FuncData} (F_m_rule : Df K mg "_law_rule" e9 ["cell", "k", "heads"] f_m_rule iL) (G_m_rule : aS P w K mg base aQ 2 f_m_rule iL ["cell", "k", "heads"] (a8 K pV)) (hr : bA 2 (A.deeper (envOfC "_law_rules" (aE fL) s.heap.objs.size f cdv))) :
  b9 (aW aQ P w K mg base yC "_law_rules" (aE fL) f cdv A outer s H E).nox (aM fL) qG := by
 have nd := IW.nd
 have hu := cN hr
 exact (a7 (bJ (i := 1) nd rfl (by first | exact Or.inl rfl | exact Or.inr rfl) (b4 G_m_heads (hr.mono (by decide)) (by rfl) F_m_heads.at_ F_m_heads.fn.kp F_m_heads.bi (aD (aT cA (kB (v 0) (fE aK) (fE aK)) (gK (aD (b4 G_l_cell_at (hr.mono (by decide)) (by rfl) F_l_cell_at.at_ F_l_cell_at.fn.kp F_l_cell_at.bi (aD (v 0) (aD aK aH))) aH))) aH)))
   (a7 (bJ (i := 2) nd rfl (by first | exact Or.inl rfl | exact Or.inr rfl) (m8 aH))
   (a7 (jW PassesOwn.never rfl (sM (by rfl) T.range_ (aD (aT cA (cY fF (by rfl) T.len_ fH (aD (v 1) aH)) (aT dE (aT fV (b4 G_l_cell_at (hr.mono (by decide)) (by rfl) F_l_cell_at.at_ F_l_cell_at.fn.kp F_l_cell_at.bi (aD (v 0) (aD aK aH))) aK) aK)) aH)) (c6 (i := 3) nd rfl (by first | exact Or.inl rfl | exact Or.inr rfl))
    (bF (nE (dI PySem.F.plainAttrs_list PySem.F.slot_list_append PySem.F.type_list_append sG (v 2) (aD (b4 G_m_rule (hr.mono (by decide)) (by rfl) F_m_rule.at_ F_m_rule.fn.kp F_m_rule.bi (aD (b4 G_l_cell_at (hr.mono (by decide)) (by rfl) F_l_cell_at.at_ F_l_cell_at.fn.kp F_l_cell_at.bi (aD (v 0) (aD (aT cA aK (v 3)) aH))) (aD (v 3) (aD (v 1) aH)))) aH)))))
   (bF (b6 (v 2))))))
theorem zaJ (T : Tx K mg) {f_m_rules : Addr} {jH : FuncData} (F_m_rules : Df K mg "_law_rules" fL ["script"] f_m_rules jH) {f_l_cell_at : Addr} {fZ : FuncData} (F_l_cell_at : Df K mg "_law_cell_at" eM ["script", "k"] f_l_cell_at fZ) {f_m_heads : Addr} {iK : FuncData} (F_m_heads : Df K mg "_law_heads" e8 ["cells"] f_m_heads iK) {f_m_word : Addr} {gQ : FuncData} (F_m_word : Df K mg "_law_word" eO ["number"] f_m_word gQ) {f_m_rule : Addr} {iL : FuncData} (F_m_rule : Df K mg "_law_rule" e9 ["cell", "k", "heads"] f_m_rule iL) : aS P w K mg base aQ 3 f_m_rules jH ["script"] (a8 K pW) :=
 dA F_m_rules.fn IW YF fun cdv A outer s H E ws M R hr h => ⟨qG, zaI T F_m_heads (zaD T F_m_heads) F_l_cell_at (IS T F_l_cell_at) F_m_rule (zaH T F_m_rule F_m_word) hr, ZD h⟩
theorem IX : b7 yD ["rules"] (aE fM) := ⟨rfl, rfl, rfl, by decide +kernel, rfl, by decide +kernel, by decide +kernel⟩
theorem zaK {f : Addr} {cdv : Value} {A : Around} {outer : List Env} {s : Shared} {H : Hp} {E : XK} (T : Tx K mg) (hr : bA 0 (A.deeper (envOfC "_law_shown" (aE fM) s.heap.objs.size f cdv))) :
  b9 (aW aQ P w K mg base yD "_law_shown" (aE fM) f cdv A outer s H E).nox (aM fM) qH := by
 have nd := IX.nd
 have hu := cN hr
 exact (a7 (bJ (i := 1) nd rfl (by first | exact Or.inl rfl | exact Or.inr rfl) (m8 aH))
   (a7 (jW PassesOwn.never rfl (P7 (v 0)) (CN rfl (nD (c6 (i := 2) nd rfl (by first | exact Or.inl rfl | exact Or.inr rfl)) (nD (c6 (i := 3) nd rfl (by first | exact Or.inl rfl | exact Or.inr rfl)) (nD (c6 (i := 4) nd rfl (by first | exact Or.inl rfl | exact Or.inr rfl)) CM))))
    (a7 (bJ (i := 5) nd rfl (by first | exact Or.inl rfl | exact Or.inr rfl) (dI PySem.F.plainAttrs_str PySem.F.slot_str_join PySem.F.type_str_join lH bE (aD (aT cA (gK (aD (v 2) (aD bE aH))) (jS (C6 rfl) (by rfl) T.list_ oW (aD (v 3) aH))) aH)))
   (a7 (eD (cO CA (v 4) aK (by first | exact bM _ | with_unfolding_all rfl))
    (bF (bJ (i := 5) nd rfl (by first | exact Or.inl rfl | exact Or.inr rfl) (aT cA (aT cA (v 5) bE) (jS vR (by rfl) T.str_ v7 (aD (v 4) aH)))))
    eC)
   (bF (nE (dI PySem.F.plainAttrs_list PySem.F.slot_list_append PySem.F.type_list_append sG (v 1) (aD (v 5) aH)))))))
   (bF (b6 (dI PySem.F.plainAttrs_str PySem.F.slot_str_join PySem.F.type_str_join lH bE (aD (v 1) aH))))))
theorem zaL (T : Tx K mg) {f_m_shown : Addr} {jI : FuncData} (F_m_shown : Df K mg "_law_shown" fM ["rules"] f_m_shown jI) : aS P w K mg base aQ 1 f_m_shown jI ["rules"] (a8 K pX) :=
 dA F_m_shown.fn IX YG fun cdv A outer s H E ws M R hr h => ⟨qH, zaK T hr, Y1 h⟩
theorem IY : b7 yE ["cell"] (aE fN) := ⟨rfl, rfl, rfl, by decide +kernel, rfl, by decide +kernel, by decide +kernel⟩
theorem zaM {f : Addr} {cdv : Value} {A : Around} {outer : List Env} {s : Shared} {H : Hp} {E : XK} (T : Tx K mg) (hr : bA 0 (A.deeper (envOfC "_law_odd" (aE fN) s.heap.objs.size f cdv))) :
  b9 (aW aQ P w K mg base yE "_law_odd" (aE fN) f cdv A outer s H E).nox (aM fN) qI := by
 have nd := IY.nd
 have hu := cN hr
 exact (a7 (bJ (i := 1) nd rfl (by first | exact Or.inl rfl | exact Or.inr rfl) (tL rfl))
   (a7 (bJ (i := 1) nd rfl (by first | exact Or.inl rfl | exact Or.inr rfl) (aT cA (v 1) (tL rfl)))
   (a7 (bJ (i := 1) nd rfl (by first | exact Or.inl rfl | exact Or.inr rfl) (aT cA (v 1) (tL rfl)))
   (a7 (bJ (i := 1) nd rfl (by first | exact Or.inl rfl | exact Or.inr rfl) (aT cA (v 1) (tL rfl)))
   (bF (b6 (bX hu (v 1) (aT dE (v 0) aK))))))))
theorem zaN (T : Tx K mg) {f_l_odd : Addr} {jJ : FuncData} (F_l_odd : Df K mg "_law_odd" fN ["cell"] f_l_odd jJ) : aS P w K mg base aQ 1 f_l_odd jJ ["cell"] (a8 K pY) :=
 dA F_l_odd.fn IY YH fun cdv A outer s H E ws M R hr h => ⟨qI, zaM T hr, ZY h⟩
theorem IZ : b7 yF ["cell"] (aE fO) := ⟨rfl, rfl, rfl, by decide +kernel, rfl, by decide +kernel, by decide +kernel⟩
theorem zaO {f : Addr} {cdv : Value} {A : Around} {outer : List Env} {s : Shared} {H : Hp} {E : XK} (T : Tx K mg) (hr : bA 0 (A.deeper (envOfC "_law_long" (aE fO) s.heap.objs.size f cdv))) :
  b9 (aW aQ P w K mg base yF "_law_long" (aE fO) f cdv A outer s H E).nox (aM fO) qJ := by
 have nd := IZ.nd
 have hu := cN hr
 exact (a7 (bJ (i := 1) nd rfl (by first | exact Or.inl rfl | exact Or.inr rfl) (aT cA bE (aT oV bE (aT cA aK (aT dE (v 0) aK)))))
   (bF (b6 (bX hu (gK (aD (aT cA bE (v 1)) (aD bE (aD bE (aD bE aH))))) (aT dE (aT fV (v 0) aK) aK)))))
theorem zaP (T : Tx K mg) {f_l_long : Addr} {jK : FuncData} (F_l_long : Df K mg "_law_long" fO ["cell"] f_l_long jK) : aS P w K mg base aQ 1 f_l_long jK ["cell"] (a8 K pZ) :=
 dA F_l_long.fn IZ YI fun cdv A outer s H E ws M R hr h => ⟨qJ, zaO T hr, Z0 h⟩
theorem I0 : b7 yG ["script"] (aE gA) := ⟨rfl, rfl, rfl, by decide +kernel, rfl, by decide +kernel, by decide +kernel⟩
theorem zaQ {f : Addr} {cdv : Value} {A : Around} {outer : List Env} {s : Shared} {H : Hp} {E : XK} (T : Tx K mg) {f_m_shown : Addr} {jI : FuncData} (F_m_shown : Df K mg "_law_shown" fM ["rules"] f_m_shown jI) (G_m_shown : aS P w K mg base aQ 1 f_m_shown jI ["rules"] (a8 K pX)) {f_m_rules : Addr} {jH : FuncData} (F_m_rules : Df K mg "_law_rules" fL ["script"] f_m_rules jH) (G_m_rules : aS P w K mg base aQ 3 f_m_rules jH ["script"] (a8 K pW)) {f_l_cell_at : Addr} {fZ : FuncData} (F_l_cell_at : Df K mg "_law_cell_at" eM ["script", "k"] f_l_cell_at fZ) (G_l_cell_at : aS P w K mg base aQ 1 f_l_cell_at fZ ["script", "k"] (a8 K jB)) {f_l_odd : Addr} {jJ : FuncData} (F_l_odd : Df K mg "_law_odd" fN ["cell"] f_l_odd jJ) (G_l_odd : aS P w K mg base aQ 1 f_l_odd jJ ["cell"] (a8 K pY)) {f_l_long : Addr} {jK : FuncData} (F_l_long : Df K mg "_law_long" fO ["cell"] f_l_long jK) (G_l_long : aS P w K mg base aQ 1 f_l_long jK ["cell"] (a8 K pZ)) (hr : bA 3 (A.deeper (envOfC "_law_text" (aE gA) s.heap.objs.size f cdv))) :
  b9 (aW aQ P w K mg base yG "_law_text" (aE gA) f cdv A outer s H E).nox (aM gA) qK := by
 have nd := I0.nd
 have hu := cN hr
 exact (a7 (bJ (i := 1) nd rfl (by first | exact Or.inl rfl | exact Or.inr rfl) (fB (dI PySem.F.plainAttrs_str PySem.F.slot_str_split PySem.F.type_str_split pB (b4 G_m_shown (hr.mono (by decide)) (by rfl) F_m_shown.at_ F_m_shown.fn.kp F_m_shown.bi (aD (fB (b4 G_m_rules (hr.mono (by decide)) (by rfl) F_m_rules.at_ F_m_rules.fn.kp F_m_rules.bi (aD (v 0) aH))) aH)) (aD bE aH))))
   (a7 (bJ (i := 2) nd rfl (by first | exact Or.inl rfl | exact Or.inr rfl) (aT dE (aT fV (b4 G_l_cell_at (hr.mono (by decide)) (by rfl) F_l_cell_at.at_ F_l_cell_at.fn.kp F_l_cell_at.bi (aD (v 0) (aD aK aH))) aK) aK))
   (a7 (bJ (i := 3) nd rfl (by first | exact Or.inl rfl | exact Or.inr rfl) (b4 G_l_cell_at (hr.mono (by decide)) (by rfl) F_l_cell_at.at_ F_l_cell_at.fn.kp F_l_cell_at.bi (aD (v 0) (aD aK aH))))
   (a7 (bJ (i := 4) nd rfl (by first | exact Or.inl rfl | exact Or.inr rfl) (b4 G_l_cell_at (hr.mono (by decide)) (by rfl) F_l_cell_at.at_ F_l_cell_at.fn.kp F_l_cell_at.bi (aD (v 0) (aD aK aH))))
   (a7 (eD (cO jV (v 2) aK (by first | exact bM _ | with_unfolding_all rfl))
    (a7 (bJ (i := 5) nd rfl (by first | exact Or.inl rfl | exact Or.inr rfl) (aT dE (v 4) (aT cA (cY fF (by rfl) T.len_ fH (aD (v 1) aH)) aK)))
   (bF (bJ (i := 1) nd rfl (by first | exact Or.inl rfl | exact Or.inr rfl) (aT cA (aT cA (kB (v 1) iA (fE (v 5))) (gK (aD (XT hu G_l_odd (hr.mono (by decide)) (by rfl) F_l_odd.at_ F_l_odd.fn.kp F_l_odd.bi G_l_long (hr.mono (by decide)) (by rfl) F_l_long.at_ F_l_long.fn.kp F_l_long.bi (v 2) (aD (v 3) aH)) aH))) (kB (v 1) (fE (v 5)) iA)))))
    eC)
   (a7 (bJ (i := 6) nd rfl (by first | exact Or.inl rfl | exact Or.inr rfl) (dI PySem.F.plainAttrs_str PySem.F.slot_str_join PySem.F.type_str_join lH bE (aD (v 1) aH)))
   (a7 (bJ (i := 7) nd rfl (by first | exact Or.inl rfl | exact Or.inr rfl) (bX hu bE (aT dE (aT fV (v 3) aK) aK)))
   (a7 (bJ (i := 5) nd rfl (by first | exact Or.inl rfl | exact Or.inr rfl) (aT dE (v 4) (aT cA (cY fF (by rfl) T.len_ fH (aD (v 6) aH)) aK)))
   (a7 (eD (PW.pt (j6 (cO (eT hr.units) (v 2) aK (by first | exact bM _ | with_unfolding_all rfl)) (lY (cO (eT hr.units) (v 2) aK (by first | exact bM _ | with_unfolding_all rfl)))))
    (bF (b6 (aT cA (aT cA (nR (v 6) iA (fE (v 5))) (v 7)) (nR (v 6) (fE (v 5)) iA))))
    eC)
   (a7 (eD (cO (eT hr.units) (v 2) aK (by first | exact bM _ | with_unfolding_all rfl))
    (bF (b6 (aT cA (nR (v 6) iA (fE (v 5))) (nR (v 6) (fE (aT cA (v 5) aK)) iA))))
    eC)
   (a7 (eD (cO (eT hr.units) (v 2) aK (by first | exact bM _ | with_unfolding_all rfl))
    (bF (b6 (aT cA (aT cA (nR (v 6) iA (fE (v 5))) (v 7)) (nR (v 6) (fE (aT cA (v 5) aK)) iA))))
    eC)
   (bF (b6 (v 6))))))))))))))
theorem zaR (T : Tx K mg) {f_l_text : Addr} {kN : FuncData} (F_l_text : Df K mg "_law_text" gA ["script"] f_l_text kN) {f_l_cell_at : Addr} {fZ : FuncData} (F_l_cell_at : Df K mg "_law_cell_at" eM ["script", "k"] f_l_cell_at fZ) {f_m_heads : Addr} {iK : FuncData} (F_m_heads : Df K mg "_law_heads" e8 ["cells"] f_m_heads iK) {f_m_word : Addr} {gQ : FuncData} (F_m_word : Df K mg "_law_word" eO ["number"] f_m_word gQ) {f_m_rule : Addr} {iL : FuncData} (F_m_rule : Df K mg "_law_rule" e9 ["cell", "k", "heads"] f_m_rule iL) {f_m_rules : Addr} {jH : FuncData} (F_m_rules : Df K mg "_law_rules" fL ["script"] f_m_rules jH) {f_m_shown : Addr} {jI : FuncData} (F_m_shown : Df K mg "_law_shown" fM ["rules"] f_m_shown jI) {f_l_odd : Addr} {jJ : FuncData} (F_l_odd : Df K mg "_law_odd" fN ["cell"] f_l_odd jJ) {f_l_long : Addr} {jK : FuncData} (F_l_long : Df K mg "_law_long" fO ["cell"] f_l_long jK) : aS P w K mg base aQ 4 f_l_text kN ["script"] (a8 K p0) :=
 dA F_l_text.fn I0 YJ fun cdv A outer s H E ws M R hr h => ⟨qK, zaQ T F_m_shown (zaL T F_m_shown) F_m_rules (zaJ T F_m_rules F_l_cell_at F_m_heads F_m_word F_m_rule) F_l_cell_at (IS T F_l_cell_at) F_l_odd (zaN T F_l_odd) F_l_long (zaP T F_l_long) hr, Z3 h⟩
theorem JA : b7 yK ["text", "some", "most"] (aE d9) := ⟨rfl, rfl, rfl, by decide +kernel, rfl, by decide +kernel, by decide +kernel⟩
theorem zaS {f : Addr} {cdv : Value} {A : Around} {outer : List Env} {s : Shared} {H : Hp} {E : XK} (T : Tx K mg) (hr : bA 0 (A.deeper (envOfC "_law_of" (aE d9) s.heap.objs.size f cdv))) :
  b9 (aW aQ P w K mg base yK "_law_of" (aE d9) f cdv A outer s H E).nox (aM d9) qL := by
 have nd := JA.nd
 have hu := cN hr
 exact (bF (b6 (v_and (RQ jV m9 aK (cY fF (by rfl) T.len_ fH (aD (v 0) aH)) (v 2)) (iQ (cY (vS rfl) (by rfl) T.all_ v8 (aD (fB (mB ["sign", "some"] [none, some 1] (fX (v 0)) (fun B => (c6 (i := 0) (show (["sign", "some"] : List Str).Nodup by decide +kernel) rfl (by first | exact Or.inl rfl | exact Or.inr rfl))) (fun B => jX) (fun B => (fU (CJ hu) (v 0) (v 1) (by first | exact bM _ | with_unfolding_all rfl))))) aH))))))
theorem JB (T : Tx K mg) {f_l_of : Addr} {eV : FuncData} (F_l_of : Df K mg "_law_of" d9 ["text", "some", "most"] f_l_of eV) : aS P w K mg base aQ 1 f_l_of eV ["text", "some", "most"] (a8 K kK) :=
 dA F_l_of.fn JA YK fun cdv A outer s H E ws M R hr h => ⟨qL, zaS T hr, YW h⟩
theorem JC : b7 yL ["word"] (aE eQ) := ⟨rfl, rfl, rfl, by decide +kernel, rfl, by decide +kernel, by decide +kernel⟩
theorem zaT {f : Addr} {cdv : Value} {A : Around} {outer : List Env} {s : Shared} {H : Hp} {E : XK} (T : Tx K mg) {f_l_of : Addr} {eV : FuncData} (F_l_of : Df K mg "_law_of" d9 ["text", "some", "most"] f_l_of eV) (G_l_of : aS P w K mg base aQ 1 f_l_of eV ["text", "some", "most"] (a8 K kK)) (hr : bA 1 (A.deeper (envOfC "_law_is_head" (aE eQ) s.heap.objs.size f cdv))) :
  b9 (aW aQ P w K mg base yL "_law_is_head" (aE eQ) f cdv A outer s H E).nox (aM eQ) qM := by
 have nd := JC.nd
 have hu := cN hr
 exact (a7 (CO (dI PySem.F.plainAttrs_str PySem.F.slot_str_partition PySem.F.type_str_partition m_partition (v 0) (aD bE aH)) (CN rfl (nD (c6 (i := 1) nd rfl (by first | exact Or.inl rfl | exact Or.inr rfl)) (nD (c6 (i := 2) nd rfl (by first | exact Or.inl rfl | exact Or.inr rfl)) (nD (c6 (i := 3) nd rfl (by first | exact Or.inl rfl | exact Or.inr rfl)) CM)))))
   (a7 (bJ (i := 4) nd rfl (by first | exact Or.inl rfl | exact Or.inr rfl) (b4 G_l_of (hr.mono (by decide)) (by rfl) F_l_of.at_ F_l_of.fn.kp F_l_of.bi (aD (v 1) (aD bE (aD aK aH)))))
   (bF (b6 (v_and (v 4) (iQ (v_or (fU (eT hr.units) (v 2) bE (by first | exact bM _ | with_unfolding_all rfl)) (iQ (b4 G_l_of (hr.mono (by decide)) (by rfl) F_l_of.at_ F_l_of.fn.kp F_l_of.bi (aD (v 3) (aD bE (aD aK aH))))))))))))
theorem JD (T : Tx K mg) {f_l_is_head : Addr} {f6 : FuncData} (F_l_is_head : Df K mg "_law_is_head" eQ ["word"] f_l_is_head f6) {f_l_of : Addr} {eV : FuncData} (F_l_of : Df K mg "_law_of" d9 ["text", "some", "most"] f_l_of eV) : aS P w K mg base aQ 2 f_l_is_head f6 ["word"] (a8 K lP) :=
 dA F_l_is_head.fn JC YL fun cdv A outer s H E ws M R hr h => ⟨qM, zaT T F_l_of (JB T F_l_of) hr, ZL h⟩
theorem JE : b7 yM ["row"] (aE fP) := ⟨rfl, rfl, rfl, by decide +kernel, rfl, by decide +kernel, by decide +kernel⟩
theorem zaU {f : Addr} {cdv : Value} {A : Around} {outer : List Env} {s : Shared} {H : Hp} {E : XK} (T : Tx K mg) {f_l_of : Addr} {eV : FuncData} (F_l_of : Df K mg "_law_of" d9 ["text", "some", "most"] f_l_of eV) (G_l_of : aS P w K mg base aQ 1 f_l_of eV ["text", "some", "most"] (a8 K kK)) {f_l_is_head : Addr} {f6 : FuncData} (F_l_is_head : Df K mg "_law_is_head" eQ ["word"] f_l_is_head f6) (G_l_is_head : aS P w K mg base aQ 2 f_l_is_head f6 ["word"] (a8 K lP)) (hr : bA 2 (A.deeper (envOfC "_law_row" (aE fP) s.heap.objs.size f cdv))) :
  b9 (aW aQ P w K mg base yM "_law_row" (aE fP) f cdv A outer s H E).nox (aM fP) qN := by
 have nd := JE.nd
 have hu := cN hr
 exact (a7 (bJ (i := 1) nd rfl (by first | exact Or.inl rfl | exact Or.inr rfl) (fB (dI PySem.F.plainAttrs_str PySem.F.slot_str_split PySem.F.type_str_split pB (v 0) (aD bE aH))))
   (a7 (eD (PW.pt (sC (cO CA (cY fF (by rfl) T.len_ fH (aD (v 1) aH)) aK (by first | exact bM _ | with_unfolding_all rfl)) (sA (cO (eT hr.units) (bX hu (v 1) (jO jU aK)) bE (by first | exact bM _ | with_unfolding_all rfl)))))
    (a7 (eD (PW.pt (j6 (kZ (jQ (b4 G_l_of (hr.mono (by decide)) (by rfl) F_l_of.at_ F_l_of.fn.kp F_l_of.bi (aD (bX hu (v 1) (jO jU aK)) (aD bE (aD aK aH)))))) (lY (cO (eT hr.units) (bX hu (bX hu (v 1) (jO jU aK)) aK) bE (by first | exact bM _ | with_unfolding_all rfl)))))
    (bF (b6 lX))
    eC)
   (bF (bJ (i := 1) nd rfl (by first | exact Or.inl rfl | exact Or.inr rfl) (kB (v 1) iA (fE (jO jU aK))))))
    eC)
   (a7 (eD (PW.pt (j6 (cO jV (cY fF (by rfl) T.len_ fH (aD (v 1) aH)) aK (by first | exact bM _ | with_unfolding_all rfl)) (j6 (cO (nA hr.units) (bX hu (v 1) aK) bE (by first | exact bM _ | with_unfolding_all rfl)) (lY (kZ (jQ (b4 G_l_is_head (hr.mono (by decide)) (by rfl) F_l_is_head.at_ F_l_is_head.fn.kp F_l_is_head.bi (aD (bX hu (v 1) aK) aH))))))))
    (bF (b6 lX))
    eC)
   (a7 (jW PassesOwn.never rfl (fX (kB (v 1) (fE aK) iA)) (c6 (i := 2) nd rfl (by first | exact Or.inl rfl | exact Or.inr rfl))
    (bF (eD (PW.pt (sC (kZ (jQ (b4 G_l_of (hr.mono (by decide)) (by rfl) F_l_of.at_ F_l_of.fn.kp F_l_of.bi (aD (v 2) (aD bE (aD aK aH)))))) (sA (kZ (jQ (b4 G_l_is_head (hr.mono (by decide)) (by rfl) F_l_is_head.at_ F_l_is_head.fn.kp F_l_is_head.bi (aD (v 2) aH)))))))
    (bF (b6 lX))
    eC)))
   (bF (b6 (v 1)))))))
theorem zaV (T : Tx K mg) {f_l_row : Addr} {jL : FuncData} (F_l_row : Df K mg "_law_row" fP ["row"] f_l_row jL) {f_l_of : Addr} {eV : FuncData} (F_l_of : Df K mg "_law_of" d9 ["text", "some", "most"] f_l_of eV) {f_l_is_head : Addr} {f6 : FuncData} (F_l_is_head : Df K mg "_law_is_head" eQ ["word"] f_l_is_head f6) : aS P w K mg base aQ 3 f_l_row jL ["row"] (a8 K p4) :=
 dA F_l_row.fn JE YM fun cdv A outer s H E ws M R hr h => ⟨qN, zaU T F_l_of (JB T F_l_of) F_l_is_head (JD T F_l_is_head F_l_of) hr, ZM h⟩
theorem JF : b7 yP ["text"] (aE gB) := ⟨rfl, rfl, rfl, by decide +kernel, rfl, by decide +kernel, by decide +kernel⟩
theorem zaW {f : Addr} {cdv : Value} {A : Around} {outer : List Env} {s : Shared} {H : Hp} {E : XK} (T : Tx K mg) {f_l_row : Addr} {jL : FuncData} (F_l_row : Df K mg "_law_row" fP ["row"] f_l_row jL) (G_l_row : aS P w K mg base aQ 3 f_l_row jL ["row"] (a8 K p4)) {f_l_is_head : Addr} {f6 : FuncData} (F_l_is_head : Df K mg "_law_is_head" eQ ["word"] f_l_is_head f6) (G_l_is_head : aS P w K mg base aQ 2 f_l_is_head f6 ["word"] (a8 K lP)) (hr : bA 3 (A.deeper (envOfC "_law_due" (aE gB) s.heap.objs.size f cdv))) :
  b9 (aW aQ P w K mg base yP "_law_due" (aE gB) f cdv A outer s H E).nox (aM gB) qO := by
 have nd := JF.nd
 have hu := cN hr
 exact (a7 (C7 (i := 1) nd rfl (by first | exact Or.inl rfl | exact Or.inr rfl) ["row"] [none] (fX (fB (dI PySem.F.plainAttrs_str PySem.F.slot_str_split PySem.F.type_str_split pB (v 0) (aD bE aH)))) (fun B => (c6 (i := 0) (show (["row"] : List Str).Nodup by decide +kernel) rfl (by first | exact Or.inl rfl | exact Or.inr rfl))) (fun B => jX) (fun B => (b4 G_l_row (hr.mono (by decide)) (by rfl) F_l_row.at_ F_l_row.fn.kp F_l_row.bi (aD (v 0) aH))))
   (a7 (eD (cO (VN hr.units) lX (v 1) (by first | exact bM _ | with_unfolding_all rfl))
    (bF (b6 bE))
    eC)
   (a7 (C7 (i := 2) nd rfl (by first | exact Or.inl rfl | exact Or.inr rfl) ["words"] [none] (fX (v 1)) (fun B => (c6 (i := 0) (show (["words"] : List Str).Nodup by decide +kernel) rfl (by first | exact Or.inl rfl | exact Or.inr rfl))) (fun B => jX) (fun B => (bX hu (v 0) aK)))
   (a7 (jW PassesOwn.never rfl (fX (v 1)) (c6 (i := 3) nd rfl (by first | exact Or.inl rfl | exact Or.inr rfl))
    (bF (jW PassesOwn.never rfl (fX (kB (v 3) (fE aK) iA)) (c6 (i := 4) nd rfl (by first | exact Or.inl rfl | exact Or.inr rfl))
    (bF (eD (PW.pt (sC (jQ (b4 G_l_is_head (hr.mono (by decide)) (by rfl) F_l_is_head.at_ F_l_is_head.fn.kp F_l_is_head.bi (aD (v 4) aH))) (sA (cO (vP hu) (v 4) (v 2) (by first | exact bM _ | with_unfolding_all rfl)))))
    (bF (b6 bE))
    eC)))))
   (bF (b6 bE))))))
theorem zaX (T : Tx K mg) {f_l_due : Addr} {kO : FuncData} (F_l_due : Df K mg "_law_due" gB ["text"] f_l_due kO) {f_l_of : Addr} {eV : FuncData} (F_l_of : Df K mg "_law_of" d9 ["text", "some", "most"] f_l_of eV) {f_l_is_head : Addr} {f6 : FuncData} (F_l_is_head : Df K mg "_law_is_head" eQ ["word"] f_l_is_head f6) {f_l_row : Addr} {jL : FuncData} (F_l_row : Df K mg "_law_row" fP ["row"] f_l_row jL) : aS P w K mg base aQ 4 f_l_due kO ["text"] (a8 K p5) :=
 dA F_l_due.fn JF YN fun cdv A outer s H E ws M R hr h => ⟨qO, zaW T F_l_row (zaV T F_l_row F_l_of F_l_is_head) F_l_is_head (JD T F_l_is_head F_l_of) hr, ZT h⟩
theorem zaY : bootBuiltins "ValueError" = some (.type "ValueError") := by decide +kernel
theorem JG : b7 yY ["e"] (aE gC) := ⟨rfl, rfl, rfl, by decide +kernel, rfl, by decide +kernel, by decide +kernel⟩
theorem zaZ {f : Addr} {cdv : Value} {A : Around} {outer : List Env} {s : Shared} {H : Hp} {E : XK} {c : dN} {Cg : Addr} (T : Tx K mg) (Z : Zx K mg c Cg) (hr : bA 0 (A.deeper (envOfC "_law_kinds" (aE gC) s.heap.objs.size f cdv))) :
  b9 (aW aQ P w K mg base yY "_law_kinds" (aE gC) f cdv A outer s H E).nox (aM gC) (qU K c) := by
 have nd := JG.nd
 have hu := cN hr
 exact (a7 (bJ (i := 1) nd rfl (by first | exact Or.inl rfl | exact Or.inr rfl) (gK (aD (cY mK (by rfl) T.isinstance_ lF (aD (v 0) (aD (lN (by rfl) Z.t.at_) aH))) (aD (cY mK (by rfl) T.isinstance_ lF (aD (v 0) (aD (lN (by rfl) Z.g.at_) aH))) (aD (cY mK (by rfl) T.isinstance_ lF (aD (v 0) (aD (lN (by rfl) Z.me) aH))) (aD (cY mK (by rfl) T.isinstance_ lF (aD (v 0) (aD (lN (by rfl) Z.mo) aH))) aH))))))
   (bF (b6 (aT cA (v 1) (gK (aD (cY mK (by rfl) T.isinstance_ lF (aD (v 0) (aD (lN (by rfl) Z.mr) aH))) (aD (cY mK (by rfl) T.isinstance_ lF (aD (v 0) (aD (lN (by rfl) Z.mm) aH))) aH)))))))
theorem za0 {c : dN} {Cg : Addr} (T : Tx K mg) (Z : Zx K mg c Cg) {f_l_kinds : Addr} {kP : FuncData} (F_l_kinds : Df K mg "_law_kinds" gC ["e"] f_l_kinds kP) : aS P w K mg base aQ 1 f_l_kinds kP ["e"] (a8 K (nX c.t c.g)) :=
 dA F_l_kinds.fn JG YO fun cdv A outer s H E ws M R hr h => ⟨qU K c, zaZ T Z hr, Z4 Z.kx h⟩
theorem JH : b7 yZ ["script"] (aE hJ) := ⟨rfl, rfl, rfl, by decide +kernel, rfl, by decide +kernel, by decide +kernel⟩
theorem za1 {c : dN} {n : String} {C : Addr} (h : d6 c n = some C) : C = c.t ∨ C = c.g := by
 unfold d6 at h
 split at h
 ·exact .inl (Option.some.inj h).symm
 ·split at h
  ·exact .inr (Option.some.inj h).symm
  ·cases h
theorem za2 {f : Addr} {cdv : Value} {A : Around} {outer : List Env} {s : Shared} {H : Hp} {E : XK} {c : dN} {Cg : Addr} (T : Tx K mg) (Z : Zx K mg c Cg) {f_l_text : Addr} {kN : FuncData} (F_l_text : Df K mg "_law_text" gA ["script"] f_l_text kN) (G_l_text : aS P w K mg base aQ 4 f_l_text kN ["script"] (a8 K p0)) {f_read_grammar : Addr} {kM : FuncData} (F_read_grammar : Df K mg "read_grammar" f9 ["text"] f_read_grammar kM) (G_read_grammar : aS P w K mg base (bD P w) 5 f_read_grammar kM ["text"] (fY K (d6 c) pR)) {f_l_due : Addr} {kO : FuncData} (F_l_due : Df K mg "_law_due" gB ["text"] f_l_due kO) (G_l_due : aS P w K mg base aQ 4 f_l_due kO ["text"] (a8 K p5)) {f_shown_grammar : Addr} {kL : FuncData} (F_shown_grammar : Df K mg "shown_grammar" f7 ["grammar"] f_shown_grammar kL) (G_shown_grammar : aS P w K mg base aQ 4 f_shown_grammar kL ["grammar"] (a8 K pP)) {f_l_kinds : Addr} {kP : FuncData} (F_l_kinds : Df K mg "_law_kinds" gC ["e"] f_l_kinds kP) (G_l_kinds : aS P w K mg base aQ 1 f_l_kinds kP ["e"] (a8 K (nX c.t c.g))) (hr : bA 5 (A.deeper (envOfC "law" (aE hJ) s.heap.objs.size f cdv))) :
  b9 (aW aQ P w K mg base yZ "law" (aE hJ) f cdv A outer s H E).nox (aM hJ) (qV K c) := by
 have nd := JH.nd
 have hu := cN hr
 refine (a7 (bJ (i := 1) nd rfl (by first | exact Or.inl rfl | exact Or.inr rfl) (b4 G_l_text (hr.mono (by decide)) (by rfl) F_l_text.at_ F_l_text.fn.kp F_l_text.bi (aD (v 0) aH)))
   (a7 (bJ (i := 2) nd rfl (by first | exact Or.inl rfl | exact Or.inr rfl) lX)
   (a7 (bJ (i := 3) nd rfl (by first | exact Or.inl rfl | exact Or.inr rfl) lX)
   (a7 (PS.weak (XQ (i := 2) (E1 := FH K (d6 c) 3 4) G_read_grammar (hr.mono (by decide)) (by rfl) F_read_grammar.at_ F_read_grammar.fn.kp F_read_grammar.bi nd rfl (by first | exact Or.inl rfl | exact Or.inr rfl) (fun E => aD (v 1) aH) rfl rfl ?_) fun D σ H h => XS h)
   (a7 (bJ (i := 5) nd rfl (by first | exact Or.inl rfl | exact Or.inr rfl) (b4 G_l_due (hr.mono (by decide)) (by rfl) F_l_due.at_ F_l_due.fn.kp F_l_due.bi (aD (v 1) aH)))
   (a7 (eD (cO (eT hr.units) (v 5) bE (by first | exact bM _ | with_unfolding_all rfl))
    (bF (b6 (v_and (fU PF (v 3) lX (by first | exact bM _ | with_unfolding_all rfl)) (v_and (cY QC (by rfl) T.isinstance_ lF (aD (v 2) (aD (B3 (by rfl) T.list_ oW (y := .ty "list") rfl (fun _ _ => .ty _)) aH))) (iQ (fU (eT hr.units) (b4 G_shown_grammar (hr.mono (by decide)) (by rfl) F_shown_grammar.at_ F_shown_grammar.fn.kp F_shown_grammar.bi (aD (v 2) aH)) (v 1) (by first | exact bM _ | with_unfolding_all rfl)))))))
    eC)
   (a7 (eD (kZ (jQ (cY mK (by rfl) T.isinstance_ lF (aD (v 3) (aD (B3 (by rfl) T.ValueError_ zaY (y := .ty "ValueError") rfl (fun _ _ => .ty _)) aH)))))
    (bF (b6 mZ))
    eC)
   (bF (b6 (fU (eT hr.units) (b4 G_l_kinds (hr.mono (by decide)) (by rfl) F_l_kinds.at_ F_l_kinds.fn.kp F_l_kinds.bi (aD (v 3) aH)) (gK (aD (fU (eT hr.units) (v 5) bE (by first | exact bM _ | with_unfolding_all rfl)) (aD (fU (eT hr.units) (v 5) bE (by first | exact bM _ | with_unfolding_all rfl)) (aD mZ (aD mZ (aD mZ (aD mZ aH))))))) (by first | exact bM _ | with_unfolding_all rfl)))))))))))
 rintro pins σ H s ea cls H' B s' D a I ⟨n, C, hcl, rfl, hq⟩
 refine XR (i := 4) (ts := mY K (bB 3 (aA 4))) a I rfl (by rfl) Z.grove (by decide) ?_ nd rfl (by rfl) (.inr (by rfl)) (bF (bJ (i := 3) nd rfl (by first | exact Or.inl rfl | exact Or.inr rfl) (v 4))) (hq ea a.free)
 rcases za1 hcl with rfl | rfl
 ·exact Z.yt
 ·exact Z.yg
theorem za3 (T : Tx K mg) {f_law : Addr} {qZ : FuncData} (F_law : Df K mg "law" hJ ["script"] f_law qZ) {f_q_made_of : Addr} {cJ : FuncData} (F_q_made_of : Df K mg "made_of" c7 ["text", "signs"] f_q_made_of cJ) {f_q_is_name : Addr} {dS : FuncData} (F_q_is_name : Df K mg "is_name" dU ["part"] f_q_is_name dS) {f_names : Addr} {iE : FuncData} (F_names : Df K mg "names" eW ["grammar"] f_names iE) {f_check_rule : Addr} {iF : FuncData} (F_check_rule : Df K mg "check_rule" eX ["rule", "known"] f_check_rule iF) {f_grammar_of : Addr} {jE : FuncData} (F_grammar_of : Df K mg "grammar_of" fI ["rules"] f_grammar_of jE) {f_divided : Addr} {gN : FuncData} (F_divided : Df K mg "divided" eJ ["number", "divisor"] f_divided gN) {f_squared_powers : Addr} {gO : FuncData} (F_squared_powers : Df K mg "squared_powers" eK ["number"] f_squared_powers gO) {f_figures_of : Addr} {iG : FuncData} (F_figures_of : Df K mg "figures_of" eY ["number"] f_figures_of iG) {f_writes_word : Addr} {iH : FuncData} (F_writes_word : Df K mg "writes_word" eZ ["text"] f_writes_word iH) {f_writes_name : Addr} {iI : FuncData} (F_writes_name : Df K mg "writes_name" e6 ["text"] f_writes_name iI) {f_writes_number : Addr} {gP : FuncData} (F_writes_number : Df K mg "writes_number" eL ["text"] f_writes_number gP) {f_shown_rule : Addr} {jF : FuncData} (F_shown_rule : Df K mg "shown_rule" fJ ["rule"] f_shown_rule jF) {f_shown_grammar : Addr} {kL : FuncData} (F_shown_grammar : Df K mg "shown_grammar" f7 ["grammar"] f_shown_grammar kL) {f_written_cost : Addr} {iJ : FuncData} (F_written_cost : Df K mg "written_cost" e7 ["pieces"] f_written_cost iJ) {f_read_rule : Addr} {jG : FuncData} (F_read_rule : Df K mg "read_rule" fK ["text"] f_read_rule jG) {f_read_grammar : Addr} {kM : FuncData} (F_read_grammar : Df K mg "read_grammar" f9 ["text"] f_read_grammar kM) {f_l_cell_at : Addr} {fZ : FuncData} (F_l_cell_at : Df K mg "_law_cell_at" eM ["script", "k"] f_l_cell_at fZ) {f_m_heads : Addr} {iK : FuncData} (F_m_heads : Df K mg "_law_heads" e8 ["cells"] f_m_heads iK) {f_m_word : Addr} {gQ : FuncData} (F_m_word : Df K mg "_law_word" eO ["number"] f_m_word gQ) {f_m_rule : Addr} {iL : FuncData} (F_m_rule : Df K mg "_law_rule" e9 ["cell", "k", "heads"] f_m_rule iL) {f_m_rules : Addr} {jH : FuncData} (F_m_rules : Df K mg "_law_rules" fL ["script"] f_m_rules jH) {f_m_shown : Addr} {jI : FuncData} (F_m_shown : Df K mg "_law_shown" fM ["rules"] f_m_shown jI) {f_l_odd : Addr} {jJ : FuncData} (F_l_odd : Df K mg "_law_odd" fN ["cell"] f_l_odd jJ) {f_l_long : Addr} {jK : FuncData} (F_l_long : Df K mg "_law_long" fO ["cell"] f_l_long jK) {f_l_text : Addr} {kN : FuncData} (F_l_text : Df K mg "_law_text" gA ["script"] f_l_text kN) {f_l_of : Addr} {eV : FuncData} (F_l_of : Df K mg "_law_of" d9 ["text", "some", "most"] f_l_of eV) {f_l_is_head : Addr} {f6 : FuncData} (F_l_is_head : Df K mg "_law_is_head" eQ ["word"] f_l_is_head f6) {f_l_row : Addr} {jL : FuncData} (F_l_row : Df K mg "_law_row" fP ["row"] f_l_row jL) {f_l_due : Addr} {kO : FuncData} (F_l_due : Df K mg "_law_due" gB ["text"] f_l_due kO) {f_l_kinds : Addr} {kP : FuncData} (F_l_kinds : Df K mg "_law_kinds" gC ["e"] f_l_kinds kP) : aS P w K mg base aQ 6 f_law qZ ["script"] (a8 K xR) := by
 obtain ⟨c, Cg, Z⟩ := T.zx
 exact dA F_law.fn JH YQ fun cdv A outer s H E ws M R hr h => ⟨qV K c, za2 T Z F_l_text (zaR T F_l_text F_l_cell_at F_m_heads F_m_word F_m_rule F_m_rules F_m_shown F_l_odd F_l_long) F_read_grammar (zaA T Z F_read_grammar F_q_made_of F_q_is_name F_names F_check_rule F_grammar_of F_writes_word F_writes_name F_writes_number F_written_cost F_read_rule) F_l_due (zaX T F_l_due F_l_of F_l_is_head F_l_row) F_shown_grammar (zau T F_shown_grammar F_divided F_squared_powers F_figures_of F_shown_rule) F_l_kinds (za0 T Z F_l_kinds) hr, Z6 Z.kx h⟩
end
end Rg
set_option Elab.async false
set_option compiler.extract_closed false
set_option bootstrap.genMatcherCode false
set_option linter.all false
set_option maxRecDepth 100000
set_option maxHeartbeats 4000000
namespace Rg
open PySem PySem.Spec PyProof.Rows L2 L3
theorem za4 {C : List Value → Prop} (h : C []) : ∀ us : List Value, us.length = 0 → C us := fun us e => by cases us with | nil => exact h | cons a l => exact nomatch e
theorem dD {C : List Value → Prop} (h : ∀ a0, C [a0]) : ∀ us : List Value, us.length = 1 → C us := fun us e => by cases us with | nil => exact nomatch e | cons a l => exact za4 (C := fun l => C (a :: l)) (h a) l (Nat.succ.inj e)
theorem qY {C : List Value → Prop} (h : ∀ a0 a1, C [a0, a1]) : ∀ us : List Value, us.length = 2 → C us := fun us e => by cases us with | nil => exact nomatch e | cons a l => exact dD (C := fun l => C (a :: l)) (h a) l (Nat.succ.inj e)
theorem JI {C : List Value → Prop} (h : ∀ a0 a1 a2, C [a0, a1, a2]) : ∀ us : List Value, us.length = 3 → C us := fun us e => by cases us with | nil => exact nomatch e | cons a l => exact qY (C := fun l => C (a :: l)) (h a) l (Nat.succ.inj e)
def cT (K : Params → PySem.W.Frag) (a : Addr) (x : Str) : Prop := ∀ P, PySem.W.nsIn (K P) mainGlobals x = some (some (.ref a))
section
variable {w : World} {h : Heap} {mg : Str → Option Value}
theorem za5 : cT hpK 104 "made_of" := fun _ => by kernel_rfl
noncomputable abbrev cJ : FuncData := (PySem.W.fnOf "made_of" "made_of" (a4 c7) (aM c7) (aE c7) .none .none .none (.str (Str.ofString "readgrove.grammars") 303) none (.ref 103) .none)
theorem za6 (X : (hpK w.params).In h) (G : h.Ns mainGlobals mg) : Df (hpK w.params) mg "made_of" c7 ["text", "signs"] 104 cJ := cR (ps := ["text", "signs"]) (cM (st := c7) (oc := .type "function") (od := none) (osl := #[]) (by kernel_rfl) (by kernel_rfl) (by kernel_rfl)) (PySem.W.mg_of X G (za5 _)) fun _ _ _ _ _ _ => qY fun _ _ => rfl
theorem za7 : cT hpK 111 "is_name" := fun _ => by kernel_rfl
noncomputable abbrev dS : FuncData := (PySem.W.fnOf "is_name" "is_name" (a4 dU) (aM dU) (aE dU) .none .none .none (.str (Str.ofString "readgrove.grammars") 303) none (.ref 110) .none)
theorem za8 (X : (hpK w.params).In h) (G : h.Ns mainGlobals mg) : Df (hpK w.params) mg "is_name" dU ["part"] 111 dS := cR (ps := ["part"]) (cM (st := dU) (oc := .type "function") (od := none) (osl := #[]) (by kernel_rfl) (by kernel_rfl) (by kernel_rfl)) (PySem.W.mg_of X G (za7 _)) fun _ _ _ _ _ _ => dD fun _ => rfl
theorem za9 : cT hpK 118 "names" := fun _ => by kernel_rfl
noncomputable abbrev iE : FuncData := (PySem.W.fnOf "names" "names" (a4 eW) (aM eW) (aE eW) .none .none .none (.str (Str.ofString "readgrove.grammars") 303) none (.ref 117) .none)
theorem zba (X : (hpK w.params).In h) (G : h.Ns mainGlobals mg) : Df (hpK w.params) mg "names" eW ["grammar"] 118 iE := cR (ps := ["grammar"]) (cM (st := eW) (oc := .type "function") (od := none) (osl := #[]) (by kernel_rfl) (by kernel_rfl) (by kernel_rfl)) (PySem.W.mg_of X G (za9 _)) fun _ _ _ _ _ _ => dD fun _ => rfl
theorem zbb : cT hpK 125 "check_rule" := fun _ => by kernel_rfl
noncomputable abbrev iF : FuncData := (PySem.W.fnOf "check_rule" "check_rule" (a4 eX) (aM eX) (aE eX) .none .none .none (.str (Str.ofString "readgrove.grammars") 303) none (.ref 124) .none)
theorem zbc (X : (hpK w.params).In h) (G : h.Ns mainGlobals mg) : Df (hpK w.params) mg "check_rule" eX ["rule", "known"] 125 iF := cR (ps := ["rule", "known"]) (cM (st := eX) (oc := .type "function") (od := none) (osl := #[]) (by kernel_rfl) (by kernel_rfl) (by kernel_rfl)) (PySem.W.mg_of X G (zbb _)) fun _ _ _ _ _ _ => qY fun _ _ => rfl
theorem zbd : cT hpK 132 "grammar_of" := fun _ => by kernel_rfl
noncomputable abbrev jE : FuncData := (PySem.W.fnOf "grammar_of" "grammar_of" (a4 fI) (aM fI) (aE fI) .none .none .none (.str (Str.ofString "readgrove.grammars") 303) none (.ref 131) .none)
theorem zbe (X : (hpK w.params).In h) (G : h.Ns mainGlobals mg) : Df (hpK w.params) mg "grammar_of" fI ["rules"] 132 jE := cR (ps := ["rules"]) (cM (st := fI) (oc := .type "function") (od := none) (osl := #[]) (by kernel_rfl) (by kernel_rfl) (by kernel_rfl)) (PySem.W.mg_of X G (zbd _)) fun _ _ _ _ _ _ => dD fun _ => rfl
theorem zbf : cT hpK 174 "divided" := fun _ => by kernel_rfl
noncomputable abbrev gN : FuncData := (PySem.W.fnOf "divided" "divided" (a4 eJ) (aM eJ) (aE eJ) .none .none .none (.str (Str.ofString "readgrove.greats") 351) none (.ref 173) .none)
theorem zbg (X : (hpK w.params).In h) (G : h.Ns mainGlobals mg) : Df (hpK w.params) mg "divided" eJ ["number", "divisor"] 174 gN := cR (ps := ["number", "divisor"]) (cM (st := eJ) (oc := .type "function") (od := none) (osl := #[]) (by kernel_rfl) (by kernel_rfl) (by kernel_rfl)) (PySem.W.mg_of X G (zbf _)) fun _ _ _ _ _ _ => qY fun _ _ => rfl
theorem zbh : cT hpK 181 "squared_powers" := fun _ => by kernel_rfl
noncomputable abbrev gO : FuncData := (PySem.W.fnOf "squared_powers" "squared_powers" (a4 eK) (aM eK) (aE eK) .none .none .none (.str (Str.ofString "readgrove.greats") 351) none (.ref 180) .none)
theorem zbi (X : (hpK w.params).In h) (G : h.Ns mainGlobals mg) : Df (hpK w.params) mg "squared_powers" eK ["number"] 181 gO := cR (ps := ["number"]) (cM (st := eK) (oc := .type "function") (od := none) (osl := #[]) (by kernel_rfl) (by kernel_rfl) (by kernel_rfl)) (PySem.W.mg_of X G (zbh _)) fun _ _ _ _ _ _ => dD fun _ => rfl
theorem zbj : cT hpK 186 "figures_of" := fun _ => by kernel_rfl
noncomputable abbrev iG : FuncData := (PySem.W.fnOf "figures_of" "figures_of" (a4 eY) (aM eY) (aE eY) .none .none .none (.str (Str.ofString "readgrove.greats") 351) none (.ref 185) .none)
theorem zbk (X : (hpK w.params).In h) (G : h.Ns mainGlobals mg) : Df (hpK w.params) mg "figures_of" eY ["number"] 186 iG := cR (ps := ["number"]) (cM (st := eY) (oc := .type "function") (od := none) (osl := #[]) (by kernel_rfl) (by kernel_rfl) (by kernel_rfl)) (PySem.W.mg_of X G (zbj _)) fun _ _ _ _ _ _ => dD fun _ => rfl
theorem zbl : cT hpK 193 "writes_word" := fun _ => by kernel_rfl
noncomputable abbrev iH : FuncData := (PySem.W.fnOf "writes_word" "writes_word" (a4 eZ) (aM eZ) (aE eZ) .none .none .none (.str (Str.ofString "readgrove.texts") 437) none (.ref 192) .none)
theorem zbm (X : (hpK w.params).In h) (G : h.Ns mainGlobals mg) : Df (hpK w.params) mg "writes_word" eZ ["text"] 193 iH := cR (ps := ["text"]) (cM (st := eZ) (oc := .type "function") (od := none) (osl := #[]) (by kernel_rfl) (by kernel_rfl) (by kernel_rfl)) (PySem.W.mg_of X G (zbl _)) fun _ _ _ _ _ _ => dD fun _ => rfl
theorem zbn : cT hpK 200 "writes_name" := fun _ => by kernel_rfl
noncomputable abbrev iI : FuncData := (PySem.W.fnOf "writes_name" "writes_name" (a4 e6) (aM e6) (aE e6) .none .none .none (.str (Str.ofString "readgrove.texts") 437) none (.ref 199) .none)
theorem zbo (X : (hpK w.params).In h) (G : h.Ns mainGlobals mg) : Df (hpK w.params) mg "writes_name" e6 ["text"] 200 iI := cR (ps := ["text"]) (cM (st := e6) (oc := .type "function") (od := none) (osl := #[]) (by kernel_rfl) (by kernel_rfl) (by kernel_rfl)) (PySem.W.mg_of X G (zbn _)) fun _ _ _ _ _ _ => dD fun _ => rfl
theorem zbp : cT hpK 207 "writes_number" := fun _ => by kernel_rfl
noncomputable abbrev gP : FuncData := (PySem.W.fnOf "writes_number" "writes_number" (a4 eL) (aM eL) (aE eL) .none .none .none (.str (Str.ofString "readgrove.texts") 437) none (.ref 206) .none)
theorem zbq (X : (hpK w.params).In h) (G : h.Ns mainGlobals mg) : Df (hpK w.params) mg "writes_number" eL ["text"] 207 gP := cR (ps := ["text"]) (cM (st := eL) (oc := .type "function") (od := none) (osl := #[]) (by kernel_rfl) (by kernel_rfl) (by kernel_rfl)) (PySem.W.mg_of X G (zbp _)) fun _ _ _ _ _ _ => dD fun _ => rfl
theorem zbr : cT hpK 214 "shown_rule" := fun _ => by kernel_rfl
noncomputable abbrev jF : FuncData := (PySem.W.fnOf "shown_rule" "shown_rule" (a4 fJ) (aM fJ) (aE fJ) .none .none .none (.str (Str.ofString "readgrove.texts") 437) none (.ref 213) .none)
theorem zbs (X : (hpK w.params).In h) (G : h.Ns mainGlobals mg) : Df (hpK w.params) mg "shown_rule" fJ ["rule"] 214 jF := cR (ps := ["rule"]) (cM (st := fJ) (oc := .type "function") (od := none) (osl := #[]) (by kernel_rfl) (by kernel_rfl) (by kernel_rfl)) (PySem.W.mg_of X G (zbr _)) fun _ _ _ _ _ _ => dD fun _ => rfl
theorem zbt : cT hpK 219 "shown_grammar" := fun _ => by kernel_rfl
noncomputable abbrev kL : FuncData := (PySem.W.fnOf "shown_grammar" "shown_grammar" (a4 f7) (aM f7) (aE f7) .none .none .none (.str (Str.ofString "readgrove.texts") 437) none (.ref 218) .none)
theorem zbu (X : (hpK w.params).In h) (G : h.Ns mainGlobals mg) : Df (hpK w.params) mg "shown_grammar" f7 ["grammar"] 219 kL := cR (ps := ["grammar"]) (cM (st := f7) (oc := .type "function") (od := none) (osl := #[]) (by kernel_rfl) (by kernel_rfl) (by kernel_rfl)) (PySem.W.mg_of X G (zbt _)) fun _ _ _ _ _ _ => dD fun _ => rfl
theorem zbv : cT hpK 226 "written_cost" := fun _ => by kernel_rfl
noncomputable abbrev iJ : FuncData := (PySem.W.fnOf "written_cost" "written_cost" (a4 e7) (aM e7) (aE e7) .none .none .none (.str (Str.ofString "readgrove.texts") 437) none (.ref 225) .none)
theorem zbw (X : (hpK w.params).In h) (G : h.Ns mainGlobals mg) : Df (hpK w.params) mg "written_cost" e7 ["pieces"] 226 iJ := cR (ps := ["pieces"]) (cM (st := e7) (oc := .type "function") (od := none) (osl := #[]) (by kernel_rfl) (by kernel_rfl) (by kernel_rfl)) (PySem.W.mg_of X G (zbv _)) fun _ _ _ _ _ _ => dD fun _ => rfl
theorem zbx : cT hpK 231 "read_rule" := fun _ => by kernel_rfl
noncomputable abbrev jG : FuncData := (PySem.W.fnOf "read_rule" "read_rule" (a4 fK) (aM fK) (aE fK) .none .none .none (.str (Str.ofString "readgrove.texts") 437) none (.ref 230) .none)
theorem zby (X : (hpK w.params).In h) (G : h.Ns mainGlobals mg) : Df (hpK w.params) mg "read_rule" fK ["text"] 231 jG := cR (ps := ["text"]) (cM (st := fK) (oc := .type "function") (od := none) (osl := #[]) (by kernel_rfl) (by kernel_rfl) (by kernel_rfl)) (PySem.W.mg_of X G (zbx _)) fun _ _ _ _ _ _ => dD fun _ => rfl
theorem zbz : cT hpK 236 "read_grammar" := fun _ => by kernel_rfl
noncomputable abbrev kM : FuncData := (PySem.W.fnOf "read_grammar" "read_grammar" (a4 f9) (aM f9) (aE f9) .none .none .none (.str (Str.ofString "readgrove.texts") 437) none (.ref 235) .none)
theorem zbA (X : (hpK w.params).In h) (G : h.Ns mainGlobals mg) : Df (hpK w.params) mg "read_grammar" f9 ["text"] 236 kM := cR (ps := ["text"]) (cM (st := f9) (oc := .type "function") (od := none) (osl := #[]) (by kernel_rfl) (by kernel_rfl) (by kernel_rfl)) (PySem.W.mg_of X G (zbz _)) fun _ _ _ _ _ _ => dD fun _ => rfl
theorem zbB : cT hpK 243 "_law_cell_at" := fun _ => by kernel_rfl
noncomputable abbrev fZ : FuncData := (PySem.W.fnOf "_law_cell_at" "_law_cell_at" (a4 eM) (aM eM) (aE eM) .none .none .none (.str (Str.ofString "law_readgrove_k81_no_grammars") 502) none (.ref 242) .none)
theorem zbC (X : (hpK w.params).In h) (G : h.Ns mainGlobals mg) : Df (hpK w.params) mg "_law_cell_at" eM ["script", "k"] 243 fZ := cR (ps := ["script", "k"]) (cM (st := eM) (oc := .type "function") (od := none) (osl := #[]) (by kernel_rfl) (by kernel_rfl) (by kernel_rfl)) (PySem.W.mg_of X G (zbB _)) fun _ _ _ _ _ _ => qY fun _ _ => rfl
theorem zbD : cT hpK 248 "_law_heads" := fun _ => by kernel_rfl
noncomputable abbrev iK : FuncData := (PySem.W.fnOf "_law_heads" "_law_heads" (a4 e8) (aM e8) (aE e8) .none .none .none (.str (Str.ofString "law_readgrove_k81_no_grammars") 502) none (.ref 247) .none)
theorem zbE (X : (hpK w.params).In h) (G : h.Ns mainGlobals mg) : Df (hpK w.params) mg "_law_heads" e8 ["cells"] 248 iK := cR (ps := ["cells"]) (cM (st := e8) (oc := .type "function") (od := none) (osl := #[]) (by kernel_rfl) (by kernel_rfl) (by kernel_rfl)) (PySem.W.mg_of X G (zbD _)) fun _ _ _ _ _ _ => dD fun _ => rfl
theorem zbF : cT hpK 253 "_law_word" := fun _ => by kernel_rfl
noncomputable abbrev gQ : FuncData := (PySem.W.fnOf "_law_word" "_law_word" (a4 eO) (aM eO) (aE eO) .none .none .none (.str (Str.ofString "law_readgrove_k81_no_grammars") 502) none (.ref 252) .none)
theorem zbG (X : (hpK w.params).In h) (G : h.Ns mainGlobals mg) : Df (hpK w.params) mg "_law_word" eO ["number"] 253 gQ := cR (ps := ["number"]) (cM (st := eO) (oc := .type "function") (od := none) (osl := #[]) (by kernel_rfl) (by kernel_rfl) (by kernel_rfl)) (PySem.W.mg_of X G (zbF _)) fun _ _ _ _ _ _ => dD fun _ => rfl
theorem zbH : cT hpK 260 "_law_rule" := fun _ => by kernel_rfl
noncomputable abbrev iL : FuncData := (PySem.W.fnOf "_law_rule" "_law_rule" (a4 e9) (aM e9) (aE e9) .none .none .none (.str (Str.ofString "law_readgrove_k81_no_grammars") 502) none (.ref 259) .none)
theorem zbI (X : (hpK w.params).In h) (G : h.Ns mainGlobals mg) : Df (hpK w.params) mg "_law_rule" e9 ["cell", "k", "heads"] 260 iL := cR (ps := ["cell", "k", "heads"]) (cM (st := e9) (oc := .type "function") (od := none) (osl := #[]) (by kernel_rfl) (by kernel_rfl) (by kernel_rfl)) (PySem.W.mg_of X G (zbH _)) fun _ _ _ _ _ _ => JI fun _ _ _ => rfl
theorem zbJ : cT hpK 267 "_law_rules" := fun _ => by kernel_rfl
noncomputable abbrev jH : FuncData := (PySem.W.fnOf "_law_rules" "_law_rules" (a4 fL) (aM fL) (aE fL) .none .none .none (.str (Str.ofString "law_readgrove_k81_no_grammars") 502) none (.ref 266) .none)
theorem zbK (X : (hpK w.params).In h) (G : h.Ns mainGlobals mg) : Df (hpK w.params) mg "_law_rules" fL ["script"] 267 jH := cR (ps := ["script"]) (cM (st := fL) (oc := .type "function") (od := none) (osl := #[]) (by kernel_rfl) (by kernel_rfl) (by kernel_rfl)) (PySem.W.mg_of X G (zbJ _)) fun _ _ _ _ _ _ => dD fun _ => rfl
theorem zbL : cT hpK 274 "_law_shown" := fun _ => by kernel_rfl
noncomputable abbrev jI : FuncData := (PySem.W.fnOf "_law_shown" "_law_shown" (a4 fM) (aM fM) (aE fM) .none .none .none (.str (Str.ofString "law_readgrove_k81_no_grammars") 502) none (.ref 273) .none)
theorem zbM (X : (hpK w.params).In h) (G : h.Ns mainGlobals mg) : Df (hpK w.params) mg "_law_shown" fM ["rules"] 274 jI := cR (ps := ["rules"]) (cM (st := fM) (oc := .type "function") (od := none) (osl := #[]) (by kernel_rfl) (by kernel_rfl) (by kernel_rfl)) (PySem.W.mg_of X G (zbL _)) fun _ _ _ _ _ _ => dD fun _ => rfl
theorem zbN : cT hpK 281 "_law_odd" := fun _ => by kernel_rfl
noncomputable abbrev jJ : FuncData := (PySem.W.fnOf "_law_odd" "_law_odd" (a4 fN) (aM fN) (aE fN) .none .none .none (.str (Str.ofString "law_readgrove_k81_no_grammars") 502) none (.ref 280) .none)
theorem zbO (X : (hpK w.params).In h) (G : h.Ns mainGlobals mg) : Df (hpK w.params) mg "_law_odd" fN ["cell"] 281 jJ := cR (ps := ["cell"]) (cM (st := fN) (oc := .type "function") (od := none) (osl := #[]) (by kernel_rfl) (by kernel_rfl) (by kernel_rfl)) (PySem.W.mg_of X G (zbN _)) fun _ _ _ _ _ _ => dD fun _ => rfl
theorem zbP : cT hpK 288 "_law_long" := fun _ => by kernel_rfl
noncomputable abbrev jK : FuncData := (PySem.W.fnOf "_law_long" "_law_long" (a4 fO) (aM fO) (aE fO) .none .none .none (.str (Str.ofString "law_readgrove_k81_no_grammars") 502) none (.ref 287) .none)
theorem zbQ (X : (hpK w.params).In h) (G : h.Ns mainGlobals mg) : Df (hpK w.params) mg "_law_long" fO ["cell"] 288 jK := cR (ps := ["cell"]) (cM (st := fO) (oc := .type "function") (od := none) (osl := #[]) (by kernel_rfl) (by kernel_rfl) (by kernel_rfl)) (PySem.W.mg_of X G (zbP _)) fun _ _ _ _ _ _ => dD fun _ => rfl
theorem zbR : cT hpK 295 "_law_text" := fun _ => by kernel_rfl
noncomputable abbrev kN : FuncData := (PySem.W.fnOf "_law_text" "_law_text" (a4 gA) (aM gA) (aE gA) .none .none .none (.str (Str.ofString "law_readgrove_k81_no_grammars") 502) none (.ref 294) .none)
theorem zbS (X : (hpK w.params).In h) (G : h.Ns mainGlobals mg) : Df (hpK w.params) mg "_law_text" gA ["script"] 295 kN := cR (ps := ["script"]) (cM (st := gA) (oc := .type "function") (od := none) (osl := #[]) (by kernel_rfl) (by kernel_rfl) (by kernel_rfl)) (PySem.W.mg_of X G (zbR _)) fun _ _ _ _ _ _ => dD fun _ => rfl
theorem zbT : cT hpK 300 "_law_of" := fun _ => by kernel_rfl
noncomputable abbrev eV : FuncData := (PySem.W.fnOf "_law_of" "_law_of" (a4 d9) (aM d9) (aE d9) .none .none .none (.str (Str.ofString "law_readgrove_k81_no_grammars") 502) none (.ref 299) .none)
theorem zbU (X : (hpK w.params).In h) (G : h.Ns mainGlobals mg) : Df (hpK w.params) mg "_law_of" d9 ["text", "some", "most"] 300 eV := cR (ps := ["text", "some", "most"]) (cM (st := d9) (oc := .type "function") (od := none) (osl := #[]) (by kernel_rfl) (by kernel_rfl) (by kernel_rfl)) (PySem.W.mg_of X G (zbT _)) fun _ _ _ _ _ _ => JI fun _ _ _ => rfl
theorem zbV : cT hpK 307 "_law_is_head" := fun _ => by kernel_rfl
noncomputable abbrev f6 : FuncData := (PySem.W.fnOf "_law_is_head" "_law_is_head" (a4 eQ) (aM eQ) (aE eQ) .none .none .none (.str (Str.ofString "law_readgrove_k81_no_grammars") 502) none (.ref 306) .none)
theorem zbW (X : (hpK w.params).In h) (G : h.Ns mainGlobals mg) : Df (hpK w.params) mg "_law_is_head" eQ ["word"] 307 f6 := cR (ps := ["word"]) (cM (st := eQ) (oc := .type "function") (od := none) (osl := #[]) (by kernel_rfl) (by kernel_rfl) (by kernel_rfl)) (PySem.W.mg_of X G (zbV _)) fun _ _ _ _ _ _ => dD fun _ => rfl
theorem zbX : cT hpK 314 "_law_row" := fun _ => by kernel_rfl
noncomputable abbrev jL : FuncData := (PySem.W.fnOf "_law_row" "_law_row" (a4 fP) (aM fP) (aE fP) .none .none .none (.str (Str.ofString "law_readgrove_k81_no_grammars") 502) none (.ref 313) .none)
theorem zbY (X : (hpK w.params).In h) (G : h.Ns mainGlobals mg) : Df (hpK w.params) mg "_law_row" fP ["row"] 314 jL := cR (ps := ["row"]) (cM (st := fP) (oc := .type "function") (od := none) (osl := #[]) (by kernel_rfl) (by kernel_rfl) (by kernel_rfl)) (PySem.W.mg_of X G (zbX _)) fun _ _ _ _ _ _ => dD fun _ => rfl
theorem zbZ : cT hpK 319 "_law_due" := fun _ => by kernel_rfl
noncomputable abbrev kO : FuncData := (PySem.W.fnOf "_law_due" "_law_due" (a4 gB) (aM gB) (aE gB) .none .none .none (.str (Str.ofString "law_readgrove_k81_no_grammars") 502) none (.ref 318) .none)
theorem zb0 (X : (hpK w.params).In h) (G : h.Ns mainGlobals mg) : Df (hpK w.params) mg "_law_due" gB ["text"] 319 kO := cR (ps := ["text"]) (cM (st := gB) (oc := .type "function") (od := none) (osl := #[]) (by kernel_rfl) (by kernel_rfl) (by kernel_rfl)) (PySem.W.mg_of X G (zbZ _)) fun _ _ _ _ _ _ => dD fun _ => rfl
theorem zb1 : cT hpK 326 "_law_kinds" := fun _ => by kernel_rfl
noncomputable abbrev kP : FuncData := (PySem.W.fnOf "_law_kinds" "_law_kinds" (a4 gC) (aM gC) (aE gC) .none .none .none (.str (Str.ofString "law_readgrove_k81_no_grammars") 502) none (.ref 325) .none)
theorem zb2 (X : (hpK w.params).In h) (G : h.Ns mainGlobals mg) : Df (hpK w.params) mg "_law_kinds" gC ["e"] 326 kP := cR (ps := ["e"]) (cM (st := gC) (oc := .type "function") (od := none) (osl := #[]) (by kernel_rfl) (by kernel_rfl) (by kernel_rfl)) (PySem.W.mg_of X G (zb1 _)) fun _ _ _ _ _ _ => dD fun _ => rfl
theorem JJ : cT hpK 333 "law" := fun _ => by kernel_rfl
noncomputable abbrev qZ : FuncData := (PySem.W.fnOf "law" "law" (a4 hJ) (aM hJ) (aE hJ) .none .none .none (.str (Str.ofString "law_readgrove_k81_no_grammars") 502) none (.ref 332) .none)
theorem zb3 (X : (hpK w.params).In h) (G : h.Ns mainGlobals mg) : Df (hpK w.params) mg "law" hJ ["script"] 333 qZ := cR (ps := ["script"]) (cM (st := hJ) (oc := .type "function") (od := none) (osl := #[]) (by kernel_rfl) (by kernel_rfl) (by kernel_rfl)) (PySem.W.mg_of X G (JJ _)) fun _ _ _ _ _ _ => dD fun _ => rfl
theorem zb4 (X : (hpK w.params).In h) (G : h.Ns mainGlobals mg) : Tx (hpK w.params) mg := ⟨⟨⟨85, 37, 61, 97, 49, 73⟩, 24, ⟨⟨PySem.W.mg_of (v := .ref 85) X G (by kernel_rfl), by kernel_rfl⟩, ⟨PySem.W.mg_of (v := .ref 37) X G (by kernel_rfl), by kernel_rfl⟩, PySem.W.mg_of (v := .ref 24) X G (by kernel_rfl), PySem.W.mg_of (v := .ref 61) X G (by kernel_rfl), PySem.W.mg_of (v := .ref 97) X G (by kernel_rfl), PySem.W.mg_of (v := .ref 49) X G (by kernel_rfl), PySem.W.mg_of (v := .ref 73) X G (by kernel_rfl), by kernel_rfl, by kernel_rfl, ⟨⟨by kernel_rfl, by kernel_rfl, by kernel_rfl, by kernel_rfl, by kernel_rfl, by kernel_rfl, by kernel_rfl, by kernel_rfl⟩, ⟨by kernel_rfl, by kernel_rfl, by kernel_rfl, by kernel_rfl, by kernel_rfl, by kernel_rfl, by kernel_rfl, by kernel_rfl⟩, by kernel_rfl, by kernel_rfl, by kernel_rfl, by kernel_rfl, by kernel_rfl, by kernel_rfl, by kernel_rfl, by kernel_rfl, by kernel_rfl, by kernel_rfl, by kernel_rfl, by kernel_rfl, by kernel_rfl, by kernel_rfl⟩⟩⟩, PySem.W.mg_none_of X G (by kernel_rfl), PySem.W.mg_none_of X G (by kernel_rfl), ⟨353, PySem.W.mg_of (v := .int 4000 353) X G (by kernel_rfl)⟩, ⟨307, PySem.W.mg_of (v := .str "0123456789" 307) X G (by kernel_rfl)⟩, ⟨305, PySem.W.mg_of (v := .str "ABCDEFGHIJKLMNOPQRSTUVWXYZ" 305) X G (by kernel_rfl)⟩, ⟨445, PySem.W.mg_of (v := .int 60 445) X G (by kernel_rfl)⟩, ⟨441, PySem.W.mg_of (v := .int 8 441) X G (by kernel_rfl)⟩, ⟨443, PySem.W.mg_of (v := .int 4 443) X G (by kernel_rfl)⟩, ⟨355, PySem.W.mg_of (v := .int 64 355) X G (by kernel_rfl)⟩, ⟨439, PySem.W.mg_of (v := .str "abcdefghijklmnopqrstuvwxyz" 439) X G (by kernel_rfl)⟩, PySem.W.mg_none_of X G (by kernel_rfl), PySem.W.mg_none_of X G (by kernel_rfl), PySem.W.mg_none_of X G (by kernel_rfl), PySem.W.mg_none_of X G (by kernel_rfl), PySem.W.mg_none_of X G (by kernel_rfl), PySem.W.mg_none_of X G (by kernel_rfl), PySem.W.mg_none_of X G (by kernel_rfl), PySem.W.mg_none_of X G (by kernel_rfl), PySem.W.mg_none_of X G (by kernel_rfl)⟩
end
theorem zb5 {l : PySem.W.OpenLaw} {w : World} {h : Heap} {mg : Str → Option Value} {fa : Addr} (X : (hpK w.params).In h) (G : h.Ns mainGlobals mg) (hfa : mg "law" = some (.ref fa)) :
  ∃ fd : FuncData, (∀ (s : Shared) (v : Value), BindsTo s fd ⟨[v], []⟩ [("script", v)]) ∧ ∀ base : Heap, (hpK w.params).In base → base.Ns mainGlobals mg → aS l.prog w (hpK w.params) mg base aQ 6 fa fd ["script"] (a8 (hpK w.params) oU) := by
 have e := hfa.symm.trans (PySem.W.mg_of X G (JJ _))
 cases e
 exact ⟨qZ, fun s v => .of_eq rfl, fun base _ _ => za3 (zb4 X G) (zb3 X G) (za6 X G) (za8 X G) (zba X G) (zbc X G) (zbe X G) (zbg X G) (zbi X G) (zbk X G) (zbm X G) (zbo X G) (zbq X G) (zbs X G) (zbu X G) (zbw X G) (zby X G) (zbA X G) (zbC X G) (zbE X G) (zbG X G) (zbI X G) (zbK X G) (zbM X G) (zbO X G) (zbQ X G) (zbS X G) (zbU X G) (zbW X G) (zbY X G) (zb0 X G) (zb2 X G)⟩
theorem zb6 {l : PySem.W.OpenLaw} {q : Program} {loose : List Str} {XP : (Str → Option Value) → Heap → Prop} {YP : World → Heap → Prop} {d : DefRec} {K : Params → PySem.W.Frag} (hn : l.most = some 63) (hdf : d.params.defaults = [])
  (hY : ∀ (w : World) (h : Heap), YP w h → (K w.params).In h)
  (F : ∀ (w : World) (mg : Str → Option Value) (fa : Addr) (h : Heap), (K w.params).In h → h.Ns mainGlobals mg → mg d.name = some (.ref fa) →
   ∃ fd : FuncData, (∀ (s : Shared) (u : Value), BindsTo s fd ⟨[u], []⟩ [("script", u)]) ∧ ∀ base : Heap, (K w.params).In base → base.Ns mainGlobals mg → aS l.prog w (K w.params) mg base aQ 6 fa fd ["script"] (a8 (K w.params) oU)) :
  PySem.W.WalkO q loose XP YP l.row.toRowW d [] (fun f vs => PySem.call f vs) :=
 L2.OM (n := 63) (k := 6) (x := "script") (CX := fun _ => aQ) (sp := fun w => a8 (K w.params) oU) hn (by decide) hdf ⟨rfl, by decide, by decide⟩ hY F (fun _ _ a ns hl ho hS => P9 hl ho hS) fun _ _ _ _ _ z => z
end Rg
open PySem PySem.W PyProof.Rows
set_option maxRecDepth 100000 in
set_option maxHeartbeats 0 in
theorem PySem.Challenge.cw_readgrove_k81_no_grammars_holds : PySem.Challenge.rw_readgrove_k81_no_grammars.Holds := by
 w_on; refine PySem.W.holds_law Rg.JM fun said => ?_
 refine PySem.W.holds_open (r := PySem.Challenge.rw_readgrove_k81_no_grammars.row) (q := Rg.qv) (loose := []) (N := 5464)
  (Xt := fun s => xlAt Rg.qv [] s && recOk (RowW.records (OpenRow.toRowW PySem.Challenge.rw_readgrove_k81_no_grammars.row)) s)
  (XP := XL Rg.qv []) (Yf := Rg.hk.obs) (Ya := Rg.hk.val) (YP := Rg.hk.says) ?hl Rg.hk.of Rg.hk.keeps
  (fun s e => xl_of s (Bool.and_eq_true_iff.mp e).1) XL.keeps (by rfl) (by rfl) (by rfl) (fun s e => recFacts_of (Bool.and_eq_true_iff.mp e).2)
  (by rfl) (by assumption) (by decide +kernel) ⟨rfl, rfl, rfl, rfl, rfl, by decide +kernel⟩ ?hw ?hc
 case hw => w_witness2
 case hc => exact Rg.zb6 (l := PySem.Challenge.rw_readgrove_k81_no_grammars) rfl rfl (fun w h Y => PySem.W.kIn_of Y) (fun w mg fa h KX G hmg => Rg.zb5 KX G hmg)
 case hl => exact Rg.JN
