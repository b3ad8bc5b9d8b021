import PyProof.Rows.All
import Wide.All
import OpenK.AllK
import Wide.FinOn
import Lean
import PyProof.EqAt
import PyProof.EqKinds
import PyProof.TupleCall
import PyProof.SetScanFacts
import PyProof.SetKind
import PyProof.SetRoads
import PyProof.Rows.SetFrom
import PyProof.FactsBase
import PyProof.TableTree
import PyProof.FactsTree
import PyProof.PlainAttrs
import PyProof.FactsAll.set_1
import PyProof.CollectIter
import PyProof.FactsAll.set
import PyProof.ZipIter
import PyProof.EnumIter
import PyProof.TupleIter
import KE.KRevIter
import KE.KDictList
import PyProof.Rows.SumAny
import KE.KIntText
import PyProof.StrLawsTight
import PyProof.StrLawsChain
import PyProof.Rows.SortStr
import PyProof.Rows.StrNews2
import PyProof.StrLawsFirst
import PyProof.AutoSeq1
import OpenK.KOwn
import PyProof.Rows.CatchOwn
import KE.KDictOf
import PyProof.DictItems
import PyProof.NeKinds
import KE.KPairComp
import PySem.Challenge.RW_usewarden_k27_texts_refused
set_option Elab.async false
set_option linter.all false
set_option maxRecDepth 100000
set_option maxHeartbeats 4000000
namespace L2
open PySem
def inClass(s:Stmt)(j:Nat):Stmt:=match s with
 | .ClassDef _ _ _ body _ _ _ _ _ _ _=>body.getD j (.Pass ⟨0,0,0,0⟩)
 | _=>.Pass ⟨0,0,0,0⟩
def defArgs(s:Stmt):Arguments:=match s with
 | .FunctionDef _ a _ _ _ _ _ _ _ _=>a
 | _=>{ posonlyargs:=[],args:=[],vararg:=none,kwonlyargs:=[],kw_defaults:=[],kwarg:=none,defaults:=[] }
def defBody(s:Stmt):List Stmt:=match s with
 | .FunctionDef _ _ b _ _ _ _ _ _ _=>b
 | _=>[]
def defScope(s:Stmt):Scope:=match s with
 | .FunctionDef _ _ _ _ _ _ sc _ _ _=>sc
 | _=>{ kind:=.function,names:=[],isGenerator:=false,isCoroutine:=false }
end L2
namespace K27
open PySem PySem.W
def aD (i:Nat):Stmt:=PySem.Challenge.pw_usewarden_k27_texts_refused.main.body.getD i (.Pass ⟨0,0,0,0⟩)
noncomputable def KK(P:Params):Frag:=
 (nat_lit 2,⟨.none,none,.dict #[] 0,#[]⟩) ::
 (nat_lit 3,⟨.type "dict", none,.dict #[⟨PyData.keyHash P "__name__", .str "__name__" 165,.str "law_usewarden_k27_texts_refused" 535⟩,⟨PyData.keyHash P "__doc__", .str "__doc__" 166,.none⟩,⟨PyData.keyHash P "__package__", .str "__package__" 167,.none⟩,⟨PyData.keyHash P "__loader__", .str "__loader__" 168,.builtin "__main__.__loader__#opaque"⟩,⟨PyData.keyHash P "__spec__", .str "__spec__" 169,.none⟩,⟨PyData.keyHash P "__annotations__", .str "__annotations__" 170,.ref 6⟩,⟨PyData.keyHash P "__builtins__", .str "__builtins__" 171,.ref 4⟩,⟨PyData.keyHash P "__file__", .str "__file__" 173,.str "/claim/cut.py" 172⟩,⟨PyData.keyHash P "__cached__", .str "__cached__" 174,.none⟩,⟨PyData.keyHash P "UseError", .str "UseError" 206,.ref 24⟩,⟨PyData.keyHash P "NoRule", .str "NoRule" 222,.ref 37⟩,⟨PyData.keyHash P "NoText", .str "NoText" 238,.ref 49⟩,⟨PyData.keyHash P "NoFit", .str "NoFit" 254,.ref 61⟩,⟨PyData.keyHash P "TooGreat", .str "TooGreat" 270,.ref 73⟩,⟨PyData.keyHash P "Breach", .str "Breach" 303,.ref 92⟩,⟨PyData.keyHash P "FIGURES", .str "FIGURES" 307,.str "0123456789" 306⟩,⟨PyData.keyHash P "number_in", .str "number_in" 313,.ref 99⟩,⟨PyData.keyHash P "LETTERS", .str "LETTERS" 317,.str "abcdefghijklmnopqrstuvwxyz" 316⟩,⟨PyData.keyHash P "MOST_LETTERS", .str "MOST_LETTERS" 319,.int 8 318⟩,⟨PyData.keyHash P "is_whole", .str "is_whole" 326,.ref 106⟩,⟨PyData.keyHash P "is_word", .str "is_word" 332,.ref 111⟩,⟨PyData.keyHash P "PARTS", .str "PARTS" 367,.ref 112⟩,⟨PyData.keyHash P "CLOSERS", .str "CLOSERS" 378,.ref 121⟩,⟨PyData.keyHash P "MOST_LINES", .str "MOST_LINES" 380,.int 60 379⟩,⟨PyData.keyHash P "MOST_NAMES", .str "MOST_NAMES" 382,.int 4 381⟩,⟨PyData.keyHash P "MOST_LENDS", .str "MOST_LENDS" 384,.int 3 383⟩,⟨PyData.keyHash P "MOST_AROUND", .str "MOST_AROUND" 386,.int 8 385⟩,⟨PyData.keyHash P "closers_of", .str "closers_of" 393,.ref 131⟩,⟨PyData.keyHash P "head_of", .str "head_of" 400,.ref 138⟩,⟨PyData.keyHash P "blocks_of", .str "blocks_of" 407,.ref 145⟩,⟨PyData.keyHash P "is_bound", .str "is_bound" 414,.ref 152⟩,⟨PyData.keyHash P "is_part", .str "is_part" 422,.ref 159⟩,⟨PyData.keyHash P "is_like_step", .str "is_like_step" 428,.ref 164⟩,⟨PyData.keyHash P "gathers_steps", .str "gathers_steps" 439,.ref 171⟩,⟨PyData.keyHash P "names_in", .str "names_in" 450,.ref 178⟩,⟨PyData.keyHash P "is_program", .str "is_program" 456,.ref 183⟩,⟨PyData.keyHash P "lines_of", .str "lines_of" 462,.ref 188⟩,⟨PyData.keyHash P "ENDS", .str "ENDS" 469,.ref 189⟩,⟨PyData.keyHash P "MOST_FIGURES", .str "MOST_FIGURES" 471,.int 60 470⟩,⟨PyData.keyHash P "show_program", .str "show_program" 478,.ref 196⟩,⟨PyData.keyHash P "bound_in", .str "bound_in" 486,.ref 203⟩,⟨PyData.keyHash P "head_in", .str "head_in" 494,.ref 210⟩,⟨PyData.keyHash P "step_from", .str "step_from" 507,.ref 217⟩,⟨PyData.keyHash P "steps_from", .str "steps_from" 518,.ref 224⟩,⟨PyData.keyHash P "lines_in", .str "lines_in" 525,.ref 231⟩,⟨PyData.keyHash P "read_program", .str "read_program" 534,.ref 238⟩,⟨PyData.keyHash P "_law_cell_at", .str "_law_cell_at" 544,.ref 245⟩,⟨PyData.keyHash P "_law_lines", .str "_law_lines" 550,.ref 250⟩,⟨PyData.keyHash P "_law_odd_line", .str "_law_odd_line" 561,.ref 257⟩,⟨PyData.keyHash P "_law_odd_bound", .str "_law_odd_bound" 569,.ref 264⟩,⟨PyData.keyHash P "_law_too_much", .str "_law_too_much" 578,.ref 271⟩,⟨PyData.keyHash P "_law_blocks", .str "_law_blocks" 584,.ref 276⟩,⟨PyData.keyHash P "_law_put_in", .str "_law_put_in" 593,.ref 283⟩,⟨PyData.keyHash P "_law_line_spoiled", .str "_law_line_spoiled" 604,.ref 290⟩,⟨PyData.keyHash P "_law_spoiled", .str "_law_spoiled" 621,.ref 297⟩,⟨PyData.keyHash P "_law_refused", .str "_law_refused" 631,.ref 304⟩,⟨PyData.keyHash P "law", .str "law" 637,.ref 309⟩] 57,#[]⟩) ::
 (nat_lit 15,⟨.type "tuple", none,.seq #[.type "ValueError"] 0,#[]⟩) ::
 (nat_lit 22,⟨.type "tuple", none,.seq #[] 0,#[]⟩) ::
 (nat_lit 23,⟨.type "dict", none,.dict #[⟨PyData.keyHash P "__module__", .str "__module__" 196,.str "usewarden.errors" 187⟩,⟨PyData.keyHash P "__firstlineno__", .str "__firstlineno__" 200,.int 2 199⟩,⟨PyData.keyHash P "__static_attributes__", .str "__static_attributes__" 201,.ref 22⟩,⟨PyData.keyHash P "__weakref__", .str "__weakref__" 203,.ref 25⟩,⟨PyData.keyHash P "__doc__", .str "__doc__" 204,.none⟩] 3,#[]⟩) ::
 (nat_lit 24,⟨.type "type", none,.cls ⟨"UseError", [.type "ValueError"],[.ref 24,.type "ValueError", .type "Exception", .type "BaseException", .type "object"],23, "UseError", true,[],[.ref 37,.ref 49,.ref 61,.ref 73,.ref 92],false,none,false⟩,#[some (.ref 15),none,some (.str "UseError" 189),some (.str "UseError" 197),some (.builtin "ValueError.__new__"),some (.bool true)]⟩) ::
 (nat_lit 25,⟨.type "getset_descriptor", none,.fields #[.str "__weakref__" 202,.ref 24,.builtin "ExceptionGroup.__weakref__", .none],#[]⟩) ::
 (nat_lit 28,⟨.type "tuple", none,.seq #[.ref 24] 0,#[]⟩) ::
 (nat_lit 35,⟨.type "tuple", none,.seq #[] 0,#[]⟩) ::
 (nat_lit 36,⟨.type "dict", none,.dict #[⟨PyData.keyHash P "__module__", .str "__module__" 214,.str "usewarden.errors" 187⟩,⟨PyData.keyHash P "__firstlineno__", .str "__firstlineno__" 218,.int 4 217⟩,⟨PyData.keyHash P "__static_attributes__", .str "__static_attributes__" 219,.ref 35⟩,⟨PyData.keyHash P "__doc__", .str "__doc__" 220,.none⟩] 2,#[]⟩) ::
 (nat_lit 37,⟨.type "type", none,.cls ⟨"NoRule", [.ref 24],[.ref 37,.ref 24,.type "ValueError", .type "Exception", .type "BaseException", .type "object"],36, "NoRule", true,[],[],false,none,false⟩,#[some (.ref 28),none,some (.str "NoRule" 207),some (.str "NoRule" 215),some (.builtin "ValueError.__new__"),some (.bool true)]⟩) ::
 (nat_lit 40,⟨.type "tuple", none,.seq #[.ref 24] 0,#[]⟩) ::
 (nat_lit 47,⟨.type "tuple", none,.seq #[] 0,#[]⟩) ::
 (nat_lit 48,⟨.type "dict", none,.dict #[⟨PyData.keyHash P "__module__", .str "__module__" 230,.str "usewarden.errors" 187⟩,⟨PyData.keyHash P "__firstlineno__", .str "__firstlineno__" 234,.int 6 233⟩,⟨PyData.keyHash P "__static_attributes__", .str "__static_attributes__" 235,.ref 47⟩,⟨PyData.keyHash P "__doc__", .str "__doc__" 236,.none⟩] 2,#[]⟩) ::
 (nat_lit 49,⟨.type "type", none,.cls ⟨"NoText", [.ref 24],[.ref 49,.ref 24,.type "ValueError", .type "Exception", .type "BaseException", .type "object"],48, "NoText", true,[],[],false,none,false⟩,#[some (.ref 40),none,some (.str "NoText" 223),some (.str "NoText" 231),some (.builtin "ValueError.__new__"),some (.bool true)]⟩) ::
 (nat_lit 52,⟨.type "tuple", none,.seq #[.ref 24] 0,#[]⟩) ::
 (nat_lit 59,⟨.type "tuple", none,.seq #[] 0,#[]⟩) ::
 (nat_lit 60,⟨.type "dict", none,.dict #[⟨PyData.keyHash P "__module__", .str "__module__" 246,.str "usewarden.errors" 187⟩,⟨PyData.keyHash P "__firstlineno__", .str "__firstlineno__" 250,.int 8 249⟩,⟨PyData.keyHash P "__static_attributes__", .str "__static_attributes__" 251,.ref 59⟩,⟨PyData.keyHash P "__doc__", .str "__doc__" 252,.none⟩] 2,#[]⟩) ::
 (nat_lit 61,⟨.type "type", none,.cls ⟨"NoFit", [.ref 24],[.ref 61,.ref 24,.type "ValueError", .type "Exception", .type "BaseException", .type "object"],60, "NoFit", true,[],[],false,none,false⟩,#[some (.ref 52),none,some (.str "NoFit" 239),some (.str "NoFit" 247),some (.builtin "ValueError.__new__"),some (.bool true)]⟩) ::
 (nat_lit 64,⟨.type "tuple", none,.seq #[.ref 24] 0,#[]⟩) ::
 (nat_lit 71,⟨.type "tuple", none,.seq #[] 0,#[]⟩) ::
 (nat_lit 72,⟨.type "dict", none,.dict #[⟨PyData.keyHash P "__module__", .str "__module__" 262,.str "usewarden.errors" 187⟩,⟨PyData.keyHash P "__firstlineno__", .str "__firstlineno__" 266,.int 10 265⟩,⟨PyData.keyHash P "__static_attributes__", .str "__static_attributes__" 267,.ref 71⟩,⟨PyData.keyHash P "__doc__", .str "__doc__" 268,.none⟩] 2,#[]⟩) ::
 (nat_lit 73,⟨.type "type", none,.cls ⟨"TooGreat", [.ref 24],[.ref 73,.ref 24,.type "ValueError", .type "Exception", .type "BaseException", .type "object"],72, "TooGreat", true,[],[],false,none,false⟩,#[some (.ref 64),none,some (.str "TooGreat" 255),some (.str "TooGreat" 263),some (.builtin "ValueError.__new__"),some (.bool true)]⟩) ::
 (nat_lit 76,⟨.type "tuple", none,.seq #[.ref 24] 0,#[]⟩) ::
 (nat_lit 83,⟨.type "tuple", none,.seq #[] 0,#[]⟩) ::
 (nat_lit 85,⟨.type "tuple", none,.seq #[.str "self" 286,.str "rule" 287,.str "line" 288,.str "handles" 289,.str "row" 290,.str "log" 291] 0,#[]⟩) ::
 (nat_lit 86,⟨.type "tuple", none,.seq #[] 0,#[]⟩) ::
 (nat_lit 88,⟨.type "code", none,.fields #[.str "__init__" 283,.str "Breach.__init__" 284,.str "/claim/cut.py" 285,.int 14 0,.int 6 0,.int 0 0,.int 0 0,.int 3 0,.ref 83,.bool true,.int 181 0,.ref 84,.none,.ref 85,.ref 86,.ref 87,.int 292 0,.int 14 0,.str "/claim/cut.py" 293],#[]⟩) ::
 (nat_lit 89,⟨.type "function", none,.func ⟨"__init__", "Breach.__init__", L2.defArgs (L2.inClass (aD 6) 0),.stmts (L2.defBody (L2.inClass (aD 6) 0)),L2.defScope (L2.inClass (aD 6) 0),3,[],.none,.none,.none,.str "usewarden.errors" 187,none,.ref 88,.none,0⟩,#[]⟩) ::
 (nat_lit 90,⟨.type "tuple", none,.seq #[.str "handles" 295,.str "line" 296,.str "log" 297,.str "row" 298,.str "rule" 299] 0,#[]⟩) ::
 (nat_lit 91,⟨.type "dict", none,.dict #[⟨PyData.keyHash P "__module__", .str "__module__" 278,.str "usewarden.errors" 187⟩,⟨PyData.keyHash P "__firstlineno__", .str "__firstlineno__" 282,.int 12 281⟩,⟨PyData.keyHash P "__init__", .str "__init__" 294,.ref 89⟩,⟨PyData.keyHash P "__static_attributes__", .str "__static_attributes__" 300,.ref 90⟩,⟨PyData.keyHash P "__doc__", .str "__doc__" 301,.none⟩] 2,#[]⟩) ::
 (nat_lit 92,⟨.type "type", none,.cls ⟨"Breach", [.ref 24],[.ref 92,.ref 24,.type "ValueError", .type "Exception", .type "BaseException", .type "object"],91, "Breach", true,[],[],false,none,false⟩,#[some (.ref 76),none,some (.str "Breach" 271),some (.str "Breach" 279),some (.builtin "ValueError.__new__"),some (.bool true)]⟩) ::
 (nat_lit 95,⟨.type "tuple", none,.seq #[] 0,#[]⟩) ::
 (nat_lit 98,⟨.type "code", none,.fields #[.str "number_in" 308,.str "number_in" 309,.str "/claim/cut.py" 310,.int 23 0,.int 2 0,.int 0 0,.int 0 0,.int 3 0,.ref 95,.bool true,.int 181 0,.ref 96,.none,.none,.none,.ref 97,.int 311 0,.int 23 0,.str "/claim/cut.py" 312],#[]⟩) ::
 (nat_lit 99,⟨.type "function", none,.func ⟨"number_in", "number_in", L2.defArgs (aD 9),.stmts (L2.defBody (aD 9)),L2.defScope (aD 9),3,[],.none,.none,.none,.str "usewarden.figures" 304,none,.ref 98,.none,0⟩,#[]⟩) ::
 (nat_lit 100,⟨.type "tuple", none,.seq #[] 0,#[]⟩) ::
 (nat_lit 102,⟨.type "tuple", none,.seq #[.str "thing" 323] 0,#[]⟩) ::
 (nat_lit 103,⟨.type "tuple", none,.seq #[] 0,#[]⟩) ::
 (nat_lit 105,⟨.type "code", none,.fields #[.str "is_whole" 320,.str "is_whole" 321,.str "/claim/cut.py" 322,.int 30 0,.int 1 0,.int 0 0,.int 0 0,.int 3 0,.ref 100,.bool true,.int 181 0,.ref 101,.none,.ref 102,.ref 103,.ref 104,.int 324 0,.int 30 0,.str "/claim/cut.py" 325],#[]⟩) ::
 (nat_lit 106,⟨.type "function", none,.func ⟨"is_whole", "is_whole", L2.defArgs (aD 13),.stmts (L2.defBody (aD 13)),L2.defScope (aD 13),3,[],.none,.none,.none,.str "usewarden.rules" 314,none,.ref 105,.none,0⟩,#[]⟩) ::
 (nat_lit 107,⟨.type "tuple", none,.seq #[] 0,#[]⟩) ::
 (nat_lit 110,⟨.type "code", none,.fields #[.str "is_word" 327,.str "is_word" 328,.str "/claim/cut.py" 329,.int 32 0,.int 1 0,.int 0 0,.int 0 0,.int 3 0,.ref 107,.bool true,.int 181 0,.ref 108,.none,.none,.none,.ref 109,.int 330 0,.int 32 0,.str "/claim/cut.py" 331],#[]⟩) ::
 (nat_lit 111,⟨.type "function", none,.func ⟨"is_word", "is_word", L2.defArgs (aD 14),.stmts (L2.defBody (aD 14)),L2.defScope (aD 14),3,[],.none,.none,.none,.str "usewarden.rules" 314,none,.ref 110,.none,0⟩,#[]⟩) ::
 (nat_lit 112,⟨.type "dict", none,.dict #[⟨PyData.keyHash P "open", .str "open" 335,.ref 113⟩,⟨PyData.keyHash P "do", .str "do" 337,.ref 114⟩,⟨PyData.keyHash P "copy", .str "copy" 340,.ref 115⟩,⟨PyData.keyHash P "drop", .str "drop" 343,.ref 116⟩,⟨PyData.keyHash P "tie", .str "tie" 345,.ref 117⟩,⟨PyData.keyHash P "lend", .str "lend" 348,.ref 118⟩,⟨PyData.keyHash P "if", .str "if" 352,.ref 119⟩,⟨PyData.keyHash P "while", .str "while" 356,.ref 120⟩] 8,#[]⟩) ::
 (nat_lit 113,⟨.type "tuple", none,.seq #[.str "name" 336] 0,#[]⟩) ::
 (nat_lit 114,⟨.type "tuple", none,.seq #[.str "word" 338,.str "name" 339] 0,#[]⟩) ::
 (nat_lit 115,⟨.type "tuple", none,.seq #[.str "name" 341,.str "name" 342] 0,#[]⟩) ::
 (nat_lit 116,⟨.type "tuple", none,.seq #[.str "name" 344] 0,#[]⟩) ::
 (nat_lit 117,⟨.type "tuple", none,.seq #[.str "name" 346,.str "name" 347] 0,#[]⟩) ::
 (nat_lit 118,⟨.type "tuple", none,.seq #[.str "name" 349,.str "name" 350,.str "steps" 351] 0,#[]⟩) ::
 (nat_lit 119,⟨.type "tuple", none,.seq #[.str "bound" 353,.str "steps" 354,.str "steps" 355] 0,#[]⟩) ::
 (nat_lit 120,⟨.type "tuple", none,.seq #[.str "bound" 357,.str "steps" 358] 0,#[]⟩) ::
 (nat_lit 121,⟨.type "dict", none,.dict #[⟨PyData.keyHash P "lend", .str "lend" 368,.ref 122⟩,⟨PyData.keyHash P "if", .str "if" 370,.ref 123⟩,⟨PyData.keyHash P "while", .str "while" 373,.ref 124⟩] 3,#[]⟩) ::
 (nat_lit 122,⟨.type "tuple", none,.seq #[.str "back" 369] 0,#[]⟩) ::
 (nat_lit 123,⟨.type "tuple", none,.seq #[.str "else" 371,.str "fi" 372] 0,#[]⟩) ::
 (nat_lit 124,⟨.type "tuple", none,.seq #[.str "done" 374] 0,#[]⟩) ::
 (nat_lit 125,⟨.type "tuple", none,.seq #[] 0,#[]⟩) ::
 (nat_lit 127,⟨.type "tuple", none,.seq #[.str "kind" 390] 0,#[]⟩) ::
 (nat_lit 128,⟨.type "tuple", none,.seq #[] 0,#[]⟩) ::
 (nat_lit 130,⟨.type "code", none,.fields #[.str "closers_of" 387,.str "closers_of" 388,.str "/claim/cut.py" 389,.int 43 0,.int 1 0,.int 0 0,.int 0 0,.int 3 0,.ref 125,.bool true,.int 181 0,.ref 126,.none,.ref 127,.ref 128,.ref 129,.int 391 0,.int 43 0,.str "/claim/cut.py" 392],#[]⟩) ::
 (nat_lit 131,⟨.type "function", none,.func ⟨"closers_of", "closers_of", L2.defArgs (aD 22),.stmts (L2.defBody (aD 22)),L2.defScope (aD 22),3,[],.none,.none,.none,.str "usewarden.programs" 333,none,.ref 130,.none,0⟩,#[]⟩) ::
 (nat_lit 132,⟨.type "tuple", none,.seq #[] 0,#[]⟩) ::
 (nat_lit 134,⟨.type "tuple", none,.seq #[.str "step" 397] 0,#[]⟩) ::
 (nat_lit 135,⟨.type "tuple", none,.seq #[] 0,#[]⟩) ::
 (nat_lit 137,⟨.type "code", none,.fields #[.str "head_of" 394,.str "head_of" 395,.str "/claim/cut.py" 396,.int 45 0,.int 1 0,.int 0 0,.int 0 0,.int 3 0,.ref 132,.bool true,.int 181 0,.ref 133,.none,.ref 134,.ref 135,.ref 136,.int 398 0,.int 45 0,.str "/claim/cut.py" 399],#[]⟩) ::
 (nat_lit 138,⟨.type "function", none,.func ⟨"head_of", "head_of", L2.defArgs (aD 23),.stmts (L2.defBody (aD 23)),L2.defScope (aD 23),3,[],.none,.none,.none,.str "usewarden.programs" 333,none,.ref 137,.none,0⟩,#[]⟩) ::
 (nat_lit 139,⟨.type "tuple", none,.seq #[] 0,#[]⟩) ::
 (nat_lit 141,⟨.type "tuple", none,.seq #[.str "step" 404] 0,#[]⟩) ::
 (nat_lit 142,⟨.type "tuple", none,.seq #[] 0,#[]⟩) ::
 (nat_lit 144,⟨.type "code", none,.fields #[.str "blocks_of" 401,.str "blocks_of" 402,.str "/claim/cut.py" 403,.int 47 0,.int 1 0,.int 0 0,.int 0 0,.int 3 0,.ref 139,.bool true,.int 181 0,.ref 140,.none,.ref 141,.ref 142,.ref 143,.int 405 0,.int 47 0,.str "/claim/cut.py" 406],#[]⟩) ::
 (nat_lit 145,⟨.type "function", none,.func ⟨"blocks_of", "blocks_of", L2.defArgs (aD 24),.stmts (L2.defBody (aD 24)),L2.defScope (aD 24),3,[],.none,.none,.none,.str "usewarden.programs" 333,none,.ref 144,.none,0⟩,#[]⟩) ::
 (nat_lit 146,⟨.type "tuple", none,.seq #[] 0,#[]⟩) ::
 (nat_lit 148,⟨.type "tuple", none,.seq #[.str "thing" 411] 0,#[]⟩) ::
 (nat_lit 149,⟨.type "tuple", none,.seq #[] 0,#[]⟩) ::
 (nat_lit 151,⟨.type "code", none,.fields #[.str "is_bound" 408,.str "is_bound" 409,.str "/claim/cut.py" 410,.int 49 0,.int 1 0,.int 0 0,.int 0 0,.int 3 0,.ref 146,.bool true,.int 181 0,.ref 147,.none,.ref 148,.ref 149,.ref 150,.int 412 0,.int 49 0,.str "/claim/cut.py" 413],#[]⟩) ::
 (nat_lit 152,⟨.type "function", none,.func ⟨"is_bound", "is_bound", L2.defArgs (aD 25),.stmts (L2.defBody (aD 25)),L2.defScope (aD 25),3,[],.none,.none,.none,.str "usewarden.programs" 333,none,.ref 151,.none,0⟩,#[]⟩) ::
 (nat_lit 153,⟨.type "tuple", none,.seq #[] 0,#[]⟩) ::
 (nat_lit 155,⟨.type "tuple", none,.seq #[.str "thing" 418,.str "kind" 419] 0,#[]⟩) ::
 (nat_lit 156,⟨.type "tuple", none,.seq #[] 0,#[]⟩) ::
 (nat_lit 158,⟨.type "code", none,.fields #[.str "is_part" 415,.str "is_part" 416,.str "/claim/cut.py" 417,.int 51 0,.int 2 0,.int 0 0,.int 0 0,.int 3 0,.ref 153,.bool true,.int 181 0,.ref 154,.none,.ref 155,.ref 156,.ref 157,.int 420 0,.int 51 0,.str "/claim/cut.py" 421],#[]⟩) ::
 (nat_lit 159,⟨.type "function", none,.func ⟨"is_part", "is_part", L2.defArgs (aD 26),.stmts (L2.defBody (aD 26)),L2.defScope (aD 26),3,[],.none,.none,.none,.str "usewarden.programs" 333,none,.ref 158,.none,0⟩,#[]⟩) ::
 (nat_lit 160,⟨.type "tuple", none,.seq #[] 0,#[]⟩) ::
 (nat_lit 163,⟨.type "code", none,.fields #[.str "is_like_step" 423,.str "is_like_step" 424,.str "/claim/cut.py" 425,.int 57 0,.int 1 0,.int 0 0,.int 0 0,.int 3 0,.ref 160,.bool true,.int 181 0,.ref 161,.none,.none,.none,.ref 162,.int 426 0,.int 57 0,.str "/claim/cut.py" 427],#[]⟩) ::
 (nat_lit 164,⟨.type "function", none,.func ⟨"is_like_step", "is_like_step", L2.defArgs (aD 27),.stmts (L2.defBody (aD 27)),L2.defScope (aD 27),3,[],.none,.none,.none,.str "usewarden.programs" 333,none,.ref 163,.none,0⟩,#[]⟩) ::
 (nat_lit 165,⟨.type "tuple", none,.seq #[] 0,#[]⟩) ::
 (nat_lit 167,⟨.type "tuple", none,.seq #[.str "things" 432,.str "around" 433,.str "steps" 434,.str "thing" 435,.str "block" 436] 0,#[]⟩) ::
 (nat_lit 168,⟨.type "tuple", none,.seq #[] 0,#[]⟩) ::
 (nat_lit 170,⟨.type "code", none,.fields #[.str "gathers_steps" 429,.str "gathers_steps" 430,.str "/claim/cut.py" 431,.int 66 0,.int 3 0,.int 0 0,.int 0 0,.int 3 0,.ref 165,.bool true,.int 181 0,.ref 166,.none,.ref 167,.ref 168,.ref 169,.int 437 0,.int 66 0,.str "/claim/cut.py" 438],#[]⟩) ::
 (nat_lit 171,⟨.type "function", none,.func ⟨"gathers_steps", "gathers_steps", L2.defArgs (aD 28),.stmts (L2.defBody (aD 28)),L2.defScope (aD 28),3,[],.none,.none,.none,.str "usewarden.programs" 333,none,.ref 170,.none,0⟩,#[]⟩) ::
 (nat_lit 172,⟨.type "tuple", none,.seq #[] 0,#[]⟩) ::
 (nat_lit 174,⟨.type "tuple", none,.seq #[.str "steps" 443,.str "names" 444,.str "step" 445,.str "part" 446,.str "kind" 447] 0,#[]⟩) ::
 (nat_lit 175,⟨.type "tuple", none,.seq #[] 0,#[]⟩) ::
 (nat_lit 177,⟨.type "code", none,.fields #[.str "names_in" 440,.str "names_in" 441,.str "/claim/cut.py" 442,.int 75 0,.int 1 0,.int 0 0,.int 0 0,.int 3 0,.ref 172,.bool true,.int 181 0,.ref 173,.none,.ref 174,.ref 175,.ref 176,.int 448 0,.int 75 0,.str "/claim/cut.py" 449],#[]⟩) ::
 (nat_lit 178,⟨.type "function", none,.func ⟨"names_in", "names_in", L2.defArgs (aD 29),.stmts (L2.defBody (aD 29)),L2.defScope (aD 29),3,[],.none,.none,.none,.str "usewarden.programs" 333,none,.ref 177,.none,0⟩,#[]⟩) ::
 (nat_lit 179,⟨.type "tuple", none,.seq #[] 0,#[]⟩) ::
 (nat_lit 182,⟨.type "code", none,.fields #[.str "is_program" 451,.str "is_program" 452,.str "/claim/cut.py" 453,.int 82 0,.int 1 0,.int 0 0,.int 0 0,.int 3 0,.ref 179,.bool true,.int 181 0,.ref 180,.none,.none,.none,.ref 181,.int 454 0,.int 82 0,.str "/claim/cut.py" 455],#[]⟩) ::
 (nat_lit 183,⟨.type "function", none,.func ⟨"is_program", "is_program", L2.defArgs (aD 30),.stmts (L2.defBody (aD 30)),L2.defScope (aD 30),3,[],.none,.none,.none,.str "usewarden.programs" 333,none,.ref 182,.none,0⟩,#[]⟩) ::
 (nat_lit 184,⟨.type "tuple", none,.seq #[] 0,#[]⟩) ::
 (nat_lit 187,⟨.type "code", none,.fields #[.str "lines_of" 457,.str "lines_of" 458,.str "/claim/cut.py" 459,.int 89 0,.int 1 0,.int 0 0,.int 0 0,.int 3 0,.ref 184,.bool true,.int 181 0,.ref 185,.none,.none,.none,.ref 186,.int 460 0,.int 89 0,.str "/claim/cut.py" 461],#[]⟩) ::
 (nat_lit 188,⟨.type "function", none,.func ⟨"lines_of", "lines_of", L2.defArgs (aD 31),.stmts (L2.defBody (aD 31)),L2.defScope (aD 31),3,[],.none,.none,.none,.str "usewarden.programs" 333,none,.ref 187,.none,0⟩,#[]⟩) ::
 (nat_lit 189,⟨.type "tuple", none,.seq #[.str "back" 465,.str "else" 466,.str "fi" 467,.str "done" 468] 0,#[]⟩) ::
 (nat_lit 190,⟨.type "tuple", none,.seq #[] 0,#[]⟩) ::
 (nat_lit 192,⟨.type "tuple", none,.seq #[.str "program" 475] 0,#[]⟩) ::
 (nat_lit 193,⟨.type "tuple", none,.seq #[] 0,#[]⟩) ::
 (nat_lit 195,⟨.type "code", none,.fields #[.str "show_program" 472,.str "show_program" 473,.str "/claim/cut.py" 474,.int 100 0,.int 1 0,.int 0 0,.int 0 0,.int 3 0,.ref 190,.bool true,.int 181 0,.ref 191,.none,.ref 192,.ref 193,.ref 194,.int 476 0,.int 100 0,.str "/claim/cut.py" 477],#[]⟩) ::
 (nat_lit 196,⟨.type "function", none,.func ⟨"show_program", "show_program", L2.defArgs (aD 35),.stmts (L2.defBody (aD 35)),L2.defScope (aD 35),3,[],.none,.none,.none,.str "usewarden.progtexts" 463,none,.ref 195,.none,0⟩,#[]⟩) ::
 (nat_lit 197,⟨.type "tuple", none,.seq #[] 0,#[]⟩) ::
 (nat_lit 199,⟨.type "tuple", none,.seq #[.str "text" 482,.str "number" 483] 0,#[]⟩) ::
 (nat_lit 200,⟨.type "tuple", none,.seq #[] 0,#[]⟩) ::
 (nat_lit 202,⟨.type "code", none,.fields #[.str "bound_in" 479,.str "bound_in" 480,.str "/claim/cut.py" 481,.int 102 0,.int 1 0,.int 0 0,.int 0 0,.int 3 0,.ref 197,.bool true,.int 181 0,.ref 198,.none,.ref 199,.ref 200,.ref 201,.int 484 0,.int 102 0,.str "/claim/cut.py" 485],#[]⟩) ::
 (nat_lit 203,⟨.type "function", none,.func ⟨"bound_in", "bound_in", L2.defArgs (aD 36),.stmts (L2.defBody (aD 36)),L2.defScope (aD 36),3,[],.none,.none,.none,.str "usewarden.progtexts" 463,none,.ref 202,.none,0⟩,#[]⟩) ::
 (nat_lit 204,⟨.type "tuple", none,.seq #[] 0,#[]⟩) ::
 (nat_lit 206,⟨.type "tuple", none,.seq #[.str "line" 490,.str "parts" 491] 0,#[]⟩) ::
 (nat_lit 207,⟨.type "tuple", none,.seq #[] 0,#[]⟩) ::
 (nat_lit 209,⟨.type "code", none,.fields #[.str "head_in" 487,.str "head_in" 488,.str "/claim/cut.py" 489,.int 107 0,.int 1 0,.int 0 0,.int 0 0,.int 3 0,.ref 204,.bool true,.int 181 0,.ref 205,.none,.ref 206,.ref 207,.ref 208,.int 492 0,.int 107 0,.str "/claim/cut.py" 493],#[]⟩) ::
 (nat_lit 210,⟨.type "function", none,.func ⟨"head_in", "head_in", L2.defArgs (aD 37),.stmts (L2.defBody (aD 37)),L2.defScope (aD 37),3,[],.none,.none,.none,.str "usewarden.progtexts" 463,none,.ref 209,.none,0⟩,#[]⟩) ::
 (nat_lit 211,⟨.type "tuple", none,.seq #[] 0,#[]⟩) ::
 (nat_lit 213,⟨.type "tuple", none,.seq #[.str "lines" 498,.str "at" 499,.str "head" 500,.str "blocks" 501,.str "place" 502,.str "closer" 503,.str "read" 504] 0,#[]⟩) ::
 (nat_lit 214,⟨.type "tuple", none,.seq #[] 0,#[]⟩) ::
 (nat_lit 216,⟨.type "code", none,.fields #[.str "step_from" 495,.str "step_from" 496,.str "/claim/cut.py" 497,.int 112 0,.int 2 0,.int 0 0,.int 0 0,.int 3 0,.ref 211,.bool true,.int 181 0,.ref 212,.none,.ref 213,.ref 214,.ref 215,.int 505 0,.int 112 0,.str "/claim/cut.py" 506],#[]⟩) ::
 (nat_lit 217,⟨.type "function", none,.func ⟨"step_from", "step_from", L2.defArgs (aD 38),.stmts (L2.defBody (aD 38)),L2.defScope (aD 38),3,[],.none,.none,.none,.str "usewarden.progtexts" 463,none,.ref 216,.none,0⟩,#[]⟩) ::
 (nat_lit 218,⟨.type "tuple", none,.seq #[] 0,#[]⟩) ::
 (nat_lit 220,⟨.type "tuple", none,.seq #[.str "lines" 511,.str "at" 512,.str "steps" 513,.str "place" 514,.str "read" 515] 0,#[]⟩) ::
 (nat_lit 221,⟨.type "tuple", none,.seq #[] 0,#[]⟩) ::
 (nat_lit 223,⟨.type "code", none,.fields #[.str "steps_from" 508,.str "steps_from" 509,.str "/claim/cut.py" 510,.int 121 0,.int 2 0,.int 0 0,.int 0 0,.int 3 0,.ref 218,.bool true,.int 181 0,.ref 219,.none,.ref 220,.ref 221,.ref 222,.int 516 0,.int 121 0,.str "/claim/cut.py" 517],#[]⟩) ::
 (nat_lit 224,⟨.type "function", none,.func ⟨"steps_from", "steps_from", L2.defArgs (aD 39),.stmts (L2.defBody (aD 39)),L2.defScope (aD 39),3,[],.none,.none,.none,.str "usewarden.progtexts" 463,none,.ref 223,.none,0⟩,#[]⟩) ::
 (nat_lit 225,⟨.type "tuple", none,.seq #[] 0,#[]⟩) ::
 (nat_lit 227,⟨.type "tuple", none,.seq #[.str "text" 522] 0,#[]⟩) ::
 (nat_lit 228,⟨.type "tuple", none,.seq #[] 0,#[]⟩) ::
 (nat_lit 230,⟨.type "code", none,.fields #[.str "lines_in" 519,.str "lines_in" 520,.str "/claim/cut.py" 521,.int 129 0,.int 1 0,.int 0 0,.int 0 0,.int 3 0,.ref 225,.bool true,.int 181 0,.ref 226,.none,.ref 227,.ref 228,.ref 229,.int 523 0,.int 129 0,.str "/claim/cut.py" 524],#[]⟩) ::
 (nat_lit 231,⟨.type "function", none,.func ⟨"lines_in", "lines_in", L2.defArgs (aD 40),.stmts (L2.defBody (aD 40)),L2.defScope (aD 40),3,[],.none,.none,.none,.str "usewarden.progtexts" 463,none,.ref 230,.none,0⟩,#[]⟩) ::
 (nat_lit 232,⟨.type "tuple", none,.seq #[] 0,#[]⟩) ::
 (nat_lit 234,⟨.type "tuple", none,.seq #[.str "text" 529,.str "lines" 530,.str "program" 531] 0,#[]⟩) ::
 (nat_lit 235,⟨.type "tuple", none,.seq #[] 0,#[]⟩) ::
 (nat_lit 237,⟨.type "code", none,.fields #[.str "read_program" 526,.str "read_program" 527,.str "/claim/cut.py" 528,.int 131 0,.int 1 0,.int 0 0,.int 0 0,.int 3 0,.ref 232,.bool true,.int 181 0,.ref 233,.none,.ref 234,.ref 235,.ref 236,.int 532 0,.int 131 0,.str "/claim/cut.py" 533],#[]⟩) ::
 (nat_lit 238,⟨.type "function", none,.func ⟨"read_program", "read_program", L2.defArgs (aD 41),.stmts (L2.defBody (aD 41)),L2.defScope (aD 41),3,[],.none,.none,.none,.str "usewarden.progtexts" 463,none,.ref 237,.none,0⟩,#[]⟩) ::
 (nat_lit 239,⟨.type "tuple", none,.seq #[] 0,#[]⟩) ::
 (nat_lit 241,⟨.type "tuple", none,.seq #[.str "_law_script" 540,.str "_law_k" 541] 0,#[]⟩) ::
 (nat_lit 242,⟨.type "tuple", none,.seq #[] 0,#[]⟩) ::
 (nat_lit 244,⟨.type "code", none,.fields #[.str "_law_cell_at" 537,.str "_law_cell_at" 538,.str "/claim/cut.py" 539,.int 142 0,.int 2 0,.int 0 0,.int 0 0,.int 3 0,.ref 239,.bool true,.int 181 0,.ref 240,.none,.ref 241,.ref 242,.ref 243,.int 542 0,.int 142 0,.str "/claim/cut.py" 543],#[]⟩) ::
 (nat_lit 245,⟨.type "function", none,.func ⟨"_law_cell_at", "_law_cell_at", L2.defArgs (aD 43),.stmts (L2.defBody (aD 43)),L2.defScope (aD 43),3,[],.none,.none,.none,.str "law_usewarden_k27_texts_refused" 535,none,.ref 244,.none,0⟩,#[]⟩) ::
 (nat_lit 246,⟨.type "tuple", none,.seq #[] 0,#[]⟩) ::
 (nat_lit 249,⟨.type "code", none,.fields #[.str "_law_lines" 545,.str "_law_lines" 546,.str "/claim/cut.py" 547,.int 146 0,.int 3 0,.int 0 0,.int 0 0,.int 3 0,.ref 246,.bool true,.int 181 0,.ref 247,.none,.none,.none,.ref 248,.int 548 0,.int 146 0,.str "/claim/cut.py" 549],#[]⟩) ::
 (nat_lit 250,⟨.type "function", none,.func ⟨"_law_lines", "_law_lines", L2.defArgs (aD 44),.stmts (L2.defBody (aD 44)),L2.defScope (aD 44),3,[],.none,.none,.none,.str "law_usewarden_k27_texts_refused" 535,none,.ref 249,.none,0⟩,#[]⟩) ::
 (nat_lit 251,⟨.type "tuple", none,.seq #[] 0,#[]⟩) ::
 (nat_lit 253,⟨.type "tuple", none,.seq #[.str "_law_cell" 554,.str "_law_x" 555,.str "_law_y" 556,.str "_law_both" 557,.str "_law_some" 558] 0,#[]⟩) ::
 (nat_lit 254,⟨.type "tuple", none,.seq #[] 0,#[]⟩) ::
 (nat_lit 256,⟨.type "code", none,.fields #[.str "_law_odd_line" 551,.str "_law_odd_line" 552,.str "/claim/cut.py" 553,.int 168 0,.int 3 0,.int 0 0,.int 0 0,.int 3 0,.ref 251,.bool true,.int 181 0,.ref 252,.none,.ref 253,.ref 254,.ref 255,.int 559 0,.int 168 0,.str "/claim/cut.py" 560],#[]⟩) ::
 (nat_lit 257,⟨.type "function", none,.func ⟨"_law_odd_line", "_law_odd_line", L2.defArgs (aD 45),.stmts (L2.defBody (aD 45)),L2.defScope (aD 45),3,[],.none,.none,.none,.str "law_usewarden_k27_texts_refused" 535,none,.ref 256,.none,0⟩,#[]⟩) ::
 (nat_lit 258,⟨.type "tuple", none,.seq #[] 0,#[]⟩) ::
 (nat_lit 260,⟨.type "tuple", none,.seq #[.str "_law_cell" 565,.str "_law_some" 566] 0,#[]⟩) ::
 (nat_lit 261,⟨.type "tuple", none,.seq #[] 0,#[]⟩) ::
 (nat_lit 263,⟨.type "code", none,.fields #[.str "_law_odd_bound" 562,.str "_law_odd_bound" 563,.str "/claim/cut.py" 564,.int 176 0,.int 1 0,.int 0 0,.int 0 0,.int 3 0,.ref 258,.bool true,.int 181 0,.ref 259,.none,.ref 260,.ref 261,.ref 262,.int 567 0,.int 176 0,.str "/claim/cut.py" 568],#[]⟩) ::
 (nat_lit 264,⟨.type "function", none,.func ⟨"_law_odd_bound", "_law_odd_bound", L2.defArgs (aD 46),.stmts (L2.defBody (aD 46)),L2.defScope (aD 46),3,[],.none,.none,.none,.str "law_usewarden_k27_texts_refused" 535,none,.ref 263,.none,0⟩,#[]⟩) ::
 (nat_lit 265,⟨.type "tuple", none,.seq #[] 0,#[]⟩) ::
 (nat_lit 267,⟨.type "tuple", none,.seq #[.str "_law_cell" 573,.str "_law_x" 574,.str "_law_way" 575] 0,#[]⟩) ::
 (nat_lit 268,⟨.type "tuple", none,.seq #[] 0,#[]⟩) ::
 (nat_lit 270,⟨.type "code", none,.fields #[.str "_law_too_much" 570,.str "_law_too_much" 571,.str "/claim/cut.py" 572,.int 180 0,.int 2 0,.int 0 0,.int 0 0,.int 3 0,.ref 265,.bool true,.int 181 0,.ref 266,.none,.ref 267,.ref 268,.ref 269,.int 576 0,.int 180 0,.str "/claim/cut.py" 577],#[]⟩) ::
 (nat_lit 271,⟨.type "function", none,.func ⟨"_law_too_much", "_law_too_much", L2.defArgs (aD 47),.stmts (L2.defBody (aD 47)),L2.defScope (aD 47),3,[],.none,.none,.none,.str "law_usewarden_k27_texts_refused" 535,none,.ref 270,.none,0⟩,#[]⟩) ::
 (nat_lit 272,⟨.type "tuple", none,.seq #[] 0,#[]⟩) ::
 (nat_lit 275,⟨.type "code", none,.fields #[.str "_law_blocks" 579,.str "_law_blocks" 580,.str "/claim/cut.py" 581,.int 189 0,.int 1 0,.int 0 0,.int 0 0,.int 3 0,.ref 272,.bool true,.int 181 0,.ref 273,.none,.none,.none,.ref 274,.int 582 0,.int 189 0,.str "/claim/cut.py" 583],#[]⟩) ::
 (nat_lit 276,⟨.type "function", none,.func ⟨"_law_blocks", "_law_blocks", L2.defArgs (aD 48),.stmts (L2.defBody (aD 48)),L2.defScope (aD 48),3,[],.none,.none,.none,.str "law_usewarden_k27_texts_refused" 535,none,.ref 275,.none,0⟩,#[]⟩) ::
 (nat_lit 277,⟨.type "tuple", none,.seq #[] 0,#[]⟩) ::
 (nat_lit 279,⟨.type "tuple", none,.seq #[.str "_law_lines_here" 588,.str "_law_at" 589,.str "_law_more" 590] 0,#[]⟩) ::
 (nat_lit 280,⟨.type "tuple", none,.seq #[] 0,#[]⟩) ::
 (nat_lit 282,⟨.type "code", none,.fields #[.str "_law_put_in" 585,.str "_law_put_in" 586,.str "/claim/cut.py" 587,.int 192 0,.int 3 0,.int 0 0,.int 0 0,.int 3 0,.ref 277,.bool true,.int 181 0,.ref 278,.none,.ref 279,.ref 280,.ref 281,.int 591 0,.int 192 0,.str "/claim/cut.py" 592],#[]⟩) ::
 (nat_lit 283,⟨.type "function", none,.func ⟨"_law_put_in", "_law_put_in", L2.defArgs (aD 49),.stmts (L2.defBody (aD 49)),L2.defScope (aD 49),3,[],.none,.none,.none,.str "law_usewarden_k27_texts_refused" 535,none,.ref 282,.none,0⟩,#[]⟩) ::
 (nat_lit 284,⟨.type "tuple", none,.seq #[] 0,#[]⟩) ::
 (nat_lit 286,⟨.type "tuple", none,.seq #[.str "_law_way" 597,.str "_law_cell" 598,.str "_law_line" 599,.str "_law_sign" 600,.str "_law_place" 601] 0,#[]⟩) ::
 (nat_lit 287,⟨.type "tuple", none,.seq #[] 0,#[]⟩) ::
 (nat_lit 289,⟨.type "code", none,.fields #[.str "_law_line_spoiled" 594,.str "_law_line_spoiled" 595,.str "/claim/cut.py" 596,.int 194 0,.int 3 0,.int 0 0,.int 0 0,.int 3 0,.ref 284,.bool true,.int 181 0,.ref 285,.none,.ref 286,.ref 287,.ref 288,.int 602 0,.int 194 0,.str "/claim/cut.py" 603],#[]⟩) ::
 (nat_lit 290,⟨.type "function", none,.func ⟨"_law_line_spoiled", "_law_line_spoiled", L2.defArgs (aD 50),.stmts (L2.defBody (aD 50)),L2.defScope (aD 50),3,[],.none,.none,.none,.str "law_usewarden_k27_texts_refused" 535,none,.ref 289,.none,0⟩,#[]⟩) ::
 (nat_lit 291,⟨.type "tuple", none,.seq #[] 0,#[]⟩) ::
 (nat_lit 293,⟨.type "tuple", none,.seq #[.str "_law_cell" 608,.str "_law_lines_here" 609,.str "_law_x" 610,.str "_law_y" 611,.str "_law_way" 612,.str "_law_at" 613,.str "_law_k" 614,.str "_law_more" 615,.str "_law_blocks_here" 616,.str "_law_bound" 617,.str "_law_line" 618] 0,#[]⟩) ::
 (nat_lit 294,⟨.type "tuple", none,.seq #[] 0,#[]⟩) ::
 (nat_lit 296,⟨.type "code", none,.fields #[.str "_law_spoiled" 605,.str "_law_spoiled" 606,.str "/claim/cut.py" 607,.int 206 0,.int 4 0,.int 0 0,.int 0 0,.int 3 0,.ref 291,.bool true,.int 181 0,.ref 292,.none,.ref 293,.ref 294,.ref 295,.int 619 0,.int 206 0,.str "/claim/cut.py" 620],#[]⟩) ::
 (nat_lit 297,⟨.type "function", none,.func ⟨"_law_spoiled", "_law_spoiled", L2.defArgs (aD 51),.stmts (L2.defBody (aD 51)),L2.defScope (aD 51),3,[],.none,.none,.none,.str "law_usewarden_k27_texts_refused" 535,none,.ref 296,.none,0⟩,#[]⟩) ::
 (nat_lit 298,⟨.type "tuple", none,.seq #[] 0,#[]⟩) ::
 (nat_lit 300,⟨.type "tuple", none,.seq #[.str "_law_thing" 625,.str "_law_kinds" 626,.str "e" 627,.str "_law_others" 628] 0,#[]⟩) ::
 (nat_lit 301,⟨.type "tuple", none,.seq #[] 0,#[]⟩) ::
 (nat_lit 303,⟨.type "code", none,.fields #[.str "_law_refused" 622,.str "_law_refused" 623,.str "/claim/cut.py" 624,.int 233 0,.int 1 0,.int 0 0,.int 0 0,.int 3 0,.ref 298,.bool true,.int 181 0,.ref 299,.none,.ref 300,.ref 301,.ref 302,.int 629 0,.int 233 0,.str "/claim/cut.py" 630],#[]⟩) ::
 (nat_lit 304,⟨.type "function", none,.func ⟨"_law_refused", "_law_refused", L2.defArgs (aD 52),.stmts (L2.defBody (aD 52)),L2.defScope (aD 52),3,[],.none,.none,.none,.str "law_usewarden_k27_texts_refused" 535,none,.ref 303,.none,0⟩,#[]⟩) ::
 (nat_lit 305,⟨.type "tuple", none,.seq #[] 0,#[]⟩) ::
 (nat_lit 308,⟨.type "code", none,.fields #[.str "law" 632,.str "law" 633,.str "/claim/cut.py" 634,.int 241 0,.int 1 0,.int 0 0,.int 0 0,.int 3 0,.ref 305,.bool true,.int 181 0,.ref 306,.none,.none,.none,.ref 307,.int 635 0,.int 241 0,.str "/claim/cut.py" 636],#[]⟩) ::
 (nat_lit 309,⟨.type "function", none,.func ⟨"law", "law", L2.defArgs (aD 53),.stmts (L2.defBody (aD 53)),L2.defScope (aD 53),3,[],.none,.none,.none,.str "law_usewarden_k27_texts_refused" 535,none,.ref 308,.none,0⟩,#[]⟩)::[]
def kk:List Addr:=[2,3,15,22,23,24,25,28,35,36,37,40,47,48,49,52,59,60,61,64,71,72,73,76,83,85,86,88,89,90,91,92,95,98,99,100,102,103,105,106,107,110,111,112,113,114,115,116,117,118,119,120,121,122,123,124,125,127,128,130,131,132,134,135,137,138,139,141,142,144,145,146,148,149,151,152,153,155,156,158,159,160,163,164,165,167,168,170,171,172,174,175,177,178,179,182,183,184,187,188,189,190,192,193,195,196,197,199,200,202,203,204,206,207,209,210,211,213,214,216,217,218,220,221,223,224,225,227,228,230,231,232,234,235,237,238,239,241,242,244,245,246,249,250,251,253,254,256,257,258,260,261,263,264,265,267,268,270,271,272,275,276,277,279,280,282,283,284,286,287,289,290,291,293,294,296,297,298,300,301,303,304,305,308,309]
theorem kk_eq:∀ P,kk=(KK P).map (·.1):=fun _=>by kernel_rfl
noncomputable abbrev HH:Hook:=kHook KK kk kk_eq
def qq:Program:=view PySem.Challenge.pw_usewarden_k27_texts_refused [1,2,3,4,5,6,8,9,11,12,13,14,16,17,18,19,20,21,22,23,24,25,26,27,28,29,30,31,33,34,35,36,37,38,39,40,41,43,44,45,46,47,48,49,50,51,52,53]
def loo:List Str:=["PARTS", "CLOSERS"]
noncomputable def xt(s:Shared):Bool:=xlAt qq [] s&&recOk (RowW.records (OpenRow.toRowW (OpenLaw.row PySem.Challenge.rw_usewarden_k27_texts_refused))) s
def tD(w:World):Prop:=(openEnds treeTable PySem.Challenge.pw_usewarden_k27_texts_refused w 5270).map (fun s=>openSeen qq loo (importedModules (Program.main PySem.Challenge.pw_usewarden_k27_texts_refused).body) xt true s)=some (openGood qq loo)
def r_(w:World):Prop:=(openEnds treeTable PySem.Challenge.pw_usewarden_k27_texts_refused w 5270).map (fun s=>Hook.obs HH s)=some (Hook.val HH w)
set_option maxRecDepth 1000000 in
theorem ET(w:World):tD (w.withFollow "special-get-raises" false):=by unfold tD; kernel_rfl
set_option maxRecDepth 1000000 in
theorem EA(w:World):tD (w.withFollow "special-get-raises" true):=by unfold tD; kernel_rfl
theorem E7(w:World):tD w:=byRow2 "special-get-raises" (P:=tD) ET EA w
set_option maxRecDepth 1000000 in
theorem Eh(w:World):r_ (w.withFollow "special-get-raises" false):=by unfold r_; kernel_rfl
set_option maxRecDepth 1000000 in
theorem EV(w:World):r_ (w.withFollow "special-get-raises" true):=by unfold r_; kernel_rfl
theorem EJ(w:World):r_ w:=byRow2 "special-get-raises" (P:=r_) Eh EV w
theorem xo{α β γ : Type}{o:Option α}{f:α→β}{g:α→γ}{a:β}{b:γ}(h1:o.map f=some a)(h2:o.map g=some b):o.map (fun s=>(f s,g s))=some (a,b):=by
 cases o with
 | none=>cases h1
 | some s=>cases h1; cases h2; rfl
theorem hl(w:World):(openEnds treeTable PySem.Challenge.pw_usewarden_k27_texts_refused w 5270).map (fun s=>(openSeen qq loo (importedModules (Program.main PySem.Challenge.pw_usewarden_k27_texts_refused).body) xt true s,Hook.obs HH s))=some (openGood qq loo,Hook.val HH w):=xo (E7 w) (EJ w)
end K27
-- CHANGE: your row's module here, as the last of these rows
namespace L2
open PySem PySem.Spec PyProof.Rows
abbrev bT:=Sum Int Str
def lX:bT→Value→Bool
 | .inl k,v=>Value.isInt k v
 | .inr x,v=>Value.isStrOf x v
def Ea(w:World):bT→Int
 | .inl k=>hashInt k
 | .inr x=>hashStr w x
theorem cO:∀ {k:bT} {v:Value},lX k v=true→(∃ i t,k=Sum.inl i∧v=Value.int i t)∨(∃ x t,k=Sum.inr x∧v=Value.str x t)
 | .inl i,v,h=>by
  obtain⟨t,e⟩:=Value.isInt_shape (k:=i) (v:=v) h
  exact .inl ⟨i,t,rfl,e⟩
 | .inr x,v,h=>by
  obtain⟨t,e⟩:=Value.isStrOf_shape (x:=x) (v:=v) h
  exact .inr ⟨x,t,rfl,e⟩
theorem wq(i:Int)(t:Tok):lX (.inl i) (.int i t)=true:=by simp[lX,Value.isInt]
theorem vT(x:Str)(t:Tok):lX (.inr x) (.str x t)=true:=by simp[lX,Value.isStrOf]
theorem BP(a b:Int):decide ((Sum.inl a:bT)=Sum.inl b)=(a == b):=by
 by_cases e:a=b
 ·subst e; simp
 ·have h:¬ (Sum.inl a:bT)=Sum.inl b:=fun q=>e (Sum.inl.inj q)
  rw[decide_eq_false h]
  exact(beq_eq_false_iff_ne.mpr e).symm
theorem BD(a b:Str):decide ((Sum.inr a:bT)=Sum.inr b)=decide (a=b):=by
 by_cases e:a=b
 ·subst e; simp
 ·have h:¬ (Sum.inr a:bT)=Sum.inr b:=fun q=>e (Sum.inr.inj q)
  rw[decide_eq_false h,decide_eq_false e]
theorem AM(a:Int)(b:Str):decide ((Sum.inl a:bT)=Sum.inr b)=false:=decide_eq_false (fun q=>nomatch q)
theorem Ba(a:Str)(b:Int):decide ((Sum.inr a:bT)=Sum.inl b)=false:=decide_eq_false (fun q=>nomatch q)
def cL(prog:Program)(w:World):PySem.KeyKind prog w bT where
 is:=lX
 hash:=Ea w
 inj:=fun v a b ha hb=>by
  rcases cO ha with ⟨i,t,rfl,rfl⟩ | ⟨x,t,rfl,rfl⟩
  ·rcases cO hb with ⟨j,u,rfl,e⟩ | ⟨y,u,rfl,e⟩
   ·injection e with e1 _; rw[e1]
   ·exact nomatch e
  ·rcases cO hb with ⟨j,u,rfl,e⟩ | ⟨y,u,rfl,e⟩
   ·exact nomatch e
   ·injection e with e1 _; rw[e1]
 byValue:=fun k v h=>by
  rcases cO h with ⟨i,t,rfl,rfl⟩ | ⟨x,t,rfl,rfl⟩ <;> rfl
 pyHash:=fun hv h=>by
  rcases cO hv with ⟨i,t,rfl,rfl⟩ | ⟨x,t,rfl,rfl⟩
  ·exact wpAny_pyHash_int h
  ·exact wpAny_pyHash_str h
 eqBool:=fun hu hv h=>by
  rcases cO hu with ⟨i,t,rfl,rfl⟩ | ⟨x,t,rfl,rfl⟩
  ·rcases cO hv with ⟨j,u,rfl,rfl⟩ | ⟨y,u,rfl,rfl⟩
   ·rw[BP]at h; exact wpAny_eqBool_int h
   ·rw[AM]at h; exact SeqAt.EqAt.int_str i t y u _ _ _ _ h
  ·rcases cO hv with ⟨j,u,rfl,rfl⟩ | ⟨y,u,rfl,rfl⟩
   ·rw[Ba]at h; exact SeqAt.EqAt.str_int x t j u _ _ _ _ h
   ·rw[BD]at h; exact wpAny_eqBool_str h
 «strs»:=fun k x t v h=>by
  rcases cO h with ⟨i,u,rfl,e⟩ | ⟨y,u,rfl,e⟩
  ·exact nomatch e
  ·injection e with e1 _
   subst e1
   cases v <;> rfl
theorem rS(prog:Program)(w:World)(i:Int)(t:Tok):(cL prog w).is (.inl i) (.int i t)=true:=wq i t
theorem rT(prog:Program)(w:World)(x:Str)(t:Tok):(cL prog w).is (.inr x) (.str x t)=true:=vT x t
end L2
namespace L2
open PySem PySem.Spec PyProof.Rows
set_option genSizeOf false in
inductive V where
 | non | bl (b:Bool) | int (i:Int) | str (x:Str) | byt (b:Array UInt8) | flt (b:UInt64) | ref (a:Addr) | ty (n:String)
 deriving DecidableEq
def RelV:V→Value→Prop
 | .non,u=>u=Value.none
 | .bl b,u=>u=Value.bool b
 | .int i,u=>∃ t,u=Value.int i t
 | .str x,u=>∃ t,u=Value.str x t
 | .byt b,u=>∃ t,u=Value.bytes b t
 | .flt b,u=>∃ t,u=Value.float b t
 | .ref a,u=>u=Value.ref a
 | .ty n,u=>u=Value.type n
abbrev Vals:List V→List Value→Prop:=Paired RelV
theorem Vals.length{xs:List V}{us:List Value}(r:Vals xs us):xs.length=us.length:=Paired.length r
theorem Vals.get:∀ {xs:List V} {us:List Value} {i:Nat} {x:V},Vals xs us→xs[i]? = some x→∃ u,us[i]? = some u∧RelV x u
 | _,_,_,_,.nil,e=>by simp at e
 | _,_,0,_,.cons r _,e=>by simp at e; subst e; exact⟨_,rfl,r⟩
 | _,_,i+1,x,.cons _ t,e=>by
  obtain⟨u,h1,h2⟩:=Vals.get (i:=i) (x:=x) t (by simpa using e)
  exact⟨u,by simpa using h1,h2⟩
theorem Vals.append:∀ {xs ys:List V} {us ws:List Value},Vals xs us→Vals ys ws→Vals (xs++ys) (us++ws)
 | _,_,_,_,.nil,s=>s
 | _,_,_,_,.cons r t,s=>.cons r (Vals.append t s)
theorem Vals.take:∀ {xs:List V} {us:List Value} (n:Nat),Vals xs us→Vals (xs.take n) (us.take n)
 | _,_,0,_=>.nil
 | _,_,_+1,.nil=>.nil
 | _,_,n+1,.cons r t=>.cons r (Vals.take n t)
theorem Vals.drop:∀ {xs:List V} {us:List Value} (n:Nat),Vals xs us→Vals (xs.drop n) (us.drop n)
 | _,_,0,r=>r
 | _,_,_+1,.nil=>.nil
 | _,_,n+1,.cons _ t=>Vals.drop n t
theorem Vals.none_of:∀ {xs:List V} {us:List Value} {i:Nat},Vals xs us→xs[i]? = none→us[i]? = none:=fun {xs us i} r e=>by
 have h1:=r.length
 have h2:xs.length≤i:=List.getElem?_eq_none_iff.mp e
 exact List.getElem?_eq_none_iff.mpr (by omega)
def RelO:Option V→Option Value→Prop
 | some v,some u=>RelV v u
 | none,none=>True
 | _,_=>False
def KV{κ : Type}:List (κ × V)→List (κ × Value)→Prop:=Paired fun (p:κ × V) (q:κ × Value)=>p.1=q.1∧RelV p.2 q.2
def kV:bT→V
 | .inl i=>.int i
 | .inr x=>.str x
set_option genSizeOf false in
inductive HO where
 /-- a list -/
 | lst (xs:List V)
 /-- a tuple (never changes) -/
 | tup (xs:List V)
 /-- a dict whose keys are ints and texts; one whose keys are tuples of ints and texts (the empty one is both) -/
 | dK (kvs:List (bT × V)) | dT (kvs:List (List bT × V))
 /-- a set of ints: its members, its size -/
 | set (S:Int→Bool) (n:Nat)
 /-- an instance of the class at C, its dict at dx, its attributes -/
 | ins (C dx:Addr) (fs:List (Str × V))
 /-- the dict of the instance at x -/
 | own (x:Addr)
 /-- the dict of an exception -/
 | xd (fs:List (Str × V))
 /-- a bound method, f of x -/
 | met (f x:Addr)
 /-- a range object lo, lo+1, .. below hi -/
 | rng (lo hi:Int)
 /-- a thing that is known to the object (the script; a dict while a loop walks it): read, never written while it is so -/
 | frz (o:Obj) (u:HO)
 /-- a code object's table -/
 | tbl (ps:Array Value)
 /-- any other thing, by what is true of its one object (a def of one's own: SetO a S n := HO.ext fun h => ..) -/
 | ext (φ : Heap→Prop)
abbrev Hp:=Addr→Option HO
def upd(H:Hp)(a:Addr)(o:HO):Hp:=fun b=>if b=a then some o else H b
theorem ai{H:Hp}{a:Addr}{o:HO}:upd H a o a=some o:=by unfold upd; rw[if_pos rfl]
theorem aA{H:Hp}{a b:Addr}{o:HO}(h:b≠a):upd H a o b=H b:=by unfold upd; rw[if_neg h]
theorem fu{H:Hp}{a b:Addr}{o u:HO}(h:H a=some o)(h':H b=some u)(d:o≠u):a≠b:=by
 intro e; subst e; rw[h]at h'; exact d (Option.some.inj h')
theorem aZ{H:Hp}{a b:Addr}{o:HO}(h:H a=some o)(h':H b=none):a≠b:=by
 intro e; subst e; rw[h]at h'; cases h'
def IsTupN(h:Heap)(a:Addr)(items:Array Value):Prop:=∃ o,h.get? a=some o∧o.cls = .type "tuple" ∧ o.dict=none∧∃ n,o.data = .seq items n
theorem IsTupN.tup{h:Heap}{a:Addr}{items:Array Value}(x:IsTupN h a items):IsTup h a items:=let ⟨o,e,c,_,d⟩:=x; ⟨o,e,c,d⟩
theorem IsTupN.lt{h:Heap}{a:Addr}{items:Array Value}(x:IsTupN h a items):a<h.objs.size:=let ⟨_,e,_⟩:=x; Heap.lt_size e
theorem IsTupN.new(h:Heap)(items:Array Value):IsTupN (h.push { cls:=.type "tuple", data:=.seq items }) h.objs.size items:=⟨_,Heap.get?_push_size _ rfl,rfl,rfl,_,rfl⟩
section
variable(P:Program)(w:World)
def ObjOk(H:Hp)(h:Heap)(a:Addr):HO→Prop
 | .lst xs=>xs.length≤sizeLine∧∃ (its:List Value) (n:Nat),Vals xs its∧h.get? a=some { cls:=.type "list", data:=.seq its.toArray n }
 | .tup xs=>xs.length≤sizeLine∧∃ its:List Value,Vals xs its∧IsTupN h a its.toArray
 | .dK kvs=>kvs.length≤sizeLine∧(a == sysModules)=false∧∃ vs,KV kvs vs∧h.DictOf (cL P w) a vs
 | .dT kvs=>kvs.length≤sizeLine∧(a == sysModules)=false∧∃ xs:List (List bT × Addr × Value),
   Paired (fun (p:List bT × V) (q:List bT × Addr × Value)=>p.1=q.1∧H q.2.1=some (.tup (p.1.map kV))∧RelV p.2 q.2.2) kvs xs∧
   ∃ o es ep,h.get? a=some o∧o.ExactDict∧o.data = .dict es ep∧es.toList=xs.map (entryOfKey (tupleKind (cL P w)))∧(xs.map (·.1)).Nodup
 | .set S n=>h.SetOf (intKind P w) a S n
 | .ins C dx fs=>H dx=some (.own a)∧fs.length≤1000∧dx≠a∧h.get? a=some (PySem.W.instObj C dx)∧
   ∃ mA,h.Ns1 dx mA∧(∀ f,RelO (fs.lookup f) (mA f))∧PySem.Within mA (fs.map (·.1))
 | .own _=>∃ o,h.get? a=some o
 | .xd fs=>∃ mA,h.Ns1 a mA∧∀ f,RelO (fs.lookup f) (mA f)
 | .rng lo hi=>∃ t u v,h.get? a=some { cls:=.type "range", data:=.fields #[.int lo t,.int hi u,.int 1 v] }
 | .frz o u=>h.get? a=some o∧ObjOk H h a u
 | .tbl ps=>h.get? a=some { cls:=.none,data:=.fields ps }
 | .met f x=>h.get? a=some (PySem.W.methodObj (.ref f) (.ref x))
 | .ext φ=>φ h∧(∃ o,h.get? a=some o)∧∀ h1 h2:Heap,φ h1→(∀ o,h1.get? a=some o→h2.get? a=some o)→φ h2
def HOk(H:Hp)(h:Heap):Prop:=∀ a o,H a=some o→ObjOk P w H h a o
end
section
variable{P:Program}{w:World}{H H':Hp}{h h':Heap}{a:Addr}{o:HO}
theorem ObjOk.lt(x:ObjOk P w H h a o):a<h.objs.size:=by
 cases o with
 | lst xs=>obtain⟨_,_,_,_,e⟩:=x; exact Heap.lt_size e
 | tup xs=>obtain⟨_,_,_,p⟩:=x; exact p.lt
 | dK kvs=>obtain⟨_,_,_,_,o,_,_,e,_⟩:=x; exact Heap.lt_size e
 | dT kvs=>obtain⟨_,_,_,_,o,_,_,e,_⟩:=x; exact Heap.lt_size e
 | set S n=>obtain⟨o,_,_,_,e,_⟩:=x; exact Heap.lt_size e
 | ins C dx fs=>obtain⟨_,_,_,e,_⟩:=x; exact Heap.lt_size e
 | own y=>obtain⟨_,e⟩:=x; exact Heap.lt_size e
 | xd fs=>obtain⟨_,⟨_,_,_,e,_⟩,_⟩:=x; exact Heap.lt_size e
 | rng lo hi=>obtain⟨_,_,_,e⟩:=x; exact Heap.lt_size e
 | frz ob u=>obtain⟨e,_⟩:=x; exact Heap.lt_size e
 | tbl ps=>exact Heap.lt_size (show h.get? a=some _ from x)
 | met f y=>exact Heap.lt_size (show h.get? a=some _ from x)
 | ext φ=>obtain⟨_,⟨_,e⟩,_⟩:=x; exact Heap.lt_size e
theorem Paired.mapP{α β : Type}{F G:α→β→Prop}:∀ {l₁:List α} {l₂:List β},Paired F l₁ l₂→(∀ a b,F a b→G a b)→Paired G l₁ l₂
 | _,_,.nil,_=>.nil
 | _,_,.cons r t,f=>.cons (f _ _ r) (Paired.mapP t f)
theorem Paired.imp'{α β : Type}{F G:α→β→Prop}(f:∀ a b,F a b→G a b){l₁:List α}{l₂:List β}(r:Paired F l₁ l₂):Paired G l₁ l₂:=Paired.mapP r f
theorem ObjOk.stay(x:ObjOk P w H h a o)(k:∀ b u,(b=a∨H b=some (.own a))→h.get? b=some u→h'.get? b=some u)
  (ho:∀ b,H b=some (.own a)→H' b=some (.own a)) (ht:∀ b xs,H b=some (.tup xs)→H' b=some (.tup xs)):ObjOk P w H' h' a o:=by
 induction o with
 | lst xs=>obtain⟨z,its,n,r,e⟩:=x; exact⟨z,its,n,r,k _ _ (.inl rfl) e⟩
 | tup xs=>obtain⟨z,its,r,ob,e,c⟩:=x; exact⟨z,its,r,ob,k _ _ (.inl rfl) e,c⟩
 | dK kvs=>obtain⟨z,y,vs,r,ob,es,ep,e,c⟩:=x; exact⟨z,y,vs,r,ob,es,ep,k _ _ (.inl rfl) e,c⟩
 | dT kvs=>
  obtain⟨z,y,xs,r,ob,es,ep,e,c⟩:=x
  exact⟨z,y,xs,Paired.mapP r fun p q z=>⟨z.1,ht _ _ z.2.1,z.2.2⟩,ob,es,ep,k _ _ (.inl rfl) e,c⟩
 | set S n=>obtain⟨ob,es,ep,t,e,c⟩:=x; exact⟨ob,es,ep,t,k _ _ (.inl rfl) e,c⟩
 | ins C dx fs=>
  obtain⟨d,z,ne,e,mA,⟨od,es,ep,e2,c⟩,r⟩:=x
  exact⟨ho _ d,z,ne,k _ _ (.inl rfl) e,mA,⟨od,es,ep,k _ _ (.inr d) e2,c⟩,r⟩
 | own y=>obtain⟨ob,e⟩:=x; exact⟨ob,k _ _ (.inl rfl) e⟩
 | xd fs=>obtain⟨mA,⟨od,es,ep,e,c⟩,r⟩:=x; exact⟨mA,⟨od,es,ep,k _ _ (.inl rfl) e,c⟩,r⟩
 | rng lo hi=>obtain⟨t,u,v,e⟩:=x; exact⟨t,u,v,k _ _ (.inl rfl) e⟩
 | frz ob u ih=>obtain⟨e,q⟩:=x; exact⟨k _ _ (.inl rfl) e,ih q⟩
 | tbl ps=>
  have e:h.get? a=some { cls:=.none,data:=.fields ps }:=x
  show h'.get? a=some { cls:=.none,data:=.fields ps }
  exact k a _ (.inl rfl) e
 | met f y=>
  have e:h.get? a=some (PySem.W.methodObj (.ref f) (.ref y)):=x
  show h'.get? a=some (PySem.W.methodObj (.ref f) (.ref y))
  exact k a _ (.inl rfl) e
 | ext φ=>obtain⟨p,⟨o,e⟩,st⟩:=x; exact⟨st _ _ p fun o q=>k _ _ (.inl rfl) q,⟨o,k _ _ (.inl rfl) e⟩,st⟩
theorem HOk.lt(x:HOk P w H h)(e:H a=some o):a<h.objs.size:=(x a o e).lt
theorem HOk.fresh(x:HOk P w H h)(e:h.objs.size≤a):H a=none:=by
 cases q:H a with
 | none=>rfl
 | some u=>exact absurd (Nat.lt_of_lt_of_le (x.lt q) e) (Nat.lt_irrefl _)
theorem HOk.kept(x:HOk P w H h)(k:∀ b u,h.get? b=some u→h'.get? b=some u):HOk P w H h':=fun a o e=>
 (x a o e).stay (fun b u _ q=>k b u q) (fun _ q=>q) fun _ _ q=>q
theorem HOk.laid(x:HOk P w H h)(k:∀ b u,h.get? b=some u→h'.get? b=some u)(hp:h.objs.size≤a)(new:ObjOk P w (upd H a o) h' a o):HOk P w (upd H a o) h':=fun b u e=>by
 have hn:=x.fresh hp
 by_cases hb:b=a
 ·subst hb; rw[ai]at e; cases e; exact new
 ·rw[aA hb]at e
  exact(x b u e).stay (fun c v _ q=>k c v q) (fun c q=>by rw[aA (aZ q hn)]; exact q) fun c xs q=>by rw[aA (aZ q hn)]; exact q
end
def Rd(H:Hp)(a:Addr)(u:HO):Prop:=H a=some u∨∃ o,H a=some (.frz o u)
theorem Rd.ok{P:Program}{w:World}{H:Hp}{h:Heap}{a:Addr}{u:HO}(r:Rd H a u)(x:HOk P w H h):ObjOk P w H h a u:=by
 rcases r with r | ⟨o,r⟩
 ·exact x a u r
 ·obtain⟨_,q⟩:=x a _ r
  exact q
def wz:Option HO→Prop
 | some (.lst _)=>True
 | some (.dK _)=>True
 | some (.dT _)=>True
 | some (.set _ _)=>True
 | some (.ins _ _ _)=>True
 | some (.ext _)=>True
 | _=>False
section
variable{P:Program}{w:World}{H:Hp}{h h':Heap}{x e:Addr}{o':HO}
theorem HOk.write(ok:HOk P w H h)(mu:wz (H x))(he:e=x∨H e=some (.own x))(k:∀ b u,b≠e→h.get? b=some u→h'.get? b=some u)(heo:∃ u,h'.get? e=some u)
  (new:ObjOk P w (upd H x o') h' x o'):HOk P w (upd H x o') h':=fun b u q=>by
 have nown:∀ c y,H c=some (.own y)→c≠x:=fun c y r z=>by subst z; rw[r]at mu; exact mu
 have ntup:∀ c xs,H c=some (.tup xs)→c≠x:=fun c xs r z=>by subst z; rw[r]at mu; exact mu
 by_cases hb:b=x
 ·subst hb; rw[ai]at q; cases q; exact new
 ·rw[aA hb]at q
  by_cases hbe:b=e
  ·have q':H b=some (.own x):=by
    rcases he with z | z
    ·exact absurd (hbe.trans z) hb
    ·rw[hbe]; exact z
   rw[q]at q'; cases q'
   obtain⟨v,hv⟩:=heo
   exact⟨v,by rw[hbe]; exact hv⟩
  ·refine(ok b u q).stay (fun c v hc r=>k c v ?_ r) (fun c r=>by rw[aA (nown c b r)]; exact r) fun c xs r=>by rw[aA (ntup c xs r)]; exact r
   rcases hc with rfl | hc
   ·exact hbe
   ·rintro rfl
    rcases he with z | z
    ·exact nown c b hc z
    ·rw[hc]at z; cases z; exact hb rfl
end
structure Un (fs ex:List Addr) (H H':Hp) (h h':Heap):Prop where
 keep:∀ b o,h.get? b=some o→H b=none→b∉fs→b∉ex→h'.get? b=some o
 slot:∀ b o,h.get? b=some o→H b=none→b∈fs→b∉ex→∃ sl,h'.get? b=some { o with slots:=sl }
 free:∀ b o,h.get? b=some o→H b=none→b∉ex→H' b=none
 there:∀ b o,h.get? b=some o→b∉ex→∃ o',h'.get? b=some o'
 tups:∀ b xs,H b=some (.tup xs)→H' b=some (.tup xs)
 frzs:∀ b o u,H b=some (.frz o u)→H' b=some (.frz o u)
 tbls:∀ b ps,H b=some (.tbl ps)→∃ more,H' b=some (.tbl (ps++more))
section
variable{fs fs' ex ex':List Addr}{H H1 H2:Hp}{h h1 h2 h':Heap}{a x e:Addr}{o:HO}
theorem Un.any(u:Un fs ex H H1 h h1){b:Addr}{ob:Obj}(q:h.get? b=some ob)(n:H b=none)(hx:b∉ex):∃ sl,h1.get? b=some { ob with slots:=sl }:=by
 by_cases hb:b∈fs
 ·exact u.slot b ob q n hb hx
 ·exact⟨ob.slots,u.keep b ob q n hb hx⟩
theorem Un.kept(k:∀ b u,h.get? b=some u→h'.get? b=some u):Un fs ex H H h h':=
 ⟨fun b ob q _ _ _=>k b ob q,fun b ob q _ _ _=>⟨ob.slots,k b ob q⟩,fun _ _ _ n _=>n,fun b ob q _=>⟨ob,k b ob q⟩,fun _ _ q=>q,fun _ _ _ q=>q,fun _ ps q=>⟨#[],by rw[q]; simp⟩⟩
theorem Un.refl:Un fs ex H H h h:=Un.kept fun _ _ q=>q
theorem Un.laid(k:∀ b u,h.get? b=some u→h'.get? b=some u)(hp:h.objs.size≤a)(hn:H a=none):Un fs ex H (upd H a o) h h' where
 keep:=fun b u q _ _ _=>k b u q
 slot:=fun b u q _ _ _=>⟨u.slots,k b u q⟩
 free:=fun b u q n _=>by rw[aA (Nat.ne_of_lt (Nat.lt_of_lt_of_le (Heap.lt_size q) hp))]; exact n
 there:=fun b u q _=>⟨u,k b u q⟩
 tups:=fun b xs q=>by rw[aA (aZ q hn)]; exact q
 frzs:=fun b u xs q=>by rw[aA (aZ q hn)]; exact q
 tbls:=fun b ps q=>⟨#[],by rw[aA (aZ q hn),q]; simp⟩
theorem Un.write(mu:wz (H x))(he:e=x∨H e=some (.own x))(k:∀ b u,b≠e→h.get? b=some u→h'.get? b=some u)(heo:∃ u,h'.get? e=some u):Un fs ex H (upd H x o) h h':=by
 have hx:∀ b,H b=none→b≠x:=fun b n z=>by subst z; rw[n]at mu; exact mu
 have hb:∀ b,H b=none→b≠e:=fun b n z=>by
  subst z
  rcases he with r | r
  ·exact hx b n r
  ·rw[n]at r; cases r
 have hm:∀ b u,H b=some u→¬ wz (some u)→b≠x:=fun b u q nm z=>by subst z; rw[q]at mu; exact nm mu
 refine⟨fun b u q n _ _=>k b u (hb b n) q,fun b u q n _ _=>⟨u.slots,k b u (hb b n) q⟩,fun b u q n _=>by rw[aA (hx b n)]; exact n,fun b u q _=>?_,
  fun b xs q=>by rw[aA (hm b _ q fun z=>z)]; exact q,fun b u xs q=>by rw[aA (hm b _ q fun z=>z)]; exact q,fun b ps q=>⟨#[],by rw[aA (hm b _ q fun z=>z),q]; simp⟩⟩
 by_cases hbe:b=e
 ·subst hbe; exact heo
 ·exact⟨u,k b u hbe q⟩
end
def zu(h:Heap)(H:Hp):List Addr:=(List.range h.objs.size).filter fun a=>(H a).isSome
def kx(h:Heap)(H:Hp):Heap:=PySem.W.hideAll h (zu h H)
theorem w_(h:Heap)(H:Hp):(kx h H).objs.size=h.objs.size:=PySem.W.hideAll_size _ _
theorem yg{h:Heap}{H:Hp}{b:Addr}{o:Obj}(e:h.get? b=some o)(n:H b=none):(kx h H).get? b=some o:=
 PySem.W.hideAll_get _ e fun hm=>by
  have q:(H b).isSome=true:=(List.mem_filter.mp hm).2
  rw[n]at q; simp at q
theorem zM{h:Heap}{H:Hp}{b:Addr}{o:Obj}(e:(kx h H).get? b=some o):h.get? b=some o∧H b=none:=by
 have e':h.get? b=some o:=PySem.W.of_hideAll (zu h H) e
 refine⟨e',?_⟩
 cases q:H b with
 | none=>rfl
 | some x=>
  have hm:b∈zu h H:=List.mem_filter.mpr ⟨List.mem_range.mpr (Heap.lt_size e'),by simp[q]⟩
  have z:(kx h H).get? b=none:=PySem.W.hideAll_none (zu h H) hm
  rw[z]at e; cases e
def AI(g h:Heap)(L:Addr):List (Addr × Obj):=(List.range h.objs.size).filterMap fun a=>if a=L∨(g.get? a).isSome=true then none else (h.get? a).map fun o=>(a,o)
def bg(g h:Heap)(L d:Addr):List (Addr × Obj):=(AI g h L).filter fun p=>decide (p.1≠d)
end L2
namespace L2
open PySem PySem.Spec PyProof.Rows
structure Mod (K:PySem.W.Frag) (mg:Str→Option Value) (base:Heap):Prop where
 kin:K.In base
 glob:base.Ns mainGlobals mg
 blt:∃ mb,base.Ns builtinsNs mb∧∀ x:Str,x ≠ "__name__" → mb x=bootBuiltins x
 nolimit:base.NoLimit
set_option genInjectivity false in
set_option genSizeOf false in
structure Cx where
 prog:Program
 w:World
 K:PySem.W.Frag
 mg:Str→Option Value
 base:Heap
 A:Around
 N:List Str
 s₀ : Shared
 H₀ : Hp
 env:Env
 outer:List Env
 stack:List Env
 ex:List Addr
 fn:Str→Bool
 calm:Bool
 pn:List (Addr × Obj)
 xe:Value→Shared→Prop
def fe(l:List Env):List Addr:=l.filterMap (·.frame)
abbrev Cx.fs (X:Cx):List Addr:=fe X.outer
def aM(sc:Scope)(x:Str):Prop:=sc.names.lookup x=some .local∨sc.names.lookup x=some .cell∨sc.names.lookup x=some .free
def bH(sc:Scope)(x:Str):Prop:=sc.names.lookup x=some .local∨sc.names.lookup x=some .cell
def CA(env:Env)(h:Heap)(m:Str→Option Value)(x:Str)(u:Value):Prop:=
 (env.kindOf x=some .local∧m x=some u)∨((env.kindOf x=some .cell∨env.kindOf x=some .free)∧∃ c,env.cells.lookup x=some c∧h.IsCell c (some u))
structure Cx.Ok (X:Cx):Prop where
 mod:Mod X.K X.mg X.base
 kind:X.env.scope.kind = .function
 glob:X.env.globals=mainGlobals
 blt:X.env.builtins=builtinsNs
 above:X.s₀.heap.objs.size≤X.env.locals
 inj:∀ x y c,X.env.cells.lookup x=some c→X.env.cells.lookup y=some c→x=y
 has:∀ x,(X.env.kindOf x=some .cell∨X.env.kindOf x=some .free)→∃ c,X.env.cells.lookup x=some c
 cab:∀ x c,X.fn x=true→X.env.cells.lookup x=some c→X.s₀.heap.objs.size≤c
 hd:X.calm=true→X.A.handled=none
 frames:X.A.frames=some X.stack
 stk:X.stack=X.outer∨(X.stack=X.env::X.outer∧X.env.frame=some X.env.locals)
 exf:∀ b∈X.ex,b≠X.env.locals∧∀ x c,X.env.cells.lookup x=some c→c≠b
 bs:∀ b o,X.base.get? b=some o→X.s₀.heap.get? b=some o∧X.H₀ b=none
 bsz:X.base.objs.size≤X.s₀.heap.objs.size
 noex:∀ b o,X.base.get? b=some o→b∉X.ex
 exfs:∀ b∈X.ex,b∉X.fs
 funs:X.s₀.heap.FunFrames X.base X.outer
 frf:∀ b∈X.fs,X.H₀ b=none
structure Inv (X:Cx) (pins:List (Addr × Obj)) (σ : List (Option V)) (H:Hp) (s:Shared):Prop where
 ok:X.Ok
 os:s.os=X.s₀.os
 bare:AllBare s.gens
 base:Un X.fs X.ex X.H₀ H X.s₀.heap s.heap
 loc:∃ m,s.heap.Ns X.env.locals m∧∀ (i:Nat) (x:Str) (v:V),X.N[i]? = some x→σ[i]? = some (some v)→aM X.env.scope x→∃ u,RelV v u∧CA X.env s.heap m x u
 cell:∀ x c,X.env.cells.lookup x=some c→∃ v,s.heap.IsCell c v
 free:H X.env.locals=none
 freeC:∀ x c,X.env.cells.lookup x=some c→H c=none
 pin:∀ p∈X.pn++pins,s.heap.get? p.1=some p.2∧H p.1=none∧p.1≠X.env.locals∧p.1∉X.fs∧∀ v,p.2.data ≠ .cell v
 hok:HOk X.prog X.w H s.heap
 len:σ.length=X.N.length
section
variable{X:Cx}{pins:List (Addr × Obj)}{σ : List (Option V)}{H H':Hp}{s:Shared}{h':Heap}
theorem Cx.Ok.nofr(ok:X.Ok){b:Addr}{o:Obj}(e:X.base.get? b=some o):b∉X.fs:=fun hb=>by
 have:=(ok.funs.mem hb).1
 rw[e]at this; cases this
theorem Inv.bs(I:Inv X pins σ H s):∀ b o,X.base.get? b=some o→s.heap.get? b=some o∧H b=none:=fun b o e=>
 ⟨I.base.keep b o (I.ok.bs b o e).1 (I.ok.bs b o e).2 (I.ok.nofr e) (I.ok.noex b o e),I.base.free b o (I.ok.bs b o e).1 (I.ok.bs b o e).2 (I.ok.noex b o e)⟩
theorem Inv.bk(I:Inv X pins σ H s):∀ b o,X.base.get? b=some o→s.heap.get? b=some o:=fun b o e=>(I.bs b o e).1
theorem Inv.mod(I:Inv X pins σ H s):Mod X.K X.mg X.base:=I.ok.mod
theorem Inv.kIn(I:Inv X pins σ H s):X.K.In s.heap:=I.ok.mod.kin.keeps I.bk
theorem Inv.lt(I:Inv X pins σ H s):X.env.locals<s.heap.objs.size:=let ⟨_,hn,_⟩:=I.loc; hn.lt
theorem Inv.sz(I:Inv X pins σ H s):X.s₀.heap.objs.size≤s.heap.objs.size:=Nat.le_trans I.ok.above (Nat.le_of_lt I.lt)
theorem Inv.nofs(I:Inv X pins σ H s){a:Addr}(h:s.heap.objs.size≤a):a∉X.fs:=fun hb=>by
 obtain⟨_,o,ho,_⟩:=I.ok.funs.mem hb
 exact absurd (Nat.lt_of_lt_of_le (Heap.lt_size ho) (Nat.le_trans I.sz h)) (Nat.lt_irrefl _)
theorem Inv.cne(I:Inv X pins σ H s):∀ x c,X.env.cells.lookup x=some c→c≠X.env.locals:=fun x c e z=>by
 obtain⟨v,o,ho,hd⟩:=I.cell x c e
 obtain⟨m,⟨o',es,ep,ho',hd',_⟩,_⟩:=I.loc
 rw[z,ho']at ho; cases ho; rw[hd']at hd; cases hd
theorem Inv.funs(I:Inv X pins σ H s):s.heap.FunFrames X.base X.outer:=by
 have all:∀ (l:List Env),(∀ b∈fe l,b∈X.fs)→X.s₀.heap.FunFrames X.base l→s.heap.FunFrames X.base l:=by
  intro l
  induction l with
  | nil=>intro _ _; trivial
  | cons env r ih=>
   intro hs hl
   obtain⟨hk,⟨L,o,hf,hn,ho,hd⟩,hr⟩:=hl
   have hL:L∈X.fs:=hs L (by unfold fe; rw[List.filterMap_cons,hf]; exact List.mem_cons_self)
   obtain⟨sl,e⟩:=I.base.slot L o ho (I.ok.frf L hL) hL fun z=>I.ok.exfs L z hL
   exact⟨hk,⟨L,_,hf,hn,e,hd⟩,ih (fun b hb=>hs b (by unfold fe; rw[List.filterMap_cons,hf]; exact List.mem_cons_of_mem _ hb)) hr⟩
 exact all X.outer (fun _ hb=>hb) I.ok.funs
theorem Inv.stack(I:Inv X pins σ H s):s.heap.FunFrames X.base X.stack:=by
 rcases I.ok.stk with e | ⟨e,hf⟩
 ·rw[e]; exact I.funs
 ·rw[e]
  obtain⟨m,hn,_⟩:=I.loc
  refine .cons (by rw[I.ok.kind]; decide) hf hn ?_ I.funs
  exact Heap.get?_none_of_le (Nat.le_trans I.ok.bsz I.ok.above)
theorem Inv.stkSub(I:Inv X pins σ H s):∀ b∈fe X.stack,b∈X.env.locals::X.fs:=fun b hb=>by
 rcases I.ok.stk with e | ⟨e,hf⟩
 ·rw[e]at hb; exact List.mem_cons_of_mem _ hb
 ·rw[e]at hb
  unfold fe at hb
  rw[List.filterMap_cons,hf]at hb
  exact hb
theorem Inv.stkFree(I:Inv X pins σ H s):∀ b∈fe X.stack,H b=none:=fun b hb=>by
 rcases List.mem_cons.mp (I.stkSub b hb) with e | hb
 ·rw[e]; exact I.free
 ·obtain⟨_,o,ho,_⟩:=I.ok.funs.mem hb
  exact I.base.free b o ho (I.ok.frf b hb) fun z=>I.ok.exfs b z hb
theorem Inv.step{g':Array GenState}{t':Nat}{d':Drawn}{ch:List Addr}(I:Inv X pins σ H s)
  (hch:∀ b∈ch,(b∈X.ex∨X.s₀.heap.objs.size≤b)∧b≠X.env.locals∧(∀ x c,X.env.cells.lookup x=some c→c≠b)∧∀ p∈X.pn++pins,p.1≠b)
  (keep:∀ b o,b≠X.env.locals→b∉X.fs→b∉ch→s.heap.get? b=some o→H b=none→h'.get? b=some o)
  (slot:∀ b o,b≠X.env.locals→b∈X.fs→b∉ch→s.heap.get? b=some o→H b=none→∃ sl,h'.get? b=some { o with slots:=sl }) (free:∀ b o,b∉ch→s.heap.get? b=some o→H b=none→H' b=none)
  (there:∀ b o,b∉ch→s.heap.get? b=some o→∃ o',h'.get? b=some o')
  (tups:∀ b xs,H b=some (.tup xs)→H' b=some (.tup xs)) (frzs:∀ b o u,H b=some (.frz o u)→H' b=some (.frz o u)) (tbls:∀ b ps,H b=some (.tbl ps)→∃ more,H' b=some (.tbl (ps++more)))
  (ns:∀ m,s.heap.Ns X.env.locals m→h'.Ns X.env.locals m) (hok:HOk X.prog X.w H' h') (hg:AllBare g') :
  Inv X pins σ H' { s with heap:=h',gens:=g',drawn:=d',toks:=t' }:=by
 have neL:∀ b o,X.s₀.heap.get? b=some o→b≠X.env.locals:=fun b o e=>Nat.ne_of_lt (Nat.lt_of_lt_of_le (Heap.lt_size e) I.ok.above)
 have neC:∀ b o,X.s₀.heap.get? b=some o→b∉X.ex→b∉ch:=fun b o e hx hb=>by
  rcases(hch b hb).1 with z | z
  ·exact hx z
  ·exact absurd (Nat.lt_of_lt_of_le (Heap.lt_size e) z) (Nat.lt_irrefl _)
 have cellK:∀ x c,X.env.cells.lookup x=some c→∀ v,s.heap.IsCell c v→h'.IsCell c v:=fun x c e v ⟨o,ho,hd⟩=>by
  have nch:c∉ch:=fun z=>(hch c z).2.2.1 x c e rfl
  by_cases hc:c∈X.fs
  ·obtain⟨sl,q⟩:=slot c o (I.cne x c e) hc nch ho (I.freeC x c e)
   exact⟨_,q,hd⟩
  ·exact⟨o,keep c o (I.cne x c e) hc nch ho (I.freeC x c e),hd⟩
 refine⟨I.ok,I.os,hg,⟨fun b o e n hb hx=>?_,fun b o e n hb hx=>?_,fun b o e n hx=>?_,fun b o e hx=>?_,fun b xs e=>tups b xs (I.base.tups b xs e),fun b o xs e=>frzs b o xs (I.base.frzs b o xs e),fun b ps e=>?_⟩,?_,fun x c e=>?_,?_,fun x c e=>?_,fun p hp=>?_,hok,I.len⟩
 ·exact keep b o (neL b o e) hb (neC b o e hx) (I.base.keep b o e n hb hx) (I.base.free b o e n hx)
 ·obtain⟨sl,e1⟩:=I.base.slot b o e n hb hx
  obtain⟨sl',e2⟩:=slot b _ (neL b o e) hb (neC b o e hx) e1 (I.base.free b o e n hx)
  exact⟨sl',e2⟩
 ·obtain⟨o',e1⟩:=I.base.there b o e hx
  exact free b o' (neC b o e hx) e1 (I.base.free b o e n hx)
 ·obtain⟨o',e1⟩:=I.base.there b o e hx
  exact there b o' (neC b o e hx) e1
 ·obtain⟨m1,e1⟩:=I.base.tbls b ps e
  obtain⟨m2,e2⟩:=tbls b _ e1
  exact⟨m1++m2,by rw[e2,Array.append_assoc]⟩
 ·obtain⟨m,hn,hl⟩:=I.loc
  refine⟨m,ns m hn,fun i x v e1 e2 e3=>?_⟩
  obtain⟨u,r,l⟩:=hl i x v e1 e2 e3
  refine⟨u,r,?_⟩
  rcases l with l | ⟨k,c,e,z⟩
  ·exact .inl l
  ·exact .inr ⟨k,c,e,cellK x c e _ z⟩
 ·obtain⟨v,z⟩:=I.cell x c e
  exact⟨v,cellK x c e v z⟩
 ·obtain⟨m,⟨o,_,_,ho,_⟩,_⟩:=I.loc
  exact free _ o (fun z=>(hch _ z).2.1 rfl) ho I.free
 ·obtain⟨v,o,ho,hd⟩:=I.cell x c e
  exact free c o (fun z=>(hch c z).2.2.1 x c e rfl) ho (I.freeC x c e)
 ·obtain⟨e,n,ne,nf,d⟩:=I.pin p hp
  have nch:p.1∉ch:=fun z=>(hch p.1 z).2.2.2 p hp rfl
  exact⟨keep p.1 p.2 ne nf nch e n,free p.1 p.2 nch e n,ne,nf,d⟩
theorem Inv.un{t':Nat}(I:Inv X pins σ H s)(u:Un X.fs [] H H' s.heap h')(hok:HOk X.prog X.w H' h'):Inv X pins σ H' { s with heap:=h',toks:=t' }:=by
 obtain⟨m,⟨o,es,ep,ho,r⟩,_⟩:=id I.loc
 obtain⟨sl,hL⟩:=u.any ho I.free (by simp)
 exact I.step (g':=s.gens) (d':=s.drawn) (ch:=[]) (fun _ z=>nomatch z) (fun b o _ hb _ e n=>u.keep b o e n hb (by simp)) (fun b o _ hb _ e n=>u.slot b o e n hb (by simp)) (fun b o _ e n=>u.free b o e n (by simp)) (fun b o _ e=>u.there b o e (by simp)) u.tups u.frzs u.tbls (fun m' hm=>by
  obtain⟨o',es',ep',ho',r'⟩:=hm
  rw[ho]at ho'; cases ho'
  exact⟨_,es',ep',hL,r'⟩) hok I.bare
theorem Inv.call{g':Array GenState}{t':Nat}{d':Drawn}{ch:List Addr}(I:Inv X pins σ H s)(u:Un (fe X.stack) ch H H' s.heap h')(hok:HOk X.prog X.w H' h')(hg:AllBare g')
  (hch:∀ b∈ch,(b∈X.ex∨X.s₀.heap.objs.size≤b)∧b≠X.env.locals∧(∀ x c,X.env.cells.lookup x=some c→c≠b)∧∀ p∈X.pn++pins,p.1≠b) :
  Inv X pins σ H' { s with heap:=h',gens:=g',drawn:=d',toks:=t' }:=by
 obtain⟨m,⟨o,es,ep,ho,r⟩,_⟩:=id I.loc
 obtain⟨sl,hL⟩:=u.any ho I.free fun z=>(hch _ z).2.1 rfl
 exact I.step (ch:=ch) hch (fun b o hL hb hc e n=>u.keep b o e n (fun z=>(List.mem_cons.mp (I.stkSub b z)).elim hL hb) hc) (fun b o _ _ hc e n=>u.any e n hc) (fun b o hc e n=>u.free b o e n hc) (fun b o hc e=>u.there b o e hc) u.tups u.frzs u.tbls (fun m' hm=>by
  obtain⟨o',es',ep',ho',r'⟩:=hm
  rw[ho]at ho'; cases ho'
  exact⟨_,es',ep',hL,r'⟩) hok hg
theorem Inv.turned{t':Nat}{it:Addr}(I:Inv X pins σ H s)(k:∀ b o,b≠it→s.heap.get? b=some o→h'.get? b=some o)(hn:H it=none)(hL:it≠X.env.locals)
  (h1:it∈X.ex∨X.s₀.heap.objs.size≤it) (h2:∀ x c,X.env.cells.lookup x=some c→c≠it) (h3:∀ p∈X.pn++pins,p.1≠it):Inv X pins σ H { s with heap:=h',toks:=t' }:=by
 have nit:∀ b u,H b=some u→b≠it:=fun b u e z=>by rw[z,hn]at e; cases e
 refine I.step (g':=s.gens) (d':=s.drawn) (ch:=[it]) (fun b hb=>?_) (fun b o _ _ hc e _=>k b o (fun z=>hc (by simp[z])) e) (fun b o _ _ hc e _=>⟨o.slots,k b o (fun z=>hc (by simp[z])) e⟩) (fun _ _ _ _ n=>n)
  (fun b o hc e=>⟨o,k b o (fun z=>hc (by simp[z])) e⟩) (fun _ _ e=>e) (fun _ _ _ e=>e) (fun b ps e=>⟨#[],by rw[e]; simp⟩) (fun m hm=>?_) (fun b u e=>?_) I.bare
 ·have e:b=it:=by simpa using hb
  subst e
  exact⟨h1,hL,h2,h3⟩
 ·obtain⟨o,es,ep,ho,r⟩:=hm
  exact⟨o,es,ep,k _ o (Ne.symm hL) ho,r⟩
 ·refine(I.hok b u e).stay (fun c v hc q=>k c v ?_ q) (fun _ q=>q) fun _ _ q=>q
  rcases hc with z | z
  ·rw[z]; exact nit b u e
  ·exact nit c _ z
theorem Inv.tok(I:Inv X pins σ H s)(t:Nat):Inv X pins σ H { s with toks:=t }:=I.un (h':=s.heap) (t':=t) Un.refl I.hok
theorem Inv.kept{t':Nat}(I:Inv X pins σ H s)(k:∀ b u,s.heap.get? b=some u→h'.get? b=some u):Inv X pins σ H { s with heap:=h',toks:=t' }:=I.un (Un.kept k) (I.hok.kept k)
theorem Inv.laid{a:Addr}{o:HO}{t':Nat}(I:Inv X pins σ H s)(k:∀ b u,s.heap.get? b=some u→h'.get? b=some u)(hp:s.heap.objs.size≤a)(new:ObjOk X.prog X.w (upd H a o) h' a o) :
  Inv X pins σ (upd H a o) { s with heap:=h',toks:=t' }:=I.un (Un.laid k hp (I.hok.fresh hp)) (I.hok.laid k hp new)
theorem Inv.write{x e:Addr}{o:HO}{t':Nat}(I:Inv X pins σ H s)(mu:wz (H x))(he:e=x∨H e=some (.own x))(k:∀ b u,b≠e→s.heap.get? b=some u→h'.get? b=some u)(heo:∃ u,h'.get? e=some u)
  (new:ObjOk X.prog X.w (upd H x o) h' x o):Inv X pins σ (upd H x o) { s with heap:=h',toks:=t' }:=I.un (Un.write mu he k heo) (I.hok.write mu he k heo new)
theorem Inv.weak{σ':List (Option V)}(I:Inv X pins σ H s)(hl:σ'.length=σ.length)(w:∀ (i:Nat) v,σ'[i]? = some (some v)→σ[i]? = some (some v)):Inv X pins σ' H s:=
 ⟨I.ok,I.os,I.bare,I.base,let ⟨m,hn,hl'⟩:=I.loc; ⟨m,hn,fun i x v e1 e2 e3=>hl' i x v e1 (w i v e2) e3⟩,I.cell,I.free,I.freeC,I.pin,I.hok,hl.trans I.len⟩
theorem Inv.pins_of{pins':List (Addr × Obj)}(I:Inv X pins σ H s)(h:∀ p∈pins',s.heap.get? p.1=some p.2∧H p.1=none∧p.1≠X.env.locals∧p.1∉X.fs∧∀ v,p.2.data ≠ .cell v):Inv X pins' σ H s:=
 ⟨I.ok,I.os,I.bare,I.base,I.loc,I.cell,I.free,I.freeC,fun p hp=>(List.mem_append.mp hp).elim (fun z=>I.pin p (List.mem_append_left _ z)) (h p),I.hok,I.len⟩
theorem ng{N:List Str}(hN:N.Nodup){i j:Nat}{x:Str}(a:N[i]? = some x)(b:N[j]? = some x):i=j:=by
 obtain⟨h1,e1⟩:=List.getElem?_eq_some_iff.mp a
 obtain⟨h2,e2⟩:=List.getElem?_eq_some_iff.mp b
 exact(List.getElem_inj hN).mp (e1.trans e2.symm)
theorem pe{M:Model}{A:Around}{E:Value→Shared→Prop}{i:Nat}{x:Str}{v:V}{u:Value}{Q:Unit→Shared→Prop}(I:Inv X pins σ H s)(hN:X.N.Nodup)(hi:X.N[i]? = some x)(hx:bH X.env.scope x)(r:RelV v u)
  (h:∀ s',Inv X pins (σ.set i (some v)) H s'→(∃ a,Heap.SameBut a s.heap s'.heap∧(a=X.env.locals∨X.env.cells.lookup x=some a))→Q () s') (hf:X.fn x=true∨X.env.scope.names.lookup x=some .local:=by first | exact .inl rfl | exact .inr rfl | assumption):wpAny M A (storeName X.env x u) Q E s:=by
 obtain⟨m,hn,hl⟩:=id I.loc
 have hcls:(X.env.scope.kind == .class||(X.env.scope.kind == .module&&X.env.locals != X.env.globals))=false:=by rw[I.ok.kind]; rfl
 have hiσ : i<σ.length:=by rw[I.len]; exact(List.getElem?_eq_some_iff.mp hi).1
 have cne:=I.cne
 have tracked:∀ {a:Addr} {h':Heap},(∃ o,s.heap.get? a=some o∧H a=none)→Heap.SameBut a s.heap h'→HOk X.prog X.w H h':=fun {a h'} ha hs b ob e=>by
  obtain⟨_,_,hfree⟩:=ha
  refine(I.hok b ob e).stay (fun c w' hc q=>(hs.2 c ?_).trans q) (fun _ q=>q) fun _ _ q=>q
  rintro rfl
  rcases hc with rfl | hc
  ·rw[hfree]at e; cases e
  ·rw[hfree]at hc; cases hc
 rcases hx with hk | hk
 ·refine wpAny_storeName_local hk hn (fun h' hn' hs=>?_) hcls
  obtain⟨oL,_,_,hoL,_⟩:=id hn
  refine h _ ⟨I.ok,I.os,I.bare,⟨fun b o e n hb hx=>?_,fun b o e n hb hx=>?_,I.base.free,fun b o e hx=>?_,I.base.tups,I.base.frzs,I.base.tbls⟩,⟨_,hn',fun j y v' e1 e2 e3=>?_⟩,fun y c e=>?_,I.free,I.freeC,fun p hp=>?_,tracked ⟨oL,hoL,I.free⟩ hs,by simpa using I.len⟩ ⟨_,hs,.inl rfl⟩
  ·exact(hs.2 b (Nat.ne_of_lt (Nat.lt_of_lt_of_le (Heap.lt_size e) I.ok.above))).trans (I.base.keep b o e n hb hx)
  ·obtain⟨sl,e1⟩:=I.base.slot b o e n hb hx
   exact⟨sl,(hs.2 b (Nat.ne_of_lt (Nat.lt_of_lt_of_le (Heap.lt_size e) I.ok.above))).trans e1⟩
  ·obtain⟨o',e1⟩:=I.base.there b o e hx
   exact⟨o',(hs.2 b (Nat.ne_of_lt (Nat.lt_of_lt_of_le (Heap.lt_size e) I.ok.above))).trans e1⟩
  ·by_cases hj:j=i
   ·subst hj
    rw[hi]at e1; cases e1
    rw[List.getElem?_set_self hiσ]at e2
    cases e2
    exact⟨u,r,.inl ⟨hk,by simp⟩⟩
   ·rw[List.getElem?_set_ne (Ne.symm hj)]at e2
    obtain⟨u',r',q⟩:=hl j y v' e1 e2 e3
    refine⟨u',r',?_⟩
    rcases q with ⟨k,e⟩ | ⟨k,c,e,z⟩
    ·refine .inl ⟨k,?_⟩
     have:y≠x:=fun e=>hj (ng hN e1 (e ▸ hi))
     simp[this,e]
    ·exact .inr ⟨k,c,e,z.sameBut hs (cne y c e)⟩
  ·obtain⟨w',z⟩:=I.cell y c e
   exact⟨w',z.sameBut hs (cne y c e)⟩
  ·obtain⟨e,n,ne,nf,d⟩:=I.pin p hp
   exact⟨(hs.2 p.1 ne).trans e,n,ne,nf,d⟩
 ·have hfn:X.fn x=true:=by
   rcases hf with z | z
   ·exact z
   ·rw[z]at hk; cases hk
  obtain⟨c,hc⟩:=I.ok.has x (.inl hk)
  obtain⟨w',z⟩:=I.cell x c hc
  refine wpAny_storeName_cell I.ok.kind hk hc z (fun h' hc' hs=>?_)
  obtain⟨oc,hoc,hocd⟩:=id z
  refine h { s with heap:=h' } ⟨I.ok,I.os,I.bare,⟨fun b o e n hb hx=>?_,fun b o e n hb hx=>?_,I.base.free,fun b o e hx=>?_,I.base.tups,I.base.frzs,I.base.tbls⟩,⟨m,hn.sameBut hs (Ne.symm (cne x c hc)),fun j y v' e1 e2 e3=>?_⟩,fun y c' e=>?_,I.free,I.freeC,fun p hp=>?_,tracked ⟨oc,hoc,I.freeC x c hc⟩ hs,by simpa using I.len⟩ ⟨c,hs,.inr hc⟩
  ·exact(hs.2 b (Nat.ne_of_lt (Nat.lt_of_lt_of_le (Heap.lt_size e) (I.ok.cab x c hfn hc)))).trans (I.base.keep b o e n hb hx)
  ·obtain⟨sl,e1⟩:=I.base.slot b o e n hb hx
   exact⟨sl,(hs.2 b (Nat.ne_of_lt (Nat.lt_of_lt_of_le (Heap.lt_size e) (I.ok.cab x c hfn hc)))).trans e1⟩
  ·obtain⟨o',e1⟩:=I.base.there b o e hx
   exact⟨o',(hs.2 b (Nat.ne_of_lt (Nat.lt_of_lt_of_le (Heap.lt_size e) (I.ok.cab x c hfn hc)))).trans e1⟩
  ·by_cases hj:j=i
   ·subst hj
    rw[hi]at e1; cases e1
    rw[List.getElem?_set_self hiσ]at e2
    cases e2
    exact⟨u,r,.inr ⟨.inl hk,c,hc,hc'⟩⟩
   ·rw[List.getElem?_set_ne (Ne.symm hj)]at e2
    obtain⟨u',r',q⟩:=hl j y v' e1 e2 e3
    refine⟨u',r',?_⟩
    rcases q with q | ⟨k,c',e,z'⟩
    ·exact .inl q
    ·refine .inr ⟨k,c',e,z'.sameBut hs ?_⟩
     rintro rfl
     exact hj (ng hN e1 (I.ok.inj _ _ _ e hc ▸ hi))
  ·by_cases hcc:c'=c
   ·subst hcc; exact⟨_,hc'⟩
   ·obtain⟨w2,z2⟩:=I.cell y c' e
    exact⟨w2,z2.sameBut hs hcc⟩
  ·obtain⟨e,n,ne,nf,d⟩:=I.pin p hp
   refine⟨(hs.2 p.1 ?_).trans e,n,ne,nf,d⟩
   intro q
   rw[q,hoc]at e
   have q':oc=p.2:=Option.some.inj e
   exact d w' (by rw[← q']; exact hocd)
theorem mJ{M:Model}{A:Around}{E:Value→Shared→Prop}{i:Nat}{x:Str}{v:V}{u:Value}{Q:Unit→Shared→Prop}(I:Inv X pins σ H s)(hN:X.N.Nodup)(hi:X.N[i]? = some x)(hx:bH X.env.scope x)(r:RelV v u)
  (h:∀ s',Inv X pins (σ.set i (some v)) H s'→Q () s') (hf:X.fn x=true∨X.env.scope.names.lookup x=some .local:=by first | exact .inl rfl | exact .inr rfl | assumption):wpAny M A (storeName X.env x u) Q E s:=
 pe I hN hi hx r (fun s' I' _=>h s' I') hf
theorem Inv.call'{s':Shared}{ch:List Addr}(I:Inv X pins σ H s)(ho:s'.os=s.os)(u:Un (fe X.stack) ch H H' s.heap s'.heap)(hok:HOk X.prog X.w H' s'.heap)(hg:AllBare s'.gens)
  (hch:∀ b∈ch,(b∈X.ex∨X.s₀.heap.objs.size≤b)∧b≠X.env.locals∧(∀ x c,X.env.cells.lookup x=some c→c≠b)∧∀ p∈X.pn++pins,p.1≠b):Inv X pins σ H' s':=by
 obtain⟨h',g',d',t',o'⟩:=s'
 have e:o'=s.os:=ho
 subst e
 exact I.call (g':=g') (t':=t') (d':=d') u hok hg hch
end
abbrev XK:=Value→Option Addr→Hp→Prop
abbrev St:=List (Option V)
abbrev VK:=V→Hp→Prop
abbrev TE:=St→Hp→VK→Prop
abbrev TT:=St→Hp→(Bool→Hp→Prop)→Prop
abbrev TA:=St→Hp→(List V→Hp→Prop)→Prop
set_option genInjectivity false in
set_option genSizeOf false in
structure dz where
 nx:St→Hp→Prop
 rt:VK
 bk:St→Hp→Prop:=fun _ _=>False
 ct:St→Hp→Prop:=fun _ _=>False
abbrev TS:=dz→St→Hp→Prop
def EP(X:Cx)(pins:List (Addr × Obj))(σ : St)(Q:VK)(u:Value)(s':Shared):Prop:=∃ v H',Inv X pins σ H' s'∧RelV v u∧Q v H'
def TP(X:Cx)(pins:List (Addr × Obj))(σ : St)(Q:Bool→Hp→Prop)(b:Bool)(s':Shared):Prop:=∃ H',Inv X pins σ H' s'∧Q b H'
def AP(X:Cx)(pins:List (Addr × Obj))(σ : St)(Q:List V→Hp→Prop)(us:List Value)(s':Shared):Prop:=∃ vs H',Inv X pins σ H' s'∧Vals vs us∧Q vs H'
def SP(X:Cx)(pins:List (Addr × Obj))(D:dz)(f:Flow)(s':Shared):Prop:=
 match f with
 | .next=>∃ σ' H',Inv X pins σ' H' s'∧D.nx σ' H'
 | .brk=>∃ σ' H',Inv X pins σ' H' s'∧D.bk σ' H'
 | .cont=>∃ σ' H',Inv X pins σ' H' s'∧D.ct σ' H'
 | .ret u=>∃ v σ' H',Inv X pins σ' H' s'∧RelV v u∧D.rt v H'
def PE(X:Cx)(e:Expr)(t:TE):Prop:=
 ∀ (pins:List (Addr × Obj)) (s:Shared) (σ : St) (H:Hp) (Q:VK),Inv X pins σ H s→t σ H Q→wpAny (model X.prog X.w) X.A (eval e X.env) (EP X pins σ Q) X.xe s
def PT(X:Cx)(e:Expr)(t:TT):Prop:=
 ∀ (pins:List (Addr × Obj)) (s:Shared) (σ : St) (H:Hp) (Q:Bool→Hp→Prop),Inv X pins σ H s→t σ H Q→wpAny (model X.prog X.w) X.A (isTrue e X.env (eval e X.env)) (TP X pins σ Q) X.xe s
def PW(X:Cx)(e:Expr)(t:TT):Prop:=
 ∀ (whole:Sem Value) (pins:List (Addr × Obj)) (s:Shared) (σ : St) (H:Hp) (Q:Bool→Hp→Prop),Inv X pins σ H s→t σ H Q→wpAny (model X.prog X.w) X.A (isTrue e X.env whole) (TP X pins σ Q) X.xe s
theorem PW.pt{X:Cx}{e:Expr}{t:TT}(h:PW X e t):PT X e t:=h _
def PA(X:Cx)(es:List Expr)(t:TA):Prop:=
 ∀ (pos:Pos) (pins:List (Addr × Obj)) (s:Shared) (σ : St) (H:Hp) (Q:List V→Hp→Prop),Inv X pins σ H s→t σ H Q→wpAny (model X.prog X.w) X.A (spliced (backTo pos (starEach es X.env))) (AP X pins σ Q) X.xe s
def PS(X:Cx)(st:Stmt)(t:TS):Prop:=
 ∀ (pins:List (Addr × Obj)) (s:Shared) (σ : St) (H:Hp) (D:dz),Inv X pins σ H s→t D σ H→wpAny (model X.prog X.w) X.A (exec st X.env) (SP X pins D) X.xe s
def PSs(X:Cx)(st:List Stmt)(t:TS):Prop:=
 ∀ (pins:List (Addr × Obj)) (s:Shared) (σ : St) (H:Hp) (D:dz),Inv X pins σ H s→t D σ H→wpAny (model X.prog X.w) X.A (execs st X.env) (SP X pins D) X.xe s
theorem bo{α : Type}{t:Sem α}{Q Q':α→Shared→Prop}{M:Model}{A:Around}{E:Value→Shared→Prop}{s:Shared}(h:wpAny M A t Q E s)(hQ:∀ a s,Q a s→Q' a s):wpAny M A t Q' E s:=wpAny_mono h hQ fun _ _ x=>x
end L2
namespace L2
open PySem PySem.Spec PyProof.Rows
section
variable{X:Cx}
def bu(i:Nat):TE:=fun σ H Q=>∃ v,σ[i]? = some (some v)∧Q v H
def tC(v:V):TE:=fun _ H Q=>Q v H
theorem Cq{i:Nat}{x:Str}{pos:Pos}(hN:X.N[i]? = some x)(hv:aM X.env.scope x)(hd:(x == ("__debug__" : Str))=false:=by decide) (hcd:(x == ("__classdict__" : Str))=false:=by decide):PE X (.Name x pos) (bu i):=by
 intro pins s σ H Q I h
 obtain⟨v,e,h⟩:=h
 obtain⟨m,hn,hl⟩:=I.loc
 obtain⟨u,r,l⟩:=hl i x v hN e hv
 have fin:EP X pins σ Q u s:=⟨v,H,I,r,h⟩
 rcases l with ⟨hk,hm⟩ | ⟨hk,c,hc,hcell⟩
 ·exact wpAny_Name (wpAny_loadName_local I.ok.kind hk hn hm fin) hd
 ·rcases hk with hk | hk
  ·exact wpAny_Name (wpAny_loadName_cell I.ok.kind hk hc hcell fin) hd
  ·exact wpAny_Name (wpAny_loadName_free I.ok.kind hk hc hcell fin hcd) hd
theorem aj{i j pos}:PE X (.Constant (.int i) j pos) (tC (.int i)):=fun _ _ _ H _ I h=>wpAny_Constant_int ⟨.int i,H,I.tok _,⟨_,rfl⟩,h⟩
theorem dI{b j pos}:PE X (.Constant (.bool b) j pos) (tC (.bl b)):=fun _ _ _ H _ I h=>Constant_bool ⟨.bl b,H,I,rfl,h⟩
theorem ik{j pos}:PE X (.Constant .none j pos) (tC .non):=fun _ _ _ H _ I h=>Constant_none ⟨.non,H,I,rfl,h⟩
theorem ah{x j pos}:PE X (.Constant (.str x) j pos) (tC (.str x)):=fun _ _ _ H _ I h=>Calls.Constant_str ⟨.str x,H,I.tok _,⟨_,rfl⟩,h⟩
def Gl(X:Cx)(x:Str):Prop:=X.env.kindOf x=some .globalImplicit
theorem kf{E:Value→Shared→Prop}{pins:List (Addr × Obj)}{s:Shared}{σ : St}{H:Hp}{x:Str}{u:Value}{pos:Pos}{Q:Value→Shared→Prop}(I:Inv X pins σ H s)(hg:Gl X x)(hm:X.mg x=some u)(h:Q u s)
  (hd:(x == ("__debug__" : Str))=false:=by decide):wpAny (model X.prog X.w) X.A (eval (.Name x pos) X.env) Q E s:=
 Calls.Name_function_global I.ok.kind hg (Calls.loadGlobal_global (by rw[I.ok.glob]; exact I.mod.glob.keeps I.bk) hm h) hd
theorem lD{E:Value→Shared→Prop}{pins:List (Addr × Obj)}{s:Shared}{σ : St}{H:Hp}{x:Str}{u:Value}{pos:Pos}{Q:Value→Shared→Prop}(I:Inv X pins σ H s)(hg:Gl X x)(hm:X.mg x=none)(hv:bootBuiltins x=some u)(h:Q u s)
  (hn:x ≠ "__name__" := by decide) (hd:(x == ("__debug__" : Str))=false:=by decide):wpAny (model X.prog X.w) X.A (eval (.Name x pos) X.env) Q E s:=by
 obtain⟨mb,h1,h2⟩:=I.mod.blt
 exact Calls.Name_function_global I.ok.kind hg (Calls.loadGlobal_builtin (by rw[I.ok.glob]; exact I.mod.glob.keeps I.bk) hm (by rw[I.ok.blt]; exact h1.keeps I.bk) ((h2 x hn).trans hv) h) hd
theorem mh{x:Str}{v:V}{u:Value}{pos:Pos}(hg:Gl X x)(hm:X.mg x=some u)(r:RelV v u)(hd:(x == ("__debug__" : Str))=false:=by decide):PE X (.Name x pos) (tC v):=
 fun _ _ _ H _ I h=>kf I hg hm ⟨v,H,I,r,h⟩ hd
theorem AH{x:Str}{v:V}{u:Value}{pos:Pos}(hg:Gl X x)(hm:X.mg x=none)(hv:bootBuiltins x=some u)(r:RelV v u)(hn:x ≠ "__name__" := by decide) (hd:(x == ("__debug__" : Str))=false:=by decide):PE X (.Name x pos) (tC v):=
 fun _ _ _ H _ I h=>lD I hg hm hv ⟨v,H,I,r,h⟩ hn hd
variable{a b:Expr}{ta tb:TE}{pos:Pos}
def tB(t:TE):TT:=fun σ H Q=>t σ H fun x H1=>∃ c,x = .bl c∧Q c H1
theorem cy{e:Expr}{t:TE}(h:PE X e t)(he:∀ whole,isTrue e X.env whole=(do let v ← whole; standAt e.pos; holding [v] (truthy v)):=by intro _; rfl):PT X e (tB t):=by
 intro pins s σ H Q I hw
 refine isTrue_plain (bo (h pins s σ H _ I hw) fun v s1 ⟨x,H1,I1,r1,q1⟩=>?_) (he _)
 obtain⟨d,rfl,q⟩:=q1
 cases r1
 exact wpAny_truthy_bool ⟨H1,I1,q⟩
variable{tA tB':TT}{bg:List Expr}
def mV(t u:TT):TT:=fun σ H Q=>t σ H fun c H1=>if c=true then u σ H1 Q else Q false H1
def AZ(t u:TT):TT:=fun σ H Q=>t σ H fun c H1=>if c=true then Q true H1 else u σ H1 Q
def A0(t:TT):TT:=fun σ H Q=>t σ H fun c H1=>Q (!c) H1
theorem fS(ha:PT X a tA):PW X (.BoolOp .And [a] pos) tA:=by
 intro wh pins s σ H Q I h
 refine isTrue_and (bo (ha pins s σ H Q I h) fun c s1 e=>?_)
 cases c with
 | true=>exact isTrue_and_nil e
 | false=>exact e
theorem fo(ha:PT X a tA):PW X (.BoolOp .Or [a] pos) tA:=by
 intro wh pins s σ H Q I h
 refine isTrue_or (bo (ha pins s σ H Q I h) fun c s1 e=>?_)
 cases c with
 | false=>exact isTrue_or_nil e
 | true=>exact e
theorem fk(ha:PT X a tA)(hb:PW X (.BoolOp .And (b::bg) pos) tB'):PW X (.BoolOp .And (a::b::bg) pos) (mV tA tB'):=by
 intro wh pins s σ H Q I h
 refine isTrue_and (bo (ha pins s σ H _ I h) fun c s1 ⟨H1,I1,q1⟩=>?_)
 cases c with
 | true=>exact hb wh pins s1 σ H1 Q I1 q1
 | false=>exact⟨H1,I1,q1⟩
theorem gj(ha:PT X a tA)(hb:PW X (.BoolOp .Or (b::bg) pos) tB'):PW X (.BoolOp .Or (a::b::bg) pos) (AZ tA tB'):=by
 intro wh pins s σ H Q I h
 refine isTrue_or (bo (ha pins s σ H _ I h) fun c s1 ⟨H1,I1,q1⟩=>?_)
 cases c with
 | true=>exact⟨H1,I1,q1⟩
 | false=>exact hb wh pins s1 σ H1 Q I1 q1
theorem cC(ha:PT X a tA):PT X (.UnaryOp .Not a pos) (A0 tA):=by
 intro pins s σ H Q I h
 exact isTrue_not (ha pins s σ H (fun c H1=>Q (!c) H1) I h)
def ze(ta tb:TE):TE:=fun σ H Q=>ta σ H fun x H1=>∃ c,x = .bl c∧if c=true then tb σ H1 Q else Q (.bl false) H1
def zx(ta:TE):TE:=fun σ H Q=>ta σ H fun x H1=>∃ c,x = .bl c∧Q (.bl (!c)) H1
theorem jr{op}{t:TE}(h:PE X a t):PE X (.BoolOp op [a] pos) t:=fun pins s σ H Q I hw=>BoolOp_one (h pins s σ H Q I hw)
theorem fh(ha:PE X a ta)(hb:PE X (.BoolOp .And (b::bg) pos) tb):PE X (.BoolOp .And (a::b::bg) pos) (ze ta tb):=by
 intro pins s σ H Q I h
 refine BoolOp_and (bo (ha pins s σ H _ I h) fun v s1 ⟨x,H1,I1,r1,q1⟩=>?_)
 obtain⟨c,rfl,q1⟩:=q1
 cases r1
 refine wpAny_truthy_bool ?_
 cases c with
 | true=>exact hb pins s1 σ H1 Q I1 q1
 | false=>exact⟨.bl false,H1,I1,rfl,q1⟩
theorem CZ(ha:PE X a ta):PE X (.UnaryOp .Not a pos) (zx ta):=by
 intro pins s σ H Q I h
 refine UnaryOp_ (bo (ha pins s σ H _ I h) fun v s1 ⟨x,H1,I1,r1,q1⟩=>?_)
 obtain⟨c,rfl,q1⟩:=q1
 cases r1
 exact not_of (wpAny_truthy_bool ⟨.bl (!c),H1,I1,rfl,q1⟩)
def Du(t:TT)(ta tb:TE):TE:=fun σ H Q=>t σ H fun c H1=>if c=true then ta σ H1 Q else tb σ H1 Q
theorem mY{c:Expr}(hc:PT X c tA)(ha:PE X a ta)(hb:PE X b tb):PE X (.IfExp c a b pos) (Du tA ta tb):=by
 intro pins s σ H Q I h
 refine wpAny_IfExp (bo (hc pins s σ H _ I h) fun d s1 ⟨H1,I1,q1⟩=>?_)
 cases d with
 | true=>exact ha pins s1 σ H1 Q I1 q1
 | false=>exact hb pins s1 σ H1 Q I1 q1
end
end L2
namespace L2
open PySem PySem.Spec PyProof.Rows
def SqL(K:PySem.W.Frag)(H:Hp)(a:Addr)(xs:List V):Prop:=
 Rd H a (.lst xs)∨
  ∃ (o:Obj) (its:Array Value) (n:Nat),K.lookup a=some o∧o.cls = .type "list" ∧ o.dict=none∧o.data = .seq its n∧its.size≤sizeLine∧Vals xs its.toList
def SqT(K:PySem.W.Frag)(H:Hp)(a:Addr)(xs:List V):Prop:=
 Rd H a (.tup xs)∨
  ∃ (o:Obj) (its:Array Value) (n:Nat),K.lookup a=some o∧o.cls = .type "tuple" ∧ o.data = .seq its n∧its.size≤sizeLine∧Vals xs its.toList
def Fi:Value→Option V
 | .none=>some .non
 | .bool b=>some (.bl b)
 | .int i _=>some (.int i)
 | .str x _=>some (.str x)
 | .bytes b _=>some (.byt b)
 | .float b _=>some (.flt b)
 | .ref a=>some (.ref a)
 | .type n=>some (.ty n)
 | _=>none
theorem RelV.abs{x:V}{u:Value}(r:RelV x u):Fi u=some x:=by
 cases x with
 | non=>cases r; rfl
 | bl _=>cases r; rfl
 | int _=>obtain⟨t,rfl⟩:=r; rfl
 | str _=>obtain⟨t,rfl⟩:=r; rfl
 | byt _=>obtain⟨t,rfl⟩:=r; rfl
 | flt _=>obtain⟨t,rfl⟩:=r; rfl
 | ref _=>cases r; rfl
 | ty _=>cases r; rfl
theorem RelV.inj{x y:V}{u:Value}(r:RelV x u)(q:RelV y u):x=y:=Option.some.inj (r.abs.symm.trans q.abs)
theorem Vals.inj:∀ {xs ys:List V} {us:List Value},Vals xs us→Vals ys us→xs=ys
 | _,_,_,.nil,.nil=>rfl
 | _,_,_,.cons r t,.cons r' t'=>by rw[r.inj r',Vals.inj t t']
section
variable{X:Cx}{pins:List (Addr × Obj)}{σ : St}{H:Hp}{s:Shared}{a:Addr}{xs ys:List V}
theorem SqL.of{K:PySem.W.Frag}(h:H a=some (.lst xs)):SqL K H a xs:=.inl (.inl h)
theorem SqT.of{K:PySem.W.Frag}(h:H a=some (.tup xs)):SqT K H a xs:=.inl (.inl h)
theorem Inv.list(I:Inv X pins σ H s)(h:SqL X.K H a xs):∃ its:List Value,Vals xs its∧PlainL s.heap a its.toArray∧xs.length≤sizeLine:=by
 rcases h with h | ⟨o,its,n,hk,hc,hd,hs,hz,r⟩
 ·obtain⟨z,its,n,r,e⟩:=h.ok I.hok
  exact⟨its,r,⟨_,n,e,rfl,rfl,rfl⟩,z⟩
 ·refine⟨its.toList,r,⟨o,n,I.kIn a o hk,hc,hd,by simpa using hs⟩,?_⟩
  have e:=r.length
  simp only[Array.length_toList]at e
  omega
theorem Inv.tuple(I:Inv X pins σ H s)(h:SqT X.K H a xs):∃ its:List Value,Vals xs its∧IsTup s.heap a its.toArray∧xs.length≤sizeLine:=by
 rcases h with h | ⟨o,its,n,hk,hc,hs,hz,r⟩
 ·obtain⟨z,its,r,p⟩:=h.ok I.hok
  exact⟨its,r,p.tup,z⟩
 ·refine⟨its.toList,r,⟨o,I.kIn a o hk,hc,n,by simpa using hs⟩,?_⟩
  have e:=r.length
  simp only[Array.length_toList]at e
  omega
theorem Inv.list_inj(I:Inv X pins σ H s)(h:SqL X.K H a xs)(h':SqL X.K H a ys):xs=ys:=by
 obtain⟨its,r,⟨o,n,e,_,_,d⟩,_⟩:=I.list h
 obtain⟨its',r',⟨o',n',e',_,_,d'⟩,_⟩:=I.list h'
 rw[e]at e'; cases e'
 rw[d]at d'
 injection d' with d1 _
 have:its=its':=by simpa using congrArg Array.toList d1
 subst this
 exact r.inj r'
theorem Inv.tuple_inj(I:Inv X pins σ H s)(h:SqT X.K H a xs)(h':SqT X.K H a ys):xs=ys:=by
 obtain⟨its,r,⟨o,e,_,n,d⟩,_⟩:=I.tuple h
 obtain⟨its',r',⟨o',e',_,n',d'⟩,_⟩:=I.tuple h'
 rw[e]at e'; cases e'
 rw[d]at d'
 injection d' with d1 _
 have:its=its':=by simpa using congrArg Array.toList d1
 subst this
 exact r.inj r'
end
abbrev Cx.wish (X:Cx) (E:Value→Shared→Prop):Cx:={ X with xe:=E }
abbrev Cx.nox (X:Cx):Cx:=X.wish fun _ _=>False
theorem Cx.Ok.wish{X:Cx}(ok:X.Ok)(E:Value→Shared→Prop):(X.wish E).Ok:=
 ⟨ok.mod,ok.kind,ok.glob,ok.blt,ok.above,ok.inj,ok.has,ok.cab,ok.hd,ok.frames,ok.stk,ok.exf,ok.bs,ok.bsz,ok.noex,ok.exfs,ok.funs,ok.frf⟩
theorem Cx.Ok.unwish{X:Cx}{E:Value→Shared→Prop}(ok:(X.wish E).Ok):X.Ok:=
 ⟨ok.mod,ok.kind,ok.glob,ok.blt,ok.above,ok.inj,ok.has,ok.cab,ok.hd,ok.frames,ok.stk,ok.exf,ok.bs,ok.bsz,ok.noex,ok.exfs,ok.funs,ok.frf⟩
section
variable{X:Cx}{pins:List (Addr × Obj)}{σ : St}{H:Hp}{s:Shared}{E:Value→Shared→Prop}
theorem Inv.wish(I:Inv X pins σ H s)(E:Value→Shared→Prop):Inv (X.wish E) pins σ H s:=⟨I.ok.wish E,I.os,I.bare,I.base,I.loc,I.cell,I.free,I.freeC,I.pin,I.hok,I.len⟩
theorem Inv.unwish(I:Inv (X.wish E) pins σ H s):Inv X pins σ H s:=⟨I.ok.unwish,I.os,I.bare,I.base,I.loc,I.cell,I.free,I.freeC,I.pin,I.hok,I.len⟩
theorem SP.unwish{D:dz}{f:Flow}{s':Shared}(h:SP (X.wish E) pins D f s'):SP X pins D f s':=by
 cases f with
 | next=>obtain⟨σ',H',I,q⟩:=h; exact⟨σ',H',I.unwish,q⟩
 | brk=>obtain⟨σ',H',I,q⟩:=h; exact⟨σ',H',I.unwish,q⟩
 | cont=>obtain⟨σ',H',I,q⟩:=h; exact⟨σ',H',I.unwish,q⟩
 | ret u=>obtain⟨v,σ',H',I,r,q⟩:=h; exact⟨v,σ',H',I.unwish,r,q⟩
theorem PSs.nox{st:List Stmt}{t:TS}(h:PSs X.nox st t):PSs X st t:=fun pins s σ H D I hw=>
 wpAny_mono (h pins s σ H D (I.wish _) hw) (fun _ _ q=>q.unwish) fun _ _ z=>False.elim z
end
section
variable{X:Cx}{st:Stmt}{bg:List Stmt}{t u:TS}{e:Expr}{te:TE}{pos:Pos}
def pT:TS:=fun D σ H=>D.nx σ H
def jd(t u:TS):TS:=fun D σ H=>t { D with nx:=u D } σ H
theorem aP:PSs X [] pT:=fun _ _ σ H _ I h=>wpAny_execs_nil ⟨σ,H,I,h⟩
theorem af(h1:PS X st t)(h2:PSs X bg u):PSs X (st::bg) (jd t u):=by
 intro pins s σ H D I h
 refine wpAny_execs_cons (bo (h1 pins s σ H { D with nx:=u D } I h) fun f s1 q=>?_)
 cases f with
 | next=>
  obtain⟨σ',H',I',q⟩:=q
  exact h2 pins s1 σ' H' D I' q
 | ret v=>exact q
 | brk=>exact q
 | cont=>exact q
theorem al(h1:PS X st t):PSs X [st] t:=by
 intro pins s σ H D I h
 refine wpAny_execs_cons (bo (h1 pins s σ H D I h) fun f s1 q=>?_)
 cases f with
 | next=>exact wpAny_execs_nil q
 | ret v=>exact q
 | brk=>exact q
 | cont=>exact q
theorem Inv.quiet{pins:List (Addr × Obj)}{σ : St}{H:Hp}{s:Shared}(I:Inv X pins σ H s):interactive X.env=false:=by simp[interactive,I.ok.kind]
def kG(te:TE):TS:=fun D σ H=>te σ H fun _ H1=>D.nx σ H1
theorem dk(he:PE X e te)(hs:swapsWith e none pos.line X.env=pure false:=by rfl):PS X (.Expr e pos) (kG te):=by
 intro pins s σ H D I h
 exact wpAny_Expr_any (bo (he pins s σ H _ I h) fun v s1 ⟨x,H1,I1,r1,q1⟩=>⟨σ,H1,I1,q1⟩) I.quiet hs
def lB(te:TE):TS:=fun D σ H=>te σ H D.rt
theorem ax(he:PE X e te):PS X (.Return (some e) pos) (lB te):=by
 intro pins s σ H D I h
 exact wpAny_Return_some (bo (he pins s σ H _ I h) fun v s1 ⟨x,H1,I1,r1,q1⟩=>⟨x,σ,H1,I1,r1,q1⟩)
def ou(c:TT)(t u:TS):TS:=fun D σ H=>c σ H fun b H1=>if b=true then t D σ H1 else u D σ H1
theorem bq{c:Expr}{a b:List Stmt}{tc:TT}(hc:PT X c tc)(ha:PSs X a t)(hb:PSs X b u):PS X (.If c a b pos) (ou tc t u):=by
 intro pins s σ H D I h
 refine wpAny_If (bo (hc pins s σ H _ I h) fun d s1 ⟨H1,I1,q1⟩=>?_)
 cases d with
 | true=>exact ha pins s1 σ H1 D I1 q1
 | false=>exact hb pins s1 σ H1 D I1 q1
end
abbrev TG:=V→St→Hp→(St→Hp→Prop)→Prop
abbrev jx:=List V→St→Hp→(St→Hp→Prop)→Prop
def PG(X:Cx)(target:Expr)(t:TG):Prop:=
 ∀ (pins:List (Addr × Obj)) (s:Shared) (σ : St) (H:Hp) (v:V) (u:Value) (Q:St→Hp→Prop),Inv X pins σ H s→RelV v u→t v σ H Q→
  wpAny (model X.prog X.w) X.A (assign target X.env u) (fun _ s'=>∃ σ' H',Inv X pins σ' H' s'∧Q σ' H') X.xe s
def PGs(X:Cx)(ts:List Expr)(t:jx):Prop:=
 ∀ (pins:List (Addr × Obj)) (s:Shared) (σ : St) (H:Hp) (vs:List V) (us:List Value) (Q:St→Hp→Prop),Inv X pins σ H s→Vals vs us→t vs σ H Q→
  wpAny (model X.prog X.w) X.A (assignInOrder ((assignEach ts X.env).map (·.2)) us) (fun _ s'=>∃ σ' H',Inv X pins σ' H' s'∧Q σ' H') X.xe s
abbrev rK:=V→V→V→Hp→(Hp→Prop)→Prop
def PSet(X:Cx)(t:rK):Prop:=
 ∀ (pins:List (Addr × Obj)) (s:Shared) (σ : St) (H:Hp) (o i v:V) (ov iv u:Value) (Q:Hp→Prop),Inv X pins σ H s→RelV o ov→RelV i iv→RelV v u→t o i v H Q→
  wpAny (model X.prog X.w) X.A (setItem ov iv u) (fun _ s'=>∃ H',Inv X pins σ H' s'∧Q H') X.xe s
section
variable{X:Cx}{pos:Pos}
def dG(i:Nat):TG:=fun v σ H Q=>Q (σ.set i (some v)) H
theorem zV{i:Nat}{x:Str}(hN:X.N.Nodup)(hi:X.N[i]? = some x)(hx:bH X.env.scope x)(hf:X.fn x=true∨X.env.scope.names.lookup x=some .local:=by first | exact .inl rfl | exact .inr rfl | assumption):PG X (.Name x pos) (dG i):=by
 intro pins s σ H v u Q I r h
 exact wpAny_assign_Name (mJ I hN hi hx r (fun s' I'=>⟨_,H,I',h⟩) hf)
def ui:jx:=fun vs σ H Q=>vs=[]∧Q σ H
def p_(t:TG)(u:jx):jx:=fun vs σ H Q=>∃ v r,vs=v::r∧t v σ H fun σ' H'=>u r σ' H' Q
theorem lZ:PGs X [] ui:=by
 intro pins s σ H vs us Q I r h
 obtain⟨e,h⟩:=h
 subst e
 cases r
 exact assignInOrder_nil ⟨σ,H,I,h⟩
theorem eO{e:Expr}{es:List Expr}{t:TG}{u:jx}(h1:PG X e t)(h2:PGs X es u)
  (hs:(assignEach (e::es) X.env).map (·.2)=assign e X.env::(assignEach es X.env).map (·.2):=by rfl):PGs X (e::es) (p_ t u):=by
 intro pins s σ H vs us Q I r h
 obtain⟨v,vr,e1,h⟩:=h
 subst e1
 cases r with
 | cons r rr=>
  rw[hs]
  refine assignInOrder_cons (bo (h1 pins s σ H _ _ _ I r h) fun _ s1 ⟨σ1,H1,I1,q1⟩=>?_)
  exact h2 pins s1 σ1 H1 _ _ Q I1 rr q1
def uM(K:PySem.W.Frag)(n:Nat)(t:jx):TG:=fun v σ H Q=>∃ a xs,v = .ref a∧SqT K H a xs∧xs.length=n∧t xs σ H Q
theorem BK{es:List Expr}{k:Nat}{t:jx}{n:Nat}(hc:X.calm=true)(h:PGs X es t)
  (hn:(assignEach es X.env).length=n:=by rfl) (hst:(assignEach es X.env).findIdx? (·.1)=none:=by rfl):PG X (.Tuple es k pos) (uM X.K n t):=by
 intro pins s σ H v u Q I r hw
 obtain⟨a,xs,e1,hq,hl,hw⟩:=hw
 subst e1
 cases r
 obtain⟨its,rv,ht,hz⟩:=I.tuple hq
 refine assign_Tuple_tuple (I.ok.hd hc) ht (by simp[hn,← hl,rv.length]) hst fun h' hx=>?_
 have I1:Inv X pins σ H { s with heap:=h' }:=I.kept (t':=s.toks) fun b o e=>hx b o (Nat.ne_of_lt (Heap.lt_size e)) e
 exact h pins _ σ H xs _ Q I1 (by simpa using rv) hw
def BQ(to ti:TE)(t:rK):TG:=fun v σ H Q=>to σ H fun o H1=>ti σ H1 fun i H2=>t o i v H2 fun H3=>Q σ H3
theorem CM{o i:Expr}{to ti:TE}{t:rK}(ho:PE X o to)(hi:PE X i ti)(hs:PSet X t)
  (ha:∀ v,assign (.Subscript o i pos) X.env v=(do
   let ov ← holding [v] (eval o X.env)
   let iv ← holding [v,ov] (eval i X.env)
   standAt pos
   holding [v,ov,iv] (setItem ov iv v)
   release [v,ov,iv] []):=by intro _; rfl):PG X (.Subscript o i pos) (BQ to ti t):=by
 intro pins s σ H v u Q I r h
 rw[ha]
 refine wpAny_bind (wpAny_holding (bo (ho pins s σ H _ I h) fun ov s1 ⟨x,H1,I1,r1,q1⟩=>?_))
 refine wpAny_bind (wpAny_holding (bo (hi pins s1 σ H1 _ I1 q1) fun iv s2 ⟨y,H2,I2,r2,q2⟩=>?_))
 refine wpAny_bind (wpAny_standAt (wpAny_bind (wpAny_holding (bo (hs pins s2 σ H2 x y v ov iv u _ I2 r1 r2 r q2) fun _ s3 ⟨H3,I3,q3⟩=>?_))))
 exact wpAny_release ⟨σ,H3,I3,q3⟩
def iq(te:TE)(g:TG):TS:=fun D σ H=>te σ H fun x H1=>g x σ H1 D.nx
theorem we{tg e:Expr}{te:TE}{g:TG}(he:PE X e te)(hg:PG X tg g)(hs:swapsWithSole [tg] e pos.line X.env=pure false:=by rfl)(hw:swappedStores [tg] e X.env=pure none:=by rfl)
  (h1:(assignEach [tg] X.env).map (·.2)=[assign tg X.env]:=by rfl):PS X (.Assign [tg] e pos) (iq te g):=by
 intro pins s σ H D I h
 refine wpAny_Assign_stores (bo (he pins s σ H _ I h) fun v s1 ⟨x,H1,I1,r1,q1⟩=>?_) hs hw
 rw[h1]
 exact bo (hg pins s1 σ H1 x v _ I1 r1 q1) fun _ s2 q=>q
theorem CL{i:Nat}{x:Str}{e:Expr}{te:TE}{pos':Pos}(hN:X.N.Nodup)(hi:X.N[i]? = some x)(hx:bH X.env.scope x)(he:PE X e te)(hs:swapsWith e (some (.Name x pos')) pos.line X.env=pure false:=by rfl)(hf:X.fn x=true∨X.env.scope.names.lookup x=some .local:=by first | exact .inl rfl | exact .inr rfl | assumption) :
  PS X (.Assign [.Name x pos'] e pos) (iq te (dG i)):=by
 intro pins s σ H D I h
 refine wpAny_Assign_Name (bo (he pins s σ H _ I h) fun v s1 ⟨y,H1,I1,r1,q1⟩=>?_) hs
 exact mJ I1 hN hi hx r1 (fun s2 I2=>⟨_,H1,I2,q1⟩) hf
end
section
variable{X:Cx}{pos:Pos}
def CV(c:TT)(tb:TS):TS:=fun D σ H=>∃ W:Nat→St→Hp→Prop,(∃ m,W m σ H)∧∀ m σ H,W m σ H→
 c σ H fun b H1=>if b=true then ∃ N:St→Hp→Prop,(∀ σ' H',N σ' H'→∃ m',m'<m∧W m' σ' H')∧tb { D with nx:=N,ct:=N,bk:=D.nx } σ H1 else D.nx σ H1
theorem qz{c:Expr}{body:List Stmt}{tc:TT}{tb:TS}(hp:PassesOwn (model X.prog X.w) X.A X.env X.xe)(hc:PT X c tc)(hb:PSs X body tb):PS X (.While c body [] pos) (CV tc tb):=by
 intro pins s σ H D I h
 obtain⟨W,⟨m0,w0⟩,turn⟩:=h
 refine wpAny_While (codeAny_whileLoop (fun n s'=>∃ σ' H',Inv X pins σ' H' s'∧W n σ' H') ?_ m0 ⟨σ,H,I,w0⟩)
 rintro n s1 ⟨σ1,H1,I1,w1⟩
 refine wpAny_passesOwn hp (bo (hc pins s1 σ1 H1 _ I1 (turn n σ1 H1 w1)) fun b s2 ⟨H2,I2,q2⟩=>?_)
 cases b with
 | true=>
  obtain⟨N,hN,q2⟩:=q2
  rw[if_pos rfl]
  refine wpAny_passesOwn hp (bo (hb pins s2 σ1 H2 _ I2 q2) fun f s3 q3=>?_)
  cases f with
  | next=>
   obtain⟨σ3,H3,I3,n3⟩:=q3
   obtain⟨m',hm,w3⟩:=hN σ3 H3 n3
   exact⟨m',hm,σ3,H3,I3,w3⟩
  | cont=>
   obtain⟨σ3,H3,I3,n3⟩:=q3
   obtain⟨m',hm,w3⟩:=hN σ3 H3 n3
   exact⟨m',hm,σ3,H3,I3,w3⟩
  | brk=>exact q3
  | ret v=>exact q3
 | false=>
  rw[if_neg Bool.false_ne_true]
  exact wpAny_execs_nil ⟨σ1,H2,I2,q2⟩
end
set_option genInjectivity false in
set_option genSizeOf false in
structure It where
 go:Nat→Hp→Prop
 yld:Nat→Hp→V→Hp→Prop
 stop:Nat→Hp→Prop
def jm(X:Cx)(pins:List (Addr × Obj))(H:Hp)(b:Addr):Prop:=
 H b=none∧b≠X.env.locals∧b∉X.fs∧(b∈X.ex∨X.s₀.heap.objs.size≤b)∧(∀ x c,X.env.cells.lookup x=some c→c≠b)∧∀ p∈X.pn++pins,p.1≠b
theorem Inv.fpOk{X:Cx}{pins:List (Addr × Obj)}{σ : St}{H H':Hp}{s:Shared}{b:Addr}(I:Inv X pins σ H s)(hb:s.heap.objs.size≤b)(hn:H' b=none):jm X pins H' b:=by
 refine⟨hn,Nat.ne_of_gt (Nat.lt_of_lt_of_le I.lt hb),I.nofs hb,.inr (Nat.le_trans I.sz hb),fun x c e z=>?_,fun p hp z=>?_⟩
 ·obtain⟨v,q⟩:=I.cell x c e
  exact absurd (Nat.lt_of_lt_of_le q.lt (by rw[z]; exact hb)) (Nat.lt_irrefl _)
 ·exact absurd (Nat.lt_of_lt_of_le (Heap.lt_size (I.pin p hp).1) (by rw[z]; exact hb)) (Nat.lt_irrefl _)
structure mS (P:Program) (w:World) (K:PySem.W.Frag) (tg:Expr) (J:It) (fp:List Addr) (it:Addr) (tn:Nat→Heap→Prop):Prop where
 mem:it∈fp
 obj:∀ i h,tn i h→∀ b∈fp,∃ o,h.get? b=some o∧∀ v,o.data ≠ .cell v
 keep:∀ i h h',tn i h→(∀ b∈fp,∀ o,h.get? b=some o→h'.get? b=some o)→tn i h'
 item:∀ (X:Cx),X.prog=P→X.w=w→X.K=K→X.calm=true→∀ (i:Nat) (pins:List (Addr × Obj)) (s:Shared) (σ : St) (H:Hp) (E:Value→Shared→Prop),Inv X pins σ H s→(∀ b∈fp,jm X pins H b)→tn i s.heap→J.go i H→
  wpAny (model P w) X.A (pyNext (.ref it)) (fun r s1=>∃ u,r=some u∧
   wpAny (model P w) X.A (letOwnedTupleGo tg (.ref it) u) (fun _ s2=>∃ x H',Inv X pins σ H' s2∧RelV x u∧J.yld i H x H'∧tn (i+1) s2.heap∧∀ b∈fp,H' b=none) E s1) E s
 done:∀ (X:Cx),X.prog=P→X.w=w→X.K=K→X.calm=true→∀ (i:Nat) (pins:List (Addr × Obj)) (s:Shared) (σ : St) (H:Hp) (E:Value→Shared→Prop),Inv X pins σ H s→(∀ b∈fp,jm X pins H b)→tn i s.heap→J.stop i H→
  wpAny (model P w) X.A (pyNext (.ref it)) (fun r s1=>r=none∧Inv X pins σ H s1) E s
 self:∀ (A:Around) (i:Nat) (s:Shared) (Q:Value→Shared→Prop) (E:Value→Shared→Prop),tn i s.heap→Q (.ref it) s→wpAny (model P w) A (pyIter (.ref it)) Q E s
abbrev TI:=St→Hp→(It→Hp→Prop)→Prop
def BG(X:Cx)(pins:List (Addr × Obj))(σ : St)(tg:Expr)(R:It→Hp→Prop)(itv:Value)(s2:Shared):Prop:=
 ∃ (it:Addr) (fp:List Addr) (tn:Nat→Heap→Prop) (J:It) (H':Hp),itv = .ref it∧Inv X pins σ H' s2∧mS X.prog X.w X.K tg J fp it tn∧tn 0 s2.heap∧(∀ b∈fp,jm X pins H' b)∧R J H'
def PI(X:Cx)(tg iter:Expr)(wi:TI):Prop:=
 ∀ (pins:List (Addr × Obj)) (s:Shared) (σ : St) (H:Hp) (R:It→Hp→Prop),Inv X pins σ H s→wi σ H R→
  wpAny (model X.prog X.w) X.A (eval iter X.env) (fun v s1=>wpAny (model X.prog X.w) X.A (pyIter v) (BG X pins σ tg R) X.xe s1) X.xe s
theorem pV{M:Model}{A:Around}{E:Value→Shared→Prop}{s:Shared}{tg:Expr}{it:Addr}{u:Value}{o:Obj}{n:String}{vs:Array Value}{Q:Unit→Shared→Prop}(ho:s.heap.get? it=some o)(hc:o.cls = .type n)(hd:o.data = .fields vs)
    (hn:["enumerate", "zip", "dict_itemiterator", "dict_reverseitemiterator", "odict_iterator", "itertools.zip_longest", "itertools.pairwise"].contains n=false) (hQ:Q () s):wpAny M A (letOwnedTupleGo tg (.ref it) u) Q E s:=by
  unfold letOwnedTupleGo
  cases tg <;> first
    | exact wpAny_pure hQ
    | (cases u <;> first
        | exact wpAny_pure hQ
        | (refine wpAny_bind (wpAny_load ho ?_)
           rw[hc,hd]
           show wpAny M A (if (["enumerate", "zip", "dict_itemiterator", "dict_reverseitemiterator", "odict_iterator", "itertools.zip_longest", "itertools.pairwise"].contains n&&vs[0]? == some (rawInt _))=true then _ else _) Q E s
           rw[if_neg (by intro h; rw[hn,Bool.false_and]at h; cases h)]
           exact wpAny_pure hQ))
def n9(K:PySem.W.Frag)(a:Addr):It:=
 ⟨fun i H=>∃ xs x,SqL K H a xs∧xs[i]? = some x,fun i H x H'=>H'=H∧∀ xs,SqL K H a xs→xs[i]? = some x,fun i H=>∃ xs,SqL K H a xs∧xs.length≤i⟩
def wF(K:PySem.W.Frag)(a:Addr):It:=
 ⟨fun i H=>∃ xs x,SqT K H a xs∧xs[i]? = some x,fun i H x H'=>H'=H∧∀ xs,SqT K H a xs→xs[i]? = some x,fun i H=>∃ xs,SqT K H a xs∧xs.length≤i⟩
def sE(lo:Int)(n:Nat):It:=⟨fun i _=>i<n,fun i H x H'=>H'=H∧x = .int (lo+i),fun i _=>n≤i⟩
theorem wK{P:Program}{w:World}{K:PySem.W.Frag}{tg:Expr}(a it:Addr):mS P w K tg (n9 K a) [it] it (fun i h=>h.IsListIter it a i) where
 mem:=by simp
 obj:=fun i h st b hb=>by
  have e:b=it:=by simpa using hb
  subst e
  obtain⟨o,e,c,d⟩:=st
  exact⟨o,e,fun v z=>by rw[d]at z; cases z⟩
 keep:=fun i h h' st k=>st.at fun o e=>k it (by simp) o e
 item:=by
  intro X hP hw hK hc i pins s σ H E I hf st hg
  subst hP hw hK
  obtain⟨xs,x,hq,hx⟩:=hg
  obtain⟨its,rv,p,hz⟩:=I.list hq
  obtain⟨u,hu,ru⟩:=rv.get hx
  obtain⟨f0,f1,f2,f3,f4,f5⟩:=hf it (by simp)
  refine wpAny_pyNext_list_item st p.isList (x:=u) (by simpa using hu) fun h' st' sb=>?_
  have I1:Inv X pins σ H { s with heap:=h' }:=I.turned (t':=s.toks) (fun b o hb e=>(sb.2 b hb).trans e) f0 f1 f3 f4 f5
  obtain⟨o,e,c,d⟩:=id st'
  exact⟨u,rfl,pV (s:={ s with heap:=h' }) e c d (by decide) ⟨x,H,I1,ru,⟨rfl,fun ys hy=>by rw[I.list_inj hy hq]; exact hx⟩,st',fun b hb=>(hf b hb).1⟩⟩
 done:=by
  intro X hP hw hK hc i pins s σ H E I hf st hg
  subst hP hw hK
  obtain⟨xs,hq,hx⟩:=hg
  obtain⟨its,rv,p,hz⟩:=I.list hq
  obtain⟨f0,f1,f2,f3,f4,f5⟩:=hf it (by simp)
  have hl:=rv.length
  exact wpAny_pyNext_list_end (I.ok.hd hc) st p.isList (by simp; omega) fun h' eb=>⟨rfl,I.turned (t':=s.toks) (fun b o hb e=>eb b o hb e) f0 f1 f3 f4 f5⟩
 self:=fun _ _ _ _ _ st h=>wpAny_pyIter_listiter st h
theorem uv{P:Program}{w:World}{K:PySem.W.Frag}{tg:Expr}(a it:Addr):mS P w K tg (wF K a) [it] it (fun i h=>h.IsTupleIter it a i) where
 mem:=by simp
 obj:=fun i h st b hb=>by
  have e:b=it:=by simpa using hb
  subst e
  obtain⟨o,e,c,d⟩:=st
  exact⟨o,e,fun v z=>by rw[d]at z; cases z⟩
 keep:=fun i h h' st k=>st.at fun o e=>k it (by simp) o e
 item:=by
  intro X hP hw hK hc i pins s σ H E I hf st hg
  subst hP hw hK
  obtain⟨xs,x,hq,hx⟩:=hg
  obtain⟨its,rv,p,hz⟩:=I.tuple hq
  obtain⟨u,hu,ru⟩:=rv.get hx
  obtain⟨f0,f1,f2,f3,f4,f5⟩:=hf it (by simp)
  refine wpAny_pyNext_tuple_item st (show s.heap.IsTuple a its.toArray from p) (x:=u) (by simpa using hu) fun h' st' sb=>?_
  have I1:Inv X pins σ H { s with heap:=h' }:=I.turned (t':=s.toks) (fun b o hb e=>(sb.2 b hb).trans e) f0 f1 f3 f4 f5
  obtain⟨o,e,c,d⟩:=id st'
  exact⟨u,rfl,pV (s:={ s with heap:=h' }) e c d (by decide) ⟨x,H,I1,ru,⟨rfl,fun ys hy=>by rw[I.tuple_inj hy hq]; exact hx⟩,st',fun b hb=>(hf b hb).1⟩⟩
 done:=by
  intro X hP hw hK hc i pins s σ H E I hf st hg
  subst hP hw hK
  obtain⟨xs,hq,hx⟩:=hg
  obtain⟨its,rv,p,hz⟩:=I.tuple hq
  obtain⟨f0,f1,f2,f3,f4,f5⟩:=hf it (by simp)
  have hl:=rv.length
  exact wpAny_pyNext_tuple_end (I.ok.hd hc) st (show s.heap.IsTuple a its.toArray from p) (by simp; omega) fun h' eb=>⟨rfl,I.turned (t':=s.toks) (fun b o hb e=>eb b o hb e) f0 f1 f3 f4 f5⟩
 self:=fun _ _ _ _ _ st h=>wpAny_pyIter_tupleiter st h
theorem ux{P:Program}{w:World}{K:PySem.W.Frag}{tg:Expr}(it:Addr)(lo:Int)(n:Nat):mS P w K tg (sE lo n) [it] it (fun i h=>IsRangeIter h it (lo+(i:Nat) * 1) ((n:Int) - (i:Nat)) 1) where
 mem:=by simp
 obj:=fun i h st b hb=>by
  have e:b=it:=by simpa using hb
  subst e
  exact⟨_,st,fun v z=>by
   have z':Data.fields _=Data.cell v:=z
   cases z'⟩
 keep:=fun i h h' st k=>k it (by simp) _ st
 item:=by
  intro X hP hw hK hc i pins s σ H E I hf st hg
  subst hP hw hK
  obtain⟨f0,f1,f2,f3,f4,f5⟩:=hf it (by simp)
  have W:=Walks.range (prog:=X.prog) (w:=X.w) (I.ok.hd hc) it lo 1 n
  refine W.item i s _ _ hg st fun v h' tk hv st' kk=>?_
  obtain⟨t,rfl⟩:=hv
  have I1:Inv X pins σ H { s with heap:=h',toks:=tk }:=I.turned (fun b o hb e=>kk b o (by simpa using hb) e) f0 f1 f3 f4 f5
  refine⟨_,rfl,pV (s:={ s with heap:=h',toks:=tk }) (n := "range_iterator") st' rfl rfl (by decide) ⟨.int (lo+i),H,I1,⟨t,?_⟩,⟨rfl,rfl⟩,st',fun b hb=>(hf b hb).1⟩⟩
  rw[Int.mul_one]
 done:=by
  intro X hP hw hK hc i pins s σ H E I hf st hg
  subst hP hw hK
  obtain⟨f0,f1,f2,f3,f4,f5⟩:=hf it (by simp)
  exact wpAny_pyNext_range_end (I.ok.hd hc) st (by have:n≤i:=hg; omega) fun h' eb=>⟨rfl,I.turned (t':=s.toks) (fun b o hb e=>eb b o hb e) f0 f1 f3 f4 f5⟩
 self:=fun _ _ _ _ _ st h=>wpAny_pyIter_rangeiter st h
end L2
namespace L2
open PySem PySem.Spec PyProof.Rows
section
variable{X:Cx}{tg:Expr}
def uc(K:PySem.W.Frag)(tl:TE):TI:=fun σ H R=>tl σ H fun x H1=>∃ a,x = .ref a∧(∃ xs,SqL K H1 a xs)∧R (n9 K a) H1
def xn(K:PySem.W.Frag)(tl:TE):TI:=fun σ H R=>tl σ H fun x H1=>∃ a,x = .ref a∧(∃ xs,SqT K H1 a xs)∧R (wF K a) H1
theorem zP{l:Expr}{tl:TE}(hl:PE X l tl):PI X tg l (uc X.K tl):=by
 intro pins s σ H R I h
 refine bo (hl pins s σ H _ I h) fun v s1 ⟨x,H1,I1,r1,q1⟩=>?_
 obtain⟨a,e,⟨xs,hq⟩,q⟩:=q1
 subst e
 cases r1
 obtain⟨its,rv,p,hz⟩:=I1.list hq
 refine wpAny_pyIter_list p.isList ?_
 refine⟨s1.heap.objs.size,[s1.heap.objs.size],_,_,H1,rfl,I1.kept (t':=s1.toks) fun b o e=>Heap.get?_push_of_some _ e,wK a _,⟨_,Heap.get?_push_size _ rfl,rfl,rfl⟩,fun b hb=>?_,q⟩
 have e:b=s1.heap.objs.size:=by simpa using hb
 subst e
 exact I1.fpOk (Nat.le_refl _) (I1.hok.fresh (Nat.le_refl _))
theorem B5{l:Expr}{tl:TE}(hl:PE X l tl):PI X tg l (xn X.K tl):=by
 intro pins s σ H R I h
 refine bo (hl pins s σ H _ I h) fun v s1 ⟨x,H1,I1,r1,q1⟩=>?_
 obtain⟨a,e,⟨xs,hq⟩,q⟩:=q1
 subst e
 cases r1
 obtain⟨its,rv,p,hz⟩:=I1.tuple hq
 refine wpAny_pyIter_tuple (show s1.heap.IsTuple a its.toArray from p) ?_
 refine⟨s1.heap.objs.size,[s1.heap.objs.size],_,_,H1,rfl,I1.kept (t':=s1.toks) fun b o e=>Heap.get?_push_of_some _ e,uv a _,⟨_,Heap.get?_push_size _ rfl,rfl,rfl⟩,fun b hb=>?_,q⟩
 have e:b=s1.heap.objs.size:=by simpa using hb
 subst e
 exact I1.fpOk (Nat.le_refl _) (I1.hok.fresh (Nat.le_refl _))
theorem yO{pins:List (Addr × Obj)}{σ : St}{H:Hp}{s:Shared}{R:It→Hp→Prop}{E:Value→Shared→Prop}{lo hi:Int}{t u v:Tok}{tk:Nat}(I:Inv X pins σ H s)(h1:-(2 ^ 62)≤lo)(h2:lo<2 ^ 62)(h3:-(2 ^ 62)≤hi)(h4:hi<2 ^ 62)
  (q:R (sE lo (hi - lo).toNat) H):wpAny (model X.prog X.w) X.A (pyIter (.ref s.heap.objs.size)) (BG X pins σ tg R) E { s with heap:=s.heap.push { cls:=.type "range", data:=.fields #[.int lo t,.int hi u,.int 1 v] },toks:=tk }:=by
 refine wpAny_pyIter_range (IsRange.new ..) (small_one h1 h2 h3 h4) ?_
 have I1:Inv X pins σ H { s with heap:=s.heap.push { cls:=.type "range", data:=.fields #[.int lo t,.int hi u,.int 1 v] },toks:=tk }:=I.kept fun b o e=>Heap.get?_push_of_some _ e
 refine⟨(s.heap.push { cls:=.type "range", data:=.fields #[.int lo t,.int hi u,.int 1 v] }).objs.size,[(s.heap.push { cls:=.type "range", data:=.fields #[.int lo t,.int hi u,.int 1 v] }).objs.size],_,_,H,rfl,
  I1.kept (t':=tk) fun b o e=>Heap.get?_push_of_some _ e,ux _ lo (hi - lo).toNat,?_,fun b hb=>?_,q⟩
 ·have e1:lo+((0:Nat):Int) * 1=lo:=by simp
  have e2:(((hi - lo).toNat:Nat):Int) - ((0:Nat):Int)=Builtin.Range.rangeSize lo hi 1:=by rw[rangeSize_one]; split <;> omega
  show IsRangeIter _ _ (lo+((0:Nat):Int) * 1) ((((hi - lo).toNat:Nat):Int) - ((0:Nat):Int)) 1
  rw[e1,e2]
  exact Heap.get?_push_size _ rfl
 ·have e:b=(s.heap.push { cls:=.type "range", data:=.fields #[.int lo t,.int hi u,.int 1 v] }).objs.size:=by simpa using hb
  subst e
  exact I1.fpOk (Nat.le_refl _) (I1.hok.fresh (Nat.le_refl _))
def zv(ta:TA):TI:=fun σ H R=>ta σ H fun vs H1=>∃ j:Int,vs=[.int j]∧-(2 ^ 62)≤j∧j<2 ^ 62∧R (sE 0 j.toNat) H1
theorem pB{a:Expr}{ta:TA}{p pos:Pos}(hg:Gl X "range") (hm:X.mg "range" = none) (ha:PA X [a] ta) (hs:starEach [a] X.env=[(false,eval a X.env)]:=by rfl):PI X tg (.Call (.Name "range" p) [a] [] pos) (zv ta):=by
 intro pins s σ H R I h
 refine Call_ (lD I hg hm boot_range (PyProof.Rows.callWith_type1 (bo (ha pos pins s σ H _ I h) fun us s1 ⟨vs,H1,I1,r1,q1⟩=>?_) hs rfl))
 obtain⟨j,e,q1,q2,q⟩:=q1
 subst e
 cases r1 with
 | cons r rr=>
  cases rr
  obtain⟨t,rfl⟩:=r
  exact call_range_1 (yO I1 (by omega) (by omega) q1 q2 (by simpa using q))
def BF(wi:TI)(g:TG)(tb:TS):TS:=fun D σ H=>wi σ H fun J H1=>∃ W:Nat→Nat→St→Hp→Prop,(∃ m,W 0 m σ H1)∧∀ i m σ H,W i m σ H→
 (J.stop i H∧D.nx σ H)∨(J.go i H∧∃ N:St→Hp→Prop,(∀ σ' H',N σ' H'→∃ m',m'<m∧W (i+1) m' σ' H')∧∀ x H',J.yld i H x H'→g x σ H' fun σ2 H2=>tb { D with nx:=N,ct:=N,bk:=D.nx } σ2 H2)
def lL(fp:List Addr)(h:Heap):List (Addr × Obj):=fp.filterMap fun b=>(h.get? b).map fun o=>(b,o)
theorem iD{fp:List Addr}{h:Heap}{b:Addr}{o:Obj}(hb:b∈fp)(e:h.get? b=some o):(b,o)∈lL fp h:=List.mem_filterMap.mpr ⟨b,hb,by rw[e]; rfl⟩
theorem vz{fp:List Addr}{h:Heap}{p:Addr × Obj}(hp:p∈lL fp h):p.1∈fp∧h.get? p.1=some p.2:=by
 obtain⟨b,hb,e⟩:=List.mem_filterMap.mp hp
 cases q:h.get? b with
 | none=>rw[q]at e; cases e
 | some o=>
  rw[q]at e
  have e':(b,o)=p:=Option.some.inj e
  subst e'
  exact⟨hb,q⟩
theorem Inv.pinned{pins:List (Addr × Obj)}{σ : St}{H:Hp}{s:Shared}{fp:List Addr}(I:Inv X pins σ H s)(hf:∀ b∈fp,jm X pins H b)(ho:∀ b∈fp,∃ o,s.heap.get? b=some o∧∀ v,o.data ≠ .cell v):Inv X (pins++lL fp s.heap) σ H s:=
 I.pins_of fun p hp=>(List.mem_append.mp hp).elim (fun z=>I.pin p (List.mem_append_right _ z)) fun z=>by
  obtain⟨hb,e⟩:=vz z
  obtain⟨f0,f1,f2,_⟩:=hf p.1 hb
  obtain⟨o,e',d⟩:=ho p.1 hb
  rw[e]at e'; cases e'
  exact⟨e,f0,f1,f2,d⟩
theorem Inv.unpinned{pins pl:List (Addr × Obj)}{σ : St}{H:Hp}{s:Shared}(I:Inv X (pins++pl) σ H s):Inv X pins σ H s:=I.pins_of fun p hp=>I.pin p (List.mem_append_right _ (List.mem_append_left _ hp))
theorem gi{iter:Expr}{body:List Stmt}{wi:TI}{g:TG}{tb:TS}{pos:Pos}(hp:PassesOwn (model X.prog X.w) X.A X.env X.xe)(hc:X.calm=true)(hi:PI X tg iter wi)(hg:PG X tg g)(hb:PSs X body tb)
  (hs:∀ x,foldedSetIterable iter X.env x=pure x:=by intro _; rfl):PS X (.For tg iter body [] pos) (BF wi g tb):=by
 intro pins s σ H D I h
 refine wpAny_For (bo (hi pins s σ H _ I h) fun v s1 h1=>bo h1 fun itv s2 h2=>?_) hs
 obtain⟨it,fp,tn,J,H2,e,I2,T,st2,f2,W,⟨m0,w0⟩,turn⟩:=h2
 subst e
 -- what stays true of the iterator's objects through the loop
 have stat:∀ {H':Hp},(∀ b∈fp,H' b=none)→∀ b∈fp,jm X pins H' b:=fun hn b hb=>⟨hn b hb,(f2 b hb).2⟩
 refine codeAny_forLoop_any (fun n s'=>∃ i σ' H',Inv X pins σ' H' s'∧tn i s'.heap∧(∀ b∈fp,H' b=none)∧W i n σ' H') ?_ m0 ⟨0,σ,H2,I2,st2,fun b hb=>(f2 b hb).1,w0⟩
 rintro n s3 ⟨i,σ3,H3,I3,st3,fr3,w3⟩
 rcases turn i n σ3 H3 w3 with ⟨stop,qn⟩ | ⟨go,N,hN,step⟩
 ·refine wpAny_passesOwn hp (bo (T.done X rfl rfl rfl hc i pins s3 σ3 H3 X.xe I3 (stat fr3) st3 stop) fun r s4 ⟨hr,I4⟩=>?_)
  subst hr
  exact wpAny_execs_nil ⟨σ3,H3,I4,qn⟩
 ·refine wpAny_passesOwn hp (bo (T.item X rfl rfl rfl hc i pins s3 σ3 H3 X.xe I3 (stat fr3) st3 go) fun r s4 ⟨u,hr,h4⟩=>?_)
  subst hr
  refine wpAny_passesOwn hp (bo h4 fun _ s5 ⟨x,H5,I5,r5,y5,st5,fr5⟩=>?_)
  have I5':=I5.pinned (stat fr5) (T.obj _ _ st5)
  refine wpAny_passesOwn hp (bo (hg _ s5 σ3 H5 x u _ I5' r5 (step x H5 y5)) fun _ s6 ⟨σ6,H6,I6,q6⟩=>?_)
  refine wpAny_passesOwn hp (bo (hb _ s6 σ6 H6 _ I6 q6) fun f s7 q7=>?_)
  have again:∀ {σ7:St} {H7:Hp},Inv X (pins++lL fp s5.heap) σ7 H7 s7→N σ7 H7→∃ m,m<n∧∃ i σ' H',Inv X pins σ' H' s7∧tn i s7.heap∧(∀ b∈fp,H' b=none)∧W i m σ' H':=fun {σ7 H7} I7 n7=>by
   obtain⟨m',hm,w7⟩:=hN σ7 H7 n7
   refine⟨m',hm,i+1,σ7,H7,I7.unpinned,T.keep _ _ _ st5 fun b hb o e=>(I7.pin (b,o) (List.mem_append_right _ (List.mem_append_right _ (iD hb e)))).1,fun b hb=>?_,w7⟩
   obtain⟨o,e,d⟩:=T.obj _ _ st5 b hb
   exact(I7.pin (b,o) (List.mem_append_right _ (List.mem_append_right _ (iD hb e)))).2.1
  cases f with
  | next=>obtain⟨σ7,H7,I7,n7⟩:=q7; exact again I7 n7
  | cont=>obtain⟨σ7,H7,I7,n7⟩:=q7; exact again I7 n7
  | brk=>obtain⟨σ7,H7,I7,q7⟩:=q7; exact⟨σ7,H7,I7.unpinned,q7⟩
  | ret v=>obtain⟨x7,σ7,H7,I7,r7,q7⟩:=q7; exact⟨x7,σ7,H7,I7.unpinned,r7,q7⟩
end
theorem yv{K:PySem.W.Frag}{a:Addr}{xs:List V}{g:TG}{tb:TS}{D:dz}{σ : St}{H:Hp}(Pv:Nat→St→Hp→Prop)(h0:Pv 0 σ H)(hl:∀ i σ H,i≤xs.length→Pv i σ H→SqL K H a xs)
  (hs:∀ i x σ H,xs[i]? = some x→Pv i σ H→g x σ H fun σ2 H2=>tb { D with nx:=Pv (i+1),ct:=Pv (i+1),bk:=D.nx } σ2 H2) (hd:∀ σ H,Pv xs.length σ H→D.nx σ H) :
  ∃ W:Nat→Nat→St→Hp→Prop,(∃ m,W 0 m σ H)∧∀ i m σ H,W i m σ H→
   ((n9 K a).stop i H∧D.nx σ H)∨((n9 K a).go i H∧∃ N:St→Hp→Prop,(∀ σ' H',N σ' H'→∃ m',m'<m∧W (i+1) m' σ' H')∧∀ x H',(n9 K a).yld i H x H'→g x σ H' fun σ2 H2=>tb { D with nx:=N,ct:=N,bk:=D.nx } σ2 H2):=by
 refine⟨fun i m σ H=>m=xs.length - i∧i≤xs.length∧Pv i σ H,⟨xs.length,by simp,Nat.zero_le _,h0⟩,?_⟩
 rintro i m σ H ⟨rfl,hi,p⟩
 have q:=hl i σ H hi p
 by_cases hlt:i<xs.length
 ·refine .inr ⟨⟨xs,xs[i],q,by simp[hlt]⟩,Pv (i+1),fun σ' H' p'=>⟨xs.length - (i+1),by omega,rfl,hlt,p'⟩,fun x H' y=>?_⟩
  obtain⟨e,y⟩:=y
  subst e
  exact hs i x σ _ (y xs q) p
 ·have e:i=xs.length:=by omega
  subst e
  exact .inl ⟨⟨xs,q,Nat.le_refl _⟩,hd σ H p⟩
end L2
namespace L2
open PySem PySem.Spec PyProof.Rows
abbrev R2:=V→V→Hp→VK→Prop
def OpR(X:Cx)(f:Value→Value→Sem Value)(r:R2):Prop:=
 ∀ (pins:List (Addr × Obj)) (s:Shared) (σ : St) (H:Hp) (x y:V) (v u:Value) (Q:VK),Inv X pins σ H s→RelV x v→RelV y u→r x y H Q→
  wpAny (model X.prog X.w) X.A (f v u) (EP X pins σ Q) X.xe s
def UnR(X:Cx)(f:Value→Sem Value)(r:V→Hp→VK→Prop):Prop:=
 ∀ (pins:List (Addr × Obj)) (s:Shared) (σ : St) (H:Hp) (x:V) (v:Value) (Q:VK),Inv X pins σ H s→RelV x v→r x H Q→
  wpAny (model X.prog X.w) X.A (f v) (EP X pins σ Q) X.xe s
def CallR(X:Cx)(f:Value)(r:List V→Hp→VK→Prop):Prop:=
 ∀ (pins:List (Addr × Obj)) (s:Shared) (σ : St) (H:Hp) (xs:List V) (us:List Value) (Q:VK),Inv X pins σ H s→Vals xs us→r xs H Q→
  wpAny (model X.prog X.w) X.A (call f us) (EP X pins σ Q) X.xe s
def b7(r:R2)(ta tb:TE):TE:=fun σ H Q=>ta σ H fun x H1=>tb σ H1 fun y H2=>r x y H2 Q
def A7(r:V→Hp→VK→Prop)(ta:TE):TE:=fun σ H Q=>ta σ H fun x H1=>r x H1 Q
def rI(C:Int→Int→Prop)(g:Int→Int→V):R2:=fun x y H Q=>∃ i j,x = .int i∧y = .int j∧C i j∧Q (g i j) H
def fY(g:Int→Int→V):R2:=fun x y H Q=>∃ i j,x = .int i∧y = .int j∧Q (g i j) H
def rU(g:Int→V):V→Hp→VK→Prop:=fun x H Q=>∃ i,x = .int i∧Q (g i) H
section
variable{X:Cx}{a b c:Expr}{ta tb tc:TE}{pos:Pos}
theorem yd(ha:PE X a ta)(hb:PE X b tb){pins:List (Addr × Obj)}{s:Shared}{σ : St}{H:Hp}{R:V→V→Hp→Prop}(I:Inv X pins σ H s)
  (h:ta σ H fun x H1=>tb σ H1 fun y H2=>R x y H2) {Q:Value→Shared→Prop} {f:Value→Value→Sem Value}
  (hf:∀ v u s2 x y H2,Inv X pins σ H2 s2→RelV x v→RelV y u→R x y H2→wpAny (model X.prog X.w) X.A (f v u) Q X.xe s2) :
  wpAny (model X.prog X.w) X.A (eval a X.env) (fun v s₁=>wpAny (model X.prog X.w) X.A (eval b X.env) (fun u s₂=>wpAny (model X.prog X.w) X.A (f v u) Q X.xe s₂) X.xe s₁) X.xe s:=by
 refine bo (ha pins s σ H _ I h) fun v s1 ⟨x,H1,I1,r1,q1⟩=>?_
 refine bo (hb pins s1 σ H1 _ I1 q1) fun u s2 ⟨y,H2,I2,r2,q2⟩=>?_
 exact hf v u s2 x y H2 I2 r1 r2 q2
theorem am{op:Operator}{r:R2}(ho:OpR X (binaryOp op) r)(ha:PE X a ta)(hb:PE X b tb):PE X (.BinOp a op b pos) (b7 r ta tb):=by
 intro pins s σ H Q I h
 exact wpAny_BinOp (yd ha hb I h fun v u s2 x y H2 I2 rx ry q=>ho pins s2 σ H2 x y v u Q I2 rx ry q)
theorem uX{op:UnaryOp}{r:V→Hp→VK→Prop}(ho:UnR X (unaryOp op) r)(ha:PE X a ta):PE X (.UnaryOp op a pos) (A7 r ta):=by
 intro pins s σ H Q I h
 exact UnaryOp_ (bo (ha pins s σ H _ I h) fun v s1 ⟨x,H1,I1,r1,q1⟩=>ho pins s1 σ H1 x v Q I1 r1 q1)
theorem zj{f:Value→Value→Sem Value}{C:Int→Int→Prop}{g:Int→Int→Int}
  (rule:∀ (i j:Int) (t u:Tok) (s:Shared) (Q:Value→Shared→Prop) (E:Value→Shared→Prop),C i j→Q (.int (g i j) s.toks) { s with toks:=s.toks+1 }→wpAny (model X.prog X.w) X.A (f (.int i t) (.int j u)) Q E s) :
  OpR X f (rI C fun i j=>.int (g i j)):=by
 intro pins s σ H x y v u Q I rx ry h
 obtain⟨i,j,rfl,rfl,hc,q⟩:=h
 obtain⟨t,rfl⟩:=rx
 obtain⟨t',rfl⟩:=ry
 exact rule i j t t' s _ _ hc ⟨.int (g i j),H,I.tok _,⟨_,rfl⟩,q⟩
theorem A4{f:Value→Value→Sem Value}{g:Int→Int→Int}
  (rule:∀ (i j:Int) (t u:Tok) (s:Shared) (Q:Value→Shared→Prop) (E:Value→Shared→Prop),Q (.int (g i j) s.toks) { s with toks:=s.toks+1 }→wpAny (model X.prog X.w) X.A (f (.int i t) (.int j u)) Q E s) :
  OpR X f (fY fun i j=>.int (g i j)):=by
 intro pins s σ H x y v u Q I rx ry h
 obtain⟨i,j,rfl,rfl,q⟩:=h
 obtain⟨t,rfl⟩:=rx
 obtain⟨t',rfl⟩:=ry
 exact rule i j t t' s _ _ ⟨.int (g i j),H,I.tok _,⟨_,rfl⟩,q⟩
theorem xT{f:Value→Value→Sem Value}{g:Int→Int→Bool}
  (rule:∀ (i j:Int) (t u:Tok) (s:Shared) (Q:Value→Shared→Prop) (E:Value→Shared→Prop),Q (.bool (g i j)) s→wpAny (model X.prog X.w) X.A (f (.int i t) (.int j u)) Q E s) :
  OpR X f (fY fun i j=>.bl (g i j)):=by
 intro pins s σ H x y v u Q I rx ry h
 obtain⟨i,j,rfl,rfl,q⟩:=h
 obtain⟨t,rfl⟩:=rx
 obtain⟨t',rfl⟩:=ry
 exact rule i j t t' s _ _ ⟨.bl (g i j),H,I,rfl,q⟩
def Fc(i j:Int):Prop:=0<j∧j<1073741824
def Be(i j:Int):Prop:=0≤j∧j≤1000000∧i.natAbs<2 ^ 64
def CMul(i j:Int):Prop:=(-(2 ^ 64)<i∧i<2 ^ 64)∨(-(2 ^ 64)<j∧j<2 ^ 64)
theorem CMul.ok{i j:Int}(h:CMul i j):IntMulOk i j:=by
 rcases h with ⟨h1,h2⟩ | ⟨h1,h2⟩
 ·exact .of_left (intBits_le_64 h1 h2)
 ·exact .of_right (intBits_le_64 h1 h2)
theorem Bk:OpR X (binaryOp .Add) (fY fun i j=>.int (i+j)):=A4 fun _ _ _ _ _ _ _ q=>add_int q
theorem j0:OpR X (binaryOp .Sub) (fY fun i j=>.int (i - j)):=A4 fun _ _ _ _ _ _ _ q=>sub_int q
theorem B2:OpR X (binaryOp .Mult) (rI CMul fun i j=>.int (i * j)):=zj fun _ _ _ _ _ _ _ hc q=>mul_int q hc.ok
theorem fL:OpR X (binaryOp .FloorDiv) (rI Fc fun i j=>.int (i / j)):=zj fun i j _ _ _ _ _ hc q=>by
 have h1:(0:Int)<j:=hc.1
 have h2:j<1073741824:=hc.2
 exact floordiv_int (by omega) (by rw[Int.fdiv_eq_ediv_of_nonneg i (by omega)]; exact q) (.inl (PyProof.noPylong_small (by omega)))
theorem cK:OpR X (binaryOp .Mod) (rI (fun _ j=>0<j) fun i j=>.int (i % j)):=zj fun i j _ _ _ _ _ hc q=>by
 have h1:(0:Int)<j:=hc
 exact mod_int' (by omega) (by rw[Int.fmod_eq_emod_of_nonneg i (by omega)]; exact q)
theorem vE:OpR X (binaryOp .Pow) (rI Be fun i j=>.int (i ^ j.toNat)):=zj fun _ _ _ _ _ _ _ hc q=>pow_int_small hc.1 hc.2.1 hc.2.2 q
theorem FD{f:Value→Sem Value}{g:Int→Int}
  (rule:∀ (i:Int) (t:Tok) (s:Shared) (Q:Value→Shared→Prop) (E:Value→Shared→Prop),Q (.int (g i) s.toks) { s with toks:=s.toks+1 }→wpAny (model X.prog X.w) X.A (f (.int i t)) Q E s) :
  UnR X f (rU fun i=>.int (g i)):=by
 intro pins s σ H x v Q I rx h
 obtain⟨i,rfl,q⟩:=h
 obtain⟨t,rfl⟩:=rx
 exact rule i t s _ _ ⟨.int (g i),H,I.tok _,⟨_,rfl⟩,q⟩
theorem ra:UnR X (unaryOp .USub) (rU fun i=>.int (-i)):=FD fun _ _ _ _ _ q=>neg_int q
end
def oy:V→V→Bool
 | .non,.non=>true | .non,.int _=>true | .int _,.non=>true | .non,.bl _=>true | .bl _,.non=>true | .non,.str _=>true | .str _,.non=>true
 | .int _,.int _=>true | .bl _,.bl _=>true | .str _,.str _=>true | .byt _,.byt _=>true
 | .int _,.str _=>true | .str _,.int _=>true | .bl _,.str _=>true | .str _,.bl _=>true
 | _,_=>false
def DZ:R2:=fun x y H Q=>oy x y=true∧Q (.bl (decide (x=y))) H
def DG:R2:=fun x y H Q=>oy x y=true∧Q (.bl (!decide (x=y))) H
theorem sS{i j:Int}:decide (V.int i=V.int j)=(i == j):=by
 rw[Bool.eq_iff_iff]
 simp
theorem wA{i j:Bool}:decide (V.bl i=V.bl j)=(i == j):=by
 rw[Bool.eq_iff_iff]
 simp
theorem sK{i j:Str}:decide (V.str i=V.str j)=(i == j):=by
 rw[Bool.eq_iff_iff]
 simp
theorem tK{i j:Array UInt8}:decide (V.byt i=V.byt j)=(i.toList == j.toList):=by
 rw[Bool.eq_iff_iff]
 cases i
 cases j
 simp
section
variable{X:Cx}{a b c:Expr}{ta tb tc:TE}{pos:Pos}
theorem bB{pins:List (Addr × Obj)}{σ : St}{H:Hp}{s:Shared}{Q:VK}{k k':Bool}(I:Inv X pins σ H s)(q:Q (.bl k) H)(e:k=k'):EP X pins σ Q (.bool k') s:=by
 subst e
 exact⟨.bl k,H,I,rfl,q⟩
theorem Dn:OpR X (compareOp .Eq) DZ:=by
 intro pins s σ H x y v u Q I rx ry h
 obtain⟨hs,q⟩:=h
 cases x with
 | non=>
  cases rx
  cases y with
  | non=>cases ry; exact PySem.EqNone.eq_none_none (bB I q (by simp))
  | bl j=>cases ry; exact PySem.EqNone.eq_none_bool (bB I q (by simp))
  | int j=>obtain⟨t',rfl⟩:=ry; exact PySem.EqNone.eq_none_int (bB I q (by simp))
  | str j=>obtain⟨t',rfl⟩:=ry; exact PySem.EqNone.eq_none_str (bB I q (by simp))
  | _=>exact absurd (show false=true from hs) Bool.false_ne_true
 | bl i=>
  cases rx
  cases y with
  | non=>cases ry; exact PySem.EqNone.eq_bool_none (bB I q (by simp))
  | bl j=>cases ry; exact eq_bool (bB I q wA)
  | str j=>obtain⟨t',rfl⟩:=ry; exact PySem.EqMixed.eq_bool_str (bB I q (by simp))
  | _=>exact absurd (show false=true from hs) Bool.false_ne_true
 | int i=>
  obtain⟨t,rfl⟩:=rx
  cases y with
  | non=>cases ry; exact PySem.EqNone.eq_int_none (bB I q (by simp))
  | int j=>obtain⟨t',rfl⟩:=ry; exact eq_int (bB I q sS)
  | str j=>obtain⟨t',rfl⟩:=ry; exact PySem.EqMixed.eq_int_str (bB I q (by simp))
  | _=>exact absurd (show false=true from hs) Bool.false_ne_true
 | str i=>
  obtain⟨t,rfl⟩:=rx
  cases y with
  | non=>cases ry; exact PySem.EqNone.eq_str_none (bB I q (by simp))
  | bl j=>cases ry; exact PySem.EqMixed.eq_str_bool (bB I q (by simp))
  | int j=>obtain⟨t',rfl⟩:=ry; exact PySem.EqMixed.eq_str_int (bB I q (by simp))
  | str j=>obtain⟨t',rfl⟩:=ry; exact eq_str (bB I q sK)
  | _=>exact absurd (show false=true from hs) Bool.false_ne_true
 | byt i=>
  obtain⟨t,rfl⟩:=rx
  cases y with
  | byt j=>obtain⟨t',rfl⟩:=ry; exact PySem.W.eq_bytes (bB I q tK)
  | _=>exact absurd (show false=true from hs) Bool.false_ne_true
 | _=>cases y <;> exact absurd (show false=true from hs) Bool.false_ne_true
theorem Dp:OpR X (compareOp .NotEq) DG:=by
 intro pins s σ H x y v u Q I rx ry h
 obtain⟨hs,q⟩:=h
 cases x with
 | non=>
  cases rx
  cases y with
  | non=>cases ry; exact PySem.EqNone.ne_none_none (bB I q (by simp))
  | bl j=>cases ry; exact PySem.EqNone.ne_none_bool (bB I q (by simp))
  | int j=>obtain⟨t',rfl⟩:=ry; exact PySem.EqNone.ne_none_int (bB I q (by simp))
  | str j=>obtain⟨t',rfl⟩:=ry; exact PySem.EqNone.ne_none_str (bB I q (by simp))
  | _=>exact absurd (show false=true from hs) Bool.false_ne_true
 | bl i=>
  cases rx
  cases y with
  | non=>cases ry; exact PySem.EqNone.ne_bool_none (bB I q (by simp))
  | bl j=>cases ry; exact ne_bool (bB I q (congrArg not wA))
  | str j=>obtain⟨t',rfl⟩:=ry; exact PySem.EqMixed.ne_bool_str (bB I q (by simp))
  | _=>exact absurd (show false=true from hs) Bool.false_ne_true
 | int i=>
  obtain⟨t,rfl⟩:=rx
  cases y with
  | non=>cases ry; exact PySem.EqNone.ne_int_none (bB I q (by simp))
  | int j=>obtain⟨t',rfl⟩:=ry; exact ne_int (bB I q (congrArg not sS))
  | str j=>obtain⟨t',rfl⟩:=ry; exact PySem.EqMixed.ne_int_str (bB I q (by simp))
  | _=>exact absurd (show false=true from hs) Bool.false_ne_true
 | str i=>
  obtain⟨t,rfl⟩:=rx
  cases y with
  | non=>cases ry; exact PySem.EqNone.ne_str_none (bB I q (by simp))
  | bl j=>cases ry; exact PySem.EqMixed.ne_str_bool (bB I q (by simp))
  | int j=>obtain⟨t',rfl⟩:=ry; exact PySem.EqMixed.ne_str_int (bB I q (by simp))
  | str j=>obtain⟨t',rfl⟩:=ry; exact ne_str (bB I q (congrArg not sK))
  | _=>exact absurd (show false=true from hs) Bool.false_ne_true
 | byt i=>
  obtain⟨t,rfl⟩:=rx
  cases y with
  | byt j=>obtain⟨t',rfl⟩:=ry; exact PySem.W.ne_bytes (bB I q (congrArg not tK))
  | _=>exact absurd (show false=true from hs) Bool.false_ne_true
 | _=>cases y <;> exact absurd (show false=true from hs) Bool.false_ne_true
theorem Dl:OpR X (compareOp .Lt) (fY fun i j=>.bl (decide (i<j))):=xT fun _ _ _ _ _ _ _ q=>lt_int q
theorem d9:OpR X (compareOp .LtE) (fY fun i j=>.bl (decide (i≤j))):=xT fun _ _ _ _ _ _ _ q=>le_int q
theorem iz:OpR X (compareOp .Gt) (fY fun i j=>.bl (decide (j<i))):=xT fun _ _ _ _ _ _ _ q=>gt_int q
theorem vC:OpR X (compareOp .Lt) (fun x y H Q=>∃ i j,x = .str i∧y = .str j∧Q (.bl (decide (i.cps.toList<j.cps.toList))) H):=by
 intro pins s σ H x y v u Q I rx ry h
 obtain⟨i,j,rfl,rfl,q⟩:=h
 obtain⟨t,rfl⟩:=rx
 obtain⟨t',rfl⟩:=ry
 exact lt_str (bB I q rfl)
theorem wt:OpR X (compareOp .In) (fun x y H Q=>∃ i j,x = .str i∧y = .str j∧Q (.bl (!(Builtin.Str.occurrences j i 0 j.length 1).isEmpty)) H):=by
 intro pins s σ H x y v u Q I rx ry h
 obtain⟨i,j,rfl,rfl,q⟩:=h
 obtain⟨t,rfl⟩:=rx
 obtain⟨t',rfl⟩:=ry
 exact in_str (bB I q rfl)
theorem CK:OpR X (compareOp .Is) (fun x y H Q=>y = .non∧Q (.bl (decide (x = .non))) H):=by
 intro pins s σ H x y v u Q I rx ry h
 obtain⟨rfl,q⟩:=h
 cases ry
 refine is_none_gen (bB I q ?_)
 cases x <;> first
  | (cases rx; rfl)
  | (obtain⟨t,rfl⟩:=rx; rfl)
theorem qu:OpR X (compareOp .NotIn) (fun x y H Q=>∃ i j,x = .str i∧y = .str j∧Q (.bl (!(!(Builtin.Str.occurrences j i 0 j.length 1).isEmpty))) H):=by
 intro pins s σ H x y v u Q I rx ry h
 obtain⟨i,j,rfl,rfl,q⟩:=h
 obtain⟨t,rfl⟩:=rx
 obtain⟨t',rfl⟩:=ry
 exact notIn_str (bB I q rfl)
theorem aG(b:Expr){op:CmpOp}(h:op ≠ .In:=by decide)(h2:op ≠ .NotIn:=by decide):behindInMarks op b=false:=by
 have e1:(op == CmpOp.In)=false:=by cases op <;> first | rfl | exact absurd rfl h
 have e2:(op == CmpOp.NotIn)=false:=by cases op <;> first | rfl | exact absurd rfl h2
 cases b <;> simp[behindInMarks,e1,e2]
theorem cj{op:CmpOp}{r:R2}(ho:OpR X (compareOp op) r)(ha:PE X a ta)(hb:PE X b tb)(hm:behindInMarks op b=false):PE X (.Compare a [op] [b] pos) (b7 r ta tb):=by
 intro pins s σ H Q I h
 exact wpAny_Compare1 (yd ha hb I h fun v u s2 x y H2 I2 rx ry q=>ho pins s2 σ H2 x y v u Q I2 rx ry q) hm
def fc(t:TE):TT:=fun σ H Q=>t σ H fun x H'=>∃ k,x = .bl k∧Q k H'
theorem aH{op:CmpOp}{r:R2}(ho:OpR X (compareOp op) r)(ha:PE X a ta)(hb:PE X b tb)(hm:behindInMarks op b=false):PT X (.Compare a [op] [b] pos) (fc (b7 r ta tb)):=by
 intro pins s σ H Q I h
 refine wpAny_isTrue_Compare1 (bo (ha pins s σ H _ I h) fun v s1 ⟨x,H1,I1,r1,q1⟩=>bo (hb pins s1 σ H1 _ I1 q1) fun u s2 ⟨y,H2,I2,r2,q2⟩=>
  bo (ho pins s2 σ H2 x y v u _ I2 r1 r2 q2) fun c s3 ⟨z,H3,I3,r3,k,e,q3⟩=>?_) hm
 subst e
 cases r3
 exact wpAny_truthy_bool ⟨H3,I3,q3⟩
def rb(r r':R2)(ta tb tc:TE):TE:=fun σ H Q=>ta σ H fun x H1=>tb σ H1 fun y H2=>r x y H2 fun z H3=>∃ k,z = .bl k∧
 (if k=true then tc σ H3 fun w' H4=>r' y w' H4 Q else Q (.bl false) H3)
theorem kS{op op':CmpOp}{r r':R2}(ho:OpR X (compareOp op) r)(ho':OpR X (compareOp op') r')(ha:PE X a ta)(hb:PE X b tb)(hc:PE X c tc)
  (hm:lastMarks [op,op'] [b,c]=false:=by with_unfolding_all rfl):PT X (.Compare a [op,op'] [b,c] pos) (fc (rb r r' ta tb tc)):=by
 intro pins s σ H Q I h
 refine isTrue_chain (bo (ha pins s σ H _ I h) fun v s1 ⟨x,H1,I1,r1,q1⟩=>test_link (bo (hb pins s1 σ H1 _ I1 q1) fun u s2 ⟨y,H2,I2,r2,q2⟩=>
  bo (ho pins s2 σ H2 x y v u _ I2 r1 r2 q2) fun d s3 ⟨z,H3,I3,r3,k,e,q3⟩=>?_)) hm
 subst e
 cases r3
 refine wpAny_truthy_bool ?_
 cases k with
 | false=>
  obtain⟨k',e',q'⟩:=q3
  cases e'
  exact ite_ff ⟨H3,I3,q'⟩
 | true=>
  refine ite_tt (test_last (bo (hc pins s3 σ H3 _ I3 q3) fun w' s4 ⟨z',H4,I4,r4,q4⟩=>bo (ho' pins s4 σ H4 y z' u w' _ I4 r2 r4 q4) fun d' s5 ⟨z2,H5,I5,r5,k2,e2,q5⟩=>?_))
  subst e2
  cases r5
  exact wpAny_truthy_bool ⟨H5,I5,q5⟩
theorem lv:(sizeLine:Nat)<2 ^ 63:=by rw[sizeLine_eq]; decide
theorem tZ:OpR X (binaryOp .Add) (fun x y H Q=>∃ i j,x = .str i∧y = .str j∧i.length+j.length≤sizeLine∧Q (.str (i++j)) H):=by
 intro pins s σ H x y v u Q I rx ry h
 obtain⟨i,j,rfl,rfl,hz,q⟩:=h
 obtain⟨t,rfl⟩:=rx
 obtain⟨t',rfl⟩:=ry
 exact add_str (fun t' tk=>⟨.str (i++j),H,I.tok _,⟨_,rfl⟩,q⟩) hz
theorem df{x:V}{us:List Value}(r:Vals [x] us):∃ u,us=[u]∧RelV x u:=by
 cases r with
 | cons r1 r2=>cases r2; exact⟨_,rfl,r1⟩
theorem pU{x y:V}{us:List Value}(r:Vals [x,y] us):∃ u w',us=[u,w']∧RelV x u∧RelV y w':=by
 cases r with
 | cons r1 r2=>
  cases r2 with
  | cons r3 r4=>cases r4; exact⟨_,_,rfl,r1,r3⟩
theorem yi:CallR X (.builtin "abs") (fun xs H Q=>∃ i,xs=[.int i]∧Q (.int (if i<0 then -i else i)) H):=by
 intro pins s σ H xs us Q I r h
 obtain⟨i,rfl,q⟩:=h
 obtain⟨u,rfl,t,rfl⟩:=df r
 exact call_abs_int fun u tk=>⟨.int (if i<0 then -i else i),H,I.tok _,⟨_,rfl⟩,q⟩
theorem vt:CallR X (.type "int") (fun xs H Q=>(∃ i,xs=[.int i]∧Q (.int i) H)∨∃ k,xs=[.bl k]∧Q (.int (if k then 1 else 0)) H):=by
 intro pins s σ H xs us Q I r h
 rcases h with ⟨i,rfl,q⟩ | ⟨k,rfl,q⟩
 ·obtain⟨u,rfl,t,rfl⟩:=df r
  exact call_int_int ⟨.int i,H,I,⟨_,rfl⟩,q⟩
 ·obtain⟨u,rfl,r1⟩:=df r
  cases r1
  exact call_int_bool ⟨.int (if k then 1 else 0),H,I.tok _,⟨_,rfl⟩,q⟩
theorem lQ:CallR X (.type "str") (fun xs H Q=>∃ i,xs=[.int i]∧i.natAbs.log2<1920∧Q (.str (toString i)) H):=by
 intro pins s σ H xs us Q I r h
 obtain⟨i,rfl,hz,q⟩:=h
 obtain⟨u,rfl,t,rfl⟩:=df r
 exact PySem.P.str_of_int hz ⟨.str _,H,I.tok _,⟨_,rfl⟩,q⟩
end
end L2
namespace L2
open PySem PySem.Spec PyProof.Rows
structure ObjM (h:Heap) (x dx C:Addr) (mA:Str→Option Value):Prop where
 obj:h.get? x=some (PySem.W.instObj C dx)
 ns:h.Ns1 dx mA
 ne:dx≠x
theorem v1{h:Heap}{dx:Addr}{mA:Str→Option Value}(n:h.Ns1 dx mA):∃ od,h.get? dx=some od∧∀ name,PySem.W.lookIn name od=some (mA name):=by
 obtain⟨o,es,ep,ho,hd,hk,_,hm⟩:=n
 refine⟨o,ho,fun name=>?_⟩
 have e:=hm name
 unfold nsFind findBy at e
 rw[← Array.find?_toList]at e
 unfold PySem.W.lookIn
 rw[hd]
 dsimp only
 split
 ·rename_i y q
  rw[q]at e
  exact congrArg some e
 ·rename_i q
  rw[q]at e
  have a:es.toList.any (·.refKey)=false:=by
   rw[List.any_eq_false]
   intro y hy
   obtain⟨z,t,hkey⟩:=hk y (Array.mem_toList_iff.mp hy)
   simp[DictEntry.refKey,hkey]
  have a':¬ es.toList.any (·.refKey)=true:=by rw[a]; exact Bool.false_ne_true
  rw[if_neg a']
  exact congrArg some e
theorem ObjM.look{h:Heap}{x dx C:Addr}{mA:Str→Option Value}(I:ObjM h x dx C mA):∃ od,PySem.W.InstAt h x (PySem.W.instObj C dx) C (some od)∧∀ name,PySem.W.lookIn name od=some (mA name):=
 let ⟨od,ho,hl⟩:=v1 I.ns
 ⟨od,⟨I.obj,rfl,rfl,ho⟩,hl⟩
section
variable{prog:Program}{w:World}{A:Around}{E:Value→Shared→Prop}{s:Shared}{K:PySem.W.Frag}{x dx C f:Addr}{mA:Str→Option Value}{name:Str}{v:Value}
end
def AX(f:Str)(v:V):List (Str × V)→List (Str × V)
 | []=>[(f,v)]
 | (g,x)::r=>if g=f then (g,v)::r else (g,x)::AX f v r
theorem RelO.some_of{v:V}{o:Option Value}(r:RelO (some v) o):∃ u,o=some u∧RelV v u:=by
 cases o with
 | none=>exact(show False from r).elim
 | some u=>exact⟨u,rfl,r⟩
section
variable{P:Program}{w:World}{H H':Hp}{h h':Heap}{a C dx:Addr}{fs fs':List (Str × V)}
theorem Ay(hok:HOk P w H h)(e:H a=some (.ins C dx fs)):∃ mA,ObjM h a dx C mA∧(∀ f,RelO (fs.lookup f) (mA f))∧PySem.Within mA (fs.map (·.1))∧fs.length≤1000∧H dx=some (.own a):=by
 obtain⟨d,z,ne,ob,mA,n,r,q⟩:=(show ObjOk P w H h a (.ins C dx fs) from hok a _ e)
 exact⟨mA,⟨ob,n,ne⟩,r,q,z,d⟩
end
structure Cls (K:PySem.W.Frag) (C:Addr):Prop where
 pg:PySem.W.plainGet K C Str.empty=true
 hd:PySem.W.hasDictIn K C=true
 po:PySem.W.plainOver K C=true
 sa:PySem.W.findIn K (.ref C) "__setattr__" = some (some (.builtin "object.__setattr__"))
theorem Cls.get{K:PySem.W.Frag}{C:Addr}(c:Cls K C)(f:Str):PySem.W.plainGet K C f=true:=c.pg
section
variable{X:Cx}{pins:List (Addr × Obj)}{σ : St}{H:Hp}{s:Shared}{a C dx:Addr}{fs:List (Str × V)}{f:Str}{v:V}{A:Around}{E:Value→Shared→Prop}
end
section
variable{X:Cx}{o e value:Expr}{f:Str}{pos pos' tpos:Pos}{ta tv:TE}
end
section
variable{X:Cx}{pins:List (Addr × Obj)}{σ : St}{H:Hp}{s:Shared}{A:Around}{E:Value→Shared→Prop}{Q:Value→Shared→Prop}{c:Value}{b:Bool}
inductive gN (K:PySem.W.Frag) (H:Hp):V→Value→Prop where
 | non:gN K H .non (.type "NoneType")
 | bl (x:Bool):gN K H (.bl x) (.type "bool")
 | int (i:Int):gN K H (.int i) (.type "int")
 | str (x:Str):gN K H (.str x) (.type "str")
 | flt (x:UInt64):gN K H (.flt x) (.type "float")
 | lst {a:Addr} {xs:List V} (e:H a=some (.lst xs)):gN K H (.ref a) (.type "list")
 | frz {a:Addr} {o:Obj} {xs:List V} (e:H a=some (.frz o (.lst xs))):gN K H (.ref a) (.type "list")
 | tup {a:Addr} {xs:List V} (e:H a=some (.tup xs)):gN K H (.ref a) (.type "tuple")
 | dK {a:Addr} {kvs:List (bT × V)} (e:H a=some (.dK kvs)):gN K H (.ref a) (.type "dict")
 | dT {a:Addr} {kvs:List (List bT × V)} (e:H a=some (.dT kvs)):gN K H (.ref a) (.type "dict")
 | ins {a C dx:Addr} {fs:List (Str × V)} (e:H a=some (.ins C dx fs)) (cl:Cls K C) (ha:PySem.W.findIn K (.ref C) "__class__" = some (some (.builtin "object.__class__")))
   (hn:PySem.W.specialIn K (.builtin "object.__class__") "__get__" = some (some (.builtin "getset_descriptor.__get__"))) (htk:PySem.W.takesIn K (.builtin "object.__class__")=some true)
   (hm:PySem.W.mroIn K C (.type "object")=some true):gN K H (.ref a) (.ref C)
theorem wW{x:V}{u t:Value}(I:Inv X pins σ H s)(rx:RelV x u)(ty:gN X.K H x t)(e:PySem.W.kitOne X.K t c=some b)(h:∀ tk,Q (.bool b) { s with toks:=tk }) :
  wpAny (model X.prog X.w) A (call (.builtin "isinstance") [u,c]) Q E s:=by
 cases ty with
 | non=>cases (show u=Value.none from rx); exact PySem.W.kia_one PySem.W.kitx_none I.kIn True.intro e (fun z=>nomatch z) h
 | bl y=>cases (show u=Value.bool y from rx); exact PySem.W.kia_one PySem.W.kitx_bool I.kIn True.intro e (fun z=>nomatch z) h
 | int i=>obtain⟨t,q⟩:=(show ∃ t,u=Value.int i t from rx); cases q; exact PySem.W.kia_one PySem.W.kitx_int I.kIn True.intro e (fun z=>nomatch z) h
 | str y=>obtain⟨t,q⟩:=(show ∃ t,u=Value.str y t from rx); cases q; exact PySem.W.kia_one PySem.W.kitx_str I.kIn True.intro e (fun z=>nomatch z) h
 | flt y=>obtain⟨t,q⟩:=(show ∃ t,u=Value.float y t from rx); cases q; exact PySem.W.kia_one PySem.W.kitx_float I.kIn True.intro e (fun z=>nomatch z) h
 | @lst a xs ea=>
  cases (show u=Value.ref a from rx)
  obtain⟨_,_,n,_,h1⟩:=(show ObjOk X.prog X.w H s.heap a (.lst xs) from I.hok a _ ea)
  exact PySem.W.kia_one PySem.W.kitx_list I.kIn ⟨_,h1,rfl⟩ e (fun z=>nomatch z) h
 | @frz a ob xs ea=>
  cases (show u=Value.ref a from rx)
  obtain⟨_,_,_,n,_,h1⟩:=(show ObjOk X.prog X.w H s.heap a (.frz ob (.lst xs)) from I.hok a _ ea)
  exact PySem.W.kia_one PySem.W.kitx_list I.kIn ⟨_,h1,rfl⟩ e (fun z=>nomatch z) h
 | @tup a xs ea=>
  cases (show u=Value.ref a from rx)
  obtain⟨_,_,_,p⟩:=(show ObjOk X.prog X.w H s.heap a (.tup xs) from I.hok a _ ea)
  obtain⟨o,h1,h2,_⟩:=p
  exact PySem.W.kia_one PySem.W.kitx_tuple I.kIn ⟨o,h1,h2⟩ e (fun z=>nomatch z) h
 | @dK a kvs ea=>
  cases (show u=Value.ref a from rx)
  obtain⟨_,_,vs,_,p⟩:=(show ObjOk X.prog X.w H s.heap a (.dK kvs) from I.hok a _ ea)
  obtain⟨o,es,ep,h1,h2,_⟩:=p
  exact PySem.W.kia_one PySem.W.kitx_dict I.kIn ⟨o,h1,h2.1⟩ e (fun z=>nomatch z) h
 | @dT a kvs ea=>
  cases (show u=Value.ref a from rx)
  obtain⟨_,_,xs,_,o,es,ep,h1,h2,_⟩:=(show ObjOk X.prog X.w H s.heap a (.dT kvs) from I.hok a _ ea)
  exact PySem.W.kia_one PySem.W.kitx_dict I.kIn ⟨o,h1,h2.1⟩ e (fun z=>nomatch z) h
 | @ins a C dx fs ea cl ha hn htk hm=>
  cases (show u=Value.ref a from rx)
  obtain⟨mA,O,_⟩:=Ay I.hok ea
  obtain⟨od,J,_⟩:=O.look
  exact PySem.W.kia_one (PySem.W.kitx_own (cl.get _) cl.hd ha hn htk hm) I.kIn J e (fun z=>nomatch z) h
end
end L2
namespace L2
open PySem PySem.Spec PyProof.Rows
structure Room (k:Nat) (A:Around):Prop where
 hd:A.handled=none
 dp:A.depth+3 * k+5<recursionLimit
 un:A.units+16 * k+200<cLine
theorem Room.mono{j k:Nat}{A:Around}(r:Room k A)(h:j≤k):Room j A:=⟨r.hd,by have:=r.dp; omega,by have:=r.un; omega⟩
theorem Room.deeper{k:Nat}{A:Around}(r:Room (k+1) A)(env:Env):Room k (A.deeper env):=
 ⟨r.hd,by have:=r.dp; show A.depth+1+3 * k+5<_; omega,by have:=r.un; show A.units+3+16 * k+200<_; omega⟩
theorem Room.depth{k:Nat}{A:Around}(r:Room k A):A.depth<recursionLimit:=by have:=r.dp; omega
def cV:TA:=fun _ H Q=>Q [] H
def bQ(ta:TE)(tr:TA):TA:=fun σ H Q=>ta σ H fun x H1=>tr σ H1 fun xs H2=>Q (x::xs) H2
section
variable{X:Cx}{e:Expr}{es:List Expr}{te:TE}{t:TA}{pos:Pos}
theorem ac:PA X [] cV:=fun _ _ _ _ H Q I h=>Calls.spliced_nil ⟨[],H,I,.nil,h⟩
theorem aa(ha:PE X e te)(hr:PA X es t)(hs:starEach (e::es) X.env=(false,eval e X.env)::starEach es X.env:=by rfl):PA X (e::es) (bQ te t):=by
 intro pos pins s σ H Q I h
 rw[hs]
 show wpAny _ _ (spliced ((false,eval e X.env)::backTo pos (starEach es X.env))) _ _ s
 refine Calls.spliced_cons (bo (ha pins s σ H _ I h) fun u s1 ⟨x,H1,I1,r1,q1⟩=>?_)
 exact bo (hr pos pins s1 σ H1 _ I1 q1) fun us s2 ⟨xs,H2,I2,r2,q2⟩=>⟨x::xs,H2,I2,.cons r1 r2,q2⟩
def qe(t:TA):TE:=fun σ H Q=>t σ H fun xs H1=>xs.length≤sizeLine∧∀ p,H1 p=none→Q (.ref p) (upd H1 p (.tup xs))
def gE(t:TA):TE:=fun σ H Q=>t σ H fun xs H1=>xs.length≤sizeLine∧∀ p,H1 p=none→Q (.ref p) (upd H1 p (.lst xs))
theorem dM{x1}(h:PA X es t):PE X (.Tuple es x1 pos) (qe t):=by
 intro pins s σ H Q I hq
 refine wpAny_Tuple_spliced (bo (h pos pins s σ H _ I hq) fun us s1 ⟨xs,H1,I1,r,z,q⟩=>⟨by rw[← r.length]; exact z,?_⟩)
 have hf:H1 s1.heap.objs.size=none:=I1.hok.fresh (Nat.le_refl _)
 refine⟨.ref s1.heap.objs.size,upd H1 s1.heap.objs.size (.tup xs),I1.laid (t':=s1.toks) (fun b u e=>Heap.get?_push_of_some _ e) (Nat.le_refl _) ?_,rfl,q _ hf⟩
 exact⟨z,us,r,⟨_,Heap.get?_push_size _ rfl,rfl,rfl,_,rfl⟩⟩
theorem aT(h:PA X es t):PE X (.List es pos) (gE t):=by
 intro pins s σ H Q I hq
 refine wpAny_List_spliced (bo (h pos pins s σ H _ I hq) fun us s1 ⟨xs,H1,I1,r,z,q⟩=>⟨by rw[← r.length]; exact z,?_⟩)
 have hf:H1 s1.heap.objs.size=none:=I1.hok.fresh (Nat.le_refl _)
 refine⟨.ref s1.heap.objs.size,upd H1 s1.heap.objs.size (.lst xs),I1.laid (t':=s1.toks) (fun b u e=>Heap.get?_push_of_some _ e) (Nat.le_refl _) ?_,rfl,q _ hf⟩
 exact⟨z,us,0,r,Heap.get?_push_size _ rfl⟩
end
abbrev Sp:=List V→Hp→VK→XK→Prop
abbrev lb:=List Env→Hp→Shared→XK→Value→Shared→Prop
structure uu (P:Program) (w:World) (K:PySem.W.Frag) (mg:Str→Option Value) (base:Heap) (A:Around) (outer:List Env) (s:Shared) (H:Hp):Prop where
 frames:A.frames=some outer
 mod:Mod K mg base
 bs:∀ b o,base.get? b=some o→s.heap.get? b=some o∧H b=none
 bsz:base.objs.size≤s.heap.objs.size
 funs:s.heap.FunFrames base outer
 frf:∀ b∈fe outer,H b=none
 hok:HOk P w H s.heap
 bare:AllBare s.gens
def CE(outer:List Env)(P:Program)(w:World)(H:Hp)(s:Shared)(Q:VK)(u:Value)(s':Shared):Prop:=
 ∃ v H',s'.os=s.os∧AllBare s'.gens∧Un (fe outer) [] H H' s.heap s'.heap∧HOk P w H' s'.heap∧RelV v u∧Q v H'
def CR(CX:lb)(outer:List Env)(P:Program)(w:World)(H:Hp)(s:Shared)(Q:VK)(E:XK)(r:Result)(s':Shared):Prop:=
 match r with
 | .ok (.ret u)=>CE outer P w H s Q u s'
 | .ok _=>False
 | .error e=>CX outer H s E e s'
structure jk (P:Program) (w:World) (K:PySem.W.Frag) (mg:Str→Option Value) (base:Heap) (CX:lb) (k:Nat) (f:Addr) (fd:FuncData) (ps:List Str) (sp:Sp):Prop where
 len:∀ vs H Q E,sp vs H Q E→vs.length=ps.length
 run:∀ (A:Around) (outer:List Env) (s:Shared) (H:Hp) (args:Args) (us:List Value) (vs:List V) (Q:VK) (E:XK),Room k A→uu P w K mg base A outer s H→BindsTo s fd args (ps.zip us)→Vals vs us→sp vs H Q E→
  codeAny (model P w) A (.call (.ref f) args) (CR CX outer P w H s Q E) s
section
variable{X:Cx}{pins:List (Addr × Obj)}{σ : St}{H:Hp}{s s':Shared}
theorem Inv.env0(I:Inv X pins σ H s):uu X.prog X.w X.K X.mg X.base X.A X.stack s H:=
 ⟨I.ok.frames,I.ok.mod,I.bs,Nat.le_trans I.ok.bsz I.sz,I.stack,I.stkFree,I.hok,I.bare⟩
theorem Inv.after{Q:VK}{u:Value}(I:Inv X pins σ H s)(h:CE X.stack X.prog X.w H s Q u s'):EP X pins σ Q u s':=by
 obtain⟨v,H',os,bare,un,hok,r,q⟩:=h
 obtain⟨hh,g,d,t,os'⟩:=s'
 obtain rfl:os'=s.os:=os
 exact⟨v,H',I.call (h':=hh) (g':=g) (d':=d) (t':=t) (ch:=[]) un hok bare (fun b z=>absurd z (by simp)),r,q⟩
end
def p8(sp:Sp)(dvs:List V)(E:XK)(t:TA):TE:=fun σ H Q=>t σ H fun vs H1=>sp (vs++dvs) H1 Q E
def Binds(K:PySem.W.Frag)(fd:FuncData)(ps:List Str)(ds:List Value):Prop:=
 ∀ (s:Shared) (us:List Value),K.In s.heap→(us++ds).length=ps.length→BindsTo s fd ⟨us,[]⟩ (ps.zip (us++ds))
theorem Binds.all{K:PySem.W.Frag}{fd:FuncData}{ps:List Str}(h:∀ us:List Value,us.length=ps.length→bindArgs fd ⟨us,[]⟩=pure (ps.zip us)):Binds K fd ps []:=fun s us _ hl=>by
 rw[List.append_nil]at hl ⊢
 exact .of_eq (h us hl)
def rG(CX:lb)(X:Cx)(E:XK):Prop:=∀ (pins:List (Addr × Obj)) (σ : St) (H:Hp) (s:Shared) (e:Value) (s':Shared),Inv X pins σ H s→CX X.stack H s E e s'→X.xe e s'
section
variable{X:Cx}{CX:lb}{k:Nat}{f C:Addr}{fd:FuncData}{ps:List Str}{sp:Sp}{dvs:List V}{ds:List Value}{E:XK}{x m:Str}{p pos apos:Pos}{e o:Expr}{es:List Expr}{ta:TE}{t:TA}
theorem Br{pins:List (Addr × Obj)}{σ : St}{H:Hp}{s:Shared}{Q:VK}{us:List Value}{vs:List V}(F:jk X.prog X.w X.K X.mg X.base CX k f fd ps sp)(hr:Room k X.A)(hb:Binds X.K fd ps ds)(hd:Vals dvs ds)(hx:rG CX X E)
  (I:Inv X pins σ H s) (r:Vals vs us) (h:sp (vs++dvs) H Q E):wpAny (model X.prog X.w) X.A (call (.ref f) us) (EP X pins σ Q) X.xe s:=by
 have r2:Vals (vs++dvs) (us++ds):=r.append hd
 have hl:(us++ds).length=ps.length:=by rw[← r2.length]; exact F.len _ _ _ _ h
 refine wpAny_call (codeAny_mono (F.run X.A X.stack s H ⟨us,[]⟩ (us++ds) (vs++dvs) Q E hr I.env0 (hb s us I.kIn hl) r2 h) fun r s' hq=>?_)
 cases r with
 | error e=>exact hx pins σ H s e s' I hq
 | ok fl=>
  cases fl with
  | ret u=>exact I.after hq
  | next=>exact False.elim hq
  | brk=>exact False.elim hq
  | cont=>exact False.elim hq
theorem zL(F:jk X.prog X.w X.K X.mg X.base CX k f fd ps sp)(hr:Room k X.A)(hg:Gl X x)(hm:X.mg x=some (.ref f))(hk:PySem.W.keepIn X.K (.ref f)=true)(hb:Binds X.K fd ps ds)(hd:Vals dvs ds)(hx:rG CX X E)
  (ha:PA X (e::es) t) (hdb:(x == ("__debug__" : Str))=false:=by decide) (he:starEach (e::es) X.env=(false,eval e X.env)::starEach es X.env:=by rfl) (hpl:(backTo pos (starEach es X.env)).any (·.1)=false:=by rfl) :
  PE X (.Call (.Name x p) (e::es) [] pos) (p8 sp dvs E t):=by
 intro pins s σ H Q I h
 refine wpAny_Call_Name_kw (kf I hg hm ?_ hdb)
 refine PySem.W.callWith_K (h₀:=X.base) I.ok.mod.kin hk (bo (ha pos pins s σ H _ I h) fun us s1 ⟨vs,H1,I1,r,q⟩=>⟨I1.kIn,?_⟩) he hpl
 exact Br F hr hb hd hx I1 r q
end
section
variable{X:Cx}{CX:lb}{k:Nat}{f C:Addr}{fd:FuncData}{ps ks:List Str}{sp:Sp}{E:XK}{x m:Str}{p pos apos kpos:Pos}{e o:Expr}{es:List Expr}{kws:List Keyword}{te ta:TE}{t tk:TA}{nm:Option Str}
variable{g:List Value→List Value→List Value}{gV:List V→List V→List V}
end
structure bc (N P:List Str) (sc:Scope):Prop where
 kind:sc.kind = .function
 co:sc.isCoroutine=false
 gen:sc.isGenerator=false
 nd:N.Nodup
 pre:N.take P.length=P
 par:∀ x∈P,sc.names.lookup x=some .local∨sc.names.lookup x=some .cell
 nofree:∀ y∈sc.names,y.2 ≠ .free
theorem o7{kindOf:Str→Option NameKind}{x:Str}:∀ {binds:List (Str × Value)} {m:Str→Option Value},(∀ v,(x,v)∉binds)→bindL kindOf binds m x=m x
 | [],_,_=>rfl
 | (n,v)::r,m,h=>by
  unfold bindL
  rw[o7 fun w hw=>h w (List.mem_cons_of_mem _ hw)]
  split
  ·have:x≠n:=by rintro rfl; exact h v List.mem_cons_self
   simp[this]
  ·rfl
theorem pE{kindOf:Str→Option NameKind}{x:Str}:∀ {binds:List (Str × Value)} {m:Str→Option Value},(∀ v,(x,v)∉binds)→bindC kindOf binds m x=m x
 | [],_,_=>rfl
 | (n,v)::r,m,h=>by
  unfold bindC
  rw[pE fun w hw=>h w (List.mem_cons_of_mem _ hw)]
  split
  ·rfl
  ·have:x≠n:=by rintro rfl; exact h v List.mem_cons_self
   simp[this]
theorem oT{kindOf:Str→Option NameKind}{x:Str}{v:Value}:∀ {P:List Str} {vs:List Value} {i:Nat} {m:Str→Option Value},P.Nodup→P[i]? = some x→vs[i]? = some v→kindOf x=some .local→
  bindL kindOf (P.zip vs) m x=some v
 | [],_,_,_,_,h,_,_=>by simp at h
 | _::_,[],_,_,_,_,h,_=>by simp at h
 | p::P,w::vs,0,m,nd,h1,h2,hk=>by
  simp at h1 h2; subst h1; subst h2
  show bindL kindOf ((p,w)::P.zip vs) m p=_
  unfold bindL
  rw[o7 fun v hv=>(List.nodup_cons.mp nd).1 (List.of_mem_zip hv).1,if_pos hk]
  simp
 | p::P,w::vs,i+1,m,nd,h1,h2,hk=>by
  show bindL kindOf ((p,w)::P.zip vs) m x=_
  unfold bindL
  exact oT (i:=i) (List.nodup_cons.mp nd).2 (by simpa using h1) (by simpa using h2) hk
theorem pC{kindOf:Str→Option NameKind}{x:Str}{v:Value}:∀ {P:List Str} {vs:List Value} {i:Nat} {m:Str→Option Value},P.Nodup→P[i]? = some x→vs[i]? = some v→kindOf x≠some .local→
  bindC kindOf (P.zip vs) m x=some v
 | [],_,_,_,_,h,_,_=>by simp at h
 | _::_,[],_,_,_,_,h,_=>by simp at h
 | p::P,w::vs,0,m,nd,h1,h2,hk=>by
  simp at h1 h2; subst h1; subst h2
  show bindC kindOf ((p,w)::P.zip vs) m p=_
  unfold bindC
  rw[pE fun v hv=>(List.nodup_cons.mp nd).1 (List.of_mem_zip hv).1,if_neg hk]
  simp
 | p::P,w::vs,i+1,m,nd,h1,h2,hk=>by
  show bindC kindOf ((p,w)::P.zip vs) m x=_
  unfold bindC
  exact pC (i:=i) (List.nodup_cons.mp nd).2 (by simpa using h1) (by simpa using h2) hk
def start(N:List Str)(vs:List V):St:=vs.map some++List.replicate (N.length - vs.length) none
def kA(CX:lb)(P:Program)(w:World)(K:PySem.W.Frag)(mg:Str→Option Value)(base:Heap)(N:List Str)(qual:Str)(scope:Scope)(f:Addr)(cd:Value)(A:Around)(outer:List Env)(s:Shared)(H:Hp)(E:XK):Cx where
 prog:=P
 w:=w
 K:=K
 mg:=mg
 base:=base
 A:=A.deeper (envOfC qual scope s.heap.objs.size f cd)
 N:=N
 s₀:=s
 H₀:=H
 env:=envOfC qual scope s.heap.objs.size f cd
 outer:=outer
 stack:=envOfC qual scope s.heap.objs.size f cd::outer
 ex:=[]
 calm:=true
 fn:=fun _=>true
 pn:=[]
 xe:=fun e s'=>wpAny (model P w) (A.deeper (envOfC qual scope s.heap.objs.size f cd)) (leaving (envOfC qual scope s.heap.objs.size f cd) e) (fun _ s''=>CX outer H s E e s'') (fun e' s''=>CX outer H s E e' s'') s'
theorem rj{sc:Scope}{n:Nat}{x:Str}(h:sc.names.lookup x=some .cell):∃ c,(cellsFrom n sc.names []).lookup x=some c:=by
 have q:=PySem.W.cellsFrom_some sc.names n [] (.inl h)
 exact Option.isSome_iff_exists.mp q
theorem xc{CX:lb}{P:Program}{w:World}{K:PySem.W.Frag}{mg:Str→Option Value}{base:Heap}{N ps:List Str}{qual:Str}{scope:Scope}{f:Addr}{cd:Value}{A:Around}{outer:List Env}{s s1:Shared}{H:Hp}{E:XK}{us:List Value}{vs:List V}
  (S:bc N ps scope) (hd:A.handled=none) (e0:uu P w K mg base A outer s H) (hl:vs.length=ps.length) (r:Vals vs us)
  (x:InCallC s s.heap.objs.size (bindL (envOfC qual scope s.heap.objs.size f cd).kindOf (ps.zip us) fun _=>none) (cellsFrom (s.heap.objs.size+1) scope.names []) (bindC (envOfC qual scope s.heap.objs.size f cd).kindOf (ps.zip us) fun _=>none) s1) :
  Inv (kA CX P w K mg base N qual scope f cd A outer s H E) [] (start N vs) H s1:=by
 have hpl:ps.length≤N.length:=by have:=congrArg List.length S.pre; rw[List.length_take]at this; omega
 obtain⟨h1,tk,rfl,hk⟩:=x.done
 have noA:∀ b:Addr,b∉(kA CX P w K mg base N qual scope f cd A outer s H E).ex:=fun b z=>absurd (show b∈([]:List Addr) from z) (by simp)
 refine⟨⟨e0.mod,S.kind,rfl,rfl,Nat.le_refl _,fun y z c h1 h2=>?_,fun y hy=>?_,fun y c _ h=>?_,fun _=>hd,Around.frames_deeper e0.frames,.inr ⟨rfl,rfl⟩,fun b z=>absurd z (noA b),e0.bs,e0.bsz,fun b _ _=>noA b,fun b z=>absurd z (noA b),e0.funs,e0.frf⟩,
  rfl,e0.bare,Un.kept hk,⟨_,x.toInCall.ns,fun i y v h1 h2 h3=>?_⟩,fun y c h=>⟨_,x.cell y c h⟩,e0.hok.fresh (Nat.le_refl _),fun y c h=>?_,fun p hp=>absurd (show p∈([]:List (Addr × Obj)) from hp) (by simp),e0.hok.kept hk,?_⟩
 ·exact name_of_addr x.apart (PySem.mem_of_lookup h1) (PySem.mem_of_lookup h2)
 ·have hy:scope.names.lookup y=some .cell∨scope.names.lookup y=some .free:=hy
  rcases hy with hy | hy
  ·exact rj hy
  ·exact absurd rfl (S.nofree _ (PySem.mem_of_lookup hy))
 ·exact Nat.le_of_lt (x.above y c (PySem.mem_of_lookup h))
 ·have hi:i<vs.length:=by
   unfold start at h2
   by_cases hi:i<vs.length
   ·exact hi
   ·rw[List.getElem?_append_right (by simpa using hi)]at h2
    rw[List.getElem?_replicate]at h2
    split at h2 <;> cases h2
  have ha:vs[i]? = some v:=by
   unfold start at h2
   rw[List.getElem?_append_left (by simpa using hi),List.getElem?_map]at h2
   cases e:vs[i]? with
   | none=>rw[e]at h2; cases h2
   | some a=>rw[e]at h2; cases h2; rfl
  obtain⟨u,hu,rv⟩:=r.get ha
  have hp:ps[i]? = some y:=by
   rw[← S.pre,List.getElem?_take_of_lt (by omega)]; exact h1
  have ndP:ps.Nodup:=by rw[← S.pre]; exact S.nd.sublist (List.take_sublist _ _)
  refine⟨u,rv,?_⟩
  rcases S.par y (List.mem_of_getElem? hp) with k | k
  ·exact .inl ⟨k,oT ndP hp hu k⟩
  ·obtain⟨c,e⟩:=rj (n:=s.heap.objs.size+1) k
   refine .inr ⟨.inl k,c,e,?_⟩
   have q:=x.cell y c e
   rw[pC ndP hp hu (by show scope.names.lookup y≠_; rw[k]; decide)]at q
   exact q
 ·exact e0.hok.fresh (Nat.le_of_lt (x.above y c (PySem.mem_of_lookup h)))
 ·unfold start
  show _=N.length
  rw[List.length_append,List.length_map,List.length_replicate]
  omega
theorem zk{CX:lb}{P:Program}{w:World}{K:PySem.W.Frag}{mg:Str→Option Value}{base:Heap}{k:Nat}{f:Addr}{name qual:Str}{params:Arguments}{body:List Stmt}{scope:Scope}{dV kV doc pm cdv ct oc:Value}{an od:Option Addr}
  {osl:Array (Option Value)} {N ps:List Str} {sp:Sp} (lk:K.lookup f=some ⟨oc,od,.func (PySem.W.fnOf name qual params body scope dV kV doc pm an cdv ct),osl⟩) (hcd:PySem.W.codeIn K cdv qual=true) (S:bc N ps scope)
  (len:∀ vs H Q E,sp vs H Q E→vs.length=ps.length)
  (hbody:∀ (A:Around) (outer:List Env) (s:Shared) (H:Hp) (vs:List V) (Q:VK) (E:XK),Room k (A.deeper (envOfC qual scope s.heap.objs.size f cdv))→sp vs H Q E→
   ∃ t,PSs (kA CX P w K mg base N qual scope f cdv A outer s H E) body t∧t { nx:=fun _ H'=>Q .non H',rt:=Q } (start N vs) H) :
  jk P w K mg base CX (k+1) f (PySem.W.fnOf name qual params body scope dV kV doc pm an cdv ct) ps sp:=by
 refine⟨len,fun A outer s H args us vs Q E hr e0 hb r hsp=>?_⟩
 have hl:=len _ _ _ _ hsp
 have KX:K.In s.heap:=e0.mod.kin.keeps fun b o e=>(e0.bs b o e).1
 have lim:s.heap.NoLimit:=e0.mod.nolimit.keeps fun b o e=>(e0.bs b o e).1
 have hkind:∀ y∈ps.zip us,scope.names.lookup y.1=some .local∨(scope.names.lookup y.1=some .cell∧((cellsFrom (s.heap.objs.size+1) scope.names []).lookup y.1).isSome=true):=fun ⟨n,v⟩ hy=>by
  rcases S.par n (List.of_mem_zip hy).1 with q | q
  ·exact .inl q
  ·exact .inr ⟨q,PySem.W.cellsFrom_some _ _ _ (.inl q)⟩
 refine codeAny_call_function hr.depth (KX _ _ lk) rfl S.co S.gen rfl (PySem.W.codeRec_of KX hcd) (hb _ _ _ _ ?_)
 refine wpAny_newFunctionEnv_cells S.kind hkind fun env he s1 x=>?_
 subst he
 refine⟨lim.keeps x.toInCall.keep,codeAny_func ?_⟩
 obtain⟨t,ht,hq⟩:=hbody A outer s H vs Q E (hr.deeper _) hsp
 have I:Inv (kA CX P w K mg base N qual scope f cdv A outer s H E) [] (start N vs) H s1:=xc S hr.hd e0 hl r x
 refine wpAny_mono (ht [] s1 (start N vs) H _ I hq) (fun fl s' hs=>?_) fun e s' hs=>hs
 have fin:∀ {σ':St} {H':Hp} {v:V} {u:Value},Inv (kA CX P w K mg base N qual scope f cdv A outer s H E) [] σ' H' s'→RelV v u→Q v H'→CE outer P w H s Q u s':=
  fun {σ' H' v u} J rv q=>⟨v,H',J.os,J.bare,J.base,J.hok,rv,q⟩
 cases fl with
 | ret u=>
  obtain⟨v,σ',H',J,rv,q⟩:=hs
  exact fin J rv q
 | next=>
  obtain⟨σ',H',J,q⟩:=hs
  exact fin (v:=V.non) (u:=Value.none) J rfl q
 | brk=>
  obtain⟨_,_,_,q⟩:=hs
  exact False.elim q
 | cont=>
  obtain⟨_,_,_,q⟩:=hs
  exact False.elim q
end L2
namespace L2
open PySem PySem.Spec PyProof.Rows
section
variable{X:Cx}{x:Str}{p pos:Pos}{e:Expr}{es:List Expr}{t:TA}{id T:String}{r:List V→Hp→VK→Prop}
def pF(r:List V→Hp→VK→Prop)(t:TA):TE:=fun σ H Q=>t σ H fun vs H1=>r vs H1 Q
theorem yh(hc:CallR X (.builtin id) r)(hg:Gl X x)(hm:X.mg x=none)(hv:bootBuiltins x=some (.builtin id))(ha:PA X (e::es) t)(hn:x ≠ "__name__" := by decide) (hdb:(x == ("__debug__" : Str))=false:=by decide)
  (he:starEach (e::es) X.env=(false,eval e X.env)::starEach es X.env:=by rfl) (hpl:(backTo pos (starEach es X.env)).any (·.1)=false:=by rfl):PE X (.Call (.Name x p) (e::es) [] pos) (pF r t):=by
 intro pins s σ H Q I h
 refine wpAny_Call_Name_kw (lD I hg hm hv ?_ hn hdb)
 exact PyProof.Rows.callWith_builtin1 (bo (ha pos pins s σ H _ I h) fun us s1 ⟨vs,H1,I1,r1,q1⟩=>hc pins s1 σ H1 vs us Q I1 r1 q1) he hpl
theorem w5(hc:CallR X (.type T) r)(hg:Gl X x)(hm:X.mg x=none)(hv:bootBuiltins x=some (.type T))(ha:PA X (e::es) t)(hn:x ≠ "__name__" := by decide) (hdb:(x == ("__debug__" : Str))=false:=by decide)
  (he:starEach (e::es) X.env=(false,eval e X.env)::starEach es X.env:=by rfl) (hpl:(backTo pos (starEach es X.env)).any (·.1)=false:=by rfl):PE X (.Call (.Name x p) (e::es) [] pos) (pF r t):=by
 intro pins s σ H Q I h
 refine wpAny_Call_Name_kw (lD I hg hm hv ?_ hn hdb)
 exact PyProof.Rows.callWith_type1 (bo (ha pos pins s σ H _ I h) fun us s1 ⟨vs,H1,I1,r1,q1⟩=>hc pins s1 σ H1 vs us Q I1 r1 q1) he hpl
end
end L2
namespace HT
open PySem PyProof.Rows
section
open PySem.SeqAt
open PySem.AutoSeq1 (wpAny_loadPart')
open PySem.MeetsSeq PySem.MeetsSeq2 PySem.MeetsSeq3
end
section
variable{prog:Program}{w:World}{A:Around}{E:Value→Shared→Prop}{s:Shared}
theorem cat_tup{t b:Addr}{vs ws:List Value}{Q:Value→Shared→Prop}(ht:IsTup s.heap t vs.toArray)(hb:IsTup s.heap b ws.toArray)(hv:vs≠[])
  (h1:ws=[]→Q (.ref t) s) (h2:ws≠[]→Q (.ref s.heap.objs.size) { s with heap:=s.heap.push { cls:=.type "tuple", data:=.seq (vs++ws).toArray } })
  (hsz:vs.length+ws.length≤sizeLine):wpAny (model prog w) A (binaryOp .Add (.ref t) (.ref b)) Q E s:=by
 obtain⟨⟨cls,dd,data,sl⟩,ho,hc,n,hd⟩:=id ht
 obtain⟨⟨cls2,dd2,data2,sl2⟩,ho2,hc2,n2,hd2⟩:=id hb
 simp only at hc hd hc2 hd2
 subst hc hd hc2 hd2
 have e:vs.toArray++ws.toArray=(vs++ws).toArray:=by simp
 by_cases hw:ws=[]
 ·exact concat_meets ⟨_,ho,rfl⟩ ⟨_,ho2,rfl⟩ noFill_tuple_add seq_tuple_add PySem.F.slot_tuple_add PySem.F.entry_tuple_add (PySem.F.args_tuple_add_2 _ _)
   (tuple_addW1 t b vs.toArray ws.toArray n n2 dd dd2 sl sl2 (by simpa using hv) (by simp[hw])) ⟨ho,ho2,h1 hw⟩
 ·refine concat_meets ⟨_,ho,rfl⟩ ⟨_,ho2,rfl⟩ noFill_tuple_add seq_tuple_add PySem.F.slot_tuple_add PySem.F.entry_tuple_add (PySem.F.args_tuple_add_2 _ _)
   (tuple_addW2 t b vs.toArray ws.toArray n n2 dd dd2 sl sl2 (by simpa using hv) (by simpa using hw) (by rw[List.size_toArray,List.size_toArray]; exact hsz)) ⟨ho,ho2,?_⟩
  rw[e]
  exact h2 hw
def sIx(n d:Nat):Option Int→Nat
 | none=>d
 | some v=>if v<0 then (v+(n:Int)).toNat else min v.toNat n
theorem sIx_none(n d:Nat):sIx n d none=d:=rfl
theorem sIx_nat(n d k:Nat):sIx n d (some (k:Int))=min k n:=by
 show (if (k:Int)<0 then ((k:Int)+(n:Int)).toNat else min (k:Int).toNat n)=min k n
 rw[if_neg (by omega),Int.toNat_natCast]
theorem sIx_le(n d:Nat)(hd:d≤n)(o:Option Int):sIx n d o≤n:=by
 cases o with
 | none=>exact hd
 | some v=>
  show (if v<0 then (v+(n:Int)).toNat else min v.toNat n)≤n
  by_cases hv:v<0
  ·rw[if_pos hv]; omega
  ·rw[if_neg hv]; exact Nat.min_le_right _ _
theorem sN(v:Int)(n d:Nat):(if v<0 then max (v+(n:Int)) 0 else min v (n:Int))=((sIx n d (some v):Nat):Int):=by
 show (if v<0 then max (v+(n:Int)) 0 else min v (n:Int))=(((if v<0 then (v+(n:Int)).toNat else min v.toNat n):Nat):Int)
 by_cases hv:v<0
 ·simp only[if_pos hv]; omega
 ·simp only[if_neg hv]; omega
theorem vd(lo hi:Option Int)(n:Nat):Builtin.Slice.sliceAdjust lo hi 1 (n:Int)=(((sIx n 0 lo:Nat):Int),((sIx n n hi:Nat):Int)):=by
 have h1:¬ ((1:Int)<0):=by omega
 unfold Builtin.Slice.sliceAdjust
 simp only[h1,if_false]
 refine Prod.ext ?_ ?_
 ·cases lo with
  | none=>rfl
  | some v=>exact sN v n 0
 ·cases hi with
  | none=>rfl
  | some v=>exact sN v n n
theorem uR(i j:Nat):Builtin.Slice.slicePlaces (i:Int) (j:Int) 1=j - i:=by
 unfold Builtin.Slice.slicePlaces
 have h1:(1:Int)>0:=by omega
 simp only[h1,if_true,Int.ediv_one]
 split <;> omega
theorem nF{v:Value}{o:Option Int}{Q:Option Int→Shared→Prop}(p:IsPart v o)(h:Q o s):wpAny (model prog w) A (Builtin.Slice.slicePartIndex v) Q E s:=by
 cases p with
 | none=>exact slicePart_none h
 | int i t=>exact slicePart_int h
theorem sliceApplied_gen{sl:Addr}{vl vu:Value}{lo hi:Option Int}{n:Nat}{Q:Int × Int × Nat→Shared→Prop}(hs:s.heap.IsSliceOf sl vl vu .none)(pl:IsPart vl lo)(pu:IsPart vu hi)
  (h:Q (((sIx n 0 lo:Nat):Int),1,sIx n n hi - sIx n 0 lo) s):wpAny (model prog w) A (Builtin.Slice.sliceApplied (.ref sl) (pure (n:Int))) Q E s:=by
 obtain⟨os,hos,hcs,hds⟩:=id hs
 unfold Builtin.Slice.sliceApplied Builtin.Slice.sliceFields
 refine wpAny_bind (wpAny_bind (wpAny_field hos hds (x:=vl) rfl (wpAny_bind (wpAny_field hos hds (x:=vu) rfl (wpAny_bind (wpAny_field hos hds (x:=.none) rfl (wpAny_pure ?_)))))))
 refine wpAny_bind (slicePart_none ?_)
 show wpAny _ _ (if ((1:Int) == 0)=true then _ else _) _ _ s
 rw[if_neg (by decide)]
 refine wpAny_bind (nF pl (wpAny_bind (nF pu (wpAny_bind (wpAny_pure ?_)))))
 show wpAny _ _ (match Builtin.Slice.sliceAdjust lo hi 1 (n:Int) with | (lo,hi)=>pure (lo,(1:Int),Builtin.Slice.slicePlaces lo hi 1)) _ _ s
 rw[vd lo hi n]
 show wpAny _ _ (pure (((sIx n 0 lo:Nat):Int),(1:Int),Builtin.Slice.slicePlaces ((sIx n 0 lo:Nat):Int) ((sIx n n hi:Nat):Int) 1)) _ _ s
 rw[uR]
 exact wpAny_pure h
theorem x5(xs:Array Value)(i k:Nat):((List.range k).filterMap fun (m:Nat)=>xs[((i:Int)+(m:Int) * 1).toNat]?).toArray=((xs.toList.drop i).take k).toArray:=by
 have e:(fun (m:Nat)=>xs[((i:Int)+(m:Int) * 1).toNat]?)=fun m=>xs[i+m]?:=by
  funext m
  have:((i:Int)+(m:Int) * 1).toNat=i+m:=by omega
  rw[this]
 rw[e]
 have:=pick_run xs i k
 rw[List.filterMap_map]at this
 have e2:((fun x=>xs[x]?) ∘ fun x=>i+x)=fun m=>xs[i+m]?:=rfl
 rw[e2]at this
 rw[this]
theorem getItem_tuple_cut{t sl:Addr}{items:Array Value}{vl vu:Value}{lo hi:Option Int}{Q:Value→Shared→Prop}(ht:IsTup s.heap t items)(hs:s.heap.IsSliceOf sl vl vu .none)(pl:IsPart vl lo)(pu:IsPart vu hi)
  (hw:¬ (sIx items.size 0 lo=0∧sIx items.size items.size hi=items.size))
  (h:Q (.ref s.heap.objs.size) { s with heap:=s.heap.push { cls:=.type "tuple", data:=.seq ((items.toList.drop (sIx items.size 0 lo)).take (sIx items.size items.size hi - sIx items.size 0 lo)).toArray } })
  (hsz:items.size≤sizeLine):wpAny (model prog w) A (getItem (.ref t) (.ref sl)) Q E s:=by
 have htake:sizeOk (.seq ((items.toList.drop (sIx items.size 0 lo)).take (sIx items.size items.size hi - sIx items.size 0 lo)).toArray):=by
  show ((items.toList.drop (sIx items.size 0 lo)).take (sIx items.size items.size hi - sIx items.size 0 lo)).toArray.size≤sizeLine
  rw[List.size_toArray,List.length_take,List.length_drop,Array.length_toList]
  omega
 have hj:sIx items.size items.size hi≤items.size:=sIx_le _ _ (Nat.le_refl _) hi
 obtain⟨os,hos,hcs,hds⟩:=id hs
 have hTs:s.TypeIs (.ref sl) "slice" := ⟨os,hos,hcs⟩
 unfold getItem
 try with_reducible refine wpAny_holding ?_
 first | refine wpAny_bind (wpAny_pure ?_) | skip
 refine wpAny_bind (wpAny_sequenceKey ht.typeIs (by decide) ?_)
 refine wpAny_bind (wpAny_callSpecial?_slot (name:=Str.ofString "__getitem__") ht.typeIs PyProof.Rows.slot_tuple_getitem
  (wpAny_call_entry PyProof.Rows.slot_tuple_getitem ht.typeIs entry_tuple_getitem ?_ (args_tuple_getitem _ _)))
 show wpAny _ _ (Builtin.Tuple.tupleItemsOf (.ref t) >>= _) _ _ s
 refine wpAny_bind (tupleItemsOf_ ht ?_)
 refine wpAny_bind (wpAny_typeOf hTs ?_)
 rw[if_pos (by decide)]
 refine wpAny_bind (sliceApplied_gen hs pl pu ?_)
 have hno:¬ ((((sIx items.size 0 lo:Nat):Int) == 0&&(1:Int) == 1&&(sIx items.size items.size hi - sIx items.size 0 lo) == items.size)=true):=by
  intro q
  rw[Bool.and_eq_true,Bool.and_eq_true]at q
  have q1:((sIx items.size 0 lo:Nat):Int)=0:=eq_of_beq q.1.1
  have q2:sIx items.size items.size hi - sIx items.size 0 lo=items.size:=eq_of_beq q.2
  exact hw ⟨by omega,by omega⟩
 show wpAny _ _ (if (((sIx items.size 0 lo:Nat):Int) == 0&&(1:Int) == 1&&(sIx items.size items.size hi - sIx items.size 0 lo) == items.size)=true then _ else _) _ _ s
 rw[if_neg hno,x5]
 first
  | exact wpAny_bind (m:=Builtin.Tuple.tupleExact _) (wpAny_newObj_type (wpAny_pure ⟨_,rfl,wpAny_pure h⟩) htake)
  | exact wpAny_bind (m:=Builtin.Tuple.tupleExact _) (wpAny_newObj_type (wpAny_bind (wpAny_pure (wpAny_pure ⟨_,rfl,wpAny_pure h⟩))) htake)
  | exact wpAny_bind (wpAny_bind (m:=Builtin.Tuple.tupleExact _) (wpAny_newObj_type (wpAny_pure (wpAny_pure ⟨_,rfl,wpAny_pure h⟩)) htake))
  | exact wpAny_bind (wpAny_bind (m:=Builtin.Tuple.tupleExact _) (wpAny_newObj_type (wpAny_pure ⟨_,rfl,wpAny_pure h⟩) htake))
end
end HT
namespace L2
open PySem PySem.Spec PyProof.Rows
abbrev TO:=St→Hp→(Option Int→Hp→Prop)→Prop
def PO(X:Cx)(e:Option Expr)(t:TO):Prop:=
 ∀ (pins:List (Addr × Obj)) (s:Shared) (σ : St) (H:Hp) (Q:Option Int→Hp→Prop),Inv X pins σ H s→t σ H Q→
  wpAny (model X.prog X.w) X.A (evalPart e X.env) (fun u s'=>∃ o H',Inv X pins σ H' s'∧IsPart u o∧Q o H') X.xe s
def eP:TO:=fun _ H Q=>Q none H
def jF(t:TE):TO:=fun σ H Q=>t σ H fun x H1=>∃ i,x = .int i∧Q (some i) H1
theorem u3{ns:List Int}:∀ {us:List Value},Vals (ns.map V.int) us→IntsAre us ns:=by
 induction ns with
 | nil=>intro us r; rw[List.map_nil]at r; cases r; exact .nil
 | cons n ns ih=>
  intro us r
  rw[List.map_cons]at r
  cases r with
  | cons r1 r2=>
   obtain⟨t,e⟩:=r1
   subst e
   exact .cons n t (ih r2)
section
variable{X:Cx}{e:Expr}{te:TE}{lo hi:Option Expr}{tl th:TO}{pos p2:Pos}
theorem ci:PO X none eP:=by
 intro pins s σ H Q I h
 rw[evalPart_none]
 exact wpAny_pure ⟨none,H,I,.none,h⟩
theorem b6(h:PE X e te):PO X (some e) (jF te):=by
 intro pins s σ H Q I hw
 rw[evalPart_some]
 refine bo (h pins s σ H _ I hw) fun u s1 ⟨x,H1,I1,r1,q1⟩=>?_
 obtain⟨i,rfl,q⟩:=q1
 obtain⟨t,rfl⟩:=r1
 exact⟨some i,H1,I1,.int i t,q⟩
def SlR(X:Cx)(r:V→Option Int→Option Int→Hp→VK→Prop):Prop:=
 ∀ (pins:List (Addr × Obj)) (s:Shared) (σ : St) (H:Hp) (x:V) (v vl vu:Value) (lo hi:Option Int) (sl:Addr) (Q:VK),Inv X pins σ H s→RelV x v→s.heap.IsSliceOf sl vl vu .none→IsPart vl lo→IsPart vu hi→r x lo hi H Q→
  ∃ T id,typeLookup (.type T) "__getitem__" = pure (some (.builtin id))∧s.TypeIs v T∧wpAny (model X.prog X.w) X.A (getItem v (.ref sl)) (EP X pins σ Q) X.xe s
def rJ(r:V→Option Int→Option Int→Hp→VK→Prop)(te:TE)(tl th:TO):TE:=fun σ H Q=>te σ H fun x H1=>tl σ H1 fun l H2=>th σ H2 fun u H3=>r x l u H3 Q
theorem b4{r:V→Option Int→Option Int→Hp→VK→Prop}(hr:SlR X r)(he:PE X e te)(hl:PO X lo tl)(hu:PO X hi th):PE X (.Subscript e (.Slice lo hi none p2) pos) (rJ r te tl th):=by
 intro pins s σ H Q I h
 refine Subscript_ (bo (he pins s σ H _ I h) fun v s1 ⟨x,H1,I1,r1,q1⟩=>?_)
 refine wpAny_Slice (bo (hl pins s1 σ H1 _ I1 q1) fun vl s2 ⟨l,H2,I2,pl,q2⟩=>bo (hu pins s2 σ H2 _ I2 q2) fun vu s3 ⟨u,H3,I3,pu,q3⟩=>?_)
 rw[evalPart_none]
 refine wpAny_pure ?_
 have I4:Inv X pins σ H3 { s3 with heap:=s3.heap.push { cls:=.type "slice", data:=.fields #[vl,vu,.none] } }:=I3.kept (t':=s3.toks) fun b ob q=>Heap.get?_push_of_some _ q
 obtain⟨T,id,hT,ht,hg⟩:=hr pins { s3 with heap:=s3.heap.push { cls:=.type "slice", data:=.fields #[vl,vu,.none] } } σ H3 x v vl vu l u s3.heap.objs.size Q I4 r1 (Heap.IsSliceOf.new ..) pl pu q3
 show wpAny (model X.prog X.w) X.A (subscriptTail e (.Slice lo hi none p2) v (.ref s3.heap.objs.size)) (EP X pins σ Q) X.xe { s3 with heap:=s3.heap.push { cls:=.type "slice", data:=.fields #[vl,vu,.none] } }
 exact tail_any (ops:=[.ref s3.heap.objs.size,v]) ht hT hg (by with_unfolding_all rfl)
def dJ(xs:List V)(lo hi:Option Int):List V:=(xs.drop (HT.sIx xs.length 0 lo)).take (HT.sIx xs.length xs.length hi - HT.sIx xs.length 0 lo)
theorem mE(xs:List V)(lo hi:Option Int):(dJ xs lo hi).length≤xs.length:=by
 unfold dJ
 rw[List.length_take,List.length_drop]
 omega
def D4(K:PySem.W.Frag):V→Option Int→Option Int→Hp→VK→Prop:=fun x lo hi H Q=>∃ a xs,x = .ref a∧SqT K H a xs∧
 ¬ (HT.sIx xs.length 0 lo=0∧HT.sIx xs.length xs.length hi=xs.length)∧∀ p,H p=none→Q (.ref p) (upd H p (.tup (dJ xs lo hi)))
theorem BJ:SlR X (D4 X.K):=by
 intro pins s σ H x v vl vu lo hi sl Q I rx hs pl pu h
 obtain⟨a,xs,rfl,hx,hw,q⟩:=h
 cases rx
 obtain⟨its,r,ht,hz⟩:=I.tuple hx
 have hlen:its.toArray.size=xs.length:=by rw[List.size_toArray]; exact r.length.symm
 refine⟨"tuple", _,PyProof.Rows.slot_tuple_getitem.lookup,ht.typeIs,?_⟩
 refine HT.getItem_tuple_cut ht hs pl pu (by rw[hlen]; exact hw) ?_ (by rw[hlen]; exact hz)
 rw[hlen]
 refine⟨.ref s.heap.objs.size,_,I.laid (t':=s.toks) (o:=.tup (dJ xs lo hi)) (fun b ob q=>Heap.get?_push_of_some _ q) (Nat.le_refl _) ?_,rfl,q _ (I.hok.fresh (Nat.le_refl _))⟩
 exact⟨Nat.le_trans (mE xs lo hi) hz,_,(r.drop (HT.sIx xs.length 0 lo)).take (HT.sIx xs.length xs.length hi - HT.sIx xs.length 0 lo),IsTupN.new _ _⟩
def uJ(K:PySem.W.Frag):R2:=fun x y H Q=>∃ a b xs ys,x = .ref a∧y = .ref b∧SqT K H a xs∧SqT K H b ys∧xs≠[]∧xs.length+ys.length≤sizeLine∧
 (ys=[]→Q (.ref a) H)∧(ys≠[]→∀ p,H p=none→Q (.ref p) (upd H p (.tup (xs++ys))))
theorem Vals.nil_iff{xs:List V}{us:List Value}(r:Vals xs us):us=[] ↔ xs=[]:=by
 cases r with
 | nil=>simp
 | cons _ _=>simp
theorem Ap:OpR X (binaryOp .Add) (uJ X.K):=by
 intro pins s σ H x y v u Q I rx ry h
 obtain⟨a,b,xs,ys,rfl,rfl,ha,hb,hx,hz,q1,q2⟩:=h
 cases rx
 cases ry
 obtain⟨its,r1,p1,_⟩:=I.tuple ha
 obtain⟨its2,r2,p2,_⟩:=I.tuple hb
 refine HT.cat_tup p1 p2 (fun z=>hx (r1.nil_iff.mp z)) (fun z=>⟨.ref a,H,I,rfl,q1 (r2.nil_iff.mp z)⟩) (fun z=>?_) (by rw[← r1.length,← r2.length]; exact hz)
 refine⟨.ref s.heap.objs.size,_,I.laid (t':=s.toks) (o:=.tup (xs++ys)) (fun b ob q=>Heap.get?_push_of_some _ q) (Nat.le_refl _) ?_,rfl,q2 (fun w=>z (r2.nil_iff.mpr w)) _ (I.hok.fresh (Nat.le_refl _))⟩
 exact⟨by rw[List.length_append]; exact hz,_,r1.append r2,IsTupN.new _ _⟩
end
end L2
namespace L2
open PySem PySem.Spec PyProof.Rows
def tE(n:Nat)(i:Int):Option Nat:=if 0≤i then (if i<n then some i.toNat else none) else if -(n:Int)≤i then some (i+n).toNat else none
def gf{α : Type}(xs:List α)(i:Int):Option α:=(tE xs.length i).bind fun j=>xs[j]?
theorem AF{n:Nat}{i:Int}{j:Nat}(h:tE n i=some j):seqIndex? i n=some j∧j<n∧-(n:Int)≤i∧i<n:=by
 unfold tE at h
 by_cases h0:0≤i
 ·rw[if_pos h0]at h
  by_cases h1:i<n
  ·rw[if_pos h1]at h
   have e:i.toNat=j:=Option.some.inj h
   exact⟨by rw[seqIndex_of h0 h1,e],by omega,by omega,h1⟩
  ·rw[if_neg h1]at h; cases h
 ·rw[if_neg h0]at h
  by_cases h1:-(n:Int)≤i
  ·rw[if_pos h1]at h
   have e:(i+n).toNat=j:=Option.some.inj h
   exact⟨by rw[seqIndex_neg (by omega) h1,e],by omega,h1,by omega⟩
  ·rw[if_neg h1]at h; cases h
theorem ox{α : Type}{xs:List α}{i:Int}{v:α}(h:gf xs i=some v):∃ j,seqIndex? i xs.length=some j∧xs[j]? = some v∧j<xs.length∧-(xs.length:Int)≤i∧i<xs.length:=by
 unfold gf at h
 cases e:tE xs.length i with
 | none=>rw[e]at h; cases h
 | some j=>
  rw[e]at h
  obtain⟨h1,h2,h3,h4⟩:=AF e
  exact⟨j,h1,h,h2,h3,h4⟩
theorem bn{α : Type}{xs:List α}{j:Nat}{v:α}(h:xs[j]? = some v):gf xs (j:Int)=some v:=by
 have hj:j<xs.length:=(List.getElem?_eq_some_iff.mp h).1
 have e:tE xs.length (j:Int)=some j:=by
  unfold tE
  rw[if_pos (by omega),if_pos (by omega)]; simp
 unfold gf; rw[e]; exact h
def zU(b:Expr):Prop:=∀ o i,subscripted b false o i=operate [o,i] (getItem o i)
def IxR(X:Cx)(r:R2):Prop:=
 ∀ (value slice:Expr) (pins:List (Addr × Obj)) (s:Shared) (σ : St) (H:Hp) (x y:V) (v u:Value) (Q:VK),Inv X pins σ H s→RelV x v→RelV y u→r x y H Q→
  subscripted slice false v u=operate [v,u] (getItem v u)→wpAny (model X.prog X.w) X.A (subscriptTail value slice v u) (EP X pins σ Q) X.xe s
def MtR(X:Cx)(id:String)(r:V→List V→Hp→VK→Prop):Prop:=
 ∀ (pins:List (Addr × Obj)) (s:Shared) (σ : St) (H:Hp) (x:V) (xs:List V) (v:Value) (us:List Value) (Q:VK),Inv X pins σ H s→RelV x v→Vals xs us→r x xs H Q→
  wpAny (model X.prog X.w) X.A (call (.builtin id) (v::us)) (EP X pins σ Q) X.xe s
section
variable{X:Cx}{a b:Expr}{ta tb:TE}{pos:Pos}
theorem IxR.or{r r':R2}(h:IxR X r)(h':IxR X r'):IxR X (fun x y H Q=>r x y H Q∨r' x y H Q):=by
 intro value slice pins s σ H x y v u Q I rx ry q hs
 rcases q with q | q
 ·exact h value slice pins s σ H x y v u Q I rx ry q hs
 ·exact h' value slice pins s σ H x y v u Q I rx ry q hs
theorem bd{r:R2}(hr:IxR X r)(ha:PE X a ta)(hb:PE X b tb)(hs:zU b):PE X (.Subscript a b pos) (b7 r ta tb):=by
 intro pins s σ H Q I h
 exact Subscript_ (yd ha hb I h fun v u s2 x y H2 I2 rx ry q=>hr a b pins s2 σ H2 x y v u Q I2 rx ry q (hs _ _))
def A2(K:PySem.W.Frag):R2:=fun x y H Q=>∃ p xs i v,x = .ref p∧y = .int i∧SqL K H p xs∧gf xs i=some v∧Q v H
def AT(K:PySem.W.Frag):R2:=fun x y H Q=>∃ p xs i v,x = .ref p∧y = .int i∧SqT K H p xs∧gf xs i=some v∧Q v H
def BZ:R2:=fun x y H Q=>∃ z i c,x = .str z∧y = .int i∧z.length≤sizeLine∧gf z.cps.toList i=some c∧Q (.str ⟨#[c]⟩) H
theorem ix_list:IxR X (A2 X.K):=by
 intro value slice pins s σ H x y v u Q I rx ry h hs
 obtain⟨p,xs,i,z,rfl,rfl,hq,he,q⟩:=h
 cases rx
 obtain⟨t,rfl⟩:=ry
 obtain⟨its,r,pl,hz⟩:=I.list hq
 obtain⟨j,h1,h2,h3,h4,h5⟩:=ox he
 obtain⟨w,ew,rw'⟩:=r.get h2
 have hl:=r.length
 have hn:=lv
 have fin:EP X pins σ Q w s:=⟨z,H,I,rw',q⟩
 by_cases h0:0≤i
 ·have hj:i.toNat=j:=by
   rw[seqIndex_of h0 h5]at h1
   exact Option.some.inj h1
  exact item_listR pl.isList h0 (by omega) (by rw[hj]; simpa using ew) fin hs
 ·have hj:(i+(its.toArray.size:Int)).toNat=j:=by
   rw[seqIndex_neg (by omega) h4]at h1
   rw[List.size_toArray,← hl]
   exact Option.some.inj h1
  exact subscriptTail_builtinR (x:=w) pl.isList.typeIs slot_list_getitem.lookup
   (wpAny_getItem_list_neg (Q:=fun r s'=>r=w∧EP X pins σ Q r s') pl.isList (by omega) (by rw[List.size_toArray] <;> omega) (by omega) (by rw[hj]; simpa using ew) ⟨rfl,fin⟩) hs
theorem ix_tup:IxR X (AT X.K):=by
 intro value slice pins s σ H x y v u Q I rx ry h hs
 obtain⟨p,xs,i,z,rfl,rfl,hq,he,q⟩:=h
 cases rx
 obtain⟨t,rfl⟩:=ry
 obtain⟨its,r,pl,hz⟩:=I.tuple hq
 obtain⟨j,h1,h2,h3,h4,h5⟩:=ox he
 obtain⟨w,ew,rw'⟩:=r.get h2
 have hl:=r.length
 have hn:=lv
 have fin:EP X pins σ Q w s:=⟨z,H,I,rw',q⟩
 exact subscriptTail_builtinR (x:=w) pl.typeIs slot_tuple_getitem.lookup
  (getItem_tuple (j:=j) (Q:=fun r s'=>r=w∧EP X pins σ Q r s') pl (by omega) (by omega) (by rw[List.size_toArray,← hl]; exact h1) (by simpa using ew) ⟨rfl,fin⟩) hs
theorem A6:IxR X BZ:=by
 intro value slice pins s σ H x y v u Q I rx ry h hs
 obtain⟨z,i,c,rfl,rfl,hz,he,q⟩:=h
 obtain⟨t,rfl⟩:=rx
 obtain⟨t',rfl⟩:=ry
 obtain⟨j,h1,h2,h3,h4,h5⟩:=ox he
 have hl:z.cps.toList.length=z.length:=by simp[Str.length]
 rw[hl]at h1 h4 h5
 have hn:=lv
 exact tail_any (typeIs_str s z t) slot_str_getitem.lookup (getItem_str (c:=c) (by
  have e1:decide (i < -(2 ^ 63:Int))=false:=decide_eq_false (by omega)
  have e2:decide (i≥2 ^ 63)=false:=decide_eq_false (by omega)
  rw[e1,e2,Bool.or_false]) (by rw[h1]; simpa using h2) ⟨.str ⟨#[c]⟩,H,I.tok _,⟨_,rfl⟩,q⟩) hs
def Ge(K:PySem.W.Frag):R2:=fun x y H Q=>A2 K x y H Q∨AT K x y H Q∨BZ x y H Q
theorem CS:IxR X (Ge X.K):=ix_list.or (ix_tup.or A6)
theorem lh(lo hi:Option Int)(n:Nat):(sliceBounds lo hi none n).1=((HT.sIx n 0 lo:Nat):Int)∧(sliceBounds lo hi none n).2.1=((HT.sIx n n hi:Nat):Int)∧(sliceBounds lo hi none n).2.2=1:=by
 refine⟨?_,?_,rfl⟩
 ·cases lo with
  | none=>simp[sliceBounds,HT.sIx]
  | some i=>
   simp only[sliceBounds,HT.sIx,Option.getD_none,show (1:Int)>0 by decide,if_true]
   by_cases h:i<0
   ·simp only[h,if_true] <;> omega
   ·simp only[h,if_false] <;> omega
 ·cases hi with
  | none=>simp[sliceBounds,HT.sIx]
  | some i=>
   simp only[sliceBounds,HT.sIx,Option.getD_none,show (1:Int)>0 by decide,if_true]
   by_cases h:i<0
   ·simp only[h,if_true] <;> omega
   ·simp only[h,if_false] <;> omega
theorem pP(its:List Value)(lo hi:Option Int):slicePick its.toArray lo hi none=((its.drop (HT.sIx its.length 0 lo)).take (HT.sIx its.length its.length hi - HT.sIx its.length 0 lo)).toArray:=by
 obtain⟨h1,h2,h3⟩:=lh lo hi its.toArray.size
 unfold slicePick
 rw[h1,h2,h3]
 simp only[sliceRange_one,pick_run,List.size_toArray] <;> rfl
def qP(K:PySem.W.Frag):V→Option Int→Option Int→Hp→VK→Prop:=fun x lo hi H Q=>∃ a xs,x = .ref a∧SqL K H a xs∧∀ p,H p=none→Q (.ref p) (upd H p (.lst (dJ xs lo hi)))
theorem zI:SlR X (qP X.K):=by
 intro pins s σ H x v vl vu lo hi sl Q I rx hs pl pu h
 obtain⟨a,xs,rfl,hx,q⟩:=h
 cases rx
 obtain⟨its,r,ht,hz⟩:=I.list hx
 have hlen:=r.length
 refine⟨"list", _,slot_list_getitem.lookup,ht.isList.typeIs,?_⟩
 refine wpAny_getItem_list_slice ht.isList hs pl pu .none (by simp) ?_ (by rw[List.size_toArray] <;> omega)
 rw[pP,← hlen]
 refine⟨.ref s.heap.objs.size,_,I.laid (t':=s.toks) (o:=.lst (dJ xs lo hi)) (fun b ob q=>Heap.get?_push_of_some _ q) (Nat.le_refl _) ?_,rfl,q _ (I.hok.fresh (Nat.le_refl _))⟩
 exact⟨Nat.le_trans (mE xs lo hi) hz,_,0,(r.drop (HT.sIx xs.length 0 lo)).take (HT.sIx xs.length xs.length hi - HT.sIx xs.length 0 lo),Heap.get?_push_size _ rfl⟩
def bP:V→Bool
 | .non=>true
 | .bl _=>true
 | .int _=>true
 | .str _=>true
 | _=>false
def iu:V→V→Bool
 | .non,.non=>true
 | .bl a,.bl b=>a == b
 | .bl a,.int b=>(if a then 1 else 0) == b
 | .int a,.bl b=>a == (if b then 1 else 0)
 | .int a,.int b=>a == b
 | .str a,.str b=>a == b
 | _,_=>false
theorem nG{A:Around}{s:Shared}{y x:V}{u v:Value}(ry:RelV y u)(rx:RelV x v)(fy:bP y=true)(fx:bP x=true):SeqAt.EqAt A s u v (iu y x):=by
 cases y with
 | non=>
  cases ry
  cases x with
  | non=>cases rx; exact SeqAt.EqAt.same _
  | bl b=>cases rx; exact SeqAt.EqAt.none_bool b
  | int b=>obtain⟨t,rfl⟩:=rx; exact SeqAt.EqAt.none_int b t
  | str b=>obtain⟨t,rfl⟩:=rx; exact SeqAt.EqAt.none_str b t
  | _=>exact absurd (show false=true from fx) Bool.false_ne_true
 | bl a=>
  cases ry
  cases x with
  | non=>cases rx; exact SeqAt.EqAt.bool_none a
  | bl b=>cases rx; exact SeqAt.EqAt.bool_bool a b
  | int b=>obtain⟨t,rfl⟩:=rx; exact SeqAt.EqAt.bool_int a b t
  | str b=>obtain⟨t,rfl⟩:=rx; exact SeqAt.EqAt.bool_str a b t
  | _=>exact absurd (show false=true from fx) Bool.false_ne_true
 | int a=>
  obtain⟨t',rfl⟩:=ry
  cases x with
  | non=>cases rx; exact SeqAt.EqAt.int_none a t'
  | bl b=>cases rx; exact SeqAt.EqAt.int_bool a t' b
  | int b=>obtain⟨t,rfl⟩:=rx; exact SeqAt.EqAt.int_int a t' b t
  | str b=>obtain⟨t,rfl⟩:=rx; exact SeqAt.EqAt.int_str a t' b t
  | _=>exact absurd (show false=true from fx) Bool.false_ne_true
 | str a=>
  obtain⟨t',rfl⟩:=ry
  cases x with
  | non=>cases rx; exact SeqAt.EqAt.str_none a t'
  | bl b=>cases rx; exact SeqAt.EqAt.str_bool a t' b
  | int b=>obtain⟨t,rfl⟩:=rx; exact SeqAt.EqAt.str_int a t' b t
  | str b=>obtain⟨t,rfl⟩:=rx; exact SeqAt.EqAt.str_str a t' b t
  | _=>exact absurd (show false=true from fx) Bool.false_ne_true
 | _=>exact absurd (show false=true from fy) Bool.false_ne_true
def gl(x:V)(u:Value):Bool:=match u with
 | .none=>iu .non x
 | .bool b=>iu (.bl b) x
 | .int i _=>iu (.int i) x
 | .str z _=>iu (.str z) x
 | _=>false
theorem xf{x y:V}{u:Value}(r:RelV y u)(f:bP y=true):gl x u=iu y x:=by
 cases y with
 | non=>cases r; rfl
 | bl b=>cases r; rfl
 | int i=>obtain⟨t,rfl⟩:=r; rfl
 | str z=>obtain⟨t,rfl⟩:=r; rfl
 | _=>exact absurd (show false=true from f) Bool.false_ne_true
theorem jR{x:V}:∀ {xs:List V} {us:List Value},Vals xs us→xs.all bP=true→us.any (gl x)=xs.any fun y=>iu y x
 | _,_,.nil,_=>rfl
 | y::xs,u::us,.cons r t,f=>by
  rw[List.all_cons,Bool.and_eq_true]at f
  rw[List.any_cons,List.any_cons,xf r f.1,jR t f.2]
theorem jy{A:Around}{s:Shared}{x:V}{v:Value}(rx:RelV x v)(fx:bP x=true):∀ {xs:List V} {us:List Value},Vals xs us→xs.all bP=true→∀ u∈us,SeqAt.EqAt A s u v (gl x u)
 | _,_,.nil,_=>fun u hu=>by cases hu
 | y::xs,u::us,.cons r t,f=>fun u' hu=>by
  rw[List.all_cons,Bool.and_eq_true]at f
  rcases List.mem_cons.mp hu with rfl | hu
  ·rw[xf r f.1]; exact nG r rx f.1 fx
  ·exact jy rx fx t f.2 u' hu
def kZ(x:V)(xs:List V):Bool:=xs.any fun y=>iu y x
def DO(K:PySem.W.Frag)(neg:Bool):R2:=fun x y H Q=>∃ p xs,y = .ref p∧(SqL K H p xs∨SqT K H p xs)∧bP x=true∧xs.all bP=true∧Q (.bl (if neg then !kZ x xs else kZ x xs)) H
theorem vH:OpR X (compareOp .In) (DO X.K false):=by
 intro pins s σ H x y v u Q I rx ry h
 obtain⟨p,xs,rfl,hq,fx,fs,q⟩:=h
 cases ry
 rcases hq with hq | hq
 ·obtain⟨its,r,pl,hz⟩:=I.list hq
  refine SeqAt.in_listAt (gl x) pl.isList (fun w hw=>jy rx fx r fs w (by simpa using hw)) ⟨.bl _,H,I,rfl,?_⟩
  rw[show its.toArray.any (gl x)=its.any (gl x) by simp,jR r fs]
  exact q
 ·obtain⟨its,r,pl,hz⟩:=I.tuple hq
  refine SeqAt.in_tupleAt (gl x) pl (fun w hw=>jy rx fx r fs w (by simpa using hw)) ⟨.bl _,H,I,rfl,?_⟩
  rw[show its.toArray.any (gl x)=its.any (gl x) by simp,jR r fs]
  exact q
theorem rF:OpR X (compareOp .NotIn) (DO X.K true):=by
 intro pins s σ H x y v u Q I rx ry h
 obtain⟨p,xs,rfl,hq,fx,fs,q⟩:=h
 cases ry
 rcases hq with hq | hq
 ·obtain⟨its,r,pl,hz⟩:=I.list hq
  refine SeqAt.notIn_listAt (gl x) pl.isList (fun w hw=>jy rx fx r fs w (by simpa using hw)) ⟨.bl _,H,I,rfl,?_⟩
  rw[show its.toArray.any (gl x)=its.any (gl x) by simp,jR r fs]
  exact q
 ·obtain⟨its,r,pl,hz⟩:=I.tuple hq
  refine SeqAt.notIn_tupleAt (gl x) pl (fun w hw=>jy rx fx r fs w (by simpa using hw)) ⟨.bl _,H,I,rfl,?_⟩
  rw[show its.toArray.any (gl x)=its.any (gl x) by simp,jR r fs]
  exact q
theorem qZ:CallR X (.builtin "len") (fun xs H Q=>∃ p ys,xs=[.ref p]∧(SqL X.K H p ys∨SqT X.K H p ys)∧Q (.int ys.length) H):=by
 intro pins s σ H xs us Q I r h
 obtain⟨p,ys,rfl,hq,q⟩:=h
 obtain⟨u,rfl,rx⟩:=df r
 cases rx
 have hn:=lv
 rcases hq with hq | hq
 ·obtain⟨its,r',pl,hz⟩:=I.list hq
  have hlen:=r'.length
  exact Calls.call_len_list pl.isList (by simp only[List.size_toArray] <;> omega) ⟨.int ys.length,H,I.tok _,⟨s.toks+1,by rw[List.size_toArray,hlen]⟩,q⟩
 ·obtain⟨its,r',pl,hz⟩:=I.tuple hq
  have hlen:=r'.length
  exact len_tuple pl (by simp only[List.size_toArray] <;> omega) ⟨.int ys.length,H,I.tok _,⟨s.toks+1,by rw[List.size_toArray,hlen]⟩,q⟩
theorem qR:CallR X (.builtin "len") (fun xs H Q=>∃ z,xs=[.str z]∧z.length≤sizeLine∧Q (.int z.length) H):=by
 intro pins s σ H xs us Q I r h
 obtain⟨z,rfl,hz,q⟩:=h
 obtain⟨u,rfl,t,rfl⟩:=df r
 have hn:=lv
 exact len_str (by omega) ⟨.int z.length,H,I.tok _,⟨_,rfl⟩,q⟩
theorem pO:CallR X (.type "tuple") (fun xs H Q=>∃ p ys,xs=[.ref p]∧((SqL X.K H p ys∧∀ l,H l=none→Q (.ref l) (upd H l (.tup ys)))∨(SqT X.K H p ys∧Q (.ref p) H))):=by
 intro pins s σ H xs us Q I r h
 obtain⟨p,ys,rfl,h⟩:=h
 obtain⟨u,rfl,rx⟩:=df r
 cases rx
 rcases h with ⟨hq,q⟩ | ⟨hq,q⟩
 ·obtain⟨its,r',pl,hz⟩:=I.list hq
  have hlen:=r'.length
  refine call_tuple_list pl.isList (fun h' kp=>?_) (by simp only[List.size_toArray] <;> omega)
  have I1:Inv X pins σ H { s with heap:=h' }:=I.kept (t':=s.toks) kp
  have I2:Inv X pins σ (upd H h'.objs.size (.tup ys)) { s with heap:=h'.push { cls:=.type "tuple", data:=.seq its.toArray } }:=
   I1.laid (t':=s.toks) (fun b o e=>Heap.get?_push_of_some _ e) (Nat.le_refl _) (show ObjOk X.prog X.w _ _ _ (.tup ys) from ⟨hz,its,r',IsTupN.new _ _⟩)
  exact⟨.ref h'.objs.size,_,I2,rfl,q _ (I1.hok.fresh (Nat.le_refl _))⟩
 ·obtain⟨its,r',pl,hz⟩:=I.tuple hq
  exact call_tuple_same pl ⟨.ref p,H,I,rfl,q⟩
def qN(K:PySem.W.Frag)(T:String)(x:V)(H:Hp):Prop:=match x with
 | .str _=>T = "str"
 | .int _=>T = "int"
 | .ref p=>(T = "list" ∧ ∃ xs,SqL K H p xs)∨(T = "tuple" ∧ ∃ o,K.lookup p=some o∧o.cls = .type "tuple" ∧ o.dict=none)∨
   (T = "dict" ∧ ((∃ kvs,H p=some (.dK kvs))∨∃ kvs,H p=some (.dT kvs)))∨(T = "set" ∧ ∃ S n,H p=some (.set S n))
 | _=>False
theorem wN{pins:List (Addr × Obj)}{σ : St}{H:Hp}{s:Shared}{T:String}{x:V}{v:Value}(I:Inv X pins σ H s)(r:RelV x v)(ty:qN X.K T x H) :
  s.TypeIs v T∧∀ a,v = .ref a→∃ ob,s.heap.get? a=some ob∧ob.dict=none:=by
 cases x with
 | str z=>
  obtain⟨t,rfl⟩:=r
  cases (show T = "str" from ty)
  exact⟨typeIs_str s z t,fun _ e=>nomatch e⟩
 | int i=>
  obtain⟨t,rfl⟩:=r
  cases (show T = "int" from ty)
  exact⟨typeIs_int s i t,fun _ e=>nomatch e⟩
 | ref p=>
  cases r
  rcases ty with ⟨rfl,xs,hq⟩ | ⟨rfl,o,hk,hc,hd⟩ | ⟨rfl,hk⟩ | ⟨rfl,S,n,hk⟩
  ·obtain⟨its,_,pl,_⟩:=I.list hq
   refine⟨pl.isList.typeIs,fun a e=>?_⟩
   cases e
   obtain⟨o,n,e,c,hd,_⟩:=pl
   exact⟨o,e,hd⟩
  ·refine⟨⟨o,I.kIn p o hk,hc⟩,fun a e=>?_⟩
   cases e
   exact⟨o,I.kIn _ o hk,hd⟩
  ·have z:∃ o,s.heap.get? p=some o∧o.ExactDict:=by
    rcases hk with ⟨kvs,hk⟩ | ⟨kvs,hk⟩
    ·obtain⟨_,_,_,_,o,_,_,e,ex,_⟩:=I.hok p _ hk
     exact⟨o,e,ex⟩
    ·obtain⟨_,_,_,_,o,_,_,e,ex,_⟩:=I.hok p _ hk
     exact⟨o,e,ex⟩
   obtain⟨o,e,ex⟩:=z
   refine⟨⟨o,e,ex.1⟩,fun a e2=>?_⟩
   cases e2
   exact⟨o,e,ex.2.1⟩
  ·obtain⟨o,_,_,_,e,ex,_⟩:=I.hok p _ hk
   refine⟨⟨o,e,ex.1⟩,fun a e2=>?_⟩
   cases e2
   exact⟨o,e,ex.2.1⟩
 | _=>exact False.elim ty
def ul(K:PySem.W.Frag)(T:String)(r:V→List V→Hp→VK→Prop)(to:TE):TE:=fun σ H Q=>to σ H fun x H1=>qN K T x H1∧r x [] H1 Q
def nv(K:PySem.W.Frag)(T:String)(r:V→List V→Hp→VK→Prop)(to:TE)(t:TA):TE:=fun σ H Q=>to σ H fun x H1=>qN K T x H1∧t σ H1 fun xs H2=>r x xs H2 Q
variable{o e:Expr}{es:List Expr}{to:TE}{t:TA}{name:Str}{apos cpos:Pos}{T id:String}{r:V→List V→Hp→VK→Prop}
theorem BN(pa:PlainAttrs T)(slot:Slot T name id)(hty:typeOf (.builtin id)=pure (.type "method_descriptor")) (hm:MtR X id r) (ho:PE X o to)
  (hbase:attributeBase o name X.env (eval o X.env)=eval o X.env:=by rfl) (hline:(apos.endLine == cpos.line)=true:=by rfl):PE X (.Call (.Attribute o name apos) [] [] cpos) (ul X.K T r to):=by
 intro pins s σ H Q I h
 refine wpAny_Call_method0_late hbase hline (bo (ho pins s σ H _ I h) fun v s1 ⟨x,H1,I1,r1,ty,q1⟩=>?_)
 obtain⟨h1,h2⟩:=wN I1 r1 ty
 exact⟨T,id,pa,slot,hty,h1,h2,Calls.callWith_builtin rfl (PySem.evalArgs_none (hm pins s1 σ H1 x [] v [] Q I1 r1 .nil q1))⟩
theorem Dc(pa:PlainAttrs T)(slot:Slot T name id)(hty:typeOf (.builtin id)=pure (.type "method_descriptor")) (hm:MtR X id r) (ho:PE X o to) (ha:PA X (e::es) t)
  (hbase:attributeBase o name X.env (eval o X.env)=eval o X.env:=by rfl)
  (hfew:((backTo cpos (starEach (e::es) X.env)).all (fun x=>!x.1)&&(backToKw cpos (keywordEach [] X.env)).all (fun x=>x.1.isSome)
   && decide ((e::es).length+([]:List Keyword).length+(if ([]:List Keyword).isEmpty then 0 else 1)<30))=true:=by rfl)
  (hline:(apos.endLine == cpos.line)=true:=by rfl) (hs:starEach (e::es) X.env=(false,eval e X.env)::starEach es X.env:=by rfl) (hplain:(backTo cpos (starEach es X.env)).any (·.1)=false:=by rfl) :
  PE X (.Call (.Attribute o name apos) (e::es) [] cpos) (nv X.K T r to t):=by
 intro pins s σ H Q I h
 refine wpAny_Call_method_late hbase hfew hline rfl (bo (ho pins s σ H _ I h) fun v s1 ⟨x,H1,I1,r1,ty,q1⟩=>?_)
 obtain⟨h1,h2⟩:=wN I1 r1 ty
 refine⟨T,id,pa,slot,hty,h1,h2,?_⟩
 have hA:=ha cpos pins s1 σ H1 _ I1 q1
 rw[hs]at hA ⊢
 refine Calls.callWith_builtin (by show (false||(backTo cpos (starEach es X.env)).any (·.1))=false; rw[hplain] <;> rfl) (Calls.evalArgs_plain ?_)
 exact bo hA fun us s2 ⟨vs,H2,I2,r2,q2⟩=>hm pins s2 σ H2 x vs v us Q I2 r1 r2 q2
/- xs.append(e), list.index on a module's tuple .. are MtR facts of 06m -/
end
end L2
namespace L2
open PySem PySem.Spec PyProof.Rows
def BX(X:Cx)(id:String)(r:V→List V→Hp→VK→Prop):Prop:=
 ∀ (pins:List (Addr × Obj)) (s:Shared) (σ : St) (H:Hp) (x:V) (xs:List V) (v:Value) (us:List Value) (Q:VK),Inv X pins σ H s→RelV x v→Vals xs us→r x xs H Q→
  wpAny (model X.prog X.w) X.A (call (.builtin id) (v::us)) (EP X pins σ Q) X.xe s
theorem Vals.one:∀ {x:V} {us:List Value},Vals [x] us→∃ u,us=[u]∧RelV x u
 | _,_,.cons r .nil=>⟨_,rfl,r⟩
theorem Vals.zero:∀ {us:List Value},Vals [] us→us=[]
 | _,.nil=>rfl
theorem Vals.dropLast{xs:List V}{us:List Value}(h:Vals xs us):Vals xs.dropLast us.dropLast:=by
 induction h with
 | nil=>exact .nil
 | cons r t ih=>
  cases t with
  | nil=>exact .nil
  | cons q t'=>exact .cons r ih
theorem Vals.rep{xs:List V}{us:List Value}(h:Vals xs us):∀ k:Nat,Vals (List.replicate k xs).flatten (List.replicate k us).flatten
 | 0=>.nil
 | k+1=>by
  rw[List.replicate_succ,List.replicate_succ,List.flatten_cons,List.flatten_cons]
  exact Vals.append h (Vals.rep h k)
theorem ue{α : Type}(l:List α):l.eraseIdx (l.length - 1)=l.dropLast:=by
 induction l with
 | nil=>rfl
 | cons a r ih=>
  cases r with
  | nil=>rfl
  | cons b r=>
   have e:(a::b::r).length - 1=((b::r).length - 1)+1:=by
    have h1:(a::b::r).length=r.length+2:=rfl
    have h2:(b::r).length=r.length+1:=rfl
    omega
   rw[e,List.eraseIdx_cons_succ,ih]
   all_goals rfl
theorem pw(its:List Value):∀ (k:Nat) (acc:List Value),
  List.foldl (fun x1 x2=>x1++x2) acc.toArray (List.replicate k its.toArray)=(acc++(List.replicate k its).flatten).toArray
 | 0,acc=>by simp
 | k+1,acc=>by
  have e:acc.toArray++its.toArray=(acc++its).toArray:=by simp
  have e2:(acc++its)++(List.replicate k its).flatten=acc++(List.replicate (k+1) its).flatten:=by
   rw[List.replicate_succ,List.flatten_cons,List.append_assoc]
  rw[← e2,← pw its k (acc++its),← e,List.replicate_succ,List.foldl_cons]
section
variable{X:Cx}{pins:List (Addr × Obj)}{σ : St}{H:Hp}{s:Shared}{l b:Addr}{xs ys zs:List V}
theorem Inv.lset{its its':List Value}{n:Nat}{f:Array Value→Array Value}{t':Nat}(I:Inv X pins σ H s)(hH:H l=some (.lst xs))
  (e:s.heap.get? l=some { cls:=.type "list", data:=.seq its.toArray n }) (hf:f its.toArray=its'.toArray) (hv:Vals ys its') (hz:ys.length≤sizeLine) :
  Inv X pins σ (upd H l (.lst ys)) { s with heap:=s.heap.update l (Obj.mapSeq f),toks:=t' }:=by
 have q:=PySem.IsL.update e f
 rw[hf]at q
 refine I.write (x:=l) (e:=l) (by rw[hH]; exact trivial) (.inl rfl) (fun b' u hb hu=>(Heap.get?_update_other s.heap (Obj.mapSeq f) (Ne.symm hb)).trans hu) ⟨_,q⟩ ?_
 exact⟨hz,its',_,hv,q⟩
theorem Inv.lnew{its:List Value}{t':Nat}(I:Inv X pins σ H s)(hv:Vals ys its)(hz:ys.length≤sizeLine) :
  Inv X pins σ (upd H s.heap.objs.size (.lst ys)) { s with heap:=s.heap.push { cls:=.type "list", data:=.seq its.toArray },toks:=t' }:=
 I.laid (fun _ _ q=>Heap.get?_push_of_some _ q) (Nat.le_refl _) ⟨hz,its,0,hv,Heap.get?_push_size _ rfl⟩
theorem Inv.fresh(I:Inv X pins σ H s):H s.heap.objs.size=none:=I.hok.fresh (Nat.le_refl _)
theorem Inv.lstM(I:Inv X pins σ H s)(hH:H l=some (.lst xs)):xs.length≤sizeLine∧∃ (its:List Value) (n:Nat),Vals xs its∧xs.length=its.length∧s.heap.get? l=some { cls:=.type "list", data:=.seq its.toArray n }:=by
 obtain⟨z,its,n,r,e⟩:=I.hok l _ hH
 exact⟨z,its,n,r,r.length,e⟩
theorem qy{n:Nat}(h:n≤sizeLine):Builtin.List.listTooLong n=false:=by
 unfold Builtin.List.listTooLong
 exact decide_eq_false (by omega)
end
section
variable{X:Cx}
def iR:V→List V→Hp→VK→Prop:=fun x vs H Q=>∃ l xs y,x = .ref l∧vs=[y]∧H l=some (.lst xs)∧xs.length<sizeLine∧Q .non (upd H l (.lst (xs++[y])))
theorem ph:BX X "list.append" iR:=by
 intro pins s σ H x vs v us Q I rx rv h
 obtain⟨l,xs,y,rfl,rfl,hH,hz,q⟩:=h
 cases rx
 obtain⟨u,rfl,ru⟩:=rv.one
 obtain⟨z,its,n,r,hl,e⟩:=I.lstM hH
 refine call_meets F.slot_list_append ⟨_,e,rfl⟩ F.entry_list_append (F.args_list_append_2 _ _) (PySem.list_append l its.toArray n u (by rw[List.size_toArray]; omega)) ⟨e,?_⟩
 refine⟨.non,_,I.lset (its':=its++[u]) hH e (by simp) (r.append (.cons ru .nil)) ?_,rfl,q⟩
 rw[List.length_append,List.length_singleton]
 omega
def mi:V→List V→Hp→VK→Prop:=fun x vs H Q=>∃ l b xs zs,x = .ref l∧vs=[.ref b]∧H l=some (.lst xs)∧H b=some (.lst zs)∧xs.length+zs.length≤sizeLine∧Q .non (upd H l (.lst (xs++zs)))
theorem wO:BX X "list.extend" mi:=by
 intro pins s σ H x vs v us Q I rx rv h
 obtain⟨l,b,xs,zs,rfl,rfl,hH,hB,hz,q⟩:=h
 cases rx
 obtain⟨u,rfl,ru⟩:=rv.one
 cases ru
 obtain⟨z,its,n,r,hl,e⟩:=I.lstM hH
 obtain⟨z2,its2,n2,r2,hl2,e2⟩:=I.lstM hB
 have hsz:its.toArray.size+its2.toArray.size≤sizeLine:=by rw[List.size_toArray,List.size_toArray]; omega
 have hlong:¬ (!its.toArray.isEmpty&&Builtin.List.listTooLong (its.toArray.size+its2.toArray.size))=true:=by
  rw[qy hsz,Bool.and_false]
  exact Bool.false_ne_true
 refine call_meets F.slot_list_extend ⟨_,e,rfl⟩ F.entry_list_extend (F.args_list_extend_2 _ _)
  (AutoSeq1.list_extend_list_list_0 l its.toArray n b its2.toArray n2 hlong (by rw[List.size_toArray]; omega) (by omega)) ⟨e,e2,?_⟩
 refine⟨.non,_,I.lset (its':=its++its2) hH e (by simp) (r.append r2) ?_,rfl,q⟩
 rw[List.length_append]
 omega
def uY:V→List V→Hp→VK→Prop:=fun x vs H Q=>∃ l xs y,x = .ref l∧vs=[]∧H l=some (.lst xs)∧xs[xs.length - 1]? = some y∧Q y (upd H l (.lst xs.dropLast))
theorem Cc:BX X "list.pop" uY:=by
 intro pins s σ H x vs v us Q I rx rv h
 obtain⟨l,xs,y,rfl,rfl,hH,hy,q⟩:=h
 cases rx
 have hus:=rv.zero
 subst hus
 obtain⟨z,its,n,r,hl,e⟩:=I.lstM hH
 obtain⟨u,hu,ru⟩:=r.get hy
 have hy':its.toArray[its.toArray.size - 1]? = some u:=by
  show its.toArray[its.length - 1]? = some u
  rw[← Array.getElem?_toList,← hl]
  exact hu
 refine call_meets F.slot_list_pop ⟨_,e,rfl⟩ F.entry_list_pop (F.args_list_pop_1 _) (MeetsSeq.list_pop_last l its.toArray n u hy' (by rw[List.size_toArray]; omega)) ⟨e,?_⟩
 refine⟨y,_,I.lset (its':=its.dropLast) hH e ?_ r.dropLast ?_,ru,q⟩
 ·show its.toArray.eraseIdxIfInBounds (its.toArray.size - 1)=its.dropLast.toArray
  rw[List.size_toArray,List.eraseIdxIfInBounds_toArray,ue]
 ·rw[List.length_dropLast]
  omega
def Es:R2:=fun x y H Q=>∃ l b xs zs,x = .ref l∧y = .ref b∧H l=some (.lst xs)∧H b=some (.lst zs)∧xs.length+zs.length≤sizeLine∧∀ p,H p=none→Q (.ref p) (upd H p (.lst (xs++zs)))
theorem Bf:OpR X (binaryOp .Add) Es:=by
 intro pins s σ H x y v u Q I rx ry h
 obtain⟨l,b,xs,zs,rfl,rfl,hH,hB,hz,q⟩:=h
 cases rx
 cases ry
 obtain⟨z,its,n,r,hl,e⟩:=I.lstM hH
 obtain⟨z2,its2,n2,r2,hl2,e2⟩:=I.lstM hB
 refine PySem.P.add_list e e2 ?_ (by rw[List.size_toArray,List.size_toArray]; omega)
 have ea:its.toArray++its2.toArray=(its++its2).toArray:=by simp
 rw[ea]
 exact⟨.ref _,_,I.lnew (t':=s.toks) (r.append r2) (by rw[List.length_append]; omega),rfl,q _ I.fresh⟩
def Fp:R2:=fun x y H Q=>∃ l k xs,x = .ref l∧y = .int k∧H l=some (.lst xs)∧-(2 ^ 63)≤k∧k<2 ^ 63∧xs.length * k.toNat≤sizeLine∧
 ∀ p,H p=none→Q (.ref p) (upd H p (.lst (List.replicate k.toNat xs).flatten))
theorem AG{α : Type}(xs:List α)(k:Nat):(List.replicate k xs).flatten.length=k * xs.length:=by
 induction k with
 | zero=>simp
 | succ k ih=>rw[List.replicate_succ,List.flatten_cons,List.length_append,ih,Nat.succ_mul,Nat.add_comm]
theorem lf:OpR X (binaryOp .Mult) Fp:=by
 intro pins s σ H x y v u Q I rx ry h
 obtain⟨l,k,xs,rfl,rfl,hH,h1,h2,hz,q⟩:=h
 cases rx
 obtain⟨t,rfl⟩:=ry
 obtain⟨z,its,n,r,hl,e⟩:=I.lstM hH
 have hlen:its.toArray.size * k.toNat≤sizeLine:=by rw[List.size_toArray,← hl]; exact hz
 have hcap:¬ its.toArray.size * k.toNat>(2 ^ 63 - 1) / 8:=by
  have:(sizeLine:Nat)≤(2 ^ 63 - 1) / 8:=by decide
  omega
 have hfit:¬ (!Builtin.List.listFitsIndex k)=true:=by
  rw[fitsIndex_both h1 h2]
  exact Bool.false_ne_true
 have hlong:¬ Builtin.List.listTooLong (its.toArray.size * k.toNat)=true:=by
  rw[qy hlen]
  exact Bool.false_ne_true
 have hnew:List.foldl (fun x1 x2=>x1++x2) #[] (List.replicate (if its.toArray.isEmpty=true then 0 else k.toNat) its.toArray)=(List.replicate k.toNat its).flatten.toArray:=by
  have f0:∀ m:Nat,List.foldl (fun x1 x2=>x1++x2) #[] (List.replicate m its.toArray)=(List.replicate m its).flatten.toArray:=fun m=>by
   have:=pw its m []
   rw[List.nil_append]at this
   exact this
  rw[f0]
  cases its with
  | nil=>simp
  | cons a r'=>rw[if_neg (by simp)]
 refine wpAny_binaryOp_repeat_ref (T := "list") (U := "int") (by decide) ⟨_,e,rfl⟩ (fun s'=>typeIs_int s' k t) noFill_list_mul F.fills_int_mul F.slot_int_rmul repeat_list F.slot_int_index.lookup
  (call_meets F.slot_int_rmul (typeIs_int s k t) F.entry_int_rmul (F.args_int_rmul_2 _ _) (int___rmul___int_list k t l its.toArray n)
   ⟨e,rfl,⟨_,e,rfl⟩,call_meets F.slot_list_mul ⟨_,e,rfl⟩ F.entry_list_mul (F.args_list_mul_2 _ _) (AutoListH.list___mul___list_int_3 l its.toArray n k t hfit hcap hlong) ⟨e,?_⟩⟩)
 rw[hnew]
 exact⟨.ref _,_,I.lnew (t':=s.toks) (r.rep k.toNat) (by rw[AG,Nat.mul_comm]; exact hz),rfl,q _ I.fresh⟩
end
section
variable{prog:Program}{w:World}{A:Around}{E:Value→Shared→Prop}{s:Shared}
end
section
variable{X:Cx}
end
end L2
namespace L2
open PySem PySem.Spec PyProof.Rows
section
variable{κ : Type}[DecidableEq κ]
def dv(kvs:List (κ × V))(k:κ):Option V:=(kvs.find? fun kv=>decide (kv.1=k)).map (·.2)
def gh(kvs:List (κ × V))(k:κ)(v:V):List (κ × V):=
 if (kvs.any fun kv=>decide (kv.1=k))=true then kvs.map (fun kv=>if kv.1=k then (kv.1,v) else kv) else kvs++[(k,v)]
theorem mW{p:κ × V}{r:List (κ × V)}{k:κ}(e:p.1=k):dv (p::r) k=some p.2:=by simp[dv,List.find?_cons,e]
theorem nh{p:κ × V}{r:List (κ × V)}{k:κ}(e:¬ p.1=k):dv (p::r) k=dv r k:=by simp[dv,List.find?_cons,e]
theorem rs(k:κ):∀ kvs:List (κ × V),(kvs.any fun kv=>decide (kv.1=k))=(dv kvs k).isSome
 | []=>rfl
 | p::r=>by
  rw[List.any_cons]
  by_cases e:p.1=k
  ·simp only[mW e,decide_eq_true e,Bool.true_or,Option.isSome_some]
  ·rw[nh e,decide_eq_false e,Bool.false_or]; exact rs k r
theorem mD(kvs:List (κ × V))(k:κ)(v:V):(gh kvs k v).length≤kvs.length+1:=by
 unfold gh
 split
 ·rw[List.length_map]; omega
 ·rw[List.length_append,List.length_cons,List.length_nil]; omega
theorem RelO.isSome_eq{o:Option V}{u:Option Value}(r:RelO o u):o.isSome=u.isSome:=by
 cases o with
 | none=>cases u with
  | none=>rfl
  | some _=>exact(show False from r).elim
 | some _=>cases u with
  | none=>exact(show False from r).elim
  | some _=>rfl
theorem RelO.getD{o:Option V}{u:Option Value}{d:V}{d':Value}(r:RelO o u)(rd:RelV d d'):RelV (o.getD d) (u.getD d'):=by
 cases o with
 | none=>cases u with
  | none=>exact rd
  | some _=>exact(show False from r).elim
 | some _=>cases u with
  | none=>exact(show False from r).elim
  | some _=>exact r
theorem KV.val{kvs:List (κ × V)}{vs:List (κ × Value)}(r:KV kvs vs)(k:κ):RelO (dv kvs k) (valueAt vs k):=by
 unfold KV at r
 induction r with
 | nil=>exact True.intro
 | @cons p q ps qs h t ih=>
  obtain⟨h1,h2⟩:=h
  by_cases e:p.1=k
  ·have e':q.1=k:=h1.symm.trans e
   have b:valueAt (q::qs) k=some q.2:=by simp[valueAt,List.find?_cons,e']
   rw[mW e,b]; exact h2
  ·have e':¬ q.1=k:=fun z=>e (h1.trans z)
   have b:valueAt (q::qs) k=valueAt qs k:=by simp[valueAt,List.find?_cons,e']
   rw[nh e,b]; exact ih
theorem KV.any{kvs:List (κ × V)}{vs:List (κ × Value)}(r:KV kvs vs)(k:κ):(kvs.any fun kv=>decide (kv.1=k))=vs.any fun kv=>decide (kv.1=k):=by
 unfold KV at r
 induction r with
 | nil=>rfl
 | cons h t ih=>rw[List.any_cons,List.any_cons,ih,h.1]
theorem KV.repl{kvs:List (κ × V)}{vs:List (κ × Value)}(r:KV kvs vs)(k:κ){y:V}{u:Value}(ry:RelV y u) :
  KV (kvs.map fun kv=>if kv.1=k then (kv.1,y) else kv) (vs.map fun kv=>if kv.1=k then (kv.1,u) else kv):=by
 unfold KV at r ⊢
 induction r with
 | nil=>exact .nil
 | @cons p q ps qs h t ih=>
  rw[List.map_cons,List.map_cons]
  refine .cons ?_ ih
  obtain⟨h1,h2⟩:=h
  by_cases e:p.1=k
  ·rw[if_pos e,if_pos (h1.symm.trans e)]; exact⟨h1,ry⟩
  ·rw[if_neg e,if_neg (fun z=>e (h1.trans z))]; exact⟨h1,h2⟩
theorem KV.put{kvs:List (κ × V)}{vs:List (κ × Value)}(r:KV kvs vs)(k:κ){y:V}{u:Value}(ry:RelV y u):KV (gh kvs k y) (stored vs k u):=by
 unfold gh stored
 rw[r.any k]
 by_cases e:(vs.any fun kv=>decide (kv.1=k))=true
 ·rw[if_pos e,if_pos e]; exact r.repl k ry
 ·rw[if_neg e,if_neg e]; exact Paired.snoc r ⟨rfl,ry⟩
theorem KV.length{kvs:List (κ × V)}{vs:List (κ × Value)}(r:KV kvs vs):kvs.length=vs.length:=Paired.length r
end
theorem yY{P:Program}{w:World}{k:bT}{u:Value}(r:RelV (kV k) u):(cL P w).is k u=true:=by
 cases k with
 | inl i=>obtain⟨t,e⟩:=(show ∃ t,u=Value.int i t from r); subst e; exact rS P w i t
 | inr x=>obtain⟨t,e⟩:=(show ∃ t,u=Value.str x t from r); subst e; exact rT P w x t
theorem pK{P:Program}{w:World}:∀ {ks:List bT} {us:List Value},Vals (ks.map kV) us→ItemsAre (cL P w) ks us
 | [],_,r=>by rw[List.map_nil]at r; cases r; exact .nil
 | k::ks,_,r=>by
  rw[List.map_cons]at r
  cases r with
  | cons h t=>exact .cons (yY h) (pK t)
abbrev KT (H:Hp):List (List bT × V)→List (List bT × Addr × Value)→Prop:=Paired fun p q=>p.1=q.1∧H q.2.1=some (.tup (p.1.map kV))∧RelV p.2 q.2.2
theorem KT.val{H:Hp}{kvs:List (List bT × V)}{xs:List (List bT × Addr × Value)}(r:KT H kvs xs)(k:List bT):RelO (dv kvs k) ((atKey xs k).map (·.2)):=by
 induction r with
 | nil=>exact True.intro
 | @cons p q ps qs h t ih=>
  obtain⟨h1,_,h2⟩:=h
  by_cases e:p.1=k
  ·have e':q.1=k:=h1.symm.trans e
   have b:atKey (q::qs) k=some q.2:=by simp[atKey,List.find?_cons,e']
   rw[mW e,b]; exact h2
  ·have e':¬ q.1=k:=fun z=>e (h1.trans z)
   have b:atKey (q::qs) k=atKey qs k:=by simp[atKey,List.find?_cons,e']
   rw[nh e,b]; exact ih
theorem KT.repl{H:Hp}{kvs:List (List bT × V)}{xs:List (List bT × Addr × Value)}(r:KT H kvs xs)(k:List bT){y:V}{u:Value}(ry:RelV y u) :
  KT H (kvs.map fun kv=>if kv.1=k then (kv.1,y) else kv) (xs.map (putAt k u)):=by
 induction r with
 | nil=>exact .nil
 | @cons p q ps qs h t ih=>
  rw[List.map_cons,List.map_cons]
  refine .cons ?_ ih
  obtain⟨h1,h2,h3⟩:=h
  unfold putAt
  by_cases e:p.1=k
  ·rw[if_pos e,if_pos (h1.symm.trans e)]; exact⟨h1,h2,ry⟩
  ·rw[if_neg e,if_neg (fun z=>e (h1.trans z))]; exact⟨h1,h2,h3⟩
theorem KT.put{H:Hp}{kvs:List (List bT × V)}{xs:List (List bT × Addr × Value)}(r:KT H kvs xs)(k:List bT){b:Addr}{y:V}{u:Value}(hb:H b=some (.tup (k.map kV)))(ry:RelV y u) :
  KT H (gh kvs k y) (storedH xs k b u):=by
 have e:(kvs.any fun kv=>decide (kv.1=k))=(atKey xs k).isSome:=by
  rw[rs,(r.val k).isSome_eq,Option.isSome_map]
 unfold gh storedH
 rw[e]
 by_cases q:(atKey xs k).isSome=true
 ·rw[if_pos q,if_pos q]; exact r.repl k ry
 ·rw[if_neg q,if_neg q]; exact Paired.snoc r ⟨rfl,hb,ry⟩
theorem KT.keeps{H H':Hp}{kvs:List (List bT × V)}{xs:List (List bT × Addr × Value)}(r:KT H kvs xs)(ht:∀ b ys,H b=some (.tup ys)→H' b=some (.tup ys)):KT H' kvs xs:=
 Paired.mapP r fun _ _ z=>⟨z.1,ht _ _ z.2.1,z.2.2⟩
section
variable{P:Program}{w:World}{H:Hp}{h:Heap}{a:Addr}
theorem y4{u:HO}(ok:HOk P w H h)(e:Rd H a u):ObjOk P w H h a u:=e.ok ok
theorem y6{kvs:List (bT × V)}(ok:HOk P w H h)(e:Rd H a (.dK kvs)):kvs.length≤sizeLine∧(a == sysModules)=false∧∃ vs,KV kvs vs∧h.DictOf (cL P w) a vs:=
 show ObjOk P w H h a (.dK kvs) from y4 ok e
theorem C6{kvs:List (bT × V)}(ok:HOk P w H h)(e:H a=some (.dK kvs)):kvs.length≤sizeLine∧(a == sysModules)=false∧∃ vs,KV kvs vs∧h.DictOf (cL P w) a vs:=y6 ok (.inl e)
theorem vA{ks:List bT}(ok:HOk P w H h)(e:H a=some (.tup (ks.map kV))):(tupleKind (cL P w)).is h ks a:=by
 obtain⟨_,its,r,o,h1,h2,_,n,h3⟩:=(show ObjOk P w H h a (.tup (ks.map kV)) from ok a _ e)
 exact⟨o,its.toArray,n,h1,h2,h3,by simpa using pK r⟩
theorem De{kvs:List (List bT × V)}(ok:HOk P w H h)(e:Rd H a (.dT kvs)):kvs.length≤sizeLine∧(a == sysModules)=false∧
  ∃ xs,KT H kvs xs∧h.DictOfH (tupleKind (cL P w)) a xs:=by
 obtain⟨z,y,xs,r,o,es,ep,h1,h2,h3,h4,h5⟩:=(show ObjOk P w H h a (.dT kvs) from y4 ok e)
 refine⟨z,y,xs,r,o,es,ep,h1,h2,h3,h4,fun x hx=>?_,h5⟩
 have all:∀ {l:List (List bT × V)} {m:List (List bT × Addr × Value)},KT H l m→∀ x∈m,(tupleKind (cL P w)).is h x.1 x.2.1:=by
  intro l m q
  induction q with
  | nil=>intro x hx; exact nomatch hx
  | @cons p q ps qs hq t ih=>
   intro x hx
   rcases List.mem_cons.mp hx with e | hx
   ·subst e
    exact vA ok (by rw[← hq.1]; exact hq.2.1)
   ·exact ih x hx
 exact all r x hx
theorem Dd{kvs:List (List bT × V)}(ok:HOk P w H h)(e:H a=some (.dT kvs)):kvs.length≤sizeLine∧(a == sysModules)=false∧
  ∃ xs,KT H kvs xs∧h.DictOfH (tupleKind (cL P w)) a xs:=De ok (.inl e)
end
def DPut(H:Hp)(a:Addr)(y v:V)(H':Hp):Prop:=
 (∃ kvs k,H a=some (.dK kvs)∧y=kV k∧kvs.length<sizeLine∧H'=upd H a (.dK (gh kvs k v)))∨
 ∃ kvs k b,H a=some (.dT kvs)∧y = .ref b∧H b=some (.tup (k.map kV))∧kvs.length<sizeLine∧H'=upd H a (.dT (gh kvs k v))
theorem DPut.k{H:Hp}{a:Addr}{kvs:List (bT × V)}{k:bT}{v:V}(e:H a=some (.dK kvs))(hl:kvs.length<sizeLine):DPut H a (kV k) v (upd H a (.dK (gh kvs k v))):=.inl ⟨kvs,k,e,rfl,hl,rfl⟩
section
variable{X:Cx}{pins:List (Addr × Obj)}{σ : St}{H:Hp}{s:Shared}{a:Addr}{y v:V}{u r:Value}{o:Option V}{A:Around}{E:Value→Shared→Prop}
theorem Inv.big(I:Inv X pins σ H s):sysModules<s.heap.objs.size:=by
 have h:mainGlobals<s.heap.objs.size:=(I.mod.glob.keeps I.bk).lt
 exact Nat.lt_trans (by decide) h
theorem tN{h':Heap}{t':Nat}{ob:HO}(I:Inv X pins σ H s)(mu:wz (H a))(hs:Heap.SameBut a s.heap h')(he:∃ q,h'.get? a=some q)(new:ObjOk X.prog X.w (upd H a ob) h' a ob) :
  Inv X pins σ (upd H a ob) { s with heap:=h',toks:=t' }:=
 I.write (x:=a) (e:=a) mu (.inl rfl) (fun b q hb z=>(hs.2 b hb).trans z) he new
theorem CO{P:Program}{w:World}{H':Hp}{h':Heap}{kvs:List (bT × V)}{vs:List (bT × Value)}(z:kvs.length≤sizeLine)(hd:(a == sysModules)=false)(rel:KV kvs vs)(dd:h'.DictOf (cL P w) a vs) :
  ObjOk P w H' h' a (.dK kvs):=⟨z,hd,vs,rel,dd⟩
theorem vw{H':Hp}{Q:Unit→Shared→Prop}(hu:A.units+1<cLine)(I:Inv X pins σ H s)(g:DPut H a y v H')(ry:RelV y u)(rv:RelV v r)(h:∀ s',Inv X pins σ H' s'→Q () s') :
  wpAny (model X.prog X.w) A (setItem (.ref a) u r) Q E s:=by
 rcases g with ⟨kvs,k,e,ey,l,eH⟩ | ⟨kvs,k,b,e,ey,eb,l,eH⟩
 ·subst ey eH
  obtain⟨z,hd,vs,rel,dd⟩:=C6 I.hok e
  have hz:vs.length≤sizeLine:=by rw[← rel.length]; exact z
  have hl:(gh kvs k v).length≤sizeLine:=by have:=mD kvs k v; omega
  refine wpAny_setItem_pairs (hsz:=hz) (yY ry) dd fun h' dd' hs=>h _ ?_
  have he:∃ q,h'.get? a=some q:=let ⟨q,_,_,hq,_⟩:=dd'; ⟨q,hq⟩
  exact tN I (by rw[e]; exact True.intro) hs he (CO hl hd (rel.put k rv) dd')
 ·subst ey eH
  cases (show u=Value.ref b from ry)
  obtain⟨z,hd,xs,rel,dd⟩:=Dd I.hok e
  have hz:xs.length≤sizeLine:=by rw[← Paired.length rel]; exact z
  have hl:(gh kvs k v).length≤sizeLine:=by have:=mD kvs k v; omega
  refine wpAny_setItem_heap (hsz:=hz) (tupleKind_room_in1 hu) (vA I.hok eb) dd fun h' dd' hs=>h _ ?_
  obtain⟨q,es,ep,hq,h2,h3,h4,_,h5⟩:=dd'
  refine tN I (by rw[e]; exact True.intro) hs ⟨q,hq⟩ ⟨hl,hd,_,(rel.put k eb rv).keeps fun c ys ec=>?_,q,es,ep,hq,h2,h3,h4,h5⟩
  rw[aA (fu ec e (fun z=>nomatch z))]
  exact ec
end
section
variable{X:Cx}{pins:List (Addr × Obj)}{σ : St}{H:Hp}{s:Shared}{a:Addr}{kvs:List (bT × V)}{k:bT}{u:Value}{A:Around}{E:Value→Shared→Prop}
end
section
variable{X:Cx}{o i e value:Expr}{pos pos' tpos:Pos}{td ty tv:TE}
end
theorem xV{P:Program}{w:World}{H:Hp}(h:Heap)(hb:sysModules<h.objs.size):ObjOk P w H (h.push { cls:=.type "dict", data:=.dict #[] }) h.objs.size (.dK []):=
 ⟨Nat.zero_le _,beq_eq_false_iff_ne.mpr (Ne.symm (Nat.ne_of_lt hb)),[],.nil,Heap.DictOf.new h⟩
def AS:TE:=fun _ H Q=>∀ p,H p=none→Q (.ref p) (upd H p (.dK []))
section
variable{X:Cx}{pos:Pos}
theorem rC:PE X (.Dict [] [] pos) AS:=fun pins s σ H Q I h=>
 wpAny_Dict_empty ⟨.ref s.heap.objs.size,_,I.laid (a:=s.heap.objs.size) (o:=.dK []) (t':=s.toks) (fun _ _ q=>Heap.get?_push_of_some _ q) (Nat.le_refl _) (xV s.heap I.big),rfl,h _ (I.hok.fresh (Nat.le_refl _))⟩
end
def lI:List (TE × TE)→St→Hp→(List (V × V)→Hp→Prop)→Prop
 | [],_,H,Q=>Q [] H
 | (tk,tv)::r,σ,H,Q=>tk σ H fun x H1=>tv σ H1 fun y H2=>lI r σ H2 fun ps H3=>Q ((x,y)::ps) H3
abbrev VV:List (V × V)→List (Value × Value)→Prop:=Paired fun p q=>RelV p.1 q.1∧RelV p.2 q.2
def PPs(X:Cx)(pos:Pos)(keys:List (Option Expr))(values:List Expr)(trs:List (TE × TE)):Prop:=
 ∀ (pins:List (Addr × Obj)) (s:Shared) (σ : St) (H:Hp) (Q:List (V × V)→Hp→Prop),Inv X pins σ H s→lI trs σ H Q→
  wpAny (model X.prog X.w) X.A (evalPairs (pairTrees keys values X.env pos)) (fun vs s'=>∃ ps H',Inv X pins σ H' s'∧VV ps vs∧Q ps H') X.xe s
section
variable{X:Cx}{pins:List (Addr × Obj)}{σ : St}{H:Hp}{s:Shared}{a:Addr}{y d:V}{u r:Value}{o:Option V}{A:Around}{E:Value→Shared→Prop}
end
section
variable{X:Cx}{o e f:Expr}{apos cpos:Pos}{td ty tx:TE}
end
section
variable{X:Cx}{pins:List (Addr × Obj)}{σ : St}{H:Hp}{s:Shared}{a:Addr}{kvs:List (bT × V)}{A:Around}{E:Value→Shared→Prop}
end
section
variable{X:Cx}{pins:List (Addr × Obj)}{σ : St}{H:Hp}{s:Shared}{a:Addr}{y:V}{u:Value}{A:Around}{E:Value→Shared→Prop}
end
end L2
namespace Att
open PySem PySem.W PySem.Calls PyProof.Rows
theorem nX{P:Params}{h:Heap}:∀ (ns:List Int) (vs:List Value),WellAll P h vs (ns.map WData.int)→IntsAre vs ns:=by
 intro ns
 induction ns with
 | nil=>
  intro vs w
  rw[List.map_nil]at w
  cases w
  exact .nil
 | cons n ns ih=>
  intro vs w
  rw[List.map_cons]at w
  cases w with
  | cons a b=>
   cases a
   exact .cons _ _ (ih _ b)
theorem wx{l:OpenLaw}{n:Nat}(hn:l.most=some n){P:Params}{h:Heap}{args:List WData}{vals:List Value}
  (hpre:l.row.toRowW.claim.pre args=true) (hwl:WellAll P h vals args) :
  ∃ a vs ns,vals=[Value.ref a]∧args=[WData.list (ns.map WData.int)]∧h.get? a=some { cls:=.type "list", data:=.seq vs.toArray }∧IntsAre vs ns∧ns.length≤n:=by
 have hsh:WShape.hasAll [] args [.list .int]=true:=(pre_splitW hpre).1
 have hc:l.pre.holds [] { args:=args }=true:=(pre_splitW hpre).2
 obtain⟨d,r,rfl,h1,h2⟩:=hasAllW_cons hsh
 obtain rfl:=hasAllW_nil h2
 obtain⟨xs,rfl,h3⟩:=hasW_list h1
 obtain⟨ns,rfl⟩:=items_int h3
 have hlen:ns.length≤n:=by
  unfold OpenLaw.pre at hc
  have h4:(WTm.not (.lt (.lit (.int (n:Int))) (.len (.arg 0)))).holds [] { args:=[.list (ns.map .int)] }=true:=by
   have h4:=(holds_andW hc).1
   rw[hn]at h4
   exact h4
  have h5:=condW_of h4 (w_not (w_lt w_lit (w_len_list (w_arg rfl))))
  rw[List.length_map]at h5
  refine Nat.le_of_not_lt fun q=>?_
  have q':(n:Int)<((ns.length:Nat):Int):=by omega
  first
   | (rw[decide_eq_true q']at h5; exact absurd h5 (by decide))
   | (simp at h5; omega)
 cases hwl with
 | cons w1 w2=>
  cases w2
  cases w1 with
  | list ho hall=>exact⟨_,_,ns,rfl,rfl,ho,nX ns _ hall,hlen⟩
theorem wb(l:OpenLaw)(args:List WData):l.row.toRowW.claim.post args (.bool true) args=true:=
 postW_of (r:=l.row.toRowW) (X:=(true == true))
  (show WShape.has [] (.bool true) .bool=true by first | rfl | decide | simp[WShape.has,WShape.arms,WShape.armsAll])
  (show (WTm.eq .res (.lit (.bool true))).value [] { args:=args,res:=some (.bool true),after:=args }=some (.bool (true == true)) from w_eq_bool (w_res rfl) w_lit) rfl
theorem attach_call{l:OpenLaw}{n:Nat}{q:Program}{loose:List Str}{XP:(Str→Option Value)→Heap→Prop}{YP:World→Heap→Prop}{d:DefRec}
  (hn:l.most=some n) (hdf:d.params.defaults=[])
  (call:∀ (w:World) (s₀ s₁:Shared) (mg mb:Str→Option Value) (fa:Addr) (o:Obj) (pm cd doc:Value) (a:Addr) (vs:List Value) (ns:List Int),
   Ground q loose [] XP w s₀ mg mb s₁.heap→YP w s₁.heap→
   s₁.heap.get? fa=some o→o.data = .func (docDef d.name d.params d.body d.scope pm cd doc)→s₁.heap.CodeRec cd d.name→mg d.name=some (.ref fa)→
   s₁.heap.get? a=some { cls:=.type "list", data:=.seq vs.toArray }→IntsAre vs ns→ns.length≤n→s₁.gens = #[]→
   codeAny (model l.prog w) callerA (.call (.ref fa) ⟨[.ref a],[]⟩) (fun r s'=>r = .ok (.ret (.bool true))∧OldK s₁.heap s'.heap∧s'.os=s₁.os∧AllBare s'.gens) s₁) :
  WalkO q loose XP YP l.row.toRowW d [] (fun f vs=>PySem.call f vs):=by
 intro w s₀ s₁ mg mb G Y fa o pm cd doc dV kV ho hd hcd hD hmg hg args vals as hpre hlay hrd hwl hlo
 obtain rfl:dV = .none:=Dflts.none hD hdf
 obtain rfl:kV = .none:=Dflts.noKw hD
 obtain⟨a,vs,ns,rfl,rfl,hobj,hints,hlen⟩:=wx hn hpre hwl
 refine enter_call (codeAny_mono (call w s₀ s₁ mg mb fa o pm cd doc a vs ns G Y ho (fd_plain hd) hcd hmg hobj hints hlen hg) fun r s' hq=>?_)
 obtain⟨rfl,h2,h3,h4⟩:=hq
 exact⟨.inl ⟨.bool true,.bool true,[],rfl,fun _=>rfl,.bool true,wb l _,fun _=>⟨List.Pairwise.nil,fun _ hm=>(nomatch hm)⟩⟩,h2,h3,h4⟩
section
variable{prog:Program}{w:World}{A:Around}{E:Value→Shared→Prop}{s:Shared}{K:Frag}
end
end Att
namespace L2
open PySem PySem.Spec PyProof.Rows
theorem pj:∀ {vs:List Value} {ns:List Int},IntsAre vs ns→Vals (ns.map V.int) vs
 | _,_,.nil=>.nil
 | _,_,.cons n t h=>.cons ⟨t,rfl⟩ (pj h)
def xM(H:Hp):Prop:=∀ b,H b=none∨∃ o xs,H b=some (.frz o (.lst xs))
theorem xR{P:Program}{w:World}{K:PySem.W.Frag}{mg mb:Str→Option Value}{CX:lb}{k:Nat}{fa a:Addr}{fd:FuncData}{x:Str}{sp:Sp}{s₁:Shared}{vs:List Value}{ns:List Int}
  (KX:K.In s₁.heap) (hns:s₁.heap.Ns mainGlobals mg) (hb:s₁.heap.Ns builtinsNs mb) (hbb:∀ x:Str,x ≠ "__name__" → mb x=bootBuiltins x) (hlim:s₁.heap.NoLimit) (hg:s₁.gens = #[])
  (ha:s₁.heap.get? a=some { cls:=.type "list", data:=.seq vs.toArray }) (hi:IntsAre vs ns) (hl:ns.length≤sizeLine) (hr:Room k callerA)
  (F:∀ base:Heap,K.In base→base.Ns mainGlobals mg→jk P w K mg base CX k fa fd [x] sp) (hbind:∀ (s:Shared) (u:Value),BindsTo s fd ⟨[u],[]⟩ [(x,u)])
  (hsp:∀ H:Hp,xM H→SqL K H a (ns.map V.int)→sp [.ref a] H (fun v _=>v = .bl true) fun _ _ _=>False)
  (hCX:∀ H e s',CX [] H s₁ (fun _ _ _=>False) e s'→False) :
  codeAny (model P w) callerA (.call (.ref fa) ⟨[.ref a],[]⟩) (fun r s'=>r = .ok (.ret (.bool true))∧OldK s₁.heap s'.heap∧s'.os=s₁.os∧AllBare s'.gens) s₁:=by
 have rv:=pj hi
 have lenV:=hi.length
 -- from an abstract heap in which nothing but the script may be tracked
 have core:∀ H:Hp,xM H→SqL K H a (ns.map V.int)→HOk P w H s₁.heap→(∀ b,H b≠none→b=a)→(H a≠none→K.lookup a=none)→
   codeAny (model P w) callerA (.call (.ref fa) ⟨[.ref a],[]⟩) (fun r s'=>r = .ok (.ret (.bool true))∧OldK s₁.heap s'.heap∧s'.os=s₁.os∧AllBare s'.gens) s₁:=by
  intro H hO hS hok hA hK
  have base_of:∀ {b:Addr} {o:Obj},s₁.heap.get? b=some o→H b=none→(kx s₁.heap H).get? b=some o:=fun e n=>yg e n
  have noA:∀ {b:Addr} {o:Obj} {es:Array DictEntry} {ep:Nat},s₁.heap.get? b=some o→o.data = .dict es ep→H b=none:=fun {b o es ep} e d=>by
   cases q:H b with
   | none=>rfl
   | some u=>
    have e':b=a:=hA b (by rw[q]; simp)
    subst e'
    rw[ha]at e; cases e
    have d':Data.seq vs.toArray _=Data.dict es ep:=d
    cases d'
  have nsK:∀ {b:Addr} {m:Str→Option Value},s₁.heap.Ns b m→(kx s₁.heap H).Ns b m:=fun {b m} ⟨o,es,ep,e,d,r⟩=>⟨o,es,ep,base_of e (noA e d),d,r⟩
  have hKb:K.In (kx s₁.heap H):=fun b o e=>base_of (KX b o e) (by
   cases q:H b with
   | none=>rfl
   | some u=>
    have e':b=a:=hA b (by rw[q]; simp)
    subst e'
    rw[hK (by rw[q]; simp)]at e; cases e)
  have hM:Mod K mg (kx s₁.heap H):=⟨hKb,nsK hns,⟨mb,nsK hb,hbb⟩,let ⟨mc,h1,h2⟩:=hlim; ⟨mc,nsK h1,h2⟩⟩
  have e0:uu P w K mg (kx s₁.heap H) callerA [] s₁ H:=⟨rfl,hM,fun b o e=>zM e,Nat.le_of_eq (w_ _ _),trivial,fun b hb=>absurd (show b∈([]:List Addr) from hb) (by simp),hok,.of_eq hg⟩
  refine codeAny_mono ((F _ hKb (nsK hns)).run callerA [] s₁ H ⟨[.ref a],[]⟩ [.ref a] [.ref a] _ _ hr e0 (hbind s₁ (.ref a)) (.cons rfl .nil) (hsp H hO hS)) fun r s' h=>?_
  cases r with
  | error e=>exact(hCX H e s' h).elim
  | ok fl=>
   cases fl with
   | next=>exact False.elim h
   | brk=>exact False.elim h
   | cont=>exact False.elim h
   | ret u=>
    obtain⟨v,H',os,bare,un,hok',r',q⟩:=h
    have q':v = .bl true:=q
    subst q'
    obtain rfl:u=Value.bool true:=r'
    refine⟨rfl,OldK.of_keep fun b o e=>?_,os,bare⟩
    cases q:H b with
    | none=>exact un.keep b o e q (by intro z; exact absurd (show b∈([]:List Addr) from z) (by simp)) (by simp)
    | some u=>
     rcases hO b with z | ⟨ob,xs,z⟩
     ·rw[q]at z; cases z
     ·have z2:=un.frzs b ob _ z
      obtain⟨e1,_⟩:=hok b _ z
      obtain⟨e2,_⟩:=hok' b _ z2
      rw[e]at e1; cases e1
      exact e2
 cases hk:K.lookup a with
 | some o=>
  -- the script is one of the module's own objects
  have e:=KX a o hk
  rw[ha]at e
  cases e
  refine core (fun _=>none) (fun _=>.inl rfl) (.inr ⟨_,vs.toArray,_,hk,rfl,rfl,rfl,by rw[List.size_toArray,lenV]; exact hl,by simpa using rv⟩) (fun b u z=>by have z':(none:Option HO)=some u:=z; cases z') (fun b z=>absurd rfl z) fun z=>absurd rfl z
 | none=>
  refine core (fun b=>if b=a then some (.frz { cls:=.type "list", data:=.seq vs.toArray } (.lst (ns.map V.int))) else none) (fun b=>?_) (.inl (.inr ⟨{ cls:=.type "list", data:=.seq vs.toArray },if_pos rfl⟩)) (fun b u z=>?_) (fun b z=>?_) fun _=>hk
  ·by_cases hb:b=a
   ·exact .inr ⟨_,_,if_pos hb⟩
   ·exact .inl (if_neg hb)
  ·by_cases hb:b=a
   ·have z':=(if_pos hb).symm.trans z
    cases z'
    subst hb
    exact⟨ha,by rw[List.length_map]; exact hl,vs,_,rv,ha⟩
   ·have z':=(if_neg hb).symm.trans z
    cases z'
  ·by_cases hb:b=a
   ·exact hb
   ·exact absurd (if_neg hb) z
end L2
namespace L2
open PySem PySem.Spec PyProof.Rows
abbrev KOf {K:PySem.W.Frag} {h:Heap} (_:K.In h):PySem.W.Frag:=K
theorem walk_of{l:PySem.W.OpenLaw}{n k:Nat}{q:Program}{loose:List Str}{XP:(Str→Option Value)→Heap→Prop}{YP:World→Heap→Prop}{d:DefRec}{K:Params→PySem.W.Frag}{CX:World→lb}{sp:World→Sp}{x:Str}
  (hn:l.most=some n) (hn2:n≤sizeLine) (hdf:d.params.defaults=[]) (hr:Room k callerA)
  (hY:∀ (w:World) (h:Heap),YP w h→(K w.params).In h)
  (F:∀ (w:World) (mg:Str→Option Value) (fa:Addr) (h:Heap),(K w.params).In h→h.Ns mainGlobals mg→mg d.name=some (.ref fa)→
   ∃ fd:FuncData,(∀ (s:Shared) (u:Value),BindsTo s fd ⟨[u],[]⟩ [(x,u)])∧
    ∀ base:Heap,(K w.params).In base→base.Ns mainGlobals mg→jk l.prog w (K w.params) mg base (CX w) k fa fd [x] (sp w))
  (hsp:∀ (w:World) (H:Hp) (a:Addr) (ns:List Int),ns.length≤n→xM H→SqL (K w.params) H a (ns.map V.int)→sp w [.ref a] H (fun v _=>v = .bl true) fun _ _ _=>False)
  (hCX:∀ (w:World) (H:Hp) (s:Shared) (e:Value) (s':Shared),CX w [] H s (fun _ _ _=>False) e s'→False) :
  PySem.W.WalkO q loose XP YP l.row.toRowW d [] (fun f vs=>PySem.call f vs):=by
 refine Att.attach_call hn hdf fun w s₀ s₁ mg mb fa o pm cd doc a vs ns G Y ho hd hcd hmg hobj hints hlen hg=>?_
 have KX:=hY w _ Y
 obtain⟨fd,hb,hF⟩:=F w mg fa _ KX G.T.g hmg
 exact xR KX G.T.g G.T.b G.T.builtins G.T.nolimit hg hobj hints (Nat.le_trans hlen hn2) hr hF hb (fun H hO hS=>hsp w H a ns hlen hO hS) fun H e s'=>hCX w H s₁ e s'
end L2
/- THE LAST THEOREM (shape; LID, My.* are yours):
   My.Adr: a structure of the addresses that your layer names (classes,functions); My.Txt K t: a structure (Prop) of the equations over K;
   My.txt_mk:{K} {implicit addresses ..} (e1:nsIn K mainGlobals "law" = some (some (.ref f))) (e2:K.lookup f=some ⟨oc,od,.func (fnOf "law" "law" params body scope dV kV doc pm an cdv ct),sl⟩) (e3:codeIn K cdv "law" = true) .. : ∃ t,My.Txt K t
set_option maxRecDepth 100000 in
set_option maxHeartbeats 0 in
theorem PySem.Challenge.cw_LID_holds : PySem.Challenge.rw_LID.Holds := by
 w_on; o_law; k_head; (case hw=>w_witness2)
 k_fill
 refine L2.walk_of (l:=PySem.Challenge.rw_LID) (n:=63) (k:=40) (x := "script") (CX:=fun w=>..) (sp:=fun _=>My.sp_law) rfl (by decide) rfl ⟨rfl,by decide,by decide⟩ (fun w h Y=>PySem.W.kIn_of Y) ?F ?S ?C
 case F=>
  intro w mg fa h KX G hmg
  have T:∃ t,My.Txt (L2.KOf KX) t:=by
   dsimp only[L2.KOf]                          -- K must stand as «<heap const> w.params» for k_is
   refine' My.txt_mk ?e1 ?e2 ?e3 ..
   (case e1=>PySem.W.k_is)                    -- in the order: a name -> its address -> its object -> its parts
   (case e2=>PySem.W.k_is)
   ..
  obtain⟨t,T⟩:=T
  have e0:=hmg.symm.trans (PySem.W.mg_of KX G T.law)
  cases e0                                       -- fa is the law's own address
  exact⟨_,fun s u=>.of_eq rfl,fun base kb nb=>My.law_fn T kb nb⟩     -- if «.of_eq rfl» comes too early: refine' ⟨_,?b,fun base kb nb=>My.law_fn T kb nb⟩; exact fun s u=>.of_eq rfl
 case S=>exact fun w H a ns hl hO hS=>..
 case C=>exact ..
(the tactic k_is has no namespace: write k_is) -/
namespace L2
open PySem PySem.Spec PyProof.Rows
abbrev nP:lb:=fun _ _ _ _ _ _=>False
abbrev E0:XK:=fun _ _ _=>False
theorem C3{X:Cx}:rG nP X E0:=fun _ _ _ _ _ _ _ h=>h.elim
structure Fun (K:PySem.W.Frag) (x qual:Str) (st:Stmt) (f:Addr) (fd:FuncData):Prop where
 ex:∃ (oc:Value) (od:Option Addr) (kV doc pm:Value) (an:Option Addr) (cdv ct:Value) (osl:Array (Option Value)),
  fd=PySem.W.fnOf x qual (defArgs st) (defBody st) (defScope st) .none kV doc pm an cdv ct∧K.lookup f=some ⟨oc,od,.func fd,osl⟩∧PySem.W.codeIn K cdv qual=true
 kp:PySem.W.keepIn K (.ref f)=true
section
variable{P:Program}{w:World}{K:PySem.W.Frag}{mg:Str→Option Value}{base:Heap}
theorem Fun.ok{x qual:Str}{st:Stmt}{f:Addr}{fd:FuncData}{N ps:List Str}{k:Nat}{sp:Sp}(F:Fun K x qual st f fd)(S:bc N ps (defScope st))(len:∀ vs H Q E,sp vs H Q E→vs.length=ps.length)
  (hbody:∀ (cdv:Value) (A:Around) (outer:List Env) (s:Shared) (H:Hp) (vs:List V) (Q:VK) (E:XK),Room k (A.deeper (envOfC qual (defScope st) s.heap.objs.size f cdv))→sp vs H Q E→
   ∃ t,PSs (kA nP P w K mg base N qual (defScope st) f cdv A outer s H E).nox (defBody st) t∧t { nx:=fun _ H'=>Q .non H',rt:=Q } (start N vs) H):jk P w K mg base nP (k+1) f fd ps sp:=by
 obtain⟨oc,od,kV,doc,pm,an,cdv,ct,osl,rfl,lk,hcd⟩:=F.ex
 refine zk lk hcd S len fun A outer s H vs Q E hr hsp=>?_
 obtain⟨t,h,q⟩:=hbody cdv A outer s H vs Q E hr hsp
 exact⟨t,h.nox,q⟩
theorem Fun.binds{x qual:Str}{st:Stmt}{f:Addr}{fd:FuncData}{ps:List Str}(F:Fun K x qual st f fd)
  (h:∀ (kV doc pm:Value) (an:Option Addr) (cdv ct:Value) (us:List Value),us.length=ps.length→bindArgs (PySem.W.fnOf x qual (defArgs st) (defBody st) (defScope st) .none kV doc pm an cdv ct) ⟨us,[]⟩=pure (ps.zip us)):Binds K fd ps []:=by
 obtain⟨oc,od,kV,doc,pm,an,cdv,ct,osl,rfl,lk,hcd⟩:=F.ex
 exact .all (h kV doc pm an cdv ct)
theorem bI{x qual:Str}{st:Stmt}{f:Addr}{oc:Value}{od an:Option Addr}{osl:Array (Option Value)}{kV doc pm cdv ct:Value}(l:K.lookup f=some ⟨oc,od,.func (PySem.W.fnOf x qual (defArgs st) (defBody st) (defScope st) .none kV doc pm an cdv ct),osl⟩)
  (c:PySem.W.codeIn K cdv qual=true) (k:PySem.W.keepIn K (.ref f)=true):Fun K x qual st f (PySem.W.fnOf x qual (defArgs st) (defBody st) (defScope st) .none kV doc pm an cdv ct):=⟨⟨oc,od,kV,doc,pm,an,cdv,ct,osl,rfl,l,c⟩,k⟩
end
section
variable{X:Cx}
theorem pv(i:Nat){x:Str}{pos:Pos}(hN:X.N[i]? = some x:=by rfl)(hv:aM X.env.scope x:=by first | exact Or.inl rfl | exact Or.inr (Or.inl rfl) | exact Or.inr (Or.inr rfl))(hd:(x == ("__debug__" : Str))=false:=by decide)
  (hcd:(x == ("__classdict__" : Str))=false:=by decide):PE X (.Name x pos) (bu i):=Cq hN hv hd hcd
end
theorem aB{c A B:Prop}[Decidable c](h1:c→A)(h2:¬ c→B):if c then A else B:=by
 by_cases h:c
 ·rw[if_pos h]
  exact h1 h
 ·rw[if_neg h]
  exact h2 h
def Same(H H':Hp):Prop:=∀ b o,H b=some o→H' b=some o
theorem Same.refl(H:Hp):Same H H:=fun _ _ h=>h
theorem Same.trans{H H1 H2:Hp}(a:Same H H1)(b:Same H1 H2):Same H H2:=fun c o h=>b c o (a c o h)
theorem Same.free{H H':Hp}(e:Same H H'){l:Addr}(h:H' l=Option.none):H l=Option.none:=by
 cases q:H l with
 | none=>rfl
 | some o=>
  rw[e l o q]at h
  cases h
theorem Same.seq{K:PySem.W.Frag}{H H':Hp}{a:Addr}{xs:List V}(e:Same H H')(h:SqL K H a xs):SqL K H' a xs:=by
 rcases h with (h | ⟨o,h⟩) | h
 ·exact .inl (.inl (e _ _ h))
 ·exact .inl (.inr ⟨o,e _ _ h⟩)
 ·exact .inr h
section
variable{κ : Type}[DecidableEq κ]
end
end L2
namespace L2
open PySem PySem.Spec PyProof.Rows
def dO(cells:List (Str × Addr)):List (Str × NameKind)→List (Str × Addr)→List (Str × Addr)
 | [],acc=>acc
 | (n,k)::r,acc=>dO cells r (if k == .free then (n,(cells.lookup n).getD 0)::acc else acc)
theorem qE{env:Env}{f:(Str × NameKind)→List (Str × Addr)→Sem (ForInStep (List (Str × Addr)))}
  (hf:∀ n k cs,f (n,k) cs=if (k == NameKind.free)=true then (cellOf env n >>= fun c=>pure (ForInStep.yield ((n,c)::cs))) else pure (ForInStep.yield cs)) :
  ∀ (names:List (Str × NameKind)) (acc:List (Str × Addr)),(∀ x∈names,x.2 = .free→∃ c,env.cells.lookup x.1=some c)→
  forIn names acc f=(pure (dO env.cells names acc):Sem _)
 | [],acc,_=>rfl
 | (n,k)::r,acc,h=>by
  rw[List.forIn_cons,hf]
  have ih:=fun acc=>qE hf r acc fun x hx=>h x (List.mem_cons_of_mem _ hx)
  by_cases hk:(k == NameKind.free)=true
  ·rw[if_pos hk]
   obtain⟨c,hc⟩:=h (n,k) List.mem_cons_self (by simpa using hk)
   have e:cellOf env n=pure c:=by unfold cellOf; rw[hc]
   rw[e,pure_bind,pure_bind]
   show forIn r ((n,c)::acc) f=_
   rw[ih]
   show _=pure (dO env.cells r (if (k == NameKind.free)=true then (n,(env.cells.lookup n).getD 0)::acc else acc))
   rw[if_pos hk,hc]; rfl
  ·rw[if_neg hk,pure_bind]
   show forIn r acc f=_
   rw[ih]
   show _=pure (dO env.cells r (if (k == NameKind.free)=true then (n,(env.cells.lookup n).getD 0)::acc else acc))
   rw[if_neg hk]
theorem la{env:Env}{scope:Scope}(h:∀ x∈scope.names,x.2 = .free→∃ c,env.cells.lookup x.1=some c):closureFor scope env=pure (dO env.cells scope.names []):=by
 unfold closureFor
 show (forIn scope.names ([]:List (Str × Addr)) _ >>= fun cs=>pure cs)=_
 rw[qE (env:=env) (fun n k cs=>?_) _ _ h]
 ·rfl
 ·rfl
theorem mw{cells:List (Str × Addr)}:∀ {names:List (Str × NameKind)} {acc:List (Str × Addr)} {x:Str} {c:Addr},(∀ y∈names,y.2 = .free→∃ c,cells.lookup y.1=some c)→
  (∀ y c,acc.lookup y=some c→cells.lookup y=some c)→(dO cells names acc).lookup x=some c→cells.lookup x=some c
 | [],acc,x,c,_,ha,h=>ha x c h
 | (n,k)::r,acc,x,c,hn,ha,h=>by
  refine mw (names:=r) (fun y hy=>hn y (List.mem_cons_of_mem _ hy)) ?_ h
  intro y d hy
  by_cases hk:(k == NameKind.free)=true
  ·rw[if_pos hk]at hy
   obtain⟨e,he⟩:=hn (n,k) List.mem_cons_self (by simpa using hk)
   have he':cells.lookup n=some e:=he
   rw[List.lookup_cons]at hy
   by_cases hyn:(y == n)=true
   ·rw[hyn]at hy
    have hy':(cells.lookup n).getD 0=d:=Option.some.inj hy
    rw[he']at hy'
    have e1:y=n:=by simpa using hyn
    rw[e1,he',← hy']; rfl
   ·have hf:(y == n)=false:=by simpa using hyn
    rw[hf]at hy
    exact ha y d hy
  ·rw[if_neg hk]at hy
   exact ha y d hy
theorem nD{cells:List (Str × Addr)}:∀ {names:List (Str × NameKind)} {acc:List (Str × Addr)} {x:Str},(∃ c,acc.lookup x=some c)→∃ c,(dO cells names acc).lookup x=some c
 | [],_,_,h=>h
 | (n,k)::r,acc,x,h=>by
  refine nD (names:=r) ?_
  by_cases hk:(k == NameKind.free)=true
  ·rw[if_pos hk,List.lookup_cons]
   cases hx:(x == n) with
   | true=>exact⟨_,rfl⟩
   | false=>exact h
  ·rw[if_neg hk]; exact h
theorem kF{cells:List (Str × Addr)}:∀ {names:List (Str × NameKind)} {acc:List (Str × Addr)} {x:Str},(x,NameKind.free)∈names→∃ c,(dO cells names acc).lookup x=some c
 | (n,k)::r,acc,x,h=>by
  rcases List.mem_cons.mp h with e | h
  ·have e1:x=n:=congrArg (·.1) e
   have e2:NameKind.free=k:=congrArg (·.2) e
   subst e1 e2
   refine nD (names:=r) ?_
   rw[if_pos (by rfl),List.lookup_cons]
   rw[beq_self_eq_true]
   exact⟨_,rfl⟩
  ·exact kF (names:=r) h
theorem eJ{env:Env}:∀ {names:List (Str × NameKind)} {x:Str} {k:NameKind},(∀ y∈names,y.2 ≠ .cell)→
  (names.map fun (n,k)=>if (k == NameKind.free&&env.scope.kind == .function&&env.kindOf n == some .cell) then (n,NameKind.cell) else (n,k)).lookup x=some k→(k = .cell∨k = .free)→(x,NameKind.free)∈names
 | [],_,_,_,h,_=>by simp at h
 | (n,k0)::r,x,k,hc,h,hk=>by
  have ih:=@eJ env r x k (fun y hy=>hc y (List.mem_cons_of_mem _ hy))
  rw[List.map_cons]at h
  by_cases hf:(k0 == NameKind.free&&env.scope.kind == .function&&env.kindOf n == some .cell)=true
  ·have hk0:k0 = .free:=by
    have:(k0 == NameKind.free)=true:=by
     rw[Bool.and_eq_true,Bool.and_eq_true]at hf; exact hf.1.1
    simpa using this
   dsimp only at h
   rw[if_pos hf,List.lookup_cons]at h
   cases hx:(x == n) with
   | true=>
    have:x=n:=by simpa using hx
    rw[this,hk0]; exact List.mem_cons_self
   | false=>rw[hx]at h; exact List.mem_cons_of_mem _ (ih h hk)
  ·dsimp only at h
   rw[if_neg hf,List.lookup_cons]at h
   cases hx:(x == n) with
   | true=>
    rw[hx]at h
    have e:k0=k:=Option.some.inj h
    have:x=n:=by simpa using hx
    rcases hk with z | z
    ·exact absurd (e.trans z) (hc (n,k0) List.mem_cons_self)
    ·rw[this,e,z]; exact List.mem_cons_self
   | false=>rw[hx]at h; exact List.mem_cons_of_mem _ (ih h hk)
def bZ(X:Cx)(N0 T:List Str)(scope:Scope)(C:Addr)(fp:List Addr)(s:Shared)(H:Hp):Cx:=
 { X with N:=N0++T,s₀:=s,H₀:=H,env:=compEnvC scope (dO X.env.cells scope.names []) C X.env,outer:=X.stack,stack:=X.stack,ex:=fp,fn:=fun _=>false,pn:=[],xe:=fun _ _=>False }
structure jN (X:Cx) (N0 T:List Str) (scope:Scope):Prop where
 kind:scope.kind = .function
 nocell:∀ y∈scope.names,y.2 ≠ .cell
 names:∀ y∈scope.names,y.2 = .local→scope.names.lookup y.1=some .local
 free:∀ y∈scope.names,y.2 = .free→X.env.kindOf y.1=some .cell∨X.env.kindOf y.1=some .free
 apart:∀ y∈scope.names,y.2 = .local→y.1∉N0
 len0:N0.length=X.N.length
 same:∀ (i:Nat) (x:Str) (k:NameKind),N0[i]? = some x→(x,k)∈scope.names→X.N[i]? = some x
theorem lc{prog:Program}{w:World}{A:Around}{R:Result→Shared→Prop}{s:Shared}{elt target iter:Expr}{ifs:List Expr}{scope:Scope}{pos:Pos}{it acc:Value}{env:Env}(I:Nat→Shared→Prop)
  (turn:∀ n s,I n s→wpAny (model prog w) A (pyNext it) (fun r s₁=>match r with
   | none=>R (.ok .next) s₁
   | some v=>wpAny (model prog w) A (letOwnedTupleGo target it v) (fun _ s₀=>wpAny (model prog w) A (assign target env v) (fun _ s₂=>
     wpAny (model prog w) A (forIn ifs true fun c r=>if r=true then do let ok ← isTrue c env (eval c env); pure (ForInStep.yield ok) else pure (ForInStep.yield r)) (fun ok s₃=>
      if ok=true then wpAny (model prog w) A (eval elt env) (fun x s₄=>
       wpAny (model prog w) A (call (.builtin "list.append") [acc,x]) (fun _ s₅=>∃ m,m<n∧I m s₅) (fun _ _=>False) s₄) (fun _ _=>False) s₃
      else ∃ m,m<n∧I m s₃) (fun _ _=>False) s₂) (fun _ _=>False) s₀) (fun _ _=>False) s₁) (fun _ _=>False) s)
  (n:Nat) (h:I n s) :
  codeAny (model prog w) A (.compLoop (.ListComp elt [⟨target,iter,ifs,0⟩] scope pos) 0 it acc env) R s:=by
 refine codeAny_loop rfl I (fun n s hI=>?_) n h
 show wpAny _ A ((compTurn (.ListComp elt [⟨target,iter,ifs,0⟩] scope pos) 0 it acc env).onRaise (fun x=>do noteFrame x env; theTreesLotGoes x)) _ _ s
 refine wpAny_noted ?_
 rw[compTurn_list]
 refine wpAny_bind (wpAny_standAt (wpAny_bind (wpAny_mono (turn n s hI) (fun r s₁ h₁=>?_) fun _ _ h'=>h'.elim)))
 cases r with
 | none=>exact wpAny_pure h₁
 | some v=>
  refine wpAny_bind (wpAny_mono h₁ (fun _ s₀ h₀=>?_) fun _ _ h'=>h'.elim)
  refine wpAny_bind (wpAny_mono h₀ (fun _ s₂ h₂=>wpAny_bind (wpAny_mono h₂ (fun ok s₃ h₃=>?_) fun _ _ h'=>h'.elim)) fun _ _ h'=>h'.elim)
  cases ok with
  | false=>exact wpAny_pure ⟨rfl,h₃⟩
  | true=>
   exact wpAny_bind (wpAny_bind (wpAny_mono h₃ (fun x s₄ h₄=>wpAny_bind (wpAny_mono h₄ (fun _ s₅ h₅=>wpAny_pure (wpAny_pure ⟨rfl,h₅⟩)) fun _ _ h'=>h'.elim)) fun _ _ h'=>h'.elim))
def PIfs(X:Cx)(ifs:List Expr)(tc:TT):Prop:=
 ∀ (pins:List (Addr × Obj)) (s:Shared) (σ : St) (H:Hp) (Q:Bool→Hp→Prop),Inv X pins σ H s→tc σ H Q→
  wpAny (model X.prog X.w) X.A (forIn ifs true fun c r=>if r=true then do let ok ← isTrue c X.env (eval c X.env); pure (ForInStep.yield ok) else pure (ForInStep.yield r)) (TP X pins σ Q) X.xe s
def lU:TT:=fun _ H Q=>Q true H
theorem du{X:Cx}:PIfs X [] lU:=fun _ _ _ H _ I h=>wpAny_tests_nil ⟨H,I,h⟩
theorem q8{X:Cx}{c:Expr}{tc:TT}(hc:PT X c tc):PIfs X [c] tc:=fun pins s σ H Q I h=>wpAny_tests_one (hc pins s σ H Q I h)
def sI(g:TG)(n:Nat):Prop:=∀ x σ H Q,g x σ H Q→g x σ H fun σ' H'=>Q σ' H'∧σ'.length=σ.length∧∀ k,k<n→σ'[k]? = σ[k]?
def vc(g:jx)(n:Nat):Prop:=∀ x σ H Q,g x σ H Q→g x σ H fun σ' H'=>Q σ' H'∧σ'.length=σ.length∧∀ k,k<n→σ'[k]? = σ[k]?
theorem cN{i n:Nat}(h:n≤i):sI (dG i) n:=fun x σ H Q q=>⟨q,by simp,fun k hk=>by rw[List.getElem?_set_ne (by omega)]⟩
theorem xC{n:Nat}:vc ui n:=fun x σ H Q q=>⟨q.1,q.2,rfl,fun _ _=>rfl⟩
def uU(g:TG):Prop:=∀ x σ H Q Q',(∀ σ' H',Q σ' H'→Q' σ' H')→g x σ H Q→g x σ H Q'
def nO(g:jx):Prop:=∀ x σ H Q Q',(∀ σ' H',Q σ' H'→Q' σ' H')→g x σ H Q→g x σ H Q'
theorem oJ{i:Nat}:uU (dG i):=fun x σ H Q Q' h q=>h _ _ q
theorem tw:nO ui:=fun x σ H Q Q' h q=>⟨q.1,h _ _ q.2⟩
theorem yQ{t:TG}{u:jx}(h1:uU t)(h2:nO u):nO (p_ t u):=fun x σ H Q Q' h ⟨v,r,e,q⟩=>⟨v,r,e,h1 _ _ _ _ _ (fun σ' H' z=>h2 _ _ _ _ _ h z) q⟩
theorem oU{t:TG}{u:jx}{n:Nat}(h1:sI t n)(m1:uU t)(h2:vc u n)(m2:nO u):vc (p_ t u) n:=fun x σ H Q ⟨v,r,e,q⟩=>by
 refine⟨v,r,e,?_⟩
 refine m1 _ _ _ _ _ (fun σ' H' z=>?_) (h1 _ _ _ _ q)
 obtain⟨z,l1,k1⟩:=z
 exact m2 _ _ _ _ _ (fun σ2 H2 y=>⟨y.1,y.2.1.trans l1,fun k hk=>(y.2.2 k hk).trans (k1 k hk)⟩) (h2 _ _ _ _ z)
theorem Aw{K:PySem.W.Frag}{m n:Nat}{t:jx}(h:vc t n):sI (uM K m t) n:=fun x σ H Q ⟨a,xs,e,q,l,z⟩=>⟨a,xs,e,q,l,h _ _ _ _ z⟩
def ft(J:It)(g:TG)(tc:TT)(te:TE)(nT:Nat)(σ : St)(D:Addr)(Q:VK)(H:Hp):Prop:=
 ∃ W:Nat→Nat→List V→Hp→Prop,(∃ m,W 0 m [] H)∧∀ i m ys H2,W i m ys H2→
  (J.stop i H2∧Q (.ref D) H2)∨(J.go i H2∧∀ x H',J.yld i H2 x H'→g x (σ++List.replicate nT none) H' fun σ2 H3=>tc σ2 H3 fun b H4=>
   if b=true then te σ2 H4 fun y H5=>H5 D=some (.lst ys)∧ys.length<sizeLine∧∃ m',m'<m∧W (i+1) m' (ys++[y]) (upd H5 D (.lst (ys++[y]))) else ∃ m',m'<m∧W (i+1) m' ys H4)
def uT(wi:TI)(g:TG)(tc:TT)(te:TE)(nT:Nat):TE:=fun σ H Q=>wi σ H fun J H1=>∀ D,H1 D=none→ft J g tc te nT σ D Q (upd H1 D (.lst []))
theorem HOk.sameBut{P:Program}{w:World}{H:Hp}{h h':Heap}{C:Addr}(x:HOk P w H h)(hs:Heap.SameBut C h h')(hC:H C=none):HOk P w H h':=fun a o e=>
 (x a o e).stay (fun b u hb q=>(hs.2 b (by
  rintro rfl
  rcases hb with z | z
  ·rw[z]at hC; rw[hC]at e; cases e
  ·rw[hC]at z; cases z)).trans q) (fun _ q=>q) fun _ _ q=>q
section
variable{X:Cx}{N0 T:List Str}{scope:Scope}{tg elt iter:Expr}{ifs:List Expr}{pos:Pos}{wi:TI}{g:TG}{tc:TT}{te:TE}
theorem pJ{pins:List (Addr × Obj)}{σ : St}{H:Hp}{s:Shared}{E:Value→Shared→Prop}{it:Addr}{fp:List Addr}{tn:Nat→Heap→Prop}{J:It}{Q:VK}{RR:Value→Addr→Result→Shared→Prop}
  (S:jN X N0 T scope) (hc:X.calm=true)
  (hg:∀ C fp s H,PG (bZ X N0 T scope C fp s H) tg g) (hfr:sI g X.N.length) (hi:∀ C fp s H,PIfs (bZ X N0 T scope C fp s H) ifs tc) (he:∀ C fp s H,PE (bZ X N0 T scope C fp s H) elt te)
  (I:Inv X pins σ H s) (Tn:mS X.prog X.w X.K tg J fp it tn) (st:tn 0 s.heap) (hf:∀ b∈fp,jm X pins H b)
  (h:∀ D,H D=none→ft J g tc te T.length σ D Q (upd H D (.lst [])))
  (hRR:∀ D C s' H' m,s'.heap.Ns C m→H' C=none→C≠X.env.locals→(∀ x c,X.env.cells.lookup x=some c→c≠C)→(∀ p∈X.pn++pins,p.1≠C)→X.s₀.heap.objs.size≤C→Inv X pins σ H' s'→
   (∀ h',Heap.SameBut C s'.heap h'→Inv X pins σ H' { s' with heap:=h' })→Q (.ref D) H'→RR (.ref D) C (.ok .next) s') :
  wpAny (model X.prog X.w) X.A (newList []) (fun acc s₃=>wpAny (model X.prog X.w) X.A (newFunctionEnv scope X.env.globals (dO X.env.cells scope.names []) [] X.env.qual none .none (some X.env)) (fun cenv s₄=>
   codeAny (model X.prog X.w) X.A (.compStart (.ListComp elt [⟨tg,iter,ifs,0⟩] scope pos) 0 (.ref it) acc { cenv with scope:=relabel scope X.env }) (RR acc cenv.locals) s₄) E s₃) E s:=by
 refine wpAny_newObj_type (wpAny_newFunctionEnv S.nocell (by intro y hy; simp at hy) (fun h₁ hns₁ hsb₁=>?_) S.kind)
 dsimp only at hns₁ hsb₁ ⊢
 generalize hH2:s.heap.push { cls:=.type "list", dict:=none,data:=.seq ([]:List Value).toArray }=P2 at hns₁ hsb₁ ⊢
 have hC:P2.objs.size=s.heap.objs.size+1:=by rw[← hH2,Heap.size_push]
 -- the new list D, the block's names C
 obtain⟨D,hD⟩ : ∃ D:Nat,D=s.heap.objs.size:=⟨_,rfl⟩
 obtain⟨C,hCC⟩ : ∃ C:Nat,C=P2.objs.size:=⟨_,rfl⟩
 rw[← hCC]at hns₁ hsb₁ hC ⊢
 rw[← hD]at hC ⊢
 have hDC:D≠C:=by omega
 have hDlt:D<C:=by omega
 have neD:∀ b o,s.heap.get? b=some o→b≠D:=fun b o e=>hD ▸ Nat.ne_of_lt (Heap.lt_size e)
 have neC:∀ b o,s.heap.get? b=some o→b≠C:=fun b o e=>Nat.ne_of_lt (Nat.lt_trans (hD ▸ Heap.lt_size e) hDlt)
 have old:∀ b o,s.heap.get? b=some o→h₁.get? b=some o:=fun b o e=>hsb₁.extBut b o (neC b o e) (Heap.get?_push_of_some _ (hH2 ▸ Heap.get?_push_of_some _ e))
 have hHD:H D=none:=I.hok.fresh (by omega)
 have hHC:H C=none:=I.hok.fresh (by omega)
 have dat:h₁.get? D=some { cls:=.type "list", data:=.seq ([]:List Value).toArray 0 }:=by
  refine hsb₁.extBut _ _ hDC (Heap.get?_push_of_some _ ?_)
  rw[← hH2,hD]
  exact Heap.get?_push_size _ rfl
 -- the block's context stands
 have hcl:∀ x c,(dO X.env.cells scope.names []).lookup x=some c→X.env.cells.lookup x=some c:=fun x c e=>
  mw (fun y hy hk=>I.ok.has y.1 (S.free y hy hk)) (fun y c z=>by simp at z) e
 have okC:(bZ X N0 T scope C fp s H).Ok:=by
  refine⟨I.ok.mod,?_,I.ok.glob,I.ok.blt,?_,fun x y c e1 e2=>I.ok.inj x y c (hcl x c e1) (hcl y c e2),fun x hx=>?_,fun x c z _=>(by cases z),I.ok.hd,I.ok.frames,.inl rfl,fun b hb=>⟨?_,fun x c e=>(hf b hb).2.2.2.2.1 x c (hcl x c e)⟩,
   I.bs,?_,fun b o e hb=>?_,fun b hb z=>?_,I.stack,I.stkFree⟩
  ·show (relabel scope X.env).kind = .function
   exact S.kind
  ·show s.heap.objs.size≤C
   omega
  ·have hx':(relabel scope X.env).names.lookup x=some .cell∨(relabel scope X.env).names.lookup x=some .free:=hx
   have m:(x,NameKind.free)∈scope.names:=by
    rcases hx' with z | z
    ·exact eJ S.nocell z (.inl rfl)
    ·exact eJ S.nocell z (.inr rfl)
   exact kF m
  ·show b≠C
   obtain⟨o,e,_⟩:=Tn.obj 0 _ st b hb
   exact neC b o e
  ·exact Nat.le_trans I.ok.bsz I.sz
  ·obtain⟨_,_,_,z,_⟩:=hf b hb
   rcases z with z | z
   ·exact I.ok.noex b o e z
   ·exact absurd (Nat.lt_of_lt_of_le (Nat.lt_of_lt_of_le (Heap.lt_size e) I.ok.bsz) z) (Nat.lt_irrefl _)
  ·obtain⟨_,z1,z2,_⟩:=hf b hb
   rcases List.mem_cons.mp (I.stkSub b z) with q | q
   ·exact z1 q
   ·exact z2 q
 have I1:Inv (bZ X N0 T scope C fp s H) [] (σ++List.replicate T.length none) (upd H D (.lst [])) { s with heap:=h₁,toks:=s.toks+([]:List (Str × Value)).length }:=by
  refine⟨okC,rfl,I.bare,Un.laid (h:=s.heap) old (by omega) hHD,⟨_,hns₁,fun i x v e1 e2 e3=>?_⟩,fun x c e=>?_,?_,fun x c e=>?_,fun p hp=>(by simp[bZ]at hp),I.hok.laid old (by omega) ?_,?_⟩
  ·have e1':(N0++T)[i]? = some x:=e1
   have hl:=I.len
   have hl0:=S.len0
   have hi:i<σ.length:=by
    rcases Nat.lt_or_ge i σ.length with z | z
    ·exact z
    ·rw[List.getElem?_append_right z]at e2
     rw[List.getElem?_replicate]at e2
     split at e2 <;> cases e2
   rw[List.getElem?_append_left hi]at e2
   rw[List.getElem?_append_left (by omega)]at e1'
   have hxN:x∈N0:=List.mem_of_getElem? e1'
   have e3':(relabel scope X.env).names.lookup x=some .local∨(relabel scope X.env).names.lookup x=some .cell∨(relabel scope X.env).names.lookup x=some .free:=e3
   have fr:(relabel scope X.env).names.lookup x=some .cell∨(relabel scope X.env).names.lookup x=some .free:=by
    rcases e3' with z | z | z
    ·exfalso
     -- a local of the block is no tracked name
     have key:∀ (names:List (Str × NameKind)),(names.map fun (n,k)=>if (k == NameKind.free&&X.env.scope.kind == .function&&X.env.kindOf n == some .cell) then (n,NameKind.cell) else (n,k)).lookup x=some .local→(x,NameKind.local)∈names:=by
      intro names
      induction names with
      | nil=>intro z; simp at z
      | cons y r ih=>
       obtain⟨n,k⟩:=y
       intro z
       rw[List.map_cons]at z
       dsimp only at z
       by_cases hfk:(k == NameKind.free&&X.env.scope.kind == .function&&X.env.kindOf n == some .cell)=true
       ·rw[if_pos hfk,List.lookup_cons]at z
        cases hx:(x == n) with
        | true=>rw[hx]at z; cases z
        | false=>rw[hx]at z; exact List.mem_cons_of_mem _ (ih z)
       ·rw[if_neg hfk,List.lookup_cons]at z
        cases hx:(x == n) with
        | true=>
         rw[hx]at z
         have ek:k = .local:=Option.some.inj z
         have en:x=n:=by simpa using hx
         rw[ek,en]; exact List.mem_cons_self
        | false=>rw[hx]at z; exact List.mem_cons_of_mem _ (ih z)
     exact S.apart (x,.local) (key _ z) rfl hxN
    ·exact .inl z
    ·exact .inr z
   have m:(x,NameKind.free)∈scope.names:=by
    rcases fr with z | z
    ·exact eJ S.nocell z (.inl rfl)
    ·exact eJ S.nocell z (.inr rfl)
   have kX:=S.free _ m rfl
   obtain⟨mm,hn,hl'⟩:=I.loc
   obtain⟨u,r,lk⟩:=hl' i x v (S.same i x _ e1' m) e2 (.inr kX)
   refine⟨u,r,.inr ⟨fr,?_⟩⟩
   rcases lk with ⟨z,_⟩ | ⟨_,c,ec,cc⟩
   ·rcases kX with q | q
    ·rw[q]at z; cases z
    ·rw[q]at z; cases z
   ·obtain⟨c',ec'⟩:=kF (cells:=X.env.cells) (acc:=[]) m
    have:=hcl x c' ec'
    rw[ec]at this; cases this
    exact⟨c,ec',cc.keeps old⟩
  ·obtain⟨v,z⟩:=I.cell x c (hcl x c e)
   exact⟨v,z.keeps old⟩
  ·show upd H D (.lst []) C=none
   rw[aA (Ne.symm hDC)]; exact hHC
  ·have q:=I.freeC x c (hcl x c e)
   obtain⟨v,o,z,_⟩:=I.cell x c (hcl x c e)
   rw[aA (neD c o z)]; exact q
  ·exact⟨Nat.zero_le _,[],0,.nil,dat⟩
  ·show (σ++List.replicate T.length none).length=(N0++T).length
   rw[List.length_append,List.length_append,List.length_replicate,I.len,S.len0]
 have st1:tn 0 h₁:=Tn.keep _ _ _ st fun b _ o e=>old b o e
 have fp1:∀ {H':Hp},(∀ b∈fp,H' b=none)→∀ b∈fp,jm (bZ X N0 T scope C fp s H) [] H' b:=fun hn b hb=>
  ⟨hn b hb,(okC.exf b hb).1,okC.exfs b hb,.inl hb,(okC.exf b hb).2,fun p hp=>(by simp[bZ]at hp)⟩
 have fp0:∀ b∈fp,upd H D (.lst []) b=none:=fun b hb=>by
  obtain⟨o,e,_⟩:=Tn.obj 0 _ st b hb
  rw[aA (neD b o e)]; exact(hf b hb).1
 obtain⟨W,⟨m0,w0⟩,turn⟩:=h D hHD
 have loop:∀ s₃ : Shared,s₃={ s with heap:=h₁,toks:=s.toks+([]:List (Str × Value)).length }→
   codeAny (model X.prog X.w) X.A (.compLoop (.ListComp elt [⟨tg,iter,ifs,0⟩] scope pos) 0 (.ref it) (.ref D) (compEnvC scope (dO X.env.cells scope.names []) C X.env)) (RR (.ref D) C) s₃:=by
  rintro s₃ rfl
  refine lc (fun n s'=>∃ i H' ys,Inv (bZ X N0 T scope C fp s H) [] (σ++List.replicate T.length none) H' s'∧tn i s'.heap∧(∀ b∈fp,H' b=none)∧W i n ys H') ?_ m0 ⟨0,_,[],I1,st1,fp0,w0⟩
  rintro n s3 ⟨i,H3,ys,I3,st3,fr3,w3⟩
  rcases turn i n ys H3 w3 with ⟨stop,qn⟩ | ⟨go,step⟩
  ·refine bo (Tn.done (bZ X N0 T scope C fp s H) rfl rfl rfl hc i [] s3 _ H3 (fun _ _=>False) I3 (fp1 fr3) st3 stop) fun r s4 ⟨hr,I4⟩=>?_
   subst hr
   obtain⟨m,hm,_⟩:=I4.loc
   have hch:∀ b∈fp,(b∈X.ex∨X.s₀.heap.objs.size≤b)∧b≠X.env.locals∧(∀ x c,X.env.cells.lookup x=some c→c≠b)∧∀ p∈X.pn++pins,p.1≠b:=fun b hb=>
    ⟨(hf b hb).2.2.2.1,(hf b hb).2.1,(hf b hb).2.2.2.2.1,(hf b hb).2.2.2.2.2⟩
   have u4:Un (fe X.stack) fp H H3 s.heap s4.heap:=I4.base
   refine hRR D C s4 H3 m hm I4.free (Ne.symm (Nat.ne_of_lt (Nat.lt_trans (hD ▸ I.lt) hDlt))) (fun x c e=>?_) (fun p hp=>?_) (Nat.le_trans (hD ▸ I.sz) (Nat.le_of_lt hDlt)) (I.call' (ch:=fp) I4.os u4 I4.hok I4.bare hch) (fun h' hs'=>?_) qn
   ·obtain⟨v,o,q,_⟩:=I.cell x c e
    exact neC c o q
   ·exact neC _ _ (I.pin p hp).1
   ·refine I.call' (ch:=fp) (s':={ s4 with heap:=h' }) I4.os ⟨fun b o q n' hb hx=>(hs'.2 b (neC b o q)).trans (u4.keep b o q n' hb hx),fun b o q n' hb hx=>?_,u4.free,fun b o q hx=>?_,u4.tups,u4.frzs,u4.tbls⟩ (I4.hok.sameBut hs' I4.free) I4.bare hch
    ·obtain⟨sl,e⟩:=u4.slot b o q n' hb hx
     exact⟨sl,(hs'.2 b (neC b o q)).trans e⟩
    ·obtain⟨o',e⟩:=u4.there b o q hx
     exact⟨o',(hs'.2 b (neC b o q)).trans e⟩
  ·refine bo (Tn.item (bZ X N0 T scope C fp s H) rfl rfl rfl hc i [] s3 _ H3 (fun _ _=>False) I3 (fp1 fr3) st3 go) fun r s4 ⟨u,hr,h4⟩=>?_
   subst hr
   refine bo h4 fun _ s5 ⟨x,H5,I5,r5,y5,st5,fr5⟩=>?_
   have I5':=I5.pinned (fp1 fr5) (Tn.obj _ _ st5)
   refine bo (hg C fp s H _ s5 _ H5 x u _ I5' r5 (hfr _ _ _ _ (step x H5 y5))) fun _ s6 ⟨σ6,H6,I6,q6,l6,k6⟩=>?_
   have back:∀ {H7:Hp} {s7:Shared},Inv (bZ X N0 T scope C fp s H) ([]++lL fp s5.heap) σ6 H7 s7→(∀ {m':Nat} {zs:List V},m'<n→W (i+1) m' zs H7→∃ m,m<n∧∃ i H' ys,Inv (bZ X N0 T scope C fp s H) [] (σ++List.replicate T.length none) H' s7∧tn i s7.heap∧(∀ b∈fp,H' b=none)∧W i m ys H'):=fun {H7 s7} I7 {m' zs} hm w7=>by
    refine⟨m',hm,i+1,H7,zs,I7.unpinned.weak (by rw[l6]) (fun j v e=>?_),Tn.keep _ _ _ st5 fun b hb o e=>(I7.pin (b,o) (List.mem_append_right _ (List.mem_append_right _ (iD hb e)))).1,fun b hb=>?_,w7⟩
    ·have hj:j<σ.length:=by
      rcases Nat.lt_or_ge j σ.length with z | z
      ·exact z
      ·rw[List.getElem?_append_right z,List.getElem?_replicate]at e
       split at e <;> cases e
     rw[k6 j (by rw[← I.len]; exact hj)]
     exact e
    ·obtain⟨o,e,d⟩:=Tn.obj _ _ st5 b hb
     exact(I7.pin (b,o) (List.mem_append_right _ (List.mem_append_right _ (iD hb e)))).2.1
   refine bo (hi C fp s H _ s6 σ6 H6 _ I6 q6) fun b s7 ⟨H7,I7,q7⟩=>?_
   cases b with
   | false=>
    obtain⟨m',hm,w7⟩:=(show ∃ m',m'<n∧W (i+1) m' ys H7 from by simpa using q7)
    exact back I7 hm w7
   | true=>
    rw[if_pos rfl]at q7
    refine bo (he C fp s H _ s7 σ6 H7 _ I7 q7) fun v s8 ⟨y,H8,I8,r8,hD8,hz,m',hm,w8⟩=>?_
    refine bo (ph (X:=bZ X N0 T scope C fp s H) _ s8 σ6 H8 (.ref D) [y] (.ref D) [v] (fun _ H9=>H9=upd H8 D (.lst (ys++[y]))) I8 rfl (.cons r8 .nil) ⟨D,ys,y,rfl,rfl,hD8,hz,rfl⟩) fun v9 s9 ⟨y9,H9,I9,_,e9⟩=>?_
    subst e9
    exact back I9 hm w8
 exact codeAny_compStart_list (loop _ rfl) (Tn.self X.A 0 _ _ _ st1 (loop _ rfl))
theorem dS(S:jN X N0 T scope)(hc:X.calm=true)(hI:PI X tg iter wi)
  (hg:∀ C fp s H,PG (bZ X N0 T scope C fp s H) tg g) (hfr:sI g X.N.length) (hi:∀ C fp s H,PIfs (bZ X N0 T scope C fp s H) ifs tc) (he:∀ C fp s H,PE (bZ X N0 T scope C fp s H) elt te)
  (hs:∀ x,foldedSetIterable iter X.env x=pure x:=by intro _; rfl):PE X (.ListComp elt [⟨tg,iter,ifs,0⟩] scope pos) (uT wi g tc te T.length):=by
 intro pins s σ H Q I h
 rw[eval_ListComp]
 refine wpAny_comprehension_free (use:=none) rfl hs (la fun x hx hk=>I.ok.has x.1 (S.free x hx hk)) S.kind S.names (bo (hI pins s σ H _ I h) fun v s1 h1=>bo h1 fun itv s2 h2=>?_)
 obtain⟨it,fp,tn,J,H2,e,I2,Tn,st2,f2,q2⟩:=h2
 subst e
 refine pJ (RR:=fun acc C=>compPost (model X.prog X.w) X.A X.xe none (EP X pins σ Q) acc C) S hc hg hfr hi he I2 Tn st2 f2 q2 ?_
 intro D C s' H' m hn hC hL hcells hpins hfresh I' hI' q
 exact⟨m,hn,fun h' hs'=>⟨.ref D,H',hI' h' hs',rfl,q⟩⟩
theorem nU{i:Nat}{x:Str}{pos' spos:Pos}(S:jN X N0 T scope)(hc:X.calm=true)(hN:X.N.Nodup)(hi':X.N[i]? = some x)(hx:X.env.scope.names.lookup x=some .local)(hI:PI X tg iter wi)
  (hg:∀ C fp s H,PG (bZ X N0 T scope C fp s H) tg g) (hfr:sI g X.N.length) (hi:∀ C fp s H,PIfs (bZ X N0 T scope C fp s H) ifs tc) (he:∀ C fp s H,PE (bZ X N0 T scope C fp s H) elt te)
  (hsw:swapsWith (.ListComp elt [⟨tg,iter,ifs,0⟩] scope pos) (some (.Name x pos')) spos.line X.env=pure true:=by rfl)
  (hs:∀ x,foldedSetIterable iter X.env x=pure x:=by intro _; rfl):PS X (.Assign [.Name x pos'] (.ListComp elt [⟨tg,iter,ifs,0⟩] scope pos) spos) (iq (uT wi g tc te T.length) (dG i)):=by
 intro pins s σ H D I h
 rw[exec_Assign_Name_used _ _ _ _ hsw]
 refine wpAny_bind (wpAny_standAt (wpAny_bind ?_))
 show wpAny _ X.A (do let _ ← comprehension (.ListComp elt [⟨tg,iter,ifs,0⟩] scope pos) scope X.env _ (newList []) false (eval iter X.env) (some (assign (.Name x pos') X.env))) _ _ s
 refine wpAny_bind (wpAny_mono (wpAny_comprehension_free (use:=some (assign (.Name x pos') X.env)) (Q:=fun _ s'=>SP X pins D .next s') rfl hs (la fun x hx hk=>I.ok.has x.1 (S.free x hx hk)) S.kind S.names
  (bo (hI pins s σ H _ I h) fun v s1 h1=>bo h1 fun itv s2 h2=>?_)) (fun _ s' hq=>wpAny_pure (wpAny_pure hq)) fun _ _ e=>e)
 obtain⟨it,fp,tn,J,H2,e,I2,Tn,st2,f2,q2⟩:=h2
 subst e
 refine pJ (RR:=fun acc C=>compPost (model X.prog X.w) X.A X.xe (some (assign (.Name x pos') X.env)) (fun _ s'=>SP X pins D .next s') acc C) S hc hg hfr hi he I2 Tn st2 f2 q2 ?_
 intro L C s' H' m hn hC hL hcells hpins hfresh I' hI' q
 show wpAny _ X.A (assign (.Name x pos') X.env (.ref L)) _ _ _
 refine wpAny_assign_Name (pe (v:=.ref L) I' hN hi' (.inl hx) rfl (fun s'' I'' ⟨a,hsa,ha⟩=>?_) (.inr hx))
 have hCa:C≠a:=by
  rintro rfl
  rcases ha with z | z
  ·exact hL z
  ·exact hcells x C z rfl
 refine⟨m,hn.sameBut hsa hCa,fun h' hs'=>?_⟩
 exact⟨σ.set i (some (.ref L)),H',I''.turned (t':=s''.toks) (fun b o hb e=>(hs'.2 b hb).trans e) hC hL (.inr hfresh) hcells hpins,q⟩
end
end L2
namespace L2
open PySem PySem.Spec PyProof.Rows
theorem Vals.of:∀ {xs:List V} {us:List Value} {i:Nat} {u:Value},Vals xs us→us[i]? = some u→∃ x,xs[i]? = some x∧RelV x u
 | _,_,0,u,.cons r _,e=>⟨_,rfl,by simp at e; subst e; exact r⟩
 | _,_,i+1,u,.cons _ rr,e=>by
  obtain⟨x,hx,r⟩:=Vals.of (i:=i) rr (by simpa using e)
  exact⟨x,by simpa using hx,r⟩
theorem oY:∀ {ss:List Str} {us:List Value},Vals (ss.map V.str) us→StrsAre us ss
 | [],_,.nil=>.nil
 | s::ss,_,.cons r rr=>by
  obtain⟨t,rfl⟩:=r
  exact .cons s t (oY rr)
theorem v6(bs:List Bool):(List.range bs.length).all (fun i=>bs.getD i false)=bs.all id:=by
 rw[Bool.eq_iff_iff,List.all_eq_true,List.all_eq_true]
 constructor
 ·intro h b hb
  obtain⟨i,hi,rfl⟩:=List.mem_iff_getElem.mp hb
  have:=h i (List.mem_range.mpr hi)
  rw[List.getD_eq_getElem?_getD,List.getElem?_eq_getElem hi]at this
  exact this
 ·intro h i hi
  have hi':=List.mem_range.mp hi
  rw[List.getD_eq_getElem?_getD,List.getElem?_eq_getElem hi']
  exact h _ (List.getElem_mem hi')
theorem yN{bs:List Bool}{us:List Value}(r:Vals (bs.map V.bl) us){i:Nat}{v:Value}(e:us.toArray[i]? = some v):v = .bool (bs.getD i false):=by
 obtain⟨x,hx,rx⟩:=r.of (i:=i) (by simpa using e)
 rw[List.getElem?_map]at hx
 cases hb:bs[i]? with
 | none=>rw[hb]at hx; cases hx
 | some b=>
  rw[hb]at hx
  have hx':V.bl b=x:=Option.some.inj hx
  subst hx'
  rw[List.getD_eq_getElem?_getD,hb]
  exact rx
section
variable{X:Cx}
def yS(K:PySem.W.Frag):List V→Hp→VK→Prop:=fun xs H Q=>∃ (p:Addr) (bs:List Bool),xs=[.ref p]∧SqL K H p (bs.map V.bl)∧Q (.bl (bs.all id)) H
theorem i9{K:PySem.W.Frag}{H:Hp}{Q:VK}(p:Addr):yS K [.ref p] H Q=∃ bs:List Bool,SqL K H p (bs.map V.bl)∧Q (.bl (bs.all id)) H:=propext ⟨fun ⟨_,bs,e,q⟩=>by cases e; exact⟨bs,q⟩,fun ⟨bs,q⟩=>⟨p,bs,rfl,q⟩⟩
theorem wD(hc:X.calm=true):CallR X (.builtin "all") (yS X.K):=by
 intro pins s σ H xs us Q I r h
 obtain⟨p,bs,rfl,hq,q⟩:=h
 obtain⟨u,rfl,ru⟩:=df r
 cases ru
 obtain⟨its,rv,pl,hz⟩:=I.list hq
 have hlen:its.length=bs.length:=by rw[← rv.length,List.length_map]
 refine call_all_walk (wpAny_pyIter_list pl.isList ?_)
 refine⟨_,_,_,_,_,_,fun i=>bs.getD i false,rfl,Walks.list (A:=X.A.in1) (I.ok.hd hc) s.heap.objs.size p (Nat.ne_of_lt pl.lt) its.toArray,⟨⟨_,Heap.get?_push_size _ rfl,rfl,rfl⟩,(pl.keeps fun b o e=>Heap.get?_push_of_some _ e).isList⟩,?_,fun h' tk hk=>?_⟩
 ·intro i v s' Q' E' hP hQ
  rw[yN rv hP]
  exact wpAny_truthy_bool hQ
 ·refine⟨.bl (bs.all id),H,I.kept (t':=tk) fun b o e=>hk b o (fun z=>?_) (Heap.get?_push_of_some _ e),?_,q⟩
  ·exact Nat.ne_of_lt (Heap.lt_size e) (by simpa using z)
  ·have e:(List.range its.toArray.size).all (fun i=>bs.getD i false)=bs.all id:=by rw[List.size_toArray,hlen,v6]
   show Value.bool ((List.range its.toArray.size).all fun i=>bs.getD i false)=Value.bool (bs.all id)
   rw[e]
def az(H:Hp):V→Option String
 | .non=>some "NoneType"
 | .bl _=>some "bool"
 | .int _=>some "int"
 | .str _=>some "str"
 | .ref a=>match H a with
  | some (.lst _)=>some "list"
  | some (.frz _ (.lst _))=>some "list"
  | some (.tup _)=>some "tuple"
  | some (.dK _)=>some "dict"
  | some (.dT _)=>some "dict"
  | _=>none
 | _=>none
theorem wH{K:PySem.W.Frag}{H:Hp}:∀ {x:V} {T:String},az H x=some T→gN K H x (.type T)
 | .non,T,h=>by cases h; exact .non
 | .bl b,T,h=>by cases h; exact .bl b
 | .int i,T,h=>by cases h; exact .int i
 | .str y,T,h=>by cases h; exact .str y
 | .byt _,T,h=>by cases h
 | .flt _,T,h=>by cases h
 | .ty _,T,h=>by cases h
 | .ref a,T,h=>by
  cases e:H a with
  | none=>simp[az,e]at h
  | some o=>
   cases o with
   | lst xs=>simp[az,e]at h; subst h; exact .lst e
   | tup xs=>simp[az,e]at h; subst h; exact .tup e
   | dK xs=>simp[az,e]at h; subst h; exact .dK e
   | dT xs=>simp[az,e]at h; subst h; exact .dT e
   | frz ob u=>
    cases u with
    | lst xs=>simp[az,e]at h; subst h; exact .frz e
    | _=>simp[az,e]at h
   | _=>simp[az,e]at h
def j9(T C:String):Bool:=T == C||(T == "bool" && C == "int")
theorem xN(K:PySem.W.Frag){T C:String}(hT:T∈["NoneType", "bool", "int", "str", "list", "tuple", "dict"]) (hC:C∈["bool", "int", "str", "list", "tuple"]):PySem.W.kitOne K (.type T) (.type C)=some (j9 T C):=by
 simp only[List.mem_cons,List.mem_nil_iff,or_false]at hT hC
 rcases hT with rfl | rfl | rfl | rfl | rfl | rfl | rfl <;> rcases hC with rfl | rfl | rfl | rfl | rfl <;> (with_unfolding_all rfl)
theorem kJ{H:Hp}{x:V}{T:String}(h:az H x=some T):T∈["NoneType", "bool", "int", "str", "list", "tuple", "dict"]:=by
 cases x with
 | ref a=>
  cases e:H a with
  | none=>simp[az,e]at h
  | some o=>
   cases o with
   | frz ob u=>cases u <;> simp[az,e]at h <;> subst h <;> decide
   | _=>simp[az,e]at h <;> subst h <;> decide
 | _=>first | (cases h; decide) | cases h
def Cb:List V→Hp→VK→Prop:=fun xs H Q=>∃ (x:V) (T C:String),xs=[x,.ty C]∧az H x=some T∧C∈["bool", "int", "str", "list", "tuple"]∧Q (.bl (j9 T C)) H
theorem iY{H:Hp}{Q:VK}(x:V)(C:String):Cb [x,.ty C] H Q=∃ T,az H x=some T∧C∈["bool", "int", "str", "list", "tuple"]∧Q (.bl (j9 T C)) H:=
 propext ⟨fun ⟨_,T,_,e,q⟩=>by cases e; exact⟨T,q⟩,fun ⟨T,q⟩=>⟨x,T,C,rfl,q⟩⟩
theorem cU:CallR X (.builtin "isinstance") Cb:=by
 intro pins s σ H xs us Q I r h
 obtain⟨x,T,C,rfl,hT,hC,q⟩:=h
 obtain⟨u,w',rfl,ru,rw'⟩:=pU r
 cases rw'
 exact wW I ru (wH hT) (xN X.K (kJ hT) hC) fun tk=>⟨.bl (j9 T C),H,I.tok tk,rfl,q⟩
def qa(K:PySem.W.Frag):V→List V→Hp→VK→Prop:=fun x vs H Q=>∃ (sep:Str) (p:Addr) (ss:List Str),x = .str sep∧vs=[.ref p]∧SqL K H p (ss.map V.str)∧(ss.map (·.length)).sum+ss.length * sep.length≤16777216∧Q (.str (Txt.join sep ss)) H
theorem zR:MtR X "str.join" (qa X.K):=by
 intro pins s σ H x xs v us Q I rx r h
 obtain⟨sep,p,ss,rfl,rfl,hq,hz,q⟩:=h
 obtain⟨t,rfl⟩:=rx
 obtain⟨u,rfl,ru⟩:=df r
 cases ru
 obtain⟨its,rv,pl,_⟩:=I.list hq
 exact join_list pl.isList (by simpa using oY rv) hz fun t' k=>⟨.str (Txt.join sep ss),H,I.tok k,⟨t',rfl⟩,q⟩
def tQ(x:Str):It:=⟨fun i _=>i<x.length,fun i H v H'=>H'=H∧∃ c,x.cps[i]? = some c∧v = .str ⟨#[c]⟩,fun i _=>x.length≤i⟩
theorem qm{P:Program}{w:World}{K:PySem.W.Frag}{tg:Expr}{it:Addr}{cls:String}{x:Str}{t:Tok}(hn:["enumerate", "zip", "dict_itemiterator", "dict_reverseitemiterator", "odict_iterator", "itertools.zip_longest", "itertools.pairwise"].contains cls=false)
  (W:∀ A:Around,A.handled=none→Walks P w A it [it] [it] x.cps.size (SignAt x) (fun i h=>h.IsStrIter it cls x t i))
  (hself:∀ (A:Around) (i:Nat) (s:Shared) (Q:Value→Shared→Prop) (E:Value→Shared→Prop),s.heap.IsStrIter it cls x t i→Q (.ref it) s→wpAny (model P w) A (pyIter (.ref it)) Q E s):mS P w K tg (tQ x) [it] it (fun i h=>h.IsStrIter it cls x t i∧i≤x.length) where
 mem:=by simp
 obj:=fun i h st b hb=>by
  have e:b=it:=by simpa using hb
  subst e
  obtain⟨⟨o,e,c,d⟩,_⟩:=st
  exact⟨o,e,fun v z=>by rw[d]at z; cases z⟩
 keep:=fun i h h' st k=>by
  obtain⟨⟨o,e,c,d⟩,z⟩:=st
  exact⟨⟨o,k it (by simp) o e,c,d⟩,z⟩
 item:=by
  intro X hP hw hK hc i pins s σ H E I hf st hg
  subst hP hw hK
  obtain⟨f0,f1,f2,f3,f4,f5⟩:=hf it (by simp)
  have hg':i<x.length:=hg
  refine(W X.A (I.ok.hd hc)).item i s _ _ hg st.1 fun v h' tk hv st' kk=>?_
  obtain⟨c,u,hcc,rfl⟩:=hv
  have I1:Inv X pins σ H { s with heap:=h',toks:=tk }:=I.turned (fun b o hb e=>kk b o (by simpa using hb) e) f0 f1 f3 f4 f5
  obtain⟨o,e,c',d⟩:=id st'
  exact⟨_,rfl,pV (s:={ s with heap:=h',toks:=tk }) e c' d hn ⟨.str ⟨#[c]⟩,H,I1,⟨u,rfl⟩,⟨rfl,c,hcc,rfl⟩,⟨st',hg'⟩,fun b hb=>(hf b hb).1⟩⟩
 done:=by
  intro X hP hw hK hc i pins s σ H E I hf st hg
  subst hP hw hK
  obtain⟨f0,f1,f2,f3,f4,f5⟩:=hf it (by simp)
  have hg':x.length≤i:=hg
  have e:i=x.cps.size:=Nat.le_antisymm st.2 hg'
  subst e
  exact(W X.A (I.ok.hd hc)).done s _ _ st.1 fun h' tk kk=>⟨rfl,I.turned (fun b o hb e=>kk b o (by simpa using hb) e) f0 f1 f3 f4 f5⟩
 self:=fun A i s Q E st h=>hself A i s Q E st.1 h
def Bm(te:TE):TI:=fun σ H R=>te σ H fun x H1=>∃ y,x = .str y∧R (tQ y) H1
theorem qt{tg e:Expr}{te:TE}(he:PE X e te):PI X tg e (Bm te):=by
 intro pins s σ H R I h
 refine bo (he pins s σ H _ I h) fun v s1 ⟨x,H1,I1,r1,q1⟩=>?_
 obtain⟨y,e,q⟩:=q1
 subst e
 obtain⟨t,rfl⟩:=r1
 have fin:∀ (cls:String),BG X pins σ tg R (.ref s1.heap.objs.size) { s1 with heap:=s1.heap.push { cls:=.type cls,data:=.fields #[.str y t,.int 0 0] } }∨True:=fun _=>.inr trivial
 cases ha:y.cps.all (· < 128)
 ·refine wpAny_pyIter_wide ha ?_
  refine⟨s1.heap.objs.size,[s1.heap.objs.size],_,tQ y,H1,rfl,I1.kept (t':=s1.toks) fun b o e=>Heap.get?_push_of_some _ e,qm (cls := "str_iterator") (by decide) (fun A hA=>Walks.strWide hA _ y t) (fun A i s Q E st h=>wpAny_pyIter_striter_wide st h),⟨⟨_,Heap.get?_push_size _ rfl,rfl,rfl⟩,Nat.zero_le _⟩,fun b hb=>?_,q⟩
  have e:b=s1.heap.objs.size:=by simpa using hb
  subst e
  exact I1.fpOk (Nat.le_refl _) (I1.hok.fresh (Nat.le_refl _))
 ·refine wpAny_pyIter_ascii ha ?_
  refine⟨s1.heap.objs.size,[s1.heap.objs.size],_,tQ y,H1,rfl,I1.kept (t':=s1.toks) fun b o e=>Heap.get?_push_of_some _ e,qm (cls := "str_ascii_iterator") (by decide) (fun A hA=>Walks.strAscii hA _ y t) (fun A i s Q E st h=>wpAny_pyIter_striter_ascii st h),⟨⟨_,Heap.get?_push_size _ rfl,rfl,rfl⟩,Nat.zero_le _⟩,fun b hb=>?_,q⟩
  have e:b=s1.heap.objs.size:=by simpa using hb
  subst e
  exact I1.fpOk (Nat.le_refl _) (I1.hok.fresh (Nat.le_refl _))
end
def rn(J:It)(g:TG)(tb:TS)(D:dz)(σ : St)(H:Hp):Prop:=∃ W:Nat→Nat→St→Hp→Prop,(∃ m,W 0 m σ H)∧∀ i m σ H,W i m σ H→
 (J.stop i H∧D.nx σ H)∨(J.go i H∧∃ N:St→Hp→Prop,(∀ σ' H',N σ' H'→∃ m',m'<m∧W (i+1) m' σ' H')∧∀ x H',J.yld i H x H'→g x σ H' fun σ2 H2=>tb { D with nx:=N,ct:=N,bk:=D.nx } σ2 H2)
theorem i3(wi:TI)(g:TG)(tb:TS)(D:dz)(σ : St)(H:Hp):BF wi g tb D σ H=wi σ H fun J H1=>rn J g tb D σ H1:=rfl
theorem tz{J:It}{g:TG}{tb:TS}{D:dz}{σ : St}{H:Hp}(n:Nat)(Pv:Nat→St→Hp→Prop)(h0:Pv 0 σ H)(hgo:∀ i σ H,i<n→Pv i σ H→J.go i H)(hst:∀ σ H,Pv n σ H→J.stop n H)
  (hs:∀ i σ H x H',i<n→Pv i σ H→J.yld i H x H'→g x σ H' fun σ2 H2=>tb { D with nx:=Pv (i+1),ct:=Pv (i+1),bk:=D.nx } σ2 H2) (hd:∀ σ H,Pv n σ H→D.nx σ H):rn J g tb D σ H:=by
 refine⟨fun i m σ H=>m=n - i∧i≤n∧Pv i σ H,⟨n,by simp,Nat.zero_le _,h0⟩,?_⟩
 rintro i m σ H ⟨rfl,hi,p⟩
 by_cases hlt:i<n
 ·exact .inr ⟨hgo i σ H hlt p,Pv (i+1),fun σ' H' p'=>⟨n - (i+1),by omega,rfl,hlt,p'⟩,fun x H' y=>hs i σ H x H' hlt p y⟩
 ·have e:i=n:=by omega
  subst e
  exact .inl ⟨hst σ H p,hd σ H p⟩
theorem jH{K:PySem.W.Frag}{a:Addr}{xs:List V}{g:TG}{tb:TS}{D:dz}{σ : St}{H:Hp}(Pv:Nat→St→Hp→Prop)(h0:Pv 0 σ H)(hl:∀ i σ H,i≤xs.length→Pv i σ H→SqL K H a xs)
  (hs:∀ i x σ H,xs[i]? = some x→Pv i σ H→g x σ H fun σ2 H2=>tb { D with nx:=Pv (i+1),ct:=Pv (i+1),bk:=D.nx } σ2 H2) (hd:∀ σ H,Pv xs.length σ H→D.nx σ H):rn (n9 K a) g tb D σ H:=
 yv Pv h0 hl hs hd
def kI(n i:Nat)(Pv:Nat→List V→Hp→Prop)(D:Addr)(ys:List V)(y:V)(H:Hp):Prop:=
 H D=some (.lst ys)∧ys.length<sizeLine∧∃ m',m'<n - i∧(m'=n - (i+1)∧i+1≤n∧Pv (i+1) (ys++[y]) (upd H D (.lst (ys++[y]))))
theorem jI{n i:Nat}{Pv:Nat→List V→Hp→Prop}{D:Addr}{ys:List V}{y:V}{H:Hp}(hi:i<n)(hlen:ys.length=i)(hz:n≤sizeLine)(h1:H D=some (.lst ys))(h2:Pv (i+1) (ys++[y]) (upd H D (.lst (ys++[y])))):kI n i Pv D ys y H:=
 ⟨h1,by omega,n - (i+1),by omega,rfl,hi,h2⟩
def jO(n i:Nat)(Pv:Nat→List V→Hp→Prop)(D:Addr)(ys:List V)(te:TE)(σ : St)(H:Hp):Prop:=
 if true=true then te σ H (kI n i Pv D ys) else ∃ m',m'<n - i∧(m'=n - (i+1)∧i+1≤n∧Pv (i+1) ys H)
theorem g7{n i:Nat}{Pv:Nat→List V→Hp→Prop}{D:Addr}{ys:List V}{te:TE}{σ : St}{H:Hp}:jO n i Pv D ys te σ H=te σ H (kI n i Pv D ys):=by
 unfold jO; rw[if_pos rfl]
theorem ju{J:It}{g:TG}{te:TE}{nT:Nat}{σ : St}{D:Addr}{Q:VK}{H:Hp}(n:Nat)(Pv:Nat→List V→Hp→Prop)(h0:Pv 0 [] H)(hgo:∀ i ys H,i<n→Pv i ys H→J.go i H)(hst:∀ ys H,Pv n ys H→J.stop n H)
  (hs:∀ i ys H x H',i<n→Pv i ys H→J.yld i H x H'→g x (σ++List.replicate nT none) H' (jO n i Pv D ys te))
  (hd:∀ ys H,Pv n ys H→Q (.ref D) H):ft J g lU te nT σ D Q H:=by
 refine⟨fun i m ys H=>m=n - i∧i≤n∧Pv i ys H,⟨n,by simp,Nat.zero_le _,h0⟩,?_⟩
 rintro i m ys H ⟨rfl,hi,p⟩
 by_cases hlt:i<n
 ·exact .inr ⟨hgo i ys H hlt p,fun x H' y=>hs i ys H x H' hlt p y⟩
 ·have e:i=n:=by omega
  subst e
  exact .inl ⟨hst ys H p,hd ys H p⟩
theorem nM{K:PySem.W.Frag}{a:Addr}{xs:List V}{g:TG}{te:TE}{nT:Nat}{σ : St}{D:Addr}{Q:VK}{H:Hp}(Pv:Nat→List V→Hp→Prop)(h0:Pv 0 [] H)(hl:∀ i ys H,i≤xs.length→Pv i ys H→SqL K H a xs)
  (hs:∀ i ys H x,xs[i]? = some x→i<xs.length→Pv i ys H→g x (σ++List.replicate nT none) H (jO xs.length i Pv D ys te))
  (hd:∀ ys H,Pv xs.length ys H→Q (.ref D) H):ft (n9 K a) g lU te nT σ D Q H:=by
 refine ju xs.length Pv h0 (fun i ys H hi p=>⟨xs,xs[i],hl i ys H (Nat.le_of_lt hi) p,by simp[hi]⟩) (fun ys H p=>⟨xs,hl _ ys H (Nat.le_refl _) p,Nat.le_refl _⟩) (fun i ys H x H' hi p yl=>?_) hd
 obtain⟨rfl,y⟩:=yl
 exact hs i ys _ x (y xs (hl i ys _ (Nat.le_of_lt hi) p)) hi p
theorem rX{lo:Int}{n:Nat}{g:TG}{te:TE}{nT:Nat}{σ : St}{D:Addr}{Q:VK}{H:Hp}(Pv:Nat→List V→Hp→Prop)(h0:Pv 0 [] H)
  (hs:∀ i ys H,i<n→Pv i ys H→g (.int (lo+i)) (σ++List.replicate nT none) H (jO n i Pv D ys te))
  (hd:∀ ys H,Pv n ys H→Q (.ref D) H):ft (sE lo n) g lU te nT σ D Q H:=by
 refine ju n Pv h0 (fun i ys H hi p=>hi) (fun ys H p=>Nat.le_refl _) (fun i ys H x H' hi p yl=>?_) hd
 obtain⟨rfl,rfl⟩:=yl
 exact hs i ys _ hi p
theorem lq{y:Str}{g:TG}{te:TE}{nT:Nat}{σ : St}{D:Addr}{Q:VK}{H:Hp}(Pv:Nat→List V→Hp→Prop)(h0:Pv 0 [] H)
  (hs:∀ i ys H c,y.cps[i]? = some c→i<y.length→Pv i ys H→g (.str ⟨#[c]⟩) (σ++List.replicate nT none) H (jO y.length i Pv D ys te))
  (hd:∀ ys H,Pv y.length ys H→Q (.ref D) H):ft (tQ y) g lU te nT σ D Q H:=by
 refine ju y.length Pv h0 (fun i ys H hi p=>hi) (fun ys H p=>Nat.le_refl _) (fun i ys H x H' hi p yl=>?_) hd
 obtain⟨rfl,c,hc,rfl⟩:=yl
 exact hs i ys _ c hc hi p
end L2
namespace L2
open PySem PySem.Spec PyProof.Rows
def ir(u:TS)(D:dz)(σ : St)(H:Hp):Prop:=u D σ H
section
variable{D:dz}{σ : St}{H:Hp}{Q:VK}{B:Bool→Hp→Prop}{L:List V→Hp→Prop}{R:It→Hp→Prop}{G:St→Hp→Prop}
theorem i_(t u:TS):jd t u D σ H=t { D with nx:=ir u D } σ H:=rfl
theorem gP(u:TS):ir u D σ H=u D σ H:=rfl
theorem hW:pT D σ H=D.nx σ H:=rfl
theorem i8(c:TT)(t u:TS):ou c t u D σ H=c σ H fun b H1=>if b=true then t D σ H1 else u D σ H1:=rfl
theorem iJ(t:TE):lB t D σ H=t σ H D.rt:=rfl
theorem gv(t:TE):kG t D σ H=t σ H fun _ H1=>D.nx σ H1:=rfl
theorem iO(t:TE)(g:TG):iq t g D σ H=t σ H fun x H1=>g x σ H1 D.nx:=rfl
theorem gH(i:Nat)(v:V):dG i v σ H G=G (σ.set i (some v)) H:=rfl
theorem iI(vs:List V):ui vs σ H G=(vs=[]∧G σ H):=rfl
theorem gu(t:TG)(u:jx)(vs:List V):p_ t u vs σ H G=∃ v r,vs=v::r∧t v σ H fun σ' H'=>u r σ' H' G:=rfl
theorem iG(K:PySem.W.Frag)(n:Nat)(t:jx)(v:V):uM K n t v σ H G=∃ a xs,v = .ref a∧SqT K H a xs∧xs.length=n∧t xs σ H G:=rfl
theorem iM(to ti:TE)(t:rK)(v:V):BQ to ti t v σ H G=to σ H fun o H1=>ti σ H1 fun i H2=>t o i v H2 fun H3=>G σ H3:=rfl
theorem iT(i:Nat):bu i σ H Q=∃ v,σ[i]? = some (some v)∧Q v H:=rfl
theorem lY(v:V):tC v σ H Q=Q v H:=rfl
theorem j6(r:R2)(ta tb:TE):b7 r ta tb σ H Q=ta σ H fun x H1=>tb σ H1 fun y H2=>r x y H2 Q:=rfl
theorem j4(r:V→Hp→VK→Prop)(ta:TE):A7 r ta σ H Q=ta σ H fun x H1=>r x H1 Q:=rfl
theorem gZ(t:TE):fc t σ H B=t σ H fun x H'=>∃ k,x = .bl k∧B k H':=rfl
theorem lW(t:TE):tB t σ H B=t σ H fun x H'=>∃ k,x = .bl k∧B k H':=rfl
theorem iN(t u:TT):mV t u σ H B=t σ H fun c H1=>if c=true then u σ H1 B else B false H1:=rfl
theorem j8(t u:TT):AZ t u σ H B=t σ H fun c H1=>if c=true then B true H1 else u σ H1 B:=rfl
theorem iH(t:TT):A0 t σ H B=t σ H fun c H1=>B (!c) H1:=rfl
theorem gM(ta tb:TE):ze ta tb σ H Q=ta σ H fun x H1=>∃ c,x = .bl c∧if c=true then tb σ H1 Q else Q (.bl false) H1:=rfl
theorem h9(ta:TE):zx ta σ H Q=ta σ H fun x H1=>∃ c,x = .bl c∧Q (.bl (!c)) H1:=rfl
theorem j7(t:TT)(ta tb:TE):Du t ta tb σ H Q=t σ H fun c H1=>if c=true then ta σ H1 Q else tb σ H1 Q:=rfl
theorem ko(r:List V→Hp→VK→Prop)(t:TA):pF r t σ H Q=t σ H fun vs H1=>r vs H1 Q:=rfl
theorem gQ(ta:TE)(tr:TA):bQ ta tr σ H L=ta σ H fun x H1=>tr σ H1 fun xs H2=>L (x::xs) H2:=rfl
theorem iF:cV σ H L=L [] H:=rfl
theorem iS(t:TA):qe t σ H Q=t σ H fun xs H1=>xs.length≤sizeLine∧∀ p,H1 p=none→Q (.ref p) (upd H1 p (.tup xs)):=rfl
theorem i6(t:TA):gE t σ H Q=t σ H fun xs H1=>xs.length≤sizeLine∧∀ p,H1 p=none→Q (.ref p) (upd H1 p (.lst xs)):=rfl
theorem hU(sp:Sp)(dvs:List V)(E:XK)(t:TA):p8 sp dvs E t σ H Q=t σ H fun vs H1=>sp (vs++dvs) H1 Q E:=rfl
theorem jU(K:PySem.W.Frag)(T:String)(r:V→List V→Hp→VK→Prop)(to:TE)(t:TA):nv K T r to t σ H Q=to σ H fun x H1=>qN K T x H1∧t σ H1 fun xs H2=>r x xs H2 Q:=rfl
theorem iW(K:PySem.W.Frag)(T:String)(r:V→List V→Hp→VK→Prop)(to:TE):ul K T r to σ H Q=to σ H fun x H1=>qN K T x H1∧r x [] H1 Q:=rfl
theorem fF(r r':R2)(ta tb tc:TE):rb r r' ta tb tc σ H Q=ta σ H fun x H1=>tb σ H1 fun y H2=>r x y H2 fun z H3=>∃ k,z = .bl k∧(if k=true then tc σ H3 fun w' H4=>r' y w' H4 Q else Q (.bl false) H3):=rfl
theorem ke(r:V→Option Int→Option Int→Hp→VK→Prop)(te:TE)(tl th:TO):rJ r te tl th σ H Q=te σ H fun x H1=>tl σ H1 fun l H2=>th σ H2 fun u H3=>r x l u H3 Q:=rfl
theorem gq(t:TE)(O:Option Int→Hp→Prop):jF t σ H O=t σ H fun x H1=>∃ i,x = .int i∧O (some i) H1:=rfl
theorem eS(O:Option Int→Hp→Prop):eP σ H O=O none H:=rfl
theorem gW(wi:TI)(g:TG)(tc:TT)(te:TE)(nT:Nat):uT wi g tc te nT σ H Q=wi σ H fun J H1=>∀ D,H1 D=none→ft J g tc te nT σ D Q (upd H1 D (.lst [])):=rfl
theorem i5:lU σ H B=B true H:=rfl
theorem g6(K:PySem.W.Frag)(tl:TE):uc K tl σ H R=tl σ H fun x H1=>∃ a,x = .ref a∧(∃ xs,SqL K H1 a xs)∧R (n9 K a) H1:=rfl
theorem iZ(te:TE):Bm te σ H R=te σ H fun x H1=>∃ y,x = .str y∧R (tQ y) H1:=rfl
theorem gX(ta:TA):zv ta σ H R=ta σ H fun vs H1=>∃ j:Int,vs=[.int j]∧-(2 ^ 62)≤j∧j<2 ^ 62∧R (sE 0 j.toNat) H1:=rfl
theorem ki(g:Int→Int→V)(i j:Int):fY g (.int i) (.int j) H Q=Q (g i j) H:=propext ⟨fun ⟨_,_,e1,e2,q⟩=>by cases e1; cases e2; exact q,fun q=>⟨i,j,rfl,rfl,q⟩⟩
theorem ml(C:Int→Int→Prop)(g:Int→Int→V)(i j:Int):rI C g (.int i) (.int j) H Q=(C i j∧Q (g i j) H):=propext ⟨fun ⟨_,_,e1,e2,q⟩=>by cases e1; cases e2; exact q,fun q=>⟨i,j,rfl,rfl,q⟩⟩
end
structure DefAt (K:PySem.W.Frag) (mg:Str→Option Value) (x:Str) (st:Stmt):Prop where
 ex:∃ f fd,Fun K x x st f fd∧mg x=some (.ref f)
structure bf (P:Program) (w:World) (K:PySem.W.Frag) (mg:Str→Option Value) (base:Heap) (k:Nat) (x:Str) (ps:List Str) (sp:Sp):Prop where
 ex:∃ f fd,jk P w K mg base nP k f fd ps sp∧Binds K fd ps []∧PySem.W.keepIn K (.ref f)=true∧mg x=some (.ref f)
section
variable{P:Program}{w:World}{K:PySem.W.Frag}{mg:Str→Option Value}{base:Heap}
theorem DefAt.cal{x:Str}{st:Stmt}{N ps:List Str}{k:Nat}{sp:Sp}(D:DefAt K mg x st)(S:bc N ps (defScope st))
  (hb:∀ (kV doc pm:Value) (an:Option Addr) (cdv ct:Value) (us:List Value),us.length=ps.length→bindArgs (PySem.W.fnOf x x (defArgs st) (defBody st) (defScope st) .none kV doc pm an cdv ct) ⟨us,[]⟩=pure (ps.zip us))
  (len:∀ vs H Q E,sp vs H Q E→vs.length=ps.length)
  (hbody:∀ (f:Addr) (cdv:Value) (A:Around) (outer:List Env) (s:Shared) (H:Hp) (vs:List V) (Q:VK) (E:XK),Room k (A.deeper (envOfC x (defScope st) s.heap.objs.size f cdv))→sp vs H Q E→
   ∃ t,PSs (kA nP P w K mg base N x (defScope st) f cdv A outer s H E).nox (defBody st) t∧t { nx:=fun _ H'=>Q .non H',rt:=Q } (start N vs) H):bf P w K mg base (k+1) x ps sp:=by
 obtain⟨f,fd,F,m⟩:=D.ex
 exact⟨f,fd,F.ok S len fun cdv A outer s H vs Q E hr h=>hbody f cdv A outer s H vs Q E hr h,F.binds hb,F.kp,m⟩
end
section
variable{X:Cx}
theorem aE{j k:Nat}{x:Str}{ps:List Str}{sp:Sp}{p pos:Pos}{e:Expr}{es:List Expr}{t:TA}(c:bf X.prog X.w X.K X.mg X.base j x ps sp)(hr:Room k X.A)(ha:PA X (e::es) t)(hle:j≤k:=by decide)(hg:Gl X x:=by rfl)
  (hdb:(x == ("__debug__" : Str))=false:=by decide) (he:starEach (e::es) X.env=(false,eval e X.env)::starEach es X.env:=by rfl) (hpl:(backTo pos (starEach es X.env)).any (·.1)=false:=by rfl) :
  PE X (.Call (.Name x p) (e::es) [] pos) (p8 sp [] E0 t):=by
 obtain⟨f,fd,F,b,kp,m⟩:=c.ex
 exact zL F (hr.mono hle) hg m kp b .nil C3 ha hdb he hpl
theorem oI{x:Str}{y:Str}{pos:Pos}(h:∃ t,X.mg x=some (.str y t))(hg:Gl X x:=by rfl)(hd:(x == ("__debug__" : Str))=false:=by decide):PE X (.Name x pos) (tC (.str y)):=by
 obtain⟨t,h⟩:=h
 exact mh hg h ⟨t,rfl⟩ hd
theorem cF{x:Str}{i:Int}{pos:Pos}(h:∃ t,X.mg x=some (.int i t))(hg:Gl X x:=by rfl)(hd:(x == ("__debug__" : Str))=false:=by decide):PE X (.Name x pos) (tC (.int i)):=by
 obtain⟨t,h⟩:=h
 exact mh hg h ⟨t,rfl⟩ hd
theorem dy{x:Str}{T:String}{pos:Pos}(hm:X.mg x=none)(hv:bootBuiltins x=some (.type T))(hg:Gl X x:=by rfl)(hn:x ≠ "__name__" := by decide) (hd:(x == ("__debug__" : Str))=false:=by decide):PE X (.Name x pos) (tC (.ty T)):=
 AH hg hm hv rfl hn hd
theorem aL{x:Str}{p pos:Pos}{e:Expr}{es:List Expr}{t:TA}{id:String}{r:List V→Hp→VK→Prop}(hc:CallR X (.builtin id) r)(hm:X.mg x=none)(hv:bootBuiltins x=some (.builtin id))(ha:PA X (e::es) t)(hg:Gl X x:=by rfl)
  (hn:x ≠ "__name__" := by decide) (hdb:(x == ("__debug__" : Str))=false:=by decide) (he:starEach (e::es) X.env=(false,eval e X.env)::starEach es X.env:=by rfl) (hpl:(backTo pos (starEach es X.env)).any (·.1)=false:=by rfl) :
  PE X (.Call (.Name x p) (e::es) [] pos) (pF r t):=yh hc hg hm hv ha hn hdb he hpl
theorem dA{x:Str}{p pos:Pos}{e:Expr}{es:List Expr}{t:TA}{T:String}{r:List V→Hp→VK→Prop}(hc:CallR X (.type T) r)(hm:X.mg x=none)(hv:bootBuiltins x=some (.type T))(ha:PA X (e::es) t)(hg:Gl X x:=by rfl)
  (hn:x ≠ "__name__" := by decide) (hdb:(x == ("__debug__" : Str))=false:=by decide) (he:starEach (e::es) X.env=(false,eval e X.env)::starEach es X.env:=by rfl) (hpl:(backTo pos (starEach es X.env)).any (·.1)=false:=by rfl) :
  PE X (.Call (.Name x p) (e::es) [] pos) (pF r t):=w5 hc hg hm hv ha hn hdb he hpl
end
section
variable{X:Cx}
def cv:R2:=fun x y H Q=>match x,y with
 | .int i,.int j=>Q (.int (i+j)) H
 | .str a,.str b=>a.length+b.length≤sizeLine∧Q (.str (a++b)) H
 | .ref l,.ref b=>∃ xs zs,H l=some (.lst xs)∧H b=some (.lst zs)∧xs.length+zs.length≤sizeLine∧∀ p,H p=none→Q (.ref p) (upd H p (.lst (xs++zs)))
 | _,_=>False
theorem ap:OpR X (binaryOp .Add) cv:=by
 intro pins s σ H x y v u Q I rx ry h
 cases x <;> cases y <;> first
  | exact(show False from h).elim
  | exact Bk pins s σ H _ _ v u Q I rx ry ⟨_,_,rfl,rfl,h⟩
  | exact tZ pins s σ H _ _ v u Q I rx ry ⟨_,_,rfl,rfl,h⟩
  | (obtain⟨xs,zs,h1,h2,h3,h4⟩:=h; exact Bf pins s σ H _ _ v u Q I rx ry ⟨_,_,xs,zs,rfl,rfl,h1,h2,h3,h4⟩)
def rH:R2:=fun x y H Q=>match x,y with
 | .int i,.int j=>Q (.bl (decide (i<j))) H
 | .str i,.str j=>Q (.bl (decide (i.cps.toList<j.cps.toList))) H
 | _,_=>False
theorem ig:OpR X (compareOp .Lt) rH:=by
 intro pins s σ H x y v u Q I rx ry h
 cases x <;> cases y <;> first
  | exact(show False from h).elim
  | exact Dl pins s σ H _ _ v u Q I rx ry ⟨_,_,rfl,rfl,h⟩
  | exact vC pins s σ H _ _ v u Q I rx ry ⟨_,_,rfl,rfl,h⟩
def uQ(K:PySem.W.Frag):R2:=fun x y H Q=>match x,y with
 | .str i,.str j=>Q (.bl (!(Builtin.Str.occurrences j i 0 j.length 1).isEmpty)) H
 | x,.ref p=>∃ xs,(SqL K H p xs∨SqT K H p xs)∧bP x=true∧xs.all bP=true∧Q (.bl (kZ x xs)) H
 | _,_=>False
theorem Cz:OpR X (compareOp .In) (uQ X.K):=by
 intro pins s σ H x y v u Q I rx ry h
 cases y with
 | str j=>
  cases x with
  | str i=>exact wt pins s σ H _ _ v u Q I rx ry ⟨i,j,rfl,rfl,h⟩
  | _=>exact(show False from h).elim
 | ref p=>
  have h':∃ xs,(SqL X.K H p xs∨SqT X.K H p xs)∧bP x=true∧xs.all bP=true∧Q (.bl (kZ x xs)) H:=by cases x <;> exact h
  obtain⟨xs,h1,h2,h3,h4⟩:=h'
  exact vH pins s σ H _ _ v u Q I rx ry ⟨p,xs,rfl,h1,h2,h3,h4⟩
 | _=>cases x <;> exact(show False from h).elim
def jZ(K:PySem.W.Frag):R2:=fun x y H Q=>match x,y with
 | .str i,.str j=>Q (.bl (!(!(Builtin.Str.occurrences j i 0 j.length 1).isEmpty))) H
 | x,.ref p=>∃ xs,(SqL K H p xs∨SqT K H p xs)∧bP x=true∧xs.all bP=true∧Q (.bl (!kZ x xs)) H
 | _,_=>False
theorem vo:OpR X (compareOp .NotIn) (jZ X.K):=by
 intro pins s σ H x y v u Q I rx ry h
 cases y with
 | str j=>
  cases x with
  | str i=>exact qu pins s σ H _ _ v u Q I rx ry ⟨i,j,rfl,rfl,h⟩
  | _=>exact(show False from h).elim
 | ref p=>
  have h':∃ xs,(SqL X.K H p xs∨SqT X.K H p xs)∧bP x=true∧xs.all bP=true∧Q (.bl (!kZ x xs)) H:=by cases x <;> exact h
  obtain⟨xs,h1,h2,h3,h4⟩:=h'
  exact rF pins s σ H _ _ v u Q I rx ry ⟨p,xs,rfl,h1,h2,h3,h4⟩
 | _=>cases x <;> exact(show False from h).elim
def pZ(K:PySem.W.Frag):List V→Hp→VK→Prop:=fun xs H Q=>match xs with
 | [.str z]=>z.length≤sizeLine∧Q (.int z.length) H
 | [.ref p]=>∃ ys,(SqL K H p ys∨SqT K H p ys)∧Q (.int ys.length) H
 | _=>False
theorem wB:CallR X (.builtin "len") (pZ X.K):=by
 intro pins s σ H xs us Q I r h
 match xs,h with
 | [.str z],h=>exact qR pins s σ H _ us Q I r ⟨z,rfl,h⟩
 | [.ref p],h=>obtain⟨ys,h1,h2⟩:=h; exact qZ pins s σ H _ us Q I r ⟨p,ys,rfl,h1,h2⟩
def mL(K:PySem.W.Frag):R2:=fun x y H Q=>match x,y with
 | .ref p,.int i=>∃ xs v,(SqL K H p xs∨SqT K H p xs)∧gf xs i=some v∧Q v H
 | .str z,.int i=>∃ c,z.length≤sizeLine∧gf z.cps.toList i=some c∧Q (.str ⟨#[c]⟩) H
 | _,_=>False
theorem El:IxR X (mL X.K):=by
 intro value slice pins s σ H x y v u Q I rx ry h hs
 refine CS value slice pins s σ H x y v u Q I rx ry ?_ hs
 match x,y,h with
 | .ref p,.int i,h=>
  obtain⟨xs,v',h1,h2,h3⟩:=h
  rcases h1 with h1 | h1
  ·exact .inl ⟨p,xs,i,v',rfl,rfl,h1,h2,h3⟩
  ·exact .inr (.inl ⟨p,xs,i,v',rfl,rfl,h1,h2,h3⟩)
 | .str z,.int i,h=>
  obtain⟨c,h1,h2,h3⟩:=h
  exact .inr (.inr ⟨z,i,c,rfl,rfl,h1,h2,h3⟩)
end
section
variable{K:PySem.W.Frag}{H:Hp}{Q:VK}
theorem fU(i j:Int):cv (.int i) (.int j) H Q=Q (.int (i+j)) H:=rfl
theorem fG(a b:Str):cv (.str a) (.str b) H Q=(a.length+b.length≤sizeLine∧Q (.str (a++b)) H):=rfl
theorem fQ(l b:Addr):cv (.ref l) (.ref b) H Q=∃ xs zs,H l=some (.lst xs)∧H b=some (.lst zs)∧xs.length+zs.length≤sizeLine∧∀ p,H p=none→Q (.ref p) (upd H p (.lst (xs++zs))):=rfl
theorem hZ(i j:Int):rH (.int i) (.int j) H Q=Q (.bl (decide (i<j))) H:=rfl
theorem gG(i j:Str):rH (.str i) (.str j) H Q=Q (.bl (decide (i.cps.toList<j.cps.toList))) H:=rfl
theorem gY(i j:Str):uQ K (.str i) (.str j) H Q=Q (.bl (!(Builtin.Str.occurrences j i 0 j.length 1).isEmpty)) H:=rfl
theorem g_(x:V)(p:Addr):uQ K x (.ref p) H Q=∃ xs,(SqL K H p xs∨SqT K H p xs)∧bP x=true∧xs.all bP=true∧Q (.bl (kZ x xs)) H:=by cases x <;> rfl
theorem dX(i j:Str):jZ K (.str i) (.str j) H Q=Q (.bl (!(!(Builtin.Str.occurrences j i 0 j.length 1).isEmpty))) H:=rfl
theorem dW(x:V)(p:Addr):jZ K x (.ref p) H Q=∃ xs,(SqL K H p xs∨SqT K H p xs)∧bP x=true∧xs.all bP=true∧Q (.bl (!kZ x xs)) H:=by cases x <;> rfl
theorem fK(z:Str):pZ K [.str z] H Q=(z.length≤sizeLine∧Q (.int z.length) H):=rfl
theorem fI(p:Addr):pZ K [.ref p] H Q=∃ ys,(SqL K H p ys∨SqT K H p ys)∧Q (.int ys.length) H:=rfl
theorem gK(p:Addr)(i:Int):mL K (.ref p) (.int i) H Q=∃ xs v,(SqL K H p xs∨SqT K H p xs)∧gf xs i=some v∧Q v H:=rfl
theorem hE(z:Str)(i:Int):mL K (.str z) (.int i) H Q=∃ c,z.length≤sizeLine∧gf z.cps.toList i=some c∧Q (.str ⟨#[c]⟩) H:=rfl
theorem eX(p:Addr)(y:V):iR (.ref p) [y] H Q=∃ xs,H p=some (.lst xs)∧xs.length<sizeLine∧Q .non (upd H p (.lst (xs++[y]))):=
 propext ⟨fun ⟨_,xs,_,e1,e2,q⟩=>by cases e1; cases e2; exact⟨xs,q⟩,fun ⟨xs,q⟩=>⟨p,xs,y,rfl,rfl,q⟩⟩
theorem gJ(sep:Str)(p:Addr):qa K (.str sep) [.ref p] H Q=∃ ss,SqL K H p (ss.map V.str)∧(ss.map (·.length)).sum+ss.length * sep.length≤16777216∧Q (.str (Txt.join sep ss)) H:=
 propext ⟨fun ⟨_,_,ss,e1,e2,q⟩=>by cases e1; cases e2; exact⟨ss,q⟩,fun ⟨ss,q⟩=>⟨sep,p,ss,rfl,rfl,q⟩⟩
theorem iP(y:Str):qN K "str" (.str y) H=True:=eq_true rfl
theorem ja(p:Addr):(qN K "list" (.ref p) H)=∃ xs,SqL K H p xs:=by
 refine propext ⟨fun h=>?_,fun h=>.inl ⟨rfl,h⟩⟩
 rcases h with ⟨_,h⟩ | ⟨h,_⟩ | ⟨h,_⟩ | ⟨h,_⟩
 ·exact h
 ·exact absurd h (by decide)
 ·exact absurd h (by decide)
 ·exact absurd h (by decide)
end
theorem bM:bootBuiltins "len" = some (.builtin "len"):=by decide +kernel
theorem bh:bootBuiltins "isinstance" = some (.builtin "isinstance"):=by decide +kernel
theorem nI:bootBuiltins "all" = some (.builtin "all"):=by decide +kernel
theorem jq:bootBuiltins "str" = some (.type "str"):=by decide +kernel
theorem ji:bootBuiltins "int" = some (.type "int"):=by decide +kernel
theorem zZ:bootBuiltins "bool" = some (.type "bool"):=by decide +kernel
theorem kn:bootBuiltins "list" = some (.type "list"):=by decide +kernel
theorem jo:bootBuiltins "tuple" = some (.type "tuple"):=by decide +kernel
theorem aw{X:Cx}(i:Nat){x:Str}{e:Expr}{te:TE}{pos pos':Pos}(hN:X.N.Nodup)(he:PE X e te)(hi:X.N[i]? = some x:=by rfl)(hx:bH X.env.scope x:=by first | exact Or.inl rfl | exact Or.inr rfl)(hs:swapsWith e (some (.Name x pos')) pos.line X.env=pure false:=by rfl)
  (hf:X.fn x=true∨X.env.scope.names.lookup x=some .local:=by first | exact .inl rfl | exact .inr rfl | assumption):PS X (.Assign [.Name x pos'] e pos) (iq te (dG i)):=CL hN hi hx he hs hf
theorem bX{X:Cx}(i:Nat){x:Str}{pos:Pos}(hN:X.N.Nodup)(hi:X.N[i]? = some x:=by rfl)(hx:bH X.env.scope x:=by first | exact Or.inl rfl | exact Or.inr rfl)
  (hf:X.fn x=true∨X.env.scope.names.lookup x=some .local:=by first | exact .inl rfl | exact .inr rfl | assumption):PG X (.Name x pos) (dG i):=zV hN hi hx hf
structure CompSc (fsc:Scope) (N N0 T:List Str) (scope:Scope):Prop where
 kind:scope.kind = .function
 nocell:∀ y∈scope.names,y.2 ≠ .cell
 names:∀ y∈scope.names,y.2 = .local→scope.names.lookup y.1=some .local
 free:∀ y∈scope.names,y.2 = .free→fsc.names.lookup y.1=some .cell∨fsc.names.lookup y.1=some .free
 apart:∀ y∈scope.names,y.2 = .local→y.1∉N0
 len0:N0.length=N.length
 same:((N0.zip N).all fun p=>p.1 == p.2 || !(scope.names.any fun y=>y.1 == p.1))=true
theorem CompSc.to{X:Cx}{fsc:Scope}{N N0 T:List Str}{scope:Scope}(S:CompSc fsc N N0 T scope)(h1:X.env.scope=fsc)(h2:X.N=N):jN X N0 T scope:=by
 subst h1 h2
 refine⟨S.kind,S.nocell,S.names,S.free,S.apart,S.len0,fun i x k e m=>?_⟩
 have hl:=S.len0
 have hi:i<N0.length:=(List.getElem?_eq_some_iff.mp e).1
 have hN:X.N[i]? = some X.N[i]:=List.getElem?_eq_getElem (by omega)
 have hz:(x,X.N[i])∈N0.zip X.N:=List.mem_of_getElem? (i:=i) (by rw[List.getElem?_zip_eq_some]; exact⟨e,hN⟩)
 have q:=List.all_eq_true.mp S.same _ hz
 simp only[Bool.or_eq_true,beq_iff_eq,Bool.not_eq_true']at q
 rcases q with q | q
 ·rw[hN,← q]
 ·have:(scope.names.any fun y=>y.1 == x)=true:=List.any_eq_true.mpr ⟨_,m,by simp⟩
  rw[this]at q; cases q
def tV:R2:=DZ
def t7:R2:=DG
theorem cm{X:Cx}:OpR X (compareOp .Eq) tV:=Dn
theorem kq{X:Cx}:OpR X (compareOp .NotEq) t7:=Dp
section
variable{K:PySem.W.Frag}{H:Hp}{Q:VK}
theorem gA(i j:Int):tV (.int i) (.int j) H Q=Q (.bl (decide (i=j))) H:=by
 have e:decide (V.int i=V.int j)=decide (i=j):=by by_cases h:i=j <;> simp[h]
 show (oy (.int i) (.int j)=true∧Q (.bl (decide (V.int i=V.int j))) H)=_
 rw[e]; exact propext ⟨fun h=>h.2,fun h=>⟨rfl,h⟩⟩
theorem gF(i j:Str):tV (.str i) (.str j) H Q=Q (.bl (decide (i=j))) H:=by
 have e:decide (V.str i=V.str j)=decide (i=j):=by by_cases h:i=j <;> simp[h]
 show (oy (.str i) (.str j)=true∧Q (.bl (decide (V.str i=V.str j))) H)=_
 rw[e]; exact propext ⟨fun h=>h.2,fun h=>⟨rfl,h⟩⟩
theorem gy(i j:Int):t7 (.int i) (.int j) H Q=Q (.bl (!decide (i=j))) H:=by
 have e:decide (V.int i=V.int j)=decide (i=j):=by by_cases h:i=j <;> simp[h]
 show (oy (.int i) (.int j)=true∧Q (.bl (!decide (V.int i=V.int j))) H)=_
 rw[e]; exact propext ⟨fun h=>h.2,fun h=>⟨rfl,h⟩⟩
theorem hJ(i j:Str):t7 (.str i) (.str j) H Q=Q (.bl (!decide (i=j))) H:=by
 have e:decide (V.str i=V.str j)=decide (i=j):=by by_cases h:i=j <;> simp[h]
 show (oy (.str i) (.str j)=true∧Q (.bl (!decide (V.str i=V.str j))) H)=_
 rw[e]; exact propext ⟨fun h=>h.2,fun h=>⟨rfl,h⟩⟩
end
section
variable{X:Cx}(K:PySem.W.Frag)
theorem jW(hK:X.K=K:=by rfl):OpR X (compareOp .In) (uQ K):=hK ▸ Cz
theorem lH(hK:X.K=K:=by rfl):OpR X (compareOp .NotIn) (jZ K):=hK ▸ vo
theorem aW(hK:X.K=K:=by rfl):CallR X (.builtin "len") (pZ K):=hK ▸ wB
theorem bG(hK:X.K=K:=by rfl):IxR X (mL K):=hK ▸ El
theorem jB(hK:X.K=K:=by rfl)(hc:X.calm=true:=by rfl):CallR X (.builtin "all") (yS K):=hK ▸ wD hc
theorem fD(hK:X.K=K:=by rfl):MtR X "str.join" (qa K):=hK ▸ zR
theorem fC(hK:X.K=K:=by rfl):SlR X (qP K):=hK ▸ zI
theorem dH{tg l:Expr}{tl:TE}(hl:PE X l tl)(hK:X.K=K:=by rfl):PI X tg l (uc K tl):=hK ▸ zP hl
theorem mn{es:List Expr}{k n:Nat}{t:jx}{pos:Pos}(h:PGs X es t)(hn:(assignEach es X.env).length=n:=by rfl)(hst:(assignEach es X.env).findIdx? (·.1)=none:=by rfl)(hK:X.K=K:=by rfl)(hc:X.calm=true:=by rfl):PG X (.Tuple es k pos) (uM K n t):=hK ▸ BK hc h hn hst
theorem bL{o e:Expr}{es:List Expr}{to:TE}{t:TA}{name:Str}{apos cpos:Pos}{T id:String}{r:V→List V→Hp→VK→Prop}(pa:PlainAttrs T)(slot:Slot T name id)(hty:typeOf (.builtin id)=pure (.type "method_descriptor")) (hm:MtR X id r) (ho:PE X o to) (ha:PA X (e::es) t)
  (hbase:attributeBase o name X.env (eval o X.env)=eval o X.env:=by rfl)
  (hfew:((backTo cpos (starEach (e::es) X.env)).all (fun x=>!x.1)&&(backToKw cpos (keywordEach [] X.env)).all (fun x=>x.1.isSome)&&decide ((e::es).length+([]:List Keyword).length+(if ([]:List Keyword).isEmpty then 0 else 1)<30))=true:=by rfl)
  (hline:(apos.endLine == cpos.line)=true:=by rfl) (hs:starEach (e::es) X.env=(false,eval e X.env)::starEach es X.env:=by rfl) (hplain:(backTo cpos (starEach es X.env)).any (·.1)=false:=by rfl) (hK:X.K=K:=by rfl) :
  PE X (.Call (.Attribute o name apos) (e::es) [] cpos) (nv K T r to t):=hK ▸ Dc pa slot hty hm ho ha hbase hfew hline hs hplain
theorem rV(hK:X.K=K:=by rfl):CallR X (.type "tuple") (fun xs H Q=>∃ p ys,xs=[.ref p]∧((SqL K H p ys∧∀ l,H l=none→Q (.ref l) (upd H l (.tup ys)))∨(SqT K H p ys∧Q (.ref p) H))):=hK ▸ pO
end
theorem j_(n:Int)(P:Int→Prop):(∃ j,[V.int n]=[V.int j]∧P j)=P n:=propext ⟨fun ⟨_,e,h⟩=>by cases e; exact h,fun h=>⟨n,rfl,h⟩⟩
theorem iX(x:V)(xs:List V)(P:V→List V→Prop):(∃ v r,x::xs=v::r∧P v r)=P x xs:=propext ⟨fun ⟨_,_,e,h⟩=>by cases e; exact h,fun h=>⟨x,xs,rfl,h⟩⟩
def gU(scope fsc:Scope):Scope:={ scope with names:=scope.names.map fun (n,k)=>if (k == .free&&fsc.kind == .function&&fsc.names.lookup n == some .cell) then (n,.cell) else (n,k) }
section
variable{X:Cx}{N0 T:List Str}{scope:Scope}{C:Addr}{fp:List Addr}{s:Shared}{H:Hp}{x:Str}
theorem nw(fsc:Scope)(h:(gU scope fsc).names.lookup x=some .globalImplicit)(e:X.env.scope=fsc:=by rfl):Gl (bZ X N0 T scope C fp s H) x:=by subst e; exact h
theorem dL(fsc:Scope)(h:((gU scope fsc).names.lookup x=some .local||(gU scope fsc).names.lookup x=some .cell||(gU scope fsc).names.lookup x=some .free)=true)(e:X.env.scope=fsc:=by rfl):aM (bZ X N0 T scope C fp s H).env.scope x:=by
 subst e
 simp only[Bool.or_eq_true,decide_eq_true_eq]at h
 rcases h with (h | h) | h
 ·exact .inl h
 ·exact .inr (.inl h)
 ·exact .inr (.inr h)
theorem hX(fsc:Scope)(h:(gU scope fsc).names.lookup x=some .local)(e:X.env.scope=fsc:=by rfl):bH (bZ X N0 T scope C fp s H).env.scope x:=by subst e; exact .inl h
theorem jT(fsc:Scope)(h:(gU scope fsc).names.lookup x=some .local)(e:X.env.scope=fsc:=by rfl):(bZ X N0 T scope C fp s H).fn x=true∨(bZ X N0 T scope C fp s H).env.scope.names.lookup x=some .local:=by subst e; exact .inr h
end
theorem cQ{X:Cx}:MtR X "list.append" iR:=ph
theorem PW.pt'{X:Cx}{e:Expr}{t:TT}(h:PW X e t):PT X e t:=h.pt
theorem eQ{σ : St}{H:Hp}{Q:List (V × V)→Hp→Prop}:lI [] σ H Q=Q [] H:=rfl
theorem dY{σ : St}{H:Hp}{Q:List (V × V)→Hp→Prop}(tk tv:TE)(r:List (TE × TE)):lI ((tk,tv)::r) σ H Q=tk σ H fun x H1=>tv σ H1 fun y H2=>lI r σ H2 fun ps H3=>Q ((x,y)::ps) H3:=rfl
theorem Same.upd{H H':Hp}{p:Addr}(sm:Same H H')(h:H p=none)(o:HO):Same H (upd H' p o):=fun b u q=>by rw[aA (aZ q h)]; exact sm b u q
theorem au{H:Hp}{p:Addr}(h:H p=none)(o:HO):Same H (upd H p o):=fun b u q=>by rw[aA (aZ q h)]; exact q
end L2
namespace L2
open PySem PySem.Spec PyProof.Rows PySem.SeqAt
def EqN(K:PySem.W.Frag)(H:Hp):Nat→V→V→Bool→Prop
 | 0,x,y,b=>bP x=true∧bP y=true∧b=iu x y
 | n+1,x,y,b=>(bP x=true∧bP y=true∧b=iu x y)∨∃ a c xs ys,x = .ref a∧y = .ref c∧((SqL K H a xs∧SqL K H c ys)∨(SqT K H a xs∧SqT K H c ys))∧
   ((∃ e:Nat→Bool,xs.length=ys.length∧(∀ (i:Nat) x y,xs[i]? = some x→ys[i]? = some y→EqN K H n x y (e i))∧b=(List.range xs.length).all e)∨
    (SqL K H a xs∧SqL K H c ys∧xs.length≠ys.length∧b=false))
theorem mK:∀ {x:V},bP x=true→iu x x=true
 | .non,_=>rfl
 | .bl b,_=>by simp[iu]
 | .int i,_=>by simp[iu]
 | .str y,_=>by simp[iu]
section
variable{X:Cx}{pins:List (Addr × Obj)}{σ : St}{H:Hp}{s:Shared}
theorem EqN.self(I:Inv X pins σ H s):∀ {n:Nat} {x:V} {b:Bool},EqN X.K H n x x b→b=true
 | 0,x,b,h=>by obtain⟨h1,_,rfl⟩:=h; exact mK h1
 | n+1,x,b,h=>by
  rcases h with ⟨h1,_,rfl⟩ | ⟨a,c,xs,ys,rfl,e,hq,h⟩
  ·exact mK h1
  ·cases e
   have exy:xs=ys:=by
    rcases hq with ⟨q1,q2⟩ | ⟨q1,q2⟩
    ·exact I.list_inj q1 q2
    ·exact I.tuple_inj q1 q2
   subst exy
   rcases h with ⟨e,_,he,rfl⟩ | ⟨_,_,z,_⟩
   ·rw[List.all_eq_true]
    intro i hi
    have hi':=List.mem_range.mp hi
    have q:=he i xs[i] xs[i] (List.getElem?_eq_getElem hi') (List.getElem?_eq_getElem hi')
    exact EqN.self I q
   ·exact absurd rfl z
theorem EqN.rc(I:Inv X pins σ H s){n:Nat}(ih:∀ {A:Around} {x y:V} {b:Bool} {u v:Value},A.units+n<cLine→EqN X.K H n x y b→RelV x u→RelV y v→EqAt A s u v b)
  {A:Around} {a c:Addr} {xs ys:List V} {b:Bool} (hu:A.units+(n+1)<cLine) (hq:(SqL X.K H a xs∧SqL X.K H c ys)∨(SqT X.K H a xs∧SqT X.K H c ys))
  (h:(∃ e:Nat→Bool,xs.length=ys.length∧(∀ (i:Nat) x y,xs[i]? = some x→ys[i]? = some y→EqN X.K H n x y (e i))∧b=(List.range xs.length).all e)∨(SqL X.K H a xs∧SqL X.K H c ys∧xs.length≠ys.length∧b=false)) :
  RcAt A s (.ref a) (.ref c) b∧RcNeAt A s (.ref a) (.ref c) (!b):=by
 have hin:A.in1.units+n<cLine:=by
  have:A.in1.units=A.units+1:=rfl
  omega
 rcases h with ⟨e,hl,he,rfl⟩ | ⟨q1,q2,hl,rfl⟩
 ·rcases hq with ⟨q1,q2⟩ | ⟨q1,q2⟩
  ·obtain⟨i1,r1,p1,z1⟩:=I.list q1
   obtain⟨i2,r2,p2,z2⟩:=I.list q2
   have l1:=r1.length
   have l2:=r2.length
   have hit:∀ j (h1:j<i1.toArray.size) (h2:j<i2.toArray.size),EqAt A.in1 s i1.toArray[j] i2.toArray[j] (e j):=fun j h1 h2=>by
    obtain⟨x,hx,rx⟩:=r1.of (i:=j) (u:=i1.toArray[j]) (by simp at h1 ⊢)
    obtain⟨y,hy,ry⟩:=r2.of (i:=j) (u:=i2.toArray[j]) (by simp at h2 ⊢)
    exact ih hin (he j x y hx hy) rx ry
   have ez:xs.length=i1.toArray.size:=by simp; omega
   rw[ez]
   exact⟨RcAt.lists p1.isList p2.isList (by simp; omega) (by omega) hit,RcNeAt.lists p1.isList p2.isList (by simp; omega) (by omega) hit⟩
  ·obtain⟨i1,r1,p1,z1⟩:=I.tuple q1
   obtain⟨i2,r2,p2,z2⟩:=I.tuple q2
   have l1:=r1.length
   have l2:=r2.length
   have hit:∀ j (h1:j<i1.toArray.size) (h2:j<i2.toArray.size),EqAt A.in1 s i1.toArray[j] i2.toArray[j] (e j):=fun j h1 h2=>by
    obtain⟨x,hx,rx⟩:=r1.of (i:=j) (u:=i1.toArray[j]) (by simp at h1 ⊢)
    obtain⟨y,hy,ry⟩:=r2.of (i:=j) (u:=i2.toArray[j]) (by simp at h2 ⊢)
    exact ih hin (he j x y hx hy) rx ry
   have ez:(List.range xs.length).all e=((List.range (min i1.toArray.size i2.toArray.size)).all e&&i1.toArray.size == i2.toArray.size):=by
    have e1:i1.toArray.size=xs.length:=by simp; omega
    have e2:i2.toArray.size=xs.length:=by simp; omega
    rw[e1,e2,Nat.min_self]; simp
   rw[ez]
   exact⟨RcAt.tuples (show s.heap.IsTuple a i1.toArray from p1) (show s.heap.IsTuple c i2.toArray from p2) (by omega) hit,RcNeAt.tuples (show s.heap.IsTuple a i1.toArray from p1) (show s.heap.IsTuple c i2.toArray from p2) (by omega) hit⟩
 ·obtain⟨i1,r1,p1,z1⟩:=I.list q1
  obtain⟨i2,r2,p2,z2⟩:=I.list q2
  have l1:=r1.length
  have l2:=r2.length
  have hne:(i1.toArray.size != i2.toArray.size)=true:=by
   rw[bne_iff_ne]; simp; omega
  exact⟨RcAt.lists_lengths p1.isList p2.isList hne (by omega),RcNeAt.lists_lengths p1.isList p2.isList hne (by omega)⟩
theorem EqN.at(I:Inv X pins σ H s):∀ {n:Nat} {A:Around} {x y:V} {b:Bool} {u v:Value},A.units+n<cLine→EqN X.K H n x y b→RelV x u→RelV y v→EqAt A s u v b
 | 0,A,x,y,b,u,v,_,h,rx,ry=>by obtain⟨h1,h2,rfl⟩:=h; exact nG rx ry h1 h2
 | n+1,A,x,y,b,u,v,hu,h,rx,ry=>by
  have h0:=h
  rcases h with ⟨h1,h2,rfl⟩ | ⟨a,c,xs,ys,rfl,rfl,hq,h⟩
  ·exact nG rx ry h1 h2
  ·cases rx
   cases ry
   by_cases hac:a=c
   ·subst hac
    rw[EqN.self I h0]
    exact EqAt.same _
   ·exact EqAt.of_refs hac (EqN.rc I (fun hu' q rx ry=>EqN.at I hu' q rx ry) hu hq h).1
end
section
variable{X:Cx}
def uV(K:PySem.W.Frag):R2:=fun x y H Q=>∃ (a c:Addr) (n:Nat) (b:Bool),x = .ref a∧y = .ref c∧n≤100∧EqN K H (n+1) x y b∧Q (.bl b) H
def uS(K:PySem.W.Frag):R2:=fun x y H Q=>∃ (a c:Addr) (n:Nat) (b:Bool),x = .ref a∧y = .ref c∧n≤100∧EqN K H (n+1) x y b∧Q (.bl (!b)) H
theorem A9(hu:X.A.units+101<cLine):OpR X (compareOp .Eq) (uV X.K):=by
 intro pins s σ H x y v u Q I rx ry h
 obtain⟨a,c,n,b,rfl,rfl,hn,he,q⟩:=h
 cases rx
 cases ry
 rcases he with ⟨h1,_⟩ | ⟨a',c',xs,ys,e1,e2,hq,h⟩
 ·cases h1
 ·cases e1
  cases e2
  exact(EqN.rc I (fun hu' q rx ry=>EqN.at I hu' q rx ry) (by omega) hq h).1 _ _ _ _ ⟨.bl b,H,I,rfl,q⟩
theorem By(hu:X.A.units+101<cLine):OpR X (compareOp .NotEq) (uS X.K):=by
 intro pins s σ H x y v u Q I rx ry h
 obtain⟨a,c,n,b,rfl,rfl,hn,he,q⟩:=h
 cases rx
 cases ry
 rcases he with ⟨h1,_⟩ | ⟨a',c',xs,ys,e1,e2,hq,h⟩
 ·cases h1
 ·cases e1
  cases e2
  exact(EqN.rc I (fun hu' q rx ry=>EqN.at I hu' q rx ry) (by omega) hq h).2 _ _ _ _ ⟨.bl (!b),H,I,rfl,q⟩
theorem me(K:PySem.W.Frag){k:Nat}(hr:Room k X.A)(hK:X.K=K:=by rfl):OpR X (compareOp .Eq) (uV K):=by subst hK; exact A9 (by have:=hr.un; omega)
theorem sv(K:PySem.W.Frag){k:Nat}(hr:Room k X.A)(hK:X.K=K:=by rfl):OpR X (compareOp .NotEq) (uS K):=by subst hK; exact By (by have:=hr.un; omega)
end
section
variable{K:PySem.W.Frag}{H:Hp}{Q:VK}
theorem iV(a c:Addr):uV K (.ref a) (.ref c) H Q=∃ (n:Nat) (b:Bool),n≤100∧EqN K H (n+1) (.ref a) (.ref c) b∧Q (.bl b) H:=
 propext ⟨fun ⟨_,_,n,b,e1,e2,q⟩=>⟨n,b,q⟩,fun ⟨n,b,q⟩=>⟨a,c,n,b,rfl,rfl,q⟩⟩
theorem iE(a c:Addr):uS K (.ref a) (.ref c) H Q=∃ (n:Nat) (b:Bool),n≤100∧EqN K H (n+1) (.ref a) (.ref c) b∧Q (.bl (!b)) H:=
 propext ⟨fun ⟨_,_,n,b,e1,e2,q⟩=>⟨n,b,q⟩,fun ⟨n,b,q⟩=>⟨a,c,n,b,rfl,rfl,q⟩⟩
theorem EqN.flat{n:Nat}{x y:V}(hx:bP x=true)(hy:bP y=true):EqN K H n x y (iu x y):=by
 cases n with
 | zero=>exact⟨hx,hy,rfl⟩
 | succ n=>exact .inl ⟨hx,hy,rfl⟩
theorem EqN.refl{n:Nat}{x:V}(hx:bP x=true):EqN K H n x x true:=by
 have q:EqN K H n x x (iu x x):=EqN.flat hx hx
 rwa [mK hx]at q
theorem EqN.seq{n:Nat}{a c:Addr}{xs ys:List V}(hq:(SqL K H a xs∧SqL K H c ys)∨(SqT K H a xs∧SqT K H c ys))(hl:xs.length=ys.length)(he:∀ (i:Nat) x y,xs[i]? = some x→ys[i]? = some y→EqN K H n x y true):EqN K H (n+1) (.ref a) (.ref c) true:=
 .inr ⟨a,c,xs,ys,rfl,rfl,hq,.inl ⟨fun _=>true,hl,he,by simp⟩⟩
theorem EqN.seqFlat{n:Nat}{a c:Addr}{xs:List V}(hq:(SqL K H a xs∧SqL K H c xs)∨(SqT K H a xs∧SqT K H c xs))(hf:∀ x∈xs,bP x=true):EqN K H (n+1) (.ref a) (.ref c) true:=
 EqN.seq hq rfl fun i x y e1 e2=>by
  rw[e1]at e2; cases e2
  exact EqN.refl (hf x (List.mem_of_getElem? e1))
theorem EqN.strs{n:Nat}{a c:Addr}{ss ts:List Str}(h1:SqL K H a (ss.map V.str))(h2:SqL K H c (ts.map V.str)):EqN K H (n+1) (.ref a) (.ref c) (decide (ss=ts)):=by
 refine .inr ⟨a,c,_,_,rfl,rfl,.inl ⟨h1,h2⟩,?_⟩
 by_cases hl:ss.length=ts.length
 ·refine .inl ⟨fun i=>ss.getD i default == ts.getD i default,by simp[hl],fun i x y e1 e2=>?_,?_⟩
  ·rw[List.getElem?_map]at e1 e2
   cases q1:ss[i]? with
   | none=>rw[q1]at e1; cases e1
   | some u=>
    cases q2:ts[i]? with
    | none=>rw[q2]at e2; cases e2
    | some v=>
     rw[q1]at e1; rw[q2]at e2
     cases e1; cases e2
     dsimp only
     rw[List.getD_eq_getElem?_getD,List.getD_eq_getElem?_getD,q1,q2]
     exact EqN.flat rfl rfl
  ·rw[List.length_map]
   by_cases e:ss=ts
   ·subst e
    rw[decide_eq_true rfl]
    symm
    rw[List.all_eq_true]
    intro i _
    simp
   ·rw[decide_eq_false e]
    symm
    rw[List.all_eq_false]
    have:∃ i:Nat,ss[i]? ≠ ts[i]?:=by
     refine Classical.byContradiction fun hn=>e (List.ext_getElem? fun i=>?_)
     exact Classical.byContradiction fun h=>hn ⟨i,h⟩
    obtain⟨i,hi⟩:=this
    have hlt:i<ss.length:=by
     refine Classical.byContradiction fun hn=>hi ?_
     rw[List.getElem?_eq_none (by omega),List.getElem?_eq_none (by omega)]
    refine⟨i,List.mem_range.mpr hlt,?_⟩
    rw[List.getD_eq_getElem?_getD,List.getD_eq_getElem?_getD,List.getElem?_eq_getElem hlt,List.getElem?_eq_getElem (by omega)]
    rw[List.getElem?_eq_getElem hlt,List.getElem?_eq_getElem (by omega)]at hi
    simpa using hi
 ·have e:ss≠ts:=fun e=>hl (by rw[e])
  rw[decide_eq_false e]
  exact .inr ⟨h1,h2,by simpa using hl,rfl⟩
end
section
variable{X:Cx}
end
section
variable{X:Cx}
def Cs:R2:=fun x y H Q=>y = .non∧Q (.bl (decide (x = .non))) H
theorem sU:OpR X (compareOp .Is) Cs:=CK
def vn:List V→Hp→VK→Prop:=fun xs H Q=>∃ i,xs=[.int i]∧i.natAbs.log2<1920∧Q (.str (toString i)) H
theorem vx:CallR X (.type "str") vn:=lQ
def p0:List V→Hp→VK→Prop:=fun xs H Q=>(∃ i,xs=[.int i]∧Q (.int i) H)∨∃ k,xs=[.bl k]∧Q (.int (if k then 1 else 0)) H
theorem jL:CallR X (.type "int") p0:=vt
def v3(K:PySem.W.Frag):List V→Hp→VK→Prop:=fun xs H Q=>∃ p ys,xs=[.ref p]∧((SqL K H p ys∧∀ l,H l=none→Q (.ref l) (upd H l (.tup ys)))∨(SqT K H p ys∧Q (.ref p) H))
theorem jD(K:PySem.W.Frag)(hK:X.K=K:=by rfl):CallR X (.type "tuple") (v3 K):=rV K hK
def vg:R2:=fun x y H Q=>match x,y with
 | .int i,.int j=>CMul i j∧Q (.int (i * j)) H
 | .str z,.int n=>0≤n∧n≤4096∧z.length≤4096∧Q (.str (Txt.mul z n)) H
 | _,_=>False
theorem s_:OpR X (binaryOp .Mult) vg:=by
 intro pins s σ H x y v u Q I rx ry h
 match x,y,h with
 | .int i,.int j,h=>exact B2 pins s σ H _ _ v u Q I rx ry ⟨_,_,rfl,rfl,h⟩
 | .str z,.int n,h=>
  obtain⟨t,rfl⟩:=rx
  obtain⟨t',rfl⟩:=ry
  obtain⟨h0,h1,h2,q⟩:=h
  exact SB.mul (mulOk_of 4096 4096 h2 (by omega) (by omega) (by decide) (by decide)) fun t' k=>⟨.str (Txt.mul z n),H,I.tok k,⟨t',rfl⟩,q⟩
end
section
variable{K:PySem.W.Frag}{H:Hp}{Q:VK}
theorem iQ(x:V):Cs x .non H Q=Q (.bl (decide (x = .non))) H:=propext ⟨fun h=>h.2,fun h=>⟨rfl,h⟩⟩
theorem gw(i:Int):vn [.int i] H Q=(i.natAbs.log2<1920∧Q (.str (toString i)) H):=propext ⟨fun ⟨_,e,q⟩=>by cases e; exact q,fun q=>⟨i,rfl,q⟩⟩
theorem g8(k:Bool):p0 [.bl k] H Q=Q (.int (if k then 1 else 0)) H:=propext ⟨fun h=>by rcases h with ⟨_,e,q⟩ | ⟨_,e,q⟩ <;> cases e; exact q,fun q=>.inr ⟨k,rfl,q⟩⟩
theorem fV(p:Addr):v3 K [.ref p] H Q=∃ ys,((SqL K H p ys∧∀ l,H l=none→Q (.ref l) (upd H l (.tup ys)))∨(SqT K H p ys∧Q (.ref p) H)):=propext ⟨fun ⟨_,ys,e,q⟩=>by cases e; exact⟨ys,q⟩,fun ⟨ys,q⟩=>⟨p,ys,rfl,q⟩⟩
theorem fJ(i j:Int):vg (.int i) (.int j) H Q=(CMul i j∧Q (.int (i * j)) H):=rfl
theorem fO(z:Str)(n:Int):vg (.str z) (.int n) H Q=(0≤n∧n≤4096∧z.length≤4096∧Q (.str (Txt.mul z n)) H):=rfl
theorem iK(a:Addr)(lo hi:Option Int):qP K (.ref a) lo hi H Q=∃ xs,SqL K H a xs∧∀ p,H p=none→Q (.ref p) (upd H p (.lst (dJ xs lo hi))):=propext ⟨fun ⟨_,xs,e,q⟩=>by cases e; exact⟨xs,q⟩,fun ⟨xs,q⟩=>⟨a,xs,rfl,q⟩⟩
theorem mq(g:Int→V)(i:Int):rU g (.int i) H Q=Q (g i) H:=propext ⟨fun ⟨_,e,q⟩=>by cases e; exact q,fun q=>⟨i,rfl,q⟩⟩
end
theorem ff{n:Nat}(h:n≤1000000):n<sizeLine:=by
 have:sizeLine=16777216:=sizeLine_eq
 omega
theorem ao{n:Nat}(h:n≤1000000):n≤sizeLine:=Nat.le_of_lt (ff h)
theorem wJ{α : Type}{f:α→V}{xs:List α}{i:Int}{x:α}(h0:0≤i)(h:xs[i.toNat]? = some x):gf (xs.map f) i=some (f x):=by
 have q:(xs.map f)[i.toNat]? = some (f x):=by rw[List.getElem?_map,h]; rfl
 have q':=bn q
 rwa [show ((i.toNat:Nat):Int)=i by omega]at q'
theorem av{H H':Hp}{p:Addr}{o:HO}(h:upd H p o=H')(hp:H p=none):Same H H':=h ▸ au hp o
theorem aJ{H H':Hp}{p:Addr}{o:HO}(h:upd H p o=H'):H' p=some o:=h ▸ ai
end L2
namespace L2
open PySem PySem.Spec PyProof.Rows
theorem Inv.turnedL{X:Cx}{pins:List (Addr × Obj)}{σ : St}{H:Hp}{s:Shared}{h':Heap}{t':Nat}{ch:List Addr}(I:Inv X pins σ H s)(k:∀ b o,b∉ch→s.heap.get? b=some o→h'.get? b=some o)
  (hf:∀ b∈ch,jm X pins H b):Inv X pins σ H { s with heap:=h',toks:=t' }:=by
 have nit:∀ b u,H b=some u→b∉ch:=fun b u e z=>by rw[(hf b z).1]at e; cases e
 refine I.step (g':=s.gens) (d':=s.drawn) (ch:=ch) (fun b hb=>?_) (fun b o _ _ hc e _=>k b o hc e) (fun b o _ _ hc e _=>⟨o.slots,k b o hc e⟩) (fun _ _ _ _ n=>n)
  (fun b o hc e=>⟨o,k b o hc e⟩) (fun _ _ e=>e) (fun _ _ _ e=>e) (fun b ps e=>⟨#[],by rw[e]; simp⟩) (fun m hm=>?_) (fun b u e=>?_) I.bare
 ·obtain⟨_,f1,_,f3,f4,f5⟩:=hf b hb
  exact⟨f3,f1,f4,f5⟩
 ·obtain⟨o,es,ep,ho,r⟩:=hm
  exact⟨o,es,ep,k _ o (fun z=>(hf _ z).2.1 rfl) ho,r⟩
 ·refine(I.hok b u e).stay (fun c v hc q=>k c v ?_ q) (fun _ q=>q) fun _ _ q=>q
  rcases hc with z | z
  ·rw[z]; exact nit b u e
  ·exact nit c _ z
theorem Inv.turnedLaid{X:Cx}{pins:List (Addr × Obj)}{σ : St}{H:Hp}{s:Shared}{h':Heap}{t':Nat}{ch:List Addr}{a:Addr}{o:HO}(I:Inv X pins σ H s)(k:∀ b o,b∉ch→s.heap.get? b=some o→h'.get? b=some o)
  (hf:∀ b∈ch,jm X pins H b) (hp:s.heap.objs.size≤a) (new:ObjOk X.prog X.w (upd H a o) h' a o):Inv X pins σ (upd H a o) { s with heap:=h',toks:=t' }:=by
 have hn:H a=none:=I.hok.fresh hp
 have nit:∀ b u,H b=some u→b∉ch:=fun b u e z=>by rw[(hf b z).1]at e; cases e
 refine I.step (g':=s.gens) (d':=s.drawn) (ch:=ch) (fun b hb=>?_) (fun b o _ _ hc e _=>k b o hc e) (fun b o _ _ hc e _=>⟨o.slots,k b o hc e⟩) (fun b u _ q n=>?_)
  (fun b o hc e=>⟨o,k b o hc e⟩) (fun b xs q=>?_) (fun b u xs q=>?_) (fun b ps q=>⟨#[],?_⟩) (fun m hm=>?_) (fun b u e=>?_) I.bare
 ·obtain⟨_,f1,_,f3,f4,f5⟩:=hf b hb
  exact⟨f3,f1,f4,f5⟩
 ·rw[aA (Nat.ne_of_lt (Nat.lt_of_lt_of_le (Heap.lt_size q) hp))]; exact n
 ·rw[aA (aZ q hn)]; exact q
 ·rw[aA (aZ q hn)]; exact q
 ·rw[aA (aZ q hn),q]; simp
 ·obtain⟨o,es,ep,ho,r⟩:=hm
  exact⟨o,es,ep,k _ o (fun z=>(hf _ z).2.1 rfl) ho,r⟩
 ·by_cases hb:b=a
  ·subst hb; rw[ai]at e; cases e; exact new
  ·rw[aA hb]at e
   refine(I.hok b u e).stay (fun c v hc q=>k c v ?_ q) (fun c q=>by rw[aA (aZ q hn)]; exact q) fun c xs q=>by rw[aA (aZ q hn)]; exact q
   rcases hc with z | z
   ·rw[z]; exact nit b u e
   ·exact nit c _ z
structure v5 (z TI TO i1 i2:Addr):Prop where
 TIz:TI≠z
 TOz:TO≠z
 i1z:i1≠z
 i2z:i2≠z
 TITO:TI≠TO
 TIi1:TI≠i1
 TIi2:TI≠i2
 TOi1:TO≠i1
 TOi2:TO≠i2
 i12:i1≠i2
theorem FJ(n:Nat):v5 (n+4) (n+2) (n+3) n (n+1):=⟨(show (@Ne Nat (n+2) (n+4):Prop) by omega),(show (@Ne Nat (n+3) (n+4):Prop) by omega),(show (@Ne Nat (n) (n+4):Prop) by omega),(show (@Ne Nat (n+1) (n+4):Prop) by omega),(show (@Ne Nat (n+2) (n+3):Prop) by omega),(show (@Ne Nat (n+2) (n):Prop) by omega),(show (@Ne Nat (n+2) (n+1):Prop) by omega),(show (@Ne Nat (n+3) (n):Prop) by omega),(show (@Ne Nat (n+3) (n+1):Prop) by omega),(show (@Ne Nat (n) (n+1):Prop) by omega)⟩
theorem yW:bootBuiltins "zip" = some (.type "zip"):=by decide +kernel
theorem g0(n m:Addr)(P:Addr→Addr→Prop):(∃ i j,[V.ref n,V.ref m]=[V.ref i,V.ref j]∧P i j)=P n m:=propext ⟨fun ⟨_,_,e,h⟩=>by cases e; exact h,fun h=>⟨n,m,rfl,h⟩⟩
section
variable{X:Cx}
end
section
variable{σ : St}{H:Hp}{Q:VK}
end
end L2
namespace L2
open PySem PySem.Spec PyProof.Rows
section
variable{K:PySem.W.Frag}{a b:Addr}{xs ys:List V}{g:TG}{te:TE}{nT:Nat}{σ : St}{D:Addr}{Q:VK}{H:Hp}
def u5(n i:Nat)(Pv:Nat→List V→Hp→Prop)(ys:List V)(H:Hp):Prop:=∃ m',m'<n - i∧(m'=n - (i+1)∧i+1≤n∧Pv (i+1) ys H)
theorem zw{n i:Nat}{Pv:Nat→List V→Hp→Prop}{ys:List V}{H:Hp}(hi:i<n)(h:Pv (i+1) ys H):u5 n i Pv ys H:=⟨n - (i+1),by omega,rfl,hi,h⟩
theorem w4{n i:Nat}{Pv:Nat→List V→Hp→Prop}{D:Addr}{ys:List V}{y:V}{H:Hp}(hi:i<n)(hlen:ys.length≤i)(hz:n≤sizeLine)(h1:H D=some (.lst ys))(h2:Pv (i+1) (ys++[y]) (upd H D (.lst (ys++[y])))):kI n i Pv D ys y H:=
 ⟨h1,by omega,n - (i+1),by omega,rfl,hi,h2⟩
def p9(n i:Nat)(Pv:Nat→List V→Hp→Prop)(D:Addr)(ys:List V)(tc:TT)(te:TE)(σ : St)(H:Hp):Prop:=
 tc σ H fun b H4=>if b=true then te σ H4 (kI n i Pv D ys) else u5 n i Pv ys H4
theorem gC{n i:Nat}{Pv:Nat→List V→Hp→Prop}{D:Addr}{ys:List V}{tc:TT}{te:TE}{σ : St}{H:Hp}:p9 n i Pv D ys tc te σ H=tc σ H fun b H4=>if b=true then te σ H4 (kI n i Pv D ys) else u5 n i Pv ys H4:=rfl
theorem rl{J:It}{tc:TT}(n:Nat)(Pv:Nat→List V→Hp→Prop)(h0:Pv 0 [] H)(hgo:∀ i ys H,i<n→Pv i ys H→J.go i H)(hst:∀ ys H,Pv n ys H→J.stop n H)
  (hs:∀ i ys H x H',i<n→Pv i ys H→J.yld i H x H'→g x (σ++List.replicate nT none) H' (p9 n i Pv D ys tc te))
  (hd:∀ ys H,Pv n ys H→Q (.ref D) H):ft J g tc te nT σ D Q H:=by
 refine⟨fun i m ys H=>m=n - i∧i≤n∧Pv i ys H,⟨n,by simp,Nat.zero_le _,h0⟩,?_⟩
 rintro i m ys H ⟨rfl,hi,p⟩
 by_cases hlt:i<n
 ·exact .inr ⟨hgo i ys H hlt p,fun x H' y=>hs i ys H x H' hlt p y⟩
 ·have e:i=n:=by omega
  subst e
  exact .inl ⟨hst ys H p,hd ys H p⟩
theorem u_{tc:TT}(Pv:Nat→List V→Hp→Prop)(h0:Pv 0 [] H)(hl:∀ i ys H,i≤xs.length→Pv i ys H→SqL K H a xs)
  (hs:∀ i ys H x,xs[i]? = some x→i<xs.length→Pv i ys H→g x (σ++List.replicate nT none) H (p9 xs.length i Pv D ys tc te))
  (hd:∀ ys H,Pv xs.length ys H→Q (.ref D) H):ft (n9 K a) g tc te nT σ D Q H:=by
 refine rl xs.length Pv h0 (fun i ys H hi p=>⟨xs,xs[i],hl i ys H (Nat.le_of_lt hi) p,by simp[hi]⟩) (fun ys H p=>⟨xs,hl _ ys H (Nat.le_refl _) p,Nat.le_refl _⟩) (fun i ys H x H' hi p yl=>?_) hd
 obtain⟨rfl,y⟩:=yl
 exact hs i ys _ x (y xs (hl i ys _ (Nat.le_of_lt hi) p)) hi p
theorem rM{tc:TT}{lo:Int}{n:Nat}(Pv:Nat→List V→Hp→Prop)(h0:Pv 0 [] H)
  (hs:∀ i ys H,i<n→Pv i ys H→g (.int (lo+i)) (σ++List.replicate nT none) H (p9 n i Pv D ys tc te))
  (hd:∀ ys H,Pv n ys H→Q (.ref D) H):ft (sE lo n) g tc te nT σ D Q H:=by
 refine rl n Pv h0 (fun i ys H hi p=>hi) (fun ys H p=>Nat.le_refl _) (fun i ys H x H' hi p yl=>?_) hd
 obtain⟨rfl,rfl⟩:=yl
 exact hs i ys _ hi p
end
end L2
namespace L2
open PySem PySem.Spec PyProof.Rows
theorem zE(lo hi:Option Int)(n:Nat):Builtin.Str.strSliceIndices lo hi 1 n=(List.range (HT.sIx n n hi - HT.sIx n 0 lo)).map (HT.sIx n 0 lo + ·):=by
 obtain⟨h1,h2,h3⟩:=lh lo hi n
 rw[← sliceRange_one,← h1,← h2]
 cases lo <;> cases hi <;> rfl
theorem jC(x:Str)(lo hi:Option Int):(Txt.slice x lo hi).cps.toList=(x.cps.toList.drop (HT.sIx x.length 0 lo)).take (HT.sIx x.length x.length hi - HT.sIx x.length 0 lo):=by
 have hn:x.cps.toList.length=x.length:=by simp[Str.length]
 have hb:=HT.sIx_le x.length x.length (Nat.le_refl _) hi
 unfold Txt.slice
 rw[zE]
 by_cases h:((1:Int) == 1&&((List.range (HT.sIx x.length x.length hi - HT.sIx x.length 0 lo)).map (HT.sIx x.length 0 lo + ·)).length == x.length)=true
 ·rw[if_pos h]
  simp only[List.length_map,List.length_range,Bool.and_eq_true,beq_iff_eq]at h
  have h2:=h.2
  rcases Nat.eq_zero_or_pos x.length with z | z
  ·have e:x.cps.toList=[]:=List.eq_nil_of_length_eq_zero (by omega)
   rw[e]; simp
  ·have a0:HT.sIx x.length 0 lo=0:=by omega
   rw[a0,List.drop_zero,List.take_of_length_le (by omega)]
 ·rw[if_neg h]
  show ((List.filterMap _ _).toArray).toList=_
  rw[pick_run]
def qI:V→Option Int→Option Int→Hp→VK→Prop:=fun x lo hi H Q=>∃ y,x = .str y∧y.length≤sizeLine∧Q (.str (Txt.slice y lo hi)) H
theorem js{X:Cx}:SlR X qI:=by
 intro pins s σ H x v vl vu lo hi sl Q I rx hs pl pu h
 obtain⟨y,rfl,hz,q⟩:=h
 obtain⟨t,rfl⟩:=rx
 obtain⟨l,hl,el⟩ : ∃ l:Option (Int × Tok),vl=partValue l∧l.map (·.1)=lo:=by
  cases pl with
  | none=>exact⟨none,rfl,rfl⟩
  | int i t=>exact⟨some (i,t),rfl,rfl⟩
 obtain⟨u,hu,eu⟩ : ∃ l:Option (Int × Tok),vu=partValue l∧l.map (·.1)=hi:=by
  cases pu with
  | none=>exact⟨none,rfl,rfl⟩
  | int i t=>exact⟨some (i,t),rfl,rfl⟩
 subst hl hu el eu
 refine⟨"str", _,PySem.F.slot_str_getitem.lookup,typeIs_str _ _ _,wpAny_getItem_str_slice (l:=l) (u:=u) (st:=none) hs rfl (post_val_or_str ⟨Nat.le_trans (Txt.slice_le y _ _) hz,fun t' k=>⟨.str _,H,I.tok k,⟨t',rfl⟩,q⟩⟩)⟩
theorem i4{H:Hp}{Q:VK}(y:Str)(lo hi:Option Int):qI (.str y) lo hi H Q=(y.length≤sizeLine∧Q (.str (Txt.slice y lo hi)) H):=propext ⟨fun ⟨_,e,h⟩=>by cases e; exact h,fun h=>⟨y,rfl,h⟩⟩
end L2
namespace L2
open PySem PySem.Spec PyProof.Rows
set_option genInjectivity false in
set_option genSizeOf false in
structure IK (prog:Program) (w:World) (κ : Type) [DecidableEq κ] where
 is:Heap→κ→Value→Prop
 hash:κ→Int
 draws:κ→Nat
 deep:Nat
 inj:∀ {h:Heap} {v:Value} {x y:κ},is h x v→is h y v→x=y
 keeps:∀ {h h':Heap} {k:κ} {v:Value} {d:Addr} {o:Obj} {es ep},is h k v→h.get? d=some o→o.data = .dict es ep→Heap.SameBut d h h'→is h' k v
 pyHash:∀ {A:Around} {E:Value→Shared→Prop} {s:Shared} {k:κ} {v:Value} {Q:Int→Shared→Prop},A.units+deep<cLine→is s.heap k v→Q (hash k) { s with toks:=s.toks+draws k }→
  wpAny (model prog w) A (PySem.pyHash v) Q E s
 eqBool:∀ {A:Around} {E:Value→Shared→Prop} {s:Shared} {x y:κ} {u v:Value} {Q:Bool→Shared→Prop},A.units+deep<cLine→is s.heap x u→is s.heap y v→Q (decide (x=y)) s→
  wpAny (model prog w) A (PySem.eqBool u v) Q E s
 quiet:∀ {A:Around} {E:Value→Shared→Prop} {s:Shared} {k:κ} {v:Value} {n:Nat} {Q:Bool→Shared→Prop},is s.heap k v→Q true s→wpAny (model prog w) A (eqIsQuiet (n+deep) v) Q E s
section
variable{prog:Program}{w:World}{κ : Type}[DecidableEq κ](K:IK prog w κ)
variable{K}
end
end L2
namespace L2
open PySem PySem.Spec PyProof.Rows
end L2
namespace L2
open PySem PySem.Spec PyProof.Rows
abbrev Cg:=Int × List (Option Int)
section
variable{P:Program}{w:World}{H:Hp}
end
section
variable{X:Cx}{pins:List (Addr × Obj)}{σ : St}{H:Hp}{s:Shared}{a b:Addr}{k:Cg}{kvs:List (Cg × V)}
theorem Paired.snoc{α β : Type}{F:α→β→Prop}{x:α}{y:β}(h:F x y):∀ {l:List α} {m:List β},Paired F l m→Paired F (l++[x]) (m++[y])
 | _,_,.nil=>.cons h .nil
 | _,_,.cons r t=>.cons r (Paired.snoc h t)
end
end L2
namespace L2
open PySem PySem.Spec PyProof.Rows PySem.SeqAt
section
variable{X:Cx}
def Da:rK:=fun o i v H Q=>∃ a kvs k,o = .ref a∧i=kV k∧H a=some (.dK kvs)∧kvs.length<sizeLine∧Q (upd H a (.dK (gh kvs k v)))
theorem C5{n:Nat}(hr:Room n X.A):PSet X Da:=by
 intro pins s σ H o i v ov iv u Q I ro ri rv h
 obtain⟨a,kvs,k,rfl,rfl,e,hl,q⟩:=h
 cases ro
 exact vw (by have:=hr.un; omega) I (DPut.k e hl) ri rv fun s' I'=>⟨_,I',q⟩
end
section
variable{K:PySem.W.Frag}{H:Hp}{Q:VK}
theorem EqN.ints{n:Nat}{a c:Addr}{ss ts:List Int}(h1:SqL K H a (ss.map V.int))(h2:SqL K H c (ts.map V.int)):EqN K H (n+1) (.ref a) (.ref c) (decide (ss=ts)):=by
 refine .inr ⟨a,c,_,_,rfl,rfl,.inl ⟨h1,h2⟩,?_⟩
 by_cases hl:ss.length=ts.length
 ·refine .inl ⟨fun i=>ss.getD i 0 == ts.getD i 0,by simp[hl],fun i x y e1 e2=>?_,?_⟩
  ·rw[List.getElem?_map]at e1 e2
   cases q1:ss[i]? with
   | none=>rw[q1]at e1; cases e1
   | some u=>
    cases q2:ts[i]? with
    | none=>rw[q2]at e2; cases e2
    | some v=>
     rw[q1]at e1; rw[q2]at e2
     cases e1; cases e2
     dsimp only
     rw[List.getD_eq_getElem?_getD,List.getD_eq_getElem?_getD,q1,q2]
     exact EqN.flat rfl rfl
  ·rw[List.length_map]
   by_cases e:ss=ts
   ·subst e
    rw[decide_eq_true rfl]
    symm
    rw[List.all_eq_true]
    intro i _
    simp
   ·rw[decide_eq_false e]
    symm
    rw[List.all_eq_false]
    have:∃ i:Nat,ss[i]? ≠ ts[i]?:=by
     refine Classical.byContradiction fun hn=>e (List.ext_getElem? fun i=>?_)
     exact Classical.byContradiction fun h=>hn ⟨i,h⟩
    obtain⟨i,hi⟩:=this
    have hlt:i<ss.length:=by
     refine Classical.byContradiction fun hn=>hi ?_
     rw[List.getElem?_eq_none (by omega),List.getElem?_eq_none (by omega)]
    refine⟨i,List.mem_range.mpr hlt,?_⟩
    rw[List.getD_eq_getElem?_getD,List.getD_eq_getElem?_getD,List.getElem?_eq_getElem hlt,List.getElem?_eq_getElem (by omega)]
    rw[List.getElem?_eq_getElem hlt,List.getElem?_eq_getElem (by omega)]at hi
    simpa using hi
 ·have e:ss≠ts:=fun e=>hl (by rw[e])
  rw[decide_eq_false e]
  exact .inr ⟨h1,h2,by simpa using hl,rfl⟩
end
section
variable{X:Cx}
end
end L2
namespace L2
open PySem PySem.Spec PyProof.Rows PySem.SeqAt
theorem Am{X:Cx}:MtR X "list.pop" uY:=Cc
section
variable{K:PySem.W.Frag}{H:Hp}{Q:VK}
theorem jb(p:Addr):uY (.ref p) [] H Q=∃ xs y,H p=some (.lst xs)∧xs[xs.length - 1]? = some y∧Q y (upd H p (.lst xs.dropLast)):=
 propext ⟨fun ⟨_,xs,y,e1,_,q⟩=>by cases e1; exact⟨xs,y,q⟩,fun ⟨xs,y,q⟩=>⟨p,xs,y,rfl,rfl,q⟩⟩
end
theorem sq{X:Cx}(K:PySem.W.Frag){o:Expr}{to:TE}{name:Str}{apos cpos:Pos}{T id:String}{r:V→List V→Hp→VK→Prop}(pa:PlainAttrs T)(slot:Slot T name id)(hty:typeOf (.builtin id)=pure (.type "method_descriptor")) (hm:MtR X id r) (ho:PE X o to)
  (hbase:attributeBase o name X.env (eval o X.env)=eval o X.env:=by rfl) (hline:(apos.endLine == cpos.line)=true:=by rfl) (hK:X.K=K:=by rfl):PE X (.Call (.Attribute o name apos) [] [] cpos) (ul K T r to):=hK ▸ BN pa slot hty hm ho hbase hline
end L2
namespace L2
open PySem PySem.Spec PyProof.Rows PySem.SeqAt
theorem sB:∀ (xs:List V) (us:List Value),xs.length=us.length→(∀ (j:Nat) x u,xs[j]? = some x→us[j]? = some u→RelV x u)→Vals xs us
 | [],[],_,_=>.nil
 | [],u::us,hl,_=>by simp at hl
 | x::xs,[],hl,_=>by simp at hl
 | x::xs,u::us,hl,h=>.cons (h 0 x u rfl rfl) (sB xs us (by simpa using hl) fun j a b e1 e2=>h (j+1) a b e1 e2)
section
variable{X:Cx}
end
section
variable{X:Cx}
end
section
variable{prog:Program}{w:World}{K:Type}[DecidableEq K]{knd:KeyKind prog w K}{A:Around}{E:Value→Shared→Prop}{s:Shared}
end
section
variable{X:Cx}
theorem n0{α β : Type}{F:α→β→Prop}:∀ {l:List α} {m:List β} {j:Nat} {a:α} {b:β},Paired F l m→l[j]? = some a→m[j]? = some b→F a b
 | _,_,0,_,_,.cons h _,e1,e2=>by
  cases e1; cases e2; exact h
 | _,_,j+1,_,_,.cons _ t,e1,e2=>n0 (j:=j) t e1 e2
 | _,_,0,_,_,.nil,e1,_=>by cases e1
 | _,_,_+1,_,_,.nil,e1,_=>by cases e1
end
end L2
namespace L2
open PySem PySem.Spec PyProof.Rows PySem.SeqAt
def Dj(xs:Array Nat):Prop:=∀ (a b:Nat) (ha:a<xs.size) (hb:b<xs.size),a<b→xs[a]<xs[b]
structure uP (L:Bool) (t:SetTable):Prop where
 led:t.led=L
 rise:Dj t.place
end L2
namespace L2
open PySem PySem.Spec PyProof.Rows PySem.SeqAt
section
variable{prog:Program}{w:World}{K:Type}[DecidableEq K]{knd:KeyKind prog w K}{A:Around}{E:Value→Shared→Prop}{s:Shared}{G:SetTable→Prop}
def Dm(knd:KeyKind prog w K)(l:List (Int × Value)):Prop:=l.Pairwise fun e e'=>∀ k,knd.is k e.2=true→knd.is k e'.2=false
structure BW (knd:KeyKind prog w K) (G:SetTable→Prop) (o:Obj) (es:Array (Int × Value)) (ep:Nat) (t:SetTable) (S:K→Bool) (n:Nat):Prop where
 ex:o.ExactSet
 dat:o.data = .set es ep t
 el:ElemsOf knd es.toList
 mem:∀ k,S k=true ↔ ∃ e∈es.toList,knd.is k e.2=true
 few:es.size<scanBound
 fit:t.fits es.size=true
 num:es.size=n
 good:G t
 apart:Dm knd es.toList
theorem stored{h:Heap}{a:Addr}{o:Obj}{es:Array (Int × Value)}{ep:Nat}{t:SetTable}{S:K→Bool}{n:Nat}{es':Array (Int × Value)}{t':SetTable}{S':K→Bool}{n':Nat}(ho:h.get? a=some o)(T:BW knd G o es ep t S n)
  (T':∀ o',o'.ExactSet→o'.data = .set es' (ep+1) t'→BW knd G o' es' (ep+1) t' S' n'):∃ o',(h.update a (Obj.putSet es' t')).get? a=some o'∧BW knd G o' es' (ep+1) t' S' n':=by
 have hp:=putSet_of es' t' T.dat
 have hg:=Heap.get?_update_self (Obj.putSet es' t') ho (by rw[hp]; rfl)
 rw[hp]at hg
 exact⟨_,hg,T' _ T.ex rfl⟩
end
end L2
namespace L2
open PySem PySem.Spec PyProof.Rows PySem.SeqAt
section
variable{prog:Program}{w:World}{A:Around}{R:Result→Shared→Prop}{I:Addr}{fp wr:List Addr}{Gm:Array GenState→Array GenState→Prop}{n:Nat}{P:Nat→Value→Prop}{St:Nat→Shared→Prop}{L:Bool}
end
section
variable{prog:Program}{w:World}{A:Around}{E:Value→Shared→Prop}{s:Shared}
end
end L2
namespace L2
open PySem PySem.Spec PyProof.Rows PySem.SeqAt
section
variable{X:Cx}
end
end L2
namespace L2
open PySem PySem.Spec PyProof.Rows PySem.SeqAt
section
variable{M:Model}{A:Around}{E:Value→Shared→Prop}
end
end L2
namespace L2
open PySem PySem.Spec PyProof.Rows PySem.SeqAt
section
variable{prog:Program}{w:World}{A:Around}{E:Value→Shared→Prop}{s:Shared}
end
end L2
namespace L2
open PySem PySem.Spec PyProof.Rows PySem.SeqAt
section
variable{prog:Program}{w:World}{A:Around}{E:Value→Shared→Prop}{s:Shared}
end
end L2
namespace L2
open PySem PySem.Spec PyProof.Rows PySem.SeqAt
section
variable{prog:Program}{w:World}{A:Around}{E:Value→Shared→Prop}{s:Shared}
end
end L2
namespace L2
open PySem PySem.Spec PyProof.Rows PySem.SeqAt
section
variable{prog:Program}{w:World}{A:Around}{E:Value→Shared→Prop}{s:Shared}
end
end L2
namespace L2
open PySem PySem.Spec PyProof.Rows PySem.SeqAt
section
variable{prog:Program}{w:World}{A:Around}{E:Value→Shared→Prop}{s:Shared}
end
end L2
namespace L2
open PySem PySem.Spec PyProof.Rows PySem.SeqAt
section
variable{prog:Program}{w:World}{A:Around}{E:Value→Shared→Prop}{s:Shared}
end
section
variable{X:Cx}
end
end L2
namespace L2
open PySem PySem.Spec PyProof PyProof.Rows
section
variable{X:Cx}
end
end L2
namespace L2
open PySem PySem.Spec PyProof PyProof.Rows
inductive Ents (w:World):List DictEntry→List (Str × V)→Prop
 | nil:Ents w [] []
 | cons {x:Str} {t:Tok} {y:V} {v:Value} {es:List DictEntry} {kvs:List (Str × V)}:RelV y v→Ents w es kvs→Ents w (⟨PyData.keyHash w.params x,.str x t,v⟩::es) ((x,y)::kvs)
theorem Ents.vs{P:Program}{w:World}{es:List DictEntry}{kvs:List (Str × V)}(h:Ents w es kvs):∃ vs:List (Str × Value),KV kvs vs∧PySem.Pairs (PySem.strKind P w) es vs∧vs.map (·.1)=kvs.map (·.1)∧∀ e∈es,∃ k,(PySem.strKind P w).is k e.key=true∧e.hash=(PySem.strKind P w).hash k:=by
 induction h with
 | nil=>exact⟨[],.nil,.nil,rfl,fun _ h=>nomatch h⟩
 | @cons x t y v es kvs r _ ih=>
  obtain⟨vs,h1,h2,h3,h4⟩:=ih
  have hx:(PySem.strKind P w).is x (.str x t)=true:=by show Value.isStrOf x (.str x t)=true; simp[Value.isStrOf]
  refine⟨(x,v)::vs,.cons ⟨rfl,r⟩ h1,.cons hx rfl h2,by rw[List.map_cons,List.map_cons,h3],fun e he=>?_⟩
  rcases List.mem_cons.mp he with rfl | he
  ·exact⟨x,hx,rfl⟩
  ·exact h4 e he
structure ModD (w:World) (K:PySem.W.Frag) (d:Addr) (kvs:List (Str × V)):Prop where
 low:(d == sysModules)=false
 nd:(kvs.map (·.1)).Nodup
 at':∃ (o:Obj) (es:List DictEntry) (ep:Nat),K.lookup d=some o∧o.ExactDict∧o.data = .dict es.toArray ep∧Ents w es kvs
section
variable{X:Cx}{pins:List (Addr × Obj)}{σ : St}{H:Hp}{s:Shared}{d:Addr}{kvs:List (Str × V)}
theorem ModD.dict(h:ModD X.w X.K d kvs)(I:Inv X pins σ H s):∃ vs:List (Str × Value),KV kvs vs∧s.heap.DictOf (PySem.strKind X.prog X.w) d vs∧∃ ob,s.heap.get? d=some ob∧ob.dict=none:=by
 obtain⟨o,es,ep,h1,h2,h3,h4⟩:=h.at'
 obtain⟨vs,r1,r2,r3,r4⟩:=h4.vs (P:=X.prog)
 have e:=I.kIn d o h1
 exact⟨vs,r1,⟨o,es.toArray,ep,e,h2,h3,fun x hx=>r4 x (by simpa using hx),by simpa using r2,by rw[r3]; exact h.nd⟩,o,e,h2.2.1⟩
theorem q9{P:Program}{w:World}{k:Str}{u:Value}(r:RelV (.str k) u):(PySem.strKind P w).is k u=true:=by
 obtain⟨t,rfl⟩:=r
 show Value.isStrOf k (.str k t)=true
 simp[Value.isStrOf]
end
section
variable{X:Cx}
def EB(w:World)(K:PySem.W.Frag):R2:=fun x y H Q=>∃ d kvs k z,x = .ref d∧y = .str k∧ModD w K d kvs∧dv kvs k=some z∧Q z H
theorem Bv(w:World)(K:PySem.W.Frag)(hw:X.w=w:=by rfl)(hK:X.K=K:=by rfl):IxR X (EB w K):=by
 subst hw hK
 intro value slice pins s σ H x y v u Q I rx ry h hs
 obtain⟨d,kvs,k,z,rfl,rfl,m,l,q⟩:=h
 cases rx
 obtain⟨vs,rel,dd,_⟩:=m.dict I
 obtain⟨w',hw,rw'⟩:=RelO.some_of (v:=z) (o:=valueAt vs k) (by rw[← l]; exact rel.val k)
 have hl:typeLookup (.type "dict") "__getitem__" = pure (some (.builtin "dict.__getitem__")):=PySem.F.slot_dict_getitem.lookup
 exact subscriptTail_builtinR (x:=w') dd.typeIs hl (wpAny_getItem_of (q9 ry) dd.mapOf hw ⟨rfl,z,H,I.tok _,rw',q⟩) hs
theorem RelO.isSome{o:Option V}{p:Option Value}(h:RelO o p):p.isSome=o.isSome:=by
 cases o <;> cases p <;> first | rfl | exact h.elim
def AJ(w:World)(K:PySem.W.Frag):R2:=fun x y H Q=>∃ d kvs k,y = .ref d∧x = .str k∧ModD w K d kvs∧Q (.bl (!(dv kvs k).isSome)) H
theorem wC(w:World)(K:PySem.W.Frag)(hw:X.w=w:=by rfl)(hK:X.K=K:=by rfl):OpR X (compareOp .NotIn) (AJ w K):=by
 subst hw hK
 intro pins s σ H x y v u Q I rx ry h
 obtain⟨d,kvs,k,rfl,rfl,m,q⟩:=h
 cases ry
 obtain⟨vs,rel,dd,_⟩:=m.dict I
 refine wpAny_notIn_of (q9 rx) m.low dd.mapOf ⟨.bl _,H,I.tok _,?_,q⟩
 exact congrArg (fun b=>Value.bool !b) (rel.val k).isSome
def Dh(w:World)(K:PySem.W.Frag):V→List V→Hp→VK→Prop:=fun x xs H Q=>∃ d kvs k z,x = .ref d∧xs=[.str k,z]∧ModD w K d kvs∧Q ((dv kvs k).getD z) H
theorem AE(w:World)(K:PySem.W.Frag)(hw:X.w=w:=by rfl)(hK:X.K=K:=by rfl):MtR X "dict.get" (Dh w K):=by
 subst hw hK
 intro pins s σ H x vs v us Q I rx rv h
 obtain⟨d,kvs,k,z,rfl,rfl,m,q⟩:=h
 cases rx
 obtain⟨u,r,rfl,ru,rr⟩:=pU rv
 obtain⟨vs,rel,dd,_⟩:=m.dict I
 refine call_meetsIn PySem.F.slot_dict_get dd.typeIs PySem.F.entry_dict_get (PySem.F.args_dict_get_3 _ _ _) (meets_dict_get_default (PySem.strKind X.prog X.w) d (q9 ru) m.low r) ⟨_,dd.mapOf,_,H,I.tok _,?_,q⟩
 exact(rel.val k).getD rr
def B3(w:World)(K:PySem.W.Frag)(r:V→List V→Hp→VK→Prop)(to:TE)(t:TA):TE:=fun σ H Q=>to σ H fun x H1=>(∃ d kvs,x = .ref d∧ModD w K d kvs)∧t σ H1 fun xs H2=>r x xs H2 Q
theorem Bh{o e:Expr}{es:List Expr}{to:TE}{t:TA}{name:Str}{apos cpos:Pos}{id:String}{r:V→List V→Hp→VK→Prop}(w:World)(K:PySem.W.Frag)(pa:PlainAttrs "dict") (slot:Slot "dict" name id) (hty:typeOf (.builtin id)=pure (.type "method_descriptor")) (hm:MtR X id r) (ho:PE X o to) (ha:PA X (e::es) t)
  (hbase:attributeBase o name X.env (eval o X.env)=eval o X.env:=by rfl)
  (hfew:((backTo cpos (starEach (e::es) X.env)).all (fun x=>!x.1)&&(backToKw cpos (keywordEach [] X.env)).all (fun x=>x.1.isSome)&&decide ((e::es).length+([]:List Keyword).length+(if ([]:List Keyword).isEmpty then 0 else 1)<30))=true:=by rfl)
  (hline:(apos.endLine == cpos.line)=true:=by rfl) (hs:starEach (e::es) X.env=(false,eval e X.env)::starEach es X.env:=by rfl) (hplain:(backTo cpos (starEach es X.env)).any (·.1)=false:=by rfl) (hw:X.w=w:=by rfl) (hK:X.K=K:=by rfl) :
  PE X (.Call (.Attribute o name apos) (e::es) [] cpos) (B3 w K r to t):=by
 subst hw hK
 intro pins s σ H Q I h
 refine wpAny_Call_method_late hbase hfew hline rfl (bo (ho pins s σ H _ I h) fun v s1 ⟨x,H1,I1,r1,ty,q1⟩=>?_)
 obtain⟨d,kvs,rfl,m⟩:=ty
 have e1:v = .ref d:=r1
 subst e1
 obtain⟨vs,rel,dd,ob,eo,en⟩:=m.dict I1
 refine⟨"dict", id,pa,slot,hty,dd.typeIs,fun a ea=>⟨ob,by cases ea; exact eo,en⟩,?_⟩
 have hA:=ha cpos pins s1 σ H1 _ I1 q1
 rw[hs]at hA ⊢
 refine Calls.callWith_builtin (by show (false||(backTo cpos (starEach es X.env)).any (·.1))=false; rw[hplain] <;> rfl) (Calls.evalArgs_plain ?_)
 exact bo hA fun us s2 ⟨vs,H2,I2,r2,q2⟩=>hm pins s2 σ H2 _ vs _ us Q I2 r1 r2 q2
end
theorem iU{w:World}{K:PySem.W.Frag}{r:V→List V→Hp→VK→Prop}{to:TE}{t:TA}{σ : St}{H:Hp}{Q:VK}:B3 w K r to t σ H Q=to σ H fun x H1=>(∃ d kvs,x = .ref d∧ModD w K d kvs)∧t σ H1 fun xs H2=>r x xs H2 Q:=rfl
end L2
namespace L2
open PySem PySem.Spec PyProof PyProof.Rows
section
variable{prog:Program}{w:World}{A:Around}{E:Value→Shared→Prop}{s:Shared}
def TSt(i t:Addr)(zs:Array Value)(k:Nat)(h:Heap):Prop:=h.IsTupleIter i t k∧h.IsTuple t zs
theorem TSt.ext{i t b:Addr}{zs:Array Value}{k:Nat}{h h':Heap}(x:TSt i t zs k h)(hs:Heap.ExtBut b h h')(n1:i≠b)(n2:t≠b):TSt i t zs k h':=⟨x.1.extBut hs n1,x.2.extBut hs n2⟩
theorem mI{i t:Addr}{k:Nat}{zs:Array Value}{v:Value}{Q:Value→Shared→Prop}(st:TSt i t zs k s.heap)(nit:t≠i)(hv:zs[k]? = some v)
  (q:∀ h',TSt i t zs (k+1) h'→Heap.SameBut i s.heap h'→Q v { s with heap:=h' }):wpAny (model prog w) A (Builtin.SmallTypes.nextOf (.ref i)) Q E s:=by
 obtain⟨hi,ht⟩:=id st
 obtain⟨ob,e1,e2,e3⟩:=id hi
 obtain⟨ot,f1,_,m,f2⟩:=id ht
 unfold Builtin.SmallTypes.nextOf
 refine wpAny_bind (wpAny_callSpecial?_slot (name:=Str.ofString "__next__") hi.typeIs PySem.F.slot_tuple_iterator_next (wpAny_call_entry PySem.F.slot_tuple_iterator_next hi.typeIs PySem.F.entry_tuple_iterator_next ?_ (PySem.F.args_tuple_iterator_next_1 _)))
 show wpAny _ _ (field (.ref i) 0 >>= _) _ _ s
 refine wpAny_bind (wpAny_field e1 e3 (x:=.ref t) rfl ?_)
 show wpAny _ _ (if (Value.ref t == Value.none)=true then _ else _) _ _ s
 have hno:¬ ((Value.ref t == Value.none)=true):=Bool.false_ne_true
 rw[if_neg hno]
 show wpAny _ _ (field (.ref i) 1 >>= _) _ _ s
 refine wpAny_bind (wpAny_field e1 e3 (x:=.int k 0) rfl ?_)
 show wpAny _ _ (seqItems? (.ref t) >>= _) _ _ s
 refine wpAny_bind (wpAny_seqItems f1 f2 ?_)
 simp only[Int.toNat_natCast,hv]
 refine wpAny_bind (wpAny_setField e1 e3 (by simp) (wpAny_pure ⟨v,rfl,wpAny_pure (q _ ⟨?_,?_⟩ (Heap.SameBut.update ..))⟩))
 ·exact⟨_,Heap.get?_update_self _ e1 (Obj.isFreed_of_fields (Obj.data_mapFields e3 _)),(Obj.cls_mapFields ..).trans e2,by rw[Obj.data_mapFields e3]; simp[rawInt]⟩
 ·exact ht.extBut (Heap.SameBut.update ..).extBut nit
theorem sF{i t:Addr}{k:Nat}{zs:Array Value}{Q:Value→Shared→Prop}(hh:A.handled=none)(st:TSt i t zs k s.heap)(hv:zs[k]? = none)
  (q:∀ h' e,Heap.ExtBut i s.heap h'→(∃ o,h'.get? e=some o∧o.cls = .type "StopIteration")→E (.ref e) { s with heap:=h' }):wpAny (model prog w) A (Builtin.SmallTypes.nextOf (.ref i)) Q E s:=by
 obtain⟨hi,ht⟩:=id st
 obtain⟨ob,e1,e2,e3⟩:=id hi
 obtain⟨ot,f1,_,m,f2⟩:=id ht
 unfold Builtin.SmallTypes.nextOf
 refine wpAny_bind (wpAny_callSpecial?_slot (name:=Str.ofString "__next__") hi.typeIs PySem.F.slot_tuple_iterator_next (wpAny_call_entry PySem.F.slot_tuple_iterator_next hi.typeIs PySem.F.entry_tuple_iterator_next ?_ (PySem.F.args_tuple_iterator_next_1 _)))
 show wpAny _ _ (field (.ref i) 0 >>= _) _ _ s
 refine wpAny_bind (wpAny_field e1 e3 (x:=.ref t) rfl ?_)
 show wpAny _ _ (if (Value.ref t == Value.none)=true then _ else _) _ _ s
 have hno:¬ ((Value.ref t == Value.none)=true):=Bool.false_ne_true
 rw[if_neg hno]
 show wpAny _ _ (field (.ref i) 1 >>= _) _ _ s
 refine wpAny_bind (wpAny_field e1 e3 (x:=.int k 0) rfl ?_)
 show wpAny _ _ (seqItems? (.ref t) >>= _) _ _ s
 refine wpAny_bind (wpAny_seqItems f1 f2 ?_)
 simp only[Int.toNat_natCast,hv]
 refine wpAny_bind (wpAny_rule (wpAny_bind (wpAny_setField e1 e3 (by simp) ?_)))
 show wpAny _ _ (newExc (.type "StopIteration") [] >>= fun z=>_) _ _ _
 refine wpAny_bind ?_
 simp only[newTuple,newExc]
 refine wpAny_bind (wpAny_newObj_type (hd:=by size_fits) ?_)
 refine wpAny_bind (m:=firstArgMember _ _) (wpAny_of_eq (a:=Value.none) (by first | (simp only[firstArgMember]; rfl) | rfl) ?_)
 refine wpAny_newObj_type (hd:=by size_fits) ?_
 simp only[raiseNew]
 refine wpAny_bind (wpAny_handled ?_)
 have hn:A.in1.handled=none:=hh
 first | rw[hn] | rw[hh]
 refine wpAny_bind (wpAny_pure (wpAny_throw (q _ _ (((Heap.SameBut.update ..).extBut.push _).push _) ⟨_,Heap.get?_push_size _ rfl,rfl⟩)))
variable{z TI TO i1 i2 t1 t2:Addr}{xs ys:Array Value}{k1 k2:Nat}{a b:Value}
theorem vI{x y:Value}{Q:Value→Shared→Prop}(D:ZipApart z TI TO i1 i2 t1 t2)(gz:IsZip s.heap z TI TO .none)(gI:IsPair s.heap TI (.ref i1) (.ref i2))(gO:IsPair s.heap TO a b)
  (g1:TSt i1 t1 xs k1 s.heap) (g2:TSt i2 t2 ys k2 s.heap) (hx:xs[k1]? = some x) (hy:ys[k2]? = some y)
  (q:∀ h',IsZip h' z TI TO (rawInt s.heap.objs.size)→IsPair h' TO x y→TSt i1 t1 xs (k1+1) h'→TSt i2 t2 ys (k2+1) h'→IsPair h' s.heap.objs.size x y→h'.objs.size=s.heap.objs.size+1→
   (∀ c o,c≠z→c≠TO→c≠i1→c≠i2→s.heap.get? c=some o→h'.get? c=some o)→Q (.ref s.heap.objs.size) { s with heap:=h' }) :
  wpAny (model prog w) A (Builtin.«zip.__next__» ⟨[.ref z],[]⟩) (fun fin s'=>∃ v,fin = .done (.ret v)∧Q v s') E s:=by
 show wpAny _ _ (field (.ref z) 2 >>= fun _=>_) _ _ _
 refine wpAny_bind (wpAny_field gz rfl (x:=.bool false) rfl ?_)
 show wpAny _ _ (field (.ref z) 3 >>= fun _=>_) _ _ _
 refine wpAny_bind (wpAny_field gz rfl (x:=.ref TI) rfl (wpAny_bind (wpAny_seqItems gI rfl ?_)))
 show wpAny _ _ (Builtin.SmallTypes.ownedTupleIsFree (.ref z) >>= fun _=>_) _ _ _
 refine wpAny_bind ?_
 unfold Builtin.SmallTypes.ownedTupleIsFree
 refine wpAny_bind (wpAny_field gz rfl (x:=.none) rfl (wpAny_pure ?_))
 simp only[if_true]
 refine wpAny_bind (wpAny_rule (wpAny_bind (wpAny_field gz rfl (x:=.ref TO) rfl (wpAny_bind (wpAny_setField_rec gz (by simp) fun ha z1 m1=>?_)))))
 replace z1:IsZip ha z TI TO .ellipsis:=z1
 refine wpAny_bind ?_
 simp only[List.zipIdx_nil,List.zipIdx_cons,List.forIn_nil,List.forIn_cons]
 refine wpAny_bind (wpAny_bind (wpAny_onRaise ?_))
 show wpAny _ _ (Builtin.SmallTypes.nextOf (.ref i1) >>= fun _=>_) _ _ _
 refine wpAny_bind (mI (g1.ext m1.extBut D.i1z D.l1z) D.l1i1 hx fun hb r1 m2=>wpAny_pure ?_)
 have o2:IsPair hb TO a b:=m2.extBut _ _ D.TOi1 (m1.extBut _ _ D.TOz gO)
 refine wpAny_bind (wpAny_seqItems o2 rfl (wpAny_bind (wpAny_updateSeq_pair o2 fun hc o3 m3=>wpAny_bind (wpAny_letGo (wpAny_pure ?_)))))
 replace o3:IsPair hc TO x b:=o3
 refine wpAny_bind (wpAny_bind (wpAny_onRaise ?_))
 show wpAny _ _ (Builtin.SmallTypes.nextOf (.ref i2) >>= fun _=>_) _ _ _
 refine wpAny_bind (mI (((g2.ext m1.extBut D.i2z D.l2z).ext m2.extBut D.i12.symm D.l2i1).ext m3.extBut D.TOi2.symm D.l2TO) D.l2i2 hy fun hd r2 m4=>wpAny_pure ?_)
 have o4:IsPair hd TO x b:=m4.extBut _ _ D.TOi2 o3
 refine wpAny_bind (wpAny_seqItems o4 rfl (wpAny_bind (wpAny_updateSeq_pair o4 fun he o5 m5=>wpAny_bind (wpAny_letGo (wpAny_pure (wpAny_pure ?_))))))
 replace o5:IsPair he TO x y:=o5
 refine wpAny_bind (wpAny_seqItems o5 rfl (wpAny_bind (wpAny_newTuple ?_)))
 have hsz:he.objs.size=s.heap.objs.size:=by rw[m5.1,m4.1,m3.1,m2.1,m1.1]
 have z5:IsZip he z TI TO .ellipsis:=m5.extBut _ _ D.TOz.symm (m4.extBut _ _ D.i2z.symm (m3.extBut _ _ D.TOz.symm (m2.extBut _ _ D.i1z.symm z1)))
 have kp:∀ c o,c≠z→c≠TO→c≠i1→c≠i2→s.heap.get? c=some o→he.get? c=some o:=fun c o c1 c2 c3 c4 e=>m5.extBut _ _ c2 (m4.extBut _ _ c4 (m3.extBut _ _ c2 (m2.extBut _ _ c3 (m1.extBut _ _ c1 e))))
 have r1':TSt i1 t1 xs (k1+1) he:=((r1.ext m3.extBut D.TOi1.symm D.l1TO).ext m4.extBut D.i12 D.l1i2).ext m5.extBut D.TOi1.symm D.l1TO
 have r2':TSt i2 t2 ys (k2+1) he:=r2.ext m5.extBut D.TOi2.symm D.l2TO
 have zlt:z<he.objs.size:=Heap.lt_size z5
 show wpAny _ _ (Builtin.SmallTypes.ownedTupleHandOut (.ref z) (.ref he.objs.size) >>= fun _=>_) _ _ _
 refine wpAny_bind ?_
 unfold Builtin.SmallTypes.ownedTupleHandOut
 have z6:IsZip (he.push { cls:=.type "tuple", data:=.seq #[x,y] }) z TI TO .ellipsis:=Heap.get?_push_of_some _ z5
 refine wpAny_bind (wpAny_setField_rec z6 (by simp) fun hf z7 m7=>?_)
 replace z7:IsZip hf z TI TO (rawInt he.objs.size):=z7
 refine wpAny_setField_rec z7 (by simp) fun hg z8 m8=>?_
 replace z8:IsZip hg z TI TO (rawInt he.objs.size):=z8
 have up:∀ c o,c≠z→he.get? c=some o→hg.get? c=some o:=fun c o c1 e=>m8.extBut _ _ c1 (m7.extBut _ _ c1 (Heap.get?_push_of_some _ e))
 have t8:IsPair hg he.objs.size x y:=m8.extBut _ _ (Nat.ne_of_gt zlt) (m7.extBut _ _ (Nat.ne_of_gt zlt) (Heap.get?_push_size _ rfl))
 have s8:hg.objs.size=he.objs.size+1:=by rw[m8.1,m7.1,Heap.size_push]
 rw[hsz]at z8 t8 s8
 refine wpAny_pure ⟨_,rfl,?_⟩
 show Q (.ref he.objs.size) _
 rw[hsz]
 have ex:Heap.ExtBut z he hg:=fun c o c1 e=>up c o c1 e
 exact q hg z8 (up _ _ D.TOz o5) (r1'.ext ex D.i1z D.l1z) (r2'.ext ex D.i2z D.l2z) t8 s8 fun c o c1 c2 c3 c4 e=>up c o c1 (kp c o c1 c2 c3 c4 e)
theorem xw{Q:Fin→Shared→Prop}(hh:A.handled=none)(D:ZipApart z TI TO i1 i2 t1 t2)(gz:IsZip s.heap z TI TO .none)(gI:IsPair s.heap TI (.ref i1) (.ref i2))(gO:IsPair s.heap TO a b)
  (g1:TSt i1 t1 xs k1 s.heap) (g2:TSt i2 t2 ys k2 s.heap) (hend:xs[k1]? = none∨ys[k2]? = none)
  (q:∀ h' e,(∀ c o,c≠z→c≠TO→c≠i1→c≠i2→s.heap.get? c=some o→h'.get? c=some o)→(∃ o,h'.get? e=some o∧o.cls = .type "StopIteration")→E (.ref e) { s with heap:=h' }) :
  wpAny (model prog w) A (Builtin.«zip.__next__» ⟨[.ref z],[]⟩) Q E s:=by
 show wpAny _ _ (field (.ref z) 2 >>= fun _=>_) _ _ _
 refine wpAny_bind (wpAny_field gz rfl (x:=.bool false) rfl ?_)
 show wpAny _ _ (field (.ref z) 3 >>= fun _=>_) _ _ _
 refine wpAny_bind (wpAny_field gz rfl (x:=.ref TI) rfl (wpAny_bind (wpAny_seqItems gI rfl ?_)))
 show wpAny _ _ (Builtin.SmallTypes.ownedTupleIsFree (.ref z) >>= fun _=>_) _ _ _
 refine wpAny_bind ?_
 unfold Builtin.SmallTypes.ownedTupleIsFree
 refine wpAny_bind (wpAny_field gz rfl (x:=.none) rfl (wpAny_pure ?_))
 simp only[if_true]
 refine wpAny_bind (wpAny_rule (wpAny_bind (wpAny_field gz rfl (x:=.ref TO) rfl (wpAny_bind (wpAny_setField_rec gz (by simp) fun ha z1 m1=>?_)))))
 replace z1:IsZip ha z TI TO .ellipsis:=z1
 refine wpAny_bind ?_
 simp only[List.zipIdx_nil,List.zipIdx_cons,List.forIn_nil,List.forIn_cons]
 refine wpAny_bind (wpAny_bind (wpAny_onRaise ?_))
 show wpAny _ _ (Builtin.SmallTypes.nextOf (.ref i1) >>= fun _=>_) _ _ _
 have stop:∀ {h':Heap} {e:Addr},IsZip h' z TI TO .ellipsis→(∃ o,h'.get? e=some o∧o.cls = .type "StopIteration")→e≠z:=fun {h' e} hz ⟨o,ho,hc⟩ n=>by
  subst n; rw[hz]at ho; cases ho; simp at hc
 rcases hx:xs[k1]? with _ | x
 ·refine wpAny_bind (sF hh (g1.ext m1.extBut D.i1z D.l1z) hx fun hb e m2 he=>?_)
  have z2:IsZip hb z TI TO .ellipsis:=m2 _ _ D.i1z.symm z1
  have nz:=stop z2 he
  obtain⟨oe,p1,p2⟩:=he
  exact wpAny_setField_rec z2 (by simp) fun hc _ m3=>q hc e (fun c o c1 _ c3 _ x=>m3.extBut _ _ c1 (m2 _ _ c3 (m1.extBut _ _ c1 x))) ⟨oe,m3.extBut _ _ nz p1,p2⟩
 ·have hy:ys[k2]? = none:=by
   rcases hend with h | h
   ·rw[hx]at h; cases h
   ·exact h
  refine wpAny_bind (mI (g1.ext m1.extBut D.i1z D.l1z) D.l1i1 hx fun hb r1 m2=>wpAny_pure ?_)
  have o2:IsPair hb TO a b:=m2.extBut _ _ D.TOi1 (m1.extBut _ _ D.TOz gO)
  refine wpAny_bind (wpAny_seqItems o2 rfl (wpAny_bind (wpAny_updateSeq_pair o2 fun hc o3 m3=>wpAny_bind (wpAny_letGo (wpAny_pure ?_)))))
  refine wpAny_bind (wpAny_bind (wpAny_onRaise ?_))
  show wpAny _ _ (Builtin.SmallTypes.nextOf (.ref i2) >>= fun _=>_) _ _ _
  refine wpAny_bind (sF hh (((g2.ext m1.extBut D.i2z D.l2z).ext m2.extBut D.i12.symm D.l2i1).ext m3.extBut D.TOi2.symm D.l2TO) hy fun hd e m4 he=>?_)
  have z4:IsZip hd z TI TO .ellipsis:=m4 _ _ D.i2z.symm (m3.extBut _ _ D.TOz.symm (m2.extBut _ _ D.i1z.symm z1))
  have nz:=stop z4 he
  obtain⟨oe,p1,p2⟩:=he
  exact wpAny_setField_rec z4 (by simp) fun hg _ m5=>q hg e (fun c o c1 c2 c3 c4 x=>m5.extBut _ _ c1 (m4 _ _ c4 (m3.extBut _ _ c2 (m2.extBut _ _ c3 (m1.extBut _ _ c1 x))))) ⟨oe,m5.extBut _ _ nz p1,p2⟩
end
end L2
namespace L2
open PySem PySem.Spec PyProof PyProof.Rows
section
variable{prog:Program}{w:World}{A:Around}{E:Value→Shared→Prop}{s:Shared}{z TI TO i1 i2 t1 t2:Addr}{xs ys:Array Value}{k1 k2:Nat}{a b:Value}
theorem vj{x y:Value}{Q:Option Value→Shared→Prop}(D:ZipApart z TI TO i1 i2 t1 t2)(gz:IsZip s.heap z TI TO .none)(gI:IsPair s.heap TI (.ref i1) (.ref i2))(gO:IsPair s.heap TO a b)
  (g1:TSt i1 t1 xs k1 s.heap) (g2:TSt i2 t2 ys k2 s.heap) (hx:xs[k1]? = some x) (hy:ys[k2]? = some y)
  (q:∀ h',IsZip h' z TI TO (rawInt s.heap.objs.size)→IsPair h' TO x y→TSt i1 t1 xs (k1+1) h'→TSt i2 t2 ys (k2+1) h'→IsPair h' s.heap.objs.size x y→h'.objs.size=s.heap.objs.size+1→
   (∀ c o,c≠z→c≠TO→c≠i1→c≠i2→s.heap.get? c=some o→h'.get? c=some o)→Q (some (.ref s.heap.objs.size)) { s with heap:=h' }):wpAny (model prog w) A (pyNext (.ref z)) Q E s:=by
 have ty:s.TypeIs (.ref z) "zip" := ⟨_,gz,rfl⟩
 unfold pyNext
 exact wpAny_bind (wpAny_attempt (wpAny_callSpecial?_slot (name:=Str.ofString "__next__") ty PySem.F.slot_zip_next (wpAny_call_entry PySem.F.slot_zip_next ty PySem.F.entry_zip_next
  (vI D gz gI gO g1 g2 hx hy fun h' a1 a2 a3 a4 a5 a6 a7=>wpAny_pure (q h' a1 a2 a3 a4 a5 a6 a7)) (PySem.F.args_zip_next_1 _))))
theorem vY{Q:Option Value→Shared→Prop}(hh:A.handled=none)(D:ZipApart z TI TO i1 i2 t1 t2)(gz:IsZip s.heap z TI TO .none)(gI:IsPair s.heap TI (.ref i1) (.ref i2))(gO:IsPair s.heap TO a b)
  (g1:TSt i1 t1 xs k1 s.heap) (g2:TSt i2 t2 ys k2 s.heap) (hend:xs[k1]? = none∨ys[k2]? = none)
  (q:∀ h',(∀ c o,c≠z→c≠TO→c≠i1→c≠i2→s.heap.get? c=some o→h'.get? c=some o)→Q none { s with heap:=h' }):wpAny (model prog w) A (pyNext (.ref z)) Q E s:=by
 have ty:s.TypeIs (.ref z) "zip" := ⟨_,gz,rfl⟩
 unfold pyNext
 refine wpAny_bind (wpAny_attempt (wpAny_callSpecial?_slot (name:=Str.ofString "__next__") ty PySem.F.slot_zip_next (wpAny_call_entry PySem.F.slot_zip_next ty PySem.F.entry_zip_next
  (xw hh D gz gI gO g1 g2 hend fun h' e kk he=>?_) (PySem.F.args_zip_next_1 _))))
 obtain⟨o,ho,hc⟩:=he
 exact wpAny_bind (wpAny_isInstance (T := "StopIteration") (b:=true) ⟨o,ho,hc⟩ isSubtype_stop (wpAny_pure (q _ kk)))
abbrev zq (h:Heap) (t1:Addr):Heap:=h.push { cls:=.type "tuple_iterator", data:=.fields #[.ref t1,.int 0 0] }
abbrev zB (h:Heap) (t1 t2:Addr):Heap:=(zq h t1).push { cls:=.type "tuple_iterator", data:=.fields #[.ref t2,.int 0 0] }
abbrev zh (h:Heap) (t1 t2:Addr):Heap:=(zB h t1 t2).push { cls:=.type "tuple", data:=.seq #[.ref h.objs.size,.ref (zq h t1).objs.size] }
abbrev zd (h:Heap) (t1 t2:Addr):Heap:=(zh h t1 t2).push { cls:=.type "tuple", data:=.seq #[.none,.none] }
abbrev oZ (h:Heap) (t1 t2:Addr):Heap:=(zd h t1 t2).push { cls:=.type "zip", data:=.fields #[.none,.bool false,.bool false,.ref (zB h t1 t2).objs.size,.ref (zh h t1 t2).objs.size] }
theorem uB(t1 t2:Addr)(xs ys:Array Value):Meets (Builtin.«zip.__new__» ⟨[.type "zip", .ref t1,.ref t2],[]⟩) (fun _ R s=>s.heap.IsTuple t1 xs∧s.heap.IsTuple t2 ys∧
   R (.ok (.ret (.ref (zd s.heap t1 t2).objs.size))) { s with heap:=oZ s.heap t1 t2 }):=
 .of_wp fun prog w A R s q=>by
  obtain⟨hp,g,d,tk,os⟩:=s
  obtain⟨e1,e2,q⟩:=q
  have hsub:=sub_zip
  have f1:Heap.IsTuple (Shared.heap ⟨hp,g,d,tk,os⟩) t1 xs:=e1
  have f2:Heap.IsTuple (Shared.heap ⟨hp.push { cls:=.type "tuple_iterator", data:=.fields #[.ref t1,.int 0 0] },g,d,tk,os⟩) t2 ys:=Heap.IsTuple.push e2 _
  wp_walk using wpAny_pyIter_tuple f1,wpAny_pyIter_tuple f2
  exact⟨_,rfl,q⟩
theorem v7{Q:Value→Shared→Prop}(e1:s.heap.IsTuple t1 xs)(e2:s.heap.IsTuple t2 ys)
  (q:∀ h',IsZip h' (s.heap.objs.size+4) (s.heap.objs.size+2) (s.heap.objs.size+3) .none→IsPair h' (s.heap.objs.size+2) (.ref s.heap.objs.size) (.ref (s.heap.objs.size+1))→
   IsPair h' (s.heap.objs.size+3) .none .none→TSt s.heap.objs.size t1 xs 0 h'→TSt (s.heap.objs.size+1) t2 ys 0 h'→
   (∀ c o,s.heap.get? c=some o→h'.get? c=some o)→Q (.ref (s.heap.objs.size+4)) { s with heap:=h' }):wpAny (model prog w) A (call (.type "zip") [.ref t1,.ref t2]) Q E s:=by
 refine callType_new PySem.F.called_zip (by decide) (PySem.F.typeCall_zip_2 _ _) (PySem.F.newCall_zip_2 _ _) (fun obj=>PySem.F.args_object_init_3 obj _ _) PySem.F.entry_zip_new (uB t1 t2 xs ys) ⟨e1,e2,?_⟩
 have z1:(zq s.heap t1).objs.size=s.heap.objs.size+1:=Heap.size_push ..
 have z2:(zB s.heap t1 t2).objs.size=s.heap.objs.size+2:=by rw[Heap.size_push,z1]
 have z3:(zh s.heap t1 t2).objs.size=s.heap.objs.size+3:=by rw[Heap.size_push,z2]
 have z4:(zd s.heap t1 t2).objs.size=s.heap.objs.size+4:=by rw[Heap.size_push,z3]
 have p:∀ {h:Heap} {o:Obj} {c:Addr} {u:Obj},h.get? c=some u→(h.push o).get? c=some u:=fun e=>Heap.get?_push_of_some _ e
 have kk:∀ c o,s.heap.get? c=some o→(oZ s.heap t1 t2).get? c=some o:=fun c o e=>p (p (p (p (p e))))
 have g5:(oZ s.heap t1 t2).get? (zd s.heap t1 t2).objs.size=some _:=Heap.get?_push_size _ rfl
 have g4:(oZ s.heap t1 t2).get? (zh s.heap t1 t2).objs.size=some _:=p (Heap.get?_push_size _ rfl)
 have g3:(oZ s.heap t1 t2).get? (zB s.heap t1 t2).objs.size=some _:=p (p (Heap.get?_push_size _ rfl))
 have g2:(oZ s.heap t1 t2).get? (zq s.heap t1).objs.size=some _:=p (p (p (Heap.get?_push_size _ rfl)))
 have g1:(oZ s.heap t1 t2).get? s.heap.objs.size=some _:=p (p (p (p (Heap.get?_push_size _ rfl))))
 show _∧_
 rw[z2,z3,z4]at g5
 rw[z1,z2]at g3
 rw[z3]at g4
 rw[z1]at g2
 rw[z4]
 have tt:∀ {t zs},s.heap.IsTuple t zs→(oZ s.heap t1 t2).IsTuple t zs:=fun ⟨o,e,r⟩=>⟨o,kk _ _ e,r⟩
 exact⟨⟨_,g5,rfl⟩,q _ g5 g3 g4 ⟨⟨_,g1,rfl,rfl⟩,tt e1⟩ ⟨⟨_,g2,rfl,rfl⟩,tt e2⟩ kk⟩
end
def wj(K:PySem.W.Frag)(a b:Addr):It:=
  ⟨fun i H=>∃ xs ys x y,SqT K H a xs∧SqT K H b ys∧xs[i]? = some x∧ys[i]? = some y,
   fun i H v H'=>∃ t x y,H t=none∧v = .ref t∧H'=upd H t (.tup [x,y])∧(∀ xs,SqT K H a xs→xs[i]? = some x)∧∀ ys,SqT K H b ys→ys[i]? = some y,
   fun i H=>∃ xs ys,SqT K H a xs∧SqT K H b ys∧(xs.length≤i∨ys.length≤i)⟩
def UZ(z TI TO i1 i2 l1 l2:Addr)(i:Nat)(h:Heap):Prop:=
 IsZip h z TI TO .none∧IsPair h TI (.ref i1) (.ref i2)∧(∃ a b,IsPair h TO a b)∧h.IsTupleIter i1 l1 i∧h.IsTupleIter i2 l2 i
end L2
namespace L2
open PySem PySem.Spec PyProof PyProof.Rows
theorem SqT.apart{X:Cx}{pins:List (Addr × Obj)}{σ : St}{H:Hp}{s:Shared}{a c:Addr}{xs:List V}(I:Inv X pins σ H s)(hf:jm X pins H c)(h:SqT X.K H a xs):a≠c:=by
 rintro rfl
 rcases h with h | ⟨o,its,n,hk,_⟩
 ·rcases h with e | ⟨o,e⟩ <;> (rw[hf.1]at e; cases e)
 ·have e:=I.ok.mod.kin a o hk
  rcases hf.2.2.2.1 with z | z
  ·exact I.ok.noex a o e z
  ·exact absurd (Nat.lt_of_lt_of_le (Heap.lt_size (I.ok.bs a o e).1) z) (Nat.lt_irrefl _)
theorem wy{P:Program}{w:World}{K:PySem.W.Frag}{elts:List Expr}{k:Nat}{pos:Pos}{z TI TO i1 i2 l1 l2:Addr}(D:v5 z TI TO i1 i2):mS P w K (.Tuple elts k pos) (wj K l1 l2) [z,TI,TO,i1,i2] z (UZ z TI TO i1 i2 l1 l2) where
 mem:=by simp
 obj:=fun i h st b hb=>by
  obtain⟨s1,s2,⟨_,_,s3⟩,⟨o4,s4,c4,d4⟩,⟨o5,s5,c5,d5⟩⟩:=st
  simp only[List.mem_cons,List.mem_nil_iff,or_false]at hb
  rcases hb with rfl | rfl | rfl | rfl | rfl
  ·exact⟨_,s1,fun v e=>by cases e⟩
  ·exact⟨_,s2,fun v e=>by cases e⟩
  ·exact⟨_,s3,fun v e=>by cases e⟩
  ·exact⟨_,s4,fun v e=>by rw[d4]at e; cases e⟩
  ·exact⟨_,s5,fun v e=>by rw[d5]at e; cases e⟩
 keep:=fun i h h' st kk=>by
  obtain⟨s1,s2,⟨a,b,s3⟩,s4,s5⟩:=st
  exact⟨kk z (by simp) _ s1,kk TI (by simp) _ s2,⟨a,b,kk TO (by simp) _ s3⟩,s4.at fun o e=>kk i1 (by simp) o e,s5.at fun o e=>kk i2 (by simp) o e⟩
 item:=by
  intro X hP hw hK hc i pins s σ H E I hf st hg
  subst hP hw hK
  obtain⟨xs,ys,x,y,q1,q2,hx,hy⟩:=hg
  obtain⟨is1,rv1,p1,_⟩:=I.tuple q1
  obtain⟨is2,rv2,p2,_⟩:=I.tuple q2
  obtain⟨u1,hu1,ru1⟩:=rv1.get hx
  obtain⟨u2,hu2,ru2⟩:=rv2.get hy
  have n1:∀ c∈[z,TI,TO,i1,i2],l1≠c:=fun c hc'=>SqT.apart I (hf c hc') q1
  have n2:∀ c∈[z,TI,TO,i1,i2],l2≠c:=fun c hc'=>SqT.apart I (hf c hc') q2
  have D':ZipApart z TI TO i1 i2 l1 l2:=⟨D.TIz,D.TOz,D.i1z,D.i2z,D.TITO,D.TIi1,D.TIi2,D.TOi1,D.TOi2,D.i12,n1 _ (by simp),n1 _ (by simp),n1 _ (by simp),n1 _ (by simp),n2 _ (by simp),n2 _ (by simp),n2 _ (by simp),n2 _ (by simp)⟩
  obtain⟨s1,s2,⟨a,b,s3⟩,s4,s5⟩:=st
  have e1:s.heap.IsTuple l1 is1.toArray:=p1
  have e2:s.heap.IsTuple l2 is2.toArray:=p2
  refine vj D' s1 s2 s3 ⟨s4,e1⟩ ⟨s5,e2⟩ (x:=u1) (y:=u2) (by simpa using hu1) (by simpa using hu2) fun h' a1 a2 a3 a4 a5 a6 kk=>?_
  refine⟨_,rfl,wpAny_letOwnedTupleGo_zip a1 fun h'' hz' hs'=>?_⟩
  have lt:∀ {c o},s.heap.get? c=some o→s.heap.objs.size≠c:=fun e=>Nat.ne_of_gt (Heap.lt_size e)
  have zne:s.heap.objs.size≠z:=lt s1
  have keep2:∀ b o,b∉[z,TI,TO,i1,i2]→s.heap.get? b=some o→h''.get? b=some o:=fun b o hb e=>by
   simp only[List.mem_cons,List.mem_nil_iff,or_false,not_or]at hb
   exact hs'.extBut _ _ hb.1 (kk b o hb.1 hb.2.2.1 hb.2.2.2.1 hb.2.2.2.2 e)
  have hsz:H s.heap.objs.size=none:=I.hok.fresh (Nat.le_refl _)
  have tupN:IsPair h'' s.heap.objs.size u1 u2:=hs'.extBut _ _ zne a5
  have nlt:∀ c∈[z,TI,TO,i1,i2],c≠s.heap.objs.size:=fun c hc'=>by
   obtain⟨o4,e4,_⟩:=id s4
   obtain⟨o5,e5,_⟩:=id s5
   simp only[List.mem_cons,List.mem_nil_iff,or_false]at hc'
   rcases hc' with rfl | rfl | rfl | rfl | rfl
   ·exact(lt s1).symm
   ·exact(lt s2).symm
   ·exact(lt s3).symm
   ·exact(lt e4).symm
   ·exact(lt e5).symm
  refine⟨.ref s.heap.objs.size,upd H s.heap.objs.size (.tup [x,y]),I.turnedLaid (t':=s.toks) keep2 hf (Nat.le_refl _) ⟨ao (by show 2≤1000000; decide),[u1,u2],.cons ru1 (.cons ru2 .nil),⟨_,tupN,rfl,rfl,0,rfl⟩⟩,rfl,⟨_,x,y,hsz,rfl,rfl,fun xs' q'=>?_,fun ys' q'=>?_⟩,
   ⟨hz',hs'.extBut _ _ D.TIz (kk _ _ D.TIz D.TITO D.TIi1 D.TIi2 s2),⟨_,_,hs'.extBut _ _ D.TOz a2⟩,a3.1.extBut hs'.extBut D.i1z,a4.1.extBut hs'.extBut D.i2z⟩,fun c hc'=>?_⟩
  ·rw[I.tuple_inj q' q1]; exact hx
  ·rw[I.tuple_inj q' q2]; exact hy
  ·rw[aA (nlt c hc')]; exact(hf c hc').1
 done:=by
  intro X hP hw hK hc i pins s σ H E I hf st hg
  subst hP hw hK
  obtain⟨xs,ys,q1,q2,hlen⟩:=hg
  obtain⟨is1,rv1,p1,_⟩:=I.tuple q1
  obtain⟨is2,rv2,p2,_⟩:=I.tuple q2
  have l1:=rv1.length
  have l2:=rv2.length
  have n1:∀ c∈[z,TI,TO,i1,i2],_≠c:=fun c hc'=>SqT.apart I (hf c hc') q1
  have n2:∀ c∈[z,TI,TO,i1,i2],_≠c:=fun c hc'=>SqT.apart I (hf c hc') q2
  have D':ZipApart z TI TO i1 i2 _ _:=⟨D.TIz,D.TOz,D.i1z,D.i2z,D.TITO,D.TIi1,D.TIi2,D.TOi1,D.TOi2,D.i12,n1 _ (by simp),n1 _ (by simp),n1 _ (by simp),n1 _ (by simp),n2 _ (by simp),n2 _ (by simp),n2 _ (by simp),n2 _ (by simp)⟩
  obtain⟨s1,s2,⟨a,b,s3⟩,s4,s5⟩:=st
  have e1:s.heap.IsTuple _ is1.toArray:=p1
  have e2:s.heap.IsTuple _ is2.toArray:=p2
  refine vY (I.ok.hd hc) D' s1 s2 s3 ⟨s4,e1⟩ ⟨s5,e2⟩ ?_ fun h' kk=>⟨rfl,I.turnedL (t':=s.toks) (fun b o hb e=>?_) hf⟩
  ·rcases hlen with z | z
   ·exact .inl (by simp; omega)
   ·exact .inr (by simp; omega)
  ·simp only[List.mem_cons,List.mem_nil_iff,or_false,not_or]at hb
   exact kk b o hb.1 hb.2.2.1 hb.2.2.2.1 hb.2.2.2.2 e
 self:=fun A i s Q E st h=>wpAny_pyIter_zip st.1 h
def zo(K:PySem.W.Frag)(ta:TA):TI:=fun σ H R=>ta σ H fun vs H1=>∃ a b:Addr,vs=[.ref a,.ref b]∧(∃ xs,SqT K H1 a xs)∧(∃ ys,SqT K H1 b ys)∧R (wj K a b) H1
theorem gr(K:PySem.W.Frag)(ta:TA){σ : St}{H:Hp}{R:It→Hp→Prop}:zo K ta σ H R=ta σ H fun vs H1=>∃ a b:Addr,vs=[.ref a,.ref b]∧(∃ xs,SqT K H1 a xs)∧(∃ ys,SqT K H1 b ys)∧R (wj K a b) H1:=rfl
theorem oz(K:PySem.W.Frag){X:Cx}{elts:List Expr}{k:Nat}{tpos:Pos}{a b:Expr}{ta:TA}{p pos:Pos}(hg:Gl X "zip") (hm:X.mg "zip" = none) (ha:PA X [a,b] ta) (hs:starEach [a,b] X.env=[(false,eval a X.env),(false,eval b X.env)]:=by rfl) (hs2:starEach [b] X.env=[(false,eval b X.env)]:=by rfl) (hK:X.K=K:=by rfl) :
  PI X (.Tuple elts k tpos) (.Call (.Name "zip" p) [a,b] [] pos) (zo K ta):=by
 subst hK
 intro pins s σ H R I h
 refine Call_ (lD I hg hm yW (PyProof.Rows.callWith_type1 (bo (ha pos pins s σ H _ I h) fun us s1 ⟨vs,H1,I1,r1,q1⟩=>?_) (by rw[hs,hs2]) (by rw[hs2]; rfl)))
 obtain⟨l1,l2,e,⟨xs,h1⟩,⟨ys,h2⟩,q⟩:=q1
 subst e
 obtain⟨u1,u2,rfl,r1,r2⟩:=pU r1
 cases r1
 cases r2
 obtain⟨is1,_,p1,_⟩:=I1.tuple h1
 obtain⟨is2,_,p2,_⟩:=I1.tuple h2
 refine v7 (show s1.heap.IsTuple l1 is1.toArray from p1) (show s1.heap.IsTuple l2 is2.toArray from p2) fun h' a1 a2 a3 a4 a5 kk=>?_
 refine wpAny_pyIter_zip a1 ⟨_,[s1.heap.objs.size+4,s1.heap.objs.size+2,s1.heap.objs.size+3,s1.heap.objs.size,s1.heap.objs.size+1],_,_,H1,rfl,I1.kept (t':=s1.toks) kk,
  wy (z:=s1.heap.objs.size+4) (TI:=s1.heap.objs.size+2) (TO:=s1.heap.objs.size+3) (i1:=s1.heap.objs.size) (i2:=s1.heap.objs.size+1) (FJ _),⟨a1,a2,⟨_,_,a3⟩,a4.1,a5.1⟩,fun b hb=>?_,q⟩
 have hb':s1.heap.objs.size≤b:=by
  simp only[List.mem_cons,List.mem_nil_iff,or_false]at hb
  rcases hb with rfl | rfl | rfl | rfl | rfl <;> first | exact Nat.le_refl _ | exact Nat.le_add_right _ _
 exact I1.fpOk hb' (I1.hok.fresh hb')
end L2
namespace L2
open PySem PySem.Spec PyProof PyProof.Rows
section
variable{prog:Program}{w:World}{A:Around}{E:Value→Shared→Prop}{s:Shared}
theorem pS{t sl:Addr}{items:Array Value}{vl vu:Value}{lo hi:Option Int}{Q:Value→Shared→Prop}(ht:IsTup s.heap t items)(hs:s.heap.IsSliceOf sl vl vu .none)(pl:PySem.IsPart vl lo)(pu:PySem.IsPart vu hi)
  (hw:HT.sIx items.size 0 lo=0∧HT.sIx items.size items.size hi=items.size) (q:Q (.ref t) s):wpAny (model prog w) A (getItem (.ref t) (.ref sl)) Q E s:=by
 obtain⟨os,g1,g2,g3⟩:=id hs
 have ty:s.TypeIs (.ref sl) "slice" := ⟨os,g1,g2⟩
 unfold getItem
 try with_reducible refine wpAny_holding ?_
 first | refine wpAny_bind (wpAny_pure ?_) | skip
 refine wpAny_bind (wpAny_sequenceKey ht.typeIs (by decide) (wpAny_bind (wpAny_callSpecial?_slot (name:=Str.ofString "__getitem__") ht.typeIs PyProof.Rows.slot_tuple_getitem (wpAny_call_entry PyProof.Rows.slot_tuple_getitem ht.typeIs entry_tuple_getitem ?_ (args_tuple_getitem _ _)))))
 show wpAny _ _ (Builtin.Tuple.tupleItemsOf (.ref t) >>= fun _=>_) _ _ s
 refine wpAny_bind (tupleItemsOf_ ht (wpAny_bind (wpAny_typeOf ty ?_)))
 rw[if_pos (by decide)]
 refine wpAny_bind (HT.sliceApplied_gen hs pl pu ?_)
 have hyes:((((HT.sIx items.size 0 lo:Nat):Int) == 0&&(1:Int) == 1&&(HT.sIx items.size items.size hi - HT.sIx items.size 0 lo) == items.size)=true):=by
  rw[hw.1,hw.2]; simp
 show wpAny _ _ (if (((HT.sIx items.size 0 lo:Nat):Int) == 0&&(1:Int) == 1&&(HT.sIx items.size items.size hi - HT.sIx items.size 0 lo) == items.size)=true then _ else _) _ _ s
 rw[if_pos hyes]
 refine wpAny_bind (m:=Builtin.Tuple.tupleIsExact _) (wpAny_bind (wpAny_typeOf ht.typeIs (wpAny_pure ?_)))
 have hb:(Value.type "tuple" == Value.type "tuple")=true:=by decide
 rw[hb,if_pos rfl]
 exact wpAny_bind (wpAny_rule (wpAny_pure ⟨_,rfl,wpAny_pure q⟩))
end
section
variable{X:Cx}
def zb(K:PySem.W.Frag):V→Option Int→Option Int→Hp→VK→Prop:=fun x lo hi H Q=>∃ a xs,x = .ref a∧SqT K H a xs∧
 (HT.sIx xs.length 0 lo=0∧HT.sIx xs.length xs.length hi=xs.length→Q (.ref a) H)∧(¬ (HT.sIx xs.length 0 lo=0∧HT.sIx xs.length xs.length hi=xs.length)→∀ p,H p=none→Q (.ref p) (upd H p (.tup (dJ xs lo hi))))
theorem mr(K:PySem.W.Frag)(hK:X.K=K:=by rfl):SlR X (zb K):=by
 subst hK
 intro pins s σ H x v vl vu lo hi sl Q I rx hs pl pu h
 obtain⟨a,xs,rfl,hx,q1,q2⟩:=h
 by_cases hw:HT.sIx xs.length 0 lo=0∧HT.sIx xs.length xs.length hi=xs.length
 ·have rx':=rx
  cases rx
  obtain⟨its,r,ht,hz⟩:=I.tuple hx
  have hlen:its.toArray.size=xs.length:=by rw[List.size_toArray]; exact r.length.symm
  exact⟨"tuple", _,PyProof.Rows.slot_tuple_getitem.lookup,ht.typeIs,pS ht hs pl pu (by rw[hlen]; exact hw) ⟨.ref a,H,I,rx',q1 hw⟩⟩
 ·exact BJ pins s σ H _ v vl vu lo hi sl Q I rx hs pl pu ⟨a,xs,rfl,hx,hw,q2 hw⟩
theorem kW{K:PySem.W.Frag}{H:Hp}{Q:VK}{a:Addr}{lo hi:Option Int}{xs:List V}(h:SqT K H a xs)(q:∀ p H',Same H H'→SqT K H' p (dJ xs lo hi)→Q (.ref p) H'):zb K (.ref a) lo hi H Q:=by
 refine⟨a,xs,rfl,h,fun hw=>?_,fun _ p hp=>q p _ (au hp _) (SqT.of ai)⟩
 have e:dJ xs lo hi=xs:=by unfold dJ; rw[hw.1,hw.2]; simp
 exact q a H (fun _ _ e=>e) (by rw[e]; exact h)
theorem Ai(xs:List V)(k:Nat):dJ xs none (some (k:Int))=xs.take k:=by
 unfold dJ
 rw[HT.sIx_none,HT.sIx_nat,List.drop_zero,Nat.sub_zero]
 exact List.take_eq_take_min.symm
theorem lS(xs:List V)(k:Nat):dJ xs (some (k:Int)) none=xs.drop k:=by
 unfold dJ
 rw[HT.sIx_none,HT.sIx_nat]
 rcases Nat.le_total k xs.length with h | h
 ·rw[Nat.min_eq_left h,List.take_of_length_le (by rw[List.length_drop]; omega)]
 ·rw[Nat.min_eq_right h,Nat.sub_self,List.take_zero,List.drop_eq_nil_of_le h]
def ur:List V→Hp→VK→Prop:=fun xs H Q=>(∃ i,xs=[.int i]∧i.natAbs.log2<1920∧Q (.str (toString i)) H)∨∃ y,xs=[.str y]∧Q (.str y) H
theorem wn:CallR X (.type "str") ur:=by
 intro pins s σ H xs us Q I r h
 rcases h with h | ⟨y,rfl,q⟩
 ·exact lQ pins s σ H xs us Q I r h
 ·obtain⟨u,rfl,t,rfl⟩:=df r
  exact PySem.P.str_of_str ⟨.str y,H,I,⟨t,rfl⟩,q⟩
theorem fN{H:Hp}{Q:VK}(i:Int):ur [.int i] H Q=(i.natAbs.log2<1920∧Q (.str (toString i)) H):=
 propext ⟨fun h=>by rcases h with ⟨_,e,h⟩ | ⟨_,e,_⟩ <;> cases e; exact h,fun h=>.inl ⟨i,rfl,h⟩⟩
theorem fP{H:Hp}{Q:VK}(y:Str):ur [.str y] H Q=Q (.str y) H:=
 propext ⟨fun h=>by rcases h with ⟨_,e,h⟩ | ⟨_,e,h⟩ <;> cases e; exact h,fun h=>.inr ⟨y,rfl,h⟩⟩
theorem i7{x:Str}{d:Addr}{pos:Pos}(h:X.mg x=some (.ref d))(hg:Gl X x:=by rfl)(hd:(x == ("__debug__" : Str))=false:=by decide):PE X (.Name x pos) (tC (.ref d)):=mh hg h rfl hd
theorem nV:MtR X "list.extend" mi:=wO
theorem eV{H:Hp}{Q:VK}(l b:Addr):mi (.ref l) [.ref b] H Q=∃ xs zs,H l=some (.lst xs)∧H b=some (.lst zs)∧xs.length+zs.length≤sizeLine∧Q .non (upd H l (.lst (xs++zs))):=
 propext ⟨fun ⟨_,_,xs,zs,e1,e2,q⟩=>by cases e1; cases e2; exact⟨xs,zs,q⟩,fun ⟨xs,zs,q⟩=>⟨l,b,xs,zs,rfl,rfl,q⟩⟩
theorem mj(K:PySem.W.Frag){tg l:Expr}{tl:TE}(hl:PE X l tl)(hK:X.K=K:=by rfl):PI X tg l (xn K tl):=hK ▸ B5 hl
theorem iL(K:PySem.W.Frag)(tl:TE){σ : St}{H:Hp}{R:It→Hp→Prop}:xn K tl σ H R=tl σ H fun x H1=>∃ a,x = .ref a∧(∃ xs,SqT K H1 a xs)∧R (wF K a) H1:=rfl
end
section
variable{K:PySem.W.Frag}{a b:Addr}{xs ys:List V}{g:TG}{te:TE}{nT:Nat}{σ : St}{D:Addr}{Q:VK}{H:Hp}
theorem mF{tb:TS}{D:dz}(Pv:Nat→St→Hp→Prop)(h0:Pv 0 σ H)(hl:∀ i σ H,i≤xs.length→Pv i σ H→SqT K H a xs)
  (hs:∀ i x σ H,xs[i]? = some x→Pv i σ H→g x σ H fun σ2 H2=>tb { D with nx:=Pv (i+1),ct:=Pv (i+1),bk:=D.nx } σ2 H2) (hd:∀ σ H,Pv xs.length σ H→D.nx σ H):rn (wF K a) g tb D σ H:=by
 refine tz xs.length Pv h0 (fun i σ H hi p=>⟨xs,xs[i],hl i σ H (Nat.le_of_lt hi) p,by simp[hi]⟩) (fun σ H p=>⟨xs,hl _ σ H (Nat.le_refl _) p,Nat.le_refl _⟩) (fun i σ H x H' hi p yl=>?_) hd
 obtain⟨rfl,y⟩:=yl
 exact hs i x σ _ (y xs (hl i σ _ (Nat.le_of_lt hi) p)) p
theorem vF(Pv:Nat→List V→Hp→Prop)(h0:Pv 0 [] H)(hl:∀ i ys H,i≤xs.length→Pv i ys H→SqT K H a xs)
  (hs:∀ i ys H x,xs[i]? = some x→i<xs.length→Pv i ys H→g x (σ++List.replicate nT none) H (jO xs.length i Pv D ys te))
  (hd:∀ ys H,Pv xs.length ys H→Q (.ref D) H):ft (wF K a) g lU te nT σ D Q H:=by
 refine ju xs.length Pv h0 (fun i ys H hi p=>⟨xs,xs[i],hl i ys H (Nat.le_of_lt hi) p,by simp[hi]⟩) (fun ys H p=>⟨xs,hl _ ys H (Nat.le_refl _) p,Nat.le_refl _⟩) (fun i ys H x H' hi p yl=>?_) hd
 obtain⟨rfl,y⟩:=yl
 exact hs i ys _ x (y xs (hl i ys _ (Nat.le_of_lt hi) p)) hi p
theorem oV{tb:TS}{D:dz}(Pv:Nat→St→Hp→Prop)(hn:xs.length=ys.length)(h0:Pv 0 σ H)(hl:∀ i σ H,i≤xs.length→Pv i σ H→SqT K H a xs∧SqT K H b ys)
  (hs:∀ i x y t σ H,xs[i]? = some x→ys[i]? = some y→Pv i σ H→H t=none→g (.ref t) σ (upd H t (.tup [x,y])) fun σ2 H2=>tb { D with nx:=Pv (i+1),ct:=Pv (i+1),bk:=D.nx } σ2 H2) (hd:∀ σ H,Pv xs.length σ H→D.nx σ H):rn (wj K a b) g tb D σ H:=by
 refine tz xs.length Pv h0 (fun i σ H hi p=>⟨xs,ys,xs[i],ys[i],(hl i σ H (Nat.le_of_lt hi) p).1,(hl i σ H (Nat.le_of_lt hi) p).2,by simp[hi],by simp[hn ▸ hi]⟩) (fun σ H p=>⟨xs,ys,(hl _ σ H (Nat.le_refl _) p).1,(hl _ σ H (Nat.le_refl _) p).2,.inl (Nat.le_refl _)⟩) (fun i σ H v H' hi p yl=>?_) hd
 obtain⟨t,x,y,ht,rfl,rfl,y1,y2⟩:=yl
 exact hs i x y t σ H (y1 xs (hl i σ H (Nat.le_of_lt hi) p).1) (y2 ys (hl i σ H (Nat.le_of_lt hi) p).2) p ht
theorem uy(Pv:Nat→List V→Hp→Prop)(hn:xs.length=ys.length)(h0:Pv 0 [] H)(hl:∀ i zs H,i≤xs.length→Pv i zs H→SqT K H a xs∧SqT K H b ys)
  (hs:∀ i zs H x y t,xs[i]? = some x→ys[i]? = some y→i<xs.length→Pv i zs H→H t=none→g (.ref t) (σ++List.replicate nT none) (upd H t (.tup [x,y])) (jO xs.length i Pv D zs te))
  (hd:∀ zs H,Pv xs.length zs H→Q (.ref D) H):ft (wj K a b) g lU te nT σ D Q H:=by
 refine ju xs.length Pv h0 (fun i zs H hi p=>⟨xs,ys,xs[i],ys[i],(hl i zs H (Nat.le_of_lt hi) p).1,(hl i zs H (Nat.le_of_lt hi) p).2,by simp[hi],by simp[hn ▸ hi]⟩) (fun zs H p=>⟨xs,ys,(hl _ zs H (Nat.le_refl _) p).1,(hl _ zs H (Nat.le_refl _) p).2,.inl (Nat.le_refl _)⟩) (fun i zs H v H' hi p yl=>?_) hd
 obtain⟨t,x,y,ht,rfl,rfl,y1,y2⟩:=yl
 exact hs i zs H x y t (y1 xs (hl i zs H (Nat.le_of_lt hi) p).1) (y2 ys (hl i zs H (Nat.le_of_lt hi) p).2) hi p ht
end
theorem SqT.same{K:PySem.W.Frag}{H H':Hp}{a:Addr}{xs:List V}(h:SqT K H a xs)(sm:Same H H'):SqT K H' a xs:=by
 rcases h with (h | ⟨o,h⟩) | h
 ·exact .inl (.inl (sm _ _ h))
 ·exact .inl (.inr ⟨o,sm _ _ h⟩)
 ·exact .inr h
theorem eD{α : Type}{x:α}{xs:List α}:gf (x::xs) 0=some x:=bn (j:=0) rfl
theorem SqT.updL{K:PySem.W.Frag}{H:Hp}{a l:Addr}{xs ys:List V}{o:HO}(h:SqT K H a xs)(hl:H l=some (.lst ys)):SqT K (upd H l o) a xs:=by
 rcases h with (h | ⟨o',h⟩) | h
 ·exact .inl (.inl (by rw[aA (fu h hl (fun z=>nomatch z))]; exact h))
 ·exact .inl (.inr ⟨o',by rw[aA (fu h hl (fun z=>nomatch z))]; exact h⟩)
 ·exact .inr h
end L2
namespace L2
open PySem PySem.Spec PyProof PyProof.Rows
section
variable{X:Cx}
end
end L2
namespace L2
open PySem PySem.Spec PyProof PyProof.Rows
section
variable{K:PySem.W.Frag}{a:Addr}{xs:List V}{g:TG}{σ : St}{H:Hp}
end
end L2
namespace L2
open PySem PySem.Spec PyProof PyProof.Rows
theorem Df{P:Program}{w:World}{k:bT}{u:Value}(h:(cL P w).is k u=true):RelV (kV k) u:=by
 cases k with
 | inl i=>
  obtain⟨t,rfl⟩:=Value.isInt_shape (show Value.isInt i u=true from h)
  exact⟨t,rfl⟩
 | inr x=>
  obtain⟨t,rfl⟩:=Value.isStrOf_shape (show Value.isStrOf x u=true from h)
  exact⟨t,rfl⟩
section
variable{X:Cx}
def vL:List V→Hp→VK→Prop:=fun xs H Q=>∃ d kvs,xs=[.ref d]∧H d=some (.dK kvs)∧kvs.length≤60000∧∀ l,H l=none→Q (.ref l) (upd H l (.lst (kvs.map fun kv=>kV kv.1)))
theorem fM{H:Hp}{Q:VK}(d:Addr):vL [.ref d] H Q=∃ kvs,H d=some (.dK kvs)∧kvs.length≤60000∧∀ l,H l=none→Q (.ref l) (upd H l (.lst (kvs.map fun kv=>kV kv.1))):=
 propext ⟨fun ⟨_,kvs,e,q⟩=>by cases e; exact⟨kvs,q⟩,fun ⟨kvs,q⟩=>⟨d,kvs,rfl,q⟩⟩
theorem uH{m:Nat}(hr:Room m X.A):CallR X (.type "list") vL:=by
 intro pins s σ H xs us Q I r h
 obtain⟨d,kvs,rfl,ed,hn,q⟩:=h
 obtain⟨u,rfl,ru⟩:=df r
 cases ru
 obtain⟨_,hd,vs,rel,dd⟩:=y6 I.hok (.inl ed)
 obtain⟨ep,hm⟩:=dd.dictAt
 have hs:sizeLine=16777216:=sizeLine_eq
 have hl:kvs.length=vs.length:=Paired.length rel
 refine PySem.W.kdl_call (PySem.W.kdl_dict (knd:=cL X.prog X.w) (kvs:=vs) (ep:=ep) hd) hr.hd hm (by omega) fun h' tk acc' c' hk hS hacc=>?_
 refine⟨.ref s.heap.objs.size,_,I.laid hk (Nat.le_refl _) (show ObjOk X.prog X.w _ h' _ (.lst (kvs.map fun kv=>kV kv.1)) from ⟨by simp; omega,acc'.toList,c',?_,by simpa using hS⟩),rfl,q _ (I.hok.fresh (Nat.le_refl _))⟩
 refine sB _ _ (by simp[hacc.1,hl]) fun j x w' e1 e2=>?_
 obtain⟨k,y,hk',his⟩:=hacc.2 j w' (by rw[← Array.getElem?_toList]; exact e2)
 rw[List.getElem?_map]at e1
 cases hkv:kvs[j]? with
 | none=>rw[hkv]at e1; cases e1
 | some kv=>
  rw[hkv]at e1
  cases e1
  have:=(n0 rel hkv hk').1
  show RelV (kV kv.1) w'
  rw[this]
  exact Df his
end
end L2
namespace L2
open PySem PySem.Spec PyProof PyProof.Rows PySem.SeqAt
section
variable{X:Cx}
def zA(K:PySem.W.Frag):List V→Hp→VK→Prop:=fun xs H Q=>∃ (p:Addr) (ns:List Int),xs=[.ref p]∧SqL K H p (ns.map V.int)∧Q (.int ns.sum) H
theorem gx{K:PySem.W.Frag}{H:Hp}{Q:VK}(p:Addr):zA K [.ref p] H Q=∃ ns:List Int,SqL K H p (ns.map V.int)∧Q (.int ns.sum) H:=propext ⟨fun ⟨_,bs,e,q⟩=>by cases e; exact⟨bs,q⟩,fun ⟨bs,q⟩=>⟨p,bs,rfl,q⟩⟩
theorem pH(K:PySem.W.Frag)(hK:X.K=K:=by rfl)(hc:X.calm=true:=by rfl):CallR X (.builtin "sum") (zA K):=by
 subst hK
 intro pins s σ H xs us Q I r h
 obtain⟨p,ns,rfl,hq,q⟩:=h
 obtain⟨u,rfl,ru⟩:=df r
 cases ru
 obtain⟨its,rv,pl,hz⟩:=I.list hq
 have hi:IntsAre its ns:=u3 rv
 obtain⟨xs,e⟩:=hi.allInts.items
 have hns:ns=xs.toList.map (·.1):=by rw[← hi.numsOf,← nums_intItems,← e]
 have hl:=pl.isList
 rw[e]at hl
 refine sum_intListG (I.ok.hd hc) hl fun h' tk t' hk=>?_
 have e2:preSum (numAt xs) xs.size=ns.sum:=by rw[preSum_eq,List.take_of_length_le (by simp),hns]
 exact⟨.int ns.sum,H,I.kept (t':=tk) hk,⟨t',by rw[e2]⟩,q⟩
theorem wY:bootBuiltins "sum" = some (.builtin "sum"):=by decide +kernel
def tj(K:PySem.W.Frag):V→List V→Hp→VK→Prop:=fun x vs H Q=>∃ (p:Addr) (ss:List Str) (y:Str),x = .ref p∧vs=[.str y]∧SqL K H p (ss.map V.str)∧Q (.int (ss.countP (· == y):Nat)) H
theorem eW{K:PySem.W.Frag}{H:Hp}{Q:VK}(p:Addr)(y:Str):tj K (.ref p) [.str y] H Q=∃ ss:List Str,SqL K H p (ss.map V.str)∧Q (.int (ss.countP (· == y):Nat)) H:=
 propext ⟨fun ⟨_,ss,_,e1,e2,q⟩=>by cases e1; cases e2; exact⟨ss,q⟩,fun ⟨ss,q⟩=>⟨p,ss,y,rfl,rfl,q⟩⟩
theorem nH(y:Str):∀ {ss:List Str} {its:List Value},Vals (ss.map V.str) its→its.countP (gl (.str y))=ss.countP (· == y)
 | [],_,.nil=>rfl
 | s::ss,_,.cons (a:=_) (b:=u) r t=>by
  obtain⟨t',rfl⟩:=r
  have ih:=nH y t
  have e:gl (.str y) (Value.str s t')=(s == y):=rfl
  rw[List.countP_cons,List.countP_cons,ih,e]
theorem pr(K:PySem.W.Frag)(hK:X.K=K:=by rfl):MtR X "list.count" (tj K):=by
 subst hK
 intro pins s σ H x xs v us Q I rx r h
 obtain⟨p,ss,y,rfl,rfl,hq,q⟩:=h
 cases rx
 obtain⟨u,rfl,ru⟩:=df r
 obtain⟨t,rfl⟩:=ru
 obtain⟨its,rv,pl,hz⟩:=I.list hq
 have hlen:its.length=ss.length:=by rw[← rv.length,List.length_map]
 obtain⟨⟨cls,dd,data,sl⟩,ho,hc,n,hd⟩:=pl.isList
 simp only at hc hd
 subst hc hd
 have rel:∀ (i:Nat) (h:i<its.length),∃ t',its[i] = .str (ss[i]'(by omega)) t':=fun i h=>by
  obtain⟨x,hx,rx⟩:=rv.of (i:=i) (u:=its[i]) (List.getElem?_eq_getElem h)
  rw[List.getElem?_map,List.getElem?_eq_getElem (by omega)]at hx
  have hx':=Option.some.inj hx
  subst hx'
  exact rx
 refine call_meets PySem.F.slot_list_count ⟨_,ho,rfl⟩ PySem.F.entry_list_count (PySem.F.args_list_count_2 _ _)
  (list_countAt p its.toArray n dd sl (.str y t) (gl (.str y))) ⟨ho,fun z hz=>?_,⟨.int _,H,I.tok _,⟨s.toks,?_⟩,q⟩⟩
 ·have hz':z∈its:=by simpa using hz
  obtain⟨i,hi,rfl⟩:=List.mem_iff_getElem.mp hz'
  obtain⟨t',e⟩:=rel i hi
  have q':=nG (A:=X.A.in1) (s:=s) (y:=.str (ss[i]'(by omega))) (x:=.str y) (u:=its[i]) (v:=.str y t) ⟨t',e⟩ ⟨t,rfl⟩ rfl rfl
  rw[e]; rw[e]at q'
  exact q'
 ·rw[← nH y rv]
end
end L2
namespace L2
open PySem PySem.Spec PyProof.Rows PySem.SeqAt
section
variable{P:Program}{w:World}{K:PySem.W.Frag}{mg:Str→Option Value}{base:Heap}
end
section
variable{X:Cx}{o e value:Expr}{es:List Expr}{f m:Str}{pos pos' apos p:Pos}{ta tv:TE}{t:TA}{C:Addr}{x:Str}{ps:List Str}{sp:Sp}{j k:Nat}
end
section
variable{C:Addr}{f m:Str}{sp:Sp}{ta tv:TE}{t:TA}{σ : St}{H:Hp}{Q:VK}
end
theorem Cy{f:Str}:List.lookup f ([]:List (Str × V))=none:=rfl
theorem yt{f:Str}{v:V}:AX f v []=[(f,v)]:=rfl
end L2
namespace L2
open PySem PySem.Spec PyProof.Rows PySem.SeqAt
section
variable{X:Cx}
def wZ:V→List V→Hp→VK→Prop:=fun x xs H Q=>∃ s y,x = .str s∧xs=[.str y]∧(y.length == 0)=false∧s.length≤100000∧∀ l,H l=none→Q (.ref l) (upd H l (.lst ((Txt.split s y).map V.str)))
theorem fW{H:Hp}{Q:VK}(s y:Str):wZ (.str s) [.str y] H Q=((y.length == 0)=false∧s.length≤100000∧∀ l,H l=none→Q (.ref l) (upd H l (.lst ((Txt.split s y).map V.str)))):=
 propext ⟨fun ⟨_,_,e1,e2,q⟩=>by cases e1; cases e2; exact q,fun q=>⟨s,y,rfl,rfl,q⟩⟩
theorem yM(l:List (Str × Tok)):Vals ((l.map (·.1)).map V.str) (strValues l):=by
 induction l with
 | nil=>exact .nil
 | cons a l ih=>exact .cons ⟨a.2,rfl⟩ ih
theorem ku:MtR X "str.split" wZ:=by
 intro pins s σ H x xs v us Q I rx r h
 obtain⟨z,y,rfl,rfl,hy,hz,q⟩:=h
 obtain⟨t,rfl⟩:=rx
 obtain⟨u,rfl,ru⟩:=df r
 obtain⟨u,rfl⟩:=ru
 have hs:sizeLine=16777216:=sizeLine_eq
 have hn:(Txt.split z y).length≤z.length+2:=split_le z y
 have lay:∀ (l:List (Str × Tok)) (k:Tok),l.map (·.1)=Txt.split z y→EP X pins σ Q (.ref s.heap.objs.size) { s with heap:=s.heap.push { cls:=.type "list", data:=.seq (strValues l).toArray },toks:=k }:=by
  intro l k e
  refine⟨.ref s.heap.objs.size,_,I.laid (fun _ _ q=>Heap.get?_push_of_some _ q) (Nat.le_refl _) (show ObjOk X.prog X.w _ _ _ (.lst ((Txt.split z y).map V.str)) from ⟨by rw[List.length_map,hs]; omega,strValues l,_,e ▸ yM l,Heap.get?_push_size _ rfl⟩),rfl,q _ (I.hok.fresh (Nat.le_refl _))⟩
 cases h1:(decide (z.length<y.length)||decide (Builtin.Str.strKind z<Builtin.Str.strKind y))
 ·cases hf:(Builtin.Str.occurrences z y 0 z.length (z.length+1)).isEmpty
  ·have e:Txt.split z y=Builtin.Str.partsBetween z (Builtin.Str.occurrences z y 0 z.length (z.length+1)) y.length:=(if_neg (ne_true_of_eq_false h1)).trans (if_neg (ne_true_of_eq_false hf))
   refine call_meets F.slot_str_split (typeIs_str _ _ _) F.entry_str_split (F.args_str_split_2 _ _) (meets_str_split_sep z y t u h1 hy hf (by rw[hs]; omega) (by rw[← e,hs]; omega)) ?_
   show wants _ _ _ { s with toks:=_,heap:=s.heap.push { cls:=.type "list", data:=.seq (strsFrom s.toks (Builtin.Str.partsBetween z (Builtin.Str.occurrences z y 0 z.length (z.length+1)) y.length)).toArray } }
   rw[strsFrom_eq]
   exact lay (numbered s.toks _) _ ((numbered_texts _ _).trans e.symm)
  ·exact call_meets F.slot_str_split (typeIs_str _ _ _) F.entry_str_split (F.args_str_split_2 _ _) (meets_str_split_not_found z y t u h1 hy hf)
    (lay [(z,t)] _ ((if_neg (ne_true_of_eq_false h1)).trans (if_pos hf)).symm)
 ·exact call_meets F.slot_str_split (typeIs_str _ _ _) F.entry_str_split (F.args_str_split_2 _ _) (meets_str_split_cannot_occur z y t u h1) (lay [(z,t)] _ (if_pos h1).symm)
def C9:List V→Hp→VK→Prop:=fun xs H Q=>∃ x n,xs=[.str x]∧PySem.intText? x=some n∧x.length≤640∧Q (.int n) H
theorem oR:CallR X (.type "int") C9:=by
 intro pins s σ H xs us Q I r h
 obtain⟨x,n,rfl,hn,hl,q⟩:=h
 obtain⟨u,rfl,ru⟩:=df r
 obtain⟨t,rfl⟩:=ru
 exact PySem.W.KIN.call_text hn hl ⟨.int n,H,I.tok _,⟨_,rfl⟩,q⟩
end
theorem qj{c:Nat}:∀ {p q t u:List Nat},c∉p→c∉q→p++c::t=q++c::u→p=q∧t=u
 | [],[],_,_,_,_,e=>⟨rfl,(List.cons.inj e).2⟩
 | [],b::q,_,_,_,hq,e=>absurd ((List.cons.inj e).1 ▸ List.mem_cons_self) hq
 | a::p,[],_,_,hp,_,e=>absurd ((List.cons.inj e).1 ▸ List.mem_cons_self) hp
 | a::p,b::q,t,u,hp,hq,e=>by
  obtain⟨e1,e2⟩:=List.cons.inj e
  obtain⟨e3,e4⟩:=qj (p:=p) (q:=q) (fun z=>hp (List.mem_cons_of_mem _ z)) (fun z=>hq (List.mem_cons_of_mem _ z)) e2
  exact⟨by rw[e1,e3],e4⟩
theorem cM{x y:Str}(h:x.cps.toList=y.cps.toList):x=y:=by
 cases x; cases y
 exact congrArg _ (Array.toList_inj.mp h)
theorem bA(x y:Str):(x++y).cps.toList=x.cps.toList++y.cps.toList:=Array.toList_append
theorem kD(c:Nat)(x y:Str)(r:List Str):(Str.join ⟨#[c]⟩ (x::y::r)).cps.toList=x.cps.toList++c::(Str.join ⟨#[c]⟩ (y::r)).cps.toList:=by
 rw[join_cons_cons,bA,bA]
 show (x.cps.toList++[c])++_=_
 rw[List.append_assoc]; rfl
theorem li{c:Nat}:∀ {ps qs:List Str},ps≠[]→qs≠[]→(∀ p∈ps,c∉p.cps.toList)→(∀ q∈qs,c∉q.cps.toList)→Str.join ⟨#[c]⟩ ps=Str.join ⟨#[c]⟩ qs→ps=qs
 | [],_,h,_,_,_,_=>absurd rfl h
 | _::_,[],_,h,_,_,_=>absurd rfl h
 | [p],[q],_,_,_,_,e=>congrArg (fun z=>[z]) (show p=q from e)
 | [p],q::q'::qs,_,_,hp,_,e=>by
  have e':=congrArg (fun z:Str=>z.cps.toList) e
  simp only[kD]at e'
  have e2:p.cps.toList=q.cps.toList++c::(Str.join ⟨#[c]⟩ (q'::qs)).cps.toList:=e'
  exact absurd (e2 ▸ List.mem_append_right _ List.mem_cons_self) (hp p List.mem_cons_self)
 | p::p'::ps,[q],_,_,_,hq,e=>by
  have e':=congrArg (fun z:Str=>z.cps.toList) e
  simp only[kD]at e'
  have e2:q.cps.toList=p.cps.toList++c::(Str.join ⟨#[c]⟩ (p'::ps)).cps.toList:=e'.symm
  exact absurd (e2 ▸ List.mem_append_right _ List.mem_cons_self) (hq q List.mem_cons_self)
 | p::p'::ps,q::q'::qs,_,_,hp,hq,e=>by
  have e':=congrArg (fun z:Str=>z.cps.toList) e
  simp only[kD]at e'
  obtain⟨e1,e2⟩:=qj (hp p List.mem_cons_self) (hq q List.mem_cons_self) e'
  have ih:=li (ps:=p'::ps) (qs:=q'::qs) (by simp) (by simp) (fun z hz=>hp z (List.mem_cons_of_mem _ hz)) (fun z hz=>hq z (List.mem_cons_of_mem _ hz)) (cM e2)
  rw[cM e1,ih]
theorem cR{ws:List Str}(h:ws≠[])(hf:∀ x∈ws,32∉x.cps.toList):Txt.split (Txt.join " " ws) " " = ws:=by
 have e0:(" " : Str)=⟨#[32]⟩:=by decide +kernel
 have e1:Str.join ⟨#[32]⟩ (Txt.split (Txt.join " " ws) " ")=Str.join ⟨#[32]⟩ ws:=by
  have:=PySem.StrLaws.join_split (Txt.join " " ws) " "
  rw[e0]at this ⊢
  rw[this]
  exact PySem.StrLaws.glued_eq_join _ ws
 refine li ?_ h ?_ hf e1
 ·intro z
  have:=split_pos (Txt.join " " ws) " "
  rw[z]at this; exact absurd this (by decide)
 ·rw[e0]; exact PySem.StrLaws.split_free _ 32
theorem bR(m:Nat):PySem.NumText.AllDigits ((Nat.toDigits 10 m).map Char.toNat)∧(Nat.toDigits 10 m).map Char.toNat≠[]:=by
 constructor
 ·intro c hc
  obtain⟨ch,hch,e⟩:=List.mem_map.mp hc
  rw[← e]
  exact digit_range (Nat.isDigit_of_mem_toDigits (by decide) (by decide) hch)
 ·intro e
  have h:=tDigits_len_ge 10 m
  rw[List.map_eq_nil_iff.mp e]at h
  exact absurd h (by decide)
theorem vy{m:Nat}(h:m<10 ^ 61):(Nat.toDigits 10 m).length≤61:=digits10_le (by decide) h
theorem ni{n:Int}(h:n.natAbs<10 ^ 61):PySem.intText? (Str.ofString (toString n))=some n∧(Str.ofString (toString n)).length≤640:=by
 obtain⟨d1,d2⟩:=bR n.natAbs
 have hl:=vy h
 cases n with
 | ofNat m=>
  have e:(Str.ofString (toString (Int.ofNat m))).cps.toList=(Nat.toDigits 10 m).map Char.toNat:=PySem.W.KIN.signs_num m
  have el:(Str.ofString (toString (Int.ofNat m))).length=(Nat.toDigits 10 m).length:=by
   have:=congrArg List.length e
   rw[List.length_map]at this
   rw[← this]; exact Array.length_toList.symm
  have hm:(Nat.toDigits 10 m).length≤61:=hl
  refine⟨?_,by omega⟩
  have z:=intText_digits (x:=Str.ofString (toString (Int.ofNat m))) (by rw[e]; exact d1) (by rw[e]; exact d2) (by omega)
  rw[e,PySem.W.KIN.val_back]at z
  exact z
 | negSucc m=>
  have e:(Str.ofString (toString (Int.negSucc m))).cps.toList=45::(Nat.toDigits 10 (m+1)).map Char.toNat:=by
   rw[signs_ofString]
   show ("-" ++ Nat.repr (m+1)).toList.map Char.toNat=_
   rw[String.toList_append,List.map_append,Nat.toList_repr]; rfl
  have el:(Str.ofString (toString (Int.negSucc m))).length=(Nat.toDigits 10 (m+1)).length+1:=by
   have:=congrArg List.length e
   rw[List.length_cons,List.length_map]at this
   rw[← this]; exact Array.length_toList.symm
  have hm:(Nat.toDigits 10 (m+1)).length≤61:=hl
  refine⟨?_,by omega⟩
  have z:=intText_neg (x:=Str.ofString (toString (Int.negSucc m))) e d1 d2 (by omega)
  rw[PySem.W.KIN.val_back]at z
  exact z
end L2
namespace L2
open PySem PySem.Spec PyProof.Rows
section
variable{X:Cx}{tg e:Expr}
end
end L2
namespace L2
open PySem PySem.Spec PyProof.Rows PySem.SeqAt
section
variable{prog:Program}{w:World}{A:Around}{R:Result→Shared→Prop}{I:Addr}{fp wr:List Addr}{Gm:Array GenState→Array GenState→Prop}{n:Nat}{P:Nat→Value→Prop}{St:Nat→Shared→Prop}{L:Bool}
end
section
variable{prog:Program}{w:World}{A:Around}{E:Value→Shared→Prop}{s:Shared}
end
section
variable{X:Cx}
end
section
variable{prog:Program}{w:World}{A:Around}{E:Value→Shared→Prop}{s:Shared}
end
section
variable{X:Cx}
end
section
variable{X:Cx}{c a b:Expr}{tA tB1 tB2:TT}{pos:Pos}
end
end L2
namespace L2
open PySem PySem.Spec PyProof.Rows PySem.SeqAt PySem.Builtin PySem.Builtin.Str PySem.StrLaws
section
variable{X:Cx}
def nJ:V→List V→Hp→VK→Prop:=fun x xs H Q=>∃ s y,x = .str s∧xs=[.str y]∧(y.length == 0)=false∧s.length≤100000∧∀ l,H l=none→Q (.ref l) (upd H l (.tup [.str (Txt.partition s y).1,.str (Txt.partition s y).2.1,.str (Txt.partition s y).2.2]))
theorem dm{H:Hp}{Q:VK}(s y:Str):nJ (.str s) [.str y] H Q=((y.length == 0)=false∧s.length≤100000∧∀ l,H l=none→Q (.ref l) (upd H l (.tup [.str (Txt.partition s y).1,.str (Txt.partition s y).2.1,.str (Txt.partition s y).2.2]))):=
 propext ⟨fun ⟨_,_,e1,e2,q⟩=>by cases e1; cases e2; exact q,fun q=>⟨s,y,rfl,rfl,q⟩⟩
theorem lO:MtR X "str.partition" nJ:=by
 intro pins s σ H x xs v us Q I rx r h
 obtain⟨z,y,rfl,rfl,hy,hz,q⟩:=h
 obtain⟨t,rfl⟩:=rx
 obtain⟨u,rfl,ru⟩:=df r
 obtain⟨u,rfl⟩:=ru
 have hs:sizeLine=16777216:=sizeLine_eq
 refine call_meets F.slot_str_partition (typeIs_str _ _ _) F.entry_str_partition (F.args_str_partition_2 _ _) (meets_str_partition z y t u hy (by rw[hs]; omega)) ?_
 have lay:∀ (a b c:Str) (ta tb tc:Tok) (k:Nat),(a,b,c)=Txt.partition z y→EP X pins σ Q (.ref s.heap.objs.size) { s with toks:=k,heap:=s.heap.push { cls:=.type "tuple", data:=.seq [.str a ta,.str b tb,.str c tc].toArray } }:=by
  intro a b c ta tb tc k e
  refine⟨.ref s.heap.objs.size,_,I.laid (fun _ _ q=>Heap.get?_push_of_some _ q) (Nat.le_refl _) (show ObjOk X.prog X.w _ _ _ (.tup [.str a,.str b,.str c]) from ⟨by rw[hs]; show 3≤_; decide,[.str a ta,.str b tb,.str c tc],.cons ⟨ta,rfl⟩ (.cons ⟨tb,rfl⟩ (.cons ⟨tc,rfl⟩ .nil)),⟨_,Heap.get?_push_size _ rfl,rfl,rfl,0,rfl⟩⟩),rfl,?_⟩
  have:=q _ (I.hok.fresh (Nat.le_refl s.heap.objs.size))
  rw[← e]at this
  exact this
 have lay':=lay
 unfold Txt.partition at lay'
 revert lay'
 cases occurrences z y 0 z.length 1 with
 | nil=>intro l; exact l _ _ _ _ _ _ _ rfl
 | cons i r=>intro l; exact l _ _ _ _ _ _ _ rfl
end
theorem ow{x y:Str}{c:Nat}{r:List Nat}(hy:y.cps.toList=c::r){i:Nat}(h:At x y x.length i):x.cps.toList[i]? = some c:=by
 have h2:=h.2
 rw[subAt_eq,hy]at h2
 have h3:=eq_of_beq h2
 have hl:y.length=r.length+1:=by show y.cps.size=_; rw[← Array.length_toList,hy]; rfl
 rw[hl]at h3
 have h4:=congrArg (·[0]?) h3
 simpa using h4
theorem uh{x y:Str}{p q:List Nat}(hx:x.cps.toList=p++(y.cps.toList++q)):At x y x.length p.length:=by
 have hl:x.length=p.length+(y.length+q.length):=by
  show x.cps.size=p.length+(y.cps.size+_)
  rw[← Array.length_toList,← Array.length_toList,hx,List.length_append,List.length_append]
 refine⟨by omega,?_⟩
 rw[subAt_eq,hx,List.drop_left,show y.length=y.cps.toList.length from (Array.length_toList).symm ▸ rfl,List.take_left]
 simp
theorem sZ{x:Str}{p m q:List Nat}(hx:x.cps.toList=p++(m++q)):(strSub x p.length (p.length+m.length)).cps.toList=m:=by
 rw[strSub_toList,hx,List.drop_left,show p.length+m.length - p.length=m.length by omega,List.take_left]
theorem AB{x a b y:Str}{c:Nat}{r:List Nat}(hy:y.cps.toList=c::r)(hx:x.cps.toList=a.cps.toList++(y.cps.toList++b.cps.toList))(hc:c∉a.cps.toList):Txt.partition x y=(a,y,b):=by
 have hA:=uh (p:=a.cps.toList) hx
 unfold Txt.partition
 rcases occ_head x y 1 (Nat.le_refl 1) with ⟨h0,hn⟩ | ⟨i,rr,h0,ha,hn⟩
 ·exact absurd hA (hn _)
 ·rw[h0]
  have hi:i=a.cps.toList.length:=by
   rcases Nat.lt_trichotomy i a.cps.toList.length with z | z | z
   ·have:=ow hy ha
    rw[hx,List.getElem?_append_left z]at this
    exact absurd (List.mem_of_getElem? this) hc
   ·exact z
   ·exact absurd hA (hn _ z)
  subst hi
  have e1:strSub x 0 a.cps.toList.length=a:=cM (by
   have:=sZ (x:=x) (p:=[]) (m:=a.cps.toList) (q:=y.cps.toList++b.cps.toList) hx
   simpa using this)
  have hl:x.length=(a.cps.toList++y.cps.toList).length+b.cps.toList.length:=by
   show x.cps.size=_
   rw[← Array.length_toList,hx,List.length_append,List.length_append,List.length_append]; omega
  have e2:strSub x (a.cps.toList.length+y.length) x.length=b:=cM (by
   have:=sZ (x:=x) (p:=a.cps.toList++y.cps.toList) (m:=b.cps.toList) (q:=[]) (by rw[hx,List.append_nil,List.append_assoc])
   rw[← hl,List.length_append]at this
   rw[show y.length=y.cps.toList.length from (Array.length_toList).symm ▸ rfl]
   exact this)
  show (strSub x 0 a.cps.toList.length,y,strSub x (a.cps.toList.length+y.length) x.length)=_
  rw[e1,e2]
end L2
namespace L2
open PySem PySem.Spec PyProof.Rows PySem.SeqAt PySem.Builtin PySem.Builtin.Str PySem.StrLaws
def qD:V→List V→Hp→VK→Prop:=fun x xs H Q=>∃ s y,x = .str s∧xs=[.str y]∧Q (.bl (decide (0+y.length≤s.length)&&subAt s y 0)) H
theorem dU{H:Hp}{Q:VK}(s y:Str):qD (.str s) [.str y] H Q=Q (.bl (decide (0+y.length≤s.length)&&subAt s y 0)) H:=
 propext ⟨fun ⟨_,_,e1,e2,q⟩=>by cases e1; cases e2; exact q,fun q=>⟨s,y,rfl,rfl,q⟩⟩
theorem k_{X:Cx}:MtR X "str.startswith" qD:=by
 intro pins s σ H x xs v us Q I rx r h
 obtain⟨z,y,rfl,rfl,q⟩:=h
 obtain⟨t,rfl⟩:=rx
 obtain⟨u,rfl,ru⟩:=df r
 obtain⟨u,rfl⟩:=ru
 exact call_gives F.slot_str_startswith (typeIs_str _ _ _) F.entry_str_startswith (F.args_str_startswith_2 _ _) (gives_str_startswith z y t u) ⟨.bl _,H,I,rfl,q⟩
theorem qi{X:Cx}(K:PySem.W.Frag)(hK:X.K=K:=by rfl):OpR X (binaryOp .Add) (uJ K):=hK ▸ Ap
theorem g9{K:PySem.W.Frag}{H:Hp}{Q:VK}(a b:Addr):uJ K (.ref a) (.ref b) H Q=∃ xs ys,SqT K H a xs∧SqT K H b ys∧xs≠[]∧xs.length+ys.length≤sizeLine∧(ys=[]→Q (.ref a) H)∧(ys≠[]→∀ p,H p=none→Q (.ref p) (upd H p (.tup (xs++ys)))):=
 propext ⟨fun ⟨_,_,xs,ys,e1,e2,q⟩=>by cases e1; cases e2; exact⟨xs,ys,q⟩,fun ⟨xs,ys,q⟩=>⟨a,b,xs,ys,rfl,rfl,q⟩⟩
end L2
namespace L2
open PySem PySem.Spec PyProof.Rows
section
variable{X:Cx}
end
end L2
namespace L2
open PySem PySem.Spec PyProof.Rows
abbrev CG:=List (Option Int)
section
variable{P:Program}{w:World}{H:Hp}
end
section
variable{X:Cx}{pins:List (Addr × Obj)}{σ : St}{H:Hp}{s:Shared}{a b:Addr}{k:CG}{kvs:List (CG × V)}
end
end L2
namespace L2
open PySem PySem.Spec PyProof.Rows
def tP(P:Program)(w:World):lb:=fun outer H s E e s'=>
 ∃ (H':Hp) (hR:Heap) (a:Addr) (C a0:Value) (fl:List Addr),e = .ref a∧s'.os=s.os∧AllBare s'.gens∧
  Un (fe outer) [] H H' s.heap hR∧HOk P w H' hR∧(∀ b∈fl,H' b=none∧(b∈fe outer∨s.heap.get? b=none))∧(∀ b∈fe outer,b∈fl)∧
  Heap.FlyingW (PySem.W.hideAll hR fl) outer a C a0 s'.heap∧hR.UpToSlots s'.heap∧E C none H'
theorem m6{P:Program}{w:World}{H:Hp}{h h':Heap}{fl:List Addr}(x:HOk P w H h)(hf:∀ b∈fl,H b=none)(k:(PySem.W.hideAll h fl).StaysIn h'):HOk P w H h':=fun a o e=>by
 refine(x a o e).stay (fun b u hb q=>k b u (PySem.W.hideAll_get _ q fun z=>?_)) (fun _ q=>q) fun _ _ q=>q
 have:=hf b z
 rcases hb with rfl | hb
 ·rw[e]at this; cases this
 ·rw[hb]at this; cases this
theorem Ae{P:Program}{w:World}{H:Hp}{h:Heap}{fl:List Addr}{a:Addr}(x:HOk P w H h)(hf:∀ b∈fl,H b=none)(n:(PySem.W.hideAll h fl).get? a=none):H a=none:=by
 cases q:H a with
 | none=>rfl
 | some o=>
  exfalso
  have y:ObjOk P w H (PySem.W.hideAll h fl) a o:=m6 x hf (fun b o z=>z) a o q
  have:∃ ob,(PySem.W.hideAll h fl).get? a=some ob:=by
   cases o with
   | lst xs=>obtain⟨_,_,_,_,e⟩:=y; exact⟨_,e⟩
   | tup xs=>obtain⟨_,_,_,ob,e,_⟩:=y; exact⟨_,e⟩
   | dK kvs=>obtain⟨_,_,_,_,o,_,_,e,_⟩:=y; exact⟨_,e⟩
   | dT kvs=>obtain⟨_,_,_,_,o,_,_,e,_⟩:=y; exact⟨_,e⟩
   | set S n=>obtain⟨o,_,_,_,e,_⟩:=y; exact⟨_,e⟩
   | ins C dx fs=>obtain⟨_,_,_,e,_⟩:=y; exact⟨_,e⟩
   | own y'=>obtain⟨_,e⟩:=y; exact⟨_,e⟩
   | xd fs=>obtain⟨_,⟨_,_,_,e,_⟩,_⟩:=y; exact⟨_,e⟩
   | rng lo hi=>obtain⟨t,u,v,e⟩:=y; exact⟨_,e⟩
   | frz ob u=>exact⟨_,y.1⟩
   | tbl ps=>exact⟨_,y⟩
   | met f z=>exact⟨_,y⟩
   | ext φ=>exact y.2.1
  obtain⟨ob,e⟩:=this
  rw[n]at e; cases e
theorem wu{P:Program}{w:World}{fs:List Addr}{H H':Hp}{h hR h':Heap}{fl:List Addr}(u:Un fs [] H H' h hR)(hf:∀ b∈fl,H' b=none∧(b∈fs∨h.get? b=none))(hs:∀ b∈fs,b∈fl)
  (nf:∀ b∈fs,H b=none∧∃ o,h.get? b=some o∧∀ vs,o.data ≠ .fields vs) (k:(PySem.W.hideAll hR fl).StaysIn h') (sl:hR.UpToSlots h'):Un fs [] H H' h h':=by
 have nfl:∀ b o,h.get? b=some o→b∉fs→b∉fl:=fun b o q hb z=>by
  rcases(hf b z).2 with y | y
  ·exact hb y
  ·rw[q]at y; cases y
 refine⟨fun b o q n hb hx=>k b o (PySem.W.hideAll_get _ (u.keep b o q n hb hx) (nfl b o q hb)),fun b o q n hb hx=>?_,u.free,fun b o q hx=>?_,u.tups,u.frzs,u.tbls⟩
 ·obtain⟨s1,e1⟩:=u.slot b o q n hb hx
  obtain⟨_,o',e',nd⟩:=nf b hb
  rw[q]at e'; cases e'
  obtain⟨s2,e2⟩:=sl b _ e1 nd
  exact⟨s2,e2⟩
 ·by_cases hb:b∈fs
  ·obtain⟨n,o',e',nd⟩:=nf b hb
   rw[q]at e'; cases e'
   obtain⟨s1,e1⟩:=u.slot b o q n hb hx
   obtain⟨s2,e2⟩:=sl b _ e1 nd
   exact⟨_,e2⟩
  ·obtain⟨o',e⟩:=u.there b o q hx
   exact⟨o',k b o' (PySem.W.hideAll_get _ e (nfl b o q hb))⟩
structure Lv (X:Cx) (E:XK):Prop where
 st:X.stack=X.env::X.outer
 fr:X.env.frame=some X.env.locals
 ex:X.ex=[]
 calm:X.calm=true
 xe:∀ e s',wpAny (model X.prog X.w) X.A (leaving X.env e) (fun _ s''=>tP X.prog X.w X.outer X.H₀ X.s₀ E e s'') (fun e' s''=>tP X.prog X.w X.outer X.H₀ X.s₀ E e' s'') s'→X.xe e s'
theorem iy{P:Program}{w:World}{K:PySem.W.Frag}{mg:Str→Option Value}{base:Heap}{N:List Str}{qual:Str}{scope:Scope}{f:Addr}{cd:Value}{A:Around}{outer:List Env}{s:Shared}{H:Hp}{E:XK} :
  Lv (kA (tP P w) P w K mg base N qual scope f cd A outer s H E) E:=⟨rfl,rfl,rfl,rfl,fun _ _ h=>h⟩
section
variable{X:Cx}{E:XK}{x:Str}{C:Addr}{bmB:List Value}{B newId initId:String}{np cpos pos:Pos}{e:Expr}{es:List Expr}{t:TA}
def rp(C:Addr)(E:XK)(ta:TA):TS:=fun _ σ H=>ta σ H fun vs H1=>vs.length≤sizeLine∧E (.ref C) none H1
theorem Lv.sub(L:Lv X E){b:Addr}(h:b∈fe X.outer):b∈fe X.stack:=by
 rw[L.st]; unfold fe; rw[List.filterMap_cons,L.fr]; exact List.mem_cons_of_mem _ h
theorem yz(L:Lv X E)(O:OwnCls x C bmB newId X.mg X.base)(FB:ExcBaseFacts B newId initId bmB)(ha:PA X (e::es) t)(hg:Gl X x:=by rfl)(hd:(x == ("__debug__" : Str))=false:=by decide)
  (he:starEach (e::es) X.env=(false,eval e X.env)::starEach es X.env:=by rfl) (hpl:(backTo cpos (starEach es X.env)).any (·.1)=false:=by rfl) :
  PS X (.Raise (some (.Call (.Name x np) (e::es) [] cpos)) none pos) (rp C E t):=by
 intro pins s σ H D I h
 obtain⟨tl,N,nm,q,bs,hdct,sn,sub,ab,col,dd,k0,k1,k2,k3,k5,mN,hC,hN,hni,T⟩:=O.obj
 refine wpAny_Raise_call_subT (C:=C) (nm:=nm) (q:=q) (N:=N) (bs:=bs) (bm:=tl) (hdct:=hdct) (sn:=sn) (sub:=sub) (ab:=ab) (col:=col) (dd:=dd) (k0:=k0) (k1:=k1) (k2:=k2) (k3:=k3) (k5:=k5)
  FB (mN:=mN) (T.hasType FB.hasBase) (I.ok.hd L.calm) (by rw[he]; show (false||(backTo cpos (starEach es X.env)).any (·.1))=false; rw[hpl]; rfl) hni (kf I hg O.bound ⟨rfl,?_⟩ hd)
 have h0:=ha cpos pins s σ H _ I h
 rw[he]at h0 ⊢
 refine Calls.evalArgs_plain (wpAny_mono h0 (fun us s₂ ⟨vs,H2,I2,r,z,q⟩=>⟨rfl,(by rw[← r.length]; exact z),I2.bk _ _ hC,hN.keeps I2.bk,T.keeps I2.bk,fun h' a hm=>L.xe _ _ ?_⟩) fun _ _ y=>y)
 have hin:∀ env∈(X.env::X.outer),∀ b,env.frame=some b→b∈fe X.stack:=fun env hm b hb=>by
  rw[L.st]; exact List.mem_filterMap.mpr ⟨env,hm,hb⟩
 have hfr:=I2.stack
 rw[L.st]at hfr
 refine wpAny_leaves_madeW (base:=PySem.W.hideAll s₂.heap (fe X.stack)) (by rw[I.ok.frames,L.st]) L.fr (fun b o q=>PySem.W.of_hideAll _ q) (PySem.W.funFrames_hide hfr hin) hm fun h'' t0 x1 x2 x3 x4=>?_
 refine⟨H2,s₂.heap,a,.ref C,.ref t0,fe X.stack,rfl,I2.os,I2.bare,(by have:=I2.base; rw[L.ex]at this; exact this),I2.hok,fun b hb=>⟨I2.stkFree b hb,?_⟩,fun b hb=>L.sub hb,x1,(Heap.UpToSlots.of_keeps hm.keeps).trans x4,q⟩
 rcases List.mem_cons.mp (I2.stkSub b hb) with rfl | hb
 ·exact .inr (Heap.get?_none_of_le I2.ok.above)
 ·exact .inl hb
end
structure CalX (P:Program) (w:World) (K:PySem.W.Frag) (mg:Str→Option Value) (base:Heap) (k:Nat) (x:Str) (ps:List Str) (sp:Sp):Prop where
 ex:∃ f fd,jk P w K mg base (tP P w) k f fd ps sp∧Binds K fd ps []∧PySem.W.keepIn K (.ref f)=true∧mg x=some (.ref f)
section
variable{P:Program}{w:World}{K:PySem.W.Frag}{mg:Str→Option Value}{base:Heap}
theorem CalX.calm{k:Nat}{x:Str}{ps:List Str}{sp sp':Sp}(c:CalX P w K mg base k x ps sp)(h:∀ vs H Q E,sp' vs H Q E→sp vs H Q E0):bf P w K mg base k x ps sp':=by
 obtain⟨f,fd,F,b,kp,m⟩:=c.ex
 refine⟨f,fd,⟨fun vs H Q E q=>F.len vs H Q _ (h _ _ _ _ q),fun A outer s H args us vs Q E hr he hb hv hs=>codeAny_mono (F.run A outer s H args us vs Q E0 hr he hb hv (h _ _ _ _ hs)) fun r s' h=>?_⟩,b,kp,m⟩
 cases r with
 | error e=>obtain⟨_,_,_,_,_,_,_,_,_,_,_,_,_,_,_,q⟩:=h; exact False.elim q
 | ok fl=>cases fl <;> exact h
theorem DefAt.calX{x:Str}{st:Stmt}{N ps:List Str}{k:Nat}{sp:Sp}(D:DefAt K mg x st)(S:bc N ps (defScope st))
  (hb:∀ (kV doc pm:Value) (an:Option Addr) (cdv ct:Value) (us:List Value),us.length=ps.length→bindArgs (PySem.W.fnOf x x (defArgs st) (defBody st) (defScope st) .none kV doc pm an cdv ct) ⟨us,[]⟩=pure (ps.zip us))
  (len:∀ vs H Q E,sp vs H Q E→vs.length=ps.length)
  (hbody:∀ (f:Addr) (cdv:Value) (A:Around) (outer:List Env) (s:Shared) (H:Hp) (vs:List V) (Q:VK) (E:XK),Room k (A.deeper (envOfC x (defScope st) s.heap.objs.size f cdv))→sp vs H Q E→
   ∃ t,PSs (kA (tP P w) P w K mg base N x (defScope st) f cdv A outer s H E) (defBody st) t∧t { nx:=fun _ H'=>Q .non H',rt:=Q } (start N vs) H):CalX P w K mg base (k+1) x ps sp:=by
 obtain⟨f,fd,F,m⟩:=D.ex
 have fb:=F.binds hb
 have kp:=F.kp
 obtain⟨oc,od,kV,doc,pm,an,cdv,ct,osl,rfl,lk,hcd⟩:=F.ex
 exact⟨f,_,zk lk hcd S len fun A outer s H vs Q E hr hsp=>hbody f cdv A outer s H vs Q E hr hsp,fb,kp,m⟩
end
section
variable{X:Cx}
end
def XA(X:Cx)(Ee:XK)(pins:List (Addr × Obj))(σ : St):Value→Shared→Prop:=fun e s'=>∃ H0 s0,Inv X pins σ H0 s0∧tP X.prog X.w X.stack H0 s0 Ee e s'
def DE(X:Cx)(Ee:XK)(e:Expr)(t:TE):Prop:=
 ∀ (pins:List (Addr × Obj)) (s:Shared) (σ : St) (H:Hp) (Q:VK),Inv X pins σ H s→t σ H Q→wpAny (model X.prog X.w) X.A (eval e X.env) (EP X pins σ Q) (XA X Ee pins σ) s
def DM(X:Cx)(Ee:XK)(st:Stmt)(t:TS):Prop:=
 ∀ (pins:List (Addr × Obj)) (s:Shared) (σ : St) (H:Hp) (D:dz),Inv X pins σ H s→t D σ H→wpAny (model X.prog X.w) X.A (exec st X.env) (SP X pins D) (XA X Ee pins σ) s
def yk(X:Cx)(Ee:XK)(st:List Stmt)(t:TS):Prop:=
 ∀ (pins:List (Addr × Obj)) (s:Shared) (σ : St) (H:Hp) (D:dz),Inv X pins σ H s→t D σ H→wpAny (model X.prog X.w) X.A (execs st X.env) (SP X pins D) (XA X Ee pins σ) s
section
variable{X:Cx}{Ee:XK}
theorem AA{j k:Nat}{x:Str}{ps:List Str}{sp:Sp}{p pos:Pos}{e:Expr}{es:List Expr}{t:TA}(c:CalX X.prog X.w X.K X.mg X.base j x ps sp)(hr:Room k X.A)(ha:PA X.nox (e::es) t)(hle:j≤k:=by decide)(hg:Gl X x:=by rfl)
  (hdb:(x == ("__debug__" : Str))=false:=by decide) (he:starEach (e::es) X.env=(false,eval e X.env)::starEach es X.env:=by rfl) (hpl:(backTo pos (starEach es X.env)).any (·.1)=false:=by rfl) :
  DE X Ee (.Call (.Name x p) (e::es) [] pos) (p8 sp [] Ee t):=by
 obtain⟨f,fd,F,b,kp,m⟩:=c.ex
 intro pins s σ H Q I h
 refine wpAny_Call_Name_kw (kf I hg m ?_ hdb)
 refine PySem.W.callWith_K (h₀:=X.base) I.ok.mod.kin kp (wpAny_mono (ha pos pins s σ H _ (I.wish _) h) (fun us s1 ⟨vs,H1,I1,r,q⟩=>⟨I1.kIn,?_⟩) fun _ _ z=>False.elim z) he hpl
 have I1:=I1.unwish
 have q:sp vs H1 Q Ee:=by have:=q; simp only[List.append_nil]at this; exact this
 have hl:us.length=ps.length:=by rw[← r.length]; exact F.len _ _ _ _ q
 have hb:=b s1 us I1.kIn (by rw[List.append_nil]; exact hl)
 rw[List.append_nil]at hb
 refine wpAny_call (codeAny_mono (F.run X.A X.stack s1 H1 ⟨us,[]⟩ us vs Q Ee (hr.mono hle) I1.env0 hb r q) fun r s' hq=>?_)
 cases r with
 | error e=>exact⟨H1,s1,I1,hq⟩
 | ok fl=>
  cases fl with
  | ret u=>exact I1.after hq
  | next=>exact False.elim hq
  | brk=>exact False.elim hq
  | cont=>exact False.elim hq
theorem Af{e:Expr}{te:TE}{pos:Pos}(he:DE X Ee e te)(hs:swapsWith e none pos.line X.env=pure false:=by rfl):DM X Ee (.Expr e pos) (kG te):=by
 intro pins s σ H D I h
 exact wpAny_Expr_any (bo (he pins s σ H _ I h) fun v s1 ⟨x,H1,I1,r1,q1⟩=>⟨σ,H1,I1,q1⟩) I.quiet hs
theorem zJ{st:Stmt}{t:TS}(h:DM X Ee st t):yk X Ee [st] t:=by
 intro pins s σ H D I h'
 refine wpAny_execs_cons (bo (h pins s σ H D I h') fun f s1 q=>?_)
 cases f with
 | next=>exact wpAny_execs_nil q
 | ret v=>exact q
 | brk=>exact q
 | cont=>exact q
end
abbrev Cx.held (X:Cx) (a:Addr):Cx:={ X with A:=X.A.mark (some (.ref a)),calm:=false,xe:=fun _ _=>False }
section
variable{X:Cx}{pins:List (Addr × Obj)}{σ : St}{H:Hp}{s:Shared}
theorem Inv.held(I:Inv X pins σ H s)(a:Addr):Inv (X.held a) pins σ H s:=
 ⟨⟨I.ok.mod,I.ok.kind,I.ok.glob,I.ok.blt,I.ok.above,I.ok.inj,I.ok.has,I.ok.cab,fun z=>Bool.noConfusion (show false=true from z),I.ok.frames,I.ok.stk,I.ok.exf,I.ok.bs,I.ok.bsz,I.ok.noex,I.ok.exfs,I.ok.funs,I.ok.frf⟩,I.os,I.bare,I.base,I.loc,I.cell,I.free,I.freeC,I.pin,I.hok,I.len⟩
theorem Inv.unheld{a:Addr}(I:Inv (X.held a) pins σ H s)(ok:X.Ok):Inv X pins σ H s:=⟨ok,I.os,I.bare,I.base,I.loc,I.cell,I.free,I.freeC,I.pin,I.hok,I.len⟩
theorem Inv.track{a:Addr}{o:HO}(I:Inv X pins σ H s)(hn:H a=none)(h0:∀ b ob,X.s₀.heap.get? b=some ob→b≠a)(hl:X.env.locals≠a)(hc:∀ x c,X.env.cells.lookup x=some c→c≠a)
  (hp:∀ p∈X.pn++pins,p.1≠a) (ok:ObjOk X.prog X.w (upd H a o) s.heap a o) (hx:X.ex=[]):Inv X pins σ (upd H a o) s:=by
 refine⟨I.ok,I.os,I.bare,⟨I.base.keep,I.base.slot,fun b ob q n z=>?_,I.base.there,fun b xs q=>?_,fun b ob xs q=>?_,fun b ps q=>?_⟩,I.loc,I.cell,?_,fun x c q=>?_,fun p hm=>?_,fun b ob q=>?_,I.len⟩
 ·rw[aA (h0 b ob q)]; exact I.base.free b ob q n z
 ·have:=I.base.tups b xs q; rw[aA (aZ this hn)]; exact this
 ·have:=I.base.frzs b ob xs q; rw[aA (aZ this hn)]; exact this
 ·obtain⟨m,e⟩:=I.base.tbls b ps q; exact⟨m,by rw[aA (aZ e hn)]; exact e⟩
 ·rw[aA hl]; exact I.free
 ·rw[aA (hc x c q)]; exact I.freeC x c q
 ·obtain⟨e1,e2,e3⟩:=I.pin p hm
  exact⟨e1,by rw[aA (hp p hm)]; exact e2,e3⟩
 ·by_cases e:b=a
  ·subst e; rw[show upd H b o b=some o from if_pos rfl]at q; cases q; exact ok
  ·rw[aA e]at q
   exact(I.hok b ob q).stay (fun _ _ _ z=>z) (fun c z=>by rw[aA (aZ z hn)]; exact z) fun c xs z=>by rw[aA (aZ z hn)]; exact z
theorem Inv.goes{i:Nat}{x:Str}{v:Option Value}{h':Heap}{m:Str→Option Value}{t':Nat}(I:Inv X pins σ H s)(hN:X.N.Nodup)(hi:X.N[i]? = some x)(hk:X.env.kindOf x=some .local)
  (hl:∀ (i:Nat) (x:Str) (v:V),X.N[i]? = some x→σ[i]? = some (some v)→aM X.env.scope x→∃ u,RelV v u∧CA X.env s.heap m x u)
  (hn':h'.Ns X.env.locals (fun y=>if y=x then v else m y)) (hn:s.heap.Ns X.env.locals m) (hs:Heap.SameBut X.env.locals s.heap h'):Inv X pins (σ.set i none) H { s with heap:=h',toks:=t' }:=by
 have cne:=I.cne
 have neL:∀ b o,X.s₀.heap.get? b=some o→b≠X.env.locals:=fun b o e=>Nat.ne_of_lt (Nat.lt_of_lt_of_le (Heap.lt_size e) I.ok.above)
 have hiσ : i<σ.length:=by rw[I.len]; exact(List.getElem?_eq_some_iff.mp hi).1
 refine⟨I.ok,I.os,I.bare,⟨fun b o e n hb hx=>?_,fun b o e n hb hx=>?_,I.base.free,fun b o e hx=>?_,I.base.tups,I.base.frzs,I.base.tbls⟩,⟨_,hn',fun j y v' e1 e2 e3=>?_⟩,fun y c e=>?_,I.free,I.freeC,fun p hp=>?_,fun b ob e=>?_,by simpa using I.len⟩
 ·exact(hs.2 b (neL b o e)).trans (I.base.keep b o e n hb hx)
 ·obtain⟨sl,e1⟩:=I.base.slot b o e n hb hx
  exact⟨sl,(hs.2 b (neL b o e)).trans e1⟩
 ·obtain⟨o',e1⟩:=I.base.there b o e hx
  exact⟨o',(hs.2 b (neL b o e)).trans e1⟩
 ·by_cases hj:j=i
  ·subst hj
   rw[List.getElem?_set_self hiσ]at e2
   cases e2
  ·rw[List.getElem?_set_ne (Ne.symm hj)]at e2
   obtain⟨u',r',q⟩:=hl j y v' e1 e2 e3
   refine⟨u',r',?_⟩
   rcases q with ⟨k,e⟩ | ⟨k,c,e,z⟩
   ·refine .inl ⟨k,?_⟩
    have:y≠x:=fun e=>hj (ng hN e1 (e ▸ hi))
    simp[this,e]
   ·exact .inr ⟨k,c,e,z.sameBut hs (cne y c e)⟩
 ·obtain⟨w',z⟩:=I.cell y c e
  exact⟨w',z.sameBut hs (cne y c e)⟩
 ·obtain⟨e,n,ne,nf,d⟩:=I.pin p hp
  exact⟨(hs.2 p.1 ne).trans e,n,ne,nf,d⟩
 ·refine(I.hok b ob e).stay (fun c w' hc q=>(hs.2 c ?_).trans q) (fun _ q=>q) fun _ _ q=>q
  rintro rfl
  have hfree:=I.free
  rcases hc with rfl | hc
  ·rw[hfree]at e; cases e
  ·rw[hfree]at hc; cases hc
end
abbrev jJ (a:Addr) (C:Value):HO:=.ext fun h=>∃ o,h.get? a=some o∧o.cls=C
def yR(C:Addr)(i:Nat)(tb:XK→TS)(th:TS):TS:=fun D σ H=>
 tb (fun C' _ H'=>C' = .ref C∧∀ a,H' a=none→th { nx:=fun σ' H2=>D.nx (σ'.set i none) H2,rt:=D.rt,bk:=fun σ' H2=>D.bk (σ'.set i none) H2,ct:=fun σ' H2=>D.ct (σ'.set i none) H2 } (σ.set i (some (.ref a))) (upd H' a (jJ a (.ref C)))) D σ H
section
variable{X:Cx}{x n:Str}{C:Addr}{bmB:List Value}{B newId initId:String}{np hp pos:Pos}{body suite:List Stmt}{b₀ : Stmt}{tb:XK→TS}{th:TS}{bg:List ExceptHandler}
theorem AY(i:Nat)(hst:X.stack=X.env::X.outer)(hfr:X.env.frame=some X.env.locals)(hex:X.ex=[])(hN:X.N.Nodup)(O:OwnClsQ x C bmB newId X.mg X.base)(hbase:bmB.contains (.type "BaseException")=true)
  (hb:∀ Ee,yk X Ee body (tb Ee)) (hs:∀ a,PSs (X.held a) (b₀::suite) th) (hi:X.N[i]? = some n:=by rfl) (hk:X.env.kindOf n=some .local:=by rfl) (hg:Gl X x:=by rfl) (hd:(x == ("__debug__" : Str))=false:=by decide) :
  PS X (.Try body (.ExceptHandler (some (.Name x np)) (some n) (b₀::suite) hp::bg) [] [] pos) (yR C i tb th):=by
 intro pins s σ H D I h
 refine wpAny_Try_except (wpAny_mono (hb _ pins s σ H D I h) (fun f s1 q=>?_) fun e s1 q=>?_)
 ·cases f with
  | next=>obtain⟨σ',H',I',q⟩:=q; exact aP pins s1 σ' H' D I' q
  | ret v=>exact q
  | brk=>exact q
  | cont=>exact q
 obtain⟨H0,s0,I0,H',hR,a,C',a0,fl,rfl,os,bare,un,hok,hf,hsub,fly,sl,rfl,q⟩:=q
 have fly':=fly
 rw[hst]at fly'
 refine wpAny_looks_onW (by rw[I.ok.frames,hst]) hfr fly' fun h4 held sm4=>wpAny_landsW held fun h5 fly5 sm5=>?_
 have sl5:=sl.trans (sm4.trans sm5)
 have nf:∀ b∈fe X.stack,H0 b=none∧∃ o,s0.heap.get? b=some o∧∀ vs,o.data ≠ .fields vs:=fun b hb=>⟨I0.stkFree b hb,(I0.stack.mem hb).2⟩
 have I5:Inv X pins σ H' { s1 with heap:=h5 }:=I0.call' (ch:=[]) (s':={ s1 with heap:=h5 }) os (wu (P:=X.prog) (w:=X.w) un hf hsub nf fly5.1 sl5) (m6 hok (fun b hb=>(hf b hb).1) fly5.1) bare (fun b z=>absurd z (by simp))
 refine handleBy_own_as (x:=x) (C:=C) (bmB:=bmB) (newId:=newId) (mg:=X.mg) hbase (kf (X:=X.held a) (I5.held a) hg O.bound ⟨rfl,O.keeps I5.bk,?_,?_⟩ hd)
 ·obtain⟨oe,vs,e1,e2,_⟩:=fly5.first; exact⟨oe,e1,e2⟩
 refine lands_againW fly5 fun h6 fly6 sm6=>?_
 have sl6:=sl5.trans sm6
 have I6:Inv X pins σ H' { s1 with heap:=h6 }:=I0.call' (ch:=[]) (s':={ s1 with heap:=h6 }) os (wu (P:=X.prog) (w:=X.w) un hf hsub nf fly6.1 sl6) (m6 hok (fun b hb=>(hf b hb).1) fly6.1) bare (fun b z=>absurd z (by simp))
 obtain⟨oe,vs,e1,e2,e3,_⟩:=fly6.first
 have key:∀ b o,s0.heap.get? b=some o→b≠a:=by
  intro b o e z
  subst z
  by_cases hbl:b∈fl
  ·rcases(hf b hbl).2 with y | y
   ·obtain⟨_,o',y1,y2⟩:=I0.stack.mem y
    have:b∈(X.env::X.outer).filterMap (·.frame):=by rw[← hst]; exact y
    obtain⟨_,o2,z1,z2⟩:=fly6.2.2.1.mem this
    rw[e1]at z1; cases z1
    exact z2 vs e3
   ·rw[e]at y; cases y
  ·obtain⟨o',y⟩:=un.there b o e (by simp)
   have:=PySem.W.hideAll_get fl y hbl
   rw[fly6.2.1]at this; cases this
 have hna:H' a=none:=Ae hok (fun b hb=>(hf b hb).1) fly6.2.1
 have I7:Inv X pins σ (upd H' a (jJ a (.ref C))) { s1 with heap:=h6 }:=by
  refine I6.track hna (fun b ob z=>?_) (fun z=>?_) (fun y c z=>?_) (fun p z=>?_) ?_ hex
  ·obtain⟨o',y⟩:=I0.base.there b ob z (by rw[hex]; simp)
   exact key b o' y
  ·obtain⟨m,⟨o,_,_,ho,_⟩,_⟩:=I0.loc
   exact key _ o ho z
  ·obtain⟨v,o,ho,_⟩:=I0.cell y c z
   exact key c o ho
  ·exact key _ _ (I0.pin p z).1
  ·exact⟨⟨oe,e1,e2⟩,⟨oe,e1⟩,fun h1 h2 ⟨o,y1,y2⟩ k=>⟨o,k o y1,y2⟩⟩
 refine mJ I7 hN hi (.inl hk) (show RelV (.ref a) (.ref a) from rfl) (fun s7 I8=>?_) (.inr hk)
 refine wpAny_mono (hs a pins s7 _ _ _ (I8.held a) (q a hna)) (fun f s8 z=>?_) fun _ _ z=>False.elim z
 have go:∀ {σ' H2},Inv (X.held a) pins σ' H2 s8→(∀ s9,Inv X pins (σ'.set i none) H2 s9→SP X pins D f s9)→
   wpAny (model X.prog X.w) X.A (do bindName X.env n .none; unbindBehindTheSuite X.env n hp) (fun _ s₅=>SP X pins D f s₅) X.xe s8:=by
  intro σ' H2 J k
  have J:=J.unheld I.ok
  obtain⟨m,hn,hl⟩:=id J.loc
  exact wpAny_nameGoes_keeps hk hn (by rw[I.ok.kind]; rfl) fun h' v hn' hs'=>k _ (J.goes hN hi hk hl hn' hn hs')
 cases f with
 | next=>obtain⟨σ',H2,J,z⟩:=z; exact go J fun s9 J9=>⟨_,H2,J9,z⟩
 | ret v=>obtain⟨v',σ',H2,J,r,z⟩:=z; exact go J fun s9 J9=>⟨v',_,H2,J9,r,z⟩
 | brk=>obtain⟨σ',H2,J,z⟩:=z; exact go J fun s9 J9=>⟨_,H2,J9,z⟩
 | cont=>obtain⟨σ',H2,J,z⟩:=z; exact go J fun s9 J9=>⟨_,H2,J9,z⟩
end
end L2
namespace L2
open PySem PySem.Spec PyProof.Rows
def pW(K:PySem.W.Frag)(bmB:List Value):List Value→Bool
 | []=>bmB == []
 | v::r=>(v::r) == bmB||match v with
  | .ref A=>(match K.lookup A with
   | some ⟨_,_,.cls cd,_⟩=>PySem.W.nsOkIn K cd.ns&&quietNames.all (fun n=>PySem.W.nsIn K cd.ns n == some none)&&pW K bmB r
   | _=>false)
  | _=>false
theorem qS{K:PySem.W.Frag}{h:Heap}{bmB:List Value}(X:K.In h):∀ {l:List Value},pW K bmB l=true→OwnTailQ h bmB l
 | [],e=>by rw[← beq_iff_eq.mp e]; exact .base
 | v::r,e=>by
  unfold pW at e
  rcases Bool.or_eq_true_iff.mp e with q | q
  ·rw[beq_iff_eq.mp q]; exact .base
  ·split at q
   ·split at q
    ·rename_i ho
     rw[Bool.and_eq_true,Bool.and_eq_true]at q
     exact .own (X _ _ ho) (.of_isNs (PySem.W.isNs_of_in X q.1.1)) (fun n hn=>PySem.W.nsMap_none_of_in X q.1.1 (beq_iff_eq.mp (List.all_eq_true.mp q.1.2 n hn))) (qS X q.2)
    ·cases q
   ·cases q
def kK(K:PySem.W.Frag)(C:Addr)(bmB:List Value)(newId:String):Bool:=match K.lookup C with
 | some ⟨.type "type", _,.cls cd,sl⟩=>(match cd.mro,sl.toList with
  | .ref C'::bm,[_,_,_,_,some (.builtin n),_]=>C' == C&&n == newId && !cd.hasDel&&pW K bmB bm&&PySem.W.nsOkIn K cd.ns&&quietNames.all fun n=>PySem.W.nsIn K cd.ns n == some none
  | _,_=>false)
 | _=>false
theorem jY{K:PySem.W.Frag}{h:Heap}{mg:Str→Option Value}{x:Str}{C:Addr}{bmB:List Value}{newId:String}(X:K.In h)(m:mg x=some (.ref C))(q:kK K C bmB newId=true):OwnClsQ x C bmB newId mg h:=by
 refine⟨m,?_⟩
 unfold kK at q
 split at q
 ·rename_i dd cd sl ho
  split at q
  ·rename_i C' bm k0 k1 k2 k3 n k5 hm hs
   simp only[Bool.and_eq_true,beq_iff_eq,Bool.not_eq_true']at q
   obtain⟨⟨⟨⟨⟨rfl,rfl⟩,hdel⟩,ht⟩,hok⟩,hni⟩:=q
   obtain⟨nm,bs,mro,ns,qn,hd,sn,sub,ab,col,del⟩:=cd
   dsimp only at hm hdel hok hni
   subst hm hdel
   have hsl:sl = #[k0,k1,k2,k3,some (.builtin n),k5]:=by
    obtain⟨l⟩:=sl
    simp only at hs
    rw[hs]
   subst hsl
   exact⟨bm,ns,nm,qn,bs,hd,sn,sub,ab,col,dd,k0,k1,k2,k3,k5,_,X _ _ ho,.of_isNs (PySem.W.isNs_of_in X hok),fun n hn=>PySem.W.nsMap_none_of_in X hok (beq_iff_eq.mp (List.all_eq_true.mp hni n hn)),qS X ht⟩
  ·cases q
 ·cases q
section
variable{prog:Program}{w:World}{A:Around}{E:Value→Shared→Prop}{h:Heap}{g:Array GenState}{d:Drawn}{t:Nat}{os:OsState}{a:Addr}{o:Obj}{K:PySem.W.Frag}
 {x:Str} {C:Addr} {bmB:List Value} {B newId:String} {mg:Str→Option Value}
theorem pL{R:Result→Shared→Prop}(X:K.In h)(hx:h.get? a=some o)(hc:o.cls = .ref C)(hm:PySem.W.subIn K (.ref C) (.type "object")=some true) (hq:R (.ok (.ret (.ref C))) ⟨h,g,d,t,os⟩) :
  codeAny (model prog w) A (.call (.builtin "getset_descriptor.__get__") ⟨[.builtin "object.__class__", .ref a,.ref C],[]⟩) R ⟨h,g,d,t,os⟩:=by
 have hT5:(⟨h,g,d,t,os⟩ : Shared).TypeIs (.builtin "object.__class__") "getset_descriptor" := F.typeOf_object_class
 have f8:PySem.W.Looks (model prog w) h (isSubtype (.ref C) (.type (".".intercalate ("object.__class__".cutAt '.').dropLast))) true:=by
  rw[F.owner_object_class]; exact PySem.W.looks_subIn X hm
 refine codeAny_call_builtin F.slot_gs_get.plain F.entry_gs_get (F.slot_gs_get.check _ _ _ _ _ _ _ _ hT5 (F.args_gs_get _ _ _) ?_)
 repeat (any_goals (first | assumption | (with_reducible refine wpAny_loadPart_at hx ?_; rw[hc]) | with_reducible refine PySem.W.Looks.at f8 ?_ | wp_step))
 refine⟨Code.quiet_builtin _ (by decide +kernel),codeAny_builtin F.entry_object_class ?_⟩
 repeat (any_goals (first | assumption | (with_reducible refine wpAny_loadPart_at hx ?_; rw[hc]) | wp_step))
theorem nS{tk:Tok}{Q:Fin→Shared→Prop}(X:K.In h)(hx:h.get? a=some o)(hc:o.cls = .ref C)(hm:PySem.W.subIn K (.ref C) (.type "object")=some true) (hf:PySem.W.findIn K (.ref C) "__class__" = some (some (.builtin "object.__class__")))
  (hq:Q (.done (.ret (.ref C))) ⟨h,g,d,t,os⟩) :
  wpAny (model prog w) A (Builtin.«object.__getattribute__» ⟨[.ref a,.str "__class__" tk],[]⟩) Q E ⟨h,g,d,t,os⟩:=by
 have hT5:(⟨h,g,d,t,os⟩ : Shared).TypeIs (.builtin "object.__class__") "getset_descriptor" := F.typeOf_object_class
 have f4:PySem.W.Looks (model prog w) h _ _:=PySem.W.looks_findIn X hf
 have f5:=F.typeOf_object_class
 have f6:=F.slot_gs_get.lookup
 have f7:=F.slot_gs_set.lookup
 repeat (any_goals (first | assumption | (with_reducible refine wpAny_loadPart_at hx ?_; rw[hc]) | with_reducible refine PySem.W.Looks.at f4 ?_ | wp_step))
 refine pL X hx hc hm ?_
 repeat (any_goals (first | assumption | wp_step))
theorem oD{tk:Tok}{R:Result→Shared→Prop}(X:K.In h)(O:OwnClsQ x C bmB newId mg h)(FB:ExcAttrBase B bmB)(hx:h.get? a=some o)(hc:o.cls = .ref C)(hm:PySem.W.subIn K (.ref C) (.type "object")=some true) (hf:PySem.W.findIn K (.ref C) "__class__" = some (some (.builtin "object.__class__")))
  (hq:R (.ok (.ret (.ref C))) ⟨h,g,d,t,os⟩):codeAny (model prog w) A (.call (.builtin "BaseException.__getattribute__") ⟨[.ref a,.str "__class__" tk],[]⟩) R ⟨h,g,d,t,os⟩:=by
 obtain⟨bm,N,nm,q,bs,hdct,sn,sub,ab,col,dd,k0,k1,k2,k3,k5,mN,hC,hN,hmN,T⟩:=O.obj
 exact codeAny_call_builtin FB.ga.plain F.entry_bexc_ga (wpAny_check_ga_own FB hC T hx hc (nS X hx hc hm hf hq))
theorem qp{tk:Tok}{fill expr:Bool}{Q:Value→Shared→Prop}(X:K.In h)(O:OwnClsQ x C bmB newId mg h)(FB:ExcAttrBase B bmB)(hx:h.get? a=some o)(hc:o.cls = .ref C)(hm:PySem.W.subIn K (.ref C) (.type "object")=some true) (hf:PySem.W.findIn K (.ref C) "__class__" = some (some (.builtin "object.__class__")))
  (hq:Q (.ref C) ⟨h,g,d,t,os⟩):wpAny (model prog w) A (getAttrBy (.ref a) (.str "__class__" tk) fill expr) Q E ⟨h,g,d,t,os⟩:=by
 obtain⟨bm,N,nm,q,bs,hdct,sn,sub,ab,col,dd,k0,k1,k2,k3,k5,mN,hC,hN,hmN,T⟩:=id O.obj
 have f3:=FB.ga.bind (.ref a)
 have hx0:(expr&&onTheHeap (Value.builtin "BaseException.__getattribute__"))=false:=by cases expr <;> rfl
 have hx2:(Value.builtin "BaseException.__getattribute__" == Value.builtin "object.__getattribute__")=false:=by decide +kernel
 have hx1:(onTheHeap (Value.ref C)&&Value.builtin "BaseException.__getattribute__" == Value.builtin "object.__getattribute__")=false:=by rw[hx2]; rfl
 have hm1:("__getattribute__" : Str)∈quietNames:=.tail _ (.head _)
 have hm2:("__getattr__" : Str)∈quietNames:=.tail _ (.tail _ (.head _))
 repeat (any_goals (first | assumption | (with_reducible refine wpAny_loadPart_at hx ?_; rw[hc]) | with_reducible refine wpAny_typeLookup_tailQ hm1 hC hN hmN T FB.mro FB.ga.lookup ?_ | with_reducible refine wpAny_typeLookup_tailQ hm2 hC hN hmN T FB.mro FB.noGetattr ?_ | wp_step))
 refine oD X O FB hx hc hm hf ?_
 repeat (any_goals (first | assumption | wp_step))
theorem om{Q:Option Value→Shared→Prop}(X:K.In h)(O:OwnClsQ x C bmB newId mg h)(FB:ExcAttrBase B bmB)(hx:h.get? a=some o)(hc:o.cls = .ref C)(hm:PySem.W.subIn K (.ref C) (.type "object")=some true) (hf:PySem.W.findIn K (.ref C) "__class__" = some (some (.builtin "object.__class__")))
  (hq:Q (some (.ref C)) ⟨h,g,d,t+1,os⟩):wpAny (model prog w) A (getAttr? (.ref a) "__class__") Q E ⟨h,g,d,t,os⟩:=by
 unfold getAttr? getAttrBy?
 repeat (any_goals (first | assumption | with_reducible apply qp X O FB hx hc hm hf | wp_step))
theorem xu{a:Addr}(FB:ExcAttrBase B bmB)(q:kK K C bmB newId=true)(hm:PySem.W.subIn K (.ref C) (.type "object")=some true) (hf:PySem.W.findIn K (.ref C) "__class__" = some (some (.builtin "object.__class__"))) :
  PySem.W.KitX K (.ref a) (.ref C) (fun h=>∃ o,h.get? a=some o∧o.cls = .ref C) where
 ty:=fun _ _ _ ⟨o,h1,h2⟩=>h2 ▸ (PySem.W.Looks.ld h1).andThen .now
 it:=fun _ h X _=>by
  obtain⟨bm,N,nm,q,bs,hdct,sn,sub,ab,col,dd,k0,k1,k2,k3,k5,mN,hC,_⟩:=(jY (x := "") (mg:=fun _=>some (.ref C)) X rfl q).obj
  intro A' Q' E' s' k q
  unfold isType loadHead
  exact wpAny_bind (wpAny_loadPart (k _ _ hC) (wpAny_pure q))
 ne:=fun h tp dd its n sl X htp=>by
  obtain⟨bm,N,nm,q,bs,hdct,sn,sub,ab,col,dd,k0,k1,k2,k3,k5,mN,hC,_⟩:=(jY (x := "") (mg:=fun _=>some (.ref C)) X rfl q).obj
  refine Bool.eq_false_iff.mpr fun q=>?_
  have e:C=tp:=Value.ref.inj (beq_iff_eq.mp q)
  subst e
  rw[hC]at htp
  have:=congrArg Obj.data (Option.some.inj htp)
  cases this
 ca:=fun {prog w A E Q s} X ⟨o,h1,h2⟩ k=>by
  obtain⟨h,g,d,t,os⟩:=s
  exact om X (jY (x := "") (mg:=fun _=>some (.ref C)) X rfl q) FB h1 h2 hm hf k
end
section
variable{X:Cx}
structure x8 (K:PySem.W.Frag) (C:Addr):Prop where
 q:kK K C [.type "ValueError", .type "Exception", .type "BaseException", .type "object"] "ValueError.__new__" = true
 sub:PySem.W.subIn K (.ref C) (.type "object")=some true
 cls:PySem.W.findIn K (.ref C) "__class__" = some (some (.builtin "object.__class__"))
def yC:V→Option Value
 | .ref C=>some (.ref C)
 | .ty T=>some (.type T)
 | _=>none
def CC(K:PySem.W.Frag):List V→Hp→VK→Prop:=fun vs H Q=>∃ a C c u b,vs=[.ref a,c]∧H a=some (jJ a (.ref C))∧x8 K C∧yC c=some u∧PySem.W.kitOne K (.ref C) u=some b∧Q (.bl b) H
theorem gD(K:PySem.W.Frag)(hK:X.K=K:=by rfl):CallR X (.builtin "isinstance") (CC K):=by
 subst hK
 intro pins s σ H vs us Q I r h
 obtain⟨a,C,c,u,b,rfl,ha,ec,hc,hk,q⟩:=h
 obtain⟨u1,u2,rfl,r1,r2⟩:=pU r
 cases r1
 have hu:u2=u:=by
  cases c <;> simp only[yC,Option.some.injEq,reduceCtorEq]at hc
  ·subst hc; exact r2
  ·subst hc; exact r2
 subst hu
 obtain⟨p,_,_⟩:=(show ObjOk X.prog X.w H s.heap a (jJ a (.ref C)) from I.hok a _ ha)
 exact PySem.W.kia_one (xu F.attrBase_ValueError ec.q ec.sub ec.cls) I.kIn p hk (fun z=>nomatch z) fun tk=>⟨.bl b,H,I.tok tk,rfl,q⟩
theorem jV{x:Str}{C:Addr}{pos:Pos}(h:X.mg x=some (.ref C))(hg:Gl X x:=by rfl)(hd:(x == ("__debug__" : Str))=false:=by decide):PE X (.Name x pos) (tC (.ref C)):=mh hg h rfl hd
end
end L2
namespace L2
open PySem PySem.Spec PyProof.Rows
section
variable{P:Program}{w:World}{K:PySem.W.Frag}{mg:Str→Option Value}{base:Heap}
end
section
variable{X:Cx}
end
structure eU (K:PySem.W.Frag) (mg:Str→Option Value) (x:Str) (C:Addr):Prop where
 c:x8 K C
 m:mg x=some (.ref C)
section
variable{X:Cx}{E:XK}{x n:Str}{C:Addr}{np cpos hp pos:Pos}{e:Expr}{es body suite:List Stmt}{b₀ : Stmt}{t:TA}{tb:XK→TS}{th:TS}{bg:List ExceptHandler}
theorem dq{e:Expr}{es:List Expr}(L:Lv X E)(o:eU X.K X.mg x C)(ha:PA X (e::es) t)(hg:Gl X x:=by rfl)(hd:(x == ("__debug__" : Str))=false:=by decide)
  (he:starEach (e::es) X.env=(false,eval e X.env)::starEach es X.env:=by rfl) (hpl:(backTo cpos (starEach es X.env)).any (·.1)=false:=by rfl) :
  PS X (.Raise (some (.Call (.Name x np) (e::es) [] cpos)) none pos) (rp C E t):=fun pins s σ H D I h=>
 yz L (jY I.ok.mod.kin o.m o.c.q).own F.excBase_ValueError ha hg hd he hpl pins s σ H D I h
theorem Ah(i:Nat)(o:eU X.K X.mg x C)(hN:X.N.Nodup)(hb:∀ Ee,yk X Ee body (tb Ee))(hs:∀ a,PSs (X.held a) (b₀::suite) th)(hk:X.env.kindOf n=some .local)(hst:X.stack=X.env::X.outer:=by rfl)(hfr:X.env.frame=some X.env.locals:=by rfl)(hex:X.ex=[]:=by rfl)
  (hi:X.N[i]? = some n:=by rfl) (hg:Gl X x:=by rfl) (hd:(x == ("__debug__" : Str))=false:=by decide) :
  PS X (.Try body (.ExceptHandler (some (.Name x np)) (some n) (b₀::suite) hp::bg) [] [] pos) (yR C i tb th):=fun pins s σ H D I h=>
 AY i hst hfr hex hN (jY I.ok.mod.kin o.m o.c.q) rfl hb hs hi hk hg hd pins s σ H D I h
end
structure zy (mg:Str→Option Value) (x:Str) (C:Addr):Prop where
 m:mg x=some (.ref C)
theorem dQ{K:PySem.W.Frag}{a C:Addr}{c:V}{u:Value}{b:Bool}{H:Hp}{Q:VK}(ha:H a=some (jJ a (.ref C)))(ec:x8 K C)(hk:PySem.W.kitOne K (.ref C) u=some b)(q:Q (.bl b) H)(hc:yC c=some u:=by rfl):CC K [.ref a,c] H Q:=
 ⟨a,C,c,u,b,rfl,ha,ec,hc,hk,q⟩
theorem zG{C:Addr}{i:Nat}{tb:XK→TS}{th:TS}{D:dz}{σ : St}{H:Hp}:yR C i tb th D σ H=tb (fun C' _ H'=>C' = .ref C∧∀ a,H' a=none→th { nx:=fun σ' H2=>D.nx (σ'.set i none) H2,rt:=D.rt,bk:=fun σ' H2=>D.bk (σ'.set i none) H2,ct:=fun σ' H2=>D.ct (σ'.set i none) H2 } (σ.set i (some (.ref a))) (upd H' a (jJ a (.ref C)))) D σ H:=rfl
theorem im{C:Addr}{E:XK}{ta:TA}{D:dz}{σ : St}{H:Hp}:rp C E ta D σ H=ta σ H fun vs H1=>vs.length≤sizeLine∧E (.ref C) none H1:=rfl
section
variable{X:Cx}{x:Str}{C:Addr}{np hp pos:Pos}{body suite:List Stmt}{b₀ : Stmt}{tb:XK→TS}{th:TS}{bg:List ExceptHandler}
end
end L2
namespace L2
open PySem PySem.Spec PyProof PyProof.Rows
section
variable{K:PySem.W.Frag}{a b:Addr}{xs ys:List V}{g:TG}{te:TE}{nT:Nat}{σ : St}{D:Addr}{Q:VK}{H:Hp}
end
section
variable{prog:Program}{w:World}{A:Around}{E:Value→Shared→Prop}{s:Shared}
end
end L2
namespace L2
open PySem PySem.Spec PyProof PyProof.Rows
section
variable{X:Cx}
end
section
variable{X:Cx}
end
section
variable{d:Addr}{o:Obj}{kvs:List (bT × V)}{g:TG}{σ : St}{H:Hp}
end
end L2
namespace PySem.SeqAt
open AutoSeq1 (wpAny_loadPart')
open MeetsSeq MeetsSeq2 MeetsSeq3
end PySem.SeqAt
namespace L2
open PySem PySem.Spec PyProof PyProof.Rows
section
variable{X:Cx}
end
end L2
namespace L2
open PySem PySem.Spec PyProof PyProof.Rows
section
variable{X:Cx}
end
end L2
namespace L2
open PySem PySem.Spec PyProof.Rows PySem.SeqAt PySem.Builtin PySem.Builtin.Str PySem.StrLaws
end L2
namespace L2
open PySem PySem.Spec PyProof.Rows PySem.SeqAt PySem.Builtin PySem.Builtin.Str PySem.StrLaws
end L2
namespace L2
open PySem PySem.Spec PyProof.Rows PySem.SeqAt
section
variable{X:Cx}{x n:Str}{C:Addr}{bmB:List Value}{B newId initId:String}{np hp pos:Pos}{body suite orelse:List Stmt}{b₀ : Stmt}{tb:XK→TS}{th te:TS}{bg:List ExceptHandler}
end
end L2
namespace L2
open PySem PySem.Spec PyProof.Rows
section
variable{M:Model}{A:Around}{E:Value→Shared→Prop}{s:Shared}
end
section
variable{X:Cx}{N0 T:List Str}{scope:Scope}{tg elt iter:Expr}{ifs:List Expr}{pos:Pos}{wi:TI}{g:TG}{tc:TT}{te:TE}
end
section
variable{X:Cx}{N0 T:List Str}{scope:Scope}{C:Addr}{fp:List Addr}{s:Shared}{H:Hp}{E1:XK}{x:Str}
end
end L2
namespace L2
open PySem PySem.Spec PyProof.Rows PySem.SeqAt
def kL(xs:List V)(lo hi st:Option Int):List V:=(sliceRange (sliceBounds lo hi st xs.length).1 (sliceBounds lo hi st xs.length).2.1 (sliceBounds lo hi st xs.length).2.2).filterMap fun i=>xs[i]?
theorem lr{xs:List V}{us:List Value}(r:Vals xs us):∀ is:List Nat,Vals (is.filterMap fun i=>xs[i]?) (is.filterMap fun i=>us.toArray[i]?)
 | []=>.nil
 | i::is=>by
  cases e:xs[i]? with
  | none=>
   have e':us.toArray[i]? = none:=by simpa using r.none_of e
   rw[List.filterMap_cons_none e,List.filterMap_cons_none e']
   exact lr r is
  | some x=>
   obtain⟨u,hu,ru⟩:=r.get e
   have e':us.toArray[i]? = some u:=by simpa using hu
   rw[List.filterMap_cons_some e,List.filterMap_cons_some e']
   exact .cons ru (lr r is)
theorem uo(n:Nat):sliceBounds none none (some (-1)) n=((n:Int) - 1,-1,-1):=by
 simp[sliceBounds]
def BM(K:PySem.W.Frag):V→Option Int→Option Int→Option Int→Hp→VK→Prop:=fun x lo hi st H Q=>∃ a xs,x = .ref a∧SqL K H a xs∧st≠some 0∧(kL xs lo hi st).length≤sizeLine∧∀ p,H p=none→Q (.ref p) (upd H p (.lst (kL xs lo hi st)))
def xE(r:V→Option Int→Option Int→Option Int→Hp→VK→Prop)(te:TE)(tl th ts:TO):TE:=fun σ H Q=>te σ H fun x H1=>tl σ H1 fun l H2=>th σ H2 fun u H3=>ts σ H3 fun k H4=>r x l u k H4 Q
theorem Aj{r:V→Option Int→Option Int→Option Int→Hp→VK→Prop}{te:TE}{tl th ts:TO}{σ : St}{H:Hp}{Q:VK}:xE r te tl th ts σ H Q=te σ H fun x H1=>tl σ H1 fun l H2=>th σ H2 fun u H3=>ts σ H3 fun k H4=>r x l u k H4 Q:=rfl
section
variable{X:Cx}{e:Expr}{te:TE}{lo hi:Option Expr}{st:Expr}{tl th ts:TO}{pos p2:Pos}
theorem v2(K:PySem.W.Frag)(he:PE X e te)(hl:PO X lo tl)(hu:PO X hi th)(hst:PO X (some st) ts)(hK:X.K=K:=by rfl):PE X (.Subscript e (.Slice lo hi (some st) p2) pos) (xE (BM K) te tl th ts):=by
 subst hK
 intro pins s σ H Q I h
 refine Subscript_ (bo (he pins s σ H _ I h) fun v s1 ⟨x,H1,I1,r1,q1⟩=>?_)
 refine wpAny_Slice (bo (hl pins s1 σ H1 _ I1 q1) fun vl s2 ⟨l,H2,I2,pl,q2⟩=>bo (hu pins s2 σ H2 _ I2 q2) fun vu s3 ⟨u,H3,I3,pu,q3⟩=>bo (hst pins s3 σ H3 _ I3 q3) fun vs s4 ⟨k,H4,I4,ps,q4⟩=>?_)
 obtain⟨a,xs,rfl,hx,h0,hlen,q⟩:=q4
 cases r1
 have I5:Inv X pins σ H4 { s4 with heap:=s4.heap.push { cls:=.type "slice", data:=.fields #[vl,vu,vs] } }:=I4.kept (t':=s4.toks) fun b ob q=>Heap.get?_push_of_some _ q
 obtain⟨its,r,ht,hz⟩:=I5.list hx
 have hln:=r.length
 refine tail_any (ops:=[.ref a,.ref s4.heap.objs.size]) ht.isList.typeIs slot_list_getitem.lookup ?_ (by with_unfolding_all rfl)
 refine wpAny_getItem_list_slice ht.isList (Heap.IsSliceOf.new ..) pl pu ps h0 ?_ (by rw[List.size_toArray] <;> omega)
 have ev:Vals (kL xs l u k) ((sliceRange (sliceBounds l u k xs.length).1 (sliceBounds l u k xs.length).2.1 (sliceBounds l u k xs.length).2.2).filterMap fun i=>its.toArray[i]?):=lr r _
 have es:slicePick its.toArray l u k=((sliceRange (sliceBounds l u k xs.length).1 (sliceBounds l u k xs.length).2.1 (sliceBounds l u k xs.length).2.2).filterMap fun i=>its.toArray[i]?).toArray:=by
  unfold slicePick
  rw[List.size_toArray,← hln]
 rw[es]
 exact⟨.ref _,_,I5.laid (t':=s4.toks) (o:=.lst (kL xs l u k)) (fun b ob q=>Heap.get?_push_of_some _ q) (Nat.le_refl _) ⟨hlen,_,0,ev,Heap.get?_push_size _ rfl⟩,rfl,q _ (I5.hok.fresh (Nat.le_refl _))⟩
end
section
variable{X:Cx}
end
end L2
namespace L2
open PySem PySem.Spec PyProof PyProof.Rows PySem.Builtin.Str
def u7:V→List V→Hp→VK→Prop:=fun x xs H Q=>∃ s y,x = .str s∧xs=[.str y]∧Q (.int (match occurrences s y 0 s.length 1 with | i::_=>(i:Int) | []=>-1)) H
theorem yx{H:Hp}{Q:VK}(s y:Str):u7 (.str s) [.str y] H Q=Q (.int (match occurrences s y 0 s.length 1 with | i::_=>(i:Int) | []=>-1)) H:=
 propext ⟨fun ⟨_,_,e1,e2,q⟩=>by cases e1; cases e2; exact q,fun q=>⟨s,y,rfl,rfl,q⟩⟩
theorem zW{X:Cx}:MtR X "str.find" u7:=by
 intro pins s σ H x xs v us Q I rx r h
 obtain⟨z,y,rfl,rfl,q⟩:=h
 obtain⟨t,rfl⟩:=rx
 obtain⟨u,rfl,ru⟩:=df r
 obtain⟨u,rfl⟩:=ru
 exact call_gives F.slot_str_find (typeIs_str _ _ _) F.entry_str_find (F.args_str_find_2 _ _) (gives_str_find z y t u) ⟨.int _,H,I.tok _,⟨_,rfl⟩,q⟩
def rq(s:Str):Str:=⟨placed s fun _ c=>Unicode.upperOf c⟩
def Cu:V→List V→Hp→VK→Prop:=fun x xs H Q=>∃ s,x = .str s∧xs=[]∧tooLong (placed s fun _ c=>Unicode.upperOf c).size=false∧Q (.str (rq s)) H
theorem yU{X:Cx}:MtR X "str.upper" Cu:=by
 intro pins s σ H x xs v us Q I rx r h
 obtain⟨z,rfl,rfl,hf,q⟩:=h
 obtain⟨t,rfl⟩:=rx
 cases r
 exact call_gives F.slot_str_upper (typeIs_str _ _ _) F.entry_str_upper (F.args_str_upper_1 _) (gives_str_upper z t hf) ⟨fit_le hf,⟨.str _,H,I.tok _,⟨_,rfl⟩,q⟩⟩
theorem Az(s:Str):(rq s).cps.toList=s.cps.toList.flatMap Unicode.upperOf:=by
 unfold rq placed
 show ((s.cps.mapIdx fun i c=>(Unicode.upperOf c).toArray).flatten).toList=_
 rw[Array.toList_flatten]
 simp only[Array.toList_mapIdx,List.flatMap_def]
 congr 1
 generalize s.cps.toList=l
 apply List.ext_getElem?
 intro i
 simp only[List.getElem?_map,List.getElem?_mapIdx,Option.map_map]
 cases l[i]? <;> rfl
theorem xJ:∀ c:Nat,c<128→(Unicode.upperOf c).length=1:=by decide +kernel
theorem xS:∀ c:Nat,c<123→97≤c→Unicode.upperOf c=[c - 32]:=by decide +kernel
end L2
section
open PySem PySem.Spec PyProof.Rows L2
seal L2.PE L2.PT L2.PW L2.PA L2.PS L2.PSs L2.PG L2.PGs L2.PSet L2.PI L2.PIfs L2.OpR L2.UnR L2.CallR L2.IxR L2.MtR L2.SlR L2.PO L2.PPs
local macro_rules | `(tactic| walk_at "rd1")=>`(tactic| try simp only [i_,eQ,dY,hW,i8,iJ,gv,iO,gH,iI,gu,iG,iM,iT,lY,j6,j4,gZ,lW,iN,j8,iH,gM,h9,j7,ko,gQ,iF,iS,i6,hU,jU,iW,fW,dm,dU,g9,fF,ke,gq,eS,gW,i5,g0,gC,i4,g6,iZ,gX,i3,g7,ki,ml,fU,fG,fQ,fJ,fO,iQ,gw,g8,fV,iK,mq,iV,iE,hZ,gG,gY,g_,dX,dW,fK,fI,gK,hE,eX,gJ,iY,i9,iU,fN,fP,eV,iL,gx,eW,fM,gr,gA,gF,gy,hJ,jb,iP,ja,L2.start,List.map_cons,List.map_nil,List.length_cons,List.length_nil,List.replicate,List.cons_append,List.nil_append,List.append_nil,List.getElem?_cons_zero,List.getElem?_cons_succ,List.set_cons_zero,List.set_cons_succ,Nat.reduceAdd,Nat.reduceSub,Option.some.injEq,exists_eq_left',exists_eq_left,V.int.injEq,V.ref.injEq,V.str.injEq,V.bl.injEq,j_,iX,and_true,true_and,decide_eq_true_eq,Bool.not_true,Bool.not_false,if_true,Bool.false_eq_true,if_false,ite_true,ite_false])
local macro_rules | `(tactic| walk_at "nx")=>`(tactic| ((first | rw [gP] | (dsimp only; rw [gP])); walk_at "rd1"))
local macro_rules | `(tactic| walk_at "lk")=>`(tactic| repeat (first | exact lk_hit | exact Cy | rw [lk_miss (by decide +kernel)]))
local macro_rules | `(tactic| walk_at "pf")=>`(tactic| repeat (first | rw [putF_hit] | rw [yt] | rw [putF_miss (by decide +kernel)]))
namespace K27
open PySem L2
theorem pN:bootBuiltins "ValueError" = some (.type "ValueError"):=PyProof.Rows.Boot.«ValueError»
abbrev ba:Stmt:=aD 9
theorem lP:bc ["text", "most"] ["text", "most"] (defScope ba):=⟨rfl,rfl,rfl,by decide +kernel,rfl,by decide +kernel,by decide +kernel⟩
abbrev gLk (s : Stmt) (n : Str) : Prop:=(defScope s).names.lookup n=some .globalImplicit
theorem oIn {a b : Prop} (h : a) : a ∨ b:=.inl h
theorem tR:aM (defScope ba) "text":=oIn (by decide +kernel)
theorem DU:aM (defScope ba) "most":=oIn (by decide +kernel)
theorem Dx:gLk ba "all":=by decide +kernel
theorem DW:gLk ba "int":=by decide +kernel
theorem D2:gLk ba "len":=by decide +kernel
abbrev cD:Stmt:=aD 13
theorem rP:bc ["thing"] ["thing"] (defScope cD):=⟨rfl,rfl,rfl,by decide +kernel,rfl,by decide +kernel,by decide +kernel⟩
theorem Dw:aM (defScope cD) "thing":=oIn (by decide +kernel)
theorem Gb:gLk cD "bool":=by decide +kernel
theorem FL:gLk cD "int":=by decide +kernel
theorem DT:gLk cD "isinstance":=by decide +kernel
abbrev bO:Stmt:=aD 14
theorem va:bc ["thing"] ["thing"] (defScope bO):=⟨rfl,rfl,rfl,by decide +kernel,rfl,by decide +kernel,by decide +kernel⟩
theorem BA:aM (defScope bO) "thing":=oIn (by decide +kernel)
theorem F2:gLk bO "MOST_LETTERS":=by decide +kernel
theorem FY:gLk bO "all":=by decide +kernel
theorem Fv:gLk bO "isinstance":=by decide +kernel
theorem Gp:gLk bO "len":=by decide +kernel
theorem F5:gLk bO "str":=by decide +kernel
abbrev cE:Stmt:=aD 22
theorem pR:bc ["kind"] ["kind"] (defScope cE):=⟨rfl,rfl,rfl,by decide +kernel,rfl,by decide +kernel,by decide +kernel⟩
theorem FC:aM (defScope cE) "kind":=oIn (by decide +kernel)
theorem FE:gLk cE "CLOSERS":=by decide +kernel
abbrev cY:Stmt:=aD 23
theorem uA:bc ["step"] ["step"] (defScope cY):=⟨rfl,rfl,rfl,by decide +kernel,rfl,by decide +kernel,by decide +kernel⟩
theorem Ce:aM (defScope cY) "step":=oIn (by decide +kernel)
theorem Gj:gLk cY "closers_of":=by decide +kernel
theorem DR:gLk cY "len":=by decide +kernel
abbrev cB:Stmt:=aD 24
theorem qw:bc ["step"] ["step"] (defScope cB):=⟨rfl,rfl,rfl,by decide +kernel,rfl,by decide +kernel,by decide +kernel⟩
theorem DV:aM (defScope cB) "step":=oIn (by decide +kernel)
theorem Gg:gLk cB "head_of":=by decide +kernel
theorem Gq:gLk cB "len":=by decide +kernel
abbrev cS:Stmt:=aD 25
theorem rZ:bc ["thing"] ["thing"] (defScope cS):=⟨rfl,rfl,rfl,by decide +kernel,rfl,by decide +kernel,by decide +kernel⟩
theorem Dz:aM (defScope cS) "thing":=oIn (by decide +kernel)
theorem FA:gLk cS "abs":=by decide +kernel
theorem Gw:gLk cS "is_whole":=by decide +kernel
abbrev cA:Stmt:=aD 26
theorem u9:bc ["thing", "kind"] ["thing", "kind"] (defScope cA):=⟨rfl,rfl,rfl,by decide +kernel,rfl,by decide +kernel,by decide +kernel⟩
theorem CP:aM (defScope cA) "thing":=oIn (by decide +kernel)
theorem Dt:aM (defScope cA) "kind":=oIn (by decide +kernel)
theorem FH:gLk cA "is_bound":=by decide +kernel
theorem Fw:gLk cA "is_word":=by decide +kernel
theorem F_:gLk cA "isinstance":=by decide +kernel
theorem F4:gLk cA "list":=by decide +kernel
abbrev aF:Stmt:=aD 27
theorem sc_is_like_step:bc ["thing", "kinds"] ["thing"] (defScope aF):=⟨rfl,rfl,rfl,by decide +kernel,rfl,by decide +kernel,by decide +kernel⟩
theorem qv:aM (defScope aF) "thing":=oIn (by decide +kernel)
theorem DN:aM (defScope aF) "kinds":=oIn (by decide +kernel)
theorem F3:bH (defScope aF) "kinds":=oIn (by decide +kernel)
theorem DH:gLk aF "PARTS":=by decide +kernel
theorem FI:gLk aF "all":=by decide +kernel
theorem DP:gLk aF "isinstance":=by decide +kernel
theorem CN:gLk aF "len":=by decide +kernel
theorem Ga:gLk aF "str":=by decide +kernel
theorem Fz:gLk aF "tuple":=by decide +kernel
theorem Gh:gLk aF "zip":=by decide +kernel
abbrev aQ:Stmt:=aD 28
theorem sc_gathers_steps:bc ["things", "around", "steps", "thing", "block"] ["things", "around", "steps"] (defScope aQ):=⟨rfl,rfl,rfl,by decide +kernel,rfl,by decide +kernel,by decide +kernel⟩
theorem FN:aM (defScope aQ) "things":=oIn (by decide +kernel)
theorem D1:aM (defScope aQ) "around":=oIn (by decide +kernel)
theorem Cp:aM (defScope aQ) "steps":=oIn (by decide +kernel)
theorem AN:aM (defScope aQ) "thing":=oIn (by decide +kernel)
theorem F6:bH (defScope aQ) "thing":=oIn (by decide +kernel)
theorem F1:aM (defScope aQ) "block":=oIn (by decide +kernel)
theorem FP:bH (defScope aQ) "block":=oIn (by decide +kernel)
theorem F7:gLk aQ "MOST_AROUND":=by decide +kernel
theorem Gv:gLk aQ "MOST_LINES":=by decide +kernel
theorem FG:gLk aQ "blocks_of":=by decide +kernel
theorem FT:gLk aQ "gathers_steps":=by decide +kernel
theorem FX:gLk aQ "is_like_step":=by decide +kernel
theorem Gf:gLk aQ "len":=by decide +kernel
abbrev bF:Stmt:=aD 29
theorem sc_names_in:bc ["steps", "names", "step", "part", "kind"] ["steps"] (defScope bF):=⟨rfl,rfl,rfl,by decide +kernel,rfl,by decide +kernel,by decide +kernel⟩
theorem FQ:aM (defScope bF) "steps":=oIn (by decide +kernel)
theorem DX:aM (defScope bF) "names":=oIn (by decide +kernel)
theorem FS:bH (defScope bF) "names":=oIn (by decide +kernel)
theorem D3:aM (defScope bF) "step":=oIn (by decide +kernel)
theorem Gk:bH (defScope bF) "step":=oIn (by decide +kernel)
theorem FW:aM (defScope bF) "part":=oIn (by decide +kernel)
theorem Gc:bH (defScope bF) "part":=oIn (by decide +kernel)
theorem F9:aM (defScope bF) "kind":=oIn (by decide +kernel)
theorem Gr:bH (defScope bF) "kind":=oIn (by decide +kernel)
theorem F8:gLk bF "PARTS":=by decide +kernel
theorem EM:gLk bF "list":=by decide +kernel
theorem Fe:gLk bF "zip":=by decide +kernel
abbrev aq:Stmt:=aD 30
theorem sc_is_program:bc ["thing", "steps", "kinds", "lines"] ["thing"] (defScope aq):=⟨rfl,rfl,rfl,by decide +kernel,rfl,by decide +kernel,by decide +kernel⟩
theorem zi:aM (defScope aq) "thing":=oIn (by decide +kernel)
theorem tI:aM (defScope aq) "steps":=oIn (by decide +kernel)
theorem DA:bH (defScope aq) "steps":=oIn (by decide +kernel)
theorem zp:aM (defScope aq) "kinds":=oIn (by decide +kernel)
theorem DK:(defScope aq).names.lookup ("kinds" : Str)=some .local:=by decide +kernel
theorem Ds:aM (defScope aq) "lines":=oIn (by decide +kernel)
theorem DJ:bH (defScope aq) "lines":=oIn (by decide +kernel)
theorem Bt:gLk aq "MOST_LENDS":=by decide +kernel
theorem B9:gLk aq "MOST_LINES":=by decide +kernel
theorem Bi:gLk aq "MOST_NAMES":=by decide +kernel
theorem CT:gLk aq "gathers_steps":=by decide +kernel
theorem AW:gLk aq "isinstance":=by decide +kernel
theorem AK:gLk aq "len":=by decide +kernel
theorem BI:gLk aq "list":=by decide +kernel
theorem Bq:gLk aq "names_in":=by decide +kernel
theorem BE:gLk aq "sum":=by decide +kernel
abbrev aY:Stmt:=aD 31
theorem sc_lines_of:bc ["program", "lines", "step", "block", "closer"] ["program"] (defScope aY):=⟨rfl,rfl,rfl,by decide +kernel,rfl,by decide +kernel,by decide +kernel⟩
theorem Gi:aM (defScope aY) "program":=oIn (by decide +kernel)
theorem y7:aM (defScope aY) "lines":=oIn (by decide +kernel)
theorem Fx:bH (defScope aY) "lines":=oIn (by decide +kernel)
theorem Cw:aM (defScope aY) "step":=oIn (by decide +kernel)
theorem Gs:bH (defScope aY) "step":=oIn (by decide +kernel)
theorem FZ:aM (defScope aY) "block":=oIn (by decide +kernel)
theorem Gu:bH (defScope aY) "block":=oIn (by decide +kernel)
theorem F0:aM (defScope aY) "closer":=oIn (by decide +kernel)
theorem Fy:bH (defScope aY) "closer":=oIn (by decide +kernel)
theorem Fd:gLk aY "blocks_of":=by decide +kernel
theorem En:gLk aY "closers_of":=by decide +kernel
theorem EI:gLk aY "head_of":=by decide +kernel
theorem EW:gLk aY "lines_of":=by decide +kernel
theorem Fo:gLk aY "zip":=by decide +kernel
abbrev cg:Stmt:=aD 35
theorem n_:bc ["program"] ["program"] (defScope cg):=⟨rfl,rfl,rfl,by decide +kernel,rfl,by decide +kernel,by decide +kernel⟩
theorem FO:aM (defScope cg) "program":=oIn (by decide +kernel)
theorem E8:gLk cg "lines_of":=by decide +kernel
abbrev cf:Stmt:=aD 36
theorem sc_bound_in:bc ["text", "number"] ["text"] (defScope cf):=⟨rfl,rfl,rfl,by decide +kernel,rfl,by decide +kernel,by decide +kernel⟩
theorem sD:aM (defScope cf) "text":=oIn (by decide +kernel)
theorem zg:aM (defScope cf) "number":=oIn (by decide +kernel)
theorem Dq:bH (defScope cf) "number":=oIn (by decide +kernel)
theorem um:gLk cf "MOST_FIGURES":=by decide +kernel
theorem u0:gLk cf "number_in":=by decide +kernel
abbrev cz:Stmt:=aD 37
theorem sc_head_in:bc ["line", "parts"] ["line"] (defScope cz):=⟨rfl,rfl,rfl,by decide +kernel,rfl,by decide +kernel,by decide +kernel⟩
theorem y8:aM (defScope cz) "line":=oIn (by decide +kernel)
theorem sL:aM (defScope cz) "parts":=oIn (by decide +kernel)
theorem Dy:bH (defScope cz) "parts":=oIn (by decide +kernel)
theorem CI:gLk cz "bound_in":=by decide +kernel
theorem BU:gLk cz "tuple":=by decide +kernel
abbrev aV:Stmt:=aD 38
theorem sc_step_from:bc ["lines", "at", "head", "blocks", "place", "closer", "read"] ["lines", "at"] (defScope aV):=⟨rfl,rfl,rfl,by decide +kernel,rfl,by decide +kernel,by decide +kernel⟩
theorem uO:aM (defScope aV) "lines":=oIn (by decide +kernel)
theorem u6:aM (defScope aV) "at":=oIn (by decide +kernel)
theorem vf:aM (defScope aV) "head":=oIn (by decide +kernel)
theorem DD:bH (defScope aV) "head":=oIn (by decide +kernel)
theorem uw:aM (defScope aV) "blocks":=oIn (by decide +kernel)
theorem DB:bH (defScope aV) "blocks":=oIn (by decide +kernel)
theorem uZ:aM (defScope aV) "place":=oIn (by decide +kernel)
theorem y_:bH (defScope aV) "place":=oIn (by decide +kernel)
theorem DY:bH (defScope aV) "closer":=oIn (by decide +kernel)
theorem uC:aM (defScope aV) "read":=oIn (by decide +kernel)
theorem DQ:bH (defScope aV) "read":=oIn (by decide +kernel)
theorem Co:gLk aV "closers_of":=by decide +kernel
theorem CB:gLk aV "head_in":=by decide +kernel
theorem BL:gLk aV "steps_from":=by decide +kernel
theorem AU:gLk aV "tuple":=by decide +kernel
abbrev bi:Stmt:=aD 39
theorem sc_steps_from:bc ["lines", "at", "steps", "place", "read"] ["lines", "at"] (defScope bi):=⟨rfl,rfl,rfl,by decide +kernel,rfl,by decide +kernel,by decide +kernel⟩
theorem og:aM (defScope bi) "lines":=oIn (by decide +kernel)
theorem BC:aM (defScope bi) "at":=oIn (by decide +kernel)
theorem t_:aM (defScope bi) "steps":=oIn (by decide +kernel)
theorem Dv:bH (defScope bi) "steps":=oIn (by decide +kernel)
theorem lK:aM (defScope bi) "place":=oIn (by decide +kernel)
theorem zl:bH (defScope bi) "place":=oIn (by decide +kernel)
theorem uN:aM (defScope bi) "read":=oIn (by decide +kernel)
theorem DL:bH (defScope bi) "read":=oIn (by decide +kernel)
theorem A5:gLk bi "ENDS":=by decide +kernel
theorem CD:gLk bi "len":=by decide +kernel
theorem CH:gLk bi "step_from":=by decide +kernel
abbrev dn:Stmt:=aD 40
theorem rN:bc ["text"] ["text"] (defScope dn):=⟨rfl,rfl,rfl,by decide +kernel,rfl,by decide +kernel,by decide +kernel⟩
theorem B6:aM (defScope dn) "text":=oIn (by decide +kernel)
abbrev aS:Stmt:=aD 41
theorem sc_read_program:bc ["text", "lines", "program"] ["text"] (defScope aS):=⟨rfl,rfl,rfl,by decide +kernel,rfl,by decide +kernel,by decide +kernel⟩
theorem kt:aM (defScope aS) "text":=oIn (by decide +kernel)
theorem oA:aM (defScope aS) "lines":=oIn (by decide +kernel)
theorem Cj:bH (defScope aS) "lines":=oIn (by decide +kernel)
theorem kE:aM (defScope aS) "program":=oIn (by decide +kernel)
theorem Ct:bH (defScope aS) "program":=oIn (by decide +kernel)
theorem xq:gLk aS "MOST_LINES":=by decide +kernel
theorem kP:gLk aS "NoText":=by decide +kernel
theorem ym:gLk aS "is_program":=by decide +kernel
theorem yA:gLk aS "isinstance":=by decide +kernel
theorem yF:gLk aS "len":=by decide +kernel
theorem xQ:gLk aS "lines_in":=by decide +kernel
theorem yT:gLk aS "show_program":=by decide +kernel
theorem xO:gLk aS "steps_from":=by decide +kernel
theorem xl:gLk aS "str":=by decide +kernel
abbrev ce:Stmt:=aD 43
theorem oK:bc ["_law_script", "_law_k"] ["_law_script", "_law_k"] (defScope ce):=⟨rfl,rfl,rfl,by decide +kernel,rfl,by decide +kernel,by decide +kernel⟩
theorem Ck:aM (defScope ce) "_law_script":=oIn (by decide +kernel)
theorem AO:aM (defScope ce) "_law_k":=oIn (by decide +kernel)
theorem Et:gLk ce "len":=by decide +kernel
abbrev aC:Stmt:=aD 44
theorem sc_law_lines:bc ["_law_cells", "_law_x", "_law_y", "_law_lines_here", "_law_pile", "_law_left", "_law_lends", "_law_top", "_law_cell", "_law_kind", "_law_deep"] ["_law_cells", "_law_x", "_law_y"] (defScope aC):=⟨rfl,rfl,rfl,by decide +kernel,rfl,by decide +kernel,by decide +kernel⟩
theorem E3:aM (defScope aC) "_law_cells":=oIn (by decide +kernel)
theorem qU:aM (defScope aC) "_law_x":=oIn (by decide +kernel)
theorem yB:aM (defScope aC) "_law_y":=oIn (by decide +kernel)
theorem uz:aM (defScope aC) "_law_lines_here":=oIn (by decide +kernel)
theorem FF:bH (defScope aC) "_law_lines_here":=oIn (by decide +kernel)
theorem mQ:aM (defScope aC) "_law_pile":=oIn (by decide +kernel)
theorem FV:bH (defScope aC) "_law_pile":=oIn (by decide +kernel)
theorem rf:aM (defScope aC) "_law_left":=oIn (by decide +kernel)
theorem CW:bH (defScope aC) "_law_left":=oIn (by decide +kernel)
theorem AV:aM (defScope aC) "_law_lends":=oIn (by decide +kernel)
theorem DF:bH (defScope aC) "_law_lends":=oIn (by decide +kernel)
theorem xY:aM (defScope aC) "_law_top":=oIn (by decide +kernel)
theorem B4:bH (defScope aC) "_law_top":=oIn (by decide +kernel)
theorem Bg:aM (defScope aC) "_law_cell":=oIn (by decide +kernel)
theorem Gn:bH (defScope aC) "_law_cell":=oIn (by decide +kernel)
theorem kB:aM (defScope aC) "_law_kind":=oIn (by decide +kernel)
theorem Gd:bH (defScope aC) "_law_kind":=oIn (by decide +kernel)
theorem EY:aM (defScope aC) "_law_deep":=oIn (by decide +kernel)
theorem FR:bH (defScope aC) "_law_deep":=oIn (by decide +kernel)
theorem yj:gLk aC "int":=by decide +kernel
theorem EG:gLk aC "len":=by decide +kernel
theorem Fm:gLk aC "str":=by decide +kernel
abbrev bx:Stmt:=aD 45
theorem sc_law_odd_line:bc ["_law_cell", "_law_x", "_law_y", "_law_both", "_law_some"] ["_law_cell", "_law_x", "_law_y"] (defScope bx):=⟨rfl,rfl,rfl,by decide +kernel,rfl,by decide +kernel,by decide +kernel⟩
theorem Fn:aM (defScope bx) "_law_cell":=oIn (by decide +kernel)
theorem dZ:aM (defScope bx) "_law_x":=oIn (by decide +kernel)
theorem Ex:aM (defScope bx) "_law_y":=oIn (by decide +kernel)
theorem rk:aM (defScope bx) "_law_both":=oIn (by decide +kernel)
theorem FU:bH (defScope bx) "_law_both":=oIn (by decide +kernel)
theorem oq:aM (defScope bx) "_law_some":=oIn (by decide +kernel)
theorem vB:bH (defScope bx) "_law_some":=oIn (by decide +kernel)
theorem EO:gLk bx "len":=by decide +kernel
abbrev bN:Stmt:=aD 46
theorem sc_law_odd_bound:bc ["_law_cell", "_law_some"] ["_law_cell"] (defScope bN):=⟨rfl,rfl,rfl,by decide +kernel,rfl,by decide +kernel,by decide +kernel⟩
theorem D9:aM (defScope bN) "_law_cell":=oIn (by decide +kernel)
theorem xm:aM (defScope bN) "_law_some":=oIn (by decide +kernel)
theorem DC:bH (defScope bN) "_law_some":=oIn (by decide +kernel)
theorem Ei:gLk bN "len":=by decide +kernel
abbrev bV:Stmt:=aD 47
theorem sc_law_too_much:bc ["_law_cell", "_law_x", "_law_way"] ["_law_cell", "_law_x"] (defScope bV):=⟨rfl,rfl,rfl,by decide +kernel,rfl,by decide +kernel,by decide +kernel⟩
theorem Eo:aM (defScope bV) "_law_cell":=oIn (by decide +kernel)
theorem uf:aM (defScope bV) "_law_x":=oIn (by decide +kernel)
theorem xD:aM (defScope bV) "_law_way":=oIn (by decide +kernel)
theorem D6:bH (defScope bV) "_law_way":=oIn (by decide +kernel)
abbrev bv:Stmt:=aD 48
theorem sc_law_blocks:bc ["_law_lines_here", "_law_heads"] ["_law_lines_here"] (defScope bv):=⟨rfl,rfl,rfl,by decide +kernel,rfl,by decide +kernel,by decide +kernel⟩
theorem E4:aM (defScope bv) "_law_lines_here" := Or.inr (Or.inl (by decide +kernel))
theorem Eb:bH (defScope bv) "_law_heads" := Or.inr (by decide +kernel)
theorem EC:gLk bv "len":=by decide +kernel
theorem ER:gLk bv "range":=by decide +kernel
abbrev cu:Stmt:=aD 49
theorem pM:bc ["_law_lines_here", "_law_at", "_law_more"] ["_law_lines_here", "_law_at", "_law_more"] (defScope cu):=⟨rfl,rfl,rfl,by decide +kernel,rfl,by decide +kernel,by decide +kernel⟩
theorem BY:aM (defScope cu) "_law_lines_here":=oIn (by decide +kernel)
theorem Cd:aM (defScope cu) "_law_at":=oIn (by decide +kernel)
theorem Eu:aM (defScope cu) "_law_more":=oIn (by decide +kernel)
abbrev aX:Stmt:=aD 50
theorem sc_law_line_spoiled:bc ["_law_way", "_law_cell", "_law_line", "_law_sign", "_law_place"] ["_law_way", "_law_cell", "_law_line"] (defScope aX):=⟨rfl,rfl,rfl,by decide +kernel,rfl,by decide +kernel,by decide +kernel⟩
theorem uq:aM (defScope aX) "_law_way":=oIn (by decide +kernel)
theorem lF:aM (defScope aX) "_law_line":=oIn (by decide +kernel)
theorem Bl:aM (defScope aX) "_law_sign":=oIn (by decide +kernel)
theorem Er:bH (defScope aX) "_law_sign":=oIn (by decide +kernel)
theorem Cf:aM (defScope aX) "_law_place":=oIn (by decide +kernel)
theorem Em:bH (defScope aX) "_law_place":=oIn (by decide +kernel)
theorem Ed:gLk aX "int":=by decide +kernel
abbrev ay:Stmt:=aD 51
theorem sc_law_spoiled:bc ["_law_cell", "_law_lines_here", "_law_x", "_law_y", "_law_way", "_law_at", "_law_k", "_law_more", "_law_blocks_here", "_law_bound", "_law_line"] ["_law_cell", "_law_lines_here", "_law_x", "_law_y"] (defScope ay):=⟨rfl,rfl,rfl,by decide +kernel,rfl,by decide +kernel,by decide +kernel⟩
theorem uk:aM (defScope ay) "_law_cell":=oIn (by decide +kernel)
theorem er:aM (defScope ay) "_law_lines_here":=oIn (by decide +kernel)
theorem rL:aM (defScope ay) "_law_x":=oIn (by decide +kernel)
theorem Ec:aM (defScope ay) "_law_y":=oIn (by decide +kernel)
theorem kU:aM (defScope ay) "_law_way":=oIn (by decide +kernel)
theorem EU:bH (defScope ay) "_law_way":=oIn (by decide +kernel)
theorem rz:aM (defScope ay) "_law_at":=oIn (by decide +kernel)
theorem Ft:bH (defScope ay) "_law_at":=oIn (by decide +kernel)
theorem mT:aM (defScope ay) "_law_k":=oIn (by decide +kernel)
theorem AL:bH (defScope ay) "_law_k":=oIn (by decide +kernel)
theorem lJ:aM (defScope ay) "_law_more":=oIn (by decide +kernel)
theorem EK:bH (defScope ay) "_law_more":=oIn (by decide +kernel)
theorem xF:aM (defScope ay) "_law_blocks_here":=oIn (by decide +kernel)
theorem D8:bH (defScope ay) "_law_blocks_here":=oIn (by decide +kernel)
theorem Cr:aM (defScope ay) "_law_bound":=oIn (by decide +kernel)
theorem Fl:bH (defScope ay) "_law_bound":=oIn (by decide +kernel)
theorem Eg:aM (defScope ay) "_law_line":=oIn (by decide +kernel)
theorem A_:bH (defScope ay) "_law_line":=oIn (by decide +kernel)
theorem Fb:gLk ay "_law_blocks":=by decide +kernel
theorem Ef:gLk ay "_law_line_spoiled":=by decide +kernel
theorem Fk:gLk ay "_law_odd_bound":=by decide +kernel
theorem EF:gLk ay "_law_odd_line":=by decide +kernel
theorem qh:gLk ay "_law_put_in":=by decide +kernel
theorem EZ:gLk ay "_law_too_much":=by decide +kernel
theorem qG:gLk ay "len":=by decide +kernel
abbrev aR:Stmt:=aD 52
theorem sc_law_refused:bc ["_law_thing", "_law_kinds", "e", "_law_others"] ["_law_thing"] (defScope aR):=⟨rfl,rfl,rfl,by decide +kernel,rfl,by decide +kernel,by decide +kernel⟩
theorem D_:aM (defScope aR) "_law_thing":=oIn (by decide +kernel)
theorem Ey:aM (defScope aR) "_law_kinds":=oIn (by decide +kernel)
theorem B1:bH (defScope aR) "_law_kinds":=oIn (by decide +kernel)
theorem oE:aM (defScope aR) "e":=oIn (by decide +kernel)
theorem FK:(defScope aR).names.lookup ("e" : Str)=some .local:=by decide +kernel
theorem ED:aM (defScope aR) "_law_others":=oIn (by decide +kernel)
theorem Ez:bH (defScope aR) "_law_others":=oIn (by decide +kernel)
theorem ES:gLk aR "Breach":=by decide +kernel
theorem D5:gLk aR "NoFit":=by decide +kernel
theorem Fs:gLk aR "NoRule":=by decide +kernel
theorem EN:gLk aR "NoText":=by decide +kernel
theorem E2:gLk aR "TooGreat":=by decide +kernel
theorem EH:gLk aR "UseError":=by decide +kernel
theorem Fh:gLk aR "ValueError":=by decide +kernel
theorem oF:gLk aR "isinstance":=by decide +kernel
theorem E5:gLk aR "read_program":=by decide +kernel
abbrev bE:Stmt:=aD 53
theorem sc_law:bc ["_law_script", "_law_letters", "_law_cell", "_law_size", "_law_x", "_law_y", "_law_lines_here", "_law_top", "_law_found"] ["_law_script"] (defScope bE):=⟨rfl,rfl,rfl,by decide +kernel,rfl,by decide +kernel,by decide +kernel⟩
theorem yH:aM (defScope bE) "_law_script":=oIn (by decide +kernel)
theorem EL:bH (defScope bE) "_law_letters" := Or.inr (by decide +kernel)
theorem yK:aM (defScope bE) "_law_cell" := Or.inr (Or.inl (by decide +kernel))
theorem D7:bH (defScope bE) "_law_cell" := Or.inr (by decide +kernel)
theorem xW:aM (defScope bE) "_law_size":=oIn (by decide +kernel)
theorem Fu:bH (defScope bE) "_law_size":=oIn (by decide +kernel)
theorem vk:aM (defScope bE) "_law_x":=oIn (by decide +kernel)
theorem E9:bH (defScope bE) "_law_x":=oIn (by decide +kernel)
theorem Bd:aM (defScope bE) "_law_y":=oIn (by decide +kernel)
theorem Fg:bH (defScope bE) "_law_y":=oIn (by decide +kernel)
theorem Bw:aM (defScope bE) "_law_lines_here":=oIn (by decide +kernel)
theorem Ew:bH (defScope bE) "_law_lines_here":=oIn (by decide +kernel)
theorem Ej:aM (defScope bE) "_law_top":=oIn (by decide +kernel)
theorem Ep:bH (defScope bE) "_law_top":=oIn (by decide +kernel)
theorem AR:aM (defScope bE) "_law_found":=oIn (by decide +kernel)
theorem E6:bH (defScope bE) "_law_found":=oIn (by decide +kernel)
theorem A8:gLk bE "_law_cell_at":=by decide +kernel
theorem Fj:gLk bE "_law_lines":=by decide +kernel
theorem Fq:gLk bE "_law_refused":=by decide +kernel
theorem EQ:gLk bE "_law_spoiled":=by decide +kernel
theorem E_:gLk bE "isinstance":=by decide +kernel
theorem EX:gLk bE "len":=by decide +kernel
theorem Ff:gLk bE "list":=by decide +kernel
theorem Fa:gLk bE "range":=by decide +kernel
theorem Ek:gLk bE "read_program":=by decide +kernel
def aI(k:Str):List Str:=if k = "lend" then ["back"] else if k = "if" then ["else", "fi"] else if k = "while" then ["done"] else []
def lu:V→Str→Prop
 | .str y,x=>x=y
 | .int i,x=>i.natAbs.log2<1920∧x=Str.ofString (toString i)
 | _,_=>False
def br:List (List Str)→List Str→List Str
 | i::is,c::cs=>(i++[c])++br is cs
 | _,_=>[]
structure B7 (LA:Addr→List Str→Prop) (H:Hp) (a:Addr) (kind:Str) (hs:List V) (ws:List Str) (bs:List Addr) (ins:List (List Str)):Prop where
 at':H a=some (.tup (.str kind::hs++bs.map V.ref))
 parts:Paired lu hs ws
 size:((kind::ws).map (·.length)).sum+(kind::ws).length≤10000
 bl:bs.length=(aI kind).length
 inn:Paired LA bs ins
def n6(LA:Addr→List Str→Prop)(H:Hp)(a:Addr)(ls:List Str):Prop:=∃ kind hs ws bs ins,B7 LA H a kind hs ws bs ins∧ls=Txt.join " " (kind::ws)::br ins (aI kind)
def LinesAt:Nat→Hp→Addr→List Str→Prop
 | 0=>fun _ _ _=>False
 | d+1=>fun H p L=>∃ (as:List Addr) (Ls:List (List Str)),H p=some (.lst (as.map V.ref))∧Paired (n6 (LinesAt d H) H) as Ls∧L=Ls.flatten
theorem LinesAt.mono:∀ (d:Nat) {H H':Hp} {p:Addr} {L:List Str},LinesAt d H p L→Same H H'→LinesAt d H' p L
 | 0,_,_,_,_,h,_=>h.elim
 | d+1,H,H',p,L,⟨as,Ls,h1,h2,h3⟩,sm=>by
  refine⟨as,Ls,sm _ _ h1,Paired.imp' (fun a ls z=>?_) h2,h3⟩
  obtain⟨kind,hs,ws,bs,ins,z1,z2⟩:=z
  exact⟨kind,hs,ws,bs,ins,⟨sm _ _ z1.at',z1.parts,z1.size,z1.bl,Paired.imp' (fun b i y=>LinesAt.mono d y sm) z1.inn⟩,z2⟩
theorem eN{α β : Type}{R:α→β→Prop}:∀ {xs:List α} {ys:List β} {i:Nat} {x:α},Paired R xs ys→xs[i]? = some x→∃ y,ys[i]? = some y∧R x y
 | _,_,_,_,.nil,e=>by simp at e
 | _,_,0,_,.cons (b:=b) h _,e=>⟨b,rfl,by have:=Option.some.inj e; subst this; exact h⟩
 | _,_,i+1,_,.cons _ t,e=>by
  rw[List.getElem?_cons_succ]at e
  obtain⟨y,h1,h2⟩:=eN t e
  exact⟨y,by rw[List.getElem?_cons_succ]; exact h1,h2⟩
theorem bY{α β : Type}{R:α→β→Prop}:∀ {xs:List α} {ys:List β},Paired R xs ys→xs.length=ys.length
 | _,_,.nil=>rfl
 | _,_,.cons _ t=>by rw[List.length_cons,List.length_cons,bY t]
theorem mC:∀ {ins:List (List Str)} {cs:List Str} {j:Nat} {i:List Str} {c:Str},ins[j]? = some i→cs[j]? = some c→br (ins.take (j+1)) (cs.take (j+1))=br (ins.take j) (cs.take j)++(i++[c])
 | [],_,_,_,_,h,_=>by simp at h
 | _::_,[],_,_,_,_,h=>by simp at h
 | a::ins,b::cs,0,i,c,h,h'=>by
  have e1:a=i:=by simpa using h
  have e2:b=c:=by simpa using h'
  subst e1 e2
  show (a++[b])++br [] []=br [] []++(a++[b])
  simp[br]
 | a::ins,b::cs,j+1,i,c,h,h'=>by
  have ih:=mC (ins:=ins) (cs:=cs) (j:=j) (i:=i) (c:=c) (by simpa using h) (by simpa using h')
  show (a++[b])++br (ins.take (j+1)) (cs.take (j+1))=((a++[b])++br (ins.take j) (cs.take j))++(i++[c])
  rw[ih,List.append_assoc (a++[b])]
theorem nK:∀ {ins:List (List Str)} {cs:List Str} (j:Nat),(br (ins.take j) (cs.take j)).length≤(br ins cs).length
 | [],_,j=>by simp[br]
 | _::_,[],j=>by cases j <;> simp[br]
 | a::ins,b::cs,0=>by simp[br]
 | a::ins,b::cs,j+1=>by
  have ih:=nK (ins:=ins) (cs:=cs) j
  show ((a++[b])++br (ins.take j) (cs.take j)).length≤((a++[b])++br ins cs).length
  simp only[List.length_append]; omega
theorem oH{α : Type}:∀ (Ls:List (List α)) (i:Nat),(Ls.take i).flatten.length≤Ls.flatten.length
 | [],i=>by simp
 | a::Ls,0=>by simp
 | a::Ls,i+1=>by
  have ih:=oH Ls i
  rw[List.take_succ_cons,List.flatten_cons,List.flatten_cons,List.length_append,List.length_append]; omega
theorem vZ{α : Type}{Ls:List (List α)}{i:Nat}{l:List α}(h:Ls[i]? = some l):(Ls.take (i+1)).flatten=(Ls.take i).flatten++l:=by
 rw[List.take_add_one,h,List.flatten_append]; simp
def dE(K:PySem.W.Frag):Sp:=fun vs H Q _=>∃ k:Str,vs=[.str k]∧∀ (p:Addr) (H':Hp),Same H H'→SqT K H' p ((aI k).map V.str)→Q (.ref p) H'
def qo(K:PySem.W.Frag):Sp:=fun vs H Q _=>∃ (a:Addr) (k:Str) (xs:List V),vs=[.ref a]∧SqT K H a (.str k::xs)∧(aI k).length≤xs.length+1∧
 ∀ (p:Addr) (H':Hp),Same H H'→SqT K H' p ((V.str k::xs).take (xs.length+1 - (aI k).length))→Q (.ref p) H'
def mO(K:PySem.W.Frag):Sp:=fun vs H Q _=>∃ (a:Addr) (k:Str) (xs:List V),vs=[.ref a]∧SqT K H a (.str k::xs)∧(aI k).length≤xs.length+1∧
 ∀ (p:Addr) (H':Hp),Same H H'→SqT K H' p ((V.str k::xs).drop (xs.length+1 - (aI k).length))→Q (.ref p) H'
def sy(d:Nat):Sp:=fun vs H Q _=>∃ (p:Addr) (L:List Str),vs=[.ref p]∧LinesAt d H p L∧L.length≤10000∧∀ (q:Addr) (H':Hp),Same H H'→H q=none→H' q=some (.lst (L.map V.str))→Q (.ref q) H'
section
variable{P:Program}{w:World}{K:PySem.W.Frag}{mg:Str→Option Value}{base:Heap}
theorem tW(D:DefAt K mg "closers_of" cE) {d a0 a1 a2:Addr} (g_CLOSERS:mg "CLOSERS" = some (.ref d)) (m:ModD w K d [("lend", .ref a0),("if", .ref a1),("while", .ref a2)])
  (q0:∀ H:Hp,SqT K H a0 [.str "back"]) (q1:∀ H:Hp,SqT K H a1 [.str "else", .str "fi"]) (q2:∀ H:Hp,SqT K H a2 [.str "done"]):bf P w K mg base 1 "closers_of" ["kind"] (dE K):=by
 refine D.cal pR (fun _ _ _ _ _ _ us hl=>match us,hl with | [_],_=>rfl) (fun vs H Q E h=>by obtain⟨k,rfl,_⟩:=h; rfl) (fun f cdv A outer s H vs Q E hr h=>?_)
 obtain⟨k,rfl,q⟩:=h
 refine⟨_,(al (ax (Bh w K PySem.F.plainAttrs_dict PySem.F.slot_dict_get PySem.F.type_dict_get (AE w K) (i7 g_CLOSERS (hg:=FE)) (aa (pv 0 (hv:=FC)) (aa (dM ac) ac))))),?_⟩
 walk_at "rd1"
 refine⟨⟨d,_,rfl,m⟩,by decide,fun p hp=>?_⟩
 refine⟨d,_,k,.ref p,rfl,rfl,m,?_⟩
 have sm:=au hp (.tup [])
 unfold aI at q
 by_cases h0:k = "lend"
 ·subst h0; exact q _ _ sm (q0 _)
 rw[if_neg h0]at q
 by_cases h1:k = "if"
 ·subst h1; exact q _ _ sm (q1 _)
 rw[if_neg h1]at q
 by_cases h2:k = "while"
 ·subst h2; exact q _ _ sm (q2 _)
 rw[if_neg h2]at q
 have e:dv [(("lend" : Str),V.ref a0),("if", .ref a1),("while", .ref a2)] k=none:=by simp[dv,Ne.symm h0,Ne.symm h1,Ne.symm h2]
 rw[e]
 exact q _ _ sm (SqT.of ai)
theorem zF(D:DefAt K mg "head_of" cY) (z_len:mg "len" = none) (c_closers_of:bf P w K mg base 1 "closers_of" ["kind"] (dE K)):bf P w K mg base 2 "head_of" ["step"] (qo K):=by
 refine D.cal uA (fun _ _ _ _ _ _ us hl=>match us,hl with | [_],_=>rfl) (fun vs H Q E h=>by obtain⟨a,k,xs,rfl,_⟩:=h; rfl) (fun f cdv A outer s H vs Q E hr h=>?_)
 obtain⟨a,k,xs,rfl,ha,hl,q⟩:=h
 refine⟨_,(al (ax (b4 (mr K) (pv 0 (hv:=Ce)) ci (b6 (am j0 (aL (aW K) z_len bM (aa (pv 0 (hv:=Ce)) ac) (hg:=DR)) (aL (aW K) z_len bM (aa (aE c_closers_of hr (aa (bd (bG K) (pv 0 (hv:=Ce)) aj (fun _ _=>rfl)) ac) (hg:=Gj)) ac) (hg:=DR))))))),?_⟩
 walk_at "rd1"
 refine⟨_,.inr ha,?_⟩
 refine⟨_,_,.inr ha,eD,?_⟩
 refine⟨k,rfl,fun p H1 sm1 hp=>?_⟩
 walk_at "rd1"
 refine⟨_,.inr hp,?_⟩
 walk_at "rd1"
 have e:((xs.length+1:Nat):Int) - ((((aI k).map V.str).length:Nat):Int)=((xs.length+1 - (aI k).length:Nat):Int):=by
  rw[List.length_map]; omega
 rw[e]
 refine kW (ha.same sm1) fun p2 H2 sm2 h2=>q p2 H2 (sm1.trans sm2) ?_
 rw[Ai]at h2
 exact h2
theorem vV(D:DefAt K mg "blocks_of" cB) (z_len:mg "len" = none) (c_head_of:bf P w K mg base 2 "head_of" ["step"] (qo K)):bf P w K mg base 3 "blocks_of" ["step"] (mO K):=by
 refine D.cal qw (fun _ _ _ _ _ _ us hl=>match us,hl with | [_],_=>rfl) (fun vs H Q E h=>by obtain⟨a,k,xs,rfl,_⟩:=h; rfl) (fun f cdv A outer s H vs Q E hr h=>?_)
 obtain⟨a,k,xs,rfl,ha,hl,q⟩:=h
 refine⟨_,(al (ax (b4 (mr K) (pv 0 (hv:=DV)) (b6 (aL (aW K) z_len bM (aa (aE c_head_of hr (aa (pv 0 (hv:=DV)) ac) (hg:=Gg)) ac) (hg:=Gq))) ci))),?_⟩
 walk_at "rd1"
 refine⟨a,k,xs,rfl,ha,hl,fun p H1 sm1 hp=>?_⟩
 walk_at "rd1"
 refine⟨_,.inr hp,?_⟩
 have e:(((V.str k::xs).take (xs.length+1 - (aI k).length)).length:Int)=((xs.length+1 - (aI k).length:Nat):Int):=by
  rw[List.length_take,List.length_cons]; omega
 rw[e]
 refine kW (ha.same sm1) fun p2 H2 sm2 h2=>q p2 H2 (sm1.trans sm2) ?_
 rw[lS]at h2
 exact h2
theorem rg(D:DefAt K mg "lines_of" aY) (z_str:mg "str" = none) (z_zip:mg "zip" = none) (c_closers_of:bf P w K mg base 1 "closers_of" ["kind"] (dE K)) (c_head_of:bf P w K mg base 2 "head_of" ["step"] (qo K)) (c_blocks_of:bf P w K mg base 3 "blocks_of" ["step"] (mO K)) :
  ∀ d:Nat,bf P w K mg base (d+4) "lines_of" ["program"] (sy d)
 | 0=>D.cal (k:=3) sc_lines_of (fun _ _ _ _ _ _ us hl=>match us,hl with | [_],_=>rfl) (fun vs H Q E h=>by obtain⟨p,L,rfl,_⟩:=h; rfl) (fun f cdv A outer s H vs Q E hr h=>by obtain⟨p,L,rfl,z,_⟩:=h; exact z.elim)
 | d+1=>by
  have c_lines_of:=rg D z_str z_zip c_closers_of c_head_of c_blocks_of d
  refine D.cal (k:=d+4) sc_lines_of (fun _ _ _ _ _ _ us hl=>match us,hl with | [_],_=>rfl) (fun vs H Q E h=>by obtain⟨p,L,rfl,_⟩:=h; rfl) (fun f cdv A outer s H vs Q E hr h=>?_)
  obtain⟨p,L,rfl,⟨as,Ls,h1,h2,rfl⟩,hL,q⟩:=h
  have hlen:=bY h2
  refine⟨_,(af (aw 1 sc_lines_of.nd (aT ac) (hx:=Fx))
   (af (gi PassesOwn.never rfl (dH K (pv 0 (hv:=Gi))) (bX 2 sc_lines_of.nd (hx:=Gs)) (af (dk (bL K PySem.F.plainAttrs_list PySem.F.slot_list_append PySem.F.type_list_append cQ (pv 1 (hv:=y7)) (aa (bL K PySem.F.plainAttrs_str PySem.F.slot_str_join PySem.F.type_str_join (fD K) ah (aa (dS (CompSc.to (fsc:=(defScope aY)) (N:=["program", "lines", "step", "block", "closer"]) (N0:=["program", "lines", "step", "block", "closer"]) (T:=["part"]) ⟨by decide +kernel,by decide +kernel,by decide +kernel,by decide +kernel,by decide +kernel,by decide +kernel,by decide +kernel⟩ rfl rfl) rfl (mj K (aE c_head_of hr (aa (pv 2 (hv:=Cw)) ac) (hg:=EI) (hle:=by omega))) (fun _ _ _ _=>(bX 5 (show (["program", "lines", "step", "block", "closer", "part"]:List Str).Nodup from by decide +kernel) (hx:=(hX (defScope aY) (by decide +kernel))) (hf:=jT (defScope aY) (by decide +kernel)))) (cN (show (["program", "lines", "step", "block", "closer"]:List Str).length≤5 from by decide)) (fun _ _ _ _=>du) (fun _ _ _ _=>(dA wn z_str jq (aa (pv 5 (hv:=(dL (defScope aY) (by decide +kernel)))) ac) (hg:=(nw (defScope aY) (by decide +kernel)))))) ac)) ac)))
   (al (gi PassesOwn.never rfl (oz K Fo z_zip (aa (aE c_blocks_of hr (aa (pv 2 (hv:=Cw)) ac) (hg:=Fd) (hle:=by omega)) (aa (aE c_closers_of hr (aa (bd (bG K) (pv 2 (hv:=Cw)) aj (fun _ _=>rfl)) ac) (hg:=En) (hle:=by omega)) ac))) (mn K (n:=2) (eO (bX 3 sc_lines_of.nd (hx:=Gu)) (eO (bX 4 sc_lines_of.nd (hx:=Fy)) lZ))) (af (dk (bL K PySem.F.plainAttrs_list PySem.F.slot_list_extend PySem.F.type_list_extend nV (pv 1 (hv:=y7)) (aa (aE c_lines_of hr (aa (pv 3 (hv:=FZ)) ac) (hg:=EW) (hle:=by omega)) ac)))
   (al (dk (bL K PySem.F.plainAttrs_list PySem.F.slot_list_append PySem.F.type_list_append cQ (pv 1 (hv:=y7)) (aa (pv 4 (hv:=F0)) ac)))))))))
   (al (ax (pv 1 (hv:=y7)))))),?_⟩
  walk_at "rd1"
  refine⟨by decide,fun lp hlp=>?_⟩
  generalize hH1:upd H lp _=H1
  have sm1:=av hH1 hlp
  have e1:=aJ hH1
  walk_at "nx"
  refine⟨⟨_,SqL.of (sm1 _ _ h1)⟩,?_⟩
  refine jH (xs:=as.map V.ref) (fun i σ H'=>∃ o2 o3 o4:Option V,σ=[some (.ref p),some (.ref lp),o2,o3,o4]∧Same H H'∧H' lp=some (.lst ((Ls.take i).flatten.map V.str)))
   ⟨none,none,none,rfl,sm1,e1⟩ (fun i σ H' _ h=>by obtain⟨_,_,_,_,sm,_⟩:=h; exact SqL.of (sm _ _ h1)) ?_ ?_
  ·rintro i v σ H' hv ⟨o2,o3,o4,rfl,sm,hl⟩
   have hi:i<as.length:=by have:=(List.getElem?_eq_some_iff.mp hv).1; simpa using this
   rw[List.getElem?_map,List.getElem?_eq_getElem hi]at hv
   cases hv
   obtain⟨ls,hls,kind,hs,ws,bs,ins,st,rfl⟩:=eN h2 (List.getElem?_eq_getElem hi)
   have hflat:=vZ hls
   have hfl:=oH Ls (i+1)
   rw[hflat]at hfl ⊢
   generalize (Ls.take i).flatten=pre at hl hfl hflat ⊢
   rw[List.length_append,List.length_cons]at hfl
   have hat:SqT K H' as[i] (.str kind::(hs++bs.map V.ref)):=SqT.of (sm _ _ st.at')
   have hcl:(aI kind).length≤(hs++bs.map V.ref).length+1:=by rw[List.length_append,List.length_map,st.bl]; omega
   have hcut:(hs++bs.map V.ref).length+1 - (aI kind).length=hs.length+1:=by rw[List.length_append,List.length_map,st.bl]; omega
   have hpl:=bY st.parts
   have hsz:=st.size
   walk_at "rd1"
   refine⟨⟨_,SqL.of hl⟩,as[i],kind,hs++bs.map V.ref,rfl,hat,hcl,fun hp H2 sm2 hhp=>?_⟩
   rw[hcut]at hhp
   have etk:(V.str kind::(hs++bs.map V.ref)).take (hs.length+1)=V.str kind::hs:=by rw[List.take_succ_cons,List.take_left']; rfl
   rw[etk]at hhp
   walk_at "rd1"
   refine⟨⟨_,hhp⟩,fun C hC=>?_⟩
   refine vF (xs:=V.str kind::hs) (fun j ys H3=>Same H2 H3∧H3 C=some (.lst ys)∧ys=((kind::ws).take j).map V.str) ⟨au hC _,ai,rfl⟩ (fun j ys H3 _ h=>hhp.same h.1) ?_ ?_
   ·rintro j ys H3 x hx hj ⟨sm3,hl3,rfl⟩
    obtain⟨y,hy,hr'⟩:=eN (R:=lu) (.cons (show lu (.str kind) kind from rfl) st.parts) hx
    have hjl:j<(kind::ws).length:=(List.getElem?_eq_some_iff.mp hy).1
    have fin:kI (V.str kind::hs).length j (fun j ys H3=>Same H2 H3∧H3 C=some (.lst ys)∧ys=((kind::ws).take j).map V.str) C (((kind::ws).take j).map V.str) (.str y) H3:=by
     refine jI hj (by rw[List.length_map,List.length_take]; omega) (ao (by simp only[List.length_cons]at hsz hjl ⊢; omega)) hl3 ⟨sm3.upd hC _,ai,?_⟩
     rw[List.take_add_one,hy,List.map_append]; rfl
    match x,hr' with
    | .str z,hr'=>
     have e:y=z:=hr'
     subst e
     walk_at "rd1"
     exact fin
    | .int z,hr'=>
     obtain⟨g1,rfl⟩:=hr'
     walk_at "rd1"
     exact⟨g1,fin⟩
   rintro ys H3 ⟨sm3,hl3,rfl⟩
   have hl3':H3 C=some (.lst ((kind::ws).map V.str)):=by
    rw[hl3,List.length_cons,hpl,List.take_of_length_le (by simp)]
   have smA:=sm2.trans sm3
   have h1l:(Str.ofString " ").length=1:=by decide
   walk_at "rd1"
   refine⟨kind::ws,SqL.of hl3',by rw[h1l]; omega,?_⟩
   refine⟨_,smA _ _ hl,by rw[List.length_map]; exact ff (by omega),?_⟩
   generalize hH4:upd H3 lp _=H4
   have smH:Same H H4:=fun b o e=>by
    have nb:b≠lp:=fun z=>by subst z; rw[hlp]at e; cases e
    rw[← hH4,aA nb]; exact smA _ _ (sm _ _ e)
   have e4:H4 lp=some (.lst ((pre++[Txt.join " " (kind::ws)]).map V.str)):=by rw[← hH4,ai,List.map_append]; rfl
   have hat4:SqT K H4 as[i] (.str kind::(hs++bs.map V.ref)):=SqT.of (smH _ _ st.at')
   walk_at "nx"
   refine⟨as[i],kind,hs++bs.map V.ref,rfl,hat4,hcl,fun bp H5 sm5 hbp=>?_⟩
   rw[hcut]at hbp
   have edr:(V.str kind::(hs++bs.map V.ref)).drop (hs.length+1)=bs.map V.ref:=by rw[List.drop_succ_cons,List.drop_left']; rfl
   rw[edr]at hbp
   walk_at "rd1"
   refine⟨_,_,.inr (hat4.same sm5),eD,kind,rfl,fun cp H6 sm6 hcp=>?_⟩
   walk_at "rd1"
   refine⟨⟨_,hbp.same sm6⟩,⟨_,hcp⟩,?_⟩
   have sm46:=sm5.trans sm6
   have hil:=bY st.inn
   have hbl:=st.bl
   refine oV (xs:=bs.map V.ref) (ys:=(aI kind).map V.str) (fun j σ H'=>∃ o3 o4:Option V,σ=[some (.ref p),some (.ref lp),some (.ref as[i]),o3,o4]∧Same H H'∧SqT K H' bp (bs.map V.ref)∧SqT K H' cp ((aI kind).map V.str)∧
     H' lp=some (.lst ((pre++([Txt.join " " (kind::ws)]++br (ins.take j) ((aI kind).take j))).map V.str)))
    (by rw[List.length_map,List.length_map]; exact hbl) ⟨o3,o4,rfl,smH.trans sm46,hbp.same sm6,hcp,by rw[sm46 _ _ e4]; simp[br]⟩ (fun j σ H' _ h=>by obtain⟨_,_,_,_,z1,z2,_⟩:=h; exact⟨z1,z2⟩) ?_ ?_
   ·rintro j x y t σ H7 hx hy ⟨o3,o4,rfl,sm7,hb7,hc7,hl7⟩ ht
    have hj:j<bs.length:=by have:=(List.getElem?_eq_some_iff.mp hx).1; simpa using this
    have hjc:j<(aI kind).length:=by omega
    rw[List.getElem?_map,List.getElem?_eq_getElem hj]at hx
    cases hx
    rw[List.getElem?_map,List.getElem?_eq_getElem hjc]at hy
    cases hy
    obtain⟨il,hil',hla⟩:=eN st.inn (List.getElem?_eq_getElem hj)
    have hsn:=mC hil' (List.getElem?_eq_getElem hjc)
    have hcl1:=nK (ins:=ins) (cs:=aI kind) (j+1)
    rw[hsn]at hcl1 ⊢
    rw[List.length_append,List.length_append]at hcl1
    generalize br (ins.take j) ((aI kind).take j)=mid at hl7 hsn hcl1 ⊢
    have st7:=au ht (.tup [V.ref bs[j],.str (aI kind)[j]])
    have et7:upd H7 t (.tup [V.ref bs[j],.str (aI kind)[j]]) t=some (.tup [V.ref bs[j],.str (aI kind)[j]]):=ai
    generalize upd H7 t (.tup [V.ref bs[j],.str (aI kind)[j]])=H8 at st7 et7 ⊢
    have hl8:=st7 _ _ hl7
    walk_at "rd1"
    refine⟨t,_,rfl,SqT.of et7,rfl,?_⟩
    walk_at "rd1"
    refine⟨⟨_,SqL.of hl8⟩,bs[j],il,rfl,LinesAt.mono d hla (sm7.trans st7),by omega,fun r H9 sm9 hr9 hl9=>?_⟩
    walk_at "rd1"
    refine⟨_,_,sm9 _ _ hl8,hl9,ao (by simp only[List.length_map,List.length_append,List.length_cons,List.length_nil]; omega),?_⟩
    have hb9:=((hb7.same st7).same sm9).updL (sm9 _ _ hl8) (o:=.lst ((pre++([Txt.join " " (kind::ws)]++mid)).map V.str++il.map V.str))
    have hc9:=((hc7.same st7).same sm9).updL (sm9 _ _ hl8) (o:=.lst ((pre++([Txt.join " " (kind::ws)]++mid)).map V.str++il.map V.str))
    have sm10:Same H (upd H9 lp (.lst ((pre++([Txt.join " " (kind::ws)]++mid)).map V.str++il.map V.str))):=((sm7.trans st7).trans sm9).upd hlp _
    have e10:upd H9 lp (.lst ((pre++([Txt.join " " (kind::ws)]++mid)).map V.str++il.map V.str)) lp=some (.lst ((pre++([Txt.join " " (kind::ws)]++mid)).map V.str++il.map V.str)):=ai
    generalize upd H9 lp (.lst ((pre++([Txt.join " " (kind::ws)]++mid)).map V.str++il.map V.str))=H10 at hb9 hc9 sm10 e10 ⊢
    walk_at "nx"
    refine⟨⟨_,SqL.of e10⟩,_,e10,ff (by simp only[List.length_map,List.length_append,List.length_cons,List.length_nil]; omega),?_⟩
    refine⟨_,_,rfl,sm10.upd hlp _,hb9.updL e10,hc9.updL e10,?_⟩
    rw[ai]
    simp only[List.map_append,List.map_cons,List.map_nil,List.append_assoc,List.cons_append,List.nil_append]
   ·rintro σ H7 ⟨o3,o4,rfl,sm7,_,_,hl7⟩
    refine⟨_,_,_,rfl,sm7,?_⟩
    rw[hl7,List.length_map,List.take_of_length_le (by omega),List.take_of_length_le (by omega)]; rfl
  ·rintro σ H' ⟨o2,o3,o4,rfl,sm,hl⟩
   walk_at "nx"
   rw[List.length_map,List.take_of_length_le (by omega)]at hl
   exact q lp H' sm hlp hl
end
abbrev letters:Str := "abcdefghijklmnopqrstuvwxyz"
def pX(K:PySem.W.Frag):Sp:=fun vs H Q _=>∃ (a:Addr) (ns:List Int),vs=[.ref a]∧SqL K H a (ns.map V.int)∧ns.length≤63∧∀ H',Q (.bl true) H'
def vN(K:PySem.W.Frag):Sp:=fun vs H Q _=>∃ (a:Addr) (ns:List Int) (k:Int),vs=[.ref a,.int k]∧SqL K H a (ns.map V.int)∧0≤k∧Q (.int (ns.getD k.toNat 0)) H
theorem ky(b:Nat):∀ (ss:List Str),(∀ s∈ss,s.length≤b)→(ss.map (·.length)).sum≤ss.length * b
 | [],_=>by simp
 | s::ss,h=>by
  have h1:=ky b ss fun x hx=>h x (List.mem_cons_of_mem _ hx)
  have h2:=h s List.mem_cons_self
  rw[List.map_cons,List.sum_cons,List.length_cons,Nat.succ_mul]
  omega
section
variable{P:Program}{w:World}{K:PySem.W.Frag}{mg:Str→Option Value}{base:Heap}
theorem Ag(D:DefAt K mg "_law_cell_at" ce) (z_len:mg "len" = none):bf P w K mg base 1 "_law_cell_at" ["_law_script", "_law_k"] (vN K):=by
 refine D.cal oK (fun _ _ _ _ _ _ us hl=>match us,hl with | [_,_],_=>rfl) (fun vs H Q E h=>by obtain⟨a,ns,k,rfl,_⟩:=h; rfl) (fun f cdv A outer s H vs Q E hr h=>?_)
 obtain⟨a,ns,k,rfl,hS,h0,q⟩:=h
 refine⟨_,(af (bq (aH ig (pv 1 (hv:=AO)) (aL (aW K) z_len bM (aa (pv 0 (hv:=Ck)) ac) (hg:=Et)) (aG _)) (al (ax (bd (bG K) (pv 0 (hv:=Ck)) (pv 1 (hv:=AO)) (fun _ _=>rfl)))) aP)
   (al (ax aj))),?_⟩
 try simp only[gP,i_,eQ,dY,hW,i8,iJ,gv,iO,gH,iI,gu,iG,iM,iT,lY,j6,j4,gZ,lW,iN,j8,iH,gM,h9,j7,ko,gQ,iF,iS,i6,hU,jU,iW,fW,dm,dU,g9,fF,ke,gq,eS,gW,i5,g0,gC,i4,g6,iZ,gX,i3,g7,ki,ml,fU,fG,fQ,fJ,fO,iQ,gw,g8,fV,iK,mq,iV,iE,hZ,gG,gY,g_,dX,dW,fK,fI,gK,hE,eX,gJ,iY,i9,iU,fN,fP,eV,iL,gx,eW,fM,gr,gA,gF,gy,hJ,jb,iP,ja,L2.start,List.map_cons,List.map_nil,List.length_cons,List.length_nil,List.replicate,List.cons_append,List.nil_append,List.append_nil,List.getElem?_cons_zero,List.getElem?_cons_succ,List.set_cons_zero,List.set_cons_succ,Nat.reduceAdd,Nat.reduceSub,Option.some.injEq,exists_eq_left',exists_eq_left,V.int.injEq,V.ref.injEq,V.str.injEq,V.bl.injEq,j_,iX,and_true,true_and,decide_eq_true_eq,Bool.not_true,Bool.not_false,if_true,Bool.false_eq_true,if_false,ite_true,ite_false]
 refine⟨_,.inl hS,aB (fun c=>?_) (fun c=>?_)⟩
 ·rw[List.length_map]at c
  refine⟨_,.int (ns.getD k.toNat 0),.inl hS,wJ h0 ?_,q⟩
  rw[List.getD_eq_getElem?_getD,List.getElem?_eq_getElem (by omega)]; rfl
 ·rw[List.length_map]at c
  have e:ns.getD k.toNat 0=0:=by
   rw[List.getD_eq_getElem?_getD,List.getElem?_eq_none (by omega)]; rfl
  rw[e]at q; exact q
end
theorem kc{ns:List Str}(hn:1≤ns.length)(z:Int):∃ x,x∈ns∧gf (ns.map V.str) (z % (ns.length:Int))=some (.str x):=by
 have h0:0≤z % (ns.length:Int):=Int.emod_nonneg _ (by omega)
 have h1:z % (ns.length:Int)<ns.length:=Int.emod_lt_of_pos _ (by omega)
 have hlt:(z % (ns.length:Int)).toNat<ns.length:=by omega
 refine⟨ns[(z % (ns.length:Int)).toNat],List.getElem_mem hlt,wJ h0 (List.getElem?_eq_getElem hlt)⟩
theorem ie(sep k:Str)(ws:List Str):Txt.join sep (k::ws)=ws.foldl (fun a x=>a++sep++x) k:=by
 have go:∀ (ws:List Str) (a:Str),(⟨ws.foldl (fun acc p=>acc++sep.cps++p.cps) a.cps⟩ : Str)=ws.foldl (fun a x=>a++sep++x) a:=by
  intro ws
  induction ws with
  | nil=>intro a; rfl
  | cons x ws ih=>intro a; rw[List.foldl_cons,List.foldl_cons]; exact ih (a++sep++x)
 exact go ws k
def iC:List Str:=["open", "copy", "drop", "tie", "do"]
structure qg (ws:List Str):Prop where
 two:2≤ws.length
 three:ws.length≤3
 kind:ws.headD "" ∈ iC
 len:∀ x∈ws,x.length≤20
def C2(H:Hp)(a:Addr)(ws:List Str):Prop:=H a=some (.tup (ws.map V.str))∧qg ws
def jh{α : Type}(xs:List α)(lo hi:Option Int):List α:=(xs.drop (HT.sIx xs.length 0 lo)).take (HT.sIx xs.length xs.length hi - HT.sIx xs.length 0 lo)
theorem gS{α : Type}(f:α→V)(xs:List α)(lo hi:Option Int):dJ (xs.map f) lo hi=(jh xs lo hi).map f:=by
 unfold dJ jh
 rw[List.length_map,List.map_take,List.map_drop]
theorem yP{α : Type}(xs:List α)(lo hi:Option Int):(jh xs lo hi).length≤xs.length:=by
 unfold jh
 rw[List.length_take,List.length_drop]
 omega
theorem uI{H:Hp}{a:Addr}{ws:List Str}{LA:Addr→List Str→Prop}(h:C2 H a ws):n6 LA H a [Txt.join " " ws]:=by
 obtain⟨h1,two,three,kd,len⟩:=h
 cases ws with
 | nil=>simp at two
 | cons k ws=>
  have hk:k∈iC:=kd
  have hc:aI k=[]:=by
   simp only[iC,List.mem_cons,List.mem_nil_iff,or_false]at hk
   rcases hk with rfl | rfl | rfl | rfl | rfl <;> decide
  have hp:∀ ws:List Str,Paired lu (ws.map V.str) ws:=fun ws=>by
   induction ws with
   | nil=>exact .nil
   | cons x ws ih=>exact .cons (show lu (.str x) x from rfl) ih
  refine⟨k,ws.map V.str,ws,[],[],⟨by rw[List.map_nil,List.append_nil]; exact h1,hp ws,?_,by rw[hc]; rfl,.nil⟩,by rw[hc]; rfl⟩
  have:=ky 20 (k::ws) len
  simp only[List.length_cons]at this two three ⊢
  omega
theorem jQ{α β : Type}{R:α→β→Prop}{x:α}{y:β}(hxy:R x y):∀ {xs:List α} {ys:List β},Paired R xs ys→Paired R (xs++[x]) (ys++[y])
 | _,_,.nil=>.cons hxy .nil
 | _,_,.cons h t=>.cons h (jQ hxy t)
inductive ak where
 | plain (ws:List Str)
 | lend (x y:Str) (b:List ak)
 | ite (n:Int) (b c:List ak)
 | whl (n:Int) (b:List ak)
def aO(n:Int):Str:=Str.ofString (toString n)
def bz(f:List ak→List Str):ak→List Str
 | .plain ws=>[Txt.join " " ws]
 | .lend x y b=>Txt.join " " ["lend", x,y]::(f b++[("back" : Str)])
 | .ite n b c=>Txt.join " " ["if", aO n]::(f b++[("else" : Str)]++(f c++[("fi" : Str)]))
 | .whl n b=>Txt.join " " ["while", aO n]::(f b++[("done" : Str)])
def aK:Nat→List ak→List Str
 | 0,_=>[]
 | d+1,T=>T.flatMap (bz (aK d))
def A3(f:List ak→Prop):ak→Prop
 | .plain ws=>qg ws
 | .lend x y b=>x.length≤20∧y.length≤20∧f b
 | .ite n b c=>n.natAbs.log2<1920∧f b∧f c
 | .whl n b=>n.natAbs.log2<1920∧f b
def CJ:Nat→List ak→Prop
 | 0,_=>False
 | d+1,T=>∀ s∈T,A3 (CJ d) s
def stpAt(PA:Addr→List ak→Prop)(H:Hp)(a:Addr):ak→Prop
 | .plain ws=>H a=some (.tup (ws.map V.str))
 | .lend x y b=>∃ q,H a=some (.tup [.str "lend", .str x,.str y,.ref q])∧PA q b
 | .ite n b c=>∃ q r,H a=some (.tup [.str "if", .int n,.ref q,.ref r])∧PA q b∧PA r c
 | .whl n b=>∃ q,H a=some (.tup [.str "while", .int n,.ref q])∧PA q b
def ProgAt(S:Addr→Prop):Nat→Hp→Addr→List ak→Prop
 | 0=>fun _ _ _=>False
 | d+1=>fun H p T=>S p∧∃ as:List Addr,H p=some (.lst (as.map V.ref))∧Paired (stpAt (ProgAt S d H) H) as T
def sj(H H':Hp)(M:Addr→Prop):Prop:=∀ b o,H b=some o→¬ M b→H' b=some o
theorem stpAt.imp{PA PA':Addr→List ak→Prop}{H H':Hp}{a:Addr}(ht:∀ b xs,H b=some (.tup xs)→H' b=some (.tup xs))(hp:∀ q b,PA q b→PA' q b):∀ {s:ak},stpAt PA H a s→stpAt PA' H' a s
 | .plain _,h=>ht _ _ h
 | .lend _ _ _,⟨q,h,z⟩=>⟨q,ht _ _ h,hp _ _ z⟩
 | .ite _ _ _,⟨q,r,h,z,y⟩=>⟨q,r,ht _ _ h,hp _ _ z,hp _ _ y⟩
 | .whl _ _,⟨q,h,z⟩=>⟨q,ht _ _ h,hp _ _ z⟩
theorem ProgAt.imp{S S':Addr→Prop}{H H':Hp}(ht:∀ b xs,H b=some (.tup xs)→H' b=some (.tup xs))(hl:∀ b xs,S b→H b=some (.lst xs)→H' b=some (.lst xs))(hS:∀ b,S b→S' b) :
  ∀ (d:Nat) {p:Addr} {T:List ak},ProgAt S d H p T→ProgAt S' d H' p T
 | 0,_,_,h=>h.elim
 | d+1,p,T,⟨h0,as,h1,h2⟩=>⟨hS _ h0,as,hl _ _ h0 h1,Paired.imp' (fun a s z=>z.imp ht fun q b y=>ProgAt.imp ht hl hS d y) h2⟩
theorem ProgAt.mono{S:Addr→Prop}{H H':Hp}{d:Nat}{p:Addr}{T:List ak}(h:ProgAt S d H p T)(sm:Same H H'):ProgAt S d H' p T:=h.imp (fun b xs e=>sm _ _ e) (fun b xs _ e=>sm _ _ e) (fun _ z=>z) d
theorem su{n:Int}(h:n.natAbs.log2<1920):(aO n).length≤1921:=by
 have e:=int_text_length_le (k:=1920) (by decide) h
 unfold aO
 rw[PySem.ofString_length]; exact e
theorem uL{PA:Addr→List ak→Prop}{LA:Addr→List Str→Prop}{H:Hp}{a:Addr}{f:List ak→List Str}{g:List ak→Prop}(hp:∀ q b,PA q b→g b→LA q (f b)):∀ {s:ak},stpAt PA H a s→A3 g s→n6 LA H a (bz f s)
 | .plain ws,h,ok=>uI ⟨h,ok⟩
 | .lend x y b,⟨q,h,z⟩,⟨o1,o2,o3⟩=>by
  refine⟨"lend", [.str x,.str y],[x,y],[q],[f b],⟨h,.cons rfl (.cons rfl .nil),?_,by show 1=(aI "lend").length; decide,.cons (hp _ _ z o3) .nil⟩,by show _=_::br [f b] ["back"]; simp[bz,br]⟩
  have:(Str.ofString "lend").length=4:=by decide
  simp only[List.map_cons,List.map_nil,List.sum_cons,List.sum_nil,List.length_cons,List.length_nil,this]; omega
 | .ite n b c,⟨q,r,h,z,y⟩,⟨o1,o2,o3⟩=>by
  refine⟨"if", [.int n],[aO n],[q,r],[f b,f c],⟨h,.cons ⟨o1,rfl⟩ .nil,?_,by show 2=(aI "if").length; decide,.cons (hp _ _ z o2) (.cons (hp _ _ y o3) .nil)⟩,?_⟩
  ·have:(Str.ofString "if").length=2:=by decide
   have:=su o1
   simp only[List.map_cons,List.map_nil,List.sum_cons,List.sum_nil,List.length_cons,List.length_nil]; omega
  ·show _=_::br [f b,f c] ["else", "fi"]
   simp[bz,br]
 | .whl n b,⟨q,h,z⟩,⟨o1,o2⟩=>by
  refine⟨"while", [.int n],[aO n],[q],[f b],⟨h,.cons ⟨o1,rfl⟩ .nil,?_,by show 1=(aI "while").length; decide,.cons (hp _ _ z o2) .nil⟩,by show _=_::br [f b] ["done"]; simp[bz,br]⟩
  have:(Str.ofString "while").length=5:=by decide
  have:=su o1
  simp only[List.map_cons,List.map_nil,List.sum_cons,List.sum_nil,List.length_cons,List.length_nil]; omega
theorem my{PA:Addr→List ak→Prop}{LA:Addr→List Str→Prop}{H:Hp}{f:List ak→List Str}{g:List ak→Prop}(hp:∀ q b,PA q b→g b→LA q (f b)) :
  ∀ {as:List Addr} {T:List ak},Paired (stpAt PA H) as T→(∀ s∈T,A3 g s)→Paired (n6 LA H) as (T.map (bz f))
 | _,_,.nil,_=>.nil
 | _,_,.cons h t,ok=>.cons (uL hp h (ok _ List.mem_cons_self)) (my hp t fun s hs=>ok s (List.mem_cons_of_mem _ hs))
theorem kQ{S:Addr→Prop}{H:Hp}:∀ (d:Nat) {p:Addr} {T:List ak},ProgAt S d H p T→CJ d T→LinesAt d H p (aK d T)
 | 0,_,_,h,_=>h.elim
 | d+1,p,T,⟨_,as,h1,h2⟩,ok=>⟨as,T.map (bz (aK d)),h1,my (fun q b z o=>kQ d z o) h2 ok,List.flatMap_def⟩
def a_:ak→List (List ak)
 | .plain _=>[]
 | .lend _ _ b=>[b]
 | .ite _ b c=>[b,c]
 | .whl _ b=>[b]
def jj(f:List ak→List ak)(s:ak):List ak:=s::(a_ s).flatMap f
def di:Nat→List ak→List ak
 | 0,_=>[]
 | d+1,T=>T.flatMap (jj (di d))
inductive dB:List Str→Prop
 | opn (x:Str):dB ["open", x]
 | drp (x:Str):dB ["drop", x]
 | cpy (x y:Str):dB ["copy", x,y]
 | tie (x y:Str):dB ["tie", x,y]
 | doo (u x:Str):dB ["do", u,x]
def b0:ak→List Str
 | .plain ws=>if ws.headD "" = "do" then ws.drop 2 else ws.drop 1
 | .lend x y _=>[x,y]
 | .ite _ _ _=>[]
 | .whl _ _=>[]
def eL(f:List ak→Prop):ak→Prop
 | .plain ws=>dB ws
 | .lend _ _ b=>f b
 | .ite _ b c=>f b∧f c
 | .whl _ b=>f b
def headAt(H:Hp)(a:Addr)(s:ak):Prop:=stpAt (fun _ _=>True) H a s
theorem headAt.mono{H H':Hp}{a:Addr}{s:ak}(h:headAt H a s)(sm:Same H H'):headAt H' a s:=stpAt.imp (fun b xs e=>sm _ _ e) (fun _ _ _=>trivial) h
theorem t9{PA:Addr→List ak→Prop}{H:Hp}{a:Addr}{g:List ak→Prop}:∀ {s:ak},stpAt PA H a s→eL g s→∃ (kind:Str) (hs:List V) (bs:List Addr),H a=some (.tup (.str kind::hs++bs.map V.ref))∧bs.length=(aI kind).length∧Paired PA bs (a_ s)∧∀ b∈a_ s,g b
 | .plain ws,h,ok=>by
  cases ok with
  | opn x=>exact⟨"open", [.str x],[],h,by show 0=(aI "open").length; decide,.nil,by simp[a_]⟩
  | drp x=>exact⟨"drop", [.str x],[],h,by show 0=(aI "drop").length; decide,.nil,by simp[a_]⟩
  | cpy x y=>exact⟨"copy", [.str x,.str y],[],h,by show 0=(aI "copy").length; decide,.nil,by simp[a_]⟩
  | tie x y=>exact⟨"tie", [.str x,.str y],[],h,by show 0=(aI "tie").length; decide,.nil,by simp[a_]⟩
  | doo u x=>exact⟨"do", [.str u,.str x],[],h,by show 0=(aI "do").length; decide,.nil,by simp[a_]⟩
 | .lend x y b,⟨q,h,z⟩,ok=>⟨"lend", [.str x,.str y],[q],h,by show 1=(aI "lend").length; decide,.cons z .nil,by simpa [a_,eL] using ok⟩
 | .ite n b c,⟨q,r,h,z,y⟩,ok=>⟨"if", [.int n],[q,r],h,by show 2=(aI "if").length; decide,.cons z (.cons y .nil),by simpa [a_,eL] using ok⟩
 | .whl n b,⟨q,h,z⟩,ok=>⟨"while", [.int n],[q],h,by show 1=(aI "while").length; decide,.cons z .nil,by simpa [a_,eL] using ok⟩
theorem C0{α β : Type}(f:α→List β)(T:List α)(i:Nat):((T.take i).flatMap f).length≤(T.flatMap f).length:=by
 rw[List.flatMap_def,List.flatMap_def,List.map_take]; exact oH _ _
theorem z9{α β : Type}(f:α→List β){T:List α}{i:Nat}{x:α}(h:T[i]? = some x):(T.take (i+1)).flatMap f=(T.take i).flatMap f++f x:=by
 rw[List.take_add_one,h,List.flatMap_append]; simp
theorem nq{α β : Type}{R:α→β→Prop}:∀ {xs zs:List α} {ys us:List β},Paired R xs ys→Paired R zs us→Paired R (xs++zs) (ys++us)
 | _,_,_,_,.nil,h=>h
 | _,_,_,_,.cons h t,h'=>.cons h (nq t h')
section
variable{P:Program}{w:World}{K:PySem.W.Frag}{mg:Str→Option Value}{base:Heap}
def fB(acc:List Str)(x:Str):List Str:=if x∈acc then acc else acc++[x]
def fH(l:List Str):List Str:=l.foldl fB []
def lj(l:List Str):List (bT × V):=l.map fun x=>(Sum.inr x,V.bl true)
theorem zC(acc:List Str)(x:Str):gh (lj acc) (.inr x) (.bl true)=lj (fB acc x):=by
 unfold gh fB
 by_cases h:x∈acc
 ·rw[if_pos h]
  have ha:((lj acc).any fun kv=>decide (kv.1=(Sum.inr x:bT)))=true:=by
   rw[List.any_eq_true]
   exact⟨(.inr x,.bl true),List.mem_map.mpr ⟨x,h,rfl⟩,by simp⟩
  rw[if_pos ha]
  unfold lj
  rw[List.map_map]
  refine List.map_congr_left fun y _=>?_
  by_cases e:y=x
  ·subst e; simp
  ·have:¬ ((Sum.inr y:bT)=Sum.inr x):=fun z=>e (Sum.inr.inj z)
   simp[this]
 ·rw[if_neg h]
  have ha:((lj acc).any fun kv=>decide (kv.1=(Sum.inr x:bT)))=false:=by
   rw[List.any_eq_false]
   intro kv hkv
   obtain⟨y,hy,rfl⟩:=List.mem_map.mp hkv
   have:¬ ((Sum.inr y:bT)=Sum.inr x):=fun z=>h (Sum.inr.inj z ▸ hy)
   simp[this]
  rw[if_neg (by rw[ha]; exact Bool.false_ne_true)]
  unfold lj
  rw[List.map_append]; rfl
theorem lV:∀ (l acc:List Str),(l.foldl fB acc).length≤acc.length+l.length
 | [],acc=>by simp
 | x::l,acc=>by
  have:=lV l (fB acc x)
  have h2:(fB acc x).length≤acc.length+1:=by unfold fB; split <;> simp
  rw[List.foldl_cons,List.length_cons]; omega
def cn:List V→List Str→List Str
 | .str x::xs,k::ks=>if k = "name" then x::cn xs ks else cn xs ks
 | _::xs,_::ks=>cn xs ks
 | _,_=>[]
def dN:List (Str × List Str):=[("open", ["name"]),("do", ["word", "name"]),("copy", ["name", "name"]),("drop", ["name"]),("tie", ["name", "name"]),("lend", ["name", "name", "steps"]),("if", ["bound", "steps", "steps"]),("while", ["bound", "steps"])]
structure FM (H:Hp) (a:Addr) (s:ak) (kind:Str) (xs:List V) (ks:List Str):Prop where
 at':H a=some (.tup (.str kind::xs))
 kd:(kind,ks)∈dN
 len:xs.length=ks.length
 txt:∀ (i:Nat) (x:V),xs[i]? = some x→ks[i]? = some "name" → ∃ y,x = .str y
 names:cn xs ks=b0 s
theorem qM{α : Type}{a b x:α}{i:Nat}(h:[a,b][i]? = some x):(i=0∧x=a)∨(i=1∧x=b):=by
 match i,h with
 | 0,h=>exact .inl ⟨rfl,by simpa using h.symm⟩
 | 1,h=>exact .inr ⟨rfl,by simpa using h.symm⟩
 | i+2,h=>simp at h
theorem uD{H:Hp}{a:Addr}{g:List ak→Prop}:∀ {s:ak},headAt H a s→eL g s→∃ kind xs ks,FM H a s kind xs ks
 | .plain ws,h,ok=>by
  cases ok with
  | opn x=>exact⟨"open", [.str x],["name"],h,by simp[dN],rfl,fun i y e _=>by match i,e with | 0,e=>exact⟨x,by simpa using e.symm⟩ | i+1,e=>simp at e,by simp[cn,b0]; decide⟩
  | drp x=>exact⟨"drop", [.str x],["name"],h,by simp[dN],rfl,fun i y e _=>by match i,e with | 0,e=>exact⟨x,by simpa using e.symm⟩ | i+1,e=>simp at e,by simp[cn,b0]; decide⟩
  | cpy x y=>exact⟨"copy", [.str x,.str y],["name", "name"],h,by simp[dN],rfl,fun i z e _=>by rcases qM e with ⟨_,rfl⟩ | ⟨_,rfl⟩ <;> exact⟨_,rfl⟩,by simp[cn,b0]; decide⟩
  | tie x y=>exact⟨"tie", [.str x,.str y],["name", "name"],h,by simp[dN],rfl,fun i z e _=>by rcases qM e with ⟨_,rfl⟩ | ⟨_,rfl⟩ <;> exact⟨_,rfl⟩,by simp[cn,b0]; decide⟩
  | doo u x=>exact⟨"do", [.str u,.str x],["word", "name"],h,by simp[dN],rfl,fun i z e _=>by rcases qM e with ⟨_,rfl⟩ | ⟨_,rfl⟩ <;> exact⟨_,rfl⟩,by simp[cn,b0]; decide⟩
 | .lend x y b,⟨q,h,_⟩,ok=>⟨"lend", [.str x,.str y,.ref q],["name", "name", "steps"],h,by simp[dN],rfl,fun i z e e2=>by match i,e,e2 with | 0,e,e2=>exact⟨_,by simpa using e.symm⟩ | 1,e,e2=>exact⟨_,by simpa using e.symm⟩ | 2,e,e2=>exact absurd (by simpa using e2) (show ¬ (("steps" : Str) = "name") from by decide) | i+3,e,e2=>simp at e,by simp[cn,b0]⟩
 | .ite n b c,⟨q,r,h,_,_⟩,ok=>⟨"if", [.int n,.ref q,.ref r],["bound", "steps", "steps"],h,by simp[dN],rfl,fun i z e e2=>by match i,e,e2 with | 0,e,e2=>exact absurd (by simpa using e2) (show ¬ (("bound" : Str) = "name") from by decide) | 1,e,e2=>exact absurd (by simpa using e2) (show ¬ (("steps" : Str) = "name") from by decide) | 2,e,e2=>exact absurd (by simpa using e2) (show ¬ (("steps" : Str) = "name") from by decide) | i+3,e,e2=>simp at e,by simp[cn,b0]⟩
 | .whl n b,⟨q,h,_⟩,ok=>⟨"while", [.int n,.ref q],["bound", "steps"],h,by simp[dN],rfl,fun i z e e2=>by match i,e,e2 with | 0,e,e2=>exact absurd (by simpa using e2) (show ¬ (("bound" : Str) = "name") from by decide) | 1,e,e2=>exact absurd (by simpa using e2) (show ¬ (("steps" : Str) = "name") from by decide) | i+2,e,e2=>simp at e,by simp[cn,b0]⟩
end
def bw(y:Str):Bool:=decide (1≤y.length∧y.length≤8)&&y.cps.toList.all fun c=>decide (c∈letters.cps.toList)
def cJ:V→Bool
 | .str y=>bw y
 | _=>false
def wV:Sp:=fun vs H Q _=>∃ (x:V) (T:String),vs=[x]∧az H x=some T∧(∀ y,x = .str y→y.length≤sizeLine)∧∀ H',Same H H'→Q (.bl (cJ x)) H'
theorem Ca{H:Hp}{x:V}{T:String}(h:az H x=some T)(e:j9 T "str" = true):∃ y,x = .str y:=by
 cases x with
 | str y=>exact⟨y,rfl⟩
 | ref a=>
  cases e':H a with
  | none=>simp[az,e']at h
  | some o=>
   cases o with
   | frz ob u=>cases u <;> simp[az,e']at h <;> subst h <;> exact absurd e (by decide)
   | _=>simp[az,e']at h <;> subst h <;> exact absurd e (by decide)
 | _=>first | (cases h; exact absurd e (by decide)) | cases h
theorem yE{H:Hp}{x:V}{T:String}(h:az H x=some T)(e:¬ j9 T "str" = true):cJ x=false:=by
 cases x with
 | str y=>cases h; exact absurd rfl e
 | _=>rfl
section
variable{P:Program}{w:World}{K:PySem.W.Frag}{mg:Str→Option Value}{base:Heap}
theorem tY(D:DefAt K mg "is_word" bO) (z_isinstance:mg "isinstance" = none) (z_str:mg "str" = none) (z_len:mg "len" = none) (z_all:mg "all" = none)
  (g_MOST_LETTERS:∃ t,mg "MOST_LETTERS" = some (.int 8 t)) (g_LETTERS:∃ t,mg "LETTERS" = some (.str "abcdefghijklmnopqrstuvwxyz" t)):bf P w K mg base 1 "is_word" ["thing"] wV:=by
 refine D.cal va (fun _ _ _ _ _ _ us hl=>match us,hl with | [_],_=>rfl) (fun vs H Q E h=>by obtain⟨x,T,rfl,_⟩:=h; rfl) (fun f cdv A outer s H vs Q E hr h=>?_)
 obtain⟨x,T,rfl,hT,hx,q⟩:=h
 refine⟨_,(af (bq (PW.pt' (gj (cC (cy (aL cU z_isinstance bh (aa (pv 0 (hv:=BA)) (aa (dy z_str jq (hg:=F5)) ac)) (hg:=Fv)))) (fo (cC (kS d9 d9 aj (aL (aW K) z_len bM (aa (pv 0 (hv:=BA)) ac) (hg:=Gp)) (cF g_MOST_LETTERS (hg:=F2))))))) (al (ax dI)) aP)
   (al (ax (aL (jB K) z_all nI (aa (dS (CompSc.to (fsc:=(defScope bO)) (N:=["thing"]) (N0:=["thing"]) (T:=["sign"]) ⟨by decide +kernel,by decide +kernel,by decide +kernel,by decide +kernel,by decide +kernel,by decide +kernel,by decide +kernel⟩ rfl rfl) rfl (qt (pv 0 (hv:=BA))) (fun _ _ _ _=>(bX 1 (show (["thing", "sign"]:List Str).Nodup from by decide +kernel) (hx:=(hX (defScope bO) (by decide +kernel))) (hf:=jT (defScope bO) (by decide +kernel)))) (cN (show (["thing"]:List Str).length≤1 from by decide)) (fun _ _ _ _=>du) (fun _ _ _ _=>(cj (jW K) (pv 1 (hv:=(dL (defScope bO) (by decide +kernel)))) (oI g_LETTERS (hg:=(nw (defScope bO) (by decide +kernel)))) (by with_unfolding_all rfl)))) ac) (hg:=FY))))),?_⟩
 try simp only[gP,i_,eQ,dY,hW,i8,iJ,gv,iO,gH,iI,gu,iG,iM,iT,lY,j6,j4,gZ,lW,iN,j8,iH,gM,h9,j7,ko,gQ,iF,iS,i6,hU,jU,iW,fW,dm,dU,g9,fF,ke,gq,eS,gW,i5,g0,gC,i4,g6,iZ,gX,i3,g7,ki,ml,fU,fG,fQ,fJ,fO,iQ,gw,g8,fV,iK,mq,iV,iE,hZ,gG,gY,g_,dX,dW,fK,fI,gK,hE,eX,gJ,iY,i9,iU,fN,fP,eV,iL,gx,eW,fM,gr,gA,gF,gy,hJ,jb,iP,ja,L2.start,List.map_cons,List.map_nil,List.length_cons,List.length_nil,List.replicate,List.cons_append,List.nil_append,List.append_nil,List.getElem?_cons_zero,List.getElem?_cons_succ,List.set_cons_zero,List.set_cons_succ,Nat.reduceAdd,Nat.reduceSub,Option.some.injEq,exists_eq_left',exists_eq_left,V.int.injEq,V.ref.injEq,V.str.injEq,V.bl.injEq,j_,iX,and_true,true_and,decide_eq_true_eq,Bool.not_true,Bool.not_false,if_true,Bool.false_eq_true,if_false,ite_true,ite_false]
 refine⟨T,hT,by decide,?_⟩
 refine aB (fun c=>?_) (fun c=>?_)
 ·rw[← yE hT (by simpa using c)]
  exact q H (Same.refl H)
 ·obtain⟨y,rfl⟩:=Ca hT (by simpa using c)
  have hy:=hx y rfl
  try simp only[gP,i_,eQ,dY,hW,i8,iJ,gv,iO,gH,iI,gu,iG,iM,iT,lY,j6,j4,gZ,lW,iN,j8,iH,gM,h9,j7,ko,gQ,iF,iS,i6,hU,jU,iW,fW,dm,dU,g9,fF,ke,gq,eS,gW,i5,g0,gC,i4,g6,iZ,gX,i3,g7,ki,ml,fU,fG,fQ,fJ,fO,iQ,gw,g8,fV,iK,mq,iV,iE,hZ,gG,gY,g_,dX,dW,fK,fI,gK,hE,eX,gJ,iY,i9,iU,fN,fP,eV,iL,gx,eW,fM,gr,gA,gF,gy,hJ,jb,iP,ja,L2.start,List.map_cons,List.map_nil,List.length_cons,List.length_nil,List.replicate,List.cons_append,List.nil_append,List.append_nil,List.getElem?_cons_zero,List.getElem?_cons_succ,List.set_cons_zero,List.set_cons_succ,Nat.reduceAdd,Nat.reduceSub,Option.some.injEq,exists_eq_left',exists_eq_left,V.int.injEq,V.ref.injEq,V.str.injEq,V.bl.injEq,j_,iX,and_true,true_and,decide_eq_true_eq,Bool.not_true,Bool.not_false,if_true,Bool.false_eq_true,if_false,ite_true,ite_false]
  refine⟨hy,?_⟩
  refine aB (fun c1=>?_) (fun c1=>?_)
  ·refine aB (fun c2=>?_) (fun c2=>?_)
   ·have e:cJ (.str y)=false:=by
     show (decide (1≤y.length∧y.length≤8)&&_)=false
     rw[decide_eq_false (by simp at c2; omega)]; rfl
    rw[← e]; exact q H (Same.refl H)
   ·intro L hL
    have c1':1≤y.length:=by omega
    have c2':y.length≤8:=by simp at c2; omega
    refine lq (fun i ys H'=>Same H H'∧H' L=some (.lst ys)∧ys=((y.cps.toList.take i).map fun c=>decide (c∈letters.cps.toList)).map V.bl) ⟨au hL _,ai,rfl⟩ ?_ ?_
    ·rintro i ys H' c hc hi ⟨sm,hD,rfl⟩
     try simp only[gP,i_,eQ,dY,hW,i8,iJ,gv,iO,gH,iI,gu,iG,iM,iT,lY,j6,j4,gZ,lW,iN,j8,iH,gM,h9,j7,ko,gQ,iF,iS,i6,hU,jU,iW,fW,dm,dU,g9,fF,ke,gq,eS,gW,i5,g0,gC,i4,g6,iZ,gX,i3,g7,ki,ml,fU,fG,fQ,fJ,fO,iQ,gw,g8,fV,iK,mq,iV,iE,hZ,gG,gY,g_,dX,dW,fK,fI,gK,hE,eX,gJ,iY,i9,iU,fN,fP,eV,iL,gx,eW,fM,gr,gA,gF,gy,hJ,jb,iP,ja,L2.start,List.map_cons,List.map_nil,List.length_cons,List.length_nil,List.replicate,List.cons_append,List.nil_append,List.append_nil,List.getElem?_cons_zero,List.getElem?_cons_succ,List.set_cons_zero,List.set_cons_succ,Nat.reduceAdd,Nat.reduceSub,Option.some.injEq,exists_eq_left',exists_eq_left,V.int.injEq,V.ref.injEq,V.str.injEq,V.bl.injEq,j_,iX,and_true,true_and,decide_eq_true_eq,Bool.not_true,Bool.not_false,if_true,Bool.false_eq_true,if_false,ite_true,ite_false]
     have hc':y.cps.toList[i]? = some c:=by simpa using hc
     refine jI hi ?_ hy hD ⟨fun b o e=>?_,ai,?_⟩
     ·rw[List.length_map,List.length_map,List.length_take]
      have:y.cps.toList.length=y.length:=by simp[Str.length]
      omega
     ·rw[aA (aZ e hL)]; exact sm b o e
     ·rw[StrLaws.found_one,List.take_add_one,hc',List.map_append,List.map_append]; rfl
    ·rintro ys H' ⟨sm,hD,rfl⟩
     try simp only[gP,i_,eQ,dY,hW,i8,iJ,gv,iO,gH,iI,gu,iG,iM,iT,lY,j6,j4,gZ,lW,iN,j8,iH,gM,h9,j7,ko,gQ,iF,iS,i6,hU,jU,iW,fW,dm,dU,g9,fF,ke,gq,eS,gW,i5,g0,gC,i4,g6,iZ,gX,i3,g7,ki,ml,fU,fG,fQ,fJ,fO,iQ,gw,g8,fV,iK,mq,iV,iE,hZ,gG,gY,g_,dX,dW,fK,fI,gK,hE,eX,gJ,iY,i9,iU,fN,fP,eV,iL,gx,eW,fM,gr,gA,gF,gy,hJ,jb,iP,ja,L2.start,List.map_cons,List.map_nil,List.length_cons,List.length_nil,List.replicate,List.cons_append,List.nil_append,List.append_nil,List.getElem?_cons_zero,List.getElem?_cons_succ,List.set_cons_zero,List.set_cons_succ,Nat.reduceAdd,Nat.reduceSub,Option.some.injEq,exists_eq_left',exists_eq_left,V.int.injEq,V.ref.injEq,V.str.injEq,V.bl.injEq,j_,iX,and_true,true_and,decide_eq_true_eq,Bool.not_true,Bool.not_false,if_true,Bool.false_eq_true,if_false,ite_true,ite_false]
     refine⟨_,SqL.of hD,?_⟩
     have e:(((y.cps.toList.take y.length).map fun c=>decide (c∈letters.cps.toList)).all id)=cJ (.str y):=by
      show _=(decide (1≤y.length∧y.length≤8)&&y.cps.toList.all fun c=>decide (c∈letters.cps.toList))
      rw[decide_eq_true ⟨c1',c2'⟩,Bool.true_and,List.all_map,List.take_of_length_le (by simp[Str.length])]
      rfl
     rw[e]; exact q H' sm
  ·have e:cJ (.str y)=false:=by
    show (decide (1≤y.length∧y.length≤8)&&_)=false
    rw[decide_eq_false (by omega)]; rfl
   rw[← e]; exact q H (Same.refl H)
end
def nL:V→Bool
 | .int _=>true
 | _=>false
def b5:V→Bool
 | .int i=>decide ((if i<0 then -i else i)<10 ^ 60)
 | _=>false
def nA(H:Hp)(x:V):Bool:=decide (az H x=some "list")
def cP(H:Hp)(x:V)(k:Str):Bool:=if k = "steps" then nA H x else if k = "bound" then b5 x else cJ x
def Thing(H:Hp)(x:V):Prop:=(∃ T,az H x=some T)∧∀ y,x = .str y→y.length≤sizeLine
theorem Thing.mono{H H':Hp}{x:V}(h:Thing H x)(sm:Same H H'):Thing H' x∧∀ T,az H x=some T→az H' x=some T:=by
 obtain⟨⟨T,hT⟩,h2⟩:=h
 have key:∀ T,az H x=some T→az H' x=some T:=fun T hT=>by
  cases x with
  | ref a=>
   cases e:H a with
   | none=>simp[az,e]at hT
   | some o=>
    have e':=sm _ _ e
    simp only[az,e,e']at hT ⊢
    exact hT
  | _=>exact hT
 exact⟨⟨⟨T,key T hT⟩,h2⟩,key⟩
def tF:Sp:=fun vs H Q _=>∃ x:V,vs=[x]∧Thing H x∧Q (.bl (nL x)) H
def tS:Sp:=fun vs H Q _=>∃ x:V,vs=[x]∧Thing H x∧Q (.bl (b5 x)) H
def vQ:Sp:=fun vs H Q _=>∃ (x:V) (k:Str),vs=[x,.str k]∧Thing H x∧∀ H',Same H H'→Q (.bl (cP H x k)) H'
section
variable{P:Program}{w:World}{K:PySem.W.Frag}{mg:Str→Option Value}{base:Heap}
theorem yu(D:DefAt K mg "is_whole" cD) (z_isinstance:mg "isinstance" = none) (z_int:mg "int" = none) (z_bool:mg "bool" = none):bf P w K mg base 1 "is_whole" ["thing"] tF:=by
 refine D.cal rP (fun _ _ _ _ _ _ us hl=>match us,hl with | [_],_=>rfl) (fun vs H Q E h=>by obtain⟨x,rfl,_⟩:=h; rfl) (fun f cdv A outer s H vs Q E hr h=>?_)
 obtain⟨x,rfl,⟨⟨T,hT⟩,_⟩,q⟩:=h
 refine⟨_,(al (ax (fh (aL cU z_isinstance bh (aa (pv 0 (hv:=Dw)) (aa (dy z_int ji (hg:=FL)) ac)) (hg:=DT)) (jr (CZ (aL cU z_isinstance bh (aa (pv 0 (hv:=Dw)) (aa (dy z_bool zZ (hg:=Gb)) ac)) (hg:=DT))))))),?_⟩
 walk_at "rd1"
 refine⟨T,hT,by decide,?_⟩
 have hint:j9 T "int" = true→T = "int" ∨ T = "bool" := fun h=>by
  have hm:=kJ hT
  simp only[List.mem_cons,List.mem_nil_iff,or_false]at hm
  rcases hm with rfl | rfl | rfl | rfl | rfl | rfl | rfl <;> first | exact .inl rfl | exact .inr rfl | exact absurd h (by decide)
 refine aB (fun c=>?_) (fun c=>?_)
 ·refine⟨T,hT,by decide,?_⟩
  rcases hint c with rfl | rfl
  ·have e:nL x=true:=by
    cases x with
    | int i=>rfl
    | ref a=>
     cases e:H a with
     | none=>simp[az,e]at hT
     | some o=>cases o <;> simp[az,e]at hT <;> (rename_i u; cases u <;> simp at hT)
    | _=>simp[az]at hT
   rw[e]at q; exact q
  ·have e:nL x=false:=by
    cases x with
    | int i=>simp[az]at hT
    | _=>rfl
   rw[e]at q; exact q
 ·have e:nL x=false:=by
   cases x with
   | int i=>cases hT; exact absurd rfl c
   | _=>rfl
  rw[e]at q; exact q
theorem B8:bootBuiltins "abs" = some (.builtin "abs"):=by decide +kernel
theorem xA(D:DefAt K mg "is_bound" cS) (z_abs:mg "abs" = none) (c_is_whole:bf P w K mg base 1 "is_whole" ["thing"] tF):bf P w K mg base 2 "is_bound" ["thing"] tS:=by
 refine D.cal rZ (fun _ _ _ _ _ _ us hl=>match us,hl with | [_],_=>rfl) (fun vs H Q E h=>by obtain⟨x,rfl,_⟩:=h; rfl) (fun f cdv A outer s H vs Q E hr h=>?_)
 obtain⟨x,rfl,hx,q⟩:=h
 refine⟨_,(al (ax (fh (aE c_is_whole hr (aa (pv 0 (hv:=Dz)) ac) (hg:=Gw)) (jr (cj ig (aL yi z_abs B8 (aa (pv 0 (hv:=Dz)) ac) (hg:=FA)) (am vE aj aj) (aG _)))))),?_⟩
 walk_at "rd1"
 refine⟨x,rfl,hx,?_⟩
 cases x with
 | int i=>
  walk_at "rd1"
  refine aB (fun _=>?_) (fun c=>absurd rfl c)
  refine⟨⟨by decide,by decide,by decide⟩,?_⟩
  exact q
 | _=>
  exact⟨false,rfl,by rw[if_neg Bool.false_ne_true]; exact q⟩
theorem zN(D:DefAt K mg "is_part" cA) (z_isinstance:mg "isinstance" = none) (z_list:mg "list" = none) (c_is_bound:bf P w K mg base 2 "is_bound" ["thing"] tS) (c_is_word:bf P w K mg base 1 "is_word" ["thing"] wV):bf P w K mg base 3 "is_part" ["thing", "kind"] vQ:=by
 refine D.cal u9 (fun _ _ _ _ _ _ us hl=>match us,hl with | [_,_],_=>rfl) (fun vs H Q E h=>by obtain⟨x,k,rfl,_⟩:=h; rfl) (fun f cdv A outer s H vs Q E hr h=>?_)
 obtain⟨x,k,rfl,hx,q⟩:=h
 obtain⟨⟨T,hT⟩,hx2⟩:=id hx
 refine⟨_,(af (bq (aH cm (pv 1 (hv:=Dt)) ah (aG _)) (al (ax (aL cU z_isinstance bh (aa (pv 0 (hv:=CP)) (aa (dy z_list kn (hg:=F4)) ac)) (hg:=F_)))) aP)
   (af (bq (aH cm (pv 1 (hv:=Dt)) ah (aG _)) (al (ax (aE c_is_bound hr (aa (pv 0 (hv:=CP)) ac) (hg:=FH)))) aP)
   (al (ax (aE c_is_word hr (aa (pv 0 (hv:=CP)) ac) (hg:=Fw)))))),?_⟩
 unfold cP at q
 walk_at "rd1"
 refine aB (fun c1=>?_) (fun c1=>?_)
 ·rw[if_pos c1]at q
  refine⟨T,hT,by decide,?_⟩
  have e:j9 T "list" = nA H x:=by
   unfold nA
   rw[hT]
   have hm:=kJ hT
   simp only[List.mem_cons,List.mem_nil_iff,or_false]at hm
   rcases hm with rfl | rfl | rfl | rfl | rfl | rfl | rfl <;> decide
  rw[e]; exact q H (Same.refl H)
 rw[if_neg c1]at q
 walk_at "nx"
 refine aB (fun c2=>?_) (fun c2=>?_)
 ·rw[if_pos c2]at q
  exact⟨x,rfl,hx,q H (Same.refl H)⟩
 rw[if_neg c2]at q
 walk_at "nx"
 exact⟨x,T,rfl,hT,hx2,fun H' sm=>q H' sm⟩
def kindsL:List (Str × List Str):=[("open", ["name"]),("do", ["word", "name"]),("copy", ["name", "name"]),("drop", ["name"]),("tie", ["name", "name"]),("lend", ["name", "name", "steps"]),("if", ["bound", "steps", "steps"]),("while", ["bound", "steps"])]
def d6(k:Str):Option (List Str):=(kindsL.find? fun p=>p.1=k).map (·.2)
def eF(H:Hp)(xs:List V)(ks:List Str):Bool:=(List.zipWith (cP H) xs ks).all id
def d_(H:Hp):List V→Bool
 | .str k::xs=>match d6 k with
  | some ks=>decide (xs.length=ks.length)&&eF H xs ks
  | none=>false
 | _=>false
def b9(H:Hp):V→Bool
 | .ref a=>match H a with
  | some (.tup xs)=>d_ H xs
  | _=>false
 | _=>false
def fg(H:Hp)(x:V):Prop:=Thing H x∧∀ a xs,x = .ref a→H a=some (.tup xs)→(∀ y∈xs,Thing H y)∧xs.length≤1000
def vv:Sp:=fun vs H Q _=>∃ x:V,vs=[x]∧fg H x∧∀ H',Same H H'→Q (.bl (b9 H x)) H'
theorem vb{H H':Hp}{x:V}{k:Str}(h:Thing H x)(sm:Same H H'):cP H' x k=cP H x k:=by
 obtain⟨T,hT⟩:=h.1
 have:=(h.mono sm).2 T hT
 unfold cP nA
 rw[hT,this]
theorem AD(D:DefAt K mg "is_like_step" aF) (z_isinstance:mg "isinstance" = none) (z_tuple:mg "tuple" = none) (z_str:mg "str" = none) (z_len:mg "len" = none) (z_all:mg "all" = none) (z_zip:mg "zip" = none) (c_is_part:bf P w K mg base 3 "is_part" ["thing", "kind"] vQ)
  {dP:Addr} {kvs:List (Str × V)} (g_PARTS:mg "PARTS" = some (.ref dP)) (m:ModD w K dP kvs) (pk:∀ kind,match d6 kind with | some ks=>∃ a,dv kvs kind=some (.ref a)∧∀ H:Hp,SqT K H a (ks.map V.str) | none=>dv kvs kind=none):bf P w K mg base 4 "is_like_step" ["thing"] vv:=by
 refine D.cal sc_is_like_step (fun _ _ _ _ _ _ us hl=>match us,hl with | [_],_=>rfl) (fun vs H Q E h=>by obtain⟨x,rfl,_⟩:=h; rfl) (fun f cdv A outer s H vs Q E hr h=>?_)
 obtain⟨x,rfl,⟨hx,hxt⟩,q⟩:=h
 obtain⟨⟨T,hT⟩,hx2⟩:=id hx
 refine⟨_,(af (bq (PW.pt' (gj (cC (cy (aL cU z_isinstance bh (aa (pv 0 (hv:=qv)) (aa (dy z_tuple jo (hg:=Fz)) ac)) (hg:=DP)))) (fo (aH cm (aL (aW K) z_len bM (aa (pv 0 (hv:=qv)) ac) (hg:=CN)) aj (aG _))))) (al (ax dI)) aP)
   (af (bq (PW.pt' (gj (cC (cy (aL cU z_isinstance bh (aa (bd (bG K) (pv 0 (hv:=qv)) aj (fun _ _=>rfl)) (aa (dy z_str jq (hg:=Ga)) ac)) (hg:=DP)))) (fo (aH (wC w K) (bd (bG K) (pv 0 (hv:=qv)) aj (fun _ _=>rfl)) (i7 g_PARTS (hg:=DH)) (by with_unfolding_all rfl))))) (al (ax dI)) aP)
   (af (aw 1 sc_is_like_step.nd (bd (Bv w K) (i7 g_PARTS (hg:=DH)) (bd (bG K) (pv 0 (hv:=qv)) aj (fun _ _=>rfl)) (fun _ _=>rfl)) (hx:=F3))
   (af (bq (aH kq (aL (aW K) z_len bM (aa (pv 0 (hv:=qv)) ac) (hg:=CN)) (am ap aj (aL (aW K) z_len bM (aa (pv 1 (hv:=DN)) ac) (hg:=CN))) (aG _)) (al (ax dI)) aP)
   (al (ax (aL (jB K) z_all nI (aa (dS (CompSc.to (fsc:=(defScope aF)) (N:=["thing", "kinds"]) (N0:=["thing", "kinds"]) (T:=["part", "kind"]) ⟨by decide +kernel,by decide +kernel,by decide +kernel,by decide +kernel,by decide +kernel,by decide +kernel,by decide +kernel⟩ rfl rfl) rfl (oz K Gh z_zip (aa (b4 (mr K) (pv 0 (hv:=qv)) (b6 aj) ci) (aa (pv 1 (hv:=DN)) ac))) (fun _ _ _ _=>(mn K (n:=2) (eO (bX 2 (show (["thing", "kinds", "part", "kind"]:List Str).Nodup from by decide +kernel) (hx:=(hX (defScope aF) (by decide +kernel))) (hf:=jT (defScope aF) (by decide +kernel))) (eO (bX 3 (show (["thing", "kinds", "part", "kind"]:List Str).Nodup from by decide +kernel) (hx:=(hX (defScope aF) (by decide +kernel))) (hf:=jT (defScope aF) (by decide +kernel))) lZ)))) (Aw (oU (cN (show (["thing", "kinds"]:List Str).length≤2 from by decide)) oJ (oU (cN (show (["thing", "kinds"]:List Str).length≤3 from by decide)) oJ xC tw) (yQ oJ tw))) (fun _ _ _ _=>du) (fun _ _ _ _=>(aE c_is_part hr (aa (pv 2 (hv:=(dL (defScope aF) (by decide +kernel)))) (aa (pv 3 (hv:=(dL (defScope aF) (by decide +kernel)))) ac)) (hg:=(nw (defScope aF) (by decide +kernel)))))) ac) (hg:=FI)))))))),?_⟩
 walk_at "rd1"
 refine⟨T,hT,by decide,?_⟩
 by_cases htup:∃ a xs,x = .ref a∧H a=some (.tup xs)
 ·obtain⟨a,xs,rfl,ha⟩:=htup
  have hTt:T = "tuple" := by simp[az,ha]at hT; exact hT.symm
  subst hTt
  obtain⟨hth,hxl⟩:=hxt a xs rfl ha
  have e0:b9 H (.ref a)=d_ H xs:=by simp[b9,ha]
  rw[e0]at q
  refine aB (fun c=>absurd c (by decide)) (fun _=>?_)
  walk_at "rd1"
  refine⟨_,.inr (SqT.of ha),?_⟩
  cases xs with
  | nil=>
   refine aB (fun _=>q H (Same.refl H)) (fun c=>absurd rfl c)
  | cons x0 xr=>
   refine aB (fun c=>absurd c (by simp only[List.length_cons]; omega)) (fun _=>?_)
   have hat:SqT K H a (x0::xr):=SqT.of ha
   obtain⟨⟨T0,hT0⟩,hs0⟩:=hth x0 List.mem_cons_self
   walk_at "nx"
   refine⟨_,_,.inr hat,eD,T0,hT0,by decide,?_⟩
   by_cases hstr:∃ k,x0 = .str k
   ·obtain⟨k,rfl⟩:=hstr
    have hT0':T0 = "str" := by simpa [az] using hT0.symm
    subst hT0'
    refine aB (fun c=>absurd c (by decide)) (fun _=>?_)
    walk_at "rd1"
    refine⟨_,_,.inr hat,eD,dP,kvs,k,rfl,rfl,m,?_⟩
    have hpk:=pk k
    cases hv:d6 k with
    | none=>
     rw[hv]at hpk
     have hpk':dv kvs k=none:=hpk
     rw[hpk']
     have e1:d_ H (.str k::xr)=false:=by simp[d_,hv]
     rw[e1]at q
     walk_at "rd1"
     exact q H (Same.refl H)
    | some ks=>
     rw[hv]at hpk
     obtain⟨ka,hka,hks⟩:=hpk
     rw[hka]
     walk_at "rd1"
     walk_at "nx"
     refine⟨_,_,.inr hat,eD,dP,kvs,k,.ref ka,rfl,rfl,m,hka,?_⟩
     walk_at "nx"
     refine⟨_,.inr hat,_,.inr (hks H),?_⟩
     have e1:d_ H (.str k::xr)=(decide (xr.length=ks.length)&&eF H xr ks):=by simp[d_,hv]
     rw[e1]at q
     refine aB (fun c=>?_) (fun c=>?_)
     ·have hne:¬ xr.length=ks.length:=fun z=>by
       rw[List.length_map,List.length_cons,z]at c
       simp at c; omega
      rw[decide_eq_false hne]at q
      exact q H (Same.refl H)
     ·have heq:xr.length=ks.length:=by
       rw[List.length_map,List.length_cons]at c
       simp at c; omega
      rw[decide_eq_true heq,Bool.true_and]at q
      have hzl:(List.zipWith (cP H) xr ks).length=xr.length:=by rw[List.length_zipWith]; omega
      rw[List.length_cons]at hxl
      walk_at "nx"
      refine kW hat fun p2 H2 sm2 h2=>?_
      have ec:dJ (V.str k::xr) (some 1) none=xr:=lS _ 1
      rw[ec]at h2
      walk_at "rd1"
      refine⟨⟨_,h2⟩,⟨_,hks H2⟩,fun C hC=>?_⟩
      refine uy (xs:=xr) (ys:=ks.map V.str) (fun i ys H'=>Same H2 H'∧H' C=some (.lst ys)∧ys=((List.zipWith (cP H) xr ks).take i).map V.bl) (by rw[List.length_map]; exact heq) ⟨au hC _,ai,rfl⟩ (fun i ys H' _ h=>⟨h2.same h.1,hks H'⟩) ?_ ?_
      ·rintro i ys H' x y t hx hy hi ⟨sm,hl,rfl⟩ ht
       have hik:i<ks.length:=by omega
       have hxi:xr[i]? = some xr[i]:=List.getElem?_eq_getElem hi
       rw[hxi]at hx
       cases hx
       rw[List.getElem?_map,List.getElem?_eq_getElem hik]at hy
       cases hy
       have hthi:=hth _ (List.mem_cons_of_mem _ (List.getElem_mem hi))
       have hz:(List.zipWith (cP H) xr ks)[i]? = some (cP H xr[i] ks[i]):=by rw[List.getElem?_zipWith,hxi,List.getElem?_eq_getElem hik]
       have st:=au ht (.tup [xr[i],V.str ks[i]])
       have et:upd H' t (.tup [xr[i],V.str ks[i]]) t=some (.tup [xr[i],V.str ks[i]]):=ai
       have nt:C≠t:=aZ hl ht
       have hl':upd H' t (.tup [xr[i],V.str ks[i]]) C=_:=st _ _ hl
       generalize upd H' t (.tup [xr[i],V.str ks[i]])=H3 at st et hl' ⊢
       have smH:=(sm2.trans sm).trans st
       walk_at "rd1"
       refine⟨t,_,rfl,SqT.of et,rfl,?_⟩
       walk_at "rd1"
       refine⟨xr[i],ks[i],rfl,(hthi.mono smH).1,fun H4 sm4=>?_⟩
       rw[vb hthi smH]
       refine jI hi (by rw[List.length_map,List.length_take,hzl]; omega) (ao (by omega)) (sm4 _ _ hl') ⟨((sm.trans st).trans sm4).upd hC _,ai,?_⟩
       rw[List.take_add_one,hz,List.map_append]; rfl
      ·rintro ys H' ⟨sm,hl,rfl⟩
       walk_at "rd1"
       rw[List.take_of_length_le (by omega)]at hl
       exact⟨_,SqL.of hl,q H' (sm2.trans sm)⟩
   ·have e1:d_ H (x0::xr)=false:=by
     cases x0 <;> first | rfl | exact absurd ⟨_,rfl⟩ hstr
    rw[e1]at q
    have hn:(!j9 T0 "str")=true:=by
     cases x0 with
     | str k=>exact absurd ⟨k,rfl⟩ hstr
     | ref b=>
      cases e:H b with
      | none=>simp[az,e]at hT0
      | some o=>
       cases o with
       | frz ob u=>cases u <;> simp[az,e]at hT0 <;> subst hT0 <;> decide
       | _=>simp[az,e]at hT0 <;> subst hT0 <;> decide
     | _=>first | (cases hT0; decide) | (simp[az]at hT0)
    rw[if_pos hn]
    exact q H (Same.refl H)
 ·have e0:b9 H x=false:=by
   cases x with
   | ref a=>
    cases e:H a with
    | none=>simp[b9,e]
    | some o=>cases o <;> first | (simp[b9,e]; done) | exact absurd ⟨a,_,rfl,e⟩ htup
   | _=>rfl
  rw[e0]at q
  have hn:(!j9 T "tuple")=true:=by
   cases x with
   | ref a=>
    cases e:H a with
    | none=>simp[az,e]at hT
    | some o=>
     cases o with
     | tup xs=>exact absurd ⟨a,_,rfl,e⟩ htup
     | frz ob u=>cases u <;> simp[az,e]at hT <;> subst hT <;> decide
     | _=>simp[az,e]at hT <;> subst hT <;> decide
   | _=>first | (cases hT; decide) | (simp[az]at hT)
  rw[if_pos hn]
  exact q H (Same.refl H)
theorem qF:∀ {xs:List V} {ks:List Str} (x:V) (k:Str),xs.length=ks.length→cn (xs++[x]) (ks++[k])=cn xs ks++cn [x] [k]
 | [],[],x,k,_=>rfl
 | [],_::_,_,_,h=>by simp at h
 | _::_,[],_,_,h=>by simp at h
 | y::xs,c::ks,x,k,h=>by
  have ih:=qF (xs:=xs) (ks:=ks) x k (by simpa using h)
  cases y <;> simp only[List.cons_append,cn,ih]
  split <;> simp
theorem pQ(xs:List V)(ks:List Str)(j:Nat)(h:xs.length=ks.length):(cn (xs.take j) (ks.take j)).length≤(cn xs ks).length:=by
 induction xs generalizing ks j with
 | nil=>simp[cn]
 | cons y xs ih=>
  cases ks with
  | nil=>simp at h
  | cons c ks=>
   cases j with
   | zero=>simp[cn]
   | succ j=>
    have:=ih ks j (by simpa using h)
    rw[List.take_succ_cons,List.take_succ_cons]
    cases y <;> simp only[cn] <;> (try split) <;> (try simp only[List.length_cons]) <;> omega
theorem yL{K:PySem.W.Frag}{H:Hp}{a l:Addr}{xs:List V}{kvs:List (bT × V)}{o:HO}(h:SqT K H a xs)(hl:H l=some (.dK kvs)):SqT K (upd H l o) a xs:=by
 rcases h with (h | ⟨o',h⟩) | h
 ·exact .inl (.inl (by rw[aA (fu h hl (fun z=>nomatch z))]; exact h))
 ·exact .inl (.inr ⟨o',by rw[aA (fu h hl (fun z=>nomatch z))]; exact h⟩)
 ·exact .inr h
def pb:Sp:=fun vs H Q _=>∃ (sp:Addr) (ads:List Addr) (Ps:List ak) (g:List ak→Prop),vs=[.ref sp]∧H sp=some (.lst (ads.map V.ref))∧Paired (headAt H) ads Ps∧(∀ s∈Ps,eL g s)∧(Ps.flatMap b0).length≤5000∧
 ∀ (q:Addr) (H':Hp),Same H H'→H q=none→H' q=some (.lst ((fH (Ps.flatMap b0)).map V.str))→Q (.ref q) H'
theorem ub(D:DefAt K mg "names_in" bF) (z_zip:mg "zip" = none) (z_list:mg "list" = none) {dP:Addr} {kvs:List (Str × V)} (g_PARTS:mg "PARTS" = some (.ref dP)) (m:ModD w K dP kvs)
  (qk:∀ kind ks,(kind,ks)∈dN→∃ a,dv kvs kind=some (.ref a)∧∀ H:Hp,SqT K H a (ks.map V.str)):bf P w K mg base 1 "names_in" ["steps"] pb:=by
 refine D.cal sc_names_in (fun _ _ _ _ _ _ us hl=>match us,hl with | [_],_=>rfl) (fun vs H Q E h=>by obtain⟨_,_,_,_,rfl,_⟩:=h; rfl) (fun f cdv A outer s H vs Q E hr h=>?_)
 obtain⟨sp,ads,Ps,g,rfl,hsp,hp,hok,hL,q⟩:=h
 have hlen:=bY hp
 refine⟨_,(af (aw 1 sc_names_in.nd rC (hx:=FS))
   (af (gi PassesOwn.never rfl (dH K (pv 0 (hv:=FQ))) (bX 2 sc_names_in.nd (hx:=Gk)) (al (gi PassesOwn.never rfl (oz K Fe z_zip (aa (b4 (mr K) (pv 2 (hv:=D3)) (b6 aj) ci) (aa (bd (Bv w K) (i7 g_PARTS (hg:=F8)) (bd (bG K) (pv 2 (hv:=D3)) aj (fun _ _=>rfl)) (fun _ _=>rfl)) ac))) (mn K (n:=2) (eO (bX 3 sc_names_in.nd (hx:=Gc)) (eO (bX 4 sc_names_in.nd (hx:=Gr)) lZ))) (al (bq (aH cm (pv 4 (hv:=F9)) ah (aG _)) (al (we dI (CM (pv 1 (hv:=DX)) (pv 3 (hv:=FW)) (C5 hr)))) aP)))))
   (al (ax (dA (uH hr) z_list kn (aa (pv 1 (hv:=DX)) ac) (hg:=EM)))))),?_⟩
 walk_at "rd1"
 refine fun dp hdp=>?_
 generalize hH1:upd H dp _=H1
 have sm1:=av hH1 hdp
 have e1:=aJ hH1
 walk_at "nx"
 refine⟨⟨_,SqL.of (sm1 _ _ hsp)⟩,?_⟩
 refine jH (xs:=ads.map V.ref) (fun i σ H'=>∃ o2 o3 o4:Option V,σ=[some (.ref sp),some (.ref dp),o2,o3,o4]∧Same H H'∧H' dp=some (.dK (lj (fH ((Ps.take i).flatMap b0)))))
  ⟨none,none,none,rfl,sm1,e1⟩ (fun i σ H' _ h=>by obtain⟨_,_,_,_,sm,_⟩:=h; exact SqL.of (sm _ _ hsp)) ?_ ?_
 ·rintro i v σ H' hv ⟨o2,o3,o4,rfl,sm,hd⟩
  have hi:i<ads.length:=by have:=(List.getElem?_eq_some_iff.mp hv).1; simpa using this
  rw[List.getElem?_map,List.getElem?_eq_getElem hi]at hv
  cases hv
  obtain⟨s,hs,st⟩:=eN hp (List.getElem?_eq_getElem hi)
  obtain⟨kind,xs,ks,hd1,hd2,hd3,hd4,hd5⟩:=uD st (hok s (List.mem_of_getElem? hs))
  obtain⟨ka,hka,hks⟩:=qk kind ks hd2
  have hsn:=z9 b0 hs
  have hfl:=C0 b0 Ps (i+1)
  rw[hsn]at hfl ⊢
  have hded:fH ((Ps.take i).flatMap b0++b0 s)=(b0 s).foldl fB (fH ((Ps.take i).flatMap b0)):=by unfold fH; rw[List.foldl_append]
  rw[hded]
  have hac:=lV ((Ps.take i).flatMap b0) []
  rw[List.length_append]at hfl
  rw[List.length_nil]at hac
  have hac':(fH ((Ps.take i).flatMap b0)).length≤((Ps.take i).flatMap b0).length:=by unfold fH; omega
  generalize fH ((Ps.take i).flatMap b0)=acc at hd hac' ⊢
  have hat:SqT K H' ads[i] (.str kind::xs):=SqT.of (sm _ _ hd1)
  walk_at "rd1"
  refine kW hat fun p2 H2 sm2 h2=>?_
  have e1:dJ (V.str kind::xs) (some 1) none=xs:=lS _ 1
  rw[e1]at h2
  walk_at "rd1"
  refine⟨_,_,.inr (hat.same sm2),eD,dP,kvs,kind,.ref ka,rfl,rfl,m,hka,?_⟩
  refine⟨p2,ka,rfl,⟨_,h2⟩,⟨_,hks _⟩,?_⟩
  refine oV (xs:=xs) (ys:=ks.map V.str) (fun j σ H'=>∃ o3 o4:Option V,σ=[some (.ref sp),some (.ref dp),some (.ref ads[i]),o3,o4]∧Same H H'∧SqT K H' p2 xs∧H' dp=some (.dK (lj ((cn (xs.take j) (ks.take j)).foldl fB acc))))
   (by rw[List.length_map]; exact hd3) ⟨o3,o4,rfl,sm.trans sm2,h2,sm2 _ _ hd⟩ (fun j σ H' _ h=>by obtain⟨_,_,_,_,z1,_⟩:=h; exact⟨z1,hks _⟩) ?_ ?_
  ·rintro j x y t σ H3 hx hy ⟨o3,o4,rfl,sm3,h3,hd3'⟩ ht
   have hjx:j<xs.length:=(List.getElem?_eq_some_iff.mp hx).1
   have hjk:j<ks.length:=by omega
   have hkj:ks[j]? = some ks[j]:=List.getElem?_eq_getElem hjk
   rw[List.getElem?_map,hkj]at hy
   cases hy
   have ht1:xs.take (j+1)=xs.take j++[x]:=by rw[List.take_add_one,hx]; rfl
   have ht2:ks.take (j+1)=ks.take j++[ks[j]]:=by rw[List.take_add_one,hkj]; rfl
   have hpa:=qF (xs:=xs.take j) (ks:=ks.take j) x ks[j] (by rw[List.length_take,List.length_take,hd3])
   have hpl:=pQ xs ks j hd3
   rw[hd5]at hpl
   have hfl2:=lV (cn (xs.take j) (ks.take j)) acc
   rw[ht1,ht2,hpa]
   have htx:=hd4 j x hx
   rw[hkj]at htx
   generalize ks[j]=kj at hpa htx ⊢
   generalize cn (xs.take j) (ks.take j)=pk at hd3' hpl hfl2 ⊢
   have st:=au ht (.tup [x,V.str kj])
   have et:upd H3 t (.tup [x,V.str kj]) t=some (.tup [x,V.str kj]):=ai
   generalize upd H3 t (.tup [x,V.str kj])=H4 at st et ⊢
   walk_at "rd1"
   refine⟨t,_,rfl,SqT.of et,rfl,?_⟩
   walk_at "rd1"
   refine aB (fun c=>?_) (fun c=>?_)
   ·subst c
    obtain⟨z,rfl⟩:=htx rfl
    have hd4':=st _ _ hd3'
    refine⟨dp,_,.inr z,rfl,rfl,hd4',by unfold lj; rw[List.length_map]; exact ff (by omega),?_⟩
    rw[zC]
    refine⟨_,_,rfl,(sm3.trans st).upd hdp _,yL (h3.same st) hd4',?_⟩
    rw[ai,List.foldl_append]; rfl
   ·have hno:cn [x] [kj]=[]:=by
     cases x <;> simp[cn,c]
    rw[hno,List.append_nil]
    exact⟨_,_,rfl,sm3.trans st,h3.same st,st _ _ hd3'⟩
  ·rintro σ H3 ⟨o3,o4,rfl,sm3,h3,hd3'⟩
   rw[List.take_length,List.take_of_length_le (by omega),hd5]at hd3'
   exact⟨_,_,_,rfl,sm3,hd3'⟩
 ·rintro σ H' ⟨o2,o3,o4,rfl,sm,hd⟩
  walk_at "nx"
  rw[List.length_map,List.take_of_length_le (by omega)]at hd
  have hac:=lV (Ps.flatMap b0) []
  rw[List.length_nil]at hac
  refine⟨_,hd,by unfold lj fH; rw[List.length_map]; omega,fun l hl=>q l _ (sm.trans (au hl _)) (sm.free hl) ?_⟩
  rw[ai]
  unfold lj
  rw[List.map_map]; rfl
def GB(G:Nat→Addr→List Addr→Bool→Prop):List Addr→Nat→List Addr→Bool→Prop
 | [],_,out,b=>out=[]∧b=true
 | p::ps,n,out,b=>∃ o1 b1,G n p o1 b1∧if b1=true then ∃ o2,GB G ps (n+o1.length) o2 b∧out=o1++o2 else out=o1∧b=false
structure C_ (H:Hp) (x:V) (a:Addr) (k:Str) (hs:List V) (bs:List Addr):Prop where
 ref:x = .ref a
 at':H a=some (.tup (.str k::hs++bs.map V.ref))
 bl:bs.length=(aI k).length
def GL(G:Nat→Addr→List Addr→Bool→Prop)(H:Hp)(ar:Nat):List V→Nat→List Addr→Bool→Prop
 | [],_,out,b=>out=[]∧b=true
 | x::xs,n,out,b=>if ar>8∨n=60∨b9 H x=false then out=[]∧b=false
  else ∃ a k hs bs,C_ H x a k hs bs∧∃ o1 b1,GB G bs (n+1) o1 b1∧if b1=true then ∃ o2,GL G H ar xs (n+1+o1.length) o2 b∧out=a::(o1++o2) else out=a::o1∧b=false
def Gth(S:Addr→Prop):Nat→Hp→Nat→Nat→Addr→List Addr→Bool→Prop
 | 0=>fun _ _ _ _ _ _=>False
 | d+1=>fun H ar n p out b=>S p∧∃ xs,H p=some (.lst xs)∧(∀ x∈xs,fg H x)∧xs.length≤1000∧GL (Gth S d H (ar+1)) H ar xs n out b
structure FrL (H H':Hp) (sp:Addr):Prop where
 keep:∀ b o,H b=some o→b≠sp→H' b=some o
 l0:∀ o,H sp=some o→∃ xs,o = .lst xs
 l1:∃ xs,H' sp=some (.lst xs)
theorem FrL.tup{H H':Hp}{sp:Addr}(f:FrL H H' sp){b:Addr}{xs:List V}(h:H b=some (.tup xs)):H' b=some (.tup xs):=f.keep b _ h (fun z=>by subst z; obtain⟨ys,e⟩:=f.l0 _ h; cases e)
theorem FrL.ty{H H':Hp}{sp:Addr}(f:FrL H H' sp){x:V}{T:String}(h:az H x=some T):az H' x=some T:=by
 cases x with
 | ref a=>
  by_cases ha:a=sp
  ·subst ha
   obtain⟨ys,e'⟩:=f.l1
   cases e:H a with
   | none=>simp[az,e]at h
   | some o=>
    obtain⟨xs,rfl⟩:=f.l0 _ e
    simp only[az,e]at h
    simp only[az,e']
    exact h
  ·cases e:H a with
   | none=>simp[az,e]at h
   | some o=>
    have e':=f.keep _ _ e ha
    simp only[az,e,e']at h ⊢
    exact h
 | _=>exact h
theorem FrL.thing{H H':Hp}{sp:Addr}(f:FrL H H' sp){x:V}(h:Thing H x):Thing H' x:=⟨let ⟨T,hT⟩:=h.1; ⟨T,f.ty hT⟩,h.2⟩
theorem FrL.part{H H':Hp}{sp:Addr}(f:FrL H H' sp){x:V}{k:Str}(h:Thing H x):cP H' x k=cP H x k:=by
 obtain⟨T,hT⟩:=h.1
 have:=f.ty hT
 unfold cP nA
 rw[hT,this]
theorem FrL.thingT{H H':Hp}{sp:Addr}(f:FrL H H' sp){x:V}(h:fg H x):fg H' x∧b9 H' x=b9 H x:=by
 obtain⟨h1,h2⟩:=h
 cases x with
 | ref a=>
  by_cases ha:a=sp
  ·subst ha
   obtain⟨ys,e'⟩:=f.l1
   have hno:b9 H (.ref a)=false:=by
    cases e:H a with
    | none=>simp[b9,e]
    | some o=>obtain⟨xs,rfl⟩:=f.l0 _ e; simp[b9,e]
   refine⟨⟨f.thing h1,fun b zs eb hb=>?_⟩,by rw[hno]; simp[b9,e']⟩
   cases eb
   rw[e']at hb; cases hb
  ·obtain⟨T,hT⟩:=h1.1
   cases e:H a with
   | none=>simp[az,e]at hT
   | some o=>
    have e':=f.keep _ _ e ha
    refine⟨⟨f.thing h1,fun b zs eb hb=>?_⟩,?_⟩
    ·cases eb
     rw[e']at hb
     cases hb
     obtain⟨k1,k2⟩:=h2 a zs rfl e
     exact⟨fun y hy=>f.thing (k1 y hy),k2⟩
    ·cases o with
     | tup zs=>
      obtain⟨k1,_⟩:=h2 a zs rfl e
      simp only[b9,e,e']
      cases zs with
      | nil=>rfl
      | cons z0 zr=>
       cases z0 with
       | str k=>
        simp only[d_]
        cases d6 k with
        | none=>rfl
        | some ks=>
         have:eF H' zr ks=eF H zr ks:=by
          unfold eF
          congr 1
          apply List.ext_getElem?
          intro i
          rw[List.getElem?_zipWith,List.getElem?_zipWith]
          cases hz:zr[i]? with
          | none=>rfl
          | some z=>
           cases ks[i]? with
           | none=>rfl
           | some kk=>simp only[f.part (k1 z (List.mem_cons_of_mem _ (List.mem_of_getElem? hz)))]
         simp only[this]
       | _=>rfl
     | _=>simp[b9,e,e']
 | _=>exact⟨⟨f.thing h1,fun a xs e=>by cases e⟩,rfl⟩
theorem GB.imp{G G':Nat→Addr→List Addr→Bool→Prop}(h:∀ n p o b,G n p o b→G' n p o b):∀ {bs:List Addr} {n:Nat} {out:List Addr} {b:Bool},GB G bs n out b→GB G' bs n out b
 | [],_,_,_,z=>z
 | p::ps,n,out,b,⟨o1,b1,z1,z2⟩=>by
  refine⟨o1,b1,h _ _ _ _ z1,?_⟩
  split at z2
  ·rename_i hb
   rw[if_pos hb]
   obtain⟨o2,y1,y2⟩:=z2
   exact⟨o2,GB.imp h y1,y2⟩
  ·rename_i hb
   rw[if_neg hb]; exact z2
theorem GL.imp{G G':Nat→Addr→List Addr→Bool→Prop}{H H':Hp}{sp:Addr}{ar:Nat}(h:∀ n p o b,G n p o b→G' n p o b)(f:FrL H H' sp):∀ {xs:List V} {n:Nat} {out:List Addr} {b:Bool},(∀ x∈xs,fg H x)→GL G H ar xs n out b→GL G' H' ar xs n out b
 | [],_,_,_,_,z=>z
 | x::xs,n,out,b,hx,z=>by
  have hl:=(f.thingT (hx x List.mem_cons_self)).2
  unfold GL at z ⊢
  rw[hl]
  split at z
  ·rename_i hc
   rw[if_pos hc]; exact z
  ·rename_i hc
   rw[if_neg hc]
   obtain⟨a,k,hs,bs,st,o1,b1,z1,z2⟩:=z
   refine⟨a,k,hs,bs,⟨st.ref,f.tup st.at',st.bl⟩,o1,b1,z1.imp h,?_⟩
   split at z2
   ·rename_i hb
    rw[if_pos hb]
    obtain⟨o2,y1,y2⟩:=z2
    exact⟨o2,GL.imp h f (fun x hx'=>hx x (List.mem_cons_of_mem _ hx')) y1,y2⟩
   ·rename_i hb
    rw[if_neg hb]; exact z2
theorem Gth.imp{S:Addr→Prop}{H H':Hp}{sp:Addr}(f:FrL H H' sp)(hS:¬ S sp):∀ (d:Nat) {ar n:Nat} {p:Addr} {out:List Addr} {b:Bool},Gth S d H ar n p out b→Gth S d H' ar n p out b
 | 0,_,_,_,_,_,h=>h.elim
 | d+1,ar,n,p,out,b,⟨h0,xs,h1,h2,h3,h4⟩=>⟨h0,xs,f.keep _ _ h1 (fun z=>hS (z ▸ h0)),fun x hx=>(f.thingT (h2 x hx)).1,h3,h4.imp (fun n p o b z=>Gth.imp f hS d z) f h2⟩
theorem GB.le{G:Nat→Addr→List Addr→Bool→Prop}(h:∀ n p o b,n≤60→G n p o b→n+o.length≤60):∀ {bs:List Addr} {n:Nat} {out:List Addr} {b:Bool},n≤60→GB G bs n out b→n+out.length≤60
 | [],n,_,_,hn,z=>by rw[z.1]; exact hn
 | p::ps,n,out,b,hn,⟨o1,b1,z1,z2⟩=>by
  have h1:=h _ _ _ _ hn z1
  split at z2
  ·obtain⟨o2,y1,y2⟩:=z2
   have:=GB.le h h1 y1
   rw[y2,List.length_append]; omega
  ·rw[z2.1]; exact h1
theorem GL.le{G:Nat→Addr→List Addr→Bool→Prop}{H:Hp}{ar:Nat}(h:∀ n p o b,n≤60→G n p o b→n+o.length≤60):∀ {xs:List V} {n:Nat} {out:List Addr} {b:Bool},n≤60→GL G H ar xs n out b→n+out.length≤60
 | [],n,_,_,hn,z=>by rw[z.1]; exact hn
 | x::xs,n,out,b,hn,z=>by
  unfold GL at z
  split at z
  ·rw[z.1]; exact hn
  ·rename_i hc
   obtain⟨a,k,hs,bs,st,o1,b1,z1,z2⟩:=z
   have hn1:n+1≤60:=by
    have:¬ n=60:=fun e=>hc (.inr (.inl e))
    omega
   have h1:=GB.le h hn1 z1
   split at z2
   ·obtain⟨o2,y1,y2⟩:=z2
    have:=GL.le h h1 y1
    rw[y2,List.length_cons,List.length_append]; omega
   ·rw[z2.1,List.length_cons]; omega
theorem Gth.le{S:Addr→Prop}{H:Hp}:∀ (d:Nat) {ar n:Nat} {p:Addr} {out:List Addr} {b:Bool},n≤60→Gth S d H ar n p out b→n+out.length≤60
 | 0,_,_,_,_,_,_,h=>h.elim
 | d+1,ar,n,p,out,b,hn,⟨h0,xs,h1,h2,h3,h4⟩=>h4.le (fun n p o b hn z=>Gth.le d hn z) hn
def qf(d:Nat):Sp:=fun vs H Q _=>∃ (p sp:Addr) (ar n:Nat) (cur out:List Addr) (b:Bool) (S:Addr→Prop),vs=[.ref p,.int (ar:Int),.ref sp]∧Gth S d H ar n p out b∧¬ S sp∧H sp=some (.lst (cur.map V.ref))∧cur.length=n∧n≤60∧
 ∀ H',FrL H H' sp→H' sp=some (.lst ((cur++out).map V.ref))→Q (.bl b) H'
theorem FrL.same{H H':Hp}{sp:Addr}(f:FrL H H' sp){H2:Hp}(sm:Same H' H2):FrL H H2 sp:=⟨fun b o e n=>sm _ _ (f.keep b o e n),f.l0,let ⟨xs,e⟩:=f.l1; ⟨xs,sm _ _ e⟩⟩
theorem FrL.upd{H H':Hp}{sp:Addr}(f:FrL H H' sp)(ys:List V):FrL H (upd H' sp (.lst ys)) sp:=⟨fun b o e n=>by rw[aA n]; exact f.keep b o e n,f.l0,⟨ys,ai⟩⟩
theorem FrL.trans{H H' H2:Hp}{sp:Addr}(f:FrL H H' sp)(g:FrL H' H2 sp):FrL H H2 sp:=⟨fun b o e n=>g.keep b o (f.keep b o e n) n,f.l0,g.l1⟩
theorem ny(D:DefAt K mg "gathers_steps" aQ) (z_len:mg "len" = none) (g_MOST_AROUND:∃ t,mg "MOST_AROUND" = some (.int 8 t)) (g_MOST_LINES:∃ t,mg "MOST_LINES" = some (.int 60 t)) (c_is_like_step:bf P w K mg base 4 "is_like_step" ["thing"] vv) (c_blocks_of:bf P w K mg base 3 "blocks_of" ["step"] (mO K)) :
  ∀ d:Nat,bf P w K mg base (d+5) "gathers_steps" ["things", "around", "steps"] (qf d)
 | 0=>D.cal (k:=4) sc_gathers_steps (fun _ _ _ _ _ _ us hl=>match us,hl with | [_,_,_],_=>rfl) (fun vs H Q E h=>by obtain⟨_,_,_,_,_,_,_,_,rfl,_⟩:=h; rfl) (fun f cdv A outer s H vs Q E hr h=>by obtain⟨_,_,_,_,_,_,_,_,rfl,z,_⟩:=h; exact z.elim)
 | d+1=>by
  have c_gathers_steps:=ny D z_len g_MOST_AROUND g_MOST_LINES c_is_like_step c_blocks_of d
  refine D.cal (k:=d+5) sc_gathers_steps (fun _ _ _ _ _ _ us hl=>match us,hl with | [_,_,_],_=>rfl) (fun vs H Q E h=>by obtain⟨_,_,_,_,_,_,_,_,rfl,_⟩:=h; rfl) (fun f cdv A outer s H vs Q E hr h=>?_)
  obtain⟨p,sp,ar,n,cur,out,b,S,rfl,⟨hSp,xs,h1,h2,h3,hg⟩,hS,hsp,hn,h60,q⟩:=h
  have hps:p≠sp:=fun z=>hS (z ▸ hSp)
  refine⟨_,(af (gi PassesOwn.never rfl (dH K (pv 0 (hv:=FN))) (bX 3 sc_gathers_steps.nd (hx:=F6)) (af (bq (PW.pt' (gj (aH iz (pv 1 (hv:=D1)) (cF g_MOST_AROUND (hg:=F7)) (aG _)) (gj (aH cm (aL (aW K) z_len bM (aa (pv 2 (hv:=Cp)) ac) (hg:=Gf)) (cF g_MOST_LINES (hg:=Gv)) (aG _)) (fo (cC (cy (aE c_is_like_step hr (aa (pv 3 (hv:=AN)) ac) (hg:=FX) (hle:=by omega)))))))) (al (ax dI)) aP)
   (af (dk (bL K PySem.F.plainAttrs_list PySem.F.slot_list_append PySem.F.type_list_append cQ (pv 2 (hv:=Cp)) (aa (pv 3 (hv:=AN)) ac)))
   (al (gi PassesOwn.never rfl (mj K (aE c_blocks_of hr (aa (pv 3 (hv:=AN)) ac) (hg:=FG) (hle:=by omega))) (bX 4 sc_gathers_steps.nd (hx:=FP)) (al (bq (cC (cy (aE c_gathers_steps hr (aa (pv 4 (hv:=F1)) (aa (am ap (pv 1 (hv:=D1)) aj) (aa (pv 2 (hv:=Cp)) ac))) (hg:=FT) (hle:=by omega)))) (al (ax dI)) aP)))))))
   (al (ax dI))),?_⟩
  walk_at "rd1"
  refine⟨⟨_,SqL.of h1⟩,?_⟩
  refine jH (xs:=xs) (fun i σ H'=>∃ (oi ori:List Addr) (o3 o4:Option V),σ=[some (.ref p),some (.int (ar:Int)),some (.ref sp),o3,o4]∧FrL H H' sp∧H' sp=some (.lst ((cur++oi).map V.ref))∧n+oi.length≤60∧GL (Gth S d H (ar+1)) H ar (xs.drop i) (n+oi.length) ori b∧out=oi++ori)
   ⟨[],out,none,none,rfl,⟨fun b o e _=>e,fun o e=>⟨_,Option.some.inj (e.symm.trans hsp)⟩,⟨_,hsp⟩⟩,by rw[List.append_nil]; exact hsp,h60,hg,rfl⟩ (fun i σ H' _ h=>by obtain⟨_,_,_,_,_,f,_⟩:=h; exact SqL.of (f.keep _ _ h1 hps)) ?_ ?_
  ·rintro i x σ H' hx ⟨oi,ori,o3,o4,rfl,fr,hsp',hoi,hgl,rfl⟩
   have hdr:xs.drop i=x::xs.drop (i+1):=by
    have hi:i<xs.length:=(List.getElem?_eq_some_iff.mp hx).1
    rw[List.getElem?_eq_getElem hi]at hx
    cases hx
    exact List.drop_eq_getElem_cons hi
   rw[hdr]at hgl
   have hxm:=List.mem_of_getElem? hx
   obtain⟨hth,hlk⟩:=fr.thingT (h2 x hxm)
   have hlen:(cur++oi).length=n+oi.length:=by rw[List.length_append,hn]
   unfold GL at hgl
   walk_at "rd1"
   have stop:(ar>8∨n+oi.length=60∨b9 H x=false)→∀ {H2:Hp},FrL H H2 sp→H2 sp=some (.lst ((cur++oi).map V.ref))→Q (.bl false) H2:=fun hc {H2} f2 e2=>by
    rw[if_pos hc]at hgl
    obtain⟨rfl,rfl⟩:=hgl
    rw[List.append_nil]at q
    exact q H2 f2 e2
   refine aB (fun c=>stop (.inl (by omega)) fr hsp') (fun c=>?_)
   refine⟨_,.inl (SqL.of hsp'),aB (fun c2=>stop (.inr (.inl (by rw[List.length_map,hlen]at c2; omega))) fr hsp') (fun c2=>?_)⟩
   have hne:¬ n+oi.length=60:=fun z=>c2 (by rw[List.length_map,hlen]; omega)
   refine⟨x,rfl,hth,fun H2 sm2=>?_⟩
   rw[hlk]
   cases hlv:b9 H x with
   | false=>
    refine⟨false,rfl,?_⟩
    rw[if_pos (by decide)]
    exact stop (.inr (.inr hlv)) (fr.same sm2) (sm2 _ _ hsp')
   | true=>
    refine⟨true,rfl,?_⟩
    rw[if_neg (by decide)]
    have hcond:¬ (ar>8∨n+oi.length=60∨b9 H x=false):=fun z=>z.elim (fun z=>by omega) fun z=>z.elim hne fun z=>by rw[hlv]at z; cases z
    rw[if_neg hcond]at hgl
    obtain⟨a,k,hs,bs,st,o1,b1,z1,z2⟩:=hgl
    obtain⟨rfl,sat,sbl⟩:=st
    have fr2:=fr.same sm2
    have e2:=sm2 _ _ hsp'
    walk_at "nx"
    refine⟨⟨_,SqL.of e2⟩,_,e2,by rw[List.length_map,hlen]; exact ff (by omega),?_⟩
    have fr3:=fr2.upd ((cur++oi).map V.ref++[.ref a])
    have e3:upd H2 sp (.lst ((cur++oi).map V.ref++[.ref a])) sp=some (.lst ((cur++(oi++[a])).map V.ref)):=by rw[ai,← List.append_assoc,List.map_append (l₁:=cur++oi)]; rfl
    generalize upd H2 sp (.lst ((cur++oi).map V.ref++[.ref a]))=H3 at fr3 e3 ⊢
    have hat:SqT K H3 a (.str k::(hs++bs.map V.ref)):=SqT.of (fr3.tup sat)
    have hcl:(aI k).length≤(hs++bs.map V.ref).length+1:=by rw[List.length_append,List.length_map,sbl]; omega
    have hcut:(hs++bs.map V.ref).length+1 - (aI k).length=hs.length+1:=by rw[List.length_append,List.length_map,sbl]; omega
    walk_at "nx"
    refine⟨a,k,hs++bs.map V.ref,rfl,hat,hcl,fun bp H4 sm4 hbp=>?_⟩
    rw[hcut]at hbp
    have edr:(V.str k::(hs++bs.map V.ref)).drop (hs.length+1)=bs.map V.ref:=by rw[List.drop_succ_cons,List.drop_left']; rfl
    rw[edr]at hbp
    walk_at "rd1"
    refine⟨⟨_,hbp⟩,?_⟩
    refine mF (xs:=bs.map V.ref) (fun j σ H'=>∃ (oj orj:List Addr) (o4:Option V),σ=[some (.ref p),some (.int (ar:Int)),some (.ref sp),some (.ref a),o4]∧FrL H H' sp∧SqT K H' bp (bs.map V.ref)∧H' sp=some (.lst ((cur++(oi++(a::oj))).map V.ref))∧n+oi.length+1+oj.length≤60∧GB (Gth S d H (ar+1)) (bs.drop j) (n+oi.length+1+oj.length) orj b1∧o1=oj++orj)
     ⟨[],o1,o4,rfl,fr3.same sm4,hbp,sm4 _ _ e3,by show n+oi.length+1+0≤60; omega,z1,rfl⟩ (fun j σ H' _ h=>by obtain⟨_,_,_,_,_,z,_⟩:=h; exact z) ?_ ?_
    ·rintro j v σ H5 hv ⟨oj,orj,o4,rfl,fr5,hb5,e5,hoj,hgb,rfl⟩
     have hj:j<bs.length:=by have:=(List.getElem?_eq_some_iff.mp hv).1; simpa using this
     rw[List.getElem?_map,List.getElem?_eq_getElem hj]at hv
     cases hv
     rw[List.drop_eq_getElem_cons hj]at hgb
     obtain⟨oo,bb,y1,y2⟩:=hgb
     have hle:=Gth.le d hoj y1
     have hlen5:(cur++(oi++(a::oj))).length=n+oi.length+1+oj.length:=by rw[List.length_append,List.length_append,List.length_cons,hn]; omega
     walk_at "rd1"
     refine⟨bs[j],sp,ar+1,n+oi.length+1+oj.length,cur++(oi++(a::oj)),oo,bb,S,by simp,Gth.imp fr5 hS d y1,hS,e5,hlen5,hoj,fun H6 fr6 e6=>?_⟩
     have fr56:=fr5.trans fr6
     have e6':H6 sp=some (.lst ((cur++(oi++(a::(oj++oo)))).map V.ref)):=by rw[e6]; simp[List.append_assoc]
     cases bb with
     | false=>
      rw[if_neg Bool.false_ne_true]at y2
      obtain⟨rfl,rfl⟩:=y2
      rw[if_neg Bool.false_ne_true]at z2
      obtain⟨rfl,rfl⟩:=z2
      walk_at "rd1"
      exact q H6 fr56 e6'
     | true=>
      rw[if_pos rfl]at y2
      obtain⟨o2,y3,rfl⟩:=y2
      walk_at "rd1"
      have hb6:SqT K H6 bp (bs.map V.ref):=by
       rcases hb5 with (h | ⟨o',h⟩) | h
       ·exact .inl (.inl (fr6.tup h))
       ·refine .inl (.inr ⟨o',fr6.keep _ _ h ?_⟩)
        exact fu h e5 (fun z=>nomatch z)
       ·exact .inr h
      refine⟨oj++oo,o2,_,rfl,fr56,hb6,e6',by rw[List.length_append]; omega,?_,by rw[List.append_assoc]⟩
      rw[List.length_append,show n+oi.length+1+(oj.length+oo.length)=n+oi.length+1+oj.length+oo.length by omega]
      exact y3
    ·rintro σ H5 ⟨oj,orj,o4,rfl,fr5,hb5,e5,hoj,hgb,rfl⟩
     rw[List.length_map,List.drop_length]at hgb
     obtain⟨rfl,rfl⟩:=hgb
     rw[List.append_nil]at z2
     rw[if_pos rfl]at z2
     obtain⟨o2,y1,rfl⟩:=z2
     refine⟨oi++(a::oj),o2,_,_,rfl,fr5,e5,by rw[List.length_append,List.length_cons]; omega,?_,by simp[List.append_assoc]⟩
     rw[List.length_append,List.length_cons,show n+(oi.length+(oj.length+1))=n+oi.length+1+oj.length by omega]
     exact y1
  ·rintro σ H' ⟨oi,ori,o3,o4,rfl,fr,hsp',hoi,hgl,rfl⟩
   walk_at "nx"
   rw[List.drop_length]at hgl
   obtain⟨rfl,rfl⟩:=hgl
   rw[List.append_nil]at q
   exact q H' fr hsp'
def kindOf:ak→Str
 | .plain ws=>ws.headD ""
 | .lend _ _ _ => "lend"
 | .ite _ _ _ => "if"
 | .whl _ _ => "while"
theorem vG{H:Hp}{a:Addr}{g:List ak→Prop}:∀ {s:ak},headAt H a s→eL g s→∃ xs,H a=some (.tup (.str (kindOf s)::xs))
 | .plain ws,h,ok=>by cases ok <;> exact⟨_,h⟩
 | .lend _ _ _,⟨_,h,_⟩,_=>⟨_,h⟩
 | .ite _ _ _,⟨_,_,h,_⟩,_=>⟨_,h⟩
 | .whl _ _,⟨_,h,_⟩,_=>⟨_,h⟩
def ip(Ps:List ak):Int:=(Ps.map fun s=>1+((aI (kindOf s)).length:Int)).sum
def j5(Ps:List ak):Bool:=decide (ip Ps≤60)&&decide ((Ps.map kindOf).countP (· == ("lend" : Str))≤3)&&decide ((fH (Ps.flatMap b0)).length≤4)
def qr:Sp:=fun vs H Q _=>∃ (p:Addr) (S:Addr→Prop) (out:List Addr) (b:Bool) (Ps:List ak) (g:List ak→Prop),vs=[.ref p]∧Gth S 10 H 0 0 p out b∧(∀ x,S x→∃ o,H x=some o)∧
 (b=true→Paired (headAt H) out Ps∧(∀ s∈Ps,eL g s)∧(Ps.flatMap b0).length≤5000)∧∀ H',Same H H'→Q (.bl (b&&j5 Ps)) H'
def oW:Sp:=fun vs H Q E=>qr vs H Q E∨∃ (x:V) (T:String),vs=[x]∧az H x=some T∧j9 T "list" = false∧∀ H',Same H H'→Q (.bl false) H'
theorem rO{H H':Hp}(sm:Same H H'){x:V}{T:String}(h:az H x=some T):az H' x=some T:=by
 cases x with
 | ref a=>
  simp only[az]at h ⊢
  cases e:H a with
  | none=>rw[e]at h; cases h
  | some o=>rw[e]at h; rw[sm _ _ e]; exact h
 | _=>exact h
theorem w9(D:DefAt K mg "is_program" aq) (z_isinstance:mg "isinstance" = none) (z_list:mg "list" = none) (z_sum:mg "sum" = none) (z_len:mg "len" = none) (g_MOST_LINES:∃ t,mg "MOST_LINES" = some (.int 60 t)) (g_MOST_LENDS:∃ t,mg "MOST_LENDS" = some (.int 3 t)) (g_MOST_NAMES:∃ t,mg "MOST_NAMES" = some (.int 4 t))
  (c_gathers_steps:bf P w K mg base 15 "gathers_steps" ["things", "around", "steps"] (qf 10)) (c_closers_of:bf P w K mg base 1 "closers_of" ["kind"] (dE K)) (c_names_in:bf P w K mg base 1 "names_in" ["steps"] pb):bf P w K mg base 16 "is_program" ["thing"] oW:=by
 refine D.cal sc_is_program (fun _ _ _ _ _ _ us hl=>match us,hl with | [_],_=>rfl) (fun vs H Q E h=>by rcases h with ⟨_,_,_,_,_,_,rfl,_⟩ | ⟨_,_,rfl,_⟩ <;> rfl) (fun f cdv A outer s H vs Q E hr h=>?_)
 rcases h with h | ⟨x,T,rfl,hT,hnl,q⟩
 rotate_left
 ·refine⟨_,(af (aw 1 sc_is_program.nd (aT ac) (hx:=DA))
   (af (bq (PW.pt' (gj (cC (cy (aL cU z_isinstance bh (aa (pv 0 (hv:=zi)) (aa (dy z_list kn (hg:=BI)) ac)) (hg:=AW)))) (fo (cC (cy (aE c_gathers_steps hr (aa (pv 0 (hv:=zi)) (aa aj (aa (pv 1 (hv:=tI)) ac))) (hg:=CT))))))) (al (ax dI)) aP)
   (af (nU (CompSc.to (fsc:=(defScope aq)) (N:=["thing", "steps", "kinds", "lines"]) (N0:=["thing", "steps", "kinds", "lines"]) (T:=["step"]) ⟨by decide +kernel,by decide +kernel,by decide +kernel,by decide +kernel,by decide +kernel,by decide +kernel,by decide +kernel⟩ rfl rfl) rfl sc_is_program.nd (i:=2) rfl DK (dH K (pv 1 (hv:=tI))) (fun _ _ _ _=>(bX 4 (show (["thing", "steps", "kinds", "lines", "step"]:List Str).Nodup from by decide +kernel) (hx:=(hX (defScope aq) (by decide +kernel))) (hf:=jT (defScope aq) (by decide +kernel)))) (cN (show (["thing", "steps", "kinds", "lines"]:List Str).length≤4 from by decide)) (fun _ _ _ _=>du) (fun _ _ _ _=>(bd (bG K) (pv 4 (hv:=(dL (defScope aq) (by decide +kernel)))) aj (fun _ _=>rfl))))
   (af (aw 3 sc_is_program.nd (aL (pH K) z_sum wY (aa (dS (CompSc.to (fsc:=(defScope aq)) (N:=["thing", "steps", "kinds", "lines"]) (N0:=["thing", "steps", "kinds", "lines"]) (T:=["kind"]) ⟨by decide +kernel,by decide +kernel,by decide +kernel,by decide +kernel,by decide +kernel,by decide +kernel,by decide +kernel⟩ rfl rfl) rfl (dH K (pv 2 (hv:=zp))) (fun _ _ _ _=>(bX 4 (show (["thing", "steps", "kinds", "lines", "kind"]:List Str).Nodup from by decide +kernel) (hx:=(hX (defScope aq) (by decide +kernel))) (hf:=jT (defScope aq) (by decide +kernel)))) (cN (show (["thing", "steps", "kinds", "lines"]:List Str).length≤4 from by decide)) (fun _ _ _ _=>du) (fun _ _ _ _=>(am ap aj (aL (aW K) z_len bM (aa (aE c_closers_of hr (aa (pv 4 (hv:=(dL (defScope aq) (by decide +kernel)))) ac) (hg:=(nw (defScope aq) (by decide +kernel)))) ac) (hg:=(nw (defScope aq) (by decide +kernel))))))) ac) (hg:=BE)) (hx:=DJ))
   (al (ax (fh (cj d9 (pv 3 (hv:=Ds)) (cF g_MOST_LINES (hg:=B9)) (aG _)) (fh (cj d9 (bL K PySem.F.plainAttrs_list PySem.F.slot_list_count PySem.F.type_list_count (pr K) (pv 2 (hv:=zp)) (aa ah ac)) (cF g_MOST_LENDS (hg:=Bt)) (aG _)) (jr (cj d9 (aL (aW K) z_len bM (aa (aE c_names_in hr (aa (pv 1 (hv:=tI)) ac) (hg:=Bq)) ac) (hg:=AK)) (cF g_MOST_NAMES (hg:=Bi)) (aG _))))))))))),?_⟩
  walk_at "rd1"
  refine⟨by decide,fun sp hsp=>?_⟩
  have sm1:=au hsp (.lst [])
  generalize upd H sp (.lst [])=H1 at sm1 ⊢
  walk_at "nx"
  refine⟨T,rO sm1 hT,by decide,?_⟩
  rw[hnl]
  exact aB (fun _=>q H1 sm1) (fun c=>absurd (by decide) c)
 obtain⟨p,S,out,b,Ps,g,rfl,hg,hSin,hb,q⟩:=h
 obtain⟨hSp,xs,hp,_⟩:=id hg
 refine⟨_,(af (aw 1 sc_is_program.nd (aT ac) (hx:=DA))
   (af (bq (PW.pt' (gj (cC (cy (aL cU z_isinstance bh (aa (pv 0 (hv:=zi)) (aa (dy z_list kn (hg:=BI)) ac)) (hg:=AW)))) (fo (cC (cy (aE c_gathers_steps hr (aa (pv 0 (hv:=zi)) (aa aj (aa (pv 1 (hv:=tI)) ac))) (hg:=CT))))))) (al (ax dI)) aP)
   (af (nU (CompSc.to (fsc:=(defScope aq)) (N:=["thing", "steps", "kinds", "lines"]) (N0:=["thing", "steps", "kinds", "lines"]) (T:=["step"]) ⟨by decide +kernel,by decide +kernel,by decide +kernel,by decide +kernel,by decide +kernel,by decide +kernel,by decide +kernel⟩ rfl rfl) rfl sc_is_program.nd (i:=2) rfl DK (dH K (pv 1 (hv:=tI))) (fun _ _ _ _=>(bX 4 (show (["thing", "steps", "kinds", "lines", "step"]:List Str).Nodup from by decide +kernel) (hx:=(hX (defScope aq) (by decide +kernel))) (hf:=jT (defScope aq) (by decide +kernel)))) (cN (show (["thing", "steps", "kinds", "lines"]:List Str).length≤4 from by decide)) (fun _ _ _ _=>du) (fun _ _ _ _=>(bd (bG K) (pv 4 (hv:=(dL (defScope aq) (by decide +kernel)))) aj (fun _ _=>rfl))))
   (af (aw 3 sc_is_program.nd (aL (pH K) z_sum wY (aa (dS (CompSc.to (fsc:=(defScope aq)) (N:=["thing", "steps", "kinds", "lines"]) (N0:=["thing", "steps", "kinds", "lines"]) (T:=["kind"]) ⟨by decide +kernel,by decide +kernel,by decide +kernel,by decide +kernel,by decide +kernel,by decide +kernel,by decide +kernel⟩ rfl rfl) rfl (dH K (pv 2 (hv:=zp))) (fun _ _ _ _=>(bX 4 (show (["thing", "steps", "kinds", "lines", "kind"]:List Str).Nodup from by decide +kernel) (hx:=(hX (defScope aq) (by decide +kernel))) (hf:=jT (defScope aq) (by decide +kernel)))) (cN (show (["thing", "steps", "kinds", "lines"]:List Str).length≤4 from by decide)) (fun _ _ _ _=>du) (fun _ _ _ _=>(am ap aj (aL (aW K) z_len bM (aa (aE c_closers_of hr (aa (pv 4 (hv:=(dL (defScope aq) (by decide +kernel)))) ac) (hg:=(nw (defScope aq) (by decide +kernel)))) ac) (hg:=(nw (defScope aq) (by decide +kernel))))))) ac) (hg:=BE)) (hx:=DJ))
   (al (ax (fh (cj d9 (pv 3 (hv:=Ds)) (cF g_MOST_LINES (hg:=B9)) (aG _)) (fh (cj d9 (bL K PySem.F.plainAttrs_list PySem.F.slot_list_count PySem.F.type_list_count (pr K) (pv 2 (hv:=zp)) (aa ah ac)) (cF g_MOST_LENDS (hg:=Bt)) (aG _)) (jr (cj d9 (aL (aW K) z_len bM (aa (aE c_names_in hr (aa (pv 1 (hv:=tI)) ac) (hg:=Bq)) ac) (hg:=AK)) (cF g_MOST_NAMES (hg:=Bi)) (aG _))))))))))),?_⟩
 walk_at "rd1"
 refine⟨by decide,fun sp hsp=>?_⟩
 have sm1:=au hsp (.lst [])
 have e1:upd H sp (.lst []) sp=some (.lst []):=ai
 generalize upd H sp (.lst [])=H1 at sm1 e1 ⊢
 have hSsp:¬ S sp:=fun z=>by obtain⟨o,e⟩:=hSin sp z; rw[hsp]at e; cases e
 have hp1:=sm1 _ _ hp
 walk_at "nx"
 refine⟨"list", by simp[az,hp1],by decide,?_⟩
 refine aB (fun c=>absurd c (by decide)) (fun _=>?_)
 have f1:FrL H H1 sp:=⟨fun b o e _=>sm1 _ _ e,(fun o e=>by rw[hsp]at e; cases e),⟨_,e1⟩⟩
 refine⟨p,sp,0,0,[],out,b,S,rfl,Gth.imp f1 hSsp 10 hg,hSsp,e1,rfl,by decide,fun H2 f2 e2=>?_⟩
 have f12:=f1.trans f2
 have sm2:Same H H2:=fun x o e=>f12.keep x o e (fun z=>by subst z; rw[hsp]at e; cases e)
 have hle:=Gth.le 10 (by decide) hg
 rw[List.nil_append]at e2
 cases b with
 | false=>
  refine⟨false,rfl,?_⟩
  rw[if_pos (by decide)]
  exact q H2 sm2
 | true=>
  obtain⟨hp1,hok,hfm⟩:=hb rfl
  have hlen:=bY hp1
  refine⟨true,rfl,?_⟩
  rw[if_neg (by decide)]
  rw[Bool.true_and]at q
  walk_at "nx"
  refine⟨⟨_,SqL.of e2⟩,fun C hC=>?_⟩
  refine nM (xs:=out.map V.ref) (fun i ys H'=>Same H2 H'∧H' C=some (.lst ys)∧ys=((Ps.map kindOf).take i).map V.str) ⟨au hC _,ai,rfl⟩ (fun i ys H' _ h=>SqL.of (h.1 _ _ e2)) ?_ ?_
  ·rintro i ys H' v hv hi ⟨sm,hl,rfl⟩
   rw[List.length_map]at hi
   rw[List.getElem?_map,List.getElem?_eq_getElem hi]at hv
   cases hv
   obtain⟨s,hs,hh⟩:=eN hp1 (List.getElem?_eq_getElem hi)
   obtain⟨zs,hz⟩:=vG hh (hok s (List.mem_of_getElem? hs))
   walk_at "rd1"
   refine⟨_,_,.inr (SqT.of (sm _ _ (sm2 _ _ hz))),eD,?_⟩
   refine jI (by rw[List.length_map]; exact hi) (by rw[List.length_map,List.length_take,List.length_map]; omega) (by rw[List.length_map]; exact ao (by omega)) hl ⟨sm.upd hC _,ai,?_⟩
   rw[List.take_add_one,List.getElem?_map,hs,List.map_append]; rfl
  rintro ys H3 ⟨sm3,hl3,rfl⟩
  have hl3':H3 C=some (.lst ((Ps.map kindOf).map V.str)):=by rw[hl3,List.take_of_length_le (by rw[List.length_map,List.length_map]; omega)]
  have sm23:=sm2.trans sm3
  walk_at "nx"
  refine⟨⟨_,SqL.of hl3'⟩,fun C4 hC4=>?_⟩
  refine nM (xs:=(Ps.map kindOf).map V.str) (fun i ys H'=>Same H3 H'∧H' C4=some (.lst ys)∧ys=((Ps.map fun s=>1+((aI (kindOf s)).length:Int)).take i).map V.int) ⟨au hC4 _,ai,rfl⟩ (fun i ys H' _ h=>SqL.of (h.1 _ _ hl3')) ?_ ?_
  ·rintro i ys H' v hv hi ⟨sm,hl,rfl⟩
   rw[List.length_map,List.length_map]at hi
   rw[List.getElem?_map,List.getElem?_map,List.getElem?_eq_getElem hi]at hv
   cases hv
   walk_at "rd1"
   refine⟨kindOf Ps[i],rfl,fun r H5 sm5 hr5=>?_⟩
   walk_at "rd1"
   refine⟨_,.inr hr5,?_⟩
   have hcm:((aI (kindOf Ps[i])).map V.str).length=(aI (kindOf Ps[i])).length:=List.length_map ..
   rw[hcm]
   refine jI (by first | exact hi | (rw[List.length_map]; exact hi) | (rw[List.length_map,List.length_map]; exact hi)) (by rw[List.length_map,List.length_take,List.length_map]; omega) (by first | exact ao (by omega) | (rw[List.length_map]; exact ao (by omega)) | (rw[List.length_map,List.length_map]; exact ao (by omega))) (sm5 _ _ hl) ⟨(sm.trans sm5).upd hC4 _,ai,?_⟩
   rw[List.take_add_one,List.getElem?_map,List.getElem?_eq_getElem hi,List.map_append]; rfl
  rintro ys H4 ⟨sm4,hl4,rfl⟩
  rw[List.take_of_length_le (by simp)]at hl4
  have sm24:=sm23.trans sm4
  walk_at "rd1"
  refine⟨_,SqL.of hl4,?_⟩
  have hli:(Ps.map fun s=>1+((aI (kindOf s)).length:Int)).sum=ip Ps:=rfl
  rw[hli]
  unfold j5 at q
  walk_at "nx"
  have hl4':=sm4 _ _ hl3'
  refine aB (fun c1=>?_) (fun c1=>?_)
  ·rw[decide_eq_true c1,Bool.true_and]at q
   refine⟨⟨_,SqL.of hl4'⟩,Ps.map kindOf,SqL.of hl4',?_⟩
   refine aB (fun c2=>?_) (fun c2=>?_)
   ·have c2':(Ps.map kindOf).countP (· == ("lend" : Str))≤3:=by omega
    rw[decide_eq_true c2',Bool.true_and]at q
    refine⟨sp,out,Ps,g,rfl,sm4 _ _ (sm3 _ _ e2),Paired.imp' (fun a s z=>headAt.mono z sm24) hp1,hok,hfm,fun r H5 sm5 hr5 hl5=>?_⟩
    walk_at "rd1"
    refine⟨_,.inl (SqL.of hl5),?_⟩
    rw[List.length_map]
    walk_at "rd1"
    have e:decide (((fH (Ps.flatMap b0)).length:Int)≤4)=decide ((fH (Ps.flatMap b0)).length≤4):=by
     by_cases h:(fH (Ps.flatMap b0)).length≤4
     ·rw[decide_eq_true h,decide_eq_true (by omega)]
     ·rw[decide_eq_false h,decide_eq_false (by omega)]
    rw[e]
    exact q H5 (sm24.trans sm5)
   ·have c2':¬ (Ps.map kindOf).countP (· == ("lend" : Str))≤3:=by omega
    rw[decide_eq_false c2',Bool.false_and]at q
    exact q H4 sm24
  ·rw[decide_eq_false c1,Bool.false_and,Bool.false_and]at q
   exact q H4 sm24
def cX:ak→Bool
 | .plain ws=>(ws.drop 1).all bw
 | .lend x y _=>bw x&&bw y
 | .ite n _ _=>b5 (.int n)
 | .whl n _=>b5 (.int n)
def mx(f:List ak→Prop):ak→Prop
 | .plain ws=>dB ws∧∀ x∈ws,x.length≤20
 | .lend x y b=>x.length≤20∧y.length≤20∧f b
 | .ite _ b c=>f b∧f c
 | .whl _ b=>f b
def jE:Nat→List ak→Prop
 | 0,_=>False
 | d+1,T=>T.length≤1000∧∀ s∈T,mx (jE d) s
theorem uj{g:List ak→Prop}:∀ {s:ak},mx g s→eL g s
 | .plain _,h=>h.1
 | .lend _ _ _,h=>h.2.2
 | .ite _ _ _,h=>h
 | .whl _ _,h=>h
theorem q_:d6 "open" = some [("name" : Str)]:=by decide
theorem vJ:d6 "do" = some [("word" : Str),("name" : Str)]:=by decide
theorem qK:d6 "copy" = some [("name" : Str),("name" : Str)]:=by decide
theorem qV:d6 "drop" = some [("name" : Str)]:=by decide
theorem sG:d6 "tie" = some [("name" : Str),("name" : Str)]:=by decide
theorem rA:d6 "lend" = some [("name" : Str),("name" : Str),("steps" : Str)]:=by decide
theorem vq:d6 "if" = some [("bound" : Str),("steps" : Str),("steps" : Str)]:=by decide
theorem pd:d6 "while" = some [("bound" : Str),("steps" : Str)]:=by decide
theorem dF(H:Hp)(x:V):cP H x "name" = cJ x:=by
 unfold cP; rw[if_neg (by decide),if_neg (by decide)]
theorem jK(H:Hp)(x:V):cP H x "word" = cJ x:=by
 unfold cP; rw[if_neg (by decide),if_neg (by decide)]
theorem iB(H:Hp)(x:V):cP H x "bound" = b5 x:=by
 unfold cP; rw[if_neg (by decide),if_pos rfl]
theorem eY(H:Hp)(x:V):cP H x "steps" = nA H x:=by
 unfold cP; rw[if_pos rfl]
theorem Ab{PA:Addr→List ak→Prop}{H:Hp}{a:Addr}{g:List ak→Prop}(hl:∀ q b,PA q b→∃ xs,H q=some (.lst xs)):∀ {s:ak},stpAt PA H a s→mx g s→b9 H (.ref a)=cX s
 | .plain ws,h,ok=>by
  have h':H a=some (.tup (ws.map V.str)):=h
  cases ok.1 <;> simp[b9,h',d_,q_,vJ,qK,qV,sG,eF,dF,jK,cX,cJ]
 | .lend x y b,⟨q,h,z⟩,ok=>by
  obtain⟨xs,e⟩:=hl q b z
  simp[b9,h,d_,rA,eF,dF,eY,cX,cJ,nA,az,e]
 | .ite n b c,⟨q,r,h,z,y⟩,ok=>by
  obtain⟨xs,e⟩:=hl q b z
  obtain⟨ys,e'⟩:=hl r c y
  simp[b9,h,d_,vq,eF,iB,eY,cX,nA,az,e,e']
 | .whl n b,⟨q,h,z⟩,ok=>by
  obtain⟨xs,e⟩:=hl q b z
  simp[b9,h,d_,pd,eF,iB,eY,cX,nA,az,e]
theorem fR(H:Hp){x:Str}(h:x.length≤20):Thing H (.str x):=⟨⟨"str", rfl⟩,fun y e=>by cases e; exact Nat.le_trans h (by decide)⟩
theorem pz(H:Hp)(n:Int):Thing H (.int n):=⟨⟨"int", rfl⟩,fun y e=>by cases e⟩
theorem ic{H:Hp}{q:Addr}{xs:List V}(h:H q=some (.lst xs)):Thing H (.ref q):=⟨⟨"list", by simp[az,h]⟩,fun y e=>by cases e⟩
theorem wU{PA:Addr→List ak→Prop}{H:Hp}{a:Addr}{g:List ak→Prop}(hl:∀ q b,PA q b→∃ xs,H q=some (.lst xs)):∀ {s:ak},stpAt PA H a s→mx g s→fg H (.ref a):=by
 have key:∀ xs:List V,H a=some (.tup xs)→(∀ y∈xs,Thing H y)→xs.length≤20→fg H (.ref a):=fun xs h hy hn=>
  ⟨⟨⟨"tuple", by simp[az,h]⟩,fun y e=>by cases e⟩,fun b ys e hb=>by cases e; rw[h]at hb; cases hb; exact⟨hy,by omega⟩⟩
 intro s h ok
 cases s with
 | plain ws=>
  refine key _ h (fun y hy=>?_) (by obtain⟨o,_⟩:=ok; cases o <;> simp)
  obtain⟨x,hx,rfl⟩:=List.mem_map.mp hy
  exact fR H (ok.2 x hx)
 | lend x y b=>
  obtain⟨q,h,z⟩:=h
  obtain⟨xs,e⟩:=hl q b z
  refine key _ h (fun v hv=>?_) (by simp)
  simp only[List.mem_cons,List.mem_nil_iff,or_false]at hv
  rcases hv with rfl | rfl | rfl | rfl
  ·exact fR H (by decide)
  ·exact fR H ok.1
  ·exact fR H ok.2.1
  ·exact ic e
 | ite n b c=>
  obtain⟨q,r,h,z,y⟩:=h
  obtain⟨xs,e⟩:=hl q b z
  obtain⟨ys,e'⟩:=hl r c y
  refine key _ h (fun v hv=>?_) (by simp)
  simp only[List.mem_cons,List.mem_nil_iff,or_false]at hv
  rcases hv with rfl | rfl | rfl | rfl
  ·exact fR H (by decide)
  ·exact pz H _
  ·exact ic e
  ·exact ic e'
 | whl n b=>
  obtain⟨q,h,z⟩:=h
  obtain⟨xs,e⟩:=hl q b z
  refine key _ h (fun v hv=>?_) (by simp)
  simp only[List.mem_cons,List.mem_nil_iff,or_false]at hv
  rcases hv with rfl | rfl | rfl
  ·exact fR H (by decide)
  ·exact pz H _
  ·exact ic e
def gB(G:Nat→List ak→List ak × Bool):List (List ak)→Nat→List ak × Bool
 | [],_=>([],true)
 | b::bs,n=>if (G n b).2=true then ((G n b).1++(gB G bs (n+(G n b).1.length)).1,(gB G bs (n+(G n b).1.length)).2) else ((G n b).1,false)
def gL(G:Nat→List ak→List ak × Bool)(ar:Nat):List ak→Nat→List ak × Bool
 | [],_=>([],true)
 | s::T,n=>if ar>8∨n=60∨cX s=false then ([],false) else
  if (gB G (a_ s) (n+1)).2=true then (s::((gB G (a_ s) (n+1)).1++(gL G ar T (n+1+(gB G (a_ s) (n+1)).1.length)).1),(gL G ar T (n+1+(gB G (a_ s) (n+1)).1.length)).2) else (s::(gB G (a_ s) (n+1)).1,false)
def gT:Nat→Nat→Nat→List ak→List ak × Bool
 | 0,_,_,_=>([],false)
 | e+1,ar,n,T=>gL (gT e (ar+1)) ar T n
def GotAt(H:Hp)(out:List Addr)(Ps:List ak):Prop:=Paired (headAt H) out Ps∧∀ s∈Ps,eL (fun _=>True) s
theorem GotAt.app{H:Hp}{o1 o2:List Addr}{p1 p2:List ak}(h1:GotAt H o1 p1)(h2:GotAt H o2 p2):GotAt H (o1++o2) (p1++p2):=⟨nq h1.1 h2.1,fun s hs=>(List.mem_append.mp hs).elim (h1.2 s) (h2.2 s)⟩
theorem zf{G:Nat→Addr→List Addr→Bool→Prop}{G':Nat→List ak→List ak × Bool}{H:Hp}{PA:Addr→List ak→Prop}{g:List ak→Prop}
  (h:∀ n q b,PA q b→g b→∃ out,G n q out (G' n b).2∧GotAt H out (G' n b).1) :
  ∀ {bs:List Addr} {Bs:List (List ak)},Paired PA bs Bs→(∀ b∈Bs,g b)→∀ n,∃ out,GB G bs n out (gB G' Bs n).2∧GotAt H out (gB G' Bs n).1
 | _,_,.nil,_,n=>⟨[],⟨rfl,rfl⟩,.nil,fun s hs=>by cases hs⟩
 | _,_,.cons (a:=q) (b:=b) (l₁:=qs) (l₂:=Bs) z t,hg,n=>by
  obtain⟨o1,z1,y1⟩:=h n q b z (hg _ List.mem_cons_self)
  unfold gB
  by_cases hb:(G' n b).2=true
  ·rw[if_pos hb]
   obtain⟨o2,z2,y2⟩:=zf h t (fun b hb=>hg b (List.mem_cons_of_mem _ hb)) (n+(G' n b).1.length)
   exact⟨o1++o2,⟨o1,_,z1,by rw[if_pos hb]; exact⟨o2,by rw[bY y1.1]; exact z2,rfl⟩⟩,y1.app y2⟩
  ·rw[if_neg hb]
   exact⟨o1,⟨o1,_,z1,by rw[if_neg hb]; exact⟨rfl,rfl⟩⟩,y1⟩
theorem nZ{g:List ak→Prop}{s:ak}(h:mx g s):∀ b∈a_ s,g b:=by
 cases s with
 | plain ws=>intro b hb; cases hb
 | lend x y b=>intro c hc; simp only[a_,List.mem_cons,List.mem_nil_iff,or_false]at hc; subst hc; exact h.2.2
 | ite n b c=>intro e he; simp only[a_,List.mem_cons,List.mem_nil_iff,or_false]at he; rcases he with rfl | rfl; (· exact h.1); (· exact h.2)
 | whl n b=>intro c hc; simp only[a_,List.mem_cons,List.mem_nil_iff,or_false]at hc; subst hc; exact h
theorem v0{g:List ak→Prop}{s:ak}(h:eL g s):eL (fun _=>True) s:=by
 cases s with
 | plain ws=>exact h
 | lend x y b=>trivial
 | ite n b c=>exact⟨trivial,trivial⟩
 | whl n b=>trivial
theorem yZ{G:Nat→Addr→List Addr→Bool→Prop}{G':Nat→List ak→List ak × Bool}{H:Hp}{ar:Nat}{PA:Addr→List ak→Prop}{g:List ak→Prop}(hl:∀ q b,PA q b→∃ xs,H q=some (.lst xs))
  (h:ar≤8→∀ n q b,PA q b→g b→∃ out,G n q out (G' n b).2∧GotAt H out (G' n b).1) :
  ∀ {as:List Addr} {T:List ak},Paired (stpAt PA H) as T→(∀ s∈T,mx g s)→∀ n,∃ out,GL G H ar (as.map V.ref) n out (gL G' ar T n).2∧GotAt H out (gL G' ar T n).1
 | _,_,.nil,_,n=>⟨[],⟨rfl,rfl⟩,.nil,fun s hs=>by cases hs⟩
 | _,_,.cons (a:=a) (b:=s) (l₁:=as) (l₂:=T) z t,hg,n=>by
  have hsz:=hg s List.mem_cons_self
  have hlk:=Ab hl z hsz
  rw[List.map_cons]
  unfold gL GL
  rw[hlk]
  by_cases hc:ar>8∨n=60∨cX s=false
  ·rw[if_pos hc]
   exact⟨[],by rw[if_pos hc]; exact⟨rfl,rfl⟩,.nil,fun s hs=>by cases hs⟩
  ·rw[if_neg hc]
   obtain⟨k,hs,bs,e1,e2,e3,e4⟩:=t9 z (uj hsz)
   obtain⟨o1,z1,y1⟩:=zf (h (by omega)) e3 (nZ hsz) (n+1)
   have hone:GotAt H [a] [s]:=⟨.cons (stpAt.imp (fun _ _ e=>e) (fun _ _ _=>trivial) z) .nil,fun s' hs'=>by rw[List.mem_singleton.mp hs']; exact v0 (uj hsz)⟩
   by_cases hb:(gB G' (a_ s) (n+1)).2=true
   ·rw[if_pos hb]
    obtain⟨o2,z2,y2⟩:=yZ hl h t (fun s hs=>hg s (List.mem_cons_of_mem _ hs)) (n+1+(gB G' (a_ s) (n+1)).1.length)
    refine⟨a::(o1++o2),?_,hone.app (y1.app y2)⟩
    rw[if_neg hc]
    exact⟨a,k,hs,bs,⟨rfl,e1,e2⟩,o1,_,z1,by rw[if_pos hb]; exact⟨o2,by rw[bY y1.1]; exact z2,rfl⟩⟩
   ·rw[if_neg hb]
    refine⟨a::o1,?_,hone.app y1⟩
    rw[if_neg hc]
    exact⟨a,k,hs,bs,⟨rfl,e1,e2⟩,o1,_,z1,by rw[if_neg hb]; exact⟨rfl,rfl⟩⟩
theorem rh{S:Addr→Prop}{D:Nat}{H:Hp}{q:Addr}{b:List ak}(h:ProgAt S D H q b):∃ xs,H q=some (.lst xs):=by
 cases D with
 | zero=>exact h.elim
 | succ D=>obtain⟨_,as,e,_⟩:=h; exact⟨_,e⟩
theorem wL{S:Addr→Prop}{H:Hp}:∀ (e D ar:Nat) {n:Nat} {p:Addr} {T:List ak},e+ar=9→ProgAt S D H p T→jE D T→∃ out,Gth S (e+1) H ar n p out (gT (e+1) ar n T).2∧GotAt H out (gT (e+1) ar n T).1
 | e,0,ar,n,p,T,_,h,_=>h.elim
 | e,D+1,ar,n,p,T,he,⟨hS,as,h1,h2⟩,hz=>by
  have hth:∀ x∈as.map V.ref,fg H x:=fun x hx=>by
   obtain⟨a,ha,rfl⟩:=List.mem_map.mp hx
   obtain⟨i,hi⟩:=List.getElem?_of_mem ha
   obtain⟨s,hs,z⟩:=eN h2 hi
   exact wU (fun q b z=>rh z) z (hz.2 s (List.mem_of_getElem? hs))
  obtain⟨out,z,y⟩:=yZ (G:=Gth S e H (ar+1)) (G':=gT e (ar+1)) (ar:=ar) (fun q b z=>rh z) (fun har n q b z y=>by
   cases e with
   | zero=>omega
   | succ e=>exact wL e D (ar+1) (by omega) z y) h2 hz.2 n
  exact⟨out,⟨hS,_,h1,hth,by rw[List.length_map,bY h2]; exact hz.1,z⟩,y⟩
def lm:Nat→Nat→List ak→Bool
 | 0,_,_=>true
 | D+1,ar,T=>T.all fun s=>decide (ar≤8)&&cX s&&(a_ s).all (lm D (ar+1))
structure mv (G:Nat→List ak→List ak × Bool) (f:List ak→List ak) (ok:List ak→Bool) (b:List ak):Prop where
 a:∀ n,n≤60→(G n b).2=true→ok b=true∧n+(f b).length≤60∧(G n b).1=f b
 b:∀ n,n≤60→ok b=true→n+(f b).length≤60→G n b=(f b,true)
theorem BB{G:Nat→List ak→List ak × Bool}{f:List ak→List ak}{ok:List ak→Bool}:∀ {Bs:List (List ak)},(∀ b∈Bs,mv G f ok b)→∀ n,n≤60→(gB G Bs n).2=true→Bs.all ok=true∧n+(Bs.flatMap f).length≤60∧(gB G Bs n).1=Bs.flatMap f
 | [],_,n,hn,_=>⟨rfl,hn,rfl⟩
 | b::Bs,h,n,hn,hb=>by
  unfold gB at hb ⊢
  by_cases c:(G n b).2=true
  ·rw[if_pos c]at hb ⊢
   obtain⟨h1,h2,h3⟩:=(h b List.mem_cons_self).a n hn c
   rw[h3]at hb ⊢
   obtain⟨k1,k2,k3⟩:=BB (fun b hb=>h b (List.mem_cons_of_mem _ hb)) (n+(f b).length) h2 hb
   refine⟨by rw[List.all_cons,h1,k1]; rfl,by rw[List.flatMap_cons,List.length_append]; omega,?_⟩
   show f b++_=_
   rw[k3,List.flatMap_cons]
  ·rw[if_neg c]at hb; cases hb
theorem BR{G:Nat→List ak→List ak × Bool}{f:List ak→List ak}{ok:List ak→Bool}:∀ {Bs:List (List ak)},(∀ b∈Bs,mv G f ok b)→∀ n,n≤60→Bs.all ok=true→n+(Bs.flatMap f).length≤60→gB G Bs n=(Bs.flatMap f,true)
 | [],_,n,hn,_,_=>rfl
 | b::Bs,h,n,hn,ho,hl=>by
  rw[List.all_cons,Bool.and_eq_true]at ho
  rw[List.flatMap_cons,List.length_append]at hl
  have e:=(h b List.mem_cons_self).b n hn ho.1 (by omega)
  unfold gB
  rw[e]
  dsimp only
  rw[if_pos rfl,BR (fun b hb=>h b (List.mem_cons_of_mem _ hb)) (n+(f b).length) (by omega) ho.2 (by omega),List.flatMap_cons]
theorem CY{G:Nat→List ak→List ak × Bool}{f:List ak→List ak}{ok:List ak→Bool}{ar:Nat}:∀ {T:List ak},(ar≤8→∀ s∈T,∀ b∈a_ s,mv G f ok b)→∀ n,n≤60→(gL G ar T n).2=true→(T.all fun s=>decide (ar≤8)&&cX s&&(a_ s).all ok)=true∧n+(T.flatMap (jj f)).length≤60∧(gL G ar T n).1=T.flatMap (jj f)
 | [],_,n,hn,_=>⟨rfl,hn,rfl⟩
 | s::T,h,n,hn,hb=>by
  unfold gL at hb ⊢
  by_cases hc:ar>8∨n=60∨cX s=false
  ·rw[if_pos hc]at hb; cases hb
  ·rw[if_neg hc]at hb ⊢
   by_cases c:(gB G (a_ s) (n+1)).2=true
   ·rw[if_pos c]at hb ⊢
    have har:ar≤8:=by omega
    have hlk:cX s=true:=by cases e:cX s with | true=>rfl | false=>exact absurd (.inr (.inr e)) hc
    obtain⟨h1,h2,h3⟩:=BB (h har s List.mem_cons_self) (n+1) (by omega) c
    rw[h3]at hb ⊢
    obtain⟨k1,k2,k3⟩:=CY (fun har s hs=>h har s (List.mem_cons_of_mem _ hs)) (n+1+((a_ s).flatMap f).length) h2 hb
    refine⟨by rw[List.all_cons,k1,h1,hlk,decide_eq_true har]; rfl,by have hps:(jj f s).length=((a_ s).flatMap f).length+1:=List.length_cons; rw[List.flatMap_cons,List.length_append,hps]; omega,?_⟩
    show s::(_++_)=_
    rw[k3,List.flatMap_cons]; rfl
   ·rw[if_neg c]at hb; cases hb
theorem BV{G:Nat→List ak→List ak × Bool}{f:List ak→List ak}{ok:List ak→Bool}{ar:Nat}:∀ {T:List ak},(ar≤8→∀ s∈T,∀ b∈a_ s,mv G f ok b)→∀ n,n≤60→(T.all fun s=>decide (ar≤8)&&cX s&&(a_ s).all ok)=true→n+(T.flatMap (jj f)).length≤60→gL G ar T n=(T.flatMap (jj f),true)
 | [],_,n,hn,_,_=>rfl
 | s::T,h,n,hn,ho,hl=>by
  rw[List.all_cons,Bool.and_eq_true,Bool.and_eq_true,Bool.and_eq_true]at ho
  obtain⟨⟨⟨o1,o2⟩,o3⟩,o4⟩:=ho
  have har:ar≤8:=of_decide_eq_true o1
  rw[List.flatMap_cons,List.length_append]at hl
  have hps:(jj f s).length=((a_ s).flatMap f).length+1:=List.length_cons
  rw[hps]at hl
  have e:=BR (h har s List.mem_cons_self) (n+1) (by omega) o3 (by omega)
  have hcond:¬ (ar>8∨n=60∨cX s=false):=fun z=>z.elim (fun z=>by omega) fun z=>z.elim (fun z=>by omega) fun z=>by rw[o2]at z; cases z
  unfold gL
  rw[if_neg hcond,e]
  dsimp only
  rw[if_pos rfl,BV (fun har s hs=>h har s (List.mem_cons_of_mem _ hs)) (n+1+((a_ s).flatMap f).length) (by omega) o4 (by omega),List.flatMap_cons]; rfl
theorem sT:∀ (e D ar:Nat) {T:List ak},e+ar=9→jE D T→mv (gT (e+1) ar) (di D) (lm D ar) T
 | e,0,ar,T,_,hz=>hz.elim
 | e,D+1,ar,T,he,hz=>by
  have h:ar≤8→∀ s∈T,∀ b∈a_ s,mv (gT e (ar+1)) (di D) (lm D (ar+1)) b:=fun har s hs b hb=>by
   cases e with
   | zero=>omega
   | succ e=>exact sT e D (ar+1) (by omega) (nZ (hz.2 s hs) b hb)
  exact⟨fun n hn hb=>CY h n hn hb,fun n hn ho hl=>BV h n hn ho hl⟩
def iA(D:Nat)(T:List ak):Bool:=lm D 0 T&&j5 (di D T)
theorem rD:∀ Ps:List ak,(Ps.length:Int)≤ip Ps
 | []=>by simp[ip]
 | s::Ps=>by
  have:=rD Ps
  unfold ip at this ⊢
  rw[List.map_cons,List.sum_cons,List.length_cons]
  omega
theorem xb{D:Nat}{T:List ak}(hz:jE D T):((gT 10 0 0 T).2&&j5 (gT 10 0 0 T).1)=iA D T:=by
 have g:=sT 9 D 0 rfl hz
 cases hb:(gT 10 0 0 T).2 with
 | true=>
  obtain⟨h1,h2,h3⟩:=g.a 0 (by decide) hb
  unfold iA
  have h3':(gT 10 0 0 T).1=di D T:=h3
  rw[h1,h3']
 | false=>
  rw[Bool.false_and]
  unfold iA
  cases ho:lm D 0 T with
  | false=>rfl
  | true=>
   by_cases hl:(di D T).length≤60
   ·have e:=g.b 0 (by decide) ho (by omega)
    have e':gT 10 0 0 T=(di D T,true):=e
    rw[e']at hb; cases hb
   ·have:=rD (di D T)
    unfold j5
    rw[decide_eq_false (by omega:¬ ip (di D T)≤60)]; rfl
theorem B0{g:List ak→Prop}:∀ {s:ak},eL g s→(b0 s).length≤2
 | .plain ws,ok=>by cases ok <;> (simp only[b0]; split <;> simp)
 | .lend _ _ _,_=>Nat.le_refl 2
 | .ite _ _ _,_=>Nat.zero_le 2
 | .whl _ _,_=>Nat.zero_le 2
theorem sO{g:List ak→Prop}:∀ {Ps:List ak},(∀ s∈Ps,eL g s)→(Ps.flatMap b0).length≤2 * Ps.length
 | [],_=>by simp
 | s::Ps,h=>by
  have h1:=B0 (h s List.mem_cons_self)
  have h2:=sO fun s hs=>h s (List.mem_cons_of_mem _ hs)
  rw[List.flatMap_cons,List.length_append,List.length_cons]; omega
theorem pq{S:Addr→Prop}{D:Nat}{H:Hp}{p:Addr}{T:List ak}(hP:ProgAt S D H p T)(hz:jE D T)(hS:∀ x,S x→∃ o,H x=some o){Q:V→Hp→Prop}{E:XK}(q:∀ H',Same H H'→Q (.bl (iA D T)) H'):qr [.ref p] H Q E:=by
 obtain⟨out,h1,h2⟩:=wL 9 D 0 (n:=0) rfl hP hz
 refine⟨p,S,out,(gT 10 0 0 T).2,(gT 10 0 0 T).1,fun _=>True,rfl,h1,hS,fun _=>⟨h2.1,h2.2,?_⟩,fun H' sm=>?_⟩
 ·have:=Gth.le 10 (by decide) h1
  have e1:=sO h2.2
  have e2:=bY h2.1
  have e3:((gT 10 0 0 T).1.flatMap b0).length≤2 * (gT (9+1) 0 0 T).1.length:=e1
  omega
 ·rw[xb hz]; exact q H' sm
def dR:ak→Nat
 | .plain _=>1
 | .lend _ _ _=>2
 | .ite _ _ _=>3
 | .whl _ _=>2
def je:ak→Nat
 | .lend _ _ _=>1
 | _=>0
theorem vP{g:List ak→Prop}:∀ {s:ak},eL g s→(aI (kindOf s)).length+1=dR s∧(kindOf s == ("lend" : Str))=(je s == 1)
 | .plain ws,ok=>by cases ok <;> exact⟨by simp only[kindOf,dR,List.headD_cons]; decide,by simp only[kindOf,je,List.headD_cons]; decide⟩
 | .lend _ _ _,_=>⟨by simp only[kindOf,dR]; decide,by simp only[kindOf,je]; decide⟩
 | .ite _ _ _,_=>⟨by simp only[kindOf,dR]; decide,by simp only[kindOf,je]; decide⟩
 | .whl _ _,_=>⟨by simp only[kindOf,dR]; decide,by simp only[kindOf,je]; decide⟩
theorem CQ(s:ak):je s≤1:=by cases s <;> simp[je]
theorem pI{g:List ak→Prop}:∀ {Ps:List ak},(∀ s∈Ps,eL g s)→ip Ps=(((Ps.map dR).sum:Nat):Int)∧(Ps.map kindOf).countP (· == ("lend" : Str))=(Ps.map je).sum
 | [],_=>⟨rfl,rfl⟩
 | s::Ps,h=>by
  obtain⟨h1,h2⟩:=pI fun s hs=>h s (List.mem_cons_of_mem _ hs)
  obtain⟨k1,k2⟩:=vP (h s List.mem_cons_self)
  have k3:=CQ s
  constructor
  ·unfold ip at h1 ⊢
   rw[List.map_cons,List.sum_cons,h1,List.map_cons,List.sum_cons]; omega
  ·rw[List.map_cons,List.countP_cons,h2,List.map_cons,List.sum_cons]
   rw[show ((kindOf s == ("lend" : Str)))=(je s == 1) from k2]
   by_cases e:je s=1
   ·rw[e,if_pos (by decide)]; omega
   ·rw[if_neg (by simpa using e)]; omega
theorem wX:∀ (D:Nat) {T:List ak},jE D T→∀ s∈di D T,eL (fun _=>True) s
 | 0,_,h=>h.elim
 | D+1,T,h=>fun s hs=>by
  obtain⟨t,ht,hs⟩:=List.mem_flatMap.mp hs
  rcases List.mem_cons.mp hs with rfl | hs
  ·exact v0 (uj (h.2 _ ht))
  ·obtain⟨b,hb,hs⟩:=List.mem_flatMap.mp hs
   exact wX D (nZ (h.2 t ht) b hb) s hs
def eB(D:Nat)(T:List ak):Nat:=((di D T).map dR).sum
def mz(D:Nat)(T:List ak):Nat:=((di D T).map je).sum
def jw(D:Nat)(T:List ak):List Str:=(di D T).flatMap b0
theorem mH{D:Nat}{T:List ak}(hz:jE D T):iA D T=(lm D 0 T&&(decide (eB D T≤60)&&decide (mz D T≤3)&&decide ((fH (jw D T)).length≤4))):=by
 obtain⟨h1,h2⟩:=pI (wX D hz)
 unfold iA j5
 rw[h1,h2]
 have e:decide ((((((di D T).map dR).sum:Nat):Int))≤60)=decide (eB D T≤60):=by
  by_cases h:eB D T≤60
  ·have h':((di D T).map dR).sum≤60:=h
   rw[decide_eq_true h,decide_eq_true (by omega)]
  ·have h':¬ ((di D T).map dR).sum≤60:=h
   rw[decide_eq_false h,decide_eq_false (by omega)]
 rw[e]; rfl
theorem bU{x:Str}(h:bw x=true):x.length≤8:=by
 unfold bw at h
 rw[Bool.and_eq_true]at h
 exact(of_decide_eq_true h.1).2
theorem lC:∀ {l m:List Str},l.Nodup→(∀ x∈l,x∈m)→l.length≤m.length
 | [],_,_,_=>Nat.zero_le _
 | x::l,m,hn,hs=>by
  have hx:=hs x List.mem_cons_self
  obtain⟨h1,h2⟩:=List.nodup_cons.mp hn
  have h3:=lC (m:=m.erase x) h2 (fun y hy=>(List.mem_erase_of_ne (by rintro rfl; exact h1 hy)).mpr (hs y (List.mem_cons_of_mem _ hy)))
  rw[List.length_erase_of_mem hx]at h3
  have:=List.length_pos_of_mem hx
  rw[List.length_cons]; omega
theorem xZ{acc:List Str}{x y:Str}:y∈fB acc x ↔ y∈acc∨y=x:=by
 unfold fB
 split
 ·rename_i h
  exact⟨.inl,fun z=>z.elim id fun e=>e ▸ h⟩
 ·simp
theorem uW{acc:List Str}{x:Str}(h:acc.Nodup):(fB acc x).Nodup:=by
 unfold fB
 split
 ·exact h
 ·rename_i hx
  rw[List.nodup_append]
  refine⟨h,by simp,fun a ha b hb=>?_⟩
  rw[List.mem_singleton.mp hb]
  exact fun e=>hx (e ▸ ha)
theorem kM:∀ (l acc:List Str) {y:Str},y∈l.foldl fB acc ↔ y∈acc∨y∈l
 | [],acc,y=>by simp
 | x::l,acc,y=>by rw[List.foldl_cons,kM l,xZ,List.mem_cons]; exact or_assoc
theorem nk:∀ (l:List Str) {acc:List Str},acc.Nodup→(l.foldl fB acc).Nodup
 | [],_,h=>h
 | x::l,_,h=>by rw[List.foldl_cons]; exact nk l (uW h)
theorem qY{l m:List Str}(h:∀ x∈l,x∈m):(fH l).length≤m.length:=lC (nk l List.nodup_nil) fun x hx=>h x (((kM l []).mp hx).elim (fun z=>by cases z) id)
theorem BO{l m:List Str}(hm:m.Nodup)(h:∀ x∈m,x∈l):m.length≤(fH l).length:=lC hm fun x hx=>(kM l []).mpr (.inr (h x hx))
theorem yy{K:PySem.W.Frag}{a0 a1 a2 a3 a4 a5 a6 a7:Addr}(q0:∀ H:Hp,SqT K H a0 [.str "name"]) (q1:∀ H:Hp,SqT K H a1 [.str "word", .str "name"]) (q2:∀ H:Hp,SqT K H a2 [.str "name", .str "name"]) (q3:∀ H:Hp,SqT K H a3 [.str "name"]) (q4:∀ H:Hp,SqT K H a4 [.str "name", .str "name"]) (q5:∀ H:Hp,SqT K H a5 [.str "name", .str "name", .str "steps"]) (q6:∀ H:Hp,SqT K H a6 [.str "bound", .str "steps", .str "steps"]) (q7:∀ H:Hp,SqT K H a7 [.str "bound", .str "steps"]) :
  ∀ kind ks,(kind,ks)∈dN→∃ a,dv [(("open" : Str),V.ref a0),(("do" : Str),V.ref a1),(("copy" : Str),V.ref a2),(("drop" : Str),V.ref a3),(("tie" : Str),V.ref a4),(("lend" : Str),V.ref a5),(("if" : Str),V.ref a6),(("while" : Str),V.ref a7)] kind=some (.ref a)∧∀ H:Hp,SqT K H a (ks.map V.str):=by
 intro kind ks h
 simp only[dN,List.mem_cons,Prod.mk.injEq,List.mem_nil_iff,or_false]at h
 rcases h with ⟨rfl,rfl⟩ | ⟨rfl,rfl⟩ | ⟨rfl,rfl⟩ | ⟨rfl,rfl⟩ | ⟨rfl,rfl⟩ | ⟨rfl,rfl⟩ | ⟨rfl,rfl⟩ | ⟨rfl,rfl⟩
 ·exact⟨a0,rfl,q0⟩
 ·exact⟨a1,rfl,q1⟩
 ·exact⟨a2,rfl,q2⟩
 ·exact⟨a3,rfl,q3⟩
 ·exact⟨a4,rfl,q4⟩
 ·exact⟨a5,rfl,q5⟩
 ·exact⟨a6,rfl,q6⟩
 ·exact⟨a7,rfl,q7⟩
theorem xk{K:PySem.W.Frag}{a0 a1 a2 a3 a4 a5 a6 a7:Addr}(q0:∀ H:Hp,SqT K H a0 [.str "name"]) (q1:∀ H:Hp,SqT K H a1 [.str "word", .str "name"]) (q2:∀ H:Hp,SqT K H a2 [.str "name", .str "name"]) (q3:∀ H:Hp,SqT K H a3 [.str "name"]) (q4:∀ H:Hp,SqT K H a4 [.str "name", .str "name"]) (q5:∀ H:Hp,SqT K H a5 [.str "name", .str "name", .str "steps"]) (q6:∀ H:Hp,SqT K H a6 [.str "bound", .str "steps", .str "steps"]) (q7:∀ H:Hp,SqT K H a7 [.str "bound", .str "steps"]) :
  ∀ kind,match d6 kind with | some ks=>∃ a,dv [(("open" : Str),V.ref a0),(("do" : Str),V.ref a1),(("copy" : Str),V.ref a2),(("drop" : Str),V.ref a3),(("tie" : Str),V.ref a4),(("lend" : Str),V.ref a5),(("if" : Str),V.ref a6),(("while" : Str),V.ref a7)] kind=some (.ref a)∧∀ H:Hp,SqT K H a (ks.map V.str) | none=>dv [(("open" : Str),V.ref a0),(("do" : Str),V.ref a1),(("copy" : Str),V.ref a2),(("drop" : Str),V.ref a3),(("tie" : Str),V.ref a4),(("lend" : Str),V.ref a5),(("if" : Str),V.ref a6),(("while" : Str),V.ref a7)] kind=none:=by
 intro kind
 by_cases h0:("open" : Str)=kind
 ·subst h0; rw[q_]; exact⟨a0,rfl,q0⟩
 by_cases h1:("do" : Str)=kind
 ·subst h1; rw[vJ]; exact⟨a1,rfl,q1⟩
 by_cases h2:("copy" : Str)=kind
 ·subst h2; rw[qK]; exact⟨a2,rfl,q2⟩
 by_cases h3:("drop" : Str)=kind
 ·subst h3; rw[qV]; exact⟨a3,rfl,q3⟩
 by_cases h4:("tie" : Str)=kind
 ·subst h4; rw[sG]; exact⟨a4,rfl,q4⟩
 by_cases h5:("lend" : Str)=kind
 ·subst h5; rw[rA]; exact⟨a5,rfl,q5⟩
 by_cases h6:("if" : Str)=kind
 ·subst h6; rw[vq]; exact⟨a6,rfl,q6⟩
 by_cases h7:("while" : Str)=kind
 ·subst h7; rw[pd]; exact⟨a7,rfl,q7⟩
 have e:d6 kind=none:=by
  unfold d6 kindsL
  simp[h0,h1,h2,h3,h4,h5,h6,h7]
 rw[e]
 simp[dv,h0,h1,h2,h3,h4,h5,h6,h7]
end
theorem av{H H':Hp}{p:Addr}{o:HO}(e:upd H p o=H')(h:H p=none):Same H H':=e ▸ au h o
theorem aJ{H H':Hp}{p:Addr}{o:HO}(e:upd H p o=H'):H' p=some o:=by rw[← e]; exact ai
theorem kC(x:Str):x.cps.toList.length=x.length:=by simp[Str.length]
theorem nY(sep:Str):∀ (ps:List Str),ps≠[]→(Str.join sep ps).length=(ps.map (·.length)).sum+(ps.length - 1) * sep.length
 | [],h=>absurd rfl h
 | [x],_=>by show x.length=_; simp
 | x::y::r,_=>by
  have ih:=nY sep (y::r) (by simp)
  show (x++sep++Str.join sep (y::r)).length=_
  rw[Str.length_append,Str.length_append,ih]
  simp only[List.map_cons,List.sum_cons,List.length_cons]
  rw[show r.length+1+1 - 1=(r.length+1 - 1)+1 by omega,Nat.succ_mul]
  omega
theorem mU(x y:Str):Txt.split x y≠[]:=by
 unfold Txt.split
 split
 ·simp
 ·split
  ·simp
  ·intro h
   have:=congrArg List.length h
   revert this
   cases Builtin.Str.occurrences x y 0 x.length (x.length+1) <;> simp[Builtin.Str.partsBetween]
theorem sV{p:Nat}:∀ {l:List Nat},p∈l→p≤l.sum
 | a::l,h=>by
  rcases List.mem_cons.mp h with rfl | h
  ·simp
  ·have:=sV h; simp; omega
theorem vK{x y:Str}(hy:1≤y.length):(Txt.split x y).length≤x.length+1∧∀ p∈Txt.split x y,p.length≤x.length:=by
 have hj:=PySem.StrLaws.join_split x y
 have hl:=nY y _ (mU x y)
 rw[hj]at hl
 have h1:(Txt.split x y).length - 1≤((Txt.split x y).length - 1) * y.length:=Nat.le_mul_of_pos_right _ hy
 refine⟨by omega,fun p hp=>?_⟩
 have:=sV (List.mem_map.mpr ⟨p,hp,rfl⟩ : p.length∈(Txt.split x y).map (·.length))
 omega
theorem tJ(x:Str)(i j:Nat):(Builtin.Str.strSub x i j).length≤x.length:=by
 have h:=congrArg List.length (PySem.StrLaws.strSub_toList x i j)
 rw[List.length_take,List.length_drop]at h
 have e1:(Builtin.Str.strSub x i j).cps.toList.length=(Builtin.Str.strSub x i j).length:=kC _
 have e2:x.cps.toList.length=x.length:=kC _
 omega
theorem xG(x y:Str):(Txt.partition x y).1.length≤x.length∧(Txt.partition x y).2.2.length≤x.length:=by
 unfold Txt.partition
 split
 ·exact⟨tJ _ _ _,tJ _ _ _⟩
 ·exact⟨Nat.le_refl _,Nat.zero_le _⟩
def ya(y:Str):Bool:=y.cps.toList.all fun c=>decide (c∈(Str.ofString "0123456789").cps.toList)
theorem xK{y:Str}(h:ya y=true)(h1:1≤y.length)(h2:y.length≤640):∃ n:Int,PySem.intText? y=some n:=by
 refine⟨_,PySem.intText_digits (fun c hc=>?_) (fun z=>?_) (by omega)⟩
 ·have h':c∈(Str.ofString "0123456789").cps.toList:=by simpa using List.all_eq_true.mp h c hc
  have e:(Str.ofString "0123456789").cps.toList=[48,49,50,51,52,53,54,55,56,57]:=by decide +kernel
  rw[e]at h'
  simp only[List.mem_cons,List.not_mem_nil,or_false]at h'
  omega
 ·have e2:=kC y
  rw[z]at e2; simp at e2; omega
def oP:Option Int→V
 | none=>.non
 | some i=>.int i
def wQ:Sp:=fun vs H Q _=>∃ (y:Str),vs=[.str y,.int 60]∧y.length≤100000∧∀ (o:Option Int) (H':Hp),Same H H'→Q (oP o) H'
section
variable{P:Program}{w:World}{K:PySem.W.Frag}{mg:Str→Option Value}{base:Heap}
theorem Au(D:DefAt K mg "number_in" ba) (z_len:mg "len" = none) (z_all:mg "all" = none) (z_int:mg "int" = none) (g_FIGURES:∃ t,mg "FIGURES" = some (.str "0123456789" t)):bf P w K mg base 1 "number_in" ["text", "most"] wQ:=by
 refine D.cal (k:=0) lP (fun _ _ _ _ _ _ us hl=>match us,hl with | [_,_],_=>rfl) (fun vs H Q E h=>by obtain⟨y,rfl,_⟩:=h; rfl) (fun f cdv A outer sh H vs Q E hr h=>?_)
 obtain⟨y,rfl,hy,q⟩:=h
 refine⟨_,(af (bq (PW.pt' (fk (kS d9 d9 aj (aL (aW K) z_len bM (aa (pv 0 (hv:=tR)) ac) (hg:=D2)) (pv 1 (hv:=DU))) (fS (cy (aL (jB K) z_all nI (aa (dS (CompSc.to (fsc:=(defScope ba)) (N:=["text", "most"]) (N0:=["text", "most"]) (T:=["sign"]) ⟨by decide +kernel,by decide +kernel,by decide +kernel,by decide +kernel,by decide +kernel,by decide +kernel,by decide +kernel⟩ rfl rfl) rfl (qt (pv 0 (hv:=tR))) (fun _ _ _ _=>(bX 2 (show (["text", "most", "sign"]:List Str).Nodup from by decide +kernel) (hx:=(hX (defScope ba) (by decide +kernel))) (hf:=jT (defScope ba) (by decide +kernel)))) (cN (show (["text", "most"]:List Str).length≤2 from by decide)) (fun _ _ _ _=>du) (fun _ _ _ _=>(cj (jW K) (pv 2 (hv:=(dL (defScope ba) (by decide +kernel)))) (oI g_FIGURES (hg:=(nw (defScope ba) (by decide +kernel)))) (by with_unfolding_all rfl)))) ac) (hg:=Dx)))))) (al (ax (dA oR z_int ji (aa (pv 0 (hv:=tR)) ac) (hg:=DW)))) aP)
   (al (ax ik))),?_⟩
 walk_at "rd1"
 refine⟨ao (by omega),aB (fun c1=>?_) (fun c=>?_)⟩
 ·refine aB (fun c2=>?_) (fun c=>?_)
  ·intro L hL
   refine lq (fun i ys H'=>Same H H'∧H' L=some (.lst ys)∧ys=((y.cps.toList.take i).map fun c=>decide (c∈(Str.ofString "0123456789").cps.toList)).map V.bl) ⟨au hL _,ai,rfl⟩ ?_ ?_
   ·rintro i ys H' c hc hi ⟨sm,hD,rfl⟩
    walk_at "rd1"
    have hc':y.cps.toList[i]? = some c:=by simpa using hc
    refine jI hi ?_ (ao (by omega)) hD ⟨sm.upd hL _,ai,?_⟩
    ·rw[List.length_map,List.length_map,List.length_take]
     have:=kC y
     omega
    ·rw[StrLaws.found_one,List.take_add_one,hc',List.map_append,List.map_append]; rfl
   ·rintro ys H' ⟨sm,hD,rfl⟩
    walk_at "rd1"
    refine⟨_,SqL.of hD,?_⟩
    have e:(((y.cps.toList.take y.length).map fun c=>decide (c∈(Str.ofString "0123456789").cps.toList)).all id)=ya y:=by
     rw[List.all_map,List.take_of_length_le (by simp[Str.length])]; rfl
    rw[e]
    cases hf:ya y with
    | true=>
     obtain⟨n,hn⟩:=xK hf (by omega) (by omega)
     refine aB (fun _=>⟨y,n,rfl,hn,by omega,q (some n) _ sm⟩) (fun c=>absurd rfl c)
    | false=>
     refine aB (fun c=>absurd c (by decide)) (fun _=>?_)
     walk_at "rd1"
     exact q none _ sm
  ·walk_at "rd1"
   exact q none _ (Same.refl _)
 ·walk_at "rd1"
  exact q none _ (Same.refl _)
def qT:Sp:=fun vs H Q _=>∃ (y:Str),vs=[.str y]∧y.length≤100000∧∀ (o:Option Int) (H':Hp),Same H H'→Q (oP o) H'
theorem vS(D:DefAt K mg "bound_in" cf) (g_MOST_FIGURES:∃ t,mg "MOST_FIGURES" = some (.int 60 t)) (c_number_in:bf P w K mg base 1 "number_in" ["text", "most"] wQ):bf P w K mg base 2 "bound_in" ["text"] qT:=by
 refine D.cal (k:=1) sc_bound_in (fun _ _ _ _ _ _ us hl=>match us,hl with | [_],_=>rfl) (fun vs H Q E h=>by obtain⟨y,rfl,_⟩:=h; rfl) (fun f cdv A outer sh H vs Q E hr h=>?_)
 obtain⟨y,rfl,hy,q⟩:=h
 refine⟨_,(af (bq (cC (cy (bL K PySem.F.plainAttrs_str PySem.F.slot_str_startswith PySem.F.type_str_startswith k_ (pv 0 (hv:=sD)) (aa ah ac)))) (al (ax (aE c_number_in hr (aa (pv 0 (hv:=sD)) (aa (cF g_MOST_FIGURES (hg:=um)) ac)) (hg:=u0)))) aP)
   (af (aw 1 sc_bound_in.nd (aE c_number_in hr (aa (b4 js (pv 0 (hv:=sD)) (b6 aj) ci) (aa (cF g_MOST_FIGURES (hg:=um)) ac)) (hg:=u0)) (hx:=Dq))
   (al (ax (mY (aH sU (pv 1 (hv:=zg)) ik (aG _)) ik (uX ra (pv 1 (hv:=zg)))))))),?_⟩
 walk_at "rd1"
 refine aB (fun c=>?_) (fun c=>?_)
 ·exact⟨y,rfl,hy,q⟩
 walk_at "nx"
 have hl:=Txt.slice_le y (some 1) none
 refine⟨ao (by omega),_,rfl,by omega,fun o H' s'=>?_⟩
 walk_at "nx"
 cases o with
 | none=>exact aB (fun _=>q none _ s') (fun c=>absurd rfl c)
 | some i=>
  refine aB (fun c=>absurd c (by simp[oP])) (fun _=>?_)
  show rU (fun i=>V.int (-i)) (V.int i) H' Q
  walk_at "rd1"
  exact q (some (-i)) _ s'
def Di(vs:List V):Prop:=∃ (k:Str) (r:List V),vs = .str k::r∧r.length≤900∧k.length≤900∧∀ v∈r,(∃ y:Str,v = .str y∧y.length≤100000)∨∃ o,v=oP o
def ol:Sp:=fun vs H Q _=>∃ (y:Str),vs=[.str y]∧y.length≤890∧∀ (hs:List V) (p:Addr) (H':Hp),Di hs→Same H H'→H p=none→H' p=some (.tup hs)→Q (.ref p) H'
theorem xI(D:DefAt K mg "head_in" cz) (z_tuple:mg "tuple" = none) (c_bound_in:bf P w K mg base 2 "bound_in" ["text"] qT):bf P w K mg base 3 "head_in" ["line"] ol:=by
 refine D.cal (k:=2) sc_head_in (fun _ _ _ _ _ _ us hl=>match us,hl with | [_],_=>rfl) (fun vs H Q E h=>by obtain⟨y,rfl,_⟩:=h; rfl) (fun f cdv A outer sh H vs Q E hr h=>?_)
 obtain⟨y,rfl,hy,q⟩:=h
 refine⟨_,(af (aw 1 sc_head_in.nd (bL K PySem.F.plainAttrs_str PySem.F.slot_str_partition PySem.F.type_str_partition lO (pv 0 (hv:=y8)) (aa ah ac)) (hx:=Dy))
   (af (bq (aH (jW K) (bd (bG K) (pv 1 (hv:=sL)) aj (fun _ _=>rfl)) (dM (aa ah (aa ah ac))) (by with_unfolding_all rfl)) (al (ax (dM (aa (bd (bG K) (pv 1 (hv:=sL)) aj (fun _ _=>rfl)) (aa (aE c_bound_in hr (aa (bd (bG K) (pv 1 (hv:=sL)) aj (fun _ _=>rfl)) ac) (hg:=CI)) ac))))) aP)
   (al (ax (dA (jD K) z_tuple jo (aa (bL K PySem.F.plainAttrs_str PySem.F.slot_str_split PySem.F.type_str_split ku (pv 0 (hv:=y8)) (aa ah ac)) ac) (hg:=BU)))))),?_⟩
 have hpl:=xG y (Str.ofString " ")
 have hsl:=vK (x:=y) (y:=Str.ofString " ") (by decide +kernel)
 have hsn:=mU y (Str.ofString " ")
 walk_at "rd1"
 refine⟨by decide +kernel,by omega,fun l hl=>?_⟩
 generalize hH1:upd H l _=H1
 have s1:=av hH1 hl
 have e1:=aJ hH1
 walk_at "nx"
 refine⟨_,_,.inr (SqT.of e1),eD,by decide,fun t ht=>?_⟩
 generalize hH2:upd H1 t _=H2
 have s2:=av hH2 ht
 have e2:=aJ hH2
 have s12:=s1.trans s2
 walk_at "rd1"
 refine⟨_,.inr (SqT.of e2),rfl,rfl,aB (fun _=>?_) (fun _=>?_)⟩
 ·refine⟨_,_,.inr (SqT.of (s2 _ _ e1)),eD,_,_,.inr (SqT.of (s2 _ _ e1)),bn (j:=2) rfl,_,rfl,by omega,fun o H3 s3=>⟨by decide,fun p hp=>?_⟩⟩
  have s13:=s12.trans s3
  exact q _ p _ ⟨_,[oP o],rfl,by simp,by omega,fun v hv=>.inr ⟨o,List.mem_singleton.mp hv⟩⟩ (s13.trans (au hp _)) (s13.free hp) ai
 walk_at "nx"
 refine⟨by decide +kernel,by omega,fun sp hsp=>?_⟩
 generalize Txt.split y (Str.ofString " ")=ts at hsl hsn ⊢
 generalize hH3:upd H2 sp _=H3
 have s3:=av hH3 hsp
 have e3:=aJ hH3
 have s13:=s12.trans s3
 refine⟨_,.inl ⟨SqL.of e3,fun p hp=>?_⟩⟩
 refine q _ p _ ?_ (s13.trans (au hp _)) (s13.free hp) ai
 cases ts with
 | nil=>exact absurd rfl hsn
 | cons k ts=>
  refine⟨k,ts.map V.str,rfl,by rw[List.length_map]; have:=hsl.1; simp only[List.length_cons]at this; omega,by have:=hsl.2 k List.mem_cons_self; omega,fun v hv=>?_⟩
  obtain⟨u,hu,rfl⟩:=List.mem_map.mp hv
  exact .inl ⟨u,rfl,by have:=hsl.2 u (List.mem_cons_of_mem _ hu); omega⟩
end
def zt(v:V):Prop:=(∃ y:Str,v = .str y∧y.length≤100000)∨∃ o,v=oP o
def AnyS(PA:Addr→Prop)(H:Hp)(a:Addr):Prop:=∃ (k:Str) (hs:List V) (bs:List Addr),hs.length≤900∧k.length≤900∧(∀ v∈hs,zt v)∧H a=some (.tup (.str k::(hs++bs.map V.ref)))∧bs.length=(aI k).length∧∀ b∈bs,PA b
def AnyL(S:Addr→Prop):Nat→Hp→Addr→Prop
 | 0=>fun _ _=>False
 | n+1=>fun H p=>S p∧∃ as:List Addr,H p=some (.lst (as.map V.ref))∧as.length≤60∧∀ a∈as,AnyS (AnyL S n H) H a
theorem AnyS.imp{PA PA':Addr→Prop}{H H':Hp}(ht:∀ b xs,H b=some (.tup xs)→H' b=some (.tup xs))(hp:∀ q,PA q→PA' q){a:Addr}:AnyS PA H a→AnyS PA' H' a:=
 fun ⟨k,hs,bs,h1,h2,h3,h4,h5,h6⟩=>⟨k,hs,bs,h1,h2,h3,ht _ _ h4,h5,fun b hb=>hp b (h6 b hb)⟩
theorem AnyL.imp{S S':Addr→Prop}{H H':Hp}(ht:∀ b xs,H b=some (.tup xs)→H' b=some (.tup xs))(hl:∀ b xs,S b→H b=some (.lst xs)→H' b=some (.lst xs))(hS:∀ b,S b→S' b) :
  ∀ (d:Nat) {p:Addr},AnyL S d H p→AnyL S' d H' p
 | 0,_,h=>h.elim
 | d+1,p,⟨h0,as,h1,h2,h3⟩=>⟨hS _ h0,as,hl _ _ h0 h1,h2,fun a ha=>(h3 a ha).imp ht fun q z=>AnyL.imp ht hl hS d z⟩
theorem AnyL.mono{S:Addr→Prop}{H H':Hp}{d:Nat}{p:Addr}(h:AnyL S d H p)(sm:Same H H'):AnyL S d H' p:=h.imp (fun b xs e=>sm _ _ e) (fun b xs _ e=>sm _ _ e) (fun _ z=>z) d
theorem tH(k:Str):(aI k).length≤2:=by
 unfold aI
 split
 ·decide
 split
 ·decide
 split
 ·decide
 ·decide
def nc(n:Nat):Sp:=fun vs H Q _=>∃ (lp:Addr) (at_:Nat) (L:List Str),vs=[.ref lp,.int (at_:Int)]∧H lp=some (.lst (L.map V.str))∧L.length≤60∧(∀ x∈L,x.length≤890)∧L.length - at_<n∧
 ∀ (t p:Addr) (pl:Nat) (H':Hp),Same H H'→H' t=some (.tup [.ref p,.int (pl:Int)])→at_≤pl→AnyL (fun b=>H b=none) n H' p→Q (.ref t) H'
def As(n:Nat):Sp:=fun vs H Q _=>∃ (lp:Addr) (at_:Nat) (L:List Str),vs=[.ref lp,.int (at_:Int)]∧H lp=some (.lst (L.map V.str))∧L.length≤60∧(∀ x∈L,x.length≤890)∧at_<L.length∧L.length - at_≤n∧
 ∀ (t a:Addr) (pl:Nat) (H':Hp),Same H H'→H' t=some (.tup [.ref a,.int (pl:Int)])→at_+1≤pl→AnyS (AnyL (fun b=>H b=none) n H') H' a→Q (.ref t) H'
section
variable{P:Program}{w:World}{K:PySem.W.Frag}{mg:Str→Option Value}{base:Heap}
theorem Bu{H H':Hp}{bp cp:Addr}{xs ys:List V}(f:sj H H' (fun b=>b=bp))(hb:H bp=some (.lst ys))(h:SqT K H cp xs):SqT K H' cp xs:=by
 rcases h with (h | ⟨o,h⟩) | h
 ·exact .inl (.inl (f _ _ h (fun z=>by rw[z,hb]at h; cases h)))
 ·exact .inl (.inr ⟨o,f _ _ h (fun z=>by rw[z,hb]at h; cases h)⟩)
 ·exact .inr h
theorem xU{n:Nat}(D:DefAt K mg "step_from" aV) (z_tuple:mg "tuple" = none) (c_head_in:bf P w K mg base 3 "head_in" ["line"] ol) (c_closers_of:bf P w K mg base 1 "closers_of" ["kind"] (dE K)) (c_steps_from:bf P w K mg base (2 * n+6) "steps_from" ["lines", "at"] (nc n)) :
  bf P w K mg base (2 * n+7) "step_from" ["lines", "at"] (As n):=by
 refine D.cal (k:=2 * n+6) sc_step_from (fun _ _ _ _ _ _ us hl=>match us,hl with | [_,_],_=>rfl) (fun vs H Q E h=>by obtain⟨_,_,_,rfl,_⟩:=h; rfl) (fun f cdv A outer sh H vs Q E hr h=>?_)
 obtain⟨lp,at_,L,rfl,hlp,hn,hx,hlt,hm,q⟩:=h
 refine⟨_,(af (aw 2 sc_step_from.nd (aE c_head_in hr (aa (bd (bG K) (pv 0 (hv:=uO)) (pv 1 (hv:=u6)) (fun _ _=>rfl)) ac) (hg:=CB) (hle:=by omega)) (hx:=DD))
   (af (aw 3 sc_step_from.nd (aT ac) (hx:=DB))
   (af (aw 4 sc_step_from.nd (am ap (pv 1 (hv:=u6)) aj) (hx:=y_))
   (af (gi PassesOwn.never rfl (mj K (aE c_closers_of hr (aa (bd (bG K) (pv 2 (hv:=vf)) aj (fun _ _=>rfl)) ac) (hg:=Co) (hle:=by omega))) (bX 5 sc_step_from.nd (hx:=DY)) (af (aw 6 sc_step_from.nd (aE c_steps_from hr (aa (pv 0 (hv:=uO)) (aa (pv 4 (hv:=uZ)) ac)) (hg:=BL) (hle:=by omega)) (hx:=DQ))
   (af (dk (bL K PySem.F.plainAttrs_list PySem.F.slot_list_append PySem.F.type_list_append cQ (pv 3 (hv:=uw)) (aa (bd (bG K) (pv 6 (hv:=uC)) aj (fun _ _=>rfl)) ac)))
   (al (aw 4 sc_step_from.nd (am ap (bd (bG K) (pv 6 (hv:=uC)) aj (fun _ _=>rfl)) aj) (hx:=y_))))))
   (al (ax (dM (aa (am (qi K) (pv 2 (hv:=vf)) (dA (jD K) z_tuple jo (aa (pv 3 (hv:=uw)) ac) (hg:=AU))) (aa (pv 4 (hv:=uZ)) ac))))))))),?_⟩
 have h0:L[at_]? = some L[at_]:=List.getElem?_eq_getElem hlt
 have hx0:=hx _ (List.getElem_mem hlt)
 walk_at "rd1"
 refine⟨_,_,.inl (SqL.of hlp),bn (by rw[List.getElem?_map,h0]; rfl),?_⟩
 walk_at "rd1"
 refine⟨_,rfl,hx0,fun hv th H1 hH s1 hth eh=>?_⟩
 obtain⟨k,hs,rfl,hs1,hs2,hs3⟩:=hH
 walk_at "nx"
 refine⟨by decide,fun bp hbp=>?_⟩
 generalize hH2:upd H1 bp _=H2
 have s2:=av hH2 hbp
 have e2:=aJ hH2
 clear hH2
 walk_at "nx"
 walk_at "nx"
 refine⟨_,_,.inr (SqT.of (s2 _ _ eh)),eD,?_⟩
 walk_at "rd1"
 refine⟨k,rfl,fun cp H3 s3 hcp=>?_⟩
 walk_at "rd1"
 have sH3:Same H H3:=(s1.trans s2).trans s3
 have hbpH:H bp=none:=s1.free hbp
 have hc2:=tH k
 refine⟨⟨_,hcp⟩,?_⟩
 refine mF (xs:=(aI k).map V.str) (fun i σ H'=>∃ (qs:List Addr) (o5 o6:Option V) (pl:Nat),σ=[some (.ref lp),some (.int (at_:Int)),some (.ref th),some (.ref bp),some (.int (pl:Int)),o5,o6]∧sj H3 H' (fun b=>b=bp)∧Same H H'∧H' bp=some (.lst (qs.map V.ref))∧(∀ q∈qs,AnyL (fun b=>H b=none∧b≠bp) n H' q)∧qs.length=i∧at_+1≤pl)
  ⟨[],none,none,at_+1,rfl,fun b o e _=>e,sH3,s3 _ _ e2,(fun q hq=>by cases hq),rfl,Nat.le_refl _⟩ ?_ ?_ ?_
 ·rintro i σ H' _ ⟨qs,o5,o6,pl,_,fr,_⟩
  exact Bu fr (s3 _ _ e2) hcp
 ·rintro i x σ H' hxi ⟨qs,o5,o6,pl,rfl,fr,sH',hbl,hqs,hql,hpl⟩
  have hi:i<(aI k).length:=by have:=(List.getElem?_eq_some_iff.mp hxi).1; simpa using this
  rw[List.getElem?_map,List.getElem?_eq_getElem hi]at hxi
  cases hxi
  walk_at "rd1"
  refine⟨lp,pl,L,rfl,sH' _ _ hlp,hn,hx,by omega,fun t p pl2 H'' s'' et hpl2 hP=>?_⟩
  walk_at "nx"
  refine⟨⟨_,SqL.of (s'' _ _ hbl)⟩,_,_,.inr (SqT.of et),eD,_,s'' _ _ hbl,ao (by rw[List.length_map]; omega),?_⟩
  have etb:t≠bp:=fu et (s'' _ _ hbl) (fun z=>nomatch z)
  have hup:∀ b o,H'' b=some o→b≠bp→upd H'' bp (.lst (qs.map V.ref++[.ref p])) b=some o:=fun b o e n=>by rw[aA n]; exact e
  have htup:∀ b xs,H'' b=some (.tup xs)→upd H'' bp (.lst (qs.map V.ref++[.ref p])) b=some (.tup xs):=fun b xs e=>hup b _ e (fu e (s'' _ _ hbl) (fun z=>nomatch z))
  have hP':AnyL (fun b=>H b=none∧b≠bp) n (upd H'' bp (.lst (qs.map V.ref++[.ref p]))) p:=AnyL.imp htup (fun b xs hb e=>hup b _ e (fun z=>by rw[z,hbl]at hb; cases hb)) (fun b hb=>⟨sH'.free hb,fun z=>by rw[z,hbl]at hb; cases hb⟩) n hP
  have hqs':∀ q∈qs,AnyL (fun b=>H b=none∧b≠bp) n (upd H'' bp (.lst (qs.map V.ref++[.ref p]))) q:=fun q hq=>AnyL.imp htup (fun b xs hb e=>hup b _ e hb.2) (fun _ z=>z) n ((hqs q hq).mono s'')
  have htt:=hup _ _ et etb
  have hbb:upd H'' bp (.lst (qs.map V.ref++[.ref p])) bp=some (.lst ((qs++[p]).map V.ref)):=by rw[ai,List.map_append]; rfl
  have hfr:sj H3 (upd H'' bp (.lst (qs.map V.ref++[.ref p]))) (fun b=>b=bp):=fun b o e n=>hup b o (s'' _ _ (fr b o e n)) n
  have hsm:Same H (upd H'' bp (.lst (qs.map V.ref++[.ref p]))):=(sH'.trans s'').upd hbpH _
  generalize upd H'' bp (.lst (qs.map V.ref++[.ref p]))=HX at hP' hqs' htt hbb hfr hsm ⊢
  walk_at "nx"
  refine⟨_,_,.inr (SqT.of htt),bn (j:=1) rfl,?_⟩
  walk_at "rd1"
  refine⟨qs++[p],_,_,pl2+1,rfl,hfr,hsm,hbb,(fun q hq=>?_),by rw[List.length_append,hql]; rfl,by omega⟩
  rcases List.mem_append.mp hq with z | z
  ·exact hqs' q z
  ·rw[List.mem_singleton.mp z]; exact hP'
 ·rintro σ H' ⟨qs,o5,o6,pl,rfl,fr,sH',hbl,hqs,hql,hpl⟩
  rw[List.length_map]at hql
  have eth:H' th=some (.tup (.str k::hs)):=fr _ _ (s3 _ _ (s2 _ _ eh)) (fun z=>by rw[z]at eh; rw[hbp]at eh; cases eh)
  walk_at "nx"
  refine⟨_,.inl ⟨SqL.of hbl,fun bt hbt=>?_⟩⟩
  have s4:=au hbt (.tup (qs.map V.ref))
  have e4:upd H' bt (.tup (qs.map V.ref)) bt=some (.tup (qs.map V.ref)):=ai
  generalize upd H' bt (.tup (qs.map V.ref))=H4 at s4 e4 ⊢
  have fin:∀ (a:Addr) (H5:Hp),Same H' H5→H5 a=some (.tup (.str k::(hs++qs.map V.ref)))→2≤sizeLine∧∀ (p:Addr),H5 p=none→Q (V.ref p) (upd H5 p (HO.tup [V.ref a,V.int (pl:Int)])):=fun a H5 s5 e5=>by
   refine⟨by decide,fun t ht=>?_⟩
   have s6:=au ht (.tup [V.ref a,V.int (pl:Int)])
   refine q t a pl _ ((sH'.trans s5).trans s6) ai hpl ⟨k,hs,qs,hs1,hs2,hs3,s6 _ _ e5,hql,fun b hb=>?_⟩
   exact AnyL.imp (fun b xs e=>s6 _ _ (s5 _ _ e)) (fun b xs _ e=>s6 _ _ (s5 _ _ e)) (fun b z=>z.1) n (hqs b hb)
  refine⟨_,_,SqT.of (s4 _ _ eth),SqT.of e4,by simp,ao (by simp only[List.length_cons,List.length_map]; omega),fun z=>?_,fun _ a ha=>?_⟩
  ·exact fin th H4 s4 (by rw[z,List.append_nil]; exact s4 _ _ eth)
  ·exact fin a _ (s4.trans (au ha _)) ai
theorem pc{ae:Addr}(D:DefAt K mg "steps_from" bi) (DS:DefAt K mg "step_from" aV) (z_tuple:mg "tuple" = none) (z_len:mg "len" = none) (g_ENDS:mg "ENDS" = some (.ref ae)) (q_ENDS:∀ H:Hp,SqT K H ae [.str "back", .str "else", .str "fi", .str "done"]) (c_head_in:bf P w K mg base 3 "head_in" ["line"] ol) (c_closers_of:bf P w K mg base 1 "closers_of" ["kind"] (dE K)) :
  ∀ n:Nat,bf P w K mg base (2 * n+6) "steps_from" ["lines", "at"] (nc n)
 | 0=>D.cal (k:=5) sc_steps_from (fun _ _ _ _ _ _ us hl=>match us,hl with | [_,_],_=>rfl) (fun vs H Q E h=>by obtain⟨_,_,_,rfl,_⟩:=h; rfl) (fun f cdv A outer sh H vs Q E hr h=>by obtain⟨_,_,_,rfl,_,_,_,z,_⟩:=h; exact absurd z (Nat.not_lt_zero _))
 | n+1=>by
  have c_step_from:=xU DS z_tuple c_head_in c_closers_of (pc D DS z_tuple z_len g_ENDS q_ENDS c_head_in c_closers_of n)
  refine D.cal (k:=2 * n+7) sc_steps_from (fun _ _ _ _ _ _ us hl=>match us,hl with | [_,_],_=>rfl) (fun vs H Q E h=>by obtain⟨_,_,_,rfl,_⟩:=h; rfl) (fun f cdv A outer sh H vs Q E hr h=>?_)
  obtain⟨lp,at_,L,rfl,hlp,hn,hx,hm,q⟩:=h
  refine⟨_,(af (aw 2 sc_steps_from.nd (aT ac) (hx:=Dv))
   (af (aw 3 sc_steps_from.nd (pv 1 (hv:=BC)) (hx:=zl))
   (af (qz PassesOwn.never (PW.pt' (fk (aH ig (pv 3 (hv:=lK)) (aL (aW K) z_len bM (aa (pv 0 (hv:=og)) ac) (hg:=CD)) (aG _)) (fS (aH (lH K) (bd (bG K) (pv 0 (hv:=og)) (pv 3 (hv:=lK)) (fun _ _=>rfl)) (i7 g_ENDS (hg:=A5)) (by with_unfolding_all rfl))))) (af (aw 4 sc_steps_from.nd (aE c_step_from hr (aa (pv 0 (hv:=og)) (aa (pv 3 (hv:=lK)) ac)) (hg:=CH) (hle:=by omega)) (hx:=DL))
   (af (dk (bL K PySem.F.plainAttrs_list PySem.F.slot_list_append PySem.F.type_list_append cQ (pv 2 (hv:=t_)) (aa (bd (bG K) (pv 4 (hv:=uN)) aj (fun _ _=>rfl)) ac)))
   (al (aw 3 sc_steps_from.nd (bd (bG K) (pv 4 (hv:=uN)) aj (fun _ _=>rfl)) (hx:=zl))))))
   (al (ax (dM (aa (pv 2 (hv:=t_)) (aa (pv 3 (hv:=lK)) ac)))))))),?_⟩
  walk_at "rd1"
  refine⟨by decide,fun sp hsp=>?_⟩
  generalize hH1:upd H sp _=H1
  have s1:=av hH1 hsp
  have e1:=aJ hH1
  clear hH1
  walk_at "nx"
  walk_at "nx"
  refine⟨fun m σ H'=>∃ (pl:Nat) (as:List Addr) (o4:Option V),m=L.length - pl∧σ=[some (.ref lp),some (.int (at_:Int)),some (.ref sp),some (.int (pl:Int)),o4]∧Same H H'∧H' sp=some (.lst (as.map V.ref))∧(∀ a∈as,AnyS (AnyL (fun b=>H b=none∧b≠sp) n H') H' a)∧as.length≤60∧as.length+at_≤pl,
   ⟨L.length - at_,at_,[],none,rfl,rfl,s1,e1,(fun a ha=>by cases ha),by decide,by simp⟩,?_⟩
  rintro m σ H' ⟨pl,as,o4,rfl,rfl,sH',hsl,hst,hal,hpl⟩
  have stop:ir (lB (qe (bQ (bu 2) (bQ (bu 3) cV)))) { nx:=fun x H'=>Q V.non H',rt:=Q } [some (.ref lp),some (.int (at_:Int)),some (.ref sp),some (.int (pl:Int)),o4] H':=by
   walk_at "nx"
   refine⟨by decide,fun t ht=>?_⟩
   have s6:=au ht (.tup [V.ref sp,V.int (pl:Int)])
   refine q t sp pl _ (sH'.trans s6) ai (by omega) ⟨hsp,as,s6 _ _ hsl,hal,fun a ha=>?_⟩
   exact(hst a ha).imp (fun b xs e=>s6 _ _ e) (fun q y=>AnyL.imp (fun b xs e=>s6 _ _ e) (fun b xs _ e=>s6 _ _ e) (fun b z=>z.1) n y)
  walk_at "rd1"
  refine⟨_,.inl (SqL.of (sH' _ _ hlp)),?_⟩
  rw[List.length_map]
  refine aB (fun c=>?_) (fun _=>stop)
  have hlt:pl<L.length:=by omega
  have h0:L[pl]? = some L[pl]:=List.getElem?_eq_getElem hlt
  refine⟨_,_,.inl (SqL.of (sH' _ _ hlp)),bn (by rw[List.getElem?_map,h0]; rfl),?_⟩
  walk_at "rd1"
  refine⟨_,.inr (q_ENDS H'),rfl,rfl,?_⟩
  refine aB (fun _=>?_) (fun _=>stop)
  refine⟨fun σ' H''=>∃ (pl':Nat) (as:List Addr) (o4:Option V),pl<pl'∧σ'=[some (.ref lp),some (.int (at_:Int)),some (.ref sp),some (.int (pl':Int)),o4]∧Same H H''∧H'' sp=some (.lst (as.map V.ref))∧(∀ a∈as,AnyS (AnyL (fun b=>H b=none∧b≠sp) n H'') H'' a)∧as.length≤60∧as.length+at_≤pl',
   fun σ' H'' ⟨pl',as',o4',z0,z⟩=>⟨L.length - pl',by omega,pl',as',o4',rfl,z⟩,?_⟩
  refine⟨lp,pl,L,rfl,sH' _ _ hlp,hn,hx,hlt,by omega,fun t a pl2 H'' s'' et hpl2 hP=>?_⟩
  walk_at "nx"
  refine⟨⟨_,SqL.of (s'' _ _ hsl)⟩,_,_,.inr (SqT.of et),eD,_,s'' _ _ hsl,ao (by rw[List.length_map]; omega),?_⟩
  have hsp'':=s'' _ _ hsl
  have hup:∀ b o,H'' b=some o→b≠sp→upd H'' sp (.lst (as.map V.ref++[.ref a])) b=some o:=fun b o e n=>by rw[aA n]; exact e
  have htup:∀ b xs,H'' b=some (.tup xs)→upd H'' sp (.lst (as.map V.ref++[.ref a])) b=some (.tup xs):=fun b xs e=>hup b _ e (fu e hsp'' (fun z=>nomatch z))
  have hP':AnyS (AnyL (fun b=>H b=none∧b≠sp) n (upd H'' sp (.lst (as.map V.ref++[.ref a])))) (upd H'' sp (.lst (as.map V.ref++[.ref a]))) a:=hP.imp htup (fun q y=>AnyL.imp htup (fun b xs hb e=>hup b _ e (fun z=>by rw[z,hsl]at hb; cases hb)) (fun b hb=>⟨sH'.free hb,fun z=>by rw[z,hsl]at hb; cases hb⟩) n y)
  have hst':∀ a'∈as,AnyS (AnyL (fun b=>H b=none∧b≠sp) n (upd H'' sp (.lst (as.map V.ref++[.ref a])))) (upd H'' sp (.lst (as.map V.ref++[.ref a]))) a':=fun a' ha'=>(hst a' ha').imp (fun b xs e=>htup _ _ (s'' _ _ e)) (fun q y=>AnyL.imp htup (fun b xs hb e=>hup b _ e hb.2) (fun _ z=>z) n (y.mono s''))
  have htt:=htup _ _ et
  have hbb:upd H'' sp (.lst (as.map V.ref++[.ref a])) sp=some (.lst ((as++[a]).map V.ref)):=by rw[ai,List.map_append]; rfl
  have hsm:Same H (upd H'' sp (.lst (as.map V.ref++[.ref a]))):=(sH'.trans s'').upd hsp _
  generalize upd H'' sp (.lst (as.map V.ref++[.ref a]))=HX at hP' hst' htt hbb hsm ⊢
  walk_at "nx"
  refine⟨_,_,.inr (SqT.of htt),bn (j:=1) rfl,?_⟩
  walk_at "rd1"
  refine⟨pl2,as++[a],_,by omega,rfl,hsm,hbb,(fun a' ha'=>?_),by rw[List.length_append,List.length_singleton]; omega,by rw[List.length_append,List.length_singleton]; omega⟩
  rcases List.mem_append.mp ha' with z | z
  ·exact hst' a' z
  ·rw[List.mem_singleton.mp z]; exact hP'
end
theorem nW(H:Hp){v:V}(h:zt v):Thing H v:=by
 rcases h with ⟨y,rfl,hy⟩ | ⟨o,rfl⟩
 ·exact⟨⟨"str", rfl⟩,fun z e=>by cases e; exact Nat.le_trans hy (by decide)⟩
 ·cases o with
  | none=>exact⟨⟨_,rfl⟩,fun z e=>by cases e⟩
  | some i=>exact⟨⟨_,rfl⟩,fun z e=>by cases e⟩
theorem AnyL.lst{S:Addr→Prop}{n:Nat}{H:Hp}{p:Addr}(h:AnyL S n H p):∃ xs,H p=some (.lst xs):=by
 cases n with
 | zero=>exact h.elim
 | succ n=>obtain⟨_,as,e,_⟩:=h; exact⟨_,e⟩
theorem AnyS.thing{PA:Addr→Prop}{H:Hp}{a:Addr}(hl:∀ q,PA q→∃ xs,H q=some (.lst xs))(h:AnyS PA H a):fg H (.ref a):=by
 obtain⟨k,hs,bs,h1,h2,h3,h4,h5,h6⟩:=h
 have hc:=tH k
 refine⟨⟨⟨"tuple", by simp[az,h4]⟩,fun y e=>by cases e⟩,fun b ys e hb=>?_⟩
 cases e
 rw[h4]at hb
 cases hb
 refine⟨fun y hy=>?_,by simp only[List.length_cons,List.length_append,List.length_map]; omega⟩
 rcases List.mem_cons.mp hy with rfl | hy
 ·exact nW H (.inl ⟨k,rfl,by omega⟩)
 rcases List.mem_append.mp hy with hy | hy
 ·exact nW H (h3 y hy)
 ·obtain⟨q,hq,rfl⟩:=List.mem_map.mp hy
  obtain⟨xs,e⟩:=hl q (h6 q hq)
  exact ic e
theorem Ak{k:Str}{ks:List Str}(h:d6 k=some ks):(k,ks)∈kindsL:=by
 unfold d6 at h
 obtain⟨p,h1,h2⟩:=Option.map_eq_some_iff.mp h
 have h3:=List.find?_some h1
 have h4:=List.mem_of_find?_eq_some h1
 have h3':p.1=k:=of_decide_eq_true h3
 rw[← h3',← h2]; exact h4
theorem jg{v:V}(h:cJ v=true):∃ y,v = .str y∧y.length≤20:=by
 cases v with
 | str y=>exact⟨y,rfl,Nat.le_trans (bU (show bw y=true from h)) (by decide)⟩
 | _=>cases h
theorem pA{v:V}(h:b5 v=true):∃ i,v = .int i:=by
 cases v with
 | int i=>exact⟨i,rfl⟩
 | _=>cases h
theorem xx{PA:Addr→List ak→Prop}{g:List ak→Prop}{H:Hp}{a:Addr}{k:Str}{hs:List V}{bs:List Addr}{Bs:List (List ak)}(h4:H a=some (.tup (.str k::(hs++bs.map V.ref))))(h5:bs.length=(aI k).length)(hl:b9 H (.ref a)=true)(hp:Paired PA bs Bs)(hg:∀ b∈Bs,g b):∃ s,stpAt PA H a s∧mx g s:=by
 have hl':d_ H (.str k::(hs++bs.map V.ref))=true:=by simpa [b9,h4] using hl
 simp only[d_]at hl'
 cases hv:d6 k with
 | none=>rw[hv]at hl'; cases hl'
 | some ks=>
  rw[hv]at hl'
  obtain⟨hn,hal⟩:=Bool.and_eq_true _ _ ▸ hl'
  have hn:=of_decide_eq_true hn
  rw[List.length_append,List.length_map,h5]at hn
  have hm:=Ak hv
  have p1:∀ (kk:Str) (v:V),kk.length≤20→(∀ y,dB [kk,y])→cJ v=true→H a=some (.tup [.str kk,v])→∃ s,stpAt PA H a s∧mx g s:=fun kk v hk hP hw e=>by
   obtain⟨y,rfl,hy⟩:=jg hw
   refine⟨.plain [kk,y],e,hP y,fun x hx=>?_⟩
   simp only[List.mem_cons,List.not_mem_nil,or_false]at hx
   rcases hx with rfl | rfl <;> assumption
  have p2:∀ (kk:Str) (v u:V),kk.length≤20→(∀ x y,dB [kk,x,y])→cJ v=true→cJ u=true→H a=some (.tup [.str kk,v,u])→∃ s,stpAt PA H a s∧mx g s:=fun kk v u hk hP hw hu e=>by
   obtain⟨y,rfl,hy⟩:=jg hw
   obtain⟨z,rfl,hz⟩:=jg hu
   refine⟨.plain [kk,y,z],e,hP y z,fun x hx=>?_⟩
   simp only[List.mem_cons,List.not_mem_nil,or_false]at hx
   rcases hx with rfl | rfl | rfl <;> assumption
  simp only[kindsL,List.mem_cons,List.not_mem_nil,or_false,Prod.mk.injEq]at hm
  have c0:∀ kk:Str,aI kk=[]→k=kk→bs=[]:=fun kk e z=>by rw[z,e]at h5; exact List.length_eq_zero_iff.mp h5
  rcases hm with ⟨rfl,rfl⟩ | ⟨rfl,rfl⟩ | ⟨rfl,rfl⟩ | ⟨rfl,rfl⟩ | ⟨rfl,rfl⟩ | ⟨rfl,rfl⟩ | ⟨rfl,rfl⟩ | ⟨rfl,rfl⟩
  ·rw[(by decide +kernel:aI "open" = [])]at h5 hn
   obtain rfl:=List.length_eq_zero_iff.mp h5
   match hs,hn with
   | [v],_=>exact p1 _ v (by decide +kernel) .opn (by simpa [eF,dF] using hal) h4
  ·rw[(by decide +kernel:aI "do" = [])]at h5 hn
   obtain rfl:=List.length_eq_zero_iff.mp h5
   match hs,hn with
   | [v,u],_=>
    have hw:cJ v=true∧cJ u=true:=by simpa [eF,dF,jK] using hal
    exact p2 _ v u (by decide +kernel) .doo hw.1 hw.2 h4
  ·rw[(by decide +kernel:aI "copy" = [])]at h5 hn
   obtain rfl:=List.length_eq_zero_iff.mp h5
   match hs,hn with
   | [v,u],_=>
    have hw:cJ v=true∧cJ u=true:=by simpa [eF,dF,jK] using hal
    exact p2 _ v u (by decide +kernel) .cpy hw.1 hw.2 h4
  ·rw[(by decide +kernel:aI "drop" = [])]at h5 hn
   obtain rfl:=List.length_eq_zero_iff.mp h5
   match hs,hn with
   | [v],_=>exact p1 _ v (by decide +kernel) .drp (by simpa [eF,dF] using hal) h4
  ·rw[(by decide +kernel:aI "tie" = [])]at h5 hn
   obtain rfl:=List.length_eq_zero_iff.mp h5
   match hs,hn with
   | [v,u],_=>
    have hw:cJ v=true∧cJ u=true:=by simpa [eF,dF,jK] using hal
    exact p2 _ v u (by decide +kernel) .tie hw.1 hw.2 h4
  ·rw[(by decide +kernel:aI "lend" = [("back" : Str)])]at h5 hn
   match bs,h5,hp with
   | [q],_,.cons (b:=b) z .nil=>
    match hs,hn with
    | [v,u],_=>
     have hw:cJ v=true∧cJ u=true:=by
      have:=hal
      simp[eF,dF,eY]at this
      exact⟨this.1,this.2.1⟩
     obtain⟨y,rfl,hy⟩:=jg hw.1
     obtain⟨z',rfl,hz⟩:=jg hw.2
     exact⟨.lend y z' b,⟨q,h4,z⟩,hy,hz,hg b List.mem_cons_self⟩
  ·rw[(by decide +kernel:aI "if" = [("else" : Str), "fi"])]at h5 hn
   match bs,h5,hp with
   | [q,r],_,.cons (b:=b) z (.cons (b:=c) z2 .nil)=>
    match hs,hn with
    | [v],_=>
     have hw:b5 v=true:=by
      have:=hal
      simp[eF,iB,eY]at this
      exact this.1
     obtain⟨i,rfl⟩:=pA hw
     exact⟨.ite i b c,⟨q,r,h4,z,z2⟩,hg b List.mem_cons_self,hg c (List.mem_cons_of_mem _ List.mem_cons_self)⟩
  ·rw[(by decide +kernel:aI "while" = [("done" : Str)])]at h5 hn
   match bs,h5,hp with
   | [q],_,.cons (b:=b) z .nil=>
    match hs,hn with
    | [v],_=>
     have hw:b5 v=true:=by
      have:=hal
      simp[eF,iB,eY]at this
      exact this.1
     obtain⟨i,rfl⟩:=pA hw
     exact⟨.whl i b,⟨q,h4,z⟩,hg b List.mem_cons_self⟩
theorem wk{G:Nat→Addr→List Addr→Bool→Prop}{PA:Addr→List ak→Prop}{g:List ak→Prop}:∀ (bs:List Addr),(∀ q∈bs,∀ n,∃ out b,G n q out b∧(b=true→∃ T,PA q T∧g T))→∀ n,∃ out b,GB G bs n out b∧(b=true→∃ Bs,Paired PA bs Bs∧∀ t∈Bs,g t)
 | [],_,n=>⟨[],true,⟨rfl,rfl⟩,fun _=>⟨[],.nil,fun t ht=>by cases ht⟩⟩
 | q::bs,h,n=>by
  obtain⟨o1,b1,z1,y1⟩:=h q List.mem_cons_self n
  cases b1 with
  | false=>exact⟨o1,false,⟨o1,false,z1,by rw[if_neg Bool.false_ne_true]; exact⟨rfl,rfl⟩⟩,fun e=>absurd e Bool.false_ne_true⟩
  | true=>
   obtain⟨o2,b2,z2,y2⟩:=wk bs (fun q hq=>h q (List.mem_cons_of_mem _ hq)) (n+o1.length)
   refine⟨o1++o2,b2,⟨o1,true,z1,by rw[if_pos rfl]; exact⟨o2,z2,rfl⟩⟩,fun e=>?_⟩
   obtain⟨T,t1,t2⟩:=y1 rfl
   obtain⟨Bs,u1,u2⟩:=y2 e
   refine⟨T::Bs,.cons t1 u1,fun t ht=>?_⟩
   rcases List.mem_cons.mp ht with rfl | ht
   ·exact t2
   ·exact u2 t ht
theorem wM{G:Nat→Addr→List Addr→Bool→Prop}{PA:Addr→List ak→Prop}{g:List ak→Prop}{PB:Addr→Prop}{H:Hp}{ar:Nat}(h:ar≤8→∀ q,PB q→∀ n,∃ out b,G n q out b∧(b=true→∃ T,PA q T∧g T)) :
  ∀ (as:List Addr),(∀ a∈as,AnyS PB H a)→∀ n,∃ out b,GL G H ar (as.map V.ref) n out b∧(b=true→∃ T,Paired (stpAt PA H) as T∧∀ s∈T,mx g s)
 | [],_,n=>⟨[],true,⟨rfl,rfl⟩,fun _=>⟨[],.nil,fun t ht=>by cases ht⟩⟩
 | a::as,ha,n=>by
  rw[List.map_cons]
  unfold GL
  by_cases hc:ar>8∨n=60∨b9 H (.ref a)=false
  ·exact⟨[],false,by rw[if_pos hc]; exact⟨rfl,rfl⟩,fun e=>absurd e Bool.false_ne_true⟩
  ·have har:ar≤8:=by omega
   have hlk:b9 H (.ref a)=true:=by
    cases e:b9 H (.ref a) with
    | true=>rfl
    | false=>exact absurd (.inr (.inr e)) hc
   obtain⟨k,hs,bs,k1,k2,k3,k4,k5,k6⟩:=ha a List.mem_cons_self
   obtain⟨o1,b1,z1,y1⟩:=wk bs (fun q hq=>h har q (k6 q hq)) (n+1)
   cases b1 with
   | false=>
    refine⟨a::o1,false,?_,fun e=>absurd e Bool.false_ne_true⟩
    rw[if_neg hc]
    exact⟨a,k,hs,bs,⟨rfl,k4,k5⟩,o1,false,z1,by rw[if_neg Bool.false_ne_true]; exact⟨rfl,rfl⟩⟩
   | true=>
    obtain⟨o2,b2,z2,y2⟩:=wM h as (fun a ha'=>ha a (List.mem_cons_of_mem _ ha')) (n+1+o1.length)
    refine⟨a::(o1++o2),b2,?_,fun e=>?_⟩
    ·rw[if_neg hc]
     exact⟨a,k,hs,bs,⟨rfl,k4,k5⟩,o1,true,z1,by rw[if_pos rfl]; exact⟨o2,z2,rfl⟩⟩
    ·obtain⟨Bs,t1,t2⟩:=y1 rfl
     obtain⟨s,s1,s2⟩:=xx k4 k5 hlk t1 t2
     obtain⟨T,u1,u2⟩:=y2 e
     refine⟨s::T,.cons s1 u1,fun t ht=>?_⟩
     rcases List.mem_cons.mp ht with rfl | ht
     ·exact s2
     ·exact u2 t ht
theorem tT{S:Addr→Prop}{H:Hp}:∀ (e N ar:Nat) {p:Addr},e+ar=9→AnyL S N H p→∀ n,∃ out b,Gth S (e+1) H ar n p out b∧(b=true→∃ T,ProgAt S (e+1) H p T∧jE (e+1) T)
 | e,0,ar,p,_,h,n=>h.elim
 | e,N+1,ar,p,he,⟨h0,as,h1,h2,h3⟩,n=>by
  have hth:∀ x∈as.map V.ref,fg H x:=fun x hx=>by
   obtain⟨a,ha,rfl⟩:=List.mem_map.mp hx
   exact(h3 a ha).thing fun q z=>z.lst
  obtain⟨out,b,z,y⟩:=wM (G:=Gth S e H (ar+1)) (PA:=ProgAt S e H) (g:=jE e) (PB:=AnyL S N H) (H:=H) (ar:=ar) (fun har q z n=>by
   cases e with
   | zero=>omega
   | succ e=>exact tT e N (ar+1) (by omega) z n) as h3 n
  refine⟨out,b,⟨h0,_,h1,hth,by rw[List.length_map]; omega,z⟩,fun eb=>?_⟩
  obtain⟨T,t1,t2⟩:=y eb
  exact⟨T,⟨h0,as,h1,t1⟩,by rw[← bY t1]; omega,t2⟩
theorem yI{S:Addr→Prop}{H:Hp}{N:Nat}{p:Addr}(h:AnyL S N H p):(∃ T,ProgAt S 10 H p T∧jE 10 T)∨∃ out,Gth S 10 H 0 0 p out false:=by
 obtain⟨out,b,z,y⟩:=tT 9 N 0 rfl h 0
 cases b with
 | true=>exact .inl (y rfl)
 | false=>exact .inr ⟨out,z⟩
def iw(nm:List Str)(f:List ak→Prop):ak→Prop
 | .plain ws=>dB ws∧(∀ x∈ws.drop 1,bw x=true)∧∀ x∈b0 (.plain ws),x∈nm
 | .lend x y b=>x∈nm∧y∈nm∧bw x=true∧bw y=true∧f b
 | .ite n b c=>b5 (.int n)=true∧f b∧f c
 | .whl n b=>b5 (.int n)=true∧f b
def de(nm:List Str):Nat→List ak→Prop
 | 0,_=>False
 | 1,T=>T=[]
 | d+2,T=>∀ s∈T,iw nm (de nm (d+1)) s
def cW(g:ak→Nat)(D:Nat)(T:List ak):Nat:=((di D T).map g).sum
theorem zc(g:ak→Nat)(d:Nat):∀ bs:List (List ak),((bs.flatMap (di d)).map g).sum=(bs.map (cW g d)).sum
 | []=>rfl
 | b::bs=>by rw[List.flatMap_cons,List.map_append,List.sum_append_nat,zc g d bs,List.map_cons,List.sum_cons]; rfl
theorem l_(g:ak→Nat)(d:Nat)(s:ak)(T:List ak):cW g (d+1) (s::T)=(g s+((a_ s).map (cW g d)).sum)+cW g (d+1) T:=by
 show (((s::T).flatMap (jj (di d))).map g).sum=_
 rw[List.flatMap_cons,List.map_append,List.sum_append_nat]
 show (((jj (di d)) s).map g).sum+_=_
 unfold jj
 rw[List.map_cons,List.sum_cons,zc]; rfl
theorem nC{nm:List Str}{d:Nat}{T:List ak}{s:ak}(h:de nm (d+2) T)(hs:iw nm (de nm (d+1)) s):de nm (d+2) (T++[s]):=fun u hu=>(List.mem_append.mp hu).elim (h u) (fun z=>by rw[List.mem_singleton.mp z]; exact hs)
theorem qJ(nm:List Str):∀ d:Nat,de nm (d+1) []
 | 0=>rfl
 | _+1=>fun s hs=>by cases hs
structure uP (nm:List Str) (T:List ak):Prop where
 gd:de nm 10 T
 ln:eB 10 T≤60
 ld:mz 10 T≤3
theorem wc(d:Nat):∀ {T:List ak} {s:ak},s∈T→dR s+((a_ s).map (eB d)).sum≤eB (d+1) T
 | t::T,s,h=>by
  have e:eB (d+1) (t::T)=_:=l_ dR d t T
  rw[e]
  rcases List.mem_cons.mp h with rfl | h
  ·show dR s+((a_ s).map (cW dR d)).sum≤_; omega
  ·have:=wc d h
   have e2:eB (d+1) T=cW dR (d+1) T:=rfl
   omega
theorem zm(d:Nat):∀ T:List ak,T.length≤eB (d+1) T
 | []=>Nat.zero_le _
 | t::T=>by
  have e:eB (d+1) (t::T)=_:=l_ dR d t T
  have:=zm d T
  have e2:eB (d+1) T=cW dR (d+1) T:=rfl
  have:1≤dR t:=by cases t <;> simp[dR]
  rw[e,List.length_cons]; omega
theorem md{nm:List Str}:∀ (D:Nat) {T:List ak},de nm D T→eB D T≤60→jE D T
 | 0,_,h,_=>h.elim
 | 1,T,h,_=>by
  have h':T=[]:=h
  subst h'
  exact⟨by decide,fun s hs=>by cases hs⟩
 | D+2,T,h,hl=>by
  have hg:T.length≤eB (D+2) T:=zm (D+1) T
  refine⟨by omega,fun s hs=>?_⟩
  have hm:dR s+((a_ s).map (eB (D+1))).sum≤eB (D+2) T:=wc (D+1) hs
  have g:=h s hs
  cases s with
  | plain ws=>
   refine⟨g.1,fun y hy=>?_⟩
   obtain⟨g1,g2,_⟩:=g
   have one:∀ (k:Str) (us:List Str),ws=k::us→k.length≤20→y.length≤20:=fun k us e hk=>by
    rw[e]at hy g2
    rcases List.mem_cons.mp hy with rfl | z
    ·exact hk
    ·have:=bU (g2 y z); omega
   cases g1 with
   | opn x=>exact one _ _ rfl (by decide)
   | drp x=>exact one _ _ rfl (by decide)
   | cpy x y=>exact one _ _ rfl (by decide)
   | tie x y=>exact one _ _ rfl (by decide)
   | doo u x=>exact one _ _ rfl (by decide)
  | lend x y b=>
   obtain⟨_,_,w1,w2,gb⟩:=g
   have:eB (D+1) b≤60:=by simp[a_]at hm; omega
   exact⟨by have:=bU w1; omega,by have:=bU w2; omega,md (D+1) gb this⟩
  | ite n b c=>
   obtain⟨_,gb,gc⟩:=g
   have h1:eB (D+1) b≤60:=by simp[a_]at hm; omega
   have h2:eB (D+1) c≤60:=by simp[a_]at hm; omega
   exact⟨md (D+1) gb h1,md (D+1) gc h2⟩
  | whl n b=>
   obtain⟨_,gb⟩:=g
   have:eB (D+1) b≤60:=by simp[a_]at hm; omega
   exact md (D+1) gb this
theorem ua{nm:List Str}:∀ (D ar:Nat) {T:List ak},D+ar=10→de nm D T→lm D ar T=true
 | 0,_,_,_,h=>h.elim
 | 1,ar,T,_,h=>by
  have h':T=[]:=h
  subst h'; rfl
 | D+2,ar,T,hd,h=>by
  show (T.all fun s=>decide (ar≤8)&&cX s&&(a_ s).all (lm (D+1) (ar+1)))=true
  rw[List.all_eq_true]
  intro s hs
  have g:=h s hs
  have rcb:∀ b,de nm (D+1) b→lm (D+1) (ar+1) b=true:=fun b hb=>ua (D+1) (ar+1) (by omega) hb
  rw[decide_eq_true (show ar≤8 by omega),Bool.true_and]
  cases s with
  | plain ws=>
   show ((ws.drop 1).all bw&&true)=true
   rw[Bool.and_true,List.all_eq_true]; exact g.2.1
  | lend x y b=>
   obtain⟨_,_,w1,w2,gb⟩:=g
   simp[cX,a_,w1,w2,rcb b gb]
  | ite n b c=>
   obtain⟨k,gb,gc⟩:=g
   simp[cX,a_,k,rcb b gb,rcb c gc]
  | whl n b=>
   obtain⟨k,gb⟩:=g
   simp[cX,a_,k,rcb b gb]
theorem tX{nm:List Str}:∀ (D:Nat) {T:List ak},de nm D T→∀ x∈jw D T,x∈nm
 | 0,_,h=>h.elim
 | 1,T,h=>by
  have h':T=[]:=h
  subst h'
  intro x hx; cases hx
 | D+2,T,h=>fun x hx=>by
  obtain⟨t,ht,hx⟩:=List.mem_flatMap.mp hx
  obtain⟨s,hs,ht⟩:=List.mem_flatMap.mp ht
  have g:=h s hs
  rcases List.mem_cons.mp ht with rfl | ht
  ·cases t with
   | plain ws=>exact g.2.2 x hx
   | lend u v b=>
    have e:x=u∨x=v:=by simpa [b0] using hx
    rcases e with e | e <;> rw[e]
    ·exact g.1
    ·exact g.2.1
   | ite n b c=>cases hx
   | whl n b=>cases hx
  ·obtain⟨b,hb,ht⟩:=List.mem_flatMap.mp ht
   refine tX (D+1) (T:=b) ?_ x (List.mem_flatMap.mpr ⟨t,ht,hx⟩)
   cases s with
   | plain ws=>cases hb
   | lend u v c=>rw[List.mem_singleton.mp hb]; exact g.2.2.2.2
   | ite n c e=>
    have z:b=c∨b=e:=by simpa [a_] using hb
    rcases z with z | z <;> rw[z]
    ·exact g.2.1
    ·exact g.2.2
   | whl n c=>rw[List.mem_singleton.mp hb]; exact g.2
theorem vO{nm:List Str}(n4:nm.length≤4){T:List ak}(h:uP nm T):jE 10 T∧iA 10 T=true:=by
 have hz:=md 10 h.gd h.ln
 refine⟨hz,?_⟩
 rw[mH hz,ua 10 0 rfl h.gd,decide_eq_true h.ln,decide_eq_true h.ld,decide_eq_true (Nat.le_trans (qY (tX 10 h.gd)) n4)]; rfl
theorem Do{D:Nat}{T:List ak}{s:ak}{x:Str}(hs:s∈T)(hx:x∈b0 s):x∈jw (D+1) T:=List.mem_flatMap.mpr ⟨s,List.mem_flatMap.mpr ⟨s,hs,List.mem_cons_self⟩,hx⟩
theorem Cv{D:Nat}{T b:List ak}{s:ak}{x:Str}(hs:s∈T)(hb:b∈a_ s)(hx:x∈jw D b):x∈jw (D+1) T:=by
 obtain⟨t,ht,hx⟩:=List.mem_flatMap.mp hx
 exact List.mem_flatMap.mpr ⟨t,List.mem_flatMap.mpr ⟨s,hs,List.mem_cons_of_mem _ (List.mem_flatMap.mpr ⟨b,hb,ht⟩)⟩,hx⟩
theorem y0{nm:List Str}:∀ (D ar:Nat) {T:List ak},D+ar=10→jE D T→lm D ar T=true→(∀ x∈jw D T,x∈nm)→de nm D T
 | 0,ar,T,_,hz,_,_=>hz.elim
 | 1,ar,T,h10,hz,ho,hx=>by
  cases T with
  | nil=>rfl
  | cons s T=>
   have:ar=9:=by omega
   subst this
   simp[lm]at ho
 | D+2,ar,T,h10,hz,ho,hx=>fun s hs=>by
  have ho':=List.all_eq_true.mp ho s hs
  rw[Bool.and_eq_true,Bool.and_eq_true]at ho'
  obtain⟨⟨_,hlk⟩,hb⟩:=ho'
  have hsz:=hz.2 s hs
  have hbk:∀ b∈a_ s,de nm (D+1) b:=fun b hb'=>y0 (D+1) (ar+1) (by omega) (nZ hsz b hb') (List.all_eq_true.mp hb b hb') (fun x hx'=>hx x (Cv hs hb' hx'))
  have hh:∀ x∈b0 s,x∈nm:=fun x hx'=>hx x (Do hs hx')
  cases s with
  | plain ws=>exact⟨hsz.1,fun x hx=>List.all_eq_true.mp hlk x hx,hh⟩
  | lend x y b=>
   have hlk':bw x=true∧bw y=true:=by simpa [cX] using hlk
   exact⟨hh x (by simp[b0]),hh y (by simp[b0]),hlk'.1,hlk'.2,hbk b List.mem_cons_self⟩
  | ite n b c=>exact⟨hlk,hbk b List.mem_cons_self,hbk c (List.mem_cons_of_mem _ List.mem_cons_self)⟩
  | whl n b=>exact⟨hlk,hbk b List.mem_cons_self⟩
theorem lM{n:Int}(h:b5 (.int n)=true):n.natAbs.log2<1920:=by
 have hb:(if n<0 then -n else n)<10 ^ 60:=of_decide_eq_true h
 have hn:n.natAbs<10 ^ 60:=by split at hb <;> omega
 have hb:n.natAbs<2 ^ 1920:=Nat.lt_of_lt_of_le hn (by decide)
 by_cases h0:n.natAbs=0
 ·rw[h0]; decide
 ·exact(Nat.log2_lt h0).mpr hb
theorem jX{nm:List Str}:∀ (D:Nat) {T:List ak},de nm D T→CJ D T
 | 0,_,h=>h.elim
 | 1,T,h=>fun s hs=>by
  have h':T=[]:=h
  rw[h']at hs; cases hs
 | D+2,T,h=>fun s hs=>by
  have g:=h s hs
  cases s with
  | plain ws=>
   obtain⟨g1,g2,_⟩:=g
   have go:∀ (k:Str) (us:List Str),ws=k::us→k∈iC→k.length≤20→1≤us.length→us.length≤2→qg ws:=fun k us e h1 h2 h3 h4=>by
    subst e
    refine⟨by rw[List.length_cons]; omega,by rw[List.length_cons]; omega,h1,fun x hx=>?_⟩
    rcases List.mem_cons.mp hx with rfl | hx
    ·exact h2
    ·exact Nat.le_trans (bU (g2 x hx)) (by decide)
   cases g1 with
   | opn x=>exact go _ _ rfl (by decide +kernel) (by decide +kernel) (by simp) (by simp)
   | drp x=>exact go _ _ rfl (by decide +kernel) (by decide +kernel) (by simp) (by simp)
   | cpy x y=>exact go _ _ rfl (by decide +kernel) (by decide +kernel) (by simp) (by simp)
   | tie x y=>exact go _ _ rfl (by decide +kernel) (by decide +kernel) (by simp) (by simp)
   | doo u x=>exact go _ _ rfl (by decide +kernel) (by decide +kernel) (by simp) (by simp)
  | lend x y b=>exact⟨Nat.le_trans (bU g.2.2.1) (by decide),Nat.le_trans (bU g.2.2.2.1) (by decide),jX (D+1) g.2.2.2.2⟩
  | ite n b c=>exact⟨lM g.1,jX (D+1) g.2.1,jX (D+1) g.2.2⟩
  | whl n b=>exact⟨lM g.1,jX (D+1) g.2⟩
theorem sW{T:List ak}(hz:jE 10 T)(h:iA 10 T=true):∃ nm:List Str,nm.length≤4∧uP nm T:=by
 rw[mH hz,Bool.and_eq_true,Bool.and_eq_true,Bool.and_eq_true]at h
 obtain⟨h1,⟨h2,h3⟩,h4⟩:=h
 exact⟨fH (jw 10 T),of_decide_eq_true h4,y0 10 0 rfl hz h1 (fun x hx=>(kM _ []).mpr (.inr hx)),of_decide_eq_true h2,of_decide_eq_true h3⟩
section
variable{P:Program}{w:World}{K:PySem.W.Frag}{mg:Str→Option Value}{base:Heap}
theorem qL(sep:Str):∀ (ws:List Str) (a:Str),(ws.foldl (fun a x=>a++sep++x) a).length=a.length+(ws.map (·.length)).sum+ws.length * sep.length
 | [],a=>by simp
 | x::ws,a=>by
  rw[List.foldl_cons,qL sep ws,Str.length_append,Str.length_append,List.map_cons,List.sum_cons,List.length_cons,Nat.succ_mul]
  omega
theorem oG(sep k:Str)(ws:List Str):(Txt.join sep (k::ws)).length=k.length+(ws.map (·.length)).sum+ws.length * sep.length:=by rw[ie,qL]
def wR:Sp:=fun vs H Q _=>∃ (p:Addr) (L:List Str),vs=[.ref p]∧LinesAt 10 H p L∧L.length≤500∧(∀ x∈L,x.length≤3000)∧∀ H',Same H H'→Q (.str (Txt.join "\n" L)) H'
theorem z_(D:DefAt K mg "show_program" cg) (c_lines_of:bf P w K mg base 14 "lines_of" ["program"] (sy 10)):bf P w K mg base 15 "show_program" ["program"] wR:=by
 refine D.cal n_ (fun _ _ _ _ _ _ us hl=>match us,hl with | [_],_=>rfl) (fun vs H Q E h=>by obtain⟨p,L,rfl,_⟩:=h; rfl) (fun f cdv A outer s H vs Q E hr h=>?_)
 obtain⟨p,L,rfl,hp,hl,hx,q⟩:=h
 refine⟨_,(al (ax (bL K PySem.F.plainAttrs_str PySem.F.slot_str_join PySem.F.type_str_join (fD K) ah (aa (aE c_lines_of hr (aa (pv 0 (hv:=FO)) ac) (hg:=E8)) ac)))),?_⟩
 walk_at "rd1"
 refine⟨p,L,rfl,hp,by omega,fun lp H1 sm1 hlp hl1=>?_⟩
 walk_at "rd1"
 have h1:(Str.ofString "\n").length=1:=by decide
 have hs:=ky 3000 L hx
 exact⟨L,SqL.of hl1,by rw[h1]; omega,q H1 sm1⟩
theorem tO{c:Nat}(h:48≤c∧c≤57):decide (c∈(Str.ofString "0123456789").cps.toList)=true:=by
 exact(by decide +kernel:∀ c:Nat,c<58→48≤c→decide (c∈(Str.ofString "0123456789").cps.toList)=true) c (Nat.lt_succ_of_le h.2) h.1
theorem cH(m:Nat):(aO (m:Int)).cps.toList=(Nat.toDigits 10 m).map Char.toNat:=PySem.W.KIN.signs_num m
theorem eI(m:Nat):(aO (Int.negSucc m)).cps.toList=45::(Nat.toDigits 10 (m+1)).map Char.toNat:=by
 unfold aO
 rw[signs_ofString]
 show ("-" ++ Nat.repr (m+1)).toList.map Char.toNat=_
 rw[String.toList_append,List.map_append,Nat.toList_repr]; rfl
theorem kh{m:Nat}(h:m<10 ^ 60):1≤(aO (m:Int)).length∧(aO (m:Int)).length≤60:=by
 have e:=congrArg List.length (cH m)
 rw[List.length_map]at e
 have el:(aO (m:Int)).length=(Nat.toDigits 10 m).length:=by rw[← e]; exact Array.length_toList.symm
 rw[el]
 refine⟨?_,digits10_le (by decide) h⟩
 have:=(bR m).2
 cases hd:Nat.toDigits 10 m with
 | nil=>rw[hd]at this; exact absurd rfl this
 | cons a l=>simp
def tu:Sp:=fun vs H Q _=>∃ m:Nat,vs=[.str (aO (m:Int)),.int 60]∧m<10 ^ 60∧∀ H',Same H H'→Q (.int (m:Int)) H'
theorem xH(D:DefAt K mg "number_in" ba) (z_len:mg "len" = none) (z_all:mg "all" = none) (z_int:mg "int" = none) (g_FIGURES:∃ t,mg "FIGURES" = some (.str "0123456789" t)):bf P w K mg base 1 "number_in" ["text", "most"] tu:=by
 refine D.cal (k:=0) lP (fun _ _ _ _ _ _ us hl=>match us,hl with | [_,_],_=>rfl) (fun vs H Q E h=>by obtain⟨m,rfl,_⟩:=h; rfl) (fun f cdv A outer sh H vs Q E hr h=>?_)
 obtain⟨m,rfl,hm,q⟩:=h
 refine⟨_,(af (bq (PW.pt' (fk (kS d9 d9 aj (aL (aW K) z_len bM (aa (pv 0 (hv:=tR)) ac) (hg:=D2)) (pv 1 (hv:=DU))) (fS (cy (aL (jB K) z_all nI (aa (dS (CompSc.to (fsc:=(defScope ba)) (N:=["text", "most"]) (N0:=["text", "most"]) (T:=["sign"]) ⟨by decide +kernel,by decide +kernel,by decide +kernel,by decide +kernel,by decide +kernel,by decide +kernel,by decide +kernel⟩ rfl rfl) rfl (qt (pv 0 (hv:=tR))) (fun _ _ _ _=>(bX 2 (show (["text", "most", "sign"]:List Str).Nodup from by decide +kernel) (hx:=(hX (defScope ba) (by decide +kernel))) (hf:=jT (defScope ba) (by decide +kernel)))) (cN (show (["text", "most"]:List Str).length≤2 from by decide)) (fun _ _ _ _=>du) (fun _ _ _ _=>(cj (jW K) (pv 2 (hv:=(dL (defScope ba) (by decide +kernel)))) (oI g_FIGURES (hg:=(nw (defScope ba) (by decide +kernel)))) (by with_unfolding_all rfl)))) ac) (hg:=Dx)))))) (al (ax (dA oR z_int ji (aa (pv 0 (hv:=tR)) ac) (hg:=DW)))) aP)
   (al (ax ik))),?_⟩
 obtain⟨l1,l2⟩:=kh hm
 obtain⟨nb1,nb2⟩:=ni (n:=(m:Int)) (show (m:Int).natAbs<10 ^ 61 from Nat.lt_of_lt_of_le (show m<10 ^ 60 from hm) (by decide))
 have l3:((aO (m:Int)).cps.toList).all (fun c=>decide (c∈(Str.ofString "0123456789").cps.toList))=true:=by
  rw[List.all_eq_true,cH]
  exact fun c hc=>tO ((bR m).1 c hc)
 have ey:aO (m:Int)=Str.ofString (toString (m:Int)):=rfl
 rw[← ey]at nb1 nb2
 generalize aO (m:Int)=y at l1 l2 l3 nb1 nb2
 walk_at "rd1"
 refine⟨ao (by omega),aB (fun _=>?_) (fun c=>absurd (by omega) c)⟩
 refine aB (fun _=>?_) (fun c=>absurd (by omega) c)
 intro L hL
 refine lq (fun i ys H'=>Same H H'∧H' L=some (.lst ys)∧ys=((y.cps.toList.take i).map fun c=>decide (c∈(Str.ofString "0123456789").cps.toList)).map V.bl) ⟨au hL _,ai,rfl⟩ ?_ ?_
 ·rintro i ys H' c hc hi ⟨sm,hD,rfl⟩
  walk_at "rd1"
  have hc':y.cps.toList[i]? = some c:=by simpa using hc
  refine jI hi ?_ (ao (by omega)) hD ⟨sm.upd hL _,ai,?_⟩
  ·rw[List.length_map,List.length_map,List.length_take]
   have:y.cps.toList.length=y.length:=by simp[Str.length]
   omega
  ·rw[StrLaws.found_one,List.take_add_one,hc',List.map_append,List.map_append]; rfl
 ·rintro ys H' ⟨sm,hD,rfl⟩
  walk_at "rd1"
  refine⟨_,SqL.of hD,?_⟩
  have e:(((y.cps.toList.take y.length).map fun c=>decide (c∈(Str.ofString "0123456789").cps.toList)).all id)=true:=by
   rw[List.all_map,List.take_of_length_le (by simp[Str.length])]
   exact l3
  rw[e]
  refine aB (fun _=>?_) (fun c=>absurd rfl c)
  exact⟨y,(m:Int),rfl,nb1,nb2,q _ sm⟩
def oS:Sp:=fun vs H Q _=>∃ n:Int,vs=[.str (aO n)]∧b5 (.int n)=true∧∀ H',Same H H'→Q (.int n) H'
theorem ug(D:DefAt K mg "bound_in" cf) (g_MOST_FIGURES:∃ t,mg "MOST_FIGURES" = some (.int 60 t)) (c_number_in:bf P w K mg base 1 "number_in" ["text", "most"] tu):bf P w K mg base 2 "bound_in" ["text"] oS:=by
 refine D.cal (k:=1) sc_bound_in (fun _ _ _ _ _ _ us hl=>match us,hl with | [_],_=>rfl) (fun vs H Q E h=>by obtain⟨m,rfl,_⟩:=h; rfl) (fun f cdv A outer sh H vs Q E hr h=>?_)
 obtain⟨n,rfl,hn,q⟩:=h
 refine⟨_,(af (bq (cC (cy (bL K PySem.F.plainAttrs_str PySem.F.slot_str_startswith PySem.F.type_str_startswith k_ (pv 0 (hv:=sD)) (aa ah ac)))) (al (ax (aE c_number_in hr (aa (pv 0 (hv:=sD)) (aa (cF g_MOST_FIGURES (hg:=um)) ac)) (hg:=u0)))) aP)
   (af (aw 1 sc_bound_in.nd (aE c_number_in hr (aa (b4 js (pv 0 (hv:=sD)) (b6 aj) ci) (aa (cF g_MOST_FIGURES (hg:=um)) ac)) (hg:=u0)) (hx:=Dq))
   (al (ax (mY (aH sU (pv 1 (hv:=zg)) ik (aG _)) ik (uX ra (pv 1 (hv:=zg)))))))),?_⟩
 have hb:(if n<0 then -n else n)<10 ^ 60:=of_decide_eq_true hn
 have ex:(Str.ofString "-").cps.toList=45::[]:=by decide +kernel
 have lx:(Str.ofString "-").length=1:=by decide +kernel
 cases n with
 | ofNat m=>
  have hm:m<10 ^ 60:=by
   have:¬ (Int.ofNat m<0):=by simp
   rw[if_neg this]at hb
   have hb':((m:Nat):Int)<10 ^ 60:=hb
   omega
  obtain⟨l1,l2⟩:=kh hm
  have e1:(decide (0+(Str.ofString "-").length≤(aO (Int.ofNat m)).length)&&Builtin.Str.subAt (aO (Int.ofNat m)) (Str.ofString "-") 0)=false:=by
   rw[Bool.and_eq_false_iff]
   refine .inr (Bool.eq_false_iff.mpr fun hs=>?_)
   have h1:=ow (x:=aO (Int.ofNat m)) (y:=Str.ofString "-") ex (i:=0) ⟨by rw[lx]; exact l1,hs⟩
   have h2:=List.mem_of_getElem? h1
   have e:=cH m
   have h3:=(bR m).1 45 (by rw[← e]; exact h2)
   omega
  walk_at "rd1"
  rw[e1]
  refine aB (fun _=>?_) (fun c=>absurd (by decide) c)
  exact⟨m,rfl,hm,q⟩
 | negSucc m=>
  have hm:m+1<10 ^ 60:=by
   rw[if_pos (Int.negSucc_lt_zero m)]at hb
   have:-(Int.negSucc m)=((m+1:Nat):Int):=rfl
   rw[this]at hb
   omega
  obtain⟨l1,l2⟩:=kh hm
  have hs:=eI m
  have hl:(aO (Int.negSucc m)).length=(aO ((m+1:Nat):Int)).length+1:=by
   have a1:=congrArg List.length hs
   have a2:=congrArg List.length (cH (m+1))
   rw[List.length_cons,← a2]at a1
   have b1:(aO (Int.negSucc m)).cps.toList.length=(aO (Int.negSucc m)).length:=Array.length_toList
   have b2:(aO ((m+1:Nat):Int)).cps.toList.length=(aO ((m+1:Nat):Int)).length:=Array.length_toList
   omega
  have hA:=uh (x:=aO (Int.negSucc m)) (y:=Str.ofString "-") (p:=[]) (q:=(Nat.toDigits 10 (m+1)).map Char.toNat) (by rw[ex,hs]; rfl)
  have e1:(decide (0+(Str.ofString "-").length≤(aO (Int.negSucc m)).length)&&Builtin.Str.subAt (aO (Int.negSucc m)) (Str.ofString "-") 0)=true:=by
   rw[decide_eq_true (by rw[lx]; omega)]
   exact hA.2
  have hsl:Txt.slice (aO (Int.negSucc m)) (some 1) none=aO ((m+1:Nat):Int):=by
   refine cM ?_
   have e:=jC (aO (Int.negSucc m)) (some ((1:Nat):Int)) none
   have hll:(aO (Int.negSucc m)).cps.toList.length=(aO (Int.negSucc m)).length:=Array.length_toList
   rw[HT.sIx_nat,HT.sIx_none,Nat.min_eq_left (by omega),hs,List.drop_one,List.tail_cons,← cH (m+1)]at e
   have b2:(aO ((m+1:Nat):Int)).cps.toList.length=(aO ((m+1:Nat):Int)).length:=Array.length_toList
   have e':(Txt.slice (aO (Int.negSucc m)) (some 1) none).cps.toList=_:=e
   rw[e']
   exact List.take_of_length_le (by omega)
  walk_at "rd1"
  rw[e1]
  refine aB (fun c=>absurd c (by decide)) (fun _=>?_)
  walk_at "nx"
  refine⟨ao (by omega),m+1,by rw[hsl],hm,fun H1 s1=>?_⟩
  walk_at "nx"
  refine aB (fun c=>absurd c (by simp)) (fun _=>?_)
  exact q H1 s1
def fT:ak→List V
 | .plain ws=>ws.map V.str
 | .lend x y _=>[.str "lend", .str x,.str y]
 | .ite n _ _=>[.str "if", .int n]
 | .whl n _=>[.str "while", .int n]
def cZ:ak→Str
 | .plain ws=>Txt.join " " ws
 | .lend x y _=>Txt.join " " ["lend", x,y]
 | .ite n _ _=>Txt.join " " ["if", aO n]
 | .whl n _=>Txt.join " " ["while", aO n]
def gn:ak→List Str
 | .plain _=>[]
 | .lend _ _ _=>["back"]
 | .ite _ _ _=>["else", "fi"]
 | .whl _ _=>["done"]
theorem eC(f:List ak→List Str)(s:ak):bz f s=cZ s::br ((a_ s).map f) (gn s):=by
 cases s <;> simp[bz,cZ,a_,gn,br]
theorem qX{nm:List Str}{f:List ak→Prop}:∀ {s:ak},iw nm f s→iw nm (fun _=>True) s
 | .plain _,h=>h
 | .lend _ _ _,⟨a,b,c,d,_⟩=>⟨a,b,c,d,trivial⟩
 | .ite _ _ _,⟨a,_,_⟩=>⟨a,trivial,trivial⟩
 | .whl _ _,⟨a,_⟩=>⟨a,trivial⟩
theorem ij{x:Str}(h:bw x=true):∀ c∈x.cps.toList,c≠32∧c≠10:=by
 unfold bw at h
 rw[Bool.and_eq_true,List.all_eq_true]at h
 intro c hc
 have h':=of_decide_eq_true (h.2 c hc)
 exact(by decide +kernel:∀ c∈letters.cps.toList,c≠32∧c≠10) c h'
theorem cb(k u:Str)(us:List Str):(Txt.join " " (k::u::us)).cps.toList=k.cps.toList++((Str.ofString " ").cps.toList++(Txt.join " " (u::us)).cps.toList):=by
 have e0:(Str.ofString " ")=⟨#[32]⟩:=by decide +kernel
 have g:∀ ws,Txt.join " " ws=Str.join ⟨#[32]⟩ ws:=fun ws=>by
  have:=PySem.StrLaws.glued_eq_join (Str.ofString " ") ws
  rw[← e0]; exact this
 rw[g,g,kD,e0]; rfl
theorem w6{k u:Str}{us:List Str}(hk:32∉k.cps.toList):Txt.partition (Txt.join " " (k::u::us)) (Str.ofString " ")=(k,Str.ofString " ", Txt.join " " (u::us)):=
 AB (by decide +kernel:(Str.ofString " ").cps.toList=32::[]) (cb k u us) hk
def m9(nm:List Str):Sp:=fun vs H Q _=>∃ s:ak,vs=[.str (cZ s)]∧iw nm (fun _=>True) s∧(cZ s).length≤3000∧∀ (t:Addr) (H':Hp),Same H H'→H t=none→H' t=some (.tup (fT s))→Q (.ref t) H'
theorem oN(y:Str)(ss:List Str):kZ (.str y) (ss.map V.str)=decide (y∈ss):=by
 rw[Bool.eq_iff_iff]
 unfold kZ
 rw[List.any_eq_true,decide_eq_true_eq]
 constructor
 ·rintro⟨x,hx,e⟩
  obtain⟨s,hs,rfl⟩:=List.mem_map.mp hx
  have e':(s == y)=true:=e
  rw[← eq_of_beq e']; exact hs
 ·intro h
  exact⟨.str y,List.mem_map.mpr ⟨y,h,rfl⟩,by show (y == y)=true; simp⟩
theorem ye(k:Str):kZ (.str k) [V.str "if", V.str "while"]=decide (k∈[("if" : Str), "while"]):=oN k [("if" : Str), "while"]
theorem kT{nm:List Str}{s:ak}(h:iw nm (fun _=>True) s):∃ (k u:Str) (us:List Str),cZ s=Txt.join " " (k::u::us)∧32∉k.cps.toList∧
  ((k∉[("if" : Str), "while"]∧fT s=(k::u::us).map V.str∧∀ x∈k::u::us,32∉x.cps.toList)∨(k∈[("if" : Str), "while"]∧∃ n:Int,us=[]∧u=aO n∧fT s=[.str k,.int n]∧b5 (.int n)=true)):=by
 have wf:∀ {x:Str},bw x=true→32∉x.cps.toList:=fun h z=>(ij h 32 z).1 rfl
 have go:∀ (k u:Str) (us:List Str),32∉k.cps.toList→k∉[("if" : Str), "while"]→(∀ x∈u::us,bw x=true)→cZ s=Txt.join " " (k::u::us)→fT s=(k::u::us).map V.str→∃ (k u:Str) (us:List Str),cZ s=Txt.join " " (k::u::us)∧32∉k.cps.toList∧
  ((k∉[("if" : Str), "while"]∧fT s=(k::u::us).map V.str∧∀ x∈k::u::us,32∉x.cps.toList)∨(k∈[("if" : Str), "while"]∧∃ n:Int,us=[]∧u=aO n∧fT s=[.str k,.int n]∧b5 (.int n)=true)):=fun k u us h1 h2 h3 h4 h5=>by
  refine⟨k,u,us,h4,h1,.inl ⟨h2,h5,fun x hx=>?_⟩⟩
  rcases List.mem_cons.mp hx with rfl | z
  ·exact h1
  ·exact wf (h3 x z)
 cases s with
 | plain ws=>
  obtain⟨g1,g2,_⟩:=h
  cases g1 with
  | opn x=>exact go "open" x [] (by decide +kernel) (by decide +kernel) g2 rfl rfl
  | drp x=>exact go "drop" x [] (by decide +kernel) (by decide +kernel) g2 rfl rfl
  | cpy x y=>exact go "copy" x [y] (by decide +kernel) (by decide +kernel) g2 rfl rfl
  | tie x y=>exact go "tie" x [y] (by decide +kernel) (by decide +kernel) g2 rfl rfl
  | doo u x=>exact go "do" u [x] (by decide +kernel) (by decide +kernel) g2 rfl rfl
 | lend x y b=>
  obtain⟨_,_,w1,w2,_⟩:=h
  refine go "lend" x [y] (by decide +kernel) (by decide +kernel) (fun z hz=>?_) rfl rfl
  simp only[List.mem_cons,List.not_mem_nil,or_false]at hz
  rcases hz with rfl | rfl <;> assumption
 | ite n b c=>exact⟨"if", aO n,[],rfl,by decide +kernel,.inr ⟨by simp,n,rfl,rfl,rfl,h.1⟩⟩
 | whl n b=>exact⟨"while", aO n,[],rfl,by decide +kernel,.inr ⟨by simp,n,rfl,rfl,rfl,h.1⟩⟩
theorem wI{nm:List Str}(D:DefAt K mg "head_in" cz) (z_tuple:mg "tuple" = none) (c_bound_in:bf P w K mg base 2 "bound_in" ["text"] oS):bf P w K mg base 3 "head_in" ["line"] (m9 nm):=by
 refine D.cal (k:=2) sc_head_in (fun _ _ _ _ _ _ us hl=>match us,hl with | [_],_=>rfl) (fun vs H Q E h=>by obtain⟨s,rfl,_⟩:=h; rfl) (fun f cdv A outer sh H vs Q E hr h=>?_)
 obtain⟨s,rfl,hg,hl,q⟩:=h
 refine⟨_,(af (aw 1 sc_head_in.nd (bL K PySem.F.plainAttrs_str PySem.F.slot_str_partition PySem.F.type_str_partition lO (pv 0 (hv:=y8)) (aa ah ac)) (hx:=Dy))
   (af (bq (aH (jW K) (bd (bG K) (pv 1 (hv:=sL)) aj (fun _ _=>rfl)) (dM (aa ah (aa ah ac))) (by with_unfolding_all rfl)) (al (ax (dM (aa (bd (bG K) (pv 1 (hv:=sL)) aj (fun _ _=>rfl)) (aa (aE c_bound_in hr (aa (bd (bG K) (pv 1 (hv:=sL)) aj (fun _ _=>rfl)) ac) (hg:=CI)) ac))))) aP)
   (al (ax (dA (jD K) z_tuple jo (aa (bL K PySem.F.plainAttrs_str PySem.F.slot_str_split PySem.F.type_str_split ku (pv 0 (hv:=y8)) (aa ah ac)) ac) (hg:=BU)))))),?_⟩
 obtain⟨k,u,us,e1,hk,hc⟩:=kT hg
 rw[e1]at hl
 walk_at "rd1"
 rw[e1]
 refine⟨by decide +kernel,by omega,fun p1 hp1=>?_⟩
 rw[w6 hk]
 have s1:=au hp1 (.tup [V.str k,.str (Str.ofString " "),.str (Txt.join " " (u::us))])
 have e2:upd H p1 (.tup [V.str k,.str (Str.ofString " "),.str (Txt.join " " (u::us))]) p1=some (.tup [V.str k,.str (Str.ofString " "),.str (Txt.join " " (u::us))]):=ai
 generalize upd H p1 (.tup [V.str k,.str (Str.ofString " "),.str (Txt.join " " (u::us))])=H1 at s1 e2 ⊢
 walk_at "nx"
 refine⟨_,_,.inr (SqT.of e2),eD,by decide,fun p2 hp2=>?_⟩
 have s2:=au hp2 (.tup [V.str "if", .str "while"])
 have e3:upd H1 p2 (.tup [V.str "if", .str "while"]) p2=some (.tup [V.str "if", .str "while"]):=ai
 generalize upd H1 p2 (.tup [V.str "if", .str "while"])=H2 at s2 e3 ⊢
 walk_at "rd1"
 refine⟨_,.inr (SqT.of e3),rfl,rfl,?_⟩
 rw[ye]
 rcases hc with ⟨c1,c2,c3⟩ | ⟨c1,n,rfl,rfl,c2,c3⟩
 ·refine aB (fun c=>absurd (of_decide_eq_true c) c1) (fun _=>?_)
  walk_at "nx"
  refine⟨by decide +kernel,by omega,fun p3 hp3=>?_⟩
  rw[cR (by simp) c3,← c2]
  have s3:=au hp3 (.lst (fT s))
  have e4:upd H2 p3 (.lst (fT s)) p3=some (.lst (fT s)):=ai
  generalize upd H2 p3 (.lst (fT s))=H3 at s3 e4 ⊢
  refine⟨_,.inl ⟨SqL.of e4,fun t ht=>?_⟩⟩
  exact q t _ (((s1.trans s2).trans s3).trans (au ht _)) (((s1.trans s2).trans s3).free ht) ai
 ·refine aB (fun _=>?_) (fun c=>absurd (decide_eq_true c1) c)
  refine⟨_,_,.inr (SqT.of (s2 _ _ e2)),eD,_,_,.inr (SqT.of (s2 _ _ e2)),bn (j:=2) rfl,?_⟩
  walk_at "rd1"
  refine⟨n,rfl,c3,fun H3 s3=>⟨by decide,fun t ht=>?_⟩⟩
  exact q t _ (((s1.trans s2).trans s3).trans (au ht _)) (((s1.trans s2).trans s3).free ht) (by rw[ai,c2])
abbrev bD:List Str:=["back", "else", "fi", "done"]
theorem Aq{nm:List Str}{f:List ak→Prop}:∀ {s:ak},iw nm f s→∃ tl,fT s = .str (kindOf s)::tl∧aI (kindOf s)=gn s
 | .plain ws,h=>by
  obtain⟨g1,_,_⟩:=h
  cases g1 with
  | opn x=>exact⟨_,rfl,(by decide +kernel:aI "open" = [])⟩
  | drp x=>exact⟨_,rfl,(by decide +kernel:aI "drop" = [])⟩
  | cpy x y=>exact⟨_,rfl,(by decide +kernel:aI "copy" = [])⟩
  | tie x y=>exact⟨_,rfl,(by decide +kernel:aI "tie" = [])⟩
  | doo u x=>exact⟨_,rfl,(by decide +kernel:aI "do" = [])⟩
 | .lend x y b,_=>⟨_,rfl,(by decide +kernel:aI "lend" = [("back" : Str)])⟩
 | .ite n b c,_=>⟨_,rfl,(by decide +kernel:aI "if" = [("else" : Str), "fi"])⟩
 | .whl n b,_=>⟨_,rfl,(by decide +kernel:aI "while" = [("done" : Str)])⟩
theorem wG:∀ s:ak,(gn s).length=(a_ s).length
 | .plain _=>rfl
 | .lend _ _ _=>rfl
 | .ite _ _ _=>rfl
 | .whl _ _=>rfl
theorem ma:∀ s:ak,∀ c∈gn s,c∈bD
 | .plain _=>fun c h=>by cases h
 | .lend _ _ _=>(by decide +kernel:∀ c∈[("back" : Str)],c∈bD)
 | .ite _ _ _=>(by decide +kernel:∀ c∈[("else" : Str), "fi"],c∈bD)
 | .whl _ _=>(by decide +kernel:∀ c∈[("done" : Str)],c∈bD)
theorem lT{nm:List Str}{f:List ak→Prop}:∀ {s:ak},iw nm f s→∀ b∈a_ s,f b
 | .plain _,_=>fun b hb=>by cases hb
 | .lend _ _ _,h=>fun b hb=>by rw[List.mem_singleton.mp hb]; exact h.2.2.2.2
 | .ite _ c e,h=>fun b hb=>by
  have z:b=c∨b=e:=by simpa [a_] using hb
  rcases z with z | z <;> rw[z]
  ·exact h.2.1
  ·exact h.2.2
 | .whl _ _,h=>fun b hb=>by rw[List.mem_singleton.mp hb]; exact h.2
theorem Al:∀ s:ak,(a_ s).length≤2
 | .plain _=>by simp[a_]
 | .lend _ _ _=>by simp[a_]
 | .ite _ _ _=>by simp[a_]
 | .whl _ _=>by simp[a_]
theorem Bx{PA:Addr→List ak→Prop}{H:Hp}{a:Addr}{qs:List Addr}:∀ {s:ak},Paired PA qs (a_ s)→H a=some (.tup (fT s++qs.map V.ref))→stpAt PA H a s
 | .plain ws,.nil,h=>by
  have h':H a=some (.tup (ws.map V.str++[])):=h
  rw[List.append_nil]at h'; exact h'
 | .lend x y b,.cons (a:=q) z .nil,h=>⟨q,h,z⟩
 | .ite n b c,.cons (a:=q) z (.cons (a:=r) y .nil),h=>⟨q,r,h,z,y⟩
 | .whl n b,.cons (a:=q) z .nil,h=>⟨q,h,z⟩
theorem sk{nm:List Str}{f:List ak→Prop}{s:ak}(h:iw nm f s):cZ s∉bD:=fun z=>by
 obtain⟨k,u,us,e1,_⟩:=kT (qX h)
 have h32:32∈(cZ s).cps.toList:=by
  rw[e1,cb]
  exact List.mem_append.mpr (.inr (List.mem_append.mpr (.inl (by decide +kernel))))
 exact(by decide +kernel:∀ x∈bD,32∉x.cps.toList) _ z h32
def oh(nm:List Str)(d:Nat):Sp:=fun vs H Q _=>∃ (lp:Addr) (at_:Nat) (L bg:List Str) (T:List ak),vs=[.ref lp,.int (at_:Int)]∧H lp=some (.lst (L.map V.str))∧L.drop at_=aK d T++bg∧(∀ c r,bg=c::r→c∈bD)∧de nm d T∧L.length≤500∧(∀ x∈L,x.length≤3000)∧at_≤L.length∧
 ∀ (t p:Addr) (H':Hp),Same H H'→H' t=some (.tup [.ref p,.int ((at_+(aK d T).length:Nat):Int)])→ProgAt (fun b=>H b=none) d H' p T→Q (.ref t) H'
def Ao(nm:List Str)(d:Nat):Sp:=fun vs H Q _=>∃ (lp:Addr) (at_:Nat) (L bg:List Str) (s:ak),vs=[.ref lp,.int (at_:Int)]∧H lp=some (.lst (L.map V.str))∧L.drop at_=bz (aK d) s++bg∧iw nm (de nm d) s∧L.length≤500∧(∀ x∈L,x.length≤3000)∧
 ∀ (t a:Addr) (H':Hp),Same H H'→H' t=some (.tup [.ref a,.int ((at_+(bz (aK d) s).length:Nat):Int)])→stpAt (ProgAt (fun b=>H b=none) d H') H' a s→Q (.ref t) H'
theorem mP{L l:List Str}{x:Str}{n:Nat}(h:L.drop n=x::l):L[n]? = some x∧n<L.length∧L.drop (n+1)=l:=by
 have h1:L[n]? = some x:=by
  have:=congrArg (·[0]?) h
  simpa using this
 refine⟨h1,(List.getElem?_eq_some_iff.mp h1).1,?_⟩
 rw[← List.drop_drop,h]; rfl
theorem qB{L l r:List Str}{n:Nat}(h:L.drop n=l++r):L.drop (n+l.length)=r:=by
 rw[← List.drop_drop,h,List.drop_left]
theorem Bo{H H':Hp}{bp cp:Addr}{xs ys:List V}(f:sj H H' (fun b=>b=bp))(hb:H bp=some (.lst ys))(h:SqT K H cp xs):SqT K H' cp xs:=by
 rcases h with (h | ⟨o,h⟩) | h
 ·exact .inl (.inl (f _ _ h (fun z=>by rw[z,hb]at h; cases h)))
 ·exact .inl (.inr ⟨o,f _ _ h (fun z=>by rw[z,hb]at h; cases h)⟩)
 ·exact .inr h
theorem rY{nm:List Str}{d:Nat}(D:DefAt K mg "step_from" aV) (z_tuple:mg "tuple" = none) (c_head_in:bf P w K mg base 3 "head_in" ["line"] (m9 nm)) (c_closers_of:bf P w K mg base 1 "closers_of" ["kind"] (dE K)) (c_steps_from:bf P w K mg base (2 * d+6) "steps_from" ["lines", "at"] (oh nm d)) :
  bf P w K mg base (2 * d+7) "step_from" ["lines", "at"] (Ao nm d):=by
 refine D.cal (k:=2 * d+6) sc_step_from (fun _ _ _ _ _ _ us hl=>match us,hl with | [_,_],_=>rfl) (fun vs H Q E h=>by obtain⟨_,_,_,_,_,rfl,_⟩:=h; rfl) (fun f cdv A outer sh H vs Q E hr h=>?_)
 obtain⟨lp,at_,L,bg,s,rfl,hlp,hL,hg,hn,hx,q⟩:=h
 refine⟨_,(af (aw 2 sc_step_from.nd (aE c_head_in hr (aa (bd (bG K) (pv 0 (hv:=uO)) (pv 1 (hv:=u6)) (fun _ _=>rfl)) ac) (hg:=CB) (hle:=by omega)) (hx:=DD))
   (af (aw 3 sc_step_from.nd (aT ac) (hx:=DB))
   (af (aw 4 sc_step_from.nd (am ap (pv 1 (hv:=u6)) aj) (hx:=y_))
   (af (gi PassesOwn.never rfl (mj K (aE c_closers_of hr (aa (bd (bG K) (pv 2 (hv:=vf)) aj (fun _ _=>rfl)) ac) (hg:=Co) (hle:=by omega))) (bX 5 sc_step_from.nd (hx:=DY)) (af (aw 6 sc_step_from.nd (aE c_steps_from hr (aa (pv 0 (hv:=uO)) (aa (pv 4 (hv:=uZ)) ac)) (hg:=BL) (hle:=by omega)) (hx:=DQ))
   (af (dk (bL K PySem.F.plainAttrs_list PySem.F.slot_list_append PySem.F.type_list_append cQ (pv 3 (hv:=uw)) (aa (bd (bG K) (pv 6 (hv:=uC)) aj (fun _ _=>rfl)) ac)))
   (al (aw 4 sc_step_from.nd (am ap (bd (bG K) (pv 6 (hv:=uC)) aj (fun _ _=>rfl)) aj) (hx:=y_))))))
   (al (ax (dM (aa (am (qi K) (pv 2 (hv:=vf)) (dA (jD K) z_tuple jo (aa (pv 3 (hv:=uw)) ac) (hg:=AU))) (aa (pv 4 (hv:=uZ)) ac))))))))),?_⟩
 rw[eC,List.cons_append]at hL
 obtain⟨h0,hlt,hL1⟩:=mP hL
 obtain⟨tl,hk,hcl⟩:=Aq hg
 have hcn:=wG s
 have hb2:=Al s
 walk_at "rd1"
 refine⟨_,_,.inl (SqL.of hlp),bn (by rw[List.getElem?_map,h0]; rfl),?_⟩
 walk_at "rd1"
 refine⟨s,rfl,qX hg,hx _ (List.mem_of_getElem? h0),fun th H1 s1 hth eh=>?_⟩
 walk_at "nx"
 refine⟨by decide,fun bp hbp=>?_⟩
 generalize hH2:upd H1 bp _=H2
 have s2:=av hH2 hbp
 have e2:=aJ hH2
 clear hH2
 walk_at "nx"
 walk_at "nx"
 refine⟨_,_,.inr (SqT.of (s2 _ _ eh)),(by rw[hk]; exact eD),?_⟩
 walk_at "rd1"
 refine⟨kindOf s,rfl,fun cp H3 s3 hcp=>?_⟩
 rw[hcl]at hcp
 walk_at "rd1"
 have sH3:Same H H3:=(s1.trans s2).trans s3
 have hbpH:H bp=none:=s1.free hbp
 refine⟨⟨_,hcp⟩,?_⟩
 refine mF (xs:=(gn s).map V.str) (fun i σ H'=>∃ (qs:List Addr) (o5 o6:Option V) (pl:Nat),σ=[some (.ref lp),some (.int (at_:Int)),some (.ref th),some (.ref bp),some (.int (pl:Int)),o5,o6]∧sj H3 H' (fun b=>b=bp)∧Same H H'∧H' bp=some (.lst (qs.map V.ref))∧Paired (ProgAt (fun b=>H b=none∧b≠bp) d H') qs ((a_ s).take i)∧
   L.drop pl=br (((a_ s).drop i).map (aK d)) ((gn s).drop i)++bg∧pl+(br (((a_ s).drop i).map (aK d)) ((gn s).drop i)).length=at_+(bz (aK d) s).length∧pl≤L.length)
  ⟨[],none,none,at_+1,rfl,fun b o e _=>e,sH3,s3 _ _ e2,.nil,hL1,by rw[eC,List.length_cons]; simp; omega,by omega⟩ ?_ ?_ ?_
 ·rintro i σ H' _ ⟨qs,o5,o6,pl,_,fr,_⟩
  exact Bo fr (s3 _ _ e2) hcp
 ·rintro i x σ H' hxi ⟨qs,o5,o6,pl,rfl,fr,sH',hbl,hqs,hLp,hpl,hple⟩
  have hi:i<(gn s).length:=by have:=(List.getElem?_eq_some_iff.mp hxi).1; simpa using this
  have hib:i<(a_ s).length:=by omega
  rw[List.getElem?_map,List.getElem?_eq_getElem hi]at hxi
  cases hxi
  have db:(a_ s).drop i=(a_ s)[i]::(a_ s).drop (i+1):=List.drop_eq_getElem_cons hib
  have dc:(gn s).drop i=(gn s)[i]::(gn s).drop (i+1):=List.drop_eq_getElem_cons hi
  rw[db,dc,List.map_cons]at hLp hpl
  have ecl:br (aK d (a_ s)[i]::((a_ s).drop (i+1)).map (aK d)) ((gn s)[i]::(gn s).drop (i+1))=(aK d (a_ s)[i]++[(gn s)[i]])++br (((a_ s).drop (i+1)).map (aK d)) ((gn s).drop (i+1)):=rfl
  rw[ecl]at hLp hpl
  rw[List.append_assoc,List.append_assoc]at hLp
  have hbm:=List.getElem_mem hib
  have hcm:=List.getElem_mem hi
  have htk:(a_ s).take (i+1)=(a_ s).take i++[(a_ s)[i]]:=by rw[List.take_add_one,List.getElem?_eq_getElem hib]; rfl
  rw[htk]
  have hce:=ma s _ hcm
  have hgb:=lT hg _ hbm
  generalize (a_ s)[i]=b at hLp hpl hgb ⊢
  generalize (gn s)[i]=c at hLp hpl hce ⊢
  have hql:=bY hqs
  rw[List.length_take]at hql
  walk_at "rd1"
  refine⟨lp,pl,L,_,b,rfl,sH' _ _ hlp,hLp,(fun c' r' e=>by cases e; exact hce),hgb,hn,hx,hple,fun t p H'' s'' et hP=>?_⟩
  walk_at "nx"
  refine⟨⟨_,SqL.of (s'' _ _ hbl)⟩,_,_,.inr (SqT.of et),eD,_,s'' _ _ hbl,ao (by rw[List.length_map]; omega),?_⟩
  have etb:t≠bp:=fu et (s'' _ _ hbl) (fun z=>nomatch z)
  have hup:∀ b o,H'' b=some o→b≠bp→upd H'' bp (.lst (qs.map V.ref++[.ref p])) b=some o:=fun b o e n=>by rw[aA n]; exact e
  have htup:∀ b xs,H'' b=some (.tup xs)→upd H'' bp (.lst (qs.map V.ref++[.ref p])) b=some (.tup xs):=fun b xs e=>hup b _ e (fu e (s'' _ _ hbl) (fun z=>nomatch z))
  have hP':ProgAt (fun b=>H b=none∧b≠bp) d (upd H'' bp (.lst (qs.map V.ref++[.ref p]))) p b:=ProgAt.imp htup (fun b xs hb e=>hup b _ e (fun z=>by rw[z,hbl]at hb; cases hb)) (fun b hb=>⟨sH'.free hb,fun z=>by rw[z,hbl]at hb; cases hb⟩) d hP
  have hqs':Paired (ProgAt (fun b=>H b=none∧b≠bp) d (upd H'' bp (.lst (qs.map V.ref++[.ref p])))) qs ((a_ s).take i):=Paired.imp' (fun q b z=>ProgAt.imp htup (fun b xs hb e=>hup b _ e hb.2) (fun _ z=>z) d (z.mono s'')) hqs
  have htt:=hup _ _ et etb
  have hbb:upd H'' bp (.lst (qs.map V.ref++[.ref p])) bp=some (.lst ((qs++[p]).map V.ref)):=by rw[ai,List.map_append]; rfl
  have hfr:sj H3 (upd H'' bp (.lst (qs.map V.ref++[.ref p]))) (fun b=>b=bp):=fun b o e n=>hup b o (s'' _ _ (fr b o e n)) n
  have hsm:Same H (upd H'' bp (.lst (qs.map V.ref++[.ref p]))):=(sH'.trans s'').upd hbpH _
  generalize upd H'' bp (.lst (qs.map V.ref++[.ref p]))=HX at hP' hqs' htt hbb hfr hsm ⊢
  walk_at "nx"
  refine⟨_,_,.inr (SqT.of htt),bn (j:=1) rfl,?_⟩
  walk_at "rd1"
  have hdr:=qB hLp
  have hL2:=(mP hdr)
  refine⟨qs++[p],_,_,pl+(aK d b).length+1,rfl,hfr,hsm,hbb,jQ hP' hqs',hL2.2.2,?_,by have:=hL2.2.1; omega⟩
  rw[List.length_append,List.length_append,List.length_singleton]at hpl
  omega
 ·rintro σ H' ⟨qs,o5,o6,pl,rfl,fr,sH',hbl,hqs,hLp,hpl,hple⟩
  rw[List.length_map,hcn]at hqs hpl
  rw[List.take_length]at hqs
  rw[List.drop_length,← hcn,List.drop_length]at hpl
  have hpl':pl=at_+(bz (aK d) s).length:=by simpa [br] using hpl
  have hql:=bY hqs
  have eth:H' th=some (.tup (fT s)):=fr _ _ (s3 _ _ (s2 _ _ eh)) (fun z=>by rw[z]at eh; rw[hbp]at eh; cases eh)
  have hne:fT s≠[]:=by rw[hk]; simp
  have hhl:(fT s).length≤10:=by
   cases s with
   | plain ws=>obtain⟨g1,_⟩:=hg; cases g1 <;> simp[fT]
   | lend x y b=>simp[fT]
   | ite n b c=>simp[fT]
   | whl n b=>simp[fT]
  walk_at "nx"
  refine⟨_,.inl ⟨SqL.of hbl,fun bt hbt=>?_⟩⟩
  have s4:=au hbt (.tup (qs.map V.ref))
  have e4:upd H' bt (.tup (qs.map V.ref)) bt=some (.tup (qs.map V.ref)):=ai
  generalize upd H' bt (.tup (qs.map V.ref))=H4 at s4 e4 ⊢
  have hS:∀ b,H b=none∧b≠bp→H b=none:=fun b z=>z.1
  have fin:∀ (a:Addr) (H5:Hp),Same H' H5→H5 a=some (.tup (fT s++qs.map V.ref))→2≤sizeLine∧∀ (p:Addr),H5 p=none→Q (V.ref p) (upd H5 p (HO.tup [V.ref a,V.int (pl:Int)])):=fun a H5 s5 e5=>by
   refine⟨by decide,fun t ht=>?_⟩
   have s6:=au ht (.tup [V.ref a,V.int (pl:Int)])
   refine q t a _ ((sH'.trans s5).trans s6) (by rw[ai,hpl']) (Bx (qs:=qs) ?_ (s6 _ _ e5))
   exact Paired.imp' (fun q b z=>ProgAt.imp (fun b xs e=>s6 _ _ (s5 _ _ e)) (fun b xs _ e=>s6 _ _ (s5 _ _ e)) hS d z) hqs
  refine⟨_,_,SqT.of (s4 _ _ eth),SqT.of e4,hne,ao (by rw[List.length_map]; omega),fun z=>?_,fun _ a ha=>?_⟩
  ·exact fin th H4 s4 (by rw[z,List.append_nil]; exact s4 _ _ eth)
  ·exact fin a _ (s4.trans (au ha _)) ai
theorem qd{nm:List Str}:∀ {d:Nat} {T:List ak},de nm (d+1) T→∀ s∈T,iw nm (de nm d) s
 | 0,T,h=>fun s hs=>by
  have h':T=[]:=h
  rw[h']at hs; cases hs
 | _+1,_,h=>h
theorem wl(d:Nat):∀ T:List ak,T.length≤(aK (d+1) T).length
 | []=>Nat.zero_le _
 | s::T=>by
  have ih:=wl d T
  have e:aK (d+1) (s::T)=bz (aK d) s++aK (d+1) T:=by show List.flatMap _ _=_; rw[List.flatMap_cons]; rfl
  rw[e,List.length_append,eC,List.length_cons,List.length_cons]; omega
theorem sC(k:Str):kZ (.str k) [V.str "back", V.str "else", V.str "fi", V.str "done"]=decide (k∈bD):=oN k bD
theorem qA{nm:List Str}{ae:Addr}(D:DefAt K mg "steps_from" bi) (DS:DefAt K mg "step_from" aV) (z_tuple:mg "tuple" = none) (z_len:mg "len" = none) (g_ENDS:mg "ENDS" = some (.ref ae)) (q_ENDS:∀ H:Hp,SqT K H ae [.str "back", .str "else", .str "fi", .str "done"]) (c_head_in:bf P w K mg base 3 "head_in" ["line"] (m9 nm)) (c_closers_of:bf P w K mg base 1 "closers_of" ["kind"] (dE K)) :
  ∀ d:Nat,bf P w K mg base (2 * d+6) "steps_from" ["lines", "at"] (oh nm d)
 | 0=>D.cal (k:=5) sc_steps_from (fun _ _ _ _ _ _ us hl=>match us,hl with | [_,_],_=>rfl) (fun vs H Q E h=>by obtain⟨_,_,_,_,_,rfl,_⟩:=h; rfl) (fun f cdv A outer sh H vs Q E hr h=>by obtain⟨_,_,_,_,_,rfl,_,_,_,z,_⟩:=h; exact z.elim)
 | d+1=>by
  have c_step_from:=rY DS z_tuple c_head_in c_closers_of (qA D DS z_tuple z_len g_ENDS q_ENDS c_head_in c_closers_of d)
  refine D.cal (k:=2 * d+7) sc_steps_from (fun _ _ _ _ _ _ us hl=>match us,hl with | [_,_],_=>rfl) (fun vs H Q E h=>by obtain⟨_,_,_,_,_,rfl,_⟩:=h; rfl) (fun f cdv A outer sh H vs Q E hr h=>?_)
  obtain⟨lp,at_,L,bg,T,rfl,hlp,hL,hre,hg,hn,hx,hat,q⟩:=h
  have hall:=qd hg
  have hTn:T.length≤500:=by
   have h1:=congrArg List.length hL
   rw[List.length_drop,List.length_append]at h1
   have h2:=wl d T
   omega
  refine⟨_,(af (aw 2 sc_steps_from.nd (aT ac) (hx:=Dv))
   (af (aw 3 sc_steps_from.nd (pv 1 (hv:=BC)) (hx:=zl))
   (af (qz PassesOwn.never (PW.pt' (fk (aH ig (pv 3 (hv:=lK)) (aL (aW K) z_len bM (aa (pv 0 (hv:=og)) ac) (hg:=CD)) (aG _)) (fS (aH (lH K) (bd (bG K) (pv 0 (hv:=og)) (pv 3 (hv:=lK)) (fun _ _=>rfl)) (i7 g_ENDS (hg:=A5)) (by with_unfolding_all rfl))))) (af (aw 4 sc_steps_from.nd (aE c_step_from hr (aa (pv 0 (hv:=og)) (aa (pv 3 (hv:=lK)) ac)) (hg:=CH) (hle:=by omega)) (hx:=DL))
   (af (dk (bL K PySem.F.plainAttrs_list PySem.F.slot_list_append PySem.F.type_list_append cQ (pv 2 (hv:=t_)) (aa (bd (bG K) (pv 4 (hv:=uN)) aj (fun _ _=>rfl)) ac)))
   (al (aw 3 sc_steps_from.nd (bd (bG K) (pv 4 (hv:=uN)) aj (fun _ _=>rfl)) (hx:=zl))))))
   (al (ax (dM (aa (pv 2 (hv:=t_)) (aa (pv 3 (hv:=lK)) ac)))))))),?_⟩
  walk_at "rd1"
  refine⟨by decide,fun sp hsp=>?_⟩
  generalize hH1:upd H sp _=H1
  have s1:=av hH1 hsp
  have e1:=aJ hH1
  clear hH1
  walk_at "nx"
  walk_at "nx"
  refine⟨fun m σ H'=>∃ (i pl:Nat) (as:List Addr) (o4:Option V),m=T.length - i∧i≤T.length∧σ=[some (.ref lp),some (.int (at_:Int)),some (.ref sp),some (.int (pl:Int)),o4]∧Same H H'∧H' sp=some (.lst (as.map V.ref))∧Paired (stpAt (ProgAt (fun b=>H b=none∧b≠sp) d H') H') as (T.take i)∧
   L.drop pl=aK (d+1) (T.drop i)++bg∧pl+(aK (d+1) (T.drop i)).length=at_+(aK (d+1) T).length∧pl≤L.length,
   ⟨T.length,0,at_,[],none,rfl,Nat.zero_le _,rfl,s1,e1,.nil,hL,rfl,hat⟩,?_⟩
  rintro m σ H' ⟨i,pl,as,o4,rfl,hi,rfl,sH',hsl,hst,hLp,hpl,hple⟩
  have hal:=bY hst
  rw[List.length_take]at hal
  have stop:i=T.length→ir (lB (qe (bQ (bu 2) (bQ (bu 3) cV)))) { nx:=fun x H'=>Q V.non H',rt:=Q } [some (.ref lp),some (.int (at_:Int)),some (.ref sp),some (.int (pl:Int)),o4] H':=fun e=>by
   subst e
   rw[List.drop_length]at hpl
   rw[List.take_length]at hst
   have hpl':pl=at_+(aK (d+1) T).length:=by simpa [aK] using hpl
   walk_at "nx"
   refine⟨by decide,fun t ht=>?_⟩
   have s6:=au ht (.tup [V.ref sp,V.int (pl:Int)])
   refine q t sp _ (sH'.trans s6) (by rw[ai,hpl']) ⟨hsp,as,s6 _ _ hsl,?_⟩
   exact Paired.imp' (fun a s z=>stpAt.imp (fun b xs e=>s6 _ _ e) (fun q b y=>ProgAt.imp (fun b xs e=>s6 _ _ e) (fun b xs _ e=>s6 _ _ e) (fun b z=>z.1) d y) z) hst
  walk_at "rd1"
  refine⟨_,.inl (SqL.of (sH' _ _ hlp)),?_⟩
  rw[List.length_map]
  by_cases hit:i<T.length
  ·have dT:T.drop i=T[i]::T.drop (i+1):=List.drop_eq_getElem_cons hit
   have eln:aK (d+1) (T.drop i)=bz (aK d) T[i]++aK (d+1) (T.drop (i+1)):=by rw[dT]; show List.flatMap _ _=_; rw[List.flatMap_cons]; rfl
   rw[eln,List.append_assoc]at hLp
   rw[eln,List.length_append]at hpl
   have hgs:=hall _ (List.getElem_mem hit)
   have htk:T.take (i+1)=T.take i++[T[i]]:=by rw[List.take_add_one,List.getElem?_eq_getElem hit]; rfl
   generalize T[i]=s at hLp hpl hgs htk
   have hLh:=hLp
   rw[eC,List.cons_append]at hLh
   obtain⟨h0,hlt,_⟩:=mP hLh
   refine aB (fun _=>?_) (fun c=>absurd (by omega) c)
   refine⟨_,_,.inl (SqL.of (sH' _ _ hlp)),bn (by rw[List.getElem?_map,h0]; rfl),?_⟩
   walk_at "rd1"
   refine⟨_,.inr (q_ENDS H'),rfl,rfl,?_⟩
   rw[sC,decide_eq_false (sk hgs)]
   refine aB (fun _=>?_) (fun c=>absurd (by decide) c)
   refine⟨fun σ' H''=>∃ (pl:Nat) (as:List Addr) (o4:Option V),σ'=[some (.ref lp),some (.int (at_:Int)),some (.ref sp),some (.int (pl:Int)),o4]∧Same H H''∧H'' sp=some (.lst (as.map V.ref))∧Paired (stpAt (ProgAt (fun b=>H b=none∧b≠sp) d H'') H'') as (T.take (i+1))∧
    L.drop pl=aK (d+1) (T.drop (i+1))++bg∧pl+(aK (d+1) (T.drop (i+1))).length=at_+(aK (d+1) T).length∧pl≤L.length,
    fun σ' H'' ⟨pl',as',o4',z⟩=>⟨T.length - (i+1),by omega,i+1,pl',as',o4',rfl,hit,z⟩,?_⟩
   refine⟨lp,pl,L,_,s,rfl,sH' _ _ hlp,hLp,hgs,hn,hx,fun t a H'' s'' et hP=>?_⟩
   walk_at "nx"
   refine⟨⟨_,SqL.of (s'' _ _ hsl)⟩,_,_,.inr (SqT.of et),eD,_,s'' _ _ hsl,ao (by rw[List.length_map]; omega),?_⟩
   have hsp'':=s'' _ _ hsl
   have hup:∀ b o,H'' b=some o→b≠sp→upd H'' sp (.lst (as.map V.ref++[.ref a])) b=some o:=fun b o e n=>by rw[aA n]; exact e
   have htup:∀ b xs,H'' b=some (.tup xs)→upd H'' sp (.lst (as.map V.ref++[.ref a])) b=some (.tup xs):=fun b xs e=>hup b _ e (fu e hsp'' (fun z=>nomatch z))
   have hP':stpAt (ProgAt (fun b=>H b=none∧b≠sp) d (upd H'' sp (.lst (as.map V.ref++[.ref a])))) (upd H'' sp (.lst (as.map V.ref++[.ref a]))) a s:=stpAt.imp htup (fun q b y=>ProgAt.imp htup (fun b xs hb e=>hup b _ e (fun z=>by rw[z,hsl]at hb; cases hb)) (fun b hb=>⟨sH'.free hb,fun z=>by rw[z,hsl]at hb; cases hb⟩) d y) hP
   have hst':Paired (stpAt (ProgAt (fun b=>H b=none∧b≠sp) d (upd H'' sp (.lst (as.map V.ref++[.ref a])))) (upd H'' sp (.lst (as.map V.ref++[.ref a])))) as (T.take i):=Paired.imp' (fun a s z=>stpAt.imp (fun b xs e=>htup _ _ (s'' _ _ e)) (fun q b y=>ProgAt.imp htup (fun b xs hb e=>hup b _ e hb.2) (fun _ z=>z) d (y.mono s'')) z) hst
   have htt:=htup _ _ et
   have hbb:upd H'' sp (.lst (as.map V.ref++[.ref a])) sp=some (.lst ((as++[a]).map V.ref)):=by rw[ai,List.map_append]; rfl
   have hsm:Same H (upd H'' sp (.lst (as.map V.ref++[.ref a]))):=(sH'.trans s'').upd hsp _
   generalize upd H'' sp (.lst (as.map V.ref++[.ref a]))=HX at hP' hst' htt hbb hsm ⊢
   walk_at "nx"
   refine⟨_,_,.inr (SqT.of htt),bn (j:=1) rfl,?_⟩
   walk_at "rd1"
   have hdr:=qB hLp
   refine⟨pl+(bz (aK d) s).length,as++[a],_,rfl,hsm,hbb,by rw[htk]; exact jQ hP' hst',hdr,by omega,?_⟩
   have hll:=congrArg List.length hLp
   rw[List.length_drop,List.length_append]at hll
   omega
  ·have hii:i=T.length:=by omega
   have hst':=stop hii
   rw[hii,List.drop_length]at hLp
   have hLp':L.drop pl=bg:=hLp
   refine aB (fun c=>?_) (fun _=>hst')
   have hlt:pl<L.length:=by omega
   have hd:L.drop pl=L[pl]::L.drop (pl+1):=List.drop_eq_getElem_cons hlt
   rw[hd]at hLp'
   have hin:=hre _ _ hLp'.symm
   refine⟨_,_,.inl (SqL.of (sH' _ _ hlp)),bn (by rw[List.getElem?_map,List.getElem?_eq_getElem hlt]; rfl),?_⟩
   refine⟨_,.inr (q_ENDS H'),rfl,rfl,?_⟩
   rw[sC,decide_eq_true hin]
   exact aB (fun c=>absurd c (by decide)) (fun _=>hst')
theorem lE{n:Int}(h:b5 (.int n)=true):(aO n).length≤61∧10∉(aO n).cps.toList:=by
 have hb:(if n<0 then -n else n)<10 ^ 60:=of_decide_eq_true h
 cases n with
 | ofNat m=>
  have hm:m<10 ^ 60:=by
   have:¬ (Int.ofNat m<0):=by simp
   rw[if_neg this]at hb
   have hb':((m:Nat):Int)<10 ^ 60:=hb
   omega
  have hl:=(kh hm).2
  refine⟨by show (aO (m:Int)).length≤61; omega,fun z=>?_⟩
  have e:=cH m
  have h3:=(bR m).1 10 (by rw[← e]; exact z)
  omega
 | negSucc m=>
  have hm:m+1<10 ^ 60:=by
   rw[if_pos (Int.negSucc_lt_zero m)]at hb
   have:-(Int.negSucc m)=((m+1:Nat):Int):=rfl
   rw[this]at hb
   omega
  have hl:=(kh hm).2
  have hs:=eI m
  refine⟨?_,fun z=>?_⟩
  ·have a1:=congrArg List.length hs
   have a2:=congrArg List.length (cH (m+1))
   rw[List.length_cons,← a2]at a1
   have b1:(aO (Int.negSucc m)).cps.toList.length=(aO (Int.negSucc m)).length:=Array.length_toList
   have b2:(aO ((m+1:Nat):Int)).cps.toList.length=(aO ((m+1:Nat):Int)).length:=Array.length_toList
   omega
  ·rw[hs]at z
   rcases List.mem_cons.mp z with z | z
   ·cases z
   ·have:=(bR (m+1)).1 10 z
    omega
theorem eR:∀ (ws:List Str),(∀ x∈ws,x.length≤61∧10∉x.cps.toList)→(Txt.join " " ws).length≤ws.length * 62∧10∉(Txt.join " " ws).cps.toList
 | [],_=>⟨by decide +kernel,by decide +kernel⟩
 | [x],h=>by
  have:=h x List.mem_cons_self
  have e:Txt.join " " [x]=x:=rfl
  rw[e]
  exact⟨by simp; omega,this.2⟩
 | x::y::ws,h=>by
  obtain⟨h1,h2⟩:=eR (y::ws) fun z hz=>h z (List.mem_cons_of_mem _ hz)
  have hx:=h x List.mem_cons_self
  have e:=cb x y ws
  have e1:(Str.ofString " ").cps.toList=[32]:=by decide +kernel
  constructor
  ·have a:=congrArg List.length e
   rw[List.length_append,List.length_append,e1]at a
   have b1:(Txt.join " " (x::y::ws)).cps.toList.length=(Txt.join " " (x::y::ws)).length:=Array.length_toList
   have b2:(Txt.join " " (y::ws)).cps.toList.length=(Txt.join " " (y::ws)).length:=Array.length_toList
   have b3:x.cps.toList.length=x.length:=Array.length_toList
   simp only[List.length_cons,List.length_nil]at a h1 ⊢
   omega
  ·rw[e,e1]
   intro z
   rcases List.mem_append.mp z with z | z
   ·exact hx.2 z
   ·rcases List.mem_append.mp z with z | z
    ·exact absurd (List.mem_singleton.mp z) (by decide)
    ·exact h2 z
def ve(x:Str):Prop:=1≤x.length∧x.length≤200∧10∉x.cps.toList
theorem zO{nm:List Str}{f:List ak→Prop}{s:ak}(h:iw nm f s):ve (cZ s):=by
 have wd:∀ {x:Str},bw x=true→x.length≤61∧10∉x.cps.toList:=fun {x} hx=>⟨by have:=bU hx; omega,fun z=>(ij hx 10 z).2 rfl⟩
 have one:1≤(cZ s).length:=by
  obtain⟨k,u,us,e1,_⟩:=kT (qX h)
  have h32:32∈(cZ s).cps.toList:=by
   rw[e1,cb]
   exact List.mem_append.mpr (.inr (List.mem_append.mpr (.inl (by decide +kernel))))
  have b1:(cZ s).cps.toList.length=(cZ s).length:=Array.length_toList
  have:=List.length_pos_of_mem h32
  omega
 have go:∀ ws:List Str,cZ s=Txt.join " " ws→ws.length≤3→(∀ x∈ws,x.length≤61∧10∉x.cps.toList)→ve (cZ s):=fun ws e hl hw=>by
  obtain⟨a,b⟩:=eR ws hw
  rw[← e]at a b
  have:ws.length * 62≤3 * 62:=Nat.mul_le_mul hl (Nat.le_refl _)
  exact⟨one,by omega,b⟩
 cases s with
 | plain ws=>
  obtain⟨g1,g2,_⟩:=h
  have pl:∀ (k:Str) (us:List Str),ws=k::us→us.length≤2→(k.length≤61∧10∉k.cps.toList)→ve (cZ (.plain ws)):=fun k us e hl hk=>go ws rfl (by rw[e,List.length_cons]; omega) (fun x hx=>by
   rw[e]at hx g2
   rcases List.mem_cons.mp hx with rfl | z
   ·exact hk
   ·exact wd (g2 x z))
  cases g1 with
  | opn x=>exact pl _ _ rfl (by simp) (by decide +kernel)
  | drp x=>exact pl _ _ rfl (by simp) (by decide +kernel)
  | cpy x y=>exact pl _ _ rfl (by simp) (by decide +kernel)
  | tie x y=>exact pl _ _ rfl (by simp) (by decide +kernel)
  | doo u x=>exact pl _ _ rfl (by simp) (by decide +kernel)
 | lend x y b=>
  obtain⟨_,_,w1,w2,_⟩:=h
  refine go ["lend", x,y] rfl (by simp) (fun z hz=>?_)
  simp only[List.mem_cons,List.not_mem_nil,or_false]at hz
  rcases hz with rfl | rfl | rfl
  ·decide +kernel
  ·exact wd w1
  ·exact wd w2
 | ite n b c=>
  refine go ["if", aO n] rfl (by simp) (fun z hz=>?_)
  simp only[List.mem_cons,List.not_mem_nil,or_false]at hz
  rcases hz with rfl | rfl
  ·decide +kernel
  ·exact lE h.1
 | whl n b=>
  refine go ["while", aO n] rfl (by simp) (fun z hz=>?_)
  simp only[List.mem_cons,List.not_mem_nil,or_false]at hz
  rcases hz with rfl | rfl
  ·decide +kernel
  ·exact lE h.1
theorem kO:∀ {ls:List (List Str)} {cs:List Str} {x:Str},x∈br ls cs→(∃ l∈ls,x∈l)∨x∈cs
 | [],_,_,h=>by cases h
 | _::_,[],_,h=>by cases h
 | l::ls,c::cs,x,h=>by
  have h':x∈(l++[c])++br ls cs:=h
  rcases List.mem_append.mp h' with z | z
  ·rcases List.mem_append.mp z with z | z
   ·exact .inl ⟨l,List.mem_cons_self,z⟩
   ·exact .inr (by rw[List.mem_singleton.mp z]; exact List.mem_cons_self)
  ·rcases kO z with ⟨l',h1,h2⟩ | z
   ·exact .inl ⟨l',List.mem_cons_of_mem _ h1,h2⟩
   ·exact .inr (List.mem_cons_of_mem _ z)
theorem mf{nm:List Str}:∀ (d:Nat) {T:List ak},de nm d T→∀ x∈aK d T,ve x
 | 0,_,h=>h.elim
 | d+1,T,h=>fun x hx=>by
  obtain⟨s,hs,hx⟩:=List.mem_flatMap.mp hx
  have g:=qd h s hs
  rw[eC]at hx
  rcases List.mem_cons.mp hx with rfl | hx
  ·exact zO g
  ·rcases kO hx with ⟨l,hl,hx⟩ | z
   ·obtain⟨b,hb,rfl⟩:=List.mem_map.mp hl
    exact mf d (lT g b hb) x hx
   ·have:=ma s x z
    have e:∀ y∈bD,1≤y.length∧y.length≤200∧10∉y.cps.toList:=by decide +kernel
    exact e x this
theorem ii:∀ (d:Nat) (T:List ak),(aK d T).length=eB d T
 | 0,_=>rfl
 | d+1,T=>by
  induction T with
  | nil=>rfl
  | cons s T ih=>
   have e:aK (d+1) (s::T)=bz (aK d) s++aK (d+1) T:=by show List.flatMap _ _=_; rw[List.flatMap_cons]; rfl
   have e2:eB (d+1) (s::T)=(dR s+((a_ s).map (eB d)).sum)+eB (d+1) T:=l_ dR d s T
   rw[e,e2,List.length_append,ih]
   congr 1
   cases s with
   | plain ws=>rfl
   | lend x y b=>simp[bz,dR,a_,ii d b]; omega
   | ite n b c=>simp[bz,dR,a_,ii d b,ii d c]; omega
   | whl n b=>simp[bz,dR,a_,ii d b]; omega
theorem rR{ws:List Str}(h:ws≠[])(hf:∀ x∈ws,10∉x.cps.toList):Txt.split (Txt.join "\n" ws) "\n" = ws:=by
 have e0:(Str.ofString "\n")=⟨#[10]⟩:=by decide +kernel
 have e1:Str.join ⟨#[10]⟩ (Txt.split (Txt.join "\n" ws) "\n")=Str.join ⟨#[10]⟩ ws:=by
  have:=PySem.StrLaws.join_split (Txt.join "\n" ws) "\n"
  rw[e0]at this ⊢
  rw[this]
  exact PySem.StrLaws.glued_eq_join _ ws
 refine li ?_ h ?_ hf e1
 ·intro z
  have:=split_pos (Txt.join "\n" ws) "\n"
  rw[z]at this; exact absurd this (by decide)
 ·rw[e0]; exact PySem.StrLaws.split_free _ 10
end
def fj(y:Str):List Str:=if y = "" then [] else Txt.split y "\n"
def PTx(y:Str)(T:List ak):Prop:=(∃ nm:List Str,nm.length≤4∧uP nm T)∧y=Txt.join "\n" (aK 10 T)
theorem vi{L:List Str}(h:Txt.join "\n" L = ""):L=[]∨L=[("" : Str)]:=by
 match L,h with
 | [],_=>exact .inl rfl
 | [x],h=>
  have e:Txt.join "\n" [x]=x:=rfl
  rw[e]at h
  exact .inr (by rw[h])
 | x::z::l,h=>
  have e:(Txt.join "\n" (x::z::l)).length=(Str.ofString "").length:=by rw[h]
  rw[oG,List.length_cons,(by decide +kernel:(Str.ofString "\n").length=1),(by decide +kernel:(Str.ofString "").length=0)]at e
  omega
theorem fv{L:List Str}(hx:∀ x∈L,10∉x.cps.toList)(h:L≠[("" : Str)]):fj (Txt.join "\n" L)=L:=by
 unfold fj
 by_cases c:Txt.join "\n" L = ""
 ·rw[if_pos c]
  rcases vi c with z | z
  ·rw[z]
  ·exact absurd z h
 ·rw[if_neg c]
  refine rR (fun z=>c (by rw[z]; decide +kernel)) hx
theorem PTx.lines{y:Str}{T:List ak}(h:PTx y T):fj y=aK 10 T:=by
 obtain⟨⟨nm,_,hg⟩,rfl⟩:=h
 have hx:=mf 10 hg.gd
 refine fv (fun x hxm=>(hx x hxm).2.2) fun z=>?_
 have:=(hx "" (by rw[z]; exact List.mem_cons_self)).1
 exact absurd this (by decide +kernel)
theorem AnyL.dom{S:Addr→Prop}{H:Hp}:∀ (d:Nat) {p:Addr},AnyL S d H p→AnyL (fun b=>S b∧∃ o,H b=some o) d H p
 | 0,_,h=>h.elim
 | d+1,p,⟨h0,as,h1,h2,h3⟩=>⟨⟨h0,_,h1⟩,as,h1,h2,fun a ha=>(h3 a ha).imp (fun _ _ e=>e) fun q z=>AnyL.dom d z⟩
theorem stpAt.two{PA PA':Addr→List ak→Prop}{H:Hp}{a:Addr}(hp:∀ q b,PA q b→PA' q b){s:ak}(h:stpAt PA H a s):stpAt PA' H a s:=stpAt.imp (fun _ _ e=>e) hp h
theorem ProgAt.dom{S:Addr→Prop}{H:Hp}:∀ (d:Nat) {p:Addr} {T:List ak},ProgAt S d H p T→ProgAt (fun b=>S b∧∃ o,H b=some o) d H p T
 | 0,_,_,h=>h.elim
 | d+1,p,T,⟨h0,as,h1,h2⟩=>⟨⟨h0,_,h1⟩,as,h1,Paired.imp' (fun a s z=>stpAt.two (fun q b y=>ProgAt.dom d y) z) h2⟩
def qC:Sp:=fun vs H Q _=>∃ y:Str,vs=[.str y]∧y.length≤60000∧∀ (l:Addr) (H':Hp),Same H H'→H l=none→H' l=some (.lst ((fj y).map V.str))→Q (.ref l) H'
def tU(C:Addr):Sp:=fun vs H Q E=>∃ x,vs=[x]∧((∃ y:Str,x = .str y∧y.length≤60000∧(∀ l∈fj y,l.length≤890)∧(∀ T p H',PTx y T→Same H H'→ProgAt (fun b=>H b=none∧∃ o,H' b=some o) 10 H' p T→Q (.ref p) H')∧(∀ H',(¬ ∃ T,PTx y T)→Same H H'→E (.ref C) none H'))∨((∃ t,az H x=some t∧j9 t "str" = false)∧E (.ref C) none H))
section
variable{P:Program}{w:World}{K:PySem.W.Frag}{mg:Str→Option Value}{base:Heap}{C_NoText:Addr}
theorem wg(D:DefAt K mg "lines_in" dn):bf P w K mg base 1 "lines_in" ["text"] qC:=by
 refine D.cal (k:=0) rN (fun _ _ _ _ _ _ us hl=>match us,hl with | [_],_=>rfl) (fun vs H Q E h=>by obtain⟨m,rfl,_⟩:=h; rfl) (fun f cdv A outer sh H vs Q E hr h=>?_)
 obtain⟨y,rfl,hn,q⟩:=h
 refine⟨_,(al (ax (mY (aH cm (pv 0 (hv:=B6)) ah (aG _)) (aT ac) (bL K PySem.F.plainAttrs_str PySem.F.slot_str_split PySem.F.type_str_split ku (pv 0 (hv:=B6)) (aa ah ac))))),?_⟩
 unfold fj at q
 walk_at "rd1"
 refine aB (fun c=>?_) (fun c=>?_)
 ·have c':y = "" := by simpa using c
  rw[if_pos c']at q
  exact⟨by decide,fun l hl=>q l _ (au hl _) hl ai⟩
 ·have c':¬ y = "" := fun z=>c (by rw[z])
  rw[if_neg c']at q
  refine⟨by decide +kernel,by omega,fun l hl=>?_⟩
  exact q l _ (au hl _) hl ai
theorem xX(D:DefAt K mg "read_program" aS) (z_isinstance:mg "isinstance" = none) (z_str:mg "str" = none) (z_len:mg "len" = none) (g_MOST_LINES:∃ t,mg "MOST_LINES" = some (.int 60 t)) (x_NoText:eU K mg "NoText" C_NoText) (c_lines_in:bf P w K mg base 1 "lines_in" ["text"] qC) (c_sf:∀ nm,bf P w K mg base 26 "steps_from" ["lines", "at"] (oh nm 10)) (c_sa:bf P w K mg base 128 "steps_from" ["lines", "at"] (nc 61))
  (c_is_program:bf P w K mg base 16 "is_program" ["thing"] oW) (c_show_program:bf P w K mg base 15 "show_program" ["program"] wR):CalX P w K mg base 129 "read_program" ["text"] (tU C_NoText):=by
 refine D.calX (k:=128) sc_read_program (fun _ _ _ _ _ _ us hl=>match us,hl with | [_],_=>rfl) (fun vs H Q E h=>by obtain⟨x,rfl,_⟩:=h; rfl) (fun f cdv A outer sh H vs Q E hr h=>?_)
 obtain⟨x,rfl,h⟩:=h
 rcases h with ⟨y,rfl,hyl,hyx,q,e⟩ | ⟨⟨t,h1,h2⟩,e⟩
 ·by_cases hT:∃ T,PTx y T
  ·obtain⟨T,hT⟩:=hT
   obtain⟨⟨nm,n4,hg⟩,hyt⟩:=id hT
   have c_steps_from:=c_sf nm
   obtain⟨hz,hpb⟩:=vO n4 hg
   have hok:=jX 10 hg.gd
   have hx:=mf 10 hg.gd
   have hc:(aK 10 T).length≤60:=by rw[ii]; exact hg.ln
   refine⟨_,(af (bq (cC (cy (aL cU z_isinstance bh (aa (pv 0 (hv:=kt)) (aa (dy z_str jq (hg:=xl)) ac)) (hg:=yA)))) (al (dq iy x_NoText (aa ah ac) (hg:=kP))) aP)
   (af (aw 1 sc_read_program.nd (aE c_lines_in hr (aa (pv 0 (hv:=kt)) ac) (hg:=xQ)) (hx:=Cj))
   (af (bq (aH iz (aL (aW K) z_len bM (aa (pv 1 (hv:=oA)) ac) (hg:=yF)) (cF g_MOST_LINES (hg:=xq)) (aG _)) (al (dq iy x_NoText (aa ah ac) (hg:=kP))) aP)
   (af (aw 2 sc_read_program.nd (bd (bG K) (aE c_steps_from hr (aa (pv 1 (hv:=oA)) (aa aj ac)) (hg:=xO)) aj (fun _ _=>rfl)) (hx:=Ct))
   (af (bq (PW.pt' (gj (cC (cy (aE c_is_program hr (aa (pv 2 (hv:=kE)) ac) (hg:=ym)))) (fo (aH kq (aE c_show_program hr (aa (pv 2 (hv:=kE)) ac) (hg:=yT)) (pv 0 (hv:=kt)) (aG _))))) (al (dq iy x_NoText (aa ah ac) (hg:=kP))) aP)
   (al (ax (pv 2 (hv:=kE))))))))),?_⟩
   walk_at "rd1"
   refine⟨"str", rfl,by decide,aB (fun c=>absurd c (by decide)) (fun _=>?_)⟩
   walk_at "nx"
   refine⟨y,rfl,hyl,fun lp H1 s1 hlp e1=>?_⟩
   rw[hT.lines]at e1
   walk_at "nx"
   refine⟨_,.inl (SqL.of e1),?_⟩
   rw[List.length_map]
   refine aB (fun c=>absurd c (by omega)) (fun _=>?_)
   walk_at "nx"
   refine⟨lp,0,aK 10 T,[],T,rfl,e1,by rw[List.drop_zero,List.append_nil],(fun c r e=>by cases e),hg.gd,by omega,fun x hxm=>by have:=(hx x hxm).2.1; omega,Nat.zero_le _,fun t p H2 s2 et hP=>?_⟩
   walk_at "rd1"
   refine⟨_,_,.inr (SqT.of et),eD,?_⟩
   have hPd:=hP.dom
   walk_at "nx"
   refine .inl (pq hPd hz (fun x z=>z.2) fun H3 s3=>?_)
   rw[hpb]
   walk_at "rd1"
   have hP3:=hPd.mono s3
   refine⟨p,aK 10 T,rfl,kQ 10 hP3 hok,by omega,fun x hxm=>by have:=(hx x hxm).2.1; omega,fun H4 s4=>?_⟩
   walk_at "rd1"
   rw[← hyt]
   refine aB (fun c=>absurd c (by simp)) (fun _=>?_)
   walk_at "nx"
   refine q T p H4 hT ((((s1.trans s2).trans s3).trans s4)) (ProgAt.imp (fun b xs e=>s4 _ _ e) (fun b xs _ e=>s4 _ _ e) (fun b z=>?_) 10 hP3)
   obtain⟨z1,o,z2⟩:=z
   exact⟨s1.free z1,o,s4 _ _ (s3 _ _ z2)⟩
  ·have e:=fun H'=>e H' hT
   have c_steps_from:=c_sa
   refine⟨_,(af (bq (cC (cy (aL cU z_isinstance bh (aa (pv 0 (hv:=kt)) (aa (dy z_str jq (hg:=xl)) ac)) (hg:=yA)))) (al (dq iy x_NoText (aa ah ac) (hg:=kP))) aP)
   (af (aw 1 sc_read_program.nd (aE c_lines_in hr (aa (pv 0 (hv:=kt)) ac) (hg:=xQ)) (hx:=Cj))
   (af (bq (aH iz (aL (aW K) z_len bM (aa (pv 1 (hv:=oA)) ac) (hg:=yF)) (cF g_MOST_LINES (hg:=xq)) (aG _)) (al (dq iy x_NoText (aa ah ac) (hg:=kP))) aP)
   (af (aw 2 sc_read_program.nd (bd (bG K) (aE c_steps_from hr (aa (pv 1 (hv:=oA)) (aa aj ac)) (hg:=xO)) aj (fun _ _=>rfl)) (hx:=Ct))
   (af (bq (PW.pt' (gj (cC (cy (aE c_is_program hr (aa (pv 2 (hv:=kE)) ac) (hg:=ym)))) (fo (aH kq (aE c_show_program hr (aa (pv 2 (hv:=kE)) ac) (hg:=yT)) (pv 0 (hv:=kt)) (aG _))))) (al (dq iy x_NoText (aa ah ac) (hg:=kP))) aP)
   (al (ax (pv 2 (hv:=kE))))))))),?_⟩
   walk_at "rd1"
   refine⟨"str", rfl,by decide,aB (fun c=>absurd c (by decide)) (fun _=>?_)⟩
   walk_at "nx"
   refine⟨y,rfl,hyl,fun lp H1 s1 hlp e1=>?_⟩
   walk_at "nx"
   refine⟨_,.inl (SqL.of e1),?_⟩
   rw[List.length_map]
   refine aB (fun c=>?_) (fun hc=>?_)
   ·rw[im]
    walk_at "rd1"
    exact⟨by decide,e _ s1⟩
   have hc':(fj y).length≤60:=by omega
   walk_at "nx"
   refine⟨lp,0,fj y,rfl,e1,hc',hyx,by omega,fun t p pl H2 s2 et _ hP=>?_⟩
   walk_at "rd1"
   refine⟨_,_,.inr (SqT.of et),eD,?_⟩
   have hPd:=hP.dom
   walk_at "nx"
   rcases yI hPd with ⟨T,hPT,hz⟩ | ⟨out,hG⟩
   ·refine .inl (pq hPT hz (fun x z=>z.2) fun H3 s3=>?_)
    cases hpb:iA 10 T with
    | false=>
     refine⟨false,rfl,?_⟩
     rw[if_pos (by decide)]
     rw[im]
     walk_at "rd1"
     exact⟨by decide,e _ ((s1.trans s2).trans s3)⟩
    | true=>
     refine⟨true,rfl,?_⟩
     rw[if_neg (by decide)]
     obtain⟨nm,n4,hg⟩:=sW hz hpb
     have hok:=jX 10 hg.gd
     have hx:=mf 10 hg.gd
     have hcl:(aK 10 T).length≤60:=by rw[ii]; exact hg.ln
     walk_at "rd1"
     refine⟨p,aK 10 T,rfl,kQ 10 (hPT.mono s3) hok,by omega,fun x hxm=>by have:=(hx x hxm).2.1; omega,fun H4 s4=>?_⟩
     walk_at "rd1"
     have hne:¬ Txt.join "\n" (aK 10 T)=y:=fun z=>hT ⟨T,⟨nm,n4,hg⟩,z.symm⟩
     refine aB (fun _=>?_) (fun c=>absurd (by simpa using hne) c)
     rw[im]
     walk_at "rd1"
     exact⟨by decide,e _ (((s1.trans s2).trans s3).trans s4)⟩
   ·refine .inl ⟨p,_,out,false,[],fun _=>True,rfl,hG,fun x z=>z.2,fun z=>absurd z Bool.false_ne_true,fun H3 s3=>?_⟩
    refine⟨false,rfl,?_⟩
    rw[if_pos (by decide)]
    rw[im]
    walk_at "rd1"
    exact⟨by decide,e _ ((s1.trans s2).trans s3)⟩
 ·have c_steps_from:=c_sa
  refine⟨_,(af (bq (cC (cy (aL cU z_isinstance bh (aa (pv 0 (hv:=kt)) (aa (dy z_str jq (hg:=xl)) ac)) (hg:=yA)))) (al (dq iy x_NoText (aa ah ac) (hg:=kP))) aP)
   (af (aw 1 sc_read_program.nd (aE c_lines_in hr (aa (pv 0 (hv:=kt)) ac) (hg:=xQ)) (hx:=Cj))
   (af (bq (aH iz (aL (aW K) z_len bM (aa (pv 1 (hv:=oA)) ac) (hg:=yF)) (cF g_MOST_LINES (hg:=xq)) (aG _)) (al (dq iy x_NoText (aa ah ac) (hg:=kP))) aP)
   (af (aw 2 sc_read_program.nd (bd (bG K) (aE c_steps_from hr (aa (pv 1 (hv:=oA)) (aa aj ac)) (hg:=xO)) aj (fun _ _=>rfl)) (hx:=Ct))
   (af (bq (PW.pt' (gj (cC (cy (aE c_is_program hr (aa (pv 2 (hv:=kE)) ac) (hg:=ym)))) (fo (aH kq (aE c_show_program hr (aa (pv 2 (hv:=kE)) ac) (hg:=yT)) (pv 0 (hv:=kt)) (aG _))))) (al (dq iy x_NoText (aa ah ac) (hg:=kP))) aP)
   (al (ax (pv 2 (hv:=kE))))))))),?_⟩
  walk_at "rd1"
  refine⟨t,h1,by decide,?_⟩
  rw[h2]
  refine aB (fun _=>?_) (fun c=>absurd rfl c)
  rw[im]
  walk_at "rd1"
  exact⟨by decide,e⟩
end
set_option genSizeOf false in
inductive da where
 | lend (x y:Str) (up:List ak)
 | whl (n:Int) (up:List ak)
 | inB (n:Int) (up:List ak)
 | inC (n:Int) (b up:List ak)
set_option genInjectivity false in
set_option genSizeOf false in
structure BS where
 cur:List ak
 stk:List da
 L:List Str
 left:Int
 lends:Int
def d7(st:BS):BS:=match st.stk with
 | []=>st
 | .lend x y up::r=>{ st with cur:=up++[.lend x y st.cur],stk:=r,L:=st.L++[("back" : Str)] }
 | .whl n up::r=>{ st with cur:=up++[.whl n st.cur],stk:=r,L:=st.L++[("done" : Str)] }
 | .inB n up::r=>{ st with cur:=[],stk:=.inC n st.cur up::r,L:=st.L++[("else" : Str)] }
 | .inC n b up::r=>{ st with cur:=up++[.ite n b st.cur],stk:=r,L:=st.L++[("fi" : Str)] }
def eM:List da→Nat→List Str
 | [],_=>[]
 | .lend x y up::r,d=>eM r (d+1)++aK (d+2) up++[Txt.join " " ["lend", x,y]]
 | .whl n up::r,d=>eM r (d+1)++aK (d+2) up++[Txt.join " " ["while", aO n]]
 | .inB n up::r,d=>eM r (d+1)++aK (d+2) up++[Txt.join " " ["if", aO n]]
 | .inC n b up::r,d=>eM r (d+1)++aK (d+2) up++[Txt.join " " ["if", aO n]]++aK (d+1) b++[("else" : Str)]
def pY:da→Nat
 | .lend _ _ up=>up.length
 | .whl _ up=>up.length
 | .inB _ up=>up.length
 | .inC _ _ up=>up.length
theorem nR(d:Nat)(T U:List ak):aK (d+1) (T++U)=aK (d+1) T++aK (d+1) U:=by show List.flatMap _ _=_; rw[List.flatMap_append]; rfl
theorem sR:∀ d:Nat,d<10→(Nat.digitChar d).toNat=d+48:=by decide
theorem x_:∀ m:Nat,1<(Nat.toDigits 10 m).length→((Nat.toDigits 10 m).map Char.toNat)[0]? ≠ some 48:=fun m=>by
 induction m using Nat.strongRecOn with
 | ind m ih=>
  intro h
  by_cases hm:m<10
  ·rw[Nat.toDigits_of_lt_base hm]at h; simp at h
  ·rw[Nat.toDigits_eq_if (by decide),if_neg hm,List.map_append,List.getElem?_append_left (by rw[List.length_map]; exact Nat.length_toDigits_pos)]
   by_cases h2:m / 10<10
   ·rw[Nat.toDigits_of_lt_base h2]
    have e:=sR (m / 10) h2
    simp only[List.map_cons,List.map_nil,List.getElem?_cons_zero,ne_eq,Option.some.injEq,e]
    omega
   ·refine ih (m / 10) (by omega) ?_
    rw[Nat.toDigits_eq_if (by decide),if_neg h2,List.length_append]
    have:=@Nat.length_toDigits_pos 10 (m / 10 / 10)
    simp only[List.length_cons,List.length_nil]
    omega
def oM(F:List Nat):Bool:=F.all fun c=>decide (c∈(Str.ofString "0123456789").cps.toList)
theorem vp{c:Nat}(h:c∈(Str.ofString "0123456789").cps.toList):48≤c∧c≤57:=by
 have e:(Str.ofString "0123456789").cps.toList=[48,49,50,51,52,53,54,55,56,57]:=by decide +kernel
 rw[e]at h
 simp only[List.mem_cons,List.not_mem_nil,or_false]at h
 omega
def jM(y:Str)(n:Int):Prop:=y=aO n∧b5 (.int n)=true
def dC(y:Str):List Nat:=if y.cps.toList[0]? = some 45 then y.cps.toList.drop 1 else y.cps.toList
theorem Bj{y:Str}{n:Int}(h:jM y n):1≤(dC y).length∧(dC y).length≤60∧oM (dC y)=true∧¬ (1<(dC y).length∧(dC y)[0]? = some 48)∧y ≠ "-0" ∧ y.length≤61:=by
 obtain⟨rfl,hb⟩:=h
 have hb':(if n<0 then -n else n)<10 ^ 60:=of_decide_eq_true hb
 have all:∀ m:Nat,oM ((Nat.toDigits 10 m).map Char.toNat)=true:=fun m=>by
  unfold oM
  rw[List.all_eq_true]
  exact fun c hc=>tO ((bR m).1 c hc)
 have len:∀ m:Nat,m<10 ^ 60→1≤((Nat.toDigits 10 m).map Char.toNat).length∧((Nat.toDigits 10 m).map Char.toNat).length≤60:=fun m hm=>by
  rw[List.length_map]
  exact⟨Nat.length_toDigits_pos,digits10_le (by decide) hm⟩
 have hd:∀ m:Nat,¬ (1<((Nat.toDigits 10 m).map Char.toNat).length∧((Nat.toDigits 10 m).map Char.toNat)[0]? = some 48):=fun m z=>x_ m (by have:=z.1; rwa [List.length_map]at this) z.2
 have ll:∀ x:Str,x.length=x.cps.toList.length:=fun x=>Array.length_toList.symm
 cases n with
 | ofNat m=>
  have hm:m<10 ^ 60:=by
   have:¬ (Int.ofNat m<0):=by simp
   rw[if_neg this]at hb'
   have hb2:((m:Nat):Int)<10 ^ 60:=hb'
   omega
  have e:(aO (Int.ofNat m)).cps.toList=(Nat.toDigits 10 m).map Char.toNat:=cH m
  have n45:¬ (aO (Int.ofNat m)).cps.toList[0]? = some 45:=fun z=>by
   have h3:=(bR m).1 45 (by rw[← e]; exact List.mem_of_getElem? z)
   omega
  have ef:dC (aO (Int.ofNat m))=(Nat.toDigits 10 m).map Char.toNat:=by unfold dC; rw[if_neg n45,e]
  rw[ef]
  refine⟨(len m hm).1,(len m hm).2,all m,hd m,fun z=>n45 (by rw[z]; decide +kernel),?_⟩
  have:=(len m hm).2
  rw[ll,e]; omega
 | negSucc m=>
  have hm:m+1<10 ^ 60:=by
   rw[if_pos (Int.negSucc_lt_zero m)]at hb'
   have:-(Int.negSucc m)=((m+1:Nat):Int):=rfl
   rw[this]at hb'
   omega
  have e:=eI m
  have ef:dC (aO (Int.negSucc m))=(Nat.toDigits 10 (m+1)).map Char.toNat:=by
   unfold dC; rw[e,if_pos (by simp)]; rfl
  rw[ef]
  refine⟨(len _ hm).1,(len _ hm).2,all _,hd _,fun z=>?_,?_⟩
  ·rw[z]at e
   have e2:(Str.ofString "-0").cps.toList=[45,48]:=by decide +kernel
   rw[e2]at e
   injection e with _ e
   have hl:(Nat.toDigits 10 (m+1)).length≤1:=by have:=congrArg List.length e; rw[List.length_map]at this; simp at this; omega
   have hlt:=(Nat.length_toDigits_le_iff (b:=10) (by decide) (by decide)).mp hl
   rw[Nat.toDigits_of_lt_base (by simpa using hlt)]at e
   have e3:=sR (m+1) (by simpa using hlt)
   simp only[List.map_cons,List.map_nil,e3]at e
   injection e with e _
   omega
  ·have:=(len _ hm).2
   rw[ll,e,List.length_cons]; omega
def ix(ws:List Str):Prop:=dB ws∧∀ x∈ws.drop 1,bw x=true
def dj:List (Str × Nat):=[("open", 2),("do", 3),("copy", 3),("drop", 2),("tie", 3)]
def zn(ws:List Str):Bool:=decide ((ws.headD "", ws.length)∈dj)&&ws.all bw
theorem Bn:∀ {ws:List Str},(ws.headD "", ws.length)∈dj→dB ws:=fun {ws} h=>by
 simp only[dj,List.mem_cons,List.not_mem_nil,or_false,Prod.mk.injEq]at h
 rcases h with ⟨h1,h2⟩ | ⟨h1,h2⟩ | ⟨h1,h2⟩ | ⟨h1,h2⟩ | ⟨h1,h2⟩
 ·match ws,h1,h2 with
  | [k,x],h1,_=>have h1':k = "open" := h1; subst h1'; exact .opn x
 ·match ws,h1,h2 with
  | [k,x,y],h1,_=>have h1':k = "do" := h1; subst h1'; exact .doo x y
 ·match ws,h1,h2 with
  | [k,x,y],h1,_=>have h1':k = "copy" := h1; subst h1'; exact .cpy x y
 ·match ws,h1,h2 with
  | [k,x],h1,_=>have h1':k = "drop" := h1; subst h1'; exact .drp x
 ·match ws,h1,h2 with
  | [k,x,y],h1,_=>have h1':k = "tie" := h1; subst h1'; exact .tie x y
theorem jt{ws:List Str}(h:dB ws):(ws.headD "", ws.length)∈dj∧∃ k us,ws=k::us∧bw k=true:=by
 cases h with
 | opn x=>exact⟨(by decide +kernel:((Str.ofString "open"),2)∈dj),_,_,rfl,by decide +kernel⟩
 | drp x=>exact⟨(by decide +kernel:((Str.ofString "drop"),2)∈dj),_,_,rfl,by decide +kernel⟩
 | cpy x y=>exact⟨(by decide +kernel:((Str.ofString "copy"),3)∈dj),_,_,rfl,by decide +kernel⟩
 | tie x y=>exact⟨(by decide +kernel:((Str.ofString "tie"),3)∈dj),_,_,rfl,by decide +kernel⟩
 | doo u x=>exact⟨(by decide +kernel:((Str.ofString "do"),3)∈dj),_,_,rfl,by decide +kernel⟩
theorem plB_iff{ws:List Str}:zn ws=true ↔ ix ws:=by
 unfold zn
 rw[Bool.and_eq_true,decide_eq_true_iff]
 constructor
 ·intro⟨h1,h2⟩
  exact⟨Bn h1,fun x hx=>List.all_eq_true.mp h2 x (List.mem_of_mem_drop hx)⟩
 ·intro⟨h1,h2⟩
  obtain⟨k1,k,us,rfl,k2⟩:=jt h1
  refine⟨k1,List.all_eq_true.mpr fun x hx=>?_⟩
  rcases List.mem_cons.mp hx with rfl | hx
  ·exact k2
  ·exact h2 x hx
theorem qH{y:Str}{n m:Int}(h:jM y n)(h':jM y m):n=m:=by
 have lt:∀ {k:Int},b5 (.int k)=true→k.natAbs<10 ^ 61:=fun {k} hb=>by
  have hb':(if k<0 then -k else k)<10 ^ 60:=of_decide_eq_true hb
  exact Nat.lt_of_lt_of_le (show k.natAbs<10 ^ 60 by split at hb' <;> omega) (by decide)
 have e1:=(ni (lt h.2)).1
 have e2:=(ni (lt h'.2)).1
 have e:aO n=aO m:=h.1.symm.trans h'.1
 have e3:Str.ofString (toString n)=Str.ofString (toString m):=e
 rw[e3,e2]at e1
 exact(Option.some.inj e1).symm
def fm(ws:List Str)(cur:List ak):da→Prop
 | .lend x y up=>ws=[("lend" : Str),x,y]∧bw x=true∧bw y=true∧up=cur
 | .whl n up=>(∃ y,ws=[("while" : Str),y]∧jM y n)∧up=cur
 | .inB n up=>(∃ y,ws=[("if" : Str),y]∧jM y n)∧up=cur
 | .inC _ _ _=>False
theorem xv{ws:List Str}{cur:List ak}:∀ {f g:da},fm ws cur f→fm ws cur g→f=g
 | .lend x y up,.lend x' y' up',⟨a,_,_,b⟩,⟨a',_,_,b'⟩=>by rw[a]at a'; cases a'; rw[b,b']
 | .lend _ _ _,.whl _ _,⟨a,_⟩,⟨⟨y,a',_⟩,_⟩=>by rw[a]at a'; cases a'
 | .lend _ _ _,.inB _ _,⟨a,_⟩,⟨⟨y,a',_⟩,_⟩=>by rw[a]at a'; cases a'
 | .whl _ _,.lend _ _ _,⟨⟨y,a',_⟩,_⟩,⟨a,_⟩=>by rw[a]at a'; cases a'
 | .inB _ _,.lend _ _ _,⟨⟨y,a',_⟩,_⟩,⟨a,_⟩=>by rw[a]at a'; cases a'
 | .whl _ _,.whl _ _,⟨⟨y,a,n⟩,b⟩,⟨⟨y',a',n'⟩,b'⟩=>by rw[a]at a'; cases a'; rw[qH n n',b,b']
 | .inB _ _,.inB _ _,⟨⟨y,a,n⟩,b⟩,⟨⟨y',a',n'⟩,b'⟩=>by rw[a]at a'; cases a'; rw[qH n n',b,b']
 | .whl _ _,.inB _ _,⟨⟨y,a,n⟩,b⟩,⟨⟨y',a',n'⟩,b'⟩=>by
  rw[a]at a'
  have e:(Str.ofString "while")=(Str.ofString "if")∨(Str.ofString "if")=(Str.ofString "while"):=by injection a' with a' _; first | exact .inl a' | exact .inr a'
  exact absurd e (by decide +kernel)
 | .inB _ _,.whl _ _,⟨⟨y,a,n⟩,b⟩,⟨⟨y',a',n'⟩,b'⟩=>by
  rw[a]at a'
  have e:(Str.ofString "while")=(Str.ofString "if")∨(Str.ofString "if")=(Str.ofString "while"):=by injection a' with a' _; first | exact .inl a' | exact .inr a'
  exact absurd e (by decide +kernel)
 | .inC _ _ _,_,h,_=>h.elim
 | _,.inC _ _ _,_,h=>h.elim
def cq:da→Str
 | .lend _ _ _ => "back"
 | .whl _ _ => "done"
 | .inB _ _ => "else"
 | .inC _ _ _ => "fi"
theorem jP:∀ f:da,cq f∈bD
 | .lend _ _ _=>(by decide +kernel:Str.ofString "back" ∈ bD)
 | .whl _ _=>(by decide +kernel:Str.ofString "done" ∈ bD)
 | .inB _ _=>(by decide +kernel:Str.ofString "else" ∈ bD)
 | .inC _ _ _=>(by decide +kernel:Str.ofString "fi" ∈ bD)
open Classical in
noncomputable def dw(st:BS)(x:Str):Option BS:=
 if st.stk.length>8 then none
 else if zn (Txt.split x " ")=true then some { st with cur:=st.cur++[.plain (Txt.split x " ")],L:=st.L++[x] }
 else if h:∃ f,fm (Txt.split x " ") st.cur f then some { st with cur:=[],stk:=h.choose::st.stk,L:=st.L++[x] } else none
noncomputable def b_(st:BS)(x:Str):Option BS:=match st.stk with
 | []=>dw st x
 | f::_=>if cq f=x then some (d7 st) else dw st x
noncomputable def bC:BS→List Str→Option BS
 | st,[]=>some st
 | st,x::L=>match b_ st x with
  | some st'=>bC st' L
  | none=>none
theorem em{st st':BS}{x:Str}{L:List Str}(h:b_ st x=some st'):bC st (x::L)=bC st' L:=by
 show (match b_ st x with | some st'=>bC st' L | none=>none)=_
 rw[h]
theorem o_:∀ (L:List Str) (st:BS) (x:Str),bC st (L++[x])=(bC st L).bind fun s=>b_ s x
 | [],st,x=>by
  show (match b_ st x with | some st'=>some st' | none=>none)=b_ st x
  cases b_ st x <;> rfl
 | y::L,st,x=>by
  show (match b_ st y with | some st'=>bC st' (L++[x]) | none=>none)=(match b_ st y with | some st'=>bC st' L | none=>none).bind fun s=>b_ s x
  cases b_ st y with
  | none=>rfl
  | some s=>exact o_ L s x
theorem e_{st:BS}{x:Str}(h:x∉bD):b_ st x=dw st x:=by
 unfold b_
 cases hs:st.stk with
 | nil=>rfl
 | cons f r=>exact if_neg fun (z:cq f=x)=>h (z ▸ jP f)
theorem eZ{st:BS}{x:Str}{f:da}(h8:st.stk.length≤8)(hp:¬ ix (Txt.split x " ")) (h:fm (Txt.split x " ") st.cur f):dw st x=some { st with cur:=[],stk:=f::st.stk,L:=st.L++[x] }:=by
 unfold dw
 have hex:∃ f,fm (Txt.split x " ") st.cur f:=⟨f,h⟩
 rw[if_neg (by omega),if_neg (fun z=>hp (plB_iff.mp z)),dif_pos hex,xv hex.choose_spec h]
theorem h_{st:BS}{x:Str}(h8:st.stk.length≤8)(hp:ix (Txt.split x " ")):dw st x=some { st with cur:=st.cur++[.plain (Txt.split x " ")],L:=st.L++[x] }:=by
 unfold dw
 rw[if_neg (by omega),if_pos (plB_iff.mpr hp)]
theorem uG{st:BS}{x:Str}(hp:¬ ix (Txt.split x " ")) (h:¬ ∃ f,fm (Txt.split x " ") st.cur f):dw st x=none:=by
 have hb:¬ zn (Txt.split x " ")=true:=fun z=>hp (plB_iff.mp z)
 unfold dw
 rw[if_neg hb,dif_neg h]
 split <;> rfl
theorem kr{st:BS}{x:Str}(h:st.stk.length>8):dw st x=none:=by
 unfold dw; rw[if_pos h]
theorem f_{ws:List Str}{cur:List ak}{f:da}(h:fm ws cur f):¬ ix ws:=fun z=>by
 have hk:=(jt z.1).1
 have hd:ws.headD "" ∈ (["lend", "while", "if"]:List Str):=by
  cases f with
  | lend x y up=>rw[h.1]; exact(by decide +kernel:Str.ofString "lend" ∈ (["lend", "while", "if"]:List Str))
  | whl n up=>obtain⟨⟨y,e,_⟩,_⟩:=h; rw[e]; exact(by decide +kernel:Str.ofString "while" ∈ (["lend", "while", "if"]:List Str))
  | inB n up=>obtain⟨⟨y,e,_⟩,_⟩:=h; rw[e]; exact(by decide +kernel:Str.ofString "if" ∈ (["lend", "while", "if"]:List Str))
  | inC _ _ _=>exact h.elim
 have hd2:∀ p∈dj,p.1∉(["lend", "while", "if"]:List Str):=by decide +kernel
 exact hd2 _ hk hd
theorem kz{nm:List Str}{f:List ak→Prop}{s:ak}(h:iw nm f s):Txt.split (cZ s) " " = (match s with | .plain ws=>ws | .lend x y _=>["lend", x,y] | .ite n _ _=>["if", aO n] | .whl n _=>["while", aO n]):=by
 have wf:∀ {x:Str},bw x=true→32∉x.cps.toList:=fun h z=>(ij h 32 z).1 rfl
 have nf:∀ n:Int,32∉(aO n).cps.toList:=fun n z=>by
  cases n with
  | ofNat m=>have e:=cH m; have h3:=(bR m).1 32 (by rw[← e]; exact z); omega
  | negSucc m=>
   rw[eI]at z
   rcases List.mem_cons.mp z with z | z
   ·cases z
   ·have h3:=(bR (m+1)).1 32 z; omega
 cases s with
 | plain ws=>
  obtain⟨g1,g2,_⟩:=h
  obtain⟨_,k,us,rfl,hk⟩:=jt g1
  refine cR (by simp) fun x hx=>?_
  rcases List.mem_cons.mp hx with rfl | hx
  ·exact wf hk
  ·exact wf (g2 x hx)
 | lend x y b=>
  refine cR (by simp) fun z hz=>?_
  simp only[List.mem_cons,List.not_mem_nil,or_false]at hz
  rcases hz with rfl | rfl | rfl
  ·decide +kernel
  ·exact wf h.2.2.1
  ·exact wf h.2.2.2.1
 | ite n b c=>
  refine cR (by simp) fun z hz=>?_
  simp only[List.mem_cons,List.not_mem_nil,or_false]at hz
  rcases hz with rfl | rfl
  ·decide +kernel
  ·exact nf n
 | whl n b=>
  refine cR (by simp) fun z hz=>?_
  simp only[List.mem_cons,List.not_mem_nil,or_false]at hz
  rcases hz with rfl | rfl
  ·decide +kernel
  ·exact nf n
theorem gg{st:BS}{f:da}{r:List da}{L:List Str}(h:st.stk=f::r):bC st (cq f::L)=bC (d7 st) L:=by
 refine em ?_
 unfold b_
 rw[h]
 exact if_pos rfl
theorem gR{nm:List Str}:∀ (d:Nat) (T:List ak) (st:BS) (bg:List Str),de nm (d+1) T→st.stk.length+d=9→bC st (aK (d+1) T++bg)=bC { st with cur:=st.cur++T,L:=st.L++aK (d+1) T } bg
 | 0,T,st,bg,h,_=>by
  have h':T=[]:=h
  subst h'
  show bC st bg=bC { st with cur:=st.cur++[],L:=st.L++[] } bg
  rw[List.append_nil,List.append_nil]
 | d+1,[],st,bg,h,hd=>by
  show bC st bg=bC { st with cur:=st.cur++[],L:=st.L++[] } bg
  rw[List.append_nil,List.append_nil]
 | d+1,s::T,st,bg,h,hd=>by
  have gs:=h s List.mem_cons_self
  have gT:de nm (d+1+1) T:=fun u hu=>h u (List.mem_cons_of_mem _ hu)
  have ec:∀ T':List ak,aK (d+1+1) (s::T')=bz (aK (d+1)) s++aK (d+1+1) T':=fun T'=>by show List.flatMap _ _=_; rw[List.flatMap_cons]; rfl
  have one:∀ bg,bC st (bz (aK (d+1)) s++bg)=bC { st with cur:=st.cur++[s],L:=st.L++bz (aK (d+1)) s } bg:=fun bg=>by
   have hsp:=kz gs
   have hend:=e_ (st:=st) (sk gs)
   have h8:st.stk.length≤8:=by omega
   cases s with
   | plain ws=>
    obtain⟨g1,g2,_⟩:=gs
    have e:=h_ (x:=cZ (.plain ws)) h8 (by rw[hsp]; exact⟨g1,g2⟩)
    rw[hsp]at e
    exact em (hend.trans e)
   | lend x y b=>
    have hop:fm (Txt.split (cZ (.lend x y b)) " ") st.cur (.lend x y st.cur):=by rw[hsp]; exact⟨rfl,gs.2.2.1,gs.2.2.2.1,rfl⟩
    have e:=eZ h8 (f_ hop) hop
    show bC st (cZ (.lend x y b)::((aK (d+1) b++[("back" : Str)])++bg))=_
    rw[em (hend.trans e),List.append_assoc,gR d b _ _ gs.2.2.2.2 (by show st.stk.length+1+d=9; omega)]
    show bC _ (cq (.lend x y st.cur)::bg)=_
    rw[gg (f:=.lend x y st.cur) (r:=st.stk) rfl]
    congr 1
    show BS.mk _ _ _ _ _=BS.mk _ _ _ _ _
    congr 1
    simp[cZ,bz,List.append_assoc]
   | ite n b c=>
    have hop:fm (Txt.split (cZ (.ite n b c)) " ") st.cur (.inB n st.cur):=by rw[hsp]; exact⟨⟨_,rfl,rfl,gs.1⟩,rfl⟩
    have e:=eZ h8 (f_ hop) hop
    show bC st (cZ (.ite n b c)::((aK (d+1) b++[("else" : Str)]++(aK (d+1) c++[("fi" : Str)]))++bg))=_
    rw[em (hend.trans e),List.append_assoc,List.append_assoc,gR d b _ _ gs.2.1 (by show st.stk.length+1+d=9; omega)]
    show bC _ (cq (.inB n st.cur)::((aK (d+1) c++[("fi" : Str)])++bg))=_
    rw[gg (f:=.inB n st.cur) (r:=st.stk) rfl,show (aK (d+1) c++[("fi" : Str)])++bg=aK (d+1) c++([("fi" : Str)]++bg) from List.append_assoc ..,gR d c _ _ gs.2.2 (by show st.stk.length+1+d=9; omega)]
    show bC _ (cq (.inC n b st.cur)::bg)=_
    rw[gg (f:=.inC n b st.cur) (r:=st.stk) rfl]
    congr 1
    show BS.mk _ _ _ _ _=BS.mk _ _ _ _ _
    congr 1
    simp[cZ,bz,d7,List.append_assoc]
   | whl n b=>
    have hop:fm (Txt.split (cZ (.whl n b)) " ") st.cur (.whl n st.cur):=by rw[hsp]; exact⟨⟨_,rfl,rfl,gs.1⟩,rfl⟩
    have e:=eZ h8 (f_ hop) hop
    show bC st (cZ (.whl n b)::((aK (d+1) b++[("done" : Str)])++bg))=_
    rw[em (hend.trans e),List.append_assoc,gR d b _ _ gs.2 (by show st.stk.length+1+d=9; omega)]
    show bC _ (cq (.whl n st.cur)::bg)=_
    rw[gg (f:=.whl n st.cur) (r:=st.stk) rfl]
    congr 1
    show BS.mk _ _ _ _ _=BS.mk _ _ _ _ _
    congr 1
    simp[cZ,bz,List.append_assoc]
  rw[ec,List.append_assoc,one,gR (d+1) T { st with cur:=st.cur++[s],L:=st.L++bz (aK (d+1)) s } bg gT hd]
  simp only[List.append_assoc,List.singleton_append]
def si(nm:List Str):List da→Nat→Prop
 | [],_=>True
 | .lend x y up::r,d=>(x∈nm∧y∈nm∧bw x=true∧bw y=true)∧de nm (d+2) up∧si nm r (d+1)
 | .whl n up::r,d=>b5 (.int n)=true∧de nm (d+2) up∧si nm r (d+1)
 | .inB n up::r,d=>b5 (.int n)=true∧de nm (d+2) up∧si nm r (d+1)
 | .inC n b up::r,d=>b5 (.int n)=true∧de nm (d+1) b∧de nm (d+2) up∧si nm r (d+1)
structure nN (nm:List Str) (st:BS) (d:Nat):Prop where
 dep:d+st.stk.length=9
 lines:st.L=eM st.stk d++aK (d+1) st.cur
 good:de nm (d+1) st.cur
 goodf:si nm st.stk d
theorem zT{nm:List Str}{st:BS}{d:Nat}(h:nN nm st d):∃ d',nN nm (d7 st) d':=by
 obtain⟨cur,stk,L,left,lends⟩:=st
 obtain⟨h1,h2,h3,h4⟩:=h
 dsimp only at h1 h2 h3 h4
 cases stk with
 | nil=>exact⟨d,h1,h2,h3,h4⟩
 | cons f r=>
  rw[List.length_cons]at h1
  cases f with
  | lend x y up=>
   obtain⟨⟨k1,k2,k3,k4⟩,k5,k6⟩:=h4
   refine⟨d+1,⟨by show d+1+r.length=9; omega,?_,nC (s:=.lend x y cur) k5 ⟨k1,k2,k3,k4,h3⟩,k6⟩⟩
   show L++[("back" : Str)]=eM r (d+1)++aK (d+2) (up++[.lend x y cur])
   rw[nR,h2]
   simp[eM,aK,bz,List.append_assoc]
  | whl n up=>
   obtain⟨k1,k5,k6⟩:=h4
   refine⟨d+1,⟨by show d+1+r.length=9; omega,?_,nC (s:=.whl n cur) k5 ⟨k1,h3⟩,k6⟩⟩
   show L++[("done" : Str)]=eM r (d+1)++aK (d+2) (up++[.whl n cur])
   rw[nR,h2]
   simp[eM,aK,bz,List.append_assoc]
  | inB n up=>
   obtain⟨k1,k5,k6⟩:=h4
   refine⟨d,⟨by show d+(r.length+1)=9; omega,?_,qJ nm _,k1,h3,k5,k6⟩⟩
   show L++[("else" : Str)]=eM (.inC n cur up::r) d++aK (d+1) []
   rw[h2]
   simp[eM,aK,List.append_assoc]
  | inC n b up=>
   obtain⟨k1,k2,k5,k6⟩:=h4
   refine⟨d+1,⟨by show d+1+r.length=9; omega,?_,nC (s:=.ite n b cur) k5 ⟨k1,k2,h3⟩,k6⟩⟩
   show L++[("fi" : Str)]=eM r (d+1)++aK (d+2) (up++[.ite n b cur])
   rw[nR,h2]
   simp[eM,aK,bz,List.append_assoc]
theorem jG(x:Str):Txt.join " " (Txt.split x " ")=x:=(PySem.StrLaws.glued_eq_join _ _).trans (PySem.StrLaws.join_split x " ")
theorem ql{nm:List Str}{st st':BS}{d:Nat}{x:Str}(h:nN nm st d)(hx:∀ u∈Txt.split x " ", u∈nm) (e:dw st x=some st'):∃ d',nN nm st' d':=by
 obtain⟨h1,h2,h3,h4⟩:=h
 by_cases h8:st.stk.length>8
 ·rw[kr h8]at e; cases e
 obtain⟨d',rfl⟩ : ∃ d',d=d'+1:=⟨d - 1,by omega⟩
 have hj:=jG x
 by_cases hp:ix (Txt.split x " ")
 ·rw[h_ (by omega) hp]at e
  cases e
  refine⟨d'+1,h1,?_,nC h3 ⟨hp.1,hp.2,fun u hu=>?_⟩,h4⟩
  ·show st.L++[x]=eM st.stk (d'+1)++aK (d'+2) (st.cur++[.plain (Txt.split x " ")])
   rw[nR,h2]
   simp[aK,bz,hj]
  ·refine hx u ?_
   generalize Txt.split x " " = ws at hu hp
   obtain⟨hp,_⟩:=hp
   cases hp with
   | doo a b=>simp only[b0]at hu ⊢; split at hu <;> simp_all
   | opn a=>simp only[b0]at hu ⊢; split at hu <;> simp_all
   | drp a=>simp only[b0]at hu ⊢; split at hu <;> simp_all
   | cpy a b=>simp only[b0]at hu ⊢; split at hu <;> simp_all
   | tie a b=>simp only[b0]at hu ⊢; split at hu <;> simp_all
 ·by_cases hf:∃ f,fm (Txt.split x " ") st.cur f
  ·obtain⟨f,hf⟩:=hf
   rw[eZ (by omega) hp hf]at e
   cases e
   have go:∀ y:Str,y=x→eM (f::st.stk) d'=eM st.stk (d'+1)++aK (d'+2) st.cur++[y]→si nm (f::st.stk) d'→nN nm { st with cur:=[],stk:=f::st.stk,L:=st.L++[x] } d':=fun y ey e1 e2=>by
    refine⟨by show d'+(st.stk.length+1)=9; omega,?_,qJ nm _,e2⟩
    show st.L++[x]=eM (f::st.stk) d'++aK (d'+1) []
    rw[e1,h2,ey]
    simp[aK]
   refine⟨d',?_⟩
   cases f with
   | lend u v up=>
    obtain⟨k1,k2,k3,rfl⟩:=hf
    rw[k1]at hj hx
    exact go _ hj rfl ⟨⟨hx u (by simp),hx v (by simp),k2,k3⟩,h3,h4⟩
   | whl n up=>
    obtain⟨⟨y,k1,k2,k3⟩,rfl⟩:=hf
    rw[k1,k2]at hj
    exact go _ hj rfl ⟨k3,h3,h4⟩
   | inB n up=>
    obtain⟨⟨y,k1,k2,k3⟩,rfl⟩:=hf
    rw[k1,k2]at hj
    exact go _ hj rfl ⟨k3,h3,h4⟩
   | inC _ _ _=>exact hf.elim
  ·rw[uG hp hf]at e; cases e
theorem yD{nm:List Str}{st st':BS}{d:Nat}{x:Str}(h:nN nm st d)(hx:∀ u∈Txt.split x " ", u∈nm) (e:b_ st x=some st'):∃ d',nN nm st' d':=by
 unfold b_ at e
 cases hs:st.stk with
 | nil=>rw[hs]at e; exact ql h hx e
 | cons f r=>
  rw[hs]at e
  have e':(if cq f=x then some (d7 st) else dw st x)=some st':=e
  by_cases c:cq f=x
  ·rw[if_pos c]at e'
   cases e'
   exact zT h
  ·rw[if_neg c]at e'
   exact ql h hx e'
theorem sM{nm:List Str}:∀ (L:List Str) {st st':BS} {d:Nat},nN nm st d→(∀ x∈L,∀ u∈Txt.split x " ", u∈nm)→bC st L=some st'→∃ d',nN nm st' d'
 | [],st,st',d,h,_,e=>by cases e; exact⟨d,h⟩
 | x::L,st,st',d,h,hx,e=>by
  have e':(match b_ st x with | some st'=>bC st' L | none=>none)=some st':=e
  cases hm:b_ st x with
  | none=>rw[hm]at e'; cases e'
  | some s=>
   rw[hm]at e'
   obtain⟨d',h'⟩:=yD h (hx x List.mem_cons_self) hm
   exact sM L h' (fun y hy=>hx y (List.mem_cons_of_mem _ hy)) e'
theorem wo:∀ (L:List Str) {st st':BS},bC st L=some st'→st'.L=st.L++L
 | [],st,st',e=>by cases e; rw[List.append_nil]
 | x::L,st,st',e=>by
  have e':(match b_ st x with | some st'=>bC st' L | none=>none)=some st':=e
  cases hm:b_ st x with
  | none=>rw[hm]at e'; cases e'
  | some s=>
   rw[hm]at e'
   have h1:=wo L e'
   have h2:s.L=st.L++[x]:=by
    have ln:dw st x=some s→s.L=st.L++[x]:=fun e=>by
     unfold dw at e
     split at e
     ·cases e
     split at e
     ·cases e; rfl
     split at e
     ·cases e; rfl
     ·cases e
    unfold b_ at hm
    cases hs:st.stk with
    | nil=>rw[hs]at hm; exact ln hm
    | cons f r=>
     rw[hs]at hm
     have hm':(if cq f=x then some (d7 st) else dw st x)=some s:=hm
     by_cases c:cq f=x
     ·rw[if_pos c]at hm'
      cases hm'
      rw[← c]
      unfold d7
      rw[hs]
      cases f <;> rfl
     ·rw[if_neg c]at hm'
      exact ln hm'
   rw[h1,h2,List.append_assoc]; rfl
def mB:BS:=⟨[],[],[],0,0⟩
noncomputable def c_(L:List Str):Option (List ak):=match bC mB L with
 | some st=>if st.stk=[] then some st.cur else none
 | none=>none
theorem CU{nm:List Str}{T:List ak}(h:de nm 10 T):c_ (aK 10 T)=some T:=by
 have e:=gR 9 T mB [] h rfl
 rw[List.append_nil]at e
 unfold c_
 rw[e]
 show (if ([]:List da)=[] then some ([]++T) else none)=some T
 rw[if_pos rfl]; rfl
theorem lN{L:List Str}{T:List ak}(h:c_ L=some T):L=aK 10 T∧∃ nm,de nm 10 T:=by
 unfold c_ at h
 cases hm:bC mB L with
 | none=>rw[hm]at h; cases h
 | some st=>
  rw[hm]at h
  have h':(if st.stk=[] then some st.cur else none)=some T:=h
  by_cases c:st.stk=[]
  ·rw[if_pos c]at h'
   cases h'
   obtain⟨d,hs⟩:=sM (nm:=L.flatMap fun x=>Txt.split x " ") L (st:=mB) (d:=9) ⟨rfl,rfl,qJ _ 9,trivial⟩ (fun x hx u hu=>List.mem_flatMap.mpr ⟨x,hx,hu⟩) hm
   have hd:d=9:=by have:=hs.dep; rw[c]at this; simpa using this
   subst hd
   refine⟨?_,_,hs.good⟩
   have h1:=wo L hm
   have h2:=hs.lines
   rw[c]at h2
   rw[← show st.L=L from h1]
   exact h2
  ·rw[if_neg c]at h'; cases h'
def cG:List Str:=["open", "copy", "drop", "tie", "lend"]
def dg(x:Str):List Str:=(if (Txt.split x " ").headD "" ∈ cG then (Txt.split x " ").drop 1 else [])++(if (Txt.split x " ").headD "" = "do" then (Txt.split x " ").drop 2 else [])
def cT(x:Str):Bool:=decide (Txt.slice x none (some 5) = "lend ")
theorem fZ(y:Str)(n:Nat):(Txt.slice y none (some (n:Int))).cps.toList=y.cps.toList.take n:=by
 have e:=jC y none (some (n:Int))
 rw[HT.sIx_nat,HT.sIx_none]at e
 rw[e,List.drop_zero,Nat.sub_zero]
 have hl:y.cps.toList.length=y.length:=Array.length_toList
 by_cases z:n≤y.length
 ·rw[Nat.min_eq_left z]
 ·rw[Nat.min_eq_right (by omega),List.take_of_length_le (by omega),List.take_of_length_le (by omega)]
theorem fz{x:Str}{c:Nat}(h:x.cps.toList[0]? = some c)(hc:c≠108):cT x=false:=decide_eq_false fun z=>by
 have e:=fZ x 5
 have e2:(Str.ofString "lend ").cps.toList=[108,101,110,100,32]:=by decide +kernel
 have z':Txt.slice x none (some ((5:Nat):Int))=Str.ofString "lend " := z
 rw[z',e2]at e
 cases hy:x.cps.toList with
 | nil=>rw[hy]at h; cases h
 | cons a l=>
  rw[hy]at e h
  cases h
  injection e with e _
  exact hc e.symm
theorem eA{k u:Str}{us:List Str}{c:Nat}(h:k.cps.toList[0]? = some c):(Txt.join " " (k::u::us)).cps.toList[0]? = some c:=by
 rw[cb]
 cases hk:k.cps.toList with
 | nil=>rw[hk]at h; cases h
 | cons a l=>rw[hk]at h; exact h
theorem zK{nm:List Str}{f:List ak→Prop}{s:ak}(h:iw nm f s):(if cT (cZ s)=true then 1 else 0)=je s:=by
 have no:∀ {k u:Str} {us:List Str} {c:Nat},k.cps.toList[0]? = some c→c≠108→(if cT (Txt.join " " (k::u::us))=true then 1 else 0)=0:=fun h hc=>by rw[fz (eA h) hc]; rfl
 cases s with
 | plain ws=>
  obtain⟨g1,_⟩:=h
  cases g1 with
  | opn x=>exact no (k := "open") (c:=111) (by decide +kernel) (by decide)
  | drp x=>exact no (k := "drop") (c:=100) (by decide +kernel) (by decide)
  | cpy x y=>exact no (k := "copy") (c:=99) (by decide +kernel) (by decide)
  | tie x y=>exact no (k := "tie") (c:=116) (by decide +kernel) (by decide)
  | doo u x=>exact no (k := "do") (c:=100) (by decide +kernel) (by decide)
 | lend x y b=>
  have e:cT (Txt.join " " ["lend", x,y])=true:=decide_eq_true (cM (by
   have e:=fZ (Txt.join " " ["lend", x,y]) 5
   have e2:(Str.ofString "lend ").cps.toList=[108,101,110,100,32]:=by decide +kernel
   have e3:(Str.ofString "lend").cps.toList=[108,101,110,100]:=by decide +kernel
   have e4:(Str.ofString " ").cps.toList=[32]:=by decide +kernel
   have e':(Txt.slice (Txt.join " " ["lend", x,y]) none (some 5)).cps.toList=_:=e
   rw[e',e2,cb,e3,e4]
   rfl))
  show (if cT (Txt.join " " ["lend", x,y])=true then 1 else 0)=1
  rw[if_pos e]
 | ite n b c=>exact no (k := "if") (c:=105) (by decide +kernel) (by decide)
 | whl n b=>exact no (k := "while") (c:=119) (by decide +kernel) (by decide)
theorem zD{nm:List Str}{f:List ak→Prop}{s:ak}(h:iw nm f s):dg (cZ s)=b0 s:=by
 have hs:=kz h
 unfold dg
 rw[hs]
 cases s with
 | plain ws=>
  obtain⟨g1,_⟩:=h
  have a:∀ {k:Str} {us:List Str},k∈cG→k ≠ "do" → (if ((k::us).headD "")∈cG then (k::us).drop 1 else [])++(if (k::us).headD "" = "do" then (k::us).drop 2 else [])=b0 (.plain (k::us)):=fun {k us} h1 h2=>by
   show (if k∈cG then us else [])++(if k = "do" then us.drop 1 else [])=(if k = "do" then us.drop 1 else us)
   rw[if_pos h1,if_neg h2,if_neg h2,List.append_nil]
  cases g1 with
  | opn x=>exact a (by decide +kernel) (by decide +kernel)
  | drp x=>exact a (by decide +kernel) (by decide +kernel)
  | cpy x y=>exact a (by decide +kernel) (by decide +kernel)
  | tie x y=>exact a (by decide +kernel) (by decide +kernel)
  | doo u x=>
   show (if Str.ofString "do" ∈ cG then [u,x] else [])++(if Str.ofString "do" = Str.ofString "do" then [x] else [])=(if Str.ofString "do" = Str.ofString "do" then [x] else [u,x])
   rw[if_neg (by decide +kernel),if_pos rfl,if_pos rfl]; rfl
 | lend x y b=>
  show (if Str.ofString "lend" ∈ cG then [x,y] else [])++(if Str.ofString "lend" = Str.ofString "do" then [y] else [])=[x,y]
  rw[if_pos (by decide +kernel),if_neg (by decide +kernel)]; rfl
 | ite n b c=>
  show (if Str.ofString "if" ∈ cG then [aO n] else [])++(if Str.ofString "if" = Str.ofString "do" then [] else [])=[]
  rw[if_neg (by decide +kernel),if_neg (by decide +kernel)]; rfl
 | whl n b=>
  show (if Str.ofString "while" ∈ cG then [aO n] else [])++(if Str.ofString "while" = Str.ofString "do" then [] else [])=[]
  rw[if_neg (by decide +kernel),if_neg (by decide +kernel)]; rfl
theorem kR:∀ x∈bD,dg x=[]∧cT x=false:=by decide +kernel
theorem ib{nm:List Str}:∀ (d:Nat) (T:List ak),de nm d T→(aK d T).flatMap dg=jw d T∧(aK d T).countP cT=mz d T
 | 0,_,h=>h.elim
 | 1,T,h=>by
  have h':T=[]:=h
  subst h'
  exact⟨rfl,rfl⟩
 | d+2,[],_=>⟨rfl,rfl⟩
 | d+2,s::T,h=>by
  have gs:=h s List.mem_cons_self
  obtain⟨i1,i2⟩:=ib (d+2) T fun u hu=>h u (List.mem_cons_of_mem _ hu)
  have ec:aK (d+2) (s::T)=bz (aK (d+1)) s++aK (d+2) T:=by show List.flatMap _ _=_; rw[List.flatMap_cons]; rfl
  have en:jw (d+2) (s::T)=(b0 s++(a_ s).flatMap (jw (d+1)))++jw (d+2) T:=by
   show ((s::T).flatMap (jj (di (d+1)))).flatMap b0=_
   rw[List.flatMap_cons,List.flatMap_append]
   show (s::(a_ s).flatMap (di (d+1))).flatMap b0++_=_
   rw[List.flatMap_cons,List.flatMap_assoc]; rfl
  have el:mz (d+2) (s::T)=(je s+((a_ s).map (mz (d+1))).sum)+mz (d+2) T:=l_ je (d+1) s T
  have hb:∀ b∈a_ s,(aK (d+1) b).flatMap dg=jw (d+1) b∧(aK (d+1) b).countP cT=mz (d+1) b:=fun b hb=>ib (d+1) b (lT gs b hb)
  have key:(bz (aK (d+1)) s).flatMap dg=b0 s++(a_ s).flatMap (jw (d+1))∧(bz (aK (d+1)) s).countP cT=je s+((a_ s).map (mz (d+1))).sum:=by
   have h1:=zD gs
   have h2:=zK gs
   have cl:∀ (bs:List (List ak)) (cs:List Str),bs.length=cs.length→(∀ b∈bs,(aK (d+1) b).flatMap dg=jw (d+1) b∧(aK (d+1) b).countP cT=mz (d+1) b)→(∀ c∈cs,c∈bD)→(br (bs.map (aK (d+1))) cs).flatMap dg=bs.flatMap (jw (d+1))∧(br (bs.map (aK (d+1))) cs).countP cT=(bs.map (mz (d+1))).sum:=fun bs=>by
    induction bs with
    | nil=>intro cs _ _ _; exact⟨rfl,rfl⟩
    | cons b bs ih=>
     intro cs hl hb hc
     cases cs with
     | nil=>simp at hl
     | cons c cs=>
      obtain⟨j1,j2⟩:=ih cs (by simpa using hl) (fun b hb'=>hb b (List.mem_cons_of_mem _ hb')) (fun c hc'=>hc c (List.mem_cons_of_mem _ hc'))
      obtain⟨b1,b2⟩:=hb b List.mem_cons_self
      obtain⟨c1,c2⟩:=kR c (hc c List.mem_cons_self)
      show ((aK (d+1) b++[c])++br (bs.map (aK (d+1))) cs).flatMap dg=_∧((aK (d+1) b++[c])++br (bs.map (aK (d+1))) cs).countP cT=_
      rw[List.flatMap_append,List.flatMap_append,j1,b1,List.flatMap_cons,List.flatMap_nil,c1,List.countP_append,List.countP_append,j2,b2,List.countP_cons,List.countP_nil,c2,List.flatMap_cons,List.map_cons,List.sum_cons]
      exact⟨by simp,by simp⟩
   obtain⟨j1,j2⟩:=cl (a_ s) (gn s) (wG s).symm hb (ma s)
   rw[eC,List.flatMap_cons,h1,j1,List.countP_cons,j2]
   exact⟨rfl,by rw[← h2]; omega⟩
  rw[ec,List.flatMap_append,key.1,i1,en,List.countP_append,key.2,i2,el]
  exact⟨rfl,rfl⟩
def jp(L:List Str):Bool:=decide (L.length≤60)&&decide (L.countP cT≤3)&&decide ((fH (L.flatMap dg)).length≤4)
theorem kl{L:List Str}(hx:∀ x∈L,10∉x.cps.toList)(hL:L≠[("" : Str)]) (T:List ak):PTx (Txt.join "\n" L) T ↔ c_ L=some T∧jp L=true:=by
 constructor
 ·intro h
  have hl:=h.lines
  rw[fv hx hL]at hl
  obtain⟨⟨nm,n4,hg⟩,_⟩:=h
  subst hl
  refine⟨CU hg.gd,?_⟩
  obtain⟨w1,w2⟩:=ib 10 T hg.gd
  unfold jp
  rw[w1,w2,ii,decide_eq_true hg.ln,decide_eq_true hg.ld,decide_eq_true (Nat.le_trans (qY (tX 10 hg.gd)) n4)]; rfl
 ·intro⟨h1,h2⟩
  obtain⟨e,nm,hg⟩:=lN h1
  unfold jp at h2
  rw[Bool.and_eq_true,Bool.and_eq_true]at h2
  obtain⟨⟨a1,a2⟩,a3⟩:=h2
  have a1:=of_decide_eq_true a1
  have a2:=of_decide_eq_true a2
  have a3:=of_decide_eq_true a3
  obtain⟨w1,w2⟩:=ib 10 T hg
  rw[e,ii]at a1
  rw[e,w2]at a2
  rw[e,w1]at a3
  have hz:=md 10 hg a1
  refine⟨sW hz ?_,by rw[e]⟩
  rw[mH hz,ua 10 0 rfl hg,decide_eq_true a1,decide_eq_true a2,decide_eq_true a3]; rfl
def fq(z:Str):Prop:=z∈bD∨ix (Txt.split z " ")∨∃ f,fm (Txt.split z " ") [] f
theorem yn{nm:List Str}{f:List ak→Prop}{s:ak}(h:iw nm f s):ix (Txt.split (cZ s) " ")∨∃ g,fm (Txt.split (cZ s) " ") [] g:=by
 have hs:=kz h
 rw[hs]
 cases s with
 | plain ws=>exact .inl ⟨h.1,h.2.1⟩
 | lend x y b=>exact .inr ⟨.lend x y [],rfl,h.2.2.1,h.2.2.2.1,rfl⟩
 | ite n b c=>exact .inr ⟨.inB n [],⟨_,rfl,rfl,h.1⟩,rfl⟩
 | whl n b=>exact .inr ⟨.whl n [],⟨_,rfl,rfl,h.1⟩,rfl⟩
theorem zz{nm:List Str}:∀ (d:Nat) {T:List ak},de nm d T→∀ x∈aK d T,fq x
 | 0,_,h=>h.elim
 | d+1,T,h=>fun x hx=>by
  obtain⟨s,hs,hx⟩:=List.mem_flatMap.mp hx
  have g:=qd h s hs
  rw[eC]at hx
  rcases List.mem_cons.mp hx with rfl | hx
  ·exact .inr (yn g)
  ·rcases kO hx with ⟨l,hl,hx⟩ | z
   ·obtain⟨b,hb,rfl⟩:=List.mem_map.mp hl
    exact zz d (lT g b hb) x hx
   ·exact .inl (ma s x z)
theorem oa{L:List Str}{T:List ak}(h:c_ L=some T):∀ x∈L,fq x:=by
 obtain⟨e,nm,hg⟩:=lN h
 rw[e]
 exact zz 10 hg
def Nl(x:Str):Prop:=10∉x.cps.toList
theorem qc{L:List Str}(hx:∀ x∈L,Nl x)(hL:L≠[("" : Str)]) {z:Str} (hz:z∈L) (hb:¬ fq z):¬ ∃ T,PTx (Txt.join "\n" L) T:=fun ⟨T,h⟩=>hb (oa ((kl hx hL T).mp h).1 z hz)
theorem Bz{L:List Str}(hx:∀ x∈L,Nl x)(hL:L≠[("" : Str)]) (h:jp L=false):¬ ∃ T,PTx (Txt.join "\n" L) T:=fun ⟨T,z⟩=>by
 have:=((kl hx hL T).mp z).2
 rw[h]at this; cases this
theorem sw{L:List Str}(hx:∀ x∈L,Nl x)(hL:L≠[("" : Str)]) (h:c_ L=none):¬ ∃ T,PTx (Txt.join "\n" L) T:=fun ⟨T,z⟩=>by
 have:=((kl hx hL T).mp z).1
 rw[h]at this; cases this
def aN:List (Str × Nat):=dj++([("lend", 3),("if", 2),("while", 2)]:List (Str × Nat))
theorem j3{ws:List Str}(h:ix ws∨∃ f,fm ws [] f):(ws.headD "", ws.length)∈aN:=by
 rcases h with h | ⟨f,h⟩
 ·exact List.mem_append_left _ (jt h.1).1
 ·refine List.mem_append_right _ ?_
  cases f with
  | lend x y up=>rw[h.1]; exact(by decide +kernel:((Str.ofString "lend"),3)∈([("lend", 3),("if", 2),("while", 2)]:List (Str × Nat)))
  | whl n up=>obtain⟨⟨y,e,_⟩,_⟩:=h; rw[e]; exact(by decide +kernel:((Str.ofString "while"),2)∈([("lend", 3),("if", 2),("while", 2)]:List (Str × Nat)))
  | inB n up=>obtain⟨⟨y,e,_⟩,_⟩:=h; rw[e]; exact(by decide +kernel:((Str.ofString "if"),2)∈([("lend", 3),("if", 2),("while", 2)]:List (Str × Nat)))
  | inC _ _ _=>exact h.elim
theorem lR{ws:List Str}(h:ix ws∨∃ f,fm ws [] f):2≤ws.length∧ws.length≤3:=by
 have:=j3 h
 exact(by decide +kernel:∀ p∈aN,2≤p.2∧p.2≤3) _ this
theorem nE{ws:List Str}(h:ix ws∨∃ f,fm ws [] f):∀ x∈ws.drop 1,bw x=true∨∃ n,jM x n:=by
 rcases h with h | ⟨f,h⟩
 ·exact fun x hx=>.inl (h.2 x hx)
 ·intro x hx
  cases f with
  | lend a b up=>
   rw[h.1]at hx
   simp only[List.drop_succ_cons,List.drop_zero,List.mem_cons,List.not_mem_nil,or_false]at hx
   rcases hx with rfl | rfl
   ·exact .inl h.2.1
   ·exact .inl h.2.2.1
  | whl n up=>
   obtain⟨⟨y,e,hn⟩,_⟩:=h
   rw[e]at hx
   simp only[List.drop_succ_cons,List.drop_zero,List.mem_cons,List.not_mem_nil,or_false]at hx
   exact .inr ⟨n,hx ▸ hn⟩
  | inB n up=>
   obtain⟨⟨y,e,hn⟩,_⟩:=h
   rw[e]at hx
   simp only[List.drop_succ_cons,List.drop_zero,List.mem_cons,List.not_mem_nil,or_false]at hx
   exact .inr ⟨n,hx ▸ hn⟩
  | inC _ _ _=>exact h.elim
theorem v4{z:Str}(h:z∈bD):32∉z.cps.toList:=(by decide +kernel:∀ x∈bD,32∉x.cps.toList) z h
theorem xp{ws:List Str}(hn:ws≠[])(hf:∀ x∈ws,32∉x.cps.toList)(he:Txt.join " " ws∉bD) (hb:¬ (ix ws∨∃ f,fm ws [] f)):¬ fq (Txt.join " " ws):=fun h=>by
 have e:=cR hn hf
 rcases h with h | h
 ·exact he h
 ·have e':Txt.split (Txt.join " " ws) " " = ws:=e
  rw[e']at h
  exact hb h
theorem gk{ws:List Str}(hn:2≤ws.length):Txt.join " " ws∉bD:=fun h=>by
 match ws,hn with
 | a::b::l,_=>
  refine v4 h ?_
  rw[cb]
  exact List.mem_append_right _ (List.mem_append_left _ (by decide +kernel))
def hd1(z:Str):Str:=(Txt.split z " ").headD ""
structure Wt (w:Str→Int):Prop where
 op:w "open" = 0
 dr:w "drop" = 0
 cp:w "copy" = 0
 ti:w "tie" = 0
 dd:w "do" = 0
 le:w "lend" + w "back" = 0
 ife:w "if" + w "else" + w "fi" = 0
 wh:w "while" + w "done" = 0
def eG(w:Str→Int)(L:List Str):Int:=(L.map fun z=>w (hd1 z)).sum
theorem eE(w:Str→Int)(A B:List Str):eG w (A++B)=eG w A+eG w B:=by
 unfold eG; rw[List.map_append,List.sum_append_int]
theorem jl(w:Str→Int)(z:Str):eG w [z]=w (hd1 z):=by
 unfold eG; simp
theorem jA(w:Str→Int)(z:Str)(L:List Str):eG w (z::L)=w (hd1 z)+eG w L:=by
 unfold eG; rw[List.map_cons,List.sum_cons]
theorem kY:∀ z∈bD,hd1 z=z:=by decide +kernel
theorem lg{w:Str→Int}(hw:Wt w){nm:List Str}:∀ (d:Nat) (T:List ak),de nm d T→eG w (aK d T)=0
 | 0,_,h=>h.elim
 | 1,T,h=>by
  have h':T=[]:=h
  subst h'
  rfl
 | d+2,[],_=>rfl
 | d+2,s::T,h=>by
  have gs:=h s List.mem_cons_self
  have ih:=lg hw (d+2) T fun u hu=>h u (List.mem_cons_of_mem _ hu)
  have ec:aK (d+2) (s::T)=bz (aK (d+1)) s++aK (d+2) T:=by show List.flatMap _ _=_; rw[List.flatMap_cons]; rfl
  have hb:∀ b∈a_ s,eG w (aK (d+1) b)=0:=fun b hb=>lg hw (d+1) b (lT gs b hb)
  have hs:=kz gs
  have eb:hd1 "back" = "back" := kY _ (by decide +kernel)
  have ee:hd1 "else" = "else" := kY _ (by decide +kernel)
  have ef:hd1 "fi" = "fi" := kY _ (by decide +kernel)
  have ed:hd1 "done" = "done" := kY _ (by decide +kernel)
  have key:eG w (bz (aK (d+1)) s)=0:=by
   cases s with
   | plain ws=>
    obtain⟨g1,_⟩:=gs
    have e:hd1 (Txt.join " " ws)=ws.headD "" := by unfold hd1; exact congrArg (fun l:List Str=>l.headD "") hs
    show eG w [Txt.join " " ws]=0
    rw[jl,e]
    cases g1 with
    | opn x=>exact hw.op
    | drp x=>exact hw.dr
    | cpy x y=>exact hw.cp
    | tie x y=>exact hw.ti
    | doo u x=>exact hw.dd
   | lend x y b=>
    have e:hd1 (Txt.join " " ["lend", x,y]) = "lend" := by unfold hd1; exact congrArg (fun l:List Str=>l.headD "") hs
    show eG w (Txt.join " " ["lend", x,y]::(aK (d+1) b++[("back" : Str)]))=0
    rw[jA,eE,jl,e,eb,hb b List.mem_cons_self]
    have:=hw.le
    omega
   | ite n b c=>
    have e:hd1 (Txt.join " " ["if", aO n]) = "if" := by unfold hd1; exact congrArg (fun l:List Str=>l.headD "") hs
    show eG w (Txt.join " " ["if", aO n]::(aK (d+1) b++[("else" : Str)]++(aK (d+1) c++[("fi" : Str)])))=0
    rw[jA,eE,eE,eE,jl,jl,e,ee,ef,hb b List.mem_cons_self,hb c (List.mem_cons_of_mem _ List.mem_cons_self)]
    have:=hw.ife
    omega
   | whl n b=>
    have e:hd1 (Txt.join " " ["while", aO n]) = "while" := by unfold hd1; exact congrArg (fun l:List Str=>l.headD "") hs
    show eG w (Txt.join " " ["while", aO n]::(aK (d+1) b++[("done" : Str)]))=0
    rw[jA,eE,jl,e,ed,hb b List.mem_cons_self]
    have:=hw.wh
    omega
  rw[ec,eE,key,ih]; rfl
theorem sY{w:Str→Int}(hw:Wt w){L:List Str}{T:List ak}(h:c_ L=some T):eG w L=0:=by
 obtain⟨e,nm,hg⟩:=lN h
 rw[e]
 exact lg hw 10 T hg
def za(a b:Str)(u:Str):Int:=if u=a then 1 else if u=b then -1 else 0
theorem sH:Wt (za "lend" "back"):=by constructor <;> decide +kernel
theorem sr:Wt (za "if" "else"):=by constructor <;> decide +kernel
theorem Dg:Wt (za "if" "fi"):=by constructor <;> decide +kernel
theorem sQ:Wt (za "while" "done"):=by constructor <;> decide +kernel
def heads7:List Str:=["lend", "back", "if", "else", "fi", "while", "done"]
theorem Ad:∀ u∈heads7,∃ w,Wt w∧w u≠0:=fun u hu=>by
 simp only[heads7,List.mem_cons,List.not_mem_nil,or_false]at hu
 rcases hu with rfl | rfl | rfl | rfl | rfl | rfl | rfl
 ·exact⟨_,sH,by decide +kernel⟩
 ·exact⟨_,sH,by decide +kernel⟩
 ·exact⟨_,sr,by decide +kernel⟩
 ·exact⟨_,sr,by decide +kernel⟩
 ·exact⟨_,Dg,by decide +kernel⟩
 ·exact⟨_,sQ,by decide +kernel⟩
 ·exact⟨_,sQ,by decide +kernel⟩
theorem sx{A B:List Str}{z:Str}{T:List ak}(h:c_ (A++z::B)=some T)(hz:hd1 z∈heads7):c_ (A++B)=none:=by
 obtain⟨w,hw,h0⟩:=Ad _ hz
 have e:=sY hw h
 rw[eE,jA]at e
 cases h2:c_ (A++B) with
 | none=>rfl
 | some T2=>
  have e2:=sY hw h2
  rw[eE]at e2
  exfalso; omega
theorem v_{A B:List Str}{z:Str}{T:List ak}(h:c_ (A++B)=some T)(hz:hd1 z∈heads7):c_ (A++z::B)=none:=by
 cases h2:c_ (A++z::B) with
 | none=>rfl
 | some T2=>rw[sx h2 hz]at h; cases h
theorem mZ:∀ (A:List Str) (B:List Str) (st:BS),bC st (A++B)=(bC st A).bind fun s=>bC s B
 | [],B,st=>rfl
 | x::A,B,st=>by
  show (match b_ st x with | some st'=>bC st' (A++B) | none=>none)=(match b_ st x with | some st'=>bC st' A | none=>none).bind fun s=>bC s B
  cases b_ st x with
  | none=>rfl
  | some s=>exact mZ A B s
theorem yr:Txt.split "while 0" " " = [("while" : Str), "0"]:=by decide +kernel
theorem qx:jM "0" 0:=⟨by decide +kernel,by decide⟩
theorem o0:∀ (n:Nat) (st:BS) (bg:List Str),bC st (List.replicate n ("while 0" : Str)++bg)=none∨∃ st',st'.stk.length=st.stk.length+n∧bC st (List.replicate n ("while 0" : Str)++bg)=bC st' bg
 | 0,st,bg=>.inr ⟨st,rfl,rfl⟩
 | n+1,st,bg=>by
  have hne:("while 0" : Str)∉bD:=by decide +kernel
  have hst:=e_ (st:=st) hne
  by_cases h8:st.stk.length>8
  ·refine .inl ?_
   show (match b_ st "while 0" with | some st'=>bC st' (List.replicate n ("while 0" : Str)++bg) | none=>none)=none
   rw[hst,kr h8]
  ·have hop:fm (Txt.split "while 0" " ") st.cur (.whl 0 st.cur):=by rw[yr]; exact⟨⟨"0", rfl,qx⟩,rfl⟩
   have e:=em (L:=List.replicate n ("while 0" : Str)++bg) (hst.trans (eZ (by omega) (f_ hop) hop))
   have e':bC st (List.replicate (n+1) ("while 0" : Str)++bg)=_:=e
   rcases o0 n { st with cur:=[],stk:=.whl 0 st.cur::st.stk,L:=st.L++[("while 0" : Str)] } bg with h | ⟨st',h1,h2⟩
   ·exact .inl (e'.trans h)
   ·refine .inr ⟨st',?_,e'.trans h2⟩
    rw[h1]
    show st.stk.length+1+n=_
    omega
theorem xy{A B:List Str}{z:Str}(hz:z∉bD):c_ (A++(List.replicate 9 ("while 0" : Str)++(z::B)))=none:=by
 have e:bC mB (A++(List.replicate 9 ("while 0" : Str)++(z::B)))=none:=by
  rw[mZ]
  cases bC mB A with
  | none=>rfl
  | some st=>
   show bC st (List.replicate 9 ("while 0" : Str)++(z::B))=none
   rcases o0 9 st (z::B) with h | ⟨st',h1,h2⟩
   ·exact h
   ·rw[h2]
    show (match b_ st' z with | some st'=>bC st' B | none=>none)=none
    rw[e_ hz,kr (by omega)]
 unfold c_
 rw[e]
def nj(y:Str):Bool:=decide (1≤(dC y).length∧(dC y).length≤60)&&oM (dC y) && !(decide (1<(dC y).length)&&decide ((dC y)[0]? = some 48))&&decide (y ≠ "-0")
theorem sP{y:Str}{n:Int}(h:jM y n):nj y=true:=by
 obtain⟨h1,h2,h3,h4,h5,_⟩:=Bj h
 unfold nj
 rw[decide_eq_true ⟨h1,h2⟩,h3,decide_eq_true h5]
 have e:(decide (1<(dC y).length)&&decide ((dC y)[0]? = some 48))=false:=by
  rw[Bool.and_eq_false_iff]
  by_cases a:1<(dC y).length
  ·exact .inr (decide_eq_false fun z=>h4 ⟨a,z⟩)
  ·exact .inl (decide_eq_false a)
 rw[e]; rfl
def dD(k:Str):Bool:=decide (k = "if")||decide (k = "while")
def lG(ws:List Str):Bool:=decide ((ws.headD "", ws.length)∈aN)&&(ws.drop 1).all fun x=>if dD (ws.headD "")=true then nj x else bw x
theorem xg{ws:List Str}(h:ix ws∨∃ f,fm ws [] f):lG ws=true:=by
 have hk:=j3 h
 unfold lG
 rw[decide_eq_true hk,Bool.true_and,List.all_eq_true]
 intro x hx
 rcases h with h | ⟨f,h⟩
 ·have hb:dD (ws.headD "")=false:=(by decide +kernel:∀ p∈dj,dD p.1=false) _ (jt h.1).1
  rw[hb,if_neg (by decide)]
  exact h.2 x hx
 ·cases f with
  | lend a b up=>
   obtain⟨e,h2,h3,_⟩:=h
   rw[e]at hx ⊢
   have hb:dD (([("lend" : Str),a,b]:List Str).headD "")=false:=(by decide +kernel:dD "lend" = false)
   rw[hb,if_neg (by decide)]
   simp only[List.drop_succ_cons,List.drop_zero,List.mem_cons,List.not_mem_nil,or_false]at hx
   rcases hx with rfl | rfl <;> assumption
  | whl n up=>
   obtain⟨⟨y,e,hn⟩,_⟩:=h
   rw[e]at hx ⊢
   have hb:dD (([("while" : Str),y]:List Str).headD "")=true:=(by decide +kernel:dD "while" = true)
   rw[hb,if_pos rfl]
   simp only[List.drop_succ_cons,List.drop_zero,List.mem_cons,List.not_mem_nil,or_false]at hx
   rw[hx]; exact sP hn
  | inB n up=>
   obtain⟨⟨y,e,hn⟩,_⟩:=h
   rw[e]at hx ⊢
   have hb:dD (([("if" : Str),y]:List Str).headD "")=true:=(by decide +kernel:dD "if" = true)
   rw[hb,if_pos rfl]
   simp only[List.drop_succ_cons,List.drop_zero,List.mem_cons,List.not_mem_nil,or_false]at hx
   rw[hx]; exact sP hn
  | inC _ _ _=>exact h.elim
def nr(z:Str):Bool:=decide (z∈bD)||lG (Txt.split z " ")
theorem yV{z:Str}(h:fq z):nr z=true:=by
 unfold nr
 rcases h with h | h
 ·rw[decide_eq_true h]; rfl
 ·rw[xg h,Bool.or_true]
structure gm (z:Str):Prop where
 no:¬ fq z
 nl:Nl z
 ln:z.length≤400
theorem b8{z:Str}(h:(!nr z&&decide (10∉z.cps.toList)&&decide (z.length≤400))=true):gm z:=by
 rw[Bool.and_eq_true,Bool.and_eq_true]at h
 have h2:10∉z.cps.toList:=of_decide_eq_true h.1.2
 refine⟨fun z'=>?_,h2,of_decide_eq_true h.2⟩
 have:=h.1.1
 rw[yV z']at this; cases this
def Wd(x:Str):Prop:=x.length≤61∧10∉x.cps.toList∧32∉x.cps.toList
theorem cr{z:Str}{ws:List Str}(e:z=Txt.join " " ws) (hn:2≤ws.length) (h6:ws.length≤6) (hw:∀ x∈ws,Wd x) (hb:lG ws=false):gm z:=by
 have h0:ws≠[]:=fun z=>by rw[z]at hn; simp at hn
 obtain⟨j1,j2⟩:=eR ws fun x hx=>⟨(hw x hx).1,(hw x hx).2.1⟩
 rw[e]
 refine⟨xp h0 (fun x hx=>(hw x hx).2.2) (gk hn) fun h=>?_,j2,?_⟩
 ·rw[xg h]at hb; cases hb
 ·have:ws.length * 62≤6 * 62:=Nat.mul_le_mul_right _ h6
  omega
theorem cx{ws:List Str}(h:(ws.headD "", ws.length)∉aN):lG ws=false:=by
 unfold lG; rw[decide_eq_false h]; rfl
theorem fw{ws:List Str}{x:Str}(hx:x∈ws.drop 1)(h:(if dD (ws.headD "")=true then nj x else bw x)=false):lG ws=false:=by
 unfold lG
 rw[Bool.and_eq_false_iff]
 refine .inr ?_
 rw[List.all_eq_false]
 exact⟨x,hx,by rw[h]; decide⟩
theorem pD:∀ p∈aN,∀ q∈aN,p.1=q.1→p.2=q.2:=by decide +kernel
theorem vR:∀ p∈aN,p.1∉bD:=by decide +kernel
theorem ut:∀ p∈aN,∃ c∈p.1.cps.toList.take 1,97≤c∧c≤122:=by decide +kernel
theorem yb:∀ p∈aN,9∉p.1.cps.toList:=by decide +kernel
theorem uE:∀ z∈bD,∃ c∈z.cps.toList.take 1,97≤c∧c≤122:=by decide +kernel
theorem yw:∀ z∈bD,9∉z.cps.toList:=by decide +kernel
theorem qO{x:Str}(h:∃ c∈x.cps.toList.take 1,97≤c∧c≤122):∃ c,x.cps.toList[0]? = some c∧97≤c∧c≤122:=by
 obtain⟨c,hc,h⟩:=h
 cases hx:x.cps.toList with
 | nil=>rw[hx]at hc; simp at hc
 | cons a l=>
  rw[hx]at hc
  have:c=a:=by simpa using hc
  exact⟨a,rfl,by rw[← this]; exact h⟩
theorem kH{z:Str}(h:fq z):∃ c,z.cps.toList[0]? = some c∧97≤c∧c≤122:=by
 rcases h with h | h
 ·exact qO (uE z h)
 ·have hk:=j3 h
  have hl:=lR h
  have hj:=jG z
  obtain⟨c,h1,h2⟩:=qO (ut _ hk)
  refine⟨c,?_,h2⟩
  rw[← hj]
  generalize Txt.split z " " = ws at hl h1
  match ws,hl with
  | a::b::r,_=>exact eA h1
theorem oX{z:Str}(h:∀ c,z.cps.toList[0]? = some c→c<97)(nl:Nl z)(ln:z.length≤400):gm z:=⟨fun hz=>by
 obtain⟨c,h1,h2,_⟩:=kH hz
 have:=h c h1
 omega,nl,ln⟩
structure Wx (x:Str):Prop where
 w:bw x=true
 s:∀ c∈x.cps.toList,c≠112
theorem Wx.wd{x:Str}(h:Wx x):Wd x:=⟨by have:=bU h.w; omega,fun z=>(ij h.w 10 z).2 rfl,fun z=>(ij h.w 32 z).1 rfl⟩
theorem vM{x:Str}(h:bw x=true):nj x=false:=by
 have h':=h
 unfold bw at h'
 rw[Bool.and_eq_true]at h'
 have hl:=of_decide_eq_true h'.1
 have hll:x.cps.toList.length=x.length:=Array.length_toList
 cases hx:x.cps.toList with
 | nil=>rw[hx]at hll; simp at hll; omega
 | cons a l=>
  have ha:a∈letters.cps.toList:=of_decide_eq_true (List.all_eq_true.mp h'.2 a (by rw[hx]; exact List.mem_cons_self))
  have hr:97≤a∧a≤122:=(by decide +kernel:∀ c∈letters.cps.toList,97≤c∧c≤122) a ha
  have ef:dC x=a::l:=by
   unfold dC
   rw[hx,if_neg (by simp; omega)]
  have e:oM (dC x)=false:=by
   rw[ef]
   unfold oM
   rw[List.all_eq_false]
   refine⟨a,List.mem_cons_self,?_⟩
   intro z
   have:=vp (of_decide_eq_true z)
   omega
  unfold nj
  rw[e,Bool.and_false]; rfl
theorem bK(a b c:Str):a++b++c=a++(b++c):=cM (by rw[bA,bA,bA,bA,List.append_assoc])
theorem ei(a b:Str):Txt.join " " [a,b]=a++Str.ofString " " ++ b:=ie " " a [b]
theorem ia(a b c:Str):Txt.join " " [a,b,c]=a++Str.ofString " " ++ b++Str.ofString " " ++ c:=ie " " a [b,c]
theorem vh(a b c d:Str):Txt.join " " [a,b,c,d]=a++Str.ofString " " ++ b++Str.ofString " " ++ c++Str.ofString " " ++ d:=ie " " a [b,c,d]
theorem bj{x:Str}(h:(decide (x.length≤61)&&decide (10∉x.cps.toList)&&decide (32∉x.cps.toList))=true):Wd x:=by
 rw[Bool.and_eq_true,Bool.and_eq_true]at h
 exact⟨of_decide_eq_true h.1.1,of_decide_eq_true h.1.2,of_decide_eq_true h.2⟩
theorem eK{a b:Str}(ha:Wd a)(hb:Wd b):∀ z∈[a,b],Wd z:=fun z hz=>by
 simp only[List.mem_cons,List.not_mem_nil,or_false]at hz
 rcases hz with rfl | rfl <;> assumption
theorem fX{a b c:Str}(ha:Wd a)(hb:Wd b)(hc:Wd c):∀ z∈[a,b,c],Wd z:=fun z hz=>by
 simp only[List.mem_cons,List.not_mem_nil,or_false]at hz
 rcases hz with rfl | rfl | rfl <;> assumption
theorem yq{a b c d:Str}(ha:Wd a)(hb:Wd b)(hc:Wd c)(hd:Wd d):∀ z∈[a,b,c,d],Wd z:=fun z hz=>by
 simp only[List.mem_cons,List.not_mem_nil,or_false]at hz
 rcases hz with rfl | rfl | rfl | rfl <;> assumption
theorem vm(y:Str):(Txt.slice y (some 1) none).cps.toList=y.cps.toList.drop 1:=by
 have e:=jC y (some ((1:Nat):Int)) none
 rw[HT.sIx_nat,HT.sIx_none]at e
 have e':(Txt.slice y (some 1) none).cps.toList=_:=e
 rw[e']
 have hl:y.cps.toList.length=y.length:=Array.length_toList
 by_cases z:1≤y.length
 ·rw[Nat.min_eq_left z]
  exact List.take_of_length_le (by rw[List.length_drop]; omega)
 ·have:y.cps.toList=[]:=List.length_eq_zero_iff.mp (by omega)
  rw[this]; simp
theorem CF{u:Str}:bw (Str.ofString "A" ++ u)=false:=by
 cases h:bw (Str.ofString "A" ++ u) with
 | false=>rfl
 | true=>
  unfold bw at h
  rw[Bool.and_eq_true]at h
  have:=of_decide_eq_true (List.all_eq_true.mp h.2 65 (by rw[bA]; exact List.mem_append_left _ (by decide +kernel)))
  exact absurd this (by decide +kernel)
theorem yc{x:Str}(hx:Wx x):bw (x++Str.ofString "abcdefgh")=false:=by
 cases h:bw (x++Str.ofString "abcdefgh") with
 | false=>rfl
 | true=>
  have h1:=bU h
  rw[Str.length_append,(by decide +kernel:(Str.ofString "abcdefgh").length=8)]at h1
  have h2:=hx.w
  unfold bw at h2
  rw[Bool.and_eq_true]at h2
  have:=(of_decide_eq_true h2.1).1
  omega
theorem rE{a b:Str}(ha:Wd a)(hb:Wd b)(h:a.length+b.length≤61):Wd (a++b):=by
 refine⟨by rw[Str.length_append]; exact h,fun z=>?_,fun z=>?_⟩
 ·rw[bA]at z
  exact(List.mem_append.mp z).elim ha.2.1 hb.2.1
 ·rw[bA]at z
  exact(List.mem_append.mp z).elim ha.2.2 hb.2.2
theorem Ci{x:Str}(hx:Wx x):Wd (x++Str.ofString "abcdefgh"):=rE hx.wd (bj (by decide +kernel)) (by have:=bU hx.w; rw[(by decide +kernel:(Str.ofString "abcdefgh").length=8)]; omega)
theorem xB{x:Str}(hx:Wd x):Wd (Txt.slice x (some 1) none):=by
 have e:=vm x
 have hl:=Txt.slice_le x (some 1) none
 refine⟨by have:=hx.1; omega,fun z=>?_,fun z=>?_⟩
 ·rw[e]at z; exact hx.2.1 (List.mem_of_mem_drop z)
 ·rw[e]at z; exact hx.2.2 (List.mem_of_mem_drop z)
theorem EE{x:Str}(hx:Wx x):Wd (Str.ofString "A" ++ Txt.slice x (some 1) none):=rE (bj (by decide +kernel)) (xB hx.wd) (by have:=bU hx.w; have:=Txt.slice_le x (some 1) none; rw[(by decide +kernel:(Str.ofString "A").length=1)]; omega)
theorem Dk{x:Str}(hx:Wx x):lG [x,Str.ofString "open"]=false:=by
 by_cases hb:dD x=true
 ·refine fw (x:=Str.ofString "open") (by simp) ?_
  show (if dD x=true then nj "open" else bw "open")=false
  rw[if_pos hb]; decide +kernel
 ·refine cx fun h=>?_
  have h':(x,2)∈aN:=h
  have h2:x = "open" ∨ x = "drop" ∨ dD x=true:=(by decide +kernel:∀ p∈aN,p.2=2→p.1 = "open" ∨ p.1 = "drop" ∨ dD p.1=true) _ h' rfl
  rcases h2 with h2 | h2 | h2
  ·exact hx.s 112 (by rw[h2]; decide +kernel) rfl
  ·exact hx.s 112 (by rw[h2]; decide +kernel) rfl
  ·exact hb h2
theorem xh{x:Str}(hx:Wx x):gm (Str.ofString "open" ++ x):=by
 have hw:Wd (Str.ofString "open" ++ x):=rE (bj (by decide +kernel)) hx.wd (by have:=bU hx.w; rw[(by decide +kernel:(Str.ofString "open").length=4)]; omega)
 refine⟨fun h=>?_,hw.2.1,by have:=hw.1; omega⟩
 rcases h with h | h
 ·have h1:=(by decide +kernel:∀ z∈bD,z.length≤4) _ h
  rw[Str.length_append,(by decide +kernel:(Str.ofString "open").length=4)]at h1
  have h2:=hx.w
  unfold bw at h2
  rw[Bool.and_eq_true]at h2
  have:=(of_decide_eq_true h2.1).1
  omega
 ·have e:Txt.split (Str.ofString "open" ++ x) " " = [Str.ofString "open" ++ x]:=cR (ws:=[Str.ofString "open" ++ x]) (by simp) (fun z hz=>by rw[List.mem_singleton.mp hz]; exact hw.2.2)
  rw[e]at h
  have:=lR h
  simp at this
def mo(x y:Str):List Str:=
 ([Str.ofString " ", Str.ofString "open", Str.ofString "open " ++ (x++Str.ofString " " ++ y),Str.ofString "Open " ++ x,Str.ofString "OPEN", Str.ofString "open A" ++ Txt.slice x (some 1) none,Str.ofString "open " ++ x++Str.ofString "abcdefgh", Str.ofString "open 1"]:List Str) ++
 ([Str.ofString "do " ++ x,Str.ofString "do", Str.ofString "do read " ++ (x++Str.ofString " " ++ y),Str.ofString "do rea1 " ++ x,Str.ofString "do readreadr " ++ x,Str.ofString "copy " ++ x,Str.ofString "copy"]:List Str) ++
 ([Str.ofString "copy " ++ (x++Str.ofString " " ++ y)++Str.ofString " " ++ x,Str.ofString "drop", Str.ofString "drop " ++ (x++Str.ofString " " ++ y),Str.ofString "tie " ++ x,Str.ofString "tie", Str.ofString "tie " ++ x++Str.ofString " -"]:List Str) ++
 ([Str.ofString "lend " ++ x,Str.ofString "lend " ++ (x++Str.ofString " " ++ y)++Str.ofString " " ++ x,Str.ofString "lend", Str.ofString "lend  ", Str.ofString "shut " ++ x,x++Str.ofString " open", Str.ofString "end"]:List Str) ++
 ([Str.ofString "back " ++ x,Str.ofString "else 1", Str.ofString "fi fi", Str.ofString "done 0", Str.ofString "if", Str.ofString "while", Str.ofString "if " ++ x,Str.ofString "while 1 2", Str.ofString "open" ++ x]:List Str)
theorem xa{x y:Str}(hx:Wx x)(hy:Wx y):∀ z∈mo x y,gm z:=by
 intro z hz
 simp only[mo,List.mem_append,List.mem_cons,List.not_mem_nil,or_false]at hz
 rcases hz with ((((rfl | rfl | rfl | rfl | rfl | rfl | rfl | rfl) | (rfl | rfl | rfl | rfl | rfl | rfl | rfl)) | (rfl | rfl | rfl | rfl | rfl | rfl)) | (rfl | rfl | rfl | rfl | rfl | rfl | rfl)) | (rfl | rfl | rfl | rfl | rfl | rfl | rfl | rfl | rfl)
 ·exact b8 (by decide +kernel)
 ·exact b8 (by decide +kernel)
 ·exact cr (ws:=[Str.ofString "open", x,y]) (by rw[show Str.ofString "open " = Str.ofString "open" ++ Str.ofString " " by decide +kernel,ia] <;> simp only[bK]) (by simp) (by simp) (fX (bj (by decide +kernel)) hx.wd hy.wd) (cx (by show (Str.ofString "open", 3)∉aN; decide +kernel))
 ·exact cr (ws:=[Str.ofString "Open", x]) (by rw[show Str.ofString "Open " = Str.ofString "Open" ++ Str.ofString " " by decide +kernel,ei] <;> simp only[bK]) (by simp) (by simp) (eK (bj (by decide +kernel)) hx.wd) (cx (by show (Str.ofString "Open", 2)∉aN; decide +kernel))
 ·exact b8 (by decide +kernel)
 ·exact cr (ws:=[Str.ofString "open", Str.ofString "A" ++ Txt.slice x (some 1) none]) (by rw[show Str.ofString "open A" = Str.ofString "open" ++ Str.ofString " " ++ Str.ofString "A" by decide +kernel,ei] <;> simp only[bK]) (by simp) (by simp) (eK (bj (by decide +kernel)) (EE hx)) (fw (x:=Str.ofString "A" ++ Txt.slice x (some 1) none) (by simp) (by show (if dD "open" = true then _ else _)=false; rw[if_neg (by decide +kernel)]; exact CF))
 ·exact cr (ws:=[Str.ofString "open", x++Str.ofString "abcdefgh"]) (by rw[show Str.ofString "open " = Str.ofString "open" ++ Str.ofString " " by decide +kernel,ei] <;> simp only[bK]) (by simp) (by simp) (eK (bj (by decide +kernel)) (Ci hx)) (fw (x:=x++Str.ofString "abcdefgh") (by simp) (by show (if dD "open" = true then _ else _)=false; rw[if_neg (by decide +kernel)]; exact yc hx))
 ·exact b8 (by decide +kernel)
 ·exact cr (ws:=[Str.ofString "do", x]) (by rw[show Str.ofString "do " = Str.ofString "do" ++ Str.ofString " " by decide +kernel,ei] <;> simp only[bK]) (by simp) (by simp) (eK (bj (by decide +kernel)) hx.wd) (cx (by show (Str.ofString "do", 2)∉aN; decide +kernel))
 ·exact b8 (by decide +kernel)
 ·exact cr (ws:=[Str.ofString "do", Str.ofString "read", x,y]) (by rw[show Str.ofString "do read " = Str.ofString "do" ++ Str.ofString " " ++ Str.ofString "read" ++ Str.ofString " " by decide +kernel,vh] <;> simp only[bK]) (by simp) (by simp) (yq (bj (by decide +kernel)) (bj (by decide +kernel)) hx.wd hy.wd) (cx (by show (Str.ofString "do", 4)∉aN; decide +kernel))
 ·exact cr (ws:=[Str.ofString "do", Str.ofString "rea1", x]) (by rw[show Str.ofString "do rea1 " = Str.ofString "do" ++ Str.ofString " " ++ Str.ofString "rea1" ++ Str.ofString " " by decide +kernel,ia] <;> simp only[bK]) (by simp) (by simp) (fX (bj (by decide +kernel)) (bj (by decide +kernel)) hx.wd) (fw (x:=Str.ofString "rea1") (by simp) (by show (if dD "do" = true then _ else _)=false; rw[if_neg (by decide +kernel)]; decide +kernel))
 ·exact cr (ws:=[Str.ofString "do", Str.ofString "readreadr", x]) (by rw[show Str.ofString "do readreadr " = Str.ofString "do" ++ Str.ofString " " ++ Str.ofString "readreadr" ++ Str.ofString " " by decide +kernel,ia] <;> simp only[bK]) (by simp) (by simp) (fX (bj (by decide +kernel)) (bj (by decide +kernel)) hx.wd) (fw (x:=Str.ofString "readreadr") (by simp) (by show (if dD "do" = true then _ else _)=false; rw[if_neg (by decide +kernel)]; decide +kernel))
 ·exact cr (ws:=[Str.ofString "copy", x]) (by rw[show Str.ofString "copy " = Str.ofString "copy" ++ Str.ofString " " by decide +kernel,ei] <;> simp only[bK]) (by simp) (by simp) (eK (bj (by decide +kernel)) hx.wd) (cx (by show (Str.ofString "copy", 2)∉aN; decide +kernel))
 ·exact b8 (by decide +kernel)
 ·exact cr (ws:=[Str.ofString "copy", x,y,x]) (by rw[show Str.ofString "copy " = Str.ofString "copy" ++ Str.ofString " " by decide +kernel,vh] <;> simp only[bK]) (by simp) (by simp) (yq (bj (by decide +kernel)) hx.wd hy.wd hx.wd) (cx (by show (Str.ofString "copy", 4)∉aN; decide +kernel))
 ·exact b8 (by decide +kernel)
 ·exact cr (ws:=[Str.ofString "drop", x,y]) (by rw[show Str.ofString "drop " = Str.ofString "drop" ++ Str.ofString " " by decide +kernel,ia] <;> simp only[bK]) (by simp) (by simp) (fX (bj (by decide +kernel)) hx.wd hy.wd) (cx (by show (Str.ofString "drop", 3)∉aN; decide +kernel))
 ·exact cr (ws:=[Str.ofString "tie", x]) (by rw[show Str.ofString "tie " = Str.ofString "tie" ++ Str.ofString " " by decide +kernel,ei] <;> simp only[bK]) (by simp) (by simp) (eK (bj (by decide +kernel)) hx.wd) (cx (by show (Str.ofString "tie", 2)∉aN; decide +kernel))
 ·exact b8 (by decide +kernel)
 ·exact cr (ws:=[Str.ofString "tie", x,Str.ofString "-"]) (by rw[show Str.ofString "tie " = Str.ofString "tie" ++ Str.ofString " " by decide +kernel,show Str.ofString " -" = Str.ofString " " ++ Str.ofString "-" by decide +kernel,ia] <;> simp only[bK]) (by simp) (by simp) (fX (bj (by decide +kernel)) hx.wd (bj (by decide +kernel))) (fw (x:=Str.ofString "-") (by simp) (by show (if dD "tie" = true then _ else _)=false; rw[if_neg (by decide +kernel)]; decide +kernel))
 ·exact cr (ws:=[Str.ofString "lend", x]) (by rw[show Str.ofString "lend " = Str.ofString "lend" ++ Str.ofString " " by decide +kernel,ei] <;> simp only[bK]) (by simp) (by simp) (eK (bj (by decide +kernel)) hx.wd) (cx (by show (Str.ofString "lend", 2)∉aN; decide +kernel))
 ·exact cr (ws:=[Str.ofString "lend", x,y,x]) (by rw[show Str.ofString "lend " = Str.ofString "lend" ++ Str.ofString " " by decide +kernel,vh] <;> simp only[bK]) (by simp) (by simp) (yq (bj (by decide +kernel)) hx.wd hy.wd hx.wd) (cx (by show (Str.ofString "lend", 4)∉aN; decide +kernel))
 ·exact b8 (by decide +kernel)
 ·exact b8 (by decide +kernel)
 ·exact cr (ws:=[Str.ofString "shut", x]) (by rw[show Str.ofString "shut " = Str.ofString "shut" ++ Str.ofString " " by decide +kernel,ei] <;> simp only[bK]) (by simp) (by simp) (eK (bj (by decide +kernel)) hx.wd) (cx (by show (Str.ofString "shut", 2)∉aN; decide +kernel))
 ·exact cr (ws:=[x,Str.ofString "open"]) (by rw[show Str.ofString " open" = Str.ofString " " ++ Str.ofString "open" by decide +kernel,ei] <;> simp only[bK]) (by simp) (by simp) (eK hx.wd (bj (by decide +kernel))) (Dk hx)
 ·exact b8 (by decide +kernel)
 ·exact cr (ws:=[Str.ofString "back", x]) (by rw[show Str.ofString "back " = Str.ofString "back" ++ Str.ofString " " by decide +kernel,ei] <;> simp only[bK]) (by simp) (by simp) (eK (bj (by decide +kernel)) hx.wd) (cx (by show (Str.ofString "back", 2)∉aN; decide +kernel))
 ·exact b8 (by decide +kernel)
 ·exact b8 (by decide +kernel)
 ·exact b8 (by decide +kernel)
 ·exact b8 (by decide +kernel)
 ·exact b8 (by decide +kernel)
 ·exact cr (ws:=[Str.ofString "if", x]) (by rw[show Str.ofString "if " = Str.ofString "if" ++ Str.ofString " " by decide +kernel,ei] <;> simp only[bK]) (by simp) (by simp) (eK (bj (by decide +kernel)) hx.wd) (fw (x:=x) (by simp) (by show (if dD "if" = true then _ else _)=false; rw[if_pos (by decide +kernel)]; exact vM hx.w))
 ·exact b8 (by decide +kernel)
 ·exact xh hx
def oddBs:List Str:=(["00", "01", "-0", "-01", "+1", "1_0", "--1", "-", "1.0", "1e3", "a", "0x1", "1-", "- 1", Txt.mul "9" 61]:List Str)++([Str.ofString "-1" ++ Txt.mul "0" 60]:List Str)
theorem ud:∀ b∈oddBs,(!nr (Str.ofString "while " ++ b)&&decide (10∉(Str.ofString "while " ++ b).cps.toList)&&decide ((Str.ofString "while " ++ b).length≤400))=true∧(!nr (Str.ofString "if " ++ b)&&decide (10∉(Str.ofString "if " ++ b).cps.toList)&&decide ((Str.ofString "if " ++ b).length≤400))=true:=by decide +kernel
def lA(x y:Str):List (List Str):=[["open", x],["do", "read", y],["do", "end", x],["copy", y,x],["lend", y,x],["while", "0"]]
def Dr(x y z:Str):Prop:=z∈bD∨(∃ ws∈lA x y,z=Txt.join " " ws)∨∃ n:Int,b5 (.int n)=true∧z=Txt.join " " ["if", aO n]
theorem nB{n:Int}(h:b5 (.int n)=true):Wd (aO n):=by
 obtain⟨h1,h2⟩:=lE h
 refine⟨h1,h2,fun z=>?_⟩
 cases n with
 | ofNat m=>have e:=cH m; have h3:=(bR m).1 32 (by rw[← e]; exact z); omega
 | negSucc m=>
  rw[eI]at z
  rcases List.mem_cons.mp z with z | z
  ·cases z
  ·have h3:=(bR (m+1)).1 32 z; omega
structure DrW (z:Str) (ws:List Str):Prop where
 e:z=Txt.join " " ws
 ne:ws≠[]
 wd:∀ w∈ws,Wd w
 l3:ws.length≤3
 k:(z∈bD∧ws=[z])∨(ws.headD "", ws.length)∈aN
theorem nu{x y z:Str}(hx:Wx x)(hy:Wx y)(h:Dr x y z):∃ ws,DrW z ws:=by
 have lw:∀ {s:Str},(decide (s.length≤61)&&decide (10∉s.cps.toList)&&decide (32∉s.cps.toList))=true→Wd s:=bj
 rcases h with h | ⟨ws,hm,rfl⟩ | ⟨n,hn,rfl⟩
 ·refine⟨[z],rfl,by simp,fun w hw=>?_,by simp,.inl ⟨h,rfl⟩⟩
  rw[List.mem_singleton.mp hw]
  exact lw ((by decide +kernel:∀ s∈bD,(decide (s.length≤61)&&decide (10∉s.cps.toList)&&decide (32∉s.cps.toList))=true) z h)
 ·simp only[lA,List.mem_cons,List.not_mem_nil,or_false]at hm
  rcases hm with rfl | rfl | rfl | rfl | rfl | rfl
  ·exact⟨_,rfl,by simp,eK (lw (by decide +kernel)) hx.wd,by simp,.inr (by show (Str.ofString "open", 2)∈aN; decide +kernel)⟩
  ·exact⟨_,rfl,by simp,fX (lw (by decide +kernel)) (lw (by decide +kernel)) hy.wd,by simp,.inr (by show (Str.ofString "do", 3)∈aN; decide +kernel)⟩
  ·exact⟨_,rfl,by simp,fX (lw (by decide +kernel)) (lw (by decide +kernel)) hx.wd,by simp,.inr (by show (Str.ofString "do", 3)∈aN; decide +kernel)⟩
  ·exact⟨_,rfl,by simp,fX (lw (by decide +kernel)) hy.wd hx.wd,by simp,.inr (by show (Str.ofString "copy", 3)∈aN; decide +kernel)⟩
  ·exact⟨_,rfl,by simp,fX (lw (by decide +kernel)) hy.wd hx.wd,by simp,.inr (by show (Str.ofString "lend", 3)∈aN; decide +kernel)⟩
  ·exact⟨_,rfl,by simp,eK (lw (by decide +kernel)) (lw (by decide +kernel)),by simp,.inr (by show (Str.ofString "while", 2)∈aN; decide +kernel)⟩
 ·exact⟨_,rfl,by simp,eK (lw (by decide +kernel)) (nB hn),by simp,.inr (by show (Str.ofString "if", 2)∈aN; decide +kernel)⟩
theorem DrW.ln{z:Str}{ws:List Str}(h:DrW z ws):z.length≤190∧Nl z:=by
 obtain⟨j1,j2⟩:=eR ws fun x hx=>⟨(h.wd x hx).1,(h.wd x hx).2.1⟩
 rw[h.e]
 refine⟨?_,j2⟩
 have:ws.length * 62≤3 * 62:=Nat.mul_le_mul_right _ h.l3
 omega
theorem DrW.split{z:Str}{ws:List Str}(h:DrW z ws):Txt.split z " " = ws:=by
 rw[h.e]; exact cR h.ne fun x hx=>(h.wd x hx).2.2
theorem yG{x y z:Str}(hx:Wx x)(hy:Wx y)(h:Dr x y z):∀ u∈dg z,u∈[x,y]:=by
 intro u hu
 have fr:∀ {ws:List Str},DrW (Txt.join " " ws) ws→dg (Txt.join " " ws)=(if ws.headD "" ∈ cG then ws.drop 1 else [])++(if ws.headD "" = "do" then ws.drop 2 else []):=fun {ws} h=>by unfold dg; rw[h.split]
 rcases h with h | ⟨ws,hm,rfl⟩ | ⟨n,hn,rfl⟩
 ·rw[(kR z h).1]at hu; cases hu
 ·have hd:DrW (Txt.join " " ws) ws:=by
   obtain⟨ws',h'⟩:=nu hx hy (.inr (.inl ⟨ws,hm,rfl⟩))
   have e1:=h'.split
   have:Txt.split (Txt.join " " ws) " " = ws:=by
    refine cR (fun z=>?_) fun w hw=>?_
    ·rw[z]at hm; simp[lA]at hm
    ·simp only[lA,List.mem_cons,List.not_mem_nil,or_false]at hm
     rcases hm with rfl | rfl | rfl | rfl | rfl | rfl <;> simp only[List.mem_cons,List.not_mem_nil,or_false]at hw <;> rcases hw with rfl | hw <;> (try rcases hw with rfl | rfl) <;> first | exact hx.wd.2.2 | exact hy.wd.2.2 | (decide +kernel) | (subst hw; exact hx.wd.2.2) | (subst hw; decide +kernel)
   rw[this]at e1
   rw[e1]; rw[e1]at h'; exact h'
  rw[fr hd]at hu
  have n1:∀ {k:Str} {us:List Str},k∈cG→k ≠ "do" → u∈(if (k::us).headD "" ∈ cG then (k::us).drop 1 else [])++(if (k::us).headD "" = "do" then (k::us).drop 2 else [])→u∈us:=fun {k us} h1 h2 h=>by
   have h':u∈(if k∈cG then us else [])++(if k = "do" then us.drop 1 else []):=h
   rw[if_pos h1,if_neg h2,List.append_nil]at h'; exact h'
  have n2:∀ {us:List Str},u∈(if ((Str.ofString "do")::us).headD "" ∈ cG then ((Str.ofString "do")::us).drop 1 else [])++(if ((Str.ofString "do")::us).headD "" = "do" then ((Str.ofString "do")::us).drop 2 else [])→u∈us.drop 1:=fun {us} h=>by
   have h':u∈(if Str.ofString "do" ∈ cG then us else [])++(if Str.ofString "do" = Str.ofString "do" then us.drop 1 else []):=h
   rw[if_neg (by decide +kernel),if_pos rfl,List.nil_append]at h'; exact h'
  simp only[lA,List.mem_cons,List.not_mem_nil,or_false]at hm
  rcases hm with rfl | rfl | rfl | rfl | rfl | rfl
  ·have:=n1 (by decide +kernel) (by decide +kernel) hu
   simp at this; simp[this]
  ·have:=n2 hu
   simp at this; simp[this]
  ·have:=n2 hu
   simp at this; simp[this]
  ·have:=n1 (by decide +kernel) (by decide +kernel) hu
   simp at this; rcases this with z | z <;> simp[z]
  ·have:=n1 (by decide +kernel) (by decide +kernel) hu
   simp at this; rcases this with z | z <;> simp[z]
  ·have h':u∈(if Str.ofString "while" ∈ cG then [Str.ofString "0"] else [])++(if Str.ofString "while" = Str.ofString "do" then [] else []):=hu
   rw[if_neg (by decide +kernel),if_neg (by decide +kernel)]at h'; cases h'
 ·have e:Txt.split (Txt.join " " [("if" : Str),aO n]) " " = [("if" : Str),aO n]:=cR (by simp) fun w hw=>by
   simp only[List.mem_cons,List.not_mem_nil,or_false]at hw
   rcases hw with rfl | rfl
   ·decide +kernel
   ·exact(nB hn).2.2
  unfold dg at hu
  rw[e]at hu
  have h':u∈(if Str.ofString "if" ∈ cG then [aO n] else [])++(if Str.ofString "if" = Str.ofString "do" then [] else []):=hu
  rw[if_neg (by decide +kernel),if_neg (by decide +kernel)]at h'; cases h'
def bJ:List da→List Str
 | []=>[]
 | .lend _ _ _::r => "back" :: bJ r
 | .whl _ _::r => "done" :: bJ r
 | .inB _ _::r => "else" :: "fi" :: bJ r
 | .inC _ _ _::r => "fi" :: bJ r
theorem hV:∀ (fs:List da),∀ z∈bJ fs,z∈bD
 | [],z,h=>by cases h
 | .lend _ _ _::r,z,h=>by
  rcases List.mem_cons.mp h with rfl | h
  ·decide +kernel
  ·exact hV r z h
 | .whl _ _::r,z,h=>by
  rcases List.mem_cons.mp h with rfl | h
  ·decide +kernel
  ·exact hV r z h
 | .inB _ _::r,z,h=>by
  rcases List.mem_cons.mp h with rfl | h
  ·decide +kernel
  rcases List.mem_cons.mp h with rfl | h
  ·decide +kernel
  ·exact hV r z h
 | .inC _ _ _::r,z,h=>by
  rcases List.mem_cons.mp h with rfl | h
  ·decide +kernel
  ·exact hV r z h
def fE(n:Nat)(fs:List da):Nat:=match fs.getLast? with
 | none=>n
 | some f=>pY f+1
theorem jv(n m:Nat)(g:da)(r:List da):fE n (g::r)=fE m (g::r):=by
 unfold fE
 cases hg:(g::r).getLast? with
 | none=>simp at hg
 | some f=>rfl
theorem gp(n m:Nat)(a g:da)(r:List da):fE n (a::g::r)=fE m (g::r):=by
 unfold fE
 rw[List.getLast?_cons_cons]
 exact jv n m g r
def dh(st:BS):Nat:=fE st.cur.length st.stk
theorem km{st:BS}{f:da}{r:List da}(h:st.stk=f::r):bJ st.stk=cq f::bJ (d7 st).stk∧dh (d7 st)=dh st:=by
 obtain⟨cur,stk,L,left,lends⟩:=st
 dsimp only at h
 subst h
 constructor
 ·cases f <;> rfl
 ·cases f with
  | lend x y up=>
   cases r with
   | nil=>show (up++[_]).length=up.length+1; simp
   | cons g r=>show fE _ (g::r)=fE _ (_::g::r); rw[gp _ cur.length]; exact jv _ _ g r
  | whl n up=>
   cases r with
   | nil=>show (up++[_]).length=up.length+1; simp
   | cons g r=>show fE _ (g::r)=fE _ (_::g::r); rw[gp _ cur.length]; exact jv _ _ g r
  | inB n up=>
   cases r with
   | nil=>rfl
   | cons g r=>show fE _ (_::g::r)=fE _ (_::g::r); rw[gp _ cur.length,gp _ cur.length]
  | inC n b up=>
   cases r with
   | nil=>show (up++[_]).length=up.length+1; simp
   | cons g r=>show fE _ (g::r)=fE _ (_::g::r); rw[gp _ cur.length]; exact jv _ _ g r
theorem tf{st:BS}{f:da}{r:List da}(h:st.stk=f::r):(bJ (d7 st).stk).length+1=(bJ st.stk).length:=by
 rw[(km h).1]; rfl
theorem oQ:∀ (n:Nat) (st:BS),(bJ st.stk).length=n→∃ st',bC st (bJ st.stk)=some st'∧st'.stk=[]∧dh st'=dh st
 | 0,st,h=>by
  have e:bJ st.stk=[]:=List.length_eq_zero_iff.mp h
  have e2:st.stk=[]:=by
   cases hs:st.stk with
   | nil=>rfl
   | cons f r=>rw[(km hs).1]at e; cases e
  exact⟨st,by rw[e]; rfl,e2,rfl⟩
 | n+1,st,h=>by
  cases hs:st.stk with
  | nil=>rw[hs]at h; simp[bJ]at h
  | cons f r=>
   have hp:=km hs
   have hl:=tf hs
   obtain⟨st',h1,h2,h3⟩:=oQ n (d7 st) (by omega)
   refine⟨st',?_,h2,h3.trans hp.2⟩
   rw[← hs,hp.1,gg hs]; exact h1
theorem jz:∀ fs:List da,(bJ fs).countP (fun z=>decide (z≠("else" : Str)))=fs.length
 | []=>rfl
 | .lend _ _ _::r=>by
  show (Str.ofString "back" :: bJ r).countP _=r.length+1
  rw[List.countP_cons,jz r,if_pos (by decide +kernel)]
 | .whl _ _::r=>by
  show (Str.ofString "done" :: bJ r).countP _=r.length+1
  rw[List.countP_cons,jz r,if_pos (by decide +kernel)]
 | .inB _ _::r=>by
  show (Str.ofString "else" :: Str.ofString "fi" :: bJ r).countP _=r.length+1
  rw[List.countP_cons,List.countP_cons,jz r,if_pos (by decide +kernel),if_neg (by decide +kernel)]
 | .inC _ _ _::r=>by
  show (Str.ofString "fi" :: bJ r).countP _=r.length+1
  rw[List.countP_cons,jz r,if_pos (by decide +kernel)]
theorem x9{st:BS}(f:da)(hf:pY f=st.cur.length)(L:List Str):dh { st with cur:=[],stk:=f::st.stk,L:=L }=dh st+(if st.stk=[] then 1 else 0):=by
 obtain⟨cur,stk,L',left,lends⟩:=st
 cases stk with
 | nil=>show pY f+1=cur.length+_; rw[if_pos rfl,hf]
 | cons g r=>
  rw[if_neg (by simp)]
  exact gp _ cur.length f g r
theorem xj{st:BS}(s:ak)(L:List Str):dh { st with cur:=st.cur++[s],L:=L }=dh st+(if st.stk=[] then 1 else 0):=by
 obtain⟨cur,stk,L',left,lends⟩:=st
 cases stk with
 | nil=>show (cur++[s]).length=cur.length+_; rw[if_pos rfl,List.length_append]; rfl
 | cons g r=>
  rw[if_neg (by simp)]
  exact jv _ cur.length g r
theorem qW{α β : Type}{f g:α→Option β}:∀ {l:List α},(∀ x∈l,f x=g x)→l.filterMap f=l.filterMap g
 | [],_=>rfl
 | a::l,h=>by
  have ih:=qW (f:=f) (g:=g) (l:=l) fun x hx=>h x (List.mem_cons_of_mem _ hx)
  have ha:=h a List.mem_cons_self
  cases e:f a with
  | none=>rw[List.filterMap_cons_none e,List.filterMap_cons_none (ha ▸ e),ih]
  | some b=>rw[List.filterMap_cons_some e,List.filterMap_cons_some (ha ▸ e),ih]
theorem tG:∀ l:List V,(List.range l.length).filterMap (fun k=>l[k]?)=l
 | []=>rfl
 | a::l=>by
  have e0:(fun k=>(a::l)[k]?) 0=some a:=rfl
  rw[List.length_cons,List.range_succ_eq_map,List.filterMap_cons_some e0,List.filterMap_map]
  congr 1
  exact tG l
theorem ww(xs:List V):kL xs none none (some (-1))=xs.reverse:=by
 unfold kL
 rw[uo]
 have e:sliceRange ((xs.length:Int) - 1) (-1) (-1)=(List.range xs.length).map fun k=>xs.length - 1 - k:=by
  unfold sliceRange
  simp only[show ¬ ((-1:Int)>0) by decide,if_false,show (- -1:Int)=1 by decide,Int.ediv_one]
  have e2:(if (xs.length:Int) - 1 > -1 then (xs.length:Int) - 1 - -1 - -1 - 1 else 0).toNat=xs.length:=by split <;> omega
  rw[e2]
  refine List.map_congr_left fun k hk=>?_
  have:=List.mem_range.mp hk
  omega
 rw[e,List.filterMap_map]
 have h:=tG xs.reverse
 rw[List.length_reverse]at h
 refine Eq.trans (qW fun k hk=>?_) h
 have hk':=List.mem_range.mp hk
 show xs[xs.length - 1 - k]? = xs.reverse[k]?
 rw[List.getElem?_reverse hk']
structure DI (x y:Str) (L:List Str) (st:BS) (left lends:Int):Prop where
 run:bC mB L=some st
 len:(L.length:Int)+(bJ st.stk).length+left≤40
 l0:0≤left
 ld:(L.countP cT:Int)+lends≤3
 d0:0≤lends
 dr:∀ z∈L,Dr x y z
 deep:st.stk.length≤8
 one:1≤L.length
theorem oB{x y:Str}{L:List Str}{z:Str}(h:∀ u∈L,Dr x y u)(hz:Dr x y z):∀ u∈L++[z],Dr x y u:=fun u hu=>by
 rcases List.mem_append.mp hu with hu | hu
 ·exact h u hu
 ·rw[List.mem_singleton.mp hu]; exact hz
theorem mM{L:List Str}{st st':BS}{z:Str}(h:bC mB L=some st)(h2:b_ st z=some st'):bC mB (L++[z])=some st':=by
 rw[o_,h]; exact h2
theorem DI.pop{x y:Str}{L:List Str}{st:BS}{left lends:Int}(h:DI x y L st left lends){f:da}{r:List da}(hs:st.stk=f::r):DI x y (L++[cq f]) (d7 st) left lends:=by
 have hl:=tf hs
 have hd:(d7 st).stk.length≤st.stk.length:=by
  obtain⟨cur,stk,L',a,b⟩:=st
  dsimp only at hs
  subst hs
  cases f <;> simp[d7]
 have he:=(kR _ (jP f)).2
 have h1:=h.len
 have h2:=h.ld
 have h3:=h.deep
 refine⟨mM h.run ?_,?_,h.l0,?_,h.d0,oB h.dr (.inl (jP f)),by omega,by rw[List.length_append,List.length_singleton]; omega⟩
 ·unfold b_; rw[hs]; exact if_pos rfl
 ·rw[List.length_append,List.length_singleton]; omega
 ·rw[List.countP_append,List.countP_cons,List.countP_nil,he]; simp; omega
theorem DI.plain{x y:Str}{L:List Str}{st:BS}{left lends:Int}(h:DI x y L st left lends){ws:List Str}(hl:0<left)(hw:DrW (Txt.join " " ws) ws) (hp:ix ws) (hd:Dr x y (Txt.join " " ws)) (hi:cT (Txt.join " " ws)=false) :
  ∃ st',DI x y (L++[Txt.join " " ws]) st' (left - 1) lends∧st'.stk=st.stk∧dh st'=dh st+(if st.stk=[] then 1 else 0):=by
 have h1:=h.len
 have h2:=h.ld
 have h3:=h.deep
 have hs:=hw.split
 have hne:Txt.join " " ws∉bD:=gk (by have:=(lR (.inl hp)).1; exact this)
 have e:=h_ (st:=st) (x:=Txt.join " " ws) h3 (by rw[hs]; exact hp)
 refine⟨_,⟨mM h.run ((e_ hne).trans e),?_,by omega,?_,h.d0,oB h.dr hd,h3,by rw[List.length_append,List.length_singleton]; omega⟩,rfl,xj _ _⟩
 ·rw[List.length_append,List.length_singleton]
  show ((L.length+1:Nat):Int)+((bJ st.stk).length:Int)+(left - 1)≤40
  omega
 ·rw[List.countP_append,List.countP_cons,List.countP_nil,hi]; simp; omega
theorem DI.opn{x y:Str}{L:List Str}{st:BS}{left lends k:Int}(h:DI x y L st left lends){ws:List Str}{f:da}(hl:2<left)(h8:st.stk.length<8)(hop:fm ws st.cur f)(hw:DrW (Txt.join " " ws) ws) (hd:Dr x y (Txt.join " " ws)) (hi:(if cT (Txt.join " " ws)=true then 1 else 0:Int)=k) (hk:0≤lends - k) (hf:pY f=st.cur.length) (hc:∃ cs:List Str,bJ (f::st.stk)=cs++bJ st.stk∧cs.length≤2) :
  ∃ st',DI x y (L++[Txt.join " " ws]) st' (left - 3) (lends - k)∧st'.stk=f::st.stk∧dh st'=dh st+(if st.stk=[] then 1 else 0):=by
 have h1:=h.len
 have h2:=h.ld
 have h3:=h.deep
 have hs:=hw.split
 have hne:Txt.join " " ws∉bD:=gk (by
  have h2:=(by
   cases f with
   | lend a b up=>rw[hop.1]; exact Nat.le_succ_of_le (Nat.le_refl 2)
   | whl n up=>obtain⟨⟨u,e,_⟩,_⟩:=hop; rw[e]; exact Nat.le_refl 2
   | inB n up=>obtain⟨⟨u,e,_⟩,_⟩:=hop; rw[e]; exact Nat.le_refl 2
   | inC _ _ _=>exact hop.elim:2≤ws.length)
  exact h2)
 have hop':fm (Txt.split (Txt.join " " ws) " ") st.cur f:=by rw[hs]; exact hop
 have e:=eZ (st:=st) (x:=Txt.join " " ws) h3 (f_ hop') hop'
 obtain⟨cs,c1,c2⟩:=hc
 refine⟨_,⟨mM h.run ((e_ hne).trans e),?_,by omega,?_,hk,oB h.dr hd,by show st.stk.length+1≤8; omega,by rw[List.length_append,List.length_singleton]; omega⟩,rfl,x9 f hf _⟩
 ·rw[List.length_append,List.length_singleton]
  show ((L.length+1:Nat):Int)+((bJ (f::st.stk)).length:Int)+(left - 3)≤40
  rw[c1,List.length_append]
  omega
 ·rw[List.countP_append,List.countP_cons,List.countP_nil,← hi]
  cases cT (Txt.join " " ws) with
  | true=>simp; omega
  | false=>simp; omega
theorem DI.fin{x y:Str}(hx:Wx x)(hy:Wx y){L:List Str}{st:BS}{left lends:Int}(h:DI x y L st left lends):∃ T:List ak,T.length=dh st∧c_ (L++bJ st.stk)=some T∧jp (L++bJ st.stk)=true∧(∀ z∈L++bJ st.stk,Dr x y z)∧1≤(L++bJ st.stk).length∧(L++bJ st.stk).length≤40:=by
 obtain⟨st',h1,h2,h3⟩:=oQ _ st rfl
 have hl:=h.len
 have h0:=h.l0
 have hd:=h.ld
 have hd0:=h.d0
 have ho:=h.one
 have hdr:∀ z∈L++bJ st.stk,Dr x y z:=fun z hz=>by
  rcases List.mem_append.mp hz with hz | hz
  ·exact h.dr z hz
  ·exact .inl (hV _ z hz)
 refine⟨st'.cur,?_,?_,?_,hdr,by rw[List.length_append]; omega,by rw[List.length_append]; omega⟩
 ·have:dh st'=st'.cur.length:=by unfold dh; rw[h2]; rfl
  rw[← this,h3]
 ·unfold c_
  rw[mZ,h.run]
  show (match bC st (bJ st.stk) with | some st=>if st.stk=[] then some st.cur else none | none=>none)=some st'.cur
  rw[h1]
  exact if_pos h2
 ·have hn:(fH ((L++bJ st.stk).flatMap dg)).length≤2:=qY (m:=[x,y]) fun u hu=>by
   obtain⟨z,hz,hu⟩:=List.mem_flatMap.mp hu
   exact yG hx hy (hdr z hz) u hu
  have hc:(bJ st.stk).countP cT=0:=by
   rw[List.countP_eq_zero]
   intro z hz
   rw[(kR z (hV _ z hz)).2]; decide
  unfold jp
  rw[decide_eq_true (by rw[List.length_append]; omega),decide_eq_true (by rw[List.countP_append,hc]; omega),decide_eq_true (by omega)]; rfl
theorem oC{f:da}(h:∀ n b up,f ≠ .inC n b up)(r:List da):∃ cs:List Str,bJ (f::r)=cs++bJ r∧cs.length≤2:=by
 cases f with
 | lend x y up=>exact⟨["back"],rfl,by simp⟩
 | whl n up=>exact⟨["done"],rfl,by simp⟩
 | inB n up=>exact⟨["else", "fi"],rfl,by simp⟩
 | inC n b up=>exact absurd rfl (h n b up)
def vD(K:PySem.W.Frag):Sp:=fun vs H Q _=>∃ (ca:Addr) (cs:List Int) (x y:Str),vs=[.ref ca,.str x,.str y]∧SqL K H ca (cs.map V.int)∧cs.length≤63∧Wx x∧Wx y∧
 ∀ (t lp:Addr) (L:List Str) (T:List ak) (H':Hp),Same H H'→H' t=some (.tup [.ref lp,.int (T.length:Int)])→H' lp=some (.lst (L.map V.str))→c_ L=some T→jp L=true→(∀ z∈L,Dr x y z)→1≤L.length→L.length≤40→Q (.ref t) H'
theorem tL(y x:Str):cT (Txt.join " " ["lend", y,x])=true:=decide_eq_true (cM (by
 have e:=fZ (Txt.join " " ["lend", y,x]) 5
 have e2:(Str.ofString "lend ").cps.toList=[108,101,110,100,32]:=by decide +kernel
 have e3:(Str.ofString "lend").cps.toList=[108,101,110,100]:=by decide +kernel
 have e4:(Str.ofString " ").cps.toList=[32]:=by decide +kernel
 have e':(Txt.slice (Txt.join " " ["lend", y,x]) none (some 5)).cps.toList=_:=e
 rw[e',e2,cb,e3,e4]
 rfl))
theorem kN(c:Int):b5 (.int (c % 10 ^ 60))=true:=by
 unfold b5
 refine decide_eq_true ?_
 split <;> omega
section
variable{P:Program}{w:World}{K:PySem.W.Frag}{mg:Str→Option Value}{base:Heap}
theorem Ac(D:DefAt K mg "_law_lines" aC) (z_len:mg "len" = none) (z_int:mg "int" = none) (z_str:mg "str" = none):bf P w K mg base 1 "_law_lines" ["_law_cells", "_law_x", "_law_y"] (vD K):=by
 refine D.cal (k:=0) sc_law_lines (fun _ _ _ _ _ _ us hl=>match us,hl with | [_,_,_],_=>rfl) (fun vs H Q E h=>by obtain⟨ca,cs,x,y,rfl,_⟩:=h; rfl) (fun f cdv A outer s H vs Q E hr h=>?_)
 obtain⟨ca,cs,x,y,rfl,hca,hcl,hx,hy,q⟩:=h
 refine⟨_,(af (aw 3 sc_law_lines.nd (aT (aa (am ap ah (pv 1 (hv:=qU))) ac)) (hx:=FF))
   (af (aw 4 sc_law_lines.nd (aT ac) (hx:=FV))
   (af (aw 5 sc_law_lines.nd aj (hx:=CW))
   (af (aw 6 sc_law_lines.nd aj (hx:=DF))
   (af (aw 7 sc_law_lines.nd aj (hx:=B4))
   (af (gi PassesOwn.never rfl (dH K (pv 0 (hv:=E3))) (bX 8 sc_law_lines.nd (hx:=Gn)) (af (aw 9 sc_law_lines.nd (am cK (pv 8 (hv:=Bg)) aj) (hx:=Gd))
   (af (aw 10 sc_law_lines.nd (aL (aW K) z_len bM (aa (dS (CompSc.to (fsc:=(defScope aC)) (N:=["_law_cells", "_law_x", "_law_y", "_law_lines_here", "_law_pile", "_law_left", "_law_lends", "_law_top", "_law_cell", "_law_kind", "_law_deep"]) (N0:=["_law_cells", "_law_x", "_law_y", "_law_lines_here", "_law_pile", "_law_left", "_law_lends", "_law_top", "_law_cell", "_law_kind", "_law_deep"]) (T:=["_law_one"]) ⟨by decide +kernel,by decide +kernel,by decide +kernel,by decide +kernel,by decide +kernel,by decide +kernel,by decide +kernel⟩ rfl rfl) rfl (dH K (pv 4 (hv:=mQ))) (fun _ _ _ _=>(bX 11 (show (["_law_cells", "_law_x", "_law_y", "_law_lines_here", "_law_pile", "_law_left", "_law_lends", "_law_top", "_law_cell", "_law_kind", "_law_deep", "_law_one"]:List Str).Nodup from by decide +kernel) (hx:=(hX (defScope aC) (by decide +kernel))) (hf:=jT (defScope aC) (by decide +kernel)))) (cN (show (["_law_cells", "_law_x", "_law_y", "_law_lines_here", "_law_pile", "_law_left", "_law_lends", "_law_top", "_law_cell", "_law_kind", "_law_deep"]:List Str).length≤11 from by decide)) (fun _ _ _ _=>(q8 (aH kq (pv 11 (hv:=(dL (defScope aC) (by decide +kernel)))) ah (aG _)))) (fun _ _ _ _=>(pv 11 (hv:=(dL (defScope aC) (by decide +kernel)))))) ac) (hg:=EG)) (hx:=FR))
   (af (aw 7 sc_law_lines.nd (am ap (pv 7 (hv:=xY)) (dA jL z_int ji (aa (fh (cj (me K hr) (pv 4 (hv:=mQ)) (aT ac) (aG _)) (fh (cj ig (pv 9 (hv:=kB)) aj (aG _)) (jr (cj iz (pv 5 (hv:=rf)) aj (aG _))))) ac) (hg:=yj))) (hx:=B4))
   (al (bq (PW.pt' (fk (aH iz (pv 9 (hv:=kB)) aj (aG _)) (fS (aH (sv K hr) (pv 4 (hv:=mQ)) (aT ac) (aG _))))) (al (dk (bL K PySem.F.plainAttrs_list PySem.F.slot_list_append PySem.F.type_list_append cQ (pv 3 (hv:=uz)) (aa (sq K PySem.F.plainAttrs_list PySem.F.slot_list_pop PySem.F.type_list_pop Am (pv 4 (hv:=mQ))) ac)))) (al (bq (PW.pt' (fk (kS d9 d9 aj (pv 9 (hv:=kB)) aj) (fk (aH iz (pv 5 (hv:=rf)) aj (aG _)) (fk (aH ig (pv 10 (hv:=EY)) aj (aG _)) (fS (PW.pt' (gj (aH kq (pv 9 (hv:=kB)) aj (aG _)) (fo (aH iz (pv 6 (hv:=AV)) aj (aG _)))))))))) (af (aw 5 sc_law_lines.nd (am j0 (pv 5 (hv:=rf)) aj) (hx:=CW))
   (af (aw 6 sc_law_lines.nd (am j0 (pv 6 (hv:=AV)) (dA jL z_int ji (aa (cj cm (pv 9 (hv:=kB)) aj (aG _)) ac) (hg:=yj))) (hx:=DF))
   (af (aw 7 sc_law_lines.nd (am ap (pv 7 (hv:=xY)) (dA jL z_int ji (aa (cj (me K hr) (pv 4 (hv:=mQ)) (aT ac) (aG _)) ac) (hg:=yj))) (hx:=B4))
   (af (dk (bL K PySem.F.plainAttrs_list PySem.F.slot_list_append PySem.F.type_list_append cQ (pv 3 (hv:=uz)) (aa (bd (bG K) (aT (aa (am ap (am ap (am ap ah (pv 2 (hv:=yB))) ah) (pv 1 (hv:=qU))) (aa (am ap ah (dA vx z_str jq (aa (am cK (pv 8 (hv:=Bg)) (am vE aj aj)) ac) (hg:=Fm))) (aa ah ac)))) (am j0 (pv 9 (hv:=kB)) aj) (fun _ _=>rfl)) ac)))
   (al (dk (bL K PySem.F.plainAttrs_list PySem.F.slot_list_extend PySem.F.type_list_extend nV (pv 4 (hv:=mQ)) (aa (bd (bG K) (aT (aa (aT (aa ah ac)) (aa (aT (aa ah (aa ah ac))) (aa (aT (aa ah ac)) ac)))) (am j0 (pv 9 (hv:=kB)) aj) (fun _ _=>rfl)) ac)))))))) (al (bq (PW.pt' (fk (aH ig (pv 9 (hv:=kB)) aj (aG _)) (fS (aH iz (pv 5 (hv:=rf)) aj (aG _))))) (af (aw 5 sc_law_lines.nd (am j0 (pv 5 (hv:=rf)) aj) (hx:=CW))
   (al (dk (bL K PySem.F.plainAttrs_list PySem.F.slot_list_append PySem.F.type_list_append cQ (pv 3 (hv:=uz)) (aa (bd (bG K) (aT (aa (am ap ah (pv 1 (hv:=qU))) (aa (am ap ah (pv 2 (hv:=yB))) (aa (am ap ah (pv 1 (hv:=qU))) (aa (am ap (am ap (am ap ah (pv 2 (hv:=yB))) ah) (pv 1 (hv:=qU))) ac))))) (am cK (pv 9 (hv:=kB)) aj) (fun _ _=>rfl)) ac))))) aP))))))))))
   (al (ax (dM (aa (am ap (pv 3 (hv:=uz)) (v2 K (pv 4 (hv:=mQ)) ci ci (b6 (uX ra aj)))) (aa (pv 7 (hv:=xY)) ac))))))))))),?_⟩
 have lx:=bU hx.w
 have ly:=bU hy.w
 walk_at "rd1"
 refine⟨ao (by rw[(by decide +kernel:(Str.ofString "open ").length=5)]; omega),by decide,fun lp hlp=>?_⟩
 generalize hH1:upd H lp _=H1
 have s1:=av hH1 hlp
 have e1:=aJ hH1
 clear hH1
 walk_at "nx"
 refine⟨by decide,fun pp hpp=>?_⟩
 generalize hH2:upd H1 pp _=H2
 have s2:=av hH2 hpp
 have e2:=aJ hH2
 clear hH2
 have s12:=s1.trans s2
 have hppH:H pp=none:=s1.free hpp
 have npl:pp≠lp:=fun z=>by rw[z,e1]at hpp; cases hpp
 have npl':lp≠pp:=fun z=>npl z.symm
 walk_at "nx"
 walk_at "nx"
 walk_at "nx"
 walk_at "nx"
 refine⟨⟨_,s12.seq hca⟩,?_⟩
 have eo:Str.ofString "open " ++ x=Txt.join " " ["open", x]:=by rw[show Str.ofString "open " = Str.ofString "open" ++ Str.ofString " " by decide +kernel,ei]
 have po:ix ["open", x]:=⟨.opn x,fun z hz=>by
  have:z=x:=by simpa using hz
  rw[this]; exact hx.w⟩
 have dro:Dr x y (Txt.join " " ["open", x]):=.inr (.inl ⟨_,by simp[lA],rfl⟩)
 have w0:DrW (Txt.join " " ["open", x]) ["open", x]:=⟨rfl,by simp,eK (bj (by decide +kernel)) hx.wd,by simp,.inr (by show (Str.ofString "open", 2)∈aN; decide +kernel)⟩
 have i0:cT (Txt.join " " ["open", x])=false:=fz (eA (c:=111) (by decide +kernel)) (by decide)
 have D0:∃ st,DI x y [Str.ofString "open " ++ x] st 39 3∧st.stk=[]∧dh st=1:=by
  refine⟨⟨[.plain ["open", x]],[],[Txt.join " " ["open", x]],0,0⟩,⟨?_,by show (1:Int)+0+39≤40; decide,by decide,?_,by decide,?_,Nat.zero_le _,by simp⟩,rfl,rfl⟩
  ·rw[eo]
   have hne:Txt.join " " ["open", x]∉bD:=gk (by simp)
   have e:=h_ (st:=mB) (x:=Txt.join " " ["open", x]) (by decide) (by rw[w0.split]; exact po)
   rw[w0.split]at e
   exact em ((e_ hne).trans e)
  ·rw[eo,List.countP_cons,List.countP_nil,i0]; decide
  ·intro z hz
   rw[List.mem_singleton.mp hz,eo]; exact dro
 obtain⟨sta,D0,hsta,ht0⟩:=D0
 refine jH (xs:=cs.map V.int) (fun i σ H'=>∃ (L:List Str) (st:BS) (left lends:Int) (o8 o9 o10:Option V),σ=[some (.ref ca),some (.str x),some (.str y),some (.ref lp),some (.ref pp),some (.int left),some (.int lends),some (.int (dh st:Int)),o8,o9,o10]∧Same H H'∧H' lp=some (.lst (L.map V.str))∧H' pp=some (.lst ((bJ st.stk).reverse.map V.str))∧DI x y L st left lends)
  ⟨[Str.ofString "open " ++ x],sta,39,3,none,none,none,by rw[ht0]; rfl,s12,s2 _ _ e1,by rw[hsta]; exact e2,D0⟩ (fun i σ H' _ h=>by obtain⟨_,_,_,_,_,_,_,_,sm,_⟩:=h; exact sm.seq hca) ?_ ?_
 ·rintro i v σ H' hv ⟨L,st,left,lends,o8,o9,o10,rfl,sm,hL,hP,I⟩
  have hi:i<cs.length:=by have:=(List.getElem?_eq_some_iff.mp hv).1; simpa using this
  rw[List.getElem?_map,List.getElem?_eq_getElem hi]at hv
  cases hv
  generalize cs[i]=c
  have hlen:=I.len
  have hl0:=I.l0
  have hdp:=I.deep
  walk_at "rd1"
  refine⟨by decide,?_⟩
  walk_at "nx"
  refine⟨⟨_,SqL.of hP⟩,fun C hC=>?_⟩
  refine u_ (xs:=(bJ st.stk).reverse.map V.str) (fun j ys H2=>Same H' H2∧H2 C=some (.lst ys)∧ys.length=((bJ st.stk).reverse.take j).countP (fun z=>decide (z≠("else" : Str)))) ⟨au hC _,ai,rfl⟩ (fun j ys H2 _ h=>SqL.of (h.1 _ _ hP)) ?_ ?_
  ·rintro j ys H2 v hv hj ⟨sm2,hl2,hn2⟩
   rw[List.length_map]at hj
   rw[List.getElem?_map,List.getElem?_eq_getElem hj]at hv
   cases hv
   have htk:(bJ st.stk).reverse.take (j+1)=(bJ st.stk).reverse.take j++[(bJ st.stk).reverse[j]]:=by rw[List.take_add_one,List.getElem?_eq_getElem hj]; rfl
   have hle:((bJ st.stk).reverse.take j).countP (fun z=>decide (z≠("else" : Str)))≤j:=Nat.le_trans List.countP_le_length (by rw[List.length_take]; omega)
   have hjl:(bJ st.stk).reverse.length≤40:=by rw[List.length_reverse]; omega
   generalize (bJ st.stk).reverse[j]=u at htk
   walk_at "rd1"
   refine aB (fun cw=>?_) (fun cw=>?_)
   ·refine w4 (by rw[List.length_map]; exact hj) (by rw[hn2]; exact hle) (by rw[List.length_map]; exact ao (by omega)) hl2 ⟨sm2.upd hC _,ai,?_⟩
    have e:decide (u≠("else" : Str))=true:=by simpa using cw
    rw[htk,List.countP_append,List.length_append,hn2,List.countP_cons,List.countP_nil,if_pos e]; rfl
   ·refine zw (by rw[List.length_map]; exact hj) ⟨sm2,hl2,?_⟩
    have e:¬ decide (u≠("else" : Str))=true:=by simpa using cw
    rw[htk,List.countP_append,hn2,List.countP_cons,List.countP_nil,if_neg e]; rfl
  rintro ys H2 ⟨sm2,hl2,hn2⟩
  have hdeep:ys.length=st.stk.length:=by rw[hn2,List.length_map,List.take_length,List.countP_reverse,jz]
  walk_at "rd1"
  refine⟨_,.inl (SqL.of hl2),?_⟩
  rw[hdeep]
  have hL2:=sm2 _ _ hL
  have hP2:=sm2 _ _ hP
  have smh:=sm.trans sm2
  clear hl2 hn2 hdeep hL hP
  walk_at "nx"
  refine⟨by decide,fun np hnp=>?_⟩
  have s3:=au hnp (.lst [])
  have e3:upd H2 np (.lst []) np=some (.lst (([]:List Str).map V.str)):=ai
  generalize upd H2 np (.lst [])=H3 at s3 e3 ⊢
  have hL3:=s3 _ _ hL2
  have hP3:=s3 _ _ hP2
  have sm3:=smh.trans s3
  have cnil:(bJ st.stk).reverse=[] ↔ st.stk=[]:=by
   rw[List.reverse_eq_nil_iff]
   constructor
   ·intro z
    cases hs:st.stk with
    | nil=>rfl
    | cons f r=>rw[(km hs).1]at z; cases z
   ·intro z; rw[z]; rfl
  have cont:∀ tp:Int,tp=(dh st:Int)+(if st.stk=[]∧c % 13<8∧0<left then 1 else 0)→ir
    (ou
     (mV (fc (b7 (fY fun i j=>V.bl (decide (j<i))) (bu 9) (tC (V.int 10))))
      (fc (b7 (uS K) (bu 4) (gE cV))))
     (kG (nv K "list" iR (bu 3) (bQ (ul K "list" uY (bu 4)) cV)))
     (ou
      (mV
       (fc
        (rb (fY fun i j=>V.bl (decide (i≤j))) (fY fun i j=>V.bl (decide (i≤j))) (tC (V.int 8))
         (bu 9) (tC (V.int 10))))
       (mV (fc (b7 (fY fun i j=>V.bl (decide (j<i))) (bu 5) (tC (V.int 2))))
        (mV (fc (b7 rH (bu 10) (tC (V.int 8))))
         (AZ (fc (b7 t7 (bu 9) (tC (V.int 8))))
          (fc (b7 (fY fun i j=>V.bl (decide (j<i))) (bu 6) (tC (V.int 0))))))))
      (jd (iq (b7 (fY fun i j=>V.int (i - j)) (bu 5) (tC (V.int 3))) (dG 5))
       (jd
        (iq
         (b7 (fY fun i j=>V.int (i - j)) (bu 6)
          (pF p0 (bQ (b7 tV (bu 9) (tC (V.int 8))) cV)))
         (dG 6))
        (jd (iq (b7 cv (bu 7) (pF p0 (bQ (b7 (uV K) (bu 4) (gE cV)) cV))) (dG 7))
         (jd
          (kG
           (nv K "list" iR (bu 3)
            (bQ
             (b7 (mL K)
              (gE
               (bQ
                (b7 cv
                 (b7 cv (b7 cv (tC (V.str (Str.ofString "lend "))) (bu 2))
                  (tC (V.str (Str.ofString " "))))
                 (bu 1))
                (bQ
                 (b7 cv (tC (V.str (Str.ofString "if ")))
                  (pF vn
                   (bQ
                    (b7 (rI (fun x j=>0<j) fun i j=>V.int (i % j)) (bu 8)
                     (b7 (rI Be fun i j=>V.int (i ^ j.toNat)) (tC (V.int 10))
                      (tC (V.int 60))))
                    cV)))
                 (bQ (tC (V.str (Str.ofString "while 0"))) cV))))
              (b7 (fY fun i j=>V.int (i - j)) (bu 9) (tC (V.int 8))))
             cV)))
          (kG
           (nv K "list" mi (bu 4)
            (bQ
             (b7 (mL K)
              (gE
               (bQ (gE (bQ (tC (V.str (Str.ofString "back"))) cV))
                (bQ
                 (gE
                  (bQ (tC (V.str (Str.ofString "fi")))
                   (bQ (tC (V.str (Str.ofString "else"))) cV)))
                 (bQ (gE (bQ (tC (V.str (Str.ofString "done"))) cV)) cV))))
              (b7 (fY fun i j=>V.int (i - j)) (bu 9) (tC (V.int 8))))
             cV)))))))
      (ou
       (mV (fc (b7 rH (bu 9) (tC (V.int 8))))
        (fc (b7 (fY fun i j=>V.bl (decide (j<i))) (bu 5) (tC (V.int 0)))))
       (jd (iq (b7 (fY fun i j=>V.int (i - j)) (bu 5) (tC (V.int 1))) (dG 5))
        (kG
         (nv K "list" iR (bu 3)
          (bQ
           (b7 (mL K)
            (gE
             (bQ (b7 cv (tC (V.str (Str.ofString "open "))) (bu 1))
              (bQ (b7 cv (tC (V.str (Str.ofString "do read "))) (bu 2))
               (bQ (b7 cv (tC (V.str (Str.ofString "do end "))) (bu 1))
                (bQ
                 (b7 cv
                  (b7 cv (b7 cv (tC (V.str (Str.ofString "copy "))) (bu 2))
                   (tC (V.str (Str.ofString " "))))
                  (bu 1))
                 cV)))))
            (b7 (rI (fun x j=>0<j) fun i j=>V.int (i % j)) (bu 9) (tC (V.int 4))))
           cV))))
       pT)))
    {
     nx:=fun σ H'=>
      ∃ L st left lends o8 o9 o10,
       σ =
         [some (V.ref ca),some (V.str x),some (V.str y),some (V.ref lp),some (V.ref pp),some (V.int left),
          some (V.int lends),some (V.int ↑(dh st)),o8,o9,o10]∧
        Same H H'∧
         H' lp=some (HO.lst (List.map V.str L))∧
          H' pp=some (HO.lst (List.map V.str (bJ st.stk).reverse))∧DI x y L st left lends,
     rt:=Q,
     bk:=
      ir
       (lB
        (qe
         (bQ
          (b7 cv (bu 3)
           (xE (BM K) (bu 4) eP eP (jF (A7 (rU fun i=>V.int (-i)) (tC (V.int 1))))))
          (bQ (bu 7) cV))))
       { nx:=fun x H'=>Q V.non H',rt:=Q },
     ct:=fun σ H'=>
      ∃ L st left lends o8 o9 o10,
       σ =
         [some (V.ref ca),some (V.str x),some (V.str y),some (V.ref lp),some (V.ref pp),some (V.int left),
          some (V.int lends),some (V.int ↑(dh st)),o8,o9,o10]∧
        Same H H'∧
         H' lp=some (HO.lst (List.map V.str L))∧
          H' pp=some (HO.lst (List.map V.str (bJ st.stk).reverse))∧DI x y L st left lends }
    [some (V.ref ca),some (V.str x),some (V.str y),some (V.ref lp),some (V.ref pp),some (V.int left),
     some (V.int lends),some (V.int tp),some (V.int c),
     some (V.int (c % 13)),some (V.int ↑st.stk.length)]
    H3:=fun tp htp=>by
   have k0:0≤c % 13:=Int.emod_nonneg _ (by decide)
   have k1:c % 13<13:=Int.emod_lt_of_pos _ (by decide)
   have cset:st.stk=[]∨∃ f r,st.stk=f::r:=by cases h:st.stk with
    | nil=>exact .inl rfl
    | cons f r=>exact .inr ⟨f,r,rfl⟩
   walk_at "nx"
   by_cases hk:10<c % 13
   ·rw[if_neg (fun z=>by omega)]at htp
    refine aB (fun _=>?_) (fun c=>absurd hk c)
    refine⟨by decide,fun np2 hnp2=>?_⟩
    have s4:=au hnp2 (.lst [])
    have e4:upd H3 np2 (.lst []) np2=some (.lst (([]:List Str).map V.str)):=ai
    generalize upd H3 np2 (.lst [])=H4 at s4 e4 ⊢
    have hL4:=s4 _ _ hL3
    have hP4:=s4 _ _ hP3
    have sm4:=sm3.trans s4
    refine⟨0,_,by decide,EqN.strs (SqL.of hP4) (SqL.of e4),?_⟩
    rcases cset with hs | ⟨f,r,hs⟩
    ·rw[decide_eq_true (cnil.mpr hs)]
     refine aB (fun c=>absurd c (by decide)) (fun _=>?_)
     refine aB (fun _=>?_) (fun c=>absurd (by omega) c)
     refine aB (fun c=>absurd c (by omega)) (fun _=>?_)
     refine aB (fun c=>absurd c (by omega)) (fun _=>?_)
     exact⟨L,st,left,lends,some (V.int c),some (V.int (c % 13)),some (V.int (st.stk.length:Int)),by rw[htp,Int.add_zero],sm4,hL4,hP4,I⟩
    ·rw[decide_eq_false (fun z=>by rw[cnil.mp z]at hs; cases hs)]
     refine aB (fun _=>?_) (fun c=>absurd rfl c)
     obtain⟨p1,p2⟩:=km hs
     have hP5:H4 pp=some (.lst ((bJ (d7 st).stk).reverse.map V.str++[.str (cq f)])):=by rw[hP4,p1,List.reverse_cons,List.map_append]; rfl
     have hdl:((bJ (d7 st).stk).reverse.map V.str++[V.str (cq f)]).dropLast=(bJ (d7 st).stk).reverse.map V.str:=List.dropLast_concat
     refine⟨⟨_,SqL.of hL4⟩,⟨_,SqL.of hP5⟩,_,.str (cq f),hP5,by simp,?_⟩
     rw[hdl]
     refine⟨_,by rw[aA npl']; exact hL4,by rw[List.length_map]; exact ff (by omega),?_⟩
     exact⟨L++[cq f],d7 st,left,lends,some (V.int c),some (V.int (c % 13)),some (V.int (st.stk.length:Int)),by rw[htp,p2,Int.add_zero],((sm4.upd hppH _).upd hlp _),by rw[ai,List.map_append]; rfl,by rw[aA npl,ai],I.pop hs⟩
   refine aB (fun c=>absurd c hk) (fun _=>?_)
   by_cases hk8:c % 13<8
   ·refine aB (fun c=>absurd c (by omega)) (fun _=>?_)
    refine aB (fun _=>?_) (fun c=>absurd hk8 c)
    refine aB (fun hl=>?_) (fun hl=>?_)
    rotate_left
    ·rw[if_neg (fun z=>hl z.2.2)]at htp
     exact⟨L,st,left,lends,some (V.int c),some (V.int (c % 13)),some (V.int (st.stk.length:Int)),by rw[htp,Int.add_zero],sm3,hL3,hP3,I⟩
    have htp':tp=((dh st+(if st.stk=[] then 1 else 0):Nat):Int):=by
     rw[htp]
     by_cases z:st.stk=[]
     ·rw[if_pos ⟨z,hk8,hl⟩,if_pos z]; rfl
     ·rw[if_neg (fun w=>z w.1),if_neg z]; rfl
    walk_at "nx"
    have pl4:∀ u∈([Str.ofString "open " ++ x,Str.ofString "do read " ++ y,Str.ofString "do end " ++ x,Str.ofString "copy " ++ y++Str.ofString " " ++ x]:List Str),∃ ws,u=Txt.join " " ws∧DrW (Txt.join " " ws) ws∧ix ws∧Dr x y (Txt.join " " ws)∧cT (Txt.join " " ws)=false:=fun u hu=>by
     simp only[List.mem_cons,List.not_mem_nil,or_false]at hu
     rcases hu with rfl | rfl | rfl | rfl
     ·exact⟨["open", x],eo,w0,po,dro,i0⟩
     ·refine⟨["do", "read", y],by rw[show Str.ofString "do read " = Str.ofString "do" ++ Str.ofString " " ++ Str.ofString "read" ++ Str.ofString " " by decide +kernel,ia],⟨rfl,by simp,fX (bj (by decide +kernel)) (bj (by decide +kernel)) hy.wd,by simp,.inr (by show (Str.ofString "do", 3)∈aN; decide +kernel)⟩,⟨.doo _ _,fun z hz=>?_⟩,.inr (.inl ⟨_,by simp[lA],rfl⟩),fz (eA (c:=100) (by decide +kernel)) (by decide)⟩
      have:z = "read" ∨ z=y:=by simpa using hz
      rcases this with rfl | rfl
      ·decide +kernel
      ·exact hy.w
     ·refine⟨["do", "end", x],by rw[show Str.ofString "do end " = Str.ofString "do" ++ Str.ofString " " ++ Str.ofString "end" ++ Str.ofString " " by decide +kernel,ia],⟨rfl,by simp,fX (bj (by decide +kernel)) (bj (by decide +kernel)) hx.wd,by simp,.inr (by show (Str.ofString "do", 3)∈aN; decide +kernel)⟩,⟨.doo _ _,fun z hz=>?_⟩,.inr (.inl ⟨_,by simp[lA],rfl⟩),fz (eA (c:=100) (by decide +kernel)) (by decide)⟩
      have:z = "end" ∨ z=x:=by simpa using hz
      rcases this with rfl | rfl
      ·decide +kernel
      ·exact hx.w
     ·refine⟨["copy", y,x],by rw[show Str.ofString "copy " = Str.ofString "copy" ++ Str.ofString " " by decide +kernel,ia],⟨rfl,by simp,fX (bj (by decide +kernel)) hy.wd hx.wd,by simp,.inr (by show (Str.ofString "copy", 3)∈aN; decide +kernel)⟩,⟨.cpy _ _,fun z hz=>?_⟩,.inr (.inl ⟨_,by simp[lA],rfl⟩),fz (eA (c:=99) (by decide +kernel)) (by decide)⟩
      have:z=y∨z=x:=by simpa using hz
      rcases this with rfl | rfl
      ·exact hy.w
      ·exact hx.w
    have n5:(Str.ofString "open ").length=5:=by decide +kernel
    have n8:(Str.ofString "do read ").length=8:=by decide +kernel
    have n7:(Str.ofString "do end ").length=7:=by decide +kernel
    have n5':(Str.ofString "copy ").length=5:=by decide +kernel
    have n1:(Str.ofString " ").length=1:=by decide +kernel
    refine⟨⟨_,SqL.of hL3⟩,ao (by omega),ao (by omega),ao (by omega),ao (by omega),ao (by rw[Str.length_append]; omega),ao (by rw[Str.length_append,Str.length_append]; omega),by decide,fun p hp=>?_⟩
    generalize hH4:upd H3 p _=H4
    have s4:=av hH4 hp
    have e4:H4 p=some (.lst (([Str.ofString "open " ++ x,Str.ofString "do read " ++ y,Str.ofString "do end " ++ x,Str.ofString "copy " ++ y++Str.ofString " " ++ x]:List Str).map V.str)):=aJ hH4
    clear hH4
    obtain⟨u,hu,hat⟩:=kc (ns:=[Str.ofString "open " ++ x,Str.ofString "do read " ++ y,Str.ofString "do end " ++ x,Str.ofString "copy " ++ y++Str.ofString " " ++ x]) (by simp) (c % 13)
    obtain⟨ws,rfl,g1,g2,g3,g4⟩:=pl4 u hu
    obtain⟨st',I',hs',ht'⟩:=I.plain hl g1 g2 g3 g4
    refine⟨by decide,_,_,.inl (SqL.of e4),hat,_,s4 _ _ hL3,by rw[List.length_map]; exact ff (by omega),?_⟩
    exact⟨L++[Txt.join " " ws],st',left - 1,lends,some (V.int c),some (V.int (c % 13)),some (V.int (st.stk.length:Int)),by rw[htp',ht'],(sm3.trans s4).upd hlp _,by rw[ai,List.map_append]; rfl,by rw[aA npl,hs']; exact s4 _ _ hP3,I'⟩
   rw[if_neg (fun z=>hk8 z.2.1)]at htp
   have skipB:∀ {H5:Hp},Same H H5→H5 lp=some (.lst (L.map V.str))→H5 pp=some (.lst ((bJ st.stk).reverse.map V.str))→∃ (L:List Str) (st':BS) (left' lends':Int) (o8 o9 o10:Option V),[some (V.ref ca),some (V.str x),some (V.str y),some (V.ref lp),some (V.ref pp),some (V.int left),some (V.int lends),some (V.int tp),some (V.int c),some (V.int (c % 13)),some (V.int (st.stk.length:Int))]=[some (V.ref ca),some (V.str x),some (V.str y),some (V.ref lp),some (V.ref pp),some (V.int left'),some (V.int lends'),some (V.int (dh st':Int)),o8,o9,o10]∧Same H H5∧H5 lp=some (.lst (L.map V.str))∧H5 pp=some (.lst ((bJ st'.stk).reverse.map V.str))∧DI x y L st' left' lends':=fun a b d=>⟨L,st,left,lends,some (V.int c),some (V.int (c % 13)),some (V.int (st.stk.length:Int)),by rw[htp,Int.add_zero],a,b,d,I⟩
   refine aB (fun _=>?_) (fun c=>absurd (by omega) c)
   refine aB (fun _=>?_) (fun c=>absurd (by omega) c)
   have k8:¬ c % 13<8:=hk8
   refine aB (fun hl=>?_) (fun _=>aB (fun c=>absurd c k8) (fun _=>skipB sm3 hL3 hP3))
   refine aB (fun hd=>?_) (fun _=>aB (fun c=>absurd c k8) (fun _=>skipB sm3 hL3 hP3))
   have hd':st.stk.length<8:=by omega
   have n5:(Str.ofString "lend ").length=5:=by decide +kernel
   have n3:(Str.ofString "if ").length=3:=by decide +kernel
   have n1:(Str.ofString " ").length=1:=by decide +kernel
   have nn:(Str.ofString (toString (c % 10 ^ Int.toNat 60))).length≤61:=(nB (kN c)).1
   by_cases e8:c % 13=8
   ·rw[decide_eq_true e8]
    refine aB (fun c=>absurd c (by decide)) (fun _=>?_)
    refine aB (fun hld=>?_) (fun _=>aB (fun c=>absurd c k8) (fun _=>skipB sm3 hL3 hP3))
    walk_at "nx"
    walk_at "nx"
    refine⟨by decide,fun np3 hnp3=>?_⟩
    have s4:=au hnp3 (.lst [])
    have e4:upd H3 np3 (.lst []) np3=some (.lst (([]:List Str).map V.str)):=ai
    generalize upd H3 np3 (.lst [])=H4 at s4 e4 ⊢
    have hL4:=s4 _ _ hL3
    have hP4:=s4 _ _ hP3
    have sm4:=sm3.trans s4
    refine⟨0,_,by decide,EqN.strs (SqL.of hP4) (SqL.of e4),?_⟩
    walk_at "nx"
    refine⟨⟨_,SqL.of hL4⟩,ao (by omega),ao (by rw[Str.length_append]; omega),ao (by rw[Str.length_append,Str.length_append]; omega),⟨by decide,by decide,by decide⟩,by decide,lM (kN c),ao (by omega),by decide,fun p5 hp5=>?_⟩
    generalize hH5:upd H4 p5 _=H5
    have s5:=av hH5 hp5
    have e5:=aJ hH5
    clear hH5
    refine⟨_,.str (Str.ofString "lend " ++ y++Str.ofString " " ++ x),.inl (SqL.of e5),(by rw[e8]; exact bn (j:=0) rfl),_,s5 _ _ hL4,by rw[List.length_map]; exact ff (by omega),?_⟩
    have hP5:=s5 _ _ hP4
    have hL5:=s5 _ _ hL4
    have sm5:=sm4.trans s5
    have hL6:upd H5 lp (.lst (L.map V.str++[.str (Str.ofString "lend " ++ y++Str.ofString " " ++ x)])) lp=some (.lst ((L++[Str.ofString "lend " ++ y++Str.ofString " " ++ x]).map V.str)):=by rw[ai,List.map_append]; rfl
    have hP6:upd H5 lp (.lst (L.map V.str++[.str (Str.ofString "lend " ++ y++Str.ofString " " ++ x)])) pp=some (.lst ((bJ st.stk).reverse.map V.str)):=by rw[aA npl]; exact hP5
    have sm6:Same H (upd H5 lp (.lst (L.map V.str++[.str (Str.ofString "lend " ++ y++Str.ofString " " ++ x)]))):=sm5.upd hlp _
    generalize upd H5 lp (.lst (L.map V.str++[.str (Str.ofString "lend " ++ y++Str.ofString " " ++ x)]))=H6 at hL6 hP6 sm6 ⊢
    walk_at "nx"
    refine⟨⟨_,SqL.of hP6⟩,by decide,fun q1 hq1=>?_⟩
    generalize hH7:upd H6 q1 _=H7
    have s7:=av hH7 hq1
    have f7:=aJ hH7
    clear hH7
    refine⟨by decide,fun q2 hq2=>?_⟩
    generalize hH8:upd H7 q2 _=H8
    have s8:=av hH8 hq2
    have f8:=aJ hH8
    clear hH8
    refine⟨by decide,fun q3 hq3=>?_⟩
    generalize hH9:upd H8 q3 _=H9
    have s9:=av hH9 hq3
    have f9:=aJ hH9
    clear hH9
    refine⟨by decide,fun q4 hq4=>?_⟩
    generalize hHA:upd H9 q4 _=HA
    have sA:=av hHA hq4
    have fA:=aJ hHA
    clear hHA
    have f9A:=sA _ _ f9
    have f8A:=sA _ _ (s9 _ _ f8)
    have f7A:=sA _ _ (s9 _ _ (s8 _ _ f7))
    have s6A:Same H6 HA:=((s7.trans s8).trans s9).trans sA
    refine⟨_,.ref q1,.inl (SqL.of fA),(by rw[e8]; exact bn (j:=0) rfl),?_⟩
    walk_at "rd1"
    refine⟨_,_,s6A _ _ hP6,f7A,ao (by rw[List.length_map,List.length_reverse]; simp only[List.length_cons,List.length_nil]; omega),?_⟩
    obtain⟨st',I',hs',ht'⟩:=I.opn (ws:=["lend", y,x]) (f:=.lend y x st.cur) (k:=1) hl hd' ⟨rfl,hy.w,hx.w,rfl⟩ ⟨rfl,by simp,fX (bj (by decide +kernel)) hy.wd hx.wd,by simp,.inr (by show (Str.ofString "lend", 3)∈aN; decide +kernel)⟩ (.inr (.inl ⟨_,by simp[lA],rfl⟩)) (by rw[if_pos (tL y x)]) (by omega) rfl (oC (fun _ _ _ z=>by cases z) _)
    refine⟨L++[Txt.join " " ["lend", y,x]],st',left - 3,lends - 1,some (V.int c),some (V.int (c % 13)),some (V.int (st.stk.length:Int)),?_,(sm6.trans s6A).upd hppH _,by rw[aA npl',s6A _ _ hL6]; exact congrArg (fun z=>some (HO.lst (List.map V.str (L++[z])))) (show Str.ofString "lend " ++ y++Str.ofString " " ++ x=Txt.join " " ["lend", y,x] from by rw[show Str.ofString "lend " = Str.ofString "lend" ++ Str.ofString " " by decide +kernel,ia]),?_,I'⟩
    ·have e0:(if c % 13=8 then (1:Int) else 0)=1:=if_pos e8
     by_cases z:st.stk=[]
     ·rw[ht',htp,e0,if_pos (cnil.mpr z),if_pos z,Int.add_zero]; rfl
     ·rw[ht',htp,e0,if_neg (fun w=>z (cnil.mp w)),if_neg z,Int.add_zero]; rfl
    ·rw[ai,hs']
     show _=some (HO.lst (List.map V.str ((["back"]:List Str)++bJ st.stk).reverse))
     rw[List.reverse_append,List.map_append]; rfl
   rw[decide_eq_false e8]
   refine aB (fun _=>?_) (fun c=>absurd rfl c)
   have e910:c % 13=9∨c % 13=10:=by omega
   rcases e910 with e9 | e10
   ·skip
    walk_at "nx"
    walk_at "nx"
    refine⟨by decide,fun np3 hnp3=>?_⟩
    have s4:=au hnp3 (.lst [])
    have e4:upd H3 np3 (.lst []) np3=some (.lst (([]:List Str).map V.str)):=ai
    generalize upd H3 np3 (.lst [])=H4 at s4 e4 ⊢
    have hL4:=s4 _ _ hL3
    have hP4:=s4 _ _ hP3
    have sm4:=sm3.trans s4
    refine⟨0,_,by decide,EqN.strs (SqL.of hP4) (SqL.of e4),?_⟩
    walk_at "nx"
    refine⟨⟨_,SqL.of hL4⟩,ao (by omega),ao (by rw[Str.length_append]; omega),ao (by rw[Str.length_append,Str.length_append]; omega),⟨by decide,by decide,by decide⟩,by decide,lM (kN c),ao (by omega),by decide,fun p5 hp5=>?_⟩
    generalize hH5:upd H4 p5 _=H5
    have s5:=av hH5 hp5
    have e5:=aJ hH5
    clear hH5
    refine⟨_,.str (Str.ofString "if " ++ Str.ofString (toString (c % 10 ^ Int.toNat 60))),.inl (SqL.of e5),(by rw[e9]; exact bn (j:=1) rfl),_,s5 _ _ hL4,by rw[List.length_map]; exact ff (by omega),?_⟩
    have hP5:=s5 _ _ hP4
    have hL5:=s5 _ _ hL4
    have sm5:=sm4.trans s5
    have hL6:upd H5 lp (.lst (L.map V.str++[.str (Str.ofString "if " ++ Str.ofString (toString (c % 10 ^ Int.toNat 60)))])) lp=some (.lst ((L++[Str.ofString "if " ++ Str.ofString (toString (c % 10 ^ Int.toNat 60))]).map V.str)):=by rw[ai,List.map_append]; rfl
    have hP6:upd H5 lp (.lst (L.map V.str++[.str (Str.ofString "if " ++ Str.ofString (toString (c % 10 ^ Int.toNat 60)))])) pp=some (.lst ((bJ st.stk).reverse.map V.str)):=by rw[aA npl]; exact hP5
    have sm6:Same H (upd H5 lp (.lst (L.map V.str++[.str (Str.ofString "if " ++ Str.ofString (toString (c % 10 ^ Int.toNat 60)))]))):=sm5.upd hlp _
    generalize upd H5 lp (.lst (L.map V.str++[.str (Str.ofString "if " ++ Str.ofString (toString (c % 10 ^ Int.toNat 60)))]))=H6 at hL6 hP6 sm6 ⊢
    walk_at "nx"
    refine⟨⟨_,SqL.of hP6⟩,by decide,fun q1 hq1=>?_⟩
    generalize hH7:upd H6 q1 _=H7
    have s7:=av hH7 hq1
    have f7:=aJ hH7
    clear hH7
    refine⟨by decide,fun q2 hq2=>?_⟩
    generalize hH8:upd H7 q2 _=H8
    have s8:=av hH8 hq2
    have f8:=aJ hH8
    clear hH8
    refine⟨by decide,fun q3 hq3=>?_⟩
    generalize hH9:upd H8 q3 _=H9
    have s9:=av hH9 hq3
    have f9:=aJ hH9
    clear hH9
    refine⟨by decide,fun q4 hq4=>?_⟩
    generalize hHA:upd H9 q4 _=HA
    have sA:=av hHA hq4
    have fA:=aJ hHA
    clear hHA
    have f9A:=sA _ _ f9
    have f8A:=sA _ _ (s9 _ _ f8)
    have f7A:=sA _ _ (s9 _ _ (s8 _ _ f7))
    have s6A:Same H6 HA:=((s7.trans s8).trans s9).trans sA
    refine⟨_,.ref q2,.inl (SqL.of fA),(by rw[e9]; exact bn (j:=1) rfl),?_⟩
    walk_at "rd1"
    refine⟨_,_,s6A _ _ hP6,f8A,ao (by rw[List.length_map,List.length_reverse]; simp only[List.length_cons,List.length_nil]; omega),?_⟩
    obtain⟨st',I',hs',ht'⟩:=I.opn (ws:=["if", aO (c % 10 ^ 60)]) (f:=.inB (c % 10 ^ 60) st.cur) (k:=0) hl hd' ⟨⟨_,rfl,rfl,kN c⟩,rfl⟩ ⟨rfl,by simp,eK (bj (by decide +kernel)) (nB (kN c)),by simp,.inr (by show (Str.ofString "if", 2)∈aN; decide +kernel)⟩ (.inr (.inr ⟨_,kN c,rfl⟩)) (by rw[fz (eA (c:=105) (by decide +kernel)) (by decide)]; rfl) (by have:=I.d0; omega) rfl (oC (fun _ _ _ z=>by cases z) _)
    refine⟨L++[Txt.join " " ["if", aO (c % 10 ^ 60)]],st',left - 3,lends - 0,some (V.int c),some (V.int (c % 13)),some (V.int (st.stk.length:Int)),?_,(sm6.trans s6A).upd hppH _,by rw[aA npl',s6A _ _ hL6]; exact congrArg (fun z=>some (HO.lst (List.map V.str (L++[z])))) (show Str.ofString "if " ++ Str.ofString (toString (c % 10 ^ Int.toNat 60))=Txt.join " " ["if", aO (c % 10 ^ 60)] from by rw[show Str.ofString "if " = Str.ofString "if" ++ Str.ofString " " by decide +kernel,ei]; rfl),?_,I'⟩
    ·have e0:(if c % 13=8 then (1:Int) else 0)=0:=if_neg e8
     by_cases z:st.stk=[]
     ·rw[ht',htp,e0,if_pos (cnil.mpr z),if_pos z,Int.add_zero]; rfl
     ·rw[ht',htp,e0,if_neg (fun w=>z (cnil.mp w)),if_neg z,Int.add_zero]; rfl
    ·rw[ai,hs']
     show _=some (HO.lst (List.map V.str ((["else", "fi"]:List Str)++bJ st.stk).reverse))
     rw[List.reverse_append,List.map_append]; rfl
   ·skip
    walk_at "nx"
    walk_at "nx"
    refine⟨by decide,fun np3 hnp3=>?_⟩
    have s4:=au hnp3 (.lst [])
    have e4:upd H3 np3 (.lst []) np3=some (.lst (([]:List Str).map V.str)):=ai
    generalize upd H3 np3 (.lst [])=H4 at s4 e4 ⊢
    have hL4:=s4 _ _ hL3
    have hP4:=s4 _ _ hP3
    have sm4:=sm3.trans s4
    refine⟨0,_,by decide,EqN.strs (SqL.of hP4) (SqL.of e4),?_⟩
    walk_at "nx"
    refine⟨⟨_,SqL.of hL4⟩,ao (by omega),ao (by rw[Str.length_append]; omega),ao (by rw[Str.length_append,Str.length_append]; omega),⟨by decide,by decide,by decide⟩,by decide,lM (kN c),ao (by omega),by decide,fun p5 hp5=>?_⟩
    generalize hH5:upd H4 p5 _=H5
    have s5:=av hH5 hp5
    have e5:=aJ hH5
    clear hH5
    refine⟨_,.str (Str.ofString "while 0"),.inl (SqL.of e5),(by rw[e10]; exact bn (j:=2) rfl),_,s5 _ _ hL4,by rw[List.length_map]; exact ff (by omega),?_⟩
    have hP5:=s5 _ _ hP4
    have hL5:=s5 _ _ hL4
    have sm5:=sm4.trans s5
    have hL6:upd H5 lp (.lst (L.map V.str++[.str (Str.ofString "while 0")])) lp=some (.lst ((L++[Str.ofString "while 0"]).map V.str)):=by rw[ai,List.map_append]; rfl
    have hP6:upd H5 lp (.lst (L.map V.str++[.str (Str.ofString "while 0")])) pp=some (.lst ((bJ st.stk).reverse.map V.str)):=by rw[aA npl]; exact hP5
    have sm6:Same H (upd H5 lp (.lst (L.map V.str++[.str (Str.ofString "while 0")]))):=sm5.upd hlp _
    generalize upd H5 lp (.lst (L.map V.str++[.str (Str.ofString "while 0")]))=H6 at hL6 hP6 sm6 ⊢
    walk_at "nx"
    refine⟨⟨_,SqL.of hP6⟩,by decide,fun q1 hq1=>?_⟩
    generalize hH7:upd H6 q1 _=H7
    have s7:=av hH7 hq1
    have f7:=aJ hH7
    clear hH7
    refine⟨by decide,fun q2 hq2=>?_⟩
    generalize hH8:upd H7 q2 _=H8
    have s8:=av hH8 hq2
    have f8:=aJ hH8
    clear hH8
    refine⟨by decide,fun q3 hq3=>?_⟩
    generalize hH9:upd H8 q3 _=H9
    have s9:=av hH9 hq3
    have f9:=aJ hH9
    clear hH9
    refine⟨by decide,fun q4 hq4=>?_⟩
    generalize hHA:upd H9 q4 _=HA
    have sA:=av hHA hq4
    have fA:=aJ hHA
    clear hHA
    have f9A:=sA _ _ f9
    have f8A:=sA _ _ (s9 _ _ f8)
    have f7A:=sA _ _ (s9 _ _ (s8 _ _ f7))
    have s6A:Same H6 HA:=((s7.trans s8).trans s9).trans sA
    refine⟨_,.ref q3,.inl (SqL.of fA),(by rw[e10]; exact bn (j:=2) rfl),?_⟩
    walk_at "rd1"
    refine⟨_,_,s6A _ _ hP6,f9A,ao (by rw[List.length_map,List.length_reverse]; simp only[List.length_cons,List.length_nil]; omega),?_⟩
    obtain⟨st',I',hs',ht'⟩:=I.opn (ws:=["while", "0"]) (f:=.whl 0 st.cur) (k:=0) hl hd' ⟨⟨_,rfl,qx⟩,rfl⟩ ⟨rfl,by simp,eK (bj (by decide +kernel)) (bj (by decide +kernel)),by simp,.inr (by show (Str.ofString "while", 2)∈aN; decide +kernel)⟩ (.inr (.inl ⟨_,by simp[lA],rfl⟩)) (by rw[fz (eA (c:=119) (by decide +kernel)) (by decide)]; rfl) (by have:=I.d0; omega) rfl (oC (fun _ _ _ z=>by cases z) _)
    refine⟨L++[Txt.join " " ["while", "0"]],st',left - 3,lends - 0,some (V.int c),some (V.int (c % 13)),some (V.int (st.stk.length:Int)),?_,(sm6.trans s6A).upd hppH _,by rw[aA npl',s6A _ _ hL6]; exact congrArg (fun z=>some (HO.lst (List.map V.str (L++[z])))) (show Str.ofString "while 0" = Txt.join " " ["while", "0"] from by decide +kernel),?_,I'⟩
    ·have e0:(if c % 13=8 then (1:Int) else 0)=0:=if_neg e8
     by_cases z:st.stk=[]
     ·rw[ht',htp,e0,if_pos (cnil.mpr z),if_pos z,Int.add_zero]; rfl
     ·rw[ht',htp,e0,if_neg (fun w=>z (cnil.mp w)),if_neg z,Int.add_zero]; rfl
    ·rw[ai,hs']
     show _=some (HO.lst (List.map V.str ((["done"]:List Str)++bJ st.stk).reverse))
     rw[List.reverse_append,List.map_append]; rfl
  refine⟨0,_,by decide,EqN.strs (SqL.of hP3) (SqL.of e3),?_⟩
  refine aB (fun c1=>?_) (fun c1=>?_)
  ·have c1':=cnil.mp (of_decide_eq_true c1)
   refine aB (fun c2=>?_) (fun c2=>?_)
   ·refine cont _ ?_
    by_cases z:0<left
    ·rw[if_pos z,if_pos ⟨c1',c2,z⟩]
    ·rw[if_neg z,if_neg (fun w=>z w.2.2)]
   ·refine cont _ ?_
    rw[if_neg (fun w=>c2 w.2.1)]
    try rfl
  ·have c1':¬ st.stk=[]:=fun z=>c1 (decide_eq_true (cnil.mpr z))
   refine cont _ ?_
   rw[if_neg (fun w=>c1' w.1)]
   try rfl
 ·rintro σ H' ⟨L,st,left,lends,o8,o9,o10,rfl,sm,hL,hP,I⟩
  walk_at "nx"
  rw[Aj]
  walk_at "rd1"
  obtain⟨T,t1,t2,t3,t4,t5,t6⟩:=I.fin hx hy
  have hl40:=t6
  rw[List.length_append]at hl40
  have hrv:kL ((bJ st.stk).reverse.map V.str) none none (some (-1))=(bJ st.stk).map V.str:=by rw[ww,← List.map_reverse,List.reverse_reverse]
  refine⟨pp,_,rfl,SqL.of hP,by decide,?_,fun p hp=>?_⟩
  ·rw[hrv]; exact ao (by rw[List.length_map]; omega)
  rw[hrv]
  dsimp only
  walk_at "rd1"
  refine⟨_,_,by rw[aA (aZ hL hp)]; exact hL,ai,ao (by rw[List.length_map,List.length_map]; omega),fun r hr'=>⟨by decide,fun t ht=>?_⟩⟩
  have s1':=(sm.trans (au hp (.lst ((bJ st.stk).map V.str)))).trans (au hr' (.lst (L.map V.str++(bJ st.stk).map V.str)))
  refine q t r (L++bJ st.stk) T _ (s1'.trans (au ht _)) (by rw[ai,t1]) ?_ t2 t3 t4 t5 t6
  rw[aA (aZ ai ht),ai,List.map_append]
end
theorem jc:∀ {ws us:List Str},ws≠[]→us≠[]→(Txt.join " " (ws++us)).cps.toList=(Txt.join " " ws).cps.toList++((Str.ofString " ").cps.toList++(Txt.join " " us).cps.toList)
 | [],_,h,_=>absurd rfl h
 | [k],u::us,_,_=>cb k u us
 | [k],[],_,h=>absurd rfl h
 | k::v::r,us,_,h=>by
  have ih:=jc (ws:=v::r) (us:=us) (by simp) h
  show (Txt.join " " (k::v::(r++us))).cps.toList=_
  rw[cb,cb]
  have ih':(Txt.join " " (v::(r++us))).cps.toList=_:=ih
  rw[ih',List.append_assoc,List.append_assoc]
theorem mG{ws us:List Str}(h1:ws≠[])(h2:us≠[]):Txt.join " " (ws++us)=Txt.join " " ws++Str.ofString " " ++ Txt.join " " us:=cM (by rw[jc h1 h2,bA,bA,List.append_assoc])
theorem mR{c:Nat}:∀ {ws:List Str},c∈(Txt.join " " ws).cps.toList→c=32∨∃ w∈ws,c∈w.cps.toList
 | [],h=>by
  have e:(Txt.join " " ([]:List Str)).cps.toList=[]:=by decide +kernel
  rw[e]at h; cases h
 | [k],h=>.inr ⟨k,List.mem_cons_self,h⟩
 | k::v::r,h=>by
  rw[cb]at h
  rcases List.mem_append.mp h with h | h
  ·exact .inr ⟨k,List.mem_cons_self,h⟩
  rcases List.mem_append.mp h with h | h
  ·have e:(Str.ofString " ").cps.toList=[32]:=by decide +kernel
   rw[e]at h
   exact .inl (List.mem_singleton.mp h)
  ·rcases mR h with h | ⟨w,hw,h⟩
   ·exact .inl h
   ·exact .inr ⟨w,List.mem_cons_of_mem _ hw,h⟩
theorem x6{z:Str}{ws us:List Str}(h:DrW z ws)(hm:us≠[]):lG (ws++us)=false:=cx fun hk=>by
 have hd:(ws++us).headD "" = ws.headD "" := by
  cases hw:ws with
  | nil=>exact absurd hw h.ne
  | cons a l=>rfl
 have hl:=List.length_pos_iff.mpr hm
 rw[hd,List.length_append]at hk
 rcases h.k with ⟨h1,h2⟩ | h1
 ·rw[h2]at hk
  exact vR _ hk h1
 ·have:=pD _ hk _ h1 rfl
  dsimp only at this
  omega
theorem rm:Wd "" := bj (by decide +kernel)
theorem oO{z:Str}{ws us:List Str}(h:DrW z ws)(hm:us≠[])(hu:∀ w∈us,Wd w)(h3:us.length≤3):gm (Txt.join " " (ws++us)):=by
 have h1:=List.length_pos_iff.mpr h.ne
 have h2:=List.length_pos_iff.mpr hm
 have h4:=h.l3
 refine cr rfl (by rw[List.length_append]; omega) (by rw[List.length_append]; omega) (fun w hw=>?_) (x6 h hm)
 rcases List.mem_append.mp hw with hw | hw
 ·exact h.wd w hw
 ·exact hu w hw
theorem Ar{z:Str}{ws:List Str}(h:DrW z ws):gm (z++Str.ofString " "):=by
 have:=oO (us:=[""]) h (by simp) (fun w hw=>by rw[List.mem_singleton.mp hw]; exact rm) (by simp)
 have e:Txt.join " " (ws++[("" : Str)])=z++Str.ofString " " := by
  rw[mG h.ne (by simp),← h.e]
  exact cM (by rw[bA,show (Txt.join " " [("" : Str)]).cps.toList=[] by decide +kernel,List.append_nil])
 rw[← e]; exact this
theorem xL{z:Str}{ws:List Str}(h:DrW z ws):gm (z++Str.ofString "  "):=by
 have:=oO (us:=["", ""]) h (by simp) (fun w hw=>by
  simp only[List.mem_cons,List.not_mem_nil,or_false]at hw
  rcases hw with rfl | rfl <;> exact rm) (by simp)
 have e:Txt.join " " (ws++[("" : Str), ""])=z++Str.ofString "  " := by
  rw[mG h.ne (by simp),← h.e,bK]
  exact cM (by rw[bA,bA,bA,show (Str.ofString " ").cps.toList++(Txt.join " " [("" : Str), ""]).cps.toList=(Str.ofString "  ").cps.toList by decide +kernel])
 rw[← e]; exact this
theorem xP{z:Str}{ws:List Str}(h:DrW z ws):gm (Str.ofString " " ++ z):=by
 have hl:=h.ln
 refine oX (fun c hc=>?_) (fun hz=>?_) (by rw[Str.length_append,(by decide +kernel:(Str.ofString " ").length=1)]; omega)
 ·rw[bA,show (Str.ofString " ").cps.toList=[32] by decide +kernel]at hc
  have:(32:Nat)=c:=by simpa using hc
  omega
 ·rw[bA,show (Str.ofString " ").cps.toList=[32] by decide +kernel]at hz
  rcases List.mem_cons.mp hz with hz | hz
  ·cases hz
  ·exact hl.2 hz
theorem BH{z z2:Str}{ws ws2:List Str}(h:DrW z ws)(h2:DrW z2 ws2):gm (z++Str.ofString " " ++ z2):=by
 have:=oO (us:=ws2) h h2.ne h2.wd h2.l3
 rw[mG h.ne h2.ne,← h.e,← h2.e]at this
 exact this
theorem Bb{z:Str}(h:fq z):9∉z.cps.toList:=fun hz=>by
 rcases h with h | h
 ·exact yw z h hz
 ·have hk:=j3 h
  have hl:=lR h
  have hp:=nE h
  rw[← jG z]at hz
  rcases mR hz with e | ⟨w,hw,hc⟩
  ·cases e
  ·generalize Txt.split z " " = ws at hk hl hp hw
   match ws,hl with
   | a::r,_=>
    rcases List.mem_cons.mp hw with rfl | hw
    ·exact yb _ hk hc
    ·rcases hp w hw with h | ⟨n,e,_⟩
     ·unfold bw at h
      rw[Bool.and_eq_true]at h
      exact absurd (of_decide_eq_true (List.all_eq_true.mp h.2 9 hc)) (by decide +kernel)
     ·rw[e]at hc
      cases n with
      | ofNat m=>have e:=cH m; have h3:=(bR m).1 9 (by rw[← e]; exact hc); omega
      | negSucc m=>
       rw[eI]at hc
       rcases List.mem_cons.mp hc with z | z
       ·cases z
       ·have h3:=(bR (m+1)).1 9 z; omega
theorem Ax{z:Str}(h:9∈z.cps.toList)(nl:Nl z)(ln:z.length≤400):gm z:=⟨fun k=>Bb k h,nl,ln⟩
theorem nQ(y:Str)(n:Nat):(Txt.slice y (some (n:Int)) none).cps.toList=y.cps.toList.drop n:=by
 have e:=jC y (some (n:Int)) none
 rw[HT.sIx_nat,HT.sIx_none]at e
 have hl:y.cps.toList.length=y.length:=Array.length_toList
 rw[e]
 by_cases z:n≤y.length
 ·rw[Nat.min_eq_left z]
  exact List.take_of_length_le (by rw[List.length_drop]; omega)
 ·rw[Nat.min_eq_right (by omega),List.drop_of_length_le (by omega),List.drop_of_length_le (by omega)]; simp
theorem Av{x:Str}{a b:Str}(hx:x.cps.toList=a.cps.toList++((Str.ofString " ").cps.toList++b.cps.toList)) (hc:32∉a.cps.toList):∃ r,Builtin.Str.occurrences x (Str.ofString " ") 0 x.length 1=a.cps.toList.length::r:=by
 have hy:(Str.ofString " ").cps.toList=32::[]:=by decide +kernel
 have hA:=uh (p:=a.cps.toList) hx
 rcases PySem.StrLaws.occ_head x (Str.ofString " ") 1 (Nat.le_refl 1) with ⟨h0,hn⟩ | ⟨i,rr,h0,ha,hn⟩
 ·exact absurd hA (hn _)
 ·have hi:i=a.cps.toList.length:=by
   rcases Nat.lt_trichotomy i a.cps.toList.length with z | z | z
   ·have:=ow hy ha
    rw[hx,List.getElem?_append_left z]at this
    exact absurd (List.mem_of_getElem? this) hc
   ·exact z
   ·exact absurd hA (hn _ z)
  exact⟨rr,by rw[h0,hi]⟩
structure A1 (z:Str):Prop where
 a:∀ c∈z.cps.toList,c<128
 f:∃ c,z.cps.toList[0]? = some c∧97≤c∧c≤122
theorem yf{x:Str}(h:bw x=true):∀ c∈x.cps.toList,c<128:=fun c hc=>by
 unfold bw at h
 rw[Bool.and_eq_true]at h
 have:=of_decide_eq_true (List.all_eq_true.mp h.2 c hc)
 exact(by decide +kernel:∀ c∈letters.cps.toList,c<128) c this
theorem Bp{z:Str}(h:fq z):A1 z:=by
 refine⟨fun c hc=>?_,kH h⟩
 rcases h with h | h
 ·exact(by decide +kernel:∀ z∈bD,∀ c∈z.cps.toList,c<128) z h c hc
 ·have hk:=j3 h
  have hl:=lR h
  have hp:=nE h
  rw[← jG z]at hc
  rcases mR hc with e | ⟨w,hw,hc⟩
  ·omega
  ·generalize Txt.split z " " = ws at hk hl hp hw
   match ws,hl with
   | a::r,_=>
    rcases List.mem_cons.mp hw with rfl | hw
    ·exact(by decide +kernel:∀ p∈aN,∀ c∈p.1.cps.toList,c<128) _ hk c hc
    ·rcases hp w hw with h | ⟨n,e,_⟩
     ·exact yf h c hc
     ·rw[e]at hc
      cases n with
      | ofNat m=>have e:=cH m; have h3:=(bR m).1 c (by rw[← e]; exact hc); omega
      | negSucc m=>
       rw[eI]at hc
       rcases List.mem_cons.mp hc with z | z
       ·omega
       ·have h3:=(bR (m+1)).1 c z; omega
theorem wm:∀ {l:List Nat},(∀ c∈l,c<128)→(l.flatMap Unicode.upperOf).length=l.length
 | [],_=>rfl
 | a::l,h=>by rw[List.flatMap_cons,List.length_append,xJ a (h a List.mem_cons_self),wm fun c hc=>h c (List.mem_cons_of_mem _ hc),List.length_cons]; omega
theorem C7:∀ c:Nat,c<128→c≠10→10∉Unicode.upperOf c:=by decide +kernel
theorem yo{z:Str}{ws:List Str}(h:DrW z ws)(ha:A1 z):gm (rq z)∧(rq z).length=z.length:=by
 have hl:=h.ln
 have ll:∀ s:Str,s.cps.toList.length=s.length:=fun s=>Array.length_toList
 have e:=Az z
 have el:(rq z).length=z.length:=by rw[← ll,← ll,e]; exact wm ha.a
 refine⟨oX (fun c hc=>?_) (fun hz=>?_) (by rw[el]; omega),el⟩
 ·obtain⟨d,h1,h2,h3⟩:=ha.f
  cases hz:z.cps.toList with
  | nil=>rw[hz]at h1; cases h1
  | cons a l=>
   rw[hz]at h1
   have h1':a=d:=by simpa using h1
   subst h1'
   rw[e,hz,List.flatMap_cons,xS a (by omega) h2]at hc
   have:a - 32=c:=by simpa using hc
   omega
 ·rw[e]at hz
  obtain⟨c,hc,hz⟩:=List.mem_flatMap.mp hz
  exact C7 c (ha.a c hc) (fun z=>hl.2 (z ▸ hc)) hz
def qQ:Sp:=fun vs H Q _=>∃ (way c:Int) (z:Str) (ws:List Str),vs=[.int way,.int c,.str z]∧DrW z ws∧A1 z∧∀ (u:Str) (H':Hp),gm u→1≤u.length→Same H H'→Q (.str u) H'
def v8:Sp:=fun vs H Q _=>∃ (c:Int) (x y:Str),vs=[.int c,.str x,.str y]∧Wx x∧Wx y∧∀ (u:Str) (H':Hp),gm u→Same H H'→Q (.str u) H'
def vX:Sp:=fun vs H Q _=>∃ c:Int,vs=[.int c]∧∀ (b:Str) (H':Hp),b∈oddBs→Same H H'→Q (.str b) H'
section
variable{P:Program}{w:World}{K:PySem.W.Frag}{mg:Str→Option Value}{base:Heap}
theorem wv(D:DefAt K mg "_law_line_spoiled" aX) (z_int:mg "int" = none):bf P w K mg base 1 "_law_line_spoiled" ["_law_way", "_law_cell", "_law_line"] qQ:=by
 refine D.cal (k:=0) sc_law_line_spoiled (fun _ _ _ _ _ _ us hl=>match us,hl with | [_,_,_],_=>rfl) (fun vs H Q E h=>by obtain⟨_,_,_,_,rfl,_⟩:=h; rfl) (fun f cdv A outer sh H vs Q E hr h=>?_)
 obtain⟨way,c,z,ws,rfl,hw,ha,q⟩:=h
 refine⟨_,(af (bq (aH cm (pv 0 (hv:=uq)) aj (aG _)) (al (ax (am ap (pv 2 (hv:=lF)) ah))) aP)
   (af (bq (aH cm (pv 0 (hv:=uq)) aj (aG _)) (al (ax (am ap ah (pv 2 (hv:=lF))))) aP)
   (af (bq (aH cm (pv 0 (hv:=uq)) aj (aG _)) (al (ax (sq K PySem.F.plainAttrs_str PySem.F.slot_str_upper PySem.F.type_str_upper yU (pv 2 (hv:=lF))))) aP)
   (af (aw 3 sc_law_line_spoiled.nd (bd (bG K) (aT (aa ah (aa ah ac))) (dA jL z_int ji (aa (cj cm (pv 0 (hv:=uq)) aj (aG _)) ac) (hg:=Ed)) (fun _ _=>rfl)) (hx:=Er))
   (af (bq (aH (lH K) ah (pv 2 (hv:=lF)) (by with_unfolding_all rfl)) (al (ax (am ap (pv 2 (hv:=lF)) (pv 3 (hv:=Bl))))) aP)
   (af (aw 4 sc_law_line_spoiled.nd (bL K PySem.F.plainAttrs_str PySem.F.slot_str_find PySem.F.type_str_find zW (pv 2 (hv:=lF)) (aa ah ac)) (hx:=Em))
   (al (ax (am ap (am ap (b4 js (pv 2 (hv:=lF)) ci (b6 (pv 4 (hv:=Cf)))) (pv 3 (hv:=Bl))) (b4 js (pv 2 (hv:=lF)) (b6 (am ap (pv 4 (hv:=Cf)) aj)) ci)))))))))),?_⟩
 have hl:=hw.ln
 have n1:(Str.ofString " ").length=1:=by decide +kernel
 have z1:1≤z.length:=by
  obtain⟨d,h1,_⟩:=ha.f
  have h2:=(List.getElem?_eq_some_iff.mp h1).1
  rw[show z.cps.toList.length=z.length from Array.length_toList]at h2
  exact h2
 have n2:(Str.ofString "  ").length=2:=by decide +kernel
 have nt:(Str.ofString "\t").length=1:=by decide +kernel
 walk_at "rd1"
 refine aB (fun _=>⟨ao (by omega),q _ _ (Ar hw) (by rw[Str.length_append]; omega) (Same.refl _)⟩) (fun _=>?_)
 walk_at "nx"
 refine aB (fun _=>⟨ao (by omega),q _ _ (xP hw) (by rw[Str.length_append]; omega) (Same.refl _)⟩) (fun _=>?_)
 walk_at "nx"
 refine aB (fun _=>?_) (fun _=>?_)
 ·obtain⟨u1,u2⟩:=yo hw ha
  refine⟨z,rfl,rfl,?_,q _ _ u1 (by rw[u2]; exact z1) (Same.refl _)⟩
  show decide ((rq z).length>sizeLine)=false
  rw[u2]
  exact decide_eq_false (Nat.not_lt.mpr (ao (by omega)))
 walk_at "nx"
 refine⟨by decide,fun p hp=>?_⟩
 generalize hH1:upd H p _=H1
 have s1:=av hH1 hp
 have e1:=aJ hH1
 clear hH1
 have tail:∀ sg:Str,(sg=Str.ofString "  " ∨ sg=Str.ofString "\t")→ir
   (jd
    (ou (fc (b7 (jZ K) (tC (V.str (Str.ofString " "))) (bu 2)))
     (lB (b7 cv (bu 2) (bu 3))) pT)
    (jd (iq (nv K "str" u7 (bu 2) (bQ (tC (V.str (Str.ofString " "))) cV)) (dG 4))
     (lB
      (b7 cv (b7 cv (rJ qI (bu 2) eP (jF (bu 4))) (bu 3))
       (rJ qI (bu 2) (jF (b7 cv (bu 4) (tC (V.int 1)))) eP)))))
   { nx:=fun x H'=>Q V.non H',rt:=Q }
   [some (V.int way),some (V.int c),some (V.str z),some (V.str sg),none] H1:=fun sg hsg=>by
  have hsg1:1≤sg.length:=by rcases hsg with rfl | rfl <;> decide +kernel
  have hsl:sg.length≤2:=by rcases hsg with rfl | rfl <;> decide +kernel
  have hs10:10∉sg.cps.toList:=by rcases hsg with rfl | rfl <;> decide +kernel
  have e32:Str.ofString " " = ⟨#[32]⟩:=by decide +kernel
  have tabOdd:sg=Str.ofString "\t" → ∀ a b:Str,Nl a→Nl b→a.length+b.length≤390→gm (a++sg++b):=fun e a b ha' hb hl'=>by
   refine Ax ?_ (fun z=>?_) (by rw[Str.length_append,Str.length_append]; omega)
   ·rw[bA,bA,e]
    exact List.mem_append_left _ (List.mem_append_right _ (by decide +kernel))
   ·rw[bA,bA]at z
    rcases List.mem_append.mp z with z | z
    ·rcases List.mem_append.mp z with z | z
     ·exact ha' z
     ·exact hs10 z
    ·exact hb z
  walk_at "nx"
  rw[e32,StrLaws.found_one]
  by_cases h32:32∈z.cps.toList
  ·rw[decide_eq_true h32]
   refine aB (fun c=>absurd c (by decide)) (fun _=>?_)
   obtain⟨w0,w1,r,hws⟩ : ∃ w0 w1 r,ws=w0::w1::r:=by
    match ws,hw with
    | [],hw=>exact absurd rfl hw.ne
    | [a],hw=>
     have e:z=a:=hw.e
     exact absurd (e ▸ h32) (hw.wd a List.mem_cons_self).2.2
    | a::b::r,_=>exact⟨a,b,r,rfl⟩
   subst hws
   have hz:z.cps.toList=w0.cps.toList++((Str.ofString " ").cps.toList++(Txt.join " " (w1::r)).cps.toList):=by rw[hw.e]; exact cb w0 w1 r
   obtain⟨rr,hf⟩:=Av (a:=w0) (b:=Txt.join " " (w1::r)) hz (hw.wd w0 List.mem_cons_self).2.2
   have ea:Txt.slice z none (some ((w0.cps.toList.length:Nat):Int))=w0:=cM (by rw[fZ,hz,List.take_left])
   have eb:Txt.slice z (some (((w0.cps.toList.length+1:Nat)):Int)) none=Txt.join " " (w1::r):=cM (by
    rw[nQ,hz,show (Str.ofString " ").cps.toList=[32] by decide +kernel,List.drop_append,List.drop_of_length_le (by omega),show w0.cps.toList.length+1 - w0.cps.toList.length=1 by omega]; rfl)
   have lz:z.length=w0.length+(1+(Txt.join " " (w1::r)).length):=by
    have:=congrArg List.length hz
    rw[List.length_append,List.length_append,show (Str.ofString " ").cps.toList.length=1 by decide +kernel]at this
    have ll:∀ s:Str,s.cps.toList.length=s.length:=fun s=>Array.length_toList
    rw[ll,ll,ll]at this
    exact this
   walk_at "nx"
   rw[yx,← e32,hf]
   dsimp only
   walk_at "nx"
   have l0:w0.cps.toList.length=w0.length:=Array.length_toList
   refine⟨ao (by omega),?_⟩
   rw[ea]
   refine⟨ao (by omega),ao (by omega),?_⟩
   have eb':Txt.slice z (some ((w0.cps.toList.length:Int)+1)) none=Txt.join " " (w1::r):=eb
   rw[eb']
   refine⟨ao (by rw[Str.length_append]; omega),q _ _ ?_ (by rw[Str.length_append,Str.length_append]; omega) s1⟩
   have jn:Nl (Txt.join " " (w1::r)):=(eR _ fun x hx=>⟨(hw.wd x (List.mem_cons_of_mem _ hx)).1,(hw.wd x (List.mem_cons_of_mem _ hx)).2.1⟩).2
   rcases hsg with rfl | e
   ·have hb:lG (w0 :: "" :: w1::r)=false:=cx fun hk=>by
     rcases hw.k with ⟨h1,h2⟩ | h1
     ·cases h2
     ·have:=pD _ hk _ h1 rfl
      simp at this
    have ej:w0++Str.ofString "  " ++ Txt.join " " (w1::r)=Txt.join " " (w0 :: "" :: w1::r):=cM (by
     rw[bA,bA,cb,cb,show (Str.ofString "  ").cps.toList=(Str.ofString " ").cps.toList++((Str.ofString "").cps.toList++(Str.ofString " ").cps.toList) by decide +kernel]
     simp only[List.append_assoc])
    have h3:=hw.l3
    refine cr ej (by simp) (by simp only[List.length_cons]at h3 ⊢; omega) (fun u hu=>?_) hb
    rcases List.mem_cons.mp hu with rfl | hu
    ·exact hw.wd _ List.mem_cons_self
    rcases List.mem_cons.mp hu with rfl | hu
    ·exact rm
    ·exact hw.wd u (List.mem_cons_of_mem _ hu)
   ·exact tabOdd e _ _ (hw.wd w0 List.mem_cons_self).2.1 jn (by omega)
  ·rw[decide_eq_false h32]
   refine aB (fun _=>?_) (fun c=>absurd rfl c)
   refine⟨ao (by omega),q _ _ ?_ (by rw[Str.length_append]; omega) s1⟩
   rcases hsg with rfl | e
   ·exact xL hw
   ·have:=tabOdd e z "" hl.2 (show Nl "" by unfold Nl; decide +kernel) (by rw[(by decide +kernel:(Str.ofString "").length=0)]; omega)
    have e0:z++sg ++ "" = z++sg:=cM (by rw[bA,show (Str.ofString "").cps.toList=[] by decide +kernel,List.append_nil])
    rw[e0]at this; exact this
 by_cases h12:way=12
 ·refine⟨_,_,.inl (SqL.of e1),by rw[if_pos h12]; exact bn (j:=1) rfl,tail _ (.inr rfl)⟩
 ·refine⟨_,_,.inl (SqL.of e1),by rw[if_neg h12]; exact eD,tail _ (.inl rfl)⟩
end
theorem jf{a b:Str}{n m:Nat}(h:a.length≤n)(h':b.length≤m):(a++b).length≤n+m:=by rw[Str.length_append]; exact Nat.add_le_add h h'
theorem cI{a b:Str}{n m:Nat}(h:a.length≤n)(h':b.length≤m)(hn:n+m≤1000:=by decide):a.length+b.length≤sizeLine:=ao (Nat.le_trans (Nat.add_le_add h h') (Nat.le_trans hn (by decide)))
def Ev(te:TE)(σ : L2.St)(H:Hp)(v:V):Prop:=∀ Q:VK,Q v H→te σ H Q
def vU(t:TA)(σ : L2.St)(H:Hp)(vs:List V):Prop:=∀ Q:List V→Hp→Prop,Q vs H→t σ H Q
theorem bS{v:V}{σ : L2.St}{H:Hp}:Ev (tC v) σ H v:=fun _ h=>h
theorem ck{i:Nat}{v:V}{σ : L2.St}{H:Hp}(h:σ[i]? = some (some v)):Ev (bu i) σ H v:=fun _ q=>⟨v,h,q⟩
theorem bW{ta tb:TE}{σ : L2.St}{H:Hp}{a b:Str}(ha:Ev ta σ H (.str a))(hb:Ev tb σ H (.str b))(hl:a.length+b.length≤sizeLine):Ev (b7 cv ta tb) σ H (.str (a++b)):=fun _ q=>ha _ (hb _ ⟨hl,q⟩)
theorem Bc{te:TE}{σ : L2.St}{H:Hp}{a:Str}(ha:Ev te σ H (.str a))(hl:a.length≤1000):Ev (rJ qI te (jF (tC (.int 1))) eP) σ H (.str (Txt.slice a (some 1) none)):=fun _ q=>ha _ ⟨1,rfl,a,rfl,ao (Nat.le_trans hl (by decide)),q⟩
theorem kg{σ : L2.St}{H:Hp}:vU cV σ H []:=fun _ h=>h
theorem aU{te:TE}{t:TA}{σ : L2.St}{H:Hp}{v:V}{vs:List V}(h:Ev te σ H v)(h':vU t σ H vs):vU (bQ te t) σ H (v::vs):=fun _ q=>h _ (h' _ q)
theorem Aa{t:TA}{i:Nat}{B:TS}{D:dz}{σ : L2.St}{H:Hp}{vs:List V}(h:vU t σ H vs)(hl:vs.length≤sizeLine)(k:∀ p,H p=none→ir B D (σ.set i (some (.ref p))) (upd H p (.lst vs))):ir (jd (iq (gE t) (dG i)) B) D σ H:=h _ ⟨hl,k⟩
theorem ms{t:TA}{i:Nat}{B:TS}{D:dz}{σ : L2.St}{H:Hp}{vs xs:List V}{a:Addr}(hv:σ[i]? = some (some (.ref a)))(h:vU t σ H vs)(hl:vs.length≤sizeLine)(ha:H a=some (.lst xs))(hl2:xs.length+vs.length≤sizeLine)(k:∀ r H',Same H H'→H' r=some (.lst (xs++vs))→ir B D (σ.set i (some (.ref r))) H'):ir (jd (iq (b7 cv (bu i) (gE t)) (dG i)) B) D σ H:=
 ⟨_,hv,h _ ⟨hl,fun p hp=>⟨xs,vs,by rw[aA (aZ ha hp)]; exact ha,ai,hl2,fun r hr=>k r _ ((au hp _).trans (au hr _)) ai⟩⟩⟩
section
variable{P:Program}{w:World}{K:PySem.W.Frag}{mg:Str→Option Value}{base:Heap}
theorem AC(D:DefAt K mg "_law_odd_line" bx) (z_len:mg "len" = none):bf P w K mg base 1 "_law_odd_line" ["_law_cell", "_law_x", "_law_y"] v8:=by
 refine D.cal (k:=0) sc_law_odd_line (fun _ _ _ _ _ _ us hl=>match us,hl with | [_,_,_],_=>rfl) (fun vs H Q E h=>by obtain⟨_,_,_,rfl,_⟩:=h; rfl) (fun f cdv A outer sh H vs Q E hr h=>?_)
 obtain⟨c,x,y,rfl,hx,hy,q⟩:=h
 refine⟨_,(af (aw 3 sc_law_odd_line.nd (am ap (am ap (pv 1 (hv:=dZ)) ah) (pv 2 (hv:=Ex))) (hx:=FU))
   (af (aw 4 sc_law_odd_line.nd (aT (aa ah (aa ah (aa (am ap ah (pv 3 (hv:=rk))) (aa (am ap ah (pv 1 (hv:=dZ))) (aa ah (aa (am ap ah (b4 js (pv 1 (hv:=dZ)) (b6 aj) ci)) (aa (am ap (am ap ah (pv 1 (hv:=dZ))) ah) (aa ah ac))))))))) (hx:=vB))
   (af (aw 4 sc_law_odd_line.nd (am ap (pv 4 (hv:=oq)) (aT (aa (am ap ah (pv 1 (hv:=dZ))) (aa ah (aa (am ap ah (pv 3 (hv:=rk))) (aa (am ap ah (pv 1 (hv:=dZ))) (aa (am ap ah (pv 1 (hv:=dZ))) (aa (am ap ah (pv 1 (hv:=dZ))) (aa ah ac))))))))) (hx:=vB))
   (af (aw 4 sc_law_odd_line.nd (am ap (pv 4 (hv:=oq)) (aT (aa (am ap (am ap (am ap ah (pv 3 (hv:=rk))) ah) (pv 1 (hv:=dZ))) (aa ah (aa (am ap ah (pv 3 (hv:=rk))) (aa (am ap ah (pv 1 (hv:=dZ))) (aa ah (aa (am ap (am ap ah (pv 1 (hv:=dZ))) ah) ac)))))))) (hx:=vB))
   (af (aw 4 sc_law_odd_line.nd (am ap (pv 4 (hv:=oq)) (aT (aa (am ap ah (pv 1 (hv:=dZ))) (aa (am ap (am ap (am ap ah (pv 3 (hv:=rk))) ah) (pv 1 (hv:=dZ))) (aa ah (aa ah (aa (am ap ah (pv 1 (hv:=dZ))) (aa (am ap (pv 1 (hv:=dZ)) ah) (aa ah ac))))))))) (hx:=vB))
   (af (aw 4 sc_law_odd_line.nd (am ap (pv 4 (hv:=oq)) (aT (aa (am ap ah (pv 1 (hv:=dZ))) (aa ah (aa ah (aa ah (aa ah (aa ah (aa (am ap ah (pv 1 (hv:=dZ))) (aa ah (aa (am ap ah (pv 1 (hv:=dZ))) ac))))))))))) (hx:=vB))
   (al (ax (bd (bG K) (pv 4 (hv:=oq)) (am cK (pv 0 (hv:=Fn)) (aL (aW K) z_len bM (aa (pv 4 (hv:=oq)) ac) (hg:=EO))) (fun _ _=>rfl)))))))))),?_⟩
 have lx:=bU hx.w
 have ly:=bU hy.w
 have lsl:(Txt.slice x (some 1) none).length≤8:=Nat.le_trans (Txt.slice_le x (some 1) none) lx
 have LB:(x++Str.ofString " " ++ y).length≤8+20+8:=jf (jf lx (by decide +kernel)) ly
 walk_at "rd1"
 refine⟨cI lx (by decide +kernel:(Str.ofString " ").length≤20),cI (jf lx (by decide +kernel:(Str.ofString " ").length≤20)) ly,?_⟩
 refine Aa (aU bS (aU bS (aU (bW bS (ck rfl) (cI (by decide +kernel:(Str.ofString "open ").length≤20) LB)) (aU (bW bS (ck rfl) (cI (by decide +kernel:(Str.ofString "Open ").length≤20) lx)) (aU bS (aU (bW bS (Bc (ck rfl) (Nat.le_trans lx (by decide))) (cI (by decide +kernel:(Str.ofString "open A").length≤20) lsl)) (aU (bW (bW bS (ck rfl) (cI (by decide +kernel:(Str.ofString "open ").length≤20) lx)) bS (cI (jf (by decide +kernel:(Str.ofString "open ").length≤20) lx) (by decide +kernel:(Str.ofString "abcdefgh").length≤20))) (aU bS kg)))))))) (ao (by simp)) fun p1 hp1=>?_
 generalize hH1:upd H p1 _=H1
 have s1:=av hH1 hp1
 have e1:=aJ hH1
 clear hH1
 refine ms rfl (aU (bW bS (ck rfl) (cI (by decide +kernel:(Str.ofString "do ").length≤20) lx)) (aU bS (aU (bW bS (ck rfl) (cI (by decide +kernel:(Str.ofString "do read ").length≤20) LB)) (aU (bW bS (ck rfl) (cI (by decide +kernel:(Str.ofString "do rea1 ").length≤20) lx)) (aU (bW bS (ck rfl) (cI (by decide +kernel:(Str.ofString "do readreadr ").length≤20) lx)) (aU (bW bS (ck rfl) (cI (by decide +kernel:(Str.ofString "copy ").length≤20) lx)) (aU bS kg))))))) (ao (by simp)) e1 (ao (by simp)) fun p2 H2 t2 e2=>?_
 have s2:=s1.trans t2
 refine ms rfl (aU (bW (bW (bW bS (ck rfl) (cI (by decide +kernel:(Str.ofString "copy ").length≤20) LB)) bS (cI (jf (by decide +kernel:(Str.ofString "copy ").length≤20) LB) (by decide +kernel:(Str.ofString " ").length≤20))) (ck rfl) (cI (jf (jf (by decide +kernel:(Str.ofString "copy ").length≤20) LB) (by decide +kernel:(Str.ofString " ").length≤20)) lx)) (aU bS (aU (bW bS (ck rfl) (cI (by decide +kernel:(Str.ofString "drop ").length≤20) LB)) (aU (bW bS (ck rfl) (cI (by decide +kernel:(Str.ofString "tie ").length≤20) lx)) (aU bS (aU (bW (bW bS (ck rfl) (cI (by decide +kernel:(Str.ofString "tie ").length≤20) lx)) bS (cI (jf (by decide +kernel:(Str.ofString "tie ").length≤20) lx) (by decide +kernel:(Str.ofString " -").length≤20))) kg)))))) (ao (by simp)) e2 (ao (by simp)) fun p3 H3 t3 e3=>?_
 have s3:=s2.trans t3
 refine ms rfl (aU (bW bS (ck rfl) (cI (by decide +kernel:(Str.ofString "lend ").length≤20) lx)) (aU (bW (bW (bW bS (ck rfl) (cI (by decide +kernel:(Str.ofString "lend ").length≤20) LB)) bS (cI (jf (by decide +kernel:(Str.ofString "lend ").length≤20) LB) (by decide +kernel:(Str.ofString " ").length≤20))) (ck rfl) (cI (jf (jf (by decide +kernel:(Str.ofString "lend ").length≤20) LB) (by decide +kernel:(Str.ofString " ").length≤20)) lx)) (aU bS (aU bS (aU (bW bS (ck rfl) (cI (by decide +kernel:(Str.ofString "shut ").length≤20) lx)) (aU (bW (ck rfl) bS (cI lx (by decide +kernel:(Str.ofString " open").length≤20))) (aU bS kg))))))) (ao (by simp)) e3 (ao (by simp)) fun p4 H4 t4 e4=>?_
 have s4:=s3.trans t4
 refine ms rfl (aU (bW bS (ck rfl) (cI (by decide +kernel:(Str.ofString "back ").length≤20) lx)) (aU bS (aU bS (aU bS (aU bS (aU bS (aU (bW bS (ck rfl) (cI (by decide +kernel:(Str.ofString "if ").length≤20) lx)) (aU bS (aU (bW bS (ck rfl) (cI (by decide +kernel:(Str.ofString "open").length≤20) lx)) kg))))))))) (ao (by simp)) e4 (ao (by simp)) fun p5 H5 t5 e5=>?_
 have s5:=s4.trans t5
 have e:H5 p5=some (.lst ((mo x y).map V.str)):=e5
 obtain⟨u,hu,hat⟩:=kc (ns:=mo x y) (by simp[mo]) c
 have hn:(mo x y).length=37:=rfl
 walk_at "nx"
 refine⟨_,.inl (SqL.of e),by rw[List.length_map,hn]; decide,_,_,.inl (SqL.of e),by rw[List.length_map]; exact hat,q u _ (xa hx hy u hu) s5⟩
theorem zY(D:DefAt K mg "_law_odd_bound" bN) (z_len:mg "len" = none):bf P w K mg base 1 "_law_odd_bound" ["_law_cell"] vX:=by
 refine D.cal (k:=0) sc_law_odd_bound (fun _ _ _ _ _ _ us hl=>match us,hl with | [_],_=>rfl) (fun vs H Q E h=>by obtain⟨_,rfl,_⟩:=h; rfl) (fun f cdv A outer sh H vs Q E hr h=>?_)
 obtain⟨c,rfl,q⟩:=h
 refine⟨_,(af (aw 1 sc_law_odd_bound.nd (aT (aa ah (aa ah (aa ah (aa ah (aa ah (aa ah (aa ah (aa ah (aa ah (aa ah (aa ah (aa ah (aa ah (aa ah (aa (am s_ ah aj) ac)))))))))))))))) (hx:=DC))
   (af (aw 1 sc_law_odd_bound.nd (am ap (pv 1 (hv:=xm)) (aT (aa (am ap ah (am s_ ah aj)) ac))) (hx:=DC))
   (al (ax (bd (bG K) (pv 1 (hv:=xm)) (am cK (pv 0 (hv:=D9)) (aL (aW K) z_len bM (aa (pv 1 (hv:=xm)) ac) (hg:=Ei))) (fun _ _=>rfl)))))),?_⟩
 walk_at "rd1"
 refine⟨by decide,by decide,by decide +kernel,by decide,fun p1 hp1=>?_⟩
 generalize hH1:upd H p1 _=H1
 have s1:=av hH1 hp1
 have e1:=aJ hH1
 clear hH1
 walk_at "nx"
 refine⟨by decide,by decide,by decide +kernel,ao (by decide +kernel),by decide,fun p2 hp2=>?_⟩
 generalize hH2:upd H1 p2 _=H2
 have s2:=s1.trans (av hH2 hp2)
 have e2:=aJ hH2
 refine⟨_,_,av hH2 hp2 _ _ e1,e2,by decide,fun p3 hp3=>?_⟩
 generalize hH3:upd H2 p3 _=H3
 have s3:=s2.trans (av hH3 hp3)
 have e3:=aJ hH3
 clear hH2 hH3
 have e:H3 p3=some (.lst (oddBs.map V.str)):=e3
 obtain⟨u,hu,hat⟩:=kc (ns:=oddBs) (by decide) c
 have hn:oddBs.length=16:=rfl
 walk_at "nx"
 refine⟨_,.inl (SqL.of e),by rw[List.length_map,hn]; decide,_,_,.inl (SqL.of e),by rw[List.length_map]; exact hat,q u _ hu s3⟩
end
def TM(more:List Str):Prop:=(∀ z∈more,Nl z∧z.length≤400)∧∀ A B:List Str,c_ (A++(more++B))=none∨jp (A++(more++B))=false
theorem B_{L:List Str}(h:60<L.length):jp L=false:=by
 unfold jp; rw[decide_eq_false (by omega)]; rfl
theorem C8{L:List Str}(h:3<L.countP cT):jp L=false:=by
 unfold jp; rw[decide_eq_false (show ¬ L.countP cT≤3 by omega),Bool.and_false]; rfl
theorem C1{L m:List Str}(hm:m.Nodup)(h5:4<m.length)(h:∀ x∈m,x∈L.flatMap dg):jp L=false:=by
 have:=BO hm h
 unfold jp; rw[decide_eq_false (show ¬ (fH (L.flatMap dg)).length≤4 by omega),Bool.and_false]
theorem xi{x:Str}(hx:Wx x):Str.ofString "drop " ++ x=Txt.join " " ["drop", x]:=by rw[show Str.ofString "drop " = Str.ofString "drop" ++ Str.ofString " " by decide +kernel,ei]
theorem sJ{x:Str}(hx:Wx x):Nl (Str.ofString "drop " ++ x)∧(Str.ofString "drop " ++ x).length≤400:=by
 refine⟨fun z=>?_,by rw[Str.length_append,(by decide +kernel:(Str.ofString "drop ").length=5)]; have:=bU hx.w; omega⟩
 rw[bA]at z
 rcases List.mem_append.mp z with z | z
 ·exact absurd z (by decide +kernel)
 ·exact hx.wd.2.1 z
theorem zQ{x:Str}(hx:Wx x):TM (List.replicate 61 (Str.ofString "drop " ++ x)):=by
 refine⟨fun z hz=>by rw[List.eq_of_mem_replicate hz]; exact sJ hx,fun A B=>.inr (B_ ?_)⟩
 rw[List.length_append,List.length_append,List.length_replicate]; omega
theorem yJ:TM ["open p", "do read q", "copy r s", "tie t u"]:=by
 refine⟨fun z hz=>?_,fun A B=>.inr (C1 (m:=["p", "q", "r", "s", "t"]) (by decide +kernel) (by decide) fun u hu=>?_)⟩
 ·have h:∀ z∈(["open p", "do read q", "copy r s", "tie t u"]:List Str),10∉z.cps.toList∧z.length≤400:=by decide +kernel
  exact h z hz
 ·have h:∀ u∈(["p", "q", "r", "s", "t"]:List Str),u∈(["open p", "do read q", "copy r s", "tie t u"]:List Str).flatMap dg:=by decide +kernel
  rw[List.flatMap_append,List.flatMap_append]
  exact List.mem_append_right _ (List.mem_append_left _ (h u hu))
def d8(x:Str):List Str:=[Str.ofString "lend " ++ x++Str.ofString " " ++ x,Str.ofString "back"]
theorem zS{x:Str}(hx:Wx x):TM (d8 x++d8 x++d8 x++d8 x):=by
 have e:Str.ofString "lend " ++ x++Str.ofString " " ++ x=Txt.join " " ["lend", x,x]:=by rw[show Str.ofString "lend " = Str.ofString "lend" ++ Str.ofString " " by decide +kernel,ia]
 have hl:cT (Str.ofString "lend " ++ x++Str.ofString " " ++ x)=true:=by rw[e]; exact tL x x
 have c1:(d8 x).countP cT=1:=by
  unfold d8
  rw[List.countP_cons,List.countP_cons,List.countP_nil,if_pos hl,show cT (Str.ofString "back")=false by decide +kernel]; rfl
 refine⟨fun z hz=>?_,fun A B=>.inr (C8 ?_)⟩
 ·have hz':z∈d8 x:=by simpa using hz
  simp only[d8,List.mem_cons,List.not_mem_nil,or_false]at hz'
  rcases hz' with rfl | rfl
  ·obtain⟨j1,j2⟩:=eR ["lend", x,x] fun u hu=>by
    have:=fX (bj (by decide +kernel:(decide ((Str.ofString "lend").length≤61)&&decide (10∉(Str.ofString "lend").cps.toList)&&decide (32∉(Str.ofString "lend").cps.toList))=true)) hx.wd hx.wd u hu
    exact⟨this.1,this.2.1⟩
   rw[e]
   exact⟨j2,by simp only[List.length_cons,List.length_nil]at j1; omega⟩
  ·exact(by decide +kernel:10∉(Str.ofString "back").cps.toList∧(Str.ofString "back").length≤400)
 ·simp only[List.countP_append,c1]; omega
theorem zH{x:Str}(hx:Wx x):TM (List.replicate 9 (Str.ofString "while 0")++[Str.ofString "drop " ++ x]++List.replicate 9 (Str.ofString "done")):=by
 refine⟨fun z hz=>?_,fun A B=>.inl ?_⟩
 ·rcases List.mem_append.mp hz with hz | hz
  ·rcases List.mem_append.mp hz with hz | hz
   ·rw[List.eq_of_mem_replicate hz]
    exact(by decide +kernel:10∉(Str.ofString "while 0").cps.toList∧(Str.ofString "while 0").length≤400)
   ·rw[List.mem_singleton.mp hz]; exact sJ hx
  ·rw[List.eq_of_mem_replicate hz]
   exact(by decide +kernel:10∉(Str.ofString "done").cps.toList∧(Str.ofString "done").length≤400)
 ·have hne:Str.ofString "drop " ++ x∉bD:=by rw[xi hx]; exact gk (by simp)
  have:=xy (A:=A) (B:=List.replicate 9 (Str.ofString "done")++B) hne
  simpa [List.append_assoc] using this
def vW:Sp:=fun vs H Q _=>∃ (c:Int) (x:Str),vs=[.int c,.str x]∧Wx x∧∀ (l:Addr) (more:List Str) (H':Hp),Same H H'→H' l=some (.lst (more.map V.str))→TM more→more.length≤70→more≠[]→Q (.ref l) H'
section
variable{P:Program}{w:World}{K:PySem.W.Frag}{mg:Str→Option Value}{base:Heap}
theorem zX(D:DefAt K mg "_law_too_much" bV):bf P w K mg base 1 "_law_too_much" ["_law_cell", "_law_x"] vW:=by
 refine D.cal (k:=0) sc_law_too_much (fun _ _ _ _ _ _ us hl=>match us,hl with | [_,_],_=>rfl) (fun vs H Q E h=>by obtain⟨_,_,rfl,_⟩:=h; rfl) (fun f cdv A outer sh H vs Q E hr h=>?_)
 obtain⟨c,x,rfl,hx,q⟩:=h
 refine⟨_,(af (aw 2 sc_law_too_much.nd (am cK (pv 0 (hv:=Eo)) aj) (hx:=D6))
   (af (bq (aH cm (pv 2 (hv:=xD)) aj (aG _)) (al (ax (am lf (aT (aa (am ap ah (pv 1 (hv:=uf))) ac)) aj))) aP)
   (af (bq (aH cm (pv 2 (hv:=xD)) aj (aG _)) (al (ax (aT (aa ah (aa ah (aa ah (aa ah ac))))))) aP)
   (af (bq (aH cm (pv 2 (hv:=xD)) aj (aG _)) (al (ax (am lf (aT (aa (am ap (am ap (am ap ah (pv 1 (hv:=uf))) ah) (pv 1 (hv:=uf))) (aa ah ac))) aj))) aP)
   (al (ax (am ap (am ap (am lf (aT (aa ah ac)) aj) (aT (aa (am ap ah (pv 1 (hv:=uf))) ac))) (am lf (aT (aa ah ac)) aj)))))))),?_⟩
 have lx:=bU hx.w
 have n5:(Str.ofString "drop ").length=5:=by decide +kernel
 have m5:(Str.ofString "lend ").length=5:=by decide +kernel
 have n1:(Str.ofString " ").length=1:=by decide +kernel
 walk_at "rd1"
 refine⟨by decide,?_⟩
 walk_at "nx"
 refine aB (fun _=>?_) (fun _=>?_)
 ·refine⟨ao (by omega),by decide,fun p hp=>⟨p,61,_,rfl,rfl,ai,by decide,by decide,ao (by simp),fun r hr=>?_⟩⟩
  refine q r (List.replicate 61 (Str.ofString "drop " ++ x)) _ ((au hp _).trans (au hr _)) ?_ (zQ hx) (by simp) (by simp)
  rw[ai]; rfl
 walk_at "nx"
 refine aB (fun _=>?_) (fun _=>?_)
 ·exact⟨by decide,fun p hp=>q p _ _ (au hp _) ai yJ (by simp) (by simp)⟩
 walk_at "nx"
 refine aB (fun _=>?_) (fun _=>?_)
 ·refine⟨ao (by omega),ao (by rw[Str.length_append]; omega),ao (by rw[Str.length_append,Str.length_append]; omega),by decide,fun p hp=>⟨p,4,_,rfl,rfl,ai,by decide,by decide,ao (by simp),fun r hr=>?_⟩⟩
  refine q r (d8 x++d8 x++d8 x++d8 x) _ ((au hp _).trans (au hr _)) ?_ (zS hx) (by simp[d8]) (by simp[d8])
  rw[ai]; rfl
 walk_at "nx"
 refine⟨by decide,fun p hp=>⟨p,9,_,rfl,rfl,ai,by decide,by decide,ao (by simp),fun r hr=>?_⟩⟩
 generalize hH1:upd (upd H p _) r _=H1
 have s1:Same H H1:=hH1 ▸ (au hp _).trans (au hr _)
 have e1:H1 r=some (.lst ((List.replicate 9 (Str.ofString "while 0")).map V.str)):=by rw[← hH1,ai]; rfl
 clear hH1
 try dsimp only
 refine⟨ao (by omega),by decide,fun p2 hp2=>?_⟩
 generalize hH2:upd H1 p2 _=H2
 have s2:=av hH2 hp2
 have e2:H2 p2=some (.lst ([Str.ofString "drop " ++ x].map V.str)):=aJ hH2
 clear hH2
 refine⟨_,_,s2 _ _ e1,e2,ao (by simp),fun p3 hp3=>?_⟩
 generalize hH3:upd H2 p3 _=H3
 have s3:=(s1.trans s2).trans (av hH3 hp3)
 have e3:H3 p3=some (.lst ((List.replicate 9 (Str.ofString "while 0")++[Str.ofString "drop " ++ x]).map V.str)):=aJ hH3
 clear hH3
 refine⟨by decide,fun p4 hp4=>⟨p4,9,_,rfl,rfl,ai,by decide,by decide,ao (by simp),fun p5 hp5=>?_⟩⟩
 generalize hH5:upd (upd H3 p4 _) p5 _=H5
 have s35:Same H3 H5:=hH5 ▸ (au hp4 _).trans (au hp5 _)
 have e5:H5 p5=some (.lst ((List.replicate 9 (Str.ofString "done")).map V.str)):=by rw[← hH5,ai]; rfl
 clear hH5
 try dsimp only
 refine⟨_,_,s35 _ _ e3,e5,ao (by simp),fun p6 hp6=>?_⟩
 refine q p6 _ _ ((s3.trans s35).trans (au hp6 _)) ?_ (zH hx) (by simp) (by simp)
 rw[ai,List.map_append (l₁:=_++_)]
end
def wa:Sp:=fun vs H Q _=>∃ (lp:Addr) (L:List Str),vs=[.ref lp]∧H lp=some (.lst (L.map V.str))∧L.length≤40∧(∀ z∈L,z.length≤400)∧∀ (l:Addr) (ks:List Int) (H':Hp),Same H H'→H' l=some (.lst (ks.map V.int))→ks.length≤40→(∀ k∈ks,∃ (i:Nat) (z:Str),k=(i:Int)∧L[i]? = some z∧hd1 z∈heads7)→Q (.ref l) H'
def tM:Sp:=fun vs H Q _=>∃ (lp mp:Addr) (L more:List Str) (i:Nat),vs=[.ref lp,.int (i:Int),.ref mp]∧H lp=some (.lst (L.map V.str))∧H mp=some (.lst (more.map V.str))∧L.length≤40∧more.length≤70∧i≤L.length∧(∀ z∈L,z.length≤400)∧(∀ z∈more,z.length≤400)∧∀ H',Same H H'→Q (.str (Txt.join "\n" (L.take i++(more++L.drop i)))) H'
theorem rB{α : Type}(xs:List α)(i:Nat)(h:i≤xs.length):jh xs none (some (i:Int))=xs.take i:=by
 unfold jh
 rw[HT.sIx_nat,HT.sIx_none,List.drop_zero,Nat.sub_zero,Nat.min_eq_left h]
theorem m_{α : Type}(xs:List α)(i:Nat)(h:i≤xs.length):jh xs (some (i:Int)) none=xs.drop i:=by
 unfold jh
 rw[HT.sIx_nat,HT.sIx_none,Nat.min_eq_left h]
 exact List.take_of_length_le (by rw[List.length_drop]; omega)
theorem jS{L:List Str}(h:∀ z∈L,z.length≤400):(L.map (·.length)).sum≤L.length * 400:=by
 induction L with
 | nil=>simp
 | cons a L ih=>
  have h1:=h a List.mem_cons_self
  have h2:=ih fun z hz=>h z (List.mem_cons_of_mem _ hz)
  rw[List.map_cons,List.sum_cons,List.length_cons,Nat.succ_mul]; omega
section
variable{P:Program}{w:World}{K:PySem.W.Frag}{mg:Str→Option Value}{base:Heap}
theorem rW(D:DefAt K mg "_law_blocks" bv) (z_len:mg "len" = none) (z_range:mg "range" = none):bf P w K mg base 1 "_law_blocks" ["_law_lines_here"] wa:=by
 refine D.cal (k:=0) sc_law_blocks (fun _ _ _ _ _ _ us hl=>match us,hl with | [_],_=>rfl) (fun vs H Q E h=>by obtain⟨_,_,rfl,_⟩:=h; rfl) (fun f cdv A outer sh H vs Q E hr h=>?_)
 obtain⟨lp,L,rfl,hlp,hn,hx,q⟩:=h
 refine⟨_,(af (aw 1 sc_law_blocks.nd (aT (aa ah (aa ah (aa ah (aa ah (aa ah (aa ah (aa ah ac)))))))) (hx:=Eb))
   (al (ax (dS (CompSc.to (fsc:=(defScope bv)) (N:=["_law_lines_here", "_law_heads"]) (N0:=["_law_lines_here", "_law_heads"]) (T:=["_law_k"]) ⟨by decide +kernel,by decide +kernel,by decide +kernel,by decide +kernel,by decide +kernel,by decide +kernel,by decide +kernel⟩ rfl rfl) rfl (pB ER z_range (aa (aL (aW K) z_len bM (aa (pv 0 (hv:=E4)) ac) (hg:=EC)) ac)) (fun _ _ _ _=>(bX 2 (show (["_law_lines_here", "_law_heads", "_law_k"]:List Str).Nodup from by decide +kernel) (hx:=(hX (defScope bv) (by decide +kernel))) (hf:=jT (defScope bv) (by decide +kernel)))) (cN (show (["_law_lines_here", "_law_heads"]:List Str).length≤2 from by decide)) (fun _ _ _ _=>(q8 (aH (jW K) (bd (bG K) (bL K PySem.F.plainAttrs_str PySem.F.slot_str_split PySem.F.type_str_split ku (bd (bG K) (pv 0 (hv:=(dL (defScope bv) (by decide +kernel)))) (pv 2 (hv:=(dL (defScope bv) (by decide +kernel)))) (fun _ _=>rfl)) (aa ah ac)) aj (fun _ _=>rfl)) (pv 1 (hv:=(dL (defScope bv) (by decide +kernel)))) (by with_unfolding_all rfl)))) (fun _ _ _ _=>(pv 2 (hv:=(dL (defScope bv) (by decide +kernel))))))))),?_⟩
 walk_at "rd1"
 refine⟨by decide,fun hp hhp=>?_⟩
 generalize hH1:upd H hp _=H1
 have s1:=av hH1 hhp
 have e1:H1 hp=some (.lst (heads7.map V.str)):=aJ hH1
 clear hH1
 walk_at "nx"
 refine⟨_,.inl (SqL.of (s1 _ _ hlp)),by rw[List.length_map]; omega,by rw[List.length_map]; omega,fun C hC=>?_⟩
 rw[List.length_map,show ((L.length:Int)).toNat=L.length by omega]
 refine rM (fun j ys H2=>∃ ks:List Int,Same H1 H2∧H2 C=some (.lst ys)∧ys=ks.map V.int∧ks.length≤j∧∀ k∈ks,∃ (i:Nat) (z:Str),k=(i:Int)∧L[i]? = some z∧hd1 z∈heads7) ⟨[],au hC _,ai,rfl,Nat.le_refl _,fun k hk=>by cases hk⟩ ?_ ?_
 ·rintro j ys H2 hj ⟨ks,sm2,hl2,rfl,hk,hks⟩
  have e0:(0:Int)+(j:Int)=(j:Int):=by omega
  rw[e0]
  have hzj:=List.getElem?_eq_getElem hj
  have hzl:=hx _ (List.getElem_mem hj)
  generalize L[j]=z at hzj hzl
  have hsn:=mU z (Str.ofString " ")
  have hh:hd1 z=(Txt.split z (Str.ofString " ")).headD "" := rfl
  walk_at "rd1"
  refine⟨_,_,.inl (SqL.of (sm2 _ _ (s1 _ _ hlp))),bn (by rw[List.getElem?_map,hzj]; rfl),?_⟩
  walk_at "rd1"
  refine⟨by decide +kernel,by omega,fun l hl=>?_⟩
  have s3:=au hl (.lst ((Txt.split z (Str.ofString " ")).map V.str))
  have e3:upd H2 l (.lst ((Txt.split z (Str.ofString " ")).map V.str)) l=some (.lst ((Txt.split z (Str.ofString " ")).map V.str)):=ai
  generalize upd H2 l (.lst ((Txt.split z (Str.ofString " ")).map V.str))=H3 at s3 e3 ⊢
  have sm3:=sm2.trans s3
  have hl3:=s3 _ _ hl2
  obtain⟨k0,us,hws⟩ : ∃ k us,Txt.split z (Str.ofString " ")=k::us:=by cases h:Txt.split z (Str.ofString " ") with
   | nil=>exact absurd h hsn
   | cons k us=>exact⟨k,us,rfl⟩
  rw[hws]at e3 hh
  refine⟨_,.str k0,.inl (SqL.of e3),eD,_,.inl (SqL.of (sm3 _ _ e1)),rfl,by decide,?_⟩
  rw[oN]
  refine aB (fun cw=>?_) (fun cw=>?_)
  ·refine w4 hj (by rw[List.length_map]; exact hk) (ao (by omega)) hl3 ⟨ks++[(j:Int)],sm3.upd hC _,ai,by rw[List.map_append]; rfl,by rw[List.length_append,List.length_singleton]; omega,fun k hkm=>?_⟩
   rcases List.mem_append.mp hkm with h | h
   ·exact hks k h
   ·exact⟨j,z,List.mem_singleton.mp h,hzj,by rw[hh]; exact of_decide_eq_true cw⟩
  ·exact zw hj ⟨ks,sm3,hl3,rfl,by omega,hks⟩
 ·rintro ys H2 ⟨ks,sm2,hl2,rfl,hk,hks⟩
  exact q C ks H2 (s1.trans sm2) hl2 (by omega) hks
theorem yp(D:DefAt K mg "_law_put_in" cu):bf P w K mg base 1 "_law_put_in" ["_law_lines_here", "_law_at", "_law_more"] tM:=by
 refine D.cal (k:=0) pM (fun _ _ _ _ _ _ us hl=>match us,hl with | [_,_,_],_=>rfl) (fun vs H Q E h=>by obtain⟨_,_,_,_,_,rfl,_⟩:=h; rfl) (fun f cdv A outer sh H vs Q E hr h=>?_)
 obtain⟨lp,mp,L,more,i,rfl,hlp,hmp,hn,hm,hi,hx,hxm,q⟩:=h
 refine⟨_,(al (ax (bL K PySem.F.plainAttrs_str PySem.F.slot_str_join PySem.F.type_str_join (fD K) ah (aa (am ap (am ap (b4 (fC K) (pv 0 (hv:=BY)) ci (b6 (pv 1 (hv:=Cd)))) (pv 2 (hv:=Eu))) (b4 (fC K) (pv 0 (hv:=BY)) (b6 (pv 1 (hv:=Cd))) ci)) ac)))),?_⟩
 walk_at "rd1"
 refine⟨_,SqL.of hlp,fun p1 hp1=>?_⟩
 rw[gS,rB L i hi]
 generalize hH1:upd H p1 _=H1
 have s1:=av hH1 hp1
 have e1:=aJ hH1
 clear hH1
 refine⟨_,_,e1,s1 _ _ hmp,ao (by rw[List.length_map,List.length_map,List.length_take]; omega),fun p2 hp2=>?_⟩
 generalize hH2:upd H1 p2 _=H2
 have s2:=s1.trans (av hH2 hp2)
 have e2:=aJ hH2
 clear hH2
 refine⟨_,SqL.of (s2 _ _ hlp),fun p3 hp3=>?_⟩
 rw[gS,m_ L i hi]
 generalize hH3:upd H2 p3 _=H3
 have s23:=av hH3 hp3
 have s3:=s2.trans s23
 have e3:=aJ hH3
 clear hH3
 refine⟨_,_,s23 _ _ e2,e3,ao (by rw[List.length_append,List.length_map,List.length_map,List.length_map,List.length_take,List.length_drop]; omega),fun p4 hp4=>?_⟩
 generalize hH4:upd H3 p4 _=H4
 have s4:=s3.trans (av hH4 hp4)
 have e4:H4 p4=some (.lst ((L.take i++(more++L.drop i)).map V.str)):=by rw[aJ hH4,List.map_append,List.map_append,List.append_assoc]
 clear hH4
 have hall:∀ z∈L.take i++(more++L.drop i),z.length≤400:=fun z hz=>by
  rcases List.mem_append.mp hz with h | h
  ·exact hx z (List.mem_of_mem_take h)
  rcases List.mem_append.mp h with h | h
  ·exact hxm z h
  ·exact hx z (List.mem_of_mem_drop h)
 have hsum:=jS hall
 have hll:(L.take i++(more++L.drop i)).length≤110:=by rw[List.length_append,List.length_append,List.length_take,List.length_drop]; omega
 have h1:(Str.ofString "\n").length=1:=by decide +kernel
 refine⟨_,SqL.of e4,by rw[h1]; omega,?_⟩
 exact q _ s4
end
def tq(H:Hp)(v:V):Prop:=(∃ y:Str,v = .str y∧y.length≤60000∧(∀ l∈fj y,l.length≤890)∧¬ ∃ T,PTx y T)∨∃ t,az H v=some t∧j9 t "str" = false
def px:Sp:=fun vs H Q _=>∃ v,vs=[v]∧tq H v∧∀ H',Same H H'→Q (.bl true) H'
def pG:Sp:=fun vs H Q _=>∃ (c:Int) (lp:Addr) (L:List Str) (T:List ak) (x y:Str),vs=[.int c,.ref lp,.str x,.str y]∧H lp=some (.lst (L.map V.str))∧1≤L.length∧L.length≤40∧c_ L=some T∧(∀ z∈L,Dr x y z)∧Wx x∧Wx y∧∀ v H',tq H' v→Same H H'→Q v H'
theorem mX{L':List Str}(hx:∀ z∈L',Nl z∧z.length≤400)(hn:L'.length≤120)(hL:L'≠[("" : Str)]) (h:¬ ∃ T,PTx (Txt.join "\n" L') T) (H:Hp):tq H (.str (Txt.join "\n" L')):=by
 refine .inl ⟨_,rfl,?_,fun l hl=>?_,h⟩
 ·cases L' with
  | nil=>decide +kernel
  | cons l ls=>
   have e:=oG "\n" l ls
   have h1:(Str.ofString "\n").length=1:=by decide +kernel
   have h2:=(hx l List.mem_cons_self).2
   have h3:=jS fun z hz=>(hx z (List.mem_cons_of_mem _ hz)).2
   rw[List.length_cons]at hn
   rw[h1]at e
   have h4:ls.length * 400≤119 * 400:=Nat.mul_le_mul_right _ (by omega)
   omega
 ·rw[fv (fun z hz=>(hx z hz).1) hL]at hl
  have:=(hx l hl).2
  omega
theorem Cm{L':List Str}(h:2≤L'.length):L'≠[("" : Str)]:=fun z=>by rw[z]at h; simp at h
section
variable{P:Program}{w:World}{K:PySem.W.Frag}{mg:Str→Option Value}{base:Heap}{C_NoText C_UseError C_NoRule C_NoFit C_TooGreat C_Breach:Addr}
theorem uF(D:DefAt K mg "_law_refused" aR) (z_isinstance:mg "isinstance" = none) (z_ValueError:mg "ValueError" = none) (x_NoText:eU K mg "NoText" C_NoText) (x_NoRule:eU K mg "NoRule" C_NoRule) (x_NoFit:eU K mg "NoFit" C_NoFit) (x_TooGreat:eU K mg "TooGreat" C_TooGreat) (x_UseError:eU K mg "UseError" C_UseError) (x_Breach:zy mg "Breach" C_Breach)
  (k1:PySem.W.kitOne K (.ref C_NoText) (.ref C_UseError)=some true) (k2:PySem.W.kitOne K (.ref C_NoText) (.type "ValueError")=some true) (k3:PySem.W.kitOne K (.ref C_NoText) (.ref C_NoRule)=some false) (k4:PySem.W.kitOne K (.ref C_NoText) (.ref C_NoFit)=some false) (k5:PySem.W.kitOne K (.ref C_NoText) (.ref C_TooGreat)=some false) (k6:PySem.W.kitOne K (.ref C_NoText) (.ref C_Breach)=some false)
  (x_read_program:CalX P w K mg base 129 "read_program" ["text"] (tU C_NoText)):bf P w K mg base 130 "_law_refused" ["_law_thing"] px:=by
 refine D.cal (k:=129) sc_law_refused (fun _ _ _ _ _ _ us hl=>match us,hl with | [_],_=>rfl) (fun vs H Q E h=>by obtain⟨_,rfl,_⟩:=h; rfl) (fun f cdv A outer sh H vs Q E hr h=>?_)
 obtain⟨v,rfl,hv,q⟩:=h
 refine⟨_,(af (aw 1 sc_law_refused.nd ik (hx:=B1))
   (af (Ah 2 x_NoText sc_law_refused.nd (fun Ee=>(zJ (Af (AA x_read_program hr (aa (pv 0 (hv:=D_)) ac) (hg:=E5))))) (fun a=>(af (aw 1 sc_law_refused.nd (aT (aa (aL (gD K) z_isinstance bh (aa (pv 2 (hv:=oE)) (aa (jV x_UseError.m (hg:=EH)) ac)) (hg:=oF)) (aa (aL (gD K) z_isinstance bh (aa (pv 2 (hv:=oE)) (aa (dy z_ValueError pN (hg:=Fh)) ac)) (hg:=oF)) ac))) (hx:=B1))
   (al (aw 3 sc_law_refused.nd (aT (aa (aL (gD K) z_isinstance bh (aa (pv 2 (hv:=oE)) (aa (jV x_NoRule.m (hg:=Fs)) ac)) (hg:=oF)) (aa (aL (gD K) z_isinstance bh (aa (pv 2 (hv:=oE)) (aa (jV x_NoFit.m (hg:=D5)) ac)) (hg:=oF)) (aa (aL (gD K) z_isinstance bh (aa (pv 2 (hv:=oE)) (aa (jV x_TooGreat.m (hg:=E2)) ac)) (hg:=oF)) (aa (aL (gD K) z_isinstance bh (aa (pv 2 (hv:=oE)) (aa (jV x_Breach.m (hg:=ES)) ac)) (hg:=oF)) ac))))) (hx:=Ez))))) FK (hg:=EN))
   (al (ax (fh (cj (me K hr) (pv 1 (hv:=Ey)) (aT (aa dI (aa dI ac))) (aG _)) (jr (cj (me K hr) (pv 3 (hv:=ED)) (am lf (aT (aa dI ac)) aj) (aG _)))))))),?_⟩
 walk_at "rd1"
 walk_at "nx"
 rw[zG]
 walk_at "rd1"
 rcases hv with ⟨y,rfl,hyl,hyx,hno⟩ | ht
 ·refine⟨_,rfl,.inl ⟨y,rfl,hyl,hyx,fun T p H1 hT=>absurd ⟨T,hT⟩ hno,fun HX _ sHX=>?_⟩⟩
  refine⟨rfl,fun a ha0=>?_⟩
  have ha:upd HX a (jJ a (.ref C_NoText)) a=some (jJ a (.ref C_NoText)):=ai
  have sX:Same H (upd HX a (jJ a (.ref C_NoText))):=fun b o z=>by
   have z':=sHX _ _ z
   rw[aA (aZ z' ha0)]
   exact z'
  generalize upd HX a (jJ a (.ref C_NoText))=H2 at ha sX ⊢
  refine dQ ha x_NoText.c k1 (dQ ha x_NoText.c k2 ⟨by decide,fun p1 hp1=>?_⟩)
  generalize hH3:upd H2 p1 _=H3
  have s3:=av hH3 hp1
  have e3:=aJ hH3
  clear hH3
  have ha3:=s3 _ _ ha
  walk_at "nx"
  refine dQ ha3 x_NoText.c k3 (dQ ha3 x_NoText.c k4 (dQ ha3 x_NoText.c k5 (dQ ha3 x_NoText.c k6 ⟨by decide,fun p2 hp2=>?_⟩)))
  generalize hH4:upd H3 p2 _=H4
  have s4:=av hH4 hp2
  have e4:=aJ hH4
  clear hH4
  have sm4:=(sX.trans s3).trans s4
  walk_at "nx"
  refine⟨by decide,fun p5 hp5=>?_⟩
  generalize hH5:upd H4 p5 _=H5
  have s5:=av hH5 hp5
  have e5:=aJ hH5
  clear hH5
  refine⟨0,true,by decide,EqN.seqFlat (.inl ⟨SqL.of (s5 _ _ (s4 _ _ e3)),SqL.of e5⟩) (by simp[bP]),aB (fun _=>?_) (fun c=>absurd rfl c)⟩
  refine⟨by decide,fun p6 hp6=>⟨p6,4,_,rfl,rfl,ai,by decide,by decide,by decide,fun p7 hp7=>?_⟩⟩
  have s7:=(au hp6 (.lst [V.bl false])).trans (au hp7 (.lst (List.replicate (Int.toNat 4) [V.bl false]).flatten))
  have e7:upd (upd H5 p6 (.lst [V.bl false])) p7 (.lst (List.replicate (Int.toNat 4) [V.bl false]).flatten) p7=some (.lst [V.bl false,V.bl false,V.bl false,V.bl false]):=by rw[ai]; rfl
  generalize upd (upd H5 p6 (.lst [V.bl false])) p7 (.lst (List.replicate (Int.toNat 4) [V.bl false]).flatten)=H7 at s7 e7 ⊢
  refine⟨p2,p7,0,true,rfl,rfl,by decide,EqN.seqFlat (.inl ⟨SqL.of (s7 _ _ (s5 _ _ e4)),SqL.of e7⟩) (by simp[bP]),?_⟩
  exact q H7 ((sm4.trans s5).trans s7)
 ·refine⟨_,rfl,.inr ⟨ht,?_⟩⟩
  have sHX:Same H H:=Same.refl H
  refine⟨rfl,fun a ha0=>?_⟩
  have ha:upd H a (jJ a (.ref C_NoText)) a=some (jJ a (.ref C_NoText)):=ai
  have sX:Same H (upd H a (jJ a (.ref C_NoText))):=fun b o z=>by
   have z':=sHX _ _ z
   rw[aA (aZ z' ha0)]
   exact z'
  generalize upd H a (jJ a (.ref C_NoText))=H2 at ha sX ⊢
  refine dQ ha x_NoText.c k1 (dQ ha x_NoText.c k2 ⟨by decide,fun p1 hp1=>?_⟩)
  generalize hH3:upd H2 p1 _=H3
  have s3:=av hH3 hp1
  have e3:=aJ hH3
  clear hH3
  have ha3:=s3 _ _ ha
  walk_at "nx"
  refine dQ ha3 x_NoText.c k3 (dQ ha3 x_NoText.c k4 (dQ ha3 x_NoText.c k5 (dQ ha3 x_NoText.c k6 ⟨by decide,fun p2 hp2=>?_⟩)))
  generalize hH4:upd H3 p2 _=H4
  have s4:=av hH4 hp2
  have e4:=aJ hH4
  clear hH4
  have sm4:=(sX.trans s3).trans s4
  walk_at "nx"
  refine⟨by decide,fun p5 hp5=>?_⟩
  generalize hH5:upd H4 p5 _=H5
  have s5:=av hH5 hp5
  have e5:=aJ hH5
  clear hH5
  refine⟨0,true,by decide,EqN.seqFlat (.inl ⟨SqL.of (s5 _ _ (s4 _ _ e3)),SqL.of e5⟩) (by simp[bP]),aB (fun _=>?_) (fun c=>absurd rfl c)⟩
  refine⟨by decide,fun p6 hp6=>⟨p6,4,_,rfl,rfl,ai,by decide,by decide,by decide,fun p7 hp7=>?_⟩⟩
  have s7:=(au hp6 (.lst [V.bl false])).trans (au hp7 (.lst (List.replicate (Int.toNat 4) [V.bl false]).flatten))
  have e7:upd (upd H5 p6 (.lst [V.bl false])) p7 (.lst (List.replicate (Int.toNat 4) [V.bl false]).flatten) p7=some (.lst [V.bl false,V.bl false,V.bl false,V.bl false]):=by rw[ai]; rfl
  generalize upd (upd H5 p6 (.lst [V.bl false])) p7 (.lst (List.replicate (Int.toNat 4) [V.bl false]).flatten)=H7 at s7 e7 ⊢
  refine⟨p2,p7,0,true,rfl,rfl,by decide,EqN.seqFlat (.inl ⟨SqL.of (s7 _ _ (s5 _ _ e4)),SqL.of e7⟩) (by simp[bP]),?_⟩
  exact q H7 ((sm4.trans s5).trans s7)
end
section
variable{P:Program}{w:World}{K:PySem.W.Frag}{mg:Str→Option Value}{base:Heap}
theorem uK(D:DefAt K mg "_law_spoiled" ay) (z_len:mg "len" = none) (c_law_blocks:bf P w K mg base 1 "_law_blocks" ["_law_lines_here"] wa) (c_law_put_in:bf P w K mg base 1 "_law_put_in" ["_law_lines_here", "_law_at", "_law_more"] tM) (c_law_odd_line:bf P w K mg base 1 "_law_odd_line" ["_law_cell", "_law_x", "_law_y"] v8) (c_law_odd_bound:bf P w K mg base 1 "_law_odd_bound" ["_law_cell"] vX)
  (c_law_too_much:bf P w K mg base 1 "_law_too_much" ["_law_cell", "_law_x"] vW) (c_law_line_spoiled:bf P w K mg base 1 "_law_line_spoiled" ["_law_way", "_law_cell", "_law_line"] qQ):bf P w K mg base 2 "_law_spoiled" ["_law_cell", "_law_lines_here", "_law_x", "_law_y"] pG:=by
 refine D.cal (k:=1) sc_law_spoiled (fun _ _ _ _ _ _ us hl=>match us,hl with | [_,_,_,_],_=>rfl) (fun vs H Q E h=>by obtain⟨_,_,_,_,_,_,rfl,_⟩:=h; rfl) (fun f cdv A outer sh H vs Q E hr h=>?_)
 obtain⟨c,lp,L,T,x,y,rfl,hlp,n1,n40,hd,hdr,hx,hy,q⟩:=h
 refine⟨_,(af (aw 4 sc_law_spoiled.nd (am cK (pv 0 (hv:=uk)) aj) (hx:=EU))
   (af (aw 5 sc_law_spoiled.nd (am cK (am fL (pv 0 (hv:=uk)) aj) (am ap (aL (aW K) z_len bM (aa (pv 1 (hv:=er)) ac) (hg:=qG)) aj)) (hx:=Ft))
   (af (aw 6 sc_law_spoiled.nd (am cK (am fL (pv 0 (hv:=uk)) aj) (aL (aW K) z_len bM (aa (pv 1 (hv:=er)) ac) (hg:=qG))) (hx:=AL))
   (af (aw 7 sc_law_spoiled.nd (am fL (am fL (pv 0 (hv:=uk)) aj) (am ap (aL (aW K) z_len bM (aa (pv 1 (hv:=er)) ac) (hg:=qG)) aj)) (hx:=EK))
   (af (aw 8 sc_law_spoiled.nd (aE c_law_blocks hr (aa (pv 1 (hv:=er)) ac) (hg:=Fb)) (hx:=D8))
   (af (bq (PW.pt' (fk (aH cm (pv 4 (hv:=kU)) aj (aG _)) (fS (aH (sv K hr) (pv 8 (hv:=xF)) (aT ac) (aG _))))) (af (aw 6 sc_law_spoiled.nd (bd (bG K) (pv 8 (hv:=xF)) (am cK (pv 7 (hv:=lJ)) (aL (aW K) z_len bM (aa (pv 8 (hv:=xF)) ac) (hg:=qG))) (fun _ _=>rfl)) (hx:=AL))
   (al (ax (bL K PySem.F.plainAttrs_str PySem.F.slot_str_join PySem.F.type_str_join (fD K) ah (aa (am ap (b4 (fC K) (pv 1 (hv:=er)) ci (b6 (pv 6 (hv:=mT)))) (b4 (fC K) (pv 1 (hv:=er)) (b6 (am ap (pv 6 (hv:=mT)) aj)) ci)) ac))))) aP)
   (af (bq (aH ig (pv 4 (hv:=kU)) aj (aG _)) (al (ax (aE c_law_put_in hr (aa (pv 1 (hv:=er)) (aa (pv 5 (hv:=rz)) (aa (aT (aa (bd (bG K) (aT (aa ah (aa ah (aa ah (aa ah ac))))) (am cK (pv 7 (hv:=lJ)) aj) (fun _ _=>rfl)) ac)) ac))) (hg:=qh)))) aP)
   (af (bq (aH cm (pv 4 (hv:=kU)) aj (aG _)) (al (ax (aE c_law_put_in hr (aa (pv 1 (hv:=er)) (aa (pv 5 (hv:=rz)) (aa (aT (aa (aE c_law_odd_line hr (aa (pv 7 (hv:=lJ)) (aa (pv 2 (hv:=rL)) (aa (pv 3 (hv:=Ec)) ac))) (hg:=EF)) ac)) ac))) (hg:=qh)))) aP)
   (af (bq (aH cm (pv 4 (hv:=kU)) aj (aG _)) (al (ax (aE c_law_put_in hr (aa (pv 1 (hv:=er)) (aa (pv 5 (hv:=rz)) (aa (aT (aa ah ac)) ac))) (hg:=qh)))) aP)
   (af (bq (aH cm (pv 4 (hv:=kU)) aj (aG _)) (al (ax (bd (bG K) (aT (aa ik (aa aj (aa dI (aa (aT (aa (am ap ah (pv 2 (hv:=rL))) ac)) (aa (dM (aa ah (aa (pv 2 (hv:=rL)) ac))) (aa rC (aa (aT (aa (dM (aa ah (aa (pv 2 (hv:=rL)) ac))) ac)) ac)))))))) (am cK (pv 7 (hv:=lJ)) aj) (fun _ _=>rfl)))) aP)
   (af (bq (aH cm (pv 4 (hv:=kU)) aj (aG _)) (al (ax (aE c_law_put_in hr (aa (pv 1 (hv:=er)) (aa (pv 5 (hv:=rz)) (aa (aE c_law_too_much hr (aa (pv 7 (hv:=lJ)) (aa (pv 2 (hv:=rL)) ac)) (hg:=EZ)) ac))) (hg:=qh)))) aP)
   (af (bq (aH cm (pv 4 (hv:=kU)) aj (aG _)) (af (aw 9 sc_law_spoiled.nd (aE c_law_odd_bound hr (aa (am fL (pv 7 (hv:=lJ)) aj) ac) (hg:=Fk)) (hx:=Fl))
   (al (ax (aE c_law_put_in hr (aa (pv 1 (hv:=er)) (aa (pv 5 (hv:=rz)) (aa (bd (bG K) (aT (aa (aT (aa (am ap ah (pv 9 (hv:=Cr))) (aa ah ac))) (aa (aT (aa (am ap ah (pv 9 (hv:=Cr))) (aa ah (aa ah ac)))) ac))) (am cK (pv 7 (hv:=lJ)) aj) (fun _ _=>rfl)) ac))) (hg:=qh))))) aP)
   (af (bq (aH cm (pv 4 (hv:=kU)) aj (aG _)) (al (aw 10 sc_law_spoiled.nd (am ap (am ap (bd (bG K) (pv 1 (hv:=er)) (pv 6 (hv:=mT)) (fun _ _=>rfl)) ah) (bd (bG K) (pv 1 (hv:=er)) (am cK (am ap (pv 6 (hv:=mT)) aj) (aL (aW K) z_len bM (aa (pv 1 (hv:=er)) ac) (hg:=qG))) (fun _ _=>rfl))) (hx:=A_))) (al (aw 10 sc_law_spoiled.nd (aE c_law_line_spoiled hr (aa (pv 4 (hv:=kU)) (aa (pv 7 (hv:=lJ)) (aa (bd (bG K) (pv 1 (hv:=er)) (pv 6 (hv:=mT)) (fun _ _=>rfl)) ac))) (hg:=Ef)) (hx:=A_))))
   (al (ax (bL K PySem.F.plainAttrs_str PySem.F.slot_str_join PySem.F.type_str_join (fD K) ah (aa (am ap (am ap (b4 (fC K) (pv 1 (hv:=er)) ci (b6 (pv 6 (hv:=mT)))) (aT (aa (pv 10 (hv:=Eg)) ac))) (b4 (fC K) (pv 1 (hv:=er)) (b6 (am ap (pv 6 (hv:=mT)) aj)) ci)) ac))))))))))))))))),?_⟩
 have hLn:∀ z∈L,Nl z∧z.length≤400:=fun z hz=>by
  obtain⟨ws,hw⟩:=nu hx hy (hdr z hz)
  exact⟨hw.ln.2,by have:=hw.ln.1; omega⟩
 have hL4:∀ z∈L,z.length≤400:=fun z hz=>(hLn z hz).2
 have lx:=bU hx.w
 have hnI:(0:Int)<(L.length:Int):=by omega
 obtain⟨i,hi,hiL⟩ : ∃ i:Nat,c / 13 % ((L.length:Int)+1)=(i:Int)∧i≤L.length:=⟨(c / 13 % ((L.length:Int)+1)).toNat,by have:=Int.emod_nonneg (c / 13) (show ((L.length:Int)+1)≠0 by omega); omega,by have:=Int.emod_lt_of_pos (c / 13) (show 0<((L.length:Int)+1) by omega); have:=Int.emod_nonneg (c / 13) (show ((L.length:Int)+1)≠0 by omega); omega⟩
 obtain⟨k,hk,hkL⟩ : ∃ k:Nat,c / 13 % (L.length:Int)=(k:Int)∧k<L.length:=⟨(c / 13 % (L.length:Int)).toNat,by have:=Int.emod_nonneg (c / 13) (show (L.length:Int)≠0 by omega); omega,by have:=Int.emod_lt_of_pos (c / 13) hnI; have:=Int.emod_nonneg (c / 13) (show (L.length:Int)≠0 by omega); omega⟩
 have ends4:∀ u∈(["else", "fi", "done", "back"]:List Str),hd1 u∈heads7∧Nl u∧u.length≤400:=fun u hu=>by
  have h:∀ u∈(["else", "fi", "done", "back"]:List Str),hd1 u∈heads7∧10∉u.cps.toList∧u.length≤400:=by decide +kernel
  exact h u hu
 have put:∀ {more:List Str} {H':Hp},(∀ z∈more,Nl z∧z.length≤400)→more.length≤70→1≤more.length→(c_ (L.take i++(more++L.drop i))=none∨jp (L.take i++(more++L.drop i))=false∨∃ z∈more,¬ fq z)→tq H' (.str (Txt.join "\n" (L.take i++(more++L.drop i)))):=fun {more H'} h1 h2 h3 h4=>by
  have hall:∀ z∈L.take i++(more++L.drop i),Nl z∧z.length≤400:=fun z hz=>by
   rcases List.mem_append.mp hz with h | h
   ·exact hLn z (List.mem_of_mem_take h)
   rcases List.mem_append.mp h with h | h
   ·exact h1 z h
   ·exact hLn z (List.mem_of_mem_drop h)
  have hlen:(L.take i++(more++L.drop i)).length=L.length+more.length:=by rw[List.length_append,List.length_append,List.length_take,List.length_drop]; omega
  have hne:=Cm (L':=L.take i++(more++L.drop i)) (by omega)
  refine mX hall (by omega) hne ?_ H'
  rcases h4 with h4 | h4 | ⟨z,hz,h4⟩
  ·exact sw (fun z hz=>(hall z hz).1) hne h4
  ·exact Bz (fun z hz=>(hall z hz).1) hne h4
  ·exact qc (fun z hz=>(hall z hz).1) hne (List.mem_append_right _ (List.mem_append_left _ hz)) h4
 have rep:∀ {u:Str} {H':Hp},gm u→1≤u.length→tq H' (.str (Txt.join "\n" (L.take k++([u]++L.drop (k+1))))):=fun {u H'} hu hu1=>by
  have hall:∀ z∈L.take k++([u]++L.drop (k+1)),Nl z∧z.length≤400:=fun z hz=>by
   rcases List.mem_append.mp hz with h | h
   ·exact hLn z (List.mem_of_mem_take h)
   rcases List.mem_append.mp h with h | h
   ·rw[List.mem_singleton.mp h]; exact⟨hu.nl,hu.ln⟩
   ·exact hLn z (List.mem_of_mem_drop h)
  have hlen:(L.take k++([u]++L.drop (k+1))).length=L.length:=by rw[List.length_append,List.length_append,List.length_take,List.length_drop,List.length_singleton]; omega
  by_cases hne:L.take k++([u]++L.drop (k+1))=[("" : Str)]
  ·have hm:u∈L.take k++([u]++L.drop (k+1)):=List.mem_append_right _ (List.mem_append_left _ List.mem_cons_self)
   rw[hne]at hm
   rw[List.mem_singleton.mp hm]at hu1
   exact absurd hu1 (by decide +kernel)
  ·refine mX hall (by omega) hne ?_ H'
   exact qc (fun z hz=>(hall z hz).1) hne (List.mem_append_right _ (List.mem_append_left _ List.mem_cons_self)) hu.no
 walk_at "rd1"
 refine⟨by decide,?_⟩
 walk_at "nx"
 refine⟨⟨by decide,by decide⟩,_,.inl (SqL.of hlp),by rw[List.length_map]; omega,?_⟩
 rw[List.length_map,hi]
 walk_at "nx"
 refine⟨⟨by decide,by decide⟩,_,.inl (SqL.of hlp),by rw[List.length_map]; omega,?_⟩
 rw[List.length_map,hk]
 walk_at "nx"
 refine⟨⟨by decide,by decide⟩,_,.inl (SqL.of hlp),⟨by rw[List.length_map]; omega,by rw[List.length_map]; omega⟩,?_⟩
 rw[List.length_map]
 generalize c / 13 / ((L.length:Int)+1)=m
 walk_at "nx"
 refine⟨lp,L,rfl,hlp,n40,hL4,fun bl ks H1 s1 hbl hkn hks=>?_⟩
 have hlp1:=s1 _ _ hlp
 dsimp only
 have hzk:=List.getElem?_eq_getElem hkL
 have hzm:=List.getElem_mem hkL
 have fin:∀ (u:Str) (Ha:Hp),gm u→1≤u.length→Same H Ha→ir
   (lB
    (nv K "str" (qa K) (tC (V.str (Str.ofString "\n")))
     (bQ
      (b7 cv
       (b7 cv (rJ (qP K) (bu 1) eP (jF (bu 6))) (gE (bQ (bu 10) cV)))
       (rJ (qP K) (bu 1) (jF (b7 cv (bu 6) (tC (V.int 1)))) eP))
      cV)))
   { nx:=fun x H'=>Q V.non H',rt:=Q }
   [some (V.int c),some (V.ref lp),some (V.str x),some (V.str y),some (V.int (c % 13)),some (V.int (i:Int)),some (V.int (k:Int)),some (V.int m),some (V.ref bl),none,some (V.str u)] Ha:=fun u Ha hu hu1 sHa=>by
  have hla:=sHa _ _ hlp
  walk_at "nx"
  refine⟨_,SqL.of hla,fun q1 hq1=>?_⟩
  rw[gS,rB L k (by omega)]
  generalize hHb:upd Ha q1 _=Hb
  have sb:=av hHb hq1
  have eb:=aJ hHb
  clear hHb
  refine⟨by decide,fun q2 hq2=>?_⟩
  generalize hHc:upd Hb q2 _=Hc
  have sc:=av hHc hq2
  have ec:Hc q2=some (.lst ([u].map V.str)):=aJ hHc
  clear hHc
  refine⟨_,_,sc _ _ eb,ec,ao (by rw[List.length_map,List.length_map,List.length_take,List.length_singleton]; omega),fun q3 hq3=>?_⟩
  generalize hHd:upd Hc q3 _=Hd
  have sd:=av hHd hq3
  have ed:=aJ hHd
  clear hHd
  have sad:=(sb.trans sc).trans sd
  refine⟨_,SqL.of (sad _ _ hla),fun q4 hq4=>?_⟩
  have ecu:jh L (some ((k:Int)+1)) none=L.drop (k+1):=m_ L (k+1) (by omega)
  rw[gS,ecu]
  generalize hHe:upd Hd q4 _=He
  have se:=av hHe hq4
  have ee:=aJ hHe
  clear hHe
  refine⟨_,_,se _ _ ed,ee,ao (by rw[List.length_append,List.length_map,List.length_map,List.length_map,List.length_take,List.length_singleton,List.length_drop]; omega),fun q5 hq5=>?_⟩
  generalize hHf:upd He q5 _=Hf
  have sf:=av hHf hq5
  have ef:Hf q5=some (.lst ((L.take k++([u]++L.drop (k+1))).map V.str)):=by rw[aJ hHf,List.map_append,List.map_append,List.append_assoc]
  clear hHf
  have hall:∀ z∈L.take k++([u]++L.drop (k+1)),z.length≤400:=fun z hz=>by
   rcases List.mem_append.mp hz with h | h
   ·exact hL4 z (List.mem_of_mem_take h)
   rcases List.mem_append.mp h with h | h
   ·rw[List.mem_singleton.mp h]; exact hu.ln
   ·exact hL4 z (List.mem_of_mem_drop h)
  have hsum:=jS hall
  have hln:(L.take k++([u]++L.drop (k+1))).length≤41:=by rw[List.length_append,List.length_append,List.length_take,List.length_drop,List.length_singleton]; omega
  have h41:(L.take k++([u]++L.drop (k+1))).length * 400≤41 * 400:=Nat.mul_le_mul_right _ hln
  have h1:(Str.ofString "\n").length=1:=by decide +kernel
  refine⟨_,SqL.of ef,by rw[h1]; omega,?_⟩
  exact q _ _ (rep hu hu1) (((sHa.trans sad).trans se).trans sf)
 walk_at "nx"
 by_cases hw0:c % 13=0
 ·refine aB (fun _=>?_) (fun c=>absurd hw0 c)
  refine⟨by decide,fun np hnp=>?_⟩
  generalize hH2:upd H1 np _=H2
  have s2:=av hH2 hnp
  have e2:H2 np=some (.lst (([]:List Int).map V.int)):=aJ hH2
  clear hH2
  have sm2:=s1.trans s2
  have hbl2:=s2 _ _ hbl
  have hlp2:=s2 _ _ hlp1
  refine⟨0,_,by decide,EqN.ints (SqL.of hbl2) (SqL.of e2),?_⟩
  by_cases hk0:ks=[]
  ·rw[decide_eq_true hk0]
   refine aB (fun c=>absurd c (by decide)) (fun _=>?_)
   walk_at "nx"
   refine aB (fun _=>?_) (fun c=>absurd (by omega) c)
   refine⟨by decide,fun p hp=>?_⟩
   generalize hHa:upd H2 p _=Ha
   have sa:=av hHa hp
   have ea:Ha p=some (.lst ((["else", "fi", "done", "back"]:List Str).map V.str)):=aJ hHa
   clear hHa
   obtain⟨u,hu,hat⟩:=kc (ns:=["else", "fi", "done", "back"]) (by decide) m
   refine⟨by decide,_,_,.inl (SqL.of ea),hat,by decide,fun p2 hp2=>?_⟩
   generalize hHb:upd Ha p2 _=Hb
   have sb:=av hHb hp2
   have eb:Hb p2=some (.lst ([u].map V.str)):=aJ hHb
   clear hHb
   have hue:=ends4 u hu
   exact⟨lp,p2,L,[u],i,rfl,sb _ _ (sa _ _ hlp2),eb,n40,by simp,hiL,hL4,fun z hz=>by rw[List.mem_singleton.mp hz]; exact(hue.2.2),fun H' s'=>q _ _ (put (fun z hz=>by rw[List.mem_singleton.mp hz]; exact hue.2) (by simp) (by simp) (.inl (v_ (A:=L.take i) (B:=L.drop i) (by rw[List.take_append_drop]; exact hd) hue.1))) (((sm2.trans sa).trans sb).trans s')⟩
  ·rw[decide_eq_false hk0]
   refine aB (fun _=>?_) (fun c=>absurd rfl c)
   have hkp:=List.length_pos_iff.mpr hk0
   have m0:0≤m % (ks.length:Int):=Int.emod_nonneg _ (by omega)
   have m1:m % (ks.length:Int)<ks.length:=Int.emod_lt_of_pos _ (by omega)
   have hlt:(m % (ks.length:Int)).toNat<ks.length:=by omega
   obtain⟨k2,z,hkk,hz,hh⟩:=hks _ (List.getElem_mem hlt)
   have hat:gf (ks.map V.int) (m % (ks.length:Int))=some (.int (k2:Int)):=by
    have h:=List.getElem?_eq_getElem hlt
    rw[hkk]at h
    have e:gf (ks.map V.int) (((m % (ks.length:Int)).toNat:Nat):Int)=some (.int (k2:Int)):=bn (by rw[List.getElem?_map,h]; rfl)
    rw[show (((m % (ks.length:Int)).toNat:Nat):Int)=m % (ks.length:Int) by omega]at e
    exact e
   have hk2:k2<L.length:=(List.getElem?_eq_some_iff.mp hz).1
   have hsp:L=L.take k2++z::L.drop (k2+1):=by
    rw[List.getElem?_eq_getElem hk2]at hz
    cases hz
    rw[← List.drop_eq_getElem_cons hk2,List.take_append_drop]
   have hall:∀ u∈L.take k2++L.drop (k2+1),u∈L:=fun u hu=>(List.mem_append.mp hu).elim List.mem_of_mem_take List.mem_of_mem_drop
   have hno:c_ (L.take k2++L.drop (k2+1))=none:=sx (z:=z) (by rw[← hsp]; exact hd) hh
   have hne:L.take k2++L.drop (k2+1)≠[("" : Str)]:=fun e=>by
    obtain⟨d,h1,_⟩:=kH (oa hd "" (hall "" (by rw[e]; exact List.mem_cons_self)))
    exact absurd h1 (by rw[show (Str.ofString "").cps.toList=[] by decide +kernel]; simp)
   have hlen2:(L.take k2++L.drop (k2+1)).length≤40:=by rw[List.length_append,List.length_take,List.length_drop]; omega
   have hbad:∀ H',tq H' (.str (Txt.join "\n" (L.take k2++L.drop (k2+1)))):=mX (fun u hu=>hLn u (hall u hu)) (by omega) hne (sw (fun u hu=>(hLn u (hall u hu)).1) hne hno)
   refine⟨_,.inl (SqL.of hbl2),by rw[List.length_map]; omega,_,_,.inl (SqL.of hbl2),by rw[List.length_map]; exact hat,?_⟩
   walk_at "nx"
   refine⟨_,SqL.of hlp2,fun q1 hq1=>?_⟩
   rw[gS,rB L k2 (by omega)]
   generalize hHa:upd H2 q1 _=Ha
   have sa:=av hHa hq1
   have ea:=aJ hHa
   clear hHa
   refine⟨_,SqL.of (sa _ _ hlp2),fun q2 hq2=>?_⟩
   have ec:jh L (some ((k2:Int)+1)) none=L.drop (k2+1):=m_ L (k2+1) (by omega)
   rw[gS,ec]
   generalize hHb:upd Ha q2 _=Hb
   have sb:=av hHb hq2
   have eb:=aJ hHb
   clear hHb
   refine⟨_,_,sb _ _ ea,eb,ao (by rw[List.length_map,List.length_map,List.length_take,List.length_drop]; omega),fun q3 hq3=>?_⟩
   generalize hHc:upd Hb q3 _=Hc
   have sc:=av hHc hq3
   have ecc:Hc q3=some (.lst ((L.take k2++L.drop (k2+1)).map V.str)):=by rw[aJ hHc,List.map_append]
   clear hHc
   have hsum:=jS fun u hu=>hL4 u (hall u hu)
   have h1:(Str.ofString "\n").length=1:=by decide +kernel
   have h40:(L.take k2++L.drop (k2+1)).length * 400≤40 * 400:=Nat.mul_le_mul_right _ hlen2
   refine⟨_,SqL.of ecc,by rw[h1]; omega,?_⟩
   exact q _ _ (hbad Hc) (((sm2.trans sa).trans sb).trans sc)
 refine aB (fun c=>absurd c hw0) (fun _=>?_)
 walk_at "nx"
 refine aB (fun _=>?_) (fun hw2=>?_)
 ·skip
  refine⟨by decide,fun p hp=>?_⟩
  generalize hHa:upd H1 p _=Ha
  have sa:=av hHa hp
  have ea:Ha p=some (.lst ((["else", "fi", "done", "back"]:List Str).map V.str)):=aJ hHa
  clear hHa
  obtain⟨u,hu,hat⟩:=kc (ns:=["else", "fi", "done", "back"]) (by decide) m
  refine⟨by decide,_,_,.inl (SqL.of ea),hat,by decide,fun p2 hp2=>?_⟩
  generalize hHb:upd Ha p2 _=Hb
  have sb:=av hHb hp2
  have eb:Hb p2=some (.lst ([u].map V.str)):=aJ hHb
  clear hHb
  have hue:=ends4 u hu
  exact⟨lp,p2,L,[u],i,rfl,sb _ _ (sa _ _ hlp1),eb,n40,by simp,hiL,hL4,fun z hz=>by rw[List.mem_singleton.mp hz]; exact(hue.2.2),fun H' s'=>q _ _ (put (fun z hz=>by rw[List.mem_singleton.mp hz]; exact hue.2) (by simp) (by simp) (.inl (v_ (A:=L.take i) (B:=L.drop i) (by rw[List.take_append_drop]; exact hd) hue.1))) (((s1.trans sa).trans sb).trans s')⟩
 walk_at "nx"
 refine aB (fun _=>?_) (fun hw2=>?_)
 ·refine⟨m,x,y,rfl,hx,hy,fun u Ha hu sa=>⟨by decide,fun p hp=>?_⟩⟩
  exact⟨lp,p,L,[u],i,rfl,by rw[aA (aZ (sa _ _ hlp1) hp)]; exact sa _ _ hlp1,ai,n40,by simp,hiL,hL4,fun z hz=>by rw[List.mem_singleton.mp hz]; exact hu.ln,fun H' s'=>q _ _ (put (fun z hz=>by rw[List.mem_singleton.mp hz]; exact⟨hu.nl,hu.ln⟩) (by simp) (by simp) (.inr (.inr ⟨u,List.mem_cons_self,hu.no⟩))) (((s1.trans sa).trans (au hp _)).trans s')⟩
 walk_at "nx"
 refine aB (fun _=>?_) (fun hw6=>?_)
 ·refine⟨by decide,fun p hp=>?_⟩
  have hu:gm (Str.ofString ""):=b8 (by decide +kernel)
  exact⟨lp,p,L,[Str.ofString ""],i,rfl,by rw[aA (aZ hlp1 hp)]; exact hlp1,ai,n40,by simp,hiL,hL4,fun z hz=>by rw[List.mem_singleton.mp hz]; exact hu.ln,fun H' s'=>q _ _ (put (fun z hz=>by rw[List.mem_singleton.mp hz]; exact⟨hu.nl,hu.ln⟩) (by simp) (by simp) (.inr (.inr ⟨_,List.mem_cons_self,hu.no⟩))) ((s1.trans (au hp _)).trans s')⟩
 walk_at "nx"
 refine aB (fun _=>?_) (fun hw8=>?_)
 ·refine⟨ao (by rw[(by decide +kernel:(Str.ofString "open ").length=5)]; omega),by decide,fun p hp=>?_⟩
  generalize hHa:upd H1 p _=Ha
  have sa:=av hHa hp
  have ea:=aJ hHa
  clear hHa
  refine⟨by decide,fun p2 hp2=>?_⟩
  generalize hHb:upd Ha p2 _=Hb
  have sb:=av hHb hp2
  have eb:=aJ hHb
  clear hHb
  intro p3 hp3
  generalize hHc:upd Hb p3 _=Hc
  have sc:=av hHc hp3
  have ec:=aJ hHc
  clear hHc
  refine⟨by decide,fun p4 hp4=>?_⟩
  generalize hHd:upd Hc p4 _=Hd
  have sd:=av hHd hp4
  have ed:=aJ hHd
  clear hHd
  refine⟨by decide,fun p5 hp5=>?_⟩
  generalize hHe:upd Hd p5 _=He
  have se:=av hHe hp5
  have ee:=aJ hHe
  clear hHe
  refine⟨by decide,fun p6 hp6=>?_⟩
  generalize hHf:upd He p6 _=Hf
  have sf:=av hHf hp6
  have ef:=aJ hHf
  clear hHf
  have sall:Same H Hf:=((((((s1.trans sa).trans sb).trans sc).trans sd).trans se).trans sf)
  have ea':=sf _ _ (se _ _ (sd _ _ (sc _ _ (sb _ _ ea))))
  have eb':=sf _ _ (se _ _ (sd _ _ (sc _ _ eb)))
  have ec':=sf _ _ (se _ _ (sd _ _ ec))
  have ee':=sf _ _ ee
  have m0:0≤m % 7:=Int.emod_nonneg _ (by decide)
  have m1:m % 7<7:=Int.emod_lt_of_pos _ (by decide)
  have m7:m % 7=0∨m % 7=1∨m % 7=2∨m % 7=3∨m % 7=4∨m % 7=5∨m % 7=6:=by omega
  refine⟨by decide,?_⟩
  rcases m7 with e | e | e | e | e | e | e
  ·exact⟨_,.non,.inl (SqL.of ef),by rw[e]; exact eD,q _ _ (.inr ⟨_,rfl,by decide⟩) sall⟩
  ·exact⟨_,.int 0,.inl (SqL.of ef),by rw[e]; exact bn (j:=1) rfl,q _ _ (.inr ⟨_,rfl,by decide⟩) sall⟩
  ·exact⟨_,.bl true,.inl (SqL.of ef),by rw[e]; exact bn (j:=2) rfl,q _ _ (.inr ⟨_,rfl,by decide⟩) sall⟩
  ·exact⟨_,.ref p,.inl (SqL.of ef),by rw[e]; exact bn (j:=3) rfl,q _ _ (.inr ⟨"list", by simp[az,ea'],by decide⟩) sall⟩
  ·exact⟨_,.ref p2,.inl (SqL.of ef),by rw[e]; exact bn (j:=4) rfl,q _ _ (.inr ⟨"tuple", by simp[az,eb'],by decide⟩) sall⟩
  ·exact⟨_,.ref p3,.inl (SqL.of ef),by rw[e]; exact bn (j:=5) rfl,q _ _ (.inr ⟨"dict", by simp[az,ec'],by decide⟩) sall⟩
  ·exact⟨_,.ref p5,.inl (SqL.of ef),by rw[e]; exact bn (j:=6) rfl,q _ _ (.inr ⟨"list", by simp[az,ee'],by decide⟩) sall⟩
 walk_at "nx"
 refine aB (fun _=>?_) (fun hw9=>?_)
 ·refine⟨m,x,rfl,hx,fun l more Ha sa hl tm hmn hm0=>?_⟩
  exact⟨lp,l,L,more,i,rfl,sa _ _ hlp1,hl,n40,hmn,hiL,hL4,fun z hz=>(tm.1 z hz).2,fun H' s'=>q _ _ (put tm.1 hmn (List.length_pos_iff.mpr hm0) ((tm.2 (L.take i) (L.drop i)).elim .inl fun h=>.inr (.inl h))) ((s1.trans sa).trans s')⟩
 walk_at "nx"
 refine aB (fun _=>?_) (fun hw10=>?_)
 ·refine⟨⟨by decide,by decide⟩,_,rfl,fun b Ha hb sa=>?_⟩
  obtain⟨b1,b2⟩:=ud b hb
  have o1:=b8 b1
  have o2:=b8 b2
  have l1:=o1.ln
  have l2:=o2.ln
  rw[Str.length_append]at l1 l2
  have hlpa:=sa _ _ hlp1
  walk_at "nx"
  refine⟨ao (by omega),by decide,fun q1 hq1=>?_⟩
  generalize hHb:upd Ha q1 _=Hb
  have sb:=av hHb hq1
  have eb:Hb q1=some (.lst ([Str.ofString "while " ++ b,Str.ofString "done"].map V.str)):=aJ hHb
  clear hHb
  refine⟨ao (by omega),by decide,fun q2 hq2=>?_⟩
  generalize hHc:upd Hb q2 _=Hc
  have sc:=av hHc hq2
  have ec:Hc q2=some (.lst ([Str.ofString "if " ++ b,Str.ofString "else", Str.ofString "fi"].map V.str)):=aJ hHc
  clear hHc
  refine⟨by decide,fun q3 hq3=>?_⟩
  generalize hHd:upd Hc q3 _=Hd
  have sd:=av hHd hq3
  have ed:=aJ hHd
  clear hHd
  have sad:=(sb.trans sc).trans sd
  have e4:∀ z∈(["else", "fi", "done", "back"]:List Str),Nl z∧z.length≤400:=fun z hz=>(ends4 z hz).2
  have w1:∀ z∈[Str.ofString "while " ++ b,Str.ofString "done"],Nl z∧z.length≤400:=fun z hz=>by
   simp only[List.mem_cons,List.not_mem_nil,or_false]at hz
   rcases hz with rfl | rfl
   ·exact⟨o1.nl,o1.ln⟩
   ·exact e4 _ (by simp)
  have w2:∀ z∈[Str.ofString "if " ++ b,Str.ofString "else", Str.ofString "fi"],Nl z∧z.length≤400:=fun z hz=>by
   simp only[List.mem_cons,List.not_mem_nil,or_false]at hz
   rcases hz with rfl | rfl | rfl
   ·exact⟨o2.nl,o2.ln⟩
   ·exact e4 _ (by simp)
   ·exact e4 _ (by simp)
  have m0:m % 2=0∨m % 2=1:=by omega
  refine⟨by decide,?_⟩
  rcases m0 with e | e
  ·refine⟨_,.ref q1,.inl (SqL.of ed),by rw[e]; exact eD,?_⟩
   exact⟨lp,q1,L,_,i,rfl,sad _ _ hlpa,sd _ _ (sc _ _ eb),n40,by simp,hiL,hL4,fun z hz=>(w1 z hz).2,fun H' s'=>q _ _ (put w1 (by simp) (by simp) (.inr (.inr ⟨_,List.mem_cons_self,o1.no⟩))) (((s1.trans sa).trans sad).trans s')⟩
  ·refine⟨_,.ref q2,.inl (SqL.of ed),by rw[e]; exact bn (j:=1) rfl,?_⟩
   exact⟨lp,q2,L,_,i,rfl,sad _ _ hlpa,sd _ _ ec,n40,by simp,hiL,hL4,fun z hz=>(w2 z hz).2,fun H' s'=>q _ _ (put w2 (by simp) (by simp) (.inr (.inr ⟨_,List.mem_cons_self,o2.no⟩))) (((s1.trans sa).trans sad).trans s')⟩
 walk_at "nx"
 obtain⟨ws,hws⟩:=nu hx hy (hdr _ hzm)
 have hasc:=Bp (oa hd _ hzm)
 have hln:=hws.ln
 generalize L[k]=z at hzk hws hasc hln
 have n1':(Str.ofString " ").length=1:=by decide +kernel
 refine aB (fun _=>?_) (fun hw11=>?_)
 ·have k0:0≤((k:Int)+1) % (L.length:Int):=Int.emod_nonneg _ (by omega)
  have k1:((k:Int)+1) % (L.length:Int)<L.length:=Int.emod_lt_of_pos _ (by omega)
  have hlt:(((k:Int)+1) % (L.length:Int)).toNat<L.length:=by omega
  have hz2:=List.getElem?_eq_getElem hlt
  obtain⟨ws2,hws2⟩:=nu hx hy (hdr _ (List.getElem_mem hlt))
  have hln2:=hws2.ln
  have hat:gf (L.map V.str) (((k:Int)+1) % (L.length:Int))=some (.str L[(((k:Int)+1) % (L.length:Int)).toNat]):=by
   have e:gf (L.map V.str) ((((((k:Int)+1) % (L.length:Int)).toNat):Nat):Int)=some (.str L[(((k:Int)+1) % (L.length:Int)).toNat]):=bn (by rw[List.getElem?_map,hz2]; rfl)
   rw[show ((((((k:Int)+1) % (L.length:Int)).toNat):Nat):Int)=((k:Int)+1) % (L.length:Int) by omega]at e
   exact e
  generalize L[(((k:Int)+1) % (L.length:Int)).toNat]=z2 at hws2 hln2 hat
  refine⟨_,.str z,.inl (SqL.of hlp1),bn (by rw[List.getElem?_map,hzk]; rfl),ao (by omega),_,.inl (SqL.of hlp1),by rw[List.length_map]; omega,_,.str z2,.inl (SqL.of hlp1),by rw[List.length_map]; exact hat,ao (by rw[Str.length_append]; omega),?_⟩
  exact fin _ H1 (BH hws hws2) (by rw[Str.length_append,Str.length_append]; omega) s1
 refine⟨_,.str z,.inl (SqL.of hlp1),bn (by rw[List.getElem?_map,hzk]; rfl),?_⟩
 exact⟨_,_,z,ws,rfl,hws,hasc,fun u Ha hu hu1 sa=>fin u Ha hu hu1 (s1.trans sa)⟩
end
theorem qb:∀ ws:List Str,(Txt.join "" ws).cps.toList=ws.flatMap (·.cps.toList)
 | []=>by decide +kernel
 | k::ws=>by
  have go:∀ (ws:List Str) (a:Str),(ws.foldl (fun a x=>a++Str.ofString "" ++ x) a).cps.toList=a.cps.toList++ws.flatMap (·.cps.toList):=fun ws=>by
   induction ws with
   | nil=>intro a; simp
   | cons x ws ih=>
    intro a
    rw[List.foldl_cons,ih,bA,bA,show (Str.ofString "").cps.toList=[] by decide +kernel,List.append_nil,List.flatMap_cons,List.append_assoc]
  rw[ie]
  exact go ws k
theorem rQ:∀ c,97≤c→c≤122→c∈letters.cps.toList:=fun c h1 h2=>by
 have h:∀ n:Nat,n<26→97+n∈letters.cps.toList:=by decide +kernel
 have:=h (c - 97) (by omega)
 rwa [show 97+(c - 97)=c by omega]at this
theorem yX{x:Str}(h1:1≤x.length)(h8:x.length≤8)(h:∀ c∈x.cps.toList,97≤c∧c≤122∧c≠112):Wx x:=by
 refine⟨?_,fun c hc=>(h c hc).2.2⟩
 unfold bw
 rw[decide_eq_true ⟨h1,h8⟩,Bool.true_and,List.all_eq_true]
 exact fun c hc=>decide_eq_true (rQ c (h c hc).1 (h c hc).2.1)
def An:Sp:=fun vs H Q _=>∃ (y:Str) (T:List ak),vs=[.str y]∧y.length≤60000∧(∀ l∈fj y,l.length≤890)∧PTx y T∧∀ T' p H',PTx y T'→Same H H'→ProgAt (fun b=>H b=none∧∃ o,H' b=some o) 10 H' p T'→Q (.ref p) H'
section
variable{P:Program}{w:World}{K:PySem.W.Frag}{mg:Str→Option Value}{base:Heap}
theorem AQ{f:Addr}{fd:FuncData}(F:Fun K "law" "law" bE f fd) (z_range:mg "range" = none) (z_isinstance:mg "isinstance" = none) (z_list:mg "list" = none) (z_len:mg "len" = none) (c_law_cell_at:bf P w K mg base 1 "_law_cell_at" ["_law_script", "_law_k"] (vN K)) (c_law_lines:bf P w K mg base 1 "_law_lines" ["_law_cells", "_law_x", "_law_y"] (vD K)) (c_law_spoiled:bf P w K mg base 2 "_law_spoiled" ["_law_cell", "_law_lines_here", "_law_x", "_law_y"] pG)
  (c_law_refused:bf P w K mg base 130 "_law_refused" ["_law_thing"] px) (c_read_program:bf P w K mg base 129 "read_program" ["text"] An):jk P w K mg base nP 131 f fd ["_law_script"] (pX K):=by
 refine F.ok sc_law (fun vs H Q E h=>by obtain⟨a,ns,rfl,_⟩:=h; rfl) (fun cdv A outer s H vs Q E hr h=>?_)
 obtain⟨a,ns,rfl,hS,hn,q⟩:=h
 refine⟨_,(af (aw 1 sc_law.nd ah (hx:=EL))
   (af (aw 2 sc_law.nd (aE c_law_cell_at hr (aa (pv 0 (hv:=yH)) (aa aj ac)) (hg:=A8)) (hx:=D7))
   (af (aw 3 sc_law.nd (am ap aj (am cK (pv 2 (hv:=yK)) aj)) (hx:=Fu))
   (af (aw 4 sc_law.nd (bL K PySem.F.plainAttrs_str PySem.F.slot_str_join PySem.F.type_str_join (fD K) ah (aa (dS (CompSc.to (fsc:=(defScope bE)) (N:=["_law_script", "_law_letters", "_law_cell", "_law_size", "_law_x", "_law_y", "_law_lines_here", "_law_top", "_law_found"]) (N0:=["_law_script", "_law_letters", "_law_cell", "_law_size", "_law_x", "_law_y", "_law_lines_here", "_law_top", "_law_found"]) (T:=["_law_k"]) ⟨by decide +kernel,by decide +kernel,by decide +kernel,by decide +kernel,by decide +kernel,by decide +kernel,by decide +kernel⟩ rfl rfl) rfl (pB Fa z_range (aa (pv 3 (hv:=xW)) ac)) (fun _ _ _ _=>(bX 9 (show (["_law_script", "_law_letters", "_law_cell", "_law_size", "_law_x", "_law_y", "_law_lines_here", "_law_top", "_law_found", "_law_k"]:List Str).Nodup from by decide +kernel) (hx:=(hX (defScope bE) (by decide +kernel))) (hf:=jT (defScope bE) (by decide +kernel)))) (cN (show (["_law_script", "_law_letters", "_law_cell", "_law_size", "_law_x", "_law_y", "_law_lines_here", "_law_top", "_law_found"]:List Str).length≤9 from by decide)) (fun _ _ _ _=>du) (fun _ _ _ _=>(bd (bG K) (pv 1 (hv:=(dL (defScope bE) (by decide +kernel)))) (am cK (am fL (pv 2 (hv:=(dL (defScope bE) (by decide +kernel)))) (am ap (pv 9 (hv:=(dL (defScope bE) (by decide +kernel)))) aj)) aj) (fun _ _=>rfl)))) ac)) (hx:=E9))
   (af (aw 5 sc_law.nd (am ap (am ap (b4 js (pv 4 (hv:=vk)) ci (b6 (am cK (am fL (pv 2 (hv:=yK)) aj) (pv 3 (hv:=xW))))) ah) (b4 js (pv 4 (hv:=vk)) (b6 (am ap (am cK (am fL (pv 2 (hv:=yK)) aj) (pv 3 (hv:=xW))) aj)) ci)) (hx:=Fg))
   (af (we (aE c_law_lines hr (aa (b4 (fC K) (pv 0 (hv:=yH)) (b6 aj) (b6 aj)) (aa (pv 4 (hv:=vk)) (aa (pv 5 (hv:=Bd)) ac))) (hg:=Fj)) (mn K (n:=2) (eO (bX 6 sc_law.nd (hx:=Ew)) (eO (bX 7 sc_law.nd (hx:=Ep)) lZ))))
   (af (bq (cC (cy (aE c_law_refused hr (aa (aE c_law_spoiled hr (aa (aE c_law_cell_at hr (aa (pv 0 (hv:=yH)) (aa aj ac)) (hg:=A8)) (aa (pv 6 (hv:=Bw)) (aa (pv 4 (hv:=vk)) (aa (pv 5 (hv:=Bd)) ac)))) (hg:=EQ)) ac) (hg:=Fq)))) (al (ax dI)) aP)
   (af (aw 8 sc_law.nd (aE c_read_program hr (aa (bL K PySem.F.plainAttrs_str PySem.F.slot_str_join PySem.F.type_str_join (fD K) ah (aa (pv 6 (hv:=Bw)) ac)) ac) (hg:=Ek)) (hx:=E6))
   (al (ax (fh (aL cU z_isinstance bh (aa (pv 8 (hv:=AR)) (aa (dy z_list kn (hg:=Ff)) ac)) (hg:=E_)) (jr (cj cm (aL (aW K) z_len bM (aa (pv 8 (hv:=AR)) ac) (hg:=EX)) (pv 7 (hv:=Ej)) (aG _)))))))))))))),?_⟩
 walk_at "rd1"
 walk_at "nx"
 refine⟨a,ns,0,rfl,hS,by decide,?_⟩
 generalize ns.getD (Int.toNat 0) 0=c
 walk_at "rd1"
 walk_at "nx"
 refine⟨by decide,?_⟩
 have m0:0≤c % 8:=Int.emod_nonneg _ (by decide)
 have m1:c % 8<8:=Int.emod_lt_of_pos _ (by decide)
 obtain⟨n,hnn,n1,n8⟩ : ∃ n:Nat,1+c % 8=(n:Int)∧1≤n∧n≤8:=⟨(1+c % 8).toNat,by omega,by omega,by omega⟩
 walk_at "nx"
 refine⟨by omega,by omega,fun C hC=>?_⟩
 rw[hnn,show ((n:Int)).toNat=n by omega]
 have l15:(Str.ofString "abcdefghijklmno").cps.toList=[97,98,99,100,101,102,103,104,105,106,107,108,109,110,111]:=by decide +kernel
 refine rX (fun j ys H2=>∃ cs:List Nat,Same H H2∧H2 C=some (.lst ys)∧ys=(cs.map fun d=>(⟨#[d]⟩ : Str)).map V.str∧cs.length=j∧∀ d∈cs,97≤d∧d≤111) ⟨[],au hC _,ai,rfl,rfl,fun d hd=>by cases hd⟩ ?_ ?_
 ·rintro j ys H2 hj ⟨cs,sm2,hl2,rfl,hcl,hcs⟩
  have e0:(0:Int)+(j:Int)=(j:Int):=by omega
  rw[e0]
  have z0:0≤c / ((j:Int)+1) % 15:=Int.emod_nonneg _ (by decide)
  have z1:c / ((j:Int)+1) % 15<15:=Int.emod_lt_of_pos _ (by decide)
  have hlt:(c / ((j:Int)+1) % 15).toNat<(Str.ofString "abcdefghijklmno").cps.toList.length:=by rw[l15]; simp only[List.length_cons,List.length_nil]; omega
  have hg:=List.getElem?_eq_getElem hlt
  have hr:97≤(Str.ofString "abcdefghijklmno").cps.toList[(c / ((j:Int)+1) % 15).toNat]∧(Str.ofString "abcdefghijklmno").cps.toList[(c / ((j:Int)+1) % 15).toNat]≤111:=(by decide +kernel:∀ d∈(Str.ofString "abcdefghijklmno").cps.toList,97≤d∧d≤111) _ (List.getElem_mem hlt)
  generalize (Str.ofString "abcdefghijklmno").cps.toList[(c / ((j:Int)+1) % 15).toNat]=d at hg hr
  have hat:gf (Str.ofString "abcdefghijklmno").cps.toList (c / ((j:Int)+1) % 15)=some d:=by
   have e:=bn hg
   rw[show (((c / ((j:Int)+1) % 15).toNat:Nat):Int)=c / ((j:Int)+1) % 15 by omega]at e
   exact e
  walk_at "rd1"
  refine⟨⟨by omega,by omega⟩,by decide,d,by decide +kernel,hat,?_⟩
  refine jI hj (by rw[List.length_map,List.length_map]; omega) (ao (by omega)) hl2 ⟨cs++[d],sm2.upd hC _,ai,by rw[List.map_append,List.map_append]; rfl,by rw[List.length_append,hcl]; rfl,fun d' hd'=>?_⟩
  rcases List.mem_append.mp hd' with h | h
  ·exact hcs d' h
  ·rw[List.mem_singleton.mp h]; exact hr
 rintro ys H2 ⟨cs,sm2,hl2,rfl,hcl,hcs⟩
 walk_at "rd1"
 have hmap:((cs.map fun d=>(⟨#[d]⟩ : Str)).map (·.length)).sum≤8:=by
  have e:(cs.map fun d=>(⟨#[d]⟩ : Str)).map (·.length)=cs.map fun _=>1:=by rw[List.map_map]; rfl
  rw[e]
  have:∀ l:List Nat,(l.map fun _=>1).sum=l.length:=fun l=>by induction l with
   | nil=>rfl
   | cons a l ih=>rw[List.map_cons,List.sum_cons,ih,List.length_cons]; omega
  rw[this]; omega
 refine⟨_,SqL.of hl2,by rw[(by decide +kernel:(Str.ofString "").length=0)]; omega,?_⟩
 have ex:(Txt.join "" (cs.map fun d=>(⟨#[d]⟩ : Str))).cps.toList=cs:=by
  rw[qb,List.flatMap_map]
  simp
 generalize Txt.join (Str.ofString "") (cs.map fun d=>(⟨#[d]⟩ : Str))=x at ex
 have ll:∀ s:Str,s.cps.toList.length=s.length:=fun s=>Array.length_toList
 have lx:x.length=n:=by rw[← ll,ex]; exact hcl
 have hx:Wx x:=yX (by omega) (by omega) fun d hd=>by rw[ex]at hd; have:=hcs d hd; omega
 obtain⟨j,hj,hjn⟩ : ∃ j:Nat,c / 8 % (n:Int)=(j:Int)∧j<n:=⟨(c / 8 % (n:Int)).toNat,by have:=Int.emod_nonneg (c / 8) (show (n:Int)≠0 by omega); omega,by have:=Int.emod_lt_of_pos (c / 8) (show 0<(n:Int) by omega); have:=Int.emod_nonneg (c / 8) (show (n:Int)≠0 by omega); omega⟩
 walk_at "nx"
 rw[hj]
 have sl1:=Txt.slice_le x none (some (j:Int))
 have sl2:=Txt.slice_le x (some ((j:Int)+1)) none
 have nz:(Str.ofString "z").length=1:=by decide +kernel
 refine⟨⟨by decide,by decide⟩,by omega,ao (by omega),ao (by omega),⟨by decide,by decide⟩,by omega,ao (by omega),ao (by rw[Str.length_append]; omega),?_⟩
 have hy:Wx (Txt.slice x none (some (j:Int))++Str.ofString "z" ++ Txt.slice x (some ((j:Int)+1)) none):=by
  have ey:(Txt.slice x none (some (j:Int))++Str.ofString "z" ++ Txt.slice x (some ((j:Int)+1)) none).cps.toList=cs.take j++[122]++cs.drop (j+1):=by
   have e2:(Txt.slice x (some ((j:Int)+1)) none).cps.toList=x.cps.toList.drop (j+1):=nQ x (j+1)
   rw[bA,bA,fZ,e2,ex,show (Str.ofString "z").cps.toList=[122] by decide +kernel]
  have el:(Txt.slice x none (some (j:Int))++Str.ofString "z" ++ Txt.slice x (some ((j:Int)+1)) none).length=n:=by
   rw[← ll,ey,List.length_append,List.length_append,List.length_take,List.length_drop,List.length_singleton,hcl]; omega
  refine yX (by omega) (by omega) fun d hd=>?_
  rw[ey]at hd
  rcases List.mem_append.mp hd with h | h
  ·rcases List.mem_append.mp h with h | h
   ·have:=hcs d (List.mem_of_mem_take h); omega
   ·have:=List.mem_singleton.mp h; omega
  ·have:=hcs d (List.mem_of_mem_drop h); omega
 generalize Txt.slice x none (some (j:Int))++Str.ofString "z" ++ Txt.slice x (some ((j:Int)+1)) none=y at hy
 walk_at "nx"
 refine⟨_,sm2.seq hS,fun cp hcp=>?_⟩
 rw[gS]
 have hcl2:=yP ns (some 2) (some 202)
 generalize hH3:upd H2 cp _=H3
 have s3:=av hH3 hcp
 have e3:=aJ hH3
 clear hH3
 refine⟨cp,jh ns (some 2) (some 202),x,y,rfl,SqL.of e3,by omega,hx,hy,fun t lp L T H4 s4 ht hL hdue hwi hdr l1 l40=>?_⟩
 have hS4:=((sm2.trans s3).trans s4)
 walk_at "rd1"
 refine⟨t,_,rfl,SqT.of ht,rfl,_,_,rfl,_,_,rfl,rfl,?_⟩
 walk_at "nx"
 refine⟨a,ns,1,rfl,hS4.seq hS,by decide,?_⟩
 refine⟨_,lp,L,T,x,y,rfl,hL,l1,l40,hdue,hdr,hx,hy,fun v H5 hbad s5=>⟨v,rfl,hbad,fun H6 s6=>⟨true,rfl,aB (fun c=>absurd c (by decide)) (fun _=>?_)⟩⟩⟩
 have hL6:=s6 _ _ (s5 _ _ hL)
 have hLn:∀ z∈L,Nl z∧z.length≤400:=fun z hz=>by
  obtain⟨ws,hw⟩:=nu hx hy (hdr z hz)
  exact⟨hw.ln.2,by have:=hw.ln.1; omega⟩
 have hne:L≠[("" : Str)]:=fun e=>by
  obtain⟨d,h1,_⟩:=kH (oa hdue "" (by rw[e]; exact List.mem_cons_self))
  exact absurd h1 (by rw[show (Str.ofString "").cps.toList=[] by decide +kernel]; simp)
 have hptx:=(kl (fun z hz=>(hLn z hz).1) hne T).mpr ⟨hdue,hwi⟩
 have hsum:=jS fun z hz=>(hLn z hz).2
 have h1:(Str.ofString "\n").length=1:=by decide +kernel
 have h40:L.length * 400≤40 * 400:=Nat.mul_le_mul_right _ l40
 have hyl:(Txt.join "\n" L).length≤60000:=by
  cases L with
  | nil=>decide +kernel
  | cons l ls=>
   have e:=oG "\n" l ls
   rw[List.map_cons,List.sum_cons]at hsum
   rw[h1]at e
   rw[List.length_cons]at l40 hsum h40
   omega
 walk_at "nx"
 refine⟨_,SqL.of hL6,by rw[h1]; omega,?_⟩
 refine⟨_,T,rfl,hyl,fun l hl=>?_,hptx,fun T' p H7 hT' s7 hP=>?_⟩
 ·rw[fv (fun z hz=>(hLn z hz).1) hne]at hl
  have:=(hLn l hl).2
  omega
 have eT:T'=T:=by
  have:=((kl (fun z hz=>(hLn z hz).1) hne T').mp hT').1
  rw[hdue]at this
  exact(Option.some.inj this).symm
 subst eT
 obtain⟨_,as,ep,hpr⟩:=hP
 have hal:=bY hpr
 walk_at "nx"
 refine⟨"list", by simp[az,ep],by decide,aB (fun _=>⟨_,.inl (SqL.of ep),?_⟩) (fun c=>absurd (by decide) c)⟩
 rw[List.length_map,hal,decide_eq_true rfl]
 exact q H7
end
theorem all_mk{l:PySem.W.OpenLaw}{w:World}{K:PySem.W.Frag}{h:Heap}{mg:Str→Option Value}{fa:Addr}(X:K.In h)(G:h.Ns mainGlobals mg)(hfa:mg "law" = some (.ref fa))
  {f0:Addr} {od0 an0:Option Addr} {sl0:Array (Option Value)} {oc0 kV0 dc0 pm0 cd0 ct0:Value} {f1:Addr} {od1 an1:Option Addr} {sl1:Array (Option Value)} {oc1 kV1 dc1 pm1 cd1 ct1:Value} {f2:Addr} {od2 an2:Option Addr} {sl2:Array (Option Value)} {oc2 kV2 dc2 pm2 cd2 ct2:Value} {f3:Addr} {od3 an3:Option Addr} {sl3:Array (Option Value)} {oc3 kV3 dc3 pm3 cd3 ct3:Value} {f4:Addr} {od4 an4:Option Addr} {sl4:Array (Option Value)} {oc4 kV4 dc4 pm4 cd4 ct4:Value} {f5:Addr} {od5 an5:Option Addr} {sl5:Array (Option Value)} {oc5 kV5 dc5 pm5 cd5 ct5:Value} {f6:Addr} {od6 an6:Option Addr} {sl6:Array (Option Value)} {oc6 kV6 dc6 pm6 cd6 ct6:Value} {f7:Addr} {od7 an7:Option Addr} {sl7:Array (Option Value)} {oc7 kV7 dc7 pm7 cd7 ct7:Value} {f8:Addr} {od8 an8:Option Addr} {sl8:Array (Option Value)} {oc8 kV8 dc8 pm8 cd8 ct8:Value} {f9:Addr} {od9 an9:Option Addr} {sl9:Array (Option Value)} {oc9 kV9 dc9 pm9 cd9 ct9:Value} {f10:Addr} {od10 an10:Option Addr} {sl10:Array (Option Value)} {oc10 kV10 dc10 pm10 cd10 ct10:Value} {f11:Addr} {od11 an11:Option Addr} {sl11:Array (Option Value)} {oc11 kV11 dc11 pm11 cd11 ct11:Value} {f12:Addr} {od12 an12:Option Addr} {sl12:Array (Option Value)} {oc12 kV12 dc12 pm12 cd12 ct12:Value} {f13:Addr} {od13 an13:Option Addr} {sl13:Array (Option Value)} {oc13 kV13 dc13 pm13 cd13 ct13:Value} {f14:Addr} {od14 an14:Option Addr} {sl14:Array (Option Value)} {oc14 kV14 dc14 pm14 cd14 ct14:Value} {f15:Addr} {od15 an15:Option Addr} {sl15:Array (Option Value)} {oc15 kV15 dc15 pm15 cd15 ct15:Value} {f16:Addr} {od16 an16:Option Addr} {sl16:Array (Option Value)} {oc16 kV16 dc16 pm16 cd16 ct16:Value} {f17:Addr} {od17 an17:Option Addr} {sl17:Array (Option Value)} {oc17 kV17 dc17 pm17 cd17 ct17:Value} {f18:Addr} {od18 an18:Option Addr} {sl18:Array (Option Value)} {oc18 kV18 dc18 pm18 cd18 ct18:Value} {f19:Addr} {od19 an19:Option Addr} {sl19:Array (Option Value)} {oc19 kV19 dc19 pm19 cd19 ct19:Value} {f20:Addr} {od20 an20:Option Addr} {sl20:Array (Option Value)} {oc20 kV20 dc20 pm20 cd20 ct20:Value} {f21:Addr} {od21 an21:Option Addr} {sl21:Array (Option Value)} {oc21 kV21 dc21 pm21 cd21 ct21:Value} {f22:Addr} {od22 an22:Option Addr} {sl22:Array (Option Value)} {oc22 kV22 dc22 pm22 cd22 ct22:Value} {f23:Addr} {od23 an23:Option Addr} {sl23:Array (Option Value)} {oc23 kV23 dc23 pm23 cd23 ct23:Value} {f24:Addr} {od24 an24:Option Addr} {sl24:Array (Option Value)} {oc24 kV24 dc24 pm24 cd24 ct24:Value} {f25:Addr} {od25 an25:Option Addr} {sl25:Array (Option Value)} {oc25 kV25 dc25 pm25 cd25 ct25:Value} {f26:Addr} {od26 an26:Option Addr} {sl26:Array (Option Value)} {oc26 kV26 dc26 pm26 cd26 ct26:Value} {f27:Addr} {od27 an27:Option Addr} {sl27:Array (Option Value)} {oc27 kV27 dc27 pm27 cd27 ct27:Value} {f28:Addr} {od28 an28:Option Addr} {sl28:Array (Option Value)} {oc28 kV28 dc28 pm28 cd28 ct28:Value} {f29:Addr} {od29 an29:Option Addr} {sl29:Array (Option Value)} {oc29 kV29 dc29 pm29 cd29 ct29:Value} {f30:Addr} {od30 an30:Option Addr} {sl30:Array (Option Value)} {oc30 kV30 dc30 pm30 cd30 ct30:Value} {t_FIGURES:Tok} {t_MOST_LETTERS:Tok} {t_LETTERS:Tok} {t_MOST_AROUND:Tok} {t_MOST_LINES:Tok} {t_MOST_LENDS:Tok} {t_MOST_NAMES:Tok} {t_MOST_FIGURES:Tok} {C_NoText:Addr} {C_NoRule:Addr} {C_NoFit:Addr} {C_TooGreat:Addr} {C_UseError:Addr} {C_Breach:Addr} {d_PARTS:Addr} {n_PARTS:Nat} {k_PARTS_0:Tok} {a_PARTS_0:Addr} {od_PARTS_0:Option Addr} {m_PARTS_0:Nat} {sl_PARTS_0:Array (Option Value)} {k_PARTS_0_0:Tok} {k_PARTS_1:Tok} {a_PARTS_1:Addr} {od_PARTS_1:Option Addr} {m_PARTS_1:Nat} {sl_PARTS_1:Array (Option Value)} {k_PARTS_1_0:Tok} {k_PARTS_1_1:Tok} {k_PARTS_2:Tok} {a_PARTS_2:Addr} {od_PARTS_2:Option Addr} {m_PARTS_2:Nat} {sl_PARTS_2:Array (Option Value)} {k_PARTS_2_0:Tok} {k_PARTS_2_1:Tok} {k_PARTS_3:Tok} {a_PARTS_3:Addr} {od_PARTS_3:Option Addr} {m_PARTS_3:Nat} {sl_PARTS_3:Array (Option Value)} {k_PARTS_3_0:Tok} {k_PARTS_4:Tok} {a_PARTS_4:Addr} {od_PARTS_4:Option Addr} {m_PARTS_4:Nat} {sl_PARTS_4:Array (Option Value)} {k_PARTS_4_0:Tok} {k_PARTS_4_1:Tok} {k_PARTS_5:Tok} {a_PARTS_5:Addr} {od_PARTS_5:Option Addr} {m_PARTS_5:Nat} {sl_PARTS_5:Array (Option Value)} {k_PARTS_5_0:Tok} {k_PARTS_5_1:Tok} {k_PARTS_5_2:Tok} {k_PARTS_6:Tok} {a_PARTS_6:Addr} {od_PARTS_6:Option Addr} {m_PARTS_6:Nat} {sl_PARTS_6:Array (Option Value)} {k_PARTS_6_0:Tok} {k_PARTS_6_1:Tok} {k_PARTS_6_2:Tok} {k_PARTS_7:Tok} {a_PARTS_7:Addr} {od_PARTS_7:Option Addr} {m_PARTS_7:Nat} {sl_PARTS_7:Array (Option Value)} {k_PARTS_7_0:Tok} {k_PARTS_7_1:Tok} {d_CLOSERS:Addr} {n_CLOSERS:Nat} {k_CLOSERS_0:Tok} {a_CLOSERS_0:Addr} {od_CLOSERS_0:Option Addr} {m_CLOSERS_0:Nat} {sl_CLOSERS_0:Array (Option Value)} {k_CLOSERS_0_0:Tok} {k_CLOSERS_1:Tok} {a_CLOSERS_1:Addr} {od_CLOSERS_1:Option Addr} {m_CLOSERS_1:Nat} {sl_CLOSERS_1:Array (Option Value)} {k_CLOSERS_1_0:Tok} {k_CLOSERS_1_1:Tok} {k_CLOSERS_2:Tok} {a_CLOSERS_2:Addr} {od_CLOSERS_2:Option Addr} {m_CLOSERS_2:Nat} {sl_CLOSERS_2:Array (Option Value)} {k_CLOSERS_2_0:Tok} {a_ENDS:Addr} {od_ENDS:Option Addr} {m_ENDS:Nat} {sl_ENDS:Array (Option Value)} {k_ENDS_0:Tok} {k_ENDS_1:Tok} {k_ENDS_2:Tok} {k_ENDS_3:Tok}
  (a0:PySem.W.nsIn K mainGlobals "number_in" = some (some (.ref f0))) (l0:K.lookup f0=some ⟨oc0,od0,.func (PySem.W.fnOf "number_in" "number_in" (defArgs ba) (defBody ba) (defScope ba) .none kV0 dc0 pm0 an0 cd0 ct0),sl0⟩) (c0:PySem.W.codeIn K cd0 "number_in" = true) (k0:PySem.W.keepIn K (.ref f0)=true)
  (a1:PySem.W.nsIn K mainGlobals "is_whole" = some (some (.ref f1))) (l1:K.lookup f1=some ⟨oc1,od1,.func (PySem.W.fnOf "is_whole" "is_whole" (defArgs cD) (defBody cD) (defScope cD) .none kV1 dc1 pm1 an1 cd1 ct1),sl1⟩) (c1:PySem.W.codeIn K cd1 "is_whole" = true) (k1:PySem.W.keepIn K (.ref f1)=true)
  (a2:PySem.W.nsIn K mainGlobals "is_word" = some (some (.ref f2))) (l2:K.lookup f2=some ⟨oc2,od2,.func (PySem.W.fnOf "is_word" "is_word" (defArgs bO) (defBody bO) (defScope bO) .none kV2 dc2 pm2 an2 cd2 ct2),sl2⟩) (c2:PySem.W.codeIn K cd2 "is_word" = true) (k2:PySem.W.keepIn K (.ref f2)=true)
  (a3:PySem.W.nsIn K mainGlobals "closers_of" = some (some (.ref f3))) (l3:K.lookup f3=some ⟨oc3,od3,.func (PySem.W.fnOf "closers_of" "closers_of" (defArgs cE) (defBody cE) (defScope cE) .none kV3 dc3 pm3 an3 cd3 ct3),sl3⟩) (c3:PySem.W.codeIn K cd3 "closers_of" = true) (k3:PySem.W.keepIn K (.ref f3)=true)
  (a4:PySem.W.nsIn K mainGlobals "head_of" = some (some (.ref f4))) (l4:K.lookup f4=some ⟨oc4,od4,.func (PySem.W.fnOf "head_of" "head_of" (defArgs cY) (defBody cY) (defScope cY) .none kV4 dc4 pm4 an4 cd4 ct4),sl4⟩) (c4:PySem.W.codeIn K cd4 "head_of" = true) (k4:PySem.W.keepIn K (.ref f4)=true)
  (a5:PySem.W.nsIn K mainGlobals "blocks_of" = some (some (.ref f5))) (l5:K.lookup f5=some ⟨oc5,od5,.func (PySem.W.fnOf "blocks_of" "blocks_of" (defArgs cB) (defBody cB) (defScope cB) .none kV5 dc5 pm5 an5 cd5 ct5),sl5⟩) (c5:PySem.W.codeIn K cd5 "blocks_of" = true) (k5:PySem.W.keepIn K (.ref f5)=true)
  (a6:PySem.W.nsIn K mainGlobals "is_bound" = some (some (.ref f6))) (l6:K.lookup f6=some ⟨oc6,od6,.func (PySem.W.fnOf "is_bound" "is_bound" (defArgs cS) (defBody cS) (defScope cS) .none kV6 dc6 pm6 an6 cd6 ct6),sl6⟩) (c6:PySem.W.codeIn K cd6 "is_bound" = true) (k6:PySem.W.keepIn K (.ref f6)=true)
  (a7:PySem.W.nsIn K mainGlobals "is_part" = some (some (.ref f7))) (l7:K.lookup f7=some ⟨oc7,od7,.func (PySem.W.fnOf "is_part" "is_part" (defArgs cA) (defBody cA) (defScope cA) .none kV7 dc7 pm7 an7 cd7 ct7),sl7⟩) (c7:PySem.W.codeIn K cd7 "is_part" = true) (k7:PySem.W.keepIn K (.ref f7)=true)
  (a8:PySem.W.nsIn K mainGlobals "is_like_step" = some (some (.ref f8))) (l8:K.lookup f8=some ⟨oc8,od8,.func (PySem.W.fnOf "is_like_step" "is_like_step" (defArgs aF) (defBody aF) (defScope aF) .none kV8 dc8 pm8 an8 cd8 ct8),sl8⟩) (c8:PySem.W.codeIn K cd8 "is_like_step" = true) (k8:PySem.W.keepIn K (.ref f8)=true)
  (a9:PySem.W.nsIn K mainGlobals "gathers_steps" = some (some (.ref f9))) (l9:K.lookup f9=some ⟨oc9,od9,.func (PySem.W.fnOf "gathers_steps" "gathers_steps" (defArgs aQ) (defBody aQ) (defScope aQ) .none kV9 dc9 pm9 an9 cd9 ct9),sl9⟩) (c9:PySem.W.codeIn K cd9 "gathers_steps" = true) (k9:PySem.W.keepIn K (.ref f9)=true)
  (a10:PySem.W.nsIn K mainGlobals "names_in" = some (some (.ref f10))) (l10:K.lookup f10=some ⟨oc10,od10,.func (PySem.W.fnOf "names_in" "names_in" (defArgs bF) (defBody bF) (defScope bF) .none kV10 dc10 pm10 an10 cd10 ct10),sl10⟩) (c10:PySem.W.codeIn K cd10 "names_in" = true) (k10:PySem.W.keepIn K (.ref f10)=true)
  (a11:PySem.W.nsIn K mainGlobals "is_program" = some (some (.ref f11))) (l11:K.lookup f11=some ⟨oc11,od11,.func (PySem.W.fnOf "is_program" "is_program" (defArgs aq) (defBody aq) (defScope aq) .none kV11 dc11 pm11 an11 cd11 ct11),sl11⟩) (c11:PySem.W.codeIn K cd11 "is_program" = true) (k11:PySem.W.keepIn K (.ref f11)=true)
  (a12:PySem.W.nsIn K mainGlobals "lines_of" = some (some (.ref f12))) (l12:K.lookup f12=some ⟨oc12,od12,.func (PySem.W.fnOf "lines_of" "lines_of" (defArgs aY) (defBody aY) (defScope aY) .none kV12 dc12 pm12 an12 cd12 ct12),sl12⟩) (c12:PySem.W.codeIn K cd12 "lines_of" = true) (k12:PySem.W.keepIn K (.ref f12)=true)
  (a13:PySem.W.nsIn K mainGlobals "show_program" = some (some (.ref f13))) (l13:K.lookup f13=some ⟨oc13,od13,.func (PySem.W.fnOf "show_program" "show_program" (defArgs cg) (defBody cg) (defScope cg) .none kV13 dc13 pm13 an13 cd13 ct13),sl13⟩) (c13:PySem.W.codeIn K cd13 "show_program" = true) (k13:PySem.W.keepIn K (.ref f13)=true)
  (a14:PySem.W.nsIn K mainGlobals "bound_in" = some (some (.ref f14))) (l14:K.lookup f14=some ⟨oc14,od14,.func (PySem.W.fnOf "bound_in" "bound_in" (defArgs cf) (defBody cf) (defScope cf) .none kV14 dc14 pm14 an14 cd14 ct14),sl14⟩) (c14:PySem.W.codeIn K cd14 "bound_in" = true) (k14:PySem.W.keepIn K (.ref f14)=true)
  (a15:PySem.W.nsIn K mainGlobals "head_in" = some (some (.ref f15))) (l15:K.lookup f15=some ⟨oc15,od15,.func (PySem.W.fnOf "head_in" "head_in" (defArgs cz) (defBody cz) (defScope cz) .none kV15 dc15 pm15 an15 cd15 ct15),sl15⟩) (c15:PySem.W.codeIn K cd15 "head_in" = true) (k15:PySem.W.keepIn K (.ref f15)=true)
  (a16:PySem.W.nsIn K mainGlobals "step_from" = some (some (.ref f16))) (l16:K.lookup f16=some ⟨oc16,od16,.func (PySem.W.fnOf "step_from" "step_from" (defArgs aV) (defBody aV) (defScope aV) .none kV16 dc16 pm16 an16 cd16 ct16),sl16⟩) (c16:PySem.W.codeIn K cd16 "step_from" = true) (k16:PySem.W.keepIn K (.ref f16)=true)
  (a17:PySem.W.nsIn K mainGlobals "steps_from" = some (some (.ref f17))) (l17:K.lookup f17=some ⟨oc17,od17,.func (PySem.W.fnOf "steps_from" "steps_from" (defArgs bi) (defBody bi) (defScope bi) .none kV17 dc17 pm17 an17 cd17 ct17),sl17⟩) (c17:PySem.W.codeIn K cd17 "steps_from" = true) (k17:PySem.W.keepIn K (.ref f17)=true)
  (a18:PySem.W.nsIn K mainGlobals "lines_in" = some (some (.ref f18))) (l18:K.lookup f18=some ⟨oc18,od18,.func (PySem.W.fnOf "lines_in" "lines_in" (defArgs dn) (defBody dn) (defScope dn) .none kV18 dc18 pm18 an18 cd18 ct18),sl18⟩) (c18:PySem.W.codeIn K cd18 "lines_in" = true) (k18:PySem.W.keepIn K (.ref f18)=true)
  (a19:PySem.W.nsIn K mainGlobals "read_program" = some (some (.ref f19))) (l19:K.lookup f19=some ⟨oc19,od19,.func (PySem.W.fnOf "read_program" "read_program" (defArgs aS) (defBody aS) (defScope aS) .none kV19 dc19 pm19 an19 cd19 ct19),sl19⟩) (c19:PySem.W.codeIn K cd19 "read_program" = true) (k19:PySem.W.keepIn K (.ref f19)=true)
  (a20:PySem.W.nsIn K mainGlobals "_law_cell_at" = some (some (.ref f20))) (l20:K.lookup f20=some ⟨oc20,od20,.func (PySem.W.fnOf "_law_cell_at" "_law_cell_at" (defArgs ce) (defBody ce) (defScope ce) .none kV20 dc20 pm20 an20 cd20 ct20),sl20⟩) (c20:PySem.W.codeIn K cd20 "_law_cell_at" = true) (k20:PySem.W.keepIn K (.ref f20)=true)
  (a21:PySem.W.nsIn K mainGlobals "_law_lines" = some (some (.ref f21))) (l21:K.lookup f21=some ⟨oc21,od21,.func (PySem.W.fnOf "_law_lines" "_law_lines" (defArgs aC) (defBody aC) (defScope aC) .none kV21 dc21 pm21 an21 cd21 ct21),sl21⟩) (c21:PySem.W.codeIn K cd21 "_law_lines" = true) (k21:PySem.W.keepIn K (.ref f21)=true)
  (a22:PySem.W.nsIn K mainGlobals "_law_odd_line" = some (some (.ref f22))) (l22:K.lookup f22=some ⟨oc22,od22,.func (PySem.W.fnOf "_law_odd_line" "_law_odd_line" (defArgs bx) (defBody bx) (defScope bx) .none kV22 dc22 pm22 an22 cd22 ct22),sl22⟩) (c22:PySem.W.codeIn K cd22 "_law_odd_line" = true) (k22:PySem.W.keepIn K (.ref f22)=true)
  (a23:PySem.W.nsIn K mainGlobals "_law_odd_bound" = some (some (.ref f23))) (l23:K.lookup f23=some ⟨oc23,od23,.func (PySem.W.fnOf "_law_odd_bound" "_law_odd_bound" (defArgs bN) (defBody bN) (defScope bN) .none kV23 dc23 pm23 an23 cd23 ct23),sl23⟩) (c23:PySem.W.codeIn K cd23 "_law_odd_bound" = true) (k23:PySem.W.keepIn K (.ref f23)=true)
  (a24:PySem.W.nsIn K mainGlobals "_law_too_much" = some (some (.ref f24))) (l24:K.lookup f24=some ⟨oc24,od24,.func (PySem.W.fnOf "_law_too_much" "_law_too_much" (defArgs bV) (defBody bV) (defScope bV) .none kV24 dc24 pm24 an24 cd24 ct24),sl24⟩) (c24:PySem.W.codeIn K cd24 "_law_too_much" = true) (k24:PySem.W.keepIn K (.ref f24)=true)
  (a25:PySem.W.nsIn K mainGlobals "_law_blocks" = some (some (.ref f25))) (l25:K.lookup f25=some ⟨oc25,od25,.func (PySem.W.fnOf "_law_blocks" "_law_blocks" (defArgs bv) (defBody bv) (defScope bv) .none kV25 dc25 pm25 an25 cd25 ct25),sl25⟩) (c25:PySem.W.codeIn K cd25 "_law_blocks" = true) (k25:PySem.W.keepIn K (.ref f25)=true)
  (a26:PySem.W.nsIn K mainGlobals "_law_put_in" = some (some (.ref f26))) (l26:K.lookup f26=some ⟨oc26,od26,.func (PySem.W.fnOf "_law_put_in" "_law_put_in" (defArgs cu) (defBody cu) (defScope cu) .none kV26 dc26 pm26 an26 cd26 ct26),sl26⟩) (c26:PySem.W.codeIn K cd26 "_law_put_in" = true) (k26:PySem.W.keepIn K (.ref f26)=true)
  (a27:PySem.W.nsIn K mainGlobals "_law_line_spoiled" = some (some (.ref f27))) (l27:K.lookup f27=some ⟨oc27,od27,.func (PySem.W.fnOf "_law_line_spoiled" "_law_line_spoiled" (defArgs aX) (defBody aX) (defScope aX) .none kV27 dc27 pm27 an27 cd27 ct27),sl27⟩) (c27:PySem.W.codeIn K cd27 "_law_line_spoiled" = true) (k27:PySem.W.keepIn K (.ref f27)=true)
  (a28:PySem.W.nsIn K mainGlobals "_law_spoiled" = some (some (.ref f28))) (l28:K.lookup f28=some ⟨oc28,od28,.func (PySem.W.fnOf "_law_spoiled" "_law_spoiled" (defArgs ay) (defBody ay) (defScope ay) .none kV28 dc28 pm28 an28 cd28 ct28),sl28⟩) (c28:PySem.W.codeIn K cd28 "_law_spoiled" = true) (k28:PySem.W.keepIn K (.ref f28)=true)
  (a29:PySem.W.nsIn K mainGlobals "_law_refused" = some (some (.ref f29))) (l29:K.lookup f29=some ⟨oc29,od29,.func (PySem.W.fnOf "_law_refused" "_law_refused" (defArgs aR) (defBody aR) (defScope aR) .none kV29 dc29 pm29 an29 cd29 ct29),sl29⟩) (c29:PySem.W.codeIn K cd29 "_law_refused" = true) (k29:PySem.W.keepIn K (.ref f29)=true)
  (a30:PySem.W.nsIn K mainGlobals "law" = some (some (.ref f30))) (l30:K.lookup f30=some ⟨oc30,od30,.func (PySem.W.fnOf "law" "law" (defArgs bE) (defBody bE) (defScope bE) .none kV30 dc30 pm30 an30 cd30 ct30),sl30⟩) (c30:PySem.W.codeIn K cd30 "law" = true) (k30:PySem.W.keepIn K (.ref f30)=true)
  (y_isinstance:PySem.W.nsIn K mainGlobals "isinstance" = some none)
  (y_int:PySem.W.nsIn K mainGlobals "int" = some none)
  (y_bool:PySem.W.nsIn K mainGlobals "bool" = some none)
  (y_str:PySem.W.nsIn K mainGlobals "str" = some none)
  (y_list:PySem.W.nsIn K mainGlobals "list" = some none)
  (y_tuple:PySem.W.nsIn K mainGlobals "tuple" = some none)
  (y_len:PySem.W.nsIn K mainGlobals "len" = some none)
  (y_all:PySem.W.nsIn K mainGlobals "all" = some none)
  (y_zip:PySem.W.nsIn K mainGlobals "zip" = some none)
  (y_abs:PySem.W.nsIn K mainGlobals "abs" = some none)
  (y_sum:PySem.W.nsIn K mainGlobals "sum" = some none)
  (y_range:PySem.W.nsIn K mainGlobals "range" = some none)
  (y_ValueError:PySem.W.nsIn K mainGlobals "ValueError" = some none)
  (h_FIGURES:PySem.W.nsIn K mainGlobals "FIGURES" = some (some (.str "0123456789" t_FIGURES)))
  (h_MOST_LETTERS:PySem.W.nsIn K mainGlobals "MOST_LETTERS" = some (some (.int 8 t_MOST_LETTERS)))
  (h_LETTERS:PySem.W.nsIn K mainGlobals "LETTERS" = some (some (.str "abcdefghijklmnopqrstuvwxyz" t_LETTERS)))
  (h_MOST_AROUND:PySem.W.nsIn K mainGlobals "MOST_AROUND" = some (some (.int 8 t_MOST_AROUND)))
  (h_MOST_LINES:PySem.W.nsIn K mainGlobals "MOST_LINES" = some (some (.int 60 t_MOST_LINES)))
  (h_MOST_LENDS:PySem.W.nsIn K mainGlobals "MOST_LENDS" = some (some (.int 3 t_MOST_LENDS)))
  (h_MOST_NAMES:PySem.W.nsIn K mainGlobals "MOST_NAMES" = some (some (.int 4 t_MOST_NAMES)))
  (h_MOST_FIGURES:PySem.W.nsIn K mainGlobals "MOST_FIGURES" = some (some (.int 60 t_MOST_FIGURES)))
  (n_NoText:PySem.W.nsIn K mainGlobals "NoText" = some (some (.ref C_NoText)))
  (xq_NoText:kK K C_NoText [.type "ValueError", .type "Exception", .type "BaseException", .type "object"] "ValueError.__new__" = true) (xs_NoText:PySem.W.subIn K (.ref C_NoText) (.type "object")=some true) (xc_NoText:PySem.W.findIn K (.ref C_NoText) "__class__" = some (some (.builtin "object.__class__")))
  (n_NoRule:PySem.W.nsIn K mainGlobals "NoRule" = some (some (.ref C_NoRule)))
  (xq_NoRule:kK K C_NoRule [.type "ValueError", .type "Exception", .type "BaseException", .type "object"] "ValueError.__new__" = true) (xs_NoRule:PySem.W.subIn K (.ref C_NoRule) (.type "object")=some true) (xc_NoRule:PySem.W.findIn K (.ref C_NoRule) "__class__" = some (some (.builtin "object.__class__")))
  (n_NoFit:PySem.W.nsIn K mainGlobals "NoFit" = some (some (.ref C_NoFit)))
  (xq_NoFit:kK K C_NoFit [.type "ValueError", .type "Exception", .type "BaseException", .type "object"] "ValueError.__new__" = true) (xs_NoFit:PySem.W.subIn K (.ref C_NoFit) (.type "object")=some true) (xc_NoFit:PySem.W.findIn K (.ref C_NoFit) "__class__" = some (some (.builtin "object.__class__")))
  (n_TooGreat:PySem.W.nsIn K mainGlobals "TooGreat" = some (some (.ref C_TooGreat)))
  (xq_TooGreat:kK K C_TooGreat [.type "ValueError", .type "Exception", .type "BaseException", .type "object"] "ValueError.__new__" = true) (xs_TooGreat:PySem.W.subIn K (.ref C_TooGreat) (.type "object")=some true) (xc_TooGreat:PySem.W.findIn K (.ref C_TooGreat) "__class__" = some (some (.builtin "object.__class__")))
  (n_UseError:PySem.W.nsIn K mainGlobals "UseError" = some (some (.ref C_UseError)))
  (xq_UseError:kK K C_UseError [.type "ValueError", .type "Exception", .type "BaseException", .type "object"] "ValueError.__new__" = true) (xs_UseError:PySem.W.subIn K (.ref C_UseError) (.type "object")=some true) (xc_UseError:PySem.W.findIn K (.ref C_UseError) "__class__" = some (some (.builtin "object.__class__")))
  (kt_NoText_UseError:PySem.W.kitOne K (.ref C_NoText) (.ref C_UseError)=some true)
  (kt_NoText_ValueError:PySem.W.kitOne K (.ref C_NoText) (.type "ValueError")=some true)
  (kt_NoText_NoRule:PySem.W.kitOne K (.ref C_NoText) (.ref C_NoRule)=some false)
  (kt_NoText_NoFit:PySem.W.kitOne K (.ref C_NoText) (.ref C_NoFit)=some false)
  (kt_NoText_TooGreat:PySem.W.kitOne K (.ref C_NoText) (.ref C_TooGreat)=some false)
  (n_Breach:PySem.W.nsIn K mainGlobals "Breach" = some (some (.ref C_Breach)))
  (kt_NoText_Breach:PySem.W.kitOne K (.ref C_NoText) (.ref C_Breach)=some false)
  (h_PARTS:PySem.W.nsIn K mainGlobals "PARTS" = some (some (.ref d_PARTS)))
  (ld_PARTS:K.lookup d_PARTS=some ⟨.type "dict", none,.dict #[⟨PyData.keyHash w.params "open", .str "open" k_PARTS_0,.ref a_PARTS_0⟩,⟨PyData.keyHash w.params "do", .str "do" k_PARTS_1,.ref a_PARTS_1⟩,⟨PyData.keyHash w.params "copy", .str "copy" k_PARTS_2,.ref a_PARTS_2⟩,⟨PyData.keyHash w.params "drop", .str "drop" k_PARTS_3,.ref a_PARTS_3⟩,⟨PyData.keyHash w.params "tie", .str "tie" k_PARTS_4,.ref a_PARTS_4⟩,⟨PyData.keyHash w.params "lend", .str "lend" k_PARTS_5,.ref a_PARTS_5⟩,⟨PyData.keyHash w.params "if", .str "if" k_PARTS_6,.ref a_PARTS_6⟩,⟨PyData.keyHash w.params "while", .str "while" k_PARTS_7,.ref a_PARTS_7⟩] n_PARTS,#[]⟩)
  (la_PARTS_0:K.lookup a_PARTS_0=some ⟨.type "tuple", od_PARTS_0,.seq #[.str "name" k_PARTS_0_0] m_PARTS_0,sl_PARTS_0⟩)
  (la_PARTS_1:K.lookup a_PARTS_1=some ⟨.type "tuple", od_PARTS_1,.seq #[.str "word" k_PARTS_1_0,.str "name" k_PARTS_1_1] m_PARTS_1,sl_PARTS_1⟩)
  (la_PARTS_2:K.lookup a_PARTS_2=some ⟨.type "tuple", od_PARTS_2,.seq #[.str "name" k_PARTS_2_0,.str "name" k_PARTS_2_1] m_PARTS_2,sl_PARTS_2⟩)
  (la_PARTS_3:K.lookup a_PARTS_3=some ⟨.type "tuple", od_PARTS_3,.seq #[.str "name" k_PARTS_3_0] m_PARTS_3,sl_PARTS_3⟩)
  (la_PARTS_4:K.lookup a_PARTS_4=some ⟨.type "tuple", od_PARTS_4,.seq #[.str "name" k_PARTS_4_0,.str "name" k_PARTS_4_1] m_PARTS_4,sl_PARTS_4⟩)
  (la_PARTS_5:K.lookup a_PARTS_5=some ⟨.type "tuple", od_PARTS_5,.seq #[.str "name" k_PARTS_5_0,.str "name" k_PARTS_5_1,.str "steps" k_PARTS_5_2] m_PARTS_5,sl_PARTS_5⟩)
  (la_PARTS_6:K.lookup a_PARTS_6=some ⟨.type "tuple", od_PARTS_6,.seq #[.str "bound" k_PARTS_6_0,.str "steps" k_PARTS_6_1,.str "steps" k_PARTS_6_2] m_PARTS_6,sl_PARTS_6⟩)
  (la_PARTS_7:K.lookup a_PARTS_7=some ⟨.type "tuple", od_PARTS_7,.seq #[.str "bound" k_PARTS_7_0,.str "steps" k_PARTS_7_1] m_PARTS_7,sl_PARTS_7⟩)
  (dz_PARTS:(d_PARTS == sysModules)=false)
  (h_CLOSERS:PySem.W.nsIn K mainGlobals "CLOSERS" = some (some (.ref d_CLOSERS)))
  (ld_CLOSERS:K.lookup d_CLOSERS=some ⟨.type "dict", none,.dict #[⟨PyData.keyHash w.params "lend", .str "lend" k_CLOSERS_0,.ref a_CLOSERS_0⟩,⟨PyData.keyHash w.params "if", .str "if" k_CLOSERS_1,.ref a_CLOSERS_1⟩,⟨PyData.keyHash w.params "while", .str "while" k_CLOSERS_2,.ref a_CLOSERS_2⟩] n_CLOSERS,#[]⟩)
  (la_CLOSERS_0:K.lookup a_CLOSERS_0=some ⟨.type "tuple", od_CLOSERS_0,.seq #[.str "back" k_CLOSERS_0_0] m_CLOSERS_0,sl_CLOSERS_0⟩)
  (la_CLOSERS_1:K.lookup a_CLOSERS_1=some ⟨.type "tuple", od_CLOSERS_1,.seq #[.str "else" k_CLOSERS_1_0,.str "fi" k_CLOSERS_1_1] m_CLOSERS_1,sl_CLOSERS_1⟩)
  (la_CLOSERS_2:K.lookup a_CLOSERS_2=some ⟨.type "tuple", od_CLOSERS_2,.seq #[.str "done" k_CLOSERS_2_0] m_CLOSERS_2,sl_CLOSERS_2⟩)
  (dz_CLOSERS:(d_CLOSERS == sysModules)=false)
  (h_ENDS:PySem.W.nsIn K mainGlobals "ENDS" = some (some (.ref a_ENDS)))
  (la_ENDS:K.lookup a_ENDS=some ⟨.type "tuple", od_ENDS,.seq #[.str "back" k_ENDS_0,.str "else" k_ENDS_1,.str "fi" k_ENDS_2,.str "done" k_ENDS_3] m_ENDS,sl_ENDS⟩) :
  ∃ fd:FuncData,(∀ (s:Shared) (v:Value),BindsTo s fd ⟨[v],[]⟩ [("_law_script", v)])∧∀ base:Heap,K.In base→base.Ns mainGlobals mg→jk l.prog w K mg base nP 131 fa fd ["_law_script"] (pX K):=by
 have e:=hfa.symm.trans (PySem.W.mg_of X G a30)
 cases e
 have D_number_in:DefAt K mg "number_in" ba:=⟨f0,_,bI (st:=ba) l0 c0 k0,PySem.W.mg_of X G a0⟩
 have D_is_whole:DefAt K mg "is_whole" cD:=⟨f1,_,bI (st:=cD) l1 c1 k1,PySem.W.mg_of X G a1⟩
 have D_is_word:DefAt K mg "is_word" bO:=⟨f2,_,bI (st:=bO) l2 c2 k2,PySem.W.mg_of X G a2⟩
 have D_closers_of:DefAt K mg "closers_of" cE:=⟨f3,_,bI (st:=cE) l3 c3 k3,PySem.W.mg_of X G a3⟩
 have D_head_of:DefAt K mg "head_of" cY:=⟨f4,_,bI (st:=cY) l4 c4 k4,PySem.W.mg_of X G a4⟩
 have D_blocks_of:DefAt K mg "blocks_of" cB:=⟨f5,_,bI (st:=cB) l5 c5 k5,PySem.W.mg_of X G a5⟩
 have D_is_bound:DefAt K mg "is_bound" cS:=⟨f6,_,bI (st:=cS) l6 c6 k6,PySem.W.mg_of X G a6⟩
 have D_is_part:DefAt K mg "is_part" cA:=⟨f7,_,bI (st:=cA) l7 c7 k7,PySem.W.mg_of X G a7⟩
 have D_is_like_step:DefAt K mg "is_like_step" aF:=⟨f8,_,bI (st:=aF) l8 c8 k8,PySem.W.mg_of X G a8⟩
 have D_gathers_steps:DefAt K mg "gathers_steps" aQ:=⟨f9,_,bI (st:=aQ) l9 c9 k9,PySem.W.mg_of X G a9⟩
 have D_names_in:DefAt K mg "names_in" bF:=⟨f10,_,bI (st:=bF) l10 c10 k10,PySem.W.mg_of X G a10⟩
 have D_is_program:DefAt K mg "is_program" aq:=⟨f11,_,bI (st:=aq) l11 c11 k11,PySem.W.mg_of X G a11⟩
 have D_lines_of:DefAt K mg "lines_of" aY:=⟨f12,_,bI (st:=aY) l12 c12 k12,PySem.W.mg_of X G a12⟩
 have D_show_program:DefAt K mg "show_program" cg:=⟨f13,_,bI (st:=cg) l13 c13 k13,PySem.W.mg_of X G a13⟩
 have D_bound_in:DefAt K mg "bound_in" cf:=⟨f14,_,bI (st:=cf) l14 c14 k14,PySem.W.mg_of X G a14⟩
 have D_head_in:DefAt K mg "head_in" cz:=⟨f15,_,bI (st:=cz) l15 c15 k15,PySem.W.mg_of X G a15⟩
 have D_step_from:DefAt K mg "step_from" aV:=⟨f16,_,bI (st:=aV) l16 c16 k16,PySem.W.mg_of X G a16⟩
 have D_steps_from:DefAt K mg "steps_from" bi:=⟨f17,_,bI (st:=bi) l17 c17 k17,PySem.W.mg_of X G a17⟩
 have D_lines_in:DefAt K mg "lines_in" dn:=⟨f18,_,bI (st:=dn) l18 c18 k18,PySem.W.mg_of X G a18⟩
 have D_read_program:DefAt K mg "read_program" aS:=⟨f19,_,bI (st:=aS) l19 c19 k19,PySem.W.mg_of X G a19⟩
 have D_law_cell_at:DefAt K mg "_law_cell_at" ce:=⟨f20,_,bI (st:=ce) l20 c20 k20,PySem.W.mg_of X G a20⟩
 have D_law_lines:DefAt K mg "_law_lines" aC:=⟨f21,_,bI (st:=aC) l21 c21 k21,PySem.W.mg_of X G a21⟩
 have D_law_odd_line:DefAt K mg "_law_odd_line" bx:=⟨f22,_,bI (st:=bx) l22 c22 k22,PySem.W.mg_of X G a22⟩
 have D_law_odd_bound:DefAt K mg "_law_odd_bound" bN:=⟨f23,_,bI (st:=bN) l23 c23 k23,PySem.W.mg_of X G a23⟩
 have D_law_too_much:DefAt K mg "_law_too_much" bV:=⟨f24,_,bI (st:=bV) l24 c24 k24,PySem.W.mg_of X G a24⟩
 have D_law_blocks:DefAt K mg "_law_blocks" bv:=⟨f25,_,bI (st:=bv) l25 c25 k25,PySem.W.mg_of X G a25⟩
 have D_law_put_in:DefAt K mg "_law_put_in" cu:=⟨f26,_,bI (st:=cu) l26 c26 k26,PySem.W.mg_of X G a26⟩
 have D_law_line_spoiled:DefAt K mg "_law_line_spoiled" aX:=⟨f27,_,bI (st:=aX) l27 c27 k27,PySem.W.mg_of X G a27⟩
 have D_law_spoiled:DefAt K mg "_law_spoiled" ay:=⟨f28,_,bI (st:=ay) l28 c28 k28,PySem.W.mg_of X G a28⟩
 have D_law_refused:DefAt K mg "_law_refused" aR:=⟨f29,_,bI (st:=aR) l29 c29 k29,PySem.W.mg_of X G a29⟩
 have z_isinstance:mg "isinstance" = none:=PySem.W.mg_none_of X G y_isinstance
 have z_int:mg "int" = none:=PySem.W.mg_none_of X G y_int
 have z_bool:mg "bool" = none:=PySem.W.mg_none_of X G y_bool
 have z_str:mg "str" = none:=PySem.W.mg_none_of X G y_str
 have z_list:mg "list" = none:=PySem.W.mg_none_of X G y_list
 have z_tuple:mg "tuple" = none:=PySem.W.mg_none_of X G y_tuple
 have z_len:mg "len" = none:=PySem.W.mg_none_of X G y_len
 have z_all:mg "all" = none:=PySem.W.mg_none_of X G y_all
 have z_zip:mg "zip" = none:=PySem.W.mg_none_of X G y_zip
 have z_abs:mg "abs" = none:=PySem.W.mg_none_of X G y_abs
 have z_sum:mg "sum" = none:=PySem.W.mg_none_of X G y_sum
 have z_range:mg "range" = none:=PySem.W.mg_none_of X G y_range
 have z_ValueError:mg "ValueError" = none:=PySem.W.mg_none_of X G y_ValueError
 have g_FIGURES:∃ t,mg "FIGURES" = some (.str "0123456789" t):=⟨t_FIGURES,PySem.W.mg_of X G h_FIGURES⟩
 have g_MOST_LETTERS:∃ t,mg "MOST_LETTERS" = some (.int 8 t):=⟨t_MOST_LETTERS,PySem.W.mg_of X G h_MOST_LETTERS⟩
 have g_LETTERS:∃ t,mg "LETTERS" = some (.str "abcdefghijklmnopqrstuvwxyz" t):=⟨t_LETTERS,PySem.W.mg_of X G h_LETTERS⟩
 have g_MOST_AROUND:∃ t,mg "MOST_AROUND" = some (.int 8 t):=⟨t_MOST_AROUND,PySem.W.mg_of X G h_MOST_AROUND⟩
 have g_MOST_LINES:∃ t,mg "MOST_LINES" = some (.int 60 t):=⟨t_MOST_LINES,PySem.W.mg_of X G h_MOST_LINES⟩
 have g_MOST_LENDS:∃ t,mg "MOST_LENDS" = some (.int 3 t):=⟨t_MOST_LENDS,PySem.W.mg_of X G h_MOST_LENDS⟩
 have g_MOST_NAMES:∃ t,mg "MOST_NAMES" = some (.int 4 t):=⟨t_MOST_NAMES,PySem.W.mg_of X G h_MOST_NAMES⟩
 have g_MOST_FIGURES:∃ t,mg "MOST_FIGURES" = some (.int 60 t):=⟨t_MOST_FIGURES,PySem.W.mg_of X G h_MOST_FIGURES⟩
 have x_NoText:eU K mg "NoText" C_NoText:=⟨⟨xq_NoText,xs_NoText,xc_NoText⟩,PySem.W.mg_of X G n_NoText⟩
 have x_NoRule:eU K mg "NoRule" C_NoRule:=⟨⟨xq_NoRule,xs_NoRule,xc_NoRule⟩,PySem.W.mg_of X G n_NoRule⟩
 have x_NoFit:eU K mg "NoFit" C_NoFit:=⟨⟨xq_NoFit,xs_NoFit,xc_NoFit⟩,PySem.W.mg_of X G n_NoFit⟩
 have x_TooGreat:eU K mg "TooGreat" C_TooGreat:=⟨⟨xq_TooGreat,xs_TooGreat,xc_TooGreat⟩,PySem.W.mg_of X G n_TooGreat⟩
 have x_UseError:eU K mg "UseError" C_UseError:=⟨⟨xq_UseError,xs_UseError,xc_UseError⟩,PySem.W.mg_of X G n_UseError⟩
 have x_Breach:zy mg "Breach" C_Breach:=⟨PySem.W.mg_of X G n_Breach⟩
 have g_PARTS:mg "PARTS" = some (.ref d_PARTS):=PySem.W.mg_of X G h_PARTS
 have m_PARTS:ModD w K d_PARTS [("open", .ref a_PARTS_0),("do", .ref a_PARTS_1),("copy", .ref a_PARTS_2),("drop", .ref a_PARTS_3),("tie", .ref a_PARTS_4),("lend", .ref a_PARTS_5),("if", .ref a_PARTS_6),("while", .ref a_PARTS_7)]:=⟨dz_PARTS,(show (["open", "do", "copy", "drop", "tie", "lend", "if", "while"]:List Str).Nodup from by decide),_,[⟨PyData.keyHash w.params "open", .str "open" k_PARTS_0,.ref a_PARTS_0⟩,⟨PyData.keyHash w.params "do", .str "do" k_PARTS_1,.ref a_PARTS_1⟩,⟨PyData.keyHash w.params "copy", .str "copy" k_PARTS_2,.ref a_PARTS_2⟩,⟨PyData.keyHash w.params "drop", .str "drop" k_PARTS_3,.ref a_PARTS_3⟩,⟨PyData.keyHash w.params "tie", .str "tie" k_PARTS_4,.ref a_PARTS_4⟩,⟨PyData.keyHash w.params "lend", .str "lend" k_PARTS_5,.ref a_PARTS_5⟩,⟨PyData.keyHash w.params "if", .str "if" k_PARTS_6,.ref a_PARTS_6⟩,⟨PyData.keyHash w.params "while", .str "while" k_PARTS_7,.ref a_PARTS_7⟩],n_PARTS,ld_PARTS,⟨rfl,rfl,rfl⟩,rfl,.cons rfl (.cons rfl (.cons rfl (.cons rfl (.cons rfl (.cons rfl (.cons rfl (.cons rfl (.nil))))))))⟩
 have q_PARTS_0:∀ H:Hp,SqT K H a_PARTS_0 [.str "name"]:=fun H=>.inr ⟨_,_,_,la_PARTS_0,rfl,rfl,ao (show 1≤1000000 from by decide),.cons ⟨_,rfl⟩ (.nil)⟩
 have q_PARTS_1:∀ H:Hp,SqT K H a_PARTS_1 [.str "word", .str "name"]:=fun H=>.inr ⟨_,_,_,la_PARTS_1,rfl,rfl,ao (show 2≤1000000 from by decide),.cons ⟨_,rfl⟩ (.cons ⟨_,rfl⟩ (.nil))⟩
 have q_PARTS_2:∀ H:Hp,SqT K H a_PARTS_2 [.str "name", .str "name"]:=fun H=>.inr ⟨_,_,_,la_PARTS_2,rfl,rfl,ao (show 2≤1000000 from by decide),.cons ⟨_,rfl⟩ (.cons ⟨_,rfl⟩ (.nil))⟩
 have q_PARTS_3:∀ H:Hp,SqT K H a_PARTS_3 [.str "name"]:=fun H=>.inr ⟨_,_,_,la_PARTS_3,rfl,rfl,ao (show 1≤1000000 from by decide),.cons ⟨_,rfl⟩ (.nil)⟩
 have q_PARTS_4:∀ H:Hp,SqT K H a_PARTS_4 [.str "name", .str "name"]:=fun H=>.inr ⟨_,_,_,la_PARTS_4,rfl,rfl,ao (show 2≤1000000 from by decide),.cons ⟨_,rfl⟩ (.cons ⟨_,rfl⟩ (.nil))⟩
 have q_PARTS_5:∀ H:Hp,SqT K H a_PARTS_5 [.str "name", .str "name", .str "steps"]:=fun H=>.inr ⟨_,_,_,la_PARTS_5,rfl,rfl,ao (show 3≤1000000 from by decide),.cons ⟨_,rfl⟩ (.cons ⟨_,rfl⟩ (.cons ⟨_,rfl⟩ (.nil)))⟩
 have q_PARTS_6:∀ H:Hp,SqT K H a_PARTS_6 [.str "bound", .str "steps", .str "steps"]:=fun H=>.inr ⟨_,_,_,la_PARTS_6,rfl,rfl,ao (show 3≤1000000 from by decide),.cons ⟨_,rfl⟩ (.cons ⟨_,rfl⟩ (.cons ⟨_,rfl⟩ (.nil)))⟩
 have q_PARTS_7:∀ H:Hp,SqT K H a_PARTS_7 [.str "bound", .str "steps"]:=fun H=>.inr ⟨_,_,_,la_PARTS_7,rfl,rfl,ao (show 2≤1000000 from by decide),.cons ⟨_,rfl⟩ (.cons ⟨_,rfl⟩ (.nil))⟩
 have g_CLOSERS:mg "CLOSERS" = some (.ref d_CLOSERS):=PySem.W.mg_of X G h_CLOSERS
 have m_CLOSERS:ModD w K d_CLOSERS [("lend", .ref a_CLOSERS_0),("if", .ref a_CLOSERS_1),("while", .ref a_CLOSERS_2)]:=⟨dz_CLOSERS,(show (["lend", "if", "while"]:List Str).Nodup from by decide),_,[⟨PyData.keyHash w.params "lend", .str "lend" k_CLOSERS_0,.ref a_CLOSERS_0⟩,⟨PyData.keyHash w.params "if", .str "if" k_CLOSERS_1,.ref a_CLOSERS_1⟩,⟨PyData.keyHash w.params "while", .str "while" k_CLOSERS_2,.ref a_CLOSERS_2⟩],n_CLOSERS,ld_CLOSERS,⟨rfl,rfl,rfl⟩,rfl,.cons rfl (.cons rfl (.cons rfl (.nil)))⟩
 have q_CLOSERS_0:∀ H:Hp,SqT K H a_CLOSERS_0 [.str "back"]:=fun H=>.inr ⟨_,_,_,la_CLOSERS_0,rfl,rfl,ao (show 1≤1000000 from by decide),.cons ⟨_,rfl⟩ (.nil)⟩
 have q_CLOSERS_1:∀ H:Hp,SqT K H a_CLOSERS_1 [.str "else", .str "fi"]:=fun H=>.inr ⟨_,_,_,la_CLOSERS_1,rfl,rfl,ao (show 2≤1000000 from by decide),.cons ⟨_,rfl⟩ (.cons ⟨_,rfl⟩ (.nil))⟩
 have q_CLOSERS_2:∀ H:Hp,SqT K H a_CLOSERS_2 [.str "done"]:=fun H=>.inr ⟨_,_,_,la_CLOSERS_2,rfl,rfl,ao (show 1≤1000000 from by decide),.cons ⟨_,rfl⟩ (.nil)⟩
 have g_ENDS:mg "ENDS" = some (.ref a_ENDS):=PySem.W.mg_of X G h_ENDS
 have q_ENDS:∀ H:Hp,SqT K H a_ENDS [.str "back", .str "else", .str "fi", .str "done"]:=fun H=>.inr ⟨_,_,_,la_ENDS,rfl,rfl,ao (show 4≤1000000 from by decide),.cons ⟨_,rfl⟩ (.cons ⟨_,rfl⟩ (.cons ⟨_,rfl⟩ (.cons ⟨_,rfl⟩ (.nil))))⟩
 have F:=bI (st:=bE) l30 c30 k30
 refine⟨PySem.W.fnOf "law" "law" (defArgs bE) (defBody bE) (defScope bE) .none kV30 dc30 pm30 an30 cd30 ct30,fun s v=>.of_eq rfl,fun base _ _=>?_⟩
 have c1:=Ag (P:=l.prog) (w:=w) (base:=base) D_law_cell_at z_len
 have d1:=tW (P:=l.prog) (w:=w) (base:=base) D_closers_of g_CLOSERS m_CLOSERS q_CLOSERS_0 q_CLOSERS_1 q_CLOSERS_2
 have d2:=zF D_head_of z_len d1
 have d3:=vV D_blocks_of z_len d2
 have d4:=rg D_lines_of z_str z_zip d1 d2 d3 10
 have e1:=zN D_is_part z_isinstance z_list (xA D_is_bound z_abs (yu (P:=l.prog) (w:=w) (base:=base) D_is_whole z_isinstance z_int z_bool)) (tY D_is_word z_isinstance z_str z_len z_all g_MOST_LETTERS g_LETTERS)
 have e2:=AD D_is_like_step z_isinstance z_tuple z_str z_len z_all z_zip e1 g_PARTS m_PARTS (xk q_PARTS_0 q_PARTS_1 q_PARTS_2 q_PARTS_3 q_PARTS_4 q_PARTS_5 q_PARTS_6 q_PARTS_7)
 have e3:=ny D_gathers_steps z_len g_MOST_AROUND g_MOST_LINES e2 d3 10
 have d5:=ub (P:=l.prog) (w:=w) (base:=base) D_names_in z_zip z_list g_PARTS m_PARTS (yy q_PARTS_0 q_PARTS_1 q_PARTS_2 q_PARTS_3 q_PARTS_4 q_PARTS_5 q_PARTS_6 q_PARTS_7)
 have e4:=w9 D_is_program z_isinstance z_list z_sum z_len g_MOST_LINES g_MOST_LENDS g_MOST_NAMES e3 d1 d5
 have h1:=ug D_bound_in g_MOST_FIGURES (xH (P:=l.prog) (w:=w) (base:=base) D_number_in z_len z_all z_int g_FIGURES)
 have h2:=xI D_head_in z_tuple (vS D_bound_in g_MOST_FIGURES (Au (P:=l.prog) (w:=w) (base:=base) D_number_in z_len z_all z_int g_FIGURES))
 have r1:=xX D_read_program z_isinstance z_str z_len g_MOST_LINES x_NoText (wg D_lines_in) (fun nm=>qA (nm:=nm) D_steps_from D_step_from z_tuple z_len g_ENDS q_ENDS (wI D_head_in z_tuple h1) d1 10) (pc D_steps_from D_step_from z_tuple z_len g_ENDS q_ENDS h2 d1 61) e4 (z_ D_show_program d4)
 have f1:=uF D_law_refused z_isinstance z_ValueError x_NoText x_NoRule x_NoFit x_TooGreat x_UseError x_Breach kt_NoText_UseError kt_NoText_ValueError kt_NoText_NoRule kt_NoText_NoFit kt_NoText_TooGreat kt_NoText_Breach r1
 have s1:=uK D_law_spoiled z_len (rW (P:=l.prog) (w:=w) (base:=base) D_law_blocks z_len z_range) (yp D_law_put_in) (AC D_law_odd_line z_len) (zY D_law_odd_bound z_len) (zX D_law_too_much) (wv D_law_line_spoiled z_int)
 exact AQ F z_range z_isinstance z_list z_len c1 (Ac D_law_lines z_len z_int z_str) s1 f1 (r1.calm fun vs H Q E h=>by obtain⟨y,T,rfl,hy,hl,hT,q⟩:=h; exact⟨_,rfl,.inl ⟨y,rfl,hy,hl,q,fun H' no=>absurd ⟨T,hT⟩ no⟩⟩)
theorem walk{l:PySem.W.OpenLaw}{q:Program}{loose:List Str}{XP:(Str→Option Value)→Heap→Prop}{YP:World→Heap→Prop}{d:DefRec}{K:Params→PySem.W.Frag}(hn:l.most=some 63)(hdf:d.params.defaults=[])
  (hY:∀ (w:World) (h:Heap),YP w h→(K w.params).In h)
  (F:∀ (w:World) (mg:Str→Option Value) (fa:Addr) (h:Heap),(K w.params).In h→h.Ns mainGlobals mg→mg d.name=some (.ref fa)→
   ∃ fd:FuncData,(∀ (s:Shared) (u:Value),BindsTo s fd ⟨[u],[]⟩ [("_law_script", u)])∧∀ base:Heap,(K w.params).In base→base.Ns mainGlobals mg→jk l.prog w (K w.params) mg base nP 131 fa fd ["_law_script"] (pX (K w.params))) :
  PySem.W.WalkO q loose XP YP l.row.toRowW d [] (fun f vs=>PySem.call f vs):=
 L2.walk_of (n:=63) (k:=131) (x := "_law_script") (CX:=fun _=>nP) (sp:=fun w=>pX (K w.params)) hn (by decide) hdf ⟨rfl,by decide,by decide⟩ hY F (fun _ _ a ns hl _ hS=>⟨a,ns,rfl,hS,hl,fun _=>rfl⟩) fun _ _ _ _ _ z=>z
end K27
end
open PySem PySem.W PyProof.Rows
set_option maxRecDepth 100000 in
set_option maxHeartbeats 0 in
theorem PySem.Challenge.cw_usewarden_k27_texts_refused_holds : PySem.Challenge.rw_usewarden_k27_texts_refused.Holds := by
 w_on
 refine holds_law (by decide +kernel) fun said=>?_
 refine holds_open (q:=K27.qq) (loose:=K27.loo) (Xt:=K27.xt) (XP:=XL K27.qq []) (Yf:=Hook.obs (kHook K27.KK K27.kk K27.kk_eq)) (Ya:=Hook.val (kHook K27.KK K27.kk K27.kk_eq)) (YP:=Hook.says (kHook K27.KK K27.kk K27.kk_eq)) (N:=5270) K27.hl (Hook.of (kHook K27.KK K27.kk K27.kk_eq)) (Hook.keeps (kHook K27.KK K27.kk K27.kk_eq)) (fun s e=>xl_of s (Bool.and_eq_true_iff.mp e).1) XL.keeps (by rfl) (by rfl) (by rfl) (fun s e=>recFacts_of (Bool.and_eq_true_iff.mp e).2) (by rfl) said (by decide +kernel) ⟨rfl,rfl,rfl,rfl,rfl,by decide +kernel⟩ ?hw ?hc
 (case hw=>w_witness2)
 k_fill
 refine K27.walk (l:=PySem.Challenge.rw_usewarden_k27_texts_refused) rfl rfl (fun w h Y=>PySem.W.kIn_of Y) ?F
 case F=>
  intro w mg fa h KX G hmg
  refine' K27.all_mk KX G hmg ?a0 ?l0 ?c0 ?k0 ?a1 ?l1 ?c1 ?k1 ?a2 ?l2 ?c2 ?k2 ?a3 ?l3 ?c3 ?k3 ?a4 ?l4 ?c4 ?k4 ?a5 ?l5 ?c5 ?k5 ?a6 ?l6 ?c6 ?k6 ?a7 ?l7 ?c7 ?k7 ?a8 ?l8 ?c8 ?k8 ?a9 ?l9 ?c9 ?k9 ?a10 ?l10 ?c10 ?k10 ?a11 ?l11 ?c11 ?k11 ?a12 ?l12 ?c12 ?k12 ?a13 ?l13 ?c13 ?k13 ?a14 ?l14 ?c14 ?k14 ?a15 ?l15 ?c15 ?k15 ?a16 ?l16 ?c16 ?k16 ?a17 ?l17 ?c17 ?k17 ?a18 ?l18 ?c18 ?k18 ?a19 ?l19 ?c19 ?k19 ?a20 ?l20 ?c20 ?k20 ?a21 ?l21 ?c21 ?k21 ?a22 ?l22 ?c22 ?k22 ?a23 ?l23 ?c23 ?k23 ?a24 ?l24 ?c24 ?k24 ?a25 ?l25 ?c25 ?k25 ?a26 ?l26 ?c26 ?k26 ?a27 ?l27 ?c27 ?k27 ?a28 ?l28 ?c28 ?k28 ?a29 ?l29 ?c29 ?k29 ?a30 ?l30 ?c30 ?k30 ?y_isinstance ?y_int ?y_bool ?y_str ?y_list ?y_tuple ?y_len ?y_all ?y_zip ?y_abs ?y_sum ?y_range ?y_ValueError ?h_FIGURES ?h_MOST_LETTERS ?h_LETTERS ?h_MOST_AROUND ?h_MOST_LINES ?h_MOST_LENDS ?h_MOST_NAMES ?h_MOST_FIGURES ?n_NoText ?xq_NoText ?xs_NoText ?xc_NoText ?n_NoRule ?xq_NoRule ?xs_NoRule ?xc_NoRule ?n_NoFit ?xq_NoFit ?xs_NoFit ?xc_NoFit ?n_TooGreat ?xq_TooGreat ?xs_TooGreat ?xc_TooGreat ?n_UseError ?xq_UseError ?xs_UseError ?xc_UseError ?kt_NoText_UseError ?kt_NoText_ValueError ?kt_NoText_NoRule ?kt_NoText_NoFit ?kt_NoText_TooGreat ?n_Breach ?kt_NoText_Breach ?h_PARTS ?ld_PARTS ?la_PARTS_0 ?la_PARTS_1 ?la_PARTS_2 ?la_PARTS_3 ?la_PARTS_4 ?la_PARTS_5 ?la_PARTS_6 ?la_PARTS_7 ?dz_PARTS ?h_CLOSERS ?ld_CLOSERS ?la_CLOSERS_0 ?la_CLOSERS_1 ?la_CLOSERS_2 ?dz_CLOSERS ?h_ENDS ?la_ENDS
  (case a0=>k_is)
  (case l0=>k_is)
  (case c0=>k_is)
  (case k0=>k_is)
  (case a1=>k_is)
  (case l1=>k_is)
  (case c1=>k_is)
  (case k1=>k_is)
  (case a2=>k_is)
  (case l2=>k_is)
  (case c2=>k_is)
  (case k2=>k_is)
  (case a3=>k_is)
  (case l3=>k_is)
  (case c3=>k_is)
  (case k3=>k_is)
  (case a4=>k_is)
  (case l4=>k_is)
  (case c4=>k_is)
  (case k4=>k_is)
  (case a5=>k_is)
  (case l5=>k_is)
  (case c5=>k_is)
  (case k5=>k_is)
  (case a6=>k_is)
  (case l6=>k_is)
  (case c6=>k_is)
  (case k6=>k_is)
  (case a7=>k_is)
  (case l7=>k_is)
  (case c7=>k_is)
  (case k7=>k_is)
  (case a8=>k_is)
  (case l8=>k_is)
  (case c8=>k_is)
  (case k8=>k_is)
  (case a9=>k_is)
  (case l9=>k_is)
  (case c9=>k_is)
  (case k9=>k_is)
  (case a10=>k_is)
  (case l10=>k_is)
  (case c10=>k_is)
  (case k10=>k_is)
  (case a11=>k_is)
  (case l11=>k_is)
  (case c11=>k_is)
  (case k11=>k_is)
  (case a12=>k_is)
  (case l12=>k_is)
  (case c12=>k_is)
  (case k12=>k_is)
  (case a13=>k_is)
  (case l13=>k_is)
  (case c13=>k_is)
  (case k13=>k_is)
  (case a14=>k_is)
  (case l14=>k_is)
  (case c14=>k_is)
  (case k14=>k_is)
  (case a15=>k_is)
  (case l15=>k_is)
  (case c15=>k_is)
  (case k15=>k_is)
  (case a16=>k_is)
  (case l16=>k_is)
  (case c16=>k_is)
  (case k16=>k_is)
  (case a17=>k_is)
  (case l17=>k_is)
  (case c17=>k_is)
  (case k17=>k_is)
  (case a18=>k_is)
  (case l18=>k_is)
  (case c18=>k_is)
  (case k18=>k_is)
  (case a19=>k_is)
  (case l19=>k_is)
  (case c19=>k_is)
  (case k19=>k_is)
  (case a20=>k_is)
  (case l20=>k_is)
  (case c20=>k_is)
  (case k20=>k_is)
  (case a21=>k_is)
  (case l21=>k_is)
  (case c21=>k_is)
  (case k21=>k_is)
  (case a22=>k_is)
  (case l22=>k_is)
  (case c22=>k_is)
  (case k22=>k_is)
  (case a23=>k_is)
  (case l23=>k_is)
  (case c23=>k_is)
  (case k23=>k_is)
  (case a24=>k_is)
  (case l24=>k_is)
  (case c24=>k_is)
  (case k24=>k_is)
  (case a25=>k_is)
  (case l25=>k_is)
  (case c25=>k_is)
  (case k25=>k_is)
  (case a26=>k_is)
  (case l26=>k_is)
  (case c26=>k_is)
  (case k26=>k_is)
  (case a27=>k_is)
  (case l27=>k_is)
  (case c27=>k_is)
  (case k27=>k_is)
  (case a28=>k_is)
  (case l28=>k_is)
  (case c28=>k_is)
  (case k28=>k_is)
  (case a29=>k_is)
  (case l29=>k_is)
  (case c29=>k_is)
  (case k29=>k_is)
  (case a30=>k_is)
  (case l30=>k_is)
  (case c30=>k_is)
  (case k30=>k_is)
  (case y_isinstance=>k_is)
  (case y_int=>k_is)
  (case y_bool=>k_is)
  (case y_str=>k_is)
  (case y_list=>k_is)
  (case y_tuple=>k_is)
  (case y_len=>k_is)
  (case y_all=>k_is)
  (case y_zip=>k_is)
  (case y_abs=>k_is)
  (case y_sum=>k_is)
  (case y_range=>k_is)
  (case y_ValueError=>k_is)
  (case h_FIGURES=>k_is)
  (case h_MOST_LETTERS=>k_is)
  (case h_LETTERS=>k_is)
  (case h_MOST_AROUND=>k_is)
  (case h_MOST_LINES=>k_is)
  (case h_MOST_LENDS=>k_is)
  (case h_MOST_NAMES=>k_is)
  (case h_MOST_FIGURES=>k_is)
  (case n_NoText=>k_is)
  (case xq_NoText=>kernel_rfl)
  (case xs_NoText=>k_is)
  (case xc_NoText=>k_is)
  (case n_NoRule=>k_is)
  (case xq_NoRule=>kernel_rfl)
  (case xs_NoRule=>k_is)
  (case xc_NoRule=>k_is)
  (case n_NoFit=>k_is)
  (case xq_NoFit=>kernel_rfl)
  (case xs_NoFit=>k_is)
  (case xc_NoFit=>k_is)
  (case n_TooGreat=>k_is)
  (case xq_TooGreat=>kernel_rfl)
  (case xs_TooGreat=>k_is)
  (case xc_TooGreat=>k_is)
  (case n_UseError=>k_is)
  (case xq_UseError=>kernel_rfl)
  (case xs_UseError=>k_is)
  (case xc_UseError=>k_is)
  (case kt_NoText_UseError=>kernel_rfl)
  (case kt_NoText_ValueError=>kernel_rfl)
  (case kt_NoText_NoRule=>kernel_rfl)
  (case kt_NoText_NoFit=>kernel_rfl)
  (case kt_NoText_TooGreat=>kernel_rfl)
  (case n_Breach=>k_is)
  (case kt_NoText_Breach=>kernel_rfl)
  (case h_PARTS=>k_is)
  (case ld_PARTS=>k_is)
  (case la_PARTS_0=>k_is)
  (case la_PARTS_1=>k_is)
  (case la_PARTS_2=>k_is)
  (case la_PARTS_3=>k_is)
  (case la_PARTS_4=>k_is)
  (case la_PARTS_5=>k_is)
  (case la_PARTS_6=>k_is)
  (case la_PARTS_7=>k_is)
  (case dz_PARTS=>decide)
  (case h_CLOSERS=>k_is)
  (case ld_CLOSERS=>k_is)
  (case la_CLOSERS_0=>k_is)
  (case la_CLOSERS_1=>k_is)
  (case la_CLOSERS_2=>k_is)
  (case dz_CLOSERS=>decide)
  (case h_ENDS=>k_is)
  (case la_ENDS=>k_is)
#print axioms PySem.Challenge.cw_usewarden_k27_texts_refused_holds
