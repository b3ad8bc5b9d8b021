import PyProof.Rows.All
import Wide.All
import OpenK.AllK
import Wide.FinOn
import Lean
import PyProof.EqAt
import PyProof.EqKinds
import PyProof.TupleCall
import PyProof.SetScanFacts
import PyProof.SetKind
import PyProof.SetRoads
import PyProof.Rows.SetFrom
import PyProof.FactsBase
import PyProof.TableTree
import PyProof.FactsTree
import PyProof.PlainAttrs
import PyProof.FactsAll.set_1
import PyProof.CollectIter
import PyProof.FactsAll.set
import PyProof.ZipIter
import PyProof.EnumIter
import PyProof.TupleIter
import KE.KRevIter
import KE.KDictList
import PyProof.Rows.SumAny
import KE.KIntText
import PyProof.StrLawsTight
import PyProof.StrLawsChain
import PyProof.Rows.SortStr
import PyProof.Rows.StrNews2
import PyProof.StrLawsFirst
import PyProof.AutoSeq1
import KE.KDictOf
import PyProof.DictItems
import PyProof.NeKinds
import KE.KPairComp
import PyProof.FactsAll.tuple_2
import PyProof.FactsAll.tuple_3
import KE.KDictLaws
import PyProof.FactsAll.dict_3
import PyProof.MinMaxWalk
import PyProof.WalkInts
import PySem.Challenge.RW_usewarden_k37_turned_code_goes_alike
set_option Elab.async false
set_option linter.all false
set_option maxRecDepth 100000
set_option maxHeartbeats 4000000
namespace L2
open PySem
def inClass(s:Stmt)(j:Nat):Stmt:=match s with
 | .ClassDef _ _ _ body _ _ _ _ _ _ _=>body.getD j (.Pass ⟨0,0,0,0⟩)
 | _=>.Pass ⟨0,0,0,0⟩
def defArgs(s:Stmt):Arguments:=match s with
 | .FunctionDef _ a _ _ _ _ _ _ _ _=>a
 | _=>{ posonlyargs:=[],args:=[],vararg:=none,kwonlyargs:=[],kw_defaults:=[],kwarg:=none,defaults:=[] }
def defBody(s:Stmt):List Stmt:=match s with
 | .FunctionDef _ _ b _ _ _ _ _ _ _=>b
 | _=>[]
def defScope(s:Stmt):Scope:=match s with
 | .FunctionDef _ _ _ _ _ _ sc _ _ _=>sc
 | _=>{ kind:=.function,names:=[],isGenerator:=false,isCoroutine:=false }
end L2
namespace K37
open PySem PySem.W
def av (i:Nat):Stmt:=PySem.Challenge.pw_usewarden_k37_turned_code_goes_alike.main.body.getD i (.Pass ⟨0,0,0,0⟩)
noncomputable def KK(P:Params):Frag:=
 (nat_lit 2,⟨.none,none,.dict #[] 0,#[]⟩) ::
 (nat_lit 3,⟨.type "dict", none,.dict #[⟨PyData.keyHash P "__name__", .str "__name__" 165,.str "law_usewarden_k37_turned_code_goes_alike" 470⟩,⟨PyData.keyHash P "__doc__", .str "__doc__" 166,.none⟩,⟨PyData.keyHash P "__package__", .str "__package__" 167,.none⟩,⟨PyData.keyHash P "__loader__", .str "__loader__" 168,.builtin "__main__.__loader__#opaque"⟩,⟨PyData.keyHash P "__spec__", .str "__spec__" 169,.none⟩,⟨PyData.keyHash P "__annotations__", .str "__annotations__" 170,.ref 6⟩,⟨PyData.keyHash P "__builtins__", .str "__builtins__" 171,.ref 4⟩,⟨PyData.keyHash P "__file__", .str "__file__" 173,.str "/claim/cut.py" 172⟩,⟨PyData.keyHash P "__cached__", .str "__cached__" 174,.none⟩,⟨PyData.keyHash P "PARTS", .str "PARTS" 221,.ref 15⟩,⟨PyData.keyHash P "CLOSERS", .str "CLOSERS" 232,.ref 24⟩,⟨PyData.keyHash P "closers_of", .str "closers_of" 239,.ref 34⟩,⟨PyData.keyHash P "head_of", .str "head_of" 246,.ref 41⟩,⟨PyData.keyHash P "blocks_of", .str "blocks_of" 253,.ref 48⟩,⟨PyData.keyHash P "steps_within", .str "steps_within" 263,.ref 55⟩,⟨PyData.keyHash P "names_in", .str "names_in" 274,.ref 62⟩,⟨PyData.keyHash P "lines_of", .str "lines_of" 280,.ref 67⟩,⟨PyData.keyHash P "names_of", .str "names_of" 287,.ref 74⟩,⟨PyData.keyHash P "NumberedStep", .str "NumberedStep" 323,.ref 91⟩,⟨PyData.keyHash P "line_behind", .str "line_behind" 331,.ref 102⟩,⟨PyData.keyHash P "numbered_step", .str "numbered_step" 343,.ref 109⟩,⟨PyData.keyHash P "numbered_steps", .str "numbered_steps" 353,.ref 116⟩,⟨PyData.keyHash P "lend_lines", .str "lend_lines" 361,.ref 121⟩,⟨PyData.keyHash P "slots_of", .str "slots_of" 371,.ref 128⟩,⟨PyData.keyHash P "simple_row", .str "simple_row" 377,.ref 133⟩,⟨PyData.keyHash P "lend_rows", .str "lend_rows" 394,.ref 140⟩,⟨PyData.keyHash P "if_rows", .str "if_rows" 409,.ref 147⟩,⟨PyData.keyHash P "loop_rows", .str "loop_rows" 420,.ref 154⟩,⟨PyData.keyHash P "while_rows", .str "while_rows" 433,.ref 161⟩,⟨PyData.keyHash P "rows_of", .str "rows_of" 446,.ref 168⟩,⟨PyData.keyHash P "rows_and_end", .str "rows_and_end" 455,.ref 175⟩,⟨PyData.keyHash P "code_of", .str "code_of" 462,.ref 182⟩,⟨PyData.keyHash P "turned_code", .str "turned_code" 469,.ref 189⟩,⟨PyData.keyHash P "_law_cell_at", .str "_law_cell_at" 479,.ref 196⟩,⟨PyData.keyHash P "_law_names", .str "_law_names" 485,.ref 201⟩,⟨PyData.keyHash P "_law_bound", .str "_law_bound" 493,.ref 208⟩,⟨PyData.keyHash P "_law_step", .str "_law_step" 505,.ref 215⟩,⟨PyData.keyHash P "_law_begun", .str "_law_begun" 520,.ref 222⟩,⟨PyData.keyHash P "_law_program", .str "_law_program" 526,.ref 227⟩,⟨PyData.keyHash P "_law_shown", .str "_law_shown" 535,.ref 234⟩,⟨PyData.keyHash P "_law_alike", .str "_law_alike" 543,.ref 241⟩,⟨PyData.keyHash P "_law_nexts", .str "_law_nexts" 551,.ref 248⟩,⟨PyData.keyHash P "_law_matched", .str "_law_matched" 563,.ref 255⟩,⟨PyData.keyHash P "law", .str "law" 569,.ref 260⟩] 44,#[]⟩) ::
 (nat_lit 15,⟨.type "dict", none,.dict #[⟨PyData.keyHash P "open", .str "open" 189,.ref 16⟩,⟨PyData.keyHash P "do", .str "do" 191,.ref 17⟩,⟨PyData.keyHash P "copy", .str "copy" 194,.ref 18⟩,⟨PyData.keyHash P "drop", .str "drop" 197,.ref 19⟩,⟨PyData.keyHash P "tie", .str "tie" 199,.ref 20⟩,⟨PyData.keyHash P "lend", .str "lend" 202,.ref 21⟩,⟨PyData.keyHash P "if", .str "if" 206,.ref 22⟩,⟨PyData.keyHash P "while", .str "while" 210,.ref 23⟩] 8,#[]⟩) ::
 (nat_lit 16,⟨.type "tuple", none,.seq #[.str "name" 190] 0,#[]⟩) ::
 (nat_lit 17,⟨.type "tuple", none,.seq #[.str "word" 192,.str "name" 193] 0,#[]⟩) ::
 (nat_lit 18,⟨.type "tuple", none,.seq #[.str "name" 195,.str "name" 196] 0,#[]⟩) ::
 (nat_lit 19,⟨.type "tuple", none,.seq #[.str "name" 198] 0,#[]⟩) ::
 (nat_lit 20,⟨.type "tuple", none,.seq #[.str "name" 200,.str "name" 201] 0,#[]⟩) ::
 (nat_lit 21,⟨.type "tuple", none,.seq #[.str "name" 203,.str "name" 204,.str "steps" 205] 0,#[]⟩) ::
 (nat_lit 22,⟨.type "tuple", none,.seq #[.str "bound" 207,.str "steps" 208,.str "steps" 209] 0,#[]⟩) ::
 (nat_lit 23,⟨.type "tuple", none,.seq #[.str "bound" 211,.str "steps" 212] 0,#[]⟩) ::
 (nat_lit 24,⟨.type "dict", none,.dict #[⟨PyData.keyHash P "lend", .str "lend" 222,.ref 25⟩,⟨PyData.keyHash P "if", .str "if" 224,.ref 26⟩,⟨PyData.keyHash P "while", .str "while" 227,.ref 27⟩] 3,#[]⟩) ::
 (nat_lit 25,⟨.type "tuple", none,.seq #[.str "back" 223] 0,#[]⟩) ::
 (nat_lit 26,⟨.type "tuple", none,.seq #[.str "else" 225,.str "fi" 226] 0,#[]⟩) ::
 (nat_lit 27,⟨.type "tuple", none,.seq #[.str "done" 228] 0,#[]⟩) ::
 (nat_lit 28,⟨.type "tuple", none,.seq #[] 0,#[]⟩) ::
 (nat_lit 30,⟨.type "tuple", none,.seq #[.str "kind" 236] 0,#[]⟩) ::
 (nat_lit 31,⟨.type "tuple", none,.seq #[] 0,#[]⟩) ::
 (nat_lit 33,⟨.type "code", none,.fields #[.str "closers_of" 233,.str "closers_of" 234,.str "/claim/cut.py" 235,.int 4 0,.int 1 0,.int 0 0,.int 0 0,.int 3 0,.ref 28,.bool true,.int 181 0,.ref 29,.none,.ref 30,.ref 31,.ref 32,.int 237 0,.int 4 0,.str "/claim/cut.py" 238],#[]⟩) ::
 (nat_lit 34,⟨.type "function", none,.func ⟨"closers_of", "closers_of", L2.defArgs (av 3),.stmts (L2.defBody (av 3)),L2.defScope (av 3),3,[],.none,.none,.none,.str "usewarden.programs" 187,none,.ref 33,.none,0⟩,#[]⟩) ::
 (nat_lit 35,⟨.type "tuple", none,.seq #[] 0,#[]⟩) ::
 (nat_lit 37,⟨.type "tuple", none,.seq #[.str "step" 243] 0,#[]⟩) ::
 (nat_lit 38,⟨.type "tuple", none,.seq #[] 0,#[]⟩) ::
 (nat_lit 40,⟨.type "code", none,.fields #[.str "head_of" 240,.str "head_of" 241,.str "/claim/cut.py" 242,.int 6 0,.int 1 0,.int 0 0,.int 0 0,.int 3 0,.ref 35,.bool true,.int 181 0,.ref 36,.none,.ref 37,.ref 38,.ref 39,.int 244 0,.int 6 0,.str "/claim/cut.py" 245],#[]⟩) ::
 (nat_lit 41,⟨.type "function", none,.func ⟨"head_of", "head_of", L2.defArgs (av 4),.stmts (L2.defBody (av 4)),L2.defScope (av 4),3,[],.none,.none,.none,.str "usewarden.programs" 187,none,.ref 40,.none,0⟩,#[]⟩) ::
 (nat_lit 42,⟨.type "tuple", none,.seq #[] 0,#[]⟩) ::
 (nat_lit 44,⟨.type "tuple", none,.seq #[.str "step" 250] 0,#[]⟩) ::
 (nat_lit 45,⟨.type "tuple", none,.seq #[] 0,#[]⟩) ::
 (nat_lit 47,⟨.type "code", none,.fields #[.str "blocks_of" 247,.str "blocks_of" 248,.str "/claim/cut.py" 249,.int 8 0,.int 1 0,.int 0 0,.int 0 0,.int 3 0,.ref 42,.bool true,.int 181 0,.ref 43,.none,.ref 44,.ref 45,.ref 46,.int 251 0,.int 8 0,.str "/claim/cut.py" 252],#[]⟩) ::
 (nat_lit 48,⟨.type "function", none,.func ⟨"blocks_of", "blocks_of", L2.defArgs (av 5),.stmts (L2.defBody (av 5)),L2.defScope (av 5),3,[],.none,.none,.none,.str "usewarden.programs" 187,none,.ref 47,.none,0⟩,#[]⟩) ::
 (nat_lit 49,⟨.type "tuple", none,.seq #[] 0,#[]⟩) ::
 (nat_lit 51,⟨.type "tuple", none,.seq #[.str "program" 257,.str "steps" 258,.str "step" 259,.str "block" 260] 0,#[]⟩) ::
 (nat_lit 52,⟨.type "tuple", none,.seq #[] 0,#[]⟩) ::
 (nat_lit 54,⟨.type "code", none,.fields #[.str "steps_within" 254,.str "steps_within" 255,.str "/claim/cut.py" 256,.int 10 0,.int 1 0,.int 0 0,.int 0 0,.int 3 0,.ref 49,.bool true,.int 181 0,.ref 50,.none,.ref 51,.ref 52,.ref 53,.int 261 0,.int 10 0,.str "/claim/cut.py" 262],#[]⟩) ::
 (nat_lit 55,⟨.type "function", none,.func ⟨"steps_within", "steps_within", L2.defArgs (av 6),.stmts (L2.defBody (av 6)),L2.defScope (av 6),3,[],.none,.none,.none,.str "usewarden.programs" 187,none,.ref 54,.none,0⟩,#[]⟩) ::
 (nat_lit 56,⟨.type "tuple", none,.seq #[] 0,#[]⟩) ::
 (nat_lit 58,⟨.type "tuple", none,.seq #[.str "steps" 267,.str "names" 268,.str "step" 269,.str "part" 270,.str "kind" 271] 0,#[]⟩) ::
 (nat_lit 59,⟨.type "tuple", none,.seq #[] 0,#[]⟩) ::
 (nat_lit 61,⟨.type "code", none,.fields #[.str "names_in" 264,.str "names_in" 265,.str "/claim/cut.py" 266,.int 17 0,.int 1 0,.int 0 0,.int 0 0,.int 3 0,.ref 56,.bool true,.int 181 0,.ref 57,.none,.ref 58,.ref 59,.ref 60,.int 272 0,.int 17 0,.str "/claim/cut.py" 273],#[]⟩) ::
 (nat_lit 62,⟨.type "function", none,.func ⟨"names_in", "names_in", L2.defArgs (av 7),.stmts (L2.defBody (av 7)),L2.defScope (av 7),3,[],.none,.none,.none,.str "usewarden.programs" 187,none,.ref 61,.none,0⟩,#[]⟩) ::
 (nat_lit 63,⟨.type "tuple", none,.seq #[] 0,#[]⟩) ::
 (nat_lit 66,⟨.type "code", none,.fields #[.str "lines_of" 275,.str "lines_of" 276,.str "/claim/cut.py" 277,.int 24 0,.int 1 0,.int 0 0,.int 0 0,.int 3 0,.ref 63,.bool true,.int 181 0,.ref 64,.none,.none,.none,.ref 65,.int 278 0,.int 24 0,.str "/claim/cut.py" 279],#[]⟩) ::
 (nat_lit 67,⟨.type "function", none,.func ⟨"lines_of", "lines_of", L2.defArgs (av 8),.stmts (L2.defBody (av 8)),L2.defScope (av 8),3,[],.none,.none,.none,.str "usewarden.programs" 187,none,.ref 66,.none,0⟩,#[]⟩) ::
 (nat_lit 68,⟨.type "tuple", none,.seq #[] 0,#[]⟩) ::
 (nat_lit 70,⟨.type "tuple", none,.seq #[.str "program" 284] 0,#[]⟩) ::
 (nat_lit 71,⟨.type "tuple", none,.seq #[] 0,#[]⟩) ::
 (nat_lit 73,⟨.type "code", none,.fields #[.str "names_of" 281,.str "names_of" 282,.str "/claim/cut.py" 283,.int 32 0,.int 1 0,.int 0 0,.int 0 0,.int 3 0,.ref 68,.bool true,.int 181 0,.ref 69,.none,.ref 70,.ref 71,.ref 72,.int 285 0,.int 32 0,.str "/claim/cut.py" 286],#[]⟩) ::
 (nat_lit 74,⟨.type "function", none,.func ⟨"names_of", "names_of", L2.defArgs (av 9),.stmts (L2.defBody (av 9)),L2.defScope (av 9),3,[],.none,.none,.none,.str "usewarden.programs" 187,none,.ref 73,.none,0⟩,#[]⟩) ::
 (nat_lit 82,⟨.type "tuple", none,.seq #[] 0,#[]⟩) ::
 (nat_lit 84,⟨.type "tuple", none,.seq #[.str "self" 305,.str "head" 306,.str "lines" 307,.str "blocks" 308] 0,#[]⟩) ::
 (nat_lit 85,⟨.type "tuple", none,.seq #[] 0,#[]⟩) ::
 (nat_lit 87,⟨.type "code", none,.fields #[.str "__init__" 302,.str "NumberedStep.__init__" 303,.str "/claim/cut.py" 304,.int 37 0,.int 4 0,.int 0 0,.int 0 0,.int 3 0,.ref 82,.bool true,.int 181 0,.ref 83,.none,.ref 84,.ref 85,.ref 86,.int 309 0,.int 37 0,.str "/claim/cut.py" 310],#[]⟩) ::
 (nat_lit 88,⟨.type "function", none,.func ⟨"__init__", "NumberedStep.__init__", L2.defArgs (L2.inClass (av 11) 0),.stmts (L2.defBody (L2.inClass (av 11) 0)),L2.defScope (L2.inClass (av 11) 0),3,[],.none,.none,.none,.str "usewarden.numbered" 288,none,.ref 87,.none,0⟩,#[]⟩) ::
 (nat_lit 89,⟨.type "tuple", none,.seq #[.str "blocks" 312,.str "kind" 313,.str "lines" 314,.str "parts" 315] 0,#[]⟩) ::
 (nat_lit 90,⟨.type "dict", none,.dict #[⟨PyData.keyHash P "__module__", .str "__module__" 297,.str "usewarden.numbered" 288⟩,⟨PyData.keyHash P "__firstlineno__", .str "__firstlineno__" 301,.int 35 300⟩,⟨PyData.keyHash P "__init__", .str "__init__" 311,.ref 88⟩,⟨PyData.keyHash P "__static_attributes__", .str "__static_attributes__" 316,.ref 89⟩,⟨PyData.keyHash P "__dict__", .str "__dict__" 318,.ref 92⟩,⟨PyData.keyHash P "__weakref__", .str "__weakref__" 320,.ref 93⟩,⟨PyData.keyHash P "__doc__", .str "__doc__" 321,.none⟩] 4,#[]⟩) ::
 (nat_lit 91,⟨.type "type", none,.cls ⟨"NumberedStep", [.type "object"],[.ref 91,.type "object"],90, "NumberedStep", true,[],[],false,none,false⟩,#[none,none,some (.str "NumberedStep" 290),some (.str "NumberedStep" 298),some (.builtin "object.__new__"),some (.bool true)]⟩) ::
 (nat_lit 92,⟨.type "getset_descriptor", none,.fields #[.str "__dict__" 317,.ref 91,.builtin "function.__dict__", .builtin "function.__dict__#set"],#[]⟩) ::
 (nat_lit 93,⟨.type "getset_descriptor", none,.fields #[.str "__weakref__" 319,.ref 91,.builtin "ExceptionGroup.__weakref__", .none],#[]⟩) ::
 (nat_lit 96,⟨.type "tuple", none,.seq #[] 0,#[]⟩) ::
 (nat_lit 98,⟨.type "tuple", none,.seq #[.str "steps" 327,.str "line" 328] 0,#[]⟩) ::
 (nat_lit 99,⟨.type "tuple", none,.seq #[] 0,#[]⟩) ::
 (nat_lit 101,⟨.type "code", none,.fields #[.str "line_behind" 324,.str "line_behind" 325,.str "/claim/cut.py" 326,.int 42 0,.int 2 0,.int 0 0,.int 0 0,.int 3 0,.ref 96,.bool true,.int 181 0,.ref 97,.none,.ref 98,.ref 99,.ref 100,.int 329 0,.int 42 0,.str "/claim/cut.py" 330],#[]⟩) ::
 (nat_lit 102,⟨.type "function", none,.func ⟨"line_behind", "line_behind", L2.defArgs (av 12),.stmts (L2.defBody (av 12)),L2.defScope (av 12),3,[],.none,.none,.none,.str "usewarden.numbered" 288,none,.ref 101,.none,0⟩,#[]⟩) ::
 (nat_lit 103,⟨.type "tuple", none,.seq #[] 0,#[]⟩) ::
 (nat_lit 105,⟨.type "tuple", none,.seq #[.str "step" 335,.str "line" 336,.str "lines" 337,.str "blocks" 338,.str "block" 339,.str "steps" 340] 0,#[]⟩) ::
 (nat_lit 106,⟨.type "tuple", none,.seq #[] 0,#[]⟩) ::
 (nat_lit 108,⟨.type "code", none,.fields #[.str "numbered_step" 332,.str "numbered_step" 333,.str "/claim/cut.py" 334,.int 44 0,.int 2 0,.int 0 0,.int 0 0,.int 3 0,.ref 103,.bool true,.int 181 0,.ref 104,.none,.ref 105,.ref 106,.ref 107,.int 341 0,.int 44 0,.str "/claim/cut.py" 342],#[]⟩) ::
 (nat_lit 109,⟨.type "function", none,.func ⟨"numbered_step", "numbered_step", L2.defArgs (av 13),.stmts (L2.defBody (av 13)),L2.defScope (av 13),3,[],.none,.none,.none,.str "usewarden.numbered" 288,none,.ref 108,.none,0⟩,#[]⟩) ::
 (nat_lit 110,⟨.type "tuple", none,.seq #[] 0,#[]⟩) ::
 (nat_lit 112,⟨.type "tuple", none,.seq #[.str "steps" 347,.str "line" 348,.str "numbered" 349,.str "step" 350] 0,#[]⟩) ::
 (nat_lit 113,⟨.type "tuple", none,.seq #[] 0,#[]⟩) ::
 (nat_lit 115,⟨.type "code", none,.fields #[.str "numbered_steps" 344,.str "numbered_steps" 345,.str "/claim/cut.py" 346,.int 52 0,.int 2 0,.int 0 0,.int 0 0,.int 3 0,.ref 110,.bool true,.int 181 0,.ref 111,.none,.ref 112,.ref 113,.ref 114,.int 351 0,.int 52 0,.str "/claim/cut.py" 352],#[]⟩) ::
 (nat_lit 116,⟨.type "function", none,.func ⟨"numbered_steps", "numbered_steps", L2.defArgs (av 14),.stmts (L2.defBody (av 14)),L2.defScope (av 14),3,[],.none,.none,.none,.str "usewarden.numbered" 288,none,.ref 115,.none,0⟩,#[]⟩) ::
 (nat_lit 117,⟨.type "tuple", none,.seq #[] 0,#[]⟩) ::
 (nat_lit 120,⟨.type "code", none,.fields #[.str "lend_lines" 356,.str "lend_lines" 357,.str "/claim/cut.py" 358,.int 58 0,.int 1 0,.int 0 0,.int 0 0,.int 3 0,.ref 117,.bool true,.int 181 0,.ref 118,.none,.none,.none,.ref 119,.int 359 0,.int 58 0,.str "/claim/cut.py" 360],#[]⟩) ::
 (nat_lit 121,⟨.type "function", none,.func ⟨"lend_lines", "lend_lines", L2.defArgs (av 16),.stmts (L2.defBody (av 16)),L2.defScope (av 16),3,[],.none,.none,.none,.str "usewarden.codes" 354,none,.ref 120,.none,0⟩,#[]⟩) ::
 (nat_lit 122,⟨.type "tuple", none,.seq #[] 0,#[]⟩) ::
 (nat_lit 124,⟨.type "tuple", none,.seq #[.str "program" 365,.str "slots" 366,.str "slot" 367,.str "holder" 368] 0,#[]⟩) ::
 (nat_lit 125,⟨.type "tuple", none,.seq #[] 0,#[]⟩) ::
 (nat_lit 127,⟨.type "code", none,.fields #[.str "slots_of" 362,.str "slots_of" 363,.str "/claim/cut.py" 364,.int 60 0,.int 1 0,.int 0 0,.int 0 0,.int 3 0,.ref 122,.bool true,.int 181 0,.ref 123,.none,.ref 124,.ref 125,.ref 126,.int 369 0,.int 60 0,.str "/claim/cut.py" 370],#[]⟩) ::
 (nat_lit 128,⟨.type "function", none,.func ⟨"slots_of", "slots_of", L2.defArgs (av 17),.stmts (L2.defBody (av 17)),L2.defScope (av 17),3,[],.none,.none,.none,.str "usewarden.codes" 354,none,.ref 127,.none,0⟩,#[]⟩) ::
 (nat_lit 129,⟨.type "tuple", none,.seq #[] 0,#[]⟩) ::
 (nat_lit 132,⟨.type "code", none,.fields #[.str "simple_row" 372,.str "simple_row" 373,.str "/claim/cut.py" 374,.int 65 0,.int 2 0,.int 0 0,.int 0 0,.int 3 0,.ref 129,.bool true,.int 181 0,.ref 130,.none,.none,.none,.ref 131,.int 375 0,.int 65 0,.str "/claim/cut.py" 376],#[]⟩) ::
 (nat_lit 133,⟨.type "function", none,.func ⟨"simple_row", "simple_row", L2.defArgs (av 18),.stmts (L2.defBody (av 18)),L2.defScope (av 18),3,[],.none,.none,.none,.str "usewarden.codes" 354,none,.ref 132,.none,0⟩,#[]⟩) ::
 (nat_lit 134,⟨.type "tuple", none,.seq #[] 0,#[]⟩) ::
 (nat_lit 136,⟨.type "tuple", none,.seq #[.str "step" 381,.str "at" 382,.str "slots" 383,.str "turned" 384,.str "line" 385,.str "back" 386,.str "giver" 387,.str "taker" 388,.str "lent" 389,.str "ahead" 390,.str "within" 391] 0,#[]⟩) ::
 (nat_lit 137,⟨.type "tuple", none,.seq #[] 0,#[]⟩) ::
 (nat_lit 139,⟨.type "code", none,.fields #[.str "lend_rows" 378,.str "lend_rows" 379,.str "/claim/cut.py" 380,.int 70 0,.int 4 0,.int 0 0,.int 0 0,.int 3 0,.ref 134,.bool true,.int 181 0,.ref 135,.none,.ref 136,.ref 137,.ref 138,.int 392 0,.int 70 0,.str "/claim/cut.py" 393],#[]⟩) ::
 (nat_lit 140,⟨.type "function", none,.func ⟨"lend_rows", "lend_rows", L2.defArgs (av 19),.stmts (L2.defBody (av 19)),L2.defScope (av 19),3,[],.none,.none,.none,.str "usewarden.codes" 354,none,.ref 139,.none,0⟩,#[]⟩) ::
 (nat_lit 141,⟨.type "tuple", none,.seq #[] 0,#[]⟩) ::
 (nat_lit 143,⟨.type "tuple", none,.seq #[.str "step" 398,.str "at" 399,.str "slots" 400,.str "turned" 401,.str "more" 402,.str "jump" 403,.str "rest" 404,.str "behind" 405,.str "test" 406] 0,#[]⟩) ::
 (nat_lit 144,⟨.type "tuple", none,.seq #[] 0,#[]⟩) ::
 (nat_lit 146,⟨.type "code", none,.fields #[.str "if_rows" 395,.str "if_rows" 396,.str "/claim/cut.py" 397,.int 79 0,.int 4 0,.int 0 0,.int 0 0,.int 3 0,.ref 141,.bool true,.int 181 0,.ref 142,.none,.ref 143,.ref 144,.ref 145,.int 407 0,.int 79 0,.str "/claim/cut.py" 408],#[]⟩) ::
 (nat_lit 147,⟨.type "function", none,.func ⟨"if_rows", "if_rows", L2.defArgs (av 20),.stmts (L2.defBody (av 20)),L2.defScope (av 20),3,[],.none,.none,.none,.str "usewarden.codes" 354,none,.ref 146,.none,0⟩,#[]⟩) ::
 (nat_lit 148,⟨.type "tuple", none,.seq #[] 0,#[]⟩) ::
 (nat_lit 150,⟨.type "tuple", none,.seq #[.str "step" 413,.str "at" 414,.str "slots" 415,.str "within" 416,.str "behind" 417] 0,#[]⟩) ::
 (nat_lit 151,⟨.type "tuple", none,.seq #[] 0,#[]⟩) ::
 (nat_lit 153,⟨.type "code", none,.fields #[.str "loop_rows" 410,.str "loop_rows" 411,.str "/claim/cut.py" 412,.int 86 0,.int 3 0,.int 0 0,.int 0 0,.int 3 0,.ref 148,.bool true,.int 181 0,.ref 149,.none,.ref 150,.ref 151,.ref 152,.int 418 0,.int 86 0,.str "/claim/cut.py" 419],#[]⟩) ::
 (nat_lit 154,⟨.type "function", none,.func ⟨"loop_rows", "loop_rows", L2.defArgs (av 21),.stmts (L2.defBody (av 21)),L2.defScope (av 21),3,[],.none,.none,.none,.str "usewarden.codes" 354,none,.ref 153,.none,0⟩,#[]⟩) ::
 (nat_lit 155,⟨.type "tuple", none,.seq #[] 0,#[]⟩) ::
 (nat_lit 157,⟨.type "tuple", none,.seq #[.str "step" 424,.str "at" 425,.str "slots" 426,.str "turned" 427,.str "first" 428,.str "loop" 429,.str "behind" 430] 0,#[]⟩) ::
 (nat_lit 158,⟨.type "tuple", none,.seq #[] 0,#[]⟩) ::
 (nat_lit 160,⟨.type "code", none,.fields #[.str "while_rows" 421,.str "while_rows" 422,.str "/claim/cut.py" 423,.int 90 0,.int 4 0,.int 0 0,.int 0 0,.int 3 0,.ref 155,.bool true,.int 181 0,.ref 156,.none,.ref 157,.ref 158,.ref 159,.int 431 0,.int 90 0,.str "/claim/cut.py" 432],#[]⟩) ::
 (nat_lit 161,⟨.type "function", none,.func ⟨"while_rows", "while_rows", L2.defArgs (av 22),.stmts (L2.defBody (av 22)),L2.defScope (av 22),3,[],.none,.none,.none,.str "usewarden.codes" 354,none,.ref 160,.none,0⟩,#[]⟩) ::
 (nat_lit 162,⟨.type "tuple", none,.seq #[] 0,#[]⟩) ::
 (nat_lit 164,⟨.type "tuple", none,.seq #[.str "steps" 437,.str "at" 438,.str "slots" 439,.str "turned" 440,.str "rows" 441,.str "step" 442,.str "place" 443] 0,#[]⟩) ::
 (nat_lit 165,⟨.type "tuple", none,.seq #[] 0,#[]⟩) ::
 (nat_lit 167,⟨.type "code", none,.fields #[.str "rows_of" 434,.str "rows_of" 435,.str "/claim/cut.py" 436,.int 97 0,.int 4 0,.int 0 0,.int 0 0,.int 3 0,.ref 162,.bool true,.int 181 0,.ref 163,.none,.ref 164,.ref 165,.ref 166,.int 444 0,.int 97 0,.str "/claim/cut.py" 445],#[]⟩) ::
 (nat_lit 168,⟨.type "function", none,.func ⟨"rows_of", "rows_of", L2.defArgs (av 23),.stmts (L2.defBody (av 23)),L2.defScope (av 23),3,[],.none,.none,.none,.str "usewarden.codes" 354,none,.ref 167,.none,0⟩,#[]⟩) ::
 (nat_lit 169,⟨.type "tuple", none,.seq #[] 0,#[]⟩) ::
 (nat_lit 171,⟨.type "tuple", none,.seq #[.str "program" 450,.str "turned" 451,.str "steps" 452] 0,#[]⟩) ::
 (nat_lit 172,⟨.type "tuple", none,.seq #[] 0,#[]⟩) ::
 (nat_lit 174,⟨.type "code", none,.fields #[.str "rows_and_end" 447,.str "rows_and_end" 448,.str "/claim/cut.py" 449,.int 110 0,.int 2 0,.int 0 0,.int 0 0,.int 3 0,.ref 169,.bool true,.int 181 0,.ref 170,.none,.ref 171,.ref 172,.ref 173,.int 453 0,.int 110 0,.str "/claim/cut.py" 454],#[]⟩) ::
 (nat_lit 175,⟨.type "function", none,.func ⟨"rows_and_end", "rows_and_end", L2.defArgs (av 24),.stmts (L2.defBody (av 24)),L2.defScope (av 24),3,[],.none,.none,.none,.str "usewarden.codes" 354,none,.ref 174,.none,0⟩,#[]⟩) ::
 (nat_lit 176,⟨.type "tuple", none,.seq #[] 0,#[]⟩) ::
 (nat_lit 178,⟨.type "tuple", none,.seq #[.str "program" 459] 0,#[]⟩) ::
 (nat_lit 179,⟨.type "tuple", none,.seq #[] 0,#[]⟩) ::
 (nat_lit 181,⟨.type "code", none,.fields #[.str "code_of" 456,.str "code_of" 457,.str "/claim/cut.py" 458,.int 113 0,.int 1 0,.int 0 0,.int 0 0,.int 3 0,.ref 176,.bool true,.int 181 0,.ref 177,.none,.ref 178,.ref 179,.ref 180,.int 460 0,.int 113 0,.str "/claim/cut.py" 461],#[]⟩) ::
 (nat_lit 182,⟨.type "function", none,.func ⟨"code_of", "code_of", L2.defArgs (av 25),.stmts (L2.defBody (av 25)),L2.defScope (av 25),3,[],.none,.none,.none,.str "usewarden.codes" 354,none,.ref 181,.none,0⟩,#[]⟩) ::
 (nat_lit 183,⟨.type "tuple", none,.seq #[] 0,#[]⟩) ::
 (nat_lit 185,⟨.type "tuple", none,.seq #[.str "program" 466] 0,#[]⟩) ::
 (nat_lit 186,⟨.type "tuple", none,.seq #[] 0,#[]⟩) ::
 (nat_lit 188,⟨.type "code", none,.fields #[.str "turned_code" 463,.str "turned_code" 464,.str "/claim/cut.py" 465,.int 115 0,.int 1 0,.int 0 0,.int 0 0,.int 3 0,.ref 183,.bool true,.int 181 0,.ref 184,.none,.ref 185,.ref 186,.ref 187,.int 467 0,.int 115 0,.str "/claim/cut.py" 468],#[]⟩) ::
 (nat_lit 189,⟨.type "function", none,.func ⟨"turned_code", "turned_code", L2.defArgs (av 26),.stmts (L2.defBody (av 26)),L2.defScope (av 26),3,[],.none,.none,.none,.str "usewarden.codes" 354,none,.ref 188,.none,0⟩,#[]⟩) ::
 (nat_lit 190,⟨.type "tuple", none,.seq #[] 0,#[]⟩) ::
 (nat_lit 192,⟨.type "tuple", none,.seq #[.str "_law_script" 475,.str "_law_k" 476] 0,#[]⟩) ::
 (nat_lit 193,⟨.type "tuple", none,.seq #[] 0,#[]⟩) ::
 (nat_lit 195,⟨.type "code", none,.fields #[.str "_law_cell_at" 472,.str "_law_cell_at" 473,.str "/claim/cut.py" 474,.int 118 0,.int 2 0,.int 0 0,.int 0 0,.int 3 0,.ref 190,.bool true,.int 181 0,.ref 191,.none,.ref 192,.ref 193,.ref 194,.int 477 0,.int 118 0,.str "/claim/cut.py" 478],#[]⟩) ::
 (nat_lit 196,⟨.type "function", none,.func ⟨"_law_cell_at", "_law_cell_at", L2.defArgs (av 28),.stmts (L2.defBody (av 28)),L2.defScope (av 28),3,[],.none,.none,.none,.str "law_usewarden_k37_turned_code_goes_alike" 470,none,.ref 195,.none,0⟩,#[]⟩) ::
 (nat_lit 197,⟨.type "tuple", none,.seq #[] 0,#[]⟩) ::
 (nat_lit 200,⟨.type "code", none,.fields #[.str "_law_names" 480,.str "_law_names" 481,.str "/claim/cut.py" 482,.int 122 0,.int 1 0,.int 0 0,.int 0 0,.int 3 0,.ref 197,.bool true,.int 181 0,.ref 198,.none,.none,.none,.ref 199,.int 483 0,.int 122 0,.str "/claim/cut.py" 484],#[]⟩) ::
 (nat_lit 201,⟨.type "function", none,.func ⟨"_law_names", "_law_names", L2.defArgs (av 29),.stmts (L2.defBody (av 29)),L2.defScope (av 29),3,[],.none,.none,.none,.str "law_usewarden_k37_turned_code_goes_alike" 470,none,.ref 200,.none,0⟩,#[]⟩) ::
 (nat_lit 202,⟨.type "tuple", none,.seq #[] 0,#[]⟩) ::
 (nat_lit 204,⟨.type "tuple", none,.seq #[.str "_law_cell" 489,.str "_law_way" 490] 0,#[]⟩) ::
 (nat_lit 205,⟨.type "tuple", none,.seq #[] 0,#[]⟩) ::
 (nat_lit 207,⟨.type "code", none,.fields #[.str "_law_bound" 486,.str "_law_bound" 487,.str "/claim/cut.py" 488,.int 137 0,.int 1 0,.int 0 0,.int 0 0,.int 3 0,.ref 202,.bool true,.int 181 0,.ref 203,.none,.ref 204,.ref 205,.ref 206,.int 491 0,.int 137 0,.str "/claim/cut.py" 492],#[]⟩) ::
 (nat_lit 208,⟨.type "function", none,.func ⟨"_law_bound", "_law_bound", L2.defArgs (av 30),.stmts (L2.defBody (av 30)),L2.defScope (av 30),3,[],.none,.none,.none,.str "law_usewarden_k37_turned_code_goes_alike" 470,none,.ref 207,.none,0⟩,#[]⟩) ::
 (nat_lit 209,⟨.type "tuple", none,.seq #[] 0,#[]⟩) ::
 (nat_lit 211,⟨.type "tuple", none,.seq #[.str "_law_cell" 497,.str "_law_x" 498,.str "_law_y" 499,.str "_law_names_here" 500,.str "_law_kind" 501,.str "_law_words" 502] 0,#[]⟩) ::
 (nat_lit 212,⟨.type "tuple", none,.seq #[] 0,#[]⟩) ::
 (nat_lit 214,⟨.type "code", none,.fields #[.str "_law_step" 494,.str "_law_step" 495,.str "/claim/cut.py" 496,.int 144 0,.int 4 0,.int 0 0,.int 0 0,.int 3 0,.ref 209,.bool true,.int 181 0,.ref 210,.none,.ref 211,.ref 212,.ref 213,.int 503 0,.int 144 0,.str "/claim/cut.py" 504],#[]⟩) ::
 (nat_lit 215,⟨.type "function", none,.func ⟨"_law_step", "_law_step", L2.defArgs (av 31),.stmts (L2.defBody (av 31)),L2.defScope (av 31),3,[],.none,.none,.none,.str "law_usewarden_k37_turned_code_goes_alike" 470,none,.ref 214,.none,0⟩,#[]⟩) ::
 (nat_lit 216,⟨.type "tuple", none,.seq #[] 0,#[]⟩) ::
 (nat_lit 218,⟨.type "tuple", none,.seq #[.str "_law_here" 509,.str "_law_pile" 510,.str "_law_lines" 511,.str "_law_cell" 512,.str "_law_x" 513,.str "_law_y" 514,.str "_law_inner" 515,.str "_law_bound_here" 516,.str "_law_others" 517] 0,#[]⟩) ::
 (nat_lit 219,⟨.type "tuple", none,.seq #[] 0,#[]⟩) ::
 (nat_lit 221,⟨.type "code", none,.fields #[.str "_law_begun" 506,.str "_law_begun" 507,.str "/claim/cut.py" 508,.int 156 0,.int 6 0,.int 0 0,.int 0 0,.int 3 0,.ref 216,.bool true,.int 181 0,.ref 217,.none,.ref 218,.ref 219,.ref 220,.int 518 0,.int 156 0,.str "/claim/cut.py" 519],#[]⟩) ::
 (nat_lit 222,⟨.type "function", none,.func ⟨"_law_begun", "_law_begun", L2.defArgs (av 32),.stmts (L2.defBody (av 32)),L2.defScope (av 32),3,[],.none,.none,.none,.str "law_usewarden_k37_turned_code_goes_alike" 470,none,.ref 221,.none,0⟩,#[]⟩) ::
 (nat_lit 223,⟨.type "tuple", none,.seq #[] 0,#[]⟩) ::
 (nat_lit 226,⟨.type "code", none,.fields #[.str "_law_program" 521,.str "_law_program" 522,.str "/claim/cut.py" 523,.int 175 0,.int 2 0,.int 0 0,.int 0 0,.int 3 0,.ref 223,.bool true,.int 181 0,.ref 224,.none,.none,.none,.ref 225,.int 524 0,.int 175 0,.str "/claim/cut.py" 525],#[]⟩) ::
 (nat_lit 227,⟨.type "function", none,.func ⟨"_law_program", "_law_program", L2.defArgs (av 33),.stmts (L2.defBody (av 33)),L2.defScope (av 33),3,[],.none,.none,.none,.str "law_usewarden_k37_turned_code_goes_alike" 470,none,.ref 226,.none,0⟩,#[]⟩) ::
 (nat_lit 228,⟨.type "tuple", none,.seq #[] 0,#[]⟩) ::
 (nat_lit 230,⟨.type "tuple", none,.seq #[.str "_law_code" 530,.str "_law_at" 531,.str "_law_many" 532] 0,#[]⟩) ::
 (nat_lit 231,⟨.type "tuple", none,.seq #[] 0,#[]⟩) ::
 (nat_lit 233,⟨.type "code", none,.fields #[.str "_law_shown" 527,.str "_law_shown" 528,.str "/claim/cut.py" 529,.int 201 0,.int 2 0,.int 0 0,.int 0 0,.int 3 0,.ref 228,.bool true,.int 181 0,.ref 229,.none,.ref 230,.ref 231,.ref 232,.int 533 0,.int 201 0,.str "/claim/cut.py" 534],#[]⟩) ::
 (nat_lit 234,⟨.type "function", none,.func ⟨"_law_shown", "_law_shown", L2.defArgs (av 34),.stmts (L2.defBody (av 34)),L2.defScope (av 34),3,[],.none,.none,.none,.str "law_usewarden_k37_turned_code_goes_alike" 470,none,.ref 233,.none,0⟩,#[]⟩) ::
 (nat_lit 235,⟨.type "tuple", none,.seq #[] 0,#[]⟩) ::
 (nat_lit 237,⟨.type "tuple", none,.seq #[.str "_law_one" 539,.str "_law_other" 540] 0,#[]⟩) ::
 (nat_lit 238,⟨.type "tuple", none,.seq #[] 0,#[]⟩) ::
 (nat_lit 240,⟨.type "code", none,.fields #[.str "_law_alike" 536,.str "_law_alike" 537,.str "/claim/cut.py" 538,.int 209 0,.int 2 0,.int 0 0,.int 0 0,.int 3 0,.ref 235,.bool true,.int 181 0,.ref 236,.none,.ref 237,.ref 238,.ref 239,.int 541 0,.int 209 0,.str "/claim/cut.py" 542],#[]⟩) ::
 (nat_lit 241,⟨.type "function", none,.func ⟨"_law_alike", "_law_alike", L2.defArgs (av 35),.stmts (L2.defBody (av 35)),L2.defScope (av 35),3,[],.none,.none,.none,.str "law_usewarden_k37_turned_code_goes_alike" 470,none,.ref 240,.none,0⟩,#[]⟩) ::
 (nat_lit 242,⟨.type "tuple", none,.seq #[] 0,#[]⟩) ::
 (nat_lit 244,⟨.type "tuple", none,.seq #[.str "_law_code" 547,.str "_law_at" 548] 0,#[]⟩) ::
 (nat_lit 245,⟨.type "tuple", none,.seq #[] 0,#[]⟩) ::
 (nat_lit 247,⟨.type "code", none,.fields #[.str "_law_nexts" 544,.str "_law_nexts" 545,.str "/claim/cut.py" 546,.int 215 0,.int 2 0,.int 0 0,.int 0 0,.int 3 0,.ref 242,.bool true,.int 181 0,.ref 243,.none,.ref 244,.ref 245,.ref 246,.int 549 0,.int 215 0,.str "/claim/cut.py" 550],#[]⟩) ::
 (nat_lit 248,⟨.type "function", none,.func ⟨"_law_nexts", "_law_nexts", L2.defArgs (av 36),.stmts (L2.defBody (av 36)),L2.defScope (av 36),3,[],.none,.none,.none,.str "law_usewarden_k37_turned_code_goes_alike" 470,none,.ref 247,.none,0⟩,#[]⟩) ::
 (nat_lit 249,⟨.type "tuple", none,.seq #[] 0,#[]⟩) ::
 (nat_lit 251,⟨.type "tuple", none,.seq #[.str "_law_turned" 555,.str "_law_code" 556,.str "_law_matches" 557,.str "_law_todo" 558,.str "_law_one" 559,.str "_law_other" 560] 0,#[]⟩) ::
 (nat_lit 252,⟨.type "tuple", none,.seq #[] 0,#[]⟩) ::
 (nat_lit 254,⟨.type "code", none,.fields #[.str "_law_matched" 552,.str "_law_matched" 553,.str "/claim/cut.py" 554,.int 221 0,.int 2 0,.int 0 0,.int 0 0,.int 3 0,.ref 249,.bool true,.int 181 0,.ref 250,.none,.ref 251,.ref 252,.ref 253,.int 561 0,.int 221 0,.str "/claim/cut.py" 562],#[]⟩) ::
 (nat_lit 255,⟨.type "function", none,.func ⟨"_law_matched", "_law_matched", L2.defArgs (av 37),.stmts (L2.defBody (av 37)),L2.defScope (av 37),3,[],.none,.none,.none,.str "law_usewarden_k37_turned_code_goes_alike" 470,none,.ref 254,.none,0⟩,#[]⟩) ::
 (nat_lit 256,⟨.type "tuple", none,.seq #[] 0,#[]⟩) ::
 (nat_lit 259,⟨.type "code", none,.fields #[.str "law" 564,.str "law" 565,.str "/claim/cut.py" 566,.int 235 0,.int 1 0,.int 0 0,.int 0 0,.int 3 0,.ref 256,.bool true,.int 181 0,.ref 257,.none,.none,.none,.ref 258,.int 567 0,.int 235 0,.str "/claim/cut.py" 568],#[]⟩) ::
 (nat_lit 260,⟨.type "function", none,.func ⟨"law", "law", L2.defArgs (av 38),.stmts (L2.defBody (av 38)),L2.defScope (av 38),3,[],.none,.none,.none,.str "law_usewarden_k37_turned_code_goes_alike" 470,none,.ref 259,.none,0⟩,#[]⟩)::[]
def kk:List Addr:=[2,3,15,16,17,18,19,20,21,22,23,24,25,26,27,28,30,31,33,34,35,37,38,40,41,42,44,45,47,48,49,51,52,54,55,56,58,59,61,62,63,66,67,68,70,71,73,74,82,84,85,87,88,89,90,91,92,93,96,98,99,101,102,103,105,106,108,109,110,112,113,115,116,117,120,121,122,124,125,127,128,129,132,133,134,136,137,139,140,141,143,144,146,147,148,150,151,153,154,155,157,158,160,161,162,164,165,167,168,169,171,172,174,175,176,178,179,181,182,183,185,186,188,189,190,192,193,195,196,197,200,201,202,204,205,207,208,209,211,212,214,215,216,218,219,221,222,223,226,227,228,230,231,233,234,235,237,238,240,241,242,244,245,247,248,249,251,252,254,255,256,259,260]
theorem kk_eq:∀ P,kk=(KK P).map (·.1):=fun _=>by kernel_rfl
noncomputable abbrev HH:Hook:=kHook KK kk kk_eq
def qq:Program:=view PySem.Challenge.pw_usewarden_k37_turned_code_goes_alike [1,2,3,4,5,6,7,8,9,11,12,13,14,16,17,18,19,20,21,22,23,24,25,26,28,29,30,31,32,33,34,35,36,37,38]
def loo:List Str:=["PARTS", "CLOSERS"]
noncomputable def xt(s:Shared):Bool:=xlAt qq [] s&&recOk (RowW.records (OpenRow.toRowW (OpenLaw.row PySem.Challenge.rw_usewarden_k37_turned_code_goes_alike))) s
def pM(w:World):Prop:=(openEnds treeTable PySem.Challenge.pw_usewarden_k37_turned_code_goes_alike w 3062).map (fun s=>openSeen qq loo (importedModules (Program.main PySem.Challenge.pw_usewarden_k37_turned_code_goes_alike).body) xt true s)=some (openGood qq loo)
def pS(w:World):Prop:=(openEnds treeTable PySem.Challenge.pw_usewarden_k37_turned_code_goes_alike w 3062).map (fun s=>Hook.obs HH s)=some (Hook.val HH w)
set_option maxRecDepth 1000000 in
theorem CG(w:World):pM (w.withFollow "special-get-raises" false):=by unfold pM; kernel_rfl
set_option maxRecDepth 1000000 in
theorem BR(w:World):pM (w.withFollow "special-get-raises" true):=by unfold pM; kernel_rfl
theorem BI(w:World):pM w:=byRow2 "special-get-raises" (P:=pM) CG BR w
set_option maxRecDepth 1000000 in
theorem Bo(w:World):pS (w.withFollow "special-get-raises" false):=by unfold pS; kernel_rfl
set_option maxRecDepth 1000000 in
theorem Bv(w:World):pS (w.withFollow "special-get-raises" true):=by unfold pS; kernel_rfl
theorem B9(w:World):pS w:=byRow2 "special-get-raises" (P:=pS) Bo Bv w
theorem u_{α β γ : Type}{o:Option α}{f:α→β}{g:α→γ}{a:β}{b:γ}(h1:o.map f=some a)(h2:o.map g=some b):o.map (fun s=>(f s,g s))=some (a,b):=by
 cases o with
 | none=>cases h1
 | some s=>cases h1; cases h2; rfl
theorem hl(w:World):(openEnds treeTable PySem.Challenge.pw_usewarden_k37_turned_code_goes_alike w 3062).map (fun s=>(openSeen qq loo (importedModules (Program.main PySem.Challenge.pw_usewarden_k37_turned_code_goes_alike).body) xt true s,Hook.obs HH s))=some (openGood qq loo,Hook.val HH w):=u_ (BI w) (B9 w)
end K37
-- CHANGE: your row's module here, as the last of these rows
namespace L2
open PySem PySem.Spec PyProof.Rows
abbrev aK:=Sum Int Str
def ik:aK→Value→Bool
 | .inl k,v=>Value.isInt k v
 | .inr x,v=>Value.isStrOf x v
def BG(w:World):aK→Int
 | .inl k=>hashInt k
 | .inr x=>hashStr w x
theorem cI:∀ {k:aK} {v:Value},ik k v=true→(∃ i t,k=Sum.inl i∧v=Value.int i t)∨(∃ x t,k=Sum.inr x∧v=Value.str x t)
 | .inl i,v,h=>by
  obtain⟨t,e⟩:=Value.isInt_shape (k:=i) (v:=v) h
  exact .inl ⟨i,t,rfl,e⟩
 | .inr x,v,h=>by
  obtain⟨t,e⟩:=Value.isStrOf_shape (x:=x) (v:=v) h
  exact .inr ⟨x,t,rfl,e⟩
theorem uu(i:Int)(t:Tok):ik (.inl i) (.int i t)=true:=by simp[ik,Value.isInt]
theorem uK(x:Str)(t:Tok):ik (.inr x) (.str x t)=true:=by simp[ik,Value.isStrOf]
theorem zY(a b:Int):decide ((Sum.inl a:aK)=Sum.inl b)=(a == b):=by
 by_cases e:a=b
 ·subst e; simp
 ·have h:¬ (Sum.inl a:aK)=Sum.inl b:=fun q=>e (Sum.inl.inj q)
  rw[decide_eq_false h]
  exact(beq_eq_false_iff_ne.mpr e).symm
theorem yj(a b:Str):decide ((Sum.inr a:aK)=Sum.inr b)=decide (a=b):=by
 by_cases e:a=b
 ·subst e; simp
 ·have h:¬ (Sum.inr a:aK)=Sum.inr b:=fun q=>e (Sum.inr.inj q)
  rw[decide_eq_false h,decide_eq_false e]
theorem yE(a:Int)(b:Str):decide ((Sum.inl a:aK)=Sum.inr b)=false:=decide_eq_false (fun q=>nomatch q)
theorem zo(a:Str)(b:Int):decide ((Sum.inr a:aK)=Sum.inl b)=false:=decide_eq_false (fun q=>nomatch q)
def cG(prog:Program)(w:World):PySem.KeyKind prog w aK where
 is:=ik
 hash:=BG w
 inj:=fun v a b ha hb=>by
  rcases cI ha with ⟨i,t,rfl,rfl⟩ | ⟨x,t,rfl,rfl⟩
  ·rcases cI hb with ⟨j,u,rfl,e⟩ | ⟨y,u,rfl,e⟩
   ·injection e with e1 _; rw[e1]
   ·exact nomatch e
  ·rcases cI hb with ⟨j,u,rfl,e⟩ | ⟨y,u,rfl,e⟩
   ·exact nomatch e
   ·injection e with e1 _; rw[e1]
 byValue:=fun k v h=>by
  rcases cI h with ⟨i,t,rfl,rfl⟩ | ⟨x,t,rfl,rfl⟩ <;> rfl
 pyHash:=fun hv h=>by
  rcases cI hv with ⟨i,t,rfl,rfl⟩ | ⟨x,t,rfl,rfl⟩
  ·exact wpAny_pyHash_int h
  ·exact wpAny_pyHash_str h
 eqBool:=fun hu hv h=>by
  rcases cI hu with ⟨i,t,rfl,rfl⟩ | ⟨x,t,rfl,rfl⟩
  ·rcases cI hv with ⟨j,u,rfl,rfl⟩ | ⟨y,u,rfl,rfl⟩
   ·rw[zY]at h; exact wpAny_eqBool_int h
   ·rw[yE]at h; exact SeqAt.EqAt.int_str i t y u _ _ _ _ h
  ·rcases cI hv with ⟨j,u,rfl,rfl⟩ | ⟨y,u,rfl,rfl⟩
   ·rw[zo]at h; exact SeqAt.EqAt.str_int x t j u _ _ _ _ h
   ·rw[yj]at h; exact wpAny_eqBool_str h
 «strs»:=fun k x t v h=>by
  rcases cI h with ⟨i,u,rfl,e⟩ | ⟨y,u,rfl,e⟩
  ·exact nomatch e
  ·injection e with e1 _
   subst e1
   cases v <;> rfl
theorem oZ(prog:Program)(w:World)(i:Int)(t:Tok):(cG prog w).is (.inl i) (.int i t)=true:=uu i t
theorem oV(prog:Program)(w:World)(x:Str)(t:Tok):(cG prog w).is (.inr x) (.str x t)=true:=uK x t
end L2
namespace L2
open PySem PySem.Spec PyProof.Rows
set_option genSizeOf false in
inductive V where
 | non | bl (b:Bool) | int (i:Int) | str (x:Str) | byt (b:Array UInt8) | flt (b:UInt64) | ref (a:Addr) | ty (n:String)
 deriving DecidableEq
def RelV:V→Value→Prop
 | .non,u=>u=Value.none
 | .bl b,u=>u=Value.bool b
 | .int i,u=>∃ t,u=Value.int i t
 | .str x,u=>∃ t,u=Value.str x t
 | .byt b,u=>∃ t,u=Value.bytes b t
 | .flt b,u=>∃ t,u=Value.float b t
 | .ref a,u=>u=Value.ref a
 | .ty n,u=>u=Value.type n
abbrev Vals:List V→List Value→Prop:=Paired RelV
theorem Vals.length{xs:List V}{us:List Value}(r:Vals xs us):xs.length=us.length:=Paired.length r
theorem Vals.get:∀ {xs:List V} {us:List Value} {i:Nat} {x:V},Vals xs us→xs[i]? = some x→∃ u,us[i]? = some u∧RelV x u
 | _,_,_,_,.nil,e=>by simp at e
 | _,_,0,_,.cons r _,e=>by simp at e; subst e; exact⟨_,rfl,r⟩
 | _,_,i+1,x,.cons _ t,e=>by
  obtain⟨u,h1,h2⟩:=Vals.get (i:=i) (x:=x) t (by simpa using e)
  exact⟨u,by simpa using h1,h2⟩
theorem Vals.append:∀ {xs ys:List V} {us ws:List Value},Vals xs us→Vals ys ws→Vals (xs++ys) (us++ws)
 | _,_,_,_,.nil,s=>s
 | _,_,_,_,.cons r t,s=>.cons r (Vals.append t s)
theorem Vals.take:∀ {xs:List V} {us:List Value} (n:Nat),Vals xs us→Vals (xs.take n) (us.take n)
 | _,_,0,_=>.nil
 | _,_,_+1,.nil=>.nil
 | _,_,n+1,.cons r t=>.cons r (Vals.take n t)
theorem Vals.drop:∀ {xs:List V} {us:List Value} (n:Nat),Vals xs us→Vals (xs.drop n) (us.drop n)
 | _,_,0,r=>r
 | _,_,_+1,.nil=>.nil
 | _,_,n+1,.cons _ t=>Vals.drop n t
def RelO:Option V→Option Value→Prop
 | some v,some u=>RelV v u
 | none,none=>True
 | _,_=>False
def KV{κ : Type}:List (κ × V)→List (κ × Value)→Prop:=Paired fun (p:κ × V) (q:κ × Value)=>p.1=q.1∧RelV p.2 q.2
def kV:aK→V
 | .inl i=>.int i
 | .inr x=>.str x
set_option genSizeOf false in
inductive HO where
 /-- a list -/
 | lst (xs:List V)
 /-- a tuple (never changes) -/
 | tup (xs:List V)
 /-- a dict whose keys are ints and texts; one whose keys are tuples of ints and texts (the empty one is both) -/
 | dK (kvs:List (aK × V)) | dT (kvs:List (List aK × V))
 /-- a set of ints: its members, its size -/
 | set (S:Int→Bool) (n:Nat)
 /-- an instance of the class at C, its dict at dx, its attributes -/
 | ins (C dx:Addr) (fs:List (Str × V))
 /-- the dict of the instance at x -/
 | own (x:Addr)
 /-- the dict of an exception -/
 | xd (fs:List (Str × V))
 /-- a bound method, f of x -/
 | met (f x:Addr)
 /-- a range object lo, lo+1, .. below hi -/
 | rng (lo hi:Int)
 /-- a thing that is known to the object (the script; a dict while a loop walks it): read, never written while it is so -/
 | frz (o:Obj) (u:HO)
 /-- a code object's table -/
 | tbl (ps:Array Value)
 /-- any other thing, by what is true of its one object (a def of one's own: SetO a S n := HO.ext fun h => ..) -/
 | ext (φ : Heap→Prop)
abbrev Hp:=Addr→Option HO
def upd(H:Hp)(a:Addr)(o:HO):Hp:=fun b=>if b=a then some o else H b
theorem ah{H:Hp}{a:Addr}{o:HO}:upd H a o a=some o:=by unfold upd; rw[if_pos rfl]
theorem af{H:Hp}{a b:Addr}{o:HO}(h:b≠a):upd H a o b=H b:=by unfold upd; rw[if_neg h]
theorem cJ{H:Hp}{a b:Addr}{o u:HO}(h:H a=some o)(h':H b=some u)(d:o≠u):a≠b:=by
 intro e; subst e; rw[h]at h'; exact d (Option.some.inj h')
theorem aq{H:Hp}{a b:Addr}{o:HO}(h:H a=some o)(h':H b=none):a≠b:=by
 intro e; subst e; rw[h]at h'; cases h'
def IsTupN(h:Heap)(a:Addr)(items:Array Value):Prop:=∃ o,h.get? a=some o∧o.cls = .type "tuple" ∧ o.dict=none∧∃ n,o.data = .seq items n
theorem IsTupN.tup{h:Heap}{a:Addr}{items:Array Value}(x:IsTupN h a items):IsTup h a items:=let ⟨o,e,c,_,d⟩:=x; ⟨o,e,c,d⟩
theorem IsTupN.lt{h:Heap}{a:Addr}{items:Array Value}(x:IsTupN h a items):a<h.objs.size:=let ⟨_,e,_⟩:=x; Heap.lt_size e
theorem IsTupN.new(h:Heap)(items:Array Value):IsTupN (h.push { cls:=.type "tuple", data:=.seq items }) h.objs.size items:=⟨_,Heap.get?_push_size _ rfl,rfl,rfl,_,rfl⟩
section
variable(P:Program)(w:World)
def ObjOk(H:Hp)(h:Heap)(a:Addr):HO→Prop
 | .lst xs=>xs.length≤sizeLine∧∃ (its:List Value) (n:Nat),Vals xs its∧h.get? a=some { cls:=.type "list", data:=.seq its.toArray n }
 | .tup xs=>xs.length≤sizeLine∧∃ its:List Value,Vals xs its∧IsTupN h a its.toArray
 | .dK kvs=>kvs.length≤sizeLine∧(a == sysModules)=false∧∃ vs,KV kvs vs∧h.DictOf (cG P w) a vs
 | .dT kvs=>kvs.length≤sizeLine∧(a == sysModules)=false∧∃ xs:List (List aK × Addr × Value),
   Paired (fun (p:List aK × V) (q:List aK × Addr × Value)=>p.1=q.1∧H q.2.1=some (.tup (p.1.map kV))∧RelV p.2 q.2.2) kvs xs∧
   ∃ o es ep,h.get? a=some o∧o.ExactDict∧o.data = .dict es ep∧es.toList=xs.map (entryOfKey (tupleKind (cG P w)))∧(xs.map (·.1)).Nodup
 | .set S n=>h.SetOf (intKind P w) a S n
 | .ins C dx fs=>H dx=some (.own a)∧fs.length≤1000∧dx≠a∧h.get? a=some (PySem.W.instObj C dx)∧
   ∃ mA,h.Ns1 dx mA∧(∀ f,RelO (fs.lookup f) (mA f))∧PySem.Within mA (fs.map (·.1))
 | .own _=>∃ o,h.get? a=some o
 | .xd fs=>∃ mA,h.Ns1 a mA∧∀ f,RelO (fs.lookup f) (mA f)
 | .rng lo hi=>∃ t u v,h.get? a=some { cls:=.type "range", data:=.fields #[.int lo t,.int hi u,.int 1 v] }
 | .frz o u=>h.get? a=some o∧ObjOk H h a u
 | .tbl ps=>h.get? a=some { cls:=.none,data:=.fields ps }
 | .met f x=>h.get? a=some (PySem.W.methodObj (.ref f) (.ref x))
 | .ext φ=>φ h∧(∃ o,h.get? a=some o)∧∀ h1 h2:Heap,φ h1→(∀ o,h1.get? a=some o→h2.get? a=some o)→φ h2
def HOk(H:Hp)(h:Heap):Prop:=∀ a o,H a=some o→ObjOk P w H h a o
end
section
variable{P:Program}{w:World}{H H':Hp}{h h':Heap}{a:Addr}{o:HO}
theorem ObjOk.lt(x:ObjOk P w H h a o):a<h.objs.size:=by
 cases o with
 | lst xs=>obtain⟨_,_,_,_,e⟩:=x; exact Heap.lt_size e
 | tup xs=>obtain⟨_,_,_,p⟩:=x; exact p.lt
 | dK kvs=>obtain⟨_,_,_,_,o,_,_,e,_⟩:=x; exact Heap.lt_size e
 | dT kvs=>obtain⟨_,_,_,_,o,_,_,e,_⟩:=x; exact Heap.lt_size e
 | set S n=>obtain⟨o,_,_,_,e,_⟩:=x; exact Heap.lt_size e
 | ins C dx fs=>obtain⟨_,_,_,e,_⟩:=x; exact Heap.lt_size e
 | own y=>obtain⟨_,e⟩:=x; exact Heap.lt_size e
 | xd fs=>obtain⟨_,⟨_,_,_,e,_⟩,_⟩:=x; exact Heap.lt_size e
 | rng lo hi=>obtain⟨_,_,_,e⟩:=x; exact Heap.lt_size e
 | frz ob u=>obtain⟨e,_⟩:=x; exact Heap.lt_size e
 | tbl ps=>exact Heap.lt_size (show h.get? a=some _ from x)
 | met f y=>exact Heap.lt_size (show h.get? a=some _ from x)
 | ext φ=>obtain⟨_,⟨_,e⟩,_⟩:=x; exact Heap.lt_size e
theorem Paired.mapP{α β : Type}{F G:α→β→Prop}:∀ {l₁:List α} {l₂:List β},Paired F l₁ l₂→(∀ a b,F a b→G a b)→Paired G l₁ l₂
 | _,_,.nil,_=>.nil
 | _,_,.cons r t,f=>.cons (f _ _ r) (Paired.mapP t f)
theorem Paired.imp'{α β : Type}{F G:α→β→Prop}(f:∀ a b,F a b→G a b){l₁:List α}{l₂:List β}(r:Paired F l₁ l₂):Paired G l₁ l₂:=Paired.mapP r f
theorem ObjOk.stay(x:ObjOk P w H h a o)(k:∀ b u,(b=a∨H b=some (.own a))→h.get? b=some u→h'.get? b=some u)
  (ho:∀ b,H b=some (.own a)→H' b=some (.own a)) (ht:∀ b xs,H b=some (.tup xs)→H' b=some (.tup xs)):ObjOk P w H' h' a o:=by
 induction o with
 | lst xs=>obtain⟨z,its,n,r,e⟩:=x; exact⟨z,its,n,r,k _ _ (.inl rfl) e⟩
 | tup xs=>obtain⟨z,its,r,ob,e,c⟩:=x; exact⟨z,its,r,ob,k _ _ (.inl rfl) e,c⟩
 | dK kvs=>obtain⟨z,y,vs,r,ob,es,ep,e,c⟩:=x; exact⟨z,y,vs,r,ob,es,ep,k _ _ (.inl rfl) e,c⟩
 | dT kvs=>
  obtain⟨z,y,xs,r,ob,es,ep,e,c⟩:=x
  exact⟨z,y,xs,Paired.mapP r fun p q z=>⟨z.1,ht _ _ z.2.1,z.2.2⟩,ob,es,ep,k _ _ (.inl rfl) e,c⟩
 | set S n=>obtain⟨ob,es,ep,t,e,c⟩:=x; exact⟨ob,es,ep,t,k _ _ (.inl rfl) e,c⟩
 | ins C dx fs=>
  obtain⟨d,z,ne,e,mA,⟨od,es,ep,e2,c⟩,r⟩:=x
  exact⟨ho _ d,z,ne,k _ _ (.inl rfl) e,mA,⟨od,es,ep,k _ _ (.inr d) e2,c⟩,r⟩
 | own y=>obtain⟨ob,e⟩:=x; exact⟨ob,k _ _ (.inl rfl) e⟩
 | xd fs=>obtain⟨mA,⟨od,es,ep,e,c⟩,r⟩:=x; exact⟨mA,⟨od,es,ep,k _ _ (.inl rfl) e,c⟩,r⟩
 | rng lo hi=>obtain⟨t,u,v,e⟩:=x; exact⟨t,u,v,k _ _ (.inl rfl) e⟩
 | frz ob u ih=>obtain⟨e,q⟩:=x; exact⟨k _ _ (.inl rfl) e,ih q⟩
 | tbl ps=>
  have e:h.get? a=some { cls:=.none,data:=.fields ps }:=x
  show h'.get? a=some { cls:=.none,data:=.fields ps }
  exact k a _ (.inl rfl) e
 | met f y=>
  have e:h.get? a=some (PySem.W.methodObj (.ref f) (.ref y)):=x
  show h'.get? a=some (PySem.W.methodObj (.ref f) (.ref y))
  exact k a _ (.inl rfl) e
 | ext φ=>obtain⟨p,⟨o,e⟩,st⟩:=x; exact⟨st _ _ p fun o q=>k _ _ (.inl rfl) q,⟨o,k _ _ (.inl rfl) e⟩,st⟩
theorem HOk.lt(x:HOk P w H h)(e:H a=some o):a<h.objs.size:=(x a o e).lt
theorem HOk.fresh(x:HOk P w H h)(e:h.objs.size≤a):H a=none:=by
 cases q:H a with
 | none=>rfl
 | some u=>exact absurd (Nat.lt_of_lt_of_le (x.lt q) e) (Nat.lt_irrefl _)
theorem HOk.kept(x:HOk P w H h)(k:∀ b u,h.get? b=some u→h'.get? b=some u):HOk P w H h':=fun a o e=>
 (x a o e).stay (fun b u _ q=>k b u q) (fun _ q=>q) fun _ _ q=>q
theorem HOk.laid(x:HOk P w H h)(k:∀ b u,h.get? b=some u→h'.get? b=some u)(hp:h.objs.size≤a)(new:ObjOk P w (upd H a o) h' a o):HOk P w (upd H a o) h':=fun b u e=>by
 have hn:=x.fresh hp
 by_cases hb:b=a
 ·subst hb; rw[ah]at e; cases e; exact new
 ·rw[af hb]at e
  exact(x b u e).stay (fun c v _ q=>k c v q) (fun c q=>by rw[af (aq q hn)]; exact q) fun c xs q=>by rw[af (aq q hn)]; exact q
end
def Rd(H:Hp)(a:Addr)(u:HO):Prop:=H a=some u∨∃ o,H a=some (.frz o u)
theorem Rd.ok{P:Program}{w:World}{H:Hp}{h:Heap}{a:Addr}{u:HO}(r:Rd H a u)(x:HOk P w H h):ObjOk P w H h a u:=by
 rcases r with r | ⟨o,r⟩
 ·exact x a u r
 ·obtain⟨_,q⟩:=x a _ r
  exact q
def tw:Option HO→Prop
 | some (.lst _)=>True
 | some (.dK _)=>True
 | some (.dT _)=>True
 | some (.set _ _)=>True
 | some (.ins _ _ _)=>True
 | some (.ext _)=>True
 | _=>False
section
variable{P:Program}{w:World}{H:Hp}{h h':Heap}{x e:Addr}{o':HO}
theorem HOk.write(ok:HOk P w H h)(mu:tw (H x))(he:e=x∨H e=some (.own x))(k:∀ b u,b≠e→h.get? b=some u→h'.get? b=some u)(heo:∃ u,h'.get? e=some u)
  (new:ObjOk P w (upd H x o') h' x o'):HOk P w (upd H x o') h':=fun b u q=>by
 have nown:∀ c y,H c=some (.own y)→c≠x:=fun c y r z=>by subst z; rw[r]at mu; exact mu
 have ntup:∀ c xs,H c=some (.tup xs)→c≠x:=fun c xs r z=>by subst z; rw[r]at mu; exact mu
 by_cases hb:b=x
 ·subst hb; rw[ah]at q; cases q; exact new
 ·rw[af hb]at q
  by_cases hbe:b=e
  ·have q':H b=some (.own x):=by
    rcases he with z | z
    ·exact absurd (hbe.trans z) hb
    ·rw[hbe]; exact z
   rw[q]at q'; cases q'
   obtain⟨v,hv⟩:=heo
   exact⟨v,by rw[hbe]; exact hv⟩
  ·refine(ok b u q).stay (fun c v hc r=>k c v ?_ r) (fun c r=>by rw[af (nown c b r)]; exact r) fun c xs r=>by rw[af (ntup c xs r)]; exact r
   rcases hc with rfl | hc
   ·exact hbe
   ·rintro rfl
    rcases he with z | z
    ·exact nown c b hc z
    ·rw[hc]at z; cases z; exact hb rfl
end
structure Un (fs ex:List Addr) (H H':Hp) (h h':Heap):Prop where
 keep:∀ b o,h.get? b=some o→H b=none→b∉fs→b∉ex→h'.get? b=some o
 slot:∀ b o,h.get? b=some o→H b=none→b∈fs→b∉ex→∃ sl,h'.get? b=some { o with slots:=sl }
 free:∀ b o,h.get? b=some o→H b=none→b∉ex→H' b=none
 there:∀ b o,h.get? b=some o→b∉ex→∃ o',h'.get? b=some o'
 tups:∀ b xs,H b=some (.tup xs)→H' b=some (.tup xs)
 frzs:∀ b o u,H b=some (.frz o u)→H' b=some (.frz o u)
 tbls:∀ b ps,H b=some (.tbl ps)→∃ more,H' b=some (.tbl (ps++more))
section
variable{fs fs' ex ex':List Addr}{H H1 H2:Hp}{h h1 h2 h':Heap}{a x e:Addr}{o:HO}
theorem Un.any(u:Un fs ex H H1 h h1){b:Addr}{ob:Obj}(q:h.get? b=some ob)(n:H b=none)(hx:b∉ex):∃ sl,h1.get? b=some { ob with slots:=sl }:=by
 by_cases hb:b∈fs
 ·exact u.slot b ob q n hb hx
 ·exact⟨ob.slots,u.keep b ob q n hb hx⟩
theorem Un.kept(k:∀ b u,h.get? b=some u→h'.get? b=some u):Un fs ex H H h h':=
 ⟨fun b ob q _ _ _=>k b ob q,fun b ob q _ _ _=>⟨ob.slots,k b ob q⟩,fun _ _ _ n _=>n,fun b ob q _=>⟨ob,k b ob q⟩,fun _ _ q=>q,fun _ _ _ q=>q,fun _ ps q=>⟨#[],by rw[q]; simp⟩⟩
theorem Un.refl:Un fs ex H H h h:=Un.kept fun _ _ q=>q
theorem Un.laid(k:∀ b u,h.get? b=some u→h'.get? b=some u)(hp:h.objs.size≤a)(hn:H a=none):Un fs ex H (upd H a o) h h' where
 keep:=fun b u q _ _ _=>k b u q
 slot:=fun b u q _ _ _=>⟨u.slots,k b u q⟩
 free:=fun b u q n _=>by rw[af (Nat.ne_of_lt (Nat.lt_of_lt_of_le (Heap.lt_size q) hp))]; exact n
 there:=fun b u q _=>⟨u,k b u q⟩
 tups:=fun b xs q=>by rw[af (aq q hn)]; exact q
 frzs:=fun b u xs q=>by rw[af (aq q hn)]; exact q
 tbls:=fun b ps q=>⟨#[],by rw[af (aq q hn),q]; simp⟩
theorem Un.write(mu:tw (H x))(he:e=x∨H e=some (.own x))(k:∀ b u,b≠e→h.get? b=some u→h'.get? b=some u)(heo:∃ u,h'.get? e=some u):Un fs ex H (upd H x o) h h':=by
 have hx:∀ b,H b=none→b≠x:=fun b n z=>by subst z; rw[n]at mu; exact mu
 have hb:∀ b,H b=none→b≠e:=fun b n z=>by
  subst z
  rcases he with r | r
  ·exact hx b n r
  ·rw[n]at r; cases r
 have hm:∀ b u,H b=some u→¬ tw (some u)→b≠x:=fun b u q nm z=>by subst z; rw[q]at mu; exact nm mu
 refine⟨fun b u q n _ _=>k b u (hb b n) q,fun b u q n _ _=>⟨u.slots,k b u (hb b n) q⟩,fun b u q n _=>by rw[af (hx b n)]; exact n,fun b u q _=>?_,
  fun b xs q=>by rw[af (hm b _ q fun z=>z)]; exact q,fun b u xs q=>by rw[af (hm b _ q fun z=>z)]; exact q,fun b ps q=>⟨#[],by rw[af (hm b _ q fun z=>z),q]; simp⟩⟩
 by_cases hbe:b=e
 ·subst hbe; exact heo
 ·exact⟨u,k b u hbe q⟩
end
def trk(h:Heap)(H:Hp):List Addr:=(List.range h.objs.size).filter fun a=>(H a).isSome
def gn(h:Heap)(H:Hp):Heap:=PySem.W.hideAll h (trk h H)
theorem tI(h:Heap)(H:Hp):(gn h H).objs.size=h.objs.size:=PySem.W.hideAll_size _ _
theorem uM{h:Heap}{H:Hp}{b:Addr}{o:Obj}(e:h.get? b=some o)(n:H b=none):(gn h H).get? b=some o:=
 PySem.W.hideAll_get _ e fun hm=>by
  have q:(H b).isSome=true:=(List.mem_filter.mp hm).2
  rw[n]at q; simp at q
theorem xY{h:Heap}{H:Hp}{b:Addr}{o:Obj}(e:(gn h H).get? b=some o):h.get? b=some o∧H b=none:=by
 have e':h.get? b=some o:=PySem.W.of_hideAll (trk h H) e
 refine⟨e',?_⟩
 cases q:H b with
 | none=>rfl
 | some x=>
  have hm:b∈trk h H:=List.mem_filter.mpr ⟨List.mem_range.mpr (Heap.lt_size e'),by simp[q]⟩
  have z:(gn h H).get? b=none:=PySem.W.hideAll_none (trk h H) hm
  rw[z]at e; cases e
def xN(g h:Heap)(L:Addr):List (Addr × Obj):=(List.range h.objs.size).filterMap fun a=>if a=L∨(g.get? a).isSome=true then none else (h.get? a).map fun o=>(a,o)
def rest(g h:Heap)(L d:Addr):List (Addr × Obj):=(xN g h L).filter fun p=>decide (p.1≠d)
end L2
namespace L2
open PySem PySem.Spec PyProof.Rows
structure Mod (K:PySem.W.Frag) (mg:Str→Option Value) (base:Heap):Prop where
 kin:K.In base
 glob:base.Ns mainGlobals mg
 blt:∃ mb,base.Ns builtinsNs mb∧∀ x:Str,x ≠ "__name__" → mb x=bootBuiltins x
 nolimit:base.NoLimit
set_option genInjectivity false in
set_option genSizeOf false in
structure Cx where
 prog:Program
 w:World
 K:PySem.W.Frag
 mg:Str→Option Value
 base:Heap
 A:Around
 N:List Str
 s₀ : Shared
 H₀ : Hp
 env:Env
 outer:List Env
 stack:List Env
 ex:List Addr
 fn:Str→Bool
 calm:Bool
 pn:List (Addr × Obj)
 xe:Value→Shared→Prop
def gF(l:List Env):List Addr:=l.filterMap (·.frame)
abbrev Cx.fs (X:Cx):List Addr:=gF X.outer
def au(sc:Scope)(x:Str):Prop:=sc.names.lookup x=some .local∨sc.names.lookup x=some .cell∨sc.names.lookup x=some .free
def aS(sc:Scope)(x:Str):Prop:=sc.names.lookup x=some .local∨sc.names.lookup x=some .cell
def Bi(env:Env)(h:Heap)(m:Str→Option Value)(x:Str)(u:Value):Prop:=
 (env.kindOf x=some .local∧m x=some u)∨((env.kindOf x=some .cell∨env.kindOf x=some .free)∧∃ c,env.cells.lookup x=some c∧h.IsCell c (some u))
structure Cx.Ok (X:Cx):Prop where
 mod:Mod X.K X.mg X.base
 kind:X.env.scope.kind = .function
 glob:X.env.globals=mainGlobals
 blt:X.env.builtins=builtinsNs
 above:X.s₀.heap.objs.size≤X.env.locals
 inj:∀ x y c,X.env.cells.lookup x=some c→X.env.cells.lookup y=some c→x=y
 has:∀ x,(X.env.kindOf x=some .cell∨X.env.kindOf x=some .free)→∃ c,X.env.cells.lookup x=some c
 cab:∀ x c,X.fn x=true→X.env.cells.lookup x=some c→X.s₀.heap.objs.size≤c
 hd:X.calm=true→X.A.handled=none
 frames:X.A.frames=some X.stack
 stk:X.stack=X.outer∨(X.stack=X.env::X.outer∧X.env.frame=some X.env.locals)
 exf:∀ b∈X.ex,b≠X.env.locals∧∀ x c,X.env.cells.lookup x=some c→c≠b
 bs:∀ b o,X.base.get? b=some o→X.s₀.heap.get? b=some o∧X.H₀ b=none
 bsz:X.base.objs.size≤X.s₀.heap.objs.size
 noex:∀ b o,X.base.get? b=some o→b∉X.ex
 exfs:∀ b∈X.ex,b∉X.fs
 funs:X.s₀.heap.FunFrames X.base X.outer
 frf:∀ b∈X.fs,X.H₀ b=none
structure Inv (X:Cx) (pins:List (Addr × Obj)) (σ : List (Option V)) (H:Hp) (s:Shared):Prop where
 ok:X.Ok
 os:s.os=X.s₀.os
 bare:AllBare s.gens
 base:Un X.fs X.ex X.H₀ H X.s₀.heap s.heap
 loc:∃ m,s.heap.Ns X.env.locals m∧∀ (i:Nat) (x:Str) (v:V),X.N[i]? = some x→σ[i]? = some (some v)→au X.env.scope x→∃ u,RelV v u∧Bi X.env s.heap m x u
 cell:∀ x c,X.env.cells.lookup x=some c→∃ v,s.heap.IsCell c v
 free:H X.env.locals=none
 freeC:∀ x c,X.env.cells.lookup x=some c→H c=none
 pin:∀ p∈X.pn++pins,s.heap.get? p.1=some p.2∧H p.1=none∧p.1≠X.env.locals∧p.1∉X.fs∧∀ v,p.2.data ≠ .cell v
 hok:HOk X.prog X.w H s.heap
 len:σ.length=X.N.length
section
variable{X:Cx}{pins:List (Addr × Obj)}{σ : List (Option V)}{H H':Hp}{s:Shared}{h':Heap}
theorem Cx.Ok.nofr(ok:X.Ok){b:Addr}{o:Obj}(e:X.base.get? b=some o):b∉X.fs:=fun hb=>by
 have:=(ok.funs.mem hb).1
 rw[e]at this; cases this
theorem Inv.bs(I:Inv X pins σ H s):∀ b o,X.base.get? b=some o→s.heap.get? b=some o∧H b=none:=fun b o e=>
 ⟨I.base.keep b o (I.ok.bs b o e).1 (I.ok.bs b o e).2 (I.ok.nofr e) (I.ok.noex b o e),I.base.free b o (I.ok.bs b o e).1 (I.ok.bs b o e).2 (I.ok.noex b o e)⟩
theorem Inv.bk(I:Inv X pins σ H s):∀ b o,X.base.get? b=some o→s.heap.get? b=some o:=fun b o e=>(I.bs b o e).1
theorem Inv.mod(I:Inv X pins σ H s):Mod X.K X.mg X.base:=I.ok.mod
theorem Inv.kIn(I:Inv X pins σ H s):X.K.In s.heap:=I.ok.mod.kin.keeps I.bk
theorem Inv.lt(I:Inv X pins σ H s):X.env.locals<s.heap.objs.size:=let ⟨_,hn,_⟩:=I.loc; hn.lt
theorem Inv.sz(I:Inv X pins σ H s):X.s₀.heap.objs.size≤s.heap.objs.size:=Nat.le_trans I.ok.above (Nat.le_of_lt I.lt)
theorem Inv.nofs(I:Inv X pins σ H s){a:Addr}(h:s.heap.objs.size≤a):a∉X.fs:=fun hb=>by
 obtain⟨_,o,ho,_⟩:=I.ok.funs.mem hb
 exact absurd (Nat.lt_of_lt_of_le (Heap.lt_size ho) (Nat.le_trans I.sz h)) (Nat.lt_irrefl _)
theorem Inv.cne(I:Inv X pins σ H s):∀ x c,X.env.cells.lookup x=some c→c≠X.env.locals:=fun x c e z=>by
 obtain⟨v,o,ho,hd⟩:=I.cell x c e
 obtain⟨m,⟨o',es,ep,ho',hd',_⟩,_⟩:=I.loc
 rw[z,ho']at ho; cases ho; rw[hd']at hd; cases hd
theorem Inv.funs(I:Inv X pins σ H s):s.heap.FunFrames X.base X.outer:=by
 have all:∀ (l:List Env),(∀ b∈gF l,b∈X.fs)→X.s₀.heap.FunFrames X.base l→s.heap.FunFrames X.base l:=by
  intro l
  induction l with
  | nil=>intro _ _; trivial
  | cons env r ih=>
   intro hs hl
   obtain⟨hk,⟨L,o,hf,hn,ho,hd⟩,hr⟩:=hl
   have hL:L∈X.fs:=hs L (by unfold gF; rw[List.filterMap_cons,hf]; exact List.mem_cons_self)
   obtain⟨sl,e⟩:=I.base.slot L o ho (I.ok.frf L hL) hL fun z=>I.ok.exfs L z hL
   exact⟨hk,⟨L,_,hf,hn,e,hd⟩,ih (fun b hb=>hs b (by unfold gF; rw[List.filterMap_cons,hf]; exact List.mem_cons_of_mem _ hb)) hr⟩
 exact all X.outer (fun _ hb=>hb) I.ok.funs
theorem Inv.stack(I:Inv X pins σ H s):s.heap.FunFrames X.base X.stack:=by
 rcases I.ok.stk with e | ⟨e,hf⟩
 ·rw[e]; exact I.funs
 ·rw[e]
  obtain⟨m,hn,_⟩:=I.loc
  refine .cons (by rw[I.ok.kind]; decide) hf hn ?_ I.funs
  exact Heap.get?_none_of_le (Nat.le_trans I.ok.bsz I.ok.above)
theorem Inv.stkSub(I:Inv X pins σ H s):∀ b∈gF X.stack,b∈X.env.locals::X.fs:=fun b hb=>by
 rcases I.ok.stk with e | ⟨e,hf⟩
 ·rw[e]at hb; exact List.mem_cons_of_mem _ hb
 ·rw[e]at hb
  unfold gF at hb
  rw[List.filterMap_cons,hf]at hb
  exact hb
theorem Inv.stkFree(I:Inv X pins σ H s):∀ b∈gF X.stack,H b=none:=fun b hb=>by
 rcases List.mem_cons.mp (I.stkSub b hb) with e | hb
 ·rw[e]; exact I.free
 ·obtain⟨_,o,ho,_⟩:=I.ok.funs.mem hb
  exact I.base.free b o ho (I.ok.frf b hb) fun z=>I.ok.exfs b z hb
theorem Inv.step{g':Array GenState}{t':Nat}{d':Drawn}{ch:List Addr}(I:Inv X pins σ H s)
  (hch:∀ b∈ch,(b∈X.ex∨X.s₀.heap.objs.size≤b)∧b≠X.env.locals∧(∀ x c,X.env.cells.lookup x=some c→c≠b)∧∀ p∈X.pn++pins,p.1≠b)
  (keep:∀ b o,b≠X.env.locals→b∉X.fs→b∉ch→s.heap.get? b=some o→H b=none→h'.get? b=some o)
  (slot:∀ b o,b≠X.env.locals→b∈X.fs→b∉ch→s.heap.get? b=some o→H b=none→∃ sl,h'.get? b=some { o with slots:=sl }) (free:∀ b o,b∉ch→s.heap.get? b=some o→H b=none→H' b=none)
  (there:∀ b o,b∉ch→s.heap.get? b=some o→∃ o',h'.get? b=some o')
  (tups:∀ b xs,H b=some (.tup xs)→H' b=some (.tup xs)) (frzs:∀ b o u,H b=some (.frz o u)→H' b=some (.frz o u)) (tbls:∀ b ps,H b=some (.tbl ps)→∃ more,H' b=some (.tbl (ps++more)))
  (ns:∀ m,s.heap.Ns X.env.locals m→h'.Ns X.env.locals m) (hok:HOk X.prog X.w H' h') (hg:AllBare g') :
  Inv X pins σ H' { s with heap:=h',gens:=g',drawn:=d',toks:=t' }:=by
 have neL:∀ b o,X.s₀.heap.get? b=some o→b≠X.env.locals:=fun b o e=>Nat.ne_of_lt (Nat.lt_of_lt_of_le (Heap.lt_size e) I.ok.above)
 have neC:∀ b o,X.s₀.heap.get? b=some o→b∉X.ex→b∉ch:=fun b o e hx hb=>by
  rcases(hch b hb).1 with z | z
  ·exact hx z
  ·exact absurd (Nat.lt_of_lt_of_le (Heap.lt_size e) z) (Nat.lt_irrefl _)
 have cellK:∀ x c,X.env.cells.lookup x=some c→∀ v,s.heap.IsCell c v→h'.IsCell c v:=fun x c e v ⟨o,ho,hd⟩=>by
  have nch:c∉ch:=fun z=>(hch c z).2.2.1 x c e rfl
  by_cases hc:c∈X.fs
  ·obtain⟨sl,q⟩:=slot c o (I.cne x c e) hc nch ho (I.freeC x c e)
   exact⟨_,q,hd⟩
  ·exact⟨o,keep c o (I.cne x c e) hc nch ho (I.freeC x c e),hd⟩
 refine⟨I.ok,I.os,hg,⟨fun b o e n hb hx=>?_,fun b o e n hb hx=>?_,fun b o e n hx=>?_,fun b o e hx=>?_,fun b xs e=>tups b xs (I.base.tups b xs e),fun b o xs e=>frzs b o xs (I.base.frzs b o xs e),fun b ps e=>?_⟩,?_,fun x c e=>?_,?_,fun x c e=>?_,fun p hp=>?_,hok,I.len⟩
 ·exact keep b o (neL b o e) hb (neC b o e hx) (I.base.keep b o e n hb hx) (I.base.free b o e n hx)
 ·obtain⟨sl,e1⟩:=I.base.slot b o e n hb hx
  obtain⟨sl',e2⟩:=slot b _ (neL b o e) hb (neC b o e hx) e1 (I.base.free b o e n hx)
  exact⟨sl',e2⟩
 ·obtain⟨o',e1⟩:=I.base.there b o e hx
  exact free b o' (neC b o e hx) e1 (I.base.free b o e n hx)
 ·obtain⟨o',e1⟩:=I.base.there b o e hx
  exact there b o' (neC b o e hx) e1
 ·obtain⟨m1,e1⟩:=I.base.tbls b ps e
  obtain⟨m2,e2⟩:=tbls b _ e1
  exact⟨m1++m2,by rw[e2,Array.append_assoc]⟩
 ·obtain⟨m,hn,hl⟩:=I.loc
  refine⟨m,ns m hn,fun i x v e1 e2 e3=>?_⟩
  obtain⟨u,r,l⟩:=hl i x v e1 e2 e3
  refine⟨u,r,?_⟩
  rcases l with l | ⟨k,c,e,z⟩
  ·exact .inl l
  ·exact .inr ⟨k,c,e,cellK x c e _ z⟩
 ·obtain⟨v,z⟩:=I.cell x c e
  exact⟨v,cellK x c e v z⟩
 ·obtain⟨m,⟨o,_,_,ho,_⟩,_⟩:=I.loc
  exact free _ o (fun z=>(hch _ z).2.1 rfl) ho I.free
 ·obtain⟨v,o,ho,hd⟩:=I.cell x c e
  exact free c o (fun z=>(hch c z).2.2.1 x c e rfl) ho (I.freeC x c e)
 ·obtain⟨e,n,ne,nf,d⟩:=I.pin p hp
  have nch:p.1∉ch:=fun z=>(hch p.1 z).2.2.2 p hp rfl
  exact⟨keep p.1 p.2 ne nf nch e n,free p.1 p.2 nch e n,ne,nf,d⟩
theorem Inv.un{t':Nat}(I:Inv X pins σ H s)(u:Un X.fs [] H H' s.heap h')(hok:HOk X.prog X.w H' h'):Inv X pins σ H' { s with heap:=h',toks:=t' }:=by
 obtain⟨m,⟨o,es,ep,ho,r⟩,_⟩:=id I.loc
 obtain⟨sl,hL⟩:=u.any ho I.free (by simp)
 exact I.step (g':=s.gens) (d':=s.drawn) (ch:=[]) (fun _ z=>nomatch z) (fun b o _ hb _ e n=>u.keep b o e n hb (by simp)) (fun b o _ hb _ e n=>u.slot b o e n hb (by simp)) (fun b o _ e n=>u.free b o e n (by simp)) (fun b o _ e=>u.there b o e (by simp)) u.tups u.frzs u.tbls (fun m' hm=>by
  obtain⟨o',es',ep',ho',r'⟩:=hm
  rw[ho]at ho'; cases ho'
  exact⟨_,es',ep',hL,r'⟩) hok I.bare
theorem Inv.call{g':Array GenState}{t':Nat}{d':Drawn}{ch:List Addr}(I:Inv X pins σ H s)(u:Un (gF X.stack) ch H H' s.heap h')(hok:HOk X.prog X.w H' h')(hg:AllBare g')
  (hch:∀ b∈ch,(b∈X.ex∨X.s₀.heap.objs.size≤b)∧b≠X.env.locals∧(∀ x c,X.env.cells.lookup x=some c→c≠b)∧∀ p∈X.pn++pins,p.1≠b) :
  Inv X pins σ H' { s with heap:=h',gens:=g',drawn:=d',toks:=t' }:=by
 obtain⟨m,⟨o,es,ep,ho,r⟩,_⟩:=id I.loc
 obtain⟨sl,hL⟩:=u.any ho I.free fun z=>(hch _ z).2.1 rfl
 exact I.step (ch:=ch) hch (fun b o hL hb hc e n=>u.keep b o e n (fun z=>(List.mem_cons.mp (I.stkSub b z)).elim hL hb) hc) (fun b o _ _ hc e n=>u.any e n hc) (fun b o hc e n=>u.free b o e n hc) (fun b o hc e=>u.there b o e hc) u.tups u.frzs u.tbls (fun m' hm=>by
  obtain⟨o',es',ep',ho',r'⟩:=hm
  rw[ho]at ho'; cases ho'
  exact⟨_,es',ep',hL,r'⟩) hok hg
theorem Inv.turned{t':Nat}{it:Addr}(I:Inv X pins σ H s)(k:∀ b o,b≠it→s.heap.get? b=some o→h'.get? b=some o)(hn:H it=none)(hL:it≠X.env.locals)
  (h1:it∈X.ex∨X.s₀.heap.objs.size≤it) (h2:∀ x c,X.env.cells.lookup x=some c→c≠it) (h3:∀ p∈X.pn++pins,p.1≠it):Inv X pins σ H { s with heap:=h',toks:=t' }:=by
 have nit:∀ b u,H b=some u→b≠it:=fun b u e z=>by rw[z,hn]at e; cases e
 refine I.step (g':=s.gens) (d':=s.drawn) (ch:=[it]) (fun b hb=>?_) (fun b o _ _ hc e _=>k b o (fun z=>hc (by simp[z])) e) (fun b o _ _ hc e _=>⟨o.slots,k b o (fun z=>hc (by simp[z])) e⟩) (fun _ _ _ _ n=>n)
  (fun b o hc e=>⟨o,k b o (fun z=>hc (by simp[z])) e⟩) (fun _ _ e=>e) (fun _ _ _ e=>e) (fun b ps e=>⟨#[],by rw[e]; simp⟩) (fun m hm=>?_) (fun b u e=>?_) I.bare
 ·have e:b=it:=by simpa using hb
  subst e
  exact⟨h1,hL,h2,h3⟩
 ·obtain⟨o,es,ep,ho,r⟩:=hm
  exact⟨o,es,ep,k _ o (Ne.symm hL) ho,r⟩
 ·refine(I.hok b u e).stay (fun c v hc q=>k c v ?_ q) (fun _ q=>q) fun _ _ q=>q
  rcases hc with z | z
  ·rw[z]; exact nit b u e
  ·exact nit c _ z
theorem Inv.tok(I:Inv X pins σ H s)(t:Nat):Inv X pins σ H { s with toks:=t }:=I.un (h':=s.heap) (t':=t) Un.refl I.hok
theorem Inv.kept{t':Nat}(I:Inv X pins σ H s)(k:∀ b u,s.heap.get? b=some u→h'.get? b=some u):Inv X pins σ H { s with heap:=h',toks:=t' }:=I.un (Un.kept k) (I.hok.kept k)
theorem Inv.laid{a:Addr}{o:HO}{t':Nat}(I:Inv X pins σ H s)(k:∀ b u,s.heap.get? b=some u→h'.get? b=some u)(hp:s.heap.objs.size≤a)(new:ObjOk X.prog X.w (upd H a o) h' a o) :
  Inv X pins σ (upd H a o) { s with heap:=h',toks:=t' }:=I.un (Un.laid k hp (I.hok.fresh hp)) (I.hok.laid k hp new)
theorem Inv.write{x e:Addr}{o:HO}{t':Nat}(I:Inv X pins σ H s)(mu:tw (H x))(he:e=x∨H e=some (.own x))(k:∀ b u,b≠e→s.heap.get? b=some u→h'.get? b=some u)(heo:∃ u,h'.get? e=some u)
  (new:ObjOk X.prog X.w (upd H x o) h' x o):Inv X pins σ (upd H x o) { s with heap:=h',toks:=t' }:=I.un (Un.write mu he k heo) (I.hok.write mu he k heo new)
theorem Inv.weak{σ':List (Option V)}(I:Inv X pins σ H s)(hl:σ'.length=σ.length)(w:∀ (i:Nat) v,σ'[i]? = some (some v)→σ[i]? = some (some v)):Inv X pins σ' H s:=
 ⟨I.ok,I.os,I.bare,I.base,let ⟨m,hn,hl'⟩:=I.loc; ⟨m,hn,fun i x v e1 e2 e3=>hl' i x v e1 (w i v e2) e3⟩,I.cell,I.free,I.freeC,I.pin,I.hok,hl.trans I.len⟩
theorem Inv.pins_of{pins':List (Addr × Obj)}(I:Inv X pins σ H s)(h:∀ p∈pins',s.heap.get? p.1=some p.2∧H p.1=none∧p.1≠X.env.locals∧p.1∉X.fs∧∀ v,p.2.data ≠ .cell v):Inv X pins' σ H s:=
 ⟨I.ok,I.os,I.bare,I.base,I.loc,I.cell,I.free,I.freeC,fun p hp=>(List.mem_append.mp hp).elim (fun z=>I.pin p (List.mem_append_left _ z)) (h p),I.hok,I.len⟩
theorem nD{N:List Str}(hN:N.Nodup){i j:Nat}{x:Str}(a:N[i]? = some x)(b:N[j]? = some x):i=j:=by
 obtain⟨h1,e1⟩:=List.getElem?_eq_some_iff.mp a
 obtain⟨h2,e2⟩:=List.getElem?_eq_some_iff.mp b
 exact(List.getElem_inj hN).mp (e1.trans e2.symm)
theorem uc{M:Model}{A:Around}{E:Value→Shared→Prop}{i:Nat}{x:Str}{v:V}{u:Value}{Q:Unit→Shared→Prop}(I:Inv X pins σ H s)(hN:X.N.Nodup)(hi:X.N[i]? = some x)(hx:aS X.env.scope x)(r:RelV v u)
  (h:∀ s',Inv X pins (σ.set i (some v)) H s'→(∃ a,Heap.SameBut a s.heap s'.heap∧(a=X.env.locals∨X.env.cells.lookup x=some a))→Q () s') (hf:X.fn x=true∨X.env.scope.names.lookup x=some .local:=by first | exact .inl rfl | exact .inr rfl | assumption):wpAny M A (storeName X.env x u) Q E s:=by
 obtain⟨m,hn,hl⟩:=id I.loc
 have hcls:(X.env.scope.kind == .class||(X.env.scope.kind == .module&&X.env.locals != X.env.globals))=false:=by rw[I.ok.kind]; rfl
 have hiσ : i<σ.length:=by rw[I.len]; exact(List.getElem?_eq_some_iff.mp hi).1
 have cne:=I.cne
 have tracked:∀ {a:Addr} {h':Heap},(∃ o,s.heap.get? a=some o∧H a=none)→Heap.SameBut a s.heap h'→HOk X.prog X.w H h':=fun {a h'} ha hs b ob e=>by
  obtain⟨_,_,hfree⟩:=ha
  refine(I.hok b ob e).stay (fun c w' hc q=>(hs.2 c ?_).trans q) (fun _ q=>q) fun _ _ q=>q
  rintro rfl
  rcases hc with rfl | hc
  ·rw[hfree]at e; cases e
  ·rw[hfree]at hc; cases hc
 rcases hx with hk | hk
 ·refine wpAny_storeName_local hk hn (fun h' hn' hs=>?_) hcls
  obtain⟨oL,_,_,hoL,_⟩:=id hn
  refine h _ ⟨I.ok,I.os,I.bare,⟨fun b o e n hb hx=>?_,fun b o e n hb hx=>?_,I.base.free,fun b o e hx=>?_,I.base.tups,I.base.frzs,I.base.tbls⟩,⟨_,hn',fun j y v' e1 e2 e3=>?_⟩,fun y c e=>?_,I.free,I.freeC,fun p hp=>?_,tracked ⟨oL,hoL,I.free⟩ hs,by simpa using I.len⟩ ⟨_,hs,.inl rfl⟩
  ·exact(hs.2 b (Nat.ne_of_lt (Nat.lt_of_lt_of_le (Heap.lt_size e) I.ok.above))).trans (I.base.keep b o e n hb hx)
  ·obtain⟨sl,e1⟩:=I.base.slot b o e n hb hx
   exact⟨sl,(hs.2 b (Nat.ne_of_lt (Nat.lt_of_lt_of_le (Heap.lt_size e) I.ok.above))).trans e1⟩
  ·obtain⟨o',e1⟩:=I.base.there b o e hx
   exact⟨o',(hs.2 b (Nat.ne_of_lt (Nat.lt_of_lt_of_le (Heap.lt_size e) I.ok.above))).trans e1⟩
  ·by_cases hj:j=i
   ·subst hj
    rw[hi]at e1; cases e1
    rw[List.getElem?_set_self hiσ]at e2
    cases e2
    exact⟨u,r,.inl ⟨hk,by simp⟩⟩
   ·rw[List.getElem?_set_ne (Ne.symm hj)]at e2
    obtain⟨u',r',q⟩:=hl j y v' e1 e2 e3
    refine⟨u',r',?_⟩
    rcases q with ⟨k,e⟩ | ⟨k,c,e,z⟩
    ·refine .inl ⟨k,?_⟩
     have:y≠x:=fun e=>hj (nD hN e1 (e ▸ hi))
     simp[this,e]
    ·exact .inr ⟨k,c,e,z.sameBut hs (cne y c e)⟩
  ·obtain⟨w',z⟩:=I.cell y c e
   exact⟨w',z.sameBut hs (cne y c e)⟩
  ·obtain⟨e,n,ne,nf,d⟩:=I.pin p hp
   exact⟨(hs.2 p.1 ne).trans e,n,ne,nf,d⟩
 ·have hfn:X.fn x=true:=by
   rcases hf with z | z
   ·exact z
   ·rw[z]at hk; cases hk
  obtain⟨c,hc⟩:=I.ok.has x (.inl hk)
  obtain⟨w',z⟩:=I.cell x c hc
  refine wpAny_storeName_cell I.ok.kind hk hc z (fun h' hc' hs=>?_)
  obtain⟨oc,hoc,hocd⟩:=id z
  refine h { s with heap:=h' } ⟨I.ok,I.os,I.bare,⟨fun b o e n hb hx=>?_,fun b o e n hb hx=>?_,I.base.free,fun b o e hx=>?_,I.base.tups,I.base.frzs,I.base.tbls⟩,⟨m,hn.sameBut hs (Ne.symm (cne x c hc)),fun j y v' e1 e2 e3=>?_⟩,fun y c' e=>?_,I.free,I.freeC,fun p hp=>?_,tracked ⟨oc,hoc,I.freeC x c hc⟩ hs,by simpa using I.len⟩ ⟨c,hs,.inr hc⟩
  ·exact(hs.2 b (Nat.ne_of_lt (Nat.lt_of_lt_of_le (Heap.lt_size e) (I.ok.cab x c hfn hc)))).trans (I.base.keep b o e n hb hx)
  ·obtain⟨sl,e1⟩:=I.base.slot b o e n hb hx
   exact⟨sl,(hs.2 b (Nat.ne_of_lt (Nat.lt_of_lt_of_le (Heap.lt_size e) (I.ok.cab x c hfn hc)))).trans e1⟩
  ·obtain⟨o',e1⟩:=I.base.there b o e hx
   exact⟨o',(hs.2 b (Nat.ne_of_lt (Nat.lt_of_lt_of_le (Heap.lt_size e) (I.ok.cab x c hfn hc)))).trans e1⟩
  ·by_cases hj:j=i
   ·subst hj
    rw[hi]at e1; cases e1
    rw[List.getElem?_set_self hiσ]at e2
    cases e2
    exact⟨u,r,.inr ⟨.inl hk,c,hc,hc'⟩⟩
   ·rw[List.getElem?_set_ne (Ne.symm hj)]at e2
    obtain⟨u',r',q⟩:=hl j y v' e1 e2 e3
    refine⟨u',r',?_⟩
    rcases q with q | ⟨k,c',e,z'⟩
    ·exact .inl q
    ·refine .inr ⟨k,c',e,z'.sameBut hs ?_⟩
     rintro rfl
     exact hj (nD hN e1 (I.ok.inj _ _ _ e hc ▸ hi))
  ·by_cases hcc:c'=c
   ·subst hcc; exact⟨_,hc'⟩
   ·obtain⟨w2,z2⟩:=I.cell y c' e
    exact⟨w2,z2.sameBut hs hcc⟩
  ·obtain⟨e,n,ne,nf,d⟩:=I.pin p hp
   refine⟨(hs.2 p.1 ?_).trans e,n,ne,nf,d⟩
   intro q
   rw[q,hoc]at e
   have q':oc=p.2:=Option.some.inj e
   exact d w' (by rw[← q']; exact hocd)
theorem nW{M:Model}{A:Around}{E:Value→Shared→Prop}{i:Nat}{x:Str}{v:V}{u:Value}{Q:Unit→Shared→Prop}(I:Inv X pins σ H s)(hN:X.N.Nodup)(hi:X.N[i]? = some x)(hx:aS X.env.scope x)(r:RelV v u)
  (h:∀ s',Inv X pins (σ.set i (some v)) H s'→Q () s') (hf:X.fn x=true∨X.env.scope.names.lookup x=some .local:=by first | exact .inl rfl | exact .inr rfl | assumption):wpAny M A (storeName X.env x u) Q E s:=
 uc I hN hi hx r (fun s' I' _=>h s' I') hf
theorem Inv.call'{s':Shared}{ch:List Addr}(I:Inv X pins σ H s)(ho:s'.os=s.os)(u:Un (gF X.stack) ch H H' s.heap s'.heap)(hok:HOk X.prog X.w H' s'.heap)(hg:AllBare s'.gens)
  (hch:∀ b∈ch,(b∈X.ex∨X.s₀.heap.objs.size≤b)∧b≠X.env.locals∧(∀ x c,X.env.cells.lookup x=some c→c≠b)∧∀ p∈X.pn++pins,p.1≠b):Inv X pins σ H' s':=by
 obtain⟨h',g',d',t',o'⟩:=s'
 have e:o'=s.os:=ho
 subst e
 exact I.call (g':=g') (t':=t') (d':=d') u hok hg hch
end
abbrev XK:=Value→Option Addr→Hp→Prop
abbrev St:=List (Option V)
abbrev VK:=V→Hp→Prop
abbrev TE:=St→Hp→VK→Prop
abbrev TT:=St→Hp→(Bool→Hp→Prop)→Prop
abbrev TA:=St→Hp→(List V→Hp→Prop)→Prop
set_option genInjectivity false in
set_option genSizeOf false in
structure dm where
 nx:St→Hp→Prop
 rt:VK
 bk:St→Hp→Prop:=fun _ _=>False
 ct:St→Hp→Prop:=fun _ _=>False
abbrev TS:=dm→St→Hp→Prop
def EP(X:Cx)(pins:List (Addr × Obj))(σ : St)(Q:VK)(u:Value)(s':Shared):Prop:=∃ v H',Inv X pins σ H' s'∧RelV v u∧Q v H'
def TP(X:Cx)(pins:List (Addr × Obj))(σ : St)(Q:Bool→Hp→Prop)(b:Bool)(s':Shared):Prop:=∃ H',Inv X pins σ H' s'∧Q b H'
def AP(X:Cx)(pins:List (Addr × Obj))(σ : St)(Q:List V→Hp→Prop)(us:List Value)(s':Shared):Prop:=∃ vs H',Inv X pins σ H' s'∧Vals vs us∧Q vs H'
def SP(X:Cx)(pins:List (Addr × Obj))(D:dm)(f:Flow)(s':Shared):Prop:=
 match f with
 | .next=>∃ σ' H',Inv X pins σ' H' s'∧D.nx σ' H'
 | .brk=>∃ σ' H',Inv X pins σ' H' s'∧D.bk σ' H'
 | .cont=>∃ σ' H',Inv X pins σ' H' s'∧D.ct σ' H'
 | .ret u=>∃ v σ' H',Inv X pins σ' H' s'∧RelV v u∧D.rt v H'
def PE(X:Cx)(e:Expr)(t:TE):Prop:=
 ∀ (pins:List (Addr × Obj)) (s:Shared) (σ : St) (H:Hp) (Q:VK),Inv X pins σ H s→t σ H Q→wpAny (model X.prog X.w) X.A (eval e X.env) (EP X pins σ Q) X.xe s
def PT(X:Cx)(e:Expr)(t:TT):Prop:=
 ∀ (pins:List (Addr × Obj)) (s:Shared) (σ : St) (H:Hp) (Q:Bool→Hp→Prop),Inv X pins σ H s→t σ H Q→wpAny (model X.prog X.w) X.A (isTrue e X.env (eval e X.env)) (TP X pins σ Q) X.xe s
def PW(X:Cx)(e:Expr)(t:TT):Prop:=
 ∀ (whole:Sem Value) (pins:List (Addr × Obj)) (s:Shared) (σ : St) (H:Hp) (Q:Bool→Hp→Prop),Inv X pins σ H s→t σ H Q→wpAny (model X.prog X.w) X.A (isTrue e X.env whole) (TP X pins σ Q) X.xe s
theorem PW.pt{X:Cx}{e:Expr}{t:TT}(h:PW X e t):PT X e t:=h _
def PA(X:Cx)(es:List Expr)(t:TA):Prop:=
 ∀ (pos:Pos) (pins:List (Addr × Obj)) (s:Shared) (σ : St) (H:Hp) (Q:List V→Hp→Prop),Inv X pins σ H s→t σ H Q→wpAny (model X.prog X.w) X.A (spliced (backTo pos (starEach es X.env))) (AP X pins σ Q) X.xe s
def PS(X:Cx)(st:Stmt)(t:TS):Prop:=
 ∀ (pins:List (Addr × Obj)) (s:Shared) (σ : St) (H:Hp) (D:dm),Inv X pins σ H s→t D σ H→wpAny (model X.prog X.w) X.A (exec st X.env) (SP X pins D) X.xe s
def PSs(X:Cx)(st:List Stmt)(t:TS):Prop:=
 ∀ (pins:List (Addr × Obj)) (s:Shared) (σ : St) (H:Hp) (D:dm),Inv X pins σ H s→t D σ H→wpAny (model X.prog X.w) X.A (execs st X.env) (SP X pins D) X.xe s
theorem bd{α : Type}{t:Sem α}{Q Q':α→Shared→Prop}{M:Model}{A:Around}{E:Value→Shared→Prop}{s:Shared}(h:wpAny M A t Q E s)(hQ:∀ a s,Q a s→Q' a s):wpAny M A t Q' E s:=wpAny_mono h hQ fun _ _ x=>x
end L2
namespace L2
open PySem PySem.Spec PyProof.Rows
section
variable{X:Cx}
def vp(i:Nat):TE:=fun σ H Q=>∃ v,σ[i]? = some (some v)∧Q v H
def tC(v:V):TE:=fun _ H Q=>Q v H
theorem zI{i:Nat}{x:Str}{pos:Pos}(hN:X.N[i]? = some x)(hv:au X.env.scope x)(hd:(x == ("__debug__" : Str))=false:=by decide) (hcd:(x == ("__classdict__" : Str))=false:=by decide):PE X (.Name x pos) (vp i):=by
 intro pins s σ H Q I h
 obtain⟨v,e,h⟩:=h
 obtain⟨m,hn,hl⟩:=I.loc
 obtain⟨u,r,l⟩:=hl i x v hN e hv
 have fin:EP X pins σ Q u s:=⟨v,H,I,r,h⟩
 rcases l with ⟨hk,hm⟩ | ⟨hk,c,hc,hcell⟩
 ·exact wpAny_Name (wpAny_loadName_local I.ok.kind hk hn hm fin) hd
 ·rcases hk with hk | hk
  ·exact wpAny_Name (wpAny_loadName_cell I.ok.kind hk hc hcell fin) hd
  ·exact wpAny_Name (wpAny_loadName_free I.ok.kind hk hc hcell fin hcd) hd
theorem ak{i j pos}:PE X (.Constant (.int i) j pos) (tC (.int i)):=fun _ _ _ H _ I h=>wpAny_Constant_int ⟨.int i,H,I.tok _,⟨_,rfl⟩,h⟩
theorem fc{b j pos}:PE X (.Constant (.bool b) j pos) (tC (.bl b)):=fun _ _ _ H _ I h=>Constant_bool ⟨.bl b,H,I,rfl,h⟩
theorem n9{j pos}:PE X (.Constant .none j pos) (tC .non):=fun _ _ _ H _ I h=>Constant_none ⟨.non,H,I,rfl,h⟩
theorem aB{x j pos}:PE X (.Constant (.str x) j pos) (tC (.str x)):=fun _ _ _ H _ I h=>Calls.Constant_str ⟨.str x,H,I.tok _,⟨_,rfl⟩,h⟩
def Gl(X:Cx)(x:Str):Prop:=X.env.kindOf x=some .globalImplicit
theorem kh{E:Value→Shared→Prop}{pins:List (Addr × Obj)}{s:Shared}{σ : St}{H:Hp}{x:Str}{u:Value}{pos:Pos}{Q:Value→Shared→Prop}(I:Inv X pins σ H s)(hg:Gl X x)(hm:X.mg x=some u)(h:Q u s)
  (hd:(x == ("__debug__" : Str))=false:=by decide):wpAny (model X.prog X.w) X.A (eval (.Name x pos) X.env) Q E s:=
 Calls.Name_function_global I.ok.kind hg (Calls.loadGlobal_global (by rw[I.ok.glob]; exact I.mod.glob.keeps I.bk) hm h) hd
theorem ef{E:Value→Shared→Prop}{pins:List (Addr × Obj)}{s:Shared}{σ : St}{H:Hp}{x:Str}{u:Value}{pos:Pos}{Q:Value→Shared→Prop}(I:Inv X pins σ H s)(hg:Gl X x)(hm:X.mg x=none)(hv:bootBuiltins x=some u)(h:Q u s)
  (hn:x ≠ "__name__" := by decide) (hd:(x == ("__debug__" : Str))=false:=by decide):wpAny (model X.prog X.w) X.A (eval (.Name x pos) X.env) Q E s:=by
 obtain⟨mb,h1,h2⟩:=I.mod.blt
 exact Calls.Name_function_global I.ok.kind hg (Calls.loadGlobal_builtin (by rw[I.ok.glob]; exact I.mod.glob.keeps I.bk) hm (by rw[I.ok.blt]; exact h1.keeps I.bk) ((h2 x hn).trans hv) h) hd
theorem xP{x:Str}{v:V}{u:Value}{pos:Pos}(hg:Gl X x)(hm:X.mg x=some u)(r:RelV v u)(hd:(x == ("__debug__" : Str))=false:=by decide):PE X (.Name x pos) (tC v):=
 fun _ _ _ H _ I h=>kh I hg hm ⟨v,H,I,r,h⟩ hd
theorem xv{x:Str}{v:V}{u:Value}{pos:Pos}(hg:Gl X x)(hm:X.mg x=none)(hv:bootBuiltins x=some u)(r:RelV v u)(hn:x ≠ "__name__" := by decide) (hd:(x == ("__debug__" : Str))=false:=by decide):PE X (.Name x pos) (tC v):=
 fun _ _ _ H _ I h=>ef I hg hm hv ⟨v,H,I,r,h⟩ hn hd
variable{a b:Expr}{ta tb:TE}{pos:Pos}
def tB(t:TE):TT:=fun σ H Q=>t σ H fun x H1=>∃ c,x = .bl c∧Q c H1
theorem fM{e:Expr}{t:TE}(h:PE X e t)(he:∀ whole,isTrue e X.env whole=(do let v ← whole; standAt e.pos; holding [v] (truthy v)):=by intro _; rfl):PT X e (tB t):=by
 intro pins s σ H Q I hw
 refine isTrue_plain (bd (h pins s σ H _ I hw) fun v s1 ⟨x,H1,I1,r1,q1⟩=>?_) (he _)
 obtain⟨d,rfl,q⟩:=q1
 cases r1
 exact wpAny_truthy_bool ⟨H1,I1,q⟩
variable{tA tB':TT}{rest:List Expr}
def yo(t u:TT):TT:=fun σ H Q=>t σ H fun c H1=>if c=true then u σ H1 Q else Q false H1
def AO(t u:TT):TT:=fun σ H Q=>t σ H fun c H1=>if c=true then Q true H1 else u σ H1 Q
def zQ(t:TT):TT:=fun σ H Q=>t σ H fun c H1=>Q (!c) H1
theorem gb(ha:PT X a tA):PW X (.BoolOp .And [a] pos) tA:=by
 intro wh pins s σ H Q I h
 refine isTrue_and (bd (ha pins s σ H Q I h) fun c s1 e=>?_)
 cases c with
 | true=>exact isTrue_and_nil e
 | false=>exact e
theorem gQ(ha:PT X a tA):PW X (.BoolOp .Or [a] pos) tA:=by
 intro wh pins s σ H Q I h
 refine isTrue_or (bd (ha pins s σ H Q I h) fun c s1 e=>?_)
 cases c with
 | false=>exact isTrue_or_nil e
 | true=>exact e
theorem eX(ha:PT X a tA)(hb:PW X (.BoolOp .And (b::rest) pos) tB'):PW X (.BoolOp .And (a::b::rest) pos) (yo tA tB'):=by
 intro wh pins s σ H Q I h
 refine isTrue_and (bd (ha pins s σ H _ I h) fun c s1 ⟨H1,I1,q1⟩=>?_)
 cases c with
 | true=>exact hb wh pins s1 σ H1 Q I1 q1
 | false=>exact⟨H1,I1,q1⟩
theorem fg(ha:PT X a tA)(hb:PW X (.BoolOp .Or (b::rest) pos) tB'):PW X (.BoolOp .Or (a::b::rest) pos) (AO tA tB'):=by
 intro wh pins s σ H Q I h
 refine isTrue_or (bd (ha pins s σ H _ I h) fun c s1 ⟨H1,I1,q1⟩=>?_)
 cases c with
 | true=>exact⟨H1,I1,q1⟩
 | false=>exact hb wh pins s1 σ H1 Q I1 q1
theorem gi(ha:PT X a tA):PT X (.UnaryOp .Not a pos) (zQ tA):=by
 intro pins s σ H Q I h
 exact isTrue_not (ha pins s σ H (fun c H1=>Q (!c) H1) I h)
def AZ(t:TT)(ta tb:TE):TE:=fun σ H Q=>t σ H fun c H1=>if c=true then ta σ H1 Q else tb σ H1 Q
theorem uQ{c:Expr}(hc:PT X c tA)(ha:PE X a ta)(hb:PE X b tb):PE X (.IfExp c a b pos) (AZ tA ta tb):=by
 intro pins s σ H Q I h
 refine wpAny_IfExp (bd (hc pins s σ H _ I h) fun d s1 ⟨H1,I1,q1⟩=>?_)
 cases d with
 | true=>exact ha pins s1 σ H1 Q I1 q1
 | false=>exact hb pins s1 σ H1 Q I1 q1
end
end L2
namespace L2
open PySem PySem.Spec PyProof.Rows
def SqL(K:PySem.W.Frag)(H:Hp)(a:Addr)(xs:List V):Prop:=
 Rd H a (.lst xs)∨
  ∃ (o:Obj) (its:Array Value) (n:Nat),K.lookup a=some o∧o.cls = .type "list" ∧ o.dict=none∧o.data = .seq its n∧its.size≤sizeLine∧Vals xs its.toList
def SqT(K:PySem.W.Frag)(H:Hp)(a:Addr)(xs:List V):Prop:=
 Rd H a (.tup xs)∨
  ∃ (o:Obj) (its:Array Value) (n:Nat),K.lookup a=some o∧o.cls = .type "tuple" ∧ o.data = .seq its n∧its.size≤sizeLine∧Vals xs its.toList
def CQ:Value→Option V
 | .none=>some .non
 | .bool b=>some (.bl b)
 | .int i _=>some (.int i)
 | .str x _=>some (.str x)
 | .bytes b _=>some (.byt b)
 | .float b _=>some (.flt b)
 | .ref a=>some (.ref a)
 | .type n=>some (.ty n)
 | _=>none
theorem RelV.abs{x:V}{u:Value}(r:RelV x u):CQ u=some x:=by
 cases x with
 | non=>cases r; rfl
 | bl _=>cases r; rfl
 | int _=>obtain⟨t,rfl⟩:=r; rfl
 | str _=>obtain⟨t,rfl⟩:=r; rfl
 | byt _=>obtain⟨t,rfl⟩:=r; rfl
 | flt _=>obtain⟨t,rfl⟩:=r; rfl
 | ref _=>cases r; rfl
 | ty _=>cases r; rfl
theorem RelV.inj{x y:V}{u:Value}(r:RelV x u)(q:RelV y u):x=y:=Option.some.inj (r.abs.symm.trans q.abs)
theorem Vals.inj:∀ {xs ys:List V} {us:List Value},Vals xs us→Vals ys us→xs=ys
 | _,_,_,.nil,.nil=>rfl
 | _,_,_,.cons r t,.cons r' t'=>by rw[r.inj r',Vals.inj t t']
section
variable{X:Cx}{pins:List (Addr × Obj)}{σ : St}{H:Hp}{s:Shared}{a:Addr}{xs ys:List V}
theorem SqL.of{K:PySem.W.Frag}(h:H a=some (.lst xs)):SqL K H a xs:=.inl (.inl h)
theorem SqT.of{K:PySem.W.Frag}(h:H a=some (.tup xs)):SqT K H a xs:=.inl (.inl h)
theorem Inv.list(I:Inv X pins σ H s)(h:SqL X.K H a xs):∃ its:List Value,Vals xs its∧PlainL s.heap a its.toArray∧xs.length≤sizeLine:=by
 rcases h with h | ⟨o,its,n,hk,hc,hd,hs,hz,r⟩
 ·obtain⟨z,its,n,r,e⟩:=h.ok I.hok
  exact⟨its,r,⟨_,n,e,rfl,rfl,rfl⟩,z⟩
 ·refine⟨its.toList,r,⟨o,n,I.kIn a o hk,hc,hd,by simpa using hs⟩,?_⟩
  have e:=r.length
  simp only[Array.length_toList]at e
  omega
theorem Inv.tuple(I:Inv X pins σ H s)(h:SqT X.K H a xs):∃ its:List Value,Vals xs its∧IsTup s.heap a its.toArray∧xs.length≤sizeLine:=by
 rcases h with h | ⟨o,its,n,hk,hc,hs,hz,r⟩
 ·obtain⟨z,its,r,p⟩:=h.ok I.hok
  exact⟨its,r,p.tup,z⟩
 ·refine⟨its.toList,r,⟨o,I.kIn a o hk,hc,n,by simpa using hs⟩,?_⟩
  have e:=r.length
  simp only[Array.length_toList]at e
  omega
theorem Inv.list_inj(I:Inv X pins σ H s)(h:SqL X.K H a xs)(h':SqL X.K H a ys):xs=ys:=by
 obtain⟨its,r,⟨o,n,e,_,_,d⟩,_⟩:=I.list h
 obtain⟨its',r',⟨o',n',e',_,_,d'⟩,_⟩:=I.list h'
 rw[e]at e'; cases e'
 rw[d]at d'
 injection d' with d1 _
 have:its=its':=by simpa using congrArg Array.toList d1
 subst this
 exact r.inj r'
theorem Inv.tuple_inj(I:Inv X pins σ H s)(h:SqT X.K H a xs)(h':SqT X.K H a ys):xs=ys:=by
 obtain⟨its,r,⟨o,e,_,n,d⟩,_⟩:=I.tuple h
 obtain⟨its',r',⟨o',e',_,n',d'⟩,_⟩:=I.tuple h'
 rw[e]at e'; cases e'
 rw[d]at d'
 injection d' with d1 _
 have:its=its':=by simpa using congrArg Array.toList d1
 subst this
 exact r.inj r'
end
abbrev Cx.wish (X:Cx) (E:Value→Shared→Prop):Cx:={ X with xe:=E }
abbrev Cx.nox (X:Cx):Cx:=X.wish fun _ _=>False
theorem Cx.Ok.wish{X:Cx}(ok:X.Ok)(E:Value→Shared→Prop):(X.wish E).Ok:=
 ⟨ok.mod,ok.kind,ok.glob,ok.blt,ok.above,ok.inj,ok.has,ok.cab,ok.hd,ok.frames,ok.stk,ok.exf,ok.bs,ok.bsz,ok.noex,ok.exfs,ok.funs,ok.frf⟩
theorem Cx.Ok.unwish{X:Cx}{E:Value→Shared→Prop}(ok:(X.wish E).Ok):X.Ok:=
 ⟨ok.mod,ok.kind,ok.glob,ok.blt,ok.above,ok.inj,ok.has,ok.cab,ok.hd,ok.frames,ok.stk,ok.exf,ok.bs,ok.bsz,ok.noex,ok.exfs,ok.funs,ok.frf⟩
section
variable{X:Cx}{pins:List (Addr × Obj)}{σ : St}{H:Hp}{s:Shared}{E:Value→Shared→Prop}
theorem Inv.wish(I:Inv X pins σ H s)(E:Value→Shared→Prop):Inv (X.wish E) pins σ H s:=⟨I.ok.wish E,I.os,I.bare,I.base,I.loc,I.cell,I.free,I.freeC,I.pin,I.hok,I.len⟩
theorem Inv.unwish(I:Inv (X.wish E) pins σ H s):Inv X pins σ H s:=⟨I.ok.unwish,I.os,I.bare,I.base,I.loc,I.cell,I.free,I.freeC,I.pin,I.hok,I.len⟩
theorem SP.unwish{D:dm}{f:Flow}{s':Shared}(h:SP (X.wish E) pins D f s'):SP X pins D f s':=by
 cases f with
 | next=>obtain⟨σ',H',I,q⟩:=h; exact⟨σ',H',I.unwish,q⟩
 | brk=>obtain⟨σ',H',I,q⟩:=h; exact⟨σ',H',I.unwish,q⟩
 | cont=>obtain⟨σ',H',I,q⟩:=h; exact⟨σ',H',I.unwish,q⟩
 | ret u=>obtain⟨v,σ',H',I,r,q⟩:=h; exact⟨v,σ',H',I.unwish,r,q⟩
theorem PSs.nox{st:List Stmt}{t:TS}(h:PSs X.nox st t):PSs X st t:=fun pins s σ H D I hw=>
 wpAny_mono (h pins s σ H D (I.wish _) hw) (fun _ _ q=>q.unwish) fun _ _ z=>False.elim z
end
section
variable{X:Cx}{st:Stmt}{rest:List Stmt}{t u:TS}{e:Expr}{te:TE}{pos:Pos}
def wV:TS:=fun D σ H=>D.nx σ H
def yG(t u:TS):TS:=fun D σ H=>t { D with nx:=u D } σ H
theorem bA:PSs X [] wV:=fun _ _ σ H _ I h=>wpAny_execs_nil ⟨σ,H,I,h⟩
theorem aj(h1:PS X st t)(h2:PSs X rest u):PSs X (st::rest) (yG t u):=by
 intro pins s σ H D I h
 refine wpAny_execs_cons (bd (h1 pins s σ H { D with nx:=u D } I h) fun f s1 q=>?_)
 cases f with
 | next=>
  obtain⟨σ',H',I',q⟩:=q
  exact h2 pins s1 σ' H' D I' q
 | ret v=>exact q
 | brk=>exact q
 | cont=>exact q
theorem ao(h1:PS X st t):PSs X [st] t:=by
 intro pins s σ H D I h
 refine wpAny_execs_cons (bd (h1 pins s σ H D I h) fun f s1 q=>?_)
 cases f with
 | next=>exact wpAny_execs_nil q
 | ret v=>exact q
 | brk=>exact q
 | cont=>exact q
def w9:TS:=fun D σ H=>D.ct σ H
theorem oU:PS X (.Continue pos) w9:=fun _ _ σ H _ I h=>wpAny_Continue ⟨σ,H,I,h⟩
theorem Inv.quiet{pins:List (Addr × Obj)}{σ : St}{H:Hp}{s:Shared}(I:Inv X pins σ H s):interactive X.env=false:=by simp[interactive,I.ok.kind]
def xk(te:TE):TS:=fun D σ H=>te σ H fun _ H1=>D.nx σ H1
theorem bm(he:PE X e te)(hs:swapsWith e none pos.line X.env=pure false:=by rfl):PS X (.Expr e pos) (xk te):=by
 intro pins s σ H D I h
 exact wpAny_Expr_any (bd (he pins s σ H _ I h) fun v s1 ⟨x,H1,I1,r1,q1⟩=>⟨σ,H1,I1,q1⟩) I.quiet hs
def zU(te:TE):TS:=fun D σ H=>te σ H D.rt
theorem aD(he:PE X e te):PS X (.Return (some e) pos) (zU te):=by
 intro pins s σ H D I h
 exact wpAny_Return_some (bd (he pins s σ H _ I h) fun v s1 ⟨x,H1,I1,r1,q1⟩=>⟨x,σ,H1,I1,r1,q1⟩)
def yy(c:TT)(t u:TS):TS:=fun D σ H=>c σ H fun b H1=>if b=true then t D σ H1 else u D σ H1
theorem bQ{c:Expr}{a b:List Stmt}{tc:TT}(hc:PT X c tc)(ha:PSs X a t)(hb:PSs X b u):PS X (.If c a b pos) (yy tc t u):=by
 intro pins s σ H D I h
 refine wpAny_If (bd (hc pins s σ H _ I h) fun d s1 ⟨H1,I1,q1⟩=>?_)
 cases d with
 | true=>exact ha pins s1 σ H1 D I1 q1
 | false=>exact hb pins s1 σ H1 D I1 q1
end
abbrev TG:=V→St→Hp→(St→Hp→Prop)→Prop
abbrev fu:=List V→St→Hp→(St→Hp→Prop)→Prop
def PG(X:Cx)(target:Expr)(t:TG):Prop:=
 ∀ (pins:List (Addr × Obj)) (s:Shared) (σ : St) (H:Hp) (v:V) (u:Value) (Q:St→Hp→Prop),Inv X pins σ H s→RelV v u→t v σ H Q→
  wpAny (model X.prog X.w) X.A (assign target X.env u) (fun _ s'=>∃ σ' H',Inv X pins σ' H' s'∧Q σ' H') X.xe s
def PGs(X:Cx)(ts:List Expr)(t:fu):Prop:=
 ∀ (pins:List (Addr × Obj)) (s:Shared) (σ : St) (H:Hp) (vs:List V) (us:List Value) (Q:St→Hp→Prop),Inv X pins σ H s→Vals vs us→t vs σ H Q→
  wpAny (model X.prog X.w) X.A (assignInOrder ((assignEach ts X.env).map (·.2)) us) (fun _ s'=>∃ σ' H',Inv X pins σ' H' s'∧Q σ' H') X.xe s
abbrev nL:=V→V→V→Hp→(Hp→Prop)→Prop
def PSet(X:Cx)(t:nL):Prop:=
 ∀ (pins:List (Addr × Obj)) (s:Shared) (σ : St) (H:Hp) (o i v:V) (ov iv u:Value) (Q:Hp→Prop),Inv X pins σ H s→RelV o ov→RelV i iv→RelV v u→t o i v H Q→
  wpAny (model X.prog X.w) X.A (setItem ov iv u) (fun _ s'=>∃ H',Inv X pins σ H' s'∧Q H') X.xe s
section
variable{X:Cx}{pos:Pos}
def gp(i:Nat):TG:=fun v σ H Q=>Q (σ.set i (some v)) H
theorem xV{i:Nat}{x:Str}(hN:X.N.Nodup)(hi:X.N[i]? = some x)(hx:aS X.env.scope x)(hf:X.fn x=true∨X.env.scope.names.lookup x=some .local:=by first | exact .inl rfl | exact .inr rfl | assumption):PG X (.Name x pos) (gp i):=by
 intro pins s σ H v u Q I r h
 exact wpAny_assign_Name (nW I hN hi hx r (fun s' I'=>⟨_,H,I',h⟩) hf)
def rE:fu:=fun vs σ H Q=>vs=[]∧Q σ H
def mj(t:TG)(u:fu):fu:=fun vs σ H Q=>∃ v r,vs=v::r∧t v σ H fun σ' H'=>u r σ' H' Q
theorem eP:PGs X [] rE:=by
 intro pins s σ H vs us Q I r h
 obtain⟨e,h⟩:=h
 subst e
 cases r
 exact assignInOrder_nil ⟨σ,H,I,h⟩
theorem cy{e:Expr}{es:List Expr}{t:TG}{u:fu}(h1:PG X e t)(h2:PGs X es u)
  (hs:(assignEach (e::es) X.env).map (·.2)=assign e X.env::(assignEach es X.env).map (·.2):=by rfl):PGs X (e::es) (mj t u):=by
 intro pins s σ H vs us Q I r h
 obtain⟨v,vr,e1,h⟩:=h
 subst e1
 cases r with
 | cons r rr=>
  rw[hs]
  refine assignInOrder_cons (bd (h1 pins s σ H _ _ _ I r h) fun _ s1 ⟨σ1,H1,I1,q1⟩=>?_)
  exact h2 pins s1 σ1 H1 _ _ Q I1 rr q1
def sf(K:PySem.W.Frag)(n:Nat)(t:fu):TG:=fun v σ H Q=>∃ a xs,v = .ref a∧SqT K H a xs∧xs.length=n∧t xs σ H Q
theorem yO{es:List Expr}{k:Nat}{t:fu}{n:Nat}(hc:X.calm=true)(h:PGs X es t)
  (hn:(assignEach es X.env).length=n:=by rfl) (hst:(assignEach es X.env).findIdx? (·.1)=none:=by rfl):PG X (.Tuple es k pos) (sf X.K n t):=by
 intro pins s σ H v u Q I r hw
 obtain⟨a,xs,e1,hq,hl,hw⟩:=hw
 subst e1
 cases r
 obtain⟨its,rv,ht,hz⟩:=I.tuple hq
 refine assign_Tuple_tuple (I.ok.hd hc) ht (by simp[hn,← hl,rv.length]) hst fun h' hx=>?_
 have I1:Inv X pins σ H { s with heap:=h' }:=I.kept (t':=s.toks) fun b o e=>hx b o (Nat.ne_of_lt (Heap.lt_size e)) e
 exact h pins _ σ H xs _ Q I1 (by simpa using rv) hw
def zx(to ti:TE)(t:nL):TG:=fun v σ H Q=>to σ H fun o H1=>ti σ H1 fun i H2=>t o i v H2 fun H3=>Q σ H3
theorem ng{o i:Expr}{to ti:TE}{t:nL}(ho:PE X o to)(hi:PE X i ti)(hs:PSet X t)
  (ha:∀ v,assign (.Subscript o i pos) X.env v=(do
   let ov ← holding [v] (eval o X.env)
   let iv ← holding [v,ov] (eval i X.env)
   standAt pos
   holding [v,ov,iv] (setItem ov iv v)
   release [v,ov,iv] []):=by intro _; rfl):PG X (.Subscript o i pos) (zx to ti t):=by
 intro pins s σ H v u Q I r h
 rw[ha]
 refine wpAny_bind (wpAny_holding (bd (ho pins s σ H _ I h) fun ov s1 ⟨x,H1,I1,r1,q1⟩=>?_))
 refine wpAny_bind (wpAny_holding (bd (hi pins s1 σ H1 _ I1 q1) fun iv s2 ⟨y,H2,I2,r2,q2⟩=>?_))
 refine wpAny_bind (wpAny_standAt (wpAny_bind (wpAny_holding (bd (hs pins s2 σ H2 x y v ov iv u _ I2 r1 r2 r q2) fun _ s3 ⟨H3,I3,q3⟩=>?_))))
 exact wpAny_release ⟨σ,H3,I3,q3⟩
def su(te:TE)(g:TG):TS:=fun D σ H=>te σ H fun x H1=>g x σ H1 D.nx
theorem h8{tg e:Expr}{te:TE}{g:TG}(he:PE X e te)(hg:PG X tg g)(hs:swapsWithSole [tg] e pos.line X.env=pure false:=by rfl)(hw:swappedStores [tg] e X.env=pure none:=by rfl)
  (h1:(assignEach [tg] X.env).map (·.2)=[assign tg X.env]:=by rfl):PS X (.Assign [tg] e pos) (su te g):=by
 intro pins s σ H D I h
 refine wpAny_Assign_stores (bd (he pins s σ H _ I h) fun v s1 ⟨x,H1,I1,r1,q1⟩=>?_) hs hw
 rw[h1]
 exact bd (hg pins s1 σ H1 x v _ I1 r1 q1) fun _ s2 q=>q
theorem zB{i:Nat}{x:Str}{e:Expr}{te:TE}{pos':Pos}(hN:X.N.Nodup)(hi:X.N[i]? = some x)(hx:aS X.env.scope x)(he:PE X e te)(hs:swapsWith e (some (.Name x pos')) pos.line X.env=pure false:=by rfl)(hf:X.fn x=true∨X.env.scope.names.lookup x=some .local:=by first | exact .inl rfl | exact .inr rfl | assumption) :
  PS X (.Assign [.Name x pos'] e pos) (su te (gp i)):=by
 intro pins s σ H D I h
 refine wpAny_Assign_Name (bd (he pins s σ H _ I h) fun v s1 ⟨y,H1,I1,r1,q1⟩=>?_) hs
 exact nW I1 hN hi hx r1 (fun s2 I2=>⟨_,H1,I2,q1⟩) hf
end
section
variable{X:Cx}{pos:Pos}
def yq(c:TT)(tb:TS):TS:=fun D σ H=>∃ W:Nat→St→Hp→Prop,(∃ m,W m σ H)∧∀ m σ H,W m σ H→
 c σ H fun b H1=>if b=true then ∃ N:St→Hp→Prop,(∀ σ' H',N σ' H'→∃ m',m'<m∧W m' σ' H')∧tb { D with nx:=N,ct:=N,bk:=D.nx } σ H1 else D.nx σ H1
theorem mI{c:Expr}{body:List Stmt}{tc:TT}{tb:TS}(hp:PassesOwn (model X.prog X.w) X.A X.env X.xe)(hc:PT X c tc)(hb:PSs X body tb):PS X (.While c body [] pos) (yq tc tb):=by
 intro pins s σ H D I h
 obtain⟨W,⟨m0,w0⟩,turn⟩:=h
 refine wpAny_While (codeAny_whileLoop (fun n s'=>∃ σ' H',Inv X pins σ' H' s'∧W n σ' H') ?_ m0 ⟨σ,H,I,w0⟩)
 rintro n s1 ⟨σ1,H1,I1,w1⟩
 refine wpAny_passesOwn hp (bd (hc pins s1 σ1 H1 _ I1 (turn n σ1 H1 w1)) fun b s2 ⟨H2,I2,q2⟩=>?_)
 cases b with
 | true=>
  obtain⟨N,hN,q2⟩:=q2
  rw[if_pos rfl]
  refine wpAny_passesOwn hp (bd (hb pins s2 σ1 H2 _ I2 q2) fun f s3 q3=>?_)
  cases f with
  | next=>
   obtain⟨σ3,H3,I3,n3⟩:=q3
   obtain⟨m',hm,w3⟩:=hN σ3 H3 n3
   exact⟨m',hm,σ3,H3,I3,w3⟩
  | cont=>
   obtain⟨σ3,H3,I3,n3⟩:=q3
   obtain⟨m',hm,w3⟩:=hN σ3 H3 n3
   exact⟨m',hm,σ3,H3,I3,w3⟩
  | brk=>exact q3
  | ret v=>exact q3
 | false=>
  rw[if_neg Bool.false_ne_true]
  exact wpAny_execs_nil ⟨σ1,H2,I2,q2⟩
end
set_option genInjectivity false in
set_option genSizeOf false in
structure It where
 go:Nat→Hp→Prop
 yld:Nat→Hp→V→Hp→Prop
 stop:Nat→Hp→Prop
def fz(X:Cx)(pins:List (Addr × Obj))(H:Hp)(b:Addr):Prop:=
 H b=none∧b≠X.env.locals∧b∉X.fs∧(b∈X.ex∨X.s₀.heap.objs.size≤b)∧(∀ x c,X.env.cells.lookup x=some c→c≠b)∧∀ p∈X.pn++pins,p.1≠b
theorem Inv.fpOk{X:Cx}{pins:List (Addr × Obj)}{σ : St}{H H':Hp}{s:Shared}{b:Addr}(I:Inv X pins σ H s)(hb:s.heap.objs.size≤b)(hn:H' b=none):fz X pins H' b:=by
 refine⟨hn,Nat.ne_of_gt (Nat.lt_of_lt_of_le I.lt hb),I.nofs hb,.inr (Nat.le_trans I.sz hb),fun x c e z=>?_,fun p hp z=>?_⟩
 ·obtain⟨v,q⟩:=I.cell x c e
  exact absurd (Nat.lt_of_lt_of_le q.lt (by rw[z]; exact hb)) (Nat.lt_irrefl _)
 ·exact absurd (Nat.lt_of_lt_of_le (Heap.lt_size (I.pin p hp).1) (by rw[z]; exact hb)) (Nat.lt_irrefl _)
structure g_ (P:Program) (w:World) (K:PySem.W.Frag) (tg:Expr) (J:It) (fp:List Addr) (it:Addr) (tn:Nat→Heap→Prop):Prop where
 mem:it∈fp
 obj:∀ i h,tn i h→∀ b∈fp,∃ o,h.get? b=some o∧∀ v,o.data ≠ .cell v
 keep:∀ i h h',tn i h→(∀ b∈fp,∀ o,h.get? b=some o→h'.get? b=some o)→tn i h'
 item:∀ (X:Cx),X.prog=P→X.w=w→X.K=K→X.calm=true→∀ (i:Nat) (pins:List (Addr × Obj)) (s:Shared) (σ : St) (H:Hp) (E:Value→Shared→Prop),Inv X pins σ H s→(∀ b∈fp,fz X pins H b)→tn i s.heap→J.go i H→
  wpAny (model P w) X.A (pyNext (.ref it)) (fun r s1=>∃ u,r=some u∧
   wpAny (model P w) X.A (letOwnedTupleGo tg (.ref it) u) (fun _ s2=>∃ x H',Inv X pins σ H' s2∧RelV x u∧J.yld i H x H'∧tn (i+1) s2.heap∧∀ b∈fp,H' b=none) E s1) E s
 done:∀ (X:Cx),X.prog=P→X.w=w→X.K=K→X.calm=true→∀ (i:Nat) (pins:List (Addr × Obj)) (s:Shared) (σ : St) (H:Hp) (E:Value→Shared→Prop),Inv X pins σ H s→(∀ b∈fp,fz X pins H b)→tn i s.heap→J.stop i H→
  wpAny (model P w) X.A (pyNext (.ref it)) (fun r s1=>r=none∧Inv X pins σ H s1) E s
 self:∀ (A:Around) (i:Nat) (s:Shared) (Q:Value→Shared→Prop) (E:Value→Shared→Prop),tn i s.heap→Q (.ref it) s→wpAny (model P w) A (pyIter (.ref it)) Q E s
abbrev TI:=St→Hp→(It→Hp→Prop)→Prop
def A4(X:Cx)(pins:List (Addr × Obj))(σ : St)(tg:Expr)(R:It→Hp→Prop)(itv:Value)(s2:Shared):Prop:=
 ∃ (it:Addr) (fp:List Addr) (tn:Nat→Heap→Prop) (J:It) (H':Hp),itv = .ref it∧Inv X pins σ H' s2∧g_ X.prog X.w X.K tg J fp it tn∧tn 0 s2.heap∧(∀ b∈fp,fz X pins H' b)∧R J H'
def PI(X:Cx)(tg iter:Expr)(wi:TI):Prop:=
 ∀ (pins:List (Addr × Obj)) (s:Shared) (σ : St) (H:Hp) (R:It→Hp→Prop),Inv X pins σ H s→wi σ H R→
  wpAny (model X.prog X.w) X.A (eval iter X.env) (fun v s1=>wpAny (model X.prog X.w) X.A (pyIter v) (A4 X pins σ tg R) X.xe s1) X.xe s
theorem me{M:Model}{A:Around}{E:Value→Shared→Prop}{s:Shared}{tg:Expr}{it:Addr}{u:Value}{o:Obj}{n:String}{vs:Array Value}{Q:Unit→Shared→Prop}(ho:s.heap.get? it=some o)(hc:o.cls = .type n)(hd:o.data = .fields vs)
    (hn:["enumerate", "zip", "dict_itemiterator", "dict_reverseitemiterator", "odict_iterator", "itertools.zip_longest", "itertools.pairwise"].contains n=false) (hQ:Q () s):wpAny M A (letOwnedTupleGo tg (.ref it) u) Q E s:=by
  unfold letOwnedTupleGo
  cases tg <;> first
    | exact wpAny_pure hQ
    | (cases u <;> first
        | exact wpAny_pure hQ
        | (refine wpAny_bind (wpAny_load ho ?_)
           rw[hc,hd]
           show wpAny M A (if (["enumerate", "zip", "dict_itemiterator", "dict_reverseitemiterator", "odict_iterator", "itertools.zip_longest", "itertools.pairwise"].contains n&&vs[0]? == some (rawInt _))=true then _ else _) Q E s
           rw[if_neg (by intro h; rw[hn,Bool.false_and]at h; cases h)]
           exact wpAny_pure hQ))
def lN(K:PySem.W.Frag)(a:Addr):It:=
 ⟨fun i H=>∃ xs x,SqL K H a xs∧xs[i]? = some x,fun i H x H'=>H'=H∧∀ xs,SqL K H a xs→xs[i]? = some x,fun i H=>∃ xs,SqL K H a xs∧xs.length≤i⟩
def tN(K:PySem.W.Frag)(a:Addr):It:=
 ⟨fun i H=>∃ xs x,SqT K H a xs∧xs[i]? = some x,fun i H x H'=>H'=H∧∀ xs,SqT K H a xs→xs[i]? = some x,fun i H=>∃ xs,SqT K H a xs∧xs.length≤i⟩
def jk(lo:Int)(n:Nat):It:=⟨fun i _=>i<n,fun i H x H'=>H'=H∧x = .int (lo+i),fun i _=>n≤i⟩
theorem tO{P:Program}{w:World}{K:PySem.W.Frag}{tg:Expr}(a it:Addr):g_ P w K tg (lN K a) [it] it (fun i h=>h.IsListIter it a i) where
 mem:=by simp
 obj:=fun i h st b hb=>by
  have e:b=it:=by simpa using hb
  subst e
  obtain⟨o,e,c,d⟩:=st
  exact⟨o,e,fun v z=>by rw[d]at z; cases z⟩
 keep:=fun i h h' st k=>st.at fun o e=>k it (by simp) o e
 item:=by
  intro X hP hw hK hc i pins s σ H E I hf st hg
  subst hP hw hK
  obtain⟨xs,x,hq,hx⟩:=hg
  obtain⟨its,rv,p,hz⟩:=I.list hq
  obtain⟨u,hu,ru⟩:=rv.get hx
  obtain⟨f0,f1,f2,f3,f4,f5⟩:=hf it (by simp)
  refine wpAny_pyNext_list_item st p.isList (x:=u) (by simpa using hu) fun h' st' sb=>?_
  have I1:Inv X pins σ H { s with heap:=h' }:=I.turned (t':=s.toks) (fun b o hb e=>(sb.2 b hb).trans e) f0 f1 f3 f4 f5
  obtain⟨o,e,c,d⟩:=id st'
  exact⟨u,rfl,me (s:={ s with heap:=h' }) e c d (by decide) ⟨x,H,I1,ru,⟨rfl,fun ys hy=>by rw[I.list_inj hy hq]; exact hx⟩,st',fun b hb=>(hf b hb).1⟩⟩
 done:=by
  intro X hP hw hK hc i pins s σ H E I hf st hg
  subst hP hw hK
  obtain⟨xs,hq,hx⟩:=hg
  obtain⟨its,rv,p,hz⟩:=I.list hq
  obtain⟨f0,f1,f2,f3,f4,f5⟩:=hf it (by simp)
  have hl:=rv.length
  exact wpAny_pyNext_list_end (I.ok.hd hc) st p.isList (by simp; omega) fun h' eb=>⟨rfl,I.turned (t':=s.toks) (fun b o hb e=>eb b o hb e) f0 f1 f3 f4 f5⟩
 self:=fun _ _ _ _ _ st h=>wpAny_pyIter_listiter st h
theorem si{P:Program}{w:World}{K:PySem.W.Frag}{tg:Expr}(a it:Addr):g_ P w K tg (tN K a) [it] it (fun i h=>h.IsTupleIter it a i) where
 mem:=by simp
 obj:=fun i h st b hb=>by
  have e:b=it:=by simpa using hb
  subst e
  obtain⟨o,e,c,d⟩:=st
  exact⟨o,e,fun v z=>by rw[d]at z; cases z⟩
 keep:=fun i h h' st k=>st.at fun o e=>k it (by simp) o e
 item:=by
  intro X hP hw hK hc i pins s σ H E I hf st hg
  subst hP hw hK
  obtain⟨xs,x,hq,hx⟩:=hg
  obtain⟨its,rv,p,hz⟩:=I.tuple hq
  obtain⟨u,hu,ru⟩:=rv.get hx
  obtain⟨f0,f1,f2,f3,f4,f5⟩:=hf it (by simp)
  refine wpAny_pyNext_tuple_item st (show s.heap.IsTuple a its.toArray from p) (x:=u) (by simpa using hu) fun h' st' sb=>?_
  have I1:Inv X pins σ H { s with heap:=h' }:=I.turned (t':=s.toks) (fun b o hb e=>(sb.2 b hb).trans e) f0 f1 f3 f4 f5
  obtain⟨o,e,c,d⟩:=id st'
  exact⟨u,rfl,me (s:={ s with heap:=h' }) e c d (by decide) ⟨x,H,I1,ru,⟨rfl,fun ys hy=>by rw[I.tuple_inj hy hq]; exact hx⟩,st',fun b hb=>(hf b hb).1⟩⟩
 done:=by
  intro X hP hw hK hc i pins s σ H E I hf st hg
  subst hP hw hK
  obtain⟨xs,hq,hx⟩:=hg
  obtain⟨its,rv,p,hz⟩:=I.tuple hq
  obtain⟨f0,f1,f2,f3,f4,f5⟩:=hf it (by simp)
  have hl:=rv.length
  exact wpAny_pyNext_tuple_end (I.ok.hd hc) st (show s.heap.IsTuple a its.toArray from p) (by simp; omega) fun h' eb=>⟨rfl,I.turned (t':=s.toks) (fun b o hb e=>eb b o hb e) f0 f1 f3 f4 f5⟩
 self:=fun _ _ _ _ _ st h=>wpAny_pyIter_tupleiter st h
theorem rQ{P:Program}{w:World}{K:PySem.W.Frag}{tg:Expr}(it:Addr)(lo:Int)(n:Nat):g_ P w K tg (jk lo n) [it] it (fun i h=>IsRangeIter h it (lo+(i:Nat) * 1) ((n:Int) - (i:Nat)) 1) where
 mem:=by simp
 obj:=fun i h st b hb=>by
  have e:b=it:=by simpa using hb
  subst e
  exact⟨_,st,fun v z=>by
   have z':Data.fields _=Data.cell v:=z
   cases z'⟩
 keep:=fun i h h' st k=>k it (by simp) _ st
 item:=by
  intro X hP hw hK hc i pins s σ H E I hf st hg
  subst hP hw hK
  obtain⟨f0,f1,f2,f3,f4,f5⟩:=hf it (by simp)
  have W:=Walks.range (prog:=X.prog) (w:=X.w) (I.ok.hd hc) it lo 1 n
  refine W.item i s _ _ hg st fun v h' tk hv st' kk=>?_
  obtain⟨t,rfl⟩:=hv
  have I1:Inv X pins σ H { s with heap:=h',toks:=tk }:=I.turned (fun b o hb e=>kk b o (by simpa using hb) e) f0 f1 f3 f4 f5
  refine⟨_,rfl,me (s:={ s with heap:=h',toks:=tk }) (n := "range_iterator") st' rfl rfl (by decide) ⟨.int (lo+i),H,I1,⟨t,?_⟩,⟨rfl,rfl⟩,st',fun b hb=>(hf b hb).1⟩⟩
  rw[Int.mul_one]
 done:=by
  intro X hP hw hK hc i pins s σ H E I hf st hg
  subst hP hw hK
  obtain⟨f0,f1,f2,f3,f4,f5⟩:=hf it (by simp)
  exact wpAny_pyNext_range_end (I.ok.hd hc) st (by have:n≤i:=hg; omega) fun h' eb=>⟨rfl,I.turned (t':=s.toks) (fun b o hb e=>eb b o hb e) f0 f1 f3 f4 f5⟩
 self:=fun _ _ _ _ _ st h=>wpAny_pyIter_rangeiter st h
end L2
namespace L2
open PySem PySem.Spec PyProof.Rows
section
variable{X:Cx}{tg:Expr}
def qL(K:PySem.W.Frag)(tl:TE):TI:=fun σ H R=>tl σ H fun x H1=>∃ a,x = .ref a∧(∃ xs,SqL K H1 a xs)∧R (lN K a) H1
def vO(K:PySem.W.Frag)(tl:TE):TI:=fun σ H R=>tl σ H fun x H1=>∃ a,x = .ref a∧(∃ xs,SqT K H1 a xs)∧R (tN K a) H1
theorem xo{l:Expr}{tl:TE}(hl:PE X l tl):PI X tg l (qL X.K tl):=by
 intro pins s σ H R I h
 refine bd (hl pins s σ H _ I h) fun v s1 ⟨x,H1,I1,r1,q1⟩=>?_
 obtain⟨a,e,⟨xs,hq⟩,q⟩:=q1
 subst e
 cases r1
 obtain⟨its,rv,p,hz⟩:=I1.list hq
 refine wpAny_pyIter_list p.isList ?_
 refine⟨s1.heap.objs.size,[s1.heap.objs.size],_,_,H1,rfl,I1.kept (t':=s1.toks) fun b o e=>Heap.get?_push_of_some _ e,tO a _,⟨_,Heap.get?_push_size _ rfl,rfl,rfl⟩,fun b hb=>?_,q⟩
 have e:b=s1.heap.objs.size:=by simpa using hb
 subst e
 exact I1.fpOk (Nat.le_refl _) (I1.hok.fresh (Nat.le_refl _))
theorem zt{l:Expr}{tl:TE}(hl:PE X l tl):PI X tg l (vO X.K tl):=by
 intro pins s σ H R I h
 refine bd (hl pins s σ H _ I h) fun v s1 ⟨x,H1,I1,r1,q1⟩=>?_
 obtain⟨a,e,⟨xs,hq⟩,q⟩:=q1
 subst e
 cases r1
 obtain⟨its,rv,p,hz⟩:=I1.tuple hq
 refine wpAny_pyIter_tuple (show s1.heap.IsTuple a its.toArray from p) ?_
 refine⟨s1.heap.objs.size,[s1.heap.objs.size],_,_,H1,rfl,I1.kept (t':=s1.toks) fun b o e=>Heap.get?_push_of_some _ e,si a _,⟨_,Heap.get?_push_size _ rfl,rfl,rfl⟩,fun b hb=>?_,q⟩
 have e:b=s1.heap.objs.size:=by simpa using hb
 subst e
 exact I1.fpOk (Nat.le_refl _) (I1.hok.fresh (Nat.le_refl _))
theorem vR{pins:List (Addr × Obj)}{σ : St}{H:Hp}{s:Shared}{R:It→Hp→Prop}{E:Value→Shared→Prop}{lo hi:Int}{t u v:Tok}{tk:Nat}(I:Inv X pins σ H s)(h1:-(2 ^ 62)≤lo)(h2:lo<2 ^ 62)(h3:-(2 ^ 62)≤hi)(h4:hi<2 ^ 62)
  (q:R (jk lo (hi - lo).toNat) H):wpAny (model X.prog X.w) X.A (pyIter (.ref s.heap.objs.size)) (A4 X pins σ tg R) E { s with heap:=s.heap.push { cls:=.type "range", data:=.fields #[.int lo t,.int hi u,.int 1 v] },toks:=tk }:=by
 refine wpAny_pyIter_range (IsRange.new ..) (small_one h1 h2 h3 h4) ?_
 have I1:Inv X pins σ H { s with heap:=s.heap.push { cls:=.type "range", data:=.fields #[.int lo t,.int hi u,.int 1 v] },toks:=tk }:=I.kept fun b o e=>Heap.get?_push_of_some _ e
 refine⟨(s.heap.push { cls:=.type "range", data:=.fields #[.int lo t,.int hi u,.int 1 v] }).objs.size,[(s.heap.push { cls:=.type "range", data:=.fields #[.int lo t,.int hi u,.int 1 v] }).objs.size],_,_,H,rfl,
  I1.kept (t':=tk) fun b o e=>Heap.get?_push_of_some _ e,rQ _ lo (hi - lo).toNat,?_,fun b hb=>?_,q⟩
 ·have e1:lo+((0:Nat):Int) * 1=lo:=by simp
  have e2:(((hi - lo).toNat:Nat):Int) - ((0:Nat):Int)=Builtin.Range.rangeSize lo hi 1:=by rw[rangeSize_one]; split <;> omega
  show IsRangeIter _ _ (lo+((0:Nat):Int) * 1) ((((hi - lo).toNat:Nat):Int) - ((0:Nat):Int)) 1
  rw[e1,e2]
  exact Heap.get?_push_size _ rfl
 ·have e:b=(s.heap.push { cls:=.type "range", data:=.fields #[.int lo t,.int hi u,.int 1 v] }).objs.size:=by simpa using hb
  subst e
  exact I1.fpOk (Nat.le_refl _) (I1.hok.fresh (Nat.le_refl _))
def w_(ta:TA):TI:=fun σ H R=>ta σ H fun vs H1=>∃ j:Int,vs=[.int j]∧-(2 ^ 62)≤j∧j<2 ^ 62∧R (jk 0 j.toNat) H1
theorem lI{a:Expr}{ta:TA}{p pos:Pos}(hg:Gl X "range") (hm:X.mg "range" = none) (ha:PA X [a] ta) (hs:starEach [a] X.env=[(false,eval a X.env)]:=by rfl):PI X tg (.Call (.Name "range" p) [a] [] pos) (w_ ta):=by
 intro pins s σ H R I h
 refine Call_ (ef I hg hm boot_range (PyProof.Rows.callWith_type1 (bd (ha pos pins s σ H _ I h) fun us s1 ⟨vs,H1,I1,r1,q1⟩=>?_) hs rfl))
 obtain⟨j,e,q1,q2,q⟩:=q1
 subst e
 cases r1 with
 | cons r rr=>
  cases rr
  obtain⟨t,rfl⟩:=r
  exact call_range_1 (vR I1 (by omega) (by omega) q1 q2 (by simpa using q))
def zJ(wi:TI)(g:TG)(tb:TS):TS:=fun D σ H=>wi σ H fun J H1=>∃ W:Nat→Nat→St→Hp→Prop,(∃ m,W 0 m σ H1)∧∀ i m σ H,W i m σ H→
 (J.stop i H∧D.nx σ H)∨(J.go i H∧∃ N:St→Hp→Prop,(∀ σ' H',N σ' H'→∃ m',m'<m∧W (i+1) m' σ' H')∧∀ x H',J.yld i H x H'→g x σ H' fun σ2 H2=>tb { D with nx:=N,ct:=N,bk:=D.nx } σ2 H2)
def hJ(fp:List Addr)(h:Heap):List (Addr × Obj):=fp.filterMap fun b=>(h.get? b).map fun o=>(b,o)
theorem fh{fp:List Addr}{h:Heap}{b:Addr}{o:Obj}(hb:b∈fp)(e:h.get? b=some o):(b,o)∈hJ fp h:=List.mem_filterMap.mpr ⟨b,hb,by rw[e]; rfl⟩
theorem t_{fp:List Addr}{h:Heap}{p:Addr × Obj}(hp:p∈hJ fp h):p.1∈fp∧h.get? p.1=some p.2:=by
 obtain⟨b,hb,e⟩:=List.mem_filterMap.mp hp
 cases q:h.get? b with
 | none=>rw[q]at e; cases e
 | some o=>
  rw[q]at e
  have e':(b,o)=p:=Option.some.inj e
  subst e'
  exact⟨hb,q⟩
theorem Inv.pinned{pins:List (Addr × Obj)}{σ : St}{H:Hp}{s:Shared}{fp:List Addr}(I:Inv X pins σ H s)(hf:∀ b∈fp,fz X pins H b)(ho:∀ b∈fp,∃ o,s.heap.get? b=some o∧∀ v,o.data ≠ .cell v):Inv X (pins++hJ fp s.heap) σ H s:=
 I.pins_of fun p hp=>(List.mem_append.mp hp).elim (fun z=>I.pin p (List.mem_append_right _ z)) fun z=>by
  obtain⟨hb,e⟩:=t_ z
  obtain⟨f0,f1,f2,_⟩:=hf p.1 hb
  obtain⟨o,e',d⟩:=ho p.1 hb
  rw[e]at e'; cases e'
  exact⟨e,f0,f1,f2,d⟩
theorem Inv.unpinned{pins pl:List (Addr × Obj)}{σ : St}{H:Hp}{s:Shared}(I:Inv X (pins++pl) σ H s):Inv X pins σ H s:=I.pins_of fun p hp=>I.pin p (List.mem_append_right _ (List.mem_append_left _ hp))
theorem df{iter:Expr}{body:List Stmt}{wi:TI}{g:TG}{tb:TS}{pos:Pos}(hp:PassesOwn (model X.prog X.w) X.A X.env X.xe)(hc:X.calm=true)(hi:PI X tg iter wi)(hg:PG X tg g)(hb:PSs X body tb)
  (hs:∀ x,foldedSetIterable iter X.env x=pure x:=by intro _; rfl):PS X (.For tg iter body [] pos) (zJ wi g tb):=by
 intro pins s σ H D I h
 refine wpAny_For (bd (hi pins s σ H _ I h) fun v s1 h1=>bd h1 fun itv s2 h2=>?_) hs
 obtain⟨it,fp,tn,J,H2,e,I2,T,st2,f2,W,⟨m0,w0⟩,turn⟩:=h2
 subst e
 -- what stays true of the iterator's objects through the loop
 have stat:∀ {H':Hp},(∀ b∈fp,H' b=none)→∀ b∈fp,fz X pins H' b:=fun hn b hb=>⟨hn b hb,(f2 b hb).2⟩
 refine codeAny_forLoop_any (fun n s'=>∃ i σ' H',Inv X pins σ' H' s'∧tn i s'.heap∧(∀ b∈fp,H' b=none)∧W i n σ' H') ?_ m0 ⟨0,σ,H2,I2,st2,fun b hb=>(f2 b hb).1,w0⟩
 rintro n s3 ⟨i,σ3,H3,I3,st3,fr3,w3⟩
 rcases turn i n σ3 H3 w3 with ⟨stop,qn⟩ | ⟨go,N,hN,step⟩
 ·refine wpAny_passesOwn hp (bd (T.done X rfl rfl rfl hc i pins s3 σ3 H3 X.xe I3 (stat fr3) st3 stop) fun r s4 ⟨hr,I4⟩=>?_)
  subst hr
  exact wpAny_execs_nil ⟨σ3,H3,I4,qn⟩
 ·refine wpAny_passesOwn hp (bd (T.item X rfl rfl rfl hc i pins s3 σ3 H3 X.xe I3 (stat fr3) st3 go) fun r s4 ⟨u,hr,h4⟩=>?_)
  subst hr
  refine wpAny_passesOwn hp (bd h4 fun _ s5 ⟨x,H5,I5,r5,y5,st5,fr5⟩=>?_)
  have I5':=I5.pinned (stat fr5) (T.obj _ _ st5)
  refine wpAny_passesOwn hp (bd (hg _ s5 σ3 H5 x u _ I5' r5 (step x H5 y5)) fun _ s6 ⟨σ6,H6,I6,q6⟩=>?_)
  refine wpAny_passesOwn hp (bd (hb _ s6 σ6 H6 _ I6 q6) fun f s7 q7=>?_)
  have again:∀ {σ7:St} {H7:Hp},Inv X (pins++hJ fp s5.heap) σ7 H7 s7→N σ7 H7→∃ m,m<n∧∃ i σ' H',Inv X pins σ' H' s7∧tn i s7.heap∧(∀ b∈fp,H' b=none)∧W i m σ' H':=fun {σ7 H7} I7 n7=>by
   obtain⟨m',hm,w7⟩:=hN σ7 H7 n7
   refine⟨m',hm,i+1,σ7,H7,I7.unpinned,T.keep _ _ _ st5 fun b hb o e=>(I7.pin (b,o) (List.mem_append_right _ (List.mem_append_right _ (fh hb e)))).1,fun b hb=>?_,w7⟩
   obtain⟨o,e,d⟩:=T.obj _ _ st5 b hb
   exact(I7.pin (b,o) (List.mem_append_right _ (List.mem_append_right _ (fh hb e)))).2.1
  cases f with
  | next=>obtain⟨σ7,H7,I7,n7⟩:=q7; exact again I7 n7
  | cont=>obtain⟨σ7,H7,I7,n7⟩:=q7; exact again I7 n7
  | brk=>obtain⟨σ7,H7,I7,q7⟩:=q7; exact⟨σ7,H7,I7.unpinned,q7⟩
  | ret v=>obtain⟨x7,σ7,H7,I7,r7,q7⟩:=q7; exact⟨x7,σ7,H7,I7.unpinned,r7,q7⟩
end
theorem vS{K:PySem.W.Frag}{a:Addr}{xs:List V}{g:TG}{tb:TS}{D:dm}{σ : St}{H:Hp}(Pv:Nat→St→Hp→Prop)(h0:Pv 0 σ H)(hl:∀ i σ H,i≤xs.length→Pv i σ H→SqL K H a xs)
  (hs:∀ i x σ H,xs[i]? = some x→Pv i σ H→g x σ H fun σ2 H2=>tb { D with nx:=Pv (i+1),ct:=Pv (i+1),bk:=D.nx } σ2 H2) (hd:∀ σ H,Pv xs.length σ H→D.nx σ H) :
  ∃ W:Nat→Nat→St→Hp→Prop,(∃ m,W 0 m σ H)∧∀ i m σ H,W i m σ H→
   ((lN K a).stop i H∧D.nx σ H)∨((lN K a).go i H∧∃ N:St→Hp→Prop,(∀ σ' H',N σ' H'→∃ m',m'<m∧W (i+1) m' σ' H')∧∀ x H',(lN K a).yld i H x H'→g x σ H' fun σ2 H2=>tb { D with nx:=N,ct:=N,bk:=D.nx } σ2 H2):=by
 refine⟨fun i m σ H=>m=xs.length - i∧i≤xs.length∧Pv i σ H,⟨xs.length,by simp,Nat.zero_le _,h0⟩,?_⟩
 rintro i m σ H ⟨rfl,hi,p⟩
 have q:=hl i σ H hi p
 by_cases hlt:i<xs.length
 ·refine .inr ⟨⟨xs,xs[i],q,by simp[hlt]⟩,Pv (i+1),fun σ' H' p'=>⟨xs.length - (i+1),by omega,rfl,hlt,p'⟩,fun x H' y=>?_⟩
  obtain⟨e,y⟩:=y
  subst e
  exact hs i x σ _ (y xs q) p
 ·have e:i=xs.length:=by omega
  subst e
  exact .inl ⟨⟨xs,q,Nat.le_refl _⟩,hd σ H p⟩
theorem tT{lo:Int}{n:Nat}{g:TG}{tb:TS}{D:dm}{σ : St}{H:Hp}(Pv:Nat→St→Hp→Prop)(h0:Pv 0 σ H)
  (hs:∀ i σ H,i<n→Pv i σ H→g (.int (lo+i)) σ H fun σ2 H2=>tb { D with nx:=Pv (i+1),ct:=Pv (i+1),bk:=D.nx } σ2 H2) (hd:∀ σ H,Pv n σ H→D.nx σ H) :
  ∃ W:Nat→Nat→St→Hp→Prop,(∃ m,W 0 m σ H)∧∀ i m σ H,W i m σ H→
   ((jk lo n).stop i H∧D.nx σ H)∨((jk lo n).go i H∧∃ N:St→Hp→Prop,(∀ σ' H',N σ' H'→∃ m',m'<m∧W (i+1) m' σ' H')∧∀ x H',(jk lo n).yld i H x H'→g x σ H' fun σ2 H2=>tb { D with nx:=N,ct:=N,bk:=D.nx } σ2 H2):=by
 refine⟨fun i m σ H=>m=n - i∧i≤n∧Pv i σ H,⟨n,by simp,Nat.zero_le _,h0⟩,?_⟩
 rintro i m σ H ⟨rfl,hi,p⟩
 by_cases hlt:i<n
 ·refine .inr ⟨hlt,Pv (i+1),fun σ' H' p'=>⟨n - (i+1),by omega,rfl,hlt,p'⟩,fun x H' y=>?_⟩
  obtain⟨e,y⟩:=y
  subst e y
  exact hs i σ _ hlt p
 ·have e:i=n:=by omega
  subst e
  exact .inl ⟨Nat.le_refl _,hd σ H p⟩
end L2
namespace L2
open PySem PySem.Spec PyProof.Rows
abbrev R2:=V→V→Hp→VK→Prop
def OpR(X:Cx)(f:Value→Value→Sem Value)(r:R2):Prop:=
 ∀ (pins:List (Addr × Obj)) (s:Shared) (σ : St) (H:Hp) (x y:V) (v u:Value) (Q:VK),Inv X pins σ H s→RelV x v→RelV y u→r x y H Q→
  wpAny (model X.prog X.w) X.A (f v u) (EP X pins σ Q) X.xe s
def UnR(X:Cx)(f:Value→Sem Value)(r:V→Hp→VK→Prop):Prop:=
 ∀ (pins:List (Addr × Obj)) (s:Shared) (σ : St) (H:Hp) (x:V) (v:Value) (Q:VK),Inv X pins σ H s→RelV x v→r x H Q→
  wpAny (model X.prog X.w) X.A (f v) (EP X pins σ Q) X.xe s
def CallR(X:Cx)(f:Value)(r:List V→Hp→VK→Prop):Prop:=
 ∀ (pins:List (Addr × Obj)) (s:Shared) (σ : St) (H:Hp) (xs:List V) (us:List Value) (Q:VK),Inv X pins σ H s→Vals xs us→r xs H Q→
  wpAny (model X.prog X.w) X.A (call f us) (EP X pins σ Q) X.xe s
def uL(r:R2)(ta tb:TE):TE:=fun σ H Q=>ta σ H fun x H1=>tb σ H1 fun y H2=>r x y H2 Q
def AN(r:V→Hp→VK→Prop)(ta:TE):TE:=fun σ H Q=>ta σ H fun x H1=>r x H1 Q
def rI(C:Int→Int→Prop)(g:Int→Int→V):R2:=fun x y H Q=>∃ i j,x = .int i∧y = .int j∧C i j∧Q (g i j) H
def lM(g:Int→Int→V):R2:=fun x y H Q=>∃ i j,x = .int i∧y = .int j∧Q (g i j) H
def rU(g:Int→V):V→Hp→VK→Prop:=fun x H Q=>∃ i,x = .int i∧Q (g i) H
section
variable{X:Cx}{a b c:Expr}{ta tb tc:TE}{pos:Pos}
theorem v5(ha:PE X a ta)(hb:PE X b tb){pins:List (Addr × Obj)}{s:Shared}{σ : St}{H:Hp}{R:V→V→Hp→Prop}(I:Inv X pins σ H s)
  (h:ta σ H fun x H1=>tb σ H1 fun y H2=>R x y H2) {Q:Value→Shared→Prop} {f:Value→Value→Sem Value}
  (hf:∀ v u s2 x y H2,Inv X pins σ H2 s2→RelV x v→RelV y u→R x y H2→wpAny (model X.prog X.w) X.A (f v u) Q X.xe s2) :
  wpAny (model X.prog X.w) X.A (eval a X.env) (fun v s₁=>wpAny (model X.prog X.w) X.A (eval b X.env) (fun u s₂=>wpAny (model X.prog X.w) X.A (f v u) Q X.xe s₂) X.xe s₁) X.xe s:=by
 refine bd (ha pins s σ H _ I h) fun v s1 ⟨x,H1,I1,r1,q1⟩=>?_
 refine bd (hb pins s1 σ H1 _ I1 q1) fun u s2 ⟨y,H2,I2,r2,q2⟩=>?_
 exact hf v u s2 x y H2 I2 r1 r2 q2
theorem ar{op:Operator}{r:R2}(ho:OpR X (binaryOp op) r)(ha:PE X a ta)(hb:PE X b tb):PE X (.BinOp a op b pos) (uL r ta tb):=by
 intro pins s σ H Q I h
 exact wpAny_BinOp (v5 ha hb I h fun v u s2 x y H2 I2 rx ry q=>ho pins s2 σ H2 x y v u Q I2 rx ry q)
theorem eZ{op:UnaryOp}{r:V→Hp→VK→Prop}(ho:UnR X (unaryOp op) r)(ha:PE X a ta):PE X (.UnaryOp op a pos) (AN r ta):=by
 intro pins s σ H Q I h
 exact UnaryOp_ (bd (ha pins s σ H _ I h) fun v s1 ⟨x,H1,I1,r1,q1⟩=>ho pins s1 σ H1 x v Q I1 r1 q1)
theorem wK{f:Value→Value→Sem Value}{C:Int→Int→Prop}{g:Int→Int→Int}
  (rule:∀ (i j:Int) (t u:Tok) (s:Shared) (Q:Value→Shared→Prop) (E:Value→Shared→Prop),C i j→Q (.int (g i j) s.toks) { s with toks:=s.toks+1 }→wpAny (model X.prog X.w) X.A (f (.int i t) (.int j u)) Q E s) :
  OpR X f (rI C fun i j=>.int (g i j)):=by
 intro pins s σ H x y v u Q I rx ry h
 obtain⟨i,j,rfl,rfl,hc,q⟩:=h
 obtain⟨t,rfl⟩:=rx
 obtain⟨t',rfl⟩:=ry
 exact rule i j t t' s _ _ hc ⟨.int (g i j),H,I.tok _,⟨_,rfl⟩,q⟩
theorem yT{f:Value→Value→Sem Value}{g:Int→Int→Int}
  (rule:∀ (i j:Int) (t u:Tok) (s:Shared) (Q:Value→Shared→Prop) (E:Value→Shared→Prop),Q (.int (g i j) s.toks) { s with toks:=s.toks+1 }→wpAny (model X.prog X.w) X.A (f (.int i t) (.int j u)) Q E s) :
  OpR X f (lM fun i j=>.int (g i j)):=by
 intro pins s σ H x y v u Q I rx ry h
 obtain⟨i,j,rfl,rfl,q⟩:=h
 obtain⟨t,rfl⟩:=rx
 obtain⟨t',rfl⟩:=ry
 exact rule i j t t' s _ _ ⟨.int (g i j),H,I.tok _,⟨_,rfl⟩,q⟩
theorem vN{f:Value→Value→Sem Value}{g:Int→Int→Bool}
  (rule:∀ (i j:Int) (t u:Tok) (s:Shared) (Q:Value→Shared→Prop) (E:Value→Shared→Prop),Q (.bool (g i j)) s→wpAny (model X.prog X.w) X.A (f (.int i t) (.int j u)) Q E s) :
  OpR X f (lM fun i j=>.bl (g i j)):=by
 intro pins s σ H x y v u Q I rx ry h
 obtain⟨i,j,rfl,rfl,q⟩:=h
 obtain⟨t,rfl⟩:=rx
 obtain⟨t',rfl⟩:=ry
 exact rule i j t t' s _ _ ⟨.bl (g i j),H,I,rfl,q⟩
def Bf(i j:Int):Prop:=0<j∧j<1073741824
def Bb(i j:Int):Prop:=0≤j∧j≤1000000∧i.natAbs<2 ^ 64
def CMul(i j:Int):Prop:=(-(2 ^ 64)<i∧i<2 ^ 64)∨(-(2 ^ 64)<j∧j<2 ^ 64)
theorem CMul.ok{i j:Int}(h:CMul i j):IntMulOk i j:=by
 rcases h with ⟨h1,h2⟩ | ⟨h1,h2⟩
 ·exact .of_left (intBits_le_64 h1 h2)
 ·exact .of_right (intBits_le_64 h1 h2)
theorem Ah:OpR X (binaryOp .Add) (lM fun i j=>.int (i+j)):=yT fun _ _ _ _ _ _ _ q=>add_int q
theorem fW:OpR X (binaryOp .Sub) (lM fun i j=>.int (i - j)):=yT fun _ _ _ _ _ _ _ q=>sub_int q
theorem zT:OpR X (binaryOp .Mult) (rI CMul fun i j=>.int (i * j)):=wK fun _ _ _ _ _ _ _ hc q=>mul_int q hc.ok
theorem ft:OpR X (binaryOp .FloorDiv) (rI Bf fun i j=>.int (i / j)):=wK fun i j _ _ _ _ _ hc q=>by
 have h1:(0:Int)<j:=hc.1
 have h2:j<1073741824:=hc.2
 exact floordiv_int (by omega) (by rw[Int.fdiv_eq_ediv_of_nonneg i (by omega)]; exact q) (.inl (PyProof.noPylong_small (by omega)))
theorem b9:OpR X (binaryOp .Mod) (rI (fun _ j=>0<j) fun i j=>.int (i % j)):=wK fun i j _ _ _ _ _ hc q=>by
 have h1:(0:Int)<j:=hc
 exact mod_int' (by omega) (by rw[Int.fmod_eq_emod_of_nonneg i (by omega)]; exact q)
theorem tj:OpR X (binaryOp .Pow) (rI Bb fun i j=>.int (i ^ j.toNat)):=wK fun _ _ _ _ _ _ _ hc q=>pow_int_small hc.1 hc.2.1 hc.2.2 q
theorem Dw{f:Value→Sem Value}{g:Int→Int}
  (rule:∀ (i:Int) (t:Tok) (s:Shared) (Q:Value→Shared→Prop) (E:Value→Shared→Prop),Q (.int (g i) s.toks) { s with toks:=s.toks+1 }→wpAny (model X.prog X.w) X.A (f (.int i t)) Q E s) :
  UnR X f (rU fun i=>.int (g i)):=by
 intro pins s σ H x v Q I rx h
 obtain⟨i,rfl,q⟩:=h
 obtain⟨t,rfl⟩:=rx
 exact rule i t s _ _ ⟨.int (g i),H,I.tok _,⟨_,rfl⟩,q⟩
theorem eh:UnR X (unaryOp .USub) (rU fun i=>.int (-i)):=Dw fun _ _ _ _ _ q=>neg_int q
end
def jP:V→V→Bool
 | .non,.non=>true | .non,.int _=>true | .int _,.non=>true | .non,.bl _=>true | .bl _,.non=>true | .non,.str _=>true | .str _,.non=>true
 | .int _,.int _=>true | .bl _,.bl _=>true | .str _,.str _=>true | .byt _,.byt _=>true
 | .int _,.str _=>true | .str _,.int _=>true | .bl _,.str _=>true | .str _,.bl _=>true
 | _,_=>false
def AY:R2:=fun x y H Q=>jP x y=true∧Q (.bl (decide (x=y))) H
def AR:R2:=fun x y H Q=>jP x y=true∧Q (.bl (!decide (x=y))) H
theorem qb{i j:Int}:decide (V.int i=V.int j)=(i == j):=by
 rw[Bool.eq_iff_iff]
 simp
theorem tE{i j:Bool}:decide (V.bl i=V.bl j)=(i == j):=by
 rw[Bool.eq_iff_iff]
 simp
theorem pR{i j:Str}:decide (V.str i=V.str j)=(i == j):=by
 rw[Bool.eq_iff_iff]
 simp
theorem qd{i j:Array UInt8}:decide (V.byt i=V.byt j)=(i.toList == j.toList):=by
 rw[Bool.eq_iff_iff]
 cases i
 cases j
 simp
section
variable{X:Cx}{a b c:Expr}{ta tb tc:TE}{pos:Pos}
theorem br{pins:List (Addr × Obj)}{σ : St}{H:Hp}{s:Shared}{Q:VK}{k k':Bool}(I:Inv X pins σ H s)(q:Q (.bl k) H)(e:k=k'):EP X pins σ Q (.bool k') s:=by
 subst e
 exact⟨.bl k,H,I,rfl,q⟩
theorem Ao:OpR X (compareOp .Eq) AY:=by
 intro pins s σ H x y v u Q I rx ry h
 obtain⟨hs,q⟩:=h
 cases x with
 | non=>
  cases rx
  cases y with
  | non=>cases ry; exact PySem.EqNone.eq_none_none (br I q (by simp))
  | bl j=>cases ry; exact PySem.EqNone.eq_none_bool (br I q (by simp))
  | int j=>obtain⟨t',rfl⟩:=ry; exact PySem.EqNone.eq_none_int (br I q (by simp))
  | str j=>obtain⟨t',rfl⟩:=ry; exact PySem.EqNone.eq_none_str (br I q (by simp))
  | _=>exact absurd (show false=true from hs) Bool.false_ne_true
 | bl i=>
  cases rx
  cases y with
  | non=>cases ry; exact PySem.EqNone.eq_bool_none (br I q (by simp))
  | bl j=>cases ry; exact eq_bool (br I q tE)
  | str j=>obtain⟨t',rfl⟩:=ry; exact PySem.EqMixed.eq_bool_str (br I q (by simp))
  | _=>exact absurd (show false=true from hs) Bool.false_ne_true
 | int i=>
  obtain⟨t,rfl⟩:=rx
  cases y with
  | non=>cases ry; exact PySem.EqNone.eq_int_none (br I q (by simp))
  | int j=>obtain⟨t',rfl⟩:=ry; exact eq_int (br I q qb)
  | str j=>obtain⟨t',rfl⟩:=ry; exact PySem.EqMixed.eq_int_str (br I q (by simp))
  | _=>exact absurd (show false=true from hs) Bool.false_ne_true
 | str i=>
  obtain⟨t,rfl⟩:=rx
  cases y with
  | non=>cases ry; exact PySem.EqNone.eq_str_none (br I q (by simp))
  | bl j=>cases ry; exact PySem.EqMixed.eq_str_bool (br I q (by simp))
  | int j=>obtain⟨t',rfl⟩:=ry; exact PySem.EqMixed.eq_str_int (br I q (by simp))
  | str j=>obtain⟨t',rfl⟩:=ry; exact eq_str (br I q pR)
  | _=>exact absurd (show false=true from hs) Bool.false_ne_true
 | byt i=>
  obtain⟨t,rfl⟩:=rx
  cases y with
  | byt j=>obtain⟨t',rfl⟩:=ry; exact PySem.W.eq_bytes (br I q qd)
  | _=>exact absurd (show false=true from hs) Bool.false_ne_true
 | _=>cases y <;> exact absurd (show false=true from hs) Bool.false_ne_true
theorem AG:OpR X (compareOp .NotEq) AR:=by
 intro pins s σ H x y v u Q I rx ry h
 obtain⟨hs,q⟩:=h
 cases x with
 | non=>
  cases rx
  cases y with
  | non=>cases ry; exact PySem.EqNone.ne_none_none (br I q (by simp))
  | bl j=>cases ry; exact PySem.EqNone.ne_none_bool (br I q (by simp))
  | int j=>obtain⟨t',rfl⟩:=ry; exact PySem.EqNone.ne_none_int (br I q (by simp))
  | str j=>obtain⟨t',rfl⟩:=ry; exact PySem.EqNone.ne_none_str (br I q (by simp))
  | _=>exact absurd (show false=true from hs) Bool.false_ne_true
 | bl i=>
  cases rx
  cases y with
  | non=>cases ry; exact PySem.EqNone.ne_bool_none (br I q (by simp))
  | bl j=>cases ry; exact ne_bool (br I q (congrArg not tE))
  | str j=>obtain⟨t',rfl⟩:=ry; exact PySem.EqMixed.ne_bool_str (br I q (by simp))
  | _=>exact absurd (show false=true from hs) Bool.false_ne_true
 | int i=>
  obtain⟨t,rfl⟩:=rx
  cases y with
  | non=>cases ry; exact PySem.EqNone.ne_int_none (br I q (by simp))
  | int j=>obtain⟨t',rfl⟩:=ry; exact ne_int (br I q (congrArg not qb))
  | str j=>obtain⟨t',rfl⟩:=ry; exact PySem.EqMixed.ne_int_str (br I q (by simp))
  | _=>exact absurd (show false=true from hs) Bool.false_ne_true
 | str i=>
  obtain⟨t,rfl⟩:=rx
  cases y with
  | non=>cases ry; exact PySem.EqNone.ne_str_none (br I q (by simp))
  | bl j=>cases ry; exact PySem.EqMixed.ne_str_bool (br I q (by simp))
  | int j=>obtain⟨t',rfl⟩:=ry; exact PySem.EqMixed.ne_str_int (br I q (by simp))
  | str j=>obtain⟨t',rfl⟩:=ry; exact ne_str (br I q (congrArg not pR))
  | _=>exact absurd (show false=true from hs) Bool.false_ne_true
 | byt i=>
  obtain⟨t,rfl⟩:=rx
  cases y with
  | byt j=>obtain⟨t',rfl⟩:=ry; exact PySem.W.ne_bytes (br I q (congrArg not qd))
  | _=>exact absurd (show false=true from hs) Bool.false_ne_true
 | _=>cases y <;> exact absurd (show false=true from hs) Bool.false_ne_true
theorem Aj:OpR X (compareOp .Lt) (lM fun i j=>.bl (decide (i<j))):=vN fun _ _ _ _ _ _ _ q=>lt_int q
theorem iu:OpR X (compareOp .LtE) (lM fun i j=>.bl (decide (i≤j))):=vN fun _ _ _ _ _ _ _ q=>le_int q
theorem mh:OpR X (compareOp .Gt) (lM fun i j=>.bl (decide (j<i))):=vN fun _ _ _ _ _ _ _ q=>gt_int q
theorem tU:OpR X (compareOp .Lt) (fun x y H Q=>∃ i j,x = .str i∧y = .str j∧Q (.bl (decide (i.cps.toList<j.cps.toList))) H):=by
 intro pins s σ H x y v u Q I rx ry h
 obtain⟨i,j,rfl,rfl,q⟩:=h
 obtain⟨t,rfl⟩:=rx
 obtain⟨t',rfl⟩:=ry
 exact lt_str (br I q rfl)
theorem yP:OpR X (compareOp .Is) (fun x y H Q=>y = .non∧Q (.bl (decide (x = .non))) H):=by
 intro pins s σ H x y v u Q I rx ry h
 obtain⟨rfl,q⟩:=h
 cases ry
 refine is_none_gen (br I q ?_)
 cases x <;> first
  | (cases rx; rfl)
  | (obtain⟨t,rfl⟩:=rx; rfl)
theorem aM(b:Expr){op:CmpOp}(h:op ≠ .In:=by decide)(h2:op ≠ .NotIn:=by decide):behindInMarks op b=false:=by
 have e1:(op == CmpOp.In)=false:=by cases op <;> first | rfl | exact absurd rfl h
 have e2:(op == CmpOp.NotIn)=false:=by cases op <;> first | rfl | exact absurd rfl h2
 cases b <;> simp[behindInMarks,e1,e2]
theorem gg{op:CmpOp}{r:R2}(ho:OpR X (compareOp op) r)(ha:PE X a ta)(hb:PE X b tb)(hm:behindInMarks op b=false):PE X (.Compare a [op] [b] pos) (uL r ta tb):=by
 intro pins s σ H Q I h
 exact wpAny_Compare1 (v5 ha hb I h fun v u s2 x y H2 I2 rx ry q=>ho pins s2 σ H2 x y v u Q I2 rx ry q) hm
def rY(t:TE):TT:=fun σ H Q=>t σ H fun x H'=>∃ k,x = .bl k∧Q k H'
theorem aH{op:CmpOp}{r:R2}(ho:OpR X (compareOp op) r)(ha:PE X a ta)(hb:PE X b tb)(hm:behindInMarks op b=false):PT X (.Compare a [op] [b] pos) (rY (uL r ta tb)):=by
 intro pins s σ H Q I h
 refine wpAny_isTrue_Compare1 (bd (ha pins s σ H _ I h) fun v s1 ⟨x,H1,I1,r1,q1⟩=>bd (hb pins s1 σ H1 _ I1 q1) fun u s2 ⟨y,H2,I2,r2,q2⟩=>
  bd (ho pins s2 σ H2 x y v u _ I2 r1 r2 q2) fun c s3 ⟨z,H3,I3,r3,k,e,q3⟩=>?_) hm
 subst e
 cases r3
 exact wpAny_truthy_bool ⟨H3,I3,q3⟩
def t9(r r':R2)(ta tb tc:TE):TE:=fun σ H Q=>ta σ H fun x H1=>tb σ H1 fun y H2=>r x y H2 fun z H3=>∃ k,z = .bl k∧
 (if k=true then tc σ H3 fun w' H4=>r' y w' H4 Q else Q (.bl false) H3)
theorem iZ{op op':CmpOp}{r r':R2}(ho:OpR X (compareOp op) r)(ho':OpR X (compareOp op') r')(ha:PE X a ta)(hb:PE X b tb)(hc:PE X c tc)
  (hm:lastMarks [op,op'] [b,c]=false:=by with_unfolding_all rfl):PT X (.Compare a [op,op'] [b,c] pos) (rY (t9 r r' ta tb tc)):=by
 intro pins s σ H Q I h
 refine isTrue_chain (bd (ha pins s σ H _ I h) fun v s1 ⟨x,H1,I1,r1,q1⟩=>test_link (bd (hb pins s1 σ H1 _ I1 q1) fun u s2 ⟨y,H2,I2,r2,q2⟩=>
  bd (ho pins s2 σ H2 x y v u _ I2 r1 r2 q2) fun d s3 ⟨z,H3,I3,r3,k,e,q3⟩=>?_)) hm
 subst e
 cases r3
 refine wpAny_truthy_bool ?_
 cases k with
 | false=>
  obtain⟨k',e',q'⟩:=q3
  cases e'
  exact ite_ff ⟨H3,I3,q'⟩
 | true=>
  refine ite_tt (test_last (bd (hc pins s3 σ H3 _ I3 q3) fun w' s4 ⟨z',H4,I4,r4,q4⟩=>bd (ho' pins s4 σ H4 y z' u w' _ I4 r2 r4 q4) fun d' s5 ⟨z2,H5,I5,r5,k2,e2,q5⟩=>?_))
  subst e2
  cases r5
  exact wpAny_truthy_bool ⟨H5,I5,q5⟩
theorem g0:(sizeLine:Nat)<2 ^ 63:=by rw[sizeLine_eq]; decide
theorem rT:OpR X (binaryOp .Add) (fun x y H Q=>∃ i j,x = .str i∧y = .str j∧i.length+j.length≤sizeLine∧Q (.str (i++j)) H):=by
 intro pins s σ H x y v u Q I rx ry h
 obtain⟨i,j,rfl,rfl,hz,q⟩:=h
 obtain⟨t,rfl⟩:=rx
 obtain⟨t',rfl⟩:=ry
 exact add_str (fun t' tk=>⟨.str (i++j),H,I.tok _,⟨_,rfl⟩,q⟩) hz
theorem dB{x:V}{us:List Value}(r:Vals [x] us):∃ u,us=[u]∧RelV x u:=by
 cases r with
 | cons r1 r2=>cases r2; exact⟨_,rfl,r1⟩
theorem lZ{x y:V}{us:List Value}(r:Vals [x,y] us):∃ u w',us=[u,w']∧RelV x u∧RelV y w':=by
 cases r with
 | cons r1 r2=>
  cases r2 with
  | cons r3 r4=>cases r4; exact⟨_,_,rfl,r1,r3⟩
theorem ui:CallR X (.type "int") (fun xs H Q=>(∃ i,xs=[.int i]∧Q (.int i) H)∨∃ k,xs=[.bl k]∧Q (.int (if k then 1 else 0)) H):=by
 intro pins s σ H xs us Q I r h
 rcases h with ⟨i,rfl,q⟩ | ⟨k,rfl,q⟩
 ·obtain⟨u,rfl,t,rfl⟩:=dB r
  exact call_int_int ⟨.int i,H,I,⟨_,rfl⟩,q⟩
 ·obtain⟨u,rfl,r1⟩:=dB r
  cases r1
  exact call_int_bool ⟨.int (if k then 1 else 0),H,I.tok _,⟨_,rfl⟩,q⟩
theorem gW:CallR X (.type "str") (fun xs H Q=>∃ i,xs=[.int i]∧i.natAbs.log2<1920∧Q (.str (toString i)) H):=by
 intro pins s σ H xs us Q I r h
 obtain⟨i,rfl,hz,q⟩:=h
 obtain⟨u,rfl,t,rfl⟩:=dB r
 exact PySem.P.str_of_int hz ⟨.str _,H,I.tok _,⟨_,rfl⟩,q⟩
end
end L2
namespace L2
open PySem PySem.Spec PyProof.Rows
structure ObjM (h:Heap) (x dx C:Addr) (mA:Str→Option Value):Prop where
 obj:h.get? x=some (PySem.W.instObj C dx)
 ns:h.Ns1 dx mA
 ne:dx≠x
theorem tK{h:Heap}{dx:Addr}{mA:Str→Option Value}(n:h.Ns1 dx mA):∃ od,h.get? dx=some od∧∀ name,PySem.W.lookIn name od=some (mA name):=by
 obtain⟨o,es,ep,ho,hd,hk,_,hm⟩:=n
 refine⟨o,ho,fun name=>?_⟩
 have e:=hm name
 unfold nsFind findBy at e
 rw[← Array.find?_toList]at e
 unfold PySem.W.lookIn
 rw[hd]
 dsimp only
 split
 ·rename_i y q
  rw[q]at e
  exact congrArg some e
 ·rename_i q
  rw[q]at e
  have a:es.toList.any (·.refKey)=false:=by
   rw[List.any_eq_false]
   intro y hy
   obtain⟨z,t,hkey⟩:=hk y (Array.mem_toList_iff.mp hy)
   simp[DictEntry.refKey,hkey]
  have a':¬ es.toList.any (·.refKey)=true:=by rw[a]; exact Bool.false_ne_true
  rw[if_neg a']
  exact congrArg some e
theorem ObjM.look{h:Heap}{x dx C:Addr}{mA:Str→Option Value}(I:ObjM h x dx C mA):∃ od,PySem.W.InstAt h x (PySem.W.instObj C dx) C (some od)∧∀ name,PySem.W.lookIn name od=some (mA name):=
 let ⟨od,ho,hl⟩:=tK I.ns
 ⟨od,⟨I.obj,rfl,rfl,ho⟩,hl⟩
section
variable{prog:Program}{w:World}{A:Around}{E:Value→Shared→Prop}{s:Shared}{K:PySem.W.Frag}{x dx C f:Addr}{mA:Str→Option Value}{name:Str}{v:Value}
theorem xI{expr:Bool}{Q:Value→Shared→Prop}(X:K.In s.heap)(I:ObjM s.heap x dx C mA)(hg:PySem.W.plainGet K C name=true)(hh:PySem.W.hasDictIn K C=true)
  (ha:PySem.W.findIn K (.ref C) name=some none) (hv:mA name=some v) (hv':PySem.W.handedIn v=true) (h:Q v { s with toks:=s.toks+1 }) :
  wpAny (model prog w) A (getAttr (.ref x) name expr) Q E s:=by
 obtain⟨od,J,hl⟩:=I.look
 exact PySem.W.get_value X J (PySem.W.plainGet_of hg).1 (PySem.W.findObj_own hh ha rfl (by rw[hl,hv])) hv' h
theorem xm{ns:List Str}{Q:Unit→Shared→Prop}(X:K.In s.heap)(I:ObjM s.heap x dx C mA)
  (hs:PySem.W.findIn K (.ref C) "__setattr__" = some (some (.builtin "object.__setattr__"))) (hp:PySem.W.plainOver K C=true) (ht:PySem.W.takerIn K C name=some none) (hh:PySem.W.hasDictIn K C=true)
  (hw:PySem.Within mA ns) (hsz:ns.length≤sizeLine)
  (h:∀ h',ObjM h' x dx C (fun y=>if y=name then some v else mA y)→Heap.SameBut dx s.heap h'→Q () { s with heap:=h',toks:=s.toks+2 }) :
  wpAny (model prog w) A (setAttr (.ref x) name v) Q E s:=by
 obtain⟨od,J,hl⟩:=I.look
 refine PySem.W.set_plain X J hs (PySem.W.osa_open (s:={ s with toks:=s.toks+1 }) (r:=none) X J hp ht fun b=>?_)
 obtain⟨cd,hc,hd'⟩:=PySem.W.any_some hh
 have hx:s.heap.get? x=some ⟨.ref C,some dx,.plain,#[]⟩:=I.obj
 refine wpAny_bind (wpAny_pure (wpAny_bind (wpAny_bind (wpAny_loadPart hx (wpAny_bind (PySem.W.Looks.here (s:={ s with toks:=s.toks+1 }) (PySem.W.looks_clsIn X hc) ?_))))))
 rw[hd']
 refine wpAny_pure (a:=some dx) (wpAny_bind (wpAny_pure (wpAny_bind ?_)))
 refine wpAny_nsSet1 (s:={ s with toks:=s.toks+1 }) I.ns fun h' hn2 hs2=>?_
 obtain⟨oD,esD,epD,hoD,hdD,hcD⟩:=hn2.count (PySem.Within.cons name v hw)
 refine wpAny_bind (wpAny_lookBehind hoD (by rw[hdD]; exact pastItsLine_dict (Nat.le_trans hcD (by rw[List.length_cons]; omega))) ?_)
 exact wpAny_pure (h _ ⟨(hs2.2 _ (Ne.symm I.ne)).trans I.obj,hn2,I.ne⟩ hs2)
theorem vZ{R:Result→Shared→Prop}{vs:List Value}{kw:List (Str × Value)}(X:K.In s.heap)(hm:PySem.W.makesIn K C=true)
  (hi:PySem.W.findIn K (.ref C) "__init__" = some (some (.ref f))) (hf:PySem.W.typeIn K (.ref f)=some (.type "function"))
  (h:codeAny (model prog w) (A.under (.builtin "type.__call__" ⟨.ref C::vs,kw⟩)) (.call (.ref f) ⟨.ref (s.heap.objs.size+1)::vs,kw⟩) (PySem.W.InitBack (s.heap.objs.size+1) R)
   { s with heap:=(s.heap.push PySem.W.emptyDict).push (PySem.W.instObj C s.heap.objs.size) }) :
  codeAny (model prog w) A (.call (.ref C) ⟨vs,kw⟩) R s:=by
 obtain⟨hh,g,d,t,os⟩:=s
 exact PySem.W.make_core (PySem.W.makes_of X hm) (PySem.W.looks_findIn X hi) (fun self=>PySem.W.bind_fn X self hf) (.inl rfl) h
end
def c_(f:Str)(v:V):List (Str × V)→List (Str × V)
 | []=>[(f,v)]
 | (g,x)::r=>if g=f then (g,v)::r else (g,x)::c_ f v r
theorem ix(f g:Str)(v:V):∀ fs:List (Str × V),(c_ f v fs).lookup g=if g=f then some v else fs.lookup g
 | []=>by
  show List.lookup g [(f,v)]=_
  by_cases h:g=f
  ·have hb:(g == f)=true:=beq_iff_eq.mpr h
   simp only[List.lookup,hb,if_pos h]
  ·have hb:(g == f)=false:=beq_eq_false_iff_ne.mpr h
   simp only[List.lookup,hb,if_neg h]
 | (k,x)::r=>by
  have ih:=ix f g v r
  rw[show c_ f v ((k,x)::r)=(if k=f then (k,v)::r else (k,x)::c_ f v r) from rfl]
  by_cases hk:k=f
  ·rw[if_pos hk]
   by_cases h:g=k
   ·have hb:(g == k)=true:=beq_iff_eq.mpr h
    simp only[List.lookup,hb,if_pos (h.trans hk)]
   ·have hb:(g == k)=false:=beq_eq_false_iff_ne.mpr h
    simp only[List.lookup,hb,if_neg (fun e:g=f=>h (e.trans hk.symm))]
  ·rw[if_neg hk]
   by_cases h:g=k
   ·have hb:(g == k)=true:=beq_iff_eq.mpr h
    simp only[List.lookup,hb,if_neg (fun e:g=f=>hk (h.symm.trans e))]
   ·have hb:(g == k)=false:=beq_eq_false_iff_ne.mpr h
    simp only[List.lookup,hb]
    exact ih
theorem gZ(f:Str)(v:V):∀ fs:List (Str × V),f∈(c_ f v fs).map (·.1)∧∀ g,g∈fs.map (·.1)→g∈(c_ f v fs).map (·.1)
 | []=>⟨by simp[c_],fun g h=>by simp at h⟩
 | (k,x)::r=>by
  obtain⟨i1,i2⟩:=gZ f v r
  rw[show c_ f v ((k,x)::r)=(if k=f then (k,v)::r else (k,x)::c_ f v r) from rfl]
  by_cases hk:k=f
  ·rw[if_pos hk]
   subst hk
   exact⟨by simp,fun g h=>by simpa using h⟩
  ·rw[if_neg hk]
   refine⟨?_,fun g h=>?_⟩
   ·rw[List.map_cons]
    exact List.mem_cons_of_mem _ i1
   ·rw[List.map_cons]at h ⊢
    rcases List.mem_cons.mp h with e | e
    ·exact List.mem_cons.mpr (.inl e)
    ·exact List.mem_cons_of_mem _ (i2 g e)
theorem iA(f:Str)(v:V):∀ fs:List (Str × V),(c_ f v fs).length≤fs.length+1
 | []=>by simp[c_]
 | (k,x)::r=>by
  have ih:=iA f v r
  rw[show c_ f v ((k,x)::r)=(if k=f then (k,v)::r else (k,x)::c_ f v r) from rfl]
  by_cases hk:k=f
  ·rw[if_pos hk,List.length_cons,List.length_cons]; omega
  ·rw[if_neg hk,List.length_cons,List.length_cons]; omega
theorem RelO.some_of{v:V}{o:Option Value}(r:RelO (some v) o):∃ u,o=some u∧RelV v u:=by
 cases o with
 | none=>exact(show False from r).elim
 | some u=>exact⟨u,rfl,r⟩
theorem uG{v:V}{u:Value}(r:RelV v u):PySem.W.handedIn u=true:=by
 cases v with
 | non=>cases (show u=Value.none from r); rfl
 | bl b=>cases (show u=Value.bool b from r); rfl
 | int i=>obtain⟨t,e⟩:=(show ∃ t,u=Value.int i t from r); cases e; rfl
 | str x=>obtain⟨t,e⟩:=(show ∃ t,u=Value.str x t from r); cases e; rfl
 | byt b=>obtain⟨t,e⟩:=(show ∃ t,u=Value.bytes b t from r); cases e; rfl
 | flt b=>obtain⟨t,e⟩:=(show ∃ t,u=Value.float b t from r); cases e; rfl
 | ref a=>cases (show u=Value.ref a from r); rfl
 | ty n=>cases (show u=Value.type n from r); rfl
section
variable{P:Program}{w:World}{H H':Hp}{h h':Heap}{a C dx:Addr}{fs fs':List (Str × V)}
theorem kz(hok:HOk P w H h)(e:H a=some (.ins C dx fs)):∃ mA,ObjM h a dx C mA∧(∀ f,RelO (fs.lookup f) (mA f))∧PySem.Within mA (fs.map (·.1))∧fs.length≤1000∧H dx=some (.own a):=by
 obtain⟨d,z,ne,ob,mA,n,r,q⟩:=(show ObjOk P w H h a (.ins C dx fs) from hok a _ e)
 exact⟨mA,⟨ob,n,ne⟩,r,q,z,d⟩
end
structure Cls (K:PySem.W.Frag) (C:Addr):Prop where
 pg:PySem.W.plainGet K C Str.empty=true
 hd:PySem.W.hasDictIn K C=true
 po:PySem.W.plainOver K C=true
 sa:PySem.W.findIn K (.ref C) "__setattr__" = some (some (.builtin "object.__setattr__"))
theorem Cls.get{K:PySem.W.Frag}{C:Addr}(c:Cls K C)(f:Str):PySem.W.plainGet K C f=true:=c.pg
def NoAttr(K:PySem.W.Frag)(C:Addr)(f:Str):Prop:=PySem.W.findIn K (.ref C) f=some none
theorem NoAttr.taker{K:PySem.W.Frag}{C:Addr}{f:Str}(n:NoAttr K C f):PySem.W.takerIn K C f=some none:=by
 unfold PySem.W.takerIn
 rw[show PySem.W.findIn K (.ref C) f=some none from n]
 rfl
section
variable{X:Cx}{pins:List (Addr × Obj)}{σ : St}{H:Hp}{s:Shared}{a C dx:Addr}{fs:List (Str × V)}{f:Str}{v:V}{A:Around}{E:Value→Shared→Prop}
theorem qO{b:Bool}{Q:Value→Shared→Prop}(I:Inv X pins σ H s)(e:H a=some (.ins C dx fs))(c:Cls X.K C)(n:NoAttr X.K C f)(l:fs.lookup f=some v)
  (h:∀ u s',Inv X pins σ H s'→RelV v u→Q u s'):wpAny (model X.prog X.w) A (getAttr (.ref a) f b) Q E s:=by
 obtain⟨mA,O,r,_,_,_⟩:=kz I.hok e
 obtain⟨u,hu,ru⟩:=RelO.some_of (v:=v) (o:=mA f) (by rw[← l]; exact r f)
 exact xI I.kIn O (c.get f) c.hd n hu (uG ru) (h u _ (I.tok _) ru)
theorem qW{y:V}{u:Value}{Q:Unit→Shared→Prop}(I:Inv X pins σ H s)(e:H a=some (.ins C dx fs))(c:Cls X.K C)(n:NoAttr X.K C f)(hl:fs.length<1000)(ry:RelV y u)
  (h:∀ s',Inv X pins σ (upd H a (.ins C dx (c_ f y fs))) s'→Q () s'):wpAny (model X.prog X.w) A (setAttr (.ref a) f u) Q E s:=by
 obtain⟨mA,O,r,wi,_,ho⟩:=kz I.hok e
 have hz:(fs.map (·.1)).length≤sizeLine:=by rw[List.length_map,sizeLine_eq]; omega
 refine xm I.kIn O c.sa c.po n.taker c.hd wi hz fun h' O' sb=>h _ ?_
 have hd:∃ o,h'.get? dx=some o:=let ⟨o,_,_,e',_⟩:=O'.ns; ⟨o,e'⟩
 refine I.write (x:=a) (e:=dx) (by rw[e]; exact True.intro) (.inr ho) (fun b q hb z=>(sb.2 b hb).trans z) hd ?_
 refine⟨by rw[af O.ne]; exact ho,?_,O.ne,O'.obj,_,O'.ns,fun g=>?_,fun g hg=>?_⟩
 ·have:=iA f y fs; omega
 ·show RelO ((c_ f y fs).lookup g) (if g=f then some u else mA g)
  rw[ix]
  by_cases q:g=f
  ·rw[if_pos q,if_pos q]; exact ry
  ·rw[if_neg q,if_neg q]; exact r g
 ·by_cases q:g=f
  ·rw[q]; exact(gZ f y fs).1
  ·refine(gZ f y fs).2 g (wi g fun z=>hg ?_)
   show (if g=f then some u else mA g)=none
   rw[if_neg q]; exact z
theorem Inv.made(I:Inv X pins σ H s):Inv X pins σ (upd (upd H s.heap.objs.size (.own (s.heap.objs.size+1))) (s.heap.objs.size+1) (.ins C s.heap.objs.size []))
  { s with heap:=(s.heap.push PySem.W.emptyDict).push (PySem.W.instObj C s.heap.objs.size) }:=by
 have e1:(s.heap.push PySem.W.emptyDict).get? s.heap.objs.size=some PySem.W.emptyDict:=Heap.get?_push_size s.heap rfl
 have e2:((s.heap.push PySem.W.emptyDict).push (PySem.W.instObj C s.heap.objs.size)).get? (s.heap.objs.size+1)=some (PySem.W.instObj C s.heap.objs.size):=by
  have:=Heap.get?_push_size (s.heap.push PySem.W.emptyDict) (o:=PySem.W.instObj C s.heap.objs.size) rfl
  rwa [Heap.size_push]at this
 have e3:(s.heap.push PySem.W.emptyDict).Ns s.heap.objs.size (fun _=>none):=⟨PySem.W.emptyDict,#[],_,e1,rfl,(fun e he=>absurd he (by simp)),fun _=>rfl⟩
 have I1:=I.laid (a:=s.heap.objs.size) (o:=.own (s.heap.objs.size+1)) (h':=s.heap.push PySem.W.emptyDict) (t':=s.toks) (fun b u q=>Heap.get?_push_of_some _ q) (Nat.le_refl _) ⟨_,e1⟩
 refine I1.laid (a:=s.heap.objs.size+1) (o:=.ins C s.heap.objs.size []) (t':=s.toks) (fun b u q=>Heap.get?_push_of_some _ q) (Nat.le_of_eq (Heap.size_push _ _)) ?_
 have ne:s.heap.objs.size≠s.heap.objs.size+1:=Nat.ne_of_lt (Nat.lt_succ_self _)
 refine⟨by rw[af ne,ah],Nat.zero_le _,ne,e2,fun _=>none,(Heap.Ns1.of_empty e3).at fun o q=>Heap.get?_push_of_some _ q,fun _=>True.intro,fun y hy=>absurd rfl hy⟩
theorem xR{prog:Program}{w:World}{env:Env}{e:Expr}{f:Str}{pos:Pos}{s:Shared}{Q:Value→Shared→Prop}(hb:attributeBase e f env (eval e env)=eval e env)
  (h:wpAny (model prog w) A (eval e env) (fun o s₁=>wpAny (model prog w) A (getAttr o f true) Q E s₁) E s):wpAny (model prog w) A (eval (.Attribute e f pos) env) Q E s:=
 Attribute_any_ h (by rw[arm_eval_Attribute,hb])
end
section
variable{X:Cx}{o e value:Expr}{f:Str}{pos pos' tpos:Pos}{ta tv:TE}
end
section
variable{X:Cx}{pins:List (Addr × Obj)}{σ : St}{H:Hp}{s:Shared}{A:Around}{E:Value→Shared→Prop}{Q:Value→Shared→Prop}{c:Value}{b:Bool}
inductive eS (K:PySem.W.Frag) (H:Hp):V→Value→Prop where
 | non:eS K H .non (.type "NoneType")
 | bl (x:Bool):eS K H (.bl x) (.type "bool")
 | int (i:Int):eS K H (.int i) (.type "int")
 | str (x:Str):eS K H (.str x) (.type "str")
 | flt (x:UInt64):eS K H (.flt x) (.type "float")
 | lst {a:Addr} {xs:List V} (e:H a=some (.lst xs)):eS K H (.ref a) (.type "list")
 | frz {a:Addr} {o:Obj} {xs:List V} (e:H a=some (.frz o (.lst xs))):eS K H (.ref a) (.type "list")
 | tup {a:Addr} {xs:List V} (e:H a=some (.tup xs)):eS K H (.ref a) (.type "tuple")
 | dK {a:Addr} {kvs:List (aK × V)} (e:H a=some (.dK kvs)):eS K H (.ref a) (.type "dict")
 | dT {a:Addr} {kvs:List (List aK × V)} (e:H a=some (.dT kvs)):eS K H (.ref a) (.type "dict")
 | ins {a C dx:Addr} {fs:List (Str × V)} (e:H a=some (.ins C dx fs)) (cl:Cls K C) (ha:PySem.W.findIn K (.ref C) "__class__" = some (some (.builtin "object.__class__")))
   (hn:PySem.W.specialIn K (.builtin "object.__class__") "__get__" = some (some (.builtin "getset_descriptor.__get__"))) (htk:PySem.W.takesIn K (.builtin "object.__class__")=some true)
   (hm:PySem.W.mroIn K C (.type "object")=some true):eS K H (.ref a) (.ref C)
theorem sR{x:V}{u t:Value}(I:Inv X pins σ H s)(rx:RelV x u)(ty:eS X.K H x t)(e:PySem.W.kitOne X.K t c=some b)(h:∀ tk,Q (.bool b) { s with toks:=tk }) :
  wpAny (model X.prog X.w) A (call (.builtin "isinstance") [u,c]) Q E s:=by
 cases ty with
 | non=>cases (show u=Value.none from rx); exact PySem.W.kia_one PySem.W.kitx_none I.kIn True.intro e (fun z=>nomatch z) h
 | bl y=>cases (show u=Value.bool y from rx); exact PySem.W.kia_one PySem.W.kitx_bool I.kIn True.intro e (fun z=>nomatch z) h
 | int i=>obtain⟨t,q⟩:=(show ∃ t,u=Value.int i t from rx); cases q; exact PySem.W.kia_one PySem.W.kitx_int I.kIn True.intro e (fun z=>nomatch z) h
 | str y=>obtain⟨t,q⟩:=(show ∃ t,u=Value.str y t from rx); cases q; exact PySem.W.kia_one PySem.W.kitx_str I.kIn True.intro e (fun z=>nomatch z) h
 | flt y=>obtain⟨t,q⟩:=(show ∃ t,u=Value.float y t from rx); cases q; exact PySem.W.kia_one PySem.W.kitx_float I.kIn True.intro e (fun z=>nomatch z) h
 | @lst a xs ea=>
  cases (show u=Value.ref a from rx)
  obtain⟨_,_,n,_,h1⟩:=(show ObjOk X.prog X.w H s.heap a (.lst xs) from I.hok a _ ea)
  exact PySem.W.kia_one PySem.W.kitx_list I.kIn ⟨_,h1,rfl⟩ e (fun z=>nomatch z) h
 | @frz a ob xs ea=>
  cases (show u=Value.ref a from rx)
  obtain⟨_,_,_,n,_,h1⟩:=(show ObjOk X.prog X.w H s.heap a (.frz ob (.lst xs)) from I.hok a _ ea)
  exact PySem.W.kia_one PySem.W.kitx_list I.kIn ⟨_,h1,rfl⟩ e (fun z=>nomatch z) h
 | @tup a xs ea=>
  cases (show u=Value.ref a from rx)
  obtain⟨_,_,_,p⟩:=(show ObjOk X.prog X.w H s.heap a (.tup xs) from I.hok a _ ea)
  obtain⟨o,h1,h2,_⟩:=p
  exact PySem.W.kia_one PySem.W.kitx_tuple I.kIn ⟨o,h1,h2⟩ e (fun z=>nomatch z) h
 | @dK a kvs ea=>
  cases (show u=Value.ref a from rx)
  obtain⟨_,_,vs,_,p⟩:=(show ObjOk X.prog X.w H s.heap a (.dK kvs) from I.hok a _ ea)
  obtain⟨o,es,ep,h1,h2,_⟩:=p
  exact PySem.W.kia_one PySem.W.kitx_dict I.kIn ⟨o,h1,h2.1⟩ e (fun z=>nomatch z) h
 | @dT a kvs ea=>
  cases (show u=Value.ref a from rx)
  obtain⟨_,_,xs,_,o,es,ep,h1,h2,_⟩:=(show ObjOk X.prog X.w H s.heap a (.dT kvs) from I.hok a _ ea)
  exact PySem.W.kia_one PySem.W.kitx_dict I.kIn ⟨o,h1,h2.1⟩ e (fun z=>nomatch z) h
 | @ins a C dx fs ea cl ha hn htk hm=>
  cases (show u=Value.ref a from rx)
  obtain⟨mA,O,_⟩:=kz I.hok ea
  obtain⟨od,J,_⟩:=O.look
  exact PySem.W.kia_one (PySem.W.kitx_own (cl.get _) cl.hd ha hn htk hm) I.kIn J e (fun z=>nomatch z) h
end
end L2
namespace L2
open PySem PySem.Spec PyProof.Rows
structure Room (k:Nat) (A:Around):Prop where
 hd:A.handled=none
 dp:A.depth+3 * k+5<recursionLimit
 un:A.units+16 * k+200<cLine
theorem Room.mono{j k:Nat}{A:Around}(r:Room k A)(h:j≤k):Room j A:=⟨r.hd,by have:=r.dp; omega,by have:=r.un; omega⟩
theorem Room.deeper{k:Nat}{A:Around}(r:Room (k+1) A)(env:Env):Room k (A.deeper env):=
 ⟨r.hd,by have:=r.dp; show A.depth+1+3 * k+5<_; omega,by have:=r.un; show A.units+3+16 * k+200<_; omega⟩
theorem rp{A:Around}{C:Addr}{us:List Value}{kw:List (Str × Value)}:(A.under (.builtin "type.__call__" ⟨.ref C::us,kw⟩)).depth=A.depth+1:=by
 first | rfl | simp[Around.under,Code.weight,Code.isCreation,Code.isGuard,Code.isCaller,Code.frames,Code.isFrame,guardIds]
theorem sy{A:Around}{C:Addr}{us:List Value}{kw:List (Str × Value)}:(A.under (.builtin "type.__call__" ⟨.ref C::us,kw⟩)).units=A.units+1:=by
 first | rfl | simp[Around.under,Code.cUnits,Code.frames,Code.isFrame]
theorem Room.make{k:Nat}{A:Around}(r:Room (k+1) A)(C:Addr)(us:List Value)(kw:List (Str × Value)):Room k (A.under (.builtin "type.__call__" ⟨.ref C::us,kw⟩)):=
 ⟨r.hd,by have:=r.dp; rw[rp]; omega,by have:=r.un; rw[sy]; omega⟩
theorem Room.depth{k:Nat}{A:Around}(r:Room k A):A.depth<recursionLimit:=by have:=r.dp; omega
def yK:TA:=fun _ H Q=>Q [] H
def wR(ta:TE)(tr:TA):TA:=fun σ H Q=>ta σ H fun x H1=>tr σ H1 fun xs H2=>Q (x::xs) H2
section
variable{X:Cx}{e:Expr}{es:List Expr}{te:TE}{t:TA}{pos:Pos}
theorem ae:PA X [] yK:=fun _ _ _ _ H Q I h=>Calls.spliced_nil ⟨[],H,I,.nil,h⟩
theorem aa(ha:PE X e te)(hr:PA X es t)(hs:starEach (e::es) X.env=(false,eval e X.env)::starEach es X.env:=by rfl):PA X (e::es) (wR te t):=by
 intro pos pins s σ H Q I h
 rw[hs]
 show wpAny _ _ (spliced ((false,eval e X.env)::backTo pos (starEach es X.env))) _ _ s
 refine Calls.spliced_cons (bd (ha pins s σ H _ I h) fun u s1 ⟨x,H1,I1,r1,q1⟩=>?_)
 exact bd (hr pos pins s1 σ H1 _ I1 q1) fun us s2 ⟨xs,H2,I2,r2,q2⟩=>⟨x::xs,H2,I2,.cons r1 r2,q2⟩
def zF(t:TA):TE:=fun σ H Q=>t σ H fun xs H1=>xs.length≤sizeLine∧∀ p,H1 p=none→Q (.ref p) (upd H1 p (.tup xs))
def zf(t:TA):TE:=fun σ H Q=>t σ H fun xs H1=>xs.length≤sizeLine∧∀ p,H1 p=none→Q (.ref p) (upd H1 p (.lst xs))
theorem bE{x1}(h:PA X es t):PE X (.Tuple es x1 pos) (zF t):=by
 intro pins s σ H Q I hq
 refine wpAny_Tuple_spliced (bd (h pos pins s σ H _ I hq) fun us s1 ⟨xs,H1,I1,r,z,q⟩=>⟨by rw[← r.length]; exact z,?_⟩)
 have hf:H1 s1.heap.objs.size=none:=I1.hok.fresh (Nat.le_refl _)
 refine⟨.ref s1.heap.objs.size,upd H1 s1.heap.objs.size (.tup xs),I1.laid (t':=s1.toks) (fun b u e=>Heap.get?_push_of_some _ e) (Nat.le_refl _) ?_,rfl,q _ hf⟩
 exact⟨z,us,r,⟨_,Heap.get?_push_size _ rfl,rfl,rfl,_,rfl⟩⟩
theorem bC(h:PA X es t):PE X (.List es pos) (zf t):=by
 intro pins s σ H Q I hq
 refine wpAny_List_spliced (bd (h pos pins s σ H _ I hq) fun us s1 ⟨xs,H1,I1,r,z,q⟩=>⟨by rw[← r.length]; exact z,?_⟩)
 have hf:H1 s1.heap.objs.size=none:=I1.hok.fresh (Nat.le_refl _)
 refine⟨.ref s1.heap.objs.size,upd H1 s1.heap.objs.size (.lst xs),I1.laid (t':=s1.toks) (fun b u e=>Heap.get?_push_of_some _ e) (Nat.le_refl _) ?_,rfl,q _ hf⟩
 exact⟨z,us,0,r,Heap.get?_push_size _ rfl⟩
end
abbrev Sp:=List V→Hp→VK→XK→Prop
abbrev fZ:=List Env→Hp→Shared→XK→Value→Shared→Prop
structure Env0 (P:Program) (w:World) (K:PySem.W.Frag) (mg:Str→Option Value) (base:Heap) (A:Around) (outer:List Env) (s:Shared) (H:Hp):Prop where
 frames:A.frames=some outer
 mod:Mod K mg base
 bs:∀ b o,base.get? b=some o→s.heap.get? b=some o∧H b=none
 bsz:base.objs.size≤s.heap.objs.size
 funs:s.heap.FunFrames base outer
 frf:∀ b∈gF outer,H b=none
 hok:HOk P w H s.heap
 bare:AllBare s.gens
def CE(outer:List Env)(P:Program)(w:World)(H:Hp)(s:Shared)(Q:VK)(u:Value)(s':Shared):Prop:=
 ∃ v H',s'.os=s.os∧AllBare s'.gens∧Un (gF outer) [] H H' s.heap s'.heap∧HOk P w H' s'.heap∧RelV v u∧Q v H'
def CR(CX:fZ)(outer:List Env)(P:Program)(w:World)(H:Hp)(s:Shared)(Q:VK)(E:XK)(r:Result)(s':Shared):Prop:=
 match r with
 | .ok (.ret u)=>CE outer P w H s Q u s'
 | .ok _=>False
 | .error e=>CX outer H s E e s'
structure FnOk (P:Program) (w:World) (K:PySem.W.Frag) (mg:Str→Option Value) (base:Heap) (CX:fZ) (k:Nat) (f:Addr) (fd:FuncData) (ps:List Str) (sp:Sp):Prop where
 len:∀ vs H Q E,sp vs H Q E→vs.length=ps.length
 run:∀ (A:Around) (outer:List Env) (s:Shared) (H:Hp) (args:Args) (us:List Value) (vs:List V) (Q:VK) (E:XK),Room k A→Env0 P w K mg base A outer s H→BindsTo s fd args (ps.zip us)→Vals vs us→sp vs H Q E→
  codeAny (model P w) A (.call (.ref f) args) (CR CX outer P w H s Q E) s
theorem FnOk.mono{P:Program}{w:World}{K:PySem.W.Frag}{mg:Str→Option Value}{base:Heap}{CX:fZ}{j k:Nat}{f:Addr}{fd:FuncData}{ps:List Str}{sp:Sp}(F:FnOk P w K mg base CX j f fd ps sp)(h:j≤k) :
  FnOk P w K mg base CX k f fd ps sp:=⟨F.len,fun A outer s H args us vs Q E hr=>F.run A outer s H args us vs Q E (hr.mono h)⟩
theorem FnOk.imp{P:Program}{w:World}{K:PySem.W.Frag}{mg:Str→Option Value}{base:Heap}{CX:fZ}{k:Nat}{f:Addr}{fd:FuncData}{ps:List Str}{sp sp':Sp}(F:FnOk P w K mg base CX k f fd ps sp)
  (h:∀ vs H Q E,sp' vs H Q E→sp vs H Q E):FnOk P w K mg base CX k f fd ps sp':=
 ⟨fun vs H Q E q=>F.len vs H Q E (h _ _ _ _ q),fun A outer s H args us vs Q E hr he hb hv hs=>F.run A outer s H args us vs Q E hr he hb hv (h _ _ _ _ hs)⟩
theorem Env0.make{P:Program}{w:World}{K:PySem.W.Frag}{mg:Str→Option Value}{base:Heap}{A:Around}{outer:List Env}{s:Shared}{H:Hp}(e:Env0 P w K mg base A outer s H)(C:Addr)(us:List Value)(kw:List (Str × Value)) :
  Env0 P w K mg base (A.under (.builtin "type.__call__" ⟨.ref C::us,kw⟩)) outer s H:=⟨by first | exact e.frames | (simpa [Around.under,Code.envs,Code.isFrame,pushEnvs] using e.frames),e.mod,e.bs,e.bsz,e.funs,e.frf,e.hok,e.bare⟩
section
variable{X:Cx}{pins:List (Addr × Obj)}{σ : St}{H:Hp}{s s':Shared}
theorem Inv.env0(I:Inv X pins σ H s):Env0 X.prog X.w X.K X.mg X.base X.A X.stack s H:=
 ⟨I.ok.frames,I.ok.mod,I.bs,Nat.le_trans I.ok.bsz I.sz,I.stack,I.stkFree,I.hok,I.bare⟩
theorem Inv.after{Q:VK}{u:Value}(I:Inv X pins σ H s)(h:CE X.stack X.prog X.w H s Q u s'):EP X pins σ Q u s':=by
 obtain⟨v,H',os,bare,un,hok,r,q⟩:=h
 obtain⟨hh,g,d,t,os'⟩:=s'
 obtain rfl:os'=s.os:=os
 exact⟨v,H',I.call (h':=hh) (g':=g) (d':=d) (t':=t) (ch:=[]) un hok bare (fun b z=>absurd z (by simp)),r,q⟩
end
def qP(sp:Sp)(dvs:List V)(E:XK)(t:TA):TE:=fun σ H Q=>t σ H fun vs H1=>sp (vs++dvs) H1 Q E
def Binds(K:PySem.W.Frag)(fd:FuncData)(ps:List Str)(ds:List Value):Prop:=
 ∀ (s:Shared) (us:List Value),K.In s.heap→(us++ds).length=ps.length→BindsTo s fd ⟨us,[]⟩ (ps.zip (us++ds))
theorem Binds.all{K:PySem.W.Frag}{fd:FuncData}{ps:List Str}(h:∀ us:List Value,us.length=ps.length→bindArgs fd ⟨us,[]⟩=pure (ps.zip us)):Binds K fd ps []:=fun s us _ hl=>by
 rw[List.append_nil]at hl ⊢
 exact .of_eq (h us hl)
def jE(CX:fZ)(X:Cx)(E:XK):Prop:=∀ (pins:List (Addr × Obj)) (σ : St) (H:Hp) (s:Shared) (e:Value) (s':Shared),Inv X pins σ H s→CX X.stack H s E e s'→X.xe e s'
section
variable{X:Cx}{CX:fZ}{k:Nat}{f C:Addr}{fd:FuncData}{ps:List Str}{sp:Sp}{dvs:List V}{ds:List Value}{E:XK}{x m:Str}{p pos apos:Pos}{e o:Expr}{es:List Expr}{ta:TE}{t:TA}
theorem yX{pins:List (Addr × Obj)}{σ : St}{H:Hp}{s:Shared}{Q:VK}{us:List Value}{vs:List V}(F:FnOk X.prog X.w X.K X.mg X.base CX k f fd ps sp)(hr:Room k X.A)(hb:Binds X.K fd ps ds)(hd:Vals dvs ds)(hx:jE CX X E)
  (I:Inv X pins σ H s) (r:Vals vs us) (h:sp (vs++dvs) H Q E):wpAny (model X.prog X.w) X.A (call (.ref f) us) (EP X pins σ Q) X.xe s:=by
 have r2:Vals (vs++dvs) (us++ds):=r.append hd
 have hl:(us++ds).length=ps.length:=by rw[← r2.length]; exact F.len _ _ _ _ h
 refine wpAny_call (codeAny_mono (F.run X.A X.stack s H ⟨us,[]⟩ (us++ds) (vs++dvs) Q E hr I.env0 (hb s us I.kIn hl) r2 h) fun r s' hq=>?_)
 cases r with
 | error e=>exact hx pins σ H s e s' I hq
 | ok fl=>
  cases fl with
  | ret u=>exact I.after hq
  | next=>exact False.elim hq
  | brk=>exact False.elim hq
  | cont=>exact False.elim hq
theorem xC(F:FnOk X.prog X.w X.K X.mg X.base CX k f fd ps sp)(hr:Room k X.A)(hg:Gl X x)(hm:X.mg x=some (.ref f))(hk:PySem.W.keepIn X.K (.ref f)=true)(hb:Binds X.K fd ps ds)(hd:Vals dvs ds)(hx:jE CX X E)
  (ha:PA X (e::es) t) (hdb:(x == ("__debug__" : Str))=false:=by decide) (he:starEach (e::es) X.env=(false,eval e X.env)::starEach es X.env:=by rfl) (hpl:(backTo pos (starEach es X.env)).any (·.1)=false:=by rfl) :
  PE X (.Call (.Name x p) (e::es) [] pos) (qP sp dvs E t):=by
 intro pins s σ H Q I h
 refine wpAny_Call_Name_kw (kh I hg hm ?_ hdb)
 refine PySem.W.callWith_K (h₀:=X.base) I.ok.mod.kin hk (bd (ha pos pins s σ H _ I h) fun us s1 ⟨vs,H1,I1,r,q⟩=>⟨I1.kIn,?_⟩) he hpl
 exact yX F hr hb hd hx I1 r q
structure Mk (K:PySem.W.Frag) (C f:Addr):Prop where
 makes:PySem.W.makesIn K C=true
 init:PySem.W.findIn K (.ref C) "__init__" = some (some (.ref f))
 fn:PySem.W.isFn K (.ref f)=true
 kp:PySem.W.keepIn K (.ref C)=true
theorem u9{pins:List (Addr × Obj)}{σ : St}{H:Hp}{s:Shared}{Q:VK}{us:List Value}{vs:List V}(M:Mk X.K C f)(F:FnOk X.prog X.w X.K X.mg X.base CX k f fd ps sp)(hr:Room (k+1) X.A)(hb:Binds X.K fd ps ds)(hd:Vals dvs ds)
  (hx:jE CX X E) (I:Inv X pins σ H s) (r:Vals vs us)
  (h:∀ x dx,H x=none→H dx=none→dx≠x→sp (.ref x::(vs++dvs)) (upd (upd H dx (.own x)) x (.ins C dx [])) (fun v H2=>v = .non∧Q (.ref x) H2) E) :
  wpAny (model X.prog X.w) X.A (call (.ref C) us) (EP X pins σ Q) X.xe s:=by
 have hq:=h (s.heap.objs.size+1) s.heap.objs.size (I.hok.fresh (Nat.le_succ _)) (I.hok.fresh (Nat.le_refl _)) (Nat.ne_of_lt (Nat.lt_succ_self _))
 have I2:=Inv.made (C:=C) I
 have r2:Vals (V.ref (s.heap.objs.size+1)::(vs++dvs)) (Value.ref (s.heap.objs.size+1)::(us++ds)):=.cons rfl (r.append hd)
 have hl:(Value.ref (s.heap.objs.size+1)::us++ds).length=ps.length:=by
  have e:=r2.length
  rw[F.len _ _ _ _ hq]at e
  exact e.symm
 refine wpAny_call (vZ (f:=f) I.kIn M.makes M.init (beq_iff_eq.mp M.fn) (codeAny_mono (F.run _ X.stack _ _ ⟨Value.ref (s.heap.objs.size+1)::us,[]⟩ (Value.ref (s.heap.objs.size+1)::(us++ds)) _ _ E (hr.make C us [])
  (I2.env0.make C us []) (hb _ (Value.ref (s.heap.objs.size+1)::us) I2.kIn hl) r2 hq) fun r s' hq'=>?_))
 cases r with
 | error e=>exact hx pins σ _ _ e s' I2 hq'
 | ok fl=>
  cases fl with
  | ret u=>
   obtain⟨v,H',I3,rv,ev,q3⟩:=I2.after hq'
   subst ev
   exact⟨rv,⟨V.ref (s.heap.objs.size+1),H',I3,rfl,q3⟩⟩
  | next=>exact False.elim hq'
  | brk=>exact False.elim hq'
  | cont=>exact False.elim hq'
end
section
variable{X:Cx}{CX:fZ}{k:Nat}{f C:Addr}{fd:FuncData}{ps ks:List Str}{sp:Sp}{E:XK}{x m:Str}{p pos apos kpos:Pos}{e o:Expr}{es:List Expr}{kws:List Keyword}{te ta:TE}{t tk:TA}{nm:Option Str}
variable{g:List Value→List Value→List Value}{gV:List V→List V→List V}
end
structure aO (N P:List Str) (sc:Scope):Prop where
 kind:sc.kind = .function
 co:sc.isCoroutine=false
 gen:sc.isGenerator=false
 nd:N.Nodup
 pre:N.take P.length=P
 par:∀ x∈P,sc.names.lookup x=some .local∨sc.names.lookup x=some .cell
 nofree:∀ y∈sc.names,y.2 ≠ .free
theorem kS{kindOf:Str→Option NameKind}{x:Str}:∀ {binds:List (Str × Value)} {m:Str→Option Value},(∀ v,(x,v)∉binds)→bindL kindOf binds m x=m x
 | [],_,_=>rfl
 | (n,v)::r,m,h=>by
  unfold bindL
  rw[kS fun w hw=>h w (List.mem_cons_of_mem _ hw)]
  split
  ·have:x≠n:=by rintro rfl; exact h v List.mem_cons_self
   simp[this]
  ·rfl
theorem kD{kindOf:Str→Option NameKind}{x:Str}:∀ {binds:List (Str × Value)} {m:Str→Option Value},(∀ v,(x,v)∉binds)→bindC kindOf binds m x=m x
 | [],_,_=>rfl
 | (n,v)::r,m,h=>by
  unfold bindC
  rw[kD fun w hw=>h w (List.mem_cons_of_mem _ hw)]
  split
  ·rfl
  ·have:x≠n:=by rintro rfl; exact h v List.mem_cons_self
   simp[this]
theorem lu{kindOf:Str→Option NameKind}{x:Str}{v:Value}:∀ {P:List Str} {vs:List Value} {i:Nat} {m:Str→Option Value},P.Nodup→P[i]? = some x→vs[i]? = some v→kindOf x=some .local→
  bindL kindOf (P.zip vs) m x=some v
 | [],_,_,_,_,h,_,_=>by simp at h
 | _::_,[],_,_,_,_,h,_=>by simp at h
 | p::P,w::vs,0,m,nd,h1,h2,hk=>by
  simp at h1 h2; subst h1; subst h2
  show bindL kindOf ((p,w)::P.zip vs) m p=_
  unfold bindL
  rw[kS fun v hv=>(List.nodup_cons.mp nd).1 (List.of_mem_zip hv).1,if_pos hk]
  simp
 | p::P,w::vs,i+1,m,nd,h1,h2,hk=>by
  show bindL kindOf ((p,w)::P.zip vs) m x=_
  unfold bindL
  exact lu (i:=i) (List.nodup_cons.mp nd).2 (by simpa using h1) (by simpa using h2) hk
theorem lG{kindOf:Str→Option NameKind}{x:Str}{v:Value}:∀ {P:List Str} {vs:List Value} {i:Nat} {m:Str→Option Value},P.Nodup→P[i]? = some x→vs[i]? = some v→kindOf x≠some .local→
  bindC kindOf (P.zip vs) m x=some v
 | [],_,_,_,_,h,_,_=>by simp at h
 | _::_,[],_,_,_,_,h,_=>by simp at h
 | p::P,w::vs,0,m,nd,h1,h2,hk=>by
  simp at h1 h2; subst h1; subst h2
  show bindC kindOf ((p,w)::P.zip vs) m p=_
  unfold bindC
  rw[kD fun v hv=>(List.nodup_cons.mp nd).1 (List.of_mem_zip hv).1,if_neg hk]
  simp
 | p::P,w::vs,i+1,m,nd,h1,h2,hk=>by
  show bindC kindOf ((p,w)::P.zip vs) m x=_
  unfold bindC
  exact lG (i:=i) (List.nodup_cons.mp nd).2 (by simpa using h1) (by simpa using h2) hk
def start(N:List Str)(vs:List V):St:=vs.map some++List.replicate (N.length - vs.length) none
def gS(CX:fZ)(P:Program)(w:World)(K:PySem.W.Frag)(mg:Str→Option Value)(base:Heap)(N:List Str)(qual:Str)(scope:Scope)(f:Addr)(cd:Value)(A:Around)(outer:List Env)(s:Shared)(H:Hp)(E:XK):Cx where
 prog:=P
 w:=w
 K:=K
 mg:=mg
 base:=base
 A:=A.deeper (envOfC qual scope s.heap.objs.size f cd)
 N:=N
 s₀:=s
 H₀:=H
 env:=envOfC qual scope s.heap.objs.size f cd
 outer:=outer
 stack:=envOfC qual scope s.heap.objs.size f cd::outer
 ex:=[]
 calm:=true
 fn:=fun _=>true
 pn:=[]
 xe:=fun e s'=>wpAny (model P w) (A.deeper (envOfC qual scope s.heap.objs.size f cd)) (leaving (envOfC qual scope s.heap.objs.size f cd) e) (fun _ s''=>CX outer H s E e s'') (fun e' s''=>CX outer H s E e' s'') s'
theorem mr{sc:Scope}{n:Nat}{x:Str}(h:sc.names.lookup x=some .cell):∃ c,(cellsFrom n sc.names []).lookup x=some c:=by
 have q:=PySem.W.cellsFrom_some sc.names n [] (.inl h)
 exact Option.isSome_iff_exists.mp q
theorem uf{CX:fZ}{P:Program}{w:World}{K:PySem.W.Frag}{mg:Str→Option Value}{base:Heap}{N ps:List Str}{qual:Str}{scope:Scope}{f:Addr}{cd:Value}{A:Around}{outer:List Env}{s s1:Shared}{H:Hp}{E:XK}{us:List Value}{vs:List V}
  (S:aO N ps scope) (hd:A.handled=none) (e0:Env0 P w K mg base A outer s H) (hl:vs.length=ps.length) (r:Vals vs us)
  (x:InCallC s s.heap.objs.size (bindL (envOfC qual scope s.heap.objs.size f cd).kindOf (ps.zip us) fun _=>none) (cellsFrom (s.heap.objs.size+1) scope.names []) (bindC (envOfC qual scope s.heap.objs.size f cd).kindOf (ps.zip us) fun _=>none) s1) :
  Inv (gS CX P w K mg base N qual scope f cd A outer s H E) [] (start N vs) H s1:=by
 have hpl:ps.length≤N.length:=by have:=congrArg List.length S.pre; rw[List.length_take]at this; omega
 obtain⟨h1,tk,rfl,hk⟩:=x.done
 have noA:∀ b:Addr,b∉(gS CX P w K mg base N qual scope f cd A outer s H E).ex:=fun b z=>absurd (show b∈([]:List Addr) from z) (by simp)
 refine⟨⟨e0.mod,S.kind,rfl,rfl,Nat.le_refl _,fun y z c h1 h2=>?_,fun y hy=>?_,fun y c _ h=>?_,fun _=>hd,Around.frames_deeper e0.frames,.inr ⟨rfl,rfl⟩,fun b z=>absurd z (noA b),e0.bs,e0.bsz,fun b _ _=>noA b,fun b z=>absurd z (noA b),e0.funs,e0.frf⟩,
  rfl,e0.bare,Un.kept hk,⟨_,x.toInCall.ns,fun i y v h1 h2 h3=>?_⟩,fun y c h=>⟨_,x.cell y c h⟩,e0.hok.fresh (Nat.le_refl _),fun y c h=>?_,fun p hp=>absurd (show p∈([]:List (Addr × Obj)) from hp) (by simp),e0.hok.kept hk,?_⟩
 ·exact name_of_addr x.apart (PySem.mem_of_lookup h1) (PySem.mem_of_lookup h2)
 ·have hy:scope.names.lookup y=some .cell∨scope.names.lookup y=some .free:=hy
  rcases hy with hy | hy
  ·exact mr hy
  ·exact absurd rfl (S.nofree _ (PySem.mem_of_lookup hy))
 ·exact Nat.le_of_lt (x.above y c (PySem.mem_of_lookup h))
 ·have hi:i<vs.length:=by
   unfold start at h2
   by_cases hi:i<vs.length
   ·exact hi
   ·rw[List.getElem?_append_right (by simpa using hi)]at h2
    rw[List.getElem?_replicate]at h2
    split at h2 <;> cases h2
  have ha:vs[i]? = some v:=by
   unfold start at h2
   rw[List.getElem?_append_left (by simpa using hi),List.getElem?_map]at h2
   cases e:vs[i]? with
   | none=>rw[e]at h2; cases h2
   | some a=>rw[e]at h2; cases h2; rfl
  obtain⟨u,hu,rv⟩:=r.get ha
  have hp:ps[i]? = some y:=by
   rw[← S.pre,List.getElem?_take_of_lt (by omega)]; exact h1
  have ndP:ps.Nodup:=by rw[← S.pre]; exact S.nd.sublist (List.take_sublist _ _)
  refine⟨u,rv,?_⟩
  rcases S.par y (List.mem_of_getElem? hp) with k | k
  ·exact .inl ⟨k,lu ndP hp hu k⟩
  ·obtain⟨c,e⟩:=mr (n:=s.heap.objs.size+1) k
   refine .inr ⟨.inl k,c,e,?_⟩
   have q:=x.cell y c e
   rw[lG ndP hp hu (by show scope.names.lookup y≠_; rw[k]; decide)]at q
   exact q
 ·exact e0.hok.fresh (Nat.le_of_lt (x.above y c (PySem.mem_of_lookup h)))
 ·unfold start
  show _=N.length
  rw[List.length_append,List.length_map,List.length_replicate]
  omega
theorem AC{CX:fZ}{P:Program}{w:World}{K:PySem.W.Frag}{mg:Str→Option Value}{base:Heap}{k:Nat}{f:Addr}{name qual:Str}{params:Arguments}{body:List Stmt}{scope:Scope}{dV kV doc pm cdv ct oc:Value}{an od:Option Addr}
  {osl:Array (Option Value)} {N ps:List Str} {sp:Sp} (lk:K.lookup f=some ⟨oc,od,.func (PySem.W.fnOf name qual params body scope dV kV doc pm an cdv ct),osl⟩) (hcd:PySem.W.codeIn K cdv qual=true) (S:aO N ps scope)
  (len:∀ vs H Q E,sp vs H Q E→vs.length=ps.length)
  (hbody:∀ (A:Around) (outer:List Env) (s:Shared) (H:Hp) (vs:List V) (Q:VK) (E:XK),Room k (A.deeper (envOfC qual scope s.heap.objs.size f cdv))→sp vs H Q E→
   ∃ t,PSs (gS CX P w K mg base N qual scope f cdv A outer s H E) body t∧t { nx:=fun _ H'=>Q .non H',rt:=Q } (start N vs) H) :
  FnOk P w K mg base CX (k+1) f (PySem.W.fnOf name qual params body scope dV kV doc pm an cdv ct) ps sp:=by
 refine⟨len,fun A outer s H args us vs Q E hr e0 hb r hsp=>?_⟩
 have hl:=len _ _ _ _ hsp
 have KX:K.In s.heap:=e0.mod.kin.keeps fun b o e=>(e0.bs b o e).1
 have lim:s.heap.NoLimit:=e0.mod.nolimit.keeps fun b o e=>(e0.bs b o e).1
 have hkind:∀ y∈ps.zip us,scope.names.lookup y.1=some .local∨(scope.names.lookup y.1=some .cell∧((cellsFrom (s.heap.objs.size+1) scope.names []).lookup y.1).isSome=true):=fun ⟨n,v⟩ hy=>by
  rcases S.par n (List.of_mem_zip hy).1 with q | q
  ·exact .inl q
  ·exact .inr ⟨q,PySem.W.cellsFrom_some _ _ _ (.inl q)⟩
 refine codeAny_call_function hr.depth (KX _ _ lk) rfl S.co S.gen rfl (PySem.W.codeRec_of KX hcd) (hb _ _ _ _ ?_)
 refine wpAny_newFunctionEnv_cells S.kind hkind fun env he s1 x=>?_
 subst he
 refine⟨lim.keeps x.toInCall.keep,codeAny_func ?_⟩
 obtain⟨t,ht,hq⟩:=hbody A outer s H vs Q E (hr.deeper _) hsp
 have I:Inv (gS CX P w K mg base N qual scope f cdv A outer s H E) [] (start N vs) H s1:=uf S hr.hd e0 hl r x
 refine wpAny_mono (ht [] s1 (start N vs) H _ I hq) (fun fl s' hs=>?_) fun e s' hs=>hs
 have fin:∀ {σ':St} {H':Hp} {v:V} {u:Value},Inv (gS CX P w K mg base N qual scope f cdv A outer s H E) [] σ' H' s'→RelV v u→Q v H'→CE outer P w H s Q u s':=
  fun {σ' H' v u} J rv q=>⟨v,H',J.os,J.bare,J.base,J.hok,rv,q⟩
 cases fl with
 | ret u=>
  obtain⟨v,σ',H',J,rv,q⟩:=hs
  exact fin J rv q
 | next=>
  obtain⟨σ',H',J,q⟩:=hs
  exact fin (v:=V.non) (u:=Value.none) J rfl q
 | brk=>
  obtain⟨_,_,_,q⟩:=hs
  exact False.elim q
 | cont=>
  obtain⟨_,_,_,q⟩:=hs
  exact False.elim q
end L2
namespace L2
open PySem PySem.Spec PyProof.Rows
section
variable{X:Cx}{x:Str}{p pos:Pos}{e:Expr}{es:List Expr}{t:TA}{id T:String}{r:List V→Hp→VK→Prop}
def uy(r:List V→Hp→VK→Prop)(t:TA):TE:=fun σ H Q=>t σ H fun vs H1=>r vs H1 Q
theorem vQ(hc:CallR X (.builtin id) r)(hg:Gl X x)(hm:X.mg x=none)(hv:bootBuiltins x=some (.builtin id))(ha:PA X (e::es) t)(hn:x ≠ "__name__" := by decide) (hdb:(x == ("__debug__" : Str))=false:=by decide)
  (he:starEach (e::es) X.env=(false,eval e X.env)::starEach es X.env:=by rfl) (hpl:(backTo pos (starEach es X.env)).any (·.1)=false:=by rfl):PE X (.Call (.Name x p) (e::es) [] pos) (uy r t):=by
 intro pins s σ H Q I h
 refine wpAny_Call_Name_kw (ef I hg hm hv ?_ hn hdb)
 exact PyProof.Rows.callWith_builtin1 (bd (ha pos pins s σ H _ I h) fun us s1 ⟨vs,H1,I1,r1,q1⟩=>hc pins s1 σ H1 vs us Q I1 r1 q1) he hpl
theorem tW(hc:CallR X (.type T) r)(hg:Gl X x)(hm:X.mg x=none)(hv:bootBuiltins x=some (.type T))(ha:PA X (e::es) t)(hn:x ≠ "__name__" := by decide) (hdb:(x == ("__debug__" : Str))=false:=by decide)
  (he:starEach (e::es) X.env=(false,eval e X.env)::starEach es X.env:=by rfl) (hpl:(backTo pos (starEach es X.env)).any (·.1)=false:=by rfl):PE X (.Call (.Name x p) (e::es) [] pos) (uy r t):=by
 intro pins s σ H Q I h
 refine wpAny_Call_Name_kw (ef I hg hm hv ?_ hn hdb)
 exact PyProof.Rows.callWith_type1 (bd (ha pos pins s σ H _ I h) fun us s1 ⟨vs,H1,I1,r1,q1⟩=>hc pins s1 σ H1 vs us Q I1 r1 q1) he hpl
end
end L2
namespace HT
open PySem PyProof.Rows
section
open PySem.SeqAt
open PySem.AutoSeq1 (wpAny_loadPart')
open PySem.MeetsSeq PySem.MeetsSeq2 PySem.MeetsSeq3
end
section
variable{prog:Program}{w:World}{A:Around}{E:Value→Shared→Prop}{s:Shared}
theorem cat_tup{t b:Addr}{vs ws:List Value}{Q:Value→Shared→Prop}(ht:IsTup s.heap t vs.toArray)(hb:IsTup s.heap b ws.toArray)(hv:vs≠[])
  (h1:ws=[]→Q (.ref t) s) (h2:ws≠[]→Q (.ref s.heap.objs.size) { s with heap:=s.heap.push { cls:=.type "tuple", data:=.seq (vs++ws).toArray } })
  (hsz:vs.length+ws.length≤sizeLine):wpAny (model prog w) A (binaryOp .Add (.ref t) (.ref b)) Q E s:=by
 obtain⟨⟨cls,dd,data,sl⟩,ho,hc,n,hd⟩:=id ht
 obtain⟨⟨cls2,dd2,data2,sl2⟩,ho2,hc2,n2,hd2⟩:=id hb
 simp only at hc hd hc2 hd2
 subst hc hd hc2 hd2
 have e:vs.toArray++ws.toArray=(vs++ws).toArray:=by simp
 by_cases hw:ws=[]
 ·exact concat_meets ⟨_,ho,rfl⟩ ⟨_,ho2,rfl⟩ noFill_tuple_add seq_tuple_add PySem.F.slot_tuple_add PySem.F.entry_tuple_add (PySem.F.args_tuple_add_2 _ _)
   (tuple_addW1 t b vs.toArray ws.toArray n n2 dd dd2 sl sl2 (by simpa using hv) (by simp[hw])) ⟨ho,ho2,h1 hw⟩
 ·refine concat_meets ⟨_,ho,rfl⟩ ⟨_,ho2,rfl⟩ noFill_tuple_add seq_tuple_add PySem.F.slot_tuple_add PySem.F.entry_tuple_add (PySem.F.args_tuple_add_2 _ _)
   (tuple_addW2 t b vs.toArray ws.toArray n n2 dd dd2 sl sl2 (by simpa using hv) (by simpa using hw) (by rw[List.size_toArray,List.size_toArray]; exact hsz)) ⟨ho,ho2,?_⟩
  rw[e]
  exact h2 hw
def sIx(n d:Nat):Option Int→Nat
 | none=>d
 | some v=>if v<0 then (v+(n:Int)).toNat else min v.toNat n
theorem sIx_none(n d:Nat):sIx n d none=d:=rfl
theorem sIx_nat(n d k:Nat):sIx n d (some (k:Int))=min k n:=by
 show (if (k:Int)<0 then ((k:Int)+(n:Int)).toNat else min (k:Int).toNat n)=min k n
 rw[if_neg (by omega),Int.toNat_natCast]
theorem sIx_le(n d:Nat)(hd:d≤n)(o:Option Int):sIx n d o≤n:=by
 cases o with
 | none=>exact hd
 | some v=>
  show (if v<0 then (v+(n:Int)).toNat else min v.toNat n)≤n
  by_cases hv:v<0
  ·rw[if_pos hv]; omega
  ·rw[if_neg hv]; exact Nat.min_le_right _ _
theorem pG(v:Int)(n d:Nat):(if v<0 then max (v+(n:Int)) 0 else min v (n:Int))=((sIx n d (some v):Nat):Int):=by
 show (if v<0 then max (v+(n:Int)) 0 else min v (n:Int))=(((if v<0 then (v+(n:Int)).toNat else min v.toNat n):Nat):Int)
 by_cases hv:v<0
 ·simp only[if_pos hv]; omega
 ·simp only[if_neg hv]; omega
theorem rS(lo hi:Option Int)(n:Nat):Builtin.Slice.sliceAdjust lo hi 1 (n:Int)=(((sIx n 0 lo:Nat):Int),((sIx n n hi:Nat):Int)):=by
 have h1:¬ ((1:Int)<0):=by omega
 unfold Builtin.Slice.sliceAdjust
 simp only[h1,if_false]
 refine Prod.ext ?_ ?_
 ·cases lo with
  | none=>rfl
  | some v=>exact pG v n 0
 ·cases hi with
  | none=>rfl
  | some v=>exact pG v n n
theorem sx(i j:Nat):Builtin.Slice.slicePlaces (i:Int) (j:Int) 1=j - i:=by
 unfold Builtin.Slice.slicePlaces
 have h1:(1:Int)>0:=by omega
 simp only[h1,if_true,Int.ediv_one]
 split <;> omega
theorem jx{v:Value}{o:Option Int}{Q:Option Int→Shared→Prop}(p:IsPart v o)(h:Q o s):wpAny (model prog w) A (Builtin.Slice.slicePartIndex v) Q E s:=by
 cases p with
 | none=>exact slicePart_none h
 | int i t=>exact slicePart_int h
theorem sliceApplied_gen{sl:Addr}{vl vu:Value}{lo hi:Option Int}{n:Nat}{Q:Int × Int × Nat→Shared→Prop}(hs:s.heap.IsSliceOf sl vl vu .none)(pl:IsPart vl lo)(pu:IsPart vu hi)
  (h:Q (((sIx n 0 lo:Nat):Int),1,sIx n n hi - sIx n 0 lo) s):wpAny (model prog w) A (Builtin.Slice.sliceApplied (.ref sl) (pure (n:Int))) Q E s:=by
 obtain⟨os,hos,hcs,hds⟩:=id hs
 unfold Builtin.Slice.sliceApplied Builtin.Slice.sliceFields
 refine wpAny_bind (wpAny_bind (wpAny_field hos hds (x:=vl) rfl (wpAny_bind (wpAny_field hos hds (x:=vu) rfl (wpAny_bind (wpAny_field hos hds (x:=.none) rfl (wpAny_pure ?_)))))))
 refine wpAny_bind (slicePart_none ?_)
 show wpAny _ _ (if ((1:Int) == 0)=true then _ else _) _ _ s
 rw[if_neg (by decide)]
 refine wpAny_bind (jx pl (wpAny_bind (jx pu (wpAny_bind (wpAny_pure ?_)))))
 show wpAny _ _ (match Builtin.Slice.sliceAdjust lo hi 1 (n:Int) with | (lo,hi)=>pure (lo,(1:Int),Builtin.Slice.slicePlaces lo hi 1)) _ _ s
 rw[rS lo hi n]
 show wpAny _ _ (pure (((sIx n 0 lo:Nat):Int),(1:Int),Builtin.Slice.slicePlaces ((sIx n 0 lo:Nat):Int) ((sIx n n hi:Nat):Int) 1)) _ _ s
 rw[sx]
 exact wpAny_pure h
theorem uZ(xs:Array Value)(i k:Nat):((List.range k).filterMap fun (m:Nat)=>xs[((i:Int)+(m:Int) * 1).toNat]?).toArray=((xs.toList.drop i).take k).toArray:=by
 have e:(fun (m:Nat)=>xs[((i:Int)+(m:Int) * 1).toNat]?)=fun m=>xs[i+m]?:=by
  funext m
  have:((i:Int)+(m:Int) * 1).toNat=i+m:=by omega
  rw[this]
 rw[e]
 have:=pick_run xs i k
 rw[List.filterMap_map]at this
 have e2:((fun x=>xs[x]?) ∘ fun x=>i+x)=fun m=>xs[i+m]?:=rfl
 rw[e2]at this
 rw[this]
theorem getItem_tuple_cut{t sl:Addr}{items:Array Value}{vl vu:Value}{lo hi:Option Int}{Q:Value→Shared→Prop}(ht:IsTup s.heap t items)(hs:s.heap.IsSliceOf sl vl vu .none)(pl:IsPart vl lo)(pu:IsPart vu hi)
  (hw:¬ (sIx items.size 0 lo=0∧sIx items.size items.size hi=items.size))
  (h:Q (.ref s.heap.objs.size) { s with heap:=s.heap.push { cls:=.type "tuple", data:=.seq ((items.toList.drop (sIx items.size 0 lo)).take (sIx items.size items.size hi - sIx items.size 0 lo)).toArray } })
  (hsz:items.size≤sizeLine):wpAny (model prog w) A (getItem (.ref t) (.ref sl)) Q E s:=by
 have htake:sizeOk (.seq ((items.toList.drop (sIx items.size 0 lo)).take (sIx items.size items.size hi - sIx items.size 0 lo)).toArray):=by
  show ((items.toList.drop (sIx items.size 0 lo)).take (sIx items.size items.size hi - sIx items.size 0 lo)).toArray.size≤sizeLine
  rw[List.size_toArray,List.length_take,List.length_drop,Array.length_toList]
  omega
 have hj:sIx items.size items.size hi≤items.size:=sIx_le _ _ (Nat.le_refl _) hi
 obtain⟨os,hos,hcs,hds⟩:=id hs
 have hTs:s.TypeIs (.ref sl) "slice" := ⟨os,hos,hcs⟩
 unfold getItem
 try with_reducible refine wpAny_holding ?_
 first | refine wpAny_bind (wpAny_pure ?_) | skip
 refine wpAny_bind (wpAny_sequenceKey ht.typeIs (by decide) ?_)
 refine wpAny_bind (wpAny_callSpecial?_slot (name:=Str.ofString "__getitem__") ht.typeIs PyProof.Rows.slot_tuple_getitem
  (wpAny_call_entry PyProof.Rows.slot_tuple_getitem ht.typeIs entry_tuple_getitem ?_ (args_tuple_getitem _ _)))
 show wpAny _ _ (Builtin.Tuple.tupleItemsOf (.ref t) >>= _) _ _ s
 refine wpAny_bind (tupleItemsOf_ ht ?_)
 refine wpAny_bind (wpAny_typeOf hTs ?_)
 rw[if_pos (by decide)]
 refine wpAny_bind (sliceApplied_gen hs pl pu ?_)
 have hno:¬ ((((sIx items.size 0 lo:Nat):Int) == 0&&(1:Int) == 1&&(sIx items.size items.size hi - sIx items.size 0 lo) == items.size)=true):=by
  intro q
  rw[Bool.and_eq_true,Bool.and_eq_true]at q
  have q1:((sIx items.size 0 lo:Nat):Int)=0:=eq_of_beq q.1.1
  have q2:sIx items.size items.size hi - sIx items.size 0 lo=items.size:=eq_of_beq q.2
  exact hw ⟨by omega,by omega⟩
 show wpAny _ _ (if (((sIx items.size 0 lo:Nat):Int) == 0&&(1:Int) == 1&&(sIx items.size items.size hi - sIx items.size 0 lo) == items.size)=true then _ else _) _ _ s
 rw[if_neg hno,uZ]
 first
  | exact wpAny_bind (m:=Builtin.Tuple.tupleExact _) (wpAny_newObj_type (wpAny_pure ⟨_,rfl,wpAny_pure h⟩) htake)
  | exact wpAny_bind (m:=Builtin.Tuple.tupleExact _) (wpAny_newObj_type (wpAny_bind (wpAny_pure (wpAny_pure ⟨_,rfl,wpAny_pure h⟩))) htake)
  | exact wpAny_bind (wpAny_bind (m:=Builtin.Tuple.tupleExact _) (wpAny_newObj_type (wpAny_pure (wpAny_pure ⟨_,rfl,wpAny_pure h⟩)) htake))
  | exact wpAny_bind (wpAny_bind (m:=Builtin.Tuple.tupleExact _) (wpAny_newObj_type (wpAny_pure ⟨_,rfl,wpAny_pure h⟩) htake))
end
end HT
namespace L2
open PySem PySem.Spec PyProof.Rows
abbrev TO:=St→Hp→(Option Int→Hp→Prop)→Prop
def PO(X:Cx)(e:Option Expr)(t:TO):Prop:=
 ∀ (pins:List (Addr × Obj)) (s:Shared) (σ : St) (H:Hp) (Q:Option Int→Hp→Prop),Inv X pins σ H s→t σ H Q→
  wpAny (model X.prog X.w) X.A (evalPart e X.env) (fun u s'=>∃ o H',Inv X pins σ H' s'∧IsPart u o∧Q o H') X.xe s
def pL:TO:=fun _ H Q=>Q none H
def wJ(t:TE):TO:=fun σ H Q=>t σ H fun x H1=>∃ i,x = .int i∧Q (some i) H1
section
variable{X:Cx}{e:Expr}{te:TE}{lo hi:Option Expr}{tl th:TO}{pos p2:Pos}
theorem cQ:PO X none pL:=by
 intro pins s σ H Q I h
 rw[evalPart_none]
 exact wpAny_pure ⟨none,H,I,.none,h⟩
theorem cn(h:PE X e te):PO X (some e) (wJ te):=by
 intro pins s σ H Q I hw
 rw[evalPart_some]
 refine bd (h pins s σ H _ I hw) fun u s1 ⟨x,H1,I1,r1,q1⟩=>?_
 obtain⟨i,rfl,q⟩:=q1
 obtain⟨t,rfl⟩:=r1
 exact⟨some i,H1,I1,.int i t,q⟩
def SlR(X:Cx)(r:V→Option Int→Option Int→Hp→VK→Prop):Prop:=
 ∀ (pins:List (Addr × Obj)) (s:Shared) (σ : St) (H:Hp) (x:V) (v vl vu:Value) (lo hi:Option Int) (sl:Addr) (Q:VK),Inv X pins σ H s→RelV x v→s.heap.IsSliceOf sl vl vu .none→IsPart vl lo→IsPart vu hi→r x lo hi H Q→
  ∃ T id,typeLookup (.type T) "__getitem__" = pure (some (.builtin id))∧s.TypeIs v T∧wpAny (model X.prog X.w) X.A (getItem v (.ref sl)) (EP X pins σ Q) X.xe s
def AU(r:V→Option Int→Option Int→Hp→VK→Prop)(te:TE)(tl th:TO):TE:=fun σ H Q=>te σ H fun x H1=>tl σ H1 fun l H2=>th σ H2 fun u H3=>r x l u H3 Q
theorem ck{r:V→Option Int→Option Int→Hp→VK→Prop}(hr:SlR X r)(he:PE X e te)(hl:PO X lo tl)(hu:PO X hi th):PE X (.Subscript e (.Slice lo hi none p2) pos) (AU r te tl th):=by
 intro pins s σ H Q I h
 refine Subscript_ (bd (he pins s σ H _ I h) fun v s1 ⟨x,H1,I1,r1,q1⟩=>?_)
 refine wpAny_Slice (bd (hl pins s1 σ H1 _ I1 q1) fun vl s2 ⟨l,H2,I2,pl,q2⟩=>bd (hu pins s2 σ H2 _ I2 q2) fun vu s3 ⟨u,H3,I3,pu,q3⟩=>?_)
 rw[evalPart_none]
 refine wpAny_pure ?_
 have I4:Inv X pins σ H3 { s3 with heap:=s3.heap.push { cls:=.type "slice", data:=.fields #[vl,vu,.none] } }:=I3.kept (t':=s3.toks) fun b ob q=>Heap.get?_push_of_some _ q
 obtain⟨T,id,hT,ht,hg⟩:=hr pins { s3 with heap:=s3.heap.push { cls:=.type "slice", data:=.fields #[vl,vu,.none] } } σ H3 x v vl vu l u s3.heap.objs.size Q I4 r1 (Heap.IsSliceOf.new ..) pl pu q3
 show wpAny (model X.prog X.w) X.A (subscriptTail e (.Slice lo hi none p2) v (.ref s3.heap.objs.size)) (EP X pins σ Q) X.xe { s3 with heap:=s3.heap.push { cls:=.type "slice", data:=.fields #[vl,vu,.none] } }
 exact tail_any (ops:=[.ref s3.heap.objs.size,v]) ht hT hg (by with_unfolding_all rfl)
def dg(xs:List V)(lo hi:Option Int):List V:=(xs.drop (HT.sIx xs.length 0 lo)).take (HT.sIx xs.length xs.length hi - HT.sIx xs.length 0 lo)
theorem iI(xs:List V)(lo hi:Option Int):(dg xs lo hi).length≤xs.length:=by
 unfold dg
 rw[List.length_take,List.length_drop]
 omega
def CY(K:PySem.W.Frag):V→Option Int→Option Int→Hp→VK→Prop:=fun x lo hi H Q=>∃ a xs,x = .ref a∧SqT K H a xs∧
 ¬ (HT.sIx xs.length 0 lo=0∧HT.sIx xs.length xs.length hi=xs.length)∧∀ p,H p=none→Q (.ref p) (upd H p (.tup (dg xs lo hi)))
theorem zE:SlR X (CY X.K):=by
 intro pins s σ H x v vl vu lo hi sl Q I rx hs pl pu h
 obtain⟨a,xs,rfl,hx,hw,q⟩:=h
 cases rx
 obtain⟨its,r,ht,hz⟩:=I.tuple hx
 have hlen:its.toArray.size=xs.length:=by rw[List.size_toArray]; exact r.length.symm
 refine⟨"tuple", _,PyProof.Rows.slot_tuple_getitem.lookup,ht.typeIs,?_⟩
 refine HT.getItem_tuple_cut ht hs pl pu (by rw[hlen]; exact hw) ?_ (by rw[hlen]; exact hz)
 rw[hlen]
 refine⟨.ref s.heap.objs.size,_,I.laid (t':=s.toks) (o:=.tup (dg xs lo hi)) (fun b ob q=>Heap.get?_push_of_some _ q) (Nat.le_refl _) ?_,rfl,q _ (I.hok.fresh (Nat.le_refl _))⟩
 exact⟨Nat.le_trans (iI xs lo hi) hz,_,(r.drop (HT.sIx xs.length 0 lo)).take (HT.sIx xs.length xs.length hi - HT.sIx xs.length 0 lo),IsTupN.new _ _⟩
def qM(K:PySem.W.Frag):R2:=fun x y H Q=>∃ a b xs ys,x = .ref a∧y = .ref b∧SqT K H a xs∧SqT K H b ys∧xs≠[]∧xs.length+ys.length≤sizeLine∧
 (ys=[]→Q (.ref a) H)∧(ys≠[]→∀ p,H p=none→Q (.ref p) (upd H p (.tup (xs++ys))))
theorem Vals.nil_iff{xs:List V}{us:List Value}(r:Vals xs us):us=[] ↔ xs=[]:=by
 cases r with
 | nil=>simp
 | cons _ _=>simp
theorem xu:OpR X (binaryOp .Add) (qM X.K):=by
 intro pins s σ H x y v u Q I rx ry h
 obtain⟨a,b,xs,ys,rfl,rfl,ha,hb,hx,hz,q1,q2⟩:=h
 cases rx
 cases ry
 obtain⟨its,r1,p1,_⟩:=I.tuple ha
 obtain⟨its2,r2,p2,_⟩:=I.tuple hb
 refine HT.cat_tup p1 p2 (fun z=>hx (r1.nil_iff.mp z)) (fun z=>⟨.ref a,H,I,rfl,q1 (r2.nil_iff.mp z)⟩) (fun z=>?_) (by rw[← r1.length,← r2.length]; exact hz)
 refine⟨.ref s.heap.objs.size,_,I.laid (t':=s.toks) (o:=.tup (xs++ys)) (fun b ob q=>Heap.get?_push_of_some _ q) (Nat.le_refl _) ?_,rfl,q2 (fun w=>z (r2.nil_iff.mpr w)) _ (I.hok.fresh (Nat.le_refl _))⟩
 exact⟨by rw[List.length_append]; exact hz,_,r1.append r2,IsTupN.new _ _⟩
end
end L2
namespace L2
open PySem PySem.Spec PyProof.Rows
def gH(n:Nat)(i:Int):Option Nat:=if 0≤i then (if i<n then some i.toNat else none) else if -(n:Int)≤i then some (i+n).toNat else none
def cY{α : Type}(xs:List α)(i:Int):Option α:=(gH xs.length i).bind fun j=>xs[j]?
theorem xK{n:Nat}{i:Int}{j:Nat}(h:gH n i=some j):seqIndex? i n=some j∧j<n∧-(n:Int)≤i∧i<n:=by
 unfold gH at h
 by_cases h0:0≤i
 ·rw[if_pos h0]at h
  by_cases h1:i<n
  ·rw[if_pos h1]at h
   have e:i.toNat=j:=Option.some.inj h
   exact⟨by rw[seqIndex_of h0 h1,e],by omega,by omega,h1⟩
  ·rw[if_neg h1]at h; cases h
 ·rw[if_neg h0]at h
  by_cases h1:-(n:Int)≤i
  ·rw[if_pos h1]at h
   have e:(i+n).toNat=j:=Option.some.inj h
   exact⟨by rw[seqIndex_neg (by omega) h1,e],by omega,h1,by omega⟩
  ·rw[if_neg h1]at h; cases h
theorem jU{α : Type}{xs:List α}{i:Int}{v:α}(h:cY xs i=some v):∃ j,seqIndex? i xs.length=some j∧xs[j]? = some v∧j<xs.length∧-(xs.length:Int)≤i∧i<xs.length:=by
 unfold cY at h
 cases e:gH xs.length i with
 | none=>rw[e]at h; cases h
 | some j=>
  rw[e]at h
  obtain⟨h1,h2,h3,h4⟩:=xK e
  exact⟨j,h1,h,h2,h3,h4⟩
theorem bM{α : Type}{xs:List α}{j:Nat}{v:α}(h:xs[j]? = some v):cY xs (j:Int)=some v:=by
 have hj:j<xs.length:=(List.getElem?_eq_some_iff.mp h).1
 have e:gH xs.length (j:Int)=some j:=by
  unfold gH
  rw[if_pos (by omega),if_pos (by omega)]; simp
 unfold cY; rw[e]; exact h
def xD(b:Expr):Prop:=∀ o i,subscripted b false o i=operate [o,i] (getItem o i)
def IxR(X:Cx)(r:R2):Prop:=
 ∀ (value slice:Expr) (pins:List (Addr × Obj)) (s:Shared) (σ : St) (H:Hp) (x y:V) (v u:Value) (Q:VK),Inv X pins σ H s→RelV x v→RelV y u→r x y H Q→
  subscripted slice false v u=operate [v,u] (getItem v u)→wpAny (model X.prog X.w) X.A (subscriptTail value slice v u) (EP X pins σ Q) X.xe s
def MtR(X:Cx)(id:String)(r:V→List V→Hp→VK→Prop):Prop:=
 ∀ (pins:List (Addr × Obj)) (s:Shared) (σ : St) (H:Hp) (x:V) (xs:List V) (v:Value) (us:List Value) (Q:VK),Inv X pins σ H s→RelV x v→Vals xs us→r x xs H Q→
  wpAny (model X.prog X.w) X.A (call (.builtin id) (v::us)) (EP X pins σ Q) X.xe s
section
variable{X:Cx}{a b:Expr}{ta tb:TE}{pos:Pos}
theorem IxR.or{r r':R2}(h:IxR X r)(h':IxR X r'):IxR X (fun x y H Q=>r x y H Q∨r' x y H Q):=by
 intro value slice pins s σ H x y v u Q I rx ry q hs
 rcases q with q | q
 ·exact h value slice pins s σ H x y v u Q I rx ry q hs
 ·exact h' value slice pins s σ H x y v u Q I rx ry q hs
theorem aI{r:R2}(hr:IxR X r)(ha:PE X a ta)(hb:PE X b tb)(hs:xD b):PE X (.Subscript a b pos) (uL r ta tb):=by
 intro pins s σ H Q I h
 exact Subscript_ (v5 ha hb I h fun v u s2 x y H2 I2 rx ry q=>hr a b pins s2 σ H2 x y v u Q I2 rx ry q (hs _ _))
def Ac(K:PySem.W.Frag):R2:=fun x y H Q=>∃ p xs i v,x = .ref p∧y = .int i∧SqL K H p xs∧cY xs i=some v∧Q v H
def yt(K:PySem.W.Frag):R2:=fun x y H Q=>∃ p xs i v,x = .ref p∧y = .int i∧SqT K H p xs∧cY xs i=some v∧Q v H
def yU:R2:=fun x y H Q=>∃ z i c,x = .str z∧y = .int i∧z.length≤sizeLine∧cY z.cps.toList i=some c∧Q (.str ⟨#[c]⟩) H
theorem ix_list:IxR X (Ac X.K):=by
 intro value slice pins s σ H x y v u Q I rx ry h hs
 obtain⟨p,xs,i,z,rfl,rfl,hq,he,q⟩:=h
 cases rx
 obtain⟨t,rfl⟩:=ry
 obtain⟨its,r,pl,hz⟩:=I.list hq
 obtain⟨j,h1,h2,h3,h4,h5⟩:=jU he
 obtain⟨w,ew,rw'⟩:=r.get h2
 have hl:=r.length
 have hn:=g0
 have fin:EP X pins σ Q w s:=⟨z,H,I,rw',q⟩
 by_cases h0:0≤i
 ·have hj:i.toNat=j:=by
   rw[seqIndex_of h0 h5]at h1
   exact Option.some.inj h1
  exact item_listR pl.isList h0 (by omega) (by rw[hj]; simpa using ew) fin hs
 ·have hj:(i+(its.toArray.size:Int)).toNat=j:=by
   rw[seqIndex_neg (by omega) h4]at h1
   rw[List.size_toArray,← hl]
   exact Option.some.inj h1
  exact subscriptTail_builtinR (x:=w) pl.isList.typeIs slot_list_getitem.lookup
   (wpAny_getItem_list_neg (Q:=fun r s'=>r=w∧EP X pins σ Q r s') pl.isList (by omega) (by rw[List.size_toArray] <;> omega) (by omega) (by rw[hj]; simpa using ew) ⟨rfl,fin⟩) hs
theorem ix_tup:IxR X (yt X.K):=by
 intro value slice pins s σ H x y v u Q I rx ry h hs
 obtain⟨p,xs,i,z,rfl,rfl,hq,he,q⟩:=h
 cases rx
 obtain⟨t,rfl⟩:=ry
 obtain⟨its,r,pl,hz⟩:=I.tuple hq
 obtain⟨j,h1,h2,h3,h4,h5⟩:=jU he
 obtain⟨w,ew,rw'⟩:=r.get h2
 have hl:=r.length
 have hn:=g0
 have fin:EP X pins σ Q w s:=⟨z,H,I,rw',q⟩
 exact subscriptTail_builtinR (x:=w) pl.typeIs slot_tuple_getitem.lookup
  (getItem_tuple (j:=j) (Q:=fun r s'=>r=w∧EP X pins σ Q r s') pl (by omega) (by omega) (by rw[List.size_toArray,← hl]; exact h1) (by simpa using ew) ⟨rfl,fin⟩) hs
theorem Ae:IxR X yU:=by
 intro value slice pins s σ H x y v u Q I rx ry h hs
 obtain⟨z,i,c,rfl,rfl,hz,he,q⟩:=h
 obtain⟨t,rfl⟩:=rx
 obtain⟨t',rfl⟩:=ry
 obtain⟨j,h1,h2,h3,h4,h5⟩:=jU he
 have hl:z.cps.toList.length=z.length:=by simp[Str.length]
 rw[hl]at h1 h4 h5
 have hn:=g0
 exact tail_any (typeIs_str s z t) slot_str_getitem.lookup (getItem_str (c:=c) (by
  have e1:decide (i < -(2 ^ 63:Int))=false:=decide_eq_false (by omega)
  have e2:decide (i≥2 ^ 63)=false:=decide_eq_false (by omega)
  rw[e1,e2,Bool.or_false]) (by rw[h1]; simpa using h2) ⟨.str ⟨#[c]⟩,H,I.tok _,⟨_,rfl⟩,q⟩) hs
def Em(K:PySem.W.Frag):R2:=fun x y H Q=>Ac K x y H Q∨yt K x y H Q∨yU x y H Q
theorem zN:IxR X (Em X.K):=ix_list.or (ix_tup.or Ae)
theorem gT(lo hi:Option Int)(n:Nat):(sliceBounds lo hi none n).1=((HT.sIx n 0 lo:Nat):Int)∧(sliceBounds lo hi none n).2.1=((HT.sIx n n hi:Nat):Int)∧(sliceBounds lo hi none n).2.2=1:=by
 refine⟨?_,?_,rfl⟩
 ·cases lo with
  | none=>simp[sliceBounds,HT.sIx]
  | some i=>
   simp only[sliceBounds,HT.sIx,Option.getD_none,show (1:Int)>0 by decide,if_true]
   by_cases h:i<0
   ·simp only[h,if_true] <;> omega
   ·simp only[h,if_false] <;> omega
 ·cases hi with
  | none=>simp[sliceBounds,HT.sIx]
  | some i=>
   simp only[sliceBounds,HT.sIx,Option.getD_none,show (1:Int)>0 by decide,if_true]
   by_cases h:i<0
   ·simp only[h,if_true] <;> omega
   ·simp only[h,if_false] <;> omega
theorem lV(its:List Value)(lo hi:Option Int):slicePick its.toArray lo hi none=((its.drop (HT.sIx its.length 0 lo)).take (HT.sIx its.length its.length hi - HT.sIx its.length 0 lo)).toArray:=by
 obtain⟨h1,h2,h3⟩:=gT lo hi its.toArray.size
 unfold slicePick
 rw[h1,h2,h3]
 simp only[sliceRange_one,pick_run,List.size_toArray] <;> rfl
def va(K:PySem.W.Frag):V→Option Int→Option Int→Hp→VK→Prop:=fun x lo hi H Q=>∃ a xs,x = .ref a∧SqL K H a xs∧∀ p,H p=none→Q (.ref p) (upd H p (.lst (dg xs lo hi)))
theorem xX:SlR X (va X.K):=by
 intro pins s σ H x v vl vu lo hi sl Q I rx hs pl pu h
 obtain⟨a,xs,rfl,hx,q⟩:=h
 cases rx
 obtain⟨its,r,ht,hz⟩:=I.list hx
 have hlen:=r.length
 refine⟨"list", _,slot_list_getitem.lookup,ht.isList.typeIs,?_⟩
 refine wpAny_getItem_list_slice ht.isList hs pl pu .none (by simp) ?_ (by rw[List.size_toArray] <;> omega)
 rw[lV,← hlen]
 refine⟨.ref s.heap.objs.size,_,I.laid (t':=s.toks) (o:=.lst (dg xs lo hi)) (fun b ob q=>Heap.get?_push_of_some _ q) (Nat.le_refl _) ?_,rfl,q _ (I.hok.fresh (Nat.le_refl _))⟩
 exact⟨Nat.le_trans (iI xs lo hi) hz,_,0,(r.drop (HT.sIx xs.length 0 lo)).take (HT.sIx xs.length xs.length hi - HT.sIx xs.length 0 lo),Heap.get?_push_size _ rfl⟩
def dC:V→Bool
 | .non=>true
 | .bl _=>true
 | .int _=>true
 | .str _=>true
 | _=>false
def iH:V→V→Bool
 | .non,.non=>true
 | .bl a,.bl b=>a == b
 | .bl a,.int b=>(if a then 1 else 0) == b
 | .int a,.bl b=>a == (if b then 1 else 0)
 | .int a,.int b=>a == b
 | .str a,.str b=>a == b
 | _,_=>false
theorem oC{A:Around}{s:Shared}{y x:V}{u v:Value}(ry:RelV y u)(rx:RelV x v)(fy:dC y=true)(fx:dC x=true):SeqAt.EqAt A s u v (iH y x):=by
 cases y with
 | non=>
  cases ry
  cases x with
  | non=>cases rx; exact SeqAt.EqAt.same _
  | bl b=>cases rx; exact SeqAt.EqAt.none_bool b
  | int b=>obtain⟨t,rfl⟩:=rx; exact SeqAt.EqAt.none_int b t
  | str b=>obtain⟨t,rfl⟩:=rx; exact SeqAt.EqAt.none_str b t
  | _=>exact absurd (show false=true from fx) Bool.false_ne_true
 | bl a=>
  cases ry
  cases x with
  | non=>cases rx; exact SeqAt.EqAt.bool_none a
  | bl b=>cases rx; exact SeqAt.EqAt.bool_bool a b
  | int b=>obtain⟨t,rfl⟩:=rx; exact SeqAt.EqAt.bool_int a b t
  | str b=>obtain⟨t,rfl⟩:=rx; exact SeqAt.EqAt.bool_str a b t
  | _=>exact absurd (show false=true from fx) Bool.false_ne_true
 | int a=>
  obtain⟨t',rfl⟩:=ry
  cases x with
  | non=>cases rx; exact SeqAt.EqAt.int_none a t'
  | bl b=>cases rx; exact SeqAt.EqAt.int_bool a t' b
  | int b=>obtain⟨t,rfl⟩:=rx; exact SeqAt.EqAt.int_int a t' b t
  | str b=>obtain⟨t,rfl⟩:=rx; exact SeqAt.EqAt.int_str a t' b t
  | _=>exact absurd (show false=true from fx) Bool.false_ne_true
 | str a=>
  obtain⟨t',rfl⟩:=ry
  cases x with
  | non=>cases rx; exact SeqAt.EqAt.str_none a t'
  | bl b=>cases rx; exact SeqAt.EqAt.str_bool a t' b
  | int b=>obtain⟨t,rfl⟩:=rx; exact SeqAt.EqAt.str_int a t' b t
  | str b=>obtain⟨t,rfl⟩:=rx; exact SeqAt.EqAt.str_str a t' b t
  | _=>exact absurd (show false=true from fx) Bool.false_ne_true
 | _=>exact absurd (show false=true from fy) Bool.false_ne_true
theorem mQ:CallR X (.builtin "len") (fun xs H Q=>∃ p ys,xs=[.ref p]∧(SqL X.K H p ys∨SqT X.K H p ys)∧Q (.int ys.length) H):=by
 intro pins s σ H xs us Q I r h
 obtain⟨p,ys,rfl,hq,q⟩:=h
 obtain⟨u,rfl,rx⟩:=dB r
 cases rx
 have hn:=g0
 rcases hq with hq | hq
 ·obtain⟨its,r',pl,hz⟩:=I.list hq
  have hlen:=r'.length
  exact Calls.call_len_list pl.isList (by simp only[List.size_toArray] <;> omega) ⟨.int ys.length,H,I.tok _,⟨s.toks+1,by rw[List.size_toArray,hlen]⟩,q⟩
 ·obtain⟨its,r',pl,hz⟩:=I.tuple hq
  have hlen:=r'.length
  exact len_tuple pl (by simp only[List.size_toArray] <;> omega) ⟨.int ys.length,H,I.tok _,⟨s.toks+1,by rw[List.size_toArray,hlen]⟩,q⟩
theorem oO:CallR X (.builtin "len") (fun xs H Q=>∃ z,xs=[.str z]∧z.length≤sizeLine∧Q (.int z.length) H):=by
 intro pins s σ H xs us Q I r h
 obtain⟨z,rfl,hz,q⟩:=h
 obtain⟨u,rfl,t,rfl⟩:=dB r
 have hn:=g0
 exact len_str (by omega) ⟨.int z.length,H,I.tok _,⟨_,rfl⟩,q⟩
theorem lR:CallR X (.type "tuple") (fun xs H Q=>∃ p ys,xs=[.ref p]∧((SqL X.K H p ys∧∀ l,H l=none→Q (.ref l) (upd H l (.tup ys)))∨(SqT X.K H p ys∧Q (.ref p) H))):=by
 intro pins s σ H xs us Q I r h
 obtain⟨p,ys,rfl,h⟩:=h
 obtain⟨u,rfl,rx⟩:=dB r
 cases rx
 rcases h with ⟨hq,q⟩ | ⟨hq,q⟩
 ·obtain⟨its,r',pl,hz⟩:=I.list hq
  have hlen:=r'.length
  refine call_tuple_list pl.isList (fun h' kp=>?_) (by simp only[List.size_toArray] <;> omega)
  have I1:Inv X pins σ H { s with heap:=h' }:=I.kept (t':=s.toks) kp
  have I2:Inv X pins σ (upd H h'.objs.size (.tup ys)) { s with heap:=h'.push { cls:=.type "tuple", data:=.seq its.toArray } }:=
   I1.laid (t':=s.toks) (fun b o e=>Heap.get?_push_of_some _ e) (Nat.le_refl _) (show ObjOk X.prog X.w _ _ _ (.tup ys) from ⟨hz,its,r',IsTupN.new _ _⟩)
  exact⟨.ref h'.objs.size,_,I2,rfl,q _ (I1.hok.fresh (Nat.le_refl _))⟩
 ·obtain⟨its,r',pl,hz⟩:=I.tuple hq
  exact call_tuple_same pl ⟨.ref p,H,I,rfl,q⟩
def ny(K:PySem.W.Frag)(T:String)(x:V)(H:Hp):Prop:=match x with
 | .str _=>T = "str"
 | .int _=>T = "int"
 | .ref p=>(T = "list" ∧ ∃ xs,SqL K H p xs)∨(T = "tuple" ∧ ∃ o,K.lookup p=some o∧o.cls = .type "tuple" ∧ o.dict=none)∨
   (T = "dict" ∧ ((∃ kvs,H p=some (.dK kvs))∨∃ kvs,H p=some (.dT kvs)))∨(T = "set" ∧ ∃ S n,H p=some (.set S n))
 | _=>False
theorem uE{pins:List (Addr × Obj)}{σ : St}{H:Hp}{s:Shared}{T:String}{x:V}{v:Value}(I:Inv X pins σ H s)(r:RelV x v)(ty:ny X.K T x H) :
  s.TypeIs v T∧∀ a,v = .ref a→∃ ob,s.heap.get? a=some ob∧ob.dict=none:=by
 cases x with
 | str z=>
  obtain⟨t,rfl⟩:=r
  cases (show T = "str" from ty)
  exact⟨typeIs_str s z t,fun _ e=>nomatch e⟩
 | int i=>
  obtain⟨t,rfl⟩:=r
  cases (show T = "int" from ty)
  exact⟨typeIs_int s i t,fun _ e=>nomatch e⟩
 | ref p=>
  cases r
  rcases ty with ⟨rfl,xs,hq⟩ | ⟨rfl,o,hk,hc,hd⟩ | ⟨rfl,hk⟩ | ⟨rfl,S,n,hk⟩
  ·obtain⟨its,_,pl,_⟩:=I.list hq
   refine⟨pl.isList.typeIs,fun a e=>?_⟩
   cases e
   obtain⟨o,n,e,c,hd,_⟩:=pl
   exact⟨o,e,hd⟩
  ·refine⟨⟨o,I.kIn p o hk,hc⟩,fun a e=>?_⟩
   cases e
   exact⟨o,I.kIn _ o hk,hd⟩
  ·have z:∃ o,s.heap.get? p=some o∧o.ExactDict:=by
    rcases hk with ⟨kvs,hk⟩ | ⟨kvs,hk⟩
    ·obtain⟨_,_,_,_,o,_,_,e,ex,_⟩:=I.hok p _ hk
     exact⟨o,e,ex⟩
    ·obtain⟨_,_,_,_,o,_,_,e,ex,_⟩:=I.hok p _ hk
     exact⟨o,e,ex⟩
   obtain⟨o,e,ex⟩:=z
   refine⟨⟨o,e,ex.1⟩,fun a e2=>?_⟩
   cases e2
   exact⟨o,e,ex.2.1⟩
  ·obtain⟨o,_,_,_,e,ex,_⟩:=I.hok p _ hk
   refine⟨⟨o,e,ex.1⟩,fun a e2=>?_⟩
   cases e2
   exact⟨o,e,ex.2.1⟩
 | _=>exact False.elim ty
def vL(K:PySem.W.Frag)(T:String)(r:V→List V→Hp→VK→Prop)(to:TE):TE:=fun σ H Q=>to σ H fun x H1=>ny K T x H1∧r x [] H1 Q
def yY(K:PySem.W.Frag)(T:String)(r:V→List V→Hp→VK→Prop)(to:TE)(t:TA):TE:=fun σ H Q=>to σ H fun x H1=>ny K T x H1∧t σ H1 fun xs H2=>r x xs H2 Q
variable{o e:Expr}{es:List Expr}{to:TE}{t:TA}{name:Str}{apos cpos:Pos}{T id:String}{r:V→List V→Hp→VK→Prop}
theorem Ag(pa:PlainAttrs T)(slot:Slot T name id)(hty:typeOf (.builtin id)=pure (.type "method_descriptor")) (hm:MtR X id r) (ho:PE X o to)
  (hbase:attributeBase o name X.env (eval o X.env)=eval o X.env:=by rfl) (hline:(apos.endLine == cpos.line)=true:=by rfl):PE X (.Call (.Attribute o name apos) [] [] cpos) (vL X.K T r to):=by
 intro pins s σ H Q I h
 refine wpAny_Call_method0_late hbase hline (bd (ho pins s σ H _ I h) fun v s1 ⟨x,H1,I1,r1,ty,q1⟩=>?_)
 obtain⟨h1,h2⟩:=uE I1 r1 ty
 exact⟨T,id,pa,slot,hty,h1,h2,Calls.callWith_builtin rfl (PySem.evalArgs_none (hm pins s1 σ H1 x [] v [] Q I1 r1 .nil q1))⟩
theorem AE(pa:PlainAttrs T)(slot:Slot T name id)(hty:typeOf (.builtin id)=pure (.type "method_descriptor")) (hm:MtR X id r) (ho:PE X o to) (ha:PA X (e::es) t)
  (hbase:attributeBase o name X.env (eval o X.env)=eval o X.env:=by rfl)
  (hfew:((backTo cpos (starEach (e::es) X.env)).all (fun x=>!x.1)&&(backToKw cpos (keywordEach [] X.env)).all (fun x=>x.1.isSome)
   && decide ((e::es).length+([]:List Keyword).length+(if ([]:List Keyword).isEmpty then 0 else 1)<30))=true:=by rfl)
  (hline:(apos.endLine == cpos.line)=true:=by rfl) (hs:starEach (e::es) X.env=(false,eval e X.env)::starEach es X.env:=by rfl) (hplain:(backTo cpos (starEach es X.env)).any (·.1)=false:=by rfl) :
  PE X (.Call (.Attribute o name apos) (e::es) [] cpos) (yY X.K T r to t):=by
 intro pins s σ H Q I h
 refine wpAny_Call_method_late hbase hfew hline rfl (bd (ho pins s σ H _ I h) fun v s1 ⟨x,H1,I1,r1,ty,q1⟩=>?_)
 obtain⟨h1,h2⟩:=uE I1 r1 ty
 refine⟨T,id,pa,slot,hty,h1,h2,?_⟩
 have hA:=ha cpos pins s1 σ H1 _ I1 q1
 rw[hs]at hA ⊢
 refine Calls.callWith_builtin (by show (false||(backTo cpos (starEach es X.env)).any (·.1))=false; rw[hplain] <;> rfl) (Calls.evalArgs_plain ?_)
 exact bd hA fun us s2 ⟨vs,H2,I2,r2,q2⟩=>hm pins s2 σ H2 x vs v us Q I2 r1 r2 q2
/- xs.append(e), list.index on a module's tuple .. are MtR facts of 06m -/
end
end L2
namespace L2
open PySem PySem.Spec PyProof.Rows
def yN(X:Cx)(id:String)(r:V→List V→Hp→VK→Prop):Prop:=
 ∀ (pins:List (Addr × Obj)) (s:Shared) (σ : St) (H:Hp) (x:V) (xs:List V) (v:Value) (us:List Value) (Q:VK),Inv X pins σ H s→RelV x v→Vals xs us→r x xs H Q→
  wpAny (model X.prog X.w) X.A (call (.builtin id) (v::us)) (EP X pins σ Q) X.xe s
theorem Vals.one:∀ {x:V} {us:List Value},Vals [x] us→∃ u,us=[u]∧RelV x u
 | _,_,.cons r .nil=>⟨_,rfl,r⟩
theorem Vals.zero:∀ {us:List Value},Vals [] us→us=[]
 | _,.nil=>rfl
theorem Vals.dropLast{xs:List V}{us:List Value}(h:Vals xs us):Vals xs.dropLast us.dropLast:=by
 induction h with
 | nil=>exact .nil
 | cons r t ih=>
  cases t with
  | nil=>exact .nil
  | cons q t'=>exact .cons r ih
theorem sv{α : Type}(l:List α):l.eraseIdx (l.length - 1)=l.dropLast:=by
 induction l with
 | nil=>rfl
 | cons a r ih=>
  cases r with
  | nil=>rfl
  | cons b r=>
   have e:(a::b::r).length - 1=((b::r).length - 1)+1:=by
    have h1:(a::b::r).length=r.length+2:=rfl
    have h2:(b::r).length=r.length+1:=rfl
    omega
   rw[e,List.eraseIdx_cons_succ,ih]
   all_goals rfl
section
variable{X:Cx}{pins:List (Addr × Obj)}{σ : St}{H:Hp}{s:Shared}{l b:Addr}{xs ys zs:List V}
theorem Inv.lset{its its':List Value}{n:Nat}{f:Array Value→Array Value}{t':Nat}(I:Inv X pins σ H s)(hH:H l=some (.lst xs))
  (e:s.heap.get? l=some { cls:=.type "list", data:=.seq its.toArray n }) (hf:f its.toArray=its'.toArray) (hv:Vals ys its') (hz:ys.length≤sizeLine) :
  Inv X pins σ (upd H l (.lst ys)) { s with heap:=s.heap.update l (Obj.mapSeq f),toks:=t' }:=by
 have q:=PySem.IsL.update e f
 rw[hf]at q
 refine I.write (x:=l) (e:=l) (by rw[hH]; exact trivial) (.inl rfl) (fun b' u hb hu=>(Heap.get?_update_other s.heap (Obj.mapSeq f) (Ne.symm hb)).trans hu) ⟨_,q⟩ ?_
 exact⟨hz,its',_,hv,q⟩
theorem Inv.lnew{its:List Value}{t':Nat}(I:Inv X pins σ H s)(hv:Vals ys its)(hz:ys.length≤sizeLine) :
  Inv X pins σ (upd H s.heap.objs.size (.lst ys)) { s with heap:=s.heap.push { cls:=.type "list", data:=.seq its.toArray },toks:=t' }:=
 I.laid (fun _ _ q=>Heap.get?_push_of_some _ q) (Nat.le_refl _) ⟨hz,its,0,hv,Heap.get?_push_size _ rfl⟩
theorem Inv.fresh(I:Inv X pins σ H s):H s.heap.objs.size=none:=I.hok.fresh (Nat.le_refl _)
theorem Inv.lstM(I:Inv X pins σ H s)(hH:H l=some (.lst xs)):xs.length≤sizeLine∧∃ (its:List Value) (n:Nat),Vals xs its∧xs.length=its.length∧s.heap.get? l=some { cls:=.type "list", data:=.seq its.toArray n }:=by
 obtain⟨z,its,n,r,e⟩:=I.hok l _ hH
 exact⟨z,its,n,r,r.length,e⟩
theorem uX{n:Nat}(h:n≤sizeLine):Builtin.List.listTooLong n=false:=by
 unfold Builtin.List.listTooLong
 exact decide_eq_false (by omega)
end
section
variable{X:Cx}
def j8:V→List V→Hp→VK→Prop:=fun x vs H Q=>∃ l xs y,x = .ref l∧vs=[y]∧H l=some (.lst xs)∧xs.length<sizeLine∧Q .non (upd H l (.lst (xs++[y])))
theorem lv:yN X "list.append" j8:=by
 intro pins s σ H x vs v us Q I rx rv h
 obtain⟨l,xs,y,rfl,rfl,hH,hz,q⟩:=h
 cases rx
 obtain⟨u,rfl,ru⟩:=rv.one
 obtain⟨z,its,n,r,hl,e⟩:=I.lstM hH
 refine call_meets F.slot_list_append ⟨_,e,rfl⟩ F.entry_list_append (F.args_list_append_2 _ _) (PySem.list_append l its.toArray n u (by rw[List.size_toArray]; omega)) ⟨e,?_⟩
 refine⟨.non,_,I.lset (its':=its++[u]) hH e (by simp) (r.append (.cons ru .nil)) ?_,rfl,q⟩
 rw[List.length_append,List.length_singleton]
 omega
def jQ:V→List V→Hp→VK→Prop:=fun x vs H Q=>∃ l b xs zs,x = .ref l∧vs=[.ref b]∧H l=some (.lst xs)∧H b=some (.lst zs)∧xs.length+zs.length≤sizeLine∧Q .non (upd H l (.lst (xs++zs)))
theorem tG:yN X "list.extend" jQ:=by
 intro pins s σ H x vs v us Q I rx rv h
 obtain⟨l,b,xs,zs,rfl,rfl,hH,hB,hz,q⟩:=h
 cases rx
 obtain⟨u,rfl,ru⟩:=rv.one
 cases ru
 obtain⟨z,its,n,r,hl,e⟩:=I.lstM hH
 obtain⟨z2,its2,n2,r2,hl2,e2⟩:=I.lstM hB
 have hsz:its.toArray.size+its2.toArray.size≤sizeLine:=by rw[List.size_toArray,List.size_toArray]; omega
 have hlong:¬ (!its.toArray.isEmpty&&Builtin.List.listTooLong (its.toArray.size+its2.toArray.size))=true:=by
  rw[uX hsz,Bool.and_false]
  exact Bool.false_ne_true
 refine call_meets F.slot_list_extend ⟨_,e,rfl⟩ F.entry_list_extend (F.args_list_extend_2 _ _)
  (AutoSeq1.list_extend_list_list_0 l its.toArray n b its2.toArray n2 hlong (by rw[List.size_toArray]; omega) (by omega)) ⟨e,e2,?_⟩
 refine⟨.non,_,I.lset (its':=its++its2) hH e (by simp) (r.append r2) ?_,rfl,q⟩
 rw[List.length_append]
 omega
def vz:V→List V→Hp→VK→Prop:=fun x vs H Q=>∃ l xs y,x = .ref l∧vs=[]∧H l=some (.lst xs)∧xs[xs.length - 1]? = some y∧Q y (upd H l (.lst xs.dropLast))
theorem zR:yN X "list.pop" vz:=by
 intro pins s σ H x vs v us Q I rx rv h
 obtain⟨l,xs,y,rfl,rfl,hH,hy,q⟩:=h
 cases rx
 have hus:=rv.zero
 subst hus
 obtain⟨z,its,n,r,hl,e⟩:=I.lstM hH
 obtain⟨u,hu,ru⟩:=r.get hy
 have hy':its.toArray[its.toArray.size - 1]? = some u:=by
  show its.toArray[its.length - 1]? = some u
  rw[← Array.getElem?_toList,← hl]
  exact hu
 refine call_meets F.slot_list_pop ⟨_,e,rfl⟩ F.entry_list_pop (F.args_list_pop_1 _) (MeetsSeq.list_pop_last l its.toArray n u hy' (by rw[List.size_toArray]; omega)) ⟨e,?_⟩
 refine⟨y,_,I.lset (its':=its.dropLast) hH e ?_ r.dropLast ?_,ru,q⟩
 ·show its.toArray.eraseIdxIfInBounds (its.toArray.size - 1)=its.dropLast.toArray
  rw[List.size_toArray,List.eraseIdxIfInBounds_toArray,sv]
 ·rw[List.length_dropLast]
  omega
def Bd:R2:=fun x y H Q=>∃ l b xs zs,x = .ref l∧y = .ref b∧H l=some (.lst xs)∧H b=some (.lst zs)∧xs.length+zs.length≤sizeLine∧∀ p,H p=none→Q (.ref p) (upd H p (.lst (xs++zs)))
theorem zH:OpR X (binaryOp .Add) Bd:=by
 intro pins s σ H x y v u Q I rx ry h
 obtain⟨l,b,xs,zs,rfl,rfl,hH,hB,hz,q⟩:=h
 cases rx
 cases ry
 obtain⟨z,its,n,r,hl,e⟩:=I.lstM hH
 obtain⟨z2,its2,n2,r2,hl2,e2⟩:=I.lstM hB
 refine PySem.P.add_list e e2 ?_ (by rw[List.size_toArray,List.size_toArray]; omega)
 have ea:its.toArray++its2.toArray=(its++its2).toArray:=by simp
 rw[ea]
 exact⟨.ref _,_,I.lnew (t':=s.toks) (r.append r2) (by rw[List.length_append]; omega),rfl,q _ I.fresh⟩
end
section
variable{prog:Program}{w:World}{A:Around}{E:Value→Shared→Prop}{s:Shared}
end
section
variable{X:Cx}
end
end L2
namespace L2
open PySem PySem.Spec PyProof.Rows
section
variable{κ : Type}[DecidableEq κ]
def bT(kvs:List (κ × V))(k:κ):Option V:=(kvs.find? fun kv=>decide (kv.1=k)).map (·.2)
def cS(kvs:List (κ × V))(k:κ)(v:V):List (κ × V):=
 if (kvs.any fun kv=>decide (kv.1=k))=true then kvs.map (fun kv=>if kv.1=k then (kv.1,v) else kv) else kvs++[(k,v)]
theorem cL{p:κ × V}{r:List (κ × V)}{k:κ}(e:p.1=k):bT (p::r) k=some p.2:=by simp[bT,List.find?_cons,e]
theorem cM{p:κ × V}{r:List (κ × V)}{k:κ}(e:¬ p.1=k):bT (p::r) k=bT r k:=by simp[bT,List.find?_cons,e]
theorem fH(k:κ):∀ kvs:List (κ × V),(kvs.any fun kv=>decide (kv.1=k))=(bT kvs k).isSome
 | []=>rfl
 | p::r=>by
  rw[List.any_cons]
  by_cases e:p.1=k
  ·simp only[cL e,decide_eq_true e,Bool.true_or,Option.isSome_some]
  ·rw[cM e,decide_eq_false e,Bool.false_or]; exact fH k r
theorem nO(k j:κ)(y:V):∀ kvs:List (κ × V),bT (kvs.map fun kv=>if kv.1=k then (kv.1,y) else kv) j=(bT kvs j).map fun x=>if j=k then y else x
 | []=>rfl
 | p::r=>by
  have ih:=nO k j y r
  rw[List.map_cons]
  by_cases h:p.1=k
  ·rw[if_pos h]
   by_cases e:p.1=j
   ·rw[cL (p:=(p.1,y)) e,cL e,Option.map_some,if_pos (e.symm.trans h)]
   ·rw[cM (p:=(p.1,y)) e,cM e,ih]
  ·rw[if_neg h]
   by_cases e:p.1=j
   ·rw[cL (p:=p) e,cL e,Option.map_some,if_neg (fun z=>h (e.trans z))]
   ·rw[cM (p:=p) e,cM e,ih]
theorem lr(k j:κ)(y:V):∀ kvs:List (κ × V),bT kvs k=none→bT (kvs++[(k,y)]) j=if j=k then some y else bT kvs j
 | [],_=>by
  by_cases e:k=j
  ·rw[if_pos e.symm]; exact cL (p:=(k,y)) e
  ·rw[if_neg (fun z=>e z.symm)]; exact cM (p:=(k,y)) e
 | p::r,hn=>by
  rw[List.cons_append]
  have hk:¬ p.1=k:=fun z=>by rw[cL z]at hn; cases hn
  rw[cM hk]at hn
  have ih:=lr k j y r hn
  by_cases e:p.1=j
  ·rw[cL e,cL e,if_neg (fun z=>hk (e.trans z))]
  ·rw[cM e,cM e,ih]
theorem oH(kvs:List (κ × V))(k j:κ)(y:V):bT (cS kvs k y) j=if j=k then some y else bT kvs j:=by
 unfold cS
 by_cases a:(kvs.any fun kv=>decide (kv.1=k))=true
 ·rw[if_pos a,nO]
  rw[fH]at a
  by_cases e:j=k
  ·obtain⟨x,hx⟩:=Option.isSome_iff_exists.mp a
   rw[if_pos e,e,hx,Option.map_some,if_pos rfl]
  ·rw[if_neg e]
   cases bT kvs j with
   | none=>rfl
   | some x=>rw[Option.map_some,if_neg e]
 ·rw[if_neg a]
  refine lr k j y kvs ?_
  rw[fH]at a
  cases q:bT kvs k with
  | none=>rfl
  | some x=>rw[q]at a; exact(a rfl).elim
theorem iK(kvs:List (κ × V))(k:κ)(v:V):(cS kvs k v).length≤kvs.length+1:=by
 unfold cS
 split
 ·rw[List.length_map]; omega
 ·rw[List.length_append,List.length_cons,List.length_nil]; omega
theorem vn{kvs:List (κ × V)}{k:κ}(v:V)(h:bT kvs k=none):cS kvs k v=kvs++[(k,v)]:=by
 unfold cS
 rw[fH,h]
 exact if_neg (by decide)
theorem RelO.isSome_eq{o:Option V}{u:Option Value}(r:RelO o u):o.isSome=u.isSome:=by
 cases o with
 | none=>cases u with
  | none=>rfl
  | some _=>exact(show False from r).elim
 | some _=>cases u with
  | none=>exact(show False from r).elim
  | some _=>rfl
theorem RelO.getD{o:Option V}{u:Option Value}{d:V}{d':Value}(r:RelO o u)(rd:RelV d d'):RelV (o.getD d) (u.getD d'):=by
 cases o with
 | none=>cases u with
  | none=>exact rd
  | some _=>exact(show False from r).elim
 | some _=>cases u with
  | none=>exact(show False from r).elim
  | some _=>exact r
theorem KV.val{kvs:List (κ × V)}{vs:List (κ × Value)}(r:KV kvs vs)(k:κ):RelO (bT kvs k) (valueAt vs k):=by
 unfold KV at r
 induction r with
 | nil=>exact True.intro
 | @cons p q ps qs h t ih=>
  obtain⟨h1,h2⟩:=h
  by_cases e:p.1=k
  ·have e':q.1=k:=h1.symm.trans e
   have b:valueAt (q::qs) k=some q.2:=by simp[valueAt,List.find?_cons,e']
   rw[cL e,b]; exact h2
  ·have e':¬ q.1=k:=fun z=>e (h1.trans z)
   have b:valueAt (q::qs) k=valueAt qs k:=by simp[valueAt,List.find?_cons,e']
   rw[cM e,b]; exact ih
theorem KV.any{kvs:List (κ × V)}{vs:List (κ × Value)}(r:KV kvs vs)(k:κ):(kvs.any fun kv=>decide (kv.1=k))=vs.any fun kv=>decide (kv.1=k):=by
 unfold KV at r
 induction r with
 | nil=>rfl
 | cons h t ih=>rw[List.any_cons,List.any_cons,ih,h.1]
theorem KV.repl{kvs:List (κ × V)}{vs:List (κ × Value)}(r:KV kvs vs)(k:κ){y:V}{u:Value}(ry:RelV y u) :
  KV (kvs.map fun kv=>if kv.1=k then (kv.1,y) else kv) (vs.map fun kv=>if kv.1=k then (kv.1,u) else kv):=by
 unfold KV at r ⊢
 induction r with
 | nil=>exact .nil
 | @cons p q ps qs h t ih=>
  rw[List.map_cons,List.map_cons]
  refine .cons ?_ ih
  obtain⟨h1,h2⟩:=h
  by_cases e:p.1=k
  ·rw[if_pos e,if_pos (h1.symm.trans e)]; exact⟨h1,ry⟩
  ·rw[if_neg e,if_neg (fun z=>e (h1.trans z))]; exact⟨h1,h2⟩
theorem KV.put{kvs:List (κ × V)}{vs:List (κ × Value)}(r:KV kvs vs)(k:κ){y:V}{u:Value}(ry:RelV y u):KV (cS kvs k y) (stored vs k u):=by
 unfold cS stored
 rw[r.any k]
 by_cases e:(vs.any fun kv=>decide (kv.1=k))=true
 ·rw[if_pos e,if_pos e]; exact r.repl k ry
 ·rw[if_neg e,if_neg e]; exact Paired.snoc r ⟨rfl,ry⟩
theorem KV.length{kvs:List (κ × V)}{vs:List (κ × Value)}(r:KV kvs vs):kvs.length=vs.length:=Paired.length r
end
theorem ml{P:Program}{w:World}{k:aK}{u:Value}(r:RelV (kV k) u):(cG P w).is k u=true:=by
 cases k with
 | inl i=>obtain⟨t,e⟩:=(show ∃ t,u=Value.int i t from r); subst e; exact oZ P w i t
 | inr x=>obtain⟨t,e⟩:=(show ∃ t,u=Value.str x t from r); subst e; exact oV P w x t
theorem kO{P:Program}{w:World}:∀ {ks:List aK} {us:List Value},Vals (ks.map kV) us→ItemsAre (cG P w) ks us
 | [],_,r=>by rw[List.map_nil]at r; cases r; exact .nil
 | k::ks,_,r=>by
  rw[List.map_cons]at r
  cases r with
  | cons h t=>exact .cons (ml h) (kO t)
abbrev KT (H:Hp):List (List aK × V)→List (List aK × Addr × Value)→Prop:=Paired fun p q=>p.1=q.1∧H q.2.1=some (.tup (p.1.map kV))∧RelV p.2 q.2.2
theorem KT.val{H:Hp}{kvs:List (List aK × V)}{xs:List (List aK × Addr × Value)}(r:KT H kvs xs)(k:List aK):RelO (bT kvs k) ((atKey xs k).map (·.2)):=by
 induction r with
 | nil=>exact True.intro
 | @cons p q ps qs h t ih=>
  obtain⟨h1,_,h2⟩:=h
  by_cases e:p.1=k
  ·have e':q.1=k:=h1.symm.trans e
   have b:atKey (q::qs) k=some q.2:=by simp[atKey,List.find?_cons,e']
   rw[cL e,b]; exact h2
  ·have e':¬ q.1=k:=fun z=>e (h1.trans z)
   have b:atKey (q::qs) k=atKey qs k:=by simp[atKey,List.find?_cons,e']
   rw[cM e,b]; exact ih
theorem KT.repl{H:Hp}{kvs:List (List aK × V)}{xs:List (List aK × Addr × Value)}(r:KT H kvs xs)(k:List aK){y:V}{u:Value}(ry:RelV y u) :
  KT H (kvs.map fun kv=>if kv.1=k then (kv.1,y) else kv) (xs.map (putAt k u)):=by
 induction r with
 | nil=>exact .nil
 | @cons p q ps qs h t ih=>
  rw[List.map_cons,List.map_cons]
  refine .cons ?_ ih
  obtain⟨h1,h2,h3⟩:=h
  unfold putAt
  by_cases e:p.1=k
  ·rw[if_pos e,if_pos (h1.symm.trans e)]; exact⟨h1,h2,ry⟩
  ·rw[if_neg e,if_neg (fun z=>e (h1.trans z))]; exact⟨h1,h2,h3⟩
theorem KT.put{H:Hp}{kvs:List (List aK × V)}{xs:List (List aK × Addr × Value)}(r:KT H kvs xs)(k:List aK){b:Addr}{y:V}{u:Value}(hb:H b=some (.tup (k.map kV)))(ry:RelV y u) :
  KT H (cS kvs k y) (storedH xs k b u):=by
 have e:(kvs.any fun kv=>decide (kv.1=k))=(atKey xs k).isSome:=by
  rw[fH,(r.val k).isSome_eq,Option.isSome_map]
 unfold cS storedH
 rw[e]
 by_cases q:(atKey xs k).isSome=true
 ·rw[if_pos q,if_pos q]; exact r.repl k ry
 ·rw[if_neg q,if_neg q]; exact Paired.snoc r ⟨rfl,hb,ry⟩
theorem KT.keeps{H H':Hp}{kvs:List (List aK × V)}{xs:List (List aK × Addr × Value)}(r:KT H kvs xs)(ht:∀ b ys,H b=some (.tup ys)→H' b=some (.tup ys)):KT H' kvs xs:=
 Paired.mapP r fun _ _ z=>⟨z.1,ht _ _ z.2.1,z.2.2⟩
section
variable{P:Program}{w:World}{H:Hp}{h:Heap}{a:Addr}
theorem wB{u:HO}(ok:HOk P w H h)(e:Rd H a u):ObjOk P w H h a u:=e.ok ok
theorem jf{kvs:List (aK × V)}(ok:HOk P w H h)(e:Rd H a (.dK kvs)):kvs.length≤sizeLine∧(a == sysModules)=false∧∃ vs,KV kvs vs∧h.DictOf (cG P w) a vs:=
 show ObjOk P w H h a (.dK kvs) from wB ok e
theorem AI{kvs:List (aK × V)}(ok:HOk P w H h)(e:H a=some (.dK kvs)):kvs.length≤sizeLine∧(a == sysModules)=false∧∃ vs,KV kvs vs∧h.DictOf (cG P w) a vs:=jf ok (.inl e)
theorem mU{ks:List aK}(ok:HOk P w H h)(e:H a=some (.tup (ks.map kV))):(tupleKind (cG P w)).is h ks a:=by
 obtain⟨_,its,r,o,h1,h2,_,n,h3⟩:=(show ObjOk P w H h a (.tup (ks.map kV)) from ok a _ e)
 exact⟨o,its.toArray,n,h1,h2,h3,by simpa using kO r⟩
theorem wY{kvs:List (List aK × V)}(ok:HOk P w H h)(e:Rd H a (.dT kvs)):kvs.length≤sizeLine∧(a == sysModules)=false∧
  ∃ xs,KT H kvs xs∧h.DictOfH (tupleKind (cG P w)) a xs:=by
 obtain⟨z,y,xs,r,o,es,ep,h1,h2,h3,h4,h5⟩:=(show ObjOk P w H h a (.dT kvs) from wB ok e)
 refine⟨z,y,xs,r,o,es,ep,h1,h2,h3,h4,fun x hx=>?_,h5⟩
 have all:∀ {l:List (List aK × V)} {m:List (List aK × Addr × Value)},KT H l m→∀ x∈m,(tupleKind (cG P w)).is h x.1 x.2.1:=by
  intro l m q
  induction q with
  | nil=>intro x hx; exact nomatch hx
  | @cons p q ps qs hq t ih=>
   intro x hx
   rcases List.mem_cons.mp hx with e | hx
   ·subst e
    exact mU ok (by rw[← hq.1]; exact hq.2.1)
   ·exact ih x hx
 exact all r x hx
theorem Aq{kvs:List (List aK × V)}(ok:HOk P w H h)(e:H a=some (.dT kvs)):kvs.length≤sizeLine∧(a == sysModules)=false∧
  ∃ xs,KT H kvs xs∧h.DictOfH (tupleKind (cG P w)) a xs:=wY ok (.inl e)
end
def DGet(H:Hp)(a:Addr)(y:V)(r:Option V):Prop:=
 (∃ kvs k,Rd H a (.dK kvs)∧y=kV k∧r=bT kvs k)∨∃ kvs k b,Rd H a (.dT kvs)∧y = .ref b∧H b=some (.tup (k.map kV))∧r=bT kvs k
def DPut(H:Hp)(a:Addr)(y v:V)(H':Hp):Prop:=
 (∃ kvs k,H a=some (.dK kvs)∧y=kV k∧kvs.length<sizeLine∧H'=upd H a (.dK (cS kvs k v)))∨
 ∃ kvs k b,H a=some (.dT kvs)∧y = .ref b∧H b=some (.tup (k.map kV))∧kvs.length<sizeLine∧H'=upd H a (.dT (cS kvs k v))
theorem DGet.k{H:Hp}{a:Addr}{kvs:List (aK × V)}{k:aK}(e:H a=some (.dK kvs)):DGet H a (kV k) (bT kvs k):=.inl ⟨kvs,k,.inl e,rfl,rfl⟩
theorem DPut.k{H:Hp}{a:Addr}{kvs:List (aK × V)}{k:aK}{v:V}(e:H a=some (.dK kvs))(hl:kvs.length<sizeLine):DPut H a (kV k) v (upd H a (.dK (cS kvs k v))):=.inl ⟨kvs,k,e,rfl,hl,rfl⟩
section
variable{X:Cx}{pins:List (Addr × Obj)}{σ : St}{H:Hp}{s:Shared}{a:Addr}{y v:V}{u r:Value}{o:Option V}{A:Around}{E:Value→Shared→Prop}
theorem Inv.big(I:Inv X pins σ H s):sysModules<s.heap.objs.size:=by
 have h:mainGlobals<s.heap.objs.size:=(I.mod.glob.keeps I.bk).lt
 exact Nat.lt_trans (by decide) h
theorem CP{Q:Value→Shared→Prop}(hu:A.units+1<cLine)(I:Inv X pins σ H s)(g:DGet H a y o)(ry:RelV y u)(h:∀ s',Inv X pins σ H s'→Q (.bool o.isSome) s') :
  wpAny (model X.prog X.w) A (compareOp .In u (.ref a)) Q E s:=by
 rcases g with ⟨kvs,k,e,ey,l⟩ | ⟨kvs,k,b,e,ey,eb,l⟩
 ·subst ey
  obtain⟨z,hd,vs,rel,dd⟩:=jf I.hok e
  refine wpAny_in_of (ml ry) hd dd.mapOf ?_
  rw[← (rel.val k).isSome_eq,← l]
  exact h _ (I.tok _)
 ·subst ey
  cases (show u=Value.ref b from ry)
  obtain⟨z,hd,xs,rel,dd⟩:=wY I.hok e
  refine wpAny_in_heap (tupleKind_room_in1 hu) (mU I.hok eb) hd dd ?_
  have q:=(rel.val k).isSome_eq
  rw[Option.isSome_map]at q
  rw[← q,← l]
  exact h _ (I.tok _)
theorem qB{h':Heap}{t':Nat}{ob:HO}(I:Inv X pins σ H s)(mu:tw (H a))(hs:Heap.SameBut a s.heap h')(he:∃ q,h'.get? a=some q)(new:ObjOk X.prog X.w (upd H a ob) h' a ob) :
  Inv X pins σ (upd H a ob) { s with heap:=h',toks:=t' }:=
 I.write (x:=a) (e:=a) mu (.inl rfl) (fun b q hb z=>(hs.2 b hb).trans z) he new
theorem yZ{P:Program}{w:World}{H':Hp}{h':Heap}{kvs:List (aK × V)}{vs:List (aK × Value)}(z:kvs.length≤sizeLine)(hd:(a == sysModules)=false)(rel:KV kvs vs)(dd:h'.DictOf (cG P w) a vs) :
  ObjOk P w H' h' a (.dK kvs):=⟨z,hd,vs,rel,dd⟩
theorem sT{H':Hp}{Q:Unit→Shared→Prop}(hu:A.units+1<cLine)(I:Inv X pins σ H s)(g:DPut H a y v H')(ry:RelV y u)(rv:RelV v r)(h:∀ s',Inv X pins σ H' s'→Q () s') :
  wpAny (model X.prog X.w) A (setItem (.ref a) u r) Q E s:=by
 rcases g with ⟨kvs,k,e,ey,l,eH⟩ | ⟨kvs,k,b,e,ey,eb,l,eH⟩
 ·subst ey eH
  obtain⟨z,hd,vs,rel,dd⟩:=AI I.hok e
  have hz:vs.length≤sizeLine:=by rw[← rel.length]; exact z
  have hl:(cS kvs k v).length≤sizeLine:=by have:=iK kvs k v; omega
  refine wpAny_setItem_pairs (hsz:=hz) (ml ry) dd fun h' dd' hs=>h _ ?_
  have he:∃ q,h'.get? a=some q:=let ⟨q,_,_,hq,_⟩:=dd'; ⟨q,hq⟩
  exact qB I (by rw[e]; exact True.intro) hs he (yZ hl hd (rel.put k rv) dd')
 ·subst ey eH
  cases (show u=Value.ref b from ry)
  obtain⟨z,hd,xs,rel,dd⟩:=Aq I.hok e
  have hz:xs.length≤sizeLine:=by rw[← Paired.length rel]; exact z
  have hl:(cS kvs k v).length≤sizeLine:=by have:=iK kvs k v; omega
  refine wpAny_setItem_heap (hsz:=hz) (tupleKind_room_in1 hu) (mU I.hok eb) dd fun h' dd' hs=>h _ ?_
  obtain⟨q,es,ep,hq,h2,h3,h4,_,h5⟩:=dd'
  refine qB I (by rw[e]; exact True.intro) hs ⟨q,hq⟩ ⟨hl,hd,_,(rel.put k eb rv).keeps fun c ys ec=>?_,q,es,ep,hq,h2,h3,h4,h5⟩
  rw[af (cJ ec e (fun z=>nomatch z))]
  exact ec
end
section
variable{X:Cx}{pins:List (Addr × Obj)}{σ : St}{H:Hp}{s:Shared}{a:Addr}{kvs:List (aK × V)}{k:aK}{u:Value}{A:Around}{E:Value→Shared→Prop}
theorem Ax{Q:Value→Shared→Prop}(I:Inv X pins σ H s)(e:Rd H a (.dK kvs))(h:∀ t s',Inv X pins σ H s'→Q (.int kvs.length t) s'):wpAny (model X.prog X.w) A (call (.builtin "len") [.ref a]) Q E s:=by
 obtain⟨z,hd,vs,rel,dd⟩:=jf I.hok e
 refine call_len_dict hd dd (by rw[← rel.length]; rw[sizeLine_eq]at z; omega) ?_
 rw[← rel.length]
 exact h _ _ (I.tok _)
end
section
variable{X:Cx}{o i e value:Expr}{pos pos' tpos:Pos}{td ty tv:TE}
end
theorem vK{P:Program}{w:World}{H:Hp}(h:Heap)(hb:sysModules<h.objs.size):ObjOk P w H (h.push { cls:=.type "dict", data:=.dict #[] }) h.objs.size (.dK []):=
 ⟨Nat.zero_le _,beq_eq_false_iff_ne.mpr (Ne.symm (Nat.ne_of_lt hb)),[],.nil,Heap.DictOf.new h⟩
def zq:TE:=fun _ H Q=>∀ p,H p=none→Q (.ref p) (upd H p (.dK []))
section
variable{X:Cx}{pos:Pos}
theorem iU:PE X (.Dict [] [] pos) zq:=fun pins s σ H Q I h=>
 wpAny_Dict_empty ⟨.ref s.heap.objs.size,_,I.laid (a:=s.heap.objs.size) (o:=.dK []) (t':=s.toks) (fun _ _ q=>Heap.get?_push_of_some _ q) (Nat.le_refl _) (vK s.heap I.big),rfl,h _ (I.hok.fresh (Nat.le_refl _))⟩
end
def ie:List (TE × TE)→St→Hp→(List (V × V)→Hp→Prop)→Prop
 | [],_,H,Q=>Q [] H
 | (tk,tv)::r,σ,H,Q=>tk σ H fun x H1=>tv σ H1 fun y H2=>ie r σ H2 fun ps H3=>Q ((x,y)::ps) H3
abbrev VV:List (V × V)→List (Value × Value)→Prop:=Paired fun p q=>RelV p.1 q.1∧RelV p.2 q.2
def PPs(X:Cx)(pos:Pos)(keys:List (Option Expr))(values:List Expr)(trs:List (TE × TE)):Prop:=
 ∀ (pins:List (Addr × Obj)) (s:Shared) (σ : St) (H:Hp) (Q:List (V × V)→Hp→Prop),Inv X pins σ H s→ie trs σ H Q→
  wpAny (model X.prog X.w) X.A (evalPairs (pairTrees keys values X.env pos)) (fun vs s'=>∃ ps H',Inv X pins σ H' s'∧VV ps vs∧Q ps H') X.xe s
section
variable{X:Cx}{pins:List (Addr × Obj)}{σ : St}{H:Hp}{s:Shared}{a:Addr}{y d:V}{u r:Value}{o:Option V}{A:Around}{E:Value→Shared→Prop}
end
section
variable{X:Cx}{o e f:Expr}{apos cpos:Pos}{td ty tx:TE}
end
section
variable{X:Cx}{pins:List (Addr × Obj)}{σ : St}{H:Hp}{s:Shared}{a:Addr}{kvs:List (aK × V)}{A:Around}{E:Value→Shared→Prop}
end
section
variable{X:Cx}{pins:List (Addr × Obj)}{σ : St}{H:Hp}{s:Shared}{a:Addr}{y:V}{u:Value}{A:Around}{E:Value→Shared→Prop}
end
end L2
namespace Att
open PySem PySem.W PySem.Calls PyProof.Rows
theorem jy{P:Params}{h:Heap}:∀ (ns:List Int) (vs:List Value),WellAll P h vs (ns.map WData.int)→IntsAre vs ns:=by
 intro ns
 induction ns with
 | nil=>
  intro vs w
  rw[List.map_nil]at w
  cases w
  exact .nil
 | cons n ns ih=>
  intro vs w
  rw[List.map_cons]at w
  cases w with
  | cons a b=>
   cases a
   exact .cons _ _ (ih _ b)
theorem uJ{l:OpenLaw}{n:Nat}(hn:l.most=some n){P:Params}{h:Heap}{args:List WData}{vals:List Value}
  (hpre:l.row.toRowW.claim.pre args=true) (hwl:WellAll P h vals args) :
  ∃ a vs ns,vals=[Value.ref a]∧args=[WData.list (ns.map WData.int)]∧h.get? a=some { cls:=.type "list", data:=.seq vs.toArray }∧IntsAre vs ns∧ns.length≤n:=by
 have hsh:WShape.hasAll [] args [.list .int]=true:=(pre_splitW hpre).1
 have hc:l.pre.holds [] { args:=args }=true:=(pre_splitW hpre).2
 obtain⟨d,r,rfl,h1,h2⟩:=hasAllW_cons hsh
 obtain rfl:=hasAllW_nil h2
 obtain⟨xs,rfl,h3⟩:=hasW_list h1
 obtain⟨ns,rfl⟩:=items_int h3
 have hlen:ns.length≤n:=by
  unfold OpenLaw.pre at hc
  have h4:(WTm.not (.lt (.lit (.int (n:Int))) (.len (.arg 0)))).holds [] { args:=[.list (ns.map .int)] }=true:=by
   have h4:=(holds_andW hc).1
   rw[hn]at h4
   exact h4
  have h5:=condW_of h4 (w_not (w_lt w_lit (w_len_list (w_arg rfl))))
  rw[List.length_map]at h5
  refine Nat.le_of_not_lt fun q=>?_
  have q':(n:Int)<((ns.length:Nat):Int):=by omega
  first
   | (rw[decide_eq_true q']at h5; exact absurd h5 (by decide))
   | (simp at h5; omega)
 cases hwl with
 | cons w1 w2=>
  cases w2
  cases w1 with
  | list ho hall=>exact⟨_,_,ns,rfl,rfl,ho,jy ns _ hall,hlen⟩
theorem uB(l:OpenLaw)(args:List WData):l.row.toRowW.claim.post args (.bool true) args=true:=
 postW_of (r:=l.row.toRowW) (X:=(true == true))
  (show WShape.has [] (.bool true) .bool=true by first | rfl | decide | simp[WShape.has,WShape.arms,WShape.armsAll])
  (show (WTm.eq .res (.lit (.bool true))).value [] { args:=args,res:=some (.bool true),after:=args }=some (.bool (true == true)) from w_eq_bool (w_res rfl) w_lit) rfl
theorem attach_call{l:OpenLaw}{n:Nat}{q:Program}{loose:List Str}{XP:(Str→Option Value)→Heap→Prop}{YP:World→Heap→Prop}{d:DefRec}
  (hn:l.most=some n) (hdf:d.params.defaults=[])
  (call:∀ (w:World) (s₀ s₁:Shared) (mg mb:Str→Option Value) (fa:Addr) (o:Obj) (pm cd doc:Value) (a:Addr) (vs:List Value) (ns:List Int),
   Ground q loose [] XP w s₀ mg mb s₁.heap→YP w s₁.heap→
   s₁.heap.get? fa=some o→o.data = .func (docDef d.name d.params d.body d.scope pm cd doc)→s₁.heap.CodeRec cd d.name→mg d.name=some (.ref fa)→
   s₁.heap.get? a=some { cls:=.type "list", data:=.seq vs.toArray }→IntsAre vs ns→ns.length≤n→s₁.gens = #[]→
   codeAny (model l.prog w) callerA (.call (.ref fa) ⟨[.ref a],[]⟩) (fun r s'=>r = .ok (.ret (.bool true))∧OldK s₁.heap s'.heap∧s'.os=s₁.os∧AllBare s'.gens) s₁) :
  WalkO q loose XP YP l.row.toRowW d [] (fun f vs=>PySem.call f vs):=by
 intro w s₀ s₁ mg mb G Y fa o pm cd doc dV kV ho hd hcd hD hmg hg args vals as hpre hlay hrd hwl hlo
 obtain rfl:dV = .none:=Dflts.none hD hdf
 obtain rfl:kV = .none:=Dflts.noKw hD
 obtain⟨a,vs,ns,rfl,rfl,hobj,hints,hlen⟩:=uJ hn hpre hwl
 refine enter_call (codeAny_mono (call w s₀ s₁ mg mb fa o pm cd doc a vs ns G Y ho (fd_plain hd) hcd hmg hobj hints hlen hg) fun r s' hq=>?_)
 obtain⟨rfl,h2,h3,h4⟩:=hq
 exact⟨.inl ⟨.bool true,.bool true,[],rfl,fun _=>rfl,.bool true,uB l _,fun _=>⟨List.Pairwise.nil,fun _ hm=>(nomatch hm)⟩⟩,h2,h3,h4⟩
section
variable{prog:Program}{w:World}{A:Around}{E:Value→Shared→Prop}{s:Shared}{K:Frag}
end
end Att
namespace L2
open PySem PySem.Spec PyProof.Rows
theorem lO:∀ {vs:List Value} {ns:List Int},IntsAre vs ns→Vals (ns.map V.int) vs
 | _,_,.nil=>.nil
 | _,_,.cons n t h=>.cons ⟨t,rfl⟩ (lO h)
def we(H:Hp):Prop:=∀ b,H b=none∨∃ o xs,H b=some (.frz o (.lst xs))
theorem vC{P:Program}{w:World}{K:PySem.W.Frag}{mg mb:Str→Option Value}{CX:fZ}{k:Nat}{fa a:Addr}{fd:FuncData}{x:Str}{sp:Sp}{s₁:Shared}{vs:List Value}{ns:List Int}
  (KX:K.In s₁.heap) (hns:s₁.heap.Ns mainGlobals mg) (hb:s₁.heap.Ns builtinsNs mb) (hbb:∀ x:Str,x ≠ "__name__" → mb x=bootBuiltins x) (hlim:s₁.heap.NoLimit) (hg:s₁.gens = #[])
  (ha:s₁.heap.get? a=some { cls:=.type "list", data:=.seq vs.toArray }) (hi:IntsAre vs ns) (hl:ns.length≤sizeLine) (hr:Room k callerA)
  (F:∀ base:Heap,K.In base→base.Ns mainGlobals mg→FnOk P w K mg base CX k fa fd [x] sp) (hbind:∀ (s:Shared) (u:Value),BindsTo s fd ⟨[u],[]⟩ [(x,u)])
  (hsp:∀ H:Hp,we H→SqL K H a (ns.map V.int)→sp [.ref a] H (fun v _=>v = .bl true) fun _ _ _=>False)
  (hCX:∀ H e s',CX [] H s₁ (fun _ _ _=>False) e s'→False) :
  codeAny (model P w) callerA (.call (.ref fa) ⟨[.ref a],[]⟩) (fun r s'=>r = .ok (.ret (.bool true))∧OldK s₁.heap s'.heap∧s'.os=s₁.os∧AllBare s'.gens) s₁:=by
 have rv:=lO hi
 have lenV:=hi.length
 -- from an abstract heap in which nothing but the script may be tracked
 have core:∀ H:Hp,we H→SqL K H a (ns.map V.int)→HOk P w H s₁.heap→(∀ b,H b≠none→b=a)→(H a≠none→K.lookup a=none)→
   codeAny (model P w) callerA (.call (.ref fa) ⟨[.ref a],[]⟩) (fun r s'=>r = .ok (.ret (.bool true))∧OldK s₁.heap s'.heap∧s'.os=s₁.os∧AllBare s'.gens) s₁:=by
  intro H hO hS hok hA hK
  have base_of:∀ {b:Addr} {o:Obj},s₁.heap.get? b=some o→H b=none→(gn s₁.heap H).get? b=some o:=fun e n=>uM e n
  have noA:∀ {b:Addr} {o:Obj} {es:Array DictEntry} {ep:Nat},s₁.heap.get? b=some o→o.data = .dict es ep→H b=none:=fun {b o es ep} e d=>by
   cases q:H b with
   | none=>rfl
   | some u=>
    have e':b=a:=hA b (by rw[q]; simp)
    subst e'
    rw[ha]at e; cases e
    have d':Data.seq vs.toArray _=Data.dict es ep:=d
    cases d'
  have nsK:∀ {b:Addr} {m:Str→Option Value},s₁.heap.Ns b m→(gn s₁.heap H).Ns b m:=fun {b m} ⟨o,es,ep,e,d,r⟩=>⟨o,es,ep,base_of e (noA e d),d,r⟩
  have hKb:K.In (gn s₁.heap H):=fun b o e=>base_of (KX b o e) (by
   cases q:H b with
   | none=>rfl
   | some u=>
    have e':b=a:=hA b (by rw[q]; simp)
    subst e'
    rw[hK (by rw[q]; simp)]at e; cases e)
  have hM:Mod K mg (gn s₁.heap H):=⟨hKb,nsK hns,⟨mb,nsK hb,hbb⟩,let ⟨mc,h1,h2⟩:=hlim; ⟨mc,nsK h1,h2⟩⟩
  have e0:Env0 P w K mg (gn s₁.heap H) callerA [] s₁ H:=⟨rfl,hM,fun b o e=>xY e,Nat.le_of_eq (tI _ _),trivial,fun b hb=>absurd (show b∈([]:List Addr) from hb) (by simp),hok,.of_eq hg⟩
  refine codeAny_mono ((F _ hKb (nsK hns)).run callerA [] s₁ H ⟨[.ref a],[]⟩ [.ref a] [.ref a] _ _ hr e0 (hbind s₁ (.ref a)) (.cons rfl .nil) (hsp H hO hS)) fun r s' h=>?_
  cases r with
  | error e=>exact(hCX H e s' h).elim
  | ok fl=>
   cases fl with
   | next=>exact False.elim h
   | brk=>exact False.elim h
   | cont=>exact False.elim h
   | ret u=>
    obtain⟨v,H',os,bare,un,hok',r',q⟩:=h
    have q':v = .bl true:=q
    subst q'
    obtain rfl:u=Value.bool true:=r'
    refine⟨rfl,OldK.of_keep fun b o e=>?_,os,bare⟩
    cases q:H b with
    | none=>exact un.keep b o e q (by intro z; exact absurd (show b∈([]:List Addr) from z) (by simp)) (by simp)
    | some u=>
     rcases hO b with z | ⟨ob,xs,z⟩
     ·rw[q]at z; cases z
     ·have z2:=un.frzs b ob _ z
      obtain⟨e1,_⟩:=hok b _ z
      obtain⟨e2,_⟩:=hok' b _ z2
      rw[e]at e1; cases e1
      exact e2
 cases hk:K.lookup a with
 | some o=>
  -- the script is one of the module's own objects
  have e:=KX a o hk
  rw[ha]at e
  cases e
  refine core (fun _=>none) (fun _=>.inl rfl) (.inr ⟨_,vs.toArray,_,hk,rfl,rfl,rfl,by rw[List.size_toArray,lenV]; exact hl,by simpa using rv⟩) (fun b u z=>by have z':(none:Option HO)=some u:=z; cases z') (fun b z=>absurd rfl z) fun z=>absurd rfl z
 | none=>
  refine core (fun b=>if b=a then some (.frz { cls:=.type "list", data:=.seq vs.toArray } (.lst (ns.map V.int))) else none) (fun b=>?_) (.inl (.inr ⟨{ cls:=.type "list", data:=.seq vs.toArray },if_pos rfl⟩)) (fun b u z=>?_) (fun b z=>?_) fun _=>hk
  ·by_cases hb:b=a
   ·exact .inr ⟨_,_,if_pos hb⟩
   ·exact .inl (if_neg hb)
  ·by_cases hb:b=a
   ·have z':=(if_pos hb).symm.trans z
    cases z'
    subst hb
    exact⟨ha,by rw[List.length_map]; exact hl,vs,_,rv,ha⟩
   ·have z':=(if_neg hb).symm.trans z
    cases z'
  ·by_cases hb:b=a
   ·exact hb
   ·exact absurd (if_neg hb) z
end L2
namespace L2
open PySem PySem.Spec PyProof.Rows
abbrev KOf {K:PySem.W.Frag} {h:Heap} (_:K.In h):PySem.W.Frag:=K
theorem walk_of{l:PySem.W.OpenLaw}{n k:Nat}{q:Program}{loose:List Str}{XP:(Str→Option Value)→Heap→Prop}{YP:World→Heap→Prop}{d:DefRec}{K:Params→PySem.W.Frag}{CX:World→fZ}{sp:World→Sp}{x:Str}
  (hn:l.most=some n) (hn2:n≤sizeLine) (hdf:d.params.defaults=[]) (hr:Room k callerA)
  (hY:∀ (w:World) (h:Heap),YP w h→(K w.params).In h)
  (F:∀ (w:World) (mg:Str→Option Value) (fa:Addr) (h:Heap),(K w.params).In h→h.Ns mainGlobals mg→mg d.name=some (.ref fa)→
   ∃ fd:FuncData,(∀ (s:Shared) (u:Value),BindsTo s fd ⟨[u],[]⟩ [(x,u)])∧
    ∀ base:Heap,(K w.params).In base→base.Ns mainGlobals mg→FnOk l.prog w (K w.params) mg base (CX w) k fa fd [x] (sp w))
  (hsp:∀ (w:World) (H:Hp) (a:Addr) (ns:List Int),ns.length≤n→we H→SqL (K w.params) H a (ns.map V.int)→sp w [.ref a] H (fun v _=>v = .bl true) fun _ _ _=>False)
  (hCX:∀ (w:World) (H:Hp) (s:Shared) (e:Value) (s':Shared),CX w [] H s (fun _ _ _=>False) e s'→False) :
  PySem.W.WalkO q loose XP YP l.row.toRowW d [] (fun f vs=>PySem.call f vs):=by
 refine Att.attach_call hn hdf fun w s₀ s₁ mg mb fa o pm cd doc a vs ns G Y ho hd hcd hmg hobj hints hlen hg=>?_
 have KX:=hY w _ Y
 obtain⟨fd,hb,hF⟩:=F w mg fa _ KX G.T.g hmg
 exact vC KX G.T.g G.T.b G.T.builtins G.T.nolimit hg hobj hints (Nat.le_trans hlen hn2) hr hF hb (fun H hO hS=>hsp w H a ns hlen hO hS) fun H e s'=>hCX w H s₁ e s'
end L2
/- THE LAST THEOREM (shape; LID, My.* are yours):
   My.Adr: a structure of the addresses that your layer names (classes,functions); My.Txt K t: a structure (Prop) of the equations over K;
   My.txt_mk:{K} {implicit addresses ..} (e1:nsIn K mainGlobals "law" = some (some (.ref f))) (e2:K.lookup f=some ⟨oc,od,.func (fnOf "law" "law" params body scope dV kV doc pm an cdv ct),sl⟩) (e3:codeIn K cdv "law" = true) .. : ∃ t,My.Txt K t
set_option maxRecDepth 100000 in
set_option maxHeartbeats 0 in
theorem PySem.Challenge.cw_LID_holds : PySem.Challenge.rw_LID.Holds := by
 w_on; o_law; k_head; (case hw=>w_witness2)
 k_fill
 refine L2.walk_of (l:=PySem.Challenge.rw_LID) (n:=63) (k:=40) (x := "script") (CX:=fun w=>..) (sp:=fun _=>My.sp_law) rfl (by decide) rfl ⟨rfl,by decide,by decide⟩ (fun w h Y=>PySem.W.kIn_of Y) ?F ?S ?C
 case F=>
  intro w mg fa h KX G hmg
  have T:∃ t,My.Txt (L2.KOf KX) t:=by
   dsimp only[L2.KOf]                          -- K must stand as «<heap const> w.params» for k_is
   refine' My.txt_mk ?e1 ?e2 ?e3 ..
   (case e1=>PySem.W.k_is)                    -- in the order: a name -> its address -> its object -> its parts
   (case e2=>PySem.W.k_is)
   ..
  obtain⟨t,T⟩:=T
  have e0:=hmg.symm.trans (PySem.W.mg_of KX G T.law)
  cases e0                                       -- fa is the law's own address
  exact⟨_,fun s u=>.of_eq rfl,fun base kb nb=>My.law_fn T kb nb⟩     -- if «.of_eq rfl» comes too early: refine' ⟨_,?b,fun base kb nb=>My.law_fn T kb nb⟩; exact fun s u=>.of_eq rfl
 case S=>exact fun w H a ns hl hO hS=>..
 case C=>exact ..
(the tactic k_is has no namespace: write k_is) -/
namespace L2
open PySem PySem.Spec PyProof.Rows
abbrev ib:fZ:=fun _ _ _ _ _ _=>False
abbrev E0:XK:=fun _ _ _=>False
theorem wC{X:Cx}:jE ib X E0:=fun _ _ _ _ _ _ _ h=>h.elim
structure Fun (K:PySem.W.Frag) (x qual:Str) (st:Stmt) (f:Addr) (fd:FuncData):Prop where
 ex:∃ (oc:Value) (od:Option Addr) (kV doc pm:Value) (an:Option Addr) (cdv ct:Value) (osl:Array (Option Value)),
  fd=PySem.W.fnOf x qual (defArgs st) (defBody st) (defScope st) .none kV doc pm an cdv ct∧K.lookup f=some ⟨oc,od,.func fd,osl⟩∧PySem.W.codeIn K cdv qual=true
 kp:PySem.W.keepIn K (.ref f)=true
section
variable{P:Program}{w:World}{K:PySem.W.Frag}{mg:Str→Option Value}{base:Heap}
theorem Fun.ok{x qual:Str}{st:Stmt}{f:Addr}{fd:FuncData}{N ps:List Str}{k:Nat}{sp:Sp}(F:Fun K x qual st f fd)(S:aO N ps (defScope st))(len:∀ vs H Q E,sp vs H Q E→vs.length=ps.length)
  (hbody:∀ (cdv:Value) (A:Around) (outer:List Env) (s:Shared) (H:Hp) (vs:List V) (Q:VK) (E:XK),Room k (A.deeper (envOfC qual (defScope st) s.heap.objs.size f cdv))→sp vs H Q E→
   ∃ t,PSs (gS ib P w K mg base N qual (defScope st) f cdv A outer s H E).nox (defBody st) t∧t { nx:=fun _ H'=>Q .non H',rt:=Q } (start N vs) H):FnOk P w K mg base ib (k+1) f fd ps sp:=by
 obtain⟨oc,od,kV,doc,pm,an,cdv,ct,osl,rfl,lk,hcd⟩:=F.ex
 refine AC lk hcd S len fun A outer s H vs Q E hr hsp=>?_
 obtain⟨t,h,q⟩:=hbody cdv A outer s H vs Q E hr hsp
 exact⟨t,h.nox,q⟩
theorem Fun.binds{x qual:Str}{st:Stmt}{f:Addr}{fd:FuncData}{ps:List Str}(F:Fun K x qual st f fd)
  (h:∀ (kV doc pm:Value) (an:Option Addr) (cdv ct:Value) (us:List Value),us.length=ps.length→bindArgs (PySem.W.fnOf x qual (defArgs st) (defBody st) (defScope st) .none kV doc pm an cdv ct) ⟨us,[]⟩=pure (ps.zip us)):Binds K fd ps []:=by
 obtain⟨oc,od,kV,doc,pm,an,cdv,ct,osl,rfl,lk,hcd⟩:=F.ex
 exact .all (h kV doc pm an cdv ct)
theorem bj{x qual:Str}{st:Stmt}{f:Addr}{oc:Value}{od an:Option Addr}{osl:Array (Option Value)}{kV doc pm cdv ct:Value}(l:K.lookup f=some ⟨oc,od,.func (PySem.W.fnOf x qual (defArgs st) (defBody st) (defScope st) .none kV doc pm an cdv ct),osl⟩)
  (c:PySem.W.codeIn K cdv qual=true) (k:PySem.W.keepIn K (.ref f)=true):Fun K x qual st f (PySem.W.fnOf x qual (defArgs st) (defBody st) (defScope st) .none kV doc pm an cdv ct):=⟨⟨oc,od,kV,doc,pm,an,cdv,ct,osl,rfl,l,c⟩,k⟩
end
section
variable{X:Cx}
theorem pv(i:Nat){x:Str}{pos:Pos}(hN:X.N[i]? = some x:=by rfl)(hv:au X.env.scope x:=by first | exact Or.inl rfl | exact Or.inr (Or.inl rfl) | exact Or.inr (Or.inr rfl))(hd:(x == ("__debug__" : Str))=false:=by decide)
  (hcd:(x == ("__classdict__" : Str))=false:=by decide):PE X (.Name x pos) (vp i):=zI hN hv hd hcd
end
theorem bF{c A B:Prop}[Decidable c](h1:c→A)(h2:¬ c→B):if c then A else B:=by
 by_cases h:c
 ·rw[if_pos h]
  exact h1 h
 ·rw[if_neg h]
  exact h2 h
def Same(H H':Hp):Prop:=∀ b o,H b=some o→H' b=some o
theorem Same.refl(H:Hp):Same H H:=fun _ _ h=>h
theorem Same.trans{H H1 H2:Hp}(a:Same H H1)(b:Same H1 H2):Same H H2:=fun c o h=>b c o (a c o h)
theorem Same.free{H H':Hp}(e:Same H H'){l:Addr}(h:H' l=Option.none):H l=Option.none:=by
 cases q:H l with
 | none=>rfl
 | some o=>
  rw[e l o q]at h
  cases h
theorem Same.seq{K:PySem.W.Frag}{H H':Hp}{a:Addr}{xs:List V}(e:Same H H')(h:SqL K H a xs):SqL K H' a xs:=by
 rcases h with (h | ⟨o,h⟩) | h
 ·exact .inl (.inl (e _ _ h))
 ·exact .inl (.inr ⟨o,e _ _ h⟩)
 ·exact .inr h
theorem ux{X:Cx}:CallR X (.builtin "len") (fun xs H Q=>∃ a kvs,xs=[V.ref a]∧H a=some (.dK kvs)∧Q (.int kvs.length) H):=by
 intro pins s σ H xs us Q I r h
 obtain⟨a,kvs,rfl,ha,q⟩:=h
 obtain⟨u,rfl,ru⟩:=dB r
 cases ru
 exact Ax I (.inl ha) fun t s' I'=>⟨.int kvs.length,H,I',⟨t,rfl⟩,q⟩
section
variable{κ : Type}[DecidableEq κ]
end
end L2
namespace L2
open PySem PySem.Spec PyProof.Rows
def dn(cells:List (Str × Addr)):List (Str × NameKind)→List (Str × Addr)→List (Str × Addr)
 | [],acc=>acc
 | (n,k)::r,acc=>dn cells r (if k == .free then (n,(cells.lookup n).getD 0)::acc else acc)
theorem nR{env:Env}{f:(Str × NameKind)→List (Str × Addr)→Sem (ForInStep (List (Str × Addr)))}
  (hf:∀ n k cs,f (n,k) cs=if (k == NameKind.free)=true then (cellOf env n >>= fun c=>pure (ForInStep.yield ((n,c)::cs))) else pure (ForInStep.yield cs)) :
  ∀ (names:List (Str × NameKind)) (acc:List (Str × Addr)),(∀ x∈names,x.2 = .free→∃ c,env.cells.lookup x.1=some c)→
  forIn names acc f=(pure (dn env.cells names acc):Sem _)
 | [],acc,_=>rfl
 | (n,k)::r,acc,h=>by
  rw[List.forIn_cons,hf]
  have ih:=fun acc=>nR hf r acc fun x hx=>h x (List.mem_cons_of_mem _ hx)
  by_cases hk:(k == NameKind.free)=true
  ·rw[if_pos hk]
   obtain⟨c,hc⟩:=h (n,k) List.mem_cons_self (by simpa using hk)
   have e:cellOf env n=pure c:=by unfold cellOf; rw[hc]
   rw[e,pure_bind,pure_bind]
   show forIn r ((n,c)::acc) f=_
   rw[ih]
   show _=pure (dn env.cells r (if (k == NameKind.free)=true then (n,(env.cells.lookup n).getD 0)::acc else acc))
   rw[if_pos hk,hc]; rfl
  ·rw[if_neg hk,pure_bind]
   show forIn r acc f=_
   rw[ih]
   show _=pure (dn env.cells r (if (k == NameKind.free)=true then (n,(env.cells.lookup n).getD 0)::acc else acc))
   rw[if_neg hk]
theorem lS{env:Env}{scope:Scope}(h:∀ x∈scope.names,x.2 = .free→∃ c,env.cells.lookup x.1=some c):closureFor scope env=pure (dn env.cells scope.names []):=by
 unfold closureFor
 show (forIn scope.names ([]:List (Str × Addr)) _ >>= fun cs=>pure cs)=_
 rw[nR (env:=env) (fun n k cs=>?_) _ _ h]
 ·rfl
 ·rfl
theorem iz{cells:List (Str × Addr)}:∀ {names:List (Str × NameKind)} {acc:List (Str × Addr)} {x:Str} {c:Addr},(∀ y∈names,y.2 = .free→∃ c,cells.lookup y.1=some c)→
  (∀ y c,acc.lookup y=some c→cells.lookup y=some c)→(dn cells names acc).lookup x=some c→cells.lookup x=some c
 | [],acc,x,c,_,ha,h=>ha x c h
 | (n,k)::r,acc,x,c,hn,ha,h=>by
  refine iz (names:=r) (fun y hy=>hn y (List.mem_cons_of_mem _ hy)) ?_ h
  intro y d hy
  by_cases hk:(k == NameKind.free)=true
  ·rw[if_pos hk]at hy
   obtain⟨e,he⟩:=hn (n,k) List.mem_cons_self (by simpa using hk)
   have he':cells.lookup n=some e:=he
   rw[List.lookup_cons]at hy
   by_cases hyn:(y == n)=true
   ·rw[hyn]at hy
    have hy':(cells.lookup n).getD 0=d:=Option.some.inj hy
    rw[he']at hy'
    have e1:y=n:=by simpa using hyn
    rw[e1,he',← hy']; rfl
   ·have hf:(y == n)=false:=by simpa using hyn
    rw[hf]at hy
    exact ha y d hy
  ·rw[if_neg hk]at hy
   exact ha y d hy
theorem jj{cells:List (Str × Addr)}:∀ {names:List (Str × NameKind)} {acc:List (Str × Addr)} {x:Str},(∃ c,acc.lookup x=some c)→∃ c,(dn cells names acc).lookup x=some c
 | [],_,_,h=>h
 | (n,k)::r,acc,x,h=>by
  refine jj (names:=r) ?_
  by_cases hk:(k == NameKind.free)=true
  ·rw[if_pos hk,List.lookup_cons]
   cases hx:(x == n) with
   | true=>exact⟨_,rfl⟩
   | false=>exact h
  ·rw[if_neg hk]; exact h
theorem gv{cells:List (Str × Addr)}:∀ {names:List (Str × NameKind)} {acc:List (Str × Addr)} {x:Str},(x,NameKind.free)∈names→∃ c,(dn cells names acc).lookup x=some c
 | (n,k)::r,acc,x,h=>by
  rcases List.mem_cons.mp h with e | h
  ·have e1:x=n:=congrArg (·.1) e
   have e2:NameKind.free=k:=congrArg (·.2) e
   subst e1 e2
   refine jj (names:=r) ?_
   rw[if_pos (by rfl),List.lookup_cons]
   rw[beq_self_eq_true]
   exact⟨_,rfl⟩
  ·exact gv (names:=r) h
theorem dE{env:Env}:∀ {names:List (Str × NameKind)} {x:Str} {k:NameKind},(∀ y∈names,y.2 ≠ .cell)→
  (names.map fun (n,k)=>if (k == NameKind.free&&env.scope.kind == .function&&env.kindOf n == some .cell) then (n,NameKind.cell) else (n,k)).lookup x=some k→(k = .cell∨k = .free)→(x,NameKind.free)∈names
 | [],_,_,_,h,_=>by simp at h
 | (n,k0)::r,x,k,hc,h,hk=>by
  have ih:=@dE env r x k (fun y hy=>hc y (List.mem_cons_of_mem _ hy))
  rw[List.map_cons]at h
  by_cases hf:(k0 == NameKind.free&&env.scope.kind == .function&&env.kindOf n == some .cell)=true
  ·have hk0:k0 = .free:=by
    have:(k0 == NameKind.free)=true:=by
     rw[Bool.and_eq_true,Bool.and_eq_true]at hf; exact hf.1.1
    simpa using this
   dsimp only at h
   rw[if_pos hf,List.lookup_cons]at h
   cases hx:(x == n) with
   | true=>
    have:x=n:=by simpa using hx
    rw[this,hk0]; exact List.mem_cons_self
   | false=>rw[hx]at h; exact List.mem_cons_of_mem _ (ih h hk)
  ·dsimp only at h
   rw[if_neg hf,List.lookup_cons]at h
   cases hx:(x == n) with
   | true=>
    rw[hx]at h
    have e:k0=k:=Option.some.inj h
    have:x=n:=by simpa using hx
    rcases hk with z | z
    ·exact absurd (e.trans z) (hc (n,k0) List.mem_cons_self)
    ·rw[this,e,z]; exact List.mem_cons_self
   | false=>rw[hx]at h; exact List.mem_cons_of_mem _ (ih h hk)
def b8(X:Cx)(N0 T:List Str)(scope:Scope)(C:Addr)(fp:List Addr)(s:Shared)(H:Hp):Cx:=
 { X with N:=N0++T,s₀:=s,H₀:=H,env:=compEnvC scope (dn X.env.cells scope.names []) C X.env,outer:=X.stack,stack:=X.stack,ex:=fp,fn:=fun _=>false,pn:=[],xe:=fun _ _=>False }
structure h_ (X:Cx) (N0 T:List Str) (scope:Scope):Prop where
 kind:scope.kind = .function
 nocell:∀ y∈scope.names,y.2 ≠ .cell
 names:∀ y∈scope.names,y.2 = .local→scope.names.lookup y.1=some .local
 free:∀ y∈scope.names,y.2 = .free→X.env.kindOf y.1=some .cell∨X.env.kindOf y.1=some .free
 apart:∀ y∈scope.names,y.2 = .local→y.1∉N0
 len0:N0.length=X.N.length
 same:∀ (i:Nat) (x:Str) (k:NameKind),N0[i]? = some x→(x,k)∈scope.names→X.N[i]? = some x
theorem gG{prog:Program}{w:World}{A:Around}{R:Result→Shared→Prop}{s:Shared}{elt target iter:Expr}{ifs:List Expr}{scope:Scope}{pos:Pos}{it acc:Value}{env:Env}(I:Nat→Shared→Prop)
  (turn:∀ n s,I n s→wpAny (model prog w) A (pyNext it) (fun r s₁=>match r with
   | none=>R (.ok .next) s₁
   | some v=>wpAny (model prog w) A (letOwnedTupleGo target it v) (fun _ s₀=>wpAny (model prog w) A (assign target env v) (fun _ s₂=>
     wpAny (model prog w) A (forIn ifs true fun c r=>if r=true then do let ok ← isTrue c env (eval c env); pure (ForInStep.yield ok) else pure (ForInStep.yield r)) (fun ok s₃=>
      if ok=true then wpAny (model prog w) A (eval elt env) (fun x s₄=>
       wpAny (model prog w) A (call (.builtin "list.append") [acc,x]) (fun _ s₅=>∃ m,m<n∧I m s₅) (fun _ _=>False) s₄) (fun _ _=>False) s₃
      else ∃ m,m<n∧I m s₃) (fun _ _=>False) s₂) (fun _ _=>False) s₀) (fun _ _=>False) s₁) (fun _ _=>False) s)
  (n:Nat) (h:I n s) :
  codeAny (model prog w) A (.compLoop (.ListComp elt [⟨target,iter,ifs,0⟩] scope pos) 0 it acc env) R s:=by
 refine codeAny_loop rfl I (fun n s hI=>?_) n h
 show wpAny _ A ((compTurn (.ListComp elt [⟨target,iter,ifs,0⟩] scope pos) 0 it acc env).onRaise (fun x=>do noteFrame x env; theTreesLotGoes x)) _ _ s
 refine wpAny_noted ?_
 rw[compTurn_list]
 refine wpAny_bind (wpAny_standAt (wpAny_bind (wpAny_mono (turn n s hI) (fun r s₁ h₁=>?_) fun _ _ h'=>h'.elim)))
 cases r with
 | none=>exact wpAny_pure h₁
 | some v=>
  refine wpAny_bind (wpAny_mono h₁ (fun _ s₀ h₀=>?_) fun _ _ h'=>h'.elim)
  refine wpAny_bind (wpAny_mono h₀ (fun _ s₂ h₂=>wpAny_bind (wpAny_mono h₂ (fun ok s₃ h₃=>?_) fun _ _ h'=>h'.elim)) fun _ _ h'=>h'.elim)
  cases ok with
  | false=>exact wpAny_pure ⟨rfl,h₃⟩
  | true=>
   exact wpAny_bind (wpAny_bind (wpAny_mono h₃ (fun x s₄ h₄=>wpAny_bind (wpAny_mono h₄ (fun _ s₅ h₅=>wpAny_pure (wpAny_pure ⟨rfl,h₅⟩)) fun _ _ h'=>h'.elim)) fun _ _ h'=>h'.elim))
def PIfs(X:Cx)(ifs:List Expr)(tc:TT):Prop:=
 ∀ (pins:List (Addr × Obj)) (s:Shared) (σ : St) (H:Hp) (Q:Bool→Hp→Prop),Inv X pins σ H s→tc σ H Q→
  wpAny (model X.prog X.w) X.A (forIn ifs true fun c r=>if r=true then do let ok ← isTrue c X.env (eval c X.env); pure (ForInStep.yield ok) else pure (ForInStep.yield r)) (TP X pins σ Q) X.xe s
def mR:TT:=fun _ H Q=>Q true H
theorem iW{X:Cx}:PIfs X [] mR:=fun _ _ _ H _ I h=>wpAny_tests_nil ⟨H,I,h⟩
theorem i8{X:Cx}{c:Expr}{tc:TT}(hc:PT X c tc):PIfs X [c] tc:=fun pins s σ H Q I h=>wpAny_tests_one (hc pins s σ H Q I h)
def ul(g:TG)(n:Nat):Prop:=∀ x σ H Q,g x σ H Q→g x σ H fun σ' H'=>Q σ' H'∧σ'.length=σ.length∧∀ k,k<n→σ'[k]? = σ[k]?
def qT(g:fu)(n:Nat):Prop:=∀ x σ H Q,g x σ H Q→g x σ H fun σ' H'=>Q σ' H'∧σ'.length=σ.length∧∀ k,k<n→σ'[k]? = σ[k]?
theorem dY{i n:Nat}(h:n≤i):ul (gp i) n:=fun x σ H Q q=>⟨q,by simp,fun k hk=>by rw[List.getElem?_set_ne (by omega)]⟩
theorem uP{n:Nat}:qT rE n:=fun x σ H Q q=>⟨q.1,q.2,rfl,fun _ _=>rfl⟩
def rj(g:TG):Prop:=∀ x σ H Q Q',(∀ σ' H',Q σ' H'→Q' σ' H')→g x σ H Q→g x σ H Q'
def jc(g:fu):Prop:=∀ x σ H Q Q',(∀ σ' H',Q σ' H'→Q' σ' H')→g x σ H Q→g x σ H Q'
theorem j9{i:Nat}:rj (gp i):=fun x σ H Q Q' h q=>h _ _ q
theorem qf:jc rE:=fun x σ H Q Q' h q=>⟨q.1,h _ _ q.2⟩
theorem uN{t:TG}{u:fu}(h1:rj t)(h2:jc u):jc (mj t u):=fun x σ H Q Q' h ⟨v,r,e,q⟩=>⟨v,r,e,h1 _ _ _ _ _ (fun σ' H' z=>h2 _ _ _ _ _ h z) q⟩
theorem lh{t:TG}{u:fu}{n:Nat}(h1:ul t n)(m1:rj t)(h2:qT u n)(m2:jc u):qT (mj t u) n:=fun x σ H Q ⟨v,r,e,q⟩=>by
 refine⟨v,r,e,?_⟩
 refine m1 _ _ _ _ _ (fun σ' H' z=>?_) (h1 _ _ _ _ q)
 obtain⟨z,l1,k1⟩:=z
 exact m2 _ _ _ _ _ (fun σ2 H2 y=>⟨y.1,y.2.1.trans l1,fun k hk=>(y.2.2 k hk).trans (k1 k hk)⟩) (h2 _ _ _ _ z)
theorem xM{K:PySem.W.Frag}{m n:Nat}{t:fu}(h:qT t n):ul (sf K m t) n:=fun x σ H Q ⟨a,xs,e,q,l,z⟩=>⟨a,xs,e,q,l,h _ _ _ _ z⟩
def fb(J:It)(g:TG)(tc:TT)(te:TE)(nT:Nat)(σ : St)(D:Addr)(Q:VK)(H:Hp):Prop:=
 ∃ W:Nat→Nat→List V→Hp→Prop,(∃ m,W 0 m [] H)∧∀ i m ys H2,W i m ys H2→
  (J.stop i H2∧Q (.ref D) H2)∨(J.go i H2∧∀ x H',J.yld i H2 x H'→g x (σ++List.replicate nT none) H' fun σ2 H3=>tc σ2 H3 fun b H4=>
   if b=true then te σ2 H4 fun y H5=>H5 D=some (.lst ys)∧ys.length<sizeLine∧∃ m',m'<m∧W (i+1) m' (ys++[y]) (upd H5 D (.lst (ys++[y]))) else ∃ m',m'<m∧W (i+1) m' ys H4)
def wU(wi:TI)(g:TG)(tc:TT)(te:TE)(nT:Nat):TE:=fun σ H Q=>wi σ H fun J H1=>∀ D,H1 D=none→fb J g tc te nT σ D Q (upd H1 D (.lst []))
theorem HOk.sameBut{P:Program}{w:World}{H:Hp}{h h':Heap}{C:Addr}(x:HOk P w H h)(hs:Heap.SameBut C h h')(hC:H C=none):HOk P w H h':=fun a o e=>
 (x a o e).stay (fun b u hb q=>(hs.2 b (by
  rintro rfl
  rcases hb with z | z
  ·rw[z]at hC; rw[hC]at e; cases e
  ·rw[hC]at z; cases z)).trans q) (fun _ q=>q) fun _ _ q=>q
section
variable{X:Cx}{N0 T:List Str}{scope:Scope}{tg elt iter:Expr}{ifs:List Expr}{pos:Pos}{wi:TI}{g:TG}{tc:TT}{te:TE}
theorem tR{pins:List (Addr × Obj)}{σ : St}{H:Hp}{s:Shared}{E:Value→Shared→Prop}{it:Addr}{fp:List Addr}{tn:Nat→Heap→Prop}{J:It}{Q:VK}{RR:Value→Addr→Result→Shared→Prop}
  (S:h_ X N0 T scope) (hc:X.calm=true)
  (hg:∀ C fp s H,PG (b8 X N0 T scope C fp s H) tg g) (hfr:ul g X.N.length) (hi:∀ C fp s H,PIfs (b8 X N0 T scope C fp s H) ifs tc) (he:∀ C fp s H,PE (b8 X N0 T scope C fp s H) elt te)
  (I:Inv X pins σ H s) (Tn:g_ X.prog X.w X.K tg J fp it tn) (st:tn 0 s.heap) (hf:∀ b∈fp,fz X pins H b)
  (h:∀ D,H D=none→fb J g tc te T.length σ D Q (upd H D (.lst [])))
  (hRR:∀ D C s' H' m,s'.heap.Ns C m→H' C=none→C≠X.env.locals→(∀ x c,X.env.cells.lookup x=some c→c≠C)→(∀ p∈X.pn++pins,p.1≠C)→X.s₀.heap.objs.size≤C→Inv X pins σ H' s'→
   (∀ h',Heap.SameBut C s'.heap h'→Inv X pins σ H' { s' with heap:=h' })→Q (.ref D) H'→RR (.ref D) C (.ok .next) s') :
  wpAny (model X.prog X.w) X.A (newList []) (fun acc s₃=>wpAny (model X.prog X.w) X.A (newFunctionEnv scope X.env.globals (dn X.env.cells scope.names []) [] X.env.qual none .none (some X.env)) (fun cenv s₄=>
   codeAny (model X.prog X.w) X.A (.compStart (.ListComp elt [⟨tg,iter,ifs,0⟩] scope pos) 0 (.ref it) acc { cenv with scope:=relabel scope X.env }) (RR acc cenv.locals) s₄) E s₃) E s:=by
 refine wpAny_newObj_type (wpAny_newFunctionEnv S.nocell (by intro y hy; simp at hy) (fun h₁ hns₁ hsb₁=>?_) S.kind)
 dsimp only at hns₁ hsb₁ ⊢
 generalize hH2:s.heap.push { cls:=.type "list", dict:=none,data:=.seq ([]:List Value).toArray }=P2 at hns₁ hsb₁ ⊢
 have hC:P2.objs.size=s.heap.objs.size+1:=by rw[← hH2,Heap.size_push]
 -- the new list D, the block's names C
 obtain⟨D,hD⟩ : ∃ D:Nat,D=s.heap.objs.size:=⟨_,rfl⟩
 obtain⟨C,hCC⟩ : ∃ C:Nat,C=P2.objs.size:=⟨_,rfl⟩
 rw[← hCC]at hns₁ hsb₁ hC ⊢
 rw[← hD]at hC ⊢
 have hDC:D≠C:=by omega
 have hDlt:D<C:=by omega
 have neD:∀ b o,s.heap.get? b=some o→b≠D:=fun b o e=>hD ▸ Nat.ne_of_lt (Heap.lt_size e)
 have neC:∀ b o,s.heap.get? b=some o→b≠C:=fun b o e=>Nat.ne_of_lt (Nat.lt_trans (hD ▸ Heap.lt_size e) hDlt)
 have old:∀ b o,s.heap.get? b=some o→h₁.get? b=some o:=fun b o e=>hsb₁.extBut b o (neC b o e) (Heap.get?_push_of_some _ (hH2 ▸ Heap.get?_push_of_some _ e))
 have hHD:H D=none:=I.hok.fresh (by omega)
 have hHC:H C=none:=I.hok.fresh (by omega)
 have dat:h₁.get? D=some { cls:=.type "list", data:=.seq ([]:List Value).toArray 0 }:=by
  refine hsb₁.extBut _ _ hDC (Heap.get?_push_of_some _ ?_)
  rw[← hH2,hD]
  exact Heap.get?_push_size _ rfl
 -- the block's context stands
 have hcl:∀ x c,(dn X.env.cells scope.names []).lookup x=some c→X.env.cells.lookup x=some c:=fun x c e=>
  iz (fun y hy hk=>I.ok.has y.1 (S.free y hy hk)) (fun y c z=>by simp at z) e
 have okC:(b8 X N0 T scope C fp s H).Ok:=by
  refine⟨I.ok.mod,?_,I.ok.glob,I.ok.blt,?_,fun x y c e1 e2=>I.ok.inj x y c (hcl x c e1) (hcl y c e2),fun x hx=>?_,fun x c z _=>(by cases z),I.ok.hd,I.ok.frames,.inl rfl,fun b hb=>⟨?_,fun x c e=>(hf b hb).2.2.2.2.1 x c (hcl x c e)⟩,
   I.bs,?_,fun b o e hb=>?_,fun b hb z=>?_,I.stack,I.stkFree⟩
  ·show (relabel scope X.env).kind = .function
   exact S.kind
  ·show s.heap.objs.size≤C
   omega
  ·have hx':(relabel scope X.env).names.lookup x=some .cell∨(relabel scope X.env).names.lookup x=some .free:=hx
   have m:(x,NameKind.free)∈scope.names:=by
    rcases hx' with z | z
    ·exact dE S.nocell z (.inl rfl)
    ·exact dE S.nocell z (.inr rfl)
   exact gv m
  ·show b≠C
   obtain⟨o,e,_⟩:=Tn.obj 0 _ st b hb
   exact neC b o e
  ·exact Nat.le_trans I.ok.bsz I.sz
  ·obtain⟨_,_,_,z,_⟩:=hf b hb
   rcases z with z | z
   ·exact I.ok.noex b o e z
   ·exact absurd (Nat.lt_of_lt_of_le (Nat.lt_of_lt_of_le (Heap.lt_size e) I.ok.bsz) z) (Nat.lt_irrefl _)
  ·obtain⟨_,z1,z2,_⟩:=hf b hb
   rcases List.mem_cons.mp (I.stkSub b z) with q | q
   ·exact z1 q
   ·exact z2 q
 have I1:Inv (b8 X N0 T scope C fp s H) [] (σ++List.replicate T.length none) (upd H D (.lst [])) { s with heap:=h₁,toks:=s.toks+([]:List (Str × Value)).length }:=by
  refine⟨okC,rfl,I.bare,Un.laid (h:=s.heap) old (by omega) hHD,⟨_,hns₁,fun i x v e1 e2 e3=>?_⟩,fun x c e=>?_,?_,fun x c e=>?_,fun p hp=>(by simp[b8]at hp),I.hok.laid old (by omega) ?_,?_⟩
  ·have e1':(N0++T)[i]? = some x:=e1
   have hl:=I.len
   have hl0:=S.len0
   have hi:i<σ.length:=by
    rcases Nat.lt_or_ge i σ.length with z | z
    ·exact z
    ·rw[List.getElem?_append_right z]at e2
     rw[List.getElem?_replicate]at e2
     split at e2 <;> cases e2
   rw[List.getElem?_append_left hi]at e2
   rw[List.getElem?_append_left (by omega)]at e1'
   have hxN:x∈N0:=List.mem_of_getElem? e1'
   have e3':(relabel scope X.env).names.lookup x=some .local∨(relabel scope X.env).names.lookup x=some .cell∨(relabel scope X.env).names.lookup x=some .free:=e3
   have fr:(relabel scope X.env).names.lookup x=some .cell∨(relabel scope X.env).names.lookup x=some .free:=by
    rcases e3' with z | z | z
    ·exfalso
     -- a local of the block is no tracked name
     have key:∀ (names:List (Str × NameKind)),(names.map fun (n,k)=>if (k == NameKind.free&&X.env.scope.kind == .function&&X.env.kindOf n == some .cell) then (n,NameKind.cell) else (n,k)).lookup x=some .local→(x,NameKind.local)∈names:=by
      intro names
      induction names with
      | nil=>intro z; simp at z
      | cons y r ih=>
       obtain⟨n,k⟩:=y
       intro z
       rw[List.map_cons]at z
       dsimp only at z
       by_cases hfk:(k == NameKind.free&&X.env.scope.kind == .function&&X.env.kindOf n == some .cell)=true
       ·rw[if_pos hfk,List.lookup_cons]at z
        cases hx:(x == n) with
        | true=>rw[hx]at z; cases z
        | false=>rw[hx]at z; exact List.mem_cons_of_mem _ (ih z)
       ·rw[if_neg hfk,List.lookup_cons]at z
        cases hx:(x == n) with
        | true=>
         rw[hx]at z
         have ek:k = .local:=Option.some.inj z
         have en:x=n:=by simpa using hx
         rw[ek,en]; exact List.mem_cons_self
        | false=>rw[hx]at z; exact List.mem_cons_of_mem _ (ih z)
     exact S.apart (x,.local) (key _ z) rfl hxN
    ·exact .inl z
    ·exact .inr z
   have m:(x,NameKind.free)∈scope.names:=by
    rcases fr with z | z
    ·exact dE S.nocell z (.inl rfl)
    ·exact dE S.nocell z (.inr rfl)
   have kX:=S.free _ m rfl
   obtain⟨mm,hn,hl'⟩:=I.loc
   obtain⟨u,r,lk⟩:=hl' i x v (S.same i x _ e1' m) e2 (.inr kX)
   refine⟨u,r,.inr ⟨fr,?_⟩⟩
   rcases lk with ⟨z,_⟩ | ⟨_,c,ec,cc⟩
   ·rcases kX with q | q
    ·rw[q]at z; cases z
    ·rw[q]at z; cases z
   ·obtain⟨c',ec'⟩:=gv (cells:=X.env.cells) (acc:=[]) m
    have:=hcl x c' ec'
    rw[ec]at this; cases this
    exact⟨c,ec',cc.keeps old⟩
  ·obtain⟨v,z⟩:=I.cell x c (hcl x c e)
   exact⟨v,z.keeps old⟩
  ·show upd H D (.lst []) C=none
   rw[af (Ne.symm hDC)]; exact hHC
  ·have q:=I.freeC x c (hcl x c e)
   obtain⟨v,o,z,_⟩:=I.cell x c (hcl x c e)
   rw[af (neD c o z)]; exact q
  ·exact⟨Nat.zero_le _,[],0,.nil,dat⟩
  ·show (σ++List.replicate T.length none).length=(N0++T).length
   rw[List.length_append,List.length_append,List.length_replicate,I.len,S.len0]
 have st1:tn 0 h₁:=Tn.keep _ _ _ st fun b _ o e=>old b o e
 have fp1:∀ {H':Hp},(∀ b∈fp,H' b=none)→∀ b∈fp,fz (b8 X N0 T scope C fp s H) [] H' b:=fun hn b hb=>
  ⟨hn b hb,(okC.exf b hb).1,okC.exfs b hb,.inl hb,(okC.exf b hb).2,fun p hp=>(by simp[b8]at hp)⟩
 have fp0:∀ b∈fp,upd H D (.lst []) b=none:=fun b hb=>by
  obtain⟨o,e,_⟩:=Tn.obj 0 _ st b hb
  rw[af (neD b o e)]; exact(hf b hb).1
 obtain⟨W,⟨m0,w0⟩,turn⟩:=h D hHD
 have loop:∀ s₃ : Shared,s₃={ s with heap:=h₁,toks:=s.toks+([]:List (Str × Value)).length }→
   codeAny (model X.prog X.w) X.A (.compLoop (.ListComp elt [⟨tg,iter,ifs,0⟩] scope pos) 0 (.ref it) (.ref D) (compEnvC scope (dn X.env.cells scope.names []) C X.env)) (RR (.ref D) C) s₃:=by
  rintro s₃ rfl
  refine gG (fun n s'=>∃ i H' ys,Inv (b8 X N0 T scope C fp s H) [] (σ++List.replicate T.length none) H' s'∧tn i s'.heap∧(∀ b∈fp,H' b=none)∧W i n ys H') ?_ m0 ⟨0,_,[],I1,st1,fp0,w0⟩
  rintro n s3 ⟨i,H3,ys,I3,st3,fr3,w3⟩
  rcases turn i n ys H3 w3 with ⟨stop,qn⟩ | ⟨go,step⟩
  ·refine bd (Tn.done (b8 X N0 T scope C fp s H) rfl rfl rfl hc i [] s3 _ H3 (fun _ _=>False) I3 (fp1 fr3) st3 stop) fun r s4 ⟨hr,I4⟩=>?_
   subst hr
   obtain⟨m,hm,_⟩:=I4.loc
   have hch:∀ b∈fp,(b∈X.ex∨X.s₀.heap.objs.size≤b)∧b≠X.env.locals∧(∀ x c,X.env.cells.lookup x=some c→c≠b)∧∀ p∈X.pn++pins,p.1≠b:=fun b hb=>
    ⟨(hf b hb).2.2.2.1,(hf b hb).2.1,(hf b hb).2.2.2.2.1,(hf b hb).2.2.2.2.2⟩
   have u4:Un (gF X.stack) fp H H3 s.heap s4.heap:=I4.base
   refine hRR D C s4 H3 m hm I4.free (Ne.symm (Nat.ne_of_lt (Nat.lt_trans (hD ▸ I.lt) hDlt))) (fun x c e=>?_) (fun p hp=>?_) (Nat.le_trans (hD ▸ I.sz) (Nat.le_of_lt hDlt)) (I.call' (ch:=fp) I4.os u4 I4.hok I4.bare hch) (fun h' hs'=>?_) qn
   ·obtain⟨v,o,q,_⟩:=I.cell x c e
    exact neC c o q
   ·exact neC _ _ (I.pin p hp).1
   ·refine I.call' (ch:=fp) (s':={ s4 with heap:=h' }) I4.os ⟨fun b o q n' hb hx=>(hs'.2 b (neC b o q)).trans (u4.keep b o q n' hb hx),fun b o q n' hb hx=>?_,u4.free,fun b o q hx=>?_,u4.tups,u4.frzs,u4.tbls⟩ (I4.hok.sameBut hs' I4.free) I4.bare hch
    ·obtain⟨sl,e⟩:=u4.slot b o q n' hb hx
     exact⟨sl,(hs'.2 b (neC b o q)).trans e⟩
    ·obtain⟨o',e⟩:=u4.there b o q hx
     exact⟨o',(hs'.2 b (neC b o q)).trans e⟩
  ·refine bd (Tn.item (b8 X N0 T scope C fp s H) rfl rfl rfl hc i [] s3 _ H3 (fun _ _=>False) I3 (fp1 fr3) st3 go) fun r s4 ⟨u,hr,h4⟩=>?_
   subst hr
   refine bd h4 fun _ s5 ⟨x,H5,I5,r5,y5,st5,fr5⟩=>?_
   have I5':=I5.pinned (fp1 fr5) (Tn.obj _ _ st5)
   refine bd (hg C fp s H _ s5 _ H5 x u _ I5' r5 (hfr _ _ _ _ (step x H5 y5))) fun _ s6 ⟨σ6,H6,I6,q6,l6,k6⟩=>?_
   have back:∀ {H7:Hp} {s7:Shared},Inv (b8 X N0 T scope C fp s H) ([]++hJ fp s5.heap) σ6 H7 s7→(∀ {m':Nat} {zs:List V},m'<n→W (i+1) m' zs H7→∃ m,m<n∧∃ i H' ys,Inv (b8 X N0 T scope C fp s H) [] (σ++List.replicate T.length none) H' s7∧tn i s7.heap∧(∀ b∈fp,H' b=none)∧W i m ys H'):=fun {H7 s7} I7 {m' zs} hm w7=>by
    refine⟨m',hm,i+1,H7,zs,I7.unpinned.weak (by rw[l6]) (fun j v e=>?_),Tn.keep _ _ _ st5 fun b hb o e=>(I7.pin (b,o) (List.mem_append_right _ (List.mem_append_right _ (fh hb e)))).1,fun b hb=>?_,w7⟩
    ·have hj:j<σ.length:=by
      rcases Nat.lt_or_ge j σ.length with z | z
      ·exact z
      ·rw[List.getElem?_append_right z,List.getElem?_replicate]at e
       split at e <;> cases e
     rw[k6 j (by rw[← I.len]; exact hj)]
     exact e
    ·obtain⟨o,e,d⟩:=Tn.obj _ _ st5 b hb
     exact(I7.pin (b,o) (List.mem_append_right _ (List.mem_append_right _ (fh hb e)))).2.1
   refine bd (hi C fp s H _ s6 σ6 H6 _ I6 q6) fun b s7 ⟨H7,I7,q7⟩=>?_
   cases b with
   | false=>
    obtain⟨m',hm,w7⟩:=(show ∃ m',m'<n∧W (i+1) m' ys H7 from by simpa using q7)
    exact back I7 hm w7
   | true=>
    rw[if_pos rfl]at q7
    refine bd (he C fp s H _ s7 σ6 H7 _ I7 q7) fun v s8 ⟨y,H8,I8,r8,hD8,hz,m',hm,w8⟩=>?_
    refine bd (lv (X:=b8 X N0 T scope C fp s H) _ s8 σ6 H8 (.ref D) [y] (.ref D) [v] (fun _ H9=>H9=upd H8 D (.lst (ys++[y]))) I8 rfl (.cons r8 .nil) ⟨D,ys,y,rfl,rfl,hD8,hz,rfl⟩) fun v9 s9 ⟨y9,H9,I9,_,e9⟩=>?_
    subst e9
    exact back I9 hm w8
 exact codeAny_compStart_list (loop _ rfl) (Tn.self X.A 0 _ _ _ st1 (loop _ rfl))
theorem fq(S:h_ X N0 T scope)(hc:X.calm=true)(hI:PI X tg iter wi)
  (hg:∀ C fp s H,PG (b8 X N0 T scope C fp s H) tg g) (hfr:ul g X.N.length) (hi:∀ C fp s H,PIfs (b8 X N0 T scope C fp s H) ifs tc) (he:∀ C fp s H,PE (b8 X N0 T scope C fp s H) elt te)
  (hs:∀ x,foldedSetIterable iter X.env x=pure x:=by intro _; rfl):PE X (.ListComp elt [⟨tg,iter,ifs,0⟩] scope pos) (wU wi g tc te T.length):=by
 intro pins s σ H Q I h
 rw[eval_ListComp]
 refine wpAny_comprehension_free (use:=none) rfl hs (lS fun x hx hk=>I.ok.has x.1 (S.free x hx hk)) S.kind S.names (bd (hI pins s σ H _ I h) fun v s1 h1=>bd h1 fun itv s2 h2=>?_)
 obtain⟨it,fp,tn,J,H2,e,I2,Tn,st2,f2,q2⟩:=h2
 subst e
 refine tR (RR:=fun acc C=>compPost (model X.prog X.w) X.A X.xe none (EP X pins σ Q) acc C) S hc hg hfr hi he I2 Tn st2 f2 q2 ?_
 intro D C s' H' m hn hC hL hcells hpins hfresh I' hI' q
 exact⟨m,hn,fun h' hs'=>⟨.ref D,H',hI' h' hs',rfl,q⟩⟩
end
end L2
namespace L2
open PySem PySem.Spec PyProof.Rows
theorem Vals.of:∀ {xs:List V} {us:List Value} {i:Nat} {u:Value},Vals xs us→us[i]? = some u→∃ x,xs[i]? = some x∧RelV x u
 | _,_,0,u,.cons r _,e=>⟨_,rfl,by simp at e; subst e; exact r⟩
 | _,_,i+1,u,.cons _ rr,e=>by
  obtain⟨x,hx,r⟩:=Vals.of (i:=i) rr (by simpa using e)
  exact⟨x,by simpa using hx,r⟩
theorem hG:∀ {ss:List Str} {us:List Value},Vals (ss.map V.str) us→StrsAre us ss
 | [],_,.nil=>.nil
 | s::ss,_,.cons r rr=>by
  obtain⟨t,rfl⟩:=r
  exact .cons s t (hG rr)
section
variable{X:Cx}
def cz(H:Hp):V→Option String
 | .non=>some "NoneType"
 | .bl _=>some "bool"
 | .int _=>some "int"
 | .str _=>some "str"
 | .ref a=>match H a with
  | some (.lst _)=>some "list"
  | some (.frz _ (.lst _))=>some "list"
  | some (.tup _)=>some "tuple"
  | some (.dK _)=>some "dict"
  | some (.dT _)=>some "dict"
  | _=>none
 | _=>none
theorem ue{K:PySem.W.Frag}{H:Hp}:∀ {x:V} {T:String},cz H x=some T→eS K H x (.type T)
 | .non,T,h=>by cases h; exact .non
 | .bl b,T,h=>by cases h; exact .bl b
 | .int i,T,h=>by cases h; exact .int i
 | .str y,T,h=>by cases h; exact .str y
 | .byt _,T,h=>by cases h
 | .flt _,T,h=>by cases h
 | .ty _,T,h=>by cases h
 | .ref a,T,h=>by
  cases e:H a with
  | none=>simp[cz,e]at h
  | some o=>
   cases o with
   | lst xs=>simp[cz,e]at h; subst h; exact .lst e
   | tup xs=>simp[cz,e]at h; subst h; exact .tup e
   | dK xs=>simp[cz,e]at h; subst h; exact .dK e
   | dT xs=>simp[cz,e]at h; subst h; exact .dT e
   | frz ob u=>
    cases u with
    | lst xs=>simp[cz,e]at h; subst h; exact .frz e
    | _=>simp[cz,e]at h
   | _=>simp[cz,e]at h
def wZ(T C:String):Bool:=T == C||(T == "bool" && C == "int")
theorem vE(K:PySem.W.Frag){T C:String}(hT:T∈["NoneType", "bool", "int", "str", "list", "tuple", "dict"]) (hC:C∈["bool", "int", "str", "list", "tuple"]):PySem.W.kitOne K (.type T) (.type C)=some (wZ T C):=by
 simp only[List.mem_cons,List.mem_nil_iff,or_false]at hT hC
 rcases hT with rfl | rfl | rfl | rfl | rfl | rfl | rfl <;> rcases hC with rfl | rfl | rfl | rfl | rfl <;> (with_unfolding_all rfl)
theorem rX{H:Hp}{x:V}{T:String}(h:cz H x=some T):T∈["NoneType", "bool", "int", "str", "list", "tuple", "dict"]:=by
 cases x with
 | ref a=>
  cases e:H a with
  | none=>simp[cz,e]at h
  | some o=>
   cases o with
   | frz ob u=>cases u <;> simp[cz,e]at h <;> subst h <;> decide
   | _=>simp[cz,e]at h <;> subst h <;> decide
 | _=>first | (cases h; decide) | cases h
def zV:List V→Hp→VK→Prop:=fun xs H Q=>∃ (x:V) (T C:String),xs=[x,.ty C]∧cz H x=some T∧C∈["bool", "int", "str", "list", "tuple"]∧Q (.bl (wZ T C)) H
theorem pE{H:Hp}{Q:VK}(x:V)(C:String):zV [x,.ty C] H Q=∃ T,cz H x=some T∧C∈["bool", "int", "str", "list", "tuple"]∧Q (.bl (wZ T C)) H:=
 propext ⟨fun ⟨_,T,_,e,q⟩=>by cases e; exact⟨T,q⟩,fun ⟨T,q⟩=>⟨x,T,C,rfl,q⟩⟩
theorem gu:CallR X (.builtin "isinstance") zV:=by
 intro pins s σ H xs us Q I r h
 obtain⟨x,T,C,rfl,hT,hC,q⟩:=h
 obtain⟨u,w',rfl,ru,rw'⟩:=lZ r
 cases rw'
 exact sR I ru (ue hT) (vE X.K (rX hT) hC) fun tk=>⟨.bl (wZ T C),H,I.tok tk,rfl,q⟩
def rz(K:PySem.W.Frag):V→List V→Hp→VK→Prop:=fun x vs H Q=>∃ (sep:Str) (p:Addr) (ss:List Str),x = .str sep∧vs=[.ref p]∧SqL K H p (ss.map V.str)∧(ss.map (·.length)).sum+ss.length * sep.length≤16777216∧Q (.str (Txt.join sep ss)) H
theorem xE:MtR X "str.join" (rz X.K):=by
 intro pins s σ H x xs v us Q I rx r h
 obtain⟨sep,p,ss,rfl,rfl,hq,hz,q⟩:=h
 obtain⟨t,rfl⟩:=rx
 obtain⟨u,rfl,ru⟩:=dB r
 cases ru
 obtain⟨its,rv,pl,_⟩:=I.list hq
 exact join_list pl.isList (by simpa using hG rv) hz fun t' k=>⟨.str (Txt.join sep ss),H,I.tok k,⟨t',rfl⟩,q⟩
end
def ic(J:It)(g:TG)(tb:TS)(D:dm)(σ : St)(H:Hp):Prop:=∃ W:Nat→Nat→St→Hp→Prop,(∃ m,W 0 m σ H)∧∀ i m σ H,W i m σ H→
 (J.stop i H∧D.nx σ H)∨(J.go i H∧∃ N:St→Hp→Prop,(∀ σ' H',N σ' H'→∃ m',m'<m∧W (i+1) m' σ' H')∧∀ x H',J.yld i H x H'→g x σ H' fun σ2 H2=>tb { D with nx:=N,ct:=N,bk:=D.nx } σ2 H2)
theorem qg(wi:TI)(g:TG)(tb:TS)(D:dm)(σ : St)(H:Hp):zJ wi g tb D σ H=wi σ H fun J H1=>ic J g tb D σ H1:=rfl
theorem iq{J:It}{g:TG}{tb:TS}{D:dm}{σ : St}{H:Hp}(n:Nat)(Pv:Nat→St→Hp→Prop)(h0:Pv 0 σ H)(hgo:∀ i σ H,i<n→Pv i σ H→J.go i H)(hst:∀ σ H,Pv n σ H→J.stop n H)
  (hs:∀ i σ H x H',i<n→Pv i σ H→J.yld i H x H'→g x σ H' fun σ2 H2=>tb { D with nx:=Pv (i+1),ct:=Pv (i+1),bk:=D.nx } σ2 H2) (hd:∀ σ H,Pv n σ H→D.nx σ H):ic J g tb D σ H:=by
 refine⟨fun i m σ H=>m=n - i∧i≤n∧Pv i σ H,⟨n,by simp,Nat.zero_le _,h0⟩,?_⟩
 rintro i m σ H ⟨rfl,hi,p⟩
 by_cases hlt:i<n
 ·exact .inr ⟨hgo i σ H hlt p,Pv (i+1),fun σ' H' p'=>⟨n - (i+1),by omega,rfl,hlt,p'⟩,fun x H' y=>hs i σ H x H' hlt p y⟩
 ·have e:i=n:=by omega
  subst e
  exact .inl ⟨hst σ H p,hd σ H p⟩
theorem d_{K:PySem.W.Frag}{a:Addr}{xs:List V}{g:TG}{tb:TS}{D:dm}{σ : St}{H:Hp}(Pv:Nat→St→Hp→Prop)(h0:Pv 0 σ H)(hl:∀ i σ H,i≤xs.length→Pv i σ H→SqL K H a xs)
  (hs:∀ i x σ H,xs[i]? = some x→Pv i σ H→g x σ H fun σ2 H2=>tb { D with nx:=Pv (i+1),ct:=Pv (i+1),bk:=D.nx } σ2 H2) (hd:∀ σ H,Pv xs.length σ H→D.nx σ H):ic (lN K a) g tb D σ H:=
 vS Pv h0 hl hs hd
theorem rH{lo:Int}{n:Nat}{g:TG}{tb:TS}{D:dm}{σ : St}{H:Hp}(Pv:Nat→St→Hp→Prop)(h0:Pv 0 σ H)
  (hs:∀ i σ H,i<n→Pv i σ H→g (.int (lo+i)) σ H fun σ2 H2=>tb { D with nx:=Pv (i+1),ct:=Pv (i+1),bk:=D.nx } σ2 H2) (hd:∀ σ H,Pv n σ H→D.nx σ H):ic (jk lo n) g tb D σ H:=
 tT Pv h0 hs hd
def gq(n i:Nat)(Pv:Nat→List V→Hp→Prop)(D:Addr)(ys:List V)(y:V)(H:Hp):Prop:=
 H D=some (.lst ys)∧ys.length<sizeLine∧∃ m',m'<n - i∧(m'=n - (i+1)∧i+1≤n∧Pv (i+1) (ys++[y]) (upd H D (.lst (ys++[y]))))
theorem rf{n i:Nat}{Pv:Nat→List V→Hp→Prop}{D:Addr}{ys:List V}{y:V}{H:Hp}(hi:i<n)(hlen:ys.length=i)(hz:n≤sizeLine)(h1:H D=some (.lst ys))(h2:Pv (i+1) (ys++[y]) (upd H D (.lst (ys++[y])))):gq n i Pv D ys y H:=
 ⟨h1,by omega,n - (i+1),by omega,rfl,hi,h2⟩
def jh(n i:Nat)(Pv:Nat→List V→Hp→Prop)(D:Addr)(ys:List V)(te:TE)(σ : St)(H:Hp):Prop:=
 if true=true then te σ H (gq n i Pv D ys) else ∃ m',m'<n - i∧(m'=n - (i+1)∧i+1≤n∧Pv (i+1) ys H)
theorem mz{n i:Nat}{Pv:Nat→List V→Hp→Prop}{D:Addr}{ys:List V}{te:TE}{σ : St}{H:Hp}:jh n i Pv D ys te σ H=te σ H (gq n i Pv D ys):=by
 unfold jh; rw[if_pos rfl]
theorem oE{J:It}{g:TG}{te:TE}{nT:Nat}{σ : St}{D:Addr}{Q:VK}{H:Hp}(n:Nat)(Pv:Nat→List V→Hp→Prop)(h0:Pv 0 [] H)(hgo:∀ i ys H,i<n→Pv i ys H→J.go i H)(hst:∀ ys H,Pv n ys H→J.stop n H)
  (hs:∀ i ys H x H',i<n→Pv i ys H→J.yld i H x H'→g x (σ++List.replicate nT none) H' (jh n i Pv D ys te))
  (hd:∀ ys H,Pv n ys H→Q (.ref D) H):fb J g mR te nT σ D Q H:=by
 refine⟨fun i m ys H=>m=n - i∧i≤n∧Pv i ys H,⟨n,by simp,Nat.zero_le _,h0⟩,?_⟩
 rintro i m ys H ⟨rfl,hi,p⟩
 by_cases hlt:i<n
 ·exact .inr ⟨hgo i ys H hlt p,fun x H' y=>hs i ys H x H' hlt p y⟩
 ·have e:i=n:=by omega
  subst e
  exact .inl ⟨hst ys H p,hd ys H p⟩
theorem oY{lo:Int}{n:Nat}{g:TG}{te:TE}{nT:Nat}{σ : St}{D:Addr}{Q:VK}{H:Hp}(Pv:Nat→List V→Hp→Prop)(h0:Pv 0 [] H)
  (hs:∀ i ys H,i<n→Pv i ys H→g (.int (lo+i)) (σ++List.replicate nT none) H (jh n i Pv D ys te))
  (hd:∀ ys H,Pv n ys H→Q (.ref D) H):fb (jk lo n) g mR te nT σ D Q H:=by
 refine oE n Pv h0 (fun i ys H hi p=>hi) (fun ys H p=>Nat.le_refl _) (fun i ys H x H' hi p yl=>?_) hd
 obtain⟨rfl,rfl⟩:=yl
 exact hs i ys _ hi p
end L2
namespace L2
open PySem PySem.Spec PyProof.Rows
def y6(u:TS)(D:dm)(σ : St)(H:Hp):Prop:=u D σ H
section
variable{D:dm}{σ : St}{H:Hp}{Q:VK}{B:Bool→Hp→Prop}{L:List V→Hp→Prop}{R:It→Hp→Prop}{G:St→Hp→Prop}
theorem qp(t u:TS):yG t u D σ H=t { D with nx:=y6 u D } σ H:=rfl
theorem jV(u:TS):y6 u D σ H=u D σ H:=rfl
theorem nZ:wV D σ H=D.nx σ H:=rfl
theorem oJ:w9 D σ H=D.ct σ H:=rfl
theorem pP(c:TT)(t u:TS):yy c t u D σ H=c σ H fun b H1=>if b=true then t D σ H1 else u D σ H1:=rfl
theorem ql(t:TE):zU t D σ H=t σ H D.rt:=rfl
theorem mX(t:TE):xk t D σ H=t σ H fun _ H1=>D.nx σ H1:=rfl
theorem pB(t:TE)(g:TG):su t g D σ H=t σ H fun x H1=>g x σ H1 D.nx:=rfl
theorem ow(i:Nat)(v:V):gp i v σ H G=G (σ.set i (some v)) H:=rfl
theorem pX(vs:List V):rE vs σ H G=(vs=[]∧G σ H):=rfl
theorem oS(t:TG)(u:fu)(vs:List V):mj t u vs σ H G=∃ v r,vs=v::r∧t v σ H fun σ' H'=>u r σ' H' G:=rfl
theorem pA(K:PySem.W.Frag)(n:Nat)(t:fu)(v:V):sf K n t v σ H G=∃ a xs,v = .ref a∧SqT K H a xs∧xs.length=n∧t xs σ H G:=rfl
theorem pq(to ti:TE)(t:nL)(v:V):zx to ti t v σ H G=to σ H fun o H1=>ti σ H1 fun i H2=>t o i v H2 fun H3=>G σ H3:=rfl
theorem pK(i:Nat):vp i σ H Q=∃ v,σ[i]? = some (some v)∧Q v H:=rfl
theorem wQ(v:V):tC v σ H Q=Q v H:=rfl
theorem tD(r:R2)(ta tb:TE):uL r ta tb σ H Q=ta σ H fun x H1=>tb σ H1 fun y H2=>r x y H2 Q:=rfl
theorem sW(r:V→Hp→VK→Prop)(ta:TE):AN r ta σ H Q=ta σ H fun x H1=>r x H1 Q:=rfl
theorem mT(t:TE):rY t σ H B=t σ H fun x H'=>∃ k,x = .bl k∧B k H':=rfl
theorem wx(t:TE):tB t σ H B=t σ H fun x H'=>∃ k,x = .bl k∧B k H':=rfl
theorem pT(t u:TT):yo t u σ H B=t σ H fun c H1=>if c=true then u σ H1 B else B false H1:=rfl
theorem tL(t u:TT):AO t u σ H B=t σ H fun c H1=>if c=true then B true H1 else u σ H1 B:=rfl
theorem qD(t:TT):zQ t σ H B=t σ H fun c H1=>B (!c) H1:=rfl
theorem sP(t:TT)(ta tb:TE):AZ t ta tb σ H Q=t σ H fun c H1=>if c=true then ta σ H1 Q else tb σ H1 Q:=rfl
theorem uq(r:List V→Hp→VK→Prop)(t:TA):uy r t σ H Q=t σ H fun vs H1=>r vs H1 Q:=rfl
theorem mK(ta:TE)(tr:TA):wR ta tr σ H L=ta σ H fun x H1=>tr σ H1 fun xs H2=>L (x::xs) H2:=rfl
theorem pd:yK σ H L=L [] H:=rfl
theorem pN(t:TA):zF t σ H Q=t σ H fun xs H1=>xs.length≤sizeLine∧∀ p,H1 p=none→Q (.ref p) (upd H1 p (.tup xs)):=rfl
theorem qE(t:TA):zf t σ H Q=t σ H fun xs H1=>xs.length≤sizeLine∧∀ p,H1 p=none→Q (.ref p) (upd H1 p (.lst xs)):=rfl
theorem ms(sp:Sp)(dvs:List V)(E:XK)(t:TA):qP sp dvs E t σ H Q=t σ H fun vs H1=>sp (vs++dvs) H1 Q E:=rfl
theorem uj(K:PySem.W.Frag)(T:String)(r:V→List V→Hp→VK→Prop)(to:TE)(t:TA):yY K T r to t σ H Q=to σ H fun x H1=>ny K T x H1∧t σ H1 fun xs H2=>r x xs H2 Q:=rfl
theorem qm(K:PySem.W.Frag)(T:String)(r:V→List V→Hp→VK→Prop)(to:TE):vL K T r to σ H Q=to σ H fun x H1=>ny K T x H1∧r x [] H1 Q:=rfl
theorem ly(r r':R2)(ta tb tc:TE):t9 r r' ta tb tc σ H Q=ta σ H fun x H1=>tb σ H1 fun y H2=>r x y H2 fun z H3=>∃ k,z = .bl k∧(if k=true then tc σ H3 fun w' H4=>r' y w' H4 Q else Q (.bl false) H3):=rfl
theorem ut(r:V→Option Int→Option Int→Hp→VK→Prop)(te:TE)(tl th:TO):AU r te tl th σ H Q=te σ H fun x H1=>tl σ H1 fun l H2=>th σ H2 fun u H3=>r x l u H3 Q:=rfl
theorem oB(t:TE)(O:Option Int→Hp→Prop):wJ t σ H O=t σ H fun x H1=>∃ i,x = .int i∧O (some i) H1:=rfl
theorem jn(O:Option Int→Hp→Prop):pL σ H O=O none H:=rfl
theorem mG(wi:TI)(g:TG)(tc:TT)(te:TE)(nT:Nat):wU wi g tc te nT σ H Q=wi σ H fun J H1=>∀ D,H1 D=none→fb J g tc te nT σ D Q (upd H1 D (.lst [])):=rfl
theorem qG:mR σ H B=B true H:=rfl
theorem nS(K:PySem.W.Frag)(tl:TE):qL K tl σ H R=tl σ H fun x H1=>∃ a,x = .ref a∧(∃ xs,SqL K H1 a xs)∧R (lN K a) H1:=rfl
theorem oi(ta:TA):w_ ta σ H R=ta σ H fun vs H1=>∃ j:Int,vs=[.int j]∧-(2 ^ 62)≤j∧j<2 ^ 62∧R (jk 0 j.toNat) H1:=rfl
theorem tu(g:Int→Int→V)(i j:Int):lM g (.int i) (.int j) H Q=Q (g i j) H:=propext ⟨fun ⟨_,_,e1,e2,q⟩=>by cases e1; cases e2; exact q,fun q=>⟨i,j,rfl,rfl,q⟩⟩
theorem wO(C:Int→Int→Prop)(g:Int→Int→V)(i j:Int):rI C g (.int i) (.int j) H Q=(C i j∧Q (g i j) H):=propext ⟨fun ⟨_,_,e1,e2,q⟩=>by cases e1; cases e2; exact q,fun q=>⟨i,j,rfl,rfl,q⟩⟩
end
structure DefAt (K:PySem.W.Frag) (mg:Str→Option Value) (x:Str) (st:Stmt):Prop where
 ex:∃ f fd,Fun K x x st f fd∧mg x=some (.ref f)
structure aV (P:Program) (w:World) (K:PySem.W.Frag) (mg:Str→Option Value) (base:Heap) (k:Nat) (x:Str) (ps:List Str) (sp:Sp):Prop where
 ex:∃ f fd,FnOk P w K mg base ib k f fd ps sp∧Binds K fd ps []∧PySem.W.keepIn K (.ref f)=true∧mg x=some (.ref f)
section
variable{P:Program}{w:World}{K:PySem.W.Frag}{mg:Str→Option Value}{base:Heap}
theorem DefAt.cal{x:Str}{st:Stmt}{N ps:List Str}{k:Nat}{sp:Sp}(D:DefAt K mg x st)(S:aO N ps (defScope st))
  (hb:∀ (kV doc pm:Value) (an:Option Addr) (cdv ct:Value) (us:List Value),us.length=ps.length→bindArgs (PySem.W.fnOf x x (defArgs st) (defBody st) (defScope st) .none kV doc pm an cdv ct) ⟨us,[]⟩=pure (ps.zip us))
  (len:∀ vs H Q E,sp vs H Q E→vs.length=ps.length)
  (hbody:∀ (f:Addr) (cdv:Value) (A:Around) (outer:List Env) (s:Shared) (H:Hp) (vs:List V) (Q:VK) (E:XK),Room k (A.deeper (envOfC x (defScope st) s.heap.objs.size f cdv))→sp vs H Q E→
   ∃ t,PSs (gS ib P w K mg base N x (defScope st) f cdv A outer s H E).nox (defBody st) t∧t { nx:=fun _ H'=>Q .non H',rt:=Q } (start N vs) H):aV P w K mg base (k+1) x ps sp:=by
 obtain⟨f,fd,F,m⟩:=D.ex
 exact⟨f,fd,F.ok S len fun cdv A outer s H vs Q E hr h=>hbody f cdv A outer s H vs Q E hr h,F.binds hb,F.kp,m⟩
end
section
variable{X:Cx}
theorem aE{j k:Nat}{x:Str}{ps:List Str}{sp:Sp}{p pos:Pos}{e:Expr}{es:List Expr}{t:TA}(c:aV X.prog X.w X.K X.mg X.base j x ps sp)(hr:Room k X.A)(ha:PA X (e::es) t)(hle:j≤k:=by decide)(hg:Gl X x:=by rfl)
  (hdb:(x == ("__debug__" : Str))=false:=by decide) (he:starEach (e::es) X.env=(false,eval e X.env)::starEach es X.env:=by rfl) (hpl:(backTo pos (starEach es X.env)).any (·.1)=false:=by rfl) :
  PE X (.Call (.Name x p) (e::es) [] pos) (qP sp [] E0 t):=by
 obtain⟨f,fd,F,b,kp,m⟩:=c.ex
 exact xC F (hr.mono hle) hg m kp b .nil wC ha hdb he hpl
theorem jC{x:Str}{T:String}{pos:Pos}(hm:X.mg x=none)(hv:bootBuiltins x=some (.type T))(hg:Gl X x:=by rfl)(hn:x ≠ "__name__" := by decide) (hd:(x == ("__debug__" : Str))=false:=by decide):PE X (.Name x pos) (tC (.ty T)):=
 xv hg hm hv rfl hn hd
theorem bv{x:Str}{p pos:Pos}{e:Expr}{es:List Expr}{t:TA}{id:String}{r:List V→Hp→VK→Prop}(hc:CallR X (.builtin id) r)(hm:X.mg x=none)(hv:bootBuiltins x=some (.builtin id))(ha:PA X (e::es) t)(hg:Gl X x:=by rfl)
  (hn:x ≠ "__name__" := by decide) (hdb:(x == ("__debug__" : Str))=false:=by decide) (he:starEach (e::es) X.env=(false,eval e X.env)::starEach es X.env:=by rfl) (hpl:(backTo pos (starEach es X.env)).any (·.1)=false:=by rfl) :
  PE X (.Call (.Name x p) (e::es) [] pos) (uy r t):=vQ hc hg hm hv ha hn hdb he hpl
theorem fK{x:Str}{p pos:Pos}{e:Expr}{es:List Expr}{t:TA}{T:String}{r:List V→Hp→VK→Prop}(hc:CallR X (.type T) r)(hm:X.mg x=none)(hv:bootBuiltins x=some (.type T))(ha:PA X (e::es) t)(hg:Gl X x:=by rfl)
  (hn:x ≠ "__name__" := by decide) (hdb:(x == ("__debug__" : Str))=false:=by decide) (he:starEach (e::es) X.env=(false,eval e X.env)::starEach es X.env:=by rfl) (hpl:(backTo pos (starEach es X.env)).any (·.1)=false:=by rfl) :
  PE X (.Call (.Name x p) (e::es) [] pos) (uy r t):=tW hc hg hm hv ha hn hdb he hpl
end
section
variable{X:Cx}
def l_:R2:=fun x y H Q=>match x,y with
 | .int i,.int j=>Q (.int (i+j)) H
 | .str a,.str b=>a.length+b.length≤sizeLine∧Q (.str (a++b)) H
 | .ref l,.ref b=>∃ xs zs,H l=some (.lst xs)∧H b=some (.lst zs)∧xs.length+zs.length≤sizeLine∧∀ p,H p=none→Q (.ref p) (upd H p (.lst (xs++zs)))
 | _,_=>False
theorem az:OpR X (binaryOp .Add) l_:=by
 intro pins s σ H x y v u Q I rx ry h
 cases x <;> cases y <;> first
  | exact(show False from h).elim
  | exact Ah pins s σ H _ _ v u Q I rx ry ⟨_,_,rfl,rfl,h⟩
  | exact rT pins s σ H _ _ v u Q I rx ry ⟨_,_,rfl,rfl,h⟩
  | (obtain⟨xs,zs,h1,h2,h3,h4⟩:=h; exact zH pins s σ H _ _ v u Q I rx ry ⟨_,_,xs,zs,rfl,rfl,h1,h2,h3,h4⟩)
def v0:R2:=fun x y H Q=>match x,y with
 | .int i,.int j=>Q (.bl (decide (i<j))) H
 | .str i,.str j=>Q (.bl (decide (i.cps.toList<j.cps.toList))) H
 | _,_=>False
theorem dR:OpR X (compareOp .Lt) v0:=by
 intro pins s σ H x y v u Q I rx ry h
 cases x <;> cases y <;> first
  | exact(show False from h).elim
  | exact Aj pins s σ H _ _ v u Q I rx ry ⟨_,_,rfl,rfl,h⟩
  | exact tU pins s σ H _ _ v u Q I rx ry ⟨_,_,rfl,rfl,h⟩
def mi(K:PySem.W.Frag):List V→Hp→VK→Prop:=fun xs H Q=>match xs with
 | [.str z]=>z.length≤sizeLine∧Q (.int z.length) H
 | [.ref p]=>∃ ys,(SqL K H p ys∨SqT K H p ys)∧Q (.int ys.length) H
 | _=>False
theorem tf:CallR X (.builtin "len") (mi X.K):=by
 intro pins s σ H xs us Q I r h
 match xs,h with
 | [.str z],h=>exact oO pins s σ H _ us Q I r ⟨z,rfl,h⟩
 | [.ref p],h=>obtain⟨ys,h1,h2⟩:=h; exact mQ pins s σ H _ us Q I r ⟨p,ys,rfl,h1,h2⟩
def mH(K:PySem.W.Frag):R2:=fun x y H Q=>match x,y with
 | .ref p,.int i=>∃ xs v,(SqL K H p xs∨SqT K H p xs)∧cY xs i=some v∧Q v H
 | .str z,.int i=>∃ c,z.length≤sizeLine∧cY z.cps.toList i=some c∧Q (.str ⟨#[c]⟩) H
 | _,_=>False
theorem Bn:IxR X (mH X.K):=by
 intro value slice pins s σ H x y v u Q I rx ry h hs
 refine zN value slice pins s σ H x y v u Q I rx ry ?_ hs
 match x,y,h with
 | .ref p,.int i,h=>
  obtain⟨xs,v',h1,h2,h3⟩:=h
  rcases h1 with h1 | h1
  ·exact .inl ⟨p,xs,i,v',rfl,rfl,h1,h2,h3⟩
  ·exact .inr (.inl ⟨p,xs,i,v',rfl,rfl,h1,h2,h3⟩)
 | .str z,.int i,h=>
  obtain⟨c,h1,h2,h3⟩:=h
  exact .inr (.inr ⟨z,i,c,rfl,rfl,h1,h2,h3⟩)
end
section
variable{K:PySem.W.Frag}{H:Hp}{Q:VK}
theorem k_(i j:Int):l_ (.int i) (.int j) H Q=Q (.int (i+j)) H:=rfl
theorem li(a b:Str):l_ (.str a) (.str b) H Q=(a.length+b.length≤sizeLine∧Q (.str (a++b)) H):=rfl
theorem gJ(l b:Addr):l_ (.ref l) (.ref b) H Q=∃ xs zs,H l=some (.lst xs)∧H b=some (.lst zs)∧xs.length+zs.length≤sizeLine∧∀ p,H p=none→Q (.ref p) (upd H p (.lst (xs++zs))):=rfl
theorem oG(i j:Int):v0 (.int i) (.int j) H Q=Q (.bl (decide (i<j))) H:=rfl
theorem mS(i j:Str):v0 (.str i) (.str j) H Q=Q (.bl (decide (i.cps.toList<j.cps.toList))) H:=rfl
theorem kC(z:Str):mi K [.str z] H Q=(z.length≤sizeLine∧Q (.int z.length) H):=rfl
theorem lH(p:Addr):mi K [.ref p] H Q=∃ ys,(SqL K H p ys∨SqT K H p ys)∧Q (.int ys.length) H:=rfl
theorem og(p:Addr)(i:Int):mH K (.ref p) (.int i) H Q=∃ xs v,(SqL K H p xs∨SqT K H p xs)∧cY xs i=some v∧Q v H:=rfl
theorem mY(z:Str)(i:Int):mH K (.str z) (.int i) H Q=∃ c,z.length≤sizeLine∧cY z.cps.toList i=some c∧Q (.str ⟨#[c]⟩) H:=rfl
theorem jq(p:Addr)(y:V):j8 (.ref p) [y] H Q=∃ xs,H p=some (.lst xs)∧xs.length<sizeLine∧Q .non (upd H p (.lst (xs++[y]))):=
 propext ⟨fun ⟨_,xs,_,e1,e2,q⟩=>by cases e1; cases e2; exact⟨xs,q⟩,fun ⟨xs,q⟩=>⟨p,xs,y,rfl,rfl,q⟩⟩
theorem nB(sep:Str)(p:Addr):rz K (.str sep) [.ref p] H Q=∃ ss,SqL K H p (ss.map V.str)∧(ss.map (·.length)).sum+ss.length * sep.length≤16777216∧Q (.str (Txt.join sep ss)) H:=
 propext ⟨fun ⟨_,_,ss,e1,e2,q⟩=>by cases e1; cases e2; exact⟨ss,q⟩,fun ⟨ss,q⟩=>⟨sep,p,ss,rfl,rfl,q⟩⟩
theorem p6(y:Str):ny K "str" (.str y) H=True:=eq_true rfl
theorem pj(p:Addr):(ny K "list" (.ref p) H)=∃ xs,SqL K H p xs:=by
 refine propext ⟨fun h=>?_,fun h=>.inl ⟨rfl,h⟩⟩
 rcases h with ⟨_,h⟩ | ⟨h,_⟩ | ⟨h,_⟩ | ⟨h,_⟩
 ·exact h
 ·exact absurd h (by decide)
 ·exact absurd h (by decide)
 ·exact absurd h (by decide)
end
theorem bK:bootBuiltins "len" = some (.builtin "len"):=by decide +kernel
theorem dX:bootBuiltins "isinstance" = some (.builtin "isinstance"):=by decide +kernel
theorem mV:bootBuiltins "str" = some (.type "str"):=by decide +kernel
theorem uh:bootBuiltins "int" = some (.type "int"):=by decide +kernel
theorem ip:bootBuiltins "list" = some (.type "list"):=by decide +kernel
theorem i9:bootBuiltins "tuple" = some (.type "tuple"):=by decide +kernel
theorem aw{X:Cx}(i:Nat){x:Str}{e:Expr}{te:TE}{pos pos':Pos}(hN:X.N.Nodup)(he:PE X e te)(hi:X.N[i]? = some x:=by rfl)(hx:aS X.env.scope x:=by first | exact Or.inl rfl | exact Or.inr rfl)(hs:swapsWith e (some (.Name x pos')) pos.line X.env=pure false:=by rfl)
  (hf:X.fn x=true∨X.env.scope.names.lookup x=some .local:=by first | exact .inl rfl | exact .inr rfl | assumption):PS X (.Assign [.Name x pos'] e pos) (su te (gp i)):=zB hN hi hx he hs hf
theorem bH{X:Cx}(i:Nat){x:Str}{pos:Pos}(hN:X.N.Nodup)(hi:X.N[i]? = some x:=by rfl)(hx:aS X.env.scope x:=by first | exact Or.inl rfl | exact Or.inr rfl)
  (hf:X.fn x=true∨X.env.scope.names.lookup x=some .local:=by first | exact .inl rfl | exact .inr rfl | assumption):PG X (.Name x pos) (gp i):=xV hN hi hx hf
structure CompSc (fsc:Scope) (N N0 T:List Str) (scope:Scope):Prop where
 kind:scope.kind = .function
 nocell:∀ y∈scope.names,y.2 ≠ .cell
 names:∀ y∈scope.names,y.2 = .local→scope.names.lookup y.1=some .local
 free:∀ y∈scope.names,y.2 = .free→fsc.names.lookup y.1=some .cell∨fsc.names.lookup y.1=some .free
 apart:∀ y∈scope.names,y.2 = .local→y.1∉N0
 len0:N0.length=N.length
 same:((N0.zip N).all fun p=>p.1 == p.2 || !(scope.names.any fun y=>y.1 == p.1))=true
theorem CompSc.to{X:Cx}{fsc:Scope}{N N0 T:List Str}{scope:Scope}(S:CompSc fsc N N0 T scope)(h1:X.env.scope=fsc)(h2:X.N=N):h_ X N0 T scope:=by
 subst h1 h2
 refine⟨S.kind,S.nocell,S.names,S.free,S.apart,S.len0,fun i x k e m=>?_⟩
 have hl:=S.len0
 have hi:i<N0.length:=(List.getElem?_eq_some_iff.mp e).1
 have hN:X.N[i]? = some X.N[i]:=List.getElem?_eq_getElem (by omega)
 have hz:(x,X.N[i])∈N0.zip X.N:=List.mem_of_getElem? (i:=i) (by rw[List.getElem?_zip_eq_some]; exact⟨e,hN⟩)
 have q:=List.all_eq_true.mp S.same _ hz
 simp only[Bool.or_eq_true,beq_iff_eq,Bool.not_eq_true']at q
 rcases q with q | q
 ·rw[hN,← q]
 ·have:(scope.names.any fun y=>y.1 == x)=true:=List.any_eq_true.mpr ⟨_,m,by simp⟩
  rw[this]at q; cases q
def vD:R2:=AY
def u3:R2:=AR
theorem cm{X:Cx}:OpR X (compareOp .Eq) vD:=Ao
theorem fA{X:Cx}:OpR X (compareOp .NotEq) u3:=AG
section
variable{K:PySem.W.Frag}{H:Hp}{Q:VK}
theorem nY(i j:Int):vD (.int i) (.int j) H Q=Q (.bl (decide (i=j))) H:=by
 have e:decide (V.int i=V.int j)=decide (i=j):=by by_cases h:i=j <;> simp[h]
 show (jP (.int i) (.int j)=true∧Q (.bl (decide (V.int i=V.int j))) H)=_
 rw[e]; exact propext ⟨fun h=>h.2,fun h=>⟨rfl,h⟩⟩
theorem mC(i j:Str):vD (.str i) (.str j) H Q=Q (.bl (decide (i=j))) H:=by
 have e:decide (V.str i=V.str j)=decide (i=j):=by by_cases h:i=j <;> simp[h]
 show (jP (.str i) (.str j)=true∧Q (.bl (decide (V.str i=V.str j))) H)=_
 rw[e]; exact propext ⟨fun h=>h.2,fun h=>⟨rfl,h⟩⟩
theorem nP(i j:Int):u3 (.int i) (.int j) H Q=Q (.bl (!decide (i=j))) H:=by
 have e:decide (V.int i=V.int j)=decide (i=j):=by by_cases h:i=j <;> simp[h]
 show (jP (.int i) (.int j)=true∧Q (.bl (!decide (V.int i=V.int j))) H)=_
 rw[e]; exact propext ⟨fun h=>h.2,fun h=>⟨rfl,h⟩⟩
theorem oK(i j:Str):u3 (.str i) (.str j) H Q=Q (.bl (!decide (i=j))) H:=by
 have e:decide (V.str i=V.str j)=decide (i=j):=by by_cases h:i=j <;> simp[h]
 show (jP (.str i) (.str j)=true∧Q (.bl (!decide (V.str i=V.str j))) H)=_
 rw[e]; exact propext ⟨fun h=>h.2,fun h=>⟨rfl,h⟩⟩
end
section
variable{X:Cx}(K:PySem.W.Frag)
theorem aW(hK:X.K=K:=by rfl):CallR X (.builtin "len") (mi K):=hK ▸ tf
theorem ba(hK:X.K=K:=by rfl):IxR X (mH K):=hK ▸ Bn
theorem oQ(hK:X.K=K:=by rfl):MtR X "str.join" (rz K):=hK ▸ xE
theorem iQ(hK:X.K=K:=by rfl):SlR X (va K):=hK ▸ xX
theorem dI{tg l:Expr}{tl:TE}(hl:PE X l tl)(hK:X.K=K:=by rfl):PI X tg l (qL K tl):=hK ▸ xo hl
theorem eJ{es:List Expr}{k n:Nat}{t:fu}{pos:Pos}(h:PGs X es t)(hn:(assignEach es X.env).length=n:=by rfl)(hst:(assignEach es X.env).findIdx? (·.1)=none:=by rfl)(hK:X.K=K:=by rfl)(hc:X.calm=true:=by rfl):PG X (.Tuple es k pos) (sf K n t):=hK ▸ yO hc h hn hst
theorem bt{o e:Expr}{es:List Expr}{to:TE}{t:TA}{name:Str}{apos cpos:Pos}{T id:String}{r:V→List V→Hp→VK→Prop}(pa:PlainAttrs T)(slot:Slot T name id)(hty:typeOf (.builtin id)=pure (.type "method_descriptor")) (hm:MtR X id r) (ho:PE X o to) (ha:PA X (e::es) t)
  (hbase:attributeBase o name X.env (eval o X.env)=eval o X.env:=by rfl)
  (hfew:((backTo cpos (starEach (e::es) X.env)).all (fun x=>!x.1)&&(backToKw cpos (keywordEach [] X.env)).all (fun x=>x.1.isSome)&&decide ((e::es).length+([]:List Keyword).length+(if ([]:List Keyword).isEmpty then 0 else 1)<30))=true:=by rfl)
  (hline:(apos.endLine == cpos.line)=true:=by rfl) (hs:starEach (e::es) X.env=(false,eval e X.env)::starEach es X.env:=by rfl) (hplain:(backTo cpos (starEach es X.env)).any (·.1)=false:=by rfl) (hK:X.K=K:=by rfl) :
  PE X (.Call (.Attribute o name apos) (e::es) [] cpos) (yY K T r to t):=hK ▸ AE pa slot hty hm ho ha hbase hfew hline hs hplain
theorem o0(hK:X.K=K:=by rfl):CallR X (.type "tuple") (fun xs H Q=>∃ p ys,xs=[.ref p]∧((SqL K H p ys∧∀ l,H l=none→Q (.ref l) (upd H l (.tup ys)))∨(SqT K H p ys∧Q (.ref p) H))):=hK ▸ lR
end
theorem uk(n:Int)(P:Int→Prop):(∃ j,[V.int n]=[V.int j]∧P j)=P n:=propext ⟨fun ⟨_,e,h⟩=>by cases e; exact h,fun h=>⟨n,rfl,h⟩⟩
theorem pF(x:V)(xs:List V)(P:V→List V→Prop):(∃ v r,x::xs=v::r∧P v r)=P x xs:=propext ⟨fun ⟨_,_,e,h⟩=>by cases e; exact h,fun h=>⟨x,xs,rfl,h⟩⟩
def eO(scope fsc:Scope):Scope:={ scope with names:=scope.names.map fun (n,k)=>if (k == .free&&fsc.kind == .function&&fsc.names.lookup n == some .cell) then (n,.cell) else (n,k) }
section
variable{X:Cx}{N0 T:List Str}{scope:Scope}{C:Addr}{fp:List Addr}{s:Shared}{H:Hp}{x:Str}
theorem DM(fsc:Scope)(h:(eO scope fsc).names.lookup x=some .globalImplicit)(e:X.env.scope=fsc:=by rfl):Gl (b8 X N0 T scope C fp s H) x:=by subst e; exact h
theorem dZ(fsc:Scope)(h:((eO scope fsc).names.lookup x=some .local||(eO scope fsc).names.lookup x=some .cell||(eO scope fsc).names.lookup x=some .free)=true)(e:X.env.scope=fsc:=by rfl):au (b8 X N0 T scope C fp s H).env.scope x:=by
 subst e
 simp only[Bool.or_eq_true,decide_eq_true_eq]at h
 rcases h with (h | h) | h
 ·exact .inl h
 ·exact .inr (.inl h)
 ·exact .inr (.inr h)
theorem i0(fsc:Scope)(h:(eO scope fsc).names.lookup x=some .local)(e:X.env.scope=fsc:=by rfl):aS (b8 X N0 T scope C fp s H).env.scope x:=by subst e; exact .inl h
theorem nQ(fsc:Scope)(h:(eO scope fsc).names.lookup x=some .local)(e:X.env.scope=fsc:=by rfl):(b8 X N0 T scope C fp s H).fn x=true∨(b8 X N0 T scope C fp s H).env.scope.names.lookup x=some .local:=by subst e; exact .inr h
end
theorem a_{X:Cx}:MtR X "list.append" j8:=lv
theorem PW.pt'{X:Cx}{e:Expr}{t:TT}(h:PW X e t):PT X e t:=h.pt
theorem i_{σ : St}{H:Hp}{Q:List (V × V)→Hp→Prop}:ie [] σ H Q=Q [] H:=rfl
theorem iE{σ : St}{H:Hp}{Q:List (V × V)→Hp→Prop}(tk tv:TE)(r:List (TE × TE)):ie ((tk,tv)::r) σ H Q=tk σ H fun x H1=>tv σ H1 fun y H2=>ie r σ H2 fun ps H3=>Q ((x,y)::ps) H3:=rfl
theorem Same.upd{H H':Hp}{p:Addr}(sm:Same H H')(h:H p=none)(o:HO):Same H (upd H' p o):=fun b u q=>by rw[af (aq q h)]; exact sm b u q
theorem am{H:Hp}{p:Addr}(h:H p=none)(o:HO):Same H (upd H p o):=fun b u q=>by rw[af (aq q h)]; exact q
end L2
namespace L2
open PySem PySem.Spec PyProof.Rows PySem.SeqAt
def EqN(K:PySem.W.Frag)(H:Hp):Nat→V→V→Bool→Prop
 | 0,x,y,b=>dC x=true∧dC y=true∧b=iH x y
 | n+1,x,y,b=>(dC x=true∧dC y=true∧b=iH x y)∨∃ a c xs ys,x = .ref a∧y = .ref c∧((SqL K H a xs∧SqL K H c ys)∨(SqT K H a xs∧SqT K H c ys))∧
   ((∃ e:Nat→Bool,xs.length=ys.length∧(∀ (i:Nat) x y,xs[i]? = some x→ys[i]? = some y→EqN K H n x y (e i))∧b=(List.range xs.length).all e)∨
    (SqL K H a xs∧SqL K H c ys∧xs.length≠ys.length∧b=false))
theorem iX:∀ {x:V},dC x=true→iH x x=true
 | .non,_=>rfl
 | .bl b,_=>by simp[iH]
 | .int i,_=>by simp[iH]
 | .str y,_=>by simp[iH]
section
variable{X:Cx}{pins:List (Addr × Obj)}{σ : St}{H:Hp}{s:Shared}
theorem EqN.self(I:Inv X pins σ H s):∀ {n:Nat} {x:V} {b:Bool},EqN X.K H n x x b→b=true
 | 0,x,b,h=>by obtain⟨h1,_,rfl⟩:=h; exact iX h1
 | n+1,x,b,h=>by
  rcases h with ⟨h1,_,rfl⟩ | ⟨a,c,xs,ys,rfl,e,hq,h⟩
  ·exact iX h1
  ·cases e
   have exy:xs=ys:=by
    rcases hq with ⟨q1,q2⟩ | ⟨q1,q2⟩
    ·exact I.list_inj q1 q2
    ·exact I.tuple_inj q1 q2
   subst exy
   rcases h with ⟨e,_,he,rfl⟩ | ⟨_,_,z,_⟩
   ·rw[List.all_eq_true]
    intro i hi
    have hi':=List.mem_range.mp hi
    have q:=he i xs[i] xs[i] (List.getElem?_eq_getElem hi') (List.getElem?_eq_getElem hi')
    exact EqN.self I q
   ·exact absurd rfl z
theorem EqN.rc(I:Inv X pins σ H s){n:Nat}(ih:∀ {A:Around} {x y:V} {b:Bool} {u v:Value},A.units+n<cLine→EqN X.K H n x y b→RelV x u→RelV y v→EqAt A s u v b)
  {A:Around} {a c:Addr} {xs ys:List V} {b:Bool} (hu:A.units+(n+1)<cLine) (hq:(SqL X.K H a xs∧SqL X.K H c ys)∨(SqT X.K H a xs∧SqT X.K H c ys))
  (h:(∃ e:Nat→Bool,xs.length=ys.length∧(∀ (i:Nat) x y,xs[i]? = some x→ys[i]? = some y→EqN X.K H n x y (e i))∧b=(List.range xs.length).all e)∨(SqL X.K H a xs∧SqL X.K H c ys∧xs.length≠ys.length∧b=false)) :
  RcAt A s (.ref a) (.ref c) b∧RcNeAt A s (.ref a) (.ref c) (!b):=by
 have hin:A.in1.units+n<cLine:=by
  have:A.in1.units=A.units+1:=rfl
  omega
 rcases h with ⟨e,hl,he,rfl⟩ | ⟨q1,q2,hl,rfl⟩
 ·rcases hq with ⟨q1,q2⟩ | ⟨q1,q2⟩
  ·obtain⟨i1,r1,p1,z1⟩:=I.list q1
   obtain⟨i2,r2,p2,z2⟩:=I.list q2
   have l1:=r1.length
   have l2:=r2.length
   have hit:∀ j (h1:j<i1.toArray.size) (h2:j<i2.toArray.size),EqAt A.in1 s i1.toArray[j] i2.toArray[j] (e j):=fun j h1 h2=>by
    obtain⟨x,hx,rx⟩:=r1.of (i:=j) (u:=i1.toArray[j]) (by simp at h1 ⊢)
    obtain⟨y,hy,ry⟩:=r2.of (i:=j) (u:=i2.toArray[j]) (by simp at h2 ⊢)
    exact ih hin (he j x y hx hy) rx ry
   have ez:xs.length=i1.toArray.size:=by simp; omega
   rw[ez]
   exact⟨RcAt.lists p1.isList p2.isList (by simp; omega) (by omega) hit,RcNeAt.lists p1.isList p2.isList (by simp; omega) (by omega) hit⟩
  ·obtain⟨i1,r1,p1,z1⟩:=I.tuple q1
   obtain⟨i2,r2,p2,z2⟩:=I.tuple q2
   have l1:=r1.length
   have l2:=r2.length
   have hit:∀ j (h1:j<i1.toArray.size) (h2:j<i2.toArray.size),EqAt A.in1 s i1.toArray[j] i2.toArray[j] (e j):=fun j h1 h2=>by
    obtain⟨x,hx,rx⟩:=r1.of (i:=j) (u:=i1.toArray[j]) (by simp at h1 ⊢)
    obtain⟨y,hy,ry⟩:=r2.of (i:=j) (u:=i2.toArray[j]) (by simp at h2 ⊢)
    exact ih hin (he j x y hx hy) rx ry
   have ez:(List.range xs.length).all e=((List.range (min i1.toArray.size i2.toArray.size)).all e&&i1.toArray.size == i2.toArray.size):=by
    have e1:i1.toArray.size=xs.length:=by simp; omega
    have e2:i2.toArray.size=xs.length:=by simp; omega
    rw[e1,e2,Nat.min_self]; simp
   rw[ez]
   exact⟨RcAt.tuples (show s.heap.IsTuple a i1.toArray from p1) (show s.heap.IsTuple c i2.toArray from p2) (by omega) hit,RcNeAt.tuples (show s.heap.IsTuple a i1.toArray from p1) (show s.heap.IsTuple c i2.toArray from p2) (by omega) hit⟩
 ·obtain⟨i1,r1,p1,z1⟩:=I.list q1
  obtain⟨i2,r2,p2,z2⟩:=I.list q2
  have l1:=r1.length
  have l2:=r2.length
  have hne:(i1.toArray.size != i2.toArray.size)=true:=by
   rw[bne_iff_ne]; simp; omega
  exact⟨RcAt.lists_lengths p1.isList p2.isList hne (by omega),RcNeAt.lists_lengths p1.isList p2.isList hne (by omega)⟩
theorem EqN.at(I:Inv X pins σ H s):∀ {n:Nat} {A:Around} {x y:V} {b:Bool} {u v:Value},A.units+n<cLine→EqN X.K H n x y b→RelV x u→RelV y v→EqAt A s u v b
 | 0,A,x,y,b,u,v,_,h,rx,ry=>by obtain⟨h1,h2,rfl⟩:=h; exact oC rx ry h1 h2
 | n+1,A,x,y,b,u,v,hu,h,rx,ry=>by
  have h0:=h
  rcases h with ⟨h1,h2,rfl⟩ | ⟨a,c,xs,ys,rfl,rfl,hq,h⟩
  ·exact oC rx ry h1 h2
  ·cases rx
   cases ry
   by_cases hac:a=c
   ·subst hac
    rw[EqN.self I h0]
    exact EqAt.same _
   ·exact EqAt.of_refs hac (EqN.rc I (fun hu' q rx ry=>EqN.at I hu' q rx ry) hu hq h).1
end
section
variable{X:Cx}
def wm(K:PySem.W.Frag):R2:=fun x y H Q=>∃ (a c:Addr) (n:Nat) (b:Bool),x = .ref a∧y = .ref c∧n≤100∧EqN K H (n+1) x y b∧Q (.bl b) H
def vq(K:PySem.W.Frag):R2:=fun x y H Q=>∃ (a c:Addr) (n:Nat) (b:Bool),x = .ref a∧y = .ref c∧n≤100∧EqN K H (n+1) x y b∧Q (.bl (!b)) H
theorem Ab(hu:X.A.units+101<cLine):OpR X (compareOp .Eq) (wm X.K):=by
 intro pins s σ H x y v u Q I rx ry h
 obtain⟨a,c,n,b,rfl,rfl,hn,he,q⟩:=h
 cases rx
 cases ry
 rcases he with ⟨h1,_⟩ | ⟨a',c',xs,ys,e1,e2,hq,h⟩
 ·cases h1
 ·cases e1
  cases e2
  exact(EqN.rc I (fun hu' q rx ry=>EqN.at I hu' q rx ry) (by omega) hq h).1 _ _ _ _ ⟨.bl b,H,I,rfl,q⟩
theorem yc(hu:X.A.units+101<cLine):OpR X (compareOp .NotEq) (vq X.K):=by
 intro pins s σ H x y v u Q I rx ry h
 obtain⟨a,c,n,b,rfl,rfl,hn,he,q⟩:=h
 cases rx
 cases ry
 rcases he with ⟨h1,_⟩ | ⟨a',c',xs,ys,e1,e2,hq,h⟩
 ·cases h1
 ·cases e1
  cases e2
  exact(EqN.rc I (fun hu' q rx ry=>EqN.at I hu' q rx ry) (by omega) hq h).2 _ _ _ _ ⟨.bl (!b),H,I,rfl,q⟩
theorem j6(K:PySem.W.Frag){k:Nat}(hr:Room k X.A)(hK:X.K=K:=by rfl):OpR X (compareOp .Eq) (wm K):=by subst hK; exact Ab (by have:=hr.un; omega)
theorem jW(K:PySem.W.Frag){k:Nat}(hr:Room k X.A)(hK:X.K=K:=by rfl):OpR X (compareOp .NotEq) (vq K):=by subst hK; exact yc (by have:=hr.un; omega)
end
section
variable{K:PySem.W.Frag}{H:Hp}{Q:VK}
theorem qc(a c:Addr):wm K (.ref a) (.ref c) H Q=∃ (n:Nat) (b:Bool),n≤100∧EqN K H (n+1) (.ref a) (.ref c) b∧Q (.bl b) H:=
 propext ⟨fun ⟨_,_,n,b,e1,e2,q⟩=>⟨n,b,q⟩,fun ⟨n,b,q⟩=>⟨a,c,n,b,rfl,rfl,q⟩⟩
theorem pH(a c:Addr):vq K (.ref a) (.ref c) H Q=∃ (n:Nat) (b:Bool),n≤100∧EqN K H (n+1) (.ref a) (.ref c) b∧Q (.bl (!b)) H:=
 propext ⟨fun ⟨_,_,n,b,e1,e2,q⟩=>⟨n,b,q⟩,fun ⟨n,b,q⟩=>⟨a,c,n,b,rfl,rfl,q⟩⟩
theorem EqN.flat{n:Nat}{x y:V}(hx:dC x=true)(hy:dC y=true):EqN K H n x y (iH x y):=by
 cases n with
 | zero=>exact⟨hx,hy,rfl⟩
 | succ n=>exact .inl ⟨hx,hy,rfl⟩
theorem EqN.refl{n:Nat}{x:V}(hx:dC x=true):EqN K H n x x true:=by
 have q:EqN K H n x x (iH x x):=EqN.flat hx hx
 rwa [iX hx]at q
theorem EqN.seq{n:Nat}{a c:Addr}{xs ys:List V}(hq:(SqL K H a xs∧SqL K H c ys)∨(SqT K H a xs∧SqT K H c ys))(hl:xs.length=ys.length)(he:∀ (i:Nat) x y,xs[i]? = some x→ys[i]? = some y→EqN K H n x y true):EqN K H (n+1) (.ref a) (.ref c) true:=
 .inr ⟨a,c,xs,ys,rfl,rfl,hq,.inl ⟨fun _=>true,hl,he,by simp⟩⟩
theorem EqN.seqFlat{n:Nat}{a c:Addr}{xs:List V}(hq:(SqL K H a xs∧SqL K H c xs)∨(SqT K H a xs∧SqT K H c xs))(hf:∀ x∈xs,dC x=true):EqN K H (n+1) (.ref a) (.ref c) true:=
 EqN.seq hq rfl fun i x y e1 e2=>by
  rw[e1]at e2; cases e2
  exact EqN.refl (hf x (List.mem_of_getElem? e1))
end
section
variable{X:Cx}
end
section
variable{X:Cx}
def y7:R2:=fun x y H Q=>y = .non∧Q (.bl (decide (x = .non))) H
theorem x8:OpR X (compareOp .Is) y7:=yP
def wF:List V→Hp→VK→Prop:=fun xs H Q=>∃ i,xs=[.int i]∧i.natAbs.log2<1920∧Q (.str (toString i)) H
theorem lA:CallR X (.type "str") wF:=gW
def w6:List V→Hp→VK→Prop:=fun xs H Q=>(∃ i,xs=[.int i]∧Q (.int i) H)∨∃ k,xs=[.bl k]∧Q (.int (if k then 1 else 0)) H
theorem lD:CallR X (.type "int") w6:=ui
def uI(K:PySem.W.Frag):List V→Hp→VK→Prop:=fun xs H Q=>∃ p ys,xs=[.ref p]∧((SqL K H p ys∧∀ l,H l=none→Q (.ref l) (upd H l (.tup ys)))∨(SqT K H p ys∧Q (.ref p) H))
theorem tZ(K:PySem.W.Frag)(hK:X.K=K:=by rfl):CallR X (.type "tuple") (uI K):=o0 K hK
def sd:R2:=fun x y H Q=>match x,y with
 | .int i,.int j=>CMul i j∧Q (.int (i * j)) H
 | .str z,.int n=>0≤n∧n≤4096∧z.length≤4096∧Q (.str (Txt.mul z n)) H
 | _,_=>False
theorem eK:OpR X (binaryOp .Mult) sd:=by
 intro pins s σ H x y v u Q I rx ry h
 match x,y,h with
 | .int i,.int j,h=>exact zT pins s σ H _ _ v u Q I rx ry ⟨_,_,rfl,rfl,h⟩
 | .str z,.int n,h=>
  obtain⟨t,rfl⟩:=rx
  obtain⟨t',rfl⟩:=ry
  obtain⟨h0,h1,h2,q⟩:=h
  exact SB.mul (mulOk_of 4096 4096 h2 (by omega) (by omega) (by decide) (by decide)) fun t' k=>⟨.str (Txt.mul z n),H,I.tok k,⟨t',rfl⟩,q⟩
end
section
variable{K:PySem.W.Frag}{H:Hp}{Q:VK}
theorem pU(x:V):y7 x .non H Q=Q (.bl (decide (x = .non))) H:=propext ⟨fun h=>h.2,fun h=>⟨rfl,h⟩⟩
theorem ol(i:Int):wF [.int i] H Q=(i.natAbs.log2<1920∧Q (.str (toString i)) H):=propext ⟨fun ⟨_,e,q⟩=>by cases e; exact q,fun q=>⟨i,rfl,q⟩⟩
theorem mx(k:Bool):w6 [.bl k] H Q=Q (.int (if k then 1 else 0)) H:=propext ⟨fun h=>by rcases h with ⟨_,e,q⟩ | ⟨_,e,q⟩ <;> cases e; exact q,fun q=>.inr ⟨k,rfl,q⟩⟩
theorem kH(p:Addr):uI K [.ref p] H Q=∃ ys,((SqL K H p ys∧∀ l,H l=none→Q (.ref l) (upd H l (.tup ys)))∨(SqT K H p ys∧Q (.ref p) H)):=propext ⟨fun ⟨_,ys,e,q⟩=>by cases e; exact⟨ys,q⟩,fun ⟨ys,q⟩=>⟨p,ys,rfl,q⟩⟩
theorem kI(i j:Int):sd (.int i) (.int j) H Q=(CMul i j∧Q (.int (i * j)) H):=rfl
theorem lz(z:Str)(n:Int):sd (.str z) (.int n) H Q=(0≤n∧n≤4096∧z.length≤4096∧Q (.str (Txt.mul z n)) H):=rfl
theorem pC(a:Addr)(lo hi:Option Int):va K (.ref a) lo hi H Q=∃ xs,SqL K H a xs∧∀ p,H p=none→Q (.ref p) (upd H p (.lst (dg xs lo hi))):=propext ⟨fun ⟨_,xs,e,q⟩=>by cases e; exact⟨xs,q⟩,fun ⟨xs,q⟩=>⟨a,xs,rfl,q⟩⟩
theorem wD(g:Int→V)(i:Int):rU g (.int i) H Q=Q (g i) H:=propext ⟨fun ⟨_,e,q⟩=>by cases e; exact q,fun q=>⟨i,rfl,q⟩⟩
end
theorem bO{n:Nat}(h:n≤1000000):n<sizeLine:=by
 have:sizeLine=16777216:=sizeLine_eq
 omega
theorem bg{n:Nat}(h:n≤1000000):n≤sizeLine:=Nat.le_of_lt (bO h)
theorem ub{α : Type}{f:α→V}{xs:List α}{i:Int}{x:α}(h0:0≤i)(h:xs[i.toNat]? = some x):cY (xs.map f) i=some (f x):=by
 have q:(xs.map f)[i.toNat]? = some (f x):=by rw[List.getElem?_map,h]; rfl
 have q':=bM q
 rwa [show ((i.toNat:Nat):Int)=i by omega]at q'
theorem eR{H H':Hp}{p:Addr}{o:HO}(h:upd H p o=H')(hp:H p=none):Same H H':=h ▸ am hp o
theorem gD{H H':Hp}{p:Addr}{o:HO}(h:upd H p o=H'):H' p=some o:=h ▸ ah
theorem vc{α β : Type}{f:α→β}(xs:List α)(x:α):xs.map f++[f x]=(xs++[x]).map f:=by rw[List.map_append]; rfl
end L2
namespace L2
open PySem PySem.Spec PyProof.Rows
theorem Inv.turnedL{X:Cx}{pins:List (Addr × Obj)}{σ : St}{H:Hp}{s:Shared}{h':Heap}{t':Nat}{ch:List Addr}(I:Inv X pins σ H s)(k:∀ b o,b∉ch→s.heap.get? b=some o→h'.get? b=some o)
  (hf:∀ b∈ch,fz X pins H b):Inv X pins σ H { s with heap:=h',toks:=t' }:=by
 have nit:∀ b u,H b=some u→b∉ch:=fun b u e z=>by rw[(hf b z).1]at e; cases e
 refine I.step (g':=s.gens) (d':=s.drawn) (ch:=ch) (fun b hb=>?_) (fun b o _ _ hc e _=>k b o hc e) (fun b o _ _ hc e _=>⟨o.slots,k b o hc e⟩) (fun _ _ _ _ n=>n)
  (fun b o hc e=>⟨o,k b o hc e⟩) (fun _ _ e=>e) (fun _ _ _ e=>e) (fun b ps e=>⟨#[],by rw[e]; simp⟩) (fun m hm=>?_) (fun b u e=>?_) I.bare
 ·obtain⟨_,f1,_,f3,f4,f5⟩:=hf b hb
  exact⟨f3,f1,f4,f5⟩
 ·obtain⟨o,es,ep,ho,r⟩:=hm
  exact⟨o,es,ep,k _ o (fun z=>(hf _ z).2.1 rfl) ho,r⟩
 ·refine(I.hok b u e).stay (fun c v hc q=>k c v ?_ q) (fun _ q=>q) fun _ _ q=>q
  rcases hc with z | z
  ·rw[z]; exact nit b u e
  ·exact nit c _ z
theorem Inv.turnedLaid{X:Cx}{pins:List (Addr × Obj)}{σ : St}{H:Hp}{s:Shared}{h':Heap}{t':Nat}{ch:List Addr}{a:Addr}{o:HO}(I:Inv X pins σ H s)(k:∀ b o,b∉ch→s.heap.get? b=some o→h'.get? b=some o)
  (hf:∀ b∈ch,fz X pins H b) (hp:s.heap.objs.size≤a) (new:ObjOk X.prog X.w (upd H a o) h' a o):Inv X pins σ (upd H a o) { s with heap:=h',toks:=t' }:=by
 have hn:H a=none:=I.hok.fresh hp
 have nit:∀ b u,H b=some u→b∉ch:=fun b u e z=>by rw[(hf b z).1]at e; cases e
 refine I.step (g':=s.gens) (d':=s.drawn) (ch:=ch) (fun b hb=>?_) (fun b o _ _ hc e _=>k b o hc e) (fun b o _ _ hc e _=>⟨o.slots,k b o hc e⟩) (fun b u _ q n=>?_)
  (fun b o hc e=>⟨o,k b o hc e⟩) (fun b xs q=>?_) (fun b u xs q=>?_) (fun b ps q=>⟨#[],?_⟩) (fun m hm=>?_) (fun b u e=>?_) I.bare
 ·obtain⟨_,f1,_,f3,f4,f5⟩:=hf b hb
  exact⟨f3,f1,f4,f5⟩
 ·rw[af (Nat.ne_of_lt (Nat.lt_of_lt_of_le (Heap.lt_size q) hp))]; exact n
 ·rw[af (aq q hn)]; exact q
 ·rw[af (aq q hn)]; exact q
 ·rw[af (aq q hn),q]; simp
 ·obtain⟨o,es,ep,ho,r⟩:=hm
  exact⟨o,es,ep,k _ o (fun z=>(hf _ z).2.1 rfl) ho,r⟩
 ·by_cases hb:b=a
  ·subst hb; rw[ah]at e; cases e; exact new
  ·rw[af hb]at e
   refine(I.hok b u e).stay (fun c v hc q=>k c v ?_ q) (fun c q=>by rw[af (aq q hn)]; exact q) fun c xs q=>by rw[af (aq q hn)]; exact q
   rcases hc with z | z
   ·rw[z]; exact nit b u e
   ·exact nit c _ z
structure uD (z TI TO i1 i2:Addr):Prop where
 TIz:TI≠z
 TOz:TO≠z
 i1z:i1≠z
 i2z:i2≠z
 TITO:TI≠TO
 TIi1:TI≠i1
 TIi2:TI≠i2
 TOi1:TO≠i1
 TOi2:TO≠i2
 i12:i1≠i2
theorem A8(n:Nat):uD (n+4) (n+2) (n+3) n (n+1):=⟨(show (@Ne Nat (n+2) (n+4):Prop) by omega),(show (@Ne Nat (n+3) (n+4):Prop) by omega),(show (@Ne Nat (n) (n+4):Prop) by omega),(show (@Ne Nat (n+1) (n+4):Prop) by omega),(show (@Ne Nat (n+2) (n+3):Prop) by omega),(show (@Ne Nat (n+2) (n):Prop) by omega),(show (@Ne Nat (n+2) (n+1):Prop) by omega),(show (@Ne Nat (n+3) (n):Prop) by omega),(show (@Ne Nat (n+3) (n+1):Prop) by omega),(show (@Ne Nat (n) (n+1):Prop) by omega)⟩
theorem mP:bootBuiltins "zip" = some (.type "zip"):=by decide +kernel
theorem mE(n m:Addr)(P:Addr→Addr→Prop):(∃ i j,[V.ref n,V.ref m]=[V.ref i,V.ref j]∧P i j)=P n m:=propext ⟨fun ⟨_,_,e,h⟩=>by cases e; exact h,fun h=>⟨n,m,rfl,h⟩⟩
section
variable{X:Cx}
end
section
variable{σ : St}{H:Hp}{Q:VK}
end
end L2
namespace L2
open PySem PySem.Spec PyProof.Rows
def tP(K:PySem.W.Frag)(a:Addr):It:=
  ⟨fun i H=>∃ xs x,SqL K H a xs∧xs[i]? = some x,
   fun i H v H'=>∃ t x,H t=none∧v = .ref t∧H'=upd H t (.tup [.int i,x])∧∀ xs,SqL K H a xs→xs[i]? = some x,
   fun i H=>∃ xs,SqL K H a xs∧xs.length≤i⟩
def DJ(e it l:Addr)(i:Nat)(h:Heap):Prop:=(∃ old,IsEnum h e it i old)∧h.IsListIter it l i
theorem sU{P:Program}{w:World}{K:PySem.W.Frag}{elts:List Expr}{k:Nat}{pos:Pos}{e it l:Addr}(hei:e≠it):g_ P w K (.Tuple elts k pos) (tP K l) [e,it] e (DJ e it l) where
 mem:=by simp
 obj:=fun i h st b hb=>by
  obtain⟨⟨old,s1⟩,⟨o4,s4,c4,d4⟩⟩:=st
  simp only[List.mem_cons,List.mem_nil_iff,or_false]at hb
  rcases hb with rfl | rfl
  ·exact⟨_,s1,fun v e=>by cases e⟩
  ·exact⟨_,s4,fun v e=>by rw[d4]at e; cases e⟩
 keep:=fun i h h' st kk=>by
  obtain⟨⟨old,s1⟩,s4⟩:=st
  exact⟨⟨old,kk e (by simp) _ s1⟩,s4.at fun o z=>kk it (by simp) o z⟩
 item:=by
  intro X hP hw hK hc i pins s σ H E I hf st hg
  subst hP hw hK
  obtain⟨xs,x,q1,hx⟩:=hg
  obtain⟨is1,rv1,p1,_⟩:=I.list q1
  obtain⟨u1,hu1,ru1⟩:=rv1.get hx
  obtain⟨⟨old,s1⟩,s4⟩:=st
  refine wpAny_pyNext_enum_item s1 s4 p1.isList (x:=u1) (by simpa using hu1) hei fun h' a1 a3 a5 a6 kk=>?_
  refine⟨_,rfl,wpAny_letOwnedTupleGo_enum a1 fun h'' hz' hs'=>?_⟩
  have lt:∀ {c o},s.heap.get? c=some o→s.heap.objs.size≠c:=fun z=>Nat.ne_of_gt (Heap.lt_size z)
  have zne:s.heap.objs.size≠e:=lt s1
  have keep2:∀ b o,b∉[e,it]→s.heap.get? b=some o→h''.get? b=some o:=fun b o hb z=>by
   simp only[List.mem_cons,List.mem_nil_iff,or_false,not_or]at hb
   exact hs'.extBut _ _ hb.1 (kk b o hb.1 hb.2 z)
  have hsz:H s.heap.objs.size=none:=I.hok.fresh (Nat.le_refl _)
  have tupN:=hs'.extBut _ _ zne a5
  have nlt:∀ c∈[e,it],c≠s.heap.objs.size:=fun c hc'=>by
   obtain⟨o4,e4,_⟩:=id s4
   simp only[List.mem_cons,List.mem_nil_iff,or_false]at hc'
   rcases hc' with rfl | rfl
   ·exact(lt s1).symm
   ·exact(lt e4).symm
  refine⟨.ref s.heap.objs.size,upd H s.heap.objs.size (.tup [.int i,x]),I.turnedLaid (t':=s.toks+1) keep2 hf (Nat.le_refl _) ⟨bg (by show 2≤1000000; decide),[.int i s.toks,u1],.cons ⟨_,rfl⟩ (.cons ru1 .nil),⟨_,tupN,rfl,rfl,0,rfl⟩⟩,rfl,⟨_,x,hsz,rfl,rfl,fun xs' q'=>?_⟩,
   ⟨⟨_,by simpa using hz'⟩,a3.extBut hs'.extBut hei.symm⟩,fun c hc'=>?_⟩
  ·rw[I.list_inj q' q1]; exact hx
  ·rw[af (nlt c hc')]; exact(hf c hc').1
 done:=by
  intro X hP hw hK hc i pins s σ H E I hf st hg
  subst hP hw hK
  obtain⟨xs,q1,hlen⟩:=hg
  obtain⟨is1,rv1,p1,_⟩:=I.list q1
  have l1:=rv1.length
  obtain⟨⟨old,s1⟩,s4⟩:=st
  refine wpAny_pyNext_enum_end (I.ok.hd hc) s1 s4 p1.isList (by simp; omega) fun h' kk=>⟨rfl,I.turnedL (t':=s.toks) (fun b o hb z=>?_) hf⟩
  simp only[List.mem_cons,List.mem_nil_iff,or_false,not_or]at hb
  exact kk b o hb.2 z
 self:=fun A i s Q E st h=>by
  obtain⟨⟨old,s1⟩,_⟩:=st
  exact wpAny_pyIter_enum s1 h
theorem jL:bootBuiltins "enumerate" = some (.type "enumerate"):=by decide +kernel
def xf(K:PySem.W.Frag)(ta:TA):TI:=fun σ H R=>ta σ H fun vs H1=>∃ a:Addr,vs=[.ref a]∧(∃ xs,H1 a=some (.lst xs))∧R (tP K a) H1
theorem m6(K:PySem.W.Frag)(ta:TA){σ : St}{H:Hp}{R:It→Hp→Prop}:xf K ta σ H R=ta σ H fun vs H1=>∃ a:Addr,vs=[.ref a]∧(∃ xs,H1 a=some (.lst xs))∧R (tP K a) H1:=rfl
theorem qz(n:Addr)(P:Addr→Prop):(∃ i,[V.ref n]=[V.ref i]∧P i)=P n:=propext ⟨fun ⟨_,e,h⟩=>by cases e; exact h,fun h=>⟨n,rfl,h⟩⟩
theorem oN(K:PySem.W.Frag){X:Cx}{elts:List Expr}{k:Nat}{tpos:Pos}{a:Expr}{ta:TA}{p pos:Pos}(hg:Gl X "enumerate") (hm:X.mg "enumerate" = none) (ha:PA X [a] ta) (hs:starEach [a] X.env=[(false,eval a X.env)]:=by rfl) (hK:X.K=K:=by rfl) :
  PI X (.Tuple elts k tpos) (.Call (.Name "enumerate" p) [a] [] pos) (xf K ta):=by
 subst hK
 intro pins s σ H R I h
 refine Call_ (ef I hg hm jL (PyProof.Rows.callWith_type1 (bd (ha pos pins s σ H _ I h) fun us s1 ⟨vs,H1,I1,r1,q1⟩=>?_) hs rfl))
 obtain⟨l,e,⟨xs,h1⟩,q⟩:=q1
 subst e
 obtain⟨u1,rfl,r1'⟩:=dB r1
 obtain rfl:u1=Value.ref l:=r1'
 obtain⟨hz,its,n,rv,hl⟩ : xs.length≤sizeLine∧∃ (its:List Value) (n:Nat),Vals xs its∧s1.heap.get? l=some { cls:=.type "list", data:=.seq its.toArray n }:=I1.hok l _ h1
 refine call_enumerate_1 hl fun h' a1 a4 a6 kk=>?_
 refine wpAny_pyIter_enum a1 ⟨_,[s1.heap.objs.size+1,s1.heap.objs.size],_,_,H1,rfl,I1.kept (t':=s1.toks) kk,
  sU (e:=s1.heap.objs.size+1) (it:=s1.heap.objs.size) (Nat.ne_of_gt (Nat.lt_succ_self _)),⟨⟨_,a1⟩,a4⟩,fun b hb=>?_,q⟩
 have hb':s1.heap.objs.size≤b:=by
  simp only[List.mem_cons,List.mem_nil_iff,or_false]at hb
  rcases hb with rfl | rfl <;> first | exact Nat.le_refl _ | exact Nat.le_add_right _ _
 exact I1.fpOk hb' (I1.hok.fresh hb')
section
variable{K:PySem.W.Frag}{a b:Addr}{xs ys:List V}{g:TG}{te:TE}{nT:Nat}{σ : St}{D:Addr}{Q:VK}{H:Hp}
theorem tJ{tb:TS}{D:dm}(Pv:Nat→St→Hp→Prop)(h0:Pv 0 σ H)(hl:∀ i σ H,i≤xs.length→Pv i σ H→SqL K H a xs)
  (hs:∀ i x t σ H,xs[i]? = some x→Pv i σ H→H t=none→g (.ref t) σ (upd H t (.tup [.int i,x])) fun σ2 H2=>tb { D with nx:=Pv (i+1),ct:=Pv (i+1),bk:=D.nx } σ2 H2) (hd:∀ σ H,Pv xs.length σ H→D.nx σ H):ic (tP K a) g tb D σ H:=by
 refine iq xs.length Pv h0 (fun i σ H hi p=>⟨xs,xs[i],hl i σ H (Nat.le_of_lt hi) p,by simp[hi]⟩) (fun σ H p=>⟨xs,hl _ σ H (Nat.le_refl _) p,Nat.le_refl _⟩) (fun i σ H v H' hi p yl=>?_) hd
 obtain⟨t,x,ht,rfl,rfl,y1⟩:=yl
 exact hs i x t σ H (y1 xs (hl i σ H (Nat.le_of_lt hi) p)) p ht
def rL(n i:Nat)(Pv:Nat→List V→Hp→Prop)(ys:List V)(H:Hp):Prop:=∃ m',m'<n - i∧(m'=n - (i+1)∧i+1≤n∧Pv (i+1) ys H)
theorem sF{n i:Nat}{Pv:Nat→List V→Hp→Prop}{ys:List V}{H:Hp}(hi:i<n)(h:Pv (i+1) ys H):rL n i Pv ys H:=⟨n - (i+1),by omega,rfl,hi,h⟩
theorem nH{n i:Nat}{Pv:Nat→List V→Hp→Prop}{D:Addr}{ys:List V}{y:V}{H:Hp}(hi:i<n)(hlen:ys.length≤i)(hz:n≤sizeLine)(h1:H D=some (.lst ys))(h2:Pv (i+1) (ys++[y]) (upd H D (.lst (ys++[y])))):gq n i Pv D ys y H:=
 ⟨h1,by omega,n - (i+1),by omega,rfl,hi,h2⟩
def mf(n i:Nat)(Pv:Nat→List V→Hp→Prop)(D:Addr)(ys:List V)(tc:TT)(te:TE)(σ : St)(H:Hp):Prop:=
 tc σ H fun b H4=>if b=true then te σ H4 (gq n i Pv D ys) else rL n i Pv ys H4
theorem my{n i:Nat}{Pv:Nat→List V→Hp→Prop}{D:Addr}{ys:List V}{tc:TT}{te:TE}{σ : St}{H:Hp}:mf n i Pv D ys tc te σ H=tc σ H fun b H4=>if b=true then te σ H4 (gq n i Pv D ys) else rL n i Pv ys H4:=rfl
theorem mv{J:It}{tc:TT}(n:Nat)(Pv:Nat→List V→Hp→Prop)(h0:Pv 0 [] H)(hgo:∀ i ys H,i<n→Pv i ys H→J.go i H)(hst:∀ ys H,Pv n ys H→J.stop n H)
  (hs:∀ i ys H x H',i<n→Pv i ys H→J.yld i H x H'→g x (σ++List.replicate nT none) H' (mf n i Pv D ys tc te))
  (hd:∀ ys H,Pv n ys H→Q (.ref D) H):fb J g tc te nT σ D Q H:=by
 refine⟨fun i m ys H=>m=n - i∧i≤n∧Pv i ys H,⟨n,by simp,Nat.zero_le _,h0⟩,?_⟩
 rintro i m ys H ⟨rfl,hi,p⟩
 by_cases hlt:i<n
 ·exact .inr ⟨hgo i ys H hlt p,fun x H' y=>hs i ys H x H' hlt p y⟩
 ·have e:i=n:=by omega
  subst e
  exact .inl ⟨hst ys H p,hd ys H p⟩
theorem ju{tc:TT}(Pv:Nat→List V→Hp→Prop)(h0:Pv 0 [] H)(hl:∀ i ys H,i≤xs.length→Pv i ys H→SqL K H a xs)
  (hs:∀ i ys H x,xs[i]? = some x→i<xs.length→Pv i ys H→g x (σ++List.replicate nT none) H (mf xs.length i Pv D ys tc te))
  (hd:∀ ys H,Pv xs.length ys H→Q (.ref D) H):fb (lN K a) g tc te nT σ D Q H:=by
 refine mv xs.length Pv h0 (fun i ys H hi p=>⟨xs,xs[i],hl i ys H (Nat.le_of_lt hi) p,by simp[hi]⟩) (fun ys H p=>⟨xs,hl _ ys H (Nat.le_refl _) p,Nat.le_refl _⟩) (fun i ys H x H' hi p yl=>?_) hd
 obtain⟨rfl,y⟩:=yl
 exact hs i ys _ x (y xs (hl i ys _ (Nat.le_of_lt hi) p)) hi p
end
end L2
namespace L2
open PySem PySem.Spec PyProof.Rows
theorem xy(lo hi:Option Int)(n:Nat):Builtin.Str.strSliceIndices lo hi 1 n=(List.range (HT.sIx n n hi - HT.sIx n 0 lo)).map (HT.sIx n 0 lo + ·):=by
 obtain⟨h1,h2,h3⟩:=gT lo hi n
 rw[← sliceRange_one,← h1,← h2]
 cases lo <;> cases hi <;> rfl
theorem uz(x:Str)(lo hi:Option Int):(Txt.slice x lo hi).cps.toList=(x.cps.toList.drop (HT.sIx x.length 0 lo)).take (HT.sIx x.length x.length hi - HT.sIx x.length 0 lo):=by
 have hn:x.cps.toList.length=x.length:=by simp[Str.length]
 have hb:=HT.sIx_le x.length x.length (Nat.le_refl _) hi
 unfold Txt.slice
 rw[xy]
 by_cases h:((1:Int) == 1&&((List.range (HT.sIx x.length x.length hi - HT.sIx x.length 0 lo)).map (HT.sIx x.length 0 lo + ·)).length == x.length)=true
 ·rw[if_pos h]
  simp only[List.length_map,List.length_range,Bool.and_eq_true,beq_iff_eq]at h
  have h2:=h.2
  rcases Nat.eq_zero_or_pos x.length with z | z
  ·have e:x.cps.toList=[]:=List.eq_nil_of_length_eq_zero (by omega)
   rw[e]; simp
  ·have a0:HT.sIx x.length 0 lo=0:=by omega
   rw[a0,List.drop_zero,List.take_of_length_le (by omega)]
 ·rw[if_neg h]
  show ((List.filterMap _ _).toArray).toList=_
  rw[pick_run]
def zr:V→Option Int→Option Int→Hp→VK→Prop:=fun x lo hi H Q=>∃ y,x = .str y∧y.length≤sizeLine∧Q (.str (Txt.slice y lo hi)) H
theorem f_{X:Cx}:SlR X zr:=by
 intro pins s σ H x v vl vu lo hi sl Q I rx hs pl pu h
 obtain⟨y,rfl,hz,q⟩:=h
 obtain⟨t,rfl⟩:=rx
 obtain⟨l,hl,el⟩ : ∃ l:Option (Int × Tok),vl=partValue l∧l.map (·.1)=lo:=by
  cases pl with
  | none=>exact⟨none,rfl,rfl⟩
  | int i t=>exact⟨some (i,t),rfl,rfl⟩
 obtain⟨u,hu,eu⟩ : ∃ l:Option (Int × Tok),vu=partValue l∧l.map (·.1)=hi:=by
  cases pu with
  | none=>exact⟨none,rfl,rfl⟩
  | int i t=>exact⟨some (i,t),rfl,rfl⟩
 subst hl hu el eu
 refine⟨"str", _,PySem.F.slot_str_getitem.lookup,typeIs_str _ _ _,wpAny_getItem_str_slice (l:=l) (u:=u) (st:=none) hs rfl (post_val_or_str ⟨Nat.le_trans (Txt.slice_le y _ _) hz,fun t' k=>⟨.str _,H,I.tok k,⟨t',rfl⟩,q⟩⟩)⟩
theorem qr{H:Hp}{Q:VK}(y:Str)(lo hi:Option Int):zr (.str y) lo hi H Q=(y.length≤sizeLine∧Q (.str (Txt.slice y lo hi)) H):=propext ⟨fun ⟨_,e,h⟩=>by cases e; exact h,fun h=>⟨y,rfl,h⟩⟩
end L2
namespace L2
open PySem PySem.Spec PyProof.Rows
set_option genInjectivity false in
set_option genSizeOf false in
structure IK (prog:Program) (w:World) (κ : Type) [DecidableEq κ] where
 is:Heap→κ→Value→Prop
 hash:κ→Int
 draws:κ→Nat
 deep:Nat
 inj:∀ {h:Heap} {v:Value} {x y:κ},is h x v→is h y v→x=y
 keeps:∀ {h h':Heap} {k:κ} {v:Value} {d:Addr} {o:Obj} {es ep},is h k v→h.get? d=some o→o.data = .dict es ep→Heap.SameBut d h h'→is h' k v
 pyHash:∀ {A:Around} {E:Value→Shared→Prop} {s:Shared} {k:κ} {v:Value} {Q:Int→Shared→Prop},A.units+deep<cLine→is s.heap k v→Q (hash k) { s with toks:=s.toks+draws k }→
  wpAny (model prog w) A (PySem.pyHash v) Q E s
 eqBool:∀ {A:Around} {E:Value→Shared→Prop} {s:Shared} {x y:κ} {u v:Value} {Q:Bool→Shared→Prop},A.units+deep<cLine→is s.heap x u→is s.heap y v→Q (decide (x=y)) s→
  wpAny (model prog w) A (PySem.eqBool u v) Q E s
 quiet:∀ {A:Around} {E:Value→Shared→Prop} {s:Shared} {k:κ} {v:Value} {n:Nat} {Q:Bool→Shared→Prop},is s.heap k v→Q true s→wpAny (model prog w) A (eqIsQuiet (n+deep) v) Q E s
section
variable{prog:Program}{w:World}{κ : Type}[DecidableEq κ](K:IK prog w κ)
inductive IsItems (h:Heap):List κ→List Value→Prop
 | nil:IsItems h [] []
 | cons {k:κ} {v:Value} {ks:List κ} {vs:List Value}:K.is h k v→IsItems h ks vs→IsItems h (k::ks) (v::vs)
def IsTupK(h:Heap)(ks:List κ)(v:Value):Prop:=∃ a o items n,v = .ref a∧h.get? a=some o∧o.cls = .type "tuple" ∧ o.data = .seq items n∧IsItems K h ks items.toList
variable{K}
theorem IsItems.inj{h:Heap}:∀ {x y:List κ} {vs:List Value},IsItems K h x vs→IsItems K h y vs→x=y
 | _,_,_,.nil,.nil=>rfl
 | _,_,_,.cons a b,.cons c d=>by rw[K.inj a c,IsItems.inj b d]
theorem IsItems.keeps{h h':Heap}{d:Addr}{o:Obj}{es ep}(ho:h.get? d=some o)(hd:o.data = .dict es ep)(hs:Heap.SameBut d h h'):∀ {x:List κ} {vs:List Value},IsItems K h x vs→IsItems K h' x vs
 | _,_,.nil=>.nil
 | _,_,.cons a b=>.cons (K.keeps a ho hd hs) (b.keeps ho hd hs)
theorem IsItems.len{h:Heap}:∀ {x:List κ} {vs:List Value},IsItems K h x vs→x.length=vs.length
 | _,_,.nil=>rfl
 | _,_,.cons _ b=>by rw[List.length_cons,List.length_cons,b.len]
def fU(K:IK prog w κ)(ks:List κ):Nat:=(ks.map K.draws).sum
def nv(K:IK prog w κ)(ks:List κ):Int:=reduceHash (Builtin.Tuple.tupleHashOf (ks.map K.hash))
theorem hZ{A:Around}{E:Value→Shared→Prop}{s:Shared}{ks:List κ}{v:Value}{Q:Int→Shared→Prop}(hu:A.units+(K.deep+1)<cLine)(hk:IsTupK K s.heap ks v)(h:Q (nv K ks) { s with toks:=s.toks+(fU K ks+1) }) :
  wpAny (model prog w) A (PySem.pyHash v) Q E s:=by
 obtain⟨a,o,items,n,rfl,ho,hc,hd,hi⟩:=hk
 have hT:s.TypeIs (.ref a) "tuple" := ⟨o,ho,hc⟩
 unfold PySem.pyHash
 first | unfold pyHashByItsType | skip
 first | refine wpAny_bind (wpAny_cRoomFor_or (.inr (by omega)) ?_) | skip
 refine wpAny_bind (wpAny_specialOf hT PySem.F.slot_tuple_hash.lookup ?_)
 rw[if_neg (by rw[beq_builtin_none]; exact Bool.false_ne_true)]
 refine wpAny_bind (wpAny_specialOf hT PySem.F.slot_tuple_hash.lookup ?_)
 show wpAny _ _ (callSpecialIfBoundUnlessNone? (.ref a) "__hash__" _ >>= _) Q E s
 refine wpAny_bind (wpAny_callSpecialIfBoundUnlessNone?_slot hT PySem.F.slot_tuple_hash (wpAny_call_entry PySem.F.slot_tuple_hash hT
  PySem.F.entry_tuple_hash ?_ (PySem.F.args_tuple_hash_1 _)))
 show wpAny _ _ (Builtin.Tuple.tupleItemsOf (.ref a) >>= _) _ _ s
 refine wpAny_bind (wpAny_tupleItemsOf ho hd (wpAny_bind ?_))
 rw[← Array.forIn_toList]
 refine wpAny_forIn_list _ (fun rest (b:Array Int) s'=>∃ done left,ks=done++left∧IsItems K s.heap left rest∧b.toList=done.map K.hash∧s'={ s with toks:=s.toks+fU K done }) _ ?_ ?_ _ _ ⟨[],ks,rfl,hi,rfl,rfl⟩
 ·rintro x rest b s' ⟨done,left,rfl,hl,hb,rfl⟩
  cases hl with
  | @cons k _ ks' _ h1 hl'=>
   have e:fU K (done++[k])=fU K done+K.draws k:=by simp[fU]
   refine wpAny_bind (K.pyHash (show A.in1.units+K.deep<cLine from by show A.units+1+K.deep<cLine; omega) h1 ?_)
   have fin:∃ done' left',done++k::ks'=done'++left'∧IsItems K s.heap left' rest∧(b.push (K.hash k)).toList=done'.map K.hash∧({ s with toks:=s.toks+fU K done+K.draws k }:Shared)={ s with toks:=s.toks+fU K done' }:=
    ⟨done++[k],ks',by simp,hl',by simp[hb],by rw[e,Nat.add_assoc]⟩
   first
    | exact wpAny_pure fin
    | exact wpAny_bind (wpAny_pure (wpAny_pure fin))
 ·rintro b s' ⟨done,left,rfl,hl,hb,rfl⟩
  cases hl
  rw[List.append_nil]at h
  show wpAny _ _ (retInt (Builtin.Tuple.tupleHashOf b.toList)) _ _ _
  rw[hb]
  refine wpAny_ret_mkInt ?_
  unfold nv reduceHash at h
  show wpAny _ _ (if (decide (-(2:Int) ^ 63≤Builtin.Tuple.tupleHashOf (done.map K.hash))&&decide (Builtin.Tuple.tupleHashOf (done.map K.hash)<2 ^ 63))=true then _ else _) Q E _
  by_cases hr:(decide (-(2:Int) ^ 63≤Builtin.Tuple.tupleHashOf (done.map K.hash))&&decide (Builtin.Tuple.tupleHashOf (done.map K.hash)<2 ^ 63))=true
  ·rw[if_pos hr]at h ⊢
   exact wpAny_pure (by simpa [Nat.add_assoc] using h)
  ·rw[if_neg hr]at h ⊢
   exact wpAny_bind (wpAny_rule (wpAny_pure (by simpa [Nat.add_assoc] using h)))
theorem rV{A:Around}{E:Value→Shared→Prop}{s:Shared}{x y:List κ}{a b:Addr}{P:Fin→Shared→Prop}(hu:A.units+K.deep<cLine)(hx:IsTupK K s.heap x (.ref a))(hy:IsTupK K s.heap y (.ref b))(h:P (.done (.ret (.bool (decide (x=y))))) s) :
  wpAny (model prog w) A (Builtin.«tuple.__eq__» ⟨[.ref a,.ref b],[]⟩) P E s:=by
 obtain⟨_,oa,xs,na,e1,hoa,ca,hda,hia⟩:=hx
 obtain⟨_,ob,ys,nb,e2,hob,cb,hdb,hib⟩:=hy
 cases e1
 cases e2
 show wpAny _ _ (isInstance (.ref b) (.type "tuple") >>= _) _ _ s
 refine wpAny_bind (wpAny_isInstance ⟨ob,hob,cb⟩ isSubtype_tuple_tuple ?_)
 simp only[Bool.not_true,Bool.false_eq_true,if_false]
 refine wpAny_bind (wpAny_tupleItemsOf hoa hda (wpAny_bind (wpAny_tupleItemsOf hob hdb (wpAny_bind ?_))))
 refine wpAny_forIn_list _ (fun rest r s'=>r.1=none∧s'=s∧∃ x' y' xs' ys',rest=List.zip xs' ys'∧IsItems K s.heap x' xs'∧IsItems K s.heap y' ys'∧decide (x'=y')=decide (x=y)∧(xs'.length == ys'.length)=(xs.size == ys.size)) _ ?_ ?_ _ _
  ⟨rfl,rfl,x,y,xs.toList,ys.toList,rfl,hia,hib,rfl,by simp⟩
 ·rintro⟨u,v⟩ rest r s' ⟨hr,rfl,x',y',xs',ys',hz,hx',hy',hdec,hlen⟩
  cases hx' with
  | nil=>simp at hz
  | @cons k1 u' x'' xs'' h1 hx''=>
   cases hy' with
   | nil=>simp at hz
   | @cons k2 v' y'' ys'' h2 hy''=>
    simp only[List.zip_cons_cons,List.cons.injEq,Prod.mk.injEq]at hz
    obtain⟨⟨rfl,rfl⟩,rfl⟩:=hz
    refine wpAny_bind (K.eqBool (x:=k1) (y:=k2) hu h1 h2 ?_)
    by_cases hk:k1=k2
    ·subst hk
     rw[decide_eq_true rfl]
     simp only[Bool.not_true,Bool.false_eq_true,if_false]
     refine wpAny_pure ⟨rfl,rfl,x'',y'',xs'',ys'',rfl,hx'',hy'',?_,by simpa using hlen⟩
     rw[← hdec]
     by_cases hxy:x''=y'' <;> simp[hxy]
    ·rw[decide_eq_false hk]
     simp only[Bool.not_false,if_true]
     have hf:decide (x=y)=false:=by rw[← hdec]; simp[hk]
     rw[hf]at h
     exact wpAny_bind (wpAny_pure (wpAny_pure (wpAny_pure h)))
 ·rintro⟨r1,r2⟩ s' ⟨hr,rfl,x',y',xs',ys',hz,hx',hy',hdec,hlen⟩
  simp only at hr
  subst hr
  refine wpAny_pure ?_
  have hfin:(xs.size == ys.size)=decide (x=y):=by
   rw[← hdec,← hlen]
   cases hx' with
   | nil=>cases hy' <;> simp
   | cons _ _=>
    cases hy' with
    | nil=>simp
    | cons _ _=>simp at hz
  show P (.done (.ret (.bool (xs.size == ys.size)))) s'
  rw[hfin]; exact h
theorem kr{A:Around}{E:Value→Shared→Prop}{s:Shared}{x y:List κ}{u v:Value}{Q:Bool→Shared→Prop}(hu:A.units+(K.deep+1)<cLine)(hx:IsTupK K s.heap x u)(hy:IsTupK K s.heap y v)(h:Q (decide (x=y)) s) :
  wpAny (model prog w) A (PySem.eqBool u v) Q E s:=by
 have hx0:=hx
 have hy0:=hy
 obtain⟨a,oa,xs,na,rfl,hoa,ca,hda,hia⟩:=hx
 obtain⟨b,ob,ys,nb,rfl,hob,cb,hdb,hib⟩:=hy
 unfold PySem.eqBool
 try with_reducible refine wpAny_holding ?_
 show wpAny _ _ (if (Value.ref a == Value.ref b)=true then _ else _) Q E s
 by_cases hab:(Value.ref a == Value.ref b)=true
 ·rw[if_pos hab]
  have e:a=b:=by have:=eq_of_beq hab; injection this
  subst e
  rw[hoa]at hob
  cases hob
  rw[hda]at hdb
  injection hdb with e1 _
  subst e1
  rw[decide_eq_true (hia.inj hib)]at h
  exact wpAny_bind (wpAny_rule (wpAny_pure h))
 ·rw[if_neg hab]
  have ta:s.TypeIs (.ref a) "tuple" := ⟨oa,hoa,ca⟩
  have tb:s.TypeIs (.ref b) "tuple" := ⟨ob,hob,cb⟩
  refine wpAny_bind (wpAny_richCompare_same_room (op:=.Eq) ta tb PySem.F.slot_tuple_eq (wpAny_call_entry PySem.F.slot_tuple_eq ta PySem.F.entry_tuple_eq ?_ (PySem.F.args_tuple_eq_2 _ _)) (by omega))
  refine rV (K:=K) ?_ hx0 hy0 ⟨_,rfl,(fun e=>nomatch e),wpAny_truthy_bool h⟩
  show A.units+1+K.deep<cLine
  omega
theorem gr{A:Around}{E:Value→Shared→Prop}{s:Shared}{ks:List κ}{v:Value}{n:Nat}{Q:Bool→Shared→Prop}(hk:IsTupK K s.heap ks v)(h:Q true s):wpAny (model prog w) A (eqIsQuiet (n+(K.deep+1)) v) Q E s:=by
 obtain⟨a,o,items,m,rfl,ho,hc,hd,hi⟩:=hk
 have hT:s.TypeIs (.ref a) "tuple" := ⟨o,ho,hc⟩
 rw[show n+(K.deep+1)=(n+K.deep)+1 from rfl]
 unfold eqIsQuiet
 refine wpAny_bind (wpAny_specialOf hT PySem.F.slot_tuple_eq.lookup ?_)
 show wpAny _ _ (isInstance (.ref a) (.type "tuple") >>= _) _ _ s
 refine wpAny_bind (wpAny_isInstance hT isSubtype_tuple_tuple ?_)
 simp only[Bool.not_true,Bool.false_eq_true,if_false]
 refine wpAny_bind (wpAny_seqItems ho hd (wpAny_bind ?_))
 show wpAny _ _ (forIn items _ _) _ _ s
 rw[← Array.forIn_toList]
 refine wpAny_forIn_list _ (fun rest r s'=>r.1=none∧s'=s∧∃ ks',IsItems K s.heap ks' rest) _ ?_ ?_ _ _ ⟨rfl,rfl,ks,hi⟩
 ·rintro v rest r s' ⟨hr,rfl,ks',hall⟩
  cases hall with
  | cons h1 h2=>
   refine wpAny_bind (K.quiet h1 ?_)
   simp only[Bool.not_true,Bool.false_eq_true,if_false]
   exact wpAny_pure ⟨rfl,rfl,_,h2⟩
 ·rintro⟨r1,r2⟩ s' ⟨hr,rfl,_⟩
  simp only at hr
  subst hr
  exact wpAny_pure h
def qI(K:IK prog w κ):IK prog w (List κ) where
 is:=IsTupK K
 hash:=nv K
 draws:=fun ks=>fU K ks+1
 deep:=K.deep+1
 inj:=by
  rintro h v x y ⟨a,oa,xs,na,rfl,hoa,ca,hda,hia⟩ ⟨b,ob,ys,nb,e,hob,cb,hdb,hib⟩
  cases e
  rw[hoa]at hob
  cases hob
  rw[hda]at hdb
  injection hdb with e1 _
  subst e1
  exact hia.inj hib
 keeps:=by
  rintro h h' k v d o es ep ⟨a,oa,xs,na,rfl,hoa,ca,hda,hia⟩ ho hd hs
  have hne:a≠d:=by
   rintro rfl
   rw[hoa]at ho
   cases ho
   rw[hd]at hda; cases hda
  exact⟨a,oa,xs,na,rfl,(hs.2 a hne).trans hoa,ca,hda,hia.keeps ho hd hs⟩
 pyHash:=fun hu hk h=>hZ hu hk h
 eqBool:=fun hu hx hy h=>kr hu hx hy h
 quiet:=fun hk h=>gr hk h
def xa(K:IK prog w κ)(hd:K.deep≤7):HeapKind prog w (List κ) where
 is:=fun h k a=>IsTupK K h k (.ref a)
 hash:=nv K
 draws:=fun ks=>fU K ks+1
 room:=fun A=>A.units+(K.deep+1)<cLine
 inj:=(qI K).inj
 keeps:=(qI K).keeps
 pyHash:=fun hu hk h=>hZ hu hk h
 eqBool:=fun hu hx hy h=>kr hu hx hy h
 quiet:=fun {A E s k a Q} hk h=>by
  have q:=gr (n:=7 - K.deep) (A:=A) (E:=E) hk h
  rwa [show 7 - K.deep+(K.deep+1)=8 by omega]at q
end
end L2
namespace L2
open PySem PySem.Spec PyProof.Rows
def gB:Option Int→V
 | none=>.non
 | some i=>.int i
theorem wn{x y:Option Int}{v:Value}(a:RelV (gB x) v)(b:RelV (gB y) v):x=y:=by
 have e:=a.inj b
 cases x <;> cases y <;> simp_all [gB]
theorem kF(x:Option Int):dC (gB x)=true:=by cases x <;> rfl
theorem xw(x y:Option Int):iH (gB x) (gB y)=decide (x=y):=by
 cases x with
 | none=>cases y <;> rfl
 | some i=>
  cases y with
  | none=>rfl
  | some j=>
   show (i == j)=_
   by_cases h:i=j <;> simp[h]
theorem tX{prog:Program}{w:World}{A:Around}{E:Value→Shared→Prop}{s:Shared}{Q:Int→Shared→Prop}(h:Q 0xFCA86420 { s with toks:=s.toks+1 }):wpAny (model prog w) A (PySem.pyHash .none) Q E s:=by
 have hT:s.TypeIs .none "NoneType" := rfl
 unfold PySem.pyHash
 first | unfold pyHashByItsType | skip
 refine wpAny_bind ?_
 rw[cRoomFor,if_neg (by decide)]
 refine wpAny_pure (wpAny_bind (wpAny_specialOf hT PySem.F.slot_NoneType_hash.lookup ?_))
 rw[if_neg (by rw[beq_builtin_none]; exact Bool.false_ne_true)]
 refine wpAny_bind (wpAny_specialOf hT PySem.F.slot_NoneType_hash.lookup ?_)
 show wpAny _ _ (callSpecialIfBoundUnlessNone? .none "__hash__" _ >>= _) Q E s
 refine wpAny_bind (wpAny_callSpecialIfBoundUnlessNone?_slot hT PySem.F.slot_NoneType_hash (wpAny_call_entry PySem.F.slot_NoneType_hash hT
  PySem.F.entry_NoneType_hash ?_ (PySem.F.args_NoneType_hash_1 _)))
 show wpAny _ _ (retInt 0xFCA86420) _ _ s
 refine wpAny_ret_mkInt ?_
 exact wpAny_pure h
def dD(prog:Program)(w:World):IK prog w (Option Int) where
 is:=fun _ k v=>RelV (gB k) v
 hash:=fun k=>match k with
  | none=>0xFCA86420
  | some i=>hashInt i
 draws:=fun _=>1
 deep:=0
 inj:=fun a b=>wn a b
 keeps:=fun a _ _ _=>a
 pyHash:=fun {A E s k v Q} _ hk h=>by
  cases k with
  | none=>
   obtain rfl:v=Value.none:=hk
   exact tX h
  | some i=>
   obtain⟨t,rfl⟩:=(show ∃ t,v=Value.int i t from hk)
   exact wpAny_pyHash_int h
 eqBool:=fun {A E s x y u v Q} _ hx hy h=>by
  have q:=oC (A:=A) (s:=s) hx hy (kF x) (kF y)
  rw[xw]at q
  exact q prog w E Q h
 quiet:=fun {A E s k v n Q} hk h=>by
  have e:carriedByValue v=true:=by
   cases k with
   | none=>obtain rfl:v=Value.none:=hk; rfl
   | some i=>obtain⟨t,rfl⟩:=(show ∃ t,v=Value.int i t from hk); rfl
  rw[eqIsQuiet_byValue _ e]
  exact wpAny_pure h
abbrev NI:=Sum Int (List (Option Int))
theorem IsTupK.tup{prog:Program}{w:World}{κ : Type}[DecidableEq κ]{K:IK prog w κ}{h:Heap}{l:List κ}{v:Value}(x:IsTupK K h l v):∃ a its,v = .ref a∧h.IsTuple a its:=by
 obtain⟨a,o,items,n,rfl,ho,hc,hd,hi⟩:=x
 exact⟨a,items,rfl,o,ho,hc,n,hd⟩
theorem qw{A:Around}{prog:Program}{w:World}(hu:A.units+1<cLine):A.units+((dD prog w).deep+1)<cLine:=hu
end L2
namespace L2
open PySem PySem.Spec PyProof.Rows
abbrev wo:=Int × List (Option Int)
def nk(k:wo):List NI:=[.inl k.1,.inr k.2]
section
variable{P:Program}{w:World}{H:Hp}
end
section
variable{X:Cx}{pins:List (Addr × Obj)}{σ : St}{H:Hp}{s:Shared}{a b:Addr}{k:wo}{kvs:List (wo × V)}
theorem Paired.snoc{α β : Type}{F:α→β→Prop}{x:α}{y:β}(h:F x y):∀ {l:List α} {m:List β},Paired F l m→Paired F (l++[x]) (m++[y])
 | _,_,.nil=>.cons h .nil
 | _,_,.cons r t=>.cons r (Paired.snoc h t)
end
end L2
namespace L2
open PySem PySem.Spec PyProof.Rows PySem.SeqAt
section
variable{X:Cx}
def CJ(K:PySem.W.Frag):R2:=fun x y H Q=>mH K x y H Q∨∃ a kvs k v,x = .ref a∧y=kV k∧H a=some (.dK kvs)∧bT kvs k=some v∧Q v H
theorem kg(K:PySem.W.Frag)(hK:X.K=K:=by rfl):IxR X (CJ K):=by
 intro value slice pins s σ H x y v u Q I rx ry h hs
 rcases h with h | ⟨a,kvs,k,z,rfl,rfl,e,l,q⟩
 ·exact ba K hK value slice pins s σ H x y v u Q I rx ry h hs
 ·cases rx
  obtain⟨_,hd,vs,rel,dd⟩:=jf I.hok (.inl e)
  obtain⟨w',hw,rw'⟩:=RelO.some_of (v:=z) (o:=valueAt vs k) (by rw[← l]; exact rel.val k)
  have hl:typeLookup (.type "dict") "__getitem__" = pure (some (.builtin "dict.__getitem__")):=PySem.F.slot_dict_getitem.lookup
  exact subscriptTail_builtinR (x:=w') dd.typeIs hl (wpAny_getItem_of (ml ry) dd.mapOf hw ⟨rfl,z,H,I.tok _,rw',q⟩) hs
def AB:nL:=fun o i v H Q=>∃ a kvs k,o = .ref a∧i=kV k∧H a=some (.dK kvs)∧kvs.length<sizeLine∧Q (upd H a (.dK (cS kvs k v)))
theorem rC{n:Nat}(hr:Room n X.A):PSet X AB:=by
 intro pins s σ H o i v ov iv u Q I ro ri rv h
 obtain⟨a,kvs,k,rfl,rfl,e,hl,q⟩:=h
 cases ro
 exact sT (by have:=hr.un; omega) I (DPut.k e hl) ri rv fun s' I'=>⟨_,I',q⟩
end
section
variable{K:PySem.W.Frag}{H:Hp}{Q:VK}
end
section
variable{X:Cx}
end
end L2
namespace L2
open PySem PySem.Spec PyProof.Rows PySem.SeqAt
theorem ph{X:Cx}:MtR X "list.pop" vz:=zR
section
variable{K:PySem.W.Frag}{H:Hp}{Q:VK}
theorem pI(p:Addr):vz (.ref p) [] H Q=∃ xs y,H p=some (.lst xs)∧xs[xs.length - 1]? = some y∧Q y (upd H p (.lst xs.dropLast)):=
 propext ⟨fun ⟨_,xs,y,e1,_,q⟩=>by cases e1; exact⟨xs,y,q⟩,fun ⟨xs,y,q⟩=>⟨p,xs,y,rfl,rfl,q⟩⟩
end
theorem p0{X:Cx}(K:PySem.W.Frag){o:Expr}{to:TE}{name:Str}{apos cpos:Pos}{T id:String}{r:V→List V→Hp→VK→Prop}(pa:PlainAttrs T)(slot:Slot T name id)(hty:typeOf (.builtin id)=pure (.type "method_descriptor")) (hm:MtR X id r) (ho:PE X o to)
  (hbase:attributeBase o name X.env (eval o X.env)=eval o X.env:=by rfl) (hline:(apos.endLine == cpos.line)=true:=by rfl) (hK:X.K=K:=by rfl):PE X (.Call (.Attribute o name apos) [] [] cpos) (vL K T r to):=hK ▸ Ag pa slot hty hm ho hbase hline
end L2
namespace L2
open PySem PySem.Spec PyProof.Rows PySem.SeqAt
theorem km:∀ (xs:List V) (us:List Value),xs.length=us.length→(∀ (j:Nat) x u,xs[j]? = some x→us[j]? = some u→RelV x u)→Vals xs us
 | [],[],_,_=>.nil
 | [],u::us,hl,_=>by simp at hl
 | x::xs,[],hl,_=>by simp at hl
 | x::xs,u::us,hl,h=>.cons (h 0 x u rfl rfl) (km xs us (by simpa using hl) fun j a b e1 e2=>h (j+1) a b e1 e2)
section
variable{X:Cx}
end
section
variable{X:Cx}
end
section
variable{prog:Program}{w:World}{K:Type}[DecidableEq K]{knd:KeyKind prog w K}{A:Around}{E:Value→Shared→Prop}{s:Shared}
end
section
variable{X:Cx}
theorem e_{α β : Type}{F:α→β→Prop}:∀ {l:List α} {m:List β} {j:Nat} {a:α} {b:β},Paired F l m→l[j]? = some a→m[j]? = some b→F a b
 | _,_,0,_,_,.cons h _,e1,e2=>by
  cases e1; cases e2; exact h
 | _,_,j+1,_,_,.cons _ t,e1,e2=>e_ (j:=j) t e1 e2
 | _,_,0,_,_,.nil,e1,_=>by cases e1
 | _,_,_+1,_,_,.nil,e1,_=>by cases e1
end
end L2
namespace L2
open PySem PySem.Spec PyProof.Rows PySem.SeqAt
end L2
namespace L2
open PySem PySem.Spec PyProof.Rows PySem.SeqAt
section
variable{prog:Program}{w:World}{K:Type}[DecidableEq K]{knd:KeyKind prog w K}{A:Around}{E:Value→Shared→Prop}{s:Shared}{G:SetTable→Prop}
def AA(knd:KeyKind prog w K)(l:List (Int × Value)):Prop:=l.Pairwise fun e e'=>∀ k,knd.is k e.2=true→knd.is k e'.2=false
structure Ai (knd:KeyKind prog w K) (G:SetTable→Prop) (o:Obj) (es:Array (Int × Value)) (ep:Nat) (t:SetTable) (S:K→Bool) (n:Nat):Prop where
 ex:o.ExactSet
 dat:o.data = .set es ep t
 el:ElemsOf knd es.toList
 mem:∀ k,S k=true ↔ ∃ e∈es.toList,knd.is k e.2=true
 few:es.size<scanBound
 fit:t.fits es.size=true
 num:es.size=n
 good:G t
 apart:AA knd es.toList
theorem stored{h:Heap}{a:Addr}{o:Obj}{es:Array (Int × Value)}{ep:Nat}{t:SetTable}{S:K→Bool}{n:Nat}{es':Array (Int × Value)}{t':SetTable}{S':K→Bool}{n':Nat}(ho:h.get? a=some o)(T:Ai knd G o es ep t S n)
  (T':∀ o',o'.ExactSet→o'.data = .set es' (ep+1) t'→Ai knd G o' es' (ep+1) t' S' n'):∃ o',(h.update a (Obj.putSet es' t')).get? a=some o'∧Ai knd G o' es' (ep+1) t' S' n':=by
 have hp:=putSet_of es' t' T.dat
 have hg:=Heap.get?_update_self (Obj.putSet es' t') ho (by rw[hp]; rfl)
 rw[hp]at hg
 exact⟨_,hg,T' _ T.ex rfl⟩
end
end L2
namespace L2
open PySem PySem.Spec PyProof.Rows PySem.SeqAt
section
variable{prog:Program}{w:World}{A:Around}{R:Result→Shared→Prop}{I:Addr}{fp wr:List Addr}{Gm:Array GenState→Array GenState→Prop}{n:Nat}{P:Nat→Value→Prop}{St:Nat→Shared→Prop}{L:Bool}
end
section
variable{prog:Program}{w:World}{A:Around}{E:Value→Shared→Prop}{s:Shared}
end
end L2
namespace L2
open PySem PySem.Spec PyProof.Rows PySem.SeqAt
section
variable{X:Cx}
end
end L2
namespace L2
open PySem PySem.Spec PyProof.Rows PySem.SeqAt
section
variable{M:Model}{A:Around}{E:Value→Shared→Prop}
end
end L2
namespace L2
open PySem PySem.Spec PyProof.Rows PySem.SeqAt
section
variable{prog:Program}{w:World}{A:Around}{E:Value→Shared→Prop}{s:Shared}
end
end L2
namespace L2
open PySem PySem.Spec PyProof.Rows PySem.SeqAt
section
variable{prog:Program}{w:World}{A:Around}{E:Value→Shared→Prop}{s:Shared}
end
end L2
namespace L2
open PySem PySem.Spec PyProof.Rows PySem.SeqAt
section
variable{prog:Program}{w:World}{A:Around}{E:Value→Shared→Prop}{s:Shared}
end
end L2
namespace L2
open PySem PySem.Spec PyProof.Rows PySem.SeqAt
section
variable{prog:Program}{w:World}{A:Around}{E:Value→Shared→Prop}{s:Shared}
end
end L2
namespace L2
open PySem PySem.Spec PyProof.Rows PySem.SeqAt
section
variable{prog:Program}{w:World}{A:Around}{E:Value→Shared→Prop}{s:Shared}
end
end L2
namespace L2
open PySem PySem.Spec PyProof.Rows PySem.SeqAt
section
variable{prog:Program}{w:World}{A:Around}{E:Value→Shared→Prop}{s:Shared}
end
section
variable{X:Cx}
end
end L2
namespace L2
open PySem PySem.Spec PyProof PyProof.Rows
section
variable{X:Cx}
end
end L2
namespace L2
open PySem PySem.Spec PyProof PyProof.Rows
inductive Ents (w:World):List DictEntry→List (Str × V)→Prop
 | nil:Ents w [] []
 | cons {x:Str} {t:Tok} {y:V} {v:Value} {es:List DictEntry} {kvs:List (Str × V)}:RelV y v→Ents w es kvs→Ents w (⟨PyData.keyHash w.params x,.str x t,v⟩::es) ((x,y)::kvs)
theorem Ents.vs{P:Program}{w:World}{es:List DictEntry}{kvs:List (Str × V)}(h:Ents w es kvs):∃ vs:List (Str × Value),KV kvs vs∧PySem.Pairs (PySem.strKind P w) es vs∧vs.map (·.1)=kvs.map (·.1)∧∀ e∈es,∃ k,(PySem.strKind P w).is k e.key=true∧e.hash=(PySem.strKind P w).hash k:=by
 induction h with
 | nil=>exact⟨[],.nil,.nil,rfl,fun _ h=>nomatch h⟩
 | @cons x t y v es kvs r _ ih=>
  obtain⟨vs,h1,h2,h3,h4⟩:=ih
  have hx:(PySem.strKind P w).is x (.str x t)=true:=by show Value.isStrOf x (.str x t)=true; simp[Value.isStrOf]
  refine⟨(x,v)::vs,.cons ⟨rfl,r⟩ h1,.cons hx rfl h2,by rw[List.map_cons,List.map_cons,h3],fun e he=>?_⟩
  rcases List.mem_cons.mp he with rfl | he
  ·exact⟨x,hx,rfl⟩
  ·exact h4 e he
structure ModD (w:World) (K:PySem.W.Frag) (d:Addr) (kvs:List (Str × V)):Prop where
 low:(d == sysModules)=false
 nd:(kvs.map (·.1)).Nodup
 at':∃ (o:Obj) (es:List DictEntry) (ep:Nat),K.lookup d=some o∧o.ExactDict∧o.data = .dict es.toArray ep∧Ents w es kvs
section
variable{X:Cx}{pins:List (Addr × Obj)}{σ : St}{H:Hp}{s:Shared}{d:Addr}{kvs:List (Str × V)}
theorem ModD.dict(h:ModD X.w X.K d kvs)(I:Inv X pins σ H s):∃ vs:List (Str × Value),KV kvs vs∧s.heap.DictOf (PySem.strKind X.prog X.w) d vs∧∃ ob,s.heap.get? d=some ob∧ob.dict=none:=by
 obtain⟨o,es,ep,h1,h2,h3,h4⟩:=h.at'
 obtain⟨vs,r1,r2,r3,r4⟩:=h4.vs (P:=X.prog)
 have e:=I.kIn d o h1
 exact⟨vs,r1,⟨o,es.toArray,ep,e,h2,h3,fun x hx=>r4 x (by simpa using hx),by simpa using r2,by rw[r3]; exact h.nd⟩,o,e,h2.2.1⟩
theorem sZ{P:Program}{w:World}{k:Str}{u:Value}(r:RelV (.str k) u):(PySem.strKind P w).is k u=true:=by
 obtain⟨t,rfl⟩:=r
 show Value.isStrOf k (.str k t)=true
 simp[Value.isStrOf]
end
section
variable{X:Cx}
def CT(w:World)(K:PySem.W.Frag):R2:=fun x y H Q=>∃ d kvs k z,x = .ref d∧y = .str k∧ModD w K d kvs∧bT kvs k=some z∧Q z H
theorem CL(w:World)(K:PySem.W.Frag)(hw:X.w=w:=by rfl)(hK:X.K=K:=by rfl):IxR X (CT w K):=by
 subst hw hK
 intro value slice pins s σ H x y v u Q I rx ry h hs
 obtain⟨d,kvs,k,z,rfl,rfl,m,l,q⟩:=h
 cases rx
 obtain⟨vs,rel,dd,_⟩:=m.dict I
 obtain⟨w',hw,rw'⟩:=RelO.some_of (v:=z) (o:=valueAt vs k) (by rw[← l]; exact rel.val k)
 have hl:typeLookup (.type "dict") "__getitem__" = pure (some (.builtin "dict.__getitem__")):=PySem.F.slot_dict_getitem.lookup
 exact subscriptTail_builtinR (x:=w') dd.typeIs hl (wpAny_getItem_of (sZ ry) dd.mapOf hw ⟨rfl,z,H,I.tok _,rw',q⟩) hs
def AD(w:World)(K:PySem.W.Frag):V→List V→Hp→VK→Prop:=fun x xs H Q=>∃ d kvs k z,x = .ref d∧xs=[.str k,z]∧ModD w K d kvs∧Q ((bT kvs k).getD z) H
theorem xZ(w:World)(K:PySem.W.Frag)(hw:X.w=w:=by rfl)(hK:X.K=K:=by rfl):MtR X "dict.get" (AD w K):=by
 subst hw hK
 intro pins s σ H x vs v us Q I rx rv h
 obtain⟨d,kvs,k,z,rfl,rfl,m,q⟩:=h
 cases rx
 obtain⟨u,r,rfl,ru,rr⟩:=lZ rv
 obtain⟨vs,rel,dd,_⟩:=m.dict I
 refine call_meetsIn PySem.F.slot_dict_get dd.typeIs PySem.F.entry_dict_get (PySem.F.args_dict_get_3 _ _ _) (meets_dict_get_default (PySem.strKind X.prog X.w) d (sZ ru) m.low r) ⟨_,dd.mapOf,_,H,I.tok _,?_,q⟩
 exact(rel.val k).getD rr
def zO(w:World)(K:PySem.W.Frag)(r:V→List V→Hp→VK→Prop)(to:TE)(t:TA):TE:=fun σ H Q=>to σ H fun x H1=>(∃ d kvs,x = .ref d∧ModD w K d kvs)∧t σ H1 fun xs H2=>r x xs H2 Q
theorem zD{o e:Expr}{es:List Expr}{to:TE}{t:TA}{name:Str}{apos cpos:Pos}{id:String}{r:V→List V→Hp→VK→Prop}(w:World)(K:PySem.W.Frag)(pa:PlainAttrs "dict") (slot:Slot "dict" name id) (hty:typeOf (.builtin id)=pure (.type "method_descriptor")) (hm:MtR X id r) (ho:PE X o to) (ha:PA X (e::es) t)
  (hbase:attributeBase o name X.env (eval o X.env)=eval o X.env:=by rfl)
  (hfew:((backTo cpos (starEach (e::es) X.env)).all (fun x=>!x.1)&&(backToKw cpos (keywordEach [] X.env)).all (fun x=>x.1.isSome)&&decide ((e::es).length+([]:List Keyword).length+(if ([]:List Keyword).isEmpty then 0 else 1)<30))=true:=by rfl)
  (hline:(apos.endLine == cpos.line)=true:=by rfl) (hs:starEach (e::es) X.env=(false,eval e X.env)::starEach es X.env:=by rfl) (hplain:(backTo cpos (starEach es X.env)).any (·.1)=false:=by rfl) (hw:X.w=w:=by rfl) (hK:X.K=K:=by rfl) :
  PE X (.Call (.Attribute o name apos) (e::es) [] cpos) (zO w K r to t):=by
 subst hw hK
 intro pins s σ H Q I h
 refine wpAny_Call_method_late hbase hfew hline rfl (bd (ho pins s σ H _ I h) fun v s1 ⟨x,H1,I1,r1,ty,q1⟩=>?_)
 obtain⟨d,kvs,rfl,m⟩:=ty
 have e1:v = .ref d:=r1
 subst e1
 obtain⟨vs,rel,dd,ob,eo,en⟩:=m.dict I1
 refine⟨"dict", id,pa,slot,hty,dd.typeIs,fun a ea=>⟨ob,by cases ea; exact eo,en⟩,?_⟩
 have hA:=ha cpos pins s1 σ H1 _ I1 q1
 rw[hs]at hA ⊢
 refine Calls.callWith_builtin (by show (false||(backTo cpos (starEach es X.env)).any (·.1))=false; rw[hplain] <;> rfl) (Calls.evalArgs_plain ?_)
 exact bd hA fun us s2 ⟨vs,H2,I2,r2,q2⟩=>hm pins s2 σ H2 _ vs _ us Q I2 r1 r2 q2
end
theorem pW{w:World}{K:PySem.W.Frag}{r:V→List V→Hp→VK→Prop}{to:TE}{t:TA}{σ : St}{H:Hp}{Q:VK}:zO w K r to t σ H Q=to σ H fun x H1=>(∃ d kvs,x = .ref d∧ModD w K d kvs)∧t σ H1 fun xs H2=>r x xs H2 Q:=rfl
end L2
namespace L2
open PySem PySem.Spec PyProof PyProof.Rows
section
variable{prog:Program}{w:World}{A:Around}{E:Value→Shared→Prop}{s:Shared}
def TSt(i t:Addr)(zs:Array Value)(k:Nat)(h:Heap):Prop:=h.IsTupleIter i t k∧h.IsTuple t zs
theorem TSt.ext{i t b:Addr}{zs:Array Value}{k:Nat}{h h':Heap}(x:TSt i t zs k h)(hs:Heap.ExtBut b h h')(n1:i≠b)(n2:t≠b):TSt i t zs k h':=⟨x.1.extBut hs n1,x.2.extBut hs n2⟩
theorem iT{i t:Addr}{k:Nat}{zs:Array Value}{v:Value}{Q:Value→Shared→Prop}(st:TSt i t zs k s.heap)(nit:t≠i)(hv:zs[k]? = some v)
  (q:∀ h',TSt i t zs (k+1) h'→Heap.SameBut i s.heap h'→Q v { s with heap:=h' }):wpAny (model prog w) A (Builtin.SmallTypes.nextOf (.ref i)) Q E s:=by
 obtain⟨hi,ht⟩:=id st
 obtain⟨ob,e1,e2,e3⟩:=id hi
 obtain⟨ot,f1,_,m,f2⟩:=id ht
 unfold Builtin.SmallTypes.nextOf
 refine wpAny_bind (wpAny_callSpecial?_slot (name:=Str.ofString "__next__") hi.typeIs PySem.F.slot_tuple_iterator_next (wpAny_call_entry PySem.F.slot_tuple_iterator_next hi.typeIs PySem.F.entry_tuple_iterator_next ?_ (PySem.F.args_tuple_iterator_next_1 _)))
 show wpAny _ _ (field (.ref i) 0 >>= _) _ _ s
 refine wpAny_bind (wpAny_field e1 e3 (x:=.ref t) rfl ?_)
 show wpAny _ _ (if (Value.ref t == Value.none)=true then _ else _) _ _ s
 have hno:¬ ((Value.ref t == Value.none)=true):=Bool.false_ne_true
 rw[if_neg hno]
 show wpAny _ _ (field (.ref i) 1 >>= _) _ _ s
 refine wpAny_bind (wpAny_field e1 e3 (x:=.int k 0) rfl ?_)
 show wpAny _ _ (seqItems? (.ref t) >>= _) _ _ s
 refine wpAny_bind (wpAny_seqItems f1 f2 ?_)
 simp only[Int.toNat_natCast,hv]
 refine wpAny_bind (wpAny_setField e1 e3 (by simp) (wpAny_pure ⟨v,rfl,wpAny_pure (q _ ⟨?_,?_⟩ (Heap.SameBut.update ..))⟩))
 ·exact⟨_,Heap.get?_update_self _ e1 (Obj.isFreed_of_fields (Obj.data_mapFields e3 _)),(Obj.cls_mapFields ..).trans e2,by rw[Obj.data_mapFields e3]; simp[rawInt]⟩
 ·exact ht.extBut (Heap.SameBut.update ..).extBut nit
theorem pz{i t:Addr}{k:Nat}{zs:Array Value}{Q:Value→Shared→Prop}(hh:A.handled=none)(st:TSt i t zs k s.heap)(hv:zs[k]? = none)
  (q:∀ h' e,Heap.ExtBut i s.heap h'→(∃ o,h'.get? e=some o∧o.cls = .type "StopIteration")→E (.ref e) { s with heap:=h' }):wpAny (model prog w) A (Builtin.SmallTypes.nextOf (.ref i)) Q E s:=by
 obtain⟨hi,ht⟩:=id st
 obtain⟨ob,e1,e2,e3⟩:=id hi
 obtain⟨ot,f1,_,m,f2⟩:=id ht
 unfold Builtin.SmallTypes.nextOf
 refine wpAny_bind (wpAny_callSpecial?_slot (name:=Str.ofString "__next__") hi.typeIs PySem.F.slot_tuple_iterator_next (wpAny_call_entry PySem.F.slot_tuple_iterator_next hi.typeIs PySem.F.entry_tuple_iterator_next ?_ (PySem.F.args_tuple_iterator_next_1 _)))
 show wpAny _ _ (field (.ref i) 0 >>= _) _ _ s
 refine wpAny_bind (wpAny_field e1 e3 (x:=.ref t) rfl ?_)
 show wpAny _ _ (if (Value.ref t == Value.none)=true then _ else _) _ _ s
 have hno:¬ ((Value.ref t == Value.none)=true):=Bool.false_ne_true
 rw[if_neg hno]
 show wpAny _ _ (field (.ref i) 1 >>= _) _ _ s
 refine wpAny_bind (wpAny_field e1 e3 (x:=.int k 0) rfl ?_)
 show wpAny _ _ (seqItems? (.ref t) >>= _) _ _ s
 refine wpAny_bind (wpAny_seqItems f1 f2 ?_)
 simp only[Int.toNat_natCast,hv]
 refine wpAny_bind (wpAny_rule (wpAny_bind (wpAny_setField e1 e3 (by simp) ?_)))
 show wpAny _ _ (newExc (.type "StopIteration") [] >>= fun z=>_) _ _ _
 refine wpAny_bind ?_
 simp only[newTuple,newExc]
 refine wpAny_bind (wpAny_newObj_type (hd:=by size_fits) ?_)
 refine wpAny_bind (m:=firstArgMember _ _) (wpAny_of_eq (a:=Value.none) (by first | (simp only[firstArgMember]; rfl) | rfl) ?_)
 refine wpAny_newObj_type (hd:=by size_fits) ?_
 simp only[raiseNew]
 refine wpAny_bind (wpAny_handled ?_)
 have hn:A.in1.handled=none:=hh
 first | rw[hn] | rw[hh]
 refine wpAny_bind (wpAny_pure (wpAny_throw (q _ _ (((Heap.SameBut.update ..).extBut.push _).push _) ⟨_,Heap.get?_push_size _ rfl,rfl⟩)))
variable{z TI TO i1 i2 t1 t2:Addr}{xs ys:Array Value}{k1 k2:Nat}{a b:Value}
theorem uA{x y:Value}{Q:Value→Shared→Prop}(D:ZipApart z TI TO i1 i2 t1 t2)(gz:IsZip s.heap z TI TO .none)(gI:IsPair s.heap TI (.ref i1) (.ref i2))(gO:IsPair s.heap TO a b)
  (g1:TSt i1 t1 xs k1 s.heap) (g2:TSt i2 t2 ys k2 s.heap) (hx:xs[k1]? = some x) (hy:ys[k2]? = some y)
  (q:∀ h',IsZip h' z TI TO (rawInt s.heap.objs.size)→IsPair h' TO x y→TSt i1 t1 xs (k1+1) h'→TSt i2 t2 ys (k2+1) h'→IsPair h' s.heap.objs.size x y→h'.objs.size=s.heap.objs.size+1→
   (∀ c o,c≠z→c≠TO→c≠i1→c≠i2→s.heap.get? c=some o→h'.get? c=some o)→Q (.ref s.heap.objs.size) { s with heap:=h' }) :
  wpAny (model prog w) A (Builtin.«zip.__next__» ⟨[.ref z],[]⟩) (fun fin s'=>∃ v,fin = .done (.ret v)∧Q v s') E s:=by
 show wpAny _ _ (field (.ref z) 2 >>= fun _=>_) _ _ _
 refine wpAny_bind (wpAny_field gz rfl (x:=.bool false) rfl ?_)
 show wpAny _ _ (field (.ref z) 3 >>= fun _=>_) _ _ _
 refine wpAny_bind (wpAny_field gz rfl (x:=.ref TI) rfl (wpAny_bind (wpAny_seqItems gI rfl ?_)))
 show wpAny _ _ (Builtin.SmallTypes.ownedTupleIsFree (.ref z) >>= fun _=>_) _ _ _
 refine wpAny_bind ?_
 unfold Builtin.SmallTypes.ownedTupleIsFree
 refine wpAny_bind (wpAny_field gz rfl (x:=.none) rfl (wpAny_pure ?_))
 simp only[if_true]
 refine wpAny_bind (wpAny_rule (wpAny_bind (wpAny_field gz rfl (x:=.ref TO) rfl (wpAny_bind (wpAny_setField_rec gz (by simp) fun ha z1 m1=>?_)))))
 replace z1:IsZip ha z TI TO .ellipsis:=z1
 refine wpAny_bind ?_
 simp only[List.zipIdx_nil,List.zipIdx_cons,List.forIn_nil,List.forIn_cons]
 refine wpAny_bind (wpAny_bind (wpAny_onRaise ?_))
 show wpAny _ _ (Builtin.SmallTypes.nextOf (.ref i1) >>= fun _=>_) _ _ _
 refine wpAny_bind (iT (g1.ext m1.extBut D.i1z D.l1z) D.l1i1 hx fun hb r1 m2=>wpAny_pure ?_)
 have o2:IsPair hb TO a b:=m2.extBut _ _ D.TOi1 (m1.extBut _ _ D.TOz gO)
 refine wpAny_bind (wpAny_seqItems o2 rfl (wpAny_bind (wpAny_updateSeq_pair o2 fun hc o3 m3=>wpAny_bind (wpAny_letGo (wpAny_pure ?_)))))
 replace o3:IsPair hc TO x b:=o3
 refine wpAny_bind (wpAny_bind (wpAny_onRaise ?_))
 show wpAny _ _ (Builtin.SmallTypes.nextOf (.ref i2) >>= fun _=>_) _ _ _
 refine wpAny_bind (iT (((g2.ext m1.extBut D.i2z D.l2z).ext m2.extBut D.i12.symm D.l2i1).ext m3.extBut D.TOi2.symm D.l2TO) D.l2i2 hy fun hd r2 m4=>wpAny_pure ?_)
 have o4:IsPair hd TO x b:=m4.extBut _ _ D.TOi2 o3
 refine wpAny_bind (wpAny_seqItems o4 rfl (wpAny_bind (wpAny_updateSeq_pair o4 fun he o5 m5=>wpAny_bind (wpAny_letGo (wpAny_pure (wpAny_pure ?_))))))
 replace o5:IsPair he TO x y:=o5
 refine wpAny_bind (wpAny_seqItems o5 rfl (wpAny_bind (wpAny_newTuple ?_)))
 have hsz:he.objs.size=s.heap.objs.size:=by rw[m5.1,m4.1,m3.1,m2.1,m1.1]
 have z5:IsZip he z TI TO .ellipsis:=m5.extBut _ _ D.TOz.symm (m4.extBut _ _ D.i2z.symm (m3.extBut _ _ D.TOz.symm (m2.extBut _ _ D.i1z.symm z1)))
 have kp:∀ c o,c≠z→c≠TO→c≠i1→c≠i2→s.heap.get? c=some o→he.get? c=some o:=fun c o c1 c2 c3 c4 e=>m5.extBut _ _ c2 (m4.extBut _ _ c4 (m3.extBut _ _ c2 (m2.extBut _ _ c3 (m1.extBut _ _ c1 e))))
 have r1':TSt i1 t1 xs (k1+1) he:=((r1.ext m3.extBut D.TOi1.symm D.l1TO).ext m4.extBut D.i12 D.l1i2).ext m5.extBut D.TOi1.symm D.l1TO
 have r2':TSt i2 t2 ys (k2+1) he:=r2.ext m5.extBut D.TOi2.symm D.l2TO
 have zlt:z<he.objs.size:=Heap.lt_size z5
 show wpAny _ _ (Builtin.SmallTypes.ownedTupleHandOut (.ref z) (.ref he.objs.size) >>= fun _=>_) _ _ _
 refine wpAny_bind ?_
 unfold Builtin.SmallTypes.ownedTupleHandOut
 have z6:IsZip (he.push { cls:=.type "tuple", data:=.seq #[x,y] }) z TI TO .ellipsis:=Heap.get?_push_of_some _ z5
 refine wpAny_bind (wpAny_setField_rec z6 (by simp) fun hf z7 m7=>?_)
 replace z7:IsZip hf z TI TO (rawInt he.objs.size):=z7
 refine wpAny_setField_rec z7 (by simp) fun hg z8 m8=>?_
 replace z8:IsZip hg z TI TO (rawInt he.objs.size):=z8
 have up:∀ c o,c≠z→he.get? c=some o→hg.get? c=some o:=fun c o c1 e=>m8.extBut _ _ c1 (m7.extBut _ _ c1 (Heap.get?_push_of_some _ e))
 have t8:IsPair hg he.objs.size x y:=m8.extBut _ _ (Nat.ne_of_gt zlt) (m7.extBut _ _ (Nat.ne_of_gt zlt) (Heap.get?_push_size _ rfl))
 have s8:hg.objs.size=he.objs.size+1:=by rw[m8.1,m7.1,Heap.size_push]
 rw[hsz]at z8 t8 s8
 refine wpAny_pure ⟨_,rfl,?_⟩
 show Q (.ref he.objs.size) _
 rw[hsz]
 have ex:Heap.ExtBut z he hg:=fun c o c1 e=>up c o c1 e
 exact q hg z8 (up _ _ D.TOz o5) (r1'.ext ex D.i1z D.l1z) (r2'.ext ex D.i2z D.l2z) t8 s8 fun c o c1 c2 c3 c4 e=>up c o c1 (kp c o c1 c2 c3 c4 e)
theorem uT{Q:Fin→Shared→Prop}(hh:A.handled=none)(D:ZipApart z TI TO i1 i2 t1 t2)(gz:IsZip s.heap z TI TO .none)(gI:IsPair s.heap TI (.ref i1) (.ref i2))(gO:IsPair s.heap TO a b)
  (g1:TSt i1 t1 xs k1 s.heap) (g2:TSt i2 t2 ys k2 s.heap) (hend:xs[k1]? = none∨ys[k2]? = none)
  (q:∀ h' e,(∀ c o,c≠z→c≠TO→c≠i1→c≠i2→s.heap.get? c=some o→h'.get? c=some o)→(∃ o,h'.get? e=some o∧o.cls = .type "StopIteration")→E (.ref e) { s with heap:=h' }) :
  wpAny (model prog w) A (Builtin.«zip.__next__» ⟨[.ref z],[]⟩) Q E s:=by
 show wpAny _ _ (field (.ref z) 2 >>= fun _=>_) _ _ _
 refine wpAny_bind (wpAny_field gz rfl (x:=.bool false) rfl ?_)
 show wpAny _ _ (field (.ref z) 3 >>= fun _=>_) _ _ _
 refine wpAny_bind (wpAny_field gz rfl (x:=.ref TI) rfl (wpAny_bind (wpAny_seqItems gI rfl ?_)))
 show wpAny _ _ (Builtin.SmallTypes.ownedTupleIsFree (.ref z) >>= fun _=>_) _ _ _
 refine wpAny_bind ?_
 unfold Builtin.SmallTypes.ownedTupleIsFree
 refine wpAny_bind (wpAny_field gz rfl (x:=.none) rfl (wpAny_pure ?_))
 simp only[if_true]
 refine wpAny_bind (wpAny_rule (wpAny_bind (wpAny_field gz rfl (x:=.ref TO) rfl (wpAny_bind (wpAny_setField_rec gz (by simp) fun ha z1 m1=>?_)))))
 replace z1:IsZip ha z TI TO .ellipsis:=z1
 refine wpAny_bind ?_
 simp only[List.zipIdx_nil,List.zipIdx_cons,List.forIn_nil,List.forIn_cons]
 refine wpAny_bind (wpAny_bind (wpAny_onRaise ?_))
 show wpAny _ _ (Builtin.SmallTypes.nextOf (.ref i1) >>= fun _=>_) _ _ _
 have stop:∀ {h':Heap} {e:Addr},IsZip h' z TI TO .ellipsis→(∃ o,h'.get? e=some o∧o.cls = .type "StopIteration")→e≠z:=fun {h' e} hz ⟨o,ho,hc⟩ n=>by
  subst n; rw[hz]at ho; cases ho; simp at hc
 rcases hx:xs[k1]? with _ | x
 ·refine wpAny_bind (pz hh (g1.ext m1.extBut D.i1z D.l1z) hx fun hb e m2 he=>?_)
  have z2:IsZip hb z TI TO .ellipsis:=m2 _ _ D.i1z.symm z1
  have nz:=stop z2 he
  obtain⟨oe,p1,p2⟩:=he
  exact wpAny_setField_rec z2 (by simp) fun hc _ m3=>q hc e (fun c o c1 _ c3 _ x=>m3.extBut _ _ c1 (m2 _ _ c3 (m1.extBut _ _ c1 x))) ⟨oe,m3.extBut _ _ nz p1,p2⟩
 ·have hy:ys[k2]? = none:=by
   rcases hend with h | h
   ·rw[hx]at h; cases h
   ·exact h
  refine wpAny_bind (iT (g1.ext m1.extBut D.i1z D.l1z) D.l1i1 hx fun hb r1 m2=>wpAny_pure ?_)
  have o2:IsPair hb TO a b:=m2.extBut _ _ D.TOi1 (m1.extBut _ _ D.TOz gO)
  refine wpAny_bind (wpAny_seqItems o2 rfl (wpAny_bind (wpAny_updateSeq_pair o2 fun hc o3 m3=>wpAny_bind (wpAny_letGo (wpAny_pure ?_)))))
  refine wpAny_bind (wpAny_bind (wpAny_onRaise ?_))
  show wpAny _ _ (Builtin.SmallTypes.nextOf (.ref i2) >>= fun _=>_) _ _ _
  refine wpAny_bind (pz hh (((g2.ext m1.extBut D.i2z D.l2z).ext m2.extBut D.i12.symm D.l2i1).ext m3.extBut D.TOi2.symm D.l2TO) hy fun hd e m4 he=>?_)
  have z4:IsZip hd z TI TO .ellipsis:=m4 _ _ D.i2z.symm (m3.extBut _ _ D.TOz.symm (m2.extBut _ _ D.i1z.symm z1))
  have nz:=stop z4 he
  obtain⟨oe,p1,p2⟩:=he
  exact wpAny_setField_rec z4 (by simp) fun hg _ m5=>q hg e (fun c o c1 c2 c3 c4 x=>m5.extBut _ _ c1 (m4 _ _ c4 (m3.extBut _ _ c2 (m2.extBut _ _ c3 (m1.extBut _ _ c1 x))))) ⟨oe,m5.extBut _ _ nz p1,p2⟩
end
end L2
namespace L2
open PySem PySem.Spec PyProof PyProof.Rows
section
variable{prog:Program}{w:World}{A:Around}{E:Value→Shared→Prop}{s:Shared}{z TI TO i1 i2 t1 t2:Addr}{xs ys:Array Value}{k1 k2:Nat}{a b:Value}
theorem rA{x y:Value}{Q:Option Value→Shared→Prop}(D:ZipApart z TI TO i1 i2 t1 t2)(gz:IsZip s.heap z TI TO .none)(gI:IsPair s.heap TI (.ref i1) (.ref i2))(gO:IsPair s.heap TO a b)
  (g1:TSt i1 t1 xs k1 s.heap) (g2:TSt i2 t2 ys k2 s.heap) (hx:xs[k1]? = some x) (hy:ys[k2]? = some y)
  (q:∀ h',IsZip h' z TI TO (rawInt s.heap.objs.size)→IsPair h' TO x y→TSt i1 t1 xs (k1+1) h'→TSt i2 t2 ys (k2+1) h'→IsPair h' s.heap.objs.size x y→h'.objs.size=s.heap.objs.size+1→
   (∀ c o,c≠z→c≠TO→c≠i1→c≠i2→s.heap.get? c=some o→h'.get? c=some o)→Q (some (.ref s.heap.objs.size)) { s with heap:=h' }):wpAny (model prog w) A (pyNext (.ref z)) Q E s:=by
 have ty:s.TypeIs (.ref z) "zip" := ⟨_,gz,rfl⟩
 unfold pyNext
 exact wpAny_bind (wpAny_attempt (wpAny_callSpecial?_slot (name:=Str.ofString "__next__") ty PySem.F.slot_zip_next (wpAny_call_entry PySem.F.slot_zip_next ty PySem.F.entry_zip_next
  (uA D gz gI gO g1 g2 hx hy fun h' a1 a2 a3 a4 a5 a6 a7=>wpAny_pure (q h' a1 a2 a3 a4 a5 a6 a7)) (PySem.F.args_zip_next_1 _))))
theorem tF{Q:Option Value→Shared→Prop}(hh:A.handled=none)(D:ZipApart z TI TO i1 i2 t1 t2)(gz:IsZip s.heap z TI TO .none)(gI:IsPair s.heap TI (.ref i1) (.ref i2))(gO:IsPair s.heap TO a b)
  (g1:TSt i1 t1 xs k1 s.heap) (g2:TSt i2 t2 ys k2 s.heap) (hend:xs[k1]? = none∨ys[k2]? = none)
  (q:∀ h',(∀ c o,c≠z→c≠TO→c≠i1→c≠i2→s.heap.get? c=some o→h'.get? c=some o)→Q none { s with heap:=h' }):wpAny (model prog w) A (pyNext (.ref z)) Q E s:=by
 have ty:s.TypeIs (.ref z) "zip" := ⟨_,gz,rfl⟩
 unfold pyNext
 refine wpAny_bind (wpAny_attempt (wpAny_callSpecial?_slot (name:=Str.ofString "__next__") ty PySem.F.slot_zip_next (wpAny_call_entry PySem.F.slot_zip_next ty PySem.F.entry_zip_next
  (uT hh D gz gI gO g1 g2 hend fun h' e kk he=>?_) (PySem.F.args_zip_next_1 _))))
 obtain⟨o,ho,hc⟩:=he
 exact wpAny_bind (wpAny_isInstance (T := "StopIteration") (b:=true) ⟨o,ho,hc⟩ isSubtype_stop (wpAny_pure (q _ kk)))
abbrev xh (h:Heap) (t1:Addr):Heap:=h.push { cls:=.type "tuple_iterator", data:=.fields #[.ref t1,.int 0 0] }
abbrev wv (h:Heap) (t1 t2:Addr):Heap:=(xh h t1).push { cls:=.type "tuple_iterator", data:=.fields #[.ref t2,.int 0 0] }
abbrev wz (h:Heap) (t1 t2:Addr):Heap:=(wv h t1 t2).push { cls:=.type "tuple", data:=.seq #[.ref h.objs.size,.ref (xh h t1).objs.size] }
abbrev wy (h:Heap) (t1 t2:Addr):Heap:=(wz h t1 t2).push { cls:=.type "tuple", data:=.seq #[.none,.none] }
abbrev kQ (h:Heap) (t1 t2:Addr):Heap:=(wy h t1 t2).push { cls:=.type "zip", data:=.fields #[.none,.bool false,.bool false,.ref (wv h t1 t2).objs.size,.ref (wz h t1 t2).objs.size] }
theorem q9(t1 t2:Addr)(xs ys:Array Value):Meets (Builtin.«zip.__new__» ⟨[.type "zip", .ref t1,.ref t2],[]⟩) (fun _ R s=>s.heap.IsTuple t1 xs∧s.heap.IsTuple t2 ys∧
   R (.ok (.ret (.ref (wy s.heap t1 t2).objs.size))) { s with heap:=kQ s.heap t1 t2 }):=
 .of_wp fun prog w A R s q=>by
  obtain⟨hp,g,d,tk,os⟩:=s
  obtain⟨e1,e2,q⟩:=q
  have hsub:=sub_zip
  have f1:Heap.IsTuple (Shared.heap ⟨hp,g,d,tk,os⟩) t1 xs:=e1
  have f2:Heap.IsTuple (Shared.heap ⟨hp.push { cls:=.type "tuple_iterator", data:=.fields #[.ref t1,.int 0 0] },g,d,tk,os⟩) t2 ys:=Heap.IsTuple.push e2 _
  wp_walk using wpAny_pyIter_tuple f1,wpAny_pyIter_tuple f2
  exact⟨_,rfl,q⟩
theorem uC{Q:Value→Shared→Prop}(e1:s.heap.IsTuple t1 xs)(e2:s.heap.IsTuple t2 ys)
  (q:∀ h',IsZip h' (s.heap.objs.size+4) (s.heap.objs.size+2) (s.heap.objs.size+3) .none→IsPair h' (s.heap.objs.size+2) (.ref s.heap.objs.size) (.ref (s.heap.objs.size+1))→
   IsPair h' (s.heap.objs.size+3) .none .none→TSt s.heap.objs.size t1 xs 0 h'→TSt (s.heap.objs.size+1) t2 ys 0 h'→
   (∀ c o,s.heap.get? c=some o→h'.get? c=some o)→Q (.ref (s.heap.objs.size+4)) { s with heap:=h' }):wpAny (model prog w) A (call (.type "zip") [.ref t1,.ref t2]) Q E s:=by
 refine callType_new PySem.F.called_zip (by decide) (PySem.F.typeCall_zip_2 _ _) (PySem.F.newCall_zip_2 _ _) (fun obj=>PySem.F.args_object_init_3 obj _ _) PySem.F.entry_zip_new (q9 t1 t2 xs ys) ⟨e1,e2,?_⟩
 have z1:(xh s.heap t1).objs.size=s.heap.objs.size+1:=Heap.size_push ..
 have z2:(wv s.heap t1 t2).objs.size=s.heap.objs.size+2:=by rw[Heap.size_push,z1]
 have z3:(wz s.heap t1 t2).objs.size=s.heap.objs.size+3:=by rw[Heap.size_push,z2]
 have z4:(wy s.heap t1 t2).objs.size=s.heap.objs.size+4:=by rw[Heap.size_push,z3]
 have p:∀ {h:Heap} {o:Obj} {c:Addr} {u:Obj},h.get? c=some u→(h.push o).get? c=some u:=fun e=>Heap.get?_push_of_some _ e
 have kk:∀ c o,s.heap.get? c=some o→(kQ s.heap t1 t2).get? c=some o:=fun c o e=>p (p (p (p (p e))))
 have g5:(kQ s.heap t1 t2).get? (wy s.heap t1 t2).objs.size=some _:=Heap.get?_push_size _ rfl
 have g4:(kQ s.heap t1 t2).get? (wz s.heap t1 t2).objs.size=some _:=p (Heap.get?_push_size _ rfl)
 have g3:(kQ s.heap t1 t2).get? (wv s.heap t1 t2).objs.size=some _:=p (p (Heap.get?_push_size _ rfl))
 have g2:(kQ s.heap t1 t2).get? (xh s.heap t1).objs.size=some _:=p (p (p (Heap.get?_push_size _ rfl)))
 have g1:(kQ s.heap t1 t2).get? s.heap.objs.size=some _:=p (p (p (p (Heap.get?_push_size _ rfl))))
 show _∧_
 rw[z2,z3,z4]at g5
 rw[z1,z2]at g3
 rw[z3]at g4
 rw[z1]at g2
 rw[z4]
 have tt:∀ {t zs},s.heap.IsTuple t zs→(kQ s.heap t1 t2).IsTuple t zs:=fun ⟨o,e,r⟩=>⟨o,kk _ _ e,r⟩
 exact⟨⟨_,g5,rfl⟩,q _ g5 g3 g4 ⟨⟨_,g1,rfl,rfl⟩,tt e1⟩ ⟨⟨_,g2,rfl,rfl⟩,tt e2⟩ kk⟩
end
def wW(K:PySem.W.Frag)(a b:Addr):It:=
  ⟨fun i H=>∃ xs ys x y,SqT K H a xs∧SqT K H b ys∧xs[i]? = some x∧ys[i]? = some y,
   fun i H v H'=>∃ t x y,H t=none∧v = .ref t∧H'=upd H t (.tup [x,y])∧(∀ xs,SqT K H a xs→xs[i]? = some x)∧∀ ys,SqT K H b ys→ys[i]? = some y,
   fun i H=>∃ xs ys,SqT K H a xs∧SqT K H b ys∧(xs.length≤i∨ys.length≤i)⟩
def UZ(z TI TO i1 i2 l1 l2:Addr)(i:Nat)(h:Heap):Prop:=
 IsZip h z TI TO .none∧IsPair h TI (.ref i1) (.ref i2)∧(∃ a b,IsPair h TO a b)∧h.IsTupleIter i1 l1 i∧h.IsTupleIter i2 l2 i
end L2
namespace L2
open PySem PySem.Spec PyProof PyProof.Rows
theorem SqT.apart{X:Cx}{pins:List (Addr × Obj)}{σ : St}{H:Hp}{s:Shared}{a c:Addr}{xs:List V}(I:Inv X pins σ H s)(hf:fz X pins H c)(h:SqT X.K H a xs):a≠c:=by
 rintro rfl
 rcases h with h | ⟨o,its,n,hk,_⟩
 ·rcases h with e | ⟨o,e⟩ <;> (rw[hf.1]at e; cases e)
 ·have e:=I.ok.mod.kin a o hk
  rcases hf.2.2.2.1 with z | z
  ·exact I.ok.noex a o e z
  ·exact absurd (Nat.lt_of_lt_of_le (Heap.lt_size (I.ok.bs a o e).1) z) (Nat.lt_irrefl _)
theorem sJ{P:Program}{w:World}{K:PySem.W.Frag}{elts:List Expr}{k:Nat}{pos:Pos}{z TI TO i1 i2 l1 l2:Addr}(D:uD z TI TO i1 i2):g_ P w K (.Tuple elts k pos) (wW K l1 l2) [z,TI,TO,i1,i2] z (UZ z TI TO i1 i2 l1 l2) where
 mem:=by simp
 obj:=fun i h st b hb=>by
  obtain⟨s1,s2,⟨_,_,s3⟩,⟨o4,s4,c4,d4⟩,⟨o5,s5,c5,d5⟩⟩:=st
  simp only[List.mem_cons,List.mem_nil_iff,or_false]at hb
  rcases hb with rfl | rfl | rfl | rfl | rfl
  ·exact⟨_,s1,fun v e=>by cases e⟩
  ·exact⟨_,s2,fun v e=>by cases e⟩
  ·exact⟨_,s3,fun v e=>by cases e⟩
  ·exact⟨_,s4,fun v e=>by rw[d4]at e; cases e⟩
  ·exact⟨_,s5,fun v e=>by rw[d5]at e; cases e⟩
 keep:=fun i h h' st kk=>by
  obtain⟨s1,s2,⟨a,b,s3⟩,s4,s5⟩:=st
  exact⟨kk z (by simp) _ s1,kk TI (by simp) _ s2,⟨a,b,kk TO (by simp) _ s3⟩,s4.at fun o e=>kk i1 (by simp) o e,s5.at fun o e=>kk i2 (by simp) o e⟩
 item:=by
  intro X hP hw hK hc i pins s σ H E I hf st hg
  subst hP hw hK
  obtain⟨xs,ys,x,y,q1,q2,hx,hy⟩:=hg
  obtain⟨is1,rv1,p1,_⟩:=I.tuple q1
  obtain⟨is2,rv2,p2,_⟩:=I.tuple q2
  obtain⟨u1,hu1,ru1⟩:=rv1.get hx
  obtain⟨u2,hu2,ru2⟩:=rv2.get hy
  have n1:∀ c∈[z,TI,TO,i1,i2],l1≠c:=fun c hc'=>SqT.apart I (hf c hc') q1
  have n2:∀ c∈[z,TI,TO,i1,i2],l2≠c:=fun c hc'=>SqT.apart I (hf c hc') q2
  have D':ZipApart z TI TO i1 i2 l1 l2:=⟨D.TIz,D.TOz,D.i1z,D.i2z,D.TITO,D.TIi1,D.TIi2,D.TOi1,D.TOi2,D.i12,n1 _ (by simp),n1 _ (by simp),n1 _ (by simp),n1 _ (by simp),n2 _ (by simp),n2 _ (by simp),n2 _ (by simp),n2 _ (by simp)⟩
  obtain⟨s1,s2,⟨a,b,s3⟩,s4,s5⟩:=st
  have e1:s.heap.IsTuple l1 is1.toArray:=p1
  have e2:s.heap.IsTuple l2 is2.toArray:=p2
  refine rA D' s1 s2 s3 ⟨s4,e1⟩ ⟨s5,e2⟩ (x:=u1) (y:=u2) (by simpa using hu1) (by simpa using hu2) fun h' a1 a2 a3 a4 a5 a6 kk=>?_
  refine⟨_,rfl,wpAny_letOwnedTupleGo_zip a1 fun h'' hz' hs'=>?_⟩
  have lt:∀ {c o},s.heap.get? c=some o→s.heap.objs.size≠c:=fun e=>Nat.ne_of_gt (Heap.lt_size e)
  have zne:s.heap.objs.size≠z:=lt s1
  have keep2:∀ b o,b∉[z,TI,TO,i1,i2]→s.heap.get? b=some o→h''.get? b=some o:=fun b o hb e=>by
   simp only[List.mem_cons,List.mem_nil_iff,or_false,not_or]at hb
   exact hs'.extBut _ _ hb.1 (kk b o hb.1 hb.2.2.1 hb.2.2.2.1 hb.2.2.2.2 e)
  have hsz:H s.heap.objs.size=none:=I.hok.fresh (Nat.le_refl _)
  have tupN:IsPair h'' s.heap.objs.size u1 u2:=hs'.extBut _ _ zne a5
  have nlt:∀ c∈[z,TI,TO,i1,i2],c≠s.heap.objs.size:=fun c hc'=>by
   obtain⟨o4,e4,_⟩:=id s4
   obtain⟨o5,e5,_⟩:=id s5
   simp only[List.mem_cons,List.mem_nil_iff,or_false]at hc'
   rcases hc' with rfl | rfl | rfl | rfl | rfl
   ·exact(lt s1).symm
   ·exact(lt s2).symm
   ·exact(lt s3).symm
   ·exact(lt e4).symm
   ·exact(lt e5).symm
  refine⟨.ref s.heap.objs.size,upd H s.heap.objs.size (.tup [x,y]),I.turnedLaid (t':=s.toks) keep2 hf (Nat.le_refl _) ⟨bg (by show 2≤1000000; decide),[u1,u2],.cons ru1 (.cons ru2 .nil),⟨_,tupN,rfl,rfl,0,rfl⟩⟩,rfl,⟨_,x,y,hsz,rfl,rfl,fun xs' q'=>?_,fun ys' q'=>?_⟩,
   ⟨hz',hs'.extBut _ _ D.TIz (kk _ _ D.TIz D.TITO D.TIi1 D.TIi2 s2),⟨_,_,hs'.extBut _ _ D.TOz a2⟩,a3.1.extBut hs'.extBut D.i1z,a4.1.extBut hs'.extBut D.i2z⟩,fun c hc'=>?_⟩
  ·rw[I.tuple_inj q' q1]; exact hx
  ·rw[I.tuple_inj q' q2]; exact hy
  ·rw[af (nlt c hc')]; exact(hf c hc').1
 done:=by
  intro X hP hw hK hc i pins s σ H E I hf st hg
  subst hP hw hK
  obtain⟨xs,ys,q1,q2,hlen⟩:=hg
  obtain⟨is1,rv1,p1,_⟩:=I.tuple q1
  obtain⟨is2,rv2,p2,_⟩:=I.tuple q2
  have l1:=rv1.length
  have l2:=rv2.length
  have n1:∀ c∈[z,TI,TO,i1,i2],_≠c:=fun c hc'=>SqT.apart I (hf c hc') q1
  have n2:∀ c∈[z,TI,TO,i1,i2],_≠c:=fun c hc'=>SqT.apart I (hf c hc') q2
  have D':ZipApart z TI TO i1 i2 _ _:=⟨D.TIz,D.TOz,D.i1z,D.i2z,D.TITO,D.TIi1,D.TIi2,D.TOi1,D.TOi2,D.i12,n1 _ (by simp),n1 _ (by simp),n1 _ (by simp),n1 _ (by simp),n2 _ (by simp),n2 _ (by simp),n2 _ (by simp),n2 _ (by simp)⟩
  obtain⟨s1,s2,⟨a,b,s3⟩,s4,s5⟩:=st
  have e1:s.heap.IsTuple _ is1.toArray:=p1
  have e2:s.heap.IsTuple _ is2.toArray:=p2
  refine tF (I.ok.hd hc) D' s1 s2 s3 ⟨s4,e1⟩ ⟨s5,e2⟩ ?_ fun h' kk=>⟨rfl,I.turnedL (t':=s.toks) (fun b o hb e=>?_) hf⟩
  ·rcases hlen with z | z
   ·exact .inl (by simp; omega)
   ·exact .inr (by simp; omega)
  ·simp only[List.mem_cons,List.mem_nil_iff,or_false,not_or]at hb
   exact kk b o hb.1 hb.2.2.1 hb.2.2.2.1 hb.2.2.2.2 e
 self:=fun A i s Q E st h=>wpAny_pyIter_zip st.1 h
def ww(K:PySem.W.Frag)(ta:TA):TI:=fun σ H R=>ta σ H fun vs H1=>∃ a b:Addr,vs=[.ref a,.ref b]∧(∃ xs,SqT K H1 a xs)∧(∃ ys,SqT K H1 b ys)∧R (wW K a b) H1
theorem mN(K:PySem.W.Frag)(ta:TA){σ : St}{H:Hp}{R:It→Hp→Prop}:ww K ta σ H R=ta σ H fun vs H1=>∃ a b:Addr,vs=[.ref a,.ref b]∧(∃ xs,SqT K H1 a xs)∧(∃ ys,SqT K H1 b ys)∧R (wW K a b) H1:=rfl
theorem qj(K:PySem.W.Frag){X:Cx}{elts:List Expr}{k:Nat}{tpos:Pos}{a b:Expr}{ta:TA}{p pos:Pos}(hg:Gl X "zip") (hm:X.mg "zip" = none) (ha:PA X [a,b] ta) (hs:starEach [a,b] X.env=[(false,eval a X.env),(false,eval b X.env)]:=by rfl) (hs2:starEach [b] X.env=[(false,eval b X.env)]:=by rfl) (hK:X.K=K:=by rfl) :
  PI X (.Tuple elts k tpos) (.Call (.Name "zip" p) [a,b] [] pos) (ww K ta):=by
 subst hK
 intro pins s σ H R I h
 refine Call_ (ef I hg hm mP (PyProof.Rows.callWith_type1 (bd (ha pos pins s σ H _ I h) fun us s1 ⟨vs,H1,I1,r1,q1⟩=>?_) (by rw[hs,hs2]) (by rw[hs2]; rfl)))
 obtain⟨l1,l2,e,⟨xs,h1⟩,⟨ys,h2⟩,q⟩:=q1
 subst e
 obtain⟨u1,u2,rfl,r1,r2⟩:=lZ r1
 cases r1
 cases r2
 obtain⟨is1,_,p1,_⟩:=I1.tuple h1
 obtain⟨is2,_,p2,_⟩:=I1.tuple h2
 refine uC (show s1.heap.IsTuple l1 is1.toArray from p1) (show s1.heap.IsTuple l2 is2.toArray from p2) fun h' a1 a2 a3 a4 a5 kk=>?_
 refine wpAny_pyIter_zip a1 ⟨_,[s1.heap.objs.size+4,s1.heap.objs.size+2,s1.heap.objs.size+3,s1.heap.objs.size,s1.heap.objs.size+1],_,_,H1,rfl,I1.kept (t':=s1.toks) kk,
  sJ (z:=s1.heap.objs.size+4) (TI:=s1.heap.objs.size+2) (TO:=s1.heap.objs.size+3) (i1:=s1.heap.objs.size) (i2:=s1.heap.objs.size+1) (A8 _),⟨a1,a2,⟨_,_,a3⟩,a4.1,a5.1⟩,fun b hb=>?_,q⟩
 have hb':s1.heap.objs.size≤b:=by
  simp only[List.mem_cons,List.mem_nil_iff,or_false]at hb
  rcases hb with rfl | rfl | rfl | rfl | rfl <;> first | exact Nat.le_refl _ | exact Nat.le_add_right _ _
 exact I1.fpOk hb' (I1.hok.fresh hb')
end L2
namespace L2
open PySem PySem.Spec PyProof PyProof.Rows
section
variable{prog:Program}{w:World}{A:Around}{E:Value→Shared→Prop}{s:Shared}
theorem lU{t sl:Addr}{items:Array Value}{vl vu:Value}{lo hi:Option Int}{Q:Value→Shared→Prop}(ht:IsTup s.heap t items)(hs:s.heap.IsSliceOf sl vl vu .none)(pl:PySem.IsPart vl lo)(pu:PySem.IsPart vu hi)
  (hw:HT.sIx items.size 0 lo=0∧HT.sIx items.size items.size hi=items.size) (q:Q (.ref t) s):wpAny (model prog w) A (getItem (.ref t) (.ref sl)) Q E s:=by
 obtain⟨os,g1,g2,g3⟩:=id hs
 have ty:s.TypeIs (.ref sl) "slice" := ⟨os,g1,g2⟩
 unfold getItem
 try with_reducible refine wpAny_holding ?_
 first | refine wpAny_bind (wpAny_pure ?_) | skip
 refine wpAny_bind (wpAny_sequenceKey ht.typeIs (by decide) (wpAny_bind (wpAny_callSpecial?_slot (name:=Str.ofString "__getitem__") ht.typeIs PyProof.Rows.slot_tuple_getitem (wpAny_call_entry PyProof.Rows.slot_tuple_getitem ht.typeIs entry_tuple_getitem ?_ (args_tuple_getitem _ _)))))
 show wpAny _ _ (Builtin.Tuple.tupleItemsOf (.ref t) >>= fun _=>_) _ _ s
 refine wpAny_bind (tupleItemsOf_ ht (wpAny_bind (wpAny_typeOf ty ?_)))
 rw[if_pos (by decide)]
 refine wpAny_bind (HT.sliceApplied_gen hs pl pu ?_)
 have hyes:((((HT.sIx items.size 0 lo:Nat):Int) == 0&&(1:Int) == 1&&(HT.sIx items.size items.size hi - HT.sIx items.size 0 lo) == items.size)=true):=by
  rw[hw.1,hw.2]; simp
 show wpAny _ _ (if (((HT.sIx items.size 0 lo:Nat):Int) == 0&&(1:Int) == 1&&(HT.sIx items.size items.size hi - HT.sIx items.size 0 lo) == items.size)=true then _ else _) _ _ s
 rw[if_pos hyes]
 refine wpAny_bind (m:=Builtin.Tuple.tupleIsExact _) (wpAny_bind (wpAny_typeOf ht.typeIs (wpAny_pure ?_)))
 have hb:(Value.type "tuple" == Value.type "tuple")=true:=by decide
 rw[hb,if_pos rfl]
 exact wpAny_bind (wpAny_rule (wpAny_pure ⟨_,rfl,wpAny_pure q⟩))
end
section
variable{X:Cx}
def wN(K:PySem.W.Frag):V→Option Int→Option Int→Hp→VK→Prop:=fun x lo hi H Q=>∃ a xs,x = .ref a∧SqT K H a xs∧
 (HT.sIx xs.length 0 lo=0∧HT.sIx xs.length xs.length hi=xs.length→Q (.ref a) H)∧(¬ (HT.sIx xs.length 0 lo=0∧HT.sIx xs.length xs.length hi=xs.length)→∀ p,H p=none→Q (.ref p) (upd H p (.tup (dg xs lo hi))))
theorem fo(K:PySem.W.Frag)(hK:X.K=K:=by rfl):SlR X (wN K):=by
 subst hK
 intro pins s σ H x v vl vu lo hi sl Q I rx hs pl pu h
 obtain⟨a,xs,rfl,hx,q1,q2⟩:=h
 by_cases hw:HT.sIx xs.length 0 lo=0∧HT.sIx xs.length xs.length hi=xs.length
 ·have rx':=rx
  cases rx
  obtain⟨its,r,ht,hz⟩:=I.tuple hx
  have hlen:its.toArray.size=xs.length:=by rw[List.size_toArray]; exact r.length.symm
  exact⟨"tuple", _,PyProof.Rows.slot_tuple_getitem.lookup,ht.typeIs,lU ht hs pl pu (by rw[hlen]; exact hw) ⟨.ref a,H,I,rx',q1 hw⟩⟩
 ·exact zE pins s σ H _ v vl vu lo hi sl Q I rx hs pl pu ⟨a,xs,rfl,hx,hw,q2 hw⟩
theorem eQ{K:PySem.W.Frag}{H:Hp}{Q:VK}{a:Addr}{lo hi:Option Int}{xs:List V}(h:SqT K H a xs)(q:∀ p H',Same H H'→SqT K H' p (dg xs lo hi)→Q (.ref p) H'):wN K (.ref a) lo hi H Q:=by
 refine⟨a,xs,rfl,h,fun hw=>?_,fun _ p hp=>q p _ (am hp _) (SqT.of ah)⟩
 have e:dg xs lo hi=xs:=by unfold dg; rw[hw.1,hw.2]; simp
 exact q a H (fun _ _ e=>e) (by rw[e]; exact h)
theorem jZ(xs:List V)(k:Nat):dg xs none (some (k:Int))=xs.take k:=by
 unfold dg
 rw[HT.sIx_none,HT.sIx_nat,List.drop_zero,Nat.sub_zero]
 exact List.take_eq_take_min.symm
theorem ig(xs:List V)(k:Nat):dg xs (some (k:Int)) none=xs.drop k:=by
 unfold dg
 rw[HT.sIx_none,HT.sIx_nat]
 rcases Nat.le_total k xs.length with h | h
 ·rw[Nat.min_eq_left h,List.take_of_length_le (by rw[List.length_drop]; omega)]
 ·rw[Nat.min_eq_right h,Nat.sub_self,List.take_zero,List.drop_eq_nil_of_le h]
def rk:List V→Hp→VK→Prop:=fun xs H Q=>(∃ i,xs=[.int i]∧i.natAbs.log2<1920∧Q (.str (toString i)) H)∨∃ y,xs=[.str y]∧Q (.str y) H
theorem ug:CallR X (.type "str") rk:=by
 intro pins s σ H xs us Q I r h
 rcases h with h | ⟨y,rfl,q⟩
 ·exact gW pins s σ H xs us Q I r h
 ·obtain⟨u,rfl,t,rfl⟩:=dB r
  exact PySem.P.str_of_str ⟨.str y,H,I,⟨t,rfl⟩,q⟩
theorem kY{H:Hp}{Q:VK}(i:Int):rk [.int i] H Q=(i.natAbs.log2<1920∧Q (.str (toString i)) H):=
 propext ⟨fun h=>by rcases h with ⟨_,e,h⟩ | ⟨_,e,_⟩ <;> cases e; exact h,fun h=>.inl ⟨i,rfl,h⟩⟩
theorem kG{H:Hp}{Q:VK}(y:Str):rk [.str y] H Q=Q (.str y) H:=
 propext ⟨fun h=>by rcases h with ⟨_,e,h⟩ | ⟨_,e,h⟩ <;> cases e; exact h,fun h=>.inr ⟨y,rfl,h⟩⟩
theorem qe{x:Str}{d:Addr}{pos:Pos}(h:X.mg x=some (.ref d))(hg:Gl X x:=by rfl)(hd:(x == ("__debug__" : Str))=false:=by decide):PE X (.Name x pos) (tC (.ref d)):=xP hg h rfl hd
theorem dM:MtR X "list.extend" jQ:=tG
theorem ee{H:Hp}{Q:VK}(l b:Addr):jQ (.ref l) [.ref b] H Q=∃ xs zs,H l=some (.lst xs)∧H b=some (.lst zs)∧xs.length+zs.length≤sizeLine∧Q .non (upd H l (.lst (xs++zs))):=
 propext ⟨fun ⟨_,_,xs,zs,e1,e2,q⟩=>by cases e1; cases e2; exact⟨xs,zs,q⟩,fun ⟨xs,zs,q⟩=>⟨l,b,xs,zs,rfl,rfl,q⟩⟩
theorem im(K:PySem.W.Frag){tg l:Expr}{tl:TE}(hl:PE X l tl)(hK:X.K=K:=by rfl):PI X tg l (vO K tl):=hK ▸ zt hl
theorem pV(K:PySem.W.Frag)(tl:TE){σ : St}{H:Hp}{R:It→Hp→Prop}:vO K tl σ H R=tl σ H fun x H1=>∃ a,x = .ref a∧(∃ xs,SqT K H1 a xs)∧R (tN K a) H1:=rfl
end
section
variable{K:PySem.W.Frag}{a b:Addr}{xs ys:List V}{g:TG}{te:TE}{nT:Nat}{σ : St}{D:Addr}{Q:VK}{H:Hp}
theorem nN{tb:TS}{D:dm}(Pv:Nat→St→Hp→Prop)(h0:Pv 0 σ H)(hl:∀ i σ H,i≤xs.length→Pv i σ H→SqT K H a xs)
  (hs:∀ i x σ H,xs[i]? = some x→Pv i σ H→g x σ H fun σ2 H2=>tb { D with nx:=Pv (i+1),ct:=Pv (i+1),bk:=D.nx } σ2 H2) (hd:∀ σ H,Pv xs.length σ H→D.nx σ H):ic (tN K a) g tb D σ H:=by
 refine iq xs.length Pv h0 (fun i σ H hi p=>⟨xs,xs[i],hl i σ H (Nat.le_of_lt hi) p,by simp[hi]⟩) (fun σ H p=>⟨xs,hl _ σ H (Nat.le_refl _) p,Nat.le_refl _⟩) (fun i σ H x H' hi p yl=>?_) hd
 obtain⟨rfl,y⟩:=yl
 exact hs i x σ _ (y xs (hl i σ _ (Nat.le_of_lt hi) p)) p
theorem kZ(Pv:Nat→List V→Hp→Prop)(h0:Pv 0 [] H)(hl:∀ i ys H,i≤xs.length→Pv i ys H→SqT K H a xs)
  (hs:∀ i ys H x,xs[i]? = some x→i<xs.length→Pv i ys H→g x (σ++List.replicate nT none) H (jh xs.length i Pv D ys te))
  (hd:∀ ys H,Pv xs.length ys H→Q (.ref D) H):fb (tN K a) g mR te nT σ D Q H:=by
 refine oE xs.length Pv h0 (fun i ys H hi p=>⟨xs,xs[i],hl i ys H (Nat.le_of_lt hi) p,by simp[hi]⟩) (fun ys H p=>⟨xs,hl _ ys H (Nat.le_refl _) p,Nat.le_refl _⟩) (fun i ys H x H' hi p yl=>?_) hd
 obtain⟨rfl,y⟩:=yl
 exact hs i ys _ x (y xs (hl i ys _ (Nat.le_of_lt hi) p)) hi p
theorem kU{tb:TS}{D:dm}(Pv:Nat→St→Hp→Prop)(hn:xs.length=ys.length)(h0:Pv 0 σ H)(hl:∀ i σ H,i≤xs.length→Pv i σ H→SqT K H a xs∧SqT K H b ys)
  (hs:∀ i x y t σ H,xs[i]? = some x→ys[i]? = some y→Pv i σ H→H t=none→g (.ref t) σ (upd H t (.tup [x,y])) fun σ2 H2=>tb { D with nx:=Pv (i+1),ct:=Pv (i+1),bk:=D.nx } σ2 H2) (hd:∀ σ H,Pv xs.length σ H→D.nx σ H):ic (wW K a b) g tb D σ H:=by
 refine iq xs.length Pv h0 (fun i σ H hi p=>⟨xs,ys,xs[i],ys[i],(hl i σ H (Nat.le_of_lt hi) p).1,(hl i σ H (Nat.le_of_lt hi) p).2,by simp[hi],by simp[hn ▸ hi]⟩) (fun σ H p=>⟨xs,ys,(hl _ σ H (Nat.le_refl _) p).1,(hl _ σ H (Nat.le_refl _) p).2,.inl (Nat.le_refl _)⟩) (fun i σ H v H' hi p yl=>?_) hd
 obtain⟨t,x,y,ht,rfl,rfl,y1,y2⟩:=yl
 exact hs i x y t σ H (y1 xs (hl i σ H (Nat.le_of_lt hi) p).1) (y2 ys (hl i σ H (Nat.le_of_lt hi) p).2) p ht
end
theorem SqT.same{K:PySem.W.Frag}{H H':Hp}{a:Addr}{xs:List V}(h:SqT K H a xs)(sm:Same H H'):SqT K H' a xs:=by
 rcases h with (h | ⟨o,h⟩) | h
 ·exact .inl (.inl (sm _ _ h))
 ·exact .inl (.inr ⟨o,sm _ _ h⟩)
 ·exact .inr h
theorem fJ{α : Type}{x:α}{xs:List α}:cY (x::xs) 0=some x:=bM (j:=0) rfl
theorem SqT.updL{K:PySem.W.Frag}{H:Hp}{a l:Addr}{xs ys:List V}{o:HO}(h:SqT K H a xs)(hl:H l=some (.lst ys)):SqT K (upd H l o) a xs:=by
 rcases h with (h | ⟨o',h⟩) | h
 ·exact .inl (.inl (by rw[af (cJ h hl (fun z=>nomatch z))]; exact h))
 ·exact .inl (.inr ⟨o',by rw[af (cJ h hl (fun z=>nomatch z))]; exact h⟩)
 ·exact .inr h
end L2
namespace L2
open PySem PySem.Spec PyProof PyProof.Rows
section
variable{X:Cx}
def tS(K:PySem.W.Frag):V→List V→Hp→VK→Prop:=fun x vs H Q=>∃ (sep:Str) (p:Addr) (ss:List Str),x = .str sep∧vs=[.ref p]∧SqT K H p (ss.map V.str)∧(ss.map (·.length)).sum+ss.length * sep.length≤16777216∧Q (.str (Txt.join sep ss)) H
theorem vd(K:PySem.W.Frag)(hK:X.K=K:=by rfl):MtR X "str.join" (tS K):=by
 subst hK
 intro pins s σ H x xs v us Q I rx r h
 obtain⟨sep,p,ss,rfl,rfl,hq,hz,q⟩:=h
 obtain⟨t,rfl⟩:=rx
 obtain⟨u,rfl,ru⟩:=dB r
 cases ru
 obtain⟨its,rv,pl,_⟩:=I.tuple hq
 exact join_tuple pl (by simpa using hG rv) hz fun t' k=>⟨.str (Txt.join sep ss),H,I.tok k,⟨t',rfl⟩,q⟩
theorem lJ{K:PySem.W.Frag}{H:Hp}{Q:VK}(sep:Str)(p:Addr):tS K (.str sep) [.ref p] H Q=∃ ss,SqT K H p (ss.map V.str)∧(ss.map (·.length)).sum+ss.length * sep.length≤16777216∧Q (.str (Txt.join sep ss)) H:=
 propext ⟨fun ⟨_,_,ss,e1,e2,q⟩=>by cases e1; cases e2; exact⟨ss,q⟩,fun ⟨ss,q⟩=>⟨sep,p,ss,rfl,rfl,q⟩⟩
end
end L2
namespace L2
open PySem PySem.Spec PyProof PyProof.Rows
def w5(K:PySem.W.Frag)(a:Addr)(n:Nat):It:=
 ⟨fun i H=>i<n∧∃ xs x,SqL K H a xs∧xs[n - 1 - i]? = some x,fun i H x H'=>H'=H∧∀ xs,SqL K H a xs→xs[n - 1 - i]? = some x,fun i _=>i=n⟩
theorem vG{P:Program}{w:World}{K:PySem.W.Frag}{tg:Expr}(a it:Addr)(n:Nat):g_ P w K tg (w5 K a n) [it] it (fun i h=>h.IsRevIter it a ((n:Int) - 1 - (i:Nat))) where
 mem:=by simp
 obj:=fun i h st b hb=>by
  have e:b=it:=by simpa using hb
  subst e
  obtain⟨o,e,c,d⟩:=st
  exact⟨o,e,fun v z=>by rw[d]at z; cases z⟩
 keep:=fun i h h' st k=>st.at fun o e=>k it (by simp) o e
 item:=by
  intro X hP hw hK hc i pins s σ H E I hf st hg
  subst hP hw hK
  obtain⟨hi,xs,x,hq,hx⟩:=hg
  obtain⟨its,rv,p,hz⟩:=I.list hq
  obtain⟨u,hu,ru⟩:=rv.get hx
  obtain⟨f0,f1,f2,f3,f4,f5⟩:=hf it (by simp)
  have e:(n:Int) - 1 - (i:Int)=((n - 1 - i:Nat):Int):=by omega
  rw[e]at st
  refine wpAny_pyNext_rev_item st p.isList (x:=u) (by simpa using hu) fun h' st' sb=>?_
  have I1:Inv X pins σ H { s with heap:=h' }:=I.turned (t':=s.toks) (fun b o hb e=>(sb.2 b hb).trans e) f0 f1 f3 f4 f5
  have e2:((n - 1 - i:Nat):Int) - 1=(n:Int) - 1 - ((i+1:Nat):Int):=by omega
  rw[e2]at st'
  obtain⟨o,eo,c,d⟩:=id st'
  exact⟨u,rfl,me (s:={ s with heap:=h' }) eo c d (by decide) ⟨x,H,I1,ru,⟨rfl,fun ys hy=>by rw[I.list_inj hy hq]; exact hx⟩,st',fun b hb=>(hf b hb).1⟩⟩
 done:=by
  intro X hP hw hK hc i pins s σ H E I hf st hg
  subst hP hw hK
  obtain⟨f0,f1,f2,f3,f4,f5⟩:=hf it (by simp)
  have hg':i=n:=hg
  have e:(n:Int) - 1 - (i:Int) = -1:=by omega
  rw[e]at st
  exact wpAny_pyNext_rev_end (I.ok.hd hc) st fun h' eb=>⟨rfl,I.turned (t':=s.toks) (fun b o hb e=>eb b o hb e) f0 f1 f3 f4 f5⟩
 self:=fun _ _ _ _ _ st h=>wpAny_pyIter_revIter st h
theorem lY:bootBuiltins "reversed" = some (.type "reversed"):=by decide +kernel
def zC(K:PySem.W.Frag)(ta:TA):TI:=fun σ H R=>ta σ H fun vs H1=>∃ a:Addr,vs=[.ref a]∧∃ xs,SqL K H1 a xs∧R (w5 K a xs.length) H1
theorem qi(K:PySem.W.Frag)(ta:TA){σ : St}{H:Hp}{R:It→Hp→Prop}:zC K ta σ H R=ta σ H fun vs H1=>∃ a:Addr,vs=[.ref a]∧∃ xs,SqL K H1 a xs∧R (w5 K a xs.length) H1:=rfl
theorem zK(K:PySem.W.Frag){X:Cx}{tg:Expr}{a:Expr}{ta:TA}{p pos:Pos}(hg:Gl X "reversed") (hm:X.mg "reversed" = none) (ha:PA X [a] ta) (hs:starEach [a] X.env=[(false,eval a X.env)]:=by rfl) (hK:X.K=K:=by rfl) :
  PI X tg (.Call (.Name "reversed" p) [a] [] pos) (zC K ta):=by
 subst hK
 intro pins s σ H R I h
 refine Call_ (ef I hg hm lY (PyProof.Rows.callWith_type1 (bd (ha pos pins s σ H _ I h) fun us s1 ⟨vs,H1,I1,r1,q1⟩=>?_) hs rfl))
 obtain⟨l,e,xs,h1,q⟩:=q1
 subst e
 obtain⟨u1,rfl,r1'⟩:=dB r1
 obtain rfl:u1=Value.ref l:=r1'
 obtain⟨its,rv,pl,hz⟩:=I1.list h1
 have hlen:its.toArray.size=xs.length:=by rw[List.size_toArray]; exact rv.length.symm
 refine call_reversed_list pl.isList ?_
 rw[hlen]
 have hit:(s1.heap.push (revObj l ((xs.length:Int) - 1))).IsRevIter s1.heap.objs.size l ((xs.length:Int) - 1 - ((0:Nat):Int)):=⟨_,Heap.get?_push_size _ rfl,rfl,by simp[revObj]⟩
 refine wpAny_pyIter_revIter (s:={ s1 with heap:=s1.heap.push (revObj l ((xs.length:Int) - 1)) }) hit ⟨s1.heap.objs.size,[s1.heap.objs.size],_,_,H1,rfl,I1.kept (t':=s1.toks) fun b o e=>Heap.get?_push_of_some _ e,vG l _ xs.length,hit,fun b hb=>?_,q⟩
 have e:b=s1.heap.objs.size:=by simpa using hb
 subst e
 exact I1.fpOk (Nat.le_refl _) (I1.hok.fresh (Nat.le_refl _))
section
variable{K:PySem.W.Frag}{a:Addr}{xs:List V}{g:TG}{σ : St}{H:Hp}
theorem wk{tb:TS}{D:dm}(Pv:Nat→St→Hp→Prop)(h0:Pv 0 σ H)(hl:∀ i σ H,i≤xs.length→Pv i σ H→SqL K H a xs)
  (hs:∀ i x σ H,i<xs.length→xs[xs.length - 1 - i]? = some x→Pv i σ H→g x σ H fun σ2 H2=>tb { D with nx:=Pv (i+1),ct:=Pv (i+1),bk:=D.nx } σ2 H2) (hd:∀ σ H,Pv xs.length σ H→D.nx σ H):ic (w5 K a xs.length) g tb D σ H:=by
 refine iq xs.length Pv h0 (fun i σ H hi p=>⟨hi,xs,xs[xs.length - 1 - i],hl i σ H (Nat.le_of_lt hi) p,List.getElem?_eq_getElem _⟩) (fun σ H p=>rfl) (fun i σ H x H' hi p yl=>?_) hd
 obtain⟨rfl,y⟩:=yl
 exact hs i x σ _ hi (y xs (hl i σ _ (Nat.le_of_lt hi) p)) p
end
end L2
namespace L2
open PySem PySem.Spec PyProof PyProof.Rows
theorem AH{P:Program}{w:World}{k:aK}{u:Value}(h:(cG P w).is k u=true):RelV (kV k) u:=by
 cases k with
 | inl i=>
  obtain⟨t,rfl⟩:=Value.isInt_shape (show Value.isInt i u=true from h)
  exact⟨t,rfl⟩
 | inr x=>
  obtain⟨t,rfl⟩:=Value.isStrOf_shape (show Value.isStrOf x u=true from h)
  exact⟨t,rfl⟩
section
variable{X:Cx}
def uo:List V→Hp→VK→Prop:=fun xs H Q=>∃ d kvs,xs=[.ref d]∧H d=some (.dK kvs)∧kvs.length≤60000∧∀ l,H l=none→Q (.ref l) (upd H l (.lst (kvs.map fun kv=>kV kv.1)))
theorem kJ{H:Hp}{Q:VK}(d:Addr):uo [.ref d] H Q=∃ kvs,H d=some (.dK kvs)∧kvs.length≤60000∧∀ l,H l=none→Q (.ref l) (upd H l (.lst (kvs.map fun kv=>kV kv.1))):=
 propext ⟨fun ⟨_,kvs,e,q⟩=>by cases e; exact⟨kvs,q⟩,fun ⟨kvs,q⟩=>⟨d,kvs,rfl,q⟩⟩
theorem rF{m:Nat}(hr:Room m X.A):CallR X (.type "list") uo:=by
 intro pins s σ H xs us Q I r h
 obtain⟨d,kvs,rfl,ed,hn,q⟩:=h
 obtain⟨u,rfl,ru⟩:=dB r
 cases ru
 obtain⟨_,hd,vs,rel,dd⟩:=jf I.hok (.inl ed)
 obtain⟨ep,hm⟩:=dd.dictAt
 have hs:sizeLine=16777216:=sizeLine_eq
 have hl:kvs.length=vs.length:=Paired.length rel
 refine PySem.W.kdl_call (PySem.W.kdl_dict (knd:=cG X.prog X.w) (kvs:=vs) (ep:=ep) hd) hr.hd hm (by omega) fun h' tk acc' c' hk hS hacc=>?_
 refine⟨.ref s.heap.objs.size,_,I.laid hk (Nat.le_refl _) (show ObjOk X.prog X.w _ h' _ (.lst (kvs.map fun kv=>kV kv.1)) from ⟨by simp; omega,acc'.toList,c',?_,by simpa using hS⟩),rfl,q _ (I.hok.fresh (Nat.le_refl _))⟩
 refine km _ _ (by simp[hacc.1,hl]) fun j x w' e1 e2=>?_
 obtain⟨k,y,hk',his⟩:=hacc.2 j w' (by rw[← Array.getElem?_toList]; exact e2)
 rw[List.getElem?_map]at e1
 cases hkv:kvs[j]? with
 | none=>rw[hkv]at e1; cases e1
 | some kv=>
  rw[hkv]at e1
  cases e1
  have:=(e_ rel hkv hk').1
  show RelV (kV kv.1) w'
  rw[this]
  exact AH his
end
end L2
namespace L2
open PySem PySem.Spec PyProof PyProof.Rows PySem.SeqAt
section
variable{X:Cx}
end
end L2
namespace L2
open PySem PySem.Spec PyProof.Rows PySem.SeqAt
structure Fl (K:PySem.W.Frag) (C:Addr) (f:Str):Prop where
 c:Cls K C
 n:NoAttr K C f
structure MakeAt (K:PySem.W.Frag) (mg:Str→Option Value) (x:Str) (C:Addr) (qual:Str) (st:Stmt):Prop where
 ex:∃ f fd,Fun K "__init__" qual st f fd∧Mk K C f∧mg x=some (.ref C)
structure mw (P:Program) (w:World) (K:PySem.W.Frag) (mg:Str→Option Value) (base:Heap) (k:Nat) (x:Str) (C:Addr) (ps:List Str) (sp:Sp):Prop where
 ex:∃ f fd,FnOk P w K mg base ib k f fd ps sp∧Binds K fd ps []∧Mk K C f∧mg x=some (.ref C)
section
variable{P:Program}{w:World}{K:PySem.W.Frag}{mg:Str→Option Value}{base:Heap}
theorem MakeAt.mkal{x:Str}{C:Addr}{qual:Str}{st:Stmt}{N ps:List Str}{k:Nat}{sp:Sp}(D:MakeAt K mg x C qual st)(S:aO N ps (defScope st))
  (hb:∀ (kV doc pm:Value) (an:Option Addr) (cdv ct:Value) (us:List Value),us.length=ps.length→bindArgs (PySem.W.fnOf "__init__" qual (defArgs st) (defBody st) (defScope st) .none kV doc pm an cdv ct) ⟨us,[]⟩=pure (ps.zip us))
  (len:∀ vs H Q E,sp vs H Q E→vs.length=ps.length)
  (hbody:∀ (f:Addr) (cdv:Value) (A:Around) (outer:List Env) (s:Shared) (H:Hp) (vs:List V) (Q:VK) (E:XK),Room k (A.deeper (envOfC qual (defScope st) s.heap.objs.size f cdv))→sp vs H Q E→
   ∃ t,PSs (gS ib P w K mg base N qual (defScope st) f cdv A outer s H E).nox (defBody st) t∧t { nx:=fun _ H'=>Q .non H',rt:=Q } (start N vs) H):mw P w K mg base (k+1) x C ps sp:=by
 obtain⟨f,fd,F,m,g⟩:=D.ex
 exact⟨f,fd,F.ok S len fun cdv A outer s H vs Q E hr h=>hbody f cdv A outer s H vs Q E hr h,F.binds hb,m,g⟩
end
def wH(C:Addr)(f:Str)(ta:TE):TE:=fun σ H Q=>ta σ H fun x H1=>∃ a,x = .ref a∧∃ dx fs v,H1 a=some (.ins C dx fs)∧fs.lookup f=some v∧Q v H1
def wX(C:Addr)(f:Str)(ta tv:TE):TS:=fun D σ H=>tv σ H fun y H1=>ta σ H1 fun x H2=>∃ a,x = .ref a∧∃ dx fs,H2 a=some (.ins C dx fs)∧fs.length<1000∧D.nx σ (upd H2 a (.ins C dx (c_ f y fs)))
def tY(C:Addr)(sp:Sp)(t:TA):TE:=fun σ H Q=>t σ H fun vs H1=>∀ x dx,H1 x=none→H1 dx=none→dx≠x→sp (.ref x::vs) (upd (upd H1 dx (.own x)) x (.ins C dx [])) (fun v H2=>v = .non∧Q (.ref x) H2) E0
section
variable{X:Cx}{o e value:Expr}{es:List Expr}{f m:Str}{pos pos' apos p:Pos}{ta tv:TE}{t:TA}{C:Addr}{x:Str}{ps:List Str}{sp:Sp}{j k:Nat}
theorem bu(g:Fl X.K C f)(he:PE X e ta)(hb:attributeBase e f X.env (eval e X.env)=eval e X.env:=by rfl):PE X (.Attribute e f pos) (wH C f ta):=by
 intro pins s σ H Q I h
 refine xR hb (bd (he pins s σ H _ I h) fun u s1 ⟨x,H1,I1,rx,a,ex,dx,fs,v,ea,l,q⟩=>?_)
 subst ex
 obtain rfl:u=Value.ref a:=rx
 exact qO I1 ea g.c g.n l fun u' s2 I2 ru=>⟨v,H1,I2,ru,q⟩
theorem ii(g:Fl X.K C f)(ha:PE X o ta)(hv:PE X value tv)(hs:swapsWith value (some (.Attribute o f pos')) pos.line X.env=pure false:=by rfl):PS X (.Assign [.Attribute o f pos'] value pos) (wX C f ta tv):=by
 intro pins s σ H D I h
 refine plainObj_wpAny_Assign_Attribute (bd (hv pins s σ H _ I h) fun u s1 ⟨y,H1,I1,ry,q⟩=>bd (ha pins s1 σ H1 _ I1 q) fun ov s2 ⟨x,H2,I2,rx,a,ex,dx,fs,ea,l,q2⟩=>?_) hs
 subst ex
 obtain rfl:ov=Value.ref a:=rx
 exact qW I2 ea g.c g.n l ry fun s3 I3=>⟨σ,_,I3,q2⟩
theorem Ak(c:mw X.prog X.w X.K X.mg X.base j x C ps sp)(hr:Room k X.A)(ha:PA X (e::es) t)(hle:j+1≤k:=by decide)(hg:Gl X x:=by rfl)(hdb:(x == ("__debug__" : Str))=false:=by decide)
  (he:starEach (e::es) X.env=(false,eval e X.env)::starEach es X.env:=by rfl) (hpl:(backTo pos (starEach es X.env)).any (·.1)=false:=by rfl) :
  PE X (.Call (.Name x p) (e::es) [] pos) (tY C sp t):=by
 obtain⟨f,fd,F,b,M,hm⟩:=c.ex
 intro pins s σ H Q I h
 refine wpAny_Call_Name_kw (kh I hg hm ?_ hdb)
 refine PySem.W.callWith_K (h₀:=X.base) I.ok.mod.kin M.kp (bd (ha pos pins s σ H _ I h) fun us s1 ⟨vs,H1,I1,r,q⟩=>⟨I1.kIn,?_⟩) he hpl
 exact u9 M F (hr.mono hle) b .nil wC I1 r (by simpa only[List.append_nil] using q)
end
section
variable{C:Addr}{f m:Str}{sp:Sp}{ta tv:TE}{t:TA}{σ : St}{H:Hp}{Q:VK}
theorem nr:wH C f ta σ H Q=ta σ H fun x H1=>∃ a,x = .ref a∧∃ dx fs v,H1 a=some (.ins C dx fs)∧fs.lookup f=some v∧Q v H1:=rfl
theorem ox{D:dm}:wX C f ta tv D σ H=tv σ H fun y H1=>ta σ H1 fun x H2=>∃ a,x = .ref a∧∃ dx fs,H2 a=some (.ins C dx fs)∧fs.length<1000∧D.nx σ (upd H2 a (.ins C dx (c_ f y fs))):=rfl
theorem lL:tY C sp t σ H Q=t σ H fun vs H1=>∀ x dx,H1 x=none→H1 dx=none→dx≠x→sp (.ref x::vs) (upd (upd H1 dx (.own x)) x (.ins C dx [])) (fun v H2=>v = .non∧Q (.ref x) H2) E0:=rfl
end
theorem yd{f:Str}{v:V}{fs:List (Str × V)}:List.lookup f ((f,v)::fs)=some v:=by simp[List.lookup]
theorem xW{f g:Str}{v:V}{fs:List (Str × V)}(h:(f == g)=false):List.lookup f ((g,v)::fs)=List.lookup f fs:=by simp[List.lookup,h]
theorem y_{f:Str}:List.lookup f ([]:List (Str × V))=none:=rfl
theorem sK{f g:Str}{v x:V}{r:List (Str × V)}(h:¬ g=f):c_ f v ((g,x)::r)=(g,x)::c_ f v r:=by simp[c_,h]
theorem vv{f:Str}{v:V}:c_ f v []=[(f,v)]:=rfl
end L2
namespace L2
open PySem PySem.Spec PyProof.Rows PySem.SeqAt
section
variable{X:Cx}
end
theorem x4{x y:Str}(h:x.cps.toList=y.cps.toList):x=y:=by
 cases x; cases y
 exact congrArg _ (Array.toList_inj.mp h)
theorem fj(x y:Str):(x++y).cps.toList=x.cps.toList++y.cps.toList:=Array.toList_append
end L2
namespace L2
open PySem PySem.Spec PyProof.Rows
section
variable{X:Cx}{tg e:Expr}
end
end L2
namespace L2
open PySem PySem.Spec PyProof.Rows PySem.SeqAt
section
variable{prog:Program}{w:World}{A:Around}{R:Result→Shared→Prop}{I:Addr}{fp wr:List Addr}{Gm:Array GenState→Array GenState→Prop}{n:Nat}{P:Nat→Value→Prop}{St:Nat→Shared→Prop}{L:Bool}
end
section
variable{prog:Program}{w:World}{A:Around}{E:Value→Shared→Prop}{s:Shared}
end
section
variable{X:Cx}
end
section
variable{prog:Program}{w:World}{A:Around}{E:Value→Shared→Prop}{s:Shared}
end
section
variable{X:Cx}
end
section
variable{X:Cx}{c a b:Expr}{tA tB1 tB2:TT}{pos:Pos}
end
end L2
namespace L2
open PySem PySem.Spec PyProof.Rows PySem.SeqAt PySem.Builtin PySem.Builtin.Str PySem.StrLaws
section
variable{X:Cx}
end
end L2
namespace L2
open PySem PySem.Spec PyProof.Rows PySem.SeqAt PySem.Builtin PySem.Builtin.Str PySem.StrLaws
def oI:V→List V→Hp→VK→Prop:=fun x xs H Q=>∃ s y,x = .str s∧xs=[.str y]∧Q (.bl (decide (0+y.length≤s.length)&&subAt s y 0)) H
theorem iB{H:Hp}{Q:VK}(s y:Str):oI (.str s) [.str y] H Q=Q (.bl (decide (0+y.length≤s.length)&&subAt s y 0)) H:=
 propext ⟨fun ⟨_,_,e1,e2,q⟩=>by cases e1; cases e2; exact q,fun q=>⟨s,y,rfl,rfl,q⟩⟩
theorem lW{X:Cx}:MtR X "str.startswith" oI:=by
 intro pins s σ H x xs v us Q I rx r h
 obtain⟨z,y,rfl,rfl,q⟩:=h
 obtain⟨t,rfl⟩:=rx
 obtain⟨u,rfl,ru⟩:=dB r
 obtain⟨u,rfl⟩:=ru
 exact call_gives F.slot_str_startswith (typeIs_str _ _ _) F.entry_str_startswith (F.args_str_startswith_2 _ _) (gives_str_startswith z y t u) ⟨.bl _,H,I,rfl,q⟩
theorem vW{X:Cx}(K:PySem.W.Frag)(hK:X.K=K:=by rfl):OpR X (binaryOp .Add) (qM K):=hK ▸ xu
theorem oh{K:PySem.W.Frag}{H:Hp}{Q:VK}(a b:Addr):qM K (.ref a) (.ref b) H Q=∃ xs ys,SqT K H a xs∧SqT K H b ys∧xs≠[]∧xs.length+ys.length≤sizeLine∧(ys=[]→Q (.ref a) H)∧(ys≠[]→∀ p,H p=none→Q (.ref p) (upd H p (.tup (xs++ys)))):=
 propext ⟨fun ⟨_,_,xs,ys,e1,e2,q⟩=>by cases e1; cases e2; exact⟨xs,ys,q⟩,fun ⟨xs,ys,q⟩=>⟨a,b,xs,ys,rfl,rfl,q⟩⟩
end L2
namespace L2
open PySem PySem.Spec PyProof.Rows
section
variable{X:Cx}
end
end L2
namespace L2
open PySem PySem.Spec PyProof.Rows
abbrev hX:=List (Option Int)
def MO(P:Program)(w:World):HeapKind P w (hX):=xa (dD P w) (show 0≤7 by decide)
def Ar(P:Program)(w:World)(a:Addr)(xs:List (hX × Addr × Value)):HO:=
 .ext fun h=>∃ o es ep,h.get? a=some o∧o.ExactDict∧o.data = .dict es ep∧es.toList=xs.map (entryOfKey (MO P w))∧(xs.map (·.1)).Nodup
def Cc(H:Hp)(k:hX)(b:Addr):Prop:=H b=some (.tup (k.map gB))
def CU(H:Hp)(p:hX × V)(q:hX × Addr × Value):Prop:=q.1=p.1∧Cc H p.1 q.2.1∧RelV p.2 q.2.2
def DO(P:Program)(w:World)(H:Hp)(a:Addr)(kvs:List (hX × V)):Prop:=
 ∃ xs,H a=some (Ar P w a xs)∧(a == sysModules)=false∧xs.length≤sizeLine∧Paired (CU H) kvs xs
section
variable{P:Program}{w:World}{H:Hp}
end
section
variable{X:Cx}{pins:List (Addr × Obj)}{σ : St}{H:Hp}{s:Shared}{a b:Addr}{k:hX}{kvs:List (hX × V)}
end
end L2
namespace L2
open PySem PySem.Spec PyProof PyProof.Rows
section
variable{K:PySem.W.Frag}{a b:Addr}{xs ys:List V}{g:TG}{te:TE}{nT:Nat}{σ : St}{D:Addr}{Q:VK}{H:Hp}
theorem rM{tc:TT}(Pv:Nat→List V→Hp→Prop)(h0:Pv 0 [] H)(hl:∀ i zs H,i≤xs.length→Pv i zs H→SqL K H a xs)
  (hs:∀ i zs H x t,xs[i]? = some x→i<xs.length→Pv i zs H→H t=none→g (.ref t) (σ++List.replicate nT none) (upd H t (.tup [.int i,x])) (mf xs.length i Pv D zs tc te))
  (hd:∀ zs H,Pv xs.length zs H→Q (.ref D) H):fb (tP K a) g tc te nT σ D Q H:=by
 refine mv xs.length Pv h0 (fun i zs H hi p=>⟨xs,xs[i],hl i zs H (Nat.le_of_lt hi) p,by simp[hi]⟩) (fun zs H p=>⟨xs,hl _ zs H (Nat.le_refl _) p,Nat.le_refl _⟩) (fun i zs H v H' hi p yl=>?_) hd
 obtain⟨t,x,ht,rfl,rfl,y1⟩:=yl
 exact hs i zs H x t (y1 xs (hl i zs H (Nat.le_of_lt hi) p)) hi p ht
end
theorem pY{α : Type}{xs:List α}{v:α}(h:xs[xs.length - 1]? = some v):cY xs (-1)=some v:=by
 have hl:0<xs.length:=by
  refine Classical.byContradiction fun hn=>?_
  rw[List.getElem?_eq_none (by omega)]at h; cases h
 unfold cY gH
 rw[if_neg (by decide),if_pos (by omega)]
 show xs[(-1+(xs.length:Int)).toNat]? = some v
 rw[show (-1+(xs.length:Int)).toNat=xs.length - 1 by omega]; exact h
section
variable{prog:Program}{w:World}{A:Around}{E:Value→Shared→Prop}{s:Shared}
end
end L2
namespace L2
open PySem PySem.Spec PyProof PyProof.Rows
section
variable{X:Cx}
end
section
variable{X:Cx}
end
section
variable{d:Addr}{o:Obj}{kvs:List (aK × V)}{g:TG}{σ : St}{H:Hp}
end
end L2
namespace PySem.SeqAt
open AutoSeq1 (wpAny_loadPart')
open MeetsSeq MeetsSeq2 MeetsSeq3
end PySem.SeqAt
namespace L2
open PySem PySem.Spec PyProof PyProof.Rows
section
variable{X:Cx}
end
end L2
namespace L2
open PySem PySem.Spec PyProof PyProof.Rows
section
variable{X:Cx}
end
end L2
namespace L2
open PySem PySem.Spec PyProof.Rows
section
variable{X:Cx}{pins:List (Addr × Obj)}{σ : St}{H:Hp}{s:Shared}{a:Addr}{kvs:List (Option Int × V)}
end
section
variable{X:Cx}(P:Program)(w:World)
end
end L2
namespace L2
open PySem PySem.Spec PyProof PyProof.Rows
section
variable{prog:Program}{w:World}{A:Around}{E:Value→Shared→Prop}{s:Shared}
variable{z TI TO i1 i2 t1 t2:Addr}{xs ys:Array Value}{k1 k2:Nat}{a b:Value}
end
section
variable{K:PySem.W.Frag}{a b:Addr}{xs ys:List V}{g:TG}{te:TE}{nT:Nat}{σ : St}{D:Addr}{Q:VK}{H:Hp}
end
end L2
namespace L2
open PySem PySem.Spec PyProof PyProof.Rows PySem.SeqAt
section
variable{X:Cx}
end
section
variable{X:Cx}
end
section
variable{X:Cx}
def C5:R2:=fun x y H Q=>∃ a kvs k,y = .ref a∧x=kV k∧H a=some (.dK kvs)∧Q (.bl (bT kvs k).isSome) H
theorem Ad{n:Nat}(hr:Room n X.A):OpR X (compareOp .In) C5:=by
 intro pins s σ H x y v u Q I rx ry h
 obtain⟨a,kvs,k,rfl,rfl,e,q⟩:=h
 cases ry
 exact CP (by have:=hr.un; omega) I (DGet.k e) rx fun s' I'=>⟨.bl _,H,I',rfl,q⟩
end
end L2
namespace L2
open PySem PySem.Spec PyProof PyProof.Rows
section
variable{X:Cx}
end
section
variable{prog:Program}{w:World}{κ : Type}[DecidableEq κ]{knd:HeapKind prog w κ}{A:Around}{E:Value→Shared→Prop}{s:Shared}
end
section
variable{X:Cx}
end
end L2
namespace L2
open PySem PySem.Spec PyProof PyProof.Rows
section
variable{X:Cx}{pins:List (Addr × Obj)}{σ : List (Option V)}{H:Hp}{s:Shared}
end
section
variable{X:Cx}
end
open PySem.SeqAt
section
variable{X:Cx}
end
end L2
namespace PySem.SeqAt
open AutoSeq1 (wpAny_loadPart')
open MeetsSeq MeetsSeq2 MeetsSeq3
open SeqRoads2
section
variable{A:Around}{s:Shared}
end
end PySem.SeqAt
namespace L2
open PySem PySem.Spec PyProof PyProof.Rows PySem.SeqAt
section
variable{X:Cx}{pins:List (Addr × Obj)}{σ : St}{H:Hp}{s:Shared}
end
end L2
namespace PySem
section
variable{M:Program}{w:World}{A:Around}{R:Result→Shared→Prop}{I:Addr}{fp wr:List Addr}{n:Nat}{Pv:Nat→Value→Prop}{St:Nat→Heap→Prop}
end
end PySem
namespace PySem
section
variable{M:Program}{w:World}{A:Around}{E:Value→Shared→Prop}{s:Shared}
end
end PySem
namespace L2
open PySem PySem.Spec PyProof PyProof.Rows PySem.SeqAt
section
variable{X:Cx}
end
end L2
namespace L2
open PySem PySem.Spec PyProof PyProof.Rows
section
variable{X:Cx}
end
end L2
namespace L2
open PySem PySem.Spec PyProof.Rows
abbrev gj:=Sum Str (List (Option Int))
def qZ(prog:Program)(w:World)(h:Heap):gj→Value→Prop
 | .inl u,v=>∃ t,v=Value.str u t
 | .inr l,v=>IsTupK (dD prog w) h l v
theorem An(i j:Str):decide (i=j)=decide ((Sum.inl i:gj)=Sum.inl j):=by
 by_cases z:i=j
 ·subst z; simp
 ·have z':¬ ((Sum.inl i:gj)=Sum.inl j):=fun q=>z (Sum.inl.inj q)
  rw[decide_eq_false z',decide_eq_false z]
theorem Al(l l':List (Option Int)):decide (l=l')=decide ((Sum.inr l:gj)=Sum.inr l'):=by
 by_cases z:l=l'
 ·subst z; simp
 ·have z':¬ ((Sum.inr l:gj)=Sum.inr l'):=fun q=>z (Sum.inr.inj q)
  rw[decide_eq_false z',decide_eq_false z]
theorem Az(i:Str)(l:List (Option Int)):decide ((Sum.inl i:gj)=Sum.inr l)=false:=decide_eq_false (fun q=>nomatch q)
theorem Aw(i:Str)(l:List (Option Int)):decide ((Sum.inr l:gj)=Sum.inl i)=false:=decide_eq_false (fun q=>nomatch q)
theorem Av{prog:Program}{w:World}{A:Around}{E:Value→Shared→Prop}{s:Shared}{u v:Value}{Q:Bool→Shared→Prop}(hu:A.units+1<cLine):∀ (x y:gj),qZ prog w s.heap x u→qZ prog w s.heap y v→Q (decide (x=y)) s→
  wpAny (model prog w) A (PySem.eqBool u v) Q E s
 | .inl i,.inl j,⟨t,e1⟩,⟨t',e2⟩,h=>by
  subst e1 e2
  rw[← An]at h
  exact wpAny_eqBool_str h
 | .inl i,.inr l,⟨t,e1⟩,hy,h=>by
  subst e1
  obtain⟨b,its,rfl,ht⟩:=IsTupK.tup (K:=dD prog w) hy
  rw[Az]at h
  exact SeqAt.EqAt.str_tuple i t ht (Nat.lt_of_succ_lt hu) prog w E Q h
 | .inr l,.inl j,hx,⟨t,e1⟩,h=>by
  subst e1
  obtain⟨b,its,rfl,ht⟩:=IsTupK.tup (K:=dD prog w) hx
  rw[Aw]at h
  exact SeqAt.EqAt.tuple_str j t ht (Nat.lt_of_succ_lt hu) prog w E Q h
 | .inr l,.inr l',hx,hy,h=>by
  rw[← Al]at h
  exact kr (K:=dD prog w) (qw hu) hx hy h
def BU(prog:Program)(w:World):IK prog w gj where
 is:=qZ prog w
 hash:=fun k=>match k with
  | .inl u=>hashStr w u
  | .inr l=>nv (dD prog w) l
 draws:=fun k=>match k with
  | .inl _=>1
  | .inr l=>fU (dD prog w) l+1
 deep:=1
 inj:=fun {h v x y} a b=>by
  cases x with
  | inl i=>
   obtain⟨t,rfl⟩:=(show ∃ t,v=Value.str i t from a)
   cases y with
   | inl j=>obtain⟨t',e⟩:=(show ∃ t',Value.str i t=Value.str j t' from b); injection e with e1 _; rw[e1]
   | inr l=>obtain⟨a,_,e,_⟩:=IsTupK.tup (show IsTupK (dD prog w) h l _ from b); cases e
  | inr l=>
   cases y with
   | inl j=>
    obtain⟨t,rfl⟩:=(show ∃ t,v=Value.str j t from b)
    obtain⟨a,_,e,_⟩:=IsTupK.tup (show IsTupK (dD prog w) h l _ from a); cases e
   | inr l'=>rw[(qI (dD prog w)).inj (show IsTupK (dD prog w) h l v from a) (show IsTupK (dD prog w) h l' v from b)]
 keeps:=fun {h h' k v d o es ep} a ho hd hs=>by
  cases k with
  | inl i=>exact a
  | inr l=>exact(qI (dD prog w)).keeps (show IsTupK (dD prog w) h l v from a) ho hd hs
 pyHash:=fun {A E s k v Q} hu hk h=>by
  cases k with
  | inl i=>
   obtain⟨t,rfl⟩:=(show ∃ t,v=Value.str i t from hk)
   exact wpAny_pyHash_str h
  | inr l=>exact hZ (K:=dD prog w) (qw hu) hk h
 eqBool:=fun {A E s x y u v Q} hu hx hy h=>Av hu x y hx hy h
 quiet:=fun {A E s k v n Q} hk h=>by
  cases k with
  | inl i=>
   obtain⟨t,rfl⟩:=(show ∃ t,v=Value.str i t from hk)
   rw[eqIsQuiet_byValue _ rfl]
   exact wpAny_pure h
  | inr l=>exact gr (K:=dD prog w) hk h
abbrev jG:=Str × List (Option Int)
def sk(k:jG):List gj:=[.inl k.1,.inr k.2]
def MS(P:Program)(w:World):HeapKind P w (List gj):=xa (BU P w) (show 1≤7 by decide)
def AJ(P:Program)(w:World)(a:Addr)(xs:List (List gj × Addr × Value)):HO:=
 .ext fun h=>∃ o es ep,h.get? a=some o∧o.ExactDict∧o.data = .dict es ep∧es.toList=xs.map (entryOfKey (MS P w))∧(xs.map (·.1)).Nodup
def Cj(H:Hp)(k:jG)(b:Addr):Prop:=∃ t,H b=some (.tup [.str k.1,.ref t])∧H t=some (.tup (k.2.map gB))
def Bl(H:Hp)(p:jG × V)(q:List gj × Addr × Value):Prop:=q.1=sk p.1∧Cj H p.1 q.2.1∧RelV p.2 q.2.2
def DS(P:Program)(w:World)(H:Hp)(a:Addr)(kvs:List (jG × V)):Prop:=
 ∃ xs,H a=some (AJ P w a xs)∧(a == sysModules)=false∧xs.length≤sizeLine∧Paired (Bl H) kvs xs
section
variable{P:Program}{w:World}{H:Hp}
end
section
variable{X:Cx}{pins:List (Addr × Obj)}{σ : St}{H:Hp}{s:Shared}{a b:Addr}{k:jG}{kvs:List (jG × V)}
end
end L2
namespace L2
open PySem PySem.Spec PyProof.Rows
abbrev fI (h:Heap) (z TI TO T:Addr) (f:Bool):Prop:=
 h.get? z=some { cls:=.type "zip", dict:=none,data:=.fields #[rawInt T,.bool f,.bool false,.ref TI,.ref TO],slots:=#[] }
section
variable{prog:Program}{w:World}{A:Around}{E:Value→Shared→Prop}{s:Shared}
theorem iw{a:Addr}{Q:Option Obj→Shared→Prop}(h:Q (s.heap.get? a) s):wpAny (model prog w) A (loadIfAlive a) Q E s:=fun _ _ _=>h
theorem kP{z TI TO T:Addr}{f:Bool}{Q:Bool→Shared→Prop}(hz:fI s.heap z TI TO T f)(hT:∃ o,s.heap.get? T=some o)(hQ:∀ h',fI h' z TI TO T true→Heap.SameBut z s.heap h'→Q false { s with heap:=h' }) :
  wpAny (model prog w) A (Builtin.SmallTypes.ownedTupleIsFree (.ref z)) Q E s:=by
 obtain⟨o,ho⟩:=hT
 unfold Builtin.SmallTypes.ownedTupleIsFree
 refine wpAny_bind (wpAny_field hz rfl (x:=rawInt T) rfl ?_)
 show wpAny _ _ (loadIfAlive T >>= _) _ _ _
 refine wpAny_bind (iw ?_)
 rw[ho]
 show wpAny _ _ (field (.ref z) 1 >>= _) _ _ _
 refine wpAny_bind (wpAny_field hz rfl (x:=.bool f) rfl ?_)
 cases f with
 | false=>
  show wpAny _ _ (setField (.ref z) 1 (.bool true) >>= _) _ _ _
  refine wpAny_bind (wpAny_setField_rec hz (by simp) fun h1 hz1 hs1=>wpAny_pure (hQ h1 hz1 hs1))
 | true=>
  refine wpAny_pure (hQ s.heap hz ⟨rfl,fun _ _=>rfl⟩)
theorem sG{z TI TO T i1 i2 l1 l2:Addr}{f:Bool}{k1 k2:Nat}{xs ys:Array Value}{x y:Value}{Q:Value→Shared→Prop}(D:ZipApart z TI TO i1 i2 l1 l2)
  (hz:fI s.heap z TI TO T f) (hT:∃ o,s.heap.get? T=some o) (hTI:IsPair s.heap TI (.ref i1) (.ref i2))
  (h1:s.heap.IsListIter i1 l1 k1) (h2:s.heap.IsListIter i2 l2 k2) (hl1:s.heap.IsList l1 xs) (hl2:s.heap.IsList l2 ys) (hx:xs[k1]? = some x) (hy:ys[k2]? = some y)
  (hQ:∀ h',fI h' z TI TO T true→h'.IsListIter i1 l1 (k1+1)→h'.IsListIter i2 l2 (k2+1)→IsPair h' s.heap.objs.size x y→h'.objs.size=s.heap.objs.size+1→
   (∀ c o,c≠z→c≠i1→c≠i2→s.heap.get? c=some o→h'.get? c=some o)→Q (.ref s.heap.objs.size) { s with heap:=h' }) :
  wpAny (model prog w) A (Builtin.«zip.__next__» ⟨[.ref z],[]⟩) (fun fin s'=>∃ v,fin = .done (.ret v)∧Q v s') E s:=by
 show wpAny _ _ (field (.ref z) 2 >>= _) _ _ _
 refine wpAny_bind (wpAny_field hz rfl (x:=.bool false) rfl ?_)
 show wpAny _ _ (field (.ref z) 3 >>= _) _ _ _
 refine wpAny_bind (wpAny_field hz rfl (x:=.ref TI) rfl ?_)
 refine wpAny_bind (wpAny_seqItems hTI rfl ?_)
 show wpAny _ _ (Builtin.SmallTypes.ownedTupleIsFree (.ref z) >>= _) _ _ _
 refine wpAny_bind (kP hz hT fun ha hza hsa=>?_)
 simp only[Bool.false_eq_true,if_false]
 refine wpAny_bind ?_
 rw[← Array.forIn_toList]
 simp only[List.forIn_cons,List.forIn_nil]
 refine wpAny_bind (wpAny_bind (wpAny_holding ?_))
 show wpAny _ _ (Builtin.SmallTypes.nextOf (.ref i1) >>= _) _ _ _
 refine wpAny_bind (wpAny_nextOf_list_item (h1.extBut hsa.extBut D.i1z) (hl1.extBut hsa.extBut D.l1z) hx fun hb h1b hsb=>wpAny_pure ?_)
 refine wpAny_pure ?_
 refine wpAny_bind (wpAny_bind (wpAny_holding ?_))
 show wpAny _ _ (Builtin.SmallTypes.nextOf (.ref i2) >>= _) _ _ _
 refine wpAny_bind (wpAny_nextOf_list_item ((h2.extBut hsa.extBut D.i2z).extBut hsb.extBut D.i12.symm) ((hl2.extBut hsa.extBut D.l2z).extBut hsb.extBut D.l2i1) hy fun hc h2c hsc=>wpAny_pure ?_)
 refine wpAny_pure (wpAny_pure ?_)
 refine wpAny_bind (wpAny_newTuple ?_ (by show 2≤sizeLine; rw[sizeLine_eq]; decide))
 have hsz:hc.objs.size=s.heap.objs.size:=by rw[hsc.1,hsb.1,hsa.1]
 have hzc:fI hc z TI TO T true:=hsc.extBut _ _ D.i2z.symm (hsb.extBut _ _ D.i1z.symm hza)
 have kc:∀ c o,c≠z→c≠i1→c≠i2→s.heap.get? c=some o→hc.get? c=some o:=fun c o c1 c3 c4 e=>hsc.extBut _ _ c4 (hsb.extBut _ _ c3 (hsa.extBut _ _ c1 e))
 have h1c:hc.IsListIter i1 l1 (k1+1):=h1b.extBut hsc.extBut D.i12
 refine wpAny_pure ⟨_,rfl,?_⟩
 show Q (.ref hc.objs.size) _
 rw[hsz]
 refine hQ (hc.push { cls:=.type "tuple", data:=.seq #[x,y] }) (Heap.get?_push_of_some _ hzc) (h1c.at fun o e=>Heap.get?_push_of_some _ e) (h2c.at fun o e=>Heap.get?_push_of_some _ e) ?_ (by rw[Heap.size_push,hsz]) fun c o c1 c3 c4 e=>Heap.get?_push_of_some _ (kc c o c1 c3 c4 e)
 show (hc.push _).get? s.heap.objs.size=_
 rw[← hsz]
 exact Heap.get?_push_size _ rfl
theorem vP{z TI TO T i1 i2 l1 l2:Addr}{f:Bool}{k1 k2:Nat}{xs ys:Array Value}{Q:Fin→Shared→Prop}(hh:A.handled=none)(D:ZipApart z TI TO i1 i2 l1 l2)
  (hz:fI s.heap z TI TO T f) (hT:∃ o,s.heap.get? T=some o) (hTI:IsPair s.heap TI (.ref i1) (.ref i2))
  (h1:s.heap.IsListIter i1 l1 k1) (h2:s.heap.IsListIter i2 l2 k2) (hl1:s.heap.IsList l1 xs) (hl2:s.heap.IsList l2 ys) (hend:xs[k1]? = none∨ys[k2]? = none)
  (hE:∀ h' e,(∀ c o,c≠z→c≠i1→c≠i2→s.heap.get? c=some o→h'.get? c=some o)→(∃ o,h'.get? e=some o∧o.cls = .type "StopIteration")→E (.ref e) { s with heap:=h' }) :
  wpAny (model prog w) A (Builtin.«zip.__next__» ⟨[.ref z],[]⟩) Q E s:=by
 show wpAny _ _ (field (.ref z) 2 >>= _) _ _ _
 refine wpAny_bind (wpAny_field hz rfl (x:=.bool false) rfl ?_)
 show wpAny _ _ (field (.ref z) 3 >>= _) _ _ _
 refine wpAny_bind (wpAny_field hz rfl (x:=.ref TI) rfl ?_)
 refine wpAny_bind (wpAny_seqItems hTI rfl ?_)
 show wpAny _ _ (Builtin.SmallTypes.ownedTupleIsFree (.ref z) >>= _) _ _ _
 refine wpAny_bind (kP hz hT fun ha hza hsa=>?_)
 simp only[Bool.false_eq_true,if_false]
 refine wpAny_bind ?_
 rw[← Array.forIn_toList]
 simp only[List.forIn_cons,List.forIn_nil]
 refine wpAny_bind (wpAny_bind (wpAny_holding ?_))
 show wpAny _ _ (Builtin.SmallTypes.nextOf (.ref i1) >>= _) _ _ _
 cases hx:xs[k1]? with
 | none=>
  refine wpAny_bind (wpAny_nextOf_list_end hh (h1.extBut hsa.extBut D.i1z) (hl1.extBut hsa.extBut D.l1z) hx fun hb e hsb he=>?_)
  exact hE hb e (fun c o c1 c3 _ x=>hsb _ _ c3 (hsa.extBut _ _ c1 x)) he
 | some x=>
  have hy:ys[k2]? = none:=by rcases hend with h | h; rw[hx]at h; cases h; exact h
  refine wpAny_bind (wpAny_nextOf_list_item (h1.extBut hsa.extBut D.i1z) (hl1.extBut hsa.extBut D.l1z) hx fun hb h1b hsb=>wpAny_pure ?_)
  refine wpAny_pure ?_
  refine wpAny_bind (wpAny_bind (wpAny_holding ?_))
  show wpAny _ _ (Builtin.SmallTypes.nextOf (.ref i2) >>= _) _ _ _
  refine wpAny_bind (wpAny_nextOf_list_end hh ((h2.extBut hsa.extBut D.i2z).extBut hsb.extBut D.i12.symm) ((hl2.extBut hsa.extBut D.l2z).extBut hsb.extBut D.l2i1) hy fun hc e hsc he=>?_)
  exact hE hc e (fun c o c1 c3 c4 x=>hsc _ _ c4 (hsb.extBut _ _ c3 (hsa.extBut _ _ c1 x))) he
def ZOs(z TI TO i1 i2 l1 l2:Addr)(xs ys:Array Value)(i:Nat)(h:Heap):Prop:=
 (IsZip h z TI TO .none∨∃ T f,fI h z TI TO T f∧∃ o,h.get? T=some o)∧IsPair h TI (.ref i1) (.ref i2)∧(∃ a b,IsPair h TO a b)∧h.IsListIter i1 l1 i∧h.IsListIter i2 l2 i∧h.IsList l1 xs∧h.IsList l2 ys
theorem vF{z TI TO i1 i2 l1 l2:Addr}{i:Nat}{xs ys:Array Value}{x y:Value}{Q:Option Value→Shared→Prop}(D:ZipApart z TI TO i1 i2 l1 l2)(h:ZOs z TI TO i1 i2 l1 l2 xs ys i s.heap)(hx:xs[i]? = some x)(hy:ys[i]? = some y)
  (hQ:∀ h',ZOs z TI TO i1 i2 l1 l2 xs ys (i+1) h'→IsPair h' s.heap.objs.size x y→h'.objs.size=s.heap.objs.size+1→(∀ c o,c≠z→c≠TO→c≠i1→c≠i2→s.heap.get? c=some o→h'.get? c=some o)→Q (some (.ref s.heap.objs.size)) { s with heap:=h' }) :
  wpAny (model prog w) A (pyNext (.ref z)) Q E s:=by
 obtain⟨hz,hTI,⟨a,b,hTO⟩,h1,h2,hl1,hl2⟩:=h
 rcases hz with hz | ⟨T,f,hz,hT⟩
 ·refine wpAny_pyNext_zip_item D hz hTI hTO h1 h2 hl1 hl2 hx hy fun h' a1 a2 a3 a4 a5 a6 hk=>?_
  exact hQ h' ⟨.inr ⟨s.heap.objs.size,false,a1,_,a5⟩,hk _ _ D.TIz D.TITO D.TIi1 D.TIi2 hTI,⟨_,_,a2⟩,a3,a4,hl1.at fun o e=>hk _ o D.l1z D.l1TO D.l1i1 D.l1i2 e,hl2.at fun o e=>hk _ o D.l2z D.l2TO D.l2i1 D.l2i2 e⟩ a5 a6 hk
 ·have hTy:s.TypeIs (.ref z) "zip" := ⟨_,hz,rfl⟩
  unfold pyNext
  refine wpAny_bind (wpAny_attempt (wpAny_callSpecial?_slot (name:=Str.ofString "__next__") hTy F.slot_zip_next
   (wpAny_call_entry F.slot_zip_next hTy F.entry_zip_next
    (sG D hz hT hTI h1 h2 hl1 hl2 hx hy fun h' a1 a3 a4 a5 a6 hk=>wpAny_pure (hQ h' ⟨.inr ⟨T,true,a1,?_⟩,hk _ _ D.TIz D.TIi1 D.TIi2 hTI,⟨_,_,hk _ _ D.TOz D.TOi1 D.TOi2 hTO⟩,a3,a4,hl1.at fun o e=>hk _ o D.l1z D.l1i1 D.l1i2 e,hl2.at fun o e=>hk _ o D.l2z D.l2i1 D.l2i2 e⟩ a5 a6 fun c o c1 _ c3 c4 e=>hk c o c1 c3 c4 e)) (F.args_zip_next_1 _))))
  obtain⟨o,ho⟩:=hT
  by_cases c1:T=z
  ·exact⟨_,by rw[c1]; exact a1⟩
  by_cases c2:T=i1
  ·obtain⟨o',e',_⟩:=a3; exact⟨o',by rw[c2]; exact e'⟩
  by_cases c3:T=i2
  ·obtain⟨o',e',_⟩:=a4; exact⟨o',by rw[c3]; exact e'⟩
  exact⟨o,hk _ _ c1 c2 c3 ho⟩
theorem xH{z TI TO i1 i2 l1 l2:Addr}{i:Nat}{xs ys:Array Value}{Q:Option Value→Shared→Prop}(hh:A.handled=none)(D:ZipApart z TI TO i1 i2 l1 l2)(h:ZOs z TI TO i1 i2 l1 l2 xs ys i s.heap)(hend:xs[i]? = none∨ys[i]? = none)
  (hQ:∀ h',(∀ c o,c≠z→c≠TO→c≠i1→c≠i2→s.heap.get? c=some o→h'.get? c=some o)→Q none { s with heap:=h' }):wpAny (model prog w) A (pyNext (.ref z)) Q E s:=by
 obtain⟨hz,hTI,⟨a,b,hTO⟩,h1,h2,hl1,hl2⟩:=h
 rcases hz with hz | ⟨T,f,hz,hT⟩
 ·exact wpAny_pyNext_zip_end hh D hz hTI hTO h1 h2 hl1 hl2 hend hQ
 ·have hTy:s.TypeIs (.ref z) "zip" := ⟨_,hz,rfl⟩
  unfold pyNext
  refine wpAny_bind (wpAny_attempt (wpAny_callSpecial?_slot (name:=Str.ofString "__next__") hTy F.slot_zip_next
   (wpAny_call_entry F.slot_zip_next hTy F.entry_zip_next (vP hh D hz hT hTI h1 h2 hl1 hl2 hend fun h' e hk he=>?_) (F.args_zip_next_1 _))))
  obtain⟨o,ho,hc⟩:=he
  refine wpAny_bind (wpAny_isInstance (T := "StopIteration") (b:=true) ⟨o,ho,hc⟩ isSubtype_stop ?_)
  exact wpAny_pure (hQ _ fun c o c1 _ c3 c4 e=>hk c o c1 c3 c4 e)
theorem ZOs.at{z TI TO i1 i2 l1 l2:Addr}{xs ys:Array Value}{i:Nat}{h h':Heap}(x:ZOs z TI TO i1 i2 l1 l2 xs ys i h)(k:∀ b o,h.get? b=some o→((b=z∨b=TI∨b=TO∨b=i1∨b=i2∨b=l1∨b=l2)→h'.get? b=some o)∧∃ o',h'.get? b=some o'):ZOs z TI TO i1 i2 l1 l2 xs ys i h':=by
 obtain⟨hz,hTI,⟨a,b,hTO⟩,h1,h2,hl1,hl2⟩:=x
 refine⟨?_,(k _ _ hTI).1 (by simp),⟨a,b,(k _ _ hTO).1 (by simp)⟩,h1.at fun o e=>(k _ _ e).1 (by simp),h2.at fun o e=>(k _ _ e).1 (by simp),hl1.at fun o e=>(k _ _ e).1 (by simp),hl2.at fun o e=>(k _ _ e).1 (by simp)⟩
 rcases hz with hz | ⟨T,f,hz,o,hT⟩
 ·exact .inl ((k _ _ hz).1 (by simp))
 ·exact .inr ⟨T,f,(k _ _ hz).1 (by simp),(k _ _ hT).2⟩
def uv(xs ys:Array Value)(B:Nat)(acc:Array Value)(i:Nat)(h:Heap):Prop:=acc.size=i∧∀ j v,acc[j]? = some v→∃ x y,v = .ref (B+j)∧xs[j]? = some x∧ys[j]? = some y∧IsPair h (B+j) x y
theorem rh{R:Result→Shared→Prop}{z TI TO i1 i2 l1 l2:Addr}{xs ys:Array Value}{n:Nat}(hh:A.handled=none)(D:ZipApart z TI TO i1 i2 l1 l2)(hn:n≤1000)(hxy:∀ i,i<n→∃ x y,xs[i]? = some x∧ys[i]? = some y)(hend:xs[n]? = none∨ys[n]? = none)
  (S:Addr) (B:Nat) (hSB:S<B) (hS:∀ b,(b=z∨b=TI∨b=TO∨b=i1∨b=i2∨b=l1∨b=l2)→b<S) (res:Value) :
  ∀ (k i:Nat) (s:Shared) (acc:Array Value) (c:Nat),n - i=k→i≤n→ZOs z TI TO i1 i2 l1 l2 xs ys i s.heap→s.heap.get? S=some { cls:=.type "list", dict:=none,data:=.seq acc c,slots:=#[] }→uv xs ys B acc i s.heap→s.heap.objs.size=B+i→
  (∀ h' acc' c',(∀ b o,b≠S→b≠z→b≠TO→b≠i1→b≠i2→s.heap.get? b=some o→h'.get? b=some o)→h'.get? S=some { cls:=.type "list", dict:=none,data:=.seq acc' c',slots:=#[] }→uv xs ys B acc' n h'→R (.ok (.ret res)) { s with heap:=h' })→
  codeAny (model prog w) A (.builtin "list.extend.loop" ⟨[.ref S,.ref z,res],[]⟩) R s:=by
 have sz:S≠z:=Nat.ne_of_gt (hS z (by simp))
 have sTO:S≠TO:=Nat.ne_of_gt (hS TO (by simp))
 have si1:S≠i1:=Nat.ne_of_gt (hS i1 (by simp))
 have si2:S≠i2:=Nat.ne_of_gt (hS i2 (by simp))
 have bz:∀ j,B+j≠z:=fun j=>Nat.ne_of_gt (Nat.lt_of_lt_of_le (Nat.lt_trans (hS z (by simp)) hSB) (Nat.le_add_right _ _))
 have bTO:∀ j,B+j≠TO:=fun j=>Nat.ne_of_gt (Nat.lt_of_lt_of_le (Nat.lt_trans (hS TO (by simp)) hSB) (Nat.le_add_right _ _))
 have bi1:∀ j,B+j≠i1:=fun j=>Nat.ne_of_gt (Nat.lt_of_lt_of_le (Nat.lt_trans (hS i1 (by simp)) hSB) (Nat.le_add_right _ _))
 have bi2:∀ j,B+j≠i2:=fun j=>Nat.ne_of_gt (Nat.lt_of_lt_of_le (Nat.lt_trans (hS i2 (by simp)) hSB) (Nat.le_add_right _ _))
 have bS:∀ j,B+j≠S:=fun j=>Nat.ne_of_gt (Nat.lt_of_lt_of_le hSB (Nat.le_add_right _ _))
 intro k
 induction k with
 | zero=>
  intro i s acc c hk hi hst hSs hacc hsz hR
  have hin:i=n:=by omega
  subst hin
  refine codeAny_builtin F.entry_extend_loop ?_
  rw[Around.under_plainId F.plain_extend_loop _]
  show wpAny _ A.in1 (pyNext (.ref z) >>= _) _ _ s
  refine wpAny_bind (xH (A:=A.in1) hh D hst hend fun h' hk'=>?_)
  refine wpAny_pure (hR h' acc c (fun b o _ c1 c2 c3 c4 e=>hk' b o c1 c2 c3 c4 e) (hk' _ _ sz sTO si1 si2 hSs) ⟨hacc.1,fun j v e=>?_⟩)
  obtain⟨x,y,e1,e2,e3,e4⟩:=hacc.2 j v e
  exact⟨x,y,e1,e2,e3,hk' _ _ (bz j) (bTO j) (bi1 j) (bi2 j) e4⟩
 | succ k ih=>
  intro i s acc c hk hi hst hSs hacc hsz hR
  have hlt:i<n:=by omega
  obtain⟨x,y,hx,hy⟩:=hxy i hlt
  refine codeAny_builtin F.entry_extend_loop ?_
  rw[Around.under_plainId F.plain_extend_loop _]
  show wpAny _ A.in1 (pyNext (.ref z) >>= _) _ _ s
  refine wpAny_bind (vF (A:=A.in1) D hst hx hy fun h' hst' hp hsz' hk'=>?_)
  have hS':=hk' _ _ sz sTO si1 si2 hSs
  have hs16:sizeLine=16777216:=sizeLine_eq
  show wpAny _ A.in1 (updateSeq S (·.push (.ref s.heap.objs.size)) >>= _) _ _ _
  refine wpAny_bind ?_
  refine wpAny_updateSeq hS' rfl (wpAny_pure ⟨plainId_quiet F.plain_extend_loop _,?_⟩) (by rw[hacc.1]; omega) (by show (acc.push _).size≤sizeLine+1; rw[Array.size_push,hacc.1]; omega)
  have oth:∀ b o,b≠S→h'.get? b=some o→(h'.update S (Obj.mapSeq (·.push (.ref s.heap.objs.size)))).get? b=some o:=fun b o hb e=>(Heap.get?_update_other _ _ (Ne.symm hb)).trans e
  have hself:=Heap.get?_update_self (Obj.mapSeq (·.push (.ref s.heap.objs.size))) hS' rfl
  have hszu:(h'.update S (Obj.mapSeq (·.push (.ref s.heap.objs.size)))).objs.size=h'.objs.size:=(Heap.SameBut.update ..).1
  refine ih (i+1) _ (acc.push (.ref s.heap.objs.size)) _ (by omega) hlt (hst'.at fun b o e=>⟨fun hb=>oth b o (Nat.ne_of_lt (hS b hb)) e,?_⟩) hself ⟨by rw[Array.size_push,hacc.1],fun j v e=>?_⟩ ?_ fun h'' acc' c' hk2 hS2 hacc2=>?_
  ·by_cases hb:b=S
   ·subst hb; exact⟨_,hself⟩
   ·exact⟨o,oth b o hb e⟩
  ·rw[Array.getElem?_push]at e
   split at e
   ·rename_i ej
    rw[hacc.1]at ej
    subst ej
    cases e
    refine⟨x,y,by rw[hsz],hx,hy,?_⟩
    rw[← hsz]
    exact oth _ _ (by rw[hsz]; exact bS _) hp
   ·obtain⟨x',y',e1,e2,e3,e4⟩:=hacc.2 j v e
    exact⟨x',y',e1,e2,e3,oth _ _ (bS j) (hk' _ _ (bz j) (bTO j) (bi1 j) (bi2 j) e4)⟩
  ·show (h'.update S _).objs.size=_
   rw[hszu,hsz',hsz]; omega
  ·refine hR h'' acc' c' (fun b o c0 c1 c2 c3 c4 e=>hk2 b o c0 c1 c2 c3 c4 (oth b o c0 (hk' b o c1 c2 c3 c4 e))) hS2 hacc2
theorem qH:typeLookup (.type "zip") "__len__" = pure none:=by rw[typeLookup_type,builtinLookup_eq_fast]; kernel_rfl
theorem oW:typeLookup (.type "zip") "__length_hint__" = pure none:=by rw[typeLookup_type,builtinLookup_eq_fast]; kernel_rfl
theorem ZOs.typ{z TI TO i1 i2 l1 l2:Addr}{xs ys:Array Value}{i:Nat}(h:ZOs z TI TO i1 i2 l1 l2 xs ys i s.heap):s.TypeIs (.ref z) "zip" := by
 rcases h.1 with hz | ⟨T,f,hz,_⟩
 ·exact⟨_,hz,rfl⟩
 ·exact⟨_,hz,rfl⟩
theorem o_{R:Result→Shared→Prop}{z TI TO i1 i2 l1 l2:Addr}{xs ys:Array Value}{n:Nat}(hh:A.handled=none)(D:ZipApart z TI TO i1 i2 l1 l2)(hn:n≤1000)(hxy:∀ i,i<n→∃ x y,xs[i]? = some x∧ys[i]? = some y)(hend:xs[n]? = none∨ys[n]? = none)
  (S:Addr) (hS:∀ b,(b=z∨b=TI∨b=TO∨b=i1∨b=i2∨b=l1∨b=l2)→b<S) (res:Value) (c₀ : Nat) (hz:IsZip s.heap z TI TO .none) (hst:ZOs z TI TO i1 i2 l1 l2 xs ys 0 s.heap) (hSs:s.heap.get? S=some { cls:=.type "list", data:=.seq #[] c₀ }) (hsz:s.heap.objs.size=S+1)
  (hR:∀ h' acc' c',(∀ b o,b≠S→b≠z→b≠TO→b≠i1→b≠i2→s.heap.get? b=some o→h'.get? b=some o)→h'.get? S=some { cls:=.type "list", dict:=none,data:=.seq acc' c',slots:=#[] }→uv xs ys (S+1) acc' n h'→R (.ok (.ret res)) { s with heap:=h' }) :
  wpAny (model prog w) A.in1 (Builtin.List.listExtendWith (.ref S) (.ref z) res)
   (fun fin s'=>match fin with | .done f=>R (.ok f) s' | .again c'=>c'.quiet=true∧codeAny (model prog w) A c' R s') (fun e s'=>R (.error e) s') s:=by
 have sz:S≠z:=Nat.ne_of_gt (hS z (by simp))
 have hty:=hst.typ
 unfold Builtin.List.listExtendWith
 refine wpAny_bind (wpAny_typeOf hty ?_)
 have h1:Builtin.List.listSameRef (.ref S) (.ref z)=false:=by simp[Builtin.List.listSameRef,sz]
 have h2:(Value.type "zip" == Value.type "list")=false:=by decide
 have h3:(Value.type "zip" == Value.type "tuple")=false:=by decide
 simp only[h1,h2,h3,Bool.or_false,Bool.false_eq_true,if_false]
 refine wpAny_bind (wpAny_pyIter_zip hz ?_)
 refine wpAny_bind (wpAny_holding ?_)
 unfold Builtin.List.listLengthHint
 refine wpAny_bind (wpAny_specialOf hty qH ?_)
 show wpAny _ A.in1 (specialOf (Value.ref z) (Str.ofString "__length_hint__") >>= _) _ _ _
 refine wpAny_bind (wpAny_specialOf hty oW ?_)
 refine wpAny_pure ?_
 show wpAny _ A.in1 (rule "list.extend.makes-room" >>= fun _=>Builtin.List.listTouch (.ref S) >>= fun _=>
  again (.builtin "list.extend.loop" ⟨[.ref S,.ref z,res],[]⟩)) _ _ _
 refine wpAny_bind (wpAny_rule ?_)
 refine wpAny_bind ?_
 show wpAny _ A.in1 (updateSeq S (·.push .none) >>= fun _=>updateSeq S (·.pop)) _ _ _
 refine wpAny_bind (wpAny_updateSeq hSs rfl ?_)
 have hS₂:=Heap.get?_update_self (Obj.mapSeq (·.push Value.none)) hSs rfl
 refine wpAny_updateSeq hS₂ rfl ?_
 have hS₃:=Heap.get?_update_self (Obj.mapSeq (·.pop)) hS₂ rfl
 have oth:∀ b o,b≠S→s.heap.get? b=some o→((s.heap.update S (Obj.mapSeq (·.push Value.none))).update S (Obj.mapSeq (·.pop))).get? b=some o:=
  fun b o hb e=>(Heap.get?_update_other _ _ (Ne.symm hb)).trans ((Heap.get?_update_other _ _ (Ne.symm hb)).trans e)
 have hz3:((s.heap.update S (Obj.mapSeq (·.push Value.none))).update S (Obj.mapSeq (·.pop))).objs.size=S+1:=by
  rw[(Heap.SameBut.update ..).1,(Heap.SameBut.update ..).1,hsz]
 refine wpAny_pure ⟨plainId_quiet F.plain_extend_loop _,rh (A:=A) hh D hn hxy hend S (S+1) (Nat.lt_succ_self _) hS res n 0 _ _ _ rfl (Nat.zero_le _) (hst.at fun b o e=>⟨fun hb=>oth b o (Nat.ne_of_lt (hS b hb)) e,?_⟩) hS₃ ⟨rfl,fun j v e=>by simp at e⟩ hz3 fun h' acc' c' hk hS' hacc=>?_⟩
 ·by_cases hb:b=S
  ·subst hb; exact⟨_,hS₃⟩
  ·exact⟨o,oth b o hb e⟩
 ·exact hR h' acc' c' (fun b o c0 c1 c2 c3 c4 e=>hk b o c0 c1 c2 c3 c4 (oth b o c0 e)) hS' hacc
theorem lX{Q:Value→Shared→Prop}{z TI TO i1 i2 l1 l2:Addr}{xs ys:Array Value}{n:Nat}(hh:A.handled=none)(D:ZipApart z TI TO i1 i2 l1 l2)(hn:n≤1000)(hxy:∀ i,i<n→∃ x y,xs[i]? = some x∧ys[i]? = some y)(hend:xs[n]? = none∨ys[n]? = none)
  (hz:IsZip s.heap z TI TO .none) (hst:ZOs z TI TO i1 i2 l1 l2 xs ys 0 s.heap)
  (hQ:∀ h' acc' c',(∀ b o,b≠z→b≠TO→b≠i1→b≠i2→s.heap.get? b=some o→h'.get? b=some o)→
   h'.get? s.heap.objs.size=some { cls:=.type "list", dict:=none,data:=.seq acc' c',slots:=#[] }→uv xs ys (s.heap.objs.size+1) acc' n h'→Q (.ref s.heap.objs.size) { s with heap:=h' }) :
  wpAny (model prog w) A (call (.type "list") [.ref z]) Q E s:=by
 have lt:∀ b,(b=z∨b=TI∨b=TO∨b=i1∨b=i2∨b=l1∨b=l2)→b<s.heap.objs.size:=fun b hb=>by
  obtain⟨_,hTI,⟨a',b',hTO⟩,⟨_,h1,_⟩,⟨_,h2,_⟩,⟨_,hl1,_⟩,⟨_,hl2,_⟩⟩:=id hst
  rcases hb with rfl | rfl | rfl | rfl | rfl | rfl | rfl
  ·exact Heap.lt_size hz
  ·exact Heap.lt_size hTI
  ·exact Heap.lt_size hTO
  ·exact Heap.lt_size h1
  ·exact Heap.lt_size h2
  ·exact Heap.lt_size hl1
  ·exact Heap.lt_size hl2
 refine callType_codes (Q₁:=fun obj s₁=>obj = .ref s.heap.objs.size∧s₁={ s with heap:=s.heap.push { cls:=.type "list", data:=.seq #[] } }) F.called_list (F.typeCall_list_1 _) F.entry_list_init
  (code_list_new _ ⟨rfl,rfl⟩) fun obj s₁ h₁=>?_
 obtain⟨rfl,rfl⟩:=h₁
 have hS:(s.heap.push { cls:=.type "list", data:=.seq #[] }).get? s.heap.objs.size=some { cls:=.type "list", data:=.seq #[] }:=Heap.get?_push_size _ rfl
 refine⟨⟨_,hS,rfl⟩,F.args_list_init_2 _ _,?_⟩
 show wpAny _ _ (do let old ← Builtin.List.listItems (.ref s.heap.objs.size); Builtin.List.listUpdate (.ref s.heap.objs.size) (fun _=>#[]); letGo old.toList.reverse; Builtin.List.listExtendWith (.ref s.heap.objs.size) (.ref z) .none) _ _ _
 refine wpAny_bind ?_
 unfold Builtin.List.listItems
 refine wpAny_bind (wpAny_seqItems hS rfl (wpAny_pure ?_))
 show wpAny _ _ (updateSeq s.heap.objs.size (fun _=>#[]) >>= fun _=>letGo (#[]:Array Value).toList.reverse >>= fun _=>Builtin.List.listExtendWith (.ref s.heap.objs.size) (.ref z) .none) _ _ _
 refine wpAny_bind (wpAny_updateSeq hS rfl ?_)
 have hS₂:=Heap.get?_update_self (Obj.mapSeq (fun _=>(#[]:Array Value))) hS rfl
 have oth:∀ b o,b≠s.heap.objs.size→s.heap.get? b=some o→((s.heap.push { cls:=.type "list", data:=.seq #[] }).update s.heap.objs.size (Obj.mapSeq (fun _=>(#[]:Array Value)))).get? b=some o:=
  fun b o hb e=>(Heap.get?_update_other _ _ (Ne.symm hb)).trans (Heap.get?_push_of_some _ e)
 refine wpAny_bind (wpAny_letGo ?_)
 have hk0:∀ b o,s.heap.get? b=some o→((s.heap.push { cls:=.type "list", data:=.seq #[] }).update s.heap.objs.size (Obj.mapSeq (fun _=>(#[]:Array Value)))).get? b=some o:=fun b o e=>oth b o (Nat.ne_of_lt (Heap.lt_size e)) e
 refine o_ (A:=A.in1) hh D hn hxy hend s.heap.objs.size lt .none _ (hk0 _ _ hz) (hst.at fun b o e=>⟨fun _=>hk0 b o e,o,hk0 b o e⟩) hS₂ (by show (Heap.update _ _ _).objs.size=_; rw[(Heap.SameBut.update ..).1,Heap.size_push]) fun h' acc' c' hk hS' hacc=>?_
 exact⟨rfl,hQ h' acc' c' (fun b o c1 c2 c3 c4 e=>hk b o (Nat.ne_of_lt (Heap.lt_size e)) c1 c2 c3 c4 (hk0 b o e)) hS' hacc⟩
end
section
variable{X:Cx}{pins:List (Addr × Obj)}{σ : St}{H:Hp}{s:Shared}
theorem Inv.trk{a:Addr}{o:HO}(I:Inv X pins σ H s)(hn:H a=none)(h0:∀ b ob,X.s₀.heap.get? b=some ob→b≠a)(hl:X.env.locals≠a)(hc:∀ x c,X.env.cells.lookup x=some c→c≠a)
  (hp:∀ p∈X.pn++pins,p.1≠a) (ok:ObjOk X.prog X.w (upd H a o) s.heap a o):Inv X pins σ (upd H a o) s:=by
 refine⟨I.ok,I.os,I.bare,⟨I.base.keep,I.base.slot,fun b ob q n z=>?_,I.base.there,fun b xs q=>?_,fun b ob xs q=>?_,fun b ps q=>?_⟩,I.loc,I.cell,?_,fun x c q=>?_,fun p hm=>?_,fun b ob q=>?_,I.len⟩
 ·rw[af (h0 b ob q)]; exact I.base.free b ob q n z
 ·have:=I.base.tups b xs q; rw[af (aq this hn)]; exact this
 ·have:=I.base.frzs b ob xs q; rw[af (aq this hn)]; exact this
 ·obtain⟨m,e⟩:=I.base.tbls b ps q; exact⟨m,by rw[af (aq e hn)]; exact e⟩
 ·rw[af hl]; exact I.free
 ·rw[af (hc x c q)]; exact I.freeC x c q
 ·obtain⟨e1,e2,e3⟩:=I.pin p hm
  exact⟨e1,by rw[af (hp p hm)]; exact e2,e3⟩
 ·by_cases e:b=a
  ·subst e; rw[show upd H b o b=some o from if_pos rfl]at q; cases q; exact ok
  ·rw[af e]at q
   exact(I.hok b ob q).stay (fun _ _ _ z=>z) (fun c z=>by rw[af (aq z hn)]; exact z) fun c xs z=>by rw[af (aq z hn)]; exact z
end
def wu(K:PySem.W.Frag)(ta:TA):TE:=fun σ H Q=>ta σ H fun vs H1=>∃ (a b:Addr) (xs ys:List V),vs=[.ref a,.ref b]∧SqL K H1 a xs∧SqL K H1 b ys∧xs.length=ys.length∧xs.length≤1000∧
 ∀ (p:Addr) (ts:List Addr) (H2:Hp),Same H1 H2→H1 p=none→H2 p=some (.lst (ts.map V.ref))→ts.length=xs.length→(∀ (j:Nat) (t:Addr),ts[j]? = some t→∃ x y,xs[j]? = some x∧ys[j]? = some y∧H2 t=some (.tup [x,y])∧H1 t=none)→Q (.ref p) H2
section
variable{X:Cx}{pins:List (Addr × Obj)}{σ : St}{H H1:Hp}{s s1:Shared}
theorem Inv.trkF{a:Addr}{o:HO}(I:Inv X pins σ H s)(I1:Inv X pins σ H1 s1)(hb:s1.heap.objs.size≤a)(hn:H a=none)(ok:ObjOk X.prog X.w (upd H a o) s.heap a o):Inv X pins σ (upd H a o) s:=by
 obtain⟨_,f1,_,_,f4,f5⟩:=I1.fpOk (H':=H) hb hn
 exact I.trk hn (fun b ob e=>Nat.ne_of_lt (Nat.lt_of_lt_of_le (Heap.lt_size e) (Nat.le_trans I1.sz hb))) (fun z=>f1 z.symm) f4 f5 ok
theorem qC(I1:Inv X pins σ H1 s1)(B:Nat)(hB:s1.heap.objs.size≤B):∀ (L:List (V × V)) (j:Nat) (H:Hp),Inv X pins σ H s→(∀ i,j≤i→H (B+i)=none)→(∀ i p,L[i]? = some p→∃ u v,RelV p.1 u∧RelV p.2 v∧IsPair s.heap (B+(j+i)) u v)→
  ∃ H2,Inv X pins σ H2 s∧Same H H2∧∀ i p,L[i]? = some p→H2 (B+(j+i))=some (.tup [p.1,p.2])
 | [],j,H,I,_,_=>⟨H,I,fun _ _ e=>e,fun i p e=>by simp at e⟩
 | p::L,j,H,I,hn,hp=>by
  obtain⟨u,v,ru,rv,e0⟩:=hp 0 p rfl
  have hs:sizeLine=16777216:=sizeLine_eq
  have hnj:=hn j (Nat.le_refl _)
  have I2:=I.trkF (a:=B+j) (o:=.tup [p.1,p.2]) I1 (Nat.le_trans hB (Nat.le_add_right _ _)) hnj ⟨by simp[hs],[u,v],.cons ru (.cons rv .nil),_,e0,rfl,rfl,_,rfl⟩
  obtain⟨H2,J,sm,hh⟩:=qC I1 B hB L (j+1) (upd H (B+j) (.tup [p.1,p.2])) I2 (fun i hi=>by
   have ne:B+i≠B+j:=(show (@Ne Nat (B+i) (B+j):Prop) by omega)
   rw[af ne]; exact hn i (by omega)) (fun i q e=>by
   obtain⟨u',v',r1,r2,r3⟩:=hp (i+1) q (by rw[List.getElem?_cons_succ]; exact e)
   refine⟨u',v',r1,r2,?_⟩
   rw[show B+(j+1+i)=B+(j+(i+1)) by omega]; exact r3)
  refine⟨H2,J,(am hnj _).trans sm,fun i q e=>?_⟩
  cases i with
  | zero=>cases e; exact sm _ _ ah
  | succ i=>
   rw[show B+(j+(i+1))=B+(j+1+i) by omega]
   exact hh i q (by rw[List.getElem?_cons_succ]at e; exact e)
end
theorem Ct{n l1 l2:Addr}(h1:l1<n)(h2:l2<n):ZipApart (n+4) (n+2) (n+3) n (n+1) l1 l2:=by
 have a:=A8 n
 have k1:∀ j,l1≠n+j:=fun j=>Nat.ne_of_lt (Nat.lt_of_lt_of_le h1 (Nat.le_add_right _ _))
 have k2:∀ j,l2≠n+j:=fun j=>Nat.ne_of_lt (Nat.lt_of_lt_of_le h2 (Nat.le_add_right _ _))
 exact⟨a.TIz,a.TOz,a.i1z,a.i2z,a.TITO,a.TIi1,a.TIi2,a.TOi1,a.TOi2,a.i12,k1 4,k1 3,Nat.ne_of_lt h1,k1 1,k2 4,k2 3,Nat.ne_of_lt h2,k2 1⟩
theorem rN(K:PySem.W.Frag){X:Cx}{m:Nat}{a b:Expr}{ta:TA}{p p2 pos pos2:Pos}(hr:Room m X.A)(hg:Gl X "list") (hm:X.mg "list" = none) (hg2:Gl X "zip") (hm2:X.mg "zip" = none) (ha:PA X [a,b] ta)
  (hs:starEach [a,b] X.env=[(false,eval a X.env),(false,eval b X.env)]:=by rfl) (hs1:starEach [b] X.env=[(false,eval b X.env)]:=by rfl) (hs2:starEach [.Call (.Name "zip" p2) [a,b] [] pos2] X.env=[(false,eval (.Call (.Name "zip" p2) [a,b] [] pos2) X.env)]:=by rfl) (hK:X.K=K:=by rfl) :
  PE X (.Call (.Name "list" p) [.Call (.Name "zip" p2) [a,b] [] pos2] [] pos) (wu K ta):=by
 subst hK
 intro pins s σ H Q I h
 refine Call_ (ef I hg hm ip (PyProof.Rows.callWith_type1 ?_ hs2 rfl))
 rw[hs2]
 show wpAny _ _ (spliced ((false,eval (.Call (.Name "zip" p2) [a,b] [] pos2) X.env)::[])) _ _ s
 refine Calls.spliced_cons ?_
 refine Call_ (ef I hg2 hm2 mP (PyProof.Rows.callWith_type1 (bd (ha pos2 pins s σ H _ I h) fun us s1 ⟨vs,H1,I1,r1,q1⟩=>?_) (by rw[hs,hs1]) (by rw[hs1]; rfl)))
 obtain⟨l1,l2,xs,ys,e,h1,h2,hlen,hle,q⟩:=q1
 subst e
 obtain⟨u1,u2,rfl,r1,r2⟩:=lZ r1
 cases r1
 cases r2
 obtain⟨is1,v1,p1,_⟩:=I1.list h1
 obtain⟨is2,v2,p2,_⟩:=I1.list h2
 have n1:is1.length=xs.length:=v1.length.symm
 have n2:is2.length=xs.length:=by rw[hlen]; exact v2.length.symm
 refine call_zip_2 p1.isList p2.isList fun h' a1 a2 a3 a4 a5 a6 kk=>?_
 refine Calls.spliced_nil ?_
 obtain⟨_,b1,_⟩:=id p1.isList
 obtain⟨_,b2,_⟩:=id p2.isList
 refine lX (s:={ s1 with heap:=h' }) (xs:=is1.toArray) (ys:=is2.toArray) (n:=xs.length) hr.hd (Ct (Heap.lt_size b1) (Heap.lt_size b2)) hle (fun i hi=>⟨is1[i]'(by omega),is2[i]'(by omega),by simp[n1,hi],by simp[n2,hi]⟩) (.inl (by simp[n1])) a1 ⟨.inl a1,a2,⟨_,_,a3⟩,a4,a5,p1.isList.at fun o e=>kk _ o e,p2.isList.at fun o e=>kk _ o e⟩ fun h'' acc' c' hk hS hacc=>?_
 have I2:Inv X pins σ H1 { s1 with heap:=h'' }:=I1.kept (t':=s1.toks) fun b o e=>by
  have hb:=Heap.lt_size e
  have ne:∀ j,b≠s1.heap.objs.size+j:=fun j=>Nat.ne_of_lt (Nat.lt_of_lt_of_le hb (Nat.le_add_right _ _))
  exact hk b o (ne 4) (ne 3) (Nat.ne_of_lt hb) (ne 1) (kk b o e)
 have hS':h''.get? h'.objs.size=some { cls:=.type "list", dict:=none,data:=.seq acc' c',slots:=#[] }:=hS
 have hacc':uv is1.toArray is2.toArray (h'.objs.size+1) acc' xs.length h'':=hacc
 have hsz:s1.heap.objs.size≤h'.objs.size:=by rw[a6]; exact Nat.le_add_right _ _
 have hsl:sizeLine=16777216:=sizeLine_eq
 have hn0:∀ b,h'.objs.size≤b→H1 b=none:=fun b hb=>I1.hok.fresh (Nat.le_trans hsz hb)
 have hat:∀ j,j<xs.length→acc'[j]? = some (.ref (h'.objs.size+1+j))∧∃ u v,is1[j]? = some u∧is2[j]? = some v∧IsPair h'' (h'.objs.size+1+j) u v:=fun j hj=>by
  have hj':j<acc'.size:=by rw[hacc'.1]; exact hj
  have e:=Array.getElem?_eq_getElem hj'
  obtain⟨x,y,e1,e2,e3,e4⟩:=hacc'.2 j _ e
  exact⟨by rw[e,e1],x,y,by simpa using e2,by simpa using e3,e4⟩
 have I3:=I2.trkF (a:=h'.objs.size) (o:=.lst (((List.range xs.length).map fun j=>h'.objs.size+1+j).map V.ref)) I1 hsz (hn0 _ (Nat.le_refl _)) ⟨by simp; omega,acc'.toList,c',km _ _ (by simp[hacc'.1]) fun j x w' e1 e2=>by
  have hj:j<xs.length:=by
   refine Classical.byContradiction fun hn=>?_
   rw[List.getElem?_eq_none (by simp; omega)]at e1; cases e1
  rw[List.getElem?_map,List.getElem?_map,List.getElem?_range hj]at e1
  cases e1
  have e3:=(hat j hj).1
  rw[← Array.getElem?_toList,e2]at e3
  cases e3
  exact rfl,by simpa using hS'⟩
 obtain⟨H2,I4,sm,ht⟩:=qC I1 (h'.objs.size+1) (Nat.le_trans hsz (Nat.le_succ _)) (xs.zip ys) 0 _ I3 (fun i _=>by
  have ne:h'.objs.size+1+i≠h'.objs.size:=(show (@Ne Nat (h'.objs.size+1+i) (h'.objs.size):Prop) by omega)
  rw[af ne]
  exact hn0 _ (Nat.le_trans (Nat.le_succ _) (Nat.le_add_right _ _))) (fun i p e=>by
  have hi:i<xs.length:=by have:=(List.getElem?_eq_some_iff.mp e).1; rw[List.length_zip,← hlen,Nat.min_self]at this; exact this
  obtain⟨_,u,v,f1,f2,f3⟩:=hat i hi
  rw[List.getElem?_zip_eq_some]at e
  refine⟨u,v,e_ v1 e.1 f1,e_ v2 e.2 f2,?_⟩
  rw[Nat.zero_add]; exact f3)
 refine⟨.ref h'.objs.size,H2,I4,rfl,q h'.objs.size ((List.range xs.length).map fun j=>h'.objs.size+1+j) H2 ((am (hn0 _ (Nat.le_refl _)) _).trans sm) (hn0 _ (Nat.le_refl _)) (sm _ _ ah) (by simp) (fun j t e=>?_)⟩
 have hj:j<xs.length:=by have:=(List.getElem?_eq_some_iff.mp e).1; simpa using this
 rw[List.getElem?_map,List.getElem?_range hj]at e
 cases e
 have hj2:j<ys.length:=by omega
 refine⟨xs[j],ys[j],List.getElem?_eq_getElem hj,List.getElem?_eq_getElem hj2,?_,hn0 _ (Nat.le_trans (Nat.le_succ _) (Nat.le_add_right _ _))⟩
 have:=ht j (xs[j],ys[j]) (by rw[List.getElem?_zip_eq_some]; exact⟨List.getElem?_eq_getElem hj,List.getElem?_eq_getElem hj2⟩)
 rw[Nat.zero_add]at this
 exact this
end L2
section
open PySem PySem.Spec PyProof.Rows L2
seal L2.PE L2.PT L2.PW L2.PA L2.PS L2.PSs L2.PG L2.PGs L2.PSet L2.PI L2.PIfs L2.OpR L2.UnR L2.CallR L2.IxR L2.MtR L2.SlR L2.PO L2.PPs
local macro_rules | `(tactic| walk_at "rd1")=>`(tactic| try simp only [qp,i_,iE,nZ,oJ,pP,ql,mX,pB,ow,pX,oS,pA,pq,pK,wQ,tD,sW,mT,wx,pT,tL,qD,sP,uq,mK,pd,pN,qE,ms,uj,qm,nr,ox,lL,iB,oh,ly,ut,oB,jn,mG,qG,mE,m6,qz,my,qr,nS,oi,qg,mz,tu,wO,k_,li,gJ,kI,lz,pU,ol,mx,kH,pC,wD,qc,pH,oG,mS,kC,lH,og,mY,jq,nB,pE,pW,kY,kG,ee,pV,kJ,qi,lJ,mN,nY,mC,nP,oK,pI,p6,pj,L2.start,List.map_cons,List.map_nil,List.length_cons,List.length_nil,List.replicate,List.cons_append,List.nil_append,List.append_nil,List.getElem?_cons_zero,List.getElem?_cons_succ,List.set_cons_zero,List.set_cons_succ,Nat.reduceAdd,Nat.reduceSub,Option.some.injEq,exists_eq_left',exists_eq_left,V.int.injEq,V.ref.injEq,V.str.injEq,V.bl.injEq,uk,pF,and_true,true_and,decide_eq_true_eq,Bool.not_true,Bool.not_false,if_true,Bool.false_eq_true,if_false,ite_true,ite_false])
local macro_rules | `(tactic| walk_at "nx")=>`(tactic| ((first | rw [jV] | (dsimp only; rw [jV])); walk_at "rd1"))
local macro_rules | `(tactic| walk_at "lk")=>`(tactic| repeat (first | exact yd | exact y_ | rw [xW (by decide +kernel)]))
local macro_rules | `(tactic| walk_at "pf")=>`(tactic| repeat (first | rw [putF_hit] | rw [vv] | rw [sK (by decide +kernel)]))
namespace K37
open PySem L2
abbrev cB:Stmt:=av 3
theorem lP:aO ["kind"] ["kind"] (defScope cB):=⟨rfl,rfl,rfl,by decide +kernel,rfl,by decide +kernel,by decide +kernel⟩
theorem DY:au (defScope cB) "kind" := Or.inl (by decide +kernel)
theorem DR:(defScope cB).names.lookup ("CLOSERS" : Str)=some .globalImplicit:=by decide +kernel
abbrev cP:Stmt:=av 4
theorem rn:aO ["step"] ["step"] (defScope cP):=⟨rfl,rfl,rfl,by decide +kernel,rfl,by decide +kernel,by decide +kernel⟩
theorem zS:au (defScope cP) "step" := Or.inl (by decide +kernel)
theorem Eu:(defScope cP).names.lookup ("closers_of" : Str)=some .globalImplicit:=by decide +kernel
theorem AQ:(defScope cP).names.lookup ("len" : Str)=some .globalImplicit:=by decide +kernel
abbrev cv:Stmt:=av 5
theorem n6:aO ["step"] ["step"] (defScope cv):=⟨rfl,rfl,rfl,by decide +kernel,rfl,by decide +kernel,by decide +kernel⟩
theorem AS:au (defScope cv) "step" := Or.inl (by decide +kernel)
theorem Er:(defScope cv).names.lookup ("head_of" : Str)=some .globalImplicit:=by decide +kernel
theorem Ed:(defScope cv).names.lookup ("len" : Str)=some .globalImplicit:=by decide +kernel
abbrev aY:Stmt:=av 6
theorem sc_steps_within:aO ["program", "steps", "step", "block"] ["program"] (defScope aY):=⟨rfl,rfl,rfl,by decide +kernel,rfl,by decide +kernel,by decide +kernel⟩
theorem Df:au (defScope aY) "program" := Or.inl (by decide +kernel)
theorem yD:au (defScope aY) "steps" := Or.inl (by decide +kernel)
theorem DZ:aS (defScope aY) "steps" := Or.inl (by decide +kernel)
theorem A7:au (defScope aY) "step" := Or.inl (by decide +kernel)
theorem Dh:aS (defScope aY) "step" := Or.inl (by decide +kernel)
theorem Ee:au (defScope aY) "block" := Or.inl (by decide +kernel)
theorem Ey:aS (defScope aY) "block" := Or.inl (by decide +kernel)
theorem Ds:(defScope aY).names.lookup ("blocks_of" : Str)=some .globalImplicit:=by decide +kernel
theorem D6:(defScope aY).names.lookup ("steps_within" : Str)=some .globalImplicit:=by decide +kernel
abbrev bn:Stmt:=av 7
theorem sc_names_in:aO ["steps", "names", "step", "part", "kind"] ["steps"] (defScope bn):=⟨rfl,rfl,rfl,by decide +kernel,rfl,by decide +kernel,by decide +kernel⟩
theorem EK:au (defScope bn) "steps" := Or.inl (by decide +kernel)
theorem AW:au (defScope bn) "names" := Or.inl (by decide +kernel)
theorem Dp:aS (defScope bn) "names" := Or.inl (by decide +kernel)
theorem AV:au (defScope bn) "step" := Or.inl (by decide +kernel)
theorem Dl:aS (defScope bn) "step" := Or.inl (by decide +kernel)
theorem DH:au (defScope bn) "part" := Or.inl (by decide +kernel)
theorem Di:aS (defScope bn) "part" := Or.inl (by decide +kernel)
theorem Eg:au (defScope bn) "kind" := Or.inl (by decide +kernel)
theorem Dc:aS (defScope bn) "kind" := Or.inl (by decide +kernel)
theorem Ef:(defScope bn).names.lookup ("PARTS" : Str)=some .globalImplicit:=by decide +kernel
theorem EM:(defScope bn).names.lookup ("list" : Str)=some .globalImplicit:=by decide +kernel
theorem DK:(defScope bn).names.lookup ("zip" : Str)=some .globalImplicit:=by decide +kernel
abbrev aP:Stmt:=av 8
theorem sc_lines_of:aO ["program", "lines", "step", "block", "closer"] ["program"] (defScope aP):=⟨rfl,rfl,rfl,by decide +kernel,rfl,by decide +kernel,by decide +kernel⟩
theorem DV:au (defScope aP) "program" := Or.inl (by decide +kernel)
theorem xi:au (defScope aP) "lines" := Or.inl (by decide +kernel)
theorem Dj:aS (defScope aP) "lines" := Or.inl (by decide +kernel)
theorem zb:au (defScope aP) "step" := Or.inl (by decide +kernel)
theorem Dt:aS (defScope aP) "step" := Or.inl (by decide +kernel)
theorem EG:au (defScope aP) "block" := Or.inl (by decide +kernel)
theorem Dm:aS (defScope aP) "block" := Or.inl (by decide +kernel)
theorem Ew:au (defScope aP) "closer" := Or.inl (by decide +kernel)
theorem DN:aS (defScope aP) "closer" := Or.inl (by decide +kernel)
theorem Dq:(defScope aP).names.lookup ("blocks_of" : Str)=some .globalImplicit:=by decide +kernel
theorem Es:(defScope aP).names.lookup ("closers_of" : Str)=some .globalImplicit:=by decide +kernel
theorem Ei:(defScope aP).names.lookup ("head_of" : Str)=some .globalImplicit:=by decide +kernel
theorem En:(defScope aP).names.lookup ("lines_of" : Str)=some .globalImplicit:=by decide +kernel
theorem D5:(defScope aP).names.lookup ("zip" : Str)=some .globalImplicit:=by decide +kernel
abbrev cH:Stmt:=av 9
theorem oX:aO ["program"] ["program"] (defScope cH):=⟨rfl,rfl,rfl,by decide +kernel,rfl,by decide +kernel,by decide +kernel⟩
theorem ED:au (defScope cH) "program" := Or.inl (by decide +kernel)
theorem DD:(defScope cH).names.lookup ("names_in" : Str)=some .globalImplicit:=by decide +kernel
theorem Dn:(defScope cH).names.lookup ("steps_within" : Str)=some .globalImplicit:=by decide +kernel
abbrev aN:Stmt:=inClass (av 11) 0
theorem fE:aO ["self", "head", "lines", "blocks"] ["self", "head", "lines", "blocks"] (defScope aN):=⟨rfl,rfl,rfl,by decide +kernel,rfl,by decide +kernel,by decide +kernel⟩
theorem wA:au (defScope aN) "self" := Or.inl (by decide +kernel)
theorem AT:au (defScope aN) "head" := Or.inl (by decide +kernel)
theorem EF:au (defScope aN) "lines" := Or.inl (by decide +kernel)
theorem D_:au (defScope aN) "blocks" := Or.inl (by decide +kernel)
abbrev b5:Stmt:=av 12
theorem kt:aO ["steps", "line"] ["steps", "line"] (defScope b5):=⟨rfl,rfl,rfl,by decide +kernel,rfl,by decide +kernel,by decide +kernel⟩
theorem A6:au (defScope b5) "steps" := Or.inl (by decide +kernel)
theorem D8:au (defScope b5) "line" := Or.inl (by decide +kernel)
theorem Dz:(defScope b5).names.lookup ("len" : Str)=some .globalImplicit:=by decide +kernel
abbrev aA:Stmt:=av 13
theorem sc_numbered_step:aO ["step", "line", "lines", "blocks", "block", "steps"] ["step", "line"] (defScope aA):=⟨rfl,rfl,rfl,by decide +kernel,rfl,by decide +kernel,by decide +kernel⟩
theorem AM:au (defScope aA) "step" := Or.inl (by decide +kernel)
theorem Dg:au (defScope aA) "line" := Or.inl (by decide +kernel)
theorem wG:au (defScope aA) "lines" := Or.inl (by decide +kernel)
theorem Dk:aS (defScope aA) "lines" := Or.inl (by decide +kernel)
theorem AK:au (defScope aA) "blocks" := Or.inl (by decide +kernel)
theorem Dv:aS (defScope aA) "blocks" := Or.inl (by decide +kernel)
theorem Ek:au (defScope aA) "block" := Or.inl (by decide +kernel)
theorem EB:aS (defScope aA) "block" := Or.inl (by decide +kernel)
theorem A0:au (defScope aA) "steps" := Or.inl (by decide +kernel)
theorem DF:aS (defScope aA) "steps" := Or.inl (by decide +kernel)
theorem Dd:(defScope aA).names.lookup ("NumberedStep" : Str)=some .globalImplicit:=by decide +kernel
theorem DG:(defScope aA).names.lookup ("blocks_of" : Str)=some .globalImplicit:=by decide +kernel
theorem EE:(defScope aA).names.lookup ("head_of" : Str)=some .globalImplicit:=by decide +kernel
theorem Dx:(defScope aA).names.lookup ("line_behind" : Str)=some .globalImplicit:=by decide +kernel
theorem Do:(defScope aA).names.lookup ("numbered_steps" : Str)=some .globalImplicit:=by decide +kernel
abbrev aT:Stmt:=av 14
theorem sc_numbered_steps:aO ["steps", "line", "numbered", "step"] ["steps", "line"] (defScope aT):=⟨rfl,rfl,rfl,by decide +kernel,rfl,by decide +kernel,by decide +kernel⟩
theorem D2:au (defScope aT) "steps" := Or.inl (by decide +kernel)
theorem EN:au (defScope aT) "line" := Or.inl (by decide +kernel)
theorem z0:au (defScope aT) "numbered" := Or.inl (by decide +kernel)
theorem El:aS (defScope aT) "numbered" := Or.inl (by decide +kernel)
theorem D1:au (defScope aT) "step" := Or.inl (by decide +kernel)
theorem Et:aS (defScope aT) "step" := Or.inl (by decide +kernel)
theorem Ec:(defScope aT).names.lookup ("line_behind" : Str)=some .globalImplicit:=by decide +kernel
theorem Eh:(defScope aT).names.lookup ("numbered_step" : Str)=some .globalImplicit:=by decide +kernel
abbrev bh:Stmt:=av 16
theorem lT:aO ["program"] ["program"] (defScope bh):=⟨rfl,rfl,rfl,by decide +kernel,rfl,by decide +kernel,by decide +kernel⟩
theorem D3:au (defScope bh) "program" := Or.inl (by decide +kernel)
theorem DC:(defScope bh).names.lookup ("enumerate" : Str)=some .globalImplicit:=by decide +kernel
theorem EJ:(defScope bh).names.lookup ("lines_of" : Str)=some .globalImplicit:=by decide +kernel
abbrev bD:Stmt:=av 17
theorem sc_slots_of:aO ["program", "slots", "slot", "holder"] ["program"] (defScope bD):=⟨rfl,rfl,rfl,by decide +kernel,rfl,by decide +kernel,by decide +kernel⟩
theorem AX:au (defScope bD) "program" := Or.inl (by decide +kernel)
theorem zj:au (defScope bD) "slots" := Or.inl (by decide +kernel)
theorem EC:aS (defScope bD) "slots" := Or.inl (by decide +kernel)
theorem CS:au (defScope bD) "slot" := Or.inl (by decide +kernel)
theorem DX:aS (defScope bD) "slot" := Or.inl (by decide +kernel)
theorem C8:au (defScope bD) "holder" := Or.inl (by decide +kernel)
theorem Ep:aS (defScope bD) "holder" := Or.inl (by decide +kernel)
theorem Eo:(defScope bD).names.lookup ("enumerate" : Str)=some .globalImplicit:=by decide +kernel
theorem D7:(defScope bD).names.lookup ("lend_lines" : Str)=some .globalImplicit:=by decide +kernel
theorem EI:(defScope bD).names.lookup ("names_of" : Str)=some .globalImplicit:=by decide +kernel
abbrev bb:Stmt:=av 18
theorem sc_simple_row:aO ["step", "slots", "line"] ["step", "slots"] (defScope bb):=⟨rfl,rfl,rfl,by decide +kernel,rfl,by decide +kernel,by decide +kernel⟩
theorem ko:au (defScope bb) "step" := Or.inl (by decide +kernel)
theorem BD:au (defScope bb) "slots" := Or.inr (Or.inl (by decide +kernel))
theorem yx:au (defScope bb) "line" := Or.inl (by decide +kernel)
theorem C_:aS (defScope bb) "line" := Or.inl (by decide +kernel)
theorem DA:(defScope bb).names.lookup ("tuple" : Str)=some .globalImplicit:=by decide +kernel
abbrev aF:Stmt:=av 19
theorem sc_lend_rows:aO ["step", "at", "slots", "turned", "line", "back", "giver", "taker", "lent", "ahead", "within"] ["step", "at", "slots", "turned"] (defScope aF):=⟨rfl,rfl,rfl,by decide +kernel,rfl,by decide +kernel,by decide +kernel⟩
theorem nI:au (defScope aF) "step" := Or.inl (by decide +kernel)
theorem BP:au (defScope aF) "at" := Or.inl (by decide +kernel)
theorem qV:au (defScope aF) "slots" := Or.inl (by decide +kernel)
theorem CC:au (defScope aF) "turned" := Or.inl (by decide +kernel)
theorem rW:au (defScope aF) "line" := Or.inl (by decide +kernel)
theorem D9:aS (defScope aF) "line" := Or.inl (by decide +kernel)
theorem wf:au (defScope aF) "back" := Or.inl (by decide +kernel)
theorem D4:aS (defScope aF) "back" := Or.inl (by decide +kernel)
theorem B8:au (defScope aF) "giver" := Or.inl (by decide +kernel)
theorem De:aS (defScope aF) "giver" := Or.inl (by decide +kernel)
theorem zL:au (defScope aF) "taker" := Or.inl (by decide +kernel)
theorem Ez:aS (defScope aF) "taker" := Or.inl (by decide +kernel)
theorem mq:au (defScope aF) "lent" := Or.inl (by decide +kernel)
theorem Ej:aS (defScope aF) "lent" := Or.inl (by decide +kernel)
theorem zi:au (defScope aF) "ahead" := Or.inl (by decide +kernel)
theorem Ea:aS (defScope aF) "ahead" := Or.inl (by decide +kernel)
theorem BJ:au (defScope aF) "within" := Or.inl (by decide +kernel)
theorem Dy:aS (defScope aF) "within" := Or.inl (by decide +kernel)
theorem DT:(defScope aF).names.lookup ("len" : Str)=some .globalImplicit:=by decide +kernel
theorem Da:(defScope aF).names.lookup ("rows_of" : Str)=some .globalImplicit:=by decide +kernel
abbrev bc:Stmt:=av 20
theorem sc_if_rows:aO ["step", "at", "slots", "turned", "more", "jump", "rest", "behind", "test"] ["step", "at", "slots", "turned"] (defScope bc):=⟨rfl,rfl,rfl,by decide +kernel,rfl,by decide +kernel,by decide +kernel⟩
theorem om:au (defScope bc) "step" := Or.inl (by decide +kernel)
theorem zz:au (defScope bc) "at" := Or.inl (by decide +kernel)
theorem yR:au (defScope bc) "slots" := Or.inl (by decide +kernel)
theorem zX:au (defScope bc) "turned" := Or.inl (by decide +kernel)
theorem yf:au (defScope bc) "more" := Or.inl (by decide +kernel)
theorem DQ:aS (defScope bc) "more" := Or.inl (by decide +kernel)
theorem uW:au (defScope bc) "jump" := Or.inl (by decide +kernel)
theorem DE:aS (defScope bc) "jump" := Or.inl (by decide +kernel)
theorem yC:au (defScope bc) "rest" := Or.inl (by decide +kernel)
theorem DB:aS (defScope bc) "rest" := Or.inl (by decide +kernel)
theorem Bj:au (defScope bc) "behind" := Or.inl (by decide +kernel)
theorem DP:aS (defScope bc) "behind" := Or.inl (by decide +kernel)
theorem Cq:au (defScope bc) "test" := Or.inl (by decide +kernel)
theorem Du:aS (defScope bc) "test" := Or.inl (by decide +kernel)
theorem A5:(defScope bc).names.lookup ("len" : Str)=some .globalImplicit:=by decide +kernel
theorem AL:(defScope bc).names.lookup ("rows_of" : Str)=some .globalImplicit:=by decide +kernel
abbrev bo:Stmt:=av 21
theorem sc_loop_rows:aO ["step", "at", "slots", "within", "behind"] ["step", "at", "slots"] (defScope bo):=⟨rfl,rfl,rfl,by decide +kernel,rfl,by decide +kernel,by decide +kernel⟩
theorem rZ:au (defScope bo) "step" := Or.inl (by decide +kernel)
theorem vT:au (defScope bo) "at" := Or.inl (by decide +kernel)
theorem C6:au (defScope bo) "slots" := Or.inl (by decide +kernel)
theorem zl:au (defScope bo) "within" := Or.inl (by decide +kernel)
theorem DU:aS (defScope bo) "within" := Or.inl (by decide +kernel)
theorem Cy:au (defScope bo) "behind" := Or.inl (by decide +kernel)
theorem Eb:aS (defScope bo) "behind" := Or.inl (by decide +kernel)
theorem EA:(defScope bo).names.lookup ("len" : Str)=some .globalImplicit:=by decide +kernel
theorem C2:(defScope bo).names.lookup ("rows_of" : Str)=some .globalImplicit:=by decide +kernel
abbrev aR:Stmt:=av 22
theorem sc_while_rows:aO ["step", "at", "slots", "turned", "first", "loop", "behind"] ["step", "at", "slots", "turned"] (defScope aR):=⟨rfl,rfl,rfl,by decide +kernel,rfl,by decide +kernel,by decide +kernel⟩
theorem m_:au (defScope aR) "step" := Or.inl (by decide +kernel)
theorem sg:au (defScope aR) "at" := Or.inl (by decide +kernel)
theorem wa:au (defScope aR) "slots" := Or.inl (by decide +kernel)
theorem Cz:au (defScope aR) "turned" := Or.inl (by decide +kernel)
theorem vm:au (defScope aR) "first" := Or.inl (by decide +kernel)
theorem EH:aS (defScope aR) "first" := Or.inl (by decide +kernel)
theorem yp:au (defScope aR) "loop" := Or.inl (by decide +kernel)
theorem C0:aS (defScope aR) "loop" := Or.inl (by decide +kernel)
theorem CH:au (defScope aR) "behind" := Or.inl (by decide +kernel)
theorem B_:aS (defScope aR) "behind" := Or.inl (by decide +kernel)
theorem vA:(defScope aR).names.lookup ("len" : Str)=some .globalImplicit:=by decide +kernel
theorem zZ:(defScope aR).names.lookup ("loop_rows" : Str)=some .globalImplicit:=by decide +kernel
theorem Cd:(defScope aR).names.lookup ("rows_of" : Str)=some .globalImplicit:=by decide +kernel
abbrev bi:Stmt:=av 23
theorem sc_rows_of:aO ["steps", "at", "slots", "turned", "rows", "step", "place"] ["steps", "at", "slots", "turned"] (defScope bi):=⟨rfl,rfl,rfl,by decide +kernel,rfl,by decide +kernel,by decide +kernel⟩
theorem Ck:au (defScope bi) "steps" := Or.inl (by decide +kernel)
theorem B1:au (defScope bi) "at" := Or.inl (by decide +kernel)
theorem ra:au (defScope bi) "slots" := Or.inl (by decide +kernel)
theorem uY:au (defScope bi) "turned" := Or.inl (by decide +kernel)
theorem j4:au (defScope bi) "rows" := Or.inl (by decide +kernel)
theorem Cm:aS (defScope bi) "rows" := Or.inl (by decide +kernel)
theorem iV:au (defScope bi) "step" := Or.inl (by decide +kernel)
theorem B3:aS (defScope bi) "step" := Or.inl (by decide +kernel)
theorem vM:au (defScope bi) "place" := Or.inl (by decide +kernel)
theorem C1:aS (defScope bi) "place" := Or.inl (by decide +kernel)
theorem CK:(defScope bi).names.lookup ("if_rows" : Str)=some .globalImplicit:=by decide +kernel
theorem BA:(defScope bi).names.lookup ("len" : Str)=some .globalImplicit:=by decide +kernel
theorem B5:(defScope bi).names.lookup ("lend_rows" : Str)=some .globalImplicit:=by decide +kernel
theorem Bq:(defScope bi).names.lookup ("simple_row" : Str)=some .globalImplicit:=by decide +kernel
theorem CO:(defScope bi).names.lookup ("while_rows" : Str)=some .globalImplicit:=by decide +kernel
abbrev bf:Stmt:=av 24
theorem sc_rows_and_end:aO ["program", "turned", "steps"] ["program", "turned"] (defScope bf):=⟨rfl,rfl,rfl,by decide +kernel,rfl,by decide +kernel,by decide +kernel⟩
theorem zw:au (defScope bf) "program" := Or.inl (by decide +kernel)
theorem BL:au (defScope bf) "turned" := Or.inl (by decide +kernel)
theorem yS:au (defScope bf) "steps" := Or.inl (by decide +kernel)
theorem Cs:aS (defScope bf) "steps" := Or.inl (by decide +kernel)
theorem C4:(defScope bf).names.lookup ("line_behind" : Str)=some .globalImplicit:=by decide +kernel
theorem Bz:(defScope bf).names.lookup ("numbered_steps" : Str)=some .globalImplicit:=by decide +kernel
theorem Bc:(defScope bf).names.lookup ("rows_of" : Str)=some .globalImplicit:=by decide +kernel
theorem Cr:(defScope bf).names.lookup ("slots_of" : Str)=some .globalImplicit:=by decide +kernel
abbrev cZ:Stmt:=av 25
theorem rG:aO ["program"] ["program"] (defScope cZ):=⟨rfl,rfl,rfl,by decide +kernel,rfl,by decide +kernel,by decide +kernel⟩
theorem Bx:au (defScope cZ) "program" := Or.inl (by decide +kernel)
theorem Cu:(defScope cZ).names.lookup ("rows_and_end" : Str)=some .globalImplicit:=by decide +kernel
abbrev cj:Stmt:=av 26
theorem jK:aO ["program"] ["program"] (defScope cj):=⟨rfl,rfl,rfl,by decide +kernel,rfl,by decide +kernel,by decide +kernel⟩
theorem BZ:au (defScope cj) "program" := Or.inl (by decide +kernel)
theorem Cb:(defScope cj).names.lookup ("rows_and_end" : Str)=some .globalImplicit:=by decide +kernel
abbrev b6:Stmt:=av 28
theorem kf:aO ["_law_script", "_law_k"] ["_law_script", "_law_k"] (defScope b6):=⟨rfl,rfl,rfl,by decide +kernel,rfl,by decide +kernel,by decide +kernel⟩
theorem zM:au (defScope b6) "_law_script" := Or.inl (by decide +kernel)
theorem zh:au (defScope b6) "_law_k" := Or.inl (by decide +kernel)
theorem BY:(defScope b6).names.lookup ("len" : Str)=some .globalImplicit:=by decide +kernel
abbrev ax:Stmt:=av 29
theorem sc_law_names:aO ["_law_cell", "_law_letters", "_law_base", "_law_many", "_law_size", "_law_at", "_law_found", "_law_k", "_law_sign"] ["_law_cell"] (defScope ax):=⟨rfl,rfl,rfl,by decide +kernel,rfl,by decide +kernel,by decide +kernel⟩
theorem jM:au (defScope ax) "_law_cell" := Or.inr (Or.inl (by decide +kernel))
theorem B7:au (defScope ax) "_law_letters" := Or.inr (Or.inl (by decide +kernel))
theorem BE:aS (defScope ax) "_law_letters" := Or.inr (by decide +kernel)
theorem jH:au (defScope ax) "_law_base" := Or.inl (by decide +kernel)
theorem Cg:aS (defScope ax) "_law_base" := Or.inl (by decide +kernel)
theorem vb:au (defScope ax) "_law_many" := Or.inl (by decide +kernel)
theorem Bm:aS (defScope ax) "_law_many" := Or.inl (by decide +kernel)
theorem yw:au (defScope ax) "_law_size" := Or.inl (by decide +kernel)
theorem Be:aS (defScope ax) "_law_size" := Or.inl (by decide +kernel)
theorem zP:au (defScope ax) "_law_at" := Or.inl (by decide +kernel)
theorem BC:aS (defScope ax) "_law_at" := Or.inl (by decide +kernel)
theorem zy:au (defScope ax) "_law_found" := Or.inl (by decide +kernel)
theorem Bg:aS (defScope ax) "_law_found" := Or.inl (by decide +kernel)
theorem Ci:au (defScope ax) "_law_k" := Or.inl (by decide +kernel)
theorem A9:aS (defScope ax) "_law_k" := Or.inl (by decide +kernel)
theorem Bw:au (defScope ax) "_law_sign" := Or.inl (by decide +kernel)
theorem Ba:aS (defScope ax) "_law_sign" := Or.inl (by decide +kernel)
theorem zc:(defScope ax).names.lookup ("range" : Str)=some .globalImplicit:=by decide +kernel
abbrev cx:Stmt:=av 30
theorem sc_law_bound:aO ["_law_cell", "_law_way"] ["_law_cell"] (defScope cx):=⟨rfl,rfl,rfl,by decide +kernel,rfl,by decide +kernel,by decide +kernel⟩
theorem rs:au (defScope cx) "_law_cell" := Or.inl (by decide +kernel)
theorem yh:au (defScope cx) "_law_way" := Or.inl (by decide +kernel)
theorem BB:aS (defScope cx) "_law_way" := Or.inl (by decide +kernel)
abbrev bJ:Stmt:=av 31
theorem sc_law_step:aO ["_law_cell", "_law_x", "_law_y", "_law_names_here", "_law_kind", "_law_words"] ["_law_cell", "_law_x", "_law_y", "_law_names_here"] (defScope bJ):=⟨rfl,rfl,rfl,by decide +kernel,rfl,by decide +kernel,by decide +kernel⟩
theorem yr:au (defScope bJ) "_law_cell" := Or.inl (by decide +kernel)
theorem m9:au (defScope bJ) "_law_x" := Or.inl (by decide +kernel)
theorem yb:au (defScope bJ) "_law_y" := Or.inl (by decide +kernel)
theorem CW:au (defScope bJ) "_law_names_here" := Or.inl (by decide +kernel)
theorem qS:au (defScope bJ) "_law_kind" := Or.inl (by decide +kernel)
theorem CA:aS (defScope bJ) "_law_kind" := Or.inl (by decide +kernel)
theorem Af:au (defScope bJ) "_law_words" := Or.inl (by decide +kernel)
theorem Cp:aS (defScope bJ) "_law_words" := Or.inl (by decide +kernel)
theorem CF:(defScope bJ).names.lookup ("len" : Str)=some .globalImplicit:=by decide +kernel
abbrev aX:Stmt:=av 32
theorem sc_law_begun:aO ["_law_here", "_law_pile", "_law_lines", "_law_cell", "_law_x", "_law_y", "_law_inner", "_law_bound_here", "_law_others"] ["_law_here", "_law_pile", "_law_lines", "_law_cell", "_law_x", "_law_y"] (defScope aX):=⟨rfl,rfl,rfl,by decide +kernel,rfl,by decide +kernel,by decide +kernel⟩
theorem kA:au (defScope aX) "_law_here" := Or.inl (by decide +kernel)
theorem sE:au (defScope aX) "_law_pile" := Or.inl (by decide +kernel)
theorem v3:au (defScope aX) "_law_lines" := Or.inl (by decide +kernel)
theorem vh:au (defScope aX) "_law_cell" := Or.inl (by decide +kernel)
theorem zp:au (defScope aX) "_law_x" := Or.inl (by decide +kernel)
theorem yg:au (defScope aX) "_law_y" := Or.inl (by decide +kernel)
theorem jR:au (defScope aX) "_law_inner" := Or.inl (by decide +kernel)
theorem BW:aS (defScope aX) "_law_inner" := Or.inl (by decide +kernel)
theorem sr:au (defScope aX) "_law_bound_here" := Or.inl (by decide +kernel)
theorem CI:aS (defScope aX) "_law_bound_here" := Or.inl (by decide +kernel)
theorem yV:au (defScope aX) "_law_others" := Or.inl (by decide +kernel)
theorem CM:aS (defScope aX) "_law_others" := Or.inl (by decide +kernel)
theorem BO:(defScope aX).names.lookup ("_law_bound" : Str)=some .globalImplicit:=by decide +kernel
theorem yF:(defScope aX).names.lookup ("str" : Str)=some .globalImplicit:=by decide +kernel
abbrev ap:Stmt:=av 33
theorem sc_law_program:aO ["_law_cells", "_law_names_here", "_law_program_here", "_law_lines", "_law_pile", "_law_here", "_law_left", "_law_lends", "_law_cell", "_law_kind", "_law_x", "_law_y", "_law_deep", "_law_line", "_law_there"] ["_law_cells", "_law_names_here"] (defScope ap):=⟨rfl,rfl,rfl,by decide +kernel,rfl,by decide +kernel,by decide +kernel⟩
theorem Br:au (defScope ap) "_law_cells" := Or.inl (by decide +kernel)
theorem nV:au (defScope ap) "_law_names_here" := Or.inl (by decide +kernel)
theorem zu:au (defScope ap) "_law_program_here" := Or.inl (by decide +kernel)
theorem BX:aS (defScope ap) "_law_program_here" := Or.inl (by decide +kernel)
theorem mM:au (defScope ap) "_law_lines" := Or.inl (by decide +kernel)
theorem BF:aS (defScope ap) "_law_lines" := Or.inl (by decide +kernel)
theorem nw:au (defScope ap) "_law_pile" := Or.inl (by decide +kernel)
theorem CD:aS (defScope ap) "_law_pile" := Or.inl (by decide +kernel)
theorem u0:au (defScope ap) "_law_here" := Or.inl (by decide +kernel)
theorem v7:aS (defScope ap) "_law_here" := Or.inl (by decide +kernel)
theorem rg:au (defScope ap) "_law_left" := Or.inl (by decide +kernel)
theorem vU:aS (defScope ap) "_law_left" := Or.inl (by decide +kernel)
theorem yn:au (defScope ap) "_law_lends" := Or.inl (by decide +kernel)
theorem za:aS (defScope ap) "_law_lends" := Or.inl (by decide +kernel)
theorem mB:au (defScope ap) "_law_cell" := Or.inl (by decide +kernel)
theorem CZ:aS (defScope ap) "_law_cell" := Or.inl (by decide +kernel)
theorem jT:au (defScope ap) "_law_kind" := Or.inl (by decide +kernel)
theorem By:aS (defScope ap) "_law_kind" := Or.inl (by decide +kernel)
theorem yk:au (defScope ap) "_law_x" := Or.inl (by decide +kernel)
theorem Cf:aS (defScope ap) "_law_x" := Or.inl (by decide +kernel)
theorem yi:au (defScope ap) "_law_y" := Or.inl (by decide +kernel)
theorem BV:aS (defScope ap) "_law_y" := Or.inl (by decide +kernel)
theorem A_:au (defScope ap) "_law_deep" := Or.inl (by decide +kernel)
theorem Bh:aS (defScope ap) "_law_deep" := Or.inl (by decide +kernel)
theorem z_:au (defScope ap) "_law_line" := Or.inl (by decide +kernel)
theorem zv:aS (defScope ap) "_law_line" := Or.inl (by decide +kernel)
theorem Bu:aS (defScope ap) "_law_there" := Or.inl (by decide +kernel)
theorem B2:(defScope ap).names.lookup ("_law_begun" : Str)=some .globalImplicit:=by decide +kernel
theorem CB:(defScope ap).names.lookup ("_law_step" : Str)=some .globalImplicit:=by decide +kernel
theorem yA:(defScope ap).names.lookup ("int" : Str)=some .globalImplicit:=by decide +kernel
theorem vg:(defScope ap).names.lookup ("len" : Str)=some .globalImplicit:=by decide +kernel
theorem Cw:(defScope ap).names.lookup ("reversed" : Str)=some .globalImplicit:=by decide +kernel
abbrev bV:Stmt:=av 34
theorem sc_law_shown:aO ["_law_code", "_law_at", "_law_many"] ["_law_code", "_law_at"] (defScope bV):=⟨rfl,rfl,rfl,by decide +kernel,rfl,by decide +kernel,by decide +kernel⟩
theorem j0:au (defScope bV) "_law_code" := Or.inl (by decide +kernel)
theorem oA:au (defScope bV) "_law_at" := Or.inl (by decide +kernel)
theorem Ca:aS (defScope bV) "_law_at" := Or.inl (by decide +kernel)
theorem uR:au (defScope bV) "_law_many" := Or.inl (by decide +kernel)
theorem ye:aS (defScope bV) "_law_many" := Or.inl (by decide +kernel)
theorem rJ:(defScope bV).names.lookup ("len" : Str)=some .globalImplicit:=by decide +kernel
abbrev b4:Stmt:=av 35
theorem oR:aO ["_law_one", "_law_other"] ["_law_one", "_law_other"] (defScope b4):=⟨rfl,rfl,rfl,by decide +kernel,rfl,by decide +kernel,by decide +kernel⟩
theorem nK:au (defScope b4) "_law_one" := Or.inl (by decide +kernel)
theorem sn:au (defScope b4) "_law_other" := Or.inl (by decide +kernel)
theorem Aa:(defScope b4).names.lookup ("isinstance" : Str)=some .globalImplicit:=by decide +kernel
theorem zn:(defScope b4).names.lookup ("len" : Str)=some .globalImplicit:=by decide +kernel
theorem yQ:(defScope b4).names.lookup ("tuple" : Str)=some .globalImplicit:=by decide +kernel
abbrev cw:Stmt:=av 36
theorem mO:aO ["_law_code", "_law_at"] ["_law_code", "_law_at"] (defScope cw):=⟨rfl,rfl,rfl,by decide +kernel,rfl,by decide +kernel,by decide +kernel⟩
theorem kn:au (defScope cw) "_law_code" := Or.inl (by decide +kernel)
theorem nM:au (defScope cw) "_law_at" := Or.inl (by decide +kernel)
theorem v8:(defScope cw).names.lookup ("_law_shown" : Str)=some .globalImplicit:=by decide +kernel
abbrev aL:Stmt:=av 37
theorem sc_law_matched:aO ["_law_turned", "_law_code", "_law_matches", "_law_todo", "_law_one", "_law_other"] ["_law_turned", "_law_code"] (defScope aL):=⟨rfl,rfl,rfl,by decide +kernel,rfl,by decide +kernel,by decide +kernel⟩
theorem u7:au (defScope aL) "_law_turned" := Or.inl (by decide +kernel)
theorem ve:au (defScope aL) "_law_code" := Or.inl (by decide +kernel)
theorem r_:au (defScope aL) "_law_matches" := Or.inl (by decide +kernel)
theorem Bs:aS (defScope aL) "_law_matches" := Or.inl (by decide +kernel)
theorem wc:au (defScope aL) "_law_todo" := Or.inl (by decide +kernel)
theorem Bp:aS (defScope aL) "_law_todo" := Or.inl (by decide +kernel)
theorem jS:au (defScope aL) "_law_one" := Or.inl (by decide +kernel)
theorem C9:aS (defScope aL) "_law_one" := Or.inl (by decide +kernel)
theorem nc:au (defScope aL) "_law_other" := Or.inl (by decide +kernel)
theorem BK:aS (defScope aL) "_law_other" := Or.inl (by decide +kernel)
theorem C3:(defScope aL).names.lookup ("_law_alike" : Str)=some .globalImplicit:=by decide +kernel
theorem zd:(defScope aL).names.lookup ("_law_nexts" : Str)=some .globalImplicit:=by decide +kernel
theorem yv:(defScope aL).names.lookup ("_law_shown" : Str)=some .globalImplicit:=by decide +kernel
theorem BN:(defScope aL).names.lookup ("list" : Str)=some .globalImplicit:=by decide +kernel
theorem C7:(defScope aL).names.lookup ("zip" : Str)=some .globalImplicit:=by decide +kernel
abbrev bN:Stmt:=av 38
theorem sc_law:aO ["_law_script", "_law_program_here", "_law_code", "_law_turned", "_law_matches"] ["_law_script"] (defScope bN):=⟨rfl,rfl,rfl,by decide +kernel,rfl,by decide +kernel,by decide +kernel⟩
theorem yM:au (defScope bN) "_law_script" := Or.inl (by decide +kernel)
theorem zA:au (defScope bN) "_law_program_here" := Or.inl (by decide +kernel)
theorem BM:aS (defScope bN) "_law_program_here" := Or.inl (by decide +kernel)
theorem jN:au (defScope bN) "_law_code" := Or.inl (by decide +kernel)
theorem B6:aS (defScope bN) "_law_code" := Or.inl (by decide +kernel)
theorem ni:au (defScope bN) "_law_turned" := Or.inl (by decide +kernel)
theorem Ce:aS (defScope bN) "_law_turned" := Or.inl (by decide +kernel)
theorem yu:au (defScope bN) "_law_matches" := Or.inl (by decide +kernel)
theorem BQ:aS (defScope bN) "_law_matches" := Or.inl (by decide +kernel)
theorem BH:(defScope bN).names.lookup ("_law_cell_at" : Str)=some .globalImplicit:=by decide +kernel
theorem CV:(defScope bN).names.lookup ("_law_matched" : Str)=some .globalImplicit:=by decide +kernel
theorem Bk:(defScope bN).names.lookup ("_law_names" : Str)=some .globalImplicit:=by decide +kernel
theorem Bt:(defScope bN).names.lookup ("_law_program" : Str)=some .globalImplicit:=by decide +kernel
theorem Co:(defScope bN).names.lookup ("code_of" : Str)=some .globalImplicit:=by decide +kernel
theorem zk:(defScope bN).names.lookup ("isinstance" : Str)=some .globalImplicit:=by decide +kernel
theorem qK:(defScope bN).names.lookup ("len" : Str)=some .globalImplicit:=by decide +kernel
theorem zg:(defScope bN).names.lookup ("list" : Str)=some .globalImplicit:=by decide +kernel
theorem Cv:(defScope bN).names.lookup ("turned_code" : Str)=some .globalImplicit:=by decide +kernel
def aZ(k:Str):List Str:=if k = "lend" then ["back"] else if k = "if" then ["else", "fi"] else if k = "while" then ["done"] else []
def gX:V→Str→Prop
 | .str y,x=>x=y
 | .int i,x=>i.natAbs.log2<1920∧x=Str.ofString (toString i)
 | _,_=>False
def bR:List (List Str)→List Str→List Str
 | i::is,c::cs=>(i++[c])++bR is cs
 | _,_=>[]
structure yH (LA:Addr→List Str→Prop) (H:Hp) (a:Addr) (kind:Str) (hs:List V) (ws:List Str) (bs:List Addr) (ins:List (List Str)):Prop where
 at':H a=some (.tup (.str kind::hs++bs.map V.ref))
 parts:Paired gX hs ws
 size:((kind::ws).map (·.length)).sum+(kind::ws).length≤10000
 bl:bs.length=(aZ kind).length
 inn:Paired LA bs ins
def jw(LA:Addr→List Str→Prop)(H:Hp)(a:Addr)(ls:List Str):Prop:=∃ kind hs ws bs ins,yH LA H a kind hs ws bs ins∧ls=Txt.join " " (kind::ws)::bR ins (aZ kind)
def LinesAt:Nat→Hp→Addr→List Str→Prop
 | 0=>fun _ _ _=>False
 | d+1=>fun H p L=>∃ (as:List Addr) (Ls:List (List Str)),H p=some (.lst (as.map V.ref))∧Paired (jw (LinesAt d H) H) as Ls∧L=Ls.flatten
theorem LinesAt.mono:∀ (d:Nat) {H H':Hp} {p:Addr} {L:List Str},LinesAt d H p L→Same H H'→LinesAt d H' p L
 | 0,_,_,_,_,h,_=>h.elim
 | d+1,H,H',p,L,⟨as,Ls,h1,h2,h3⟩,sm=>by
  refine⟨as,Ls,sm _ _ h1,Paired.imp' (fun a ls z=>?_) h2,h3⟩
  obtain⟨kind,hs,ws,bs,ins,z1,z2⟩:=z
  exact⟨kind,hs,ws,bs,ins,⟨sm _ _ z1.at',z1.parts,z1.size,z1.bl,Paired.imp' (fun b i y=>LinesAt.mono d y sm) z1.inn⟩,z2⟩
theorem bP{α β : Type}{R:α→β→Prop}:∀ {xs:List α} {ys:List β} {i:Nat} {x:α},Paired R xs ys→xs[i]? = some x→∃ y,ys[i]? = some y∧R x y
 | _,_,_,_,.nil,e=>by simp at e
 | _,_,0,_,.cons (b:=b) h _,e=>⟨b,rfl,by have:=Option.some.inj e; subst this; exact h⟩
 | _,_,i+1,_,.cons _ t,e=>by
  rw[List.getElem?_cons_succ]at e
  obtain⟨y,h1,h2⟩:=bP t e
  exact⟨y,by rw[List.getElem?_cons_succ]; exact h1,h2⟩
theorem ay{α β : Type}{R:α→β→Prop}:∀ {xs:List α} {ys:List β},Paired R xs ys→xs.length=ys.length
 | _,_,.nil=>rfl
 | _,_,.cons _ t=>by rw[List.length_cons,List.length_cons,ay t]
theorem iC:∀ {ins:List (List Str)} {cs:List Str} {j:Nat} {i:List Str} {c:Str},ins[j]? = some i→cs[j]? = some c→bR (ins.take (j+1)) (cs.take (j+1))=bR (ins.take j) (cs.take j)++(i++[c])
 | [],_,_,_,_,h,_=>by simp at h
 | _::_,[],_,_,_,_,h=>by simp at h
 | a::ins,b::cs,0,i,c,h,h'=>by
  have e1:a=i:=by simpa using h
  have e2:b=c:=by simpa using h'
  subst e1 e2
  show (a++[b])++bR [] []=bR [] []++(a++[b])
  simp[bR]
 | a::ins,b::cs,j+1,i,c,h,h'=>by
  have ih:=iC (ins:=ins) (cs:=cs) (j:=j) (i:=i) (c:=c) (by simpa using h) (by simpa using h')
  show (a++[b])++bR (ins.take (j+1)) (cs.take (j+1))=((a++[b])++bR (ins.take j) (cs.take j))++(i++[c])
  rw[ih,List.append_assoc (a++[b])]
theorem jz:∀ {ins:List (List Str)} {cs:List Str} (j:Nat),(bR (ins.take j) (cs.take j)).length≤(bR ins cs).length
 | [],_,j=>by simp[bR]
 | _::_,[],j=>by cases j <;> simp[bR]
 | a::ins,b::cs,0=>by simp[bR]
 | a::ins,b::cs,j+1=>by
  have ih:=jz (ins:=ins) (cs:=cs) j
  show ((a++[b])++bR (ins.take j) (cs.take j)).length≤((a++[b])++bR ins cs).length
  simp only[List.length_append]; omega
theorem jJ{α : Type}:∀ (Ls:List (List α)) (i:Nat),(Ls.take i).flatten.length≤Ls.flatten.length
 | [],i=>by simp
 | a::Ls,0=>by simp
 | a::Ls,i+1=>by
  have ih:=jJ Ls i
  rw[List.take_succ_cons,List.flatten_cons,List.flatten_cons,List.length_append,List.length_append]; omega
theorem tz{α : Type}{Ls:List (List α)}{i:Nat}{l:List α}(h:Ls[i]? = some l):(Ls.take (i+1)).flatten=(Ls.take i).flatten++l:=by
 rw[List.take_add_one,h,List.flatten_append]; simp
def gK(K:PySem.W.Frag):Sp:=fun vs H Q _=>∃ k:Str,vs=[.str k]∧∀ (p:Addr) (H':Hp),Same H H'→SqT K H' p ((aZ k).map V.str)→Q (.ref p) H'
def h9(K:PySem.W.Frag):Sp:=fun vs H Q _=>∃ (a:Addr) (k:Str) (xs:List V),vs=[.ref a]∧SqT K H a (.str k::xs)∧(aZ k).length≤xs.length+1∧
 ∀ (p:Addr) (H':Hp),Same H H'→SqT K H' p ((V.str k::xs).take (xs.length+1 - (aZ k).length))→Q (.ref p) H'
def fG(K:PySem.W.Frag):Sp:=fun vs H Q _=>∃ (a:Addr) (k:Str) (xs:List V),vs=[.ref a]∧SqT K H a (.str k::xs)∧(aZ k).length≤xs.length+1∧
 ∀ (p:Addr) (H':Hp),Same H H'→SqT K H' p ((V.str k::xs).drop (xs.length+1 - (aZ k).length))→Q (.ref p) H'
def qa(d:Nat):Sp:=fun vs H Q _=>∃ (p:Addr) (L:List Str),vs=[.ref p]∧LinesAt d H p L∧L.length≤10000∧∀ (q:Addr) (H':Hp),Same H H'→H q=none→H' q=some (.lst (L.map V.str))→Q (.ref q) H'
section
variable{P:Program}{w:World}{K:PySem.W.Frag}{mg:Str→Option Value}{base:Heap}
theorem qR(D:DefAt K mg "closers_of" cB) {d a0 a1 a2:Addr} (g_CLOSERS:mg "CLOSERS" = some (.ref d)) (m:ModD w K d [("lend", .ref a0),("if", .ref a1),("while", .ref a2)])
  (q0:∀ H:Hp,SqT K H a0 [.str "back"]) (q1:∀ H:Hp,SqT K H a1 [.str "else", .str "fi"]) (q2:∀ H:Hp,SqT K H a2 [.str "done"]):aV P w K mg base 1 "closers_of" ["kind"] (gK K):=by
 refine D.cal lP (fun _ _ _ _ _ _ us hl=>match us,hl with | [_],_=>rfl) (fun vs H Q E h=>by obtain⟨k,rfl,_⟩:=h; rfl) (fun f cdv A outer s H vs Q E hr h=>?_)
 obtain⟨k,rfl,q⟩:=h
 refine⟨_,(ao (aD (zD w K PySem.F.plainAttrs_dict PySem.F.slot_dict_get PySem.F.type_dict_get (xZ w K) (qe g_CLOSERS (hg:=DR)) (aa (pv 0 (hv:=DY)) (aa (bE ae) ae))))),?_⟩
 walk_at "rd1"
 refine⟨⟨d,_,rfl,m⟩,by decide,fun p hp=>?_⟩
 refine⟨d,_,k,.ref p,rfl,rfl,m,?_⟩
 have sm:=am hp (.tup [])
 unfold aZ at q
 by_cases h0:k = "lend"
 ·subst h0; exact q _ _ sm (q0 _)
 rw[if_neg h0]at q
 by_cases h1:k = "if"
 ·subst h1; exact q _ _ sm (q1 _)
 rw[if_neg h1]at q
 by_cases h2:k = "while"
 ·subst h2; exact q _ _ sm (q2 _)
 rw[if_neg h2]at q
 have e:bT [(("lend" : Str),V.ref a0),("if", .ref a1),("while", .ref a2)] k=none:=by simp[bT,Ne.symm h0,Ne.symm h1,Ne.symm h2]
 rw[e]
 exact q _ _ sm (SqT.of ah)
theorem xp(D:DefAt K mg "head_of" cP) (z_len:mg "len" = none) (c_closers_of:aV P w K mg base 1 "closers_of" ["kind"] (gK K)):aV P w K mg base 2 "head_of" ["step"] (h9 K):=by
 refine D.cal rn (fun _ _ _ _ _ _ us hl=>match us,hl with | [_],_=>rfl) (fun vs H Q E h=>by obtain⟨a,k,xs,rfl,_⟩:=h; rfl) (fun f cdv A outer s H vs Q E hr h=>?_)
 obtain⟨a,k,xs,rfl,ha,hl,q⟩:=h
 refine⟨_,(ao (aD (ck (fo K) (pv 0 (hv:=zS)) cQ (cn (ar fW (bv (aW K) z_len bK (aa (pv 0 (hv:=zS)) ae) (hg:=AQ)) (bv (aW K) z_len bK (aa (aE c_closers_of hr (aa (aI (ba K) (pv 0 (hv:=zS)) ak (fun _ _=>rfl)) ae) (hg:=Eu)) ae) (hg:=AQ))))))),?_⟩
 walk_at "rd1"
 refine⟨_,.inr ha,?_⟩
 refine⟨_,_,.inr ha,fJ,?_⟩
 refine⟨k,rfl,fun p H1 sm1 hp=>?_⟩
 walk_at "rd1"
 refine⟨_,.inr hp,?_⟩
 walk_at "rd1"
 have e:((xs.length+1:Nat):Int) - ((((aZ k).map V.str).length:Nat):Int)=((xs.length+1 - (aZ k).length:Nat):Int):=by
  rw[List.length_map]; omega
 rw[e]
 refine eQ (ha.same sm1) fun p2 H2 sm2 h2=>q p2 H2 (sm1.trans sm2) ?_
 rw[jZ]at h2
 exact h2
theorem uF(D:DefAt K mg "blocks_of" cv) (z_len:mg "len" = none) (c_head_of:aV P w K mg base 2 "head_of" ["step"] (h9 K)):aV P w K mg base 3 "blocks_of" ["step"] (fG K):=by
 refine D.cal n6 (fun _ _ _ _ _ _ us hl=>match us,hl with | [_],_=>rfl) (fun vs H Q E h=>by obtain⟨a,k,xs,rfl,_⟩:=h; rfl) (fun f cdv A outer s H vs Q E hr h=>?_)
 obtain⟨a,k,xs,rfl,ha,hl,q⟩:=h
 refine⟨_,(ao (aD (ck (fo K) (pv 0 (hv:=AS)) (cn (bv (aW K) z_len bK (aa (aE c_head_of hr (aa (pv 0 (hv:=AS)) ae) (hg:=Er)) ae) (hg:=Ed))) cQ))),?_⟩
 walk_at "rd1"
 refine⟨a,k,xs,rfl,ha,hl,fun p H1 sm1 hp=>?_⟩
 walk_at "rd1"
 refine⟨_,.inr hp,?_⟩
 have e:(((V.str k::xs).take (xs.length+1 - (aZ k).length)).length:Int)=((xs.length+1 - (aZ k).length:Nat):Int):=by
  rw[List.length_take,List.length_cons]; omega
 rw[e]
 refine eQ (ha.same sm1) fun p2 H2 sm2 h2=>q p2 H2 (sm1.trans sm2) ?_
 rw[ig]at h2
 exact h2
theorem mo(D:DefAt K mg "lines_of" aP) (z_str:mg "str" = none) (z_zip:mg "zip" = none) (c_closers_of:aV P w K mg base 1 "closers_of" ["kind"] (gK K)) (c_head_of:aV P w K mg base 2 "head_of" ["step"] (h9 K)) (c_blocks_of:aV P w K mg base 3 "blocks_of" ["step"] (fG K)) :
  ∀ d:Nat,aV P w K mg base (d+4) "lines_of" ["program"] (qa d)
 | 0=>D.cal (k:=3) sc_lines_of (fun _ _ _ _ _ _ us hl=>match us,hl with | [_],_=>rfl) (fun vs H Q E h=>by obtain⟨p,L,rfl,_⟩:=h; rfl) (fun f cdv A outer s H vs Q E hr h=>by obtain⟨p,L,rfl,z,_⟩:=h; exact z.elim)
 | d+1=>by
  have c_lines_of:=mo D z_str z_zip c_closers_of c_head_of c_blocks_of d
  refine D.cal (k:=d+4) sc_lines_of (fun _ _ _ _ _ _ us hl=>match us,hl with | [_],_=>rfl) (fun vs H Q E h=>by obtain⟨p,L,rfl,_⟩:=h; rfl) (fun f cdv A outer s H vs Q E hr h=>?_)
  obtain⟨p,L,rfl,⟨as,Ls,h1,h2,rfl⟩,hL,q⟩:=h
  have hlen:=ay h2
  refine⟨_,(aj (aw 1 sc_lines_of.nd (bC ae) (hx:=Dj))
   (aj (df PassesOwn.never rfl (dI K (pv 0 (hv:=DV))) (bH 2 sc_lines_of.nd (hx:=Dt)) (aj (bm (bt K PySem.F.plainAttrs_list PySem.F.slot_list_append PySem.F.type_list_append a_ (pv 1 (hv:=xi)) (aa (bt K PySem.F.plainAttrs_str PySem.F.slot_str_join PySem.F.type_str_join (oQ K) aB (aa (fq (CompSc.to (fsc:=(defScope aP)) (N:=["program", "lines", "step", "block", "closer"]) (N0:=["program", "lines", "step", "block", "closer"]) (T:=["part"]) ⟨by decide +kernel,by decide +kernel,by decide +kernel,by decide +kernel,by decide +kernel,by decide +kernel,by decide +kernel⟩ rfl rfl) rfl (im K (aE c_head_of hr (aa (pv 2 (hv:=zb)) ae) (hg:=Ei) (hle:=by omega))) (fun _ _ _ _=>(bH 5 (show (["program", "lines", "step", "block", "closer", "part"]:List Str).Nodup from by decide +kernel) (hx:=(i0 (defScope aP) (by decide +kernel))) (hf:=nQ (defScope aP) (by decide +kernel)))) (dY (show (["program", "lines", "step", "block", "closer"]:List Str).length≤5 from by decide)) (fun _ _ _ _=>iW) (fun _ _ _ _=>(fK ug z_str mV (aa (pv 5 (hv:=(dZ (defScope aP) (by decide +kernel)))) ae) (hg:=(DM (defScope aP) (by decide +kernel)))))) ae)) ae)))
   (ao (df PassesOwn.never rfl (qj K D5 z_zip (aa (aE c_blocks_of hr (aa (pv 2 (hv:=zb)) ae) (hg:=Dq) (hle:=by omega)) (aa (aE c_closers_of hr (aa (aI (ba K) (pv 2 (hv:=zb)) ak (fun _ _=>rfl)) ae) (hg:=Es) (hle:=by omega)) ae))) (eJ K (n:=2) (cy (bH 3 sc_lines_of.nd (hx:=Dm)) (cy (bH 4 sc_lines_of.nd (hx:=DN)) eP))) (aj (bm (bt K PySem.F.plainAttrs_list PySem.F.slot_list_extend PySem.F.type_list_extend dM (pv 1 (hv:=xi)) (aa (aE c_lines_of hr (aa (pv 3 (hv:=EG)) ae) (hg:=En) (hle:=by omega)) ae)))
   (ao (bm (bt K PySem.F.plainAttrs_list PySem.F.slot_list_append PySem.F.type_list_append a_ (pv 1 (hv:=xi)) (aa (pv 4 (hv:=Ew)) ae)))))))))
   (ao (aD (pv 1 (hv:=xi)))))),?_⟩
  walk_at "rd1"
  refine⟨by decide,fun lp hlp=>?_⟩
  generalize hH1:upd H lp _=H1
  have sm1:=eR hH1 hlp
  have e1:=gD hH1
  walk_at "nx"
  refine⟨⟨_,SqL.of (sm1 _ _ h1)⟩,?_⟩
  refine d_ (xs:=as.map V.ref) (fun i σ H'=>∃ o2 o3 o4:Option V,σ=[some (.ref p),some (.ref lp),o2,o3,o4]∧Same H H'∧H' lp=some (.lst ((Ls.take i).flatten.map V.str)))
   ⟨none,none,none,rfl,sm1,e1⟩ (fun i σ H' _ h=>by obtain⟨_,_,_,_,sm,_⟩:=h; exact SqL.of (sm _ _ h1)) ?_ ?_
  ·rintro i v σ H' hv ⟨o2,o3,o4,rfl,sm,hl⟩
   have hi:i<as.length:=by have:=(List.getElem?_eq_some_iff.mp hv).1; simpa using this
   rw[List.getElem?_map,List.getElem?_eq_getElem hi]at hv
   cases hv
   obtain⟨ls,hls,kind,hs,ws,bs,ins,st,rfl⟩:=bP h2 (List.getElem?_eq_getElem hi)
   have hflat:=tz hls
   have hfl:=jJ Ls (i+1)
   rw[hflat]at hfl ⊢
   generalize (Ls.take i).flatten=pre at hl hfl hflat ⊢
   rw[List.length_append,List.length_cons]at hfl
   have hat:SqT K H' as[i] (.str kind::(hs++bs.map V.ref)):=SqT.of (sm _ _ st.at')
   have hcl:(aZ kind).length≤(hs++bs.map V.ref).length+1:=by rw[List.length_append,List.length_map,st.bl]; omega
   have hcut:(hs++bs.map V.ref).length+1 - (aZ kind).length=hs.length+1:=by rw[List.length_append,List.length_map,st.bl]; omega
   have hpl:=ay st.parts
   have hsz:=st.size
   walk_at "rd1"
   refine⟨⟨_,SqL.of hl⟩,as[i],kind,hs++bs.map V.ref,rfl,hat,hcl,fun hp H2 sm2 hhp=>?_⟩
   rw[hcut]at hhp
   have etk:(V.str kind::(hs++bs.map V.ref)).take (hs.length+1)=V.str kind::hs:=by rw[List.take_succ_cons,List.take_left']; rfl
   rw[etk]at hhp
   walk_at "rd1"
   refine⟨⟨_,hhp⟩,fun C hC=>?_⟩
   refine kZ (xs:=V.str kind::hs) (fun j ys H3=>Same H2 H3∧H3 C=some (.lst ys)∧ys=((kind::ws).take j).map V.str) ⟨am hC _,ah,rfl⟩ (fun j ys H3 _ h=>hhp.same h.1) ?_ ?_
   ·rintro j ys H3 x hx hj ⟨sm3,hl3,rfl⟩
    obtain⟨y,hy,hr'⟩:=bP (R:=gX) (.cons (show gX (.str kind) kind from rfl) st.parts) hx
    have hjl:j<(kind::ws).length:=(List.getElem?_eq_some_iff.mp hy).1
    have fin:gq (V.str kind::hs).length j (fun j ys H3=>Same H2 H3∧H3 C=some (.lst ys)∧ys=((kind::ws).take j).map V.str) C (((kind::ws).take j).map V.str) (.str y) H3:=by
     refine rf hj (by rw[List.length_map,List.length_take]; omega) (bg (by simp only[List.length_cons]at hsz hjl ⊢; omega)) hl3 ⟨sm3.upd hC _,ah,?_⟩
     rw[List.take_add_one,hy,List.map_append]; rfl
    match x,hr' with
    | .str z,hr'=>
     have e:y=z:=hr'
     subst e
     walk_at "rd1"
     exact fin
    | .int z,hr'=>
     obtain⟨g1,rfl⟩:=hr'
     walk_at "rd1"
     exact⟨g1,fin⟩
   rintro ys H3 ⟨sm3,hl3,rfl⟩
   have hl3':H3 C=some (.lst ((kind::ws).map V.str)):=by
    rw[hl3,List.length_cons,hpl,List.take_of_length_le (by simp)]
   have smA:=sm2.trans sm3
   have h1l:(Str.ofString " ").length=1:=by decide
   walk_at "rd1"
   refine⟨kind::ws,SqL.of hl3',by rw[h1l]; omega,?_⟩
   refine⟨_,smA _ _ hl,by rw[List.length_map]; exact bO (by omega),?_⟩
   generalize hH4:upd H3 lp _=H4
   have smH:Same H H4:=fun b o e=>by
    have nb:b≠lp:=fun z=>by subst z; rw[hlp]at e; cases e
    rw[← hH4,af nb]; exact smA _ _ (sm _ _ e)
   have e4:H4 lp=some (.lst ((pre++[Txt.join " " (kind::ws)]).map V.str)):=by rw[← hH4,ah,List.map_append]; rfl
   have hat4:SqT K H4 as[i] (.str kind::(hs++bs.map V.ref)):=SqT.of (smH _ _ st.at')
   walk_at "nx"
   refine⟨as[i],kind,hs++bs.map V.ref,rfl,hat4,hcl,fun bp H5 sm5 hbp=>?_⟩
   rw[hcut]at hbp
   have edr:(V.str kind::(hs++bs.map V.ref)).drop (hs.length+1)=bs.map V.ref:=by rw[List.drop_succ_cons,List.drop_left']; rfl
   rw[edr]at hbp
   walk_at "rd1"
   refine⟨_,_,.inr (hat4.same sm5),fJ,kind,rfl,fun cp H6 sm6 hcp=>?_⟩
   walk_at "rd1"
   refine⟨⟨_,hbp.same sm6⟩,⟨_,hcp⟩,?_⟩
   have sm46:=sm5.trans sm6
   have hil:=ay st.inn
   have hbl:=st.bl
   refine kU (xs:=bs.map V.ref) (ys:=(aZ kind).map V.str) (fun j σ H'=>∃ o3 o4:Option V,σ=[some (.ref p),some (.ref lp),some (.ref as[i]),o3,o4]∧Same H H'∧SqT K H' bp (bs.map V.ref)∧SqT K H' cp ((aZ kind).map V.str)∧
     H' lp=some (.lst ((pre++([Txt.join " " (kind::ws)]++bR (ins.take j) ((aZ kind).take j))).map V.str)))
    (by rw[List.length_map,List.length_map]; exact hbl) ⟨o3,o4,rfl,smH.trans sm46,hbp.same sm6,hcp,by rw[sm46 _ _ e4]; simp[bR]⟩ (fun j σ H' _ h=>by obtain⟨_,_,_,_,z1,z2,_⟩:=h; exact⟨z1,z2⟩) ?_ ?_
   ·rintro j x y t σ H7 hx hy ⟨o3,o4,rfl,sm7,hb7,hc7,hl7⟩ ht
    have hj:j<bs.length:=by have:=(List.getElem?_eq_some_iff.mp hx).1; simpa using this
    have hjc:j<(aZ kind).length:=by omega
    rw[List.getElem?_map,List.getElem?_eq_getElem hj]at hx
    cases hx
    rw[List.getElem?_map,List.getElem?_eq_getElem hjc]at hy
    cases hy
    obtain⟨il,hil',hla⟩:=bP st.inn (List.getElem?_eq_getElem hj)
    have hsn:=iC hil' (List.getElem?_eq_getElem hjc)
    have hcl1:=jz (ins:=ins) (cs:=aZ kind) (j+1)
    rw[hsn]at hcl1 ⊢
    rw[List.length_append,List.length_append]at hcl1
    generalize bR (ins.take j) ((aZ kind).take j)=mid at hl7 hsn hcl1 ⊢
    have st7:=am ht (.tup [V.ref bs[j],.str (aZ kind)[j]])
    have et7:upd H7 t (.tup [V.ref bs[j],.str (aZ kind)[j]]) t=some (.tup [V.ref bs[j],.str (aZ kind)[j]]):=ah
    generalize upd H7 t (.tup [V.ref bs[j],.str (aZ kind)[j]])=H8 at st7 et7 ⊢
    have hl8:=st7 _ _ hl7
    walk_at "rd1"
    refine⟨t,_,rfl,SqT.of et7,rfl,?_⟩
    walk_at "rd1"
    refine⟨⟨_,SqL.of hl8⟩,bs[j],il,rfl,LinesAt.mono d hla (sm7.trans st7),by omega,fun r H9 sm9 hr9 hl9=>?_⟩
    walk_at "rd1"
    refine⟨_,_,sm9 _ _ hl8,hl9,bg (by simp only[List.length_map,List.length_append,List.length_cons,List.length_nil]; omega),?_⟩
    have hb9:=((hb7.same st7).same sm9).updL (sm9 _ _ hl8) (o:=.lst ((pre++([Txt.join " " (kind::ws)]++mid)).map V.str++il.map V.str))
    have hc9:=((hc7.same st7).same sm9).updL (sm9 _ _ hl8) (o:=.lst ((pre++([Txt.join " " (kind::ws)]++mid)).map V.str++il.map V.str))
    have sm10:Same H (upd H9 lp (.lst ((pre++([Txt.join " " (kind::ws)]++mid)).map V.str++il.map V.str))):=((sm7.trans st7).trans sm9).upd hlp _
    have e10:upd H9 lp (.lst ((pre++([Txt.join " " (kind::ws)]++mid)).map V.str++il.map V.str)) lp=some (.lst ((pre++([Txt.join " " (kind::ws)]++mid)).map V.str++il.map V.str)):=ah
    generalize upd H9 lp (.lst ((pre++([Txt.join " " (kind::ws)]++mid)).map V.str++il.map V.str))=H10 at hb9 hc9 sm10 e10 ⊢
    walk_at "nx"
    refine⟨⟨_,SqL.of e10⟩,_,e10,bO (by simp only[List.length_map,List.length_append,List.length_cons,List.length_nil]; omega),?_⟩
    refine⟨_,_,rfl,sm10.upd hlp _,hb9.updL e10,hc9.updL e10,?_⟩
    rw[ah]
    simp only[List.map_append,List.map_cons,List.map_nil,List.append_assoc,List.cons_append,List.nil_append]
   ·rintro σ H7 ⟨o3,o4,rfl,sm7,_,_,hl7⟩
    refine⟨_,_,_,rfl,sm7,?_⟩
    rw[hl7,List.length_map,List.take_of_length_le (by omega),List.take_of_length_le (by omega)]; rfl
  ·rintro σ H' ⟨o2,o3,o4,rfl,sm,hl⟩
   walk_at "nx"
   rw[List.length_map,List.take_of_length_le (by omega)]at hl
   exact q lp H' sm hlp hl
end
abbrev letters:Str := "abcdefghijklmnopqrstuvwxyz"
def ma(K:PySem.W.Frag):Sp:=fun vs H Q _=>∃ (a:Addr) (ns:List Int),vs=[.ref a]∧SqL K H a (ns.map V.int)∧ns.length≤63∧∀ H',Q (.bl true) H'
def sH(K:PySem.W.Frag):Sp:=fun vs H Q _=>∃ (a:Addr) (ns:List Int) (k:Int),vs=[.ref a,.int k]∧SqL K H a (ns.map V.int)∧0≤k∧Q (.int (ns.getD k.toNat 0)) H
theorem mF:∀ (cs:List Nat) (acc:Array Nat),((cs.map fun c=>(⟨#[c]⟩ : Str)).foldl (fun acc p=>acc++(Str.ofString "").cps++p.cps) acc).toList=acc.toList++cs
 | [],acc=>by simp
 | c::cs,acc=>by
  rw[List.map_cons,List.foldl_cons,mF cs]
  have e:(Str.ofString "").cps = #[]:=by decide +kernel
  rw[e]; simp
theorem nG(cs:List Nat):(Txt.join "" (cs.map fun c=>(⟨#[c]⟩ : Str))).cps.toList=cs:=by
 cases cs with
 | nil=>rfl
 | cons c cs=>
  show (((c::cs).map fun c=>(⟨#[c]⟩ : Str)).drop 1 |>.foldl (fun acc p=>acc++(Str.ofString "").cps++p.cps) (((c::cs).map fun c=>(⟨#[c]⟩ : Str)).headD Str.empty).cps).toList=c::cs
  rw[List.map_cons,List.drop_one,List.tail_cons,mF]; rfl
theorem v6(cs:List Nat):(Txt.join "" (cs.map fun c=>(⟨#[c]⟩ : Str))).length=cs.length:=by
 have e:=congrArg List.length (nG cs)
 simpa [Str.length] using e
theorem fe(b:Nat):∀ (ss:List Str),(∀ s∈ss,s.length≤b)→(ss.map (·.length)).sum≤ss.length * b
 | [],_=>by simp
 | s::ss,h=>by
  have h1:=fe b ss fun x hx=>h x (List.mem_cons_of_mem _ hx)
  have h2:=h s List.mem_cons_self
  rw[List.map_cons,List.sum_cons,List.length_cons,Nat.succ_mul]
  omega
theorem sQ(z:Int):∃ c,letters.length≤sizeLine∧cY letters.cps.toList (z % 26)=some c∧c∈letters.cps.toList:=by
 have hz:(z % 26).toNat<letters.cps.toList.length:=by
  show (z % 26).toNat<26
  omega
 refine⟨letters.cps.toList[(z % 26).toNat],by decide,?_,List.getElem_mem hz⟩
 have q:=bM (List.getElem?_eq_getElem hz)
 rwa [show (((z % 26).toNat:Nat):Int)=z % 26 by omega]at q
theorem vB(x:Str)(c:Nat):(x++(⟨#[c]⟩ : Str)).length=x.length+1:=by rw[Str.length_append]; rfl
section
variable{P:Program}{w:World}{K:PySem.W.Frag}{mg:Str→Option Value}{base:Heap}
theorem xT(D:DefAt K mg "_law_cell_at" b6) (z_len:mg "len" = none):aV P w K mg base 1 "_law_cell_at" ["_law_script", "_law_k"] (sH K):=by
 refine D.cal kf (fun _ _ _ _ _ _ us hl=>match us,hl with | [_,_],_=>rfl) (fun vs H Q E h=>by obtain⟨a,ns,k,rfl,_⟩:=h; rfl) (fun f cdv A outer s H vs Q E hr h=>?_)
 obtain⟨a,ns,k,rfl,hS,h0,q⟩:=h
 refine⟨_,(aj (bQ (aH dR (pv 1 (hv:=zh)) (bv (aW K) z_len bK (aa (pv 0 (hv:=zM)) ae) (hg:=BY)) (aM _)) (ao (aD (aI (ba K) (pv 0 (hv:=zM)) (pv 1 (hv:=zh)) (fun _ _=>rfl)))) bA)
   (ao (aD ak))),?_⟩
 try simp only[jV,qp,i_,iE,nZ,oJ,pP,ql,mX,pB,ow,pX,oS,pA,pq,pK,wQ,tD,sW,mT,wx,pT,tL,qD,sP,uq,mK,pd,pN,qE,ms,uj,qm,nr,ox,lL,iB,oh,ly,ut,oB,jn,mG,qG,mE,m6,qz,my,qr,nS,oi,qg,mz,tu,wO,k_,li,gJ,kI,lz,pU,ol,mx,kH,pC,wD,qc,pH,oG,mS,kC,lH,og,mY,jq,nB,pE,pW,kY,kG,ee,pV,kJ,qi,lJ,mN,nY,mC,nP,oK,pI,p6,pj,L2.start,List.map_cons,List.map_nil,List.length_cons,List.length_nil,List.replicate,List.cons_append,List.nil_append,List.append_nil,List.getElem?_cons_zero,List.getElem?_cons_succ,List.set_cons_zero,List.set_cons_succ,Nat.reduceAdd,Nat.reduceSub,Option.some.injEq,exists_eq_left',exists_eq_left,V.int.injEq,V.ref.injEq,V.str.injEq,V.bl.injEq,uk,pF,and_true,true_and,decide_eq_true_eq,Bool.not_true,Bool.not_false,if_true,Bool.false_eq_true,if_false,ite_true,ite_false]
 refine⟨_,.inl hS,bF (fun c=>?_) (fun c=>?_)⟩
 ·rw[List.length_map]at c
  refine⟨_,.int (ns.getD k.toNat 0),.inl hS,ub h0 ?_,q⟩
  rw[List.getD_eq_getElem?_getD,List.getElem?_eq_getElem (by omega)]; rfl
 ·rw[List.length_map]at c
  have e:ns.getD k.toNat 0=0:=by
   rw[List.getD_eq_getElem?_getD,List.getElem?_eq_none (by omega)]; rfl
  rw[e]at q; exact q
theorem nu(ss:List Str){z:Int}(h:0≤z):dg (ss.map V.str) none (some z)=(ss.take z.toNat).map V.str:=by
 have e:z=(z.toNat:Int):=by omega
 rw[e,jZ,List.map_take]; rfl
end
theorem gP(sep k:Str)(ws:List Str):Txt.join sep (k::ws)=ws.foldl (fun a x=>a++sep++x) k:=by
 have go:∀ (ws:List Str) (a:Str),(⟨ws.foldl (fun acc p=>acc++sep.cps++p.cps) a.cps⟩ : Str)=ws.foldl (fun a x=>a++sep++x) a:=by
  intro ws
  induction ws with
  | nil=>intro a; rfl
  | cons x ws ih=>intro a; rw[List.foldl_cons,List.foldl_cons]; exact ih (a++sep++x)
 exact go ws k
def cO:List Str:=["open", "copy", "drop", "tie", "do"]
structure fv (ws:List Str):Prop where
 two:2≤ws.length
 three:ws.length≤3
 kind:ws.headD "" ∈ cO
 len:∀ x∈ws,x.length≤20
def Ap(H:Hp)(a:Addr)(ws:List Str):Prop:=H a=some (.tup (ws.map V.str))∧fv ws
def gM{α : Type}(xs:List α)(lo hi:Option Int):List α:=(xs.drop (HT.sIx xs.length 0 lo)).take (HT.sIx xs.length xs.length hi - HT.sIx xs.length 0 lo)
theorem xO{α : Type}(f:α→V)(xs:List α)(lo hi:Option Int):dg (xs.map f) lo hi=(gM xs lo hi).map f:=by
 unfold dg gM
 rw[List.length_map,List.map_take,List.map_drop]
theorem vI{α : Type}(xs:List α)(lo hi:Option Int):(gM xs lo hi).length≤xs.length:=by
 unfold gM
 rw[List.length_take,List.length_drop]
 omega
theorem qX{H:Hp}{a:Addr}{ws:List Str}{LA:Addr→List Str→Prop}(h:Ap H a ws):jw LA H a [Txt.join " " ws]:=by
 obtain⟨h1,two,three,kd,len⟩:=h
 cases ws with
 | nil=>simp at two
 | cons k ws=>
  have hk:k∈cO:=kd
  have hc:aZ k=[]:=by
   simp only[cO,List.mem_cons,List.mem_nil_iff,or_false]at hk
   rcases hk with rfl | rfl | rfl | rfl | rfl <;> decide
  have hp:∀ ws:List Str,Paired gX (ws.map V.str) ws:=fun ws=>by
   induction ws with
   | nil=>exact .nil
   | cons x ws ih=>exact .cons (show gX (.str x) x from rfl) ih
  refine⟨k,ws.map V.str,ws,[],[],⟨by rw[List.map_nil,List.append_nil]; exact h1,hp ws,?_,by rw[hc]; rfl,.nil⟩,by rw[hc]; rfl⟩
  have:=fe 20 (k::ws) len
  simp only[List.length_cons]at this two three ⊢
  omega
theorem ci{α β : Type}{R:α→β→Prop}{x:α}{y:β}(hxy:R x y):∀ {xs:List α} {ys:List β},Paired R xs ys→Paired R (xs++[x]) (ys++[y])
 | _,_,.nil=>.cons hxy .nil
 | _,_,.cons h t=>.cons h (ci hxy t)
set_option genSizeOf false in
inductive Stp where
 | plain (ws:List Str)
 | lend (x y:Str) (b:List Stp)
 | ite (n:Int) (b c:List Stp)
 | whl (n:Int) (b:List Stp)
def de(n:Int):Str:=Str.ofString (toString n)
def cF(f:List Stp→List Str):Stp→List Str
 | .plain ws=>[Txt.join " " ws]
 | .lend x y b=>Txt.join " " ["lend", x,y]::(f b++[("back" : Str)])
 | .ite n b c=>Txt.join " " ["if", de n]::(f b++[("else" : Str)]++(f c++[("fi" : Str)]))
 | .whl n b=>Txt.join " " ["while", de n]::(f b++[("done" : Str)])
def bX:Nat→List Stp→List Str
 | 0,_=>[]
 | d+1,T=>T.flatMap (cF (bX d))
def qy(f:List Stp→Prop):Stp→Prop
 | .plain ws=>fv ws
 | .lend x y b=>x.length≤20∧y.length≤20∧f b
 | .ite n b c=>n.natAbs.log2<1920∧f b∧f c
 | .whl n b=>n.natAbs.log2<1920∧f b
def dG:Nat→List Stp→Prop
 | 0,_=>False
 | d+1,T=>∀ s∈T,qy (dG d) s
def stpAt(PA:Addr→List Stp→Prop)(H:Hp)(a:Addr):Stp→Prop
 | .plain ws=>H a=some (.tup (ws.map V.str))
 | .lend x y b=>∃ q,H a=some (.tup [.str "lend", .str x,.str y,.ref q])∧PA q b
 | .ite n b c=>∃ q r,H a=some (.tup [.str "if", .int n,.ref q,.ref r])∧PA q b∧PA r c
 | .whl n b=>∃ q,H a=some (.tup [.str "while", .int n,.ref q])∧PA q b
def ProgAt(S:Addr→Prop):Nat→Hp→Addr→List Stp→Prop
 | 0=>fun _ _ _=>False
 | d+1=>fun H p T=>S p∧∃ as:List Addr,H p=some (.lst (as.map V.ref))∧Paired (stpAt (ProgAt S d H) H) as T
theorem stpAt.imp{PA PA':Addr→List Stp→Prop}{H H':Hp}{a:Addr}(ht:∀ b xs,H b=some (.tup xs)→H' b=some (.tup xs))(hp:∀ q b,PA q b→PA' q b):∀ {s:Stp},stpAt PA H a s→stpAt PA' H' a s
 | .plain _,h=>ht _ _ h
 | .lend _ _ _,⟨q,h,z⟩=>⟨q,ht _ _ h,hp _ _ z⟩
 | .ite _ _ _,⟨q,r,h,z,y⟩=>⟨q,r,ht _ _ h,hp _ _ z,hp _ _ y⟩
 | .whl _ _,⟨q,h,z⟩=>⟨q,ht _ _ h,hp _ _ z⟩
theorem ProgAt.imp{S S':Addr→Prop}{H H':Hp}(ht:∀ b xs,H b=some (.tup xs)→H' b=some (.tup xs))(hl:∀ b xs,S b→H b=some (.lst xs)→H' b=some (.lst xs))(hS:∀ b,S b→S' b) :
  ∀ (d:Nat) {p:Addr} {T:List Stp},ProgAt S d H p T→ProgAt S' d H' p T
 | 0,_,_,h=>h.elim
 | d+1,p,T,⟨h0,as,h1,h2⟩=>⟨hS _ h0,as,hl _ _ h0 h1,Paired.imp' (fun a s z=>z.imp ht fun q b y=>ProgAt.imp ht hl hS d y) h2⟩
theorem ProgAt.mono{S:Addr→Prop}{H H':Hp}{d:Nat}{p:Addr}{T:List Stp}(h:ProgAt S d H p T)(sm:Same H H'):ProgAt S d H' p T:=h.imp (fun b xs e=>sm _ _ e) (fun b xs _ e=>sm _ _ e) (fun _ z=>z) d
theorem jF{n:Int}(h:n.natAbs.log2<1920):(de n).length≤1921:=by
 have e:=int_text_length_le (k:=1920) (by decide) h
 unfold de
 rw[PySem.ofString_length]; exact e
theorem qQ{PA:Addr→List Stp→Prop}{LA:Addr→List Str→Prop}{H:Hp}{a:Addr}{f:List Stp→List Str}{g:List Stp→Prop}(hp:∀ q b,PA q b→g b→LA q (f b)):∀ {s:Stp},stpAt PA H a s→qy g s→jw LA H a (cF f s)
 | .plain ws,h,ok=>qX ⟨h,ok⟩
 | .lend x y b,⟨q,h,z⟩,⟨o1,o2,o3⟩=>by
  refine⟨"lend", [.str x,.str y],[x,y],[q],[f b],⟨h,.cons rfl (.cons rfl .nil),?_,by show 1=(aZ "lend").length; decide,.cons (hp _ _ z o3) .nil⟩,by show _=_::bR [f b] ["back"]; simp[cF,bR]⟩
  have:(Str.ofString "lend").length=4:=by decide
  simp only[List.map_cons,List.map_nil,List.sum_cons,List.sum_nil,List.length_cons,List.length_nil,this]; omega
 | .ite n b c,⟨q,r,h,z,y⟩,⟨o1,o2,o3⟩=>by
  refine⟨"if", [.int n],[de n],[q,r],[f b,f c],⟨h,.cons ⟨o1,rfl⟩ .nil,?_,by show 2=(aZ "if").length; decide,.cons (hp _ _ z o2) (.cons (hp _ _ y o3) .nil)⟩,?_⟩
  ·have:(Str.ofString "if").length=2:=by decide
   have:=jF o1
   simp only[List.map_cons,List.map_nil,List.sum_cons,List.sum_nil,List.length_cons,List.length_nil]; omega
  ·show _=_::bR [f b,f c] ["else", "fi"]
   simp[cF,bR]
 | .whl n b,⟨q,h,z⟩,⟨o1,o2⟩=>by
  refine⟨"while", [.int n],[de n],[q],[f b],⟨h,.cons ⟨o1,rfl⟩ .nil,?_,by show 1=(aZ "while").length; decide,.cons (hp _ _ z o2) .nil⟩,by show _=_::bR [f b] ["done"]; simp[cF,bR]⟩
  have:(Str.ofString "while").length=5:=by decide
  have:=jF o1
  simp only[List.map_cons,List.map_nil,List.sum_cons,List.sum_nil,List.length_cons,List.length_nil]; omega
theorem iJ{PA:Addr→List Stp→Prop}{LA:Addr→List Str→Prop}{H:Hp}{f:List Stp→List Str}{g:List Stp→Prop}(hp:∀ q b,PA q b→g b→LA q (f b)) :
  ∀ {as:List Addr} {T:List Stp},Paired (stpAt PA H) as T→(∀ s∈T,qy g s)→Paired (jw LA H) as (T.map (cF f))
 | _,_,.nil,_=>.nil
 | _,_,.cons h t,ok=>.cons (qQ hp h (ok _ List.mem_cons_self)) (iJ hp t fun s hs=>ok s (List.mem_cons_of_mem _ hs))
theorem jB{S:Addr→Prop}{H:Hp}:∀ (d:Nat) {p:Addr} {T:List Stp},ProgAt S d H p T→dG d T→LinesAt d H p (bX d T)
 | 0,_,_,h,_=>h.elim
 | d+1,p,T,⟨_,as,h1,h2⟩,ok=>⟨as,T.map (cF (bX d)),h1,iJ (fun q b z o=>jB d z o) h2 ok,List.flatMap_def⟩
def aJ(f:List Stp→Nat):Stp→Nat
 | .plain _=>1
 | .lend _ _ b=>f b+2
 | .ite _ b c=>f b+f c+3
 | .whl _ b=>f b+2
def ac:Nat→List Stp→Nat
 | 0,_=>0
 | d+1,T=>(T.map (aJ (ac d))).sum
def dO(f:Stp→Nat):Nat→List Stp→List (Nat × Stp)
 | _,[]=>[]
 | l,s::T=>(l,s)::dO f (l+f s) T
theorem gY(f:Stp→Nat)(s:Stp):∀ (l:Nat) (T:List Stp),dO f l (T++[s])=dO f l T++[(l+(T.map f).sum,s)]
 | l,[]=>by simp[dO]
 | l,t::T=>by
  show (l,t)::dO f (l+f t) (T++[s])=(l,t)::dO f (l+f t) T++[(l+(f t+(T.map f).sum),s)]
  rw[gY f s (l+f t) T,Nat.add_assoc]; rfl
theorem eL(f:Stp→Nat):∀ (l:Nat) (T:List Stp),(dO f l T).length=T.length
 | _,[]=>rfl
 | l,s::T=>by show (dO f (l+f s) T).length+1=T.length+1; rw[eL f _ T]
theorem qA(f:Stp→Nat):∀ (l:Nat) (T:List Stp) (i:Nat) (s:Stp),T[i]? = some s→(dO f l T)[i]? = some (l+((T.take i).map f).sum,s)
 | _,[],_,_,h=>by simp at h
 | l,t::T,0,s,h=>by
  have e:t=s:=by simpa using h
  subst e; simp[dO]
 | l,t::T,i+1,s,h=>by
  have h':T[i]? = some s:=by simpa using h
  have ih:=qA f (l+f t) T i s h'
  show (dO f (l+f t) T)[i]? = _
  rw[ih,List.take_succ_cons,List.map_cons,List.sum_cons,Nat.add_assoc]
def kindOf:Stp→Str
 | .plain ws=>ws.headD ""
 | .lend _ _ _ => "lend"
 | .ite _ _ _ => "if"
 | .whl _ _ => "while"
def dh:Stp→List V
 | .plain ws=>(ws.drop 1).map V.str
 | .lend x y _=>[.str x,.str y]
 | .ite n _ _=>[.int n]
 | .whl n _=>[.int n]
def cA(f:List Stp→Nat)(l:Nat):Stp→List (Nat × List Stp)
 | .plain _=>[]
 | .lend _ _ b=>[(l+1,b)]
 | .ite _ b c=>[(l+1,b),(l+1+f b+1,c)]
 | .whl _ b=>[(l+1,b)]
def cD(f:List Stp→Nat)(l:Nat)(s:Stp):List Nat:=l::(cA f l s).map fun z=>z.1+f z.2
theorem vJ{f:List Stp→Nat}{l:Nat}:∀ {s:Stp} {j:Nat} {z:Nat × List Stp},(cA f l s)[j]? = some z→∃ y,(cD f l s)[j]? = some y∧z.1=y+1
 | .plain _,j,z,h=>by simp[cA]at h
 | .lend _ _ b,0,z,h=>by cases h; exact⟨l,rfl,rfl⟩
 | .lend _ _ b,j+1,z,h=>by simp[cA]at h
 | .ite _ b c,0,z,h=>by cases h; exact⟨l,rfl,rfl⟩
 | .ite _ b c,1,z,h=>by cases h; exact⟨l+1+f b,rfl,rfl⟩
 | .ite _ b c,j+2,z,h=>by simp[cA]at h
 | .whl _ b,0,z,h=>by cases h; exact⟨l,rfl,rfl⟩
 | .whl _ b,j+1,z,h=>by simp[cA]at h
theorem js{f:List Stp→Nat}{l:Nat}:∀ {s:Stp},(cD f l s).getLast? = some (l+aJ f s - 1)∧1≤aJ f s
 | .plain _=>by simp[cD,cA,aJ]
 | .lend _ _ b=>by simp[cD,cA,aJ]; omega
 | .ite _ b c=>by simp[cD,cA,aJ]; omega
 | .whl _ b=>by simp[cD,cA,aJ]; omega
inductive dH:List Str→Prop
 | op (x:Str):dH ["open", x]
 | dr (x:Str):dH ["drop", x]
 | dd (u x:Str):dH ["do", u,x]
 | cp (x y:Str):dH ["copy", x,y]
 | ti (x y:Str):dH ["tie", x,y]
def nF(k:Str)(pp lp bp:Addr):List (Str × V):=[("kind", .str k),("parts", .ref pp),("lines", .ref lp),("blocks", .ref bp)]
theorem d0(k:Str)(pp lp bp:Addr):(nF k pp lp bp).lookup ("kind" : Str)=some (.str k):=by unfold nF; walk_at "lk"
theorem dF(k:Str)(pp lp bp:Addr):(nF k pp lp bp).lookup ("parts" : Str)=some (.ref pp):=by unfold nF; walk_at "lk"
theorem dj(k:Str)(pp lp bp:Addr):(nF k pp lp bp).lookup ("lines" : Str)=some (.ref lp):=by unfold nF; walk_at "lk"
theorem eW(k:Str)(pp lp bp:Addr):(nF k pp lp bp).lookup ("blocks" : Str)=some (.ref bp):=by unfold nF; walk_at "lk"
def dW(ns:List Nat):List V:=ns.map fun (n:Nat)=>V.int (n:Int)
def nstpAt(K:PySem.W.Frag)(C:Addr)(f:List Stp→Nat)(S:Addr→Prop)(PA:Addr→Nat→List Stp→Prop)(H:Hp)(a:Addr)(l:Nat)(s:Stp):Prop:=
 ∃ (dx pp lp bp:Addr) (bs:List Addr),H a=some (.ins C dx (nF (kindOf s) pp lp bp))∧SqT K H pp (dh s)∧S lp∧H lp=some (.lst (dW (cD f l s)))∧S bp∧H bp=some (.lst (bs.map V.ref))∧Paired (fun q (z:Nat × List Stp)=>PA q z.1 z.2) bs (cA f l s)
def NumAt(K:PySem.W.Frag)(C:Addr)(S:Addr→Prop):Nat→Hp→Addr→Nat→List Stp→Prop
 | 0=>fun _ _ _ _=>False
 | d+1=>fun H p l T=>S p∧∃ as:List Addr,H p=some (.lst (as.map V.ref))∧Paired (fun a (z:Nat × Stp)=>nstpAt K C (ac d) S (NumAt K C S d H) H a z.1 z.2) as (dO (aJ (ac d)) l T)
structure Stays (S:Addr→Prop) (H H':Hp):Prop where
 t:∀ b xs,H b=some (.tup xs)→H' b=some (.tup xs)
 z:∀ b o u,H b=some (.frz o u)→H' b=some (.frz o u)
 i:∀ b C dx fs,H b=some (.ins C dx fs)→H' b=some (.ins C dx fs)
 l:∀ b xs,S b→H b=some (.lst xs)→H' b=some (.lst xs)
theorem Stays.of{S:Addr→Prop}{H H':Hp}(sm:Same H H'):Stays S H H':=⟨fun b xs h=>sm _ _ h,fun b o u h=>sm _ _ h,fun b C dx fs h=>sm _ _ h,fun b xs _ h=>sm _ _ h⟩
theorem Stays.upd{S:Addr→Prop}{H:Hp}{p:Addr}{xs:List V}{o:HO}(h:H p=some (.lst xs))(hS:¬ S p):Stays S H (upd H p o):=
  ⟨fun b xs e=>by rw[af (cJ e h (fun z=>nomatch z))]; exact e,fun b o u e=>by rw[af (cJ e h (fun z=>nomatch z))]; exact e,fun b C dx fs e=>by rw[af (cJ e h (fun z=>nomatch z))]; exact e,
   fun b xs hb e=>by rw[af (show b≠p from fun z=>hS (z ▸ hb))]; exact e⟩
theorem SqT.stays{K:PySem.W.Frag}{S:Addr→Prop}{H H':Hp}{a:Addr}{xs:List V}(h:SqT K H a xs)(st:Stays S H H'):SqT K H' a xs:=by
 rcases h with (h | ⟨o,h⟩) | h
 ·exact .inl (.inl (st.t _ _ h))
 ·exact .inl (.inr ⟨o,st.z _ _ _ h⟩)
 ·exact .inr h
theorem SqT.updI{K:PySem.W.Frag}{H:Hp}{a x C dx:Addr}{xs:List V}{fs:List (Str × V)}{o:HO}(h:SqT K H a xs)(hx:H x=some (.ins C dx fs)):SqT K (upd H x o) a xs:=by
 rcases h with (h | ⟨o',h⟩) | h
 ·exact .inl (.inl (by rw[af (cJ h hx (fun z=>nomatch z))]; exact h))
 ·exact .inl (.inr ⟨o',by rw[af (cJ h hx (fun z=>nomatch z))]; exact h⟩)
 ·exact .inr h
theorem nstpAt.imp{K:PySem.W.Frag}{C:Addr}{f:List Stp→Nat}{S S':Addr→Prop}{PA PA':Addr→Nat→List Stp→Prop}{H H':Hp}{a:Addr}{l:Nat}{s:Stp}(h:nstpAt K C f S PA H a l s)(st:Stays S H H')(hS:∀ b,S b→S' b)(hp:∀ q l b,PA q l b→PA' q l b):nstpAt K C f S' PA' H' a l s:=by
 obtain⟨dx,pp,lp,bp,bs,h1,h2,h3,h4,h5,h6,h7⟩:=h
 exact⟨dx,pp,lp,bp,bs,st.i _ _ _ _ h1,SqT.stays h2 st,hS _ h3,st.l _ _ h3 h4,hS _ h5,st.l _ _ h5 h6,Paired.imp' (fun q z y=>hp _ _ _ y) h7⟩
theorem NumAt.imp{K:PySem.W.Frag}{C:Addr}{S S':Addr→Prop}{H H':Hp}(st:Stays S H H')(hS:∀ b,S b→S' b):∀ (d:Nat) {p:Addr} {l:Nat} {T:List Stp},NumAt K C S d H p l T→NumAt K C S' d H' p l T
 | 0,_,_,_,h=>h.elim
 | d+1,p,l,T,⟨h0,as,h1,h2⟩=>⟨hS _ h0,as,st.l _ _ h0 h1,Paired.imp' (fun a z y=>y.imp st hS fun q l b y'=>NumAt.imp st hS d y') h2⟩
theorem NumAt.mono{K:PySem.W.Frag}{C:Addr}{S:Addr→Prop}{H H':Hp}{d:Nat}{p:Addr}{l:Nat}{T:List Stp}(h:NumAt K C S d H p l T)(sm:Same H H'):NumAt K C S d H' p l T:=h.imp (Stays.of sm) (fun _ z=>z) d
theorem nstpAt.mono{K:PySem.W.Frag}{C:Addr}{S:Addr→Prop}{H H':Hp}{d:Nat}{a:Addr}{l:Nat}{s:Stp}(h:nstpAt K C (ac d) S (NumAt K C S d H) H a l s)(sm:Same H H'):nstpAt K C (ac d) S (NumAt K C S d H') H' a l s:=
 h.imp (Stays.of sm) (fun _ z=>z) fun q l b y=>y.mono sm
theorem qo{α : Type}{xs:List α}{x:α}(h:xs.getLast? = some x):cY xs (-1)=some x:=by
 rcases List.eq_nil_or_concat xs with rfl | ⟨ys,y,rfl⟩
 ·simp at h
 ·have e:y=x:=by simpa using h
  subst e
  have e:gH (ys++[y]).length (-1)=some ys.length:=by
   unfold gH
   simp only[List.length_append,List.length_cons,List.length_nil]
   split <;> simp_all <;> omega
  unfold cY
  rw[List.concat_eq_append,e]
  simp
theorem gs{ns:List Nat}{n:Nat}(h:ns.getLast? = some n):cY (dW ns) (-1)=some (.int n):=qo (by unfold dW; rw[List.getLast?_map,h]; rfl)
theorem dL{ns:List Nat}{i n:Nat}(h:ns[i]? = some n):cY (dW ns) i=some (.int n):=bM (by unfold dW; rw[List.getElem?_map,h]; rfl)
theorem pQ(d:Nat):∀ T:List Stp,T.length≤ac (d+1) T
 | []=>Nat.zero_le _
 | s::T=>by
  have:=pQ d T
  have h1:=(js (f:=ac d) (l:=0) (s:=s)).2
  show T.length+1≤aJ (ac d) s+ac (d+1) T
  omega
theorem j7{d:Nat}:∀ {T:List Stp} {s:Stp},s∈T→aJ (ac d) s≤ac (d+1) T
 | [],_,h=>by cases h
 | t::T,s,h=>by
  show aJ (ac d) s≤aJ (ac d) t+ac (d+1) T
  rcases List.mem_cons.mp h with rfl | h
  ·omega
  ·have:=j7 (d:=d) h; omega
theorem oF{d i:Nat}{T:List Stp}:ac (d+1) (T.take i)≤ac (d+1) T:=by
 have e:ac (d+1) T=ac (d+1) (T.take i)+ac (d+1) (T.drop i):=by
  show (T.map _).sum=((T.take i).map _).sum+((T.drop i).map _).sum
  rw[← List.sum_append,← List.map_append,List.take_append_drop]
 omega
theorem xU{f:List Stp→Nat}{l:Nat}:∀ {s:Stp} {z:Nat × List Stp},z∈cA f l s→f z.2≤aJ f s
 | .plain _,z,h=>by cases h
 | .lend _ _ b,z,h=>by simp[cA]at h; subst h; simp[aJ]
 | .ite _ b c,z,h=>by
  simp[cA]at h
  rcases h with rfl | rfl <;> simp[aJ] <;> omega
 | .whl _ b,z,h=>by simp[cA]at h; subst h; simp[aJ]
theorem uU(f:List Stp→Nat)(l:Nat)(s:Stp):(cA f l s).length≤2:=by cases s <;> simp[cA]
theorem xJ{PA:Addr→List Stp→Prop}{H:Hp}{a:Addr}{f:List Stp→Nat}{g:List Stp→Prop}{l:Nat}:∀ {s:Stp},stpAt PA H a s→qy g s→∃ bs:List Addr,H a=some (.tup (.str (kindOf s)::(dh s++bs.map V.ref)))∧bs.length=(aZ (kindOf s)).length∧Paired (fun q (z:Nat × List Stp)=>PA q z.2∧g z.2) bs (cA f l s)
 | .plain ws,h,ok=>by
  have hw:ws≠[]:=fun e=>by have:=ok.two; rw[e]at this; simp at this
  obtain⟨k,r,rfl⟩:=List.exists_cons_of_ne_nil hw
  have hk:k∈cO:=ok.kind
  refine⟨[],?_,?_,.nil⟩
  ·show H a=some (.tup (.str k::(r.map V.str++[])))
   rw[List.append_nil]; exact h
  ·show 0=(aZ k).length
   revert hk; unfold cO
   intro hk
   simp only[List.mem_cons,List.not_mem_nil,or_false]at hk
   rcases hk with rfl | rfl | rfl | rfl | rfl <;> decide
 | .lend x y b,⟨q,h,z⟩,⟨_,_,o⟩=>⟨[q],h,by show 1=(aZ "lend").length; decide,.cons ⟨z,o⟩ .nil⟩
 | .ite n b c,⟨q,r,h,z,y⟩,⟨_,o,o'⟩=>⟨[q,r],h,by show 2=(aZ "if").length; decide,.cons ⟨z,o⟩ (.cons ⟨y,o'⟩ .nil)⟩
 | .whl n b,⟨q,h,z⟩,⟨_,o⟩=>⟨[q],h,by show 1=(aZ "while").length; decide,.cons ⟨z,o⟩ .nil⟩
def ke(K:PySem.W.Frag)(C:Addr):Sp:=fun vs H Q _=>∃ (x dx hp:Addr) (k:Str) (ps:List V) (lp bp:Addr),vs=[.ref x,.ref hp,.ref lp,.ref bp]∧H x=some (.ins C dx [])∧SqT K H hp (.str k::ps)∧
 ∀ (pp:Addr) (H':Hp),(∀ b o,H b=some o→b≠x→H' b=some o)→H' x=some (.ins C dx (nF k pp lp bp))→SqT K H' pp ps→Q .non H'
def gm(K:PySem.W.Frag)(C:Addr):Sp:=fun vs H Q _=>∃ (p:Addr) (l d:Nat) (T:List Stp) (S:Addr→Prop),vs=[.ref p,.int (l:Int)]∧NumAt K C S (d+1) H p l T∧ac (d+1) T≤10000∧Q (.int ((l+ac (d+1) T:Nat):Int)) H
def AF(K:PySem.W.Frag)(C:Addr)(d:Nat):Sp:=fun vs H Q _=>∃ (a:Addr) (l:Nat) (s:Stp) (S:Addr→Prop),vs=[.ref a,.int (l:Int)]∧stpAt (ProgAt S d H) H a s∧qy (dG d) s∧aJ (ac d) s≤10000∧
 ∀ (q:Addr) (H':Hp),Same H H'→nstpAt K C (ac d) (fun b=>H b=none) (NumAt K C (fun b=>H b=none) d H') H' q l s→Q (.ref q) H'
def oj(K:PySem.W.Frag)(C:Addr)(d:Nat):Sp:=fun vs H Q _=>∃ (p:Addr) (l:Nat) (T:List Stp) (S:Addr→Prop),vs=[.ref p,.int (l:Int)]∧ProgAt S d H p T∧dG d T∧ac d T≤10000∧
 ∀ (q:Addr) (H':Hp),Same H H'→NumAt K C (fun b=>H b=none) d H' q l T→Q (.ref q) H'
section
variable{P:Program}{w:World}{K:PySem.W.Frag}{mg:Str→Option Value}{base:Heap}{CN:Addr}
theorem uS(D:MakeAt K mg "NumberedStep" CN "NumberedStep.__init__" aN) (a_kind:Fl K CN "kind") (a_parts:Fl K CN "parts") (a_lines:Fl K CN "lines") (a_blocks:Fl K CN "blocks") :
  mw P w K mg base 1 "NumberedStep" CN ["self", "head", "lines", "blocks"] (ke K CN):=by
 refine D.mkal (k:=0) fE (fun _ _ _ _ _ _ us hl=>match us,hl with | [_,_,_,_],_=>rfl) (fun vs H Q E h=>by obtain⟨x,dx,hp,k,ps,lp,bp,rfl,_⟩:=h; rfl) (fun f cdv A outer s H vs Q E hr h=>?_)
 obtain⟨x,dx,hp,k,ps,lp,bp,rfl,hx,hh,q⟩:=h
 refine⟨_,(aj (ii a_kind (pv 0 (hv:=wA)) (aI (ba K) (pv 1 (hv:=AT)) ak (fun _ _=>rfl)))
   (aj (ii a_parts (pv 0 (hv:=wA)) (ck (fo K) (pv 1 (hv:=AT)) (cn ak) cQ))
   (aj (ii a_lines (pv 0 (hv:=wA)) (pv 2 (hv:=EF)))
   (ao (ii a_blocks (pv 0 (hv:=wA)) (pv 3 (hv:=D_))))))),?_⟩
 walk_at "rd1"
 refine⟨_,_,.inr hh,fJ,dx,_,hx,by decide,?_⟩
 generalize hH1:upd H x _=H1
 have e1:H1 x=some (.ins CN dx [("kind", .str k)]):=by rw[← hH1,ah]; walk_at "pf"
 have k1:∀ b o,H b=some o→b≠x→H1 b=some o:=fun b o e n=>by rw[← hH1,af n]; exact e
 have hh1:SqT K H1 hp (.str k::ps):=by rw[← hH1]; exact SqT.updI hh hx
 walk_at "nx"
 refine eQ hh1 fun pp H2 sm2 hpp=>?_
 have ec:dg (V.str k::ps) (some 1) none=ps:=ig _ 1
 rw[ec]at hpp
 refine⟨dx,_,sm2 _ _ e1,by simp,?_⟩
 generalize hH3:upd H2 x _=H3
 have e3:H3 x=some (.ins CN dx [("kind", .str k),("parts", .ref pp)]):=by rw[← hH3,ah]; walk_at "pf"
 have k3:∀ b o,H2 b=some o→b≠x→H3 b=some o:=fun b o e n=>by rw[← hH3,af n]; exact e
 have hp3:SqT K H3 pp ps:=by rw[← hH3]; exact SqT.updI hpp (sm2 _ _ e1)
 walk_at "nx"
 refine⟨dx,_,e3,by simp,?_⟩
 generalize hH4:upd H3 x _=H4
 have e4:H4 x=some (.ins CN dx [("kind", .str k),("parts", .ref pp),("lines", .ref lp)]):=by rw[← hH4,ah]; walk_at "pf"
 have k4:∀ b o,H3 b=some o→b≠x→H4 b=some o:=fun b o e n=>by rw[← hH4,af n]; exact e
 have hp4:SqT K H4 pp ps:=by rw[← hH4]; exact SqT.updI hp3 e3
 walk_at "nx"
 refine⟨dx,_,e4,by simp,?_⟩
 refine q pp _ (fun b o e n=>?_) ?_ (SqT.updI hp4 e4)
 ·rw[af n]; exact k4 _ _ (k3 _ _ (sm2 _ _ (k1 _ _ e n)) n) n
 ·rw[ah]; unfold nF; walk_at "pf"
theorem um(D:DefAt K mg "line_behind" b5) (z_len:mg "len" = none) (a_lines:Fl K CN "lines"):aV P w K mg base 1 "line_behind" ["steps", "line"] (gm K CN):=by
 refine D.cal (k:=0) kt (fun _ _ _ _ _ _ us hl=>match us,hl with | [_,_],_=>rfl) (fun vs H Q E h=>by obtain⟨p,l,d,T,S,rfl,_⟩:=h; rfl) (fun f cdv A outer s H vs Q E hr h=>?_)
 obtain⟨p,l,d,T,S,rfl,⟨h0,as,h1,h2⟩,hz,q⟩:=h
 have hlen:=ay h2
 rw[eL]at hlen
 refine⟨_,(ao (aD (uQ (aH cm (bv (aW K) z_len bK (aa (pv 0 (hv:=A6)) ae) (hg:=Dz)) ak (aM _)) (pv 1 (hv:=D8)) (ar az (aI (ba K) (bu a_lines (aI (ba K) (pv 0 (hv:=A6)) (eZ eh ak) (fun _ _=>rfl))) (eZ eh ak) (fun _ _=>rfl)) ak)))),?_⟩
 walk_at "rd1"
 refine⟨_,.inl (SqL.of h1),?_⟩
 rw[List.length_map,hlen]
 rcases List.eq_nil_or_concat T with rfl | ⟨T',t,rfl⟩
 ·refine bF (fun c=>?_) (fun c=>absurd rfl c)
  exact q
 ·rw[List.concat_eq_append]at *
  refine bF (fun c=>absurd c (by rw[List.length_append]; simp; omega)) (fun c=>?_)
  rw[gY]at h2
  rcases List.eq_nil_or_concat as with rfl | ⟨as',a,rfl⟩
  ·have:=ay h2; simp at this
  rw[List.concat_eq_append]at *
  have hl':as'.length=T'.length:=by simpa using hlen
  have h3:nstpAt K CN (ac d) S (NumAt K CN S d H) H a (l+(T'.map (aJ (ac d))).sum) t:=by
   obtain⟨z,hz1,hz2⟩:=bP h2 (i:=as'.length) (x:=a) (by simp)
   rw[List.getElem?_append_right (by rw[eL]; omega),eL,hl']at hz1
   simp at hz1
   subst hz1; exact hz2
  obtain⟨dx,pp,lp,bp,bs,g1,g2,g3,g4,g5,g6,g7⟩:=h3
  obtain⟨g8,g9⟩:=js (f:=ac d) (l:=l+(T'.map (aJ (ac d))).sum) (s:=t)
  walk_at "rd1"
  refine⟨_,_,.inl (SqL.of h1),qo (x:=V.ref a) (by simp),?_⟩
  refine⟨a,rfl,dx,_,_,g1,dj _ _ _ _,?_⟩
  walk_at "rd1"
  refine⟨_,_,.inl (SqL.of g4),gs g8,?_⟩
  walk_at "rd1"
  have e:((l+(T'.map (aJ (ac d))).sum+aJ (ac d) t - 1:Nat):Int)+1=((l+ac (d+1) (T'++[t]):Nat):Int):=by
   have:ac (d+1) (T'++[t])=(T'.map (aJ (ac d))).sum+aJ (ac d) t:=by show ((T'++[t]).map _).sum=_; simp
   omega
  rw[e]; exact q
theorem ym(D:DefAt K mg "numbered_step" aA) (c_head_of:aV P w K mg base 2 "head_of" ["step"] (h9 K)) (c_blocks_of:aV P w K mg base 3 "blocks_of" ["step"] (fG K)) (c_line_behind:aV P w K mg base 1 "line_behind" ["steps", "line"] (gm K CN))
  (k_NumberedStep:mw P w K mg base 1 "NumberedStep" CN ["self", "head", "lines", "blocks"] (ke K CN)) {d:Nat} (c_numbered_steps:aV P w K mg base (2 * d+4) "numbered_steps" ["steps", "line"] (oj K CN d)) :
  aV P w K mg base (2 * d+5) "numbered_step" ["step", "line"] (AF K CN d):=by
 refine D.cal (k:=2 * d+4) sc_numbered_step (fun _ _ _ _ _ _ us hl=>match us,hl with | [_,_],_=>rfl) (fun vs H Q E h=>by obtain⟨a,l,s,S,rfl,_⟩:=h; rfl) (fun f cdv A outer sh H vs Q E hr h=>?_)
 obtain⟨a,l,s,S,rfl,h1,ok,hz,q⟩:=h
 obtain⟨bs,b1,b2,b3⟩:=xJ (f:=ac d) (l:=l) h1 ok
 refine⟨_,(aj (aw 2 sc_numbered_step.nd (bC (aa (pv 1 (hv:=Dg)) ae)) (hx:=Dk))
   (aj (aw 3 sc_numbered_step.nd (bC ae) (hx:=Dv))
   (aj (df PassesOwn.never rfl (im K (aE c_blocks_of hr (aa (pv 0 (hv:=AM)) ae) (hg:=DG) (hle:=by omega))) (bH 4 sc_numbered_step.nd (hx:=EB)) (aj (aw 5 sc_numbered_step.nd (aE c_numbered_steps hr (aa (pv 4 (hv:=Ek)) (aa (ar az (aI (ba K) (pv 2 (hv:=wG)) (eZ eh ak) (fun _ _=>rfl)) ak) ae)) (hg:=Do) (hle:=by omega)) (hx:=DF))
   (aj (bm (bt K PySem.F.plainAttrs_list PySem.F.slot_list_append PySem.F.type_list_append a_ (pv 3 (hv:=AK)) (aa (pv 5 (hv:=A0)) ae)))
   (ao (bm (bt K PySem.F.plainAttrs_list PySem.F.slot_list_append PySem.F.type_list_append a_ (pv 2 (hv:=wG)) (aa (aE c_line_behind hr (aa (pv 5 (hv:=A0)) (aa (ar az (aI (ba K) (pv 2 (hv:=wG)) (eZ eh ak) (fun _ _=>rfl)) ak) ae)) (hg:=Dx) (hle:=by omega)) ae)))))))
   (ao (aD (Ak k_NumberedStep hr (aa (aE c_head_of hr (aa (pv 0 (hv:=AM)) ae) (hg:=EE) (hle:=by omega)) (aa (pv 2 (hv:=wG)) (aa (pv 3 (hv:=AK)) ae))) (hg:=Dd) (hle:=by omega))))))),?_⟩
 walk_at "rd1"
 refine⟨by decide,fun lp hlp=>?_⟩
 generalize hA:upd H lp _=HA
 have sA:=eR hA hlp
 have eA:=gD hA
 walk_at "nx"
 refine⟨by decide,fun bp hbp=>?_⟩
 generalize hB:upd HA bp _=HB
 have sB:=eR hB hbp
 have eB:=gD hB
 have sAB:=sA.trans sB
 have hcl:(aZ (kindOf s)).length≤(dh s++bs.map V.ref).length+1:=by rw[List.length_append,List.length_map,b2]; omega
 have hcut:(dh s++bs.map V.ref).length+1 - (aZ (kindOf s)).length=(dh s).length+1:=by rw[List.length_append,List.length_map,b2]; omega
 walk_at "nx"
 refine⟨a,kindOf s,_,rfl,SqT.of (sAB _ _ b1),hcl,fun tp HC sC htp=>?_⟩
 rw[hcut]at htp
 have etk:(V.str (kindOf s)::(dh s++bs.map V.ref)).drop ((dh s).length+1)=bs.map V.ref:=by rw[List.drop_succ_cons,List.drop_left']; rfl
 rw[etk]at htp
 walk_at "rd1"
 refine⟨⟨_,htp⟩,?_⟩
 have hbl:=ay b3
 have hb2:=uU (ac d) l s
 have nlb:lp≠bp:=fun z=>by rw[← z]at hbp; rw[hbp]at eA; cases eA
 refine nN (xs:=bs.map V.ref) (fun j σ H'=>∃ (o4 o5:Option V) (qs:List Addr),σ=[some (.ref a),some (.int (l:Int)),some (.ref lp),some (.ref bp),o4,o5]∧Same H H'∧SqT K H' tp (bs.map V.ref)∧H' lp=some (.lst (dW ((cD (ac d) l s).take (j+1))))∧H' bp=some (.lst (qs.map V.ref))∧
   (∀ b,H' b=none→HC b=none)∧Paired (fun q (z:Nat × List Stp)=>NumAt K CN (fun b=>HC b=none) d H' q z.1 z.2) qs ((cA (ac d) l s).take j))
  ⟨none,none,[],rfl,sAB.trans sC,htp,by rw[sC _ _ (sB _ _ eA)]; simp[dW,cD],by rw[sC _ _ eB]; rfl,fun b h=>h,.nil⟩ (fun j σ H' _ h=>by obtain⟨_,_,_,_,_,z,_⟩:=h; exact z) ?_ ?_
 ·rintro j v σ H' hv ⟨o4,o5,qs,rfl,sm,ht',hl',hb',hfr,hp'⟩
  have hj:j<bs.length:=by have:=(List.getElem?_eq_some_iff.mp hv).1; simpa using this
  rw[List.getElem?_map,List.getElem?_eq_getElem hj]at hv
  cases hv
  obtain⟨z,hz1,hz2,hz3⟩:=bP b3 (List.getElem?_eq_getElem hj)
  obtain⟨y,hy1,hy2⟩:=vJ hz1
  have hylast:((cD (ac d) l s).take (j+1)).getLast? = some y:=by
   rw[List.take_add_one,hy1]; simp
  have hcnt:=xU (List.mem_of_getElem? hz1)
  walk_at "rd1"
  refine⟨_,_,.inl (SqL.of hl'),gs hylast,?_⟩
  walk_at "rd1"
  have ey:(y:Int)+1=((z.1:Nat):Int):=by omega
  rw[ey]
  refine⟨bs[j],z.1,z.2,S,rfl,hz2.mono sm,hz3,by omega,fun q' HD sD hq'=>?_⟩
  have qlen:=ay hp'
  rw[List.length_take]at qlen
  walk_at "nx"
  refine⟨⟨_,SqL.of (sD _ _ hb')⟩,_,sD _ _ hb',bO (by rw[List.length_map]; omega),?_⟩
  generalize hE:upd HD bp _=HE
  have stE:Stays (fun b=>H' b=none) HD HE:=by rw[← hE]; exact Stays.upd (sD _ _ hb') (fun z=>by rw[hb']at z; cases z)
  have hqE:=NumAt.imp (S':=fun b=>H' b=none) stE (fun _ z=>z) d hq'
  have eE:HE bp=some (.lst (qs.map V.ref++[V.ref q'])):=by rw[← hE,ah]
  have lE:HE lp=some (.lst (dW ((cD (ac d) l s).take (j+1)))):=by rw[← hE,af nlb]; exact sD _ _ hl'
  walk_at "nx"
  refine⟨⟨_,SqL.of lE⟩,_,_,.inl (SqL.of lE),gs hylast,?_⟩
  walk_at "rd1"
  rw[ey]
  have hC1:∀ b,H' b=none→HC b=none:=hfr
  have hqC:=NumAt.imp (S':=fun b=>HC b=none) (Stays.of (Same.refl HE)) hC1 d hqE
  cases d with
  | zero=>exact hqE.elim
  | succ d=>
  refine⟨q',z.1,d,z.2,_,rfl,hqE,by omega,?_⟩
  refine⟨_,lE,bO (by unfold dW; rw[List.length_map,List.length_take]; omega),?_⟩
  generalize hF:upd HE lp _=HF
  have lpC:HC lp=some (.lst (dW [l])):=by rw[sC _ _ (sB _ _ eA)]; simp[dW]
  have bpC:HC bp=some (.lst []):=sC _ _ eB
  have stF:Stays (fun b=>HC b=none) HE HF:=by rw[← hF]; exact Stays.upd lE (fun z=>by rw[lpC]at z; cases z)
  have stE':Stays (fun b=>HC b=none) HD HE:=by rw[← hE]; exact Stays.upd (sD _ _ hb') (fun z=>by rw[bpC]at z; cases z)
  have up:∀ {p:Addr} {l:Nat} {T:List Stp},NumAt K CN (fun b=>HC b=none) (d+1) H' p l T→NumAt K CN (fun b=>HC b=none) (d+1) HF p l T:=fun z=>NumAt.imp stF (fun _ y=>y) _ (NumAt.imp stE' (fun _ y=>y) _ (z.mono sD))
  refine⟨_,_,qs++[q'],rfl,?_,?_,?_,?_,?_,?_⟩
  ·rw[← hF,← hE]; exact((sm.trans sD).upd (sA.free hbp) _).upd hlp _
  ·exact SqT.stays (SqT.stays (ht'.same sD) stE') stF
  ·rw[← hF,ah]
   have:(cD (ac (d+1)) l s)[j+1]? = some (z.1+ac (d+1) z.2):=by
    unfold cD
    rw[List.getElem?_cons_succ,List.getElem?_map,hz1]; rfl
   unfold dW
   rw[List.take_add_one (i:=j+1),this,List.map_append]; rfl
  ·rw[← hF,af nlb.symm,eE,List.map_append]; rfl
  ·intro b hb
   refine hfr b (sD.free ?_)
   rw[← hF,← hE]at hb
   by_cases e1:b=lp
   ·rw[e1,ah]at hb; cases hb
   ·rw[af e1]at hb
    by_cases e2:b=bp
    ·rw[e2,ah]at hb; cases hb
    ·rw[af e2]at hb; exact hb
  ·rw[List.take_add_one,hz1]
   exact ci (R:=fun q (z:Nat × List Stp)=>NumAt K CN (fun b=>HC b=none) (d+1) HF q z.1 z.2) (NumAt.imp stF (fun _ y=>y) _ hqC) (Paired.imp' (fun q z y=>up y) hp')
 ·rintro σ H' ⟨o4,o5,qs,rfl,sm,ht',hl',hb',hfr,hp'⟩
  rw[List.length_map,hbl,List.take_length]at hp'
  have hll:(cD (ac d) l s).take ((bs.map V.ref).length+1)=cD (ac d) l s:=by
   rw[List.take_of_length_le]; unfold cD; rw[List.length_cons,List.length_map,List.length_map,hbl]; exact Nat.le_refl _
  rw[hll]at hl'
  walk_at "nx"
  refine⟨a,kindOf s,_,rfl,SqT.of (sm _ _ b1),hcl,fun hp HD sD hhp=>?_⟩
  rw[hcut]at hhp
  have etk2:(V.str (kindOf s)::(dh s++bs.map V.ref)).take ((dh s).length+1)=V.str (kindOf s)::dh s:=by rw[List.take_succ_cons,List.take_left']; rfl
  rw[etk2]at hhp
  walk_at "rd1"
  intro x dx hx hdx ndx
  generalize hM:upd (upd HD dx (.own x)) x (.ins CN dx [])=HM
  have sM:Same HD HM:=by rw[← hM]; exact(am hdx (.own x)).upd hx _
  have eM:HM x=some (.ins CN dx []):=by rw[← hM,ah]
  refine⟨x,dx,hp,kindOf s,dh s,lp,bp,rfl,eM,hhp.same sM,fun pp HN kN eN hpp=>⟨rfl,?_⟩⟩
  have sN:Same HD HN:=fun b o e=>kN b o (sM _ _ e) (aq e hx)
  have sHN:Same H HN:=(sm.trans sD).trans sN
  have hCH:∀ b,HC b=none→H b=none:=fun b z=>(sAB.trans sC).free z
  refine q x HN sHN ⟨dx,pp,lp,bp,qs,eN,hpp,hlp,sN _ _ (sD _ _ hl'),sA.free hbp,sN _ _ (sD _ _ hb'),?_⟩
  exact Paired.imp' (fun q z y=>NumAt.imp (Stays.of (sD.trans sN)) hCH d y) hp'
theorem pJ(D0:DefAt K mg "numbered_step" aA) (D:DefAt K mg "numbered_steps" aT) (c_head_of:aV P w K mg base 2 "head_of" ["step"] (h9 K)) (c_blocks_of:aV P w K mg base 3 "blocks_of" ["step"] (fG K)) (c_line_behind:aV P w K mg base 1 "line_behind" ["steps", "line"] (gm K CN))
  (k_NumberedStep:mw P w K mg base 1 "NumberedStep" CN ["self", "head", "lines", "blocks"] (ke K CN)):∀ d:Nat,aV P w K mg base (2 * d+4) "numbered_steps" ["steps", "line"] (oj K CN d)
 | 0=>D.cal (k:=3) sc_numbered_steps (fun _ _ _ _ _ _ us hl=>match us,hl with | [_,_],_=>rfl) (fun vs H Q E h=>by obtain⟨p,l,T,S,rfl,_⟩:=h; rfl) (fun f cdv A outer s H vs Q E hr h=>by obtain⟨p,l,T,S,rfl,z,_⟩:=h; exact z.elim)
 | d+1=>by
  have c_numbered_step:=ym D0 c_head_of c_blocks_of c_line_behind k_NumberedStep (pJ D0 D c_head_of c_blocks_of c_line_behind k_NumberedStep d)
  refine D.cal (k:=2 * d+5) sc_numbered_steps (fun _ _ _ _ _ _ us hl=>match us,hl with | [_,_],_=>rfl) (fun vs H Q E h=>by obtain⟨p,l,T,S,rfl,_⟩:=h; rfl) (fun f cdv A outer s H vs Q E hr h=>?_)
  obtain⟨p,l,T,S,rfl,⟨h0,as,h1,h2⟩,ok,hz,q⟩:=h
  have hlen:=ay h2
  have hTl:=pQ d T
  refine⟨_,(aj (aw 2 sc_numbered_steps.nd (bC ae) (hx:=El))
   (aj (df PassesOwn.never rfl (dI K (pv 0 (hv:=D2))) (bH 3 sc_numbered_steps.nd (hx:=Et)) (ao (bm (bt K PySem.F.plainAttrs_list PySem.F.slot_list_append PySem.F.type_list_append a_ (pv 2 (hv:=z0)) (aa (aE c_numbered_step hr (aa (pv 3 (hv:=D1)) (aa (aE c_line_behind hr (aa (pv 2 (hv:=z0)) (aa (pv 1 (hv:=EN)) ae)) (hg:=Ec) (hle:=by omega)) ae)) (hg:=Eh) (hle:=by omega)) ae)))))
   (ao (aD (pv 2 (hv:=z0)))))),?_⟩
  walk_at "rd1"
  refine⟨by decide,fun lp hlp=>?_⟩
  generalize hA:upd H lp _=HA
  have sA:=eR hA hlp
  have eA:=gD hA
  walk_at "nx"
  refine⟨⟨_,SqL.of (sA _ _ h1)⟩,?_⟩
  have lpA:¬ HA lp=none:=fun z=>by rw[eA]at z; cases z
  refine d_ (xs:=as.map V.ref) (fun i σ H'=>∃ (o3:Option V) (ns:List Addr),σ=[some (.ref p),some (.int (l:Int)),some (.ref lp),o3]∧Same H H'∧H' lp=some (.lst (ns.map V.ref))∧(∀ b,H' b=none→HA b=none)∧
    Paired (fun a (z:Nat × Stp)=>nstpAt K CN (ac d) (fun b=>HA b=none) (NumAt K CN (fun b=>HA b=none) d H') H' a z.1 z.2) ns (dO (aJ (ac d)) l (T.take i)))
   ⟨none,[],rfl,sA,eA,fun _ z=>z,.nil⟩ (fun i σ H' _ h=>by obtain⟨_,_,_,sm,_⟩:=h; exact SqL.of (sm _ _ h1)) ?_ ?_
  ·rintro i v σ H' hv ⟨o3,ns,rfl,sm,n1,nf,n2⟩
   have hi:i<as.length:=by have:=(List.getElem?_eq_some_iff.mp hv).1; simpa using this
   rw[List.getElem?_map,List.getElem?_eq_getElem hi]at hv
   cases hv
   obtain⟨s,hs,hsa⟩:=bP h2 (List.getElem?_eq_getElem hi)
   have hmem:=List.mem_of_getElem? hs
   have hct:=j7 (d:=d) hmem
   have hctk:=oF (d:=d) (i:=i) (T:=T)
   have nlen:=ay n2
   rw[eL,List.length_take]at nlen
   walk_at "rd1"
   refine⟨⟨_,SqL.of n1⟩,?_⟩
   refine⟨lp,l,d,T.take i,fun _=>True,rfl,⟨trivial,ns,n1,Paired.imp' (fun a z y=>y.imp (Stays.of (Same.refl H')) (fun _ _=>trivial) fun q l b y'=>NumAt.imp (Stays.of (Same.refl H')) (fun _ _=>trivial) d y') n2⟩,by omega,?_⟩
   refine⟨as[i],l+ac (d+1) (T.take i),s,S,rfl,?_,ok s hmem,by omega,fun q' HD sD hq'=>?_⟩
   ·exact stpAt.imp (fun b xs e=>sm _ _ e) (fun q b y=>y.mono sm) hsa
   refine⟨_,sD _ _ n1,bO (by rw[List.length_map]; omega),?_⟩
   generalize hE:upd HD lp _=HE
   have eE:HE lp=some (.lst ((ns++[q']).map V.ref)):=by rw[← hE,ah,List.map_append]; rfl
   have stE:Stays (fun b=>HA b=none) HD HE:=by rw[← hE]; exact Stays.upd (sD _ _ n1) lpA
   have hq2:nstpAt K CN (ac d) (fun b=>HA b=none) (NumAt K CN (fun b=>HA b=none) d HD) HD q' (l+ac (d+1) (T.take i)) s:=hq'.imp (Stays.of (Same.refl HD)) nf fun q l b y'=>NumAt.imp (Stays.of (Same.refl HD)) nf d y'
   have up:∀ {a:Addr} {l:Nat} {s:Stp},nstpAt K CN (ac d) (fun b=>HA b=none) (NumAt K CN (fun b=>HA b=none) d HD) HD a l s→nstpAt K CN (ac d) (fun b=>HA b=none) (NumAt K CN (fun b=>HA b=none) d HE) HE a l s:=fun z=>z.imp stE (fun _ y=>y) fun q l b y'=>NumAt.imp stE (fun _ y=>y) d y'
   refine⟨_,ns++[q'],rfl,?_,eE,?_,?_⟩
   ·rw[← hE]; exact(sm.trans sD).upd hlp _
   ·intro b hb
    refine nf b (sD.free ?_)
    rw[← hE]at hb
    by_cases e1:b=lp
    ·rw[e1,ah]at hb; cases hb
    ·rw[af e1]at hb; exact hb
   ·have et:T.take (i+1)=T.take i++[s]:=by rw[List.take_add_one,hs]; rfl
    rw[et,gY]
    exact ci (R:=fun a (z:Nat × Stp)=>nstpAt K CN (ac d) (fun b=>HA b=none) (NumAt K CN (fun b=>HA b=none) d HE) HE a z.1 z.2) (up hq2) (Paired.imp' (fun a z y=>up (nstpAt.mono y sD)) n2)
  ·rintro σ H' ⟨o3,ns,rfl,sm,n1,nf,n2⟩
   rw[List.length_map,hlen,List.take_length]at n2
   walk_at "nx"
   have hAH:∀ b,HA b=none→H b=none:=fun b z=>sA.free z
   exact q lp H' sm ⟨hlp,ns,n1,Paired.imp' (fun a z y=>y.imp (Stays.of (Same.refl H')) hAH fun q l b y'=>NumAt.imp (Stays.of (Same.refl H')) hAH d y') n2⟩
end
section
variable{P:Program}{w:World}{K:PySem.W.Frag}{mg:Str→Option Value}{base:Heap}
abbrev aG:=List V
def cr(kv:List (aK × V))(k:aK):V:=(bT kv k).getD .non
def iN(n:Nat):V:=.int (n:Int)
def dN(kv:List (aK × V))(l:Nat)(ws:List Str):aG:=
 if ws.headD "" = "do" then [.str "do", iN l,cr kv (.inr (ws.getD 2 "")),.str (ws.getD 1 "")] else .str (ws.headD "")::iN l::(ws.drop 1).map fun n=>cr kv (.inr n)
section
variable(kv:List (aK × V))(f:Bool→Nat→Nat→List Stp→List aG)(cnt:List Stp→Nat)
def b_(t:Bool)(a l:Nat)(x y:Str)(b:List Stp):List aG:=
 [[.str "copy", iN l,cr kv (.inl l),cr kv (.inr x)],[.str "do", iN l,cr kv (.inl l),.str "lend"],[.str "copy", iN l,cr kv (.inr y),cr kv (.inl l)]]++f t (a+3) (l+1) b ++
 [[.str "do", iN (l+1+cnt b),cr kv (.inl l),.str "back"],[.str "drop", iN (l+1+cnt b),cr kv (.inr y)],[.str "drop", iN (l+1+cnt b),cr kv (.inl l)]]
def db(t:Bool)(a l:Nat)(n:Int)(b c:List Stp):List aG:=
 [[.str "test", iN l,.int n,iN (a+1+(f t (a+1) (l+1) b).length+1)]]++f t (a+1) (l+1) b ++
 [[.str "jump", iN (l+1+cnt b),iN (a+1+(f t (a+1) (l+1) b).length+1+(f t (a+1+(f t (a+1) (l+1) b).length+1) (l+1+cnt b+1) c).length)]]++f t (a+1+(f t (a+1) (l+1) b).length+1) (l+1+cnt b+1) c
def bU(a l:Nat)(n:Int)(b:List Stp):List aG:=
 [[.str "test", iN l,.int n,iN (a+1+(f false (a+1) (l+1) b).length+1)]]++f false (a+1) (l+1) b++[[.str "jump", iN (l+1+cnt b),iN a]]
def bG(t:Bool)(a l:Nat)(n:Int)(b:List Stp):List aG:=
 if t=true then [[.str "test", iN l,.int n,iN (a+1+(f true (a+1) (l+1) b).length+(bU f cnt (a+1+(f true (a+1) (l+1) b).length) l n b).length)]]++f true (a+1) (l+1) b++bU f cnt (a+1+(f true (a+1) (l+1) b).length) l n b
 else bU f cnt a l n b
def aC(t:Bool)(a l:Nat):Stp→List aG
 | .plain ws=>[dN kv l ws]
 | .lend x y b=>b_ kv f cnt t a l x y b
 | .ite n b c=>db f cnt t a l n b c
 | .whl n b=>bG f cnt t a l n b
end
def aU(g:Nat→Nat→Stp→List aG)(c:Stp→Nat):Nat→Nat→List Stp→List aG
 | _,_,[]=>[]
 | a,l,s::T=>g a l s++aU g c (a+(g a l s).length) (l+c s) T
theorem iM(g:Nat→Nat→Stp→List aG)(c:Stp→Nat)(s:Stp):∀ (T:List Stp) (a l:Nat),aU g c a l (T++[s])=aU g c a l T++g (a+(aU g c a l T).length) (l+(T.map c).sum) s
 | [],a,l=>by simp[aU]
 | t::T,a,l=>by
  show g a l t++aU g c _ _ (T++[s])=(g a l t++aU g c _ _ T)++_
  have e:(aU g c a l (t::T)).length=(g a l t).length+(aU g c (a+(g a l t).length) (l+c t) T).length:=List.length_append
  rw[iM g c s T,List.append_assoc,e,List.map_cons,List.sum_cons,Nat.add_assoc,Nat.add_assoc]
def ai(kv:List (aK × V)):Nat→Bool→Nat→Nat→List Stp→List aG
 | 0,_,_,_,_=>[]
 | d+1,t,a,l,T=>aU (aC kv (ai kv d) (ac d) t) (aJ (ac d)) a l T
theorem dk{f:Bool→Nat→Nat→List Stp→List aG}{cnt:List Stp→Nat}{a l:Nat}{n:Int}{b:List Stp}:(bU f cnt a l n b).length=(f false (a+1) (l+1) b).length+2:=by
 unfold bU; simp
theorem vi{kv:List (aK × V)}{f:Bool→Nat→Nat→List Stp→List aG}{cnt:List Stp→Nat}{m:Nat}(h0:∀ a l T,(f false a l T).length≤6 * cnt T)(h1:∀ a l T,(f true a l T).length≤6 * m * cnt T)(hm:1≤m):∀ (s:Stp) (t:Bool) (a l:Nat),(aC kv f cnt t a l s).length≤(if t=true then 6 * (m+1) else 6) * aJ cnt s
 | .plain ws,t,a,l=>by
  show 1≤_ * 1
  split <;> omega
 | .lend x y b,t,a,l=>by
  cases t with
  | false=>
   have:=h0 (a+3) (l+1) b
   show (b_ kv f cnt false a l x y b).length≤6 * (cnt b+2)
   unfold b_
   simp only[List.length_append,List.length_cons,List.length_nil]
   omega
  | true=>
   have:=h1 (a+3) (l+1) b
   show (b_ kv f cnt true a l x y b).length≤6 * (m+1) * (cnt b+2)
   unfold b_
   simp only[List.length_append,List.length_cons,List.length_nil]
   have e:6 * (m+1) * (cnt b+2)=6 * m * cnt b+6 * cnt b+12 * m+12:=by rw[Nat.mul_add 6 m 1,Nat.add_mul,Nat.mul_add,Nat.mul_add]; omega
   omega
 | .ite n b c,t,a,l=>by
  cases t with
  | false=>
   have:=h0 (a+1) (l+1) b
   have:=h0 (a+1+(f false (a+1) (l+1) b).length+1) (l+1+cnt b+1) c
   show (db f cnt false a l n b c).length≤6 * (cnt b+cnt c+3)
   unfold db
   simp only[List.length_append,List.length_cons,List.length_nil]
   omega
  | true=>
   have:=h1 (a+1) (l+1) b
   have:=h1 (a+1+(f true (a+1) (l+1) b).length+1) (l+1+cnt b+1) c
   show (db f cnt true a l n b c).length≤6 * (m+1) * (cnt b+cnt c+3)
   unfold db
   simp only[List.length_append,List.length_cons,List.length_nil]
   have e:6 * (m+1) * (cnt b+cnt c+3)=6 * m * cnt b+6 * m * cnt c+18 * m+6 * cnt b+6 * cnt c+18:=by rw[Nat.mul_add 6 m 1,Nat.add_mul,Nat.mul_add,Nat.mul_add,Nat.mul_add,Nat.mul_add]; omega
   omega
 | .whl n b,t,a,l=>by
  cases t with
  | false=>
   have:=h0 (a+1) (l+1) b
   show (bG f cnt false a l n b).length≤6 * (cnt b+2)
   unfold bG
   rw[if_neg (by decide),dk]
   omega
  | true=>
   have:=h1 (a+1) (l+1) b
   have:=h0 (a+1+(f true (a+1) (l+1) b).length+1) (l+1) b
   show (bG f cnt true a l n b).length≤6 * (m+1) * (cnt b+2)
   unfold bG
   rw[if_pos rfl]
   simp only[List.length_append,List.length_cons,List.length_nil,dk]
   have e:6 * (m+1) * (cnt b+2)=6 * m * cnt b+6 * cnt b+12 * m+12:=by rw[Nat.mul_add 6 m 1,Nat.add_mul,Nat.mul_add,Nat.mul_add]; omega
   omega
theorem mL{g:Nat→Nat→Stp→List aG}{c:Stp→Nat}{k:Nat}(h:∀ s a l,(g a l s).length≤k * c s):∀ (T:List Stp) (a l:Nat),(aU g c a l T).length≤k * (T.map c).sum
 | [],_,_=>Nat.zero_le _
 | s::T,a,l=>by
  have:=h s a l
  have:=mL h T (a+(g a l s).length) (l+c s)
  show (g a l s++aU g c (a+(g a l s).length) (l+c s) T).length≤k * (c s+(T.map c).sum)
  rw[List.length_append,Nat.mul_add]; omega
theorem nC(kv:List (aK × V)):∀ (d:Nat) (a l:Nat) (T:List Stp),(ai kv d false a l T).length≤6 * ac d T∧(ai kv d true a l T).length≤6 * (d+1) * ac d T
 | 0,_,_,_=>⟨Nat.zero_le _,Nat.zero_le _⟩
 | d+1,a,l,T=>by
  have ih:=nC kv d
  have st:=vi (kv:=kv) (f:=ai kv d) (cnt:=ac d) (m:=d+1) (fun a l T=>(ih a l T).1) (fun a l T=>(ih a l T).2) (by omega)
  exact⟨mL (k:=6) (fun s a l=>by have:=st s false a l; simpa using this) T a l,mL (k:=6 * (d+1+1)) (fun s a l=>by have:=st s true a l; simpa using this) T a l⟩
def bY(H:Hp)(c:Addr)(r:aG):Prop:=H c=some (.tup r)
def du(ws:List Str):List Str:=if ws.headD "" = "do" then [ws.getD 2 ""] else ws.drop 1
def fN(kv:List (aK × V))(k:aK):Prop:=bT kv k=some (cr kv k)
def ki(kv:List (aK × V))(f:Nat→List Stp→Prop)(cnt:List Stp→Nat)(l:Nat):Stp→Prop
 | .plain ws=>(ws.headD "" = "do" → ws.length=3)∧∀ n∈du ws,fN kv (.inr n)
 | .lend x y b=>fN kv (.inr x)∧fN kv (.inr y)∧fN kv (.inl (l:Int))∧f (l+1) b
 | .ite _ b c=>f (l+1) b∧f (l+1+cnt b+1) c
 | .whl _ b=>f (l+1) b
def dJ(kv:List (aK × V)):Nat→Nat→List Stp→Prop
 | 0,_,_=>False
 | d+1,l,T=>∀ z∈dO (aJ (ac d)) l T,ki kv (dJ kv d) (ac d) z.1 z.2
section
variable{CN:Addr}
def uV(K:PySem.W.Frag)(C:Addr):Sp:=fun vs H Q _=>∃ (a sp:Addr) (l:Nat) (ws:List Str) (kv:List (aK × V)) (S:Addr→Prop) (PA:Addr→Nat→List Stp→Prop) (g:List Stp→Nat) (f:Nat→List Stp→Prop),vs=[.ref a,.ref sp]∧nstpAt K C g S PA H a l (.plain ws)∧fv ws∧H sp=some (.dK kv)∧ki kv f g l (.plain ws)∧
 ∀ (t:Addr) (H':Hp),Same H H'→bY H' t (dN kv l ws)→Q (.ref t) H'
theorem sS(D:DefAt K mg "simple_row" bb) (z_tuple:mg "tuple" = none) (a_kind:Fl K CN "kind") (a_parts:Fl K CN "parts") (a_lines:Fl K CN "lines"):aV P w K mg base 1 "simple_row" ["step", "slots"] (uV K CN):=by
 refine D.cal (k:=0) sc_simple_row (fun _ _ _ _ _ _ us hl=>match us,hl with | [_,_],_=>rfl) (fun vs H Q E h=>by obtain⟨_,_,_,_,_,_,_,_,_,rfl,_⟩:=h; rfl) (fun f cdv A outer s H vs Q E hr h=>?_)
 obtain⟨a,sp,l,ws,kv,S,PA,g,ff,rfl,⟨dx,pp,lp,bp,bs,g1,g2,g3,g4,g5,g6,g7⟩,ok,esp,⟨hk3,hks⟩,q⟩:=h
 refine⟨_,(aj (aw 2 sc_simple_row.nd (aI (ba K) (bu a_lines (pv 0 (hv:=ko))) ak (fun _ _=>rfl)) (hx:=C_))
   (aj (bQ (aH cm (bu a_kind (pv 0 (hv:=ko))) aB (aM _)) (ao (aD (bE (aa aB (aa (pv 2 (hv:=yx)) (aa (aI (kg K) (pv 1 (hv:=BD)) (aI (ba K) (bu a_parts (pv 0 (hv:=ko))) ak (fun _ _=>rfl)) (fun _ _=>rfl)) (aa (aI (ba K) (bu a_parts (pv 0 (hv:=ko))) ak (fun _ _=>rfl)) ae))))))) bA)
   (ao (aD (ar (vW K) (bE (aa (bu a_kind (pv 0 (hv:=ko))) (aa (pv 2 (hv:=yx)) ae))) (fK (tZ K) z_tuple i9 (aa (fq (CompSc.to (fsc:=(defScope bb)) (N:=["step", "slots", "line"]) (N0:=["step", "slots", "line"]) (T:=["name"]) ⟨by decide +kernel,by decide +kernel,by decide +kernel,by decide +kernel,by decide +kernel,by decide +kernel,by decide +kernel⟩ rfl rfl) rfl ((im K) (bu a_parts (pv 0 (hv:=ko)))) (fun _ _ _ _=>(bH 3 (show (["step", "slots", "line", "name"]:List Str).Nodup from by decide +kernel) (hx:=(i0 (defScope bb) (by decide +kernel))) (hf:=nQ (defScope bb) (by decide +kernel)))) (dY (show (["step", "slots", "line"]:List Str).length≤3 from by decide)) (fun _ _ _ _=>iW) (fun _ _ _ _=>(aI (kg K) (pv 1 (hv:=(dZ (defScope bb) (by decide +kernel)))) (pv 3 (hv:=(dZ (defScope bb) (by decide +kernel)))) (fun _ _=>rfl)))) ae) (hg:=DA))))))),?_⟩
 walk_at "rd1"
 refine⟨dx,_,_,g1,dj _ _ _ _,?_⟩
 walk_at "rd1"
 refine⟨_,_,.inl (SqL.of g4),dL (i:=0) (n:=l) rfl,?_⟩
 walk_at "nx"
 refine⟨dx,_,_,g1,d0 _ _ _ _,?_⟩
 walk_at "rd1"
 unfold dN at q
 unfold du at hks
 refine bF (fun c=>?_) (fun c=>?_)
 ·have hdo:ws.headD "" = "do" := c
  rw[if_pos hdo]at q hks
  obtain⟨k0,w0,x0,rfl⟩ : ∃ k w x,ws=[k,w,x]:=by
   have:=hk3 hdo
   match ws,this with
   | [k,w,x],_=>exact⟨k,w,x,rfl⟩
  have hx:=hks x0 (by simp)
  refine⟨dx,_,_,g1,dF _ _ _ _,?_⟩
  walk_at "rd1"
  refine⟨_,_,.inr g2,bM (j:=1) (v:=.str x0) rfl,?_⟩
  refine .inr ⟨sp,kv,.inr x0,_,rfl,rfl,esp,hx,?_⟩
  refine⟨dx,_,_,g1,dF _ _ _ _,?_⟩
  walk_at "rd1"
  refine⟨_,_,.inr g2,bM (j:=0) (v:=.str w0) rfl,by decide,fun t ht=>?_⟩
  exact q t _ (am ht _) ah
 ·have hdo:¬ ws.headD "" = "do" := c
  rw[if_neg hdo]at q hks
  walk_at "nx"
  refine⟨dx,_,_,g1,d0 _ _ _ _,by decide,fun t1 ht1=>?_⟩
  generalize hH1:upd H t1 _=H1
  have s1:Same H H1:=by rw[← hH1]; exact am ht1 _
  have et1:H1 t1=some (.tup [.str (kindOf (.plain ws)),iN l]):=by rw[← hH1]; exact ah
  refine⟨dx,_,_,s1 _ _ g1,dF _ _ _ _,?_⟩
  refine⟨pp,rfl,⟨_,g2.same s1⟩,fun L hL=>?_⟩
  have g2':SqT K H1 pp ((ws.drop 1).map V.str):=g2.same s1
  have esp1:=s1 _ _ esp
  refine kZ (xs:=(ws.drop 1).map V.str) (fun i ys H'=>Same H1 H'∧H' L=some (.lst ys)∧ys=((ws.drop 1).take i).map fun n=>cr kv (.inr n)) ⟨am hL _,ah,rfl⟩ (fun i ys H' _ hh=>g2'.same hh.1) ?_ ?_
  ·rintro i ys H' v hv hi ⟨sm,hl,rfl⟩
   rw[List.length_map]at hi
   rw[List.getElem?_map,List.getElem?_eq_getElem hi]at hv
   cases hv
   have hn:=hks _ (List.getElem_mem hi)
   have h3:=ok.three
   have hdl:(ws.drop 1).length≤3:=by rw[List.length_drop]; omega
   walk_at "rd1"
   refine .inr ⟨sp,kv,.inr (ws.drop 1)[i],_,rfl,rfl,sm _ _ esp1,hn,?_⟩
   refine rf (by rw[List.length_map]; exact hi) (by rw[List.length_map,List.length_take]; omega) (by rw[List.length_map]; exact bg (by omega)) hl ⟨sm.upd hL _,ah,?_⟩
   rw[List.take_add_one,List.getElem?_eq_getElem hi,List.map_append]; rfl
  ·rintro ys H2 ⟨s2,e2,rfl⟩
   rw[List.length_map,List.take_length]at e2
   have h2:=ok.two
   have h3:=ok.three
   have hdl:(ws.drop 1).length≤3∧1≤(ws.drop 1).length:=by rw[List.length_drop]; omega
   walk_at "rd1"
   refine⟨_,.inl ⟨SqL.of e2,fun t2 ht2=>?_⟩⟩
   have s3:=am ht2 (.tup ((ws.drop 1).map fun n=>cr kv (.inr n)))
   have et2:upd H2 t2 (.tup ((ws.drop 1).map fun n=>cr kv (.inr n))) t2=some (.tup ((ws.drop 1).map fun n=>cr kv (.inr n))):=ah
   generalize upd H2 t2 (.tup ((ws.drop 1).map fun n=>cr kv (.inr n)))=H3 at s3 et2 ⊢
   refine⟨_,_,SqT.of (s3 _ _ (s2 _ _ et1)),SqT.of et2,by simp,by rw[List.length_map]; exact bg (by simp only[List.length_cons,List.length_nil]; omega),fun hz=>?_,fun _ t3 ht3=>?_⟩
   ·have:=congrArg List.length hz
    rw[List.length_map]at this
    simp only[List.length_nil]at this
    omega
   ·exact q t3 _ (((s1.trans s2).trans s3).trans (am ht3 _)) ah
end
def ListR(H:Hp)(q:Addr)(rows:List aG):Prop:=∃ as:List Addr,H q=some (.lst (as.map V.ref))∧Paired (bY H) as rows
theorem ListR.mono{H H':Hp}{q:Addr}{rows:List aG}(h:ListR H q rows)(s:Same H H'):ListR H' q rows:=let ⟨as,h1,h2⟩:=h; ⟨as,s _ _ h1,Paired.imp' (fun _ _ z=>s _ _ z) h2⟩
theorem dQ{α β : Type}{R:α→β→Prop}:∀ {xs zs:List α} {ys us:List β},Paired R xs ys→Paired R zs us→Paired R (xs++zs) (ys++us)
 | _,_,_,_,.nil,h=>h
 | _,_,_,_,.cons a t,h=>.cons a (dQ t h)
theorem dS{H:Hp}{x:Addr}{as bs:List Addr}{r1 r2:List aG}(a2:Paired (bY H) as r1)(b2:Paired (bY H) bs r2)(hx:H x=none):ListR (upd H x (.lst (as.map V.ref++bs.map V.ref))) x (r1++r2):=by
 have s:=am hx (.lst (as.map V.ref++bs.map V.ref))
 exact⟨as++bs,by rw[ah,List.map_append],dQ (Paired.imp' (fun _ _ z=>s _ _ z) a2) (Paired.imp' (fun _ _ z=>s _ _ z) b2)⟩
theorem dv{H:Hp}{as bs:List Addr}{r1 r2:List aG}(a2:Paired (bY H) as r1)(b2:Paired (bY H) bs r2)(hl:r1.length+r2.length≤1000000):(as.map V.ref).length+(bs.map V.ref).length≤sizeLine:=by
 rw[List.length_map,List.length_map,ay a2,ay b2]; exact bg hl
theorem fm{H:Hp}{c x:Addr}{r:aG}(hc:bY H c r)(hx:H x=none):ListR (upd H x (.lst [.ref c])) x [r]:=⟨[c],ah,.cons (am hx _ _ _ hc) .nil⟩
section
variable{CN:Addr}
def fk(K:PySem.W.Frag)(C:Addr)(d:Nat):Sp:=fun vs H Q _=>∃ (p sp:Addr) (a l:Nat) (t:Bool) (T:List Stp) (kv:List (aK × V)) (S:Addr→Prop),vs=[.ref p,.int (a:Int),.ref sp,.bl t]∧NumAt K C S d H p l T∧dG d T∧H sp=some (.dK kv)∧dJ kv d l T∧ac d T≤200∧d≤20∧
 ∀ (q:Addr) (H':Hp),Same H H'→H q=none→ListR H' q (ai kv d t a l T)→Q (.ref q) H'
def s_(K:PySem.W.Frag)(C:Addr)(d:Nat):Sp:=fun vs H Q _=>∃ (x sp:Addr) (a l:Nat) (n:Int) (b:List Stp) (kv:List (aK × V)) (S:Addr→Prop),vs=[.ref x,.int (a:Int),.ref sp]∧nstpAt K C (ac d) S (NumAt K C S d H) H x l (.whl n b)∧dG d b∧H sp=some (.dK kv)∧dJ kv d (l+1) b∧ac d b≤200∧d≤20∧
 ∀ (q:Addr) (H':Hp),Same H H'→H q=none→ListR H' q (bU (ai kv d) (ac d) a l n b)→Q (.ref q) H'
theorem da{kv:List (aK × V)}{d a l:Nat}{t:Bool}{T:List Stp}(h:ac d T≤200)(hd:d≤20):(ai kv d t a l T).length≤30000:=by
 have h1:=nC kv d a l T
 have h2:6 * (d+1) * ac d T≤6 * 21 * 200:=Nat.mul_le_mul (by omega) h
 cases t with
 | false=>omega
 | true=>omega
theorem xS(D:DefAt K mg "loop_rows" bo) (z_len:mg "len" = none) (a_parts:Fl K CN "parts") (a_lines:Fl K CN "lines") (a_blocks:Fl K CN "blocks") {d:Nat} (c_rows_of:aV P w K mg base (3 * d+2) "rows_of" ["steps", "at", "slots", "turned"] (fk K CN d)):aV P w K mg base (3 * d+3) "loop_rows" ["step", "at", "slots"] (s_ K CN d):=by
 refine D.cal (k:=3 * d+2) sc_loop_rows (fun _ _ _ _ _ _ us hl=>match us,hl with | [_,_,_],_=>rfl) (fun vs H Q E h=>by obtain⟨_,_,_,_,_,_,_,_,rfl,_⟩:=h; rfl) (fun f cdv A outer s H vs Q E hr h=>?_)
 obtain⟨x,sp,a,l,n,b,kv,S,rfl,⟨dx,pp,lp,bp,bs,g1,g2,g3,g4,g5,g6,g7⟩,ok,esp,hk,hc,hd,q⟩:=h
 obtain⟨q0,rfl⟩ : ∃ q0,bs=[q0]:=by
  cases g7 with
  | cons _ t=>cases t; exact⟨_,rfl⟩
 have hb:NumAt K CN S d H q0 (l+1) b:=by
  cases g7 with
  | cons h _=>exact h
 refine⟨_,(aj (aw 3 sc_loop_rows.nd (aE c_rows_of hr (aa (aI (ba K) (bu a_blocks (pv 0 (hv:=rZ))) ak (fun _ _=>rfl)) (aa (ar az (pv 1 (hv:=vT)) ak) (aa (pv 2 (hv:=C6)) (aa fc ae)))) (hg:=C2) (hle:=by omega)) (hx:=DU))
   (aj (aw 4 sc_loop_rows.nd (ar az (ar az (ar az (pv 1 (hv:=vT)) ak) (bv (aW K) z_len bK (aa (pv 3 (hv:=zl)) ae) (hg:=EA))) ak) (hx:=Eb))
   (ao (aD (ar az (ar az (bC (aa (bE (aa aB (aa (aI (ba K) (bu a_lines (pv 0 (hv:=rZ))) ak (fun _ _=>rfl)) (aa (aI (ba K) (bu a_parts (pv 0 (hv:=rZ))) ak (fun _ _=>rfl)) (aa (pv 4 (hv:=Cy)) ae))))) ae)) (pv 3 (hv:=zl))) (bC (aa (bE (aa aB (aa (aI (ba K) (bu a_lines (pv 0 (hv:=rZ))) ak (fun _ _=>rfl)) (aa (pv 1 (hv:=vT)) ae)))) ae))))))),?_⟩
 walk_at "rd1"
 refine⟨dx,_,_,g1,eW _ _ _ _,?_⟩
 walk_at "rd1"
 refine⟨_,_,.inl (SqL.of g6),bM (j:=0) (v:=V.ref q0) rfl,?_⟩
 refine⟨q0,sp,a+1,l+1,false,b,kv,S,by simp,hb,ok,esp,hk,hc,hd,fun wq H1 s1 hwq hW=>?_⟩
 have hWl:=da (kv:=kv) (a:=a+1) (l:=l+1) (t:=false) hc hd
 generalize hWW:ai kv d false (a+1) (l+1) b=W at hW hWl
 obtain⟨was,w1,w2⟩:=id hW
 have wl:=ay w2
 walk_at "nx"
 refine⟨_,.inl (SqL.of w1),?_⟩
 rw[List.length_map,wl]
 walk_at "nx"
 refine⟨dx,_,_,s1 _ _ g1,dj _ _ _ _,?_⟩
 walk_at "rd1"
 refine⟨_,_,.inl (SqL.of (s1 _ _ g4)),dL (i:=0) (n:=l) rfl,?_⟩
 refine⟨dx,_,_,s1 _ _ g1,dF _ _ _ _,?_⟩
 walk_at "rd1"
 refine⟨_,_,.inr (g2.same s1),bM (j:=0) (v:=V.int n) rfl,by decide,fun t1 ht1=>?_⟩
 generalize hH2:upd H1 t1 _=H2
 have s2:Same H1 H2:=by rw[← hH2]; exact am ht1 _
 have et1:bY H2 t1 [.str "test", iN l,.int n,iN (a+1+W.length+1)]:=by
  show H2 t1=_
  rw[← hH2,ah]
  simp[iN]
 refine⟨by decide,fun l1 hl1=>?_⟩
 have s3:=am hl1 (.lst [.ref t1])
 have L1:=fm et1 hl1
 generalize upd H2 l1 (.lst [.ref t1])=H3 at s3 L1 ⊢
 have s13:=s2.trans s3
 obtain⟨as1,a1,a2⟩:=L1
 obtain⟨bs1,b1,b2⟩:=hW.mono s13
 refine⟨_,_,a1,b1,dv a2 b2 (by simp only[List.length_cons,List.length_nil]; omega),fun l2 hl2=>?_⟩
 have s4:=am hl2 (.lst (as1.map V.ref++bs1.map V.ref))
 have L2:=dS a2 b2 hl2
 generalize upd H3 l2 (.lst (as1.map V.ref++bs1.map V.ref))=H4 at s4 L2 ⊢
 have s04:=(s1.trans s13).trans s4
 refine⟨dx,_,_,s04 _ _ g1,dj _ _ _ _,?_⟩
 walk_at "rd1"
 refine⟨_,_,.inl (SqL.of (s04 _ _ g4)),dL (i:=1) (n:=l+1+ac d b) rfl,by decide,fun t2 ht2=>?_⟩
 generalize hH5:upd H4 t2 _=H5
 have s5:Same H4 H5:=by rw[← hH5]; exact am ht2 _
 have et2:bY H5 t2 [.str "jump", iN (l+1+ac d b),iN a]:=by
  show H5 t2=_
  rw[← hH5,ah]
  simp[iN]
 refine⟨by decide,fun l3 hl3=>?_⟩
 have s6:=am hl3 (.lst [.ref t2])
 have L3:=fm et2 hl3
 generalize upd H5 l3 (.lst [.ref t2])=H6 at s6 L3 ⊢
 obtain⟨as2,c1,c2⟩:=L2.mono (s5.trans s6)
 obtain⟨bs2,d1,d2⟩:=L3
 refine⟨_,_,c1,d1,dv c2 d2 (by simp only[List.length_append,List.length_cons,List.length_nil]; omega),fun l4 hl4=>?_⟩
 have s7:=am hl4 (.lst (as2.map V.ref++bs2.map V.ref))
 have L4:=dS c2 d2 hl4
 generalize upd H6 l4 (.lst (as2.map V.ref++bs2.map V.ref))=H7 at s7 L4 ⊢
 refine q l4 H7 (((s04.trans s5).trans s6).trans s7) (((s04.trans s5).trans s6).free hl4) ?_
 unfold bU
 rw[hWW]
 exact L4
end
section
variable{CN:Addr}
def u6(K:PySem.W.Frag)(C:Addr)(d:Nat):Sp:=fun vs H Q _=>∃ (x sp:Addr) (a l:Nat) (t:Bool) (n:Int) (b:List Stp) (kv:List (aK × V)) (S:Addr→Prop),vs=[.ref x,.int (a:Int),.ref sp,.bl t]∧nstpAt K C (ac d) S (NumAt K C S d H) H x l (.whl n b)∧dG d b∧H sp=some (.dK kv)∧dJ kv d (l+1) b∧ac d b≤200∧d≤20∧
 ∀ (q:Addr) (H':Hp),Same H H'→H q=none→ListR H' q (bG (ai kv d) (ac d) t a l n b)→Q (.ref q) H'
theorem wj(D:DefAt K mg "while_rows" aR) (z_len:mg "len" = none) (a_parts:Fl K CN "parts") (a_lines:Fl K CN "lines") (a_blocks:Fl K CN "blocks") {d:Nat} (c_rows_of:aV P w K mg base (3 * d+2) "rows_of" ["steps", "at", "slots", "turned"] (fk K CN d)) (c_loop_rows:aV P w K mg base (3 * d+3) "loop_rows" ["step", "at", "slots"] (s_ K CN d)):aV P w K mg base (3 * d+4) "while_rows" ["step", "at", "slots", "turned"] (u6 K CN d):=by
 refine D.cal (k:=3 * d+3) sc_while_rows (fun _ _ _ _ _ _ us hl=>match us,hl with | [_,_,_,_],_=>rfl) (fun vs H Q E h=>by obtain⟨_,_,_,_,_,_,_,_,_,rfl,_⟩:=h; rfl) (fun f cdv A outer s H vs Q E hr h=>?_)
 obtain⟨x,sp,a,l,t,n,b,kv,S,rfl,hN,ok,esp,hk,hc,hd,q⟩:=h
 obtain⟨dx,pp,lp,bp,bs,g1,g2,g3,g4,g5,g6,g7⟩:=id hN
 obtain⟨q0,rfl⟩ : ∃ q0,bs=[q0]:=by
  cases g7 with
  | cons _ t=>cases t; exact⟨_,rfl⟩
 have hb:NumAt K CN S d H q0 (l+1) b:=by
  cases g7 with
  | cons h _=>exact h
 refine⟨_,(aj (bQ (gi (fM (pv 3 (hv:=Cz)))) (ao (aD (aE c_loop_rows hr (aa (pv 0 (hv:=m_)) (aa (pv 1 (hv:=sg)) (aa (pv 2 (hv:=wa)) ae))) (hg:=zZ) (hle:=by omega)))) bA)
   (aj (aw 4 sc_while_rows.nd (aE c_rows_of hr (aa (aI (ba K) (bu a_blocks (pv 0 (hv:=m_))) ak (fun _ _=>rfl)) (aa (ar az (pv 1 (hv:=sg)) ak) (aa (pv 2 (hv:=wa)) (aa fc ae)))) (hg:=Cd) (hle:=by omega)) (hx:=EH))
   (aj (aw 5 sc_while_rows.nd (aE c_loop_rows hr (aa (pv 0 (hv:=m_)) (aa (ar az (ar az (pv 1 (hv:=sg)) ak) (bv (aW K) z_len bK (aa (pv 4 (hv:=vm)) ae) (hg:=vA))) (aa (pv 2 (hv:=wa)) ae))) (hg:=zZ) (hle:=by omega)) (hx:=C0))
   (aj (aw 6 sc_while_rows.nd (ar az (ar az (ar az (pv 1 (hv:=sg)) ak) (bv (aW K) z_len bK (aa (pv 4 (hv:=vm)) ae) (hg:=vA))) (bv (aW K) z_len bK (aa (pv 5 (hv:=yp)) ae) (hg:=vA))) (hx:=B_))
   (ao (aD (ar az (ar az (bC (aa (bE (aa aB (aa (aI (ba K) (bu a_lines (pv 0 (hv:=m_))) ak (fun _ _=>rfl)) (aa (aI (ba K) (bu a_parts (pv 0 (hv:=m_))) ak (fun _ _=>rfl)) (aa (pv 6 (hv:=CH)) ae))))) ae)) (pv 4 (hv:=vm))) (pv 5 (hv:=yp))))))))),?_⟩
 walk_at "rd1"
 cases t with
 | false=>
  refine bF (fun _=>?_) (fun c=>absurd rfl c)
  exact⟨x,sp,a,l,n,b,kv,S,rfl,hN,ok,esp,hk,hc,hd,fun q' H' s' hq' L'=>q q' H' s' hq' (by unfold bG; rw[if_neg (by decide)]; exact L')⟩
 | true=>
  refine bF (fun c=>absurd c (by decide)) (fun _=>?_)
  walk_at "nx"
  refine⟨dx,_,_,g1,eW _ _ _ _,?_⟩
  walk_at "rd1"
  refine⟨_,_,.inl (SqL.of g6),bM (j:=0) (v:=V.ref q0) rfl,?_⟩
  refine⟨q0,sp,a+1,l+1,true,b,kv,S,by simp,hb,ok,esp,hk,hc,hd,fun wq H1 s1 hwq hW=>?_⟩
  have hWl:=da (kv:=kv) (a:=a+1) (l:=l+1) (t:=true) hc hd
  generalize hWW:ai kv d true (a+1) (l+1) b=W at hW hWl
  obtain⟨was,w1,w2⟩:=id hW
  have wl:=ay w2
  walk_at "nx"
  refine⟨_,.inl (SqL.of w1),?_⟩
  rw[List.length_map,wl]
  walk_at "rd1"
  refine⟨x,sp,a+1+W.length,l,n,b,kv,S,by simp,hN.mono s1,ok,s1 _ _ esp,hk,hc,hd,fun lq H2 s2 hlq hLp=>?_⟩
  have hLl:(bU (ai kv d) (ac d) (a+1+W.length) l n b).length≤30002:=by
   rw[dk]
   have:=da (kv:=kv) (a:=a+1+W.length+1) (l:=l+1) (t:=false) hc hd
   omega
  generalize hLL:bU (ai kv d) (ac d) (a+1+W.length) l n b=LP at hLp hLl
  obtain⟨las,l1,l2⟩:=id hLp
  have ll:=ay l2
  have s12:=s1.trans s2
  walk_at "nx"
  refine⟨_,.inl (SqL.of (s2 _ _ w1)),?_⟩
  rw[List.length_map,wl]
  walk_at "rd1"
  refine⟨_,.inl (SqL.of l1),?_⟩
  rw[List.length_map,ll]
  walk_at "nx"
  refine⟨dx,_,_,s12 _ _ g1,dj _ _ _ _,?_⟩
  walk_at "rd1"
  refine⟨_,_,.inl (SqL.of (s12 _ _ g4)),dL (i:=0) (n:=l) rfl,?_⟩
  refine⟨dx,_,_,s12 _ _ g1,dF _ _ _ _,?_⟩
  walk_at "rd1"
  refine⟨_,_,.inr (g2.same s12),bM (j:=0) (v:=V.int n) rfl,by decide,fun t1 ht1=>?_⟩
  generalize hH3:upd H2 t1 _=H3
  have s3:Same H2 H3:=by rw[← hH3]; exact am ht1 _
  have et1:bY H3 t1 [.str "test", iN l,.int n,iN (a+1+W.length+LP.length)]:=by
   show H3 t1=_
   rw[← hH3,ah]
   simp[iN]
  refine⟨by decide,fun m1 hm1=>?_⟩
  have s4:=am hm1 (.lst [.ref t1])
  have L1:=fm et1 hm1
  generalize upd H3 m1 (.lst [.ref t1])=H4 at s4 L1 ⊢
  obtain⟨as1,a1,a2⟩:=L1
  obtain⟨bs1,b1,b2⟩:=hW.mono ((s2.trans s3).trans s4)
  refine⟨_,_,a1,b1,dv a2 b2 (by simp only[List.length_cons,List.length_nil]; omega),fun m2 hm2=>?_⟩
  have s5:=am hm2 (.lst (as1.map V.ref++bs1.map V.ref))
  have L2:=dS a2 b2 hm2
  generalize upd H4 m2 (.lst (as1.map V.ref++bs1.map V.ref))=H5 at s5 L2 ⊢
  obtain⟨as2,c1,c2⟩:=L2
  obtain⟨bs2,d1,d2⟩:=hLp.mono ((s3.trans s4).trans s5)
  refine⟨_,_,c1,d1,dv c2 d2 (by simp only[List.length_append,List.length_cons,List.length_nil]; omega),fun m3 hm3=>?_⟩
  have s6:=am hm3 (.lst (as2.map V.ref++bs2.map V.ref))
  have L4:=dS c2 d2 hm3
  generalize upd H5 m3 (.lst (as2.map V.ref++bs2.map V.ref))=H6 at s6 L4 ⊢
  have s05:=((s12.trans s3).trans s4).trans s5
  refine q m3 H6 (s05.trans s6) (s05.free hm3) ?_
  unfold bG
  rw[if_pos rfl,hWW,hLL]
  exact L4
def As(K:PySem.W.Frag)(C:Addr)(d:Nat):Sp:=fun vs H Q _=>∃ (x sp:Addr) (a l:Nat) (t:Bool) (n:Int) (b c:List Stp) (kv:List (aK × V)) (S:Addr→Prop),vs=[.ref x,.int (a:Int),.ref sp,.bl t]∧nstpAt K C (ac d) S (NumAt K C S d H) H x l (.ite n b c)∧dG d b∧dG d c∧H sp=some (.dK kv)∧dJ kv d (l+1) b∧dJ kv d (l+1+ac d b+1) c∧ac d b≤200∧ac d c≤200∧d≤20∧
 ∀ (q:Addr) (H':Hp),Same H H'→H q=none→ListR H' q (db (ai kv d) (ac d) t a l n b c)→Q (.ref q) H'
theorem Am(D:DefAt K mg "if_rows" bc) (z_len:mg "len" = none) (a_parts:Fl K CN "parts") (a_lines:Fl K CN "lines") (a_blocks:Fl K CN "blocks") {d:Nat} (c_rows_of:aV P w K mg base (3 * d+2) "rows_of" ["steps", "at", "slots", "turned"] (fk K CN d)):aV P w K mg base (3 * d+3) "if_rows" ["step", "at", "slots", "turned"] (As K CN d):=by
 refine D.cal (k:=3 * d+2) sc_if_rows (fun _ _ _ _ _ _ us hl=>match us,hl with | [_,_,_,_],_=>rfl) (fun vs H Q E h=>by obtain⟨_,_,_,_,_,_,_,_,_,_,rfl,_⟩:=h; rfl) (fun f cdv A outer s H vs Q E hr h=>?_)
 obtain⟨x,sp,a,l,t,n,b,c,kv,S,rfl,hN,ok,ok',esp,hk,hk',hc,hc',hd,q⟩:=h
 obtain⟨dx,pp,lp,bp,bs,g1,g2,g3,g4,g5,g6,g7⟩:=id hN
 obtain⟨q0,q1,rfl⟩ : ∃ q0 q1,bs=[q0,q1]:=by
  cases g7 with
  | cons _ t=>cases t with
   | cons _ t=>cases t; exact⟨_,_,rfl⟩
 have hb:NumAt K CN S d H q0 (l+1) b∧NumAt K CN S d H q1 (l+1+ac d b+1) c:=by
  cases g7 with
  | cons h t=>cases t with
   | cons h' _=>exact⟨h,h'⟩
 refine⟨_,(aj (aw 4 sc_if_rows.nd (aE c_rows_of hr (aa (aI (ba K) (bu a_blocks (pv 0 (hv:=om))) ak (fun _ _=>rfl)) (aa (ar az (pv 1 (hv:=zz)) ak) (aa (pv 2 (hv:=yR)) (aa (pv 3 (hv:=zX)) ae)))) (hg:=AL) (hle:=by omega)) (hx:=DQ))
   (aj (aw 5 sc_if_rows.nd (ar az (ar az (pv 1 (hv:=zz)) ak) (bv (aW K) z_len bK (aa (pv 4 (hv:=yf)) ae) (hg:=A5))) (hx:=DE))
   (aj (aw 6 sc_if_rows.nd (aE c_rows_of hr (aa (aI (ba K) (bu a_blocks (pv 0 (hv:=om))) ak (fun _ _=>rfl)) (aa (ar az (pv 5 (hv:=uW)) ak) (aa (pv 2 (hv:=yR)) (aa (pv 3 (hv:=zX)) ae)))) (hg:=AL) (hle:=by omega)) (hx:=DB))
   (aj (aw 7 sc_if_rows.nd (ar az (ar az (pv 5 (hv:=uW)) ak) (bv (aW K) z_len bK (aa (pv 6 (hv:=yC)) ae) (hg:=A5))) (hx:=DP))
   (aj (aw 8 sc_if_rows.nd (bE (aa aB (aa (aI (ba K) (bu a_lines (pv 0 (hv:=om))) ak (fun _ _=>rfl)) (aa (aI (ba K) (bu a_parts (pv 0 (hv:=om))) ak (fun _ _=>rfl)) (aa (ar az (pv 5 (hv:=uW)) ak) ae))))) (hx:=Du))
   (ao (aD (ar az (ar az (ar az (bC (aa (pv 8 (hv:=Cq)) ae)) (pv 4 (hv:=yf))) (bC (aa (bE (aa aB (aa (aI (ba K) (bu a_lines (pv 0 (hv:=om))) ak (fun _ _=>rfl)) (aa (pv 7 (hv:=Bj)) ae)))) ae))) (pv 6 (hv:=yC)))))))))),?_⟩
 walk_at "rd1"
 refine⟨dx,_,_,g1,eW _ _ _ _,?_⟩
 walk_at "rd1"
 refine⟨_,_,.inl (SqL.of g6),bM (j:=0) (v:=V.ref q0) rfl,?_⟩
 refine⟨q0,sp,a+1,l+1,t,b,kv,S,by simp,hb.1,ok,esp,hk,hc,hd,fun wq H1 s1 hwq hW=>?_⟩
 have hWl:=da (kv:=kv) (a:=a+1) (l:=l+1) (t:=t) hc hd
 generalize hWW:ai kv d t (a+1) (l+1) b=W at hW hWl
 obtain⟨was,w1,w2⟩:=id hW
 have wl:=ay w2
 walk_at "nx"
 refine⟨_,.inl (SqL.of w1),?_⟩
 rw[List.length_map,wl]
 walk_at "nx"
 refine⟨dx,_,_,s1 _ _ g1,eW _ _ _ _,?_⟩
 walk_at "rd1"
 refine⟨_,_,.inl (SqL.of (s1 _ _ g6)),bM (j:=1) (v:=V.ref q1) rfl,?_⟩
 refine⟨q1,sp,a+1+W.length+1,l+1+ac d b+1,t,c,kv,S,by simp,hb.2.mono s1,ok',s1 _ _ esp,hk',hc',hd,fun rq H2 s2 hrq hR=>?_⟩
 have hRl:=da (kv:=kv) (a:=a+1+W.length+1) (l:=l+1+ac d b+1) (t:=t) hc' hd
 generalize hRR:ai kv d t (a+1+W.length+1) (l+1+ac d b+1) c=R at hR hRl
 obtain⟨ras,r1,r2⟩:=id hR
 have rl:=ay r2
 have s12:=s1.trans s2
 walk_at "nx"
 refine⟨_,.inl (SqL.of r1),?_⟩
 rw[List.length_map,rl]
 walk_at "nx"
 refine⟨dx,_,_,s12 _ _ g1,dj _ _ _ _,?_⟩
 walk_at "rd1"
 refine⟨_,_,.inl (SqL.of (s12 _ _ g4)),dL (i:=0) (n:=l) rfl,?_⟩
 refine⟨dx,_,_,s12 _ _ g1,dF _ _ _ _,?_⟩
 walk_at "rd1"
 refine⟨_,_,.inr (g2.same s12),bM (j:=0) (v:=V.int n) rfl,by decide,fun t1 ht1=>?_⟩
 generalize hH3:upd H2 t1 _=H3
 have s3:Same H2 H3:=by rw[← hH3]; exact am ht1 _
 have et1:bY H3 t1 [.str "test", iN l,.int n,iN (a+1+W.length+1)]:=by
  show H3 t1=_
  rw[← hH3,ah]
  simp[iN]
 walk_at "nx"
 refine⟨by decide,fun m1 hm1=>?_⟩
 have s4:=am hm1 (.lst [.ref t1])
 have L1:=fm et1 hm1
 generalize upd H3 m1 (.lst [.ref t1])=H4 at s4 L1 ⊢
 obtain⟨as1,a1,a2⟩:=L1
 obtain⟨bs1,b1,b2⟩:=hW.mono ((s2.trans s3).trans s4)
 refine⟨_,_,a1,b1,dv a2 b2 (by simp only[List.length_cons,List.length_nil]; omega),fun m2 hm2=>?_⟩
 have s5:=am hm2 (.lst (as1.map V.ref++bs1.map V.ref))
 have L2:=dS a2 b2 hm2
 generalize upd H4 m2 (.lst (as1.map V.ref++bs1.map V.ref))=H5 at s5 L2 ⊢
 have s05:=((s12.trans s3).trans s4).trans s5
 refine⟨dx,_,_,s05 _ _ g1,dj _ _ _ _,?_⟩
 walk_at "rd1"
 refine⟨_,_,.inl (SqL.of (s05 _ _ g4)),dL (i:=1) (n:=l+1+ac d b) rfl,by decide,fun t2 ht2=>?_⟩
 generalize hH6:upd H5 t2 _=H6
 have s6:Same H5 H6:=by rw[← hH6]; exact am ht2 _
 have et2:bY H6 t2 [.str "jump", iN (l+1+ac d b),iN (a+1+W.length+1+R.length)]:=by
  show H6 t2=_
  rw[← hH6,ah]
  simp[iN]
 refine⟨by decide,fun m3 hm3=>?_⟩
 have s7:=am hm3 (.lst [.ref t2])
 have L3:=fm et2 hm3
 generalize upd H6 m3 (.lst [.ref t2])=H7 at s7 L3 ⊢
 obtain⟨as2,c1,c2⟩:=L2.mono (s6.trans s7)
 obtain⟨bs2,d1,d2⟩:=L3
 refine⟨_,_,c1,d1,dv c2 d2 (by simp only[List.length_append,List.length_cons,List.length_nil]; omega),fun m4 hm4=>?_⟩
 have s8:=am hm4 (.lst (as2.map V.ref++bs2.map V.ref))
 have L4:=dS c2 d2 hm4
 generalize upd H7 m4 (.lst (as2.map V.ref++bs2.map V.ref))=H8 at s8 L4 ⊢
 obtain⟨as3,e1,e2⟩:=L4
 obtain⟨bs3,f1,f2⟩:=hR.mono (((((s3.trans s4).trans s5).trans s6).trans s7).trans s8)
 refine⟨_,_,e1,f1,dv e2 f2 (by simp only[List.length_append,List.length_cons,List.length_nil]; omega),fun m5 hm5=>?_⟩
 have s9:=am hm5 (.lst (as3.map V.ref++bs3.map V.ref))
 have L5:=dS e2 f2 hm5
 generalize upd H8 m5 (.lst (as3.map V.ref++bs3.map V.ref))=H9 at s9 L5 ⊢
 have s08:=((s05.trans s6).trans s7).trans s8
 refine q m5 H9 (s08.trans s9) (s08.free hm5) ?_
 unfold db
 rw[hWW,hRR]
 exact L5
end
section
variable{CN:Addr}
def x_(K:PySem.W.Frag)(C:Addr)(d:Nat):Sp:=fun vs H Q _=>∃ (z sp:Addr) (a l:Nat) (t:Bool) (x y:Str) (b:List Stp) (kv:List (aK × V)) (S:Addr→Prop),vs=[.ref z,.int (a:Int),.ref sp,.bl t]∧nstpAt K C (ac d) S (NumAt K C S d H) H z l (.lend x y b)∧dG d b∧H sp=some (.dK kv)∧fN kv (.inr x)∧fN kv (.inr y)∧fN kv (.inl (l:Int))∧dJ kv d (l+1) b∧ac d b≤200∧d≤20∧
 ∀ (q:Addr) (H':Hp),Same H H'→H q=none→ListR H' q (b_ kv (ai kv d) (ac d) t a l x y b)→Q (.ref q) H'
theorem jp{H:Hp}{c1 c2 c3 x:Addr}{r1 r2 r3:aG}(h1:bY H c1 r1)(h2:bY H c2 r2)(h3:bY H c3 r3)(hx:H x=none):ListR (upd H x (.lst [.ref c1,.ref c2,.ref c3])) x [r1,r2,r3]:=⟨[c1,c2,c3],ah,.cons (am hx _ _ _ h1) (.cons (am hx _ _ _ h2) (.cons (am hx _ _ _ h3) .nil))⟩
theorem xA(D:DefAt K mg "lend_rows" aF) (z_len:mg "len" = none) (a_parts:Fl K CN "parts") (a_lines:Fl K CN "lines") (a_blocks:Fl K CN "blocks") {d:Nat} (c_rows_of:aV P w K mg base (3 * d+2) "rows_of" ["steps", "at", "slots", "turned"] (fk K CN d)):aV P w K mg base (3 * d+3) "lend_rows" ["step", "at", "slots", "turned"] (x_ K CN d):=by
 refine D.cal (k:=3 * d+2) sc_lend_rows (fun _ _ _ _ _ _ us hl=>match us,hl with | [_,_,_,_],_=>rfl) (fun vs H Q E h=>by obtain⟨_,_,_,_,_,_,_,_,_,_,rfl,_⟩:=h; rfl) (fun f cdv A outer s H vs Q E hr h=>?_)
 obtain⟨z,sp,a,l,t,x,y,b,kv,S,rfl,hN,ok,esp,kx,ky,kl,hk,hc,hd,q⟩:=h
 obtain⟨dx,pp,lp,bp,bs,g1,g2,g3,g4,g5,g6,g7⟩:=id hN
 obtain⟨q0,rfl⟩ : ∃ q0,bs=[q0]:=by
  cases g7 with
  | cons _ t=>cases t; exact⟨_,rfl⟩
 have hb:NumAt K CN S d H q0 (l+1) b:=by
  cases g7 with
  | cons h _=>exact h
 refine⟨_,(aj (aw 4 sc_lend_rows.nd (aI (ba K) (bu a_lines (pv 0 (hv:=nI))) ak (fun _ _=>rfl)) (hx:=D9))
   (aj (aw 5 sc_lend_rows.nd (aI (ba K) (bu a_lines (pv 0 (hv:=nI))) ak (fun _ _=>rfl)) (hx:=D4))
   (aj (aw 6 sc_lend_rows.nd (aI (kg K) (pv 2 (hv:=qV)) (aI (ba K) (bu a_parts (pv 0 (hv:=nI))) ak (fun _ _=>rfl)) (fun _ _=>rfl)) (hx:=De))
   (aj (aw 7 sc_lend_rows.nd (aI (kg K) (pv 2 (hv:=qV)) (aI (ba K) (bu a_parts (pv 0 (hv:=nI))) ak (fun _ _=>rfl)) (fun _ _=>rfl)) (hx:=Ez))
   (aj (aw 8 sc_lend_rows.nd (aI (kg K) (pv 2 (hv:=qV)) (pv 4 (hv:=rW)) (fun _ _=>rfl)) (hx:=Ej))
   (aj (aw 9 sc_lend_rows.nd (bC (aa (bE (aa aB (aa (pv 4 (hv:=rW)) (aa (pv 8 (hv:=mq)) (aa (pv 6 (hv:=B8)) ae))))) (aa (bE (aa aB (aa (pv 4 (hv:=rW)) (aa (pv 8 (hv:=mq)) (aa aB ae))))) (aa (bE (aa aB (aa (pv 4 (hv:=rW)) (aa (pv 7 (hv:=zL)) (aa (pv 8 (hv:=mq)) ae))))) ae)))) (hx:=Ea))
   (aj (aw 10 sc_lend_rows.nd (aE c_rows_of hr (aa (aI (ba K) (bu a_blocks (pv 0 (hv:=nI))) ak (fun _ _=>rfl)) (aa (ar az (pv 1 (hv:=BP)) (bv (aW K) z_len bK (aa (pv 9 (hv:=zi)) ae) (hg:=DT))) (aa (pv 2 (hv:=qV)) (aa (pv 3 (hv:=CC)) ae)))) (hg:=Da) (hle:=by omega)) (hx:=Dy))
   (ao (aD (ar az (ar az (pv 9 (hv:=zi)) (pv 10 (hv:=BJ))) (bC (aa (bE (aa aB (aa (pv 5 (hv:=wf)) (aa (pv 8 (hv:=mq)) (aa aB ae))))) (aa (bE (aa aB (aa (pv 5 (hv:=wf)) (aa (pv 7 (hv:=zL)) ae)))) (aa (bE (aa aB (aa (pv 5 (hv:=wf)) (aa (pv 8 (hv:=mq)) ae)))) ae)))))))))))))),?_⟩
 walk_at "rd1"
 refine⟨dx,_,_,g1,dj _ _ _ _,?_⟩
 walk_at "rd1"
 refine⟨_,_,.inl (SqL.of g4),dL (i:=0) (n:=l) rfl,?_⟩
 walk_at "nx"
 refine⟨dx,_,_,g1,dj _ _ _ _,?_⟩
 walk_at "rd1"
 refine⟨_,_,.inl (SqL.of g4),dL (i:=1) (n:=l+1+ac d b) rfl,?_⟩
 walk_at "nx"
 refine⟨dx,_,_,g1,dF _ _ _ _,?_⟩
 walk_at "rd1"
 refine⟨_,_,.inr g2,bM (j:=0) (v:=V.str x) rfl,.inr ⟨sp,kv,.inr x,_,rfl,rfl,esp,kx,?_⟩⟩
 walk_at "nx"
 refine⟨dx,_,_,g1,dF _ _ _ _,?_⟩
 walk_at "rd1"
 refine⟨_,_,.inr g2,bM (j:=1) (v:=V.str y) rfl,.inr ⟨sp,kv,.inr y,_,rfl,rfl,esp,ky,?_⟩⟩
 walk_at "nx"
 refine .inr ⟨sp,kv,.inl (l:Int),_,rfl,rfl,esp,kl,?_⟩
 generalize hgx:cr kv (.inr x)=gx
 generalize hgy:cr kv (.inr y)=gy
 generalize hgl:cr kv (.inl (l:Int))=gl
 walk_at "nx"
 refine⟨by decide,fun t1 ht1=>?_⟩
 generalize hH1:upd H t1 _=H1
 have s1:Same H H1:=by rw[← hH1]; exact am ht1 _
 have r1:bY H1 t1 [.str "copy", iN l,gl,gx]:=by show H1 t1=_; rw[← hH1]; exact ah
 refine⟨by decide,fun t2 ht2=>?_⟩
 generalize hH2:upd H1 t2 _=H2
 have s2:Same H1 H2:=by rw[← hH2]; exact am ht2 _
 have r2:bY H2 t2 [.str "do", iN l,gl,.str "lend"]:=by show H2 t2=_; rw[← hH2]; exact ah
 refine⟨by decide,fun t3 ht3=>?_⟩
 generalize hH3:upd H2 t3 _=H3
 have s3:Same H2 H3:=by rw[← hH3]; exact am ht3 _
 have r3:bY H3 t3 [.str "copy", iN l,gy,gl]:=by show H3 t3=_; rw[← hH3]; exact ah
 refine⟨by decide,fun m1 hm1=>?_⟩
 have s4:=am hm1 (.lst [.ref t1,.ref t2,.ref t3])
 have L1:=jp (s3 _ _ (s2 _ _ r1)) (s3 _ _ r2) r3 hm1
 have em1:upd H3 m1 (.lst [.ref t1,.ref t2,.ref t3]) m1=some (.lst [.ref t1,.ref t2,.ref t3]):=ah
 generalize upd H3 m1 (.lst [.ref t1,.ref t2,.ref t3])=H4 at s4 L1 em1 ⊢
 have s04:=((s1.trans s2).trans s3).trans s4
 walk_at "nx"
 refine⟨dx,_,_,s04 _ _ g1,eW _ _ _ _,?_⟩
 walk_at "rd1"
 refine⟨_,_,.inl (SqL.of (s04 _ _ g6)),bM (j:=0) (v:=V.ref q0) rfl,?_⟩
 walk_at "rd1"
 refine⟨_,.inl (SqL.of em1),?_⟩
 refine⟨q0,sp,a+3,l+1,t,b,kv,S,by simp,hb.mono s04,ok,s04 _ _ esp,hk,hc,hd,fun wq H5 s5 hwq hW=>?_⟩
 have hWl:=da (kv:=kv) (a:=a+3) (l:=l+1) (t:=t) hc hd
 generalize hWW:ai kv d t (a+3) (l+1) b=W at hW hWl
 have s05:=s04.trans s5
 walk_at "nx"
 obtain⟨as1,a1,a2⟩:=L1.mono s5
 obtain⟨bs1,b1,b2⟩:=id hW
 refine⟨_,_,a1,b1,dv a2 b2 (by simp only[List.length_cons,List.length_nil]; omega),fun m2 hm2=>?_⟩
 have s6:=am hm2 (.lst (as1.map V.ref++bs1.map V.ref))
 have L2:=dS a2 b2 hm2
 generalize upd H5 m2 (.lst (as1.map V.ref++bs1.map V.ref))=H6 at s6 L2 ⊢
 refine⟨by decide,fun t4 ht4=>?_⟩
 generalize hH7:upd H6 t4 _=H7
 have s7:Same H6 H7:=by rw[← hH7]; exact am ht4 _
 have r4:bY H7 t4 [.str "do", iN (l+1+ac d b),gl,.str "back"]:=by show H7 t4=_; rw[← hH7]; exact ah
 refine⟨by decide,fun t5 ht5=>?_⟩
 generalize hH8:upd H7 t5 _=H8
 have s8:Same H7 H8:=by rw[← hH8]; exact am ht5 _
 have r5:bY H8 t5 [.str "drop", iN (l+1+ac d b),gy]:=by show H8 t5=_; rw[← hH8]; exact ah
 refine⟨by decide,fun t6 ht6=>?_⟩
 generalize hH9:upd H8 t6 _=H9
 have s9:Same H8 H9:=by rw[← hH9]; exact am ht6 _
 have r6:bY H9 t6 [.str "drop", iN (l+1+ac d b),gl]:=by show H9 t6=_; rw[← hH9]; exact ah
 refine⟨by decide,fun m3 hm3=>?_⟩
 have s10:=am hm3 (.lst [.ref t4,.ref t5,.ref t6])
 have L3:=jp (s9 _ _ (s8 _ _ r4)) (s9 _ _ r5) r6 hm3
 generalize upd H9 m3 (.lst [.ref t4,.ref t5,.ref t6])=H10 at s10 L3 ⊢
 obtain⟨as2,c1,c2⟩:=L2.mono (((s7.trans s8).trans s9).trans s10)
 obtain⟨bs2,d1,d2⟩:=L3
 refine⟨_,_,c1,d1,dv c2 d2 (by simp only[List.length_append,List.length_cons,List.length_nil]; omega),fun m4 hm4=>?_⟩
 have s11:=am hm4 (.lst (as2.map V.ref++bs2.map V.ref))
 have L4:=dS c2 d2 hm4
 generalize upd H10 m4 (.lst (as2.map V.ref++bs2.map V.ref))=H11 at s11 L4 ⊢
 have s010:=((((s05.trans s6).trans s7).trans s8).trans s9).trans s10
 refine q m4 H11 (s010.trans s11) (s010.free hm4) ?_
 unfold b_
 rw[hWW,hgx,hgy,hgl]
 exact L4
theorem qF(D:DefAt K mg "rows_of" bi) (DL:DefAt K mg "lend_rows" aF) (DI:DefAt K mg "if_rows" bc) (DO:DefAt K mg "loop_rows" bo) (DW:DefAt K mg "while_rows" aR) (DS:DefAt K mg "simple_row" bb) (z_len:mg "len" = none) (z_tuple:mg "tuple" = none) (a_kind:Fl K CN "kind") (a_parts:Fl K CN "parts") (a_lines:Fl K CN "lines") (a_blocks:Fl K CN "blocks"):∀ d:Nat,aV P w K mg base (3 * d+2) "rows_of" ["steps", "at", "slots", "turned"] (fk K CN d)
 | 0=>D.cal (k:=1) sc_rows_of (fun _ _ _ _ _ _ us hl=>match us,hl with | [_,_,_,_],_=>rfl) (fun vs H Q E h=>by obtain⟨_,_,_,_,_,_,_,_,rfl,_⟩:=h; rfl) (fun f cdv A outer s H vs Q E hr h=>by obtain⟨_,_,_,_,_,_,_,_,rfl,z,_⟩:=h; exact z.elim)
 | d+1=>by
  have ih:=qF D DL DI DO DW DS z_len z_tuple a_kind a_parts a_lines a_blocks d
  have c_lend_rows:=xA DL z_len a_parts a_lines a_blocks ih
  have c_if_rows:=Am DI z_len a_parts a_lines a_blocks ih
  have c_while_rows:=wj DW z_len a_parts a_lines a_blocks ih (xS DO z_len a_parts a_lines a_blocks ih)
  have c_simple_row:=sS (P:=P) (w:=w) (base:=base) DS z_tuple a_kind a_parts a_lines
  refine D.cal (k:=3 * d+4) sc_rows_of (fun _ _ _ _ _ _ us hl=>match us,hl with | [_,_,_,_],_=>rfl) (fun vs H Q E h=>by obtain⟨_,_,_,_,_,_,_,_,rfl,_⟩:=h; rfl) (fun f cdv A outer s H vs Q E hr h=>?_)
  obtain⟨p,sp,a,l,t,T,kv,S,rfl,⟨h0,as,h1,h2⟩,ok,esp,hk,hc,hd,q⟩:=h
  have hlen:=ay h2
  rw[eL]at hlen
  refine⟨_,(aj (aw 4 sc_rows_of.nd (bC ae) (hx:=Cm))
   (aj (df PassesOwn.never rfl (dI K (pv 0 (hv:=Ck))) (bH 5 sc_rows_of.nd (hx:=B3)) (aj (aw 6 sc_rows_of.nd (ar az (pv 1 (hv:=B1)) (bv (aW K) z_len bK (aa (pv 4 (hv:=j4)) ae) (hg:=BA))) (hx:=C1))
   (ao (bQ (aH cm (bu a_kind (pv 5 (hv:=iV))) aB (aM _)) (ao (bm (bt K PySem.F.plainAttrs_list PySem.F.slot_list_extend PySem.F.type_list_extend dM (pv 4 (hv:=j4)) (aa (aE c_lend_rows hr (aa (pv 5 (hv:=iV)) (aa (pv 6 (hv:=vM)) (aa (pv 2 (hv:=ra)) (aa (pv 3 (hv:=uY)) ae)))) (hg:=B5) (hle:=by omega)) ae)))) (ao (bQ (aH cm (bu a_kind (pv 5 (hv:=iV))) aB (aM _)) (ao (bm (bt K PySem.F.plainAttrs_list PySem.F.slot_list_extend PySem.F.type_list_extend dM (pv 4 (hv:=j4)) (aa (aE c_if_rows hr (aa (pv 5 (hv:=iV)) (aa (pv 6 (hv:=vM)) (aa (pv 2 (hv:=ra)) (aa (pv 3 (hv:=uY)) ae)))) (hg:=CK) (hle:=by omega)) ae)))) (ao (bQ (aH cm (bu a_kind (pv 5 (hv:=iV))) aB (aM _)) (ao (bm (bt K PySem.F.plainAttrs_list PySem.F.slot_list_extend PySem.F.type_list_extend dM (pv 4 (hv:=j4)) (aa (aE c_while_rows hr (aa (pv 5 (hv:=iV)) (aa (pv 6 (hv:=vM)) (aa (pv 2 (hv:=ra)) (aa (pv 3 (hv:=uY)) ae)))) (hg:=CO) (hle:=by omega)) ae)))) (ao (bm (bt K PySem.F.plainAttrs_list PySem.F.slot_list_append PySem.F.type_list_append a_ (pv 4 (hv:=j4)) (aa (aE c_simple_row hr (aa (pv 5 (hv:=iV)) (aa (pv 2 (hv:=ra)) ae)) (hg:=Bq) (hle:=by omega)) ae))))))))))))
   (ao (aD (pv 4 (hv:=j4)))))),?_⟩
  walk_at "rd1"
  refine⟨by decide,fun R hR=>?_⟩
  have s1:=am hR (.lst [])
  have eR0:upd H R (.lst []) R=some (.lst (([]:List Addr).map V.ref)):=ah
  generalize upd H R (.lst [])=H1 at s1 eR0 ⊢
  walk_at "nx"
  refine⟨⟨_,SqL.of (s1 _ _ h1)⟩,?_⟩
  have hnR:∀ {z:Addr} {o:HO},H z=some o→z≠R:=fun e=>aq e hR
  refine d_ (xs:=as.map V.ref) (fun i σ H'=>∃ (o5 o6:Option V),σ=[some (.ref p),some (.int (a:Int)),some (.ref sp),some (.bl t),some (.ref R),o5,o6]∧Same H H'∧ListR H' R (ai kv (d+1) t a l (T.take i)))
   ⟨_,_,rfl,s1,[],eR0,.nil⟩ (fun i σ H' _ hh=>by obtain⟨_,_,_,sm,_⟩:=hh; exact SqL.of (sm _ _ h1)) (fun i v σ H2 hv hh=>?_) (fun σ H2 hh=>?_)
  ·obtain⟨o5,o6,rfl,sm,ras,r1,r2⟩:=hh
   rw[List.getElem?_map]at hv
   cases hi:as[i]? with
   | none=>rw[hi]at hv; cases hv
   | some x=>
    rw[hi]at hv; cases hv
    have hiT:i<T.length:=by have:=(List.getElem?_eq_some_iff.mp hi).1; omega
    have hs:=List.getElem?_eq_getElem hiT
    have hz:=qA (aJ (ac d)) l T i _ hs
    obtain⟨z,hz1,hz2⟩:=bP h2 hi
    rw[hz]at hz1
    have hz1:=Option.some.inj hz1
    subst hz1
    have hkz:=hk _ (List.mem_of_getElem? hz)
    have hmem:=List.getElem_mem hiT
    generalize T[i]=st at hs hz hz2 hkz hmem
    have oks:=ok st hmem
    have hcs:=j7 (d:=d) hmem
    generalize hl':l+((T.take i).map (aJ (ac d))).sum=l' at hz hz2 hkz
    have etk:T.take (i+1)=T.take i++[st]:=by rw[List.take_add_one,hs]; rfl
    have erow:ai kv (d+1) t a l (T.take (i+1))=ai kv (d+1) t a l (T.take i)++aC kv (ai kv d) (ac d) t (a+(ai kv (d+1) t a l (T.take i)).length) l' st:=by
     rw[etk]
     show aU _ _ a l (T.take i++[st])=_
     rw[iM,hl']; rfl
    have hcnt:=oF (d:=d) (i:=i) (T:=T)
    have hpre:=da (kv:=kv) (d:=d+1) (a:=a) (l:=l) (t:=t) (T:=T.take i) (by omega) hd
    rw[erow]
    generalize ai kv (d+1) t a l (T.take i)=pre at r2 hpre
    have rl:=ay r2
    have hx2:=hz2.mono sm
    obtain⟨dx,pp,lp,bp,bs,g1,g2,g3,g4,g5,g6,g7⟩:=id hx2
    have put:∀ {b:Addr} {H3:Hp} {rows:List aG},Same H2 H3→ListR H3 b rows→b≠R→rows.length≤100000→∃ xs zs,H3 R=some (.lst xs)∧H3 b=some (.lst zs)∧xs.length+zs.length≤sizeLine∧(Same H (upd H3 R (.lst (xs++zs)))∧ListR (upd H3 R (.lst (xs++zs))) R (pre++rows)):=fun {b H3 rows} s3 hL hne hl3=>by
     obtain⟨bas,e1,e2⟩:=hL
     have bl:=ay e2
     have eR3:=s3 _ _ r1
     have tp:∀ {c:Addr} {r:aG},bY H3 c r→bY (upd H3 R (.lst (ras.map V.ref++bas.map V.ref))) c r:=fun {c r} z=>by
      show upd H3 R _ c=_
      rw[af (cJ z eR3 (fun y=>nomatch y))]; exact z
     refine⟨_,_,eR3,e1,by rw[List.length_map,List.length_map,rl,bl]; exact bg (by omega),fun c o y=>?_,ras++bas,by rw[ah,List.map_append],dQ (Paired.imp' (fun _ _ y=>tp (s3 _ _ y)) r2) (Paired.imp' (fun _ _ y=>tp y) e2)⟩
     rw[af (hnR y)]; exact s3 _ _ (sm _ _ y)
    walk_at "rd1"
    refine⟨_,.inl (SqL.of r1),?_⟩
    rw[List.length_map,rl]
    walk_at "nx"
    refine⟨dx,_,_,g1,d0 _ _ _ _,?_⟩
    walk_at "rd1"
    have hst200:aJ (ac d) st≤200:=by omega
    have hsl:(aC kv (ai kv d) (ac d) t (a+pre.length) l' st).length≤30000:=by
     have:=da (kv:=kv) (d:=d+1) (a:=a+pre.length) (l:=l') (t:=t) (T:=[st]) (by show aJ (ac d) st+0≤200; omega) hd
     have e:ai kv (d+1) t (a+pre.length) l' [st]=aC kv (ai kv d) (ac d) t (a+pre.length) l' st++[]:=rfl
     rw[e,List.append_nil]at this
     exact this
    cases st with
    | lend x0 y0 b0=>
     obtain⟨k1,k2,k3,k4⟩ : fN kv (.inr x0)∧fN kv (.inr y0)∧fN kv (.inl (l':Int))∧dJ kv d (l'+1) b0:=hkz
     have hcb:ac d b0+2≤200:=hst200
     refine bF (fun _=>?_) (fun c=>absurd rfl c)
     refine⟨⟨_,SqL.of r1⟩,x,sp,a+pre.length,l',t,x0,y0,b0,kv,S,by simp,hx2,oks.2.2,sm _ _ esp,k1,k2,k3,k4,by omega,by omega,fun q' H3 s3 hq' L3=>?_⟩
     dsimp only
     rw[ee]
     obtain⟨xs,zs,p1,p2,p3,p4,p5⟩:=put s3 L3 (aq r1 hq').symm (by have:(b_ kv (ai kv d) (ac d) t (a+pre.length) l' x0 y0 b0).length≤30000:=hsl; omega)
     exact⟨xs,zs,p1,p2,p3,_,_,rfl,p4,p5⟩
    | ite n0 b0 c0=>
     obtain⟨k1,k2⟩ : dJ kv d (l'+1) b0∧dJ kv d (l'+1+ac d b0+1) c0:=hkz
     have hcb:ac d b0+ac d c0+3≤200:=hst200
     refine bF (fun c=>absurd c (by show ¬ (Str.ofString "if" = Str.ofString "lend"); decide +kernel)) (fun _=>?_)
     refine⟨dx,_,_,g1,d0 _ _ _ _,?_⟩
     walk_at "rd1"
     refine bF (fun _=>?_) (fun c=>absurd rfl c)
     refine⟨⟨_,SqL.of r1⟩,x,sp,a+pre.length,l',t,n0,b0,c0,kv,S,by simp,hx2,oks.2.1,oks.2.2,sm _ _ esp,k1,k2,by omega,by omega,by omega,fun q' H3 s3 hq' L3=>?_⟩
     dsimp only
     rw[ee]
     obtain⟨xs,zs,p1,p2,p3,p4,p5⟩:=put s3 L3 (aq r1 hq').symm (by have:(db (ai kv d) (ac d) t (a+pre.length) l' n0 b0 c0).length≤30000:=hsl; omega)
     exact⟨xs,zs,p1,p2,p3,_,_,rfl,p4,p5⟩
    | whl n0 b0=>
     have k1:dJ kv d (l'+1) b0:=hkz
     have hcb:ac d b0+2≤200:=hst200
     refine bF (fun c=>absurd c (by show ¬ (Str.ofString "while" = Str.ofString "lend"); decide +kernel)) (fun _=>?_)
     refine⟨dx,_,_,g1,d0 _ _ _ _,?_⟩
     walk_at "rd1"
     refine bF (fun c=>absurd c (by show ¬ (Str.ofString "while" = Str.ofString "if"); decide +kernel)) (fun _=>?_)
     refine⟨dx,_,_,g1,d0 _ _ _ _,?_⟩
     walk_at "rd1"
     refine bF (fun _=>?_) (fun c=>absurd rfl c)
     refine⟨⟨_,SqL.of r1⟩,x,sp,a+pre.length,l',t,n0,b0,kv,S,by simp,hx2,oks.2,sm _ _ esp,k1,by omega,by omega,fun q' H3 s3 hq' L3=>?_⟩
     dsimp only
     rw[ee]
     obtain⟨xs,zs,p1,p2,p3,p4,p5⟩:=put s3 L3 (aq r1 hq').symm (by have:(bG (ai kv d) (ac d) t (a+pre.length) l' n0 b0).length≤30000:=hsl; omega)
     exact⟨xs,zs,p1,p2,p3,_,_,rfl,p4,p5⟩
    | plain ws=>
     have hkd:ws.headD "" ∈ cO:=oks.kind
     have nk:∀ {u:Str},u∉cO→¬ kindOf (.plain ws)=u:=fun hu c=>hu (by have c':ws.headD "" = _:=c; rw[← c']; exact hkd)
     refine bF (fun c=>absurd c (nk (by decide +kernel))) (fun _=>?_)
     refine⟨dx,_,_,g1,d0 _ _ _ _,?_⟩
     walk_at "rd1"
     refine bF (fun c=>absurd c (nk (by decide +kernel))) (fun _=>?_)
     refine⟨dx,_,_,g1,d0 _ _ _ _,?_⟩
     walk_at "rd1"
     refine bF (fun c=>absurd c (nk (by decide +kernel))) (fun _=>?_)
     refine⟨⟨_,SqL.of r1⟩,x,sp,l',ws,kv,S,_,ac d,dJ kv d,rfl,hx2,oks,sm _ _ esp,hkz,fun c H3 s3 hc3=>?_⟩
     have eR3:=s3 _ _ r1
     have tp:∀ {c:Addr} {r:aG},bY H3 c r→∀ zs,bY (upd H3 R (.lst zs)) c r:=fun {c r} z zs=>by
      show upd H3 R _ c=_
      rw[af (cJ z eR3 (fun y=>nomatch y))]; exact z
     walk_at "rd1"
     refine⟨_,eR3,bO (by rw[List.length_map]; omega),_,_,rfl,fun c' o y=>?_,ras++[c],by rw[ah,List.map_append]; rfl,dQ (Paired.imp' (fun _ _ y=>tp (s3 _ _ y) _) r2) (.cons (tp hc3 _) .nil)⟩
     rw[af (hnR y)]; exact s3 _ _ (sm _ _ y)
  ·obtain⟨o5,o6,rfl,sm,hL⟩:=hh
   rw[List.length_map,hlen,List.take_length]at hL
   walk_at "nx"
   exact q R H2 sm hR hL
end
def gE(s:Str):Bool:=decide (0+("lend " : Str).length≤s.length)&&PySem.Builtin.Str.subAt s "lend " 0
def fO(L:List Str):List Nat:=(List.range L.length).filter fun i=>gE (L.getD i "")
def iF(d:Nat):Sp:=fun vs H Q _=>∃ (p:Addr) (L:List Str),vs=[.ref p]∧LinesAt d H p L∧L.length≤1000∧∀ (q:Addr) (H':Hp),Same H H'→H q=none→H' q=some (.lst ((fO L).map iN))→Q (.ref q) H'
theorem eT(f:Nat→Bool)(i:Nat):(List.range (i+1)).filter f=(List.range i).filter f++(if f i=true then [i] else []):=by
 rw[List.range_succ,List.filter_append]
 congr 1
 rw[List.filter_cons]
 split <;> rfl
theorem oT(D:DefAt K mg "lend_lines" bh) (z_enumerate:mg "enumerate" = none) {d k:Nat} (c_lines_of:aV P w K mg base k "lines_of" ["program"] (qa d)):aV P w K mg base (k+1) "lend_lines" ["program"] (iF d):=by
 refine D.cal (k:=k) lT (fun _ _ _ _ _ _ us hl=>match us,hl with | [_],_=>rfl) (fun vs H Q E h=>by obtain⟨_,_,rfl,_⟩:=h; rfl) (fun f cdv A outer s H vs Q E hr h=>?_)
 obtain⟨p,L,rfl,hL,hl,q⟩:=h
 refine⟨_,(ao (aD (fq (CompSc.to (fsc:=(defScope bh)) (N:=["program"]) (N0:=["program"]) (T:=["at", "line"]) ⟨by decide +kernel,by decide +kernel,by decide +kernel,by decide +kernel,by decide +kernel,by decide +kernel,by decide +kernel⟩ rfl rfl) rfl (oN K DC z_enumerate (aa (aE c_lines_of hr (aa (pv 0 (hv:=D3)) ae) (hg:=EJ) (hle:=by omega)) ae)) (fun _ _ _ _=>(eJ K (n:=2) (cy (bH 1 (show (["program", "at", "line"]:List Str).Nodup from by decide +kernel) (hx:=(i0 (defScope bh) (by decide +kernel))) (hf:=nQ (defScope bh) (by decide +kernel))) (cy (bH 2 (show (["program", "at", "line"]:List Str).Nodup from by decide +kernel) (hx:=(i0 (defScope bh) (by decide +kernel))) (hf:=nQ (defScope bh) (by decide +kernel))) eP)))) (xM (lh (dY (show (["program"]:List Str).length≤1 from by decide)) j9 (lh (dY (show (["program"]:List Str).length≤2 from by decide)) j9 uP qf) (uN j9 qf))) (fun _ _ _ _=>(i8 (fM (bt K PySem.F.plainAttrs_str PySem.F.slot_str_startswith PySem.F.type_str_startswith lW (pv 2 (hv:=(dZ (defScope bh) (by decide +kernel)))) (aa aB ae))))) (fun _ _ _ _=>(pv 1 (hv:=(dZ (defScope bh) (by decide +kernel)))))))),?_⟩
 walk_at "rd1"
 refine⟨p,L,rfl,hL,by omega,fun lq H1 s1 hlq e1=>?_⟩
 refine⟨lq,rfl,⟨_,e1⟩,fun R hR=>?_⟩
 refine rM (xs:=L.map V.str) (fun i ys H'=>∃ ns:List Nat,Same H1 H'∧H' R=some (.lst ys)∧ys=ns.map iN∧ns.length≤i∧ns=(List.range i).filter fun j=>gE (L.getD j "")) ⟨[],am hR _,ah,rfl,Nat.le_refl _,rfl⟩ (fun i ys H' _ hh=>by obtain⟨_,sm,_⟩:=hh; exact SqL.of (sm _ _ e1)) ?_ ?_
 ·rintro i ys H' v t hv hi ⟨ns,sm,hl',rfl,hnl,hns⟩ ht
  rw[List.length_map]at hi
  rw[List.getElem?_map,List.getElem?_eq_getElem hi]at hv
  cases hv
  have s2:=am ht (.tup [.int (i:Int),.str L[i]])
  have et:upd H' t (.tup [.int (i:Int),.str L[i]]) t=some (.tup [.int (i:Int),.str L[i]]):=ah
  generalize upd H' t (.tup [.int (i:Int),.str L[i]])=H2 at s2 et ⊢
  have sm2:=sm.trans s2
  have eR2:=s2 _ _ hl'
  have hg:gE (L.getD i "")=(decide (0+("lend " : Str).length≤L[i].length)&&PySem.Builtin.Str.subAt L[i] "lend " 0):=by
   unfold gE
   rw[List.getD_eq_getElem?_getD,List.getElem?_eq_getElem hi]; rfl
  walk_at "rd1"
  refine⟨t,_,rfl,SqT.of et,rfl,?_⟩
  walk_at "rd1"
  rw[← hg]
  refine bF (fun c=>?_) (fun c=>?_)
  ·refine nH (by rw[List.length_map]; exact hi) (by rw[List.length_map]; exact hnl) (by rw[List.length_map]; exact bg (by omega)) eR2 ⟨ns++[i],sm2.upd hR _,ah,vc _ _,by simp; omega,?_⟩
   rw[eT,if_pos c,← hns]
  ·refine sF (by rw[List.length_map]; exact hi) ⟨ns,sm2,eR2,rfl,by omega,?_⟩
   rw[eT,if_neg c,← hns,List.append_nil]
 ·rintro ys H2 ⟨ns,s2,e2,rfl,_,hns⟩
  rw[List.length_map]at hns
  refine q R H2 (s1.trans s2) (s1.free hR) ?_
  rw[hns]at e2
  exact e2
def eU(ks:List aK):List (aK × V):=(List.range ks.length).foldl (fun acc i=>cS acc (ks.getD i (.inl 0)) (iN i)) []
def fD(ks:List aK)(i:Nat):List (aK × V):=(List.range i).foldl (fun acc i=>cS acc (ks.getD i (.inl 0)) (iN i)) []
theorem fQ(ks:List aK)(i:Nat):fD ks (i+1)=cS (fD ks i) (ks.getD i (.inl 0)) (iN i):=by
 unfold fD; rw[List.range_succ,List.foldl_append]; rfl
theorem mn(ks:List aK):∀ i,(fD ks i).length≤i
 | 0=>Nat.le_refl _
 | i+1=>by
  have:=mn ks i
  rw[fQ]
  unfold cS
  split
  ·rw[List.length_map]; omega
  ·rw[List.length_append]; simp; omega
theorem nU(ks:List aK):∀ (i j:Nat) k,j<i→ks[j]? = some k→(bT (fD ks i) k).isSome=true
 | 0,j,_,h,_=>absurd h (Nat.not_lt_zero _)
 | i+1,j,k,h,hk=>by
  rw[fQ,oH]
  split
  ·rfl
  ·rename_i c
   rcases Nat.lt_or_ge j i with z | z
   ·exact nU ks i j k z hk
   ·have:j=i:=by omega
    subst this
    exact absurd (by rw[List.getD_eq_getElem?_getD,hk]; rfl) c
theorem ir{ks:List aK}{k:aK}(h:k∈ks):fN (eU ks) k:=by
 obtain⟨j,hj⟩:=List.mem_iff_getElem?.mp h
 have:=nU ks ks.length j k (List.getElem?_eq_some_iff.mp hj).1 hj
 show bT (fD ks ks.length) k=some (cr (fD ks ks.length) k)
 unfold cr
 cases e:bT (fD ks ks.length) k with
 | none=>rw[e]at this; cases this
 | some v=>rfl
section
variable{NO:Hp→Addr→List Str→Prop}
def zW(NO:Hp→Addr→List Str→Prop):Sp:=fun vs H Q _=>∃ (p:Addr) (NM:List Str),vs=[.ref p]∧NO H p NM∧∀ (q:Addr) (H':Hp),Same H H'→H q=none→H' q=some (.lst (NM.map V.str))→Q (.ref q) H'
def cu(NM:List Str)(L:List Str):List aK:=NM.map Sum.inr++(fO L).map fun (n:Nat)=>Sum.inl (n:Int)
def pc(NO:Hp→Addr→List Str→Prop)(d:Nat):Sp:=fun vs H Q _=>∃ (p:Addr) (NM L:List Str),vs=[.ref p]∧NO H p NM∧LinesAt d H p L∧L.length≤1000∧NM.length≤1000∧∀ (q:Addr) (H':Hp),Same H H'→H q=none→H' q=some (.dK (eU (cu NM L)))→Q (.ref q) H'
theorem u5(noM:∀ {H H':Hp} {p:Addr} {NM:List Str},NO H p NM→Same H H'→NO H' p NM)(D:DefAt K mg "slots_of" bD) (z_enumerate:mg "enumerate" = none) {d k:Nat} (c_names_of:aV P w K mg base k "names_of" ["program"] (zW NO)) (c_lend_lines:aV P w K mg base k "lend_lines" ["program"] (iF d)):aV P w K mg base (k+1) "slots_of" ["program"] (pc NO d):=by
 refine D.cal (k:=k) sc_slots_of (fun _ _ _ _ _ _ us hl=>match us,hl with | [_],_=>rfl) (fun vs H Q E h=>by obtain⟨_,_,_,rfl,_⟩:=h; rfl) (fun f cdv A outer s H vs Q E hr h=>?_)
 obtain⟨p,NM,L,rfl,hN,hL,hl,hnl,q⟩:=h
 refine⟨_,(aj (aw 1 sc_slots_of.nd iU (hx:=EC))
   (aj (df PassesOwn.never rfl (oN K Eo z_enumerate (aa (ar az (aE c_names_of hr (aa (pv 0 (hv:=AX)) ae) (hg:=EI) (hle:=by omega)) (aE c_lend_lines hr (aa (pv 0 (hv:=AX)) ae) (hg:=D7) (hle:=by omega))) ae)) (eJ K (n:=2) (cy (bH 2 sc_slots_of.nd (hx:=DX)) (cy (bH 3 sc_slots_of.nd (hx:=Ep)) eP))) (ao (h8 (pv 2 (hv:=CS)) (ng (pv 1 (hv:=zj)) (pv 3 (hv:=C8)) (rC hr)))))
   (ao (aD (pv 1 (hv:=zj)))))),?_⟩
 walk_at "rd1"
 intro RD hRD
 have s1:=am hRD (.dK [])
 have eRD:upd H RD (.dK []) RD=some (.dK (fD (cu NM L) 0)):=ah
 generalize upd H RD (.dK [])=H1 at s1 eRD ⊢
 walk_at "nx"
 refine⟨p,NM,rfl,noM hN s1,fun nq H2 s2 hnq e2=>?_⟩
 have s12:=s1.trans s2
 refine⟨p,L,rfl,hL.mono _ s12,hl,fun lq H3 s3 hlq e3=>?_⟩
 have hll:(fO L).length≤1000:=by
  unfold fO
  refine Nat.le_trans (List.length_filter_le _ _) ?_
  rw[List.length_range]; exact hl
 dsimp only
 rw[gJ]
 refine⟨_,_,s3 _ _ e2,e3,by rw[List.length_map,List.length_map]; exact bg (by omega),fun cq hcq=>?_⟩
 have ecat:NM.map V.str++(fO L).map iN=(cu NM L).map kV:=by
  unfold cu
  rw[List.map_append,List.map_map,List.map_map]; rfl
 rw[ecat]
 have hkl:(cu NM L).length≤2000:=by unfold cu; rw[List.length_append,List.length_map,List.length_map]; omega
 generalize hks:cu NM L=ks at eRD hkl q ⊢
 have s4:=am hcq (.lst (ks.map kV))
 have ecq:upd H3 cq (.lst (ks.map kV)) cq=some (.lst (ks.map kV)):=ah
 generalize upd H3 cq (.lst (ks.map kV))=H4 at s4 ecq ⊢
 have s24:=(s2.trans s3).trans s4
 have eRD4:=s24 _ _ eRD
 have ncR:cq≠RD:=cJ ecq eRD4 (fun z=>nomatch z)
 walk_at "rd1"
 refine⟨⟨_,ecq⟩,?_⟩
 refine tJ (xs:=ks.map kV) (fun i σ H'=>∃ (o2 o3:Option V),σ=[some (.ref p),some (.ref RD),o2,o3]∧(∀ b o,b≠RD→H4 b=some o→H' b=some o)∧H' RD=some (.dK (fD ks i)))
  ⟨_,_,rfl,fun _ _ _ z=>z,eRD4⟩ (fun i σ H' _ hh=>by obtain⟨_,_,_,sb,_⟩:=hh; exact SqL.of (sb _ _ ncR ecq)) (fun i v t σ H5 hv hh ht=>?_) (fun σ H5 hh=>?_)
 ·obtain⟨o2,o3,rfl,sb,e5⟩:=hh
  rw[List.getElem?_map]at hv
  cases hi:ks[i]? with
  | none=>rw[hi]at hv; cases hv
  | some k0=>
   rw[hi]at hv; cases hv
   have hil:=(List.getElem?_eq_some_iff.mp hi).1
   have s6:=am ht (.tup [.int (i:Int),kV k0])
   have et:upd H5 t (.tup [.int (i:Int),kV k0]) t=some (.tup [.int (i:Int),kV k0]):=ah
   generalize upd H5 t (.tup [.int (i:Int),kV k0])=H6 at s6 et ⊢
   have hkt:=mn ks i
   walk_at "rd1"
   refine⟨t,_,rfl,SqT.of et,rfl,?_⟩
   walk_at "rd1"
   refine⟨RD,_,k0,rfl,rfl,s6 _ _ e5,bO (by omega),_,_,rfl,fun b o hb z=>by rw[af hb]; exact s6 _ _ (sb b o hb z),?_⟩
   rw[ah,fQ,List.getD_eq_getElem?_getD,hi]; rfl
 ·obtain⟨o2,o3,rfl,sb,e5⟩:=hh
  rw[List.length_map]at e5
  walk_at "nx"
  refine q RD H5 (fun b o z=>sb b o (aq z hRD) (s4 _ _ (s3 _ _ (s12 _ _ z)))) hRD e5
end
theorem ou{f:List Stp→List Str}{g:List Stp→Nat}(h:∀ T,(f T).length=g T):∀ s:Stp,(cF f s).length=aJ g s
 | .plain _=>rfl
 | .lend _ _ b=>by simp[cF,aJ,h]
 | .ite _ b c=>by simp[cF,aJ,h]; omega
 | .whl _ b=>by simp[cF,aJ,h]
theorem gU:∀ (d:Nat) (T:List Stp),(bX d T).length=ac d T
 | 0,_=>rfl
 | d+1,T=>by
  show (T.flatMap (cF (bX d))).length=(T.map (aJ (ac d))).sum
  induction T with
  | nil=>rfl
  | cons s T ih=>rw[List.flatMap_cons,List.length_append,List.map_cons,List.sum_cons,ih,ou (gU d)]
def Sub(L:List Str)(l:Nat)(X:List Str):Prop:=∀ (i:Nat) s,X[i]? = some s→L[l+i]? = some s
theorem Sub.left{L X Y:List Str}{l:Nat}(h:Sub L l (X++Y)):Sub L l X:=fun i s e=>h i s (by rw[List.getElem?_append_left (List.getElem?_eq_some_iff.mp e).1]; exact e)
theorem Sub.right{L X Y:List Str}{l:Nat}(h:Sub L l (X++Y)):Sub L (l+X.length) Y:=fun i s e=>by
 have:=h (X.length+i) s (by rw[List.getElem?_append_right (by omega),Nat.add_sub_cancel_left]; exact e)
 rw[← Nat.add_assoc]at this; exact this
def wM(f:List Stp→Prop)(N:Str→Prop):Stp→Prop
 | .plain ws=>(ws.headD "" = "do" → ws.length=3)∧∀ n∈du ws,N n
 | .lend x y b=>N x∧N y∧f b
 | .ite _ b c=>f b∧f c
 | .whl _ b=>f b
def p_(N:Str→Prop):Nat→List Stp→Prop
 | 0,_=>False
 | d+1,T=>∀ s∈T,wM (p_ N d) N s
theorem t7(x y:Str):gE (Txt.join " " ["lend", x,y])=true:=by
 have e:Txt.join " " ["lend", x,y]=("lend " : Str)++(x++((" " : Str)++y)):=by
  apply x4
  have h1:("lend " : Str).cps.toList=("lend" : Str).cps.toList++(" " : Str).cps.toList:=by decide +kernel
  rw[fj,fj,fj,h1]
  show ((("lend" : Str).cps++(" " : Str).cps++x.cps)++(" " : Str).cps++y.cps).toList=_
  simp only[Array.toList_append,List.append_assoc]
 rw[e]
 unfold gE
 have hl:("lend " : Str).length=5:=by decide +kernel
 rw[Str.length_append,hl,decide_eq_true (by omega),Bool.true_and]
 unfold PySem.Builtin.Str.subAt
 rw[hl,beq_iff_eq]
 apply Array.ext'
 rw[Array.toList_extract,fj]
 have h5:("lend " : Str).cps.toList.length=5:=by decide +kernel
 simp[List.extract_eq_drop_take,List.take_append,h5]
theorem sY{L:List Str}{i:Nat}{s:Str}(h:L[i]? = some s)(hs:gE s=true):i∈fO L:=by
 unfold fO
 rw[List.mem_filter]
 refine⟨List.mem_range.mpr (List.getElem?_eq_some_iff.mp h).1,?_⟩
 rw[List.getD_eq_getElem?_getD,h]; exact hs
section
variable{NM L:List Str}
theorem vX{f:Nat→List Stp→Prop}{g:List Stp→Prop}{d l:Nat}(hf:∀ l b,Sub L l (bX d b)→g b→f l b):∀ (s:Stp),Sub L l (cF (bX d) s)→wM g (fun n=>n∈NM) s→ki (eU (cu NM L)) f (ac d) l s
 | .plain ws,_,⟨h1,h2⟩=>⟨h1,fun n hn=>ir (by unfold cu; exact List.mem_append_left _ (List.mem_map.mpr ⟨n,h2 n hn,rfl⟩))⟩
 | .lend x y b,hS,⟨hx,hy,hb⟩=>by
  have hh:L[l]? = some (Txt.join " " ["lend", x,y]):=hS 0 _ rfl
  refine⟨ir (by unfold cu; exact List.mem_append_left _ (List.mem_map.mpr ⟨x,hx,rfl⟩)),ir (by unfold cu; exact List.mem_append_left _ (List.mem_map.mpr ⟨y,hy,rfl⟩)),ir (by unfold cu; exact List.mem_append_right _ (List.mem_map.mpr ⟨l,sY hh (t7 x y),rfl⟩)),hf _ _ ?_ hb⟩
  have:Sub L l ([Txt.join " " ["lend", x,y]]++(bX d b++[("back" : Str)])):=hS
  exact this.right.left
 | .ite n b c,hS,⟨hb,hc⟩=>by
  have:Sub L l ([Txt.join " " ["if", de n]]++((bX d b++[("else" : Str)])++(bX d c++[("fi" : Str)]))):=hS
  refine⟨hf _ _ this.right.left.left hb,hf _ _ ?_ hc⟩
  have h2:=this.right.right.left
  rw[List.length_append,gU,List.length_singleton,List.length_singleton]at h2
  rw[show l+1+ac d b+1=l+1+(ac d b+1) by omega]; exact h2
 | .whl n b,hS,hb=>by
  have:Sub L l ([Txt.join " " ["while", de n]]++(bX d b++[("done" : Str)])):=hS
  exact hf _ _ this.right.left hb
theorem j5:∀ (d l:Nat) (T:List Stp),Sub L l (bX d T)→p_ (fun n=>n∈NM) d T→dJ (eU (cu NM L)) d l T
 | 0,_,_,_,h=>h
 | d+1,l,T,hS,hN=>by
  have go:∀ (T:List Stp) (l:Nat),Sub L l (T.flatMap (cF (bX d)))→(∀ s∈T,wM (p_ (fun n=>n∈NM) d) (fun n=>n∈NM) s)→∀ z∈dO (aJ (ac d)) l T,ki (eU (cu NM L)) (dJ (eU (cu NM L)) d) (ac d) z.1 z.2:=fun T=>by
   induction T with
   | nil=>intro l _ _ z hz; cases hz
   | cons s T ih=>
    intro l hS hN z hz
    rw[List.flatMap_cons]at hS
    rcases List.mem_cons.mp hz with rfl | hz
    ·exact vX (fun l b h1 h2=>j5 d l b h1 h2) s hS.left (hN s List.mem_cons_self)
    ·have h2:=hS.right
     rw[ou (gU d)]at h2
     exact ih (l+aJ (ac d) s) h2 (fun s hs=>hN s (List.mem_cons_of_mem _ hs)) z hz
  exact go T l hS hN
end
section
variable{CN:Addr}{NO:Hp→Addr→List Str→Prop}
def bw(NM:List Str)(d:Nat)(t:Bool)(T:List Stp):List aG:=ai (eU (cu NM (bX d T))) d t 0 0 T++[[.str "end", iN (ac d T)]]
structure jv (NO:Hp→Addr→List Str→Prop) (H:Hp) (p:Addr) (d:Nat) (T:List Stp) (NM:List Str):Prop where
 prog:∃ S,ProgAt S d H p T
 ok:dG d T
 no:NO H p NM
 ln:LinesAt d H p (bX d T)
 nm:p_ (fun n=>n∈NM) d T
 cnt:ac d T≤200
 nl:NM.length≤1000
 d20:d≤20
def ku(NO:Hp→Addr→List Str→Prop)(d:Nat):Sp:=fun vs H Q _=>∃ (p:Addr) (t:Bool) (T:List Stp) (NM:List Str),vs=[.ref p,.bl t]∧jv NO H p d T NM∧∀ (q:Addr) (H':Hp),Same H H'→H q=none→ListR H' q (bw NM d t T)→Q (.ref q) H'
theorem rR(noM:∀ {H H':Hp} {p:Addr} {NM:List Str},NO H p NM→Same H H'→NO H' p NM)(D:DefAt K mg "rows_and_end" bf) {d k:Nat} (hk1:1≤k) (c_numbered_steps:aV P w K mg base (2 * d+4) "numbered_steps" ["steps", "line"] (oj K CN d)) (c_rows_of:aV P w K mg base (3 * d+2) "rows_of" ["steps", "at", "slots", "turned"] (fk K CN d)) (c_slots_of:aV P w K mg base k "slots_of" ["program"] (pc NO d)) (c_line_behind:aV P w K mg base 1 "line_behind" ["steps", "line"] (gm K CN)) (h1:2 * d+4≤k) (h2:3 * d+2≤k):aV P w K mg base (k+1) "rows_and_end" ["program", "turned"] (ku NO d):=by
 refine D.cal (k:=k) sc_rows_and_end (fun _ _ _ _ _ _ us hl=>match us,hl with | [_,_],_=>rfl) (fun vs H Q E h=>by obtain⟨_,_,_,_,rfl,_⟩:=h; rfl) (fun f cdv A outer s H vs Q E hr h=>?_)
 obtain⟨p,t,T,NM,rfl,I,q⟩:=h
 obtain⟨S,hP⟩:=I.prog
 have hcnt:=I.cnt
 refine⟨_,(aj (aw 2 sc_rows_and_end.nd (aE c_numbered_steps hr (aa (pv 0 (hv:=zw)) (aa ak ae)) (hg:=Bz) (hle:=by omega)) (hx:=Cs))
   (ao (aD (ar az (aE c_rows_of hr (aa (pv 2 (hv:=yS)) (aa ak (aa (aE c_slots_of hr (aa (pv 0 (hv:=zw)) ae) (hg:=Cr) (hle:=by omega)) (aa (pv 1 (hv:=BL)) ae)))) (hg:=Bc) (hle:=by omega)) (bC (aa (bE (aa aB (aa (aE c_line_behind hr (aa (pv 2 (hv:=yS)) (aa ak ae)) (hg:=C4) (hle:=by omega)) ae))) ae)))))),?_⟩
 walk_at "rd1"
 refine⟨p,0,T,S,rfl,hP,I.ok,by omega,fun nq H1 s1 hN=>?_⟩
 walk_at "nx"
 refine⟨p,NM,bX d T,rfl,noM I.no s1,I.ln.mono _ s1,by rw[gU]; omega,I.nl,fun sq H2 s2 hsq e2=>?_⟩
 refine⟨nq,sq,0,0,t,T,_,_,rfl,hN.mono s2,I.ok,e2,j5 d 0 T (fun i s e=>by rw[Nat.zero_add]; exact e) I.nm,I.cnt,I.d20,fun rq H3 s3 hrq hR=>?_⟩
 have hRl:=da (kv:=eU (cu NM (bX d T))) (a:=0) (l:=0) (t:=t) I.cnt I.d20
 generalize hRR:ai (eU (cu NM (bX d T))) d t 0 0 T=R at hR hRl
 have s23:=s2.trans s3
 cases d with
 | zero=>exact hN.elim
 | succ d=>
  refine⟨nq,0,d,T,_,rfl,hN.mono s23,by omega,?_⟩
  walk_at "rd1"
  refine⟨by decide,fun t1 ht1=>?_⟩
  generalize hH4:upd H3 t1 _=H4
  have s4:Same H3 H4:=by rw[← hH4]; exact am ht1 _
  have et1:bY H4 t1 [.str "end", iN (ac (d+1) T)]:=by
   show H4 t1=_
   rw[← hH4,ah,Nat.zero_add]; rfl
  refine⟨by decide,fun m1 hm1=>?_⟩
  have s5:=am hm1 (.lst [.ref t1])
  have L1:=fm et1 hm1
  generalize upd H4 m1 (.lst [.ref t1])=H5 at s5 L1 ⊢
  obtain⟨as1,a1,a2⟩:=hR.mono (s4.trans s5)
  obtain⟨bs1,b1,b2⟩:=L1
  refine⟨_,_,a1,b1,dv a2 b2 (by simp only[List.length_cons,List.length_nil]; omega),fun m2 hm2=>?_⟩
  have s6:=am hm2 (.lst (as1.map V.ref++bs1.map V.ref))
  have L2:=dS a2 b2 hm2
  generalize upd H5 m2 (.lst (as1.map V.ref++bs1.map V.ref))=H6 at s6 L2 ⊢
  have s05:=((s1.trans s23).trans s4).trans s5
  refine q m2 H6 (s05.trans s6) (s05.free hm2) ?_
  unfold bw
  rw[hRR]
  exact L2
def tM(NO:Hp→Addr→List Str→Prop)(d:Nat):Sp:=fun vs H Q _=>∃ (p:Addr) (T:List Stp) (NM:List Str),vs=[.ref p]∧jv NO H p d T NM∧∀ (q:Addr) (H':Hp),Same H H'→H q=none→ListR H' q (bw NM d false T)→Q (.ref q) H'
theorem x6(D:DefAt K mg "code_of" cZ) {d k:Nat} (c_rows_and_end:aV P w K mg base k "rows_and_end" ["program", "turned"] (ku NO d)):aV P w K mg base (k+1) "code_of" ["program"] (tM NO d):=by
 refine D.cal (k:=k) rG (fun _ _ _ _ _ _ us hl=>match us,hl with | [_],_=>rfl) (fun vs H Q E h=>by obtain⟨_,_,_,rfl,_⟩:=h; rfl) (fun f cdv A outer s H vs Q E hr h=>?_)
 obtain⟨p,T,NM,rfl,I,q⟩:=h
 refine⟨_,(ao (aD (aE c_rows_and_end hr (aa (pv 0 (hv:=Bx)) (aa fc ae)) (hg:=Cu) (hle:=by omega)))),?_⟩
 walk_at "rd1"
 exact⟨p,false,T,NM,rfl,I,q⟩
def n_(NO:Hp→Addr→List Str→Prop)(d:Nat):Sp:=fun vs H Q _=>∃ (p:Addr) (T:List Stp) (NM:List Str),vs=[.ref p]∧jv NO H p d T NM∧∀ (q:Addr) (H':Hp),Same H H'→H q=none→ListR H' q (bw NM d true T)→Q (.ref q) H'
theorem ua(D:DefAt K mg "turned_code" cj) {d k:Nat} (c_rows_and_end:aV P w K mg base k "rows_and_end" ["program", "turned"] (ku NO d)):aV P w K mg base (k+1) "turned_code" ["program"] (n_ NO d):=by
 refine D.cal (k:=k) jK (fun _ _ _ _ _ _ us hl=>match us,hl with | [_],_=>rfl) (fun vs H Q E h=>by obtain⟨_,_,_,rfl,_⟩:=h; rfl) (fun f cdv A outer s H vs Q E hr h=>?_)
 obtain⟨p,T,NM,rfl,I,q⟩:=h
 refine⟨_,(ao (aD (aE c_rows_and_end hr (aa (pv 0 (hv:=BZ)) (aa fc ae)) (hg:=Cb) (hle:=by omega)))),?_⟩
 walk_at "rd1"
 exact⟨p,true,T,NM,rfl,I,q⟩
end
end
def di:Stp→List (List Stp)
 | .plain _=>[]
 | .lend _ _ b=>[b]
 | .ite _ b c=>[b,c]
 | .whl _ b=>[b]
def eD(f:List Stp→List Stp)(s:Stp):List Stp:=s::(di s).flatMap f
def bL:Nat→List Stp→List Stp
 | 0,_=>[]
 | d+1,T=>T.flatMap (eD (bL d))
inductive eF:List Str→Prop
 | opn (x:Str):eF ["open", x]
 | drp (x:Str):eF ["drop", x]
 | cpy (x y:Str):eF ["copy", x,y]
 | tie (x y:Str):eF ["tie", x,y]
 | doo (u x:Str):eF ["do", u,x]
def bB:Stp→List Str
 | .plain ws=>if ws.headD "" = "do" then ws.drop 2 else ws.drop 1
 | .lend x y _=>[x,y]
 | .ite _ _ _=>[]
 | .whl _ _=>[]
def eG(f:List Stp→Prop):Stp→Prop
 | .plain ws=>eF ws
 | .lend _ _ b=>f b
 | .ite _ b c=>f b∧f c
 | .whl _ b=>f b
def gN:Nat→List Stp→Prop
 | 0,_=>False
 | d+1,T=>∀ s∈T,eG (gN d) s
def headAt(H:Hp)(a:Addr)(s:Stp):Prop:=stpAt (fun _ _=>True) H a s
theorem headAt.mono{H H':Hp}{a:Addr}{s:Stp}(h:headAt H a s)(sm:Same H H'):headAt H' a s:=stpAt.imp (fun b xs e=>sm _ _ e) (fun _ _ _=>trivial) h
theorem se{PA:Addr→List Stp→Prop}{H:Hp}{a:Addr}{g:List Stp→Prop}:∀ {s:Stp},stpAt PA H a s→eG g s→∃ (kind:Str) (hs:List V) (bs:List Addr),H a=some (.tup (.str kind::hs++bs.map V.ref))∧bs.length=(aZ kind).length∧Paired PA bs (di s)∧∀ b∈di s,g b
 | .plain ws,h,ok=>by
  cases ok with
  | opn x=>exact⟨"open", [.str x],[],h,by show 0=(aZ "open").length; decide,.nil,by simp[di]⟩
  | drp x=>exact⟨"drop", [.str x],[],h,by show 0=(aZ "drop").length; decide,.nil,by simp[di]⟩
  | cpy x y=>exact⟨"copy", [.str x,.str y],[],h,by show 0=(aZ "copy").length; decide,.nil,by simp[di]⟩
  | tie x y=>exact⟨"tie", [.str x,.str y],[],h,by show 0=(aZ "tie").length; decide,.nil,by simp[di]⟩
  | doo u x=>exact⟨"do", [.str u,.str x],[],h,by show 0=(aZ "do").length; decide,.nil,by simp[di]⟩
 | .lend x y b,⟨q,h,z⟩,ok=>⟨"lend", [.str x,.str y],[q],h,by show 1=(aZ "lend").length; decide,.cons z .nil,by simpa [di,eG] using ok⟩
 | .ite n b c,⟨q,r,h,z,y⟩,ok=>⟨"if", [.int n],[q,r],h,by show 2=(aZ "if").length; decide,.cons z (.cons y .nil),by simpa [di,eG] using ok⟩
 | .whl n b,⟨q,h,z⟩,ok=>⟨"while", [.int n],[q],h,by show 1=(aZ "while").length; decide,.cons z .nil,by simpa [di,eG] using ok⟩
def nX(d:Nat):Sp:=fun vs H Q _=>∃ (p:Addr) (T:List Stp) (S:Addr→Prop),vs=[.ref p]∧ProgAt S d H p T∧gN d T∧(bL d T).length≤5000∧
 ∀ (q:Addr) (H':Hp) (ads:List Addr),Same H H'→H q=none→H' q=some (.lst (ads.map V.ref))→Paired (headAt H') ads (bL d T)→Q (.ref q) H'
theorem qU{α β : Type}(f:α→List β)(T:List α)(i:Nat):((T.take i).flatMap f).length≤(T.flatMap f).length:=by
 rw[List.flatMap_def,List.flatMap_def,List.map_take]; exact jJ _ _
theorem jX{α β : Type}(f:α→List β){T:List α}{i:Nat}{x:α}(h:T[i]? = some x):(T.take (i+1)).flatMap f=(T.take i).flatMap f++f x:=by
 rw[List.take_add_one,h,List.flatMap_append]; simp
theorem ja{α β : Type}{R:α→β→Prop}:∀ {xs zs:List α} {ys us:List β},Paired R xs ys→Paired R zs us→Paired R (xs++zs) (ys++us)
 | _,_,_,_,.nil,h=>h
 | _,_,_,_,.cons h t,h'=>.cons h (ja t h')
section
variable{P:Program}{w:World}{K:PySem.W.Frag}{mg:Str→Option Value}{base:Heap}
theorem lw(D:DefAt K mg "steps_within" aY) (c_blocks_of:aV P w K mg base 3 "blocks_of" ["step"] (fG K)):∀ d:Nat,aV P w K mg base (d+4) "steps_within" ["program"] (nX d)
 | 0=>D.cal (k:=3) sc_steps_within (fun _ _ _ _ _ _ us hl=>match us,hl with | [_],_=>rfl) (fun vs H Q E h=>by obtain⟨p,T,S,rfl,_⟩:=h; rfl) (fun f cdv A outer s H vs Q E hr h=>by obtain⟨p,T,S,rfl,z,_⟩:=h; exact z.elim)
 | d+1=>by
  have c_steps_within:=lw D c_blocks_of d
  refine D.cal (k:=d+4) sc_steps_within (fun _ _ _ _ _ _ us hl=>match us,hl with | [_],_=>rfl) (fun vs H Q E h=>by obtain⟨p,T,S,rfl,_⟩:=h; rfl) (fun f cdv A outer s H vs Q E hr h=>?_)
  obtain⟨p,T,S,rfl,⟨hS,as,h1,h2⟩,ok,hL,q⟩:=h
  have hlen:=ay h2
  refine⟨_,(aj (aw 1 sc_steps_within.nd (bC ae) (hx:=DZ))
   (aj (df PassesOwn.never rfl (dI K (pv 0 (hv:=Df))) (bH 2 sc_steps_within.nd (hx:=Dh)) (aj (bm (bt K PySem.F.plainAttrs_list PySem.F.slot_list_append PySem.F.type_list_append a_ (pv 1 (hv:=yD)) (aa (pv 2 (hv:=A7)) ae)))
   (ao (df PassesOwn.never rfl (im K (aE c_blocks_of hr (aa (pv 2 (hv:=A7)) ae) (hg:=Ds) (hle:=by omega))) (bH 3 sc_steps_within.nd (hx:=Ey)) (ao (bm (bt K PySem.F.plainAttrs_list PySem.F.slot_list_extend PySem.F.type_list_extend dM (pv 1 (hv:=yD)) (aa (aE c_steps_within hr (aa (pv 3 (hv:=Ee)) ae) (hg:=D6) (hle:=by omega)) ae))))))))
   (ao (aD (pv 1 (hv:=yD)))))),?_⟩
  walk_at "rd1"
  refine⟨by decide,fun lp hlp=>?_⟩
  generalize hH1:upd H lp _=H1
  have sm1:=eR hH1 hlp
  have e1:=gD hH1
  walk_at "nx"
  refine⟨⟨_,SqL.of (sm1 _ _ h1)⟩,?_⟩
  refine d_ (xs:=as.map V.ref) (fun i σ H'=>∃ (ads:List Addr) (o2 o3:Option V),σ=[some (.ref p),some (.ref lp),o2,o3]∧Same H H'∧H' lp=some (.lst (ads.map V.ref))∧Paired (headAt H') ads ((T.take i).flatMap (eD (bL d))))
   ⟨[],none,none,rfl,sm1,e1,.nil⟩ (fun i σ H' _ h=>by obtain⟨_,_,_,_,sm,_⟩:=h; exact SqL.of (sm _ _ h1)) ?_ ?_
  ·rintro i v σ H' hv ⟨ads,o2,o3,rfl,sm,hl,hp⟩
   have hi:i<as.length:=by have:=(List.getElem?_eq_some_iff.mp hv).1; simpa using this
   rw[List.getElem?_map,List.getElem?_eq_getElem hi]at hv
   cases hv
   obtain⟨s,hs,st⟩:=bP h2 (List.getElem?_eq_getElem hi)
   have oks:=ok s (List.mem_of_getElem? hs)
   obtain⟨kind,hds,bs,ha,hbl,hbp,hbo⟩:=se st oks
   have hflat:=jX (eD (bL d)) hs
   have hfl:=qU (eD (bL d)) T (i+1)
   have hL':(T.flatMap (eD (bL d))).length≤5000:=hL
   rw[hflat]at hfl ⊢
   have hpl:=ay hp
   generalize (T.take i).flatMap (eD (bL d))=pre at hp hfl hpl ⊢
   have hps:(eD (bL d) s).length=1+((di s).flatMap (bL d)).length:=by show (s::_).length=_; rw[List.length_cons]; omega
   rw[List.length_append,hps]at hfl
   have hhd:headAt H as[i] s:=stpAt.imp (fun b xs e=>e) (fun _ _ _=>trivial) st
   walk_at "rd1"
   refine⟨⟨_,SqL.of hl⟩,_,hl,by rw[List.length_map]; exact bO (by omega),?_⟩
   have upl:∀ {X:Hp} {o:HO} {l:List Addr} {us:List Stp} {ys:List V},X lp=some (.lst ys)→Paired (headAt X) l us→Paired (headAt (upd X lp o)) l us:=fun {X o l us ys} e h=>Paired.imp' (fun a s z=>stpAt.imp (fun b xs e'=>by rw[af (cJ e' e (fun z=>nomatch z))]; exact e') (fun _ _ _=>trivial) z) h
   have hp2:=upl (o:=.lst (ads.map V.ref++[.ref as[i]])) hl hp
   have sm2:Same H (upd H' lp (.lst (ads.map V.ref++[.ref as[i]]))):=sm.upd hlp _
   have e2:upd H' lp (.lst (ads.map V.ref++[.ref as[i]])) lp=some (.lst ((ads++[as[i]]).map V.ref)):=by rw[ah,List.map_append]; rfl
   generalize upd H' lp (.lst (ads.map V.ref++[.ref as[i]]))=H2 at hp2 sm2 e2 ⊢
   have hat:SqT K H2 as[i] (.str kind::(hds++bs.map V.ref)):=SqT.of (sm2 _ _ ha)
   have hcl:(aZ kind).length≤(hds++bs.map V.ref).length+1:=by rw[List.length_append,List.length_map,hbl]; omega
   have hcut:(hds++bs.map V.ref).length+1 - (aZ kind).length=hds.length+1:=by rw[List.length_append,List.length_map,hbl]; omega
   walk_at "nx"
   refine⟨as[i],kind,hds++bs.map V.ref,rfl,hat,hcl,fun bp H3 sm3 hbp3=>?_⟩
   rw[hcut]at hbp3
   have edr:(V.str kind::(hds++bs.map V.ref)).drop (hds.length+1)=bs.map V.ref:=by rw[List.drop_succ_cons,List.drop_left']; rfl
   rw[edr]at hbp3
   walk_at "rd1"
   refine⟨⟨_,hbp3⟩,?_⟩
   have hil:=ay hbp
   refine nN (xs:=bs.map V.ref) (fun j σ H'=>∃ (ads':List Addr) (o3:Option V),σ=[some (.ref p),some (.ref lp),some (.ref as[i]),o3]∧Same H H'∧SqT K H' bp (bs.map V.ref)∧H' lp=some (.lst (ads'.map V.ref))∧Paired (headAt H') ads' (pre++(s::((di s).take j).flatMap (bL d))))
    ⟨ads++[as[i]],o3,rfl,sm2.trans sm3,hbp3,sm3 _ _ e2,?_⟩ (fun j σ H' _ h=>by obtain⟨_,_,_,_,z1,_⟩:=h; exact z1) ?_ ?_
   ·exact ci (R:=headAt H3) (hhd.mono (sm2.trans sm3)) (Paired.imp' (fun a s z=>headAt.mono z sm3) hp2)
   ·rintro j x σ H4 hx ⟨ads',o3,rfl,sm4,hb4,hl4,hp4⟩
    have hj:j<bs.length:=by have:=(List.getElem?_eq_some_iff.mp hx).1; simpa using this
    rw[List.getElem?_map,List.getElem?_eq_getElem hj]at hx
    cases hx
    obtain⟨b,hb,hpb⟩:=bP hbp (List.getElem?_eq_getElem hj)
    have hsn:=jX (bL d) hb
    have hle:=qU (bL d) (di s) (j+1)
    rw[hsn]at hle ⊢
    rw[List.length_append]at hle
    have hpl4:=ay hp4
    rw[List.length_append,List.length_cons]at hpl4
    walk_at "rd1"
    refine⟨⟨_,SqL.of hl4⟩,bs[j],b,S,rfl,hpb.mono sm4,hbo b (List.mem_of_getElem? hb),by omega,fun r H5 ads5 sm5 hr5 hl5 hp5=>?_⟩
    have hpl5:=ay hp5
    walk_at "rd1"
    refine⟨_,_,sm5 _ _ hl4,hl5,bg (by rw[List.length_map,List.length_map]; omega),?_⟩
    refine⟨ads'++ads5,_,rfl,(sm4.trans sm5).upd hlp _,(hb4.same sm5).updL (sm5 _ _ hl4),by rw[ah,List.map_append],?_⟩
    rw[← List.cons_append,← List.append_assoc]
    exact ja (upl (sm5 _ _ hl4) (Paired.imp' (fun a s z=>headAt.mono z sm5) hp4)) (upl (sm5 _ _ hl4) hp5)
   ·rintro σ H4 ⟨ads',o3,rfl,sm4,hb4,hl4,hp4⟩
    rw[List.length_map,List.take_of_length_le (by omega)]at hp4
    exact⟨ads',_,_,rfl,sm4,hl4,hp4⟩
  ·rintro σ H' ⟨ads,o2,o3,rfl,sm,hl,hp⟩
   walk_at "nx"
   rw[List.length_map,List.take_of_length_le (by omega)]at hp
   exact q lp H' ads sm hlp hl hp
def fC(acc:List Str)(x:Str):List Str:=if x∈acc then acc else acc++[x]
def cX(l:List Str):List Str:=l.foldl fC []
def hV(l:List Str):List (aK × V):=l.map fun x=>(Sum.inr x,V.bl true)
theorem xn(acc:List Str)(x:Str):cS (hV acc) (.inr x) (.bl true)=hV (fC acc x):=by
 unfold cS fC
 by_cases h:x∈acc
 ·rw[if_pos h]
  have ha:((hV acc).any fun kv=>decide (kv.1=(Sum.inr x:aK)))=true:=by
   rw[List.any_eq_true]
   exact⟨(.inr x,.bl true),List.mem_map.mpr ⟨x,h,rfl⟩,by simp⟩
  rw[if_pos ha]
  unfold hV
  rw[List.map_map]
  refine List.map_congr_left fun y _=>?_
  by_cases e:y=x
  ·subst e; simp
  ·have:¬ ((Sum.inr y:aK)=Sum.inr x):=fun z=>e (Sum.inr.inj z)
   simp[this]
 ·rw[if_neg h]
  have ha:((hV acc).any fun kv=>decide (kv.1=(Sum.inr x:aK)))=false:=by
   rw[List.any_eq_false]
   intro kv hkv
   obtain⟨y,hy,rfl⟩:=List.mem_map.mp hkv
   have:¬ ((Sum.inr y:aK)=Sum.inr x):=fun z=>h (Sum.inr.inj z ▸ hy)
   simp[this]
  rw[if_neg (by rw[ha]; exact Bool.false_ne_true)]
  unfold hV
  rw[List.map_append]; rfl
theorem gf:∀ (l acc:List Str),(l.foldl fC acc).length≤acc.length+l.length
 | [],acc=>by simp
 | x::l,acc=>by
  have:=gf l (fC acc x)
  have h2:(fC acc x).length≤acc.length+1:=by unfold fC; split <;> simp
  rw[List.foldl_cons,List.length_cons]; omega
def ce:List V→List Str→List Str
 | .str x::xs,k::ks=>if k = "name" then x::ce xs ks else ce xs ks
 | _::xs,_::ks=>ce xs ks
 | _,_=>[]
def dq:List (Str × List Str):=[("open", ["name"]),("do", ["word", "name"]),("copy", ["name", "name"]),("drop", ["name"]),("tie", ["name", "name"]),("lend", ["name", "name", "steps"]),("if", ["bound", "steps", "steps"]),("while", ["bound", "steps"])]
structure EL (H:Hp) (a:Addr) (s:Stp) (kind:Str) (xs:List V) (ks:List Str):Prop where
 at':H a=some (.tup (.str kind::xs))
 kd:(kind,ks)∈dq
 len:xs.length=ks.length
 txt:∀ (i:Nat) (x:V),xs[i]? = some x→ks[i]? = some "name" → ∃ y,x = .str y
 names:ce xs ks=bB s
theorem nE{α : Type}{a b x:α}{i:Nat}(h:[a,b][i]? = some x):(i=0∧x=a)∨(i=1∧x=b):=by
 match i,h with
 | 0,h=>exact .inl ⟨rfl,by simpa using h.symm⟩
 | 1,h=>exact .inr ⟨rfl,by simpa using h.symm⟩
 | i+2,h=>simp at h
theorem rD{H:Hp}{a:Addr}{g:List Stp→Prop}:∀ {s:Stp},headAt H a s→eG g s→∃ kind xs ks,EL H a s kind xs ks
 | .plain ws,h,ok=>by
  cases ok with
  | opn x=>exact⟨"open", [.str x],["name"],h,by simp[dq],rfl,fun i y e _=>by match i,e with | 0,e=>exact⟨x,by simpa using e.symm⟩ | i+1,e=>simp at e,by simp[ce,bB]; decide⟩
  | drp x=>exact⟨"drop", [.str x],["name"],h,by simp[dq],rfl,fun i y e _=>by match i,e with | 0,e=>exact⟨x,by simpa using e.symm⟩ | i+1,e=>simp at e,by simp[ce,bB]; decide⟩
  | cpy x y=>exact⟨"copy", [.str x,.str y],["name", "name"],h,by simp[dq],rfl,fun i z e _=>by rcases nE e with ⟨_,rfl⟩ | ⟨_,rfl⟩ <;> exact⟨_,rfl⟩,by simp[ce,bB]; decide⟩
  | tie x y=>exact⟨"tie", [.str x,.str y],["name", "name"],h,by simp[dq],rfl,fun i z e _=>by rcases nE e with ⟨_,rfl⟩ | ⟨_,rfl⟩ <;> exact⟨_,rfl⟩,by simp[ce,bB]; decide⟩
  | doo u x=>exact⟨"do", [.str u,.str x],["word", "name"],h,by simp[dq],rfl,fun i z e _=>by rcases nE e with ⟨_,rfl⟩ | ⟨_,rfl⟩ <;> exact⟨_,rfl⟩,by simp[ce,bB]; decide⟩
 | .lend x y b,⟨q,h,_⟩,ok=>⟨"lend", [.str x,.str y,.ref q],["name", "name", "steps"],h,by simp[dq],rfl,fun i z e e2=>by match i,e,e2 with | 0,e,e2=>exact⟨_,by simpa using e.symm⟩ | 1,e,e2=>exact⟨_,by simpa using e.symm⟩ | 2,e,e2=>exact absurd (by simpa using e2) (show ¬ (("steps" : Str) = "name") from by decide) | i+3,e,e2=>simp at e,by simp[ce,bB]⟩
 | .ite n b c,⟨q,r,h,_,_⟩,ok=>⟨"if", [.int n,.ref q,.ref r],["bound", "steps", "steps"],h,by simp[dq],rfl,fun i z e e2=>by match i,e,e2 with | 0,e,e2=>exact absurd (by simpa using e2) (show ¬ (("bound" : Str) = "name") from by decide) | 1,e,e2=>exact absurd (by simpa using e2) (show ¬ (("steps" : Str) = "name") from by decide) | 2,e,e2=>exact absurd (by simpa using e2) (show ¬ (("steps" : Str) = "name") from by decide) | i+3,e,e2=>simp at e,by simp[ce,bB]⟩
 | .whl n b,⟨q,h,_⟩,ok=>⟨"while", [.int n,.ref q],["bound", "steps"],h,by simp[dq],rfl,fun i z e e2=>by match i,e,e2 with | 0,e,e2=>exact absurd (by simpa using e2) (show ¬ (("bound" : Str) = "name") from by decide) | 1,e,e2=>exact absurd (by simpa using e2) (show ¬ (("steps" : Str) = "name") from by decide) | i+2,e,e2=>simp at e,by simp[ce,bB]⟩
theorem oo:∀ {xs:List V} {ks:List Str} (x:V) (k:Str),xs.length=ks.length→ce (xs++[x]) (ks++[k])=ce xs ks++ce [x] [k]
 | [],[],x,k,_=>rfl
 | [],_::_,_,_,h=>by simp at h
 | _::_,[],_,_,h=>by simp at h
 | y::xs,c::ks,x,k,h=>by
  have ih:=oo (xs:=xs) (ks:=ks) x k (by simpa using h)
  cases y <;> simp only[List.cons_append,ce,ih]
  split <;> simp
theorem lQ(xs:List V)(ks:List Str)(j:Nat)(h:xs.length=ks.length):(ce (xs.take j) (ks.take j)).length≤(ce xs ks).length:=by
 induction xs generalizing ks j with
 | nil=>simp[ce]
 | cons y xs ih=>
  cases ks with
  | nil=>simp at h
  | cons c ks=>
   cases j with
   | zero=>simp[ce]
   | succ j=>
    have:=ih ks j (by simpa using h)
    rw[List.take_succ_cons,List.take_succ_cons]
    cases y <;> simp only[ce] <;> (try split) <;> (try simp only[List.length_cons]) <;> omega
theorem vH{K:PySem.W.Frag}{H:Hp}{a l:Addr}{xs:List V}{kvs:List (aK × V)}{o:HO}(h:SqT K H a xs)(hl:H l=some (.dK kvs)):SqT K (upd H l o) a xs:=by
 rcases h with (h | ⟨o',h⟩) | h
 ·exact .inl (.inl (by rw[af (cJ h hl (fun z=>nomatch z))]; exact h))
 ·exact .inl (.inr ⟨o',by rw[af (cJ h hl (fun z=>nomatch z))]; exact h⟩)
 ·exact .inr h
def kW:Sp:=fun vs H Q _=>∃ (sp:Addr) (ads:List Addr) (Ps:List Stp) (g:List Stp→Prop),vs=[.ref sp]∧H sp=some (.lst (ads.map V.ref))∧Paired (headAt H) ads Ps∧(∀ s∈Ps,eG g s)∧(Ps.flatMap bB).length≤5000∧
 ∀ (q:Addr) (H':Hp),Same H H'→H q=none→H' q=some (.lst ((cX (Ps.flatMap bB)).map V.str))→Q (.ref q) H'
theorem q8(D:DefAt K mg "names_in" bn) (z_zip:mg "zip" = none) (z_list:mg "list" = none) {dP:Addr} {kvs:List (Str × V)} (g_PARTS:mg "PARTS" = some (.ref dP)) (m:ModD w K dP kvs)
  (qk:∀ kind ks,(kind,ks)∈dq→∃ a,bT kvs kind=some (.ref a)∧∀ H:Hp,SqT K H a (ks.map V.str)):aV P w K mg base 1 "names_in" ["steps"] kW:=by
 refine D.cal sc_names_in (fun _ _ _ _ _ _ us hl=>match us,hl with | [_],_=>rfl) (fun vs H Q E h=>by obtain⟨_,_,_,_,rfl,_⟩:=h; rfl) (fun f cdv A outer s H vs Q E hr h=>?_)
 obtain⟨sp,ads,Ps,g,rfl,hsp,hp,hok,hL,q⟩:=h
 have hlen:=ay hp
 refine⟨_,(aj (aw 1 sc_names_in.nd iU (hx:=Dp))
   (aj (df PassesOwn.never rfl (dI K (pv 0 (hv:=EK))) (bH 2 sc_names_in.nd (hx:=Dl)) (ao (df PassesOwn.never rfl (qj K DK z_zip (aa (ck (fo K) (pv 2 (hv:=AV)) (cn ak) cQ) (aa (aI (CL w K) (qe g_PARTS (hg:=Ef)) (aI (ba K) (pv 2 (hv:=AV)) ak (fun _ _=>rfl)) (fun _ _=>rfl)) ae))) (eJ K (n:=2) (cy (bH 3 sc_names_in.nd (hx:=Di)) (cy (bH 4 sc_names_in.nd (hx:=Dc)) eP))) (ao (bQ (aH cm (pv 4 (hv:=Eg)) aB (aM _)) (ao (h8 fc (ng (pv 1 (hv:=AW)) (pv 3 (hv:=DH)) (rC hr)))) bA)))))
   (ao (aD (fK (rF hr) z_list ip (aa (pv 1 (hv:=AW)) ae) (hg:=EM)))))),?_⟩
 walk_at "rd1"
 refine fun dp hdp=>?_
 generalize hH1:upd H dp _=H1
 have sm1:=eR hH1 hdp
 have e1:=gD hH1
 walk_at "nx"
 refine⟨⟨_,SqL.of (sm1 _ _ hsp)⟩,?_⟩
 refine d_ (xs:=ads.map V.ref) (fun i σ H'=>∃ o2 o3 o4:Option V,σ=[some (.ref sp),some (.ref dp),o2,o3,o4]∧Same H H'∧H' dp=some (.dK (hV (cX ((Ps.take i).flatMap bB)))))
  ⟨none,none,none,rfl,sm1,e1⟩ (fun i σ H' _ h=>by obtain⟨_,_,_,_,sm,_⟩:=h; exact SqL.of (sm _ _ hsp)) ?_ ?_
 ·rintro i v σ H' hv ⟨o2,o3,o4,rfl,sm,hd⟩
  have hi:i<ads.length:=by have:=(List.getElem?_eq_some_iff.mp hv).1; simpa using this
  rw[List.getElem?_map,List.getElem?_eq_getElem hi]at hv
  cases hv
  obtain⟨s,hs,st⟩:=bP hp (List.getElem?_eq_getElem hi)
  obtain⟨kind,xs,ks,hd1,hd2,hd3,hd4,hd5⟩:=rD st (hok s (List.mem_of_getElem? hs))
  obtain⟨ka,hka,hks⟩:=qk kind ks hd2
  have hsn:=jX bB hs
  have hfl:=qU bB Ps (i+1)
  rw[hsn]at hfl ⊢
  have hded:cX ((Ps.take i).flatMap bB++bB s)=(bB s).foldl fC (cX ((Ps.take i).flatMap bB)):=by unfold cX; rw[List.foldl_append]
  rw[hded]
  have hac:=gf ((Ps.take i).flatMap bB) []
  rw[List.length_append]at hfl
  rw[List.length_nil]at hac
  have hac':(cX ((Ps.take i).flatMap bB)).length≤((Ps.take i).flatMap bB).length:=by unfold cX; omega
  generalize cX ((Ps.take i).flatMap bB)=acc at hd hac' ⊢
  have hat:SqT K H' ads[i] (.str kind::xs):=SqT.of (sm _ _ hd1)
  walk_at "rd1"
  refine eQ hat fun p2 H2 sm2 h2=>?_
  have e1:dg (V.str kind::xs) (some 1) none=xs:=ig _ 1
  rw[e1]at h2
  walk_at "rd1"
  refine⟨_,_,.inr (hat.same sm2),fJ,dP,kvs,kind,.ref ka,rfl,rfl,m,hka,?_⟩
  refine⟨p2,ka,rfl,⟨_,h2⟩,⟨_,hks _⟩,?_⟩
  refine kU (xs:=xs) (ys:=ks.map V.str) (fun j σ H'=>∃ o3 o4:Option V,σ=[some (.ref sp),some (.ref dp),some (.ref ads[i]),o3,o4]∧Same H H'∧SqT K H' p2 xs∧H' dp=some (.dK (hV ((ce (xs.take j) (ks.take j)).foldl fC acc))))
   (by rw[List.length_map]; exact hd3) ⟨o3,o4,rfl,sm.trans sm2,h2,sm2 _ _ hd⟩ (fun j σ H' _ h=>by obtain⟨_,_,_,_,z1,_⟩:=h; exact⟨z1,hks _⟩) ?_ ?_
  ·rintro j x y t σ H3 hx hy ⟨o3,o4,rfl,sm3,h3,hd3'⟩ ht
   have hjx:j<xs.length:=(List.getElem?_eq_some_iff.mp hx).1
   have hjk:j<ks.length:=by omega
   have hkj:ks[j]? = some ks[j]:=List.getElem?_eq_getElem hjk
   rw[List.getElem?_map,hkj]at hy
   cases hy
   have ht1:xs.take (j+1)=xs.take j++[x]:=by rw[List.take_add_one,hx]; rfl
   have ht2:ks.take (j+1)=ks.take j++[ks[j]]:=by rw[List.take_add_one,hkj]; rfl
   have hpa:=oo (xs:=xs.take j) (ks:=ks.take j) x ks[j] (by rw[List.length_take,List.length_take,hd3])
   have hpl:=lQ xs ks j hd3
   rw[hd5]at hpl
   have hfl2:=gf (ce (xs.take j) (ks.take j)) acc
   rw[ht1,ht2,hpa]
   have htx:=hd4 j x hx
   rw[hkj]at htx
   generalize ks[j]=kj at hpa htx ⊢
   generalize ce (xs.take j) (ks.take j)=pk at hd3' hpl hfl2 ⊢
   have st:=am ht (.tup [x,V.str kj])
   have et:upd H3 t (.tup [x,V.str kj]) t=some (.tup [x,V.str kj]):=ah
   generalize upd H3 t (.tup [x,V.str kj])=H4 at st et ⊢
   walk_at "rd1"
   refine⟨t,_,rfl,SqT.of et,rfl,?_⟩
   walk_at "rd1"
   refine bF (fun c=>?_) (fun c=>?_)
   ·subst c
    obtain⟨z,rfl⟩:=htx rfl
    have hd4':=st _ _ hd3'
    refine⟨dp,_,.inr z,rfl,rfl,hd4',by unfold hV; rw[List.length_map]; exact bO (by omega),?_⟩
    rw[xn]
    refine⟨_,_,rfl,(sm3.trans st).upd hdp _,vH (h3.same st) hd4',?_⟩
    rw[ah,List.foldl_append]; rfl
   ·have hno:ce [x] [kj]=[]:=by
     cases x <;> simp[ce,c]
    rw[hno,List.append_nil]
    exact⟨_,_,rfl,sm3.trans st,h3.same st,st _ _ hd3'⟩
  ·rintro σ H3 ⟨o3,o4,rfl,sm3,h3,hd3'⟩
   rw[List.take_length,List.take_of_length_le (by omega),hd5]at hd3'
   exact⟨_,_,_,rfl,sm3,hd3'⟩
 ·rintro σ H' ⟨o2,o3,o4,rfl,sm,hd⟩
  walk_at "nx"
  rw[List.length_map,List.take_of_length_le (by omega)]at hd
  have hac:=gf (Ps.flatMap bB) []
  rw[List.length_nil]at hac
  refine⟨_,hd,by unfold hV cX; rw[List.length_map]; omega,fun l hl=>q l _ (sm.trans (am hl _)) (sm.free hl) ?_⟩
  rw[ah]
  unfold hV
  rw[List.map_map]; rfl
def lC:Sp:=fun vs H Q _=>∃ (p:Addr) (T:List Stp) (S:Addr→Prop),vs=[.ref p]∧ProgAt S 10 H p T∧gN 10 T∧(bL 10 T).length≤1000∧((bL 10 T).flatMap bB).length≤5000∧
 ∀ (q:Addr) (H':Hp),Same H H'→H q=none→H' q=some (.lst ((cX ((bL 10 T).flatMap bB)).map V.str))→Q (.ref q) H'
theorem mJ:∀ (d:Nat) {T:List Stp},gN d T→∀ s∈bL d T,∃ g:List Stp→Prop,eG g s
 | 0,_,h,_,_=>h.elim
 | d+1,T,ok,s,hs=>by
  obtain⟨u,hu,hs⟩:=List.mem_flatMap.mp hs
  have o:=ok u hu
  rcases List.mem_cons.mp hs with rfl | hs
  ·exact⟨_,o⟩
  obtain⟨b,hb,hs⟩:=List.mem_flatMap.mp hs
  refine mJ d (T:=b) ?_ s hs
  cases u with
  | plain ws=>simp[di]at hb
  | lend x y c=>
   have:b=c:=by simpa [di] using hb
   subst this; exact o
  | ite n c e=>
   obtain⟨o1,o2⟩:=o
   have:b=c∨b=e:=by simpa [di] using hb
   rcases this with rfl | rfl
   ·exact o1
   ·exact o2
  | whl n c=>
   have:b=c:=by simpa [di] using hb
   subst this; exact o
theorem vV:∀ {s:Stp} {g:List Stp→Prop},eG g s→eG (fun _=>True) s
 | .plain _,_,h=>h
 | .lend _ _ _,_,_=>trivial
 | .ite _ _ _,_,_=>⟨trivial,trivial⟩
 | .whl _ _,_,_=>trivial
theorem rK(D:DefAt K mg "names_of" cH) (c_names_in:aV P w K mg base 1 "names_in" ["steps"] kW) (c_steps_within:aV P w K mg base 14 "steps_within" ["program"] (nX 10)):aV P w K mg base 15 "names_of" ["program"] lC:=by
 refine D.cal oX (fun _ _ _ _ _ _ us hl=>match us,hl with | [_],_=>rfl) (fun vs H Q E h=>by obtain⟨_,_,_,rfl,_⟩:=h; rfl) (fun f cdv A outer s H vs Q E hr h=>?_)
 obtain⟨p,T,S,rfl,hp,ok,h1,h2,q⟩:=h
 refine⟨_,(ao (aD (aE c_names_in hr (aa (aE c_steps_within hr (aa (pv 0 (hv:=ED)) ae) (hg:=Dn) (hle:=by omega)) ae) (hg:=DD) (hle:=by omega)))),?_⟩
 walk_at "rd1"
 refine⟨p,T,S,rfl,hp,ok,by omega,fun sp H1 ads sm1 hsp hl1 hp1=>?_⟩
 walk_at "rd1"
 refine⟨sp,ads,bL 10 T,fun _=>True,rfl,hl1,hp1,fun s hs=>let ⟨g,z⟩:=mJ 10 ok s hs; vV z,h2,fun r H2 sm2 hr2 hl2=>?_⟩
 exact q r H2 (sm1.trans sm2) (sm1.free hr2) hl2
theorem n8{ws:List Str}(h:eF ws):(ws.headD "" = "do" → ws.length=3)∧du ws=bB (.plain ws):=by
 cases h with
 | opn x=>exact⟨fun c=>absurd c (by show ¬ (Str.ofString "open" = Str.ofString "do"); decide +kernel),by unfold du; simp only[bB]; rw[if_neg (by show ¬ (Str.ofString "open" = Str.ofString "do"); decide +kernel),if_neg (by show ¬ (Str.ofString "open" = Str.ofString "do"); decide +kernel)]⟩
 | drp x=>exact⟨fun c=>absurd c (by show ¬ (Str.ofString "drop" = Str.ofString "do"); decide +kernel),by unfold du; simp only[bB]; rw[if_neg (by show ¬ (Str.ofString "drop" = Str.ofString "do"); decide +kernel),if_neg (by show ¬ (Str.ofString "drop" = Str.ofString "do"); decide +kernel)]⟩
 | cpy x y=>exact⟨fun c=>absurd c (by show ¬ (Str.ofString "copy" = Str.ofString "do"); decide +kernel),by unfold du; simp only[bB]; rw[if_neg (by show ¬ (Str.ofString "copy" = Str.ofString "do"); decide +kernel),if_neg (by show ¬ (Str.ofString "copy" = Str.ofString "do"); decide +kernel)]⟩
 | tie x y=>exact⟨fun c=>absurd c (by show ¬ (Str.ofString "tie" = Str.ofString "do"); decide +kernel),by unfold du; simp only[bB]; rw[if_neg (by show ¬ (Str.ofString "tie" = Str.ofString "do"); decide +kernel),if_neg (by show ¬ (Str.ofString "tie" = Str.ofString "do"); decide +kernel)]⟩
 | doo u x=>exact⟨fun _=>rfl,by unfold du; simp only[bB]; rw[if_pos (by rfl),if_pos (by rfl)]; rfl⟩
theorem x9{f g:List Stp→Prop}{N:Str→Prop}{pr:List Stp→List Stp}(hf:∀ b,g b→(∀ n∈(pr b).flatMap bB,N n)→f b):∀ (s:Stp),eG g s→(∀ n∈(eD pr s).flatMap bB,N n)→wM f N s
 | .plain ws,ok,h=>by
  obtain⟨h1,h2⟩:=n8 ok
  refine⟨h1,fun n hn=>h n ?_⟩
  rw[h2]at hn
  exact List.mem_flatMap.mpr ⟨.plain ws,List.mem_cons_self,hn⟩
 | .lend x y b,ok,h=>by
  refine⟨h x (List.mem_flatMap.mpr ⟨.lend x y b,List.mem_cons_self,by simp[bB]⟩),h y (List.mem_flatMap.mpr ⟨.lend x y b,List.mem_cons_self,by simp[bB]⟩),hf b ok fun n hn=>h n ?_⟩
  obtain⟨s,hs,hn⟩:=List.mem_flatMap.mp hn
  exact List.mem_flatMap.mpr ⟨s,List.mem_cons_of_mem _ (List.mem_flatMap.mpr ⟨b,by simp[di],hs⟩),hn⟩
 | .ite m b c,ok,h=>by
  refine⟨hf b ok.1 fun n hn=>h n ?_,hf c ok.2 fun n hn=>h n ?_⟩
  ·obtain⟨s,hs,hn⟩:=List.mem_flatMap.mp hn
   exact List.mem_flatMap.mpr ⟨s,List.mem_cons_of_mem _ (List.mem_flatMap.mpr ⟨b,by simp[di],hs⟩),hn⟩
  ·obtain⟨s,hs,hn⟩:=List.mem_flatMap.mp hn
   exact List.mem_flatMap.mpr ⟨s,List.mem_cons_of_mem _ (List.mem_flatMap.mpr ⟨c,by simp[di],hs⟩),hn⟩
 | .whl m b,ok,h=>hf b ok fun n hn=>h n (by
   obtain⟨s,hs,hn⟩:=List.mem_flatMap.mp hn
   exact List.mem_flatMap.mpr ⟨s,List.mem_cons_of_mem _ (List.mem_flatMap.mpr ⟨b,by simp[di],hs⟩),hn⟩)
theorem nj{N:Str→Prop}:∀ (d:Nat) (T:List Stp),gN d T→(∀ n∈(bL d T).flatMap bB,N n)→p_ N d T
 | 0,_,h,_=>h
 | d+1,T,ok,h=>fun s hs=>x9 (fun b hb hn=>nj d b hb hn) s (ok s hs) fun n hn=>h n (by
   obtain⟨s',hs',hn⟩:=List.mem_flatMap.mp hn
   exact List.mem_flatMap.mpr ⟨s',List.mem_flatMap.mpr ⟨s,hs,hs'⟩,hn⟩)
end
set_option genSizeOf false in
inductive Frm where
 | lend (x y:Str) (up:List Stp)
 | whl (n:Int) (up:List Stp)
 | inB (n:Int) (up:List Stp)
 | inC (n:Int) (b up:List Stp)
inductive Ctx (H:Hp) (S:Addr→Prop) (root:Addr):List Frm→List (Str × Addr)→Nat→Addr→Prop
 | nil:Ctx H S root [] [] 9 root
 | lend {x y:Str} {us:List Stp} {r:List Frm} {pr:List (Str × Addr)} {d:Nat} {here up t:Addr} {as:List Addr}:H up=some (.lst (as.map V.ref++[.ref t]))→Paired (stpAt (ProgAt S (d+1) H) H) as us→H t=some (.tup [.str "lend", .str x,.str y,.ref here])→Ctx H S root r pr (d+1) up→Ctx H S root (.lend x y us::r) (("back", up)::pr) d here
 | whl {n:Int} {us:List Stp} {r:List Frm} {pr:List (Str × Addr)} {d:Nat} {here up t:Addr} {as:List Addr}:H up=some (.lst (as.map V.ref++[.ref t]))→Paired (stpAt (ProgAt S (d+1) H) H) as us→H t=some (.tup [.str "while", .int n,.ref here])→Ctx H S root r pr (d+1) up→Ctx H S root (.whl n us::r) (("done", up)::pr) d here
 | inB {n:Int} {us:List Stp} {r:List Frm} {pr:List (Str × Addr)} {d:Nat} {here up t oth:Addr} {as:List Addr}:H up=some (.lst (as.map V.ref++[.ref t]))→Paired (stpAt (ProgAt S (d+1) H) H) as us→H t=some (.tup [.str "if", .int n,.ref here,.ref oth])→H oth=some (.lst [])→Ctx H S root r pr (d+1) up→Ctx H S root (.inB n us::r) (("else", oth)::("fi", up)::pr) d here
 | inC {n:Int} {b us:List Stp} {r:List Frm} {pr:List (Str × Addr)} {d:Nat} {here up t bq:Addr} {as:List Addr}:H up=some (.lst (as.map V.ref++[.ref t]))→Paired (stpAt (ProgAt S (d+1) H) H) as us→H t=some (.tup [.str "if", .int n,.ref bq,.ref here])→ProgAt S (d+1) H bq b→Ctx H S root r pr (d+1) up→Ctx H S root (.inC n b us::r) (("fi", up)::pr) d here
theorem Ctx.imp{H H':Hp}{S S':Addr→Prop}{root:Addr}(ht:∀ b xs,H b=some (.tup xs)→H' b=some (.tup xs))(hl:∀ b xs,S b→H b=some (.lst xs)→H' b=some (.lst xs))(hS:∀ b,S b→S' b){fs:List Frm}{pr:List (Str × Addr)}{d:Nat}{here:Addr}
  (h:Ctx H S root fs pr d here):(∀ q∈pr,∀ xs,H q.2=some (.lst xs)→H' q.2=some (.lst xs))→Ctx H' S' root fs pr d here:=by
 have st:∀ {d:Nat} {as:List Addr} {us:List Stp},Paired (stpAt (ProgAt S d H) H) as us→Paired (stpAt (ProgAt S' d H') H') as us:=fun {d as us} h=>Paired.imp' (fun a s z=>z.imp ht fun q b y=>y.imp ht hl hS d) h
 induction h with
 | nil=>intro _; exact .nil
 | lend h1 h2 h3 _ ih=>intro hu; exact .lend (hu _ List.mem_cons_self _ h1) (st h2) (ht _ _ h3) (ih fun q hq=>hu q (List.mem_cons_of_mem _ hq))
 | whl h1 h2 h3 _ ih=>intro hu; exact .whl (hu _ List.mem_cons_self _ h1) (st h2) (ht _ _ h3) (ih fun q hq=>hu q (List.mem_cons_of_mem _ hq))
 | inB h1 h2 h3 h4 _ ih=>intro hu; exact .inB (hu _ (List.mem_cons_of_mem _ List.mem_cons_self) _ h1) (st h2) (ht _ _ h3) (hu _ List.mem_cons_self _ h4) (ih fun q hq=>hu q (List.mem_cons_of_mem _ (List.mem_cons_of_mem _ hq)))
 | inC h1 h2 h3 h4 _ ih=>intro hu; exact .inC (hu _ List.mem_cons_self _ h1) (st h2) (ht _ _ h3) (h4.imp ht hl hS _) (ih fun q hq=>hu q (List.mem_cons_of_mem _ hq))
def cU(pr:List (Str × Addr)):Nat:=(pr.filter fun q=>decide (q.1≠("else" : Str))).length
theorem ga{w:Str}(h:w ≠ "else") (a:Addr) (pr:List (Str × Addr)):cU ((w,a)::pr)=cU pr+1:=by
 unfold cU
 rw[List.filter_cons,if_pos (by simpa using h)]; rfl
theorem pe(a:Addr)(pr:List (Str × Addr)):cU (("else", a)::pr)=cU pr:=by
 unfold cU
 rw[List.filter_cons,if_neg (by simp)]
theorem Ctx.deep{H:Hp}{S:Addr→Prop}{root:Addr}{fs:List Frm}{pr:List (Str × Addr)}{d:Nat}{here:Addr}(h:Ctx H S root fs pr d here):d+fs.length=9∧cU pr=fs.length∧pr.length≤2 * fs.length:=by
 induction h with
 | nil=>exact⟨rfl,rfl,Nat.le_refl _⟩
 | lend _ _ _ _ ih=>obtain⟨a,b,c⟩:=ih; refine⟨by rw[List.length_cons]; omega,by rw[ga (by decide),List.length_cons]; omega,by simp only[List.length_cons]; omega⟩
 | whl _ _ _ _ ih=>obtain⟨a,b,c⟩:=ih; refine⟨by rw[List.length_cons]; omega,by rw[ga (by decide),List.length_cons]; omega,by simp only[List.length_cons]; omega⟩
 | inB _ _ _ _ _ ih=>obtain⟨a,b,c⟩:=ih; refine⟨by rw[List.length_cons]; omega,by rw[pe,ga (by decide),List.length_cons]; omega,by simp only[List.length_cons]; omega⟩
 | inC _ _ _ _ _ ih=>obtain⟨a,b,c⟩:=ih; refine⟨by rw[List.length_cons]; omega,by rw[ga (by decide),List.length_cons]; omega,by simp only[List.length_cons]; omega⟩
set_option genInjectivity false in
set_option genSizeOf false in
structure BS where
 cur:List Stp
 stk:List Frm
 L:List Str
 left:Int
 lends:Int
def dz(st:BS):BS:=match st.stk with
 | []=>st
 | .lend x y up::r=>{ st with cur:=up++[.lend x y st.cur],stk:=r,L:=st.L++[("back" : Str)] }
 | .whl n up::r=>{ st with cur:=up++[.whl n st.cur],stk:=r,L:=st.L++[("done" : Str)] }
 | .inB n up::r=>{ st with cur:=[],stk:=.inC n st.cur up::r,L:=st.L++[("else" : Str)] }
 | .inC n b up::r=>{ st with cur:=up++[.ite n b st.cur],stk:=r,L:=st.L++[("fi" : Str)] }
def dw:List Frm→Nat→List Str
 | [],_=>[]
 | .lend x y up::r,d=>dw r (d+1)++bX (d+2) up++[Txt.join " " ["lend", x,y]]
 | .whl n up::r,d=>dw r (d+1)++bX (d+2) up++[Txt.join " " ["while", de n]]
 | .inB n up::r,d=>dw r (d+1)++bX (d+2) up++[Txt.join " " ["if", de n]]
 | .inC n b up::r,d=>dw r (d+1)++bX (d+2) up++[Txt.join " " ["if", de n]]++bX (d+1) b++[("else" : Str)]
def qh:List Frm→Nat→Prop
 | [],_=>True
 | .lend x y up::r,d=>x.length≤20∧y.length≤20∧dG (d+2) up∧qh r (d+1)
 | .whl n up::r,d=>n.natAbs.log2<1920∧dG (d+2) up∧qh r (d+1)
 | .inB n up::r,d=>n.natAbs.log2<1920∧dG (d+2) up∧qh r (d+1)
 | .inC n b up::r,d=>n.natAbs.log2<1920∧dG (d+1) b∧dG (d+2) up∧qh r (d+1)
def dU:Frm→Nat
 | .lend _ _ up=>up.length
 | .whl _ up=>up.length
 | .inB _ up=>up.length
 | .inC _ _ up=>up.length
structure fB (st:BS) (d:Nat):Prop where
 dep:d+st.stk.length=9
 lines:st.L=dw st.stk d++bX (d+1) st.cur
 ok:dG (d+1) st.cur
 okf:qh st.stk d
 size:st.cur.length+(st.stk.map dU).sum≤st.L.length
theorem jt(d:Nat)(T U:List Stp):bX (d+1) (T++U)=bX (d+1) T++bX (d+1) U:=by show List.flatMap _ _=_; rw[List.flatMap_append]; rfl
theorem jm{d:Nat}{T U:List Stp}(h:dG (d+1) T)(h':dG (d+1) U):dG (d+1) (T++U):=fun s hs=>(List.mem_append.mp hs).elim (h s) (h' s)
theorem ji{d:Nat}{s:Stp}(h:qy (dG d) s):dG (d+1) [s]:=fun u hu=>by rw[List.mem_singleton.mp hu]; exact h
theorem x5{st:BS}{d:Nat}(h:fB st d)(hne:st.stk≠[]):∃ d',fB (dz st) d':=by
 obtain⟨cur,stk,L,left,lends⟩:=st
 obtain⟨h1,h2,h3,h4,h5⟩:=h
 dsimp only at h1 h2 h3 h4 h5 hne
 cases stk with
 | nil=>exact absurd rfl hne
 | cons f r=>
  rw[List.map_cons,List.sum_cons]at h5
  rw[List.length_cons]at h1
  cases f with
  | lend x y up=>
   obtain⟨k1,k2,k3,k4⟩:=h4
   refine⟨d+1,⟨by show d+1+r.length=9; omega,?_,jm k3 (ji ⟨k1,k2,h3⟩),k4,?_⟩⟩
   ·show L++[("back" : Str)]=dw r (d+1)++bX (d+2) (up++[.lend x y cur])
    rw[jt,h2]
    simp[dw,bX,cF,List.append_assoc]
   ·show (up++[Stp.lend x y cur]).length+(r.map dU).sum≤(L++[("back" : Str)]).length
    simp only[List.length_append,List.length_cons,List.length_nil]
    have:dU (.lend x y up)=up.length:=rfl
    omega
  | whl n up=>
   obtain⟨k1,k3,k4⟩:=h4
   refine⟨d+1,⟨by show d+1+r.length=9; omega,?_,jm k3 (ji ⟨k1,h3⟩),k4,?_⟩⟩
   ·show L++[("done" : Str)]=dw r (d+1)++bX (d+2) (up++[.whl n cur])
    rw[jt,h2]
    simp[dw,bX,cF,List.append_assoc]
   ·show (up++[Stp.whl n cur]).length+(r.map dU).sum≤(L++[("done" : Str)]).length
    simp only[List.length_append,List.length_cons,List.length_nil]
    have:dU (.whl n up)=up.length:=rfl
    omega
  | inB n up=>
   obtain⟨k1,k3,k4⟩:=h4
   refine⟨d,⟨by show d+(r.length+1)=9; omega,?_,fun s hs=>absurd hs (by show ¬ s∈([]:List Stp); simp),⟨k1,h3,k3,k4⟩,?_⟩⟩
   ·show L++[("else" : Str)]=dw (.inC n cur up::r) d++bX (d+1) []
    rw[h2]
    simp[dw,bX,List.append_assoc]
   ·show 0+(((Frm.inC n cur up)::r).map dU).sum≤(L++[("else" : Str)]).length
    rw[List.map_cons,List.sum_cons]
    simp only[List.length_append,List.length_cons,List.length_nil]
    have:dU (.inC n cur up)=up.length:=rfl
    have:dU (.inB n up)=up.length:=rfl
    omega
  | inC n b up=>
   obtain⟨k1,k2,k3,k4⟩:=h4
   refine⟨d+1,⟨by show d+1+r.length=9; omega,?_,jm k3 (ji ⟨k1,k2,h3⟩),k4,?_⟩⟩
   ·show L++[("fi" : Str)]=dw r (d+1)++bX (d+2) (up++[.ite n b cur])
    rw[jt,h2]
    simp[dw,bX,cF,List.append_assoc]
   ·show (up++[Stp.ite n b cur]).length+(r.map dU).sum≤(L++[("fi" : Str)]).length
    simp only[List.length_append,List.length_cons,List.length_nil]
    have:dU (.inC n b up)=up.length:=rfl
    omega
def fR(H:Hp)(e:Addr)(q:Str × Addr):Prop:=H e=some (.tup [.str q.1,.ref q.2])
structure BInv (H0 H:Hp) (root lp pp here:Addr) (st:BS) (d:Nat) (pr:List (Str × Addr)) (S:Addr→Prop) (as es:List Addr):Prop where
 ctx:Ctx H S root st.stk pr d here
 pile:H pp=some (.lst (es.map V.ref))
 ents:Paired (fR H) es pr.reverse
 cur:H here=some (.lst (as.map V.ref))
 steps:Paired (stpAt (ProgAt S d H) H) as st.cur
 lines:H lp=some (.lst (st.L.map V.str))
 nd:(here::pr.map (·.2)).Nodup
 apart:∀ a∈here::pr.map (·.2),¬ S a∧a≠lp∧a≠pp∧H0 a=none∧∃ xs,H a=some (.lst xs)
 lpp:lp≠pp
 off:¬ S lp∧¬ S pp∧H0 lp=none∧H0 pp=none
 sin:∀ b,S b→∃ xs,H b=some (.lst xs)
 sm:Same H0 H
section
variable{H0 H H':Hp}{root lp pp here:Addr}{st:BS}{d:Nat}{pr:List (Str × Addr)}{S:Addr→Prop}{as es:List Addr}
theorem BInv.fr(I:BInv H0 H root lp pp here st d pr S as es)(fr:∀ b o,H b=some o→b≠here→b≠pp→b≠lp→H' b=some o) :
  (∀ b xs,H b=some (.tup xs)→H' b=some (.tup xs))∧(∀ b xs,S b→H b=some (.lst xs)→H' b=some (.lst xs))∧(∀ q∈pr,∀ xs,H q.2=some (.lst xs)→H' q.2=some (.lst xs))∧Same H0 H':=by
 have hh:=I.apart here List.mem_cons_self
 refine⟨fun b xs e=>fr b _ e ?_ ?_ ?_,fun b xs hs e=>fr b _ e ?_ ?_ ?_,fun q hq xs e=>fr _ _ e ?_ ?_ ?_,fun b o e=>fr b o (I.sm b o e) ?_ ?_ ?_⟩
 ·rintro rfl; rw[I.cur]at e; cases e
 ·rintro rfl; rw[I.pile]at e; cases e
 ·rintro rfl; rw[I.lines]at e; cases e
 ·rintro rfl; exact hh.1 hs
 ·rintro rfl; exact I.off.2.1 hs
 ·rintro rfl; exact I.off.1 hs
 ·intro z
  have:=(List.nodup_cons.mp I.nd).1
  exact this (z ▸ List.mem_map_of_mem hq)
 ·exact(I.apart _ (List.mem_cons_of_mem _ (List.mem_map_of_mem hq))).2.2.1
 ·exact(I.apart _ (List.mem_cons_of_mem _ (List.mem_map_of_mem hq))).2.1
 ·rintro rfl; rw[hh.2.2.2.1]at e; cases e
 ·rintro rfl; rw[I.off.2.2.2]at e; cases e
 ·rintro rfl; rw[I.off.2.2.1]at e; cases e
theorem BInv.new(I:BInv H0 H root lp pp here st d pr S as es){a:Addr}(ha:H a=none):a≠lp∧a≠pp∧¬ S a∧H0 a=none∧a∉here::pr.map (·.2):=by
 refine⟨?_,?_,fun z=>?_,I.sm.free ha,fun z=>?_⟩
 ·rintro rfl; rw[I.lines]at ha; cases ha
 ·rintro rfl; rw[I.pile]at ha; cases ha
 ·obtain⟨xs,e⟩:=I.sin a z; rw[ha]at e; cases e
 ·obtain⟨_,_,_,_,xs,e⟩:=I.apart a z; rw[ha]at e; cases e
theorem BInv.alloc(I:BInv H0 H root lp pp here st d pr S as es)(sm:Same H H'):BInv H0 H' root lp pp here st d pr S as es:=
 ⟨I.ctx.imp (fun b xs e=>sm _ _ e) (fun b xs _ e=>sm _ _ e) (fun _ z=>z) (fun q _ xs e=>sm _ _ e),sm _ _ I.pile,Paired.imp' (fun e q z=>sm _ _ z) I.ents,sm _ _ I.cur,Paired.imp' (fun a s z=>z.imp (fun b xs e=>sm _ _ e) fun q b y=>y.mono sm) I.steps,sm _ _ I.lines,I.nd,
  fun a ha=>let ⟨z1,z2,z3,z4,xs,z5⟩:=I.apart a ha; ⟨z1,z2,z3,z4,xs,sm _ _ z5⟩,I.lpp,I.off,fun b hb=>let ⟨xs,e⟩:=I.sin b hb; ⟨xs,sm _ _ e⟩,I.sm.trans sm⟩
theorem BInv.plain(I:BInv H0 H root lp pp here st d pr S as es)(fr:∀ b o,H b=some o→b≠here→b≠pp→b≠lp→H' b=some o){t:Addr}{ws:List Str}{L':List Str}(hh:H' here=some (.lst ((as++[t]).map V.ref)))(ht:H' t=some (.tup (ws.map V.str)))
  (hl:H' lp=some (.lst (L'.map V.str))) (hp:H' pp=some (.lst (es.map V.ref))) {lf ld:Int}:BInv H0 H' root lp pp here ⟨st.cur++[.plain ws],st.stk,L',lf,ld⟩ d pr S (as++[t]) es:=by
 obtain⟨f1,f2,f3,f4⟩:=I.fr fr
 refine⟨I.ctx.imp f1 f2 (fun _ z=>z) f3,hp,Paired.imp' (fun e q z=>f1 _ _ z) I.ents,hh,ci (R:=stpAt (ProgAt S d H') H') (show stpAt _ H' t (.plain ws) from ht) (Paired.imp' (fun a s z=>stpAt.imp f1 (fun q b y=>ProgAt.imp f1 f2 (fun _ z=>z) d y) z) I.steps),hl,I.nd,fun a ha=>?_,I.lpp,I.off,fun b hb=>let ⟨xs,e⟩:=I.sin b hb; ⟨xs,f2 _ _ hb e⟩,f4⟩
 obtain⟨z1,z2,z3,z4,xs,z5⟩:=I.apart a ha
 refine⟨z1,z2,z3,z4,?_⟩
 rcases List.mem_cons.mp ha with rfl | ha
 ·exact⟨_,hh⟩
 ·obtain⟨q,hq,rfl⟩:=List.mem_map.mp ha
  exact⟨xs,f3 q hq _ z5⟩
theorem BInv.open1(I:BInv H0 H root lp pp here st (d+1) pr S as es)(fr:∀ b o,H b=some o→b≠here→b≠pp→b≠lp→H' b=some o){t e inner:Addr}{word:Str}{L':List Str}{f:Frm}(hh:H' here=some (.lst ((as++[t]).map V.ref)))(hin:H inner=none)(hi:H' inner=some (.lst []))
  (hl:H' lp=some (.lst (L'.map V.str))) (hp:H' pp=some (.lst ((es++[e]).map V.ref))) (he:H' e=some (.tup [.str word,.ref here]))
  (hc:Ctx H' S root st.stk pr (d+1) here→Paired (stpAt (ProgAt S (d+1) H') H') as st.cur→Ctx H' S root (f::st.stk) ((word,here)::pr) d inner) {lf ld:Int} :
  BInv H0 H' root lp pp inner ⟨[],f::st.stk,L',lf,ld⟩ d ((word,here)::pr) S [] (es++[e]):=by
 obtain⟨f1,f2,f3,f4⟩:=I.fr fr
 obtain⟨n1,n2,n3,n4,n5⟩:=I.new hin
 refine⟨hc (I.ctx.imp f1 f2 (fun _ z=>z) f3) (Paired.imp' (fun a s z=>z.imp f1 fun q b y=>y.imp f1 f2 (fun _ z=>z) _) I.steps),hp,?_,hi,.nil,hl,?_,fun a ha=>?_,I.lpp,I.off,fun b hb=>let ⟨xs,e⟩:=I.sin b hb; ⟨xs,f2 _ _ hb e⟩,f4⟩
 ·rw[List.reverse_cons]
  exact ci (R:=fR H') (show fR H' e (word,here) from he) (Paired.imp' (fun e q z=>f1 _ _ z) I.ents)
 ·rw[List.map_cons]
  exact List.nodup_cons.mpr ⟨n5,I.nd⟩
 ·rw[List.map_cons]at ha
  rcases List.mem_cons.mp ha with rfl | ha
  ·exact⟨n3,n1,n2,n4,_,hi⟩
  obtain⟨z1,z2,z3,z4,xs,z5⟩:=I.apart a ha
  refine⟨z1,z2,z3,z4,?_⟩
  rcases List.mem_cons.mp ha with rfl | ha
  ·exact⟨_,hh⟩
  ·obtain⟨q,hq,rfl⟩:=List.mem_map.mp ha
   exact⟨xs,f3 q hq _ z5⟩
theorem BInv.open2(I:BInv H0 H root lp pp here st (d+1) pr S as es)(fr:∀ b o,H b=some o→b≠here→b≠pp→b≠lp→H' b=some o){t e e2 inner oth:Addr}{L':List Str}{n:Int}(hh:H' here=some (.lst ((as++[t]).map V.ref)))(hin:H inner=none)(hi:H' inner=some (.lst []))(hon:H oth=none)(ho:H' oth=some (.lst []))(hio:inner≠oth)
  (hl:H' lp=some (.lst (L'.map V.str))) (hp:H' pp=some (.lst ((es++[e,e2]).map V.ref))) (he:H' e=some (.tup [.str "fi", .ref here])) (he2:H' e2=some (.tup [.str "else", .ref oth])) (ht:H' t=some (.tup [.str "if", .int n,.ref inner,.ref oth])) {lf ld:Int} :
  BInv H0 H' root lp pp inner ⟨[],.inB n st.cur::st.stk,L',lf,ld⟩ d (("else", oth)::("fi", here)::pr) S [] (es++[e,e2]):=by
 obtain⟨f1,f2,f3,f4⟩:=I.fr fr
 obtain⟨n1,n2,n3,n4,n5⟩:=I.new hin
 obtain⟨m1,m2,m3,m4,m5⟩:=I.new hon
 refine⟨.inB (by rw[hh,List.map_append]; rfl) (Paired.imp' (fun a s z=>z.imp f1 fun q b y=>y.imp f1 f2 (fun _ z=>z) _) I.steps) ht ho (I.ctx.imp f1 f2 (fun _ z=>z) f3),hp,?_,hi,.nil,hl,?_,fun a ha=>?_,I.lpp,I.off,fun b hb=>let ⟨xs,e⟩:=I.sin b hb; ⟨xs,f2 _ _ hb e⟩,f4⟩
 ·rw[List.reverse_cons,List.reverse_cons,show es++[e,e2]=(es++[e])++[e2] by simp]
  exact ci (R:=fR H') (show fR H' e2 ("else", oth) from he2) (ci (R:=fR H') (show fR H' e ("fi", here) from he) (Paired.imp' (fun e q z=>f1 _ _ z) I.ents))
 ·rw[List.map_cons,List.map_cons]
  refine List.nodup_cons.mpr ⟨fun z=>?_,List.nodup_cons.mpr ⟨m5,I.nd⟩⟩
  rcases List.mem_cons.mp z with z | z
  ·exact hio z
  ·exact n5 z
 ·rw[List.map_cons,List.map_cons]at ha
  rcases List.mem_cons.mp ha with rfl | ha
  ·exact⟨n3,n1,n2,n4,_,hi⟩
  rcases List.mem_cons.mp ha with rfl | ha
  ·exact⟨m3,m1,m2,m4,_,ho⟩
  obtain⟨z1,z2,z3,z4,xs,z5⟩:=I.apart a ha
  refine⟨z1,z2,z3,z4,?_⟩
  rcases List.mem_cons.mp ha with rfl | ha
  ·exact⟨_,hh⟩
  ·obtain⟨q,hq,rfl⟩:=List.mem_map.mp ha
   exact⟨xs,f3 q hq _ z5⟩
theorem fS{α β : Type}{R:α→β→Prop}{x:α}{y:β}:∀ {xs:List α} {ys:List β},Paired R (xs++[x]) (ys++[y])→Paired R xs ys∧R x y
 | [],[],.cons h _=>⟨.nil,h⟩
 | [],b::ys,.cons h t=>by have:=ay t; simp at this
 | a::xs,[],.cons h t=>by have:=ay t; simp at this
 | a::xs,b::ys,.cons h t=>let ⟨z1,z2⟩:=fS t; ⟨.cons h z1,z2⟩
theorem BInv.pop{w:Str}{up e:Addr}{pr':List (Str × Addr)}(I:BInv H0 H root lp pp here st d ((w,up)::pr') S as (es++[e]))(fr:∀ b o,H b=some o→b≠pp→b≠lp→H' b=some o)(hp:H' pp=some (.lst (es.map V.ref)))(hl:H' lp=some (.lst ((st.L++[w]).map V.str))) :
  ∃ d' as',BInv H0 H' root lp pp up (dz st) d' pr' (fun b=>S b∨b=here) as' es:=by
 obtain⟨f1,f2,f3,f4⟩:=I.fr fun b o e _ n1 n2=>fr b o e n1 n2
 have hh:=I.apart here List.mem_cons_self
 have hcur:H' here=some (.lst (as.map V.ref)):=fr _ _ I.cur hh.2.2.1 hh.2.1
 have hS:∀ b,S b→S b∨b=here:=fun b z=>.inl z
 have hents:Paired (fR H') es pr'.reverse:=by
  have:=I.ents
  rw[List.reverse_cons]at this
  exact Paired.imp' (fun e q z=>f1 _ _ z) (fS this).1
 have hnd:=I.nd
 rw[List.map_cons]at hnd
 have hnd2:=(List.nodup_cons.mp hnd).2
 have hnh:=(List.nodup_cons.mp hnd).1
 have hap:∀ a∈up::pr'.map (·.2),¬ (S a∨a=here)∧a≠lp∧a≠pp∧H0 a=none∧∃ xs,H' a=some (.lst xs):=fun a ha=>by
  obtain⟨z1,z2,z3,z4,xs,z5⟩:=I.apart a (by rw[List.map_cons]; exact List.mem_cons_of_mem _ ha)
  refine⟨fun z=>z.elim z1 fun z=>hnh (z ▸ ha),z2,z3,z4,xs,fr _ _ z5 z3 z2⟩
 have hoff:¬ (S lp∨lp=here)∧¬ (S pp∨pp=here)∧H0 lp=none∧H0 pp=none:=⟨fun z=>z.elim I.off.1 fun z=>hh.2.1 z.symm,fun z=>z.elim I.off.2.1 fun z=>hh.2.2.1 z.symm,I.off.2.2⟩
 have hsin:∀ b,S b∨b=here→∃ xs,H' b=some (.lst xs):=fun b z=>by
  rcases z with z | rfl
  ·obtain⟨xs,e⟩:=I.sin b z; exact⟨xs,f2 _ _ z e⟩
  ·exact⟨_,hcur⟩
 have hst:∀ {d:Nat} {as:List Addr} {us:List Stp},Paired (stpAt (ProgAt S d H) H) as us→Paired (stpAt (ProgAt (fun b=>S b∨b=here) d H') H') as us:=fun {d as us} h=>Paired.imp' (fun a s z=>stpAt.imp f1 (fun q b y=>ProgAt.imp f1 f2 hS d y) z) h
 have hprog:∀ d',d'=d→ProgAt (fun b=>S b∨b=here) (d'+1) H' here st.cur:=fun d' e=>by subst e; exact⟨.inr rfl,as,hcur,hst I.steps⟩
 have f3':∀ q∈pr',∀ xs,H q.2=some (.lst xs)→H' q.2=some (.lst xs):=fun q hq=>f3 q (List.mem_cons_of_mem _ hq)
 have hup:∀ xs,H up=some (.lst xs)→H' up=some (.lst xs):=fun xs=>f3 (w,up) List.mem_cons_self xs
 have hctx:=I.ctx
 have hsm:=f4
 have hlpp:=I.lpp
 clear I
 obtain⟨cur,stk,L,left,lends⟩:=st
 dsimp only at hctx hl hprog
 cases hctx with
 | @lend x y us r _ _ _ _ t aus h1 h2 h3 h4=>
  refine⟨d+1,aus++[t],⟨h4.imp f1 f2 hS f3',hp,hents,by rw[hup _ h1,List.map_append]; rfl,?_,hl,hnd2,hap,hlpp,hoff,hsin,hsm⟩⟩
  exact ci (R:=stpAt (ProgAt (fun b=>S b∨b=here) (d+1) H') H') (x:=t) (y:=.lend x y cur) ⟨here,f1 _ _ h3,hprog d rfl⟩ (hst h2)
 | @whl n us r _ _ _ _ t aus h1 h2 h3 h4=>
  refine⟨d+1,aus++[t],⟨h4.imp f1 f2 hS f3',hp,hents,by rw[hup _ h1,List.map_append]; rfl,?_,hl,hnd2,hap,hlpp,hoff,hsin,hsm⟩⟩
  exact ci (R:=stpAt (ProgAt (fun b=>S b∨b=here) (d+1) H') H') (x:=t) (y:=.whl n cur) ⟨here,f1 _ _ h3,hprog d rfl⟩ (hst h2)
 | @inB n us r pr2 _ _ up2 t _ aus h1 h2 h3 h4 h5=>
  refine⟨d,[],⟨.inC (f3' (_,up2) List.mem_cons_self _ h1) (hst h2) (f1 _ _ h3) (hprog d rfl) (h5.imp f1 f2 hS fun q hq=>f3' q (List.mem_cons_of_mem _ hq)),hp,hents,hup _ h4,.nil,hl,hnd2,hap,hlpp,hoff,hsin,hsm⟩⟩
 | @inC n b us r _ _ _ _ t bq aus h1 h2 h3 h4 h5=>
  refine⟨d+1,aus++[t],⟨h5.imp f1 f2 hS f3',hp,hents,by rw[hup _ h1,List.map_append]; rfl,?_,hl,hnd2,hap,hlpp,hoff,hsin,hsm⟩⟩
  exact ci (R:=stpAt (ProgAt (fun b=>S b∨b=here) (d+1) H') H') (x:=t) (y:=.ite n b cur) ⟨bq,here,f1 _ _ h3,h4.imp f1 f2 hS _,hprog d rfl⟩ (hst h2)
theorem BInv.line(I:BInv H0 H root lp pp here st d pr S as es)(L':List Str){lf ld:Int}:BInv H0 (upd H lp (.lst (L'.map V.str))) root lp pp here ⟨st.cur,st.stk,L',lf,ld⟩ d pr S as es:=by
 obtain⟨_,hhl,hhp,_,_⟩:=I.apart here List.mem_cons_self
 have fr:∀ b o,H b=some o→b≠lp→upd H lp (.lst (L'.map V.str)) b=some o:=fun b o e n=>by rw[af n]; exact e
 obtain⟨f1,f2,f3,f4⟩:=I.fr (H':=upd H lp (.lst (L'.map V.str))) fun b o e _ _ n=>fr b o e n
 refine⟨I.ctx.imp f1 f2 (fun _ z=>z) f3,fr _ _ I.pile (Ne.symm I.lpp),Paired.imp' (fun e q z=>f1 _ _ z) I.ents,fr _ _ I.cur hhl,Paired.imp' (fun a s z=>stpAt.imp f1 (fun q b y=>ProgAt.imp f1 f2 (fun _ z=>z) d y) z) I.steps,ah,I.nd,fun a ha=>?_,I.lpp,I.off,fun b hb=>let ⟨xs,e⟩:=I.sin b hb; ⟨xs,f2 _ _ hb e⟩,f4⟩
 obtain⟨z1,z2,z3,z4,xs,z5⟩:=I.apart a ha
 exact⟨z1,z2,z3,z4,xs,fr _ _ z5 z2⟩
end
section
variable{P:Program}{w:World}{K:PySem.W.Frag}{mg:Str→Option Value}{base:Heap}
theorem iy{ss:List Str}{z:Int}{n:Nat}(h0:1≤z)(h1:z≤n)(hn:ss.length=n)(hb:∀ x∈ss,x.length≤20):1≤(ss.take z.toNat).length∧((ss.take z.toNat).length:Int)=z∧∀ x∈ss.take z.toNat,x.length≤20:=by
 refine⟨?_,?_,fun x hx=>hb x (List.mem_of_mem_take hx)⟩ <;> rw[List.length_take] <;> omega
theorem gR{x:Str}{lo hi:Option Int}{P:Nat→Prop}(h:∀ c∈x.cps.toList,P c):∀ c∈(Txt.slice x lo hi).cps.toList,P c:=fun c hc=>by
 rw[uz]at hc
 exact h c (List.mem_of_mem_drop (List.mem_of_mem_take hc))
theorem qu{x:Str}(h:∀ c∈x.cps.toList,c∈letters.cps.toList):32∉x.cps.toList:=fun z=>absurd (h 32 z) (by decide)
def i7(z:Int):Nat:=letters.cps.toList.getD (z % 26).toNat 0
theorem gk(z:Int):letters.length≤sizeLine∧cY letters.cps.toList (z % 26)=some (i7 z)∧i7 z∈letters.cps.toList:=by
 obtain⟨c,h1,h2,h3⟩:=sQ z
 have hz:(z % 26).toNat<letters.cps.toList.length:=by show (z % 26).toNat<26; omega
 have q:=bM (List.getElem?_eq_getElem hz)
 rw[show (((z % 26).toNat:Nat):Int)=z % 26 by omega,h2]at q
 have e:i7 z=c:=by
  unfold i7
  rw[List.getD_eq_getElem?_getD,List.getElem?_eq_getElem hz]
  exact(Option.some.inj q).symm
 rw[e]
 exact⟨h1,h2,h3⟩
def gw(c:Int)(k:Nat):Nat:=i7 (c / (0+(k:Int)+1)+(0+(k:Int)) * (0+(k:Int)) * c)
def gC(c:Int):Str:=Txt.join "" (((List.range 8).map (gw c)).map fun c=>(⟨#[c]⟩ : Str))
def wI(c:Int)(k:Nat):Str:=Txt.slice (gC c) none (some (c / 32 % (1+c / 4 % 8)))++(⟨#[i7 (c / 256+9 * (0+(k:Int)))]⟩ : Str)++Txt.slice (gC c) (some (c / 32 % (1+c / 4 % 8)+1)) (some (1+c / 4 % 8))
def iD(c:Int):List Str:=if c % 4=1 then (["open", "lend", "back", "end"]:List Str).take (1+c / 3 % 4).toNat
 else if c % 4=2 then [Txt.slice (gC c) none (some 2),Txt.slice (gC c) none (some 3),Txt.slice (gC c) none (some 8),Txt.slice (gC c) none (some 7)].take (1+c / 3 % 4).toNat
 else (List.range (1+c / 3 % 4).toNat).map (wI c)
def oq:Sp:=fun vs H Q _=>∃ c:Int,vs=[.int c]∧∀ (L:Addr) (H':Hp),Same H H'→H L=none→H' L=some (.lst ((iD c).map V.str))→1≤(iD c).length→(iD c).length≤7→(∀ x∈iD c,x.length≤20)→(∀ x∈iD c,32∉x.cps.toList)→Q (.ref L) H'
theorem vx(D:DefAt K mg "_law_names" ax) (z_range:mg "range" = none):aV P w K mg base 1 "_law_names" ["_law_cell"] oq:=by
 refine D.cal sc_law_names (fun _ _ _ _ _ _ us hl=>match us,hl with | [_],_=>rfl) (fun vs H Q E h=>by obtain⟨c,rfl,_⟩:=h; rfl) (fun f cdv A outer s H vs Q E hr h=>?_)
 obtain⟨c,rfl,q0⟩:=h
 have q:∀ (L:Addr) (H':Hp) (ns:List Str),ns=iD c→Same H H'→H L=none→H' L=some (.lst (ns.map V.str))→1≤ns.length→ns.length≤7→(∀ x∈ns,x.length≤20)→(∀ x∈ns,32∉x.cps.toList)→Q (.ref L) H':=fun L H' ns e=>by subst e; exact q0 L H'
 refine⟨_,(aj (aw 1 sc_law_names.nd aB (hx:=BE))
   (aj (aw 2 sc_law_names.nd (bt K PySem.F.plainAttrs_str PySem.F.slot_str_join PySem.F.type_str_join (oQ K) aB (aa (fq (CompSc.to (fsc:=(defScope ax)) (N:=["_law_cell", "_law_letters", "_law_base", "_law_many", "_law_size", "_law_at", "_law_found", "_law_k", "_law_sign"]) (N0:=["_law_cell", "_law_letters", "_law_base", "_law_many", "_law_size", "_law_at", "_law_found", "_law_k'", "_law_sign"]) (T:=["_law_k"]) ⟨by decide +kernel,by decide +kernel,by decide +kernel,by decide +kernel,by decide +kernel,by decide +kernel,by decide +kernel⟩ rfl rfl) rfl (lI zc z_range (aa ak ae)) (fun _ _ _ _=>(bH 9 (show (["_law_cell", "_law_letters", "_law_base", "_law_many", "_law_size", "_law_at", "_law_found", "_law_k'", "_law_sign", "_law_k"]:List Str).Nodup from by decide +kernel) (hx:=(i0 (defScope ax) (by decide +kernel))) (hf:=nQ (defScope ax) (by decide +kernel)))) (dY (show (["_law_cell", "_law_letters", "_law_base", "_law_many", "_law_size", "_law_at", "_law_found", "_law_k", "_law_sign"]:List Str).length≤9 from by decide)) (fun _ _ _ _=>iW) (fun _ _ _ _=>(aI (ba K) (pv 1 (hv:=(dZ (defScope ax) (by decide +kernel)))) (ar b9 (ar az (ar ft (pv 0 (hv:=(dZ (defScope ax) (by decide +kernel)))) (ar az (pv 9 (hv:=(dZ (defScope ax) (by decide +kernel)))) ak)) (ar eK (ar eK (pv 9 (hv:=(dZ (defScope ax) (by decide +kernel)))) (pv 9 (hv:=(dZ (defScope ax) (by decide +kernel))))) (pv 0 (hv:=(dZ (defScope ax) (by decide +kernel)))))) ak) (fun _ _=>rfl)))) ae)) (hx:=Cg))
   (aj (aw 3 sc_law_names.nd (ar az ak (ar b9 (ar ft (pv 0 (hv:=jM)) ak) ak)) (hx:=Bm))
   (aj (bQ (aH cm (ar b9 (pv 0 (hv:=jM)) ak) ak (aM _)) (ao (aD (ck (iQ K) (bC (aa aB (aa aB (aa aB (aa aB ae))))) cQ (cn (pv 3 (hv:=vb)))))) bA)
   (aj (bQ (aH cm (ar b9 (pv 0 (hv:=jM)) ak) ak (aM _)) (ao (aD (ck (iQ K) (bC (aa (ck f_ (pv 2 (hv:=jH)) cQ (cn ak)) (aa (ck f_ (pv 2 (hv:=jH)) cQ (cn ak)) (aa (ck f_ (pv 2 (hv:=jH)) cQ (cn ak)) (aa (ck f_ (pv 2 (hv:=jH)) cQ (cn ak)) ae))))) cQ (cn (pv 3 (hv:=vb)))))) bA)
   (aj (aw 4 sc_law_names.nd (ar az ak (ar b9 (ar ft (pv 0 (hv:=jM)) ak) ak)) (hx:=Be))
   (aj (aw 5 sc_law_names.nd (ar b9 (ar ft (pv 0 (hv:=jM)) ak) (pv 4 (hv:=yw))) (hx:=BC))
   (aj (aw 6 sc_law_names.nd (bC ae) (hx:=Bg))
   (aj (df PassesOwn.never rfl (lI zc z_range (aa (pv 3 (hv:=vb)) ae)) (bH 7 sc_law_names.nd (hx:=A9)) (aj (aw 8 sc_law_names.nd (aI (ba K) (pv 1 (hv:=B7)) (ar b9 (ar az (ar ft (pv 0 (hv:=jM)) ak) (ar eK ak (pv 7 (hv:=Ci)))) ak) (fun _ _=>rfl)) (hx:=Ba))
   (ao (bm (bt K PySem.F.plainAttrs_list PySem.F.slot_list_append PySem.F.type_list_append a_ (pv 6 (hv:=zy)) (aa (ar az (ar az (ck f_ (pv 2 (hv:=jH)) cQ (cn (pv 5 (hv:=zP)))) (pv 8 (hv:=Bw))) (ck f_ (pv 2 (hv:=jH)) (cn (ar az (pv 5 (hv:=zP)) ak)) (cn (pv 4 (hv:=yw))))) ae))))))
   (ao (aD (pv 6 (hv:=zy))))))))))))),?_⟩
 walk_at "rd1"
 walk_at "nx"
 refine⟨by decide,by decide,fun C hC=>?_⟩
 refine oY (fun i ys H'=>Same H H'∧H' C=some (.lst ys)∧ys=((List.range i).map (gw c)).map (fun c=>V.str ⟨#[c]⟩)) ⟨am hC _,ah,rfl⟩ ?_ ?_
 ·rintro i ys H' hi ⟨sm,hl,rfl⟩
  have hi8:i<8:=hi
  walk_at "rd1"
  obtain⟨z1,z2,z3⟩:=gk (c / (0+(i:Int)+1)+(0+(i:Int)) * (0+(i:Int)) * c)
  have h49:(0+(i:Int)) * (0+(i:Int))≤49:=by
   have:=Nat.mul_le_mul (show i≤7 by omega) (show i≤7 by omega)
   have e:(0+(i:Int)) * (0+(i:Int))=((i * i:Nat):Int):=by rw[Int.zero_add]; push_cast; rfl
   rw[e]; omega
  have h0:0≤(0+(i:Int)) * (0+(i:Int)):=Int.mul_nonneg (by omega) (by omega)
  refine⟨⟨by omega,by omega⟩,.inl ⟨by omega,by omega⟩,.inl ⟨by omega,by omega⟩,by decide,_,z1,z2,?_⟩
  refine rf hi (by simp) (bg (by show 8≤1000000; decide)) hl ⟨sm.upd hC _,ah,by rw[List.range_succ,List.map_append,List.map_append]; rfl⟩
 ·rintro ys H1 ⟨sm1,hl1,rfl⟩
  have hlt:∀ d∈(List.range 8).map (gw c),d∈letters.cps.toList:=fun d hd=>by obtain⟨k,_,rfl⟩:=List.mem_map.mp hd; exact(gk _).2.2
  have hn8:((List.range 8).map (gw c)).length=8:=by simp
  have hl1:H1 C=some (.lst (((List.range 8).map (gw c)).map (fun c=>V.str ⟨#[c]⟩))):=hl1
  have hbF:Txt.join "" (((List.range 8).map (gw c)).map fun c=>(⟨#[c]⟩ : Str))=gC c:=rfl
  generalize (List.range 8).map (gw c)=cs at hl1 hlt hn8 hbF ⊢
  walk_at "rd1"
  have hmm:cs.map (fun c=>V.str ⟨#[c]⟩)=(cs.map fun c=>(⟨#[c]⟩ : Str)).map V.str:=by rw[List.map_map]; rfl
  rw[hmm]at hl1
  have h1l:(Str.ofString "").length=0:=by decide
  refine⟨_,SqL.of hl1,?_,?_⟩
  ·rw[h1l]
   have:=fe 1 (cs.map fun c=>(⟨#[c]⟩ : Str)) (fun s hs=>by obtain⟨c,_,rfl⟩:=List.mem_map.mp hs; exact Nat.le_refl _)
   rw[List.length_map]at this ⊢
   omega
  have hbl:(Txt.join "" (cs.map fun c=>(⟨#[c]⟩ : Str))).length=8:=by rw[v6]; exact hn8
  have hbm:∀ c∈(Txt.join "" (cs.map fun c=>(⟨#[c]⟩ : Str))).cps.toList,c∈letters.cps.toList:=by rw[nG]; exact hlt
  generalize Txt.join "" (cs.map fun c=>(⟨#[c]⟩ : Str))=bs at hbl hbm hbF ⊢
  have bsz:bs.length≤sizeLine:=by rw[hbl]; exact bg (by decide)
  have hsl:∀ l u,(Txt.slice bs l u).length≤8:=fun l u=>hbl ▸ Txt.slice_le bs l u
  walk_at "nx"
  refine⟨⟨by decide,by decide⟩,by decide,?_⟩
  generalize hmy:1+c / 3 % 4=many
  have m1:1≤many:=by omega
  have m4:many≤4:=by omega
  walk_at "nx"
  refine⟨by decide,bF (fun c1=>?_) (fun c1=>?_)⟩
  ·refine⟨by decide,fun l hl=>⟨_,SqL.of ah,fun r hr'=>?_⟩⟩
   have sl:=am hl (.lst [V.str "open", .str "lend", .str "back", .str "end"])
   obtain⟨t1,t2,t3⟩:=iy (ss:=["open", "lend", "back", "end"]) (n:=4) m1 m4 rfl (by decide)
   exact q r _ _ (by unfold iD; rw[if_pos c1,hmy]) (sm1.trans (sl.trans (am hr' _))) (sm1.free (sl.free hr')) (by rw[ah]; exact congrArg (fun z=>some (HO.lst z)) (nu ["open", "lend", "back", "end"] (by omega))) t1 (by omega) t3 (fun x hx=>(by decide:∀ x∈(["open", "lend", "back", "end"]:List Str),32∉x.cps.toList) x (List.mem_of_mem_take hx))
  walk_at "nx"
  refine⟨by decide,bF (fun c2=>?_) (fun c2=>?_)⟩
  ·refine⟨bsz,bsz,bsz,bsz,by decide,fun l hl=>⟨_,SqL.of ah,fun r hr'=>?_⟩⟩
   have sl:=am hl (.lst ([Txt.slice bs none (some 2),Txt.slice bs none (some 3),Txt.slice bs none (some 8),Txt.slice bs none (some 7)].map V.str))
   obtain⟨t1,t2,t3⟩:=iy (ss:=[Txt.slice bs none (some 2),Txt.slice bs none (some 3),Txt.slice bs none (some 8),Txt.slice bs none (some 7)]) (n:=4) m1 m4 rfl (by
    intro x hx
    simp only[List.mem_cons,List.mem_nil_iff,or_false]at hx
    rcases hx with rfl | rfl | rfl | rfl <;> exact Nat.le_trans (hsl _ _) (by decide))
   exact q r _ _ (by unfold iD; rw[if_neg c1,if_pos c2,hmy,← hbF]) (sm1.trans (sl.trans (am hr' _))) (sm1.free (sl.free hr')) (by rw[ah]; exact congrArg (fun z=>some (HO.lst z)) (nu [Txt.slice bs none (some 2),Txt.slice bs none (some 3),Txt.slice bs none (some 8),Txt.slice bs none (some 7)] (by omega))) t1 (by omega) t3 (fun x hx=>by
    have hx:=List.mem_of_mem_take hx
    simp only[List.mem_cons,List.mem_nil_iff,or_false]at hx
    rcases hx with rfl | rfl | rfl | rfl <;> exact qu (gR hbm))
  walk_at "nx"
  refine⟨⟨by decide,by decide⟩,by decide,?_⟩
  generalize hsz:1+c / 4 % 8=sz
  have s1:1≤sz:=by omega
  walk_at "nx"
  refine⟨⟨by decide,by decide⟩,by omega,?_⟩
  generalize hat9:c / 32 % sz=at9
  walk_at "nx"
  refine⟨by decide,fun fp hfp=>?_⟩
  generalize hH2:upd H1 fp _=H2
  have sm2:=eR hH2 hfp
  have e2:=gD hH2
  walk_at "nx"
  refine⟨by omega,by omega,?_⟩
  refine rH (fun i σ H'=>∃ (ss:List Str) (o7 o8:Option V),σ=[some (.int c),some (.str letters),some (.str bs),some (.int many),some (.int sz),some (.int at9),some (.ref fp),o7,o8]∧Same H H'∧H' fp=some (.lst (ss.map V.str))∧ss=(List.range i).map (wI c)∧ss.length=i∧(∀ x∈ss,x.length≤20)∧∀ x∈ss,32∉x.cps.toList)
   ⟨[],none,none,rfl,sm1.trans sm2,e2,rfl,rfl,by simp,by simp⟩ ?_ ?_
  ·rintro i σ H' hi ⟨ss,o7,o8,rfl,sm,hl,hss,hn',hb,hf⟩
   walk_at "rd1"
   obtain⟨z1,z2,z3⟩:=gk (c / 256+9 * (0+(i:Int)))
   generalize hc':i7 (c / 256+9 * (0+(i:Int)))=c' at z2 z3
   have hel:Txt.slice bs none (some at9)++(⟨#[c']⟩ : Str)++Txt.slice bs (some (at9+1)) (some sz)=wI c i:=by unfold wI; rw[← hbF,hsz,hat9,hc']
   refine⟨⟨by decide,by decide⟩,.inl ⟨by decide,by decide⟩,by decide,c',z1,z2,?_⟩
   walk_at "nx"
   have l1:=hsl none (some at9)
   have l2:=hsl (some (at9+1)) (some sz)
   have la:((Txt.slice bs none (some at9))++(⟨#[c']⟩ : Str)).length≤9:=by rw[vB]; omega
   have lb:((Txt.slice bs none (some at9))++(⟨#[c']⟩ : Str)++Txt.slice bs (some (at9+1)) (some sz)).length≤17:=by rw[Str.length_append]; omega
   refine⟨⟨_,SqL.of hl⟩,bsz,?_,bsz,?_,_,hl,by rw[List.length_map]; exact bO (by omega),?_⟩
   ·rw[Str.length_append]at la; exact bg (by omega)
   ·rw[Str.length_append]at lb; exact bg (by omega)
   refine⟨ss++[_],_,_,rfl,sm.upd (sm1.free hfp) _,by rw[ah,List.map_append]; rfl,by rw[List.range_succ,List.map_append,← hss,hel]; rfl,by simp[hn'],fun x hx=>?_,fun x hx=>?_⟩
   ·rcases List.mem_append.mp hx with z | z
    ·exact hb x z
    ·rw[List.mem_singleton.mp z]; omega
   ·rcases List.mem_append.mp hx with z | z
    ·exact hf x z
    ·rw[List.mem_singleton.mp z]
     refine qu fun d hd=>?_
     rw[fj,fj,List.mem_append,List.mem_append]at hd
     rcases hd with (hd | hd) | hd
     ·exact gR hbm d hd
     ·have:d=c':=by simpa using hd
      rw[this]; exact z3
     ·exact gR hbm d hd
  ·rintro σ H' ⟨ss,o7,o8,rfl,sm,hl,hss,hn',hb,hf⟩
   walk_at "nx"
   exact q fp H' ss (by rw[hss]; unfold iD; rw[if_neg c1,if_neg c2,hmy]) sm (sm1.free hfp) hl (by omega) (by omega) hb hf
def cE(c:Int):Int:=if c * 16807 % 65537 % 4<2 then c / 15 % 9 - 4 else if c * 16807 % 65537 % 4=2 then c % 10 ^ 60 else 0 - c % 10 ^ 60
theorem nn{n:Int}(h:-(10 ^ 61)<n)(h':n<10 ^ 61):n.natAbs.log2<1920:=by
 have hb:n.natAbs<2 ^ 1920:=Nat.lt_of_lt_of_le (show n.natAbs<10 ^ 61 by omega) (by decide)
 by_cases h0:n.natAbs=0
 ·rw[h0]; decide
 ·exact(Nat.log2_lt h0).mpr hb
theorem iR(c:Int):(cE c).natAbs.log2<1920:=by
 unfold cE
 split
 ·exact nn (by omega) (by omega)
 split
 ·exact nn (by omega) (by omega)
 ·exact nn (by omega) (by omega)
def qt:Sp:=fun vs H Q _=>∃ c:Int,vs=[.int c]∧Q (.int (cE c)) H
theorem vf(D:DefAt K mg "_law_bound" cx):aV P w K mg base 1 "_law_bound" ["_law_cell"] qt:=by
 refine D.cal sc_law_bound (fun _ _ _ _ _ _ us hl=>match us,hl with | [_],_=>rfl) (fun vs H Q E h=>by obtain⟨c,rfl,_⟩:=h; rfl) (fun f cdv A outer s H vs Q E hr h=>?_)
 obtain⟨c,rfl,q⟩:=h
 refine⟨_,(aj (aw 1 sc_law_bound.nd (ar b9 (ar b9 (ar eK (pv 0 (hv:=rs)) ak) ak) ak) (hx:=BB))
   (aj (bQ (aH dR (pv 1 (hv:=yh)) ak (aM _)) (ao (aD (ar fW (ar b9 (ar ft (pv 0 (hv:=rs)) ak) ak) ak))) bA)
   (aj (bQ (aH cm (pv 1 (hv:=yh)) ak (aM _)) (ao (aD (ar b9 (pv 0 (hv:=rs)) (ar tj ak ak)))) bA)
   (ao (aD (ar fW ak (ar b9 (pv 0 (hv:=rs)) (ar tj ak ak)))))))),?_⟩
 unfold cE at q
 walk_at "rd1"
 refine⟨.inr ⟨by decide,by decide⟩,by decide,by decide,?_⟩
 walk_at "nx"
 refine bF (fun c1=>?_) (fun c1=>?_)
 ·rw[if_pos c1]at q
  exact⟨⟨by decide,by decide⟩,by decide,q⟩
 rw[if_neg c1]at q
 walk_at "nx"
 refine bF (fun c1=>?_) (fun c1=>?_)
 ·rw[if_pos c1]at q
  exact⟨⟨by decide,by decide,by decide⟩,by decide,q⟩
 rw[if_neg c1]at q
 walk_at "nx"
 exact⟨⟨by decide,by decide,by decide⟩,by decide,q⟩
abbrev iL:List Str:=["read", "lend", "back", "open", "end", "write"]
def pk(nm:List Str)(z:Int):Str:=nm.getD (z % (nm.length:Int)).toNat ""
theorem em{nm:List Str}(hn:1≤nm.length)(z:Int):pk nm z∈nm∧cY (nm.map V.str) (z % (nm.length:Int))=some (.str (pk nm z)):=by
 have h0:0≤z % (nm.length:Int):=Int.emod_nonneg _ (by omega)
 have h1:z % (nm.length:Int)<nm.length:=Int.emod_lt_of_pos _ (by omega)
 have hlt:(z % (nm.length:Int)).toNat<nm.length:=by omega
 have e:pk nm z=nm[(z % (nm.length:Int)).toNat]:=by unfold pk; rw[List.getD_eq_getElem?_getD,List.getElem?_eq_getElem hlt]; rfl
 rw[e]
 exact⟨List.getElem_mem hlt,ub h0 (List.getElem?_eq_getElem hlt)⟩
def xB(nm:List Str)(c:Int):Str:=pk nm (c * 48271 % 1009)
def yB(nm:List Str)(c:Int):Str:=pk nm (c * 69621 % 2003)
def cW(nm:List Str)(c:Int):List Str:=
 if c % 15<3 then ["open", xB nm c] else if c % 15=3 then ["copy", xB nm c,yB nm c] else if c % 15=4 then ["drop", xB nm c] else if c % 15=5 then ["tie", xB nm c,yB nm c] else ["do", pk (iL++nm) (c * 40692 % 4001),xB nm c]
structure NmOk (nm:List Str):Prop where
 n1:1≤nm.length
 n7:nm.length≤7
 len:∀ x∈nm,x.length≤20
theorem NmOk.xl{nm:List Str}(h:NmOk nm)(c:Int):(xB nm c).length≤20:=h.len _ (em h.n1 _).1
theorem NmOk.yl{nm:List Str}(h:NmOk nm)(c:Int):(yB nm c).length≤20:=h.len _ (em h.n1 _).1
theorem NmOk.ex{nm:List Str}(h:NmOk nm):1≤(iL++nm).length∧∀ u∈iL++nm,u.length≤20:=by
 refine⟨by rw[List.length_append]; have:=h.n1; omega,fun u hu=>?_⟩
 rcases List.mem_append.mp hu with z | z
 ·exact(by decide:∀ u∈iL,u.length≤20) u z
 ·exact h.len u z
theorem wb{nm:List Str}(h:NmOk nm)(c:Int):fv (cW nm c):=by
 have xl:=h.xl c
 have yl:=h.yl c
 have wl:=h.ex.2 _ (em h.ex.1 (c * 40692 % 4001)).1
 have two:∀ (k:Str),k∈cO→k.length≤20→fv [k,xB nm c]:=fun k h1 h2=>⟨by simp,by simp,h1,fun z hz=>by
  simp only[List.mem_cons,List.mem_nil_iff,or_false]at hz
  rcases hz with rfl | rfl <;> assumption⟩
 have three:∀ (k u v:Str),k∈cO→k.length≤20→u.length≤20→v.length≤20→fv [k,u,v]:=fun k u v h1 h2 h3 h4=>⟨by simp,by simp,h1,fun z hz=>by
  simp only[List.mem_cons,List.mem_nil_iff,or_false]at hz
  rcases hz with rfl | rfl | rfl <;> assumption⟩
 unfold cW
 split
 ·exact two "open" (by decide) (by decide)
 split
 ·exact three "copy" _ _ (by decide) (by decide) xl yl
 split
 ·exact two "drop" (by decide) (by decide)
 split
 ·exact three "tie" _ _ (by decide) (by decide) xl yl
 ·exact three "do" _ _ (by decide) (by decide) wl xl
def uw:Sp:=fun vs H Q _=>∃ (c:Int) (a:Addr) (nm:List Str),vs=[.int c,.str (xB nm c),.str (yB nm c),.ref a]∧H a=some (.lst (nm.map V.str))∧NmOk nm∧
 ∀ (t:Addr) (H':Hp),Same H H'→H t=none→H' t=some (.tup ((cW nm c).map V.str))→Q (.ref t) H'
theorem xG(D:DefAt K mg "_law_step" bJ) (z_len:mg "len" = none):aV P w K mg base 1 "_law_step" ["_law_cell", "_law_x", "_law_y", "_law_names_here"] uw:=by
 refine D.cal sc_law_step (fun _ _ _ _ _ _ us hl=>match us,hl with | [_,_,_,_],_=>rfl) (fun vs H Q E h=>by obtain⟨c,a,ns,rfl,_⟩:=h; rfl) (fun f cdv A outer s H vs Q E hr h=>?_)
 obtain⟨c,a,ns,rfl,ha,ok,q⟩:=h
 obtain⟨n1,n7,hb⟩:=id ok
 refine⟨_,(aj (aw 4 sc_law_step.nd (ar b9 (pv 0 (hv:=yr)) ak) (hx:=CA))
   (aj (bQ (aH dR (pv 4 (hv:=qS)) ak (aM _)) (ao (aD (bE (aa aB (aa (pv 1 (hv:=m9)) ae))))) bA)
   (aj (bQ (aH cm (pv 4 (hv:=qS)) ak (aM _)) (ao (aD (bE (aa aB (aa (pv 1 (hv:=m9)) (aa (pv 2 (hv:=yb)) ae)))))) bA)
   (aj (bQ (aH cm (pv 4 (hv:=qS)) ak (aM _)) (ao (aD (bE (aa aB (aa (pv 1 (hv:=m9)) ae))))) bA)
   (aj (bQ (aH cm (pv 4 (hv:=qS)) ak (aM _)) (ao (aD (bE (aa aB (aa (pv 1 (hv:=m9)) (aa (pv 2 (hv:=yb)) ae)))))) bA)
   (aj (aw 5 sc_law_step.nd (ar az (bC (aa aB (aa aB (aa aB (aa aB (aa aB (aa aB ae))))))) (pv 3 (hv:=CW))) (hx:=Cp))
   (ao (aD (bE (aa aB (aa (aI (ba K) (pv 5 (hv:=Af)) (ar b9 (ar b9 (ar eK (pv 0 (hv:=yr)) ak) ak) (bv (aW K) z_len bK (aa (pv 5 (hv:=Af)) ae) (hg:=CF))) (fun _ _=>rfl)) (aa (pv 1 (hv:=m9)) ae)))))))))))),?_⟩
 walk_at "rd1"
 refine⟨by decide,?_⟩
 unfold cW at q
 walk_at "nx"
 refine bF (fun c1=>?_) (fun c1=>?_)
 ·rw[if_pos c1]at q
  exact⟨by decide,fun p hp=>q p _ (am hp _) hp ah⟩
 rw[if_neg c1]at q
 walk_at "nx"
 refine bF (fun c1=>?_) (fun c1=>?_)
 ·rw[if_pos c1]at q
  exact⟨by decide,fun p hp=>q p _ (am hp _) hp ah⟩
 rw[if_neg c1]at q
 walk_at "nx"
 refine bF (fun c1=>?_) (fun c1=>?_)
 ·rw[if_pos c1]at q
  exact⟨by decide,fun p hp=>q p _ (am hp _) hp ah⟩
 rw[if_neg c1]at q
 walk_at "nx"
 refine bF (fun c1=>?_) (fun c1=>?_)
 ·rw[if_pos c1]at q
  exact⟨by decide,fun p hp=>q p _ (am hp _) hp ah⟩
 rw[if_neg c1]at q
 walk_at "nx"
 refine⟨by decide,fun p hp=>⟨_,_,ah,by rw[af (aq ha hp)]; exact ha,bg (by rw[List.length_map]; simp only[List.length_cons,List.length_nil]; omega),fun r hr'=>?_⟩⟩
 have sp:=am hp (.lst [V.str "read", .str "lend", .str "back", .str "open", .str "end", .str "write"])
 have smr:=sp.trans (am hr' (.lst ([V.str "read", .str "lend", .str "back", .str "open", .str "end", .str "write"]++ns.map V.str)))
 have er:[V.str "read", .str "lend", .str "back", .str "open", .str "end", .str "write"]++ns.map V.str=(iL++ns).map V.str:=by rw[List.map_append]; rfl
 have hat:upd (upd H p (.lst [V.str "read", .str "lend", .str "back", .str "open", .str "end", .str "write"])) r (.lst ([V.str "read", .str "lend", .str "back", .str "open", .str "end", .str "write"]++ns.map V.str)) r=some (.lst ((iL++ns).map V.str)):=by rw[ah,er]
 generalize upd (upd H p (.lst [V.str "read", .str "lend", .str "back", .str "open", .str "end", .str "write"])) r (.lst ([V.str "read", .str "lend", .str "back", .str "open", .str "end", .str "write"]++ns.map V.str))=H2 at hat smr ⊢
 have hwl:=ok.ex.1
 generalize iL++ns=wl at hat hwl q ⊢
 walk_at "nx"
 have eu:=(em hwl (c * 40692 % 4001)).2
 refine⟨.inr ⟨by decide,by decide⟩,by decide,_,.inl (SqL.of hat),?_⟩
 rw[List.length_map]
 walk_at "rd1"
 refine⟨by omega,_,_,.inl (SqL.of hat),eu,by decide,fun t ht=>?_⟩
 exact q t _ (smr.trans (am ht _)) (smr.free ht) ah
theorem xF(nm:List Str)(c:Int):dH (cW nm c):=by
 unfold cW
 split
 ·exact .op _
 split
 ·exact .cp _ _
 split
 ·exact .dr _
 split
 ·exact .ti _ _
 ·exact .dd _ _
theorem b7{H:Hp}{a b:Addr}{o:HO}(h:upd H a o b=none):b≠a∧H b=none:=by
 have n:b≠a:=fun z=>by rw[z,ah]at h; cases h
 exact⟨n,by rw[af n]at h; exact h⟩
theorem xg{H1:Hp}{t here e pp lp:Addr}{T L1 E L2 L3:HO}(ht:H1 t=none)(he:H1 e=none)(hht:here≠t)(hpt:pp≠t)(hlt:lp≠t)(e1:e≠here)(e2:e≠t)(e3:e≠pp)(e4:e≠lp)(hhl:here≠lp)(hhp:here≠pp)(hpl:pp≠lp) :
  let H':=upd (upd (upd (upd (upd H1 t T) here L1) e E) pp L2) lp L3
  H' t=some T∧H' here=some L1∧H' e=some E∧H' pp=some L2∧H' lp=some L3∧∀ b o,H1 b=some o→b≠here→b≠pp→b≠lp→H' b=some o:=by
 refine⟨?_,?_,?_,?_,ah,fun b o eb n1 n2 n3=>?_⟩
 ·rw[af hlt.symm,af hpt.symm,af e2.symm,af hht.symm,ah]
 ·rw[af hhl,af hhp,af e1.symm,ah]
 ·rw[af e4,af e3,ah]
 ·rw[af hpl,ah]
 ·rw[af n3,af n2,af (aq eb he),af n1,af (aq eb ht)]; exact eb
theorem Au{H1:Hp}{t here e e' pp lp:Addr}{T L1 E L2 E' L2' L3:HO}(ht:H1 t=none)(he:H1 e=none)(he':H1 e'=none)(hht:here≠t)(hpt:pp≠t)(hlt:lp≠t)(e1:e≠here)(e2:e≠t)(e3:e≠pp)(e4:e≠lp)(d1:e'≠here)(d2:e'≠t)(d3:e'≠pp)(d4:e'≠lp)(d5:e'≠e)(hhl:here≠lp)(hhp:here≠pp)(hpl:pp≠lp) :
  let H':=upd (upd (upd (upd (upd (upd (upd H1 t T) here L1) e E) pp L2) e' E') pp L2') lp L3
  H' t=some T∧H' here=some L1∧H' e=some E∧H' e'=some E'∧H' pp=some L2'∧H' lp=some L3∧∀ b o,H1 b=some o→b≠here→b≠pp→b≠lp→H' b=some o:=by
 refine⟨?_,?_,?_,?_,?_,ah,fun b o eb n1 n2 n3=>?_⟩
 ·rw[af hlt.symm,af hpt.symm,af d2.symm,af hpt.symm,af e2.symm,af hht.symm,ah]
 ·rw[af hhl,af hhp,af d1.symm,af hhp,af e1.symm,ah]
 ·rw[af e4,af e3,af d5.symm,af e3,ah]
 ·rw[af d4,af d3,ah]
 ·rw[af hpl,ah]
 ·rw[af n3,af n2,af (aq eb he'),af n2,af (aq eb he),af n1,af (aq eb ht)]; exact eb
theorem Ay(x y:Str):Str.ofString "lend " ++ x++Str.ofString " " ++ y=Txt.join " " ["lend", x,y]:=by
 rw[gP]
 show _=Str.ofString "lend" ++ Str.ofString " " ++ x++Str.ofString " " ++ y
 rw[show Str.ofString "lend" ++ Str.ofString " " = Str.ofString "lend " from by decide]
theorem yI(n:Int):Str.ofString "while " ++ Str.ofString (toString n)=Txt.join " " ["while", de n]:=by
 rw[gP]
 show _=Str.ofString "while" ++ Str.ofString " " ++ de n
 rw[show Str.ofString "while" ++ Str.ofString " " = Str.ofString "while " from by decide]; rfl
theorem Dr(n:Int):Str.ofString "if " ++ Str.ofString (toString n)=Txt.join " " ["if", de n]:=by
 rw[gP]
 show _=Str.ofString "if" ++ Str.ofString " " ++ de n
 rw[show Str.ofString "if" ++ Str.ofString " " = Str.ofString "if " from by decide]; rfl
def dc(nm:List Str)(c:Int)(st:BS):BS:=
 if c % 15=9 then ⟨[],.lend (xB nm c) (yB nm c) st.cur::st.stk,st.L++[Txt.join " " ["lend", xB nm c,yB nm c]],st.left,st.lends⟩
 else if c % 15=11 then ⟨[],.whl (cE c) st.cur::st.stk,st.L++[Txt.join " " ["while", de (cE c)]],st.left,st.lends⟩
 else ⟨[],.inB (cE c) st.cur::st.stk,st.L++[Txt.join " " ["if", de (cE c)]],st.left,st.lends⟩
def p8:Sp:=fun vs H Q _=>∃ (here pp lp:Addr) (c:Int) (nm:List Str) (H0:Hp) (root:Addr) (st:BS) (d:Nat) (pr:List (Str × Addr)) (S:Addr→Prop) (as es:List Addr),vs=[.ref here,.ref pp,.ref lp,.int c,.str (xB nm c),.str (yB nm c)]∧
 BInv H0 H root lp pp here st (d+1) pr S as es∧NmOk nm∧as.length≤1000∧es.length≤1000∧st.L.length≤1000∧
 ∀ (inner:Addr) (H':Hp) (pr':List (Str × Addr)) (es':List Addr),BInv H0 H' root lp pp inner (dc nm c st) d pr' S [] es'→Q (.ref inner) H'
theorem vw(D:DefAt K mg "_law_begun" aX) (z_len:mg "len" = none) (z_str:mg "str" = none) (c_law_bound:aV P w K mg base 1 "_law_bound" ["_law_cell"] qt):aV P w K mg base 2 "_law_begun" ["_law_here", "_law_pile", "_law_lines", "_law_cell", "_law_x", "_law_y"] p8:=by
 refine D.cal sc_law_begun (fun _ _ _ _ _ _ us hl=>match us,hl with | [_,_,_,_,_,_],_=>rfl) (fun vs H Q E h=>by obtain⟨_,_,_,_,_,_,_,_,_,_,_,_,_,rfl,_⟩:=h; rfl) (fun f cdv A outer s H vs Q E hr h=>?_)
 obtain⟨here,pp,lp,c,nm,H0,root,st,d,pr,S,as,es,rfl,I,ok,ha1,he1,hl1,q⟩:=h
 refine⟨_,(aj (aw 6 sc_law_begun.nd (bC ae) (hx:=BW))
   (aj (aw 7 sc_law_begun.nd (aE c_law_bound hr (aa (pv 3 (hv:=vh)) ae) (hg:=BO)) (hx:=CI))
   (aj (bQ (aH cm (ar b9 (pv 3 (hv:=vh)) ak) ak (aM _)) (aj (bm (bt K PySem.F.plainAttrs_list PySem.F.slot_list_append PySem.F.type_list_append a_ (pv 0 (hv:=kA)) (aa (bE (aa aB (aa (pv 4 (hv:=zp)) (aa (pv 5 (hv:=yg)) (aa (pv 6 (hv:=jR)) ae))))) ae)))
   (aj (bm (bt K PySem.F.plainAttrs_list PySem.F.slot_list_append PySem.F.type_list_append a_ (pv 1 (hv:=sE)) (aa (bE (aa aB (aa (pv 0 (hv:=kA)) ae))) ae)))
   (aj (bm (bt K PySem.F.plainAttrs_list PySem.F.slot_list_append PySem.F.type_list_append a_ (pv 2 (hv:=v3)) (aa (ar az (ar az (ar az aB (pv 4 (hv:=zp))) aB) (pv 5 (hv:=yg))) ae)))
   (ao (aD (pv 6 (hv:=jR))))))) bA)
   (aj (bQ (aH cm (ar b9 (pv 3 (hv:=vh)) ak) ak (aM _)) (aj (bm (bt K PySem.F.plainAttrs_list PySem.F.slot_list_append PySem.F.type_list_append a_ (pv 0 (hv:=kA)) (aa (bE (aa aB (aa (pv 7 (hv:=sr)) (aa (pv 6 (hv:=jR)) ae)))) ae)))
   (aj (bm (bt K PySem.F.plainAttrs_list PySem.F.slot_list_append PySem.F.type_list_append a_ (pv 1 (hv:=sE)) (aa (bE (aa aB (aa (pv 0 (hv:=kA)) ae))) ae)))
   (aj (bm (bt K PySem.F.plainAttrs_list PySem.F.slot_list_append PySem.F.type_list_append a_ (pv 2 (hv:=v3)) (aa (ar az aB (fK lA z_str mV (aa (pv 7 (hv:=sr)) ae) (hg:=yF))) ae)))
   (ao (aD (pv 6 (hv:=jR))))))) bA)
   (aj (aw 8 sc_law_begun.nd (bC ae) (hx:=CM))
   (aj (bm (bt K PySem.F.plainAttrs_list PySem.F.slot_list_append PySem.F.type_list_append a_ (pv 0 (hv:=kA)) (aa (bE (aa aB (aa (pv 7 (hv:=sr)) (aa (pv 6 (hv:=jR)) (aa (pv 8 (hv:=yV)) ae))))) ae)))
   (aj (bm (bt K PySem.F.plainAttrs_list PySem.F.slot_list_append PySem.F.type_list_append a_ (pv 1 (hv:=sE)) (aa (bE (aa aB (aa (pv 0 (hv:=kA)) ae))) ae)))
   (aj (bm (bt K PySem.F.plainAttrs_list PySem.F.slot_list_append PySem.F.type_list_append a_ (pv 1 (hv:=sE)) (aa (bE (aa aB (aa (pv 8 (hv:=yV)) ae))) ae)))
   (aj (bm (bt K PySem.F.plainAttrs_list PySem.F.slot_list_append PySem.F.type_list_append a_ (pv 2 (hv:=v3)) (aa (ar az aB (fK lA z_str mV (aa (pv 7 (hv:=sr)) ae) (hg:=yF))) ae)))
   (ao (aD (pv 6 (hv:=jR))))))))))))),?_⟩
 walk_at "rd1"
 refine⟨by decide,fun inn hinn=>?_⟩
 have sm1:=am hinn (.lst [])
 have ei:upd H inn (.lst []) inn=some (.lst []):=ah
 generalize upd H inn (.lst [])=H1 at sm1 ei ⊢
 have I1:=I.alloc sm1
 obtain⟨_,hhl,hhp,_,_⟩:=I.apart here List.mem_cons_self
 have hph:=Ne.symm hhp
 have hlh:=Ne.symm hhl
 have hlp:=I.lpp
 have hpl:=Ne.symm hlp
 obtain⟨i1,i2,i3,i4,i5⟩:=I.new hinn
 have i6:inn≠here:=fun z=>i5 (z ▸ List.mem_cons_self)
 walk_at "nx"
 refine⟨c,rfl,?_⟩
 have hlog:=iR c
 have hnl:=jF hlog
 unfold de at hnl
 walk_at "nx"
 refine⟨by decide,bF (fun c1=>?_) (fun c1=>?_)⟩
 ·refine⟨⟨_,SqL.of I1.cur⟩,by decide,fun t ht=>⟨_,by rw[af (aq I1.cur ht)]; exact I1.cur,by rw[List.length_map]; exact bO (by omega),?_⟩⟩
  walk_at "nx"
  have hpt:=aq I1.pile ht
  have hlt:=aq I1.lines ht
  have hht:=aq I1.cur ht
  have hit:=aq ei ht
  have pile3:∀ o1 o2,upd (upd H1 t o1) here o2 pp=some (.lst (es.map V.ref)):=fun o1 o2=>by rw[af hph,af hpt]; exact I1.pile
  refine⟨⟨_,SqL.of (pile3 _ _)⟩,by decide,fun e he=>?_⟩
  obtain⟨e1,he⟩:=b7 he
  obtain⟨e2,he⟩:=b7 he
  have e3:=Ne.symm (aq I1.pile he)
  have e4:=Ne.symm (aq I1.lines he)
  have e5:=Ne.symm (aq ei he)
  refine⟨_,by rw[af (Ne.symm e3)]; exact pile3 _ _,by rw[List.length_map]; exact bO (by omega),?_⟩
  walk_at "nx"
  obtain⟨g1,g2,g3,g4,g5,g6⟩:=xg (T:=.tup [.str "lend", .str (xB nm c),.str (yB nm c),.ref inn]) (L1:=.lst (as.map V.ref++[.ref t])) (E:=.tup [.str "back", .ref here]) (L2:=.lst (es.map V.ref++[.ref e])) (L3:=.lst (st.L.map V.str++[.str (Str.ofString "lend " ++ xB nm c++Str.ofString " " ++ yB nm c)])) ht he hht hpt hlt e1 e2 e3 e4 hhl hhp hpl
  have lines5:∀ o1 o2 o3 o4,upd (upd (upd (upd H1 t o1) here o2) e o3) pp o4 lp=some (.lst (st.L.map V.str)):=fun o1 o2 o3 o4=>by rw[af hlp,af (Ne.symm e4),af hlh,af hlt]; exact I1.lines
  have xl:=ok.xl c
  have yl:=ok.yl c
  have l5:(Str.ofString "lend ").length=5:=by decide
  have l1:(Str.ofString " ").length=1:=by decide
  refine⟨⟨_,SqL.of (lines5 _ _ _ _)⟩,bg (by omega),bg (by rw[Str.length_append]; omega),bg (by rw[Str.length_append,Str.length_append]; omega),_,lines5 _ _ _ _,by rw[List.length_map]; exact bO (by omega),?_⟩
  walk_at "nx"
  refine q inn _ (("back", here)::pr) (es++[e]) ?_
  have eq:dc nm c st=⟨[],.lend (xB nm c) (yB nm c) st.cur::st.stk,st.L++[Txt.join " " ["lend", xB nm c,yB nm c]],st.left,st.lends⟩:=if_pos c1
  rw[eq]
  refine BInv.open1 (e:=e) I (fun b o eb n1 n2 n3=>g6 b o (sm1 _ _ eb) n1 n2 n3) (t:=t) (by rw[List.map_append]; exact g2) hinn (g6 _ _ ei i6 i2 i1) (by rw[List.map_append,← Ay]; exact g5) (by rw[List.map_append]; exact g4) g3 (fun z1 z2=>.lend g2 z2 g1 z1)
 walk_at "nx"
 refine⟨by decide,bF (fun c2=>?_) (fun c2=>?_)⟩
 ·refine⟨⟨_,SqL.of I1.cur⟩,by decide,fun t ht=>⟨_,by rw[af (aq I1.cur ht)]; exact I1.cur,by rw[List.length_map]; exact bO (by omega),?_⟩⟩
  walk_at "nx"
  have hpt:=aq I1.pile ht
  have hlt:=aq I1.lines ht
  have hht:=aq I1.cur ht
  have hit:=aq ei ht
  have pile3:∀ o1 o2,upd (upd H1 t o1) here o2 pp=some (.lst (es.map V.ref)):=fun o1 o2=>by rw[af hph,af hpt]; exact I1.pile
  refine⟨⟨_,SqL.of (pile3 _ _)⟩,by decide,fun e he=>?_⟩
  obtain⟨e1,he⟩:=b7 he
  obtain⟨e2,he⟩:=b7 he
  have e3:=Ne.symm (aq I1.pile he)
  have e4:=Ne.symm (aq I1.lines he)
  refine⟨_,by rw[af (Ne.symm e3)]; exact pile3 _ _,by rw[List.length_map]; exact bO (by omega),?_⟩
  walk_at "nx"
  obtain⟨g1,g2,g3,g4,g5,g6⟩:=xg (T:=.tup [.str "while", .int (cE c),.ref inn]) (L1:=.lst (as.map V.ref++[.ref t])) (E:=.tup [.str "done", .ref here]) (L2:=.lst (es.map V.ref++[.ref e])) (L3:=.lst (st.L.map V.str++[.str (Str.ofString "while " ++ Str.ofString (toString (cE c)))])) ht he hht hpt hlt e1 e2 e3 e4 hhl hhp hpl
  have lines5:∀ o1 o2 o3 o4,upd (upd (upd (upd H1 t o1) here o2) e o3) pp o4 lp=some (.lst (st.L.map V.str)):=fun o1 o2 o3 o4=>by rw[af hlp,af (Ne.symm e4),af hlh,af hlt]; exact I1.lines
  have l5:(Str.ofString "while ").length=6:=by decide
  refine⟨⟨_,SqL.of (lines5 _ _ _ _)⟩,hlog,bg (by omega),_,lines5 _ _ _ _,by rw[List.length_map]; exact bO (by omega),?_⟩
  walk_at "nx"
  refine q inn _ (("done", here)::pr) (es++[e]) ?_
  have eq:dc nm c st=⟨[],.whl (cE c) st.cur::st.stk,st.L++[Txt.join " " ["while", de (cE c)]],st.left,st.lends⟩:=(if_neg c1).trans (if_pos c2)
  rw[eq]
  refine BInv.open1 (e:=e) I (fun b o eb n1 n2 n3=>g6 b o (sm1 _ _ eb) n1 n2 n3) (t:=t) (by rw[List.map_append]; exact g2) hinn (g6 _ _ ei i6 i2 i1) (by rw[List.map_append,← yI]; exact g5) (by rw[List.map_append]; exact g4) g3 (fun z1 z2=>.whl g2 z2 g1 z1)
 walk_at "nx"
 refine⟨by decide,fun oth hoth=>?_⟩
 have sm2:=am hoth (.lst [])
 have eo:upd H1 oth (.lst []) oth=some (.lst []):=ah
 generalize upd H1 oth (.lst [])=H2 at sm2 eo ⊢
 have I2:=I1.alloc sm2
 have ei2:=sm2 _ _ ei
 obtain⟨o1,o2,o3,o4,o5⟩:=I1.new hoth
 have o6:oth≠here:=fun z=>o5 (z ▸ List.mem_cons_self)
 have hio:inn≠oth:=aq ei hoth
 walk_at "nx"
 refine⟨⟨_,SqL.of I2.cur⟩,by decide,fun t ht=>⟨_,by rw[af (aq I2.cur ht)]; exact I2.cur,by rw[List.length_map]; exact bO (by omega),?_⟩⟩
 walk_at "nx"
 have hpt:=aq I2.pile ht
 have hlt:=aq I2.lines ht
 have hht:=aq I2.cur ht
 have pile3:∀ o1 o2,upd (upd H2 t o1) here o2 pp=some (.lst (es.map V.ref)):=fun o1 o2=>by rw[af hph,af hpt]; exact I2.pile
 refine⟨⟨_,SqL.of (pile3 _ _)⟩,by decide,fun e he=>?_⟩
 obtain⟨e1,he⟩:=b7 he
 obtain⟨e2,he⟩:=b7 he
 have e3:=Ne.symm (aq I2.pile he)
 have e4:=Ne.symm (aq I2.lines he)
 refine⟨_,by rw[af (Ne.symm e3)]; exact pile3 _ _,by rw[List.length_map]; exact bO (by omega),?_⟩
 walk_at "nx"
 refine⟨⟨_,SqL.of ah⟩,by decide,fun e' he'=>?_⟩
 obtain⟨d3,he'⟩:=b7 he'
 obtain⟨d5,he'⟩:=b7 he'
 obtain⟨d1,he'⟩:=b7 he'
 obtain⟨d2,he'⟩:=b7 he'
 have d4:=Ne.symm (aq I2.lines he')
 refine⟨_,by rw[af (Ne.symm d3)]; exact ah,by rw[List.length_append,List.length_map]; exact bO (by simp only[List.length_cons,List.length_nil]; omega),?_⟩
 walk_at "nx"
 obtain⟨g1,g2,g3,g3',g4,g5,g6⟩:=Au (T:=.tup [.str "if", .int (cE c),.ref inn,.ref oth]) (L1:=.lst (as.map V.ref++[.ref t])) (E:=.tup [.str "fi", .ref here]) (L2:=.lst (es.map V.ref++[.ref e])) (E':=.tup [.str "else", .ref oth]) (L2':=.lst (es.map V.ref++[.ref e]++[.ref e'])) (L3:=.lst (st.L.map V.str++[.str (Str.ofString "if " ++ Str.ofString (toString (cE c)))])) ht he he' hht hpt hlt e1 e2 e3 e4 d1 d2 d3 d4 d5 hhl hhp hpl
 have lines7:∀ o1 o2 o3 o4 o5 o6,upd (upd (upd (upd (upd (upd H2 t o1) here o2) e o3) pp o4) e' o5) pp o6 lp=some (.lst (st.L.map V.str)):=fun o1 o2 o3 o4 o5 o6=>by rw[af hlp,af (Ne.symm d4),af hlp,af (Ne.symm e4),af hlh,af hlt]; exact I2.lines
 have l3:(Str.ofString "if ").length=3:=by decide
 refine⟨⟨_,SqL.of (lines7 _ _ _ _ _ _)⟩,hlog,bg (by omega),_,lines7 _ _ _ _ _ _,by rw[List.length_map]; exact bO (by omega),?_⟩
 walk_at "nx"
 refine q inn _ (("else", oth)::("fi", here)::pr) (es++[e,e']) ?_
 have eq:dc nm c st=⟨[],.inB (cE c) st.cur::st.stk,st.L++[Txt.join " " ["if", de (cE c)]],st.left,st.lends⟩:=(if_neg c1).trans (if_neg c2)
 rw[eq]
 exact BInv.open2 (e:=e) (e2:=e') (oth:=oth) I (fun b o eb n1 n2 n3=>g6 b o (sm2 _ _ (sm1 _ _ eb)) n1 n2 n3) (t:=t) (by rw[List.map_append]; exact g2) hinn (g6 _ _ ei2 i6 i2 i1) (sm1.free hoth) (g6 _ _ eo o6 o2 o1) hio (by rw[List.map_append,← Dr]; exact g5) (by rw[List.map_append]; rw[g4,List.append_assoc]; rfl) g3 g3' g1
def cV(nm:List Str)(st:BS)(c:Int):BS:=
 if c % 15>11∧st.stk≠[] then dz st
 else if (9≤c % 15∧c % 15≤11)∧st.left>2∧(st.stk.length:Int)<8∧(c % 15≠9∨st.lends>0) then dc nm c ⟨st.cur,st.stk,st.L,st.left - 3+(if (!decide (c % 15=10))=true then 1 else 0),st.lends - (if c % 15=9 then 1 else 0)⟩
 else if c % 15<9∧st.left>0 then ⟨st.cur++[.plain (cW nm c)],st.stk,st.L++[Txt.join " " (cW nm c)],st.left - 1,st.lends⟩
 else st
def cf:List Frm→Nat
 | []=>0
 | .inB _ _::r=>cf r+2
 | _::r=>cf r+1
def dy:Nat→BS→BS
 | 0,st=>st
 | n+1,st=>dz (dy n st)
def gL(left:Int):BS:=⟨[],[],[],left,3⟩
def aQ(left:Int)(nm:List Str)(cs:List Int):BS:=dy (cf (cs.foldl (cV nm) (gL left)).stk) (cs.foldl (cV nm) (gL left))
theorem Ctx.pile{H:Hp}{S:Addr→Prop}{root:Addr}{fs:List Frm}{pr:List (Str × Addr)}{d:Nat}{here:Addr}(h:Ctx H S root fs pr d here):pr.length=cf fs:=by
 induction h with
 | nil=>rfl
 | lend _ _ _ _ ih=>rw[List.length_cons,ih]; rfl
 | whl _ _ _ _ ih=>rw[List.length_cons,ih]; rfl
 | inB _ _ _ _ _ ih=>rw[List.length_cons,List.length_cons,ih]; rfl
 | inC _ _ _ _ _ ih=>rw[List.length_cons,ih]; rfl
theorem nt{nm:List Str}(hn:NmOk nm){st:BS}{d:Nat}(c:Int)(h:fB st (d+1)):fB (dc nm c st) d:=by
 obtain⟨cur,stk,L,left,lends⟩:=st
 obtain⟨h1,h2,h3,h4,h5⟩:=h
 dsimp only at h1 h2 h3 h4 h5
 have go:∀ (f:Frm) (x:Str),dw (f::stk) d=dw stk (d+1)++bX (d+2) cur++[x]→qh (f::stk) d→dU f=cur.length→fB ⟨[],f::stk,L++[x],left,lends⟩ d:=fun f x e1 e2 e3=>by
  refine⟨by show d+(stk.length+1)=9; omega,?_,fun s hs=>absurd hs (by show ¬ s∈([]:List Stp); simp),e2,?_⟩
  ·show L++[x]=dw (f::stk) d++bX (d+1) []
   rw[e1,h2]
   simp[bX]
  ·show 0+((f::stk).map dU).sum≤(L++[x]).length
   rw[List.map_cons,List.sum_cons,List.length_append,e3]
   omega
 unfold dc
 split
 ·exact go _ _ rfl ⟨hn.xl c,hn.yl c,h3,h4⟩ rfl
 split
 ·exact go _ _ rfl ⟨iR c,h3,h4⟩ rfl
 ·exact go _ _ rfl ⟨iR c,h3,h4⟩ rfl
theorem tQ{ws:List Str}(hw:fv ws){st:BS}{d:Nat}(h:fB st d)(l:Int):fB ⟨st.cur++[.plain ws],st.stk,st.L++[Txt.join " " ws],l,st.lends⟩ d:=by
 obtain⟨cur,stk,L,left,lends⟩:=st
 obtain⟨h1,h2,h3,h4,h5⟩:=h
 dsimp only at h1 h2 h3 h4 h5
 refine⟨h1,?_,jm h3 (ji hw),h4,?_⟩
 ·show L++[Txt.join " " ws]=dw stk d++bX (d+1) (cur++[.plain ws])
  rw[jt,h2]
  simp[bX,cF]
 ·show (cur++[Stp.plain ws]).length+_≤(L++[_]).length
  simp only[List.length_append,List.length_cons,List.length_nil]
  omega
theorem mW{st:BS}{d:Nat}(h:fB st d)(l l':Int):fB ⟨st.cur,st.stk,st.L,l,l'⟩ d:=⟨h.dep,h.lines,h.ok,h.okf,h.size⟩
theorem vj(st:BS):(dz st).L.length≤st.L.length+1:=by
 obtain⟨cur,stk,L,left,lends⟩:=st
 cases stk with
 | nil=>exact Nat.le_succ _
 | cons f r=>cases f <;> (show (L++[_]).length≤L.length+1; rw[List.length_append]; exact Nat.le_refl _)
theorem hU{H0 H:Hp}{root lp pp here:Addr}{st:BS}{d:Nat}{pr:List (Str × Addr)}{S:Addr→Prop}{as es:List Addr}(I:BInv H0 H root lp pp here st d pr S as es)(l l':Int):BInv H0 H root lp pp here ⟨st.cur,st.stk,st.L,l,l'⟩ d pr S as es:=
 ⟨I.ctx,I.pile,I.ents,I.cur,I.steps,I.lines,I.nd,I.apart,I.lpp,I.off,I.sin,I.sm⟩
theorem qv(st:BS):(dz st).left=st.left∧(dz st).lends=st.lends:=by
 obtain⟨cur,stk,L,left,lends⟩:=st
 cases stk with
 | nil=>exact⟨rfl,rfl⟩
 | cons f r=>cases f <;> exact⟨rfl,rfl⟩
theorem oz(nm:List Str)(c:Int)(st:BS):(dc nm c st).left=st.left∧(dc nm c st).lends=st.lends∧(dc nm c st).L.length=st.L.length+1:=by
 unfold dc
 split
 ·exact⟨rfl,rfl,by simp⟩
 split
 ·exact⟨rfl,rfl,by simp⟩
 ·exact⟨rfl,rfl,by simp⟩
theorem eI{nm:List Str}{st:BS}{c:Int}(h1:¬ (c % 15>11∧st.stk≠[]))(h2:¬ ((9≤c % 15∧c % 15≤11)∧st.left>2∧(st.stk.length:Int)<8∧(c % 15≠9∨st.lends>0)))(h3:¬ (c % 15<9∧st.left>0)):cV nm st c=st:=by
 unfold cV
 rw[if_neg h1,if_neg h2,if_neg h3]
theorem oP{st:BS}{d d':Nat}(h:fB st d)(hne:st.stk≠[])(e:d'+(dz st).stk.length=9):fB (dz st) d':=by
 obtain⟨d2,z⟩:=x5 h hne
 have:=z.dep
 have:d'=d2:=by omega
 rw[this]; exact z
theorem jr{nm:List Str}{st:BS}{c:Int}(h1:¬ (c % 15>11∧st.stk≠[]))(h2:(9≤c % 15∧c % 15≤11)∧st.left>2∧(st.stk.length:Int)<8∧(c % 15≠9∨st.lends>0)):cV nm st c=dc nm c ⟨st.cur,st.stk,st.L,st.left - 3+(if (!decide (c % 15=10))=true then 1 else 0),st.lends - (if c % 15=9 then 1 else 0)⟩:=by
 unfold cV
 rw[if_neg h1,if_pos h2]
theorem pb{nm:List Str}{st:BS}{c:Int}(h1:¬ (c % 15>11∧st.stk≠[]))(h2:¬ ((9≤c % 15∧c % 15≤11)∧st.left>2∧(st.stk.length:Int)<8∧(c % 15≠9∨st.lends>0)))(h3:c % 15<9∧st.left>0):cV nm st c=⟨st.cur++[.plain (cW nm c)],st.stk,st.L++[Txt.join " " (cW nm c)],st.left - 1,st.lends⟩:=by
 unfold cV
 rw[if_neg h1,if_neg h2,if_pos h3]
theorem eV(st:BS):∀ n,dy (n+1) st=dy n (dz st)
 | 0=>rfl
 | n+1=>by show dz (dy (n+1) st)=dz (dy n (dz st)); rw[eV st n]
theorem tV{H:Hp}{S:Addr→Prop}{root:Addr}{st:BS}{w:Str}{up:Addr}{pr:List (Str × Addr)}{d:Nat}{here:Addr}(h:Ctx H S root st.stk ((w,up)::pr) d here):(dz st).L=st.L++[w]:=by
 obtain⟨cur,stk,L,left,lends⟩:=st
 dsimp only at h
 cases h <;> rfl
theorem sO{H0:Hp}{root lp pp:Addr}:∀ (n:Nat) {H:Hp} {here:Addr} {st:BS} {d:Nat} {pr:List (Str × Addr)} {S:Addr→Prop} {as es:List Addr},pr.length=n→BInv H0 H root lp pp here st d pr S as es→fB st d→
  ∃ S' as',fB (dy n st) 9∧(dy n st).stk=[]∧(dy n st).L=st.L++pr.map (·.1)∧¬ S' root∧¬ S' lp∧¬ S' pp∧H root=some (.lst (as'.map V.ref))∧Paired (stpAt (ProgAt S' 9 H) H) as' (dy n st).cur∧(∀ b,S' b→∃ xs,H b=some (.lst xs))∧root≠lp∧root≠pp∧H0 root=none
 | 0,H,here,st,d,pr,S,as,es,hn,I,B=>by
  have:pr=[]:=List.length_eq_zero_iff.mp hn
  subst this
  have hc:st.stk=[]∧d=9∧here=root:=by
   have hcx:=I.ctx
   generalize st.stk=fs at hcx ⊢
   cases hcx
   exact⟨rfl,rfl,rfl⟩
  obtain⟨k1,k2,k3⟩:=hc
  subst k2 k3
  obtain⟨y1,y2,y3,y4,_⟩:=I.apart here List.mem_cons_self
  exact⟨S,as,B,k1,by simp[dy],y1,I.off.1,I.off.2.1,I.cur,I.steps,I.sin,y2,y3,y4⟩
 | n+1,H,here,st,d,pr,S,as,es,hn,I,B=>by
  rcases pr with _ | ⟨⟨wd,up⟩,pr'⟩
  ·simp at hn
  have hsk:st.stk≠[]:=fun z=>by have:=I.ctx.pile; rw[z]at this; simp[cf]at this
  have hes:=ay I.ents
  rw[List.length_reverse]at hes
  rcases List.eq_nil_or_concat es with z | ⟨es0,e,z⟩
  ·rw[z]at hes; simp at hes
  rw[List.concat_eq_append]at z
  subst z
  obtain⟨d',as',I4⟩:=I.pop (H':=upd (upd H pp (.lst (es0.map V.ref))) lp (.lst (st.L.map V.str++[.str wd]))) (fun b o eb n1 n2=>by rw[af n2,af n1]; exact eb) (by rw[af (Ne.symm I.lpp)]; exact ah) (by rw[ah,List.map_append]; rfl)
  have B4:=oP B hsk I4.ctx.deep.1
  obtain⟨S',as2,z1,z2,z3,z4,z5,z6,z7,z8,z9,z10,z11,z12⟩:=sO n (by simpa using hn) I4 B4
  have back:∀ b o,upd (upd H pp (.lst (es0.map V.ref))) lp (.lst (st.L.map V.str++[.str wd])) b=some o→b≠lp→b≠pp→H b=some o:=fun b o e n1 n2=>by rw[af n1,af n2]at e; exact e
  have ht:∀ b xs,upd (upd H pp (.lst (es0.map V.ref))) lp (.lst (st.L.map V.str++[.str wd])) b=some (.tup xs)→H b=some (.tup xs):=fun b xs e=>back b _ e (fun z=>by rw[z,ah]at e; cases e) (fun z=>by rw[z,af (Ne.symm I.lpp),ah]at e; cases e)
  have hl:∀ b xs,S' b→upd (upd H pp (.lst (es0.map V.ref))) lp (.lst (st.L.map V.str++[.str wd])) b=some (.lst xs)→H b=some (.lst xs):=fun b xs hb e=>back b _ e (fun z=>z5 (z ▸ hb)) (fun z=>z6 (z ▸ hb))
  refine⟨S',as2,by rw[eV]; exact z1,by rw[eV]; exact z2,?_,z4,z5,z6,back _ _ z7 z10 z11,?_,fun b hb=>?_,z10,z11,z12⟩
  ·rw[eV,z3,tV I.ctx,List.append_assoc]; rfl
  ·rw[eV]
   exact Paired.imp' (fun a s z=>stpAt.imp ht (fun q b y=>ProgAt.imp ht hl (fun _ z=>z) 9 y) z) z8
  ·obtain⟨xs,e⟩:=z9 b hb
   exact⟨xs,hl _ _ hb e⟩
theorem ya{α : Type}(xs:List α)(x:α):cY (xs++[x]) (-1)=some x:=by
 have e:gH (xs++[x]).length (-1)=some xs.length:=by
  unfold gH
  simp only[List.length_append,List.length_cons,List.length_nil]
  split <;> simp_all <;> omega
 unfold cY
 rw[e]
 simp
def kR:Sp:=fun vs H Q _=>∃ (ca na:Addr) (cs:List Int) (nm:List Str),vs=[.ref ca,.ref na]∧H ca=some (.lst (cs.map V.int))∧H na=some (.lst (nm.map V.str))∧NmOk nm∧cs.length≤63∧
 ∀ (t root lp:Addr) (H':Hp) (S:Addr→Prop) (as:List Addr),Same H H'→H' t=some (.tup [.ref root,.ref lp])→H root=none→H lp=none→root≠lp→¬ S root→¬ S lp→H' root=some (.lst (as.map V.ref))→Paired (stpAt (ProgAt S 9 H') H') as (aQ 60 nm cs).cur→dG 10 (aQ 60 nm cs).cur→
  H' lp=some (.lst ((bX 10 (aQ 60 nm cs).cur).map V.str))→(bX 10 (aQ 60 nm cs).cur).length≤100→as.length≤500→Q (.ref t) H'
theorem rB(D:DefAt K mg "_law_program" ap) (z_len:mg "len" = none) (z_int:mg "int" = none) (z_reversed:mg "reversed" = none) (c_law_begun:aV P w K mg base 2 "_law_begun" ["_law_here", "_law_pile", "_law_lines", "_law_cell", "_law_x", "_law_y"] p8) (c_law_step:aV P w K mg base 1 "_law_step" ["_law_cell", "_law_x", "_law_y", "_law_names_here"] uw):aV P w K mg base 3 "_law_program" ["_law_cells", "_law_names_here"] kR:=by
 refine D.cal sc_law_program (fun _ _ _ _ _ _ us hl=>match us,hl with | [_,_],_=>rfl) (fun vs H Q E h=>by obtain⟨_,_,_,_,rfl,_⟩:=h; rfl) (fun f cdv A outer s H vs Q E hr h=>?_)
 obtain⟨ca,na,cs,nm,rfl,hca,hna,ok,h63,q⟩:=h
 refine⟨_,(aj (aw 2 sc_law_program.nd (bC ae) (hx:=BX))
   (aj (aw 3 sc_law_program.nd (bC ae) (hx:=BF))
   (aj (aw 4 sc_law_program.nd (bC ae) (hx:=CD))
   (aj (aw 5 sc_law_program.nd (pv 2 (hv:=zu)) (hx:=v7))
   (aj (aw 6 sc_law_program.nd ak (hx:=vU))
   (aj (aw 7 sc_law_program.nd ak (hx:=za))
   (aj (df PassesOwn.never rfl (dI K (pv 0 (hv:=Br))) (bH 8 sc_law_program.nd (hx:=CZ)) (aj (aw 9 sc_law_program.nd (ar b9 (pv 8 (hv:=mB)) ak) (hx:=By))
   (aj (aw 10 sc_law_program.nd (aI (ba K) (pv 1 (hv:=nV)) (ar b9 (ar b9 (ar eK (pv 8 (hv:=mB)) ak) ak) (bv (aW K) z_len bK (aa (pv 1 (hv:=nV)) ae) (hg:=vg))) (fun _ _=>rfl)) (hx:=Cf))
   (aj (aw 11 sc_law_program.nd (aI (ba K) (pv 1 (hv:=nV)) (ar b9 (ar b9 (ar eK (pv 8 (hv:=mB)) ak) ak) (bv (aW K) z_len bK (aa (pv 1 (hv:=nV)) ae) (hg:=vg))) (fun _ _=>rfl)) (hx:=BV))
   (aj (aw 12 sc_law_program.nd (bv (aW K) z_len bK (aa (fq (CompSc.to (fsc:=(defScope ap)) (N:=["_law_cells", "_law_names_here", "_law_program_here", "_law_lines", "_law_pile", "_law_here", "_law_left", "_law_lends", "_law_cell", "_law_kind", "_law_x", "_law_y", "_law_deep", "_law_line", "_law_there"]) (N0:=["_law_cells", "_law_names_here", "_law_program_here", "_law_lines", "_law_pile", "_law_here", "_law_left", "_law_lends", "_law_cell", "_law_kind", "_law_x", "_law_y", "_law_deep", "_law_line", "_law_there"]) (T:=["_law_one"]) ⟨by decide +kernel,by decide +kernel,by decide +kernel,by decide +kernel,by decide +kernel,by decide +kernel,by decide +kernel⟩ rfl rfl) rfl (dI K (pv 4 (hv:=nw))) (fun _ _ _ _=>(bH 15 (show (["_law_cells", "_law_names_here", "_law_program_here", "_law_lines", "_law_pile", "_law_here", "_law_left", "_law_lends", "_law_cell", "_law_kind", "_law_x", "_law_y", "_law_deep", "_law_line", "_law_there", "_law_one"]:List Str).Nodup from by decide +kernel) (hx:=(i0 (defScope ap) (by decide +kernel))) (hf:=nQ (defScope ap) (by decide +kernel)))) (dY (show (["_law_cells", "_law_names_here", "_law_program_here", "_law_lines", "_law_pile", "_law_here", "_law_left", "_law_lends", "_law_cell", "_law_kind", "_law_x", "_law_y", "_law_deep", "_law_line", "_law_there"]:List Str).length≤15 from by decide)) (fun _ _ _ _=>(i8 (aH fA (aI (ba K) (pv 15 (hv:=(dZ (defScope ap) (by decide +kernel)))) ak (fun _ _=>rfl)) aB (aM _)))) (fun _ _ _ _=>(pv 15 (hv:=(dZ (defScope ap) (by decide +kernel)))))) ae) (hg:=vg)) (hx:=Bh))
   (ao (bQ (PW.pt' (eX (aH mh (pv 9 (hv:=jT)) ak (aM _)) (gb (aH (jW K hr) (pv 4 (hv:=nw)) (bC ae) (aM _))))) (aj (h8 (p0 K PySem.F.plainAttrs_list PySem.F.slot_list_pop PySem.F.type_list_pop ph (pv 4 (hv:=nw))) (eJ K (n:=2) (cy (bH 13 sc_law_program.nd (hx:=zv)) (cy (bH 5 sc_law_program.nd (hx:=v7)) eP))))
   (ao (bm (bt K PySem.F.plainAttrs_list PySem.F.slot_list_append PySem.F.type_list_append a_ (pv 3 (hv:=mM)) (aa (pv 13 (hv:=z_)) ae))))) (ao (bQ (PW.pt' (eX (iZ iu iu ak (pv 9 (hv:=jT)) ak) (eX (aH mh (pv 6 (hv:=rg)) ak (aM _)) (eX (aH dR (pv 12 (hv:=A_)) ak (aM _)) (gb (PW.pt' (fg (aH fA (pv 9 (hv:=jT)) ak (aM _)) (gQ (aH mh (pv 7 (hv:=yn)) ak (aM _)))))))))) (aj (aw 6 sc_law_program.nd (ar az (ar fW (pv 6 (hv:=rg)) ak) (fK lD z_int uh (aa (gg fA (pv 9 (hv:=jT)) ak (aM _)) ae) (hg:=yA))) (hx:=vU))
   (aj (aw 7 sc_law_program.nd (ar fW (pv 7 (hv:=yn)) (fK lD z_int uh (aa (gg cm (pv 9 (hv:=jT)) ak (aM _)) ae) (hg:=yA))) (hx:=za))
   (ao (aw 5 sc_law_program.nd (aE c_law_begun hr (aa (pv 5 (hv:=u0)) (aa (pv 4 (hv:=nw)) (aa (pv 3 (hv:=mM)) (aa (pv 8 (hv:=mB)) (aa (pv 10 (hv:=yk)) (aa (pv 11 (hv:=yi)) ae)))))) (hg:=B2)) (hx:=v7))))) (ao (bQ (PW.pt' (eX (aH dR (pv 9 (hv:=jT)) ak (aM _)) (gb (aH mh (pv 6 (hv:=rg)) ak (aM _))))) (aj (aw 6 sc_law_program.nd (ar fW (pv 6 (hv:=rg)) ak) (hx:=vU))
   (aj (bm (bt K PySem.F.plainAttrs_list PySem.F.slot_list_append PySem.F.type_list_append a_ (pv 5 (hv:=u0)) (aa (aE c_law_step hr (aa (pv 8 (hv:=mB)) (aa (pv 10 (hv:=yk)) (aa (pv 11 (hv:=yi)) (aa (pv 1 (hv:=nV)) ae)))) (hg:=CB)) ae)))
   (ao (bm (bt K PySem.F.plainAttrs_list PySem.F.slot_list_append PySem.F.type_list_append a_ (pv 3 (hv:=mM)) (aa (bt K PySem.F.plainAttrs_str PySem.F.slot_str_join PySem.F.type_str_join (vd K) aB (aa (aI (ba K) (pv 5 (hv:=u0)) (eZ eh ak) (fun _ _=>rfl)) ae)) ae)))))) bA)))))))))))
   (aj (df PassesOwn.never rfl (zK K Cw z_reversed (aa (pv 4 (hv:=nw)) ae)) (eJ K (n:=2) (cy (bH 13 sc_law_program.nd (hx:=zv)) (cy (bH 14 sc_law_program.nd (hx:=Bu)) eP))) (ao (bm (bt K PySem.F.plainAttrs_list PySem.F.slot_list_append PySem.F.type_list_append a_ (pv 3 (hv:=mM)) (aa (pv 13 (hv:=z_)) ae)))))
   (ao (aD (bE (aa (pv 2 (hv:=zu)) (aa (pv 3 (hv:=mM)) ae))))))))))))),?_⟩
 walk_at "rd1"
 refine⟨by decide,fun root hroot=>?_⟩
 walk_at "nx"
 refine⟨by decide,fun lp hlp=>?_⟩
 walk_at "nx"
 refine⟨by decide,fun pp hpp=>?_⟩
 obtain⟨p1,hpp⟩:=b7 hpp
 obtain⟨p2,hpp⟩:=b7 hpp
 obtain⟨l1,hlp⟩:=b7 hlp
 have I0:BInv H (upd (upd (upd H root (.lst [])) lp (.lst [])) pp (.lst [])) root lp pp root (gL 60) 9 [] (fun _=>False) [] []:=by
  refine⟨.nil,ah,.nil,by rw[af (Ne.symm p2),af (Ne.symm l1)]; exact ah,.nil,by rw[af (Ne.symm p1)]; exact ah,by simp,fun a ha=>?_,Ne.symm p1,⟨id,id,hlp,hpp⟩,fun b hb=>hb.elim,?_⟩
  ·have:a=root:=by simpa using ha
   subst this
   exact⟨id,Ne.symm l1,Ne.symm p2,hroot,_,by rw[af (Ne.symm p2),af (Ne.symm l1)]; exact ah⟩
  ·exact(((am hroot _).upd hlp _).upd hpp _)
 have B0:fB (gL 60) 9:=⟨rfl,rfl,fun s hs=>absurd hs (by show ¬ s∈([]:List Stp); simp),trivial,Nat.le_refl _⟩
 generalize upd (upd (upd H root (.lst [])) lp (.lst [])) pp (.lst [])=H1 at I0 ⊢
 walk_at "nx"
 walk_at "nx"
 walk_at "nx"
 walk_at "nx"
 refine⟨⟨_,SqL.of (I0.sm _ _ hca)⟩,?_⟩
 refine d_ (xs:=cs.map V.int) (fun i σ H'=>∃ (here:Addr) (d:Nat) (pr:List (Str × Addr)) (S:Addr→Prop) (as es:List Addr) (st:BS) (o8 o9 o10 o11 o12 o13 o14:Option V),σ=[some (.ref ca),some (.ref na),some (.ref root),some (.ref lp),some (.ref pp),some (.ref here),some (.int st.left),some (.int st.lends),o8,o9,o10,o11,o12,o13,o14]∧
   st=(cs.take i).foldl (cV nm) (gL 60)∧BInv H H' root lp pp here st d pr S as es∧fB st d∧st.L.length≤i)
  ⟨root,9,[],_,[],[],gL 60,none,none,none,none,none,none,none,rfl,rfl,I0,B0,Nat.le_refl _⟩ (fun i σ H' _ h=>by obtain⟨_,_,_,_,_,_,_,_,_,_,_,_,_,_,_,_,I,_⟩:=h; exact SqL.of (I.sm _ _ hca)) ?_ ?_
 ·rintro i v σ H' hv ⟨here,d,pr,S,as,es,st,o8,o9,o10,o11,o12,o13,o14,rfl,hst,I,B,hL⟩
  have hi:i<cs.length:=by have:=(List.getElem?_eq_some_iff.mp hv).1; simpa using this
  rw[List.getElem?_map,List.getElem?_eq_getElem hi]at hv
  cases hv
  have hfold:(cs.take (i+1)).foldl (cV nm) (gL 60)=cV nm st cs[i]:=by
   rw[List.take_add_one,List.getElem?_eq_getElem hi,List.foldl_append,← hst]; rfl
  generalize cs[i]=c at hfold ⊢
  obtain⟨dd1,dd2,dd3⟩:=I.ctx.deep
  have hes:=ay I.ents
  rw[List.length_reverse]at hes
  have hal:=ay I.steps
  have hsz:=B.size
  have n1:=ok.n1
  have ha:=I.sm _ _ hna
  walk_at "rd1"
  refine⟨by decide,?_⟩
  walk_at "nx"
  refine⟨.inr ⟨by decide,by decide⟩,by decide,_,.inl (SqL.of ha),?_⟩
  rw[List.length_map]
  walk_at "rd1"
  refine⟨by omega,_,_,.inl (SqL.of ha),(em n1 (c * 48271 % 1009)).2,?_⟩
  rw[show pk nm (c * 48271 % 1009)=xB nm c from rfl]
  walk_at "nx"
  refine⟨.inr ⟨by decide,by decide⟩,by decide,_,.inl (SqL.of ha),?_⟩
  rw[List.length_map]
  walk_at "rd1"
  refine⟨by omega,_,_,.inl (SqL.of ha),(em n1 (c * 69621 % 2003)).2,?_⟩
  rw[show pk nm (c * 69621 % 2003)=yB nm c from rfl]
  walk_at "nx"
  refine⟨⟨_,SqL.of I.pile⟩,fun C hC=>?_⟩
  refine ju (xs:=es.map V.ref) (fun j ys H2=>Same H' H2∧H2 C=some (.lst ys)∧ys.length=cU (pr.reverse.take j)) ⟨am hC _,ah,rfl⟩ (fun j ys H2 _ h=>SqL.of (h.1 _ _ I.pile)) ?_ ?_
  ·rintro j ys H2 x hx hj ⟨sm2,hl2,hn2⟩
   rw[List.length_map]at hj
   rw[List.getElem?_map,List.getElem?_eq_getElem hj]at hx
   cases hx
   obtain⟨qq,hqq,hent⟩:=bP I.ents (List.getElem?_eq_getElem hj)
   have htk:pr.reverse.take (j+1)=pr.reverse.take j++[qq]:=by rw[List.take_add_one,hqq]; rfl
   have hns:cU (pr.reverse.take j++[qq])=cU (pr.reverse.take j)+cU [qq]:=by unfold cU; rw[List.filter_append,List.length_append]
   have hle:cU (pr.reverse.take j)≤j:=by
    unfold cU
    have:=List.length_filter_le (fun q:Str × Addr=>decide (q.1≠("else" : Str))) (pr.reverse.take j)
    rw[List.length_take]at this
    omega
   walk_at "rd1"
   refine⟨_,_,.inr (SqT.of (sm2 _ _ hent)),fJ,?_⟩
   walk_at "rd1"
   refine bF (fun c1=>?_) (fun c1=>?_)
   ·have hq1:qq.1 ≠ "else" := by simpa using c1
    refine nH (by rw[List.length_map]; exact hj) (by rw[hn2]; exact hle) (by rw[List.length_map]; exact bg (by omega)) hl2 ⟨sm2.upd hC _,ah,?_⟩
    obtain⟨q1,q2⟩:=qq
    rw[htk,hns,ga hq1,List.length_append,hn2]; rfl
   ·have hq1:qq.1 = "else" := by simpa using c1
    refine sF (by rw[List.length_map]; exact hj) ⟨sm2,hl2,?_⟩
    obtain⟨q1,q2⟩:=qq
    dsimp only at hq1
    subst hq1
    rw[htk,hns,pe,hn2]; rfl
  rintro ys H2 ⟨sm2,hl2,hn2⟩
  have hdeep:ys.length=st.stk.length:=by
   rw[hn2,List.length_map,List.take_of_length_le (by rw[List.length_reverse]; omega),← dd2]
   unfold cU
   rw[List.filter_reverse,List.length_reverse]
  have I2:=I.alloc sm2
  walk_at "rd1"
  refine⟨_,.inl (SqL.of hl2),?_⟩
  rw[hdeep]
  walk_at "nx"
  refine bF (fun c1=>?_) (fun c1=>?_)
  ·refine⟨by decide,fun np hnp=>?_⟩
   have sm3:=am hnp (.lst [])
   have e3:upd H2 np (.lst []) np=some (.lst []):=ah
   generalize upd H2 np (.lst [])=H3 at sm3 e3 ⊢
   have I3:=I2.alloc sm3
   rcases pr with _ | ⟨⟨wd,up⟩,pr'⟩
   ·have hes0:es=[]:=List.length_eq_zero_iff.mp hes
    have hsk:st.stk=[]:=by have:=dd2; exact List.length_eq_zero_iff.mp this.symm
    subst hes0
    refine⟨0,true,by decide,EqN.seqFlat (.inl ⟨SqL.of I3.pile,SqL.of e3⟩) (by simp),?_⟩
    walk_at "rd1"
    refine bF (fun c2=>?_) (fun c2=>absurd c2 (by omega))
    refine bF (fun c3=>absurd c3 (by omega)) (fun c3=>?_)
    refine bF (fun c4=>absurd c4 (by omega)) (fun c4=>?_)
    exact⟨here,d,_,S,as,_,st,_,_,_,_,_,_,_,rfl,by rw[hfold,eI (by rw[hsk]; simp) (by omega) (by omega)],I3,B,by omega⟩
   ·have hsk:st.stk≠[]:=fun z=>by have:=I.ctx.pile; rw[z]at this; simp[cf]at this
    rcases List.eq_nil_or_concat es with z | ⟨es0,e,z⟩
    ·rw[z]at hes; simp at hes
    rw[List.concat_eq_append]at z
    subst z
    have hent:H3 e=some (.tup [.str wd,.ref up]):=by
     have:=I3.ents
     rw[List.reverse_cons]at this
     exact(fS this).2
    have npe:e≠pp:=cJ hent I3.pile (fun z=>nomatch z)
    refine⟨0,false,by decide,.inr ⟨pp,np,_,_,rfl,rfl,.inl ⟨SqL.of I3.pile,SqL.of e3⟩,.inr ⟨SqL.of I3.pile,SqL.of e3,by simp,rfl⟩⟩,?_⟩
    walk_at "rd1"
    refine⟨⟨_,SqL.of I3.pile⟩,_,.ref e,I3.pile,by simp,e,[.str wd,.ref up],rfl,SqT.of (by rw[af npe]; exact hent),rfl,_,_,rfl,_,_,rfl,rfl,?_⟩
    walk_at "nx"
    have hl4:∀ o,upd H3 pp o lp=some (.lst (st.L.map V.str)):=fun o=>by rw[af I.lpp]; exact I3.lines
    refine⟨⟨_,SqL.of (hl4 _)⟩,_,hl4 _,by rw[List.length_map]; exact bO (by omega),?_⟩
    have hdl:(List.map V.ref (es0++[e])).dropLast=es0.map V.ref:=by rw[List.map_append]; exact List.dropLast_concat
    rw[hdl]
    obtain⟨d',as',I4⟩:=I3.pop (H':=upd (upd H3 pp (.lst (es0.map V.ref))) lp (.lst (st.L.map V.str++[.str wd]))) (fun b o eb n1 n2=>by rw[af n2,af n1]; exact eb) (by rw[af (Ne.symm I.lpp)]; exact ah) (by rw[ah,List.map_append]; rfl)
    have hpl:=vj st
    refine⟨up,d',pr',_,as',es0,dz st,some (.int c),some (.int (c % 15)),some (.str (xB nm c)),some (.str (yB nm c)),some (.int (st.stk.length:Int)),some (.str wd),o14,?_,?_,I4,oP B hsk I4.ctx.deep.1,by omega⟩
    ·rw[(qv st).1,(qv st).2]
    ·rw[hfold]; unfold cV; rw[if_pos ⟨c1,hsk⟩]
  ·refine bF (fun c2=>?_) (fun c2=>?_)
   ·refine bF (fun c3=>?_) (fun c3=>absurd c3 (by omega))
    refine bF (fun c4=>?_) (fun c4=>?_)
    rotate_left
    ·refine bF (fun c9=>absurd c9 (by omega)) (fun c9=>?_)
     exact⟨here,d,pr,S,as,es,st,_,_,_,_,_,_,_,rfl,by rw[hfold,eI (by omega) (by omega) (by omega)],I2,B,by omega⟩
    refine bF (fun c5=>?_) (fun c5=>?_)
    rotate_left
    ·refine bF (fun c9=>absurd c9 (by omega)) (fun c9=>?_)
     exact⟨here,d,pr,S,as,es,st,_,_,_,_,_,_,_,rfl,by rw[hfold,eI (by omega) (by omega) (by omega)],I2,B,by omega⟩
    obtain⟨d',rfl⟩ : ∃ d',d=d'+1:=⟨d - 1,by omega⟩
    refine bF (fun c6=>?_) (fun c6=>?_)
    ·walk_at "nx"
     walk_at "nx"
     refine⟨here,pp,lp,c,nm,H,root,⟨st.cur,st.stk,st.L,st.left - 3+(if (!decide (c % 15=10))=true then 1 else 0),st.lends - (if c % 15=9 then 1 else 0)⟩,d',pr,S,as,es,rfl,hU I2 _ _,ok,by omega,by omega,by show st.L.length≤1000; omega,fun inner H3 pr3 es3 I3=>?_⟩
     obtain⟨y1,y2,y3⟩:=oz nm c ⟨st.cur,st.stk,st.L,st.left - 3+(if (!decide (c % 15=10))=true then 1 else 0),st.lends - (if c % 15=9 then 1 else 0)⟩
     refine⟨inner,d',pr3,S,[],es3,dc nm c ⟨st.cur,st.stk,st.L,st.left - 3+(if (!decide (c % 15=10))=true then 1 else 0),st.lends - (if c % 15=9 then 1 else 0)⟩,some (.int c),some (.int (c % 15)),some (.str (xB nm c)),some (.str (yB nm c)),some (.int (st.stk.length:Int)),o13,o14,?_,?_,I3,nt ok c (mW B _ _),?_⟩
     ·rw[y1,y2]
     ·rw[hfold,jr (by omega) ⟨⟨c2,c3⟩,c4,c5,.inl (by simpa using c6)⟩]
     ·rw[y3]; show st.L.length+1≤i+1; omega
    refine bF (fun c7=>?_) (fun c7=>?_)
    ·walk_at "nx"
     walk_at "nx"
     refine⟨here,pp,lp,c,nm,H,root,⟨st.cur,st.stk,st.L,st.left - 3+(if (!decide (c % 15=10))=true then 1 else 0),st.lends - (if c % 15=9 then 1 else 0)⟩,d',pr,S,as,es,rfl,hU I2 _ _,ok,by omega,by omega,by show st.L.length≤1000; omega,fun inner H3 pr3 es3 I3=>?_⟩
     obtain⟨y1,y2,y3⟩:=oz nm c ⟨st.cur,st.stk,st.L,st.left - 3+(if (!decide (c % 15=10))=true then 1 else 0),st.lends - (if c % 15=9 then 1 else 0)⟩
     refine⟨inner,d',pr3,S,[],es3,dc nm c ⟨st.cur,st.stk,st.L,st.left - 3+(if (!decide (c % 15=10))=true then 1 else 0),st.lends - (if c % 15=9 then 1 else 0)⟩,some (.int c),some (.int (c % 15)),some (.str (xB nm c)),some (.str (yB nm c)),some (.int (st.stk.length:Int)),o13,o14,?_,?_,I3,nt ok c (mW B _ _),?_⟩
     ·rw[y1,y2]
     ·rw[hfold,jr (by omega) ⟨⟨c2,c3⟩,c4,c5,.inr c7⟩]
     ·rw[y3]; show st.L.length+1≤i+1; omega
    have c8:c % 15=9:=by simpa using c6
    refine bF (fun c9=>absurd c9 (by omega)) (fun c9=>?_)
    exact⟨here,d'+1,pr,S,as,es,st,_,_,_,_,_,_,_,rfl,by rw[hfold,eI (by omega) (by omega) (by omega)],I2,B,by omega⟩
   ·refine bF (fun c3=>?_) (fun c3=>absurd c3 (by omega))
    refine bF (fun c4=>?_) (fun c4=>?_)
    rotate_left
    ·exact⟨here,d,pr,S,as,es,st,_,_,_,_,_,_,_,rfl,by rw[hfold,eI (by omega) (by omega) (by omega)],I2,B,by omega⟩
    walk_at "nx"
    refine⟨⟨_,SqL.of I2.cur⟩,c,na,nm,rfl,I2.sm _ _ hna,ok,fun t H3 sm3 ht hat=>?_⟩
    have I3:=I2.alloc sm3
    walk_at "rd1"
    refine⟨_,I3.cur,by rw[List.length_map]; exact bO (by omega),?_⟩
    obtain⟨_,hhl,hhp,_,_⟩:=I.apart here List.mem_cons_self
    have nth:t≠here:=cJ hat I3.cur (fun z=>nomatch z)
    have hl4:∀ o,upd H3 here o lp=some (.lst (st.L.map V.str)):=fun o=>by rw[af (Ne.symm hhl)]; exact I3.lines
    have pw:=wb ok c
    have hsum:=fe 20 (cW nm c) pw.len
    have p3:=pw.three
    have h1l:(Str.ofString " ").length=1:=by decide
    walk_at "nx"
    refine⟨⟨_,SqL.of (hl4 _)⟩,_,_,.inl (SqL.of ah),ya _ _,?_⟩
    walk_at "rd1"
    refine⟨cW nm c,SqT.of (by rw[af nth]; exact hat),by rw[h1l]; omega,?_⟩
    refine⟨_,hl4 _,by rw[List.length_map]; exact bO (by omega),?_⟩
    have I5:=I3.plain (H':=upd (upd H3 here (.lst (as.map V.ref++[.ref t]))) lp (.lst (st.L.map V.str++[.str (Txt.join " " (cW nm c))]))) (t:=t) (ws:=cW nm c) (L':=st.L++[Txt.join " " (cW nm c)]) (lf:=st.left - 1) (ld:=st.lends) (fun b o eb n1 n2 n3=>by rw[af n3,af n1]; exact eb) (by rw[af hhl,ah,List.map_append]; rfl) (by rw[af (cJ hat I3.lines (fun z=>nomatch z)),af nth]; exact hat) (by rw[ah,List.map_append]; rfl) (by rw[af (Ne.symm I.lpp),af (Ne.symm hhp)]; exact I3.pile)
    refine⟨here,d,pr,S,as++[t],es,_,some (.int c),some (.int (c % 15)),some (.str (xB nm c)),some (.str (yB nm c)),some (.int (st.stk.length:Int)),o13,o14,rfl,?_,I5,tQ pw B _,?_⟩
    ·rw[hfold,pb (by omega) (by omega) ⟨c3,c4⟩]
    ·show (st.L++[_]).length≤i+1
     rw[List.length_append]; simp only[List.length_cons,List.length_nil]; omega
 ·rintro σ H' ⟨here,d,pr,S,as,es,st,o8,o9,o10,o11,o12,o13,o14,rfl,hst,I,B,hL⟩
  rw[List.length_map,List.take_length]at hst
  rw[List.length_map]at hL
  have hplen:=I.ctx.pile
  obtain⟨dd1,_,dd3⟩:=I.ctx.deep
  have hes:=ay I.ents
  rw[List.length_reverse]at hes
  walk_at "nx"
  refine⟨_,SqL.of I.pile,?_⟩
  refine wk (xs:=es.map V.ref) (fun j σ H2=>∃ o13 o14:Option V,σ=[some (.ref ca),some (.ref na),some (.ref root),some (.ref lp),some (.ref pp),some (.ref here),some (.int st.left),some (.int st.lends),o8,o9,o10,o11,o12,o13,o14]∧BInv H H2 root lp pp here ⟨st.cur,st.stk,st.L++(pr.take j).map (·.1),st.left,st.lends⟩ d pr S as es)
   ⟨o13,o14,rfl,by simpa using hU I st.left st.lends⟩ (fun j σ H2 _ h=>by obtain⟨_,_,_,I⟩:=h; exact SqL.of I.pile) ?_ ?_
  ·rintro j x σ H2 hj hx ⟨o13,o14,rfl,I2⟩
   rw[List.length_map]at hj hx
   have hj':es.length - 1 - j<es.length:=by omega
   rw[List.getElem?_map,List.getElem?_eq_getElem hj']at hx
   cases hx
   obtain⟨qq,hqq,hent⟩:=bP I2.ents (List.getElem?_eq_getElem hj')
   rw[List.getElem?_reverse (by omega)]at hqq
   have hix:pr.length - 1 - (es.length - 1 - j)=j:=by omega
   rw[hix]at hqq
   have htk:(pr.take (j+1)).map (·.1)=(pr.take j).map (·.1)++[qq.1]:=by rw[List.take_add_one,hqq,List.map_append]; rfl
   have hll:((pr.take j).map (·.1)).length≤20:=by rw[List.length_map,List.length_take]; omega
   walk_at "rd1"
   refine⟨_,_,rfl,SqT.of hent,rfl,?_⟩
   walk_at "rd1"
   refine⟨⟨_,SqL.of I2.lines⟩,_,I2.lines,by rw[List.length_map]; exact bO (by show (st.L++_).length≤1000000; rw[List.length_append]; omega),?_⟩
   have I3:=I2.line (st.L++(pr.take (j+1)).map (·.1)) (lf:=st.left) (ld:=st.lends)
   refine⟨_,_,rfl,?_⟩
   rw[htk,← List.append_assoc,List.map_append]at I3
   rw[htk,← List.append_assoc]
   exact I3
  ·rintro σ H2 ⟨o13,o14,rfl,I2⟩
   rw[List.length_map,List.take_of_length_le (by omega)]at I2
   walk_at "nx"
   refine⟨by decide,fun t ht=>?_⟩
   have I4:=I2.alloc (am ht (.tup [.ref root,.ref lp]))
   have ett:upd H2 t (.tup [.ref root,.ref lp]) t=some (.tup [.ref root,.ref lp]):=ah
   generalize upd H2 t (.tup [.ref root,.ref lp])=H3 at I4 ett ⊢
   have Ig:BInv H (upd H3 lp (.lst (st.L.map V.str))) root lp pp here st d pr S as es:=I4.line st.L (lf:=st.left) (ld:=st.lends)
   obtain⟨S',as',z1,z2,z3,z4,z5,z6,z7,z8,z9,z10,z11,z12⟩:=sO pr.length rfl Ig B
   have back:∀ b o,upd H3 lp (.lst (st.L.map V.str)) b=some o→b≠lp→H3 b=some o:=fun b o e n1=>by rw[af n1]at e; exact e
   have htp:∀ b xs,upd H3 lp (.lst (st.L.map V.str)) b=some (.tup xs)→H3 b=some (.tup xs):=fun b xs e=>back b _ e (fun z=>by rw[z,ah]at e; cases e)
   have hlq:∀ b xs,S' b→upd H3 lp (.lst (st.L.map V.str)) b=some (.lst xs)→H3 b=some (.lst xs):=fun b xs hb e=>back b _ e (fun z=>z5 (z ▸ hb))
   have hb:aQ 60 nm cs=dy pr.length st:=by
    unfold aQ
    rw[← hst,hplen]
   have hlines:(dy pr.length st).L=bX 10 (dy pr.length st).cur:=by
    have:=z1.lines
    rw[z2]at this
    simpa [dw] using this
   have hal:=ay z8
   have hsz:=z1.size
   have hll:(st.L++pr.map (·.1)).length≤100:=by rw[List.length_append,List.length_map]; omega
   rw[z3]at hlines hsz
   refine q t root lp H3 S' as' I4.sm ett z12 I4.off.2.2.1 z10 z4 z5 (back _ _ z7 z10) ?_ (by rw[hb]; exact z1.ok) ?_ ?_ (by omega)
   ·rw[hb]
    exact Paired.imp' (fun a s z=>stpAt.imp htp (fun q b y=>ProgAt.imp htp hlq (fun _ z=>z) 9 y) z) z8
   ·rw[hb,← hlines]; exact I4.lines
   ·rw[hb,← hlines]; omega
end
def cK(x:Str):Prop:=32∉x.cps.toList
def eC(f:List Stp→Prop):Stp→Prop
 | .plain ws=>dH ws∧∀ x∈ws,cK x
 | .lend x y b=>cK x∧cK y∧f b
 | .ite n b c=>n.natAbs<10 ^ 61∧f b∧f c
 | .whl n b=>n.natAbs<10 ^ 61∧f b
def bW:Nat→List Stp→Prop
 | 0,_=>False
 | d+1,T=>∀ s∈T,eC (bW d) s
def jD:List Frm→Nat→Prop
 | [],_=>True
 | .lend x y up::r,d=>cK x∧cK y∧bW (d+2) up∧jD r (d+1)
 | .whl n up::r,d=>n.natAbs<10 ^ 61∧bW (d+2) up∧jD r (d+1)
 | .inB n up::r,d=>n.natAbs<10 ^ 61∧bW (d+2) up∧jD r (d+1)
 | .inC n b up::r,d=>n.natAbs<10 ^ 61∧bW (d+1) b∧bW (d+2) up∧jD r (d+1)
structure iO (st:BS) (d:Nat):Prop where
 dep:d+st.stk.length=9
 fine:bW (d+1) st.cur
 finef:jD st.stk d
theorem gA{d:Nat}{T:List Stp}{s:Stp}(h:bW (d+1) T)(hs:eC (bW d) s):bW (d+1) (T++[s]):=fun u hu=>(List.mem_append.mp hu).elim (h u) (fun z=>by rw[List.mem_singleton.mp z]; exact hs)
theorem fF(d:Nat):bW (d+1) []:=fun s hs=>by cases hs
theorem kB{st:BS}{d:Nat}(h:iO st d):∃ d',iO (dz st) d':=by
 obtain⟨cur,stk,L,left,lends⟩:=st
 obtain⟨h1,h2,h3⟩:=h
 dsimp only at h1 h2 h3
 cases stk with
 | nil=>exact⟨d,h1,h2,h3⟩
 | cons f r=>
  rw[List.length_cons]at h1
  cases f with
  | lend x y up=>
   obtain⟨k1,k2,k3,k4⟩:=h3
   exact⟨d+1,by show d+1+r.length=9; omega,gA k3 ⟨k1,k2,h2⟩,k4⟩
  | whl n up=>
   obtain⟨k1,k3,k4⟩:=h3
   exact⟨d+1,by show d+1+r.length=9; omega,gA k3 ⟨k1,h2⟩,k4⟩
  | inB n up=>
   obtain⟨k1,k3,k4⟩:=h3
   exact⟨d,by show d+(r.length+1)=9; omega,fF _,k1,h2,k3,k4⟩
  | inC n b up=>
   obtain⟨k1,k2,k3,k4⟩:=h3
   exact⟨d+1,by show d+1+r.length=9; omega,gA k3 ⟨k1,k2,h2⟩,k4⟩
theorem oy(c:Int):(cE c).natAbs<10 ^ 61:=by
 unfold cE
 split
 ·omega
 split
 ·omega
 ·omega
theorem qN{nm:List Str}(n1:1≤nm.length)(hn:∀ x∈nm,cK x){st:BS}{d:Nat}(c:Int)(h:iO st (d+1)):iO (dc nm c st) d:=by
 obtain⟨cur,stk,L,left,lends⟩:=st
 obtain⟨h1,h2,h3⟩:=h
 dsimp only at h1 h2 h3
 have hx:=hn _ (em n1 (c * 48271 % 1009)).1
 have hy:=hn _ (em n1 (c * 69621 % 2003)).1
 unfold dc
 split
 ·exact⟨by show d+(stk.length+1)=9; omega,fF _,hx,hy,h2,h3⟩
 split
 ·exact⟨by show d+(stk.length+1)=9; omega,fF _,oy c,h2,h3⟩
 ·exact⟨by show d+(stk.length+1)=9; omega,fF _,oy c,h2,h3⟩
theorem sI{nm:List Str}(n1:1≤nm.length)(hn:∀ x∈nm,cK x)(c:Int):∀ x∈cW nm c,cK x:=by
 have hx:cK (xB nm c):=hn _ (em n1 (c * 48271 % 1009)).1
 have hy:cK (yB nm c):=hn _ (em n1 (c * 69621 % 2003)).1
 have he:∀ u∈iL++nm,cK u:=fun u hu=>by
  rcases List.mem_append.mp hu with z | z
  ·exact(by decide:∀ u∈iL,32∉u.cps.toList) u z
  ·exact hn u z
 have hw:cK (pk (iL++nm) (c * 40692 % 4001)):=he _ (em (by rw[List.length_append]; omega) _).1
 have k1:cK "open" := by unfold cK; decide
 have k2:cK "copy" := by unfold cK; decide
 have k3:cK "drop" := by unfold cK; decide
 have k4:cK "tie" := by unfold cK; decide
 have k5:cK "do" := by unfold cK; decide
 intro x hxm
 unfold cW at hxm
 split at hxm
 ·simp only[List.mem_cons,List.mem_nil_iff,or_false]at hxm; rcases hxm with rfl | rfl <;> assumption
 split at hxm
 ·simp only[List.mem_cons,List.mem_nil_iff,or_false]at hxm; rcases hxm with rfl | rfl | rfl <;> assumption
 split at hxm
 ·simp only[List.mem_cons,List.mem_nil_iff,or_false]at hxm; rcases hxm with rfl | rfl <;> assumption
 split at hxm
 ·simp only[List.mem_cons,List.mem_nil_iff,or_false]at hxm; rcases hxm with rfl | rfl | rfl <;> assumption
 ·simp only[List.mem_cons,List.mem_nil_iff,or_false]at hxm; rcases hxm with rfl | rfl | rfl <;> assumption
theorem rO{nm:List Str}(n1:1≤nm.length)(hn:∀ x∈nm,cK x){st:BS}(c:Int)(h:∃ d,iO st d):∃ d,iO (cV nm st c) d:=by
 obtain⟨d,h⟩:=h
 unfold cV
 split
 ·exact kB h
 split
 ·rename_i z
  have h1:=h.dep
  obtain⟨d',rfl⟩ : ∃ d',d=d'+1:=⟨d - 1,by have:=z.2.2.1; omega⟩
  exact⟨d',qN n1 hn c ⟨h.dep,h.fine,h.finef⟩⟩
 split
 ·exact⟨d,h.dep,gA h.fine ⟨xF nm c,sI n1 hn c⟩,h.finef⟩
 ·exact⟨d,h⟩
theorem lF{nm:List Str}(n1:1≤nm.length)(hn:∀ x∈nm,cK x):∀ (cs:List Int) (st:BS),(∃ d,iO st d)→∃ d,iO (cs.foldl (cV nm) st) d
 | [],_,h=>h
 | c::cs,st,h=>lF n1 hn cs _ (rO n1 hn c h)
theorem kE:∀ (n:Nat) (st:BS),(∃ d,iO st d)→∃ d,iO (dy n st) d
 | 0,_,h=>h
 | n+1,st,h=>by obtain⟨d,z⟩:=kE n st h; exact kB z
theorem ur(st:BS):cf (dz st).stk=cf st.stk - 1:=by
 obtain⟨cur,stk,L,left,lends⟩:=st
 cases stk with
 | nil=>rfl
 | cons f r=>cases f <;> rfl
theorem lc(st:BS):∀ n,cf (dy n st).stk=cf st.stk - n
 | 0=>rfl
 | n+1=>by show cf (dz (dy n st)).stk=_; rw[ur,lc st n]; omega
theorem v4:∀ {fs:List Frm},cf fs=0→fs=[]
 | [],_=>rfl
 | .lend _ _ _::r,h=>by simp[cf]at h
 | .whl _ _::r,h=>by simp[cf]at h
 | .inB _ _::r,h=>by simp[cf]at h
 | .inC _ _ _::r,h=>by simp[cf]at h
theorem rm{nm:List Str}(n1:1≤nm.length)(hn:∀ x∈nm,cK x)(l:Int)(cs:List Int):bW 10 (aQ l nm cs).cur:=by
 obtain⟨d,h⟩:=kE (cf (cs.foldl (cV nm) (gL l)).stk) _ (lF n1 hn cs (gL l) ⟨9,rfl,fF _,trivial⟩)
 have e:(aQ l nm cs).stk=[]:=v4 (by unfold aQ; rw[lc]; omega)
 have h1:=h.dep
 have e':(dy (cf (cs.foldl (cV nm) (gL l)).stk) (cs.foldl (cV nm) (gL l))).stk=[]:=e
 rw[e']at h1
 have:d=9:=by simpa using h1
 subst this
 exact h.fine
section
variable(W:List (List Str))(pt:Nat→Nat)(fs:Nat→Nat)(sl:Str→V)(lent:Nat→V)
end
theorem uH{f g:List Stp→Prop}(h:∀ b,f b→g b):∀ {s:Stp},eC f s→eG g s
 | .plain ws,⟨px,_⟩=>by
  show eF ws
  cases px with
  | op x=>exact .opn x
  | dr x=>exact .drp x
  | dd u x=>exact .doo u x
  | cp x y=>exact .cpy x y
  | ti x y=>exact .tie x y
 | .lend _ _ _,z=>h _ z.2.2
 | .ite _ _ _,z=>⟨h _ z.2.1,h _ z.2.2⟩
 | .whl _ _,z=>h _ z.2
theorem iY:∀ {d:Nat} {T:List Stp},bW d T→gN d T
 | 0,_,h=>h
 | _+1,_,h=>fun s hs=>uH (fun _ z=>iY z) (h s hs)
theorem pZ{l:List Str}{n:Str}(h:n∈l):n∈cX l:=by
 unfold cX
 have go:∀ (l acc:List Str),n∈acc∨n∈l→n∈l.foldl fC acc:=fun l=>by
  induction l with
  | nil=>intro acc h; exact h.elim id (fun z=>by cases z)
  | cons x l ih=>
   intro acc h
   refine ih _ ?_
   unfold fC
   rcases h with h | h
   ·left; split
    ·exact h
    ·exact List.mem_append_left _ h
   ·rcases List.mem_cons.mp h with rfl | h
    ·left; split
     ·assumption
     ·exact List.mem_append_right _ List.mem_cons_self
    ·exact .inr h
 exact go l [] (.inr h)
theorem iG{ws:List Str}(px:dH ws):ws.headD "" = "open" ∨ ws.headD "" = "drop" ∨ ws.headD "" = "do" ∨ ws.headD "" = "copy" ∨ ws.headD "" = "tie" := by
 cases px
 ·exact .inl rfl
 ·exact .inr (.inl rfl)
 ·exact .inr (.inr (.inl rfl))
 ·exact .inr (.inr (.inr (.inl rfl)))
 ·exact .inr (.inr (.inr (.inr rfl)))
def SitsR{α : Type}(R X:List α)(a:Nat):Prop:=∀ i r,X[i]? = some r→R[a+i]? = some r
theorem SitsR.left{α : Type}{R X Y:List α}{a:Nat}(h:SitsR R (X++Y) a):SitsR R X a:=fun i r e=>h i r (by rw[List.getElem?_append_left (List.getElem?_eq_some_iff.mp e).1]; exact e)
theorem SitsR.right{α : Type}{R X Y:List α}{a:Nat}(h:SitsR R (X++Y) a):SitsR R Y (a+X.length):=fun i r e=>by
 have:=h (X.length+i) r (by rw[List.getElem?_append_right (by omega)]; rw[show X.length+i - X.length=i by omega]; exact e)
 rw[Nat.add_assoc]; exact this
theorem SitsR.one{α : Type}{R:List α}{x:α}{a:Nat}(h:SitsR R [x] a):R[a]? = some x:=h 0 x rfl
theorem SitsR.c0{α : Type}{R Y:List α}{x:α}{a:Nat}(h:SitsR R (x::Y) a):R[a]? = some x:=h 0 x rfl
theorem SitsR.cs{α : Type}{R Y:List α}{x:α}{a:Nat}(h:SitsR R (x::Y) a):SitsR R Y (a+1):=fun i r e=>by
 have:=h (i+1) r (by rw[List.getElem?_cons_succ]; exact e)
 rw[show a+1+i=a+(i+1) by omega]; exact this
def bI(r:aG):Bool:=match r with
 | .str h::_=>decide (h = "jump")
 | _=>false
def eY(i:Nat):aG→List Nat
 | [.str h,_,_,.int j]=>if h = "test" then [i+1,j.toNat] else [i+1]
 | .str h::_=>if h = "end" then [] else [i+1]
 | _=>[i+1]
def kK(i:Nat)(r:aG):List Nat:=if bI r=true then (match r.getD 2 .non with
 | .int j=>[j.toNat]
 | _=>[i+1]) else eY i r
inductive Rch (R:List aG):Nat→Prop
 | zero:Rch R 0
 | step {i j:Nat} {r:aG}:Rch R i→R[i]? = some r→j∈kK i r→Rch R j
def ia(r:aG):Prop:=bI r=false∧(∀ i,eY i r=[i+1])∧∀ i,kK i r=[i+1]
theorem cN{h:Str}{u:List V}(hh:h∉(["jump"]:List Str)):bI (.str h::u)=false:=by
 show decide _=false
 exact decide_eq_false fun z=>hh (by rw[z]; exact List.mem_cons_self)
theorem cR{h:Str}{u:List V}(hh:h∉(["test", "jump", "end"]:List Str)):ia (.str h::u):=by
 simp only[List.mem_cons,List.not_mem_nil,or_false,not_or]at hh
 obtain⟨h1,h2,h3⟩:=hh
 have a:∀ i,eY i (.str h::u)=[i+1]:=fun i=>by
  unfold eY
  split
  ·rename_i e; cases e; rw[if_neg h1]
  ·rename_i e; cases e; rw[if_neg h3]
  ·rfl
 have hj:bI (.str h::u)=false:=cN (by simp only[List.mem_cons,List.not_mem_nil,or_false]; exact h2)
 refine⟨hj,a,fun i=>?_⟩
 unfold kK
 rw[hj,if_neg (by decide)]; exact a i
theorem jb{kv:List (aK × V)}{l:Nat}{ws:List Str}(px:dH ws):ia (dN kv l ws):=by
 unfold dN
 split
 ·exact cR (by decide +kernel)
 ·refine cR ?_
  rcases iG px with h | h | h | h | h <;> rw[h] <;> decide +kernel
theorem ij{i m:Nat}{l n:V}:eY i [.str "test", l,n,iN m]=[i+1,m]:=by
 show (if ("test" : Str) = "test" then [i+1,((m:Int)).toNat] else [i+1])=_
 rw[if_pos rfl,Int.toNat_natCast]
theorem gh{i m:Nat}{l n:V}:kK i [.str "test", l,n,iN m]=[i+1,m]:=by
 unfold kK
 rw[cN (by decide +kernel),if_neg (by decide)]; exact ij
theorem xx{i m:Nat}{l:V}:kK i [.str "jump", l,iN m]=[m]:=by
 unfold kK
 rw[if_pos (by exact decide_eq_true (p:=("jump" : Str) = "jump") rfl)]
 show [((m:Int)).toNat]=_
 rw[Int.toNat_natCast]
theorem nJ{i:Nat}{l:V}:eY i [.str "end", l]=[]:=by
 show (if ("end" : Str) = "end" then [] else [i+1])=_
 rw[if_pos rfl]
theorem Rch.next{R:List aG}{i:Nat}{r:aG}(h:Rch R i)(e:R[i]? = some r)(p:ia r):Rch R (i+1):=h.step e (by rw[p.2.2]; exact List.mem_cons_self)
def AllR(R:List aG)(a n:Nat):Prop:=∀ i,a≤i→i≤a+n→Rch R i
theorem AllR.app{R:List aG}{a n m:Nat}(h:AllR R a n)(k:AllR R (a+n) m):AllR R a (n+m):=fun i h1 h2=>by
 by_cases c:i≤a+n
 ·exact h i h1 c
 ·exact k i (by omega) (by omega)
theorem AllR.nil{R:List aG}{a:Nat}(h:Rch R a):AllR R a 0:=fun i h1 h2=>by rw[show i=a by omega]; exact h
theorem AllR.one{R:List aG}{a:Nat}(h:Rch R a)(k:Rch R (a+1)):AllR R a 1:=fun i h1 h2=>by
 by_cases c:i=a
 ·rw[c]; exact h
 ·rw[show i=a+1 by omega]; exact k
theorem AllR.last{R:List aG}{a n:Nat}(h:AllR R a n):Rch R (a+n):=h _ (by omega) (Nat.le_refl _)
theorem AllR.three{R:List aG}{a:Nat}{r1 r2 r3:aG}(h:Rch R a)(s:SitsR R [r1,r2,r3] a)(p1:ia r1)(p2:ia r2)(p3:ia r3):AllR R a 3:=by
 have b1:=h.next s.c0 p1
 have b2:=b1.next s.cs.c0 p2
 have b3:=b2.next s.cs.cs.c0 p3
 exact((AllR.one h b1).app (AllR.one b1 b2)).app (AllR.one b2 b3)
theorem lx(kv:List (aK × V))(R:List aG):∀ (d:Nat) (t:Bool) (a l:Nat) (T:List Stp),bW d T→SitsR R (ai kv d t a l T) a→Rch R a→AllR R a (ai kv d t a l T).length
 | 0,_,_,_,_,h,_,_=>h.elim
 | d+1,t,a,l,T,hf,hs,hr=>by
  have ih:=lx kv R d
  have st:∀ (s:Stp) (a l:Nat),eC (bW d) s→SitsR R (aC kv (ai kv d) (ac d) t a l s) a→Rch R a→AllR R a (aC kv (ai kv d) (ac d) t a l s).length:=fun s a l hq hS hr=>by
   cases s with
   | plain ws=>exact AllR.one hr (hr.next (SitsR.one hS) (jb hq.1))
   | lend x y b=>
    have hS':SitsR R (_++_++_) a:=hS
    have A1:AllR R a 3:=AllR.three hr hS'.left.left (cR (by decide +kernel)) (cR (by decide +kernel)) (cR (by decide +kernel))
    have A2:=ih t (a+3) (l+1) b hq.2.2 hS'.left.right A1.last
    have hS3:=hS'.right
    rw[List.length_append,← Nat.add_assoc]at hS3
    have A3:AllR R (a+3+(ai kv d t (a+3) (l+1) b).length) 3:=AllR.three A2.last hS3 (cR (by decide +kernel)) (cR (by decide +kernel)) (cR (by decide +kernel))
    have:=A1.app (A2.app A3)
    have e:(aC kv (ai kv d) (ac d) t a l (.lend x y b)).length=3+((ai kv d t (a+3) (l+1) b).length+3):=by
     show (b_ kv (ai kv d) (ac d) t a l x y b).length=_
     unfold b_; simp only[List.length_append,List.length_cons,List.length_nil]; omega
    rw[e]; exact this
   | ite n b c=>
    have hS':SitsR R (db (ai kv d) (ac d) t a l n b c) a:=hS
    have e:(aC kv (ai kv d) (ac d) t a l (.ite n b c)).length=(db (ai kv d) (ac d) t a l n b c).length:=rfl
    rw[e]
    unfold db at hS' ⊢
    generalize hb:ai kv d t (a+1) (l+1) b=B at hS' ⊢
    generalize hc:ai kv d t (a+1+B.length+1) (l+1+ac d b+1) c=C at hS' ⊢
    have s0:=hS'.left.left.left.one
    have r1:Rch R (a+1):=hr.step s0 (by rw[gh]; simp)
    have r2:Rch R (a+1+B.length+1):=hr.step s0 (by rw[gh]; simp)
    have A1:=ih t (a+1) (l+1) b hq.2.1 (by rw[hb]; exact hS'.left.left.right) r1
    rw[hb]at A1
    have sj:=hS'.left.right.one
    simp only[List.length_append,List.length_cons,List.length_nil,Nat.zero_add]at sj
    rw[← Nat.add_assoc]at sj
    have sC:=hS'.right
    simp only[List.length_append,List.length_cons,List.length_nil,Nat.zero_add]at sC
    rw[show a+(1+B.length+1)=a+1+B.length+1 by omega]at sC
    have A2:=ih t _ _ c hq.2.2 (by rw[hc]; exact sC) r2
    rw[hc]at A2
    have:=(AllR.one hr r1).app (A1.app ((AllR.one A1.last r2).app A2))
    simp only[List.length_append,List.length_cons,List.length_nil]
    rw[show 0+1+B.length+(0+1)+C.length=1+(B.length+(1+C.length)) by omega]; exact this
   | whl n b=>
    have lp:∀ a:Nat,SitsR R (bU (ai kv d) (ac d) a l n b) a→Rch R a→AllR R a (bU (ai kv d) (ac d) a l n b).length:=fun a hS hr=>by
     unfold bU at hS ⊢
     generalize hb:ai kv d false (a+1) (l+1) b=B at hS ⊢
     have s0:=hS.left.left.one
     have r1:Rch R (a+1):=hr.step s0 (by rw[gh]; simp)
     have r2:Rch R (a+1+B.length+1):=hr.step s0 (by rw[gh]; simp)
     have A1:=ih false (a+1) (l+1) b hq.2 (by rw[hb]; exact hS.left.right) r1
     rw[hb]at A1
     have:=(AllR.one hr r1).app (A1.app (AllR.one A1.last r2))
     simp only[List.length_append,List.length_cons,List.length_nil]
     rw[show 0+1+B.length+(0+1)=1+(B.length+1) by omega]; exact this
    have e:(aC kv (ai kv d) (ac d) t a l (.whl n b)).length=(bG (ai kv d) (ac d) t a l n b).length:=rfl
    have hS':SitsR R (bG (ai kv d) (ac d) t a l n b) a:=hS
    rw[e]
    unfold bG at hS' ⊢
    cases t with
    | false=>rw[if_neg (by decide)]at hS' ⊢; exact lp a hS' hr
    | true=>
     rw[if_pos rfl]at hS' ⊢
     generalize hb:ai kv d true (a+1) (l+1) b=B at hS' ⊢
     have s0:=hS'.left.left.one
     have r1:Rch R (a+1):=hr.step s0 (by rw[gh]; simp)
     have A1:=ih true (a+1) (l+1) b hq.2 (by rw[hb]; exact hS'.left.right) r1
     rw[hb]at A1
     have sL:=hS'.right
     simp only[List.length_append,List.length_cons,List.length_nil,Nat.zero_add]at sL
     rw[← Nat.add_assoc]at sL
     have A2:=lp _ sL A1.last
     have:=(AllR.one hr r1).app (A1.app A2)
     rw[List.length_append,List.length_append,Nat.add_assoc]; exact this
  have go:∀ (T:List Stp) (a l:Nat),(∀ s∈T,eC (bW d) s)→SitsR R (aU (aC kv (ai kv d) (ac d) t) (aJ (ac d)) a l T) a→Rch R a→AllR R a (aU (aC kv (ai kv d) (ac d) t) (aJ (ac d)) a l T).length:=fun T=>by
   induction T with
   | nil=>intro a l _ _ hr; exact AllR.nil hr
   | cons s T ihT=>
    intro a l hf hs hr
    have hs':SitsR R (aC kv (ai kv d) (ac d) t a l s++aU _ _ _ _ T) a:=hs
    have A1:=st s a l (hf s List.mem_cons_self) hs'.left hr
    have A2:=ihT _ _ (fun s hs=>hf s (List.mem_cons_of_mem _ hs)) hs'.right A1.last
    show AllR R a (aC kv (ai kv d) (ac d) t a l s++aU _ _ _ _ T).length
    rw[List.length_append]; exact A1.app A2
  exact go T a l hf hs hr
theorem qY{NM:List Str}{d:Nat}{t:Bool}{T:List Stp}(hf:bW d T):∀ i,i<(bw NM d t T).length→Rch (bw NM d t T) i:=fun i hi=>by
 have h:=lx (eU (cu NM (bX d T))) (bw NM d t T) d t 0 0 T hf (fun i r e=>by
  rw[Nat.zero_add]
  unfold bw
  rw[List.getElem?_append_left (List.getElem?_eq_some_iff.mp e).1]; exact e) .zero
 refine h i (Nat.zero_le _) ?_
 unfold bw at hi
 rw[List.length_append]at hi
 simp only[List.length_cons,List.length_nil]at hi
 omega
inductive Sh (R:List aG):Nat→Nat→Nat→Prop
 | stop {i:Nat} {r:aG}:R[i]? = some r→bI r=false→Sh R i i 0
 | hop {i j k n:Nat} {v:V}:R[i]? = some [.str "jump", v,iN k]→Sh R k j n→Sh R i j (n+1)
theorem Sh.lt{R:List aG}{i j n:Nat}(h:Sh R i j n):i<R.length:=by
 cases h with
 | stop e _=>exact(List.getElem?_eq_some_iff.mp e).1
 | hop e _=>exact(List.getElem?_eq_some_iff.mp e).1
section
variable(kv:List (aK × V))(f:Bool→Nat→Nat→List Stp→List Nat)(g:Bool→Nat→List Stp→Nat)
def kT(t:Bool)(a l:Nat)(cnt:List Stp→Nat):Stp→List Nat
 | .plain _=>[a]
 | .lend _ _ b=>[a,a+1,a+2]++f t (a+3) (l+1) b++[a+3+g false (l+1) b,a+3+g false (l+1) b+1,a+3+g false (l+1) b+2]
 | .ite _ b c=>[a]++f t (a+1) (l+1) b++[a+1+g false (l+1) b]++f t (a+1+g false (l+1) b+1) (l+1+cnt b+1) c
 | .whl _ b=>if t=true then [a]++f true (a+1) (l+1) b++([a]++f false (a+1) (l+1) b++[a+1+g false (l+1) b]) else [a]++f false (a+1) (l+1) b++[a+1+g false (l+1) b]
end
def kq(m:Nat→Nat→Stp→List Nat)(n:Nat→Stp→Nat)(c:Stp→Nat):Nat→Nat→List Stp→List Nat
 | _,_,[]=>[]
 | a,l,s::T=>m a l s++kq m n c (a+n l s) (l+c s) T
def cg(d:Nat)(t:Bool)(l:Nat)(T:List Stp):Nat:=(ai [] d t 0 l T).length
def dA:Nat→Bool→Nat→Nat→List Stp→List Nat
 | 0,_,_,_,_=>[]
 | d+1,t,a,l,T=>kq (fun a l s=>kT (dA d) (cg d) t a l (ac d) s) (fun l s=>(aC [] (ai [] d) (ac d) false 0 l s).length) (aJ (ac d)) a l T
theorem jd{kv kv':List (aK × V)}{f g:Bool→Nat→Nat→List Stp→List aG}{cnt:List Stp→Nat}(h:∀ t a a' l l' b,(f t a l b).length=(g t a' l' b).length):∀ (s:Stp) (t:Bool) (a a' l l':Nat),(aC kv f cnt t a l s).length=(aC kv' g cnt t a' l' s).length
 | .plain _,_,_,_,_,_=>rfl
 | .lend x y b,t,a,a',l,l'=>by
  show (b_ kv f cnt t a l x y b).length=(b_ kv' g cnt t a' l' x y b).length
  unfold b_
  simp only[List.length_append,List.length_cons,List.length_nil]
  rw[h t (a+3) (a'+3) (l+1) (l'+1) b]
 | .ite n b c,t,a,a',l,l'=>by
  show (db f cnt t a l n b c).length=(db g cnt t a' l' n b c).length
  unfold db
  simp only[List.length_append,List.length_cons,List.length_nil]
  rw[h t (a+1) (a'+1) (l+1) (l'+1) b,h t _ (a'+1+(g t (a'+1) (l'+1) b).length+1) _ (l'+1+cnt b+1) c]
 | .whl n b,t,a,a',l,l'=>by
  have lp:∀ a a':Nat,(bU f cnt a l n b).length=(bU g cnt a' l' n b).length:=fun a a'=>by rw[dk,dk,h false (a+1) (a'+1) (l+1) (l'+1) b]
  show (bG f cnt t a l n b).length=(bG g cnt t a' l' n b).length
  unfold bG
  split
  ·simp only[List.length_append,List.length_cons,List.length_nil]
   rw[h true (a+1) (a'+1) (l+1) (l'+1) b,lp _ (a'+1+(g true (a'+1) (l'+1) b).length)]
  ·exact lp a a'
theorem fY{kv kv':List (aK × V)}:∀ (d:Nat) (t:Bool) (a a' l l':Nat) (T:List Stp),(ai kv d t a l T).length=(ai kv' d t a' l' T).length
 | 0,_,_,_,_,_,_=>rfl
 | d+1,t,a,a',l,l',T=>by
  have st:=jd (kv:=kv) (kv':=kv') (cnt:=ac d) (f:=ai kv d) (g:=ai kv' d) (fun t a a' l l' b=>fY d t a a' l l' b)
  have go:∀ (T:List Stp) (a a' l l':Nat),(aU (aC kv (ai kv d) (ac d) t) (aJ (ac d)) a l T).length=(aU (aC kv' (ai kv' d) (ac d) t) (aJ (ac d)) a' l' T).length:=fun T=>by
   induction T with
   | nil=>intro _ _ _ _; rfl
   | cons s T ih=>
    intro a a' l l'
    show (aC kv _ _ t a l s++aU _ _ _ _ T).length=(aC kv' _ _ t a' l' s++aU _ _ _ _ T).length
    rw[List.length_append,List.length_append,st s t a a' l l',ih _ _ _ _]
  exact go T a a' l l'
theorem bZ{kv:List (aK × V)}{d:Nat}{t:Bool}{a l l':Nat}{T:List Stp}:(ai kv d t a l T).length=cg d t l' T:=fY d t a 0 l l' T
def wt(r s:aG):Prop:=r=s∨∃ (u:List V) (j k:Nat),u.length=2∧r = .str "test" :: (u++[iN j])∧s = .str "test" :: (u++[iN k])
section
variable(Rt Rc:List aG)(M:List Nat)
def Ex(e e':Nat):Prop:=∃ k k' n n',Sh Rt e k n∧n≤Rt.length - e∧Sh Rc e' k' n'∧n'≤Rc.length - e'∧M[k]? = some k'
def mZ(i:Nat):Prop:=∀ r,Rt[i]? = some r→bI r=false→∃ i' r',M[i]? = some i'∧Rc[i']? = some r'∧bI r'=false∧wt r r'∧Paired (Ex Rt Rc M) (eY i r) (eY i' r')
def Okb(a n:Nat):Prop:=∀ i,a≤i→i<a+n→mZ Rt Rc M i
end
section
variable{Rt Rc:List aG}{M:List Nat}
theorem Okb.nil{a:Nat}:Okb Rt Rc M a 0:=fun i h1 h2=>by omega
theorem Okb.app{a n m:Nat}(h:Okb Rt Rc M a n)(k:Okb Rt Rc M (a+n) m):Okb Rt Rc M a (n+m):=fun i h1 h2=>by
 by_cases c:i<a+n
 ·exact h i h1 c
 ·exact k i (by omega) (by omega)
theorem Okb.one{a:Nat}(h:mZ Rt Rc M a):Okb Rt Rc M a 1:=fun i h1 h2=>by rw[show i=a by omega]; exact h
theorem fX{e e':Nat}{r r':aG}(h:Rt[e]? = some r)(j:bI r=false)(h':Rc[e']? = some r')(j':bI r'=false)(m:M[e]? = some e'):Ex Rt Rc M e e':=⟨e,e',0,0,.stop h j,Nat.zero_le _,.stop h' j',Nat.zero_le _,m⟩
theorem jg{a a':Nat}{r:aG}(p:ia r)(h:Rt[a]? = some r)(h':Rc[a']? = some r)(m:M[a]? = some a')(x:Ex Rt Rc M (a+1) (a'+1)):mZ Rt Rc M a∧Ex Rt Rc M a a':=by
 refine⟨fun r' hr' _=>?_,fX h p.1 h' p.1 m⟩
 rw[h]at hr'
 cases hr'
 refine⟨a',r,m,h',p.1,.inl rfl,?_⟩
 rw[p.2.1,p.2.1]
 exact .cons x .nil
theorem j_{a a' j j':Nat}{l n:V}(h:Rt[a]? = some [.str "test", l,n,iN j]) (h':Rc[a']? = some [.str "test", l,n,iN j']) (m:M[a]? = some a') (x:Ex Rt Rc M (a+1) (a'+1)) (y:Ex Rt Rc M j j'):mZ Rt Rc M a:=fun r' hr' _=>by
 rw[h]at hr'
 cases hr'
 refine⟨a',_,m,h',cN (by decide +kernel),.inr ⟨[l,n],j,j',rfl,rfl,rfl⟩,?_⟩
 rw[ij,ij]
 exact .cons x (.cons y .nil)
theorem pO{a:Nat}{v w:V}(h:Rt[a]? = some [.str "jump", v,w]):mZ Rt Rc M a:=fun r hr hj=>by
 rw[h]at hr
 cases hr
 exact absurd hj (by show ¬ decide (("jump" : Str) = "jump")=false; decide +kernel)
theorem zG{p p' k k':Nat}{v v':V}(h:Rt[p]? = some [.str "jump", v,iN k]) (h':Rc[p']? = some [.str "jump", v',iN k']) (x:Ex Rt Rc M k k') (hk:p<k) (hk':p'<k'):Ex Rt Rc M p p':=by
 obtain⟨c,c',n,n',s,b,s',b',m⟩:=x
 have:=s.lt
 have:=s'.lt
 exact⟨c,c',n+1,n'+1,.hop h s,by omega,.hop h' s',by omega,m⟩
theorem xr{p p' q a':Nat}{v v':V}{r r':aG}(h:Rt[p]? = some [.str "jump", v,iN q]) (hq:Rt[q]? = some r) (j:bI r=false) (h':Rc[p']? = some [.str "jump", v',iN a']) (ha:Rc[a']? = some r') (j':bI r'=false) (m:M[q]? = some a'):Ex Rt Rc M p p':=by
 have:=(List.getElem?_eq_some_iff.mp h).1
 have:=(List.getElem?_eq_some_iff.mp h').1
 exact⟨q,a',1,1,.hop h (.stop hq j),by omega,.hop h' (.stop ha j'),by omega,m⟩
theorem nA{p p':Nat}{r1 r2 r3:aG}(p1:ia r1)(p2:ia r2)(p3:ia r3)(h:SitsR Rt [r1,r2,r3] p)(h':SitsR Rc [r1,r2,r3] p')(m:SitsR M [p',p'+1,p'+2] p)(x:Ex Rt Rc M (p+3) (p'+3)):Okb Rt Rc M p 3∧Ex Rt Rc M p p':=by
 obtain⟨o3,x3⟩:=jg p3 h.cs.cs.c0 h'.cs.cs.c0 m.cs.cs.c0 x
 obtain⟨o2,x2⟩:=jg p2 h.cs.c0 h'.cs.c0 m.cs.c0 x3
 obtain⟨o1,x1⟩:=jg p1 h.c0 h'.c0 m.c0 x2
 exact⟨((Okb.one o1).app (Okb.one o2)).app (Okb.one o3),x1⟩
end
theorem qx{d:Nat}(ih:∀ t a l b,(dA d t a l b).length=cg d t l b):∀ (s:Stp) (t:Bool) (a l:Nat),(kT (dA d) (cg d) t a l (ac d) s).length=(aC [] (ai [] d) (ac d) t 0 l s).length
 | .plain _,_,_,_=>rfl
 | .lend x y b,t,a,l=>by
  show ([a,a+1,a+2]++_++[_,_,_]).length=(b_ [] (ai [] d) (ac d) t 0 l x y b).length
  unfold b_
  simp only[List.length_append,List.length_cons,List.length_nil]
  rw[ih,bZ (l':=l+1)]
 | .ite n b c,t,a,l=>by
  show ([a]++_++[_]++_).length=(db (ai [] d) (ac d) t 0 l n b c).length
  unfold db
  simp only[List.length_append,List.length_cons,List.length_nil]
  rw[ih,ih,bZ (l':=l+1),bZ (l':=l+1+ac d b+1)]
 | .whl n b,t,a,l=>by
  show (if t=true then _ else _:List Nat).length=(bG (ai [] d) (ac d) t 0 l n b).length
  unfold bG
  cases t with
  | false=>
   rw[if_neg (by decide),if_neg (by decide),dk]
   simp only[List.length_append,List.length_cons,List.length_nil]
   rw[ih,bZ (l':=l+1)]; omega
  | true=>
   rw[if_pos rfl,if_pos rfl]
   simp only[List.length_append,List.length_cons,List.length_nil,dk]
   rw[ih,ih,bZ (l':=l+1),bZ (l':=l+1)]; omega
theorem fP:∀ (d:Nat) (t:Bool) (a l:Nat) (T:List Stp),(dA d t a l T).length=cg d t l T
 | 0,_,_,_,_=>rfl
 | d+1,t,a,l,T=>by
  have st:=qx (d:=d) (fun t a l b=>fP d t a l b)
  have go:∀ (T:List Stp) (a b l:Nat),(kq (fun a l s=>kT (dA d) (cg d) t a l (ac d) s) (fun l s=>(aC [] (ai [] d) (ac d) false 0 l s).length) (aJ (ac d)) a l T).length=(aU (aC [] (ai [] d) (ac d) t) (aJ (ac d)) b l T).length:=fun T=>by
   induction T with
   | nil=>intro _ _ _; rfl
   | cons s T ihT=>
    intro a b l
    show (kT (dA d) (cg d) t a l (ac d) s++kq _ _ _ _ _ T).length=(aC [] (ai [] d) (ac d) t b l s++aU _ _ _ _ T).length
    rw[List.length_append,List.length_append,st s t a l,jd (fun t a a' l l' b=>fY d t a a' l l' b) s t 0 b l l,ihT]
  exact go T a 0 l
theorem sV(kv:List (aK × V))(Rt Rc:List aG)(M:List Nat):∀ (d:Nat) (t:Bool) (a a' l:Nat) (T:List Stp),bW d T→SitsR Rt (ai kv d t a l T) a→SitsR Rc (ai kv d false a' l T) a'→SitsR M (dA d t a' l T) a→Ex Rt Rc M (a+(ai kv d t a l T).length) (a'+(ai kv d false a' l T).length)→Okb Rt Rc M a (ai kv d t a l T).length∧Ex Rt Rc M a a'
 | 0,_,_,_,_,_,h,_,_,_,_=>h.elim
 | d+1,t,a,a',l,T,hf,h1,h2,h3,hx=>by
  have ih:=sV kv Rt Rc M d
  have st:∀ (s:Stp) (a a' l:Nat),eC (bW d) s→SitsR Rt (aC kv (ai kv d) (ac d) t a l s) a→SitsR Rc (aC kv (ai kv d) (ac d) false a' l s) a'→SitsR M (kT (dA d) (cg d) t a' l (ac d) s) a→Ex Rt Rc M (a+(aC kv (ai kv d) (ac d) t a l s).length) (a'+(aC kv (ai kv d) (ac d) false a' l s).length)→Okb Rt Rc M a (aC kv (ai kv d) (ac d) t a l s).length∧Ex Rt Rc M a a':=fun s a a' l hq g1 g2 g3 gx=>by
   cases s with
   | plain ws=>
    obtain⟨o,x⟩:=jg (jb hq.1) (SitsR.one g1) (SitsR.one g2) (SitsR.one g3) gx
    exact⟨Okb.one o,x⟩
   | lend x y b=>
    have g1':SitsR Rt (b_ kv (ai kv d) (ac d) t a l x y b) a:=g1
    have g2':SitsR Rc (b_ kv (ai kv d) (ac d) false a' l x y b) a':=g2
    have gx':Ex Rt Rc M (a+(b_ kv (ai kv d) (ac d) t a l x y b).length) (a'+(b_ kv (ai kv d) (ac d) false a' l x y b).length):=gx
    have g3':SitsR M ([a',a'+1,a'+2]++dA d t (a'+3) (l+1) b++[a'+3+cg d false (l+1) b,a'+3+cg d false (l+1) b+1,a'+3+cg d false (l+1) b+2]) a:=g3
    show Okb Rt Rc M a (b_ kv (ai kv d) (ac d) t a l x y b).length∧_
    have lm:=fP d t (a'+3) (l+1) b
    have l1:(ai kv d t (a+3) (l+1) b).length=cg d t (l+1) b:=bZ
    have l2:(ai kv d false (a'+3) (l+1) b).length=cg d false (l+1) b:=bZ
    have ihb:=ih t (a+3) (a'+3) (l+1) b hq.2.2
    unfold b_ at g1' g2' gx' ⊢
    generalize ai kv d t (a+3) (l+1) b=B at *
    generalize ai kv d false (a'+3) (l+1) b=B' at *
    generalize dA d t (a'+3) (l+1) b=MB at *
    have t1:=g1'.right
    have t2:=g2'.right
    have t3:=g3'.right
    simp only[List.length_append,List.length_cons,List.length_nil,Nat.zero_add]at t1 t2 t3 gx' ⊢
    rw[show a+(1+1+1+B.length)=a+3+B.length by omega]at t1
    rw[show a'+(1+1+1+B'.length)=a'+3+B'.length by omega]at t2
    rw[lm,← l1,← l2,show a+(1+1+1+B.length)=a+3+B.length by omega]at t3
    rw[show a+(1+1+1+B.length+(1+1+1))=a+3+B.length+3 by omega,show a'+(1+1+1+B'.length+(1+1+1))=a'+3+B'.length+3 by omega]at gx'
    obtain⟨o3,x3⟩:=nA (cR (by decide +kernel)) (cR (by decide +kernel)) (cR (by decide +kernel)) t1 t2 t3 gx'
    obtain⟨o2,x2⟩:=ihb g1'.left.right g2'.left.right g3'.left.right x3
    obtain⟨o1,x1⟩:=nA (cR (by decide +kernel)) (cR (by decide +kernel)) (cR (by decide +kernel)) g1'.left.left g2'.left.left g3'.left.left x2
    exact⟨(o1.app o2).app (by rw[← Nat.add_assoc]; exact o3),x1⟩
   | ite n b c=>
    have g1':SitsR Rt (db (ai kv d) (ac d) t a l n b c) a:=g1
    have g2':SitsR Rc (db (ai kv d) (ac d) false a' l n b c) a':=g2
    have gx':Ex Rt Rc M (a+(db (ai kv d) (ac d) t a l n b c).length) (a'+(db (ai kv d) (ac d) false a' l n b c).length):=gx
    have g3':SitsR M ([a']++dA d t (a'+1) (l+1) b++[a'+1+cg d false (l+1) b]++dA d t (a'+1+cg d false (l+1) b+1) (l+1+ac d b+1) c) a:=g3
    show Okb Rt Rc M a (db (ai kv d) (ac d) t a l n b c).length∧_
    have lm:=fP d t (a'+1) (l+1) b
    have l1:(ai kv d t (a+1) (l+1) b).length=cg d t (l+1) b:=bZ
    have l2:(ai kv d false (a'+1) (l+1) b).length=cg d false (l+1) b:=bZ
    have ihb:=ih t (a+1) (a'+1) (l+1) b hq.2.1
    rw[← l2]at g3'
    unfold db at g1' g2' gx' ⊢
    generalize ai kv d t (a+1) (l+1) b=B at *
    generalize ai kv d false (a'+1) (l+1) b=B' at *
    generalize dA d t (a'+1) (l+1) b=MB at *
    have ihc:=ih t (a+1+B.length+1) (a'+1+B'.length+1) (l+1+ac d b+1) c hq.2.2
    have t1:=g1'.right
    have t2:=g2'.right
    have t3:=g3'.right
    have j1:=g1'.left.right.one
    have j2:=g2'.left.right.one
    have j3:=g3'.left.right.one
    simp only[List.length_append,List.length_cons,List.length_nil,Nat.zero_add]at t1 t2 t3 gx' j1 j2 j3 ⊢
    rw[show a+(1+B.length+1)=a+1+B.length+1 by omega]at t1
    rw[show a'+(1+B'.length+1)=a'+1+B'.length+1 by omega]at t2
    rw[lm,← l1,show a+(1+B.length+1)=a+1+B.length+1 by omega]at t3
    rw[show a+(1+B.length)=a+1+B.length by omega]at j1
    rw[show a'+(1+B'.length)=a'+1+B'.length by omega]at j2
    generalize ai kv d t (a+1+B.length+1) (l+1+ac d b+1) c=C at *
    generalize ai kv d false (a'+1+B'.length+1) (l+1+ac d b+1) c=C' at *
    rw[show a+(1+B.length+1+C.length)=a+1+B.length+1+C.length by omega,show a'+(1+B'.length+1+C'.length)=a'+1+B'.length+1+C'.length by omega]at gx'
    obtain⟨oc,xc⟩:=ihc t1 t2 t3 gx'
    have xj:Ex Rt Rc M (a+1+B.length) (a'+1+B'.length):=zG j1 j2 gx' (by omega) (by omega)
    obtain⟨ob,xb⟩:=ihb g1'.left.left.right g2'.left.left.right g3'.left.left.right xj
    have s1:=g1'.left.left.left.one
    have s2:=g2'.left.left.left.one
    have s3:=g3'.left.left.left.one
    have ot:=j_ s1 s2 s3 xb xc
    refine⟨((((Okb.one ot).app ob).app (Okb.one (by rw[← Nat.add_assoc]; exact pO j1))).app (by rw[show a+(1+B.length+1)=a+1+B.length+1 by omega]; exact oc)),fX s1 (cN (by decide +kernel)) s2 (cN (by decide +kernel)) s3⟩
   | whl n b=>
    have l2:(ai kv d false (a'+1) (l+1) b).length=cg d false (l+1) b:=bZ
    have lp:∀ q:Nat,SitsR Rt (bU (ai kv d) (ac d) q l n b) q→SitsR Rc (bU (ai kv d) (ac d) a' l n b) a'→SitsR M ([a']++dA d false (a'+1) (l+1) b++[a'+1+cg d false (l+1) b]) q→Ex Rt Rc M (q+(bU (ai kv d) (ac d) q l n b).length) (a'+(bU (ai kv d) (ac d) a' l n b).length)→Okb Rt Rc M q (bU (ai kv d) (ac d) q l n b).length∧Ex Rt Rc M q a'∧M[q]? = some a'∧∃ r,Rt[q]? = some r∧bI r=false:=fun q g1 g2 g3 gx=>by
     have lm:=fP d false (a'+1) (l+1) b
     have l1:(ai kv d false (q+1) (l+1) b).length=cg d false (l+1) b:=bZ
     have ihb:=ih false (q+1) (a'+1) (l+1) b hq.2
     unfold bU at g1 g2 gx ⊢
     generalize ai kv d false (q+1) (l+1) b=B at *
     generalize ai kv d false (a'+1) (l+1) b=B' at *
     generalize dA d false (a'+1) (l+1) b=MB at *
     have j1:=g1.right.one
     have j2:=g2.right.one
     simp only[List.length_append,List.length_cons,List.length_nil,Nat.zero_add]at j1 j2 gx ⊢
     rw[← Nat.add_assoc]at j1 j2
     rw[show q+(1+B.length+1)=q+1+B.length+1 by omega,show a'+(1+B'.length+1)=a'+1+B'.length+1 by omega]at gx
     have s1:=g1.left.left.one
     have s2:=g2.left.left.one
     have s3:=g3.left.left.one
     have xj:Ex Rt Rc M (q+1+B.length) (a'+1+B'.length):=xr j1 s1 (cN (by decide +kernel)) j2 s2 (cN (by decide +kernel)) s3
     obtain⟨ob,xb⟩:=ihb g1.left.right g2.left.right g3.left.right xj
     have ot:=j_ s1 s2 s3 xb gx
     exact⟨((Okb.one ot).app ob).app (Okb.one (by rw[← Nat.add_assoc]; exact pO j1)),fX s1 (cN (by decide +kernel)) s2 (cN (by decide +kernel)) s3,s3,_,s1,cN (by decide +kernel)⟩
    have g1':SitsR Rt (bG (ai kv d) (ac d) t a l n b) a:=g1
    have g2':SitsR Rc (bU (ai kv d) (ac d) a' l n b) a':=g2
    have gx':Ex Rt Rc M (a+(bG (ai kv d) (ac d) t a l n b).length) (a'+(bU (ai kv d) (ac d) a' l n b).length):=gx
    have g3':SitsR M (if t=true then [a']++dA d true (a'+1) (l+1) b++([a']++dA d false (a'+1) (l+1) b++[a'+1+cg d false (l+1) b]) else [a']++dA d false (a'+1) (l+1) b++[a'+1+cg d false (l+1) b]) a:=g3
    show Okb Rt Rc M a (bG (ai kv d) (ac d) t a l n b).length∧_
    unfold bG at g1' gx' ⊢
    clear h1 h3 hx g1 g2 g3 gx
    cases t with
    | false=>
     rw[if_neg (by decide)]at g1' g3' gx' ⊢
     obtain⟨o,x,_⟩:=lp a g1' g2' g3' gx'
     exact⟨o,x⟩
    | true=>
     rw[if_pos rfl]at g1' g3' gx' ⊢
     have lm:=fP d true (a'+1) (l+1) b
     have l1:(ai kv d true (a+1) (l+1) b).length=cg d true (l+1) b:=bZ
     have ihb:=ih true (a+1) (a'+1) (l+1) b hq.2
     generalize ai kv d true (a+1) (l+1) b=B at *
     generalize dA d true (a'+1) (l+1) b=MB at *
     have t1:=g1'.right
     have t3:=g3'.right
     simp only[List.length_append,List.length_cons,List.length_nil,Nat.zero_add]at t1 t3 gx' ⊢
     rw[← Nat.add_assoc]at t1
     rw[lm,← l1,← Nat.add_assoc]at t3
     rw[show a+(1+B.length+(bU (ai kv d) (ac d) (a+1+B.length) l n b).length)=a+1+B.length+(bU (ai kv d) (ac d) (a+1+B.length) l n b).length by omega]at gx'
     obtain⟨o2,x2,m2,r2,e2,j2⟩:=lp _ t1 g2' t3 gx'
     have s1:=g1'.left.left.one
     have s3:=g3'.left.left.one
     have hcl:=dk (f:=ai kv d) (cnt:=ac d) (a:=a') (l:=l) (n:=n) (b:=b)
     have gx2:=gx'
     rw[hcl]at gx2
     unfold bU at g2'
     have c1:=g2'.left.left.one
     have c2:=g2'.right.one
     simp only[List.length_append,List.length_cons,List.length_nil,Nat.zero_add]at c2
     rw[← Nat.add_assoc]at c2
     have hj2:=(List.getElem?_eq_some_iff.mp c2).1
     have xq:Ex Rt Rc M (a+1+B.length) (a'+1+(ai kv d false (a'+1) (l+1) b).length):=⟨_,a',0,1,.stop e2 j2,Nat.zero_le _,.hop c2 (.stop c1 (cN (by decide +kernel))),by omega,m2⟩
     obtain⟨ob,xb⟩:=ihb g1'.left.right g2'.left.right g3'.left.right xq
     have ot:=j_ s1 c1 s3 xb (by rw[show a'+1+(ai kv d false (a'+1) (l+1) b).length+1=a'+((ai kv d false (a'+1) (l+1) b).length+2) by omega]; exact gx2)
     exact⟨((Okb.one ot).app ob).app (by rw[← Nat.add_assoc]; exact o2),fX s1 (cN (by decide +kernel)) c1 (cN (by decide +kernel)) s3⟩
  have go:∀ (T:List Stp) (a a' l:Nat),(∀ s∈T,eC (bW d) s)→SitsR Rt (aU (aC kv (ai kv d) (ac d) t) (aJ (ac d)) a l T) a→SitsR Rc (aU (aC kv (ai kv d) (ac d) false) (aJ (ac d)) a' l T) a'→SitsR M (kq (fun a l s=>kT (dA d) (cg d) t a l (ac d) s) (fun l s=>(aC [] (ai [] d) (ac d) false 0 l s).length) (aJ (ac d)) a' l T) a→Ex Rt Rc M (a+(aU (aC kv (ai kv d) (ac d) t) (aJ (ac d)) a l T).length) (a'+(aU (aC kv (ai kv d) (ac d) false) (aJ (ac d)) a' l T).length)→Okb Rt Rc M a (aU (aC kv (ai kv d) (ac d) t) (aJ (ac d)) a l T).length∧Ex Rt Rc M a a':=fun T=>by
   induction T with
   | nil=>intro a a' l _ _ _ _ hx; exact⟨Okb.nil,hx⟩
   | cons s T ihT=>
    intro a a' l hf g1 g2 g3 gx
    have g1':SitsR Rt (aC kv (ai kv d) (ac d) t a l s++aU (aC kv (ai kv d) (ac d) t) (aJ (ac d)) (a+(aC kv (ai kv d) (ac d) t a l s).length) (l+aJ (ac d) s) T) a:=g1
    have g2':SitsR Rc (aC kv (ai kv d) (ac d) false a' l s++aU (aC kv (ai kv d) (ac d) false) (aJ (ac d)) (a'+(aC kv (ai kv d) (ac d) false a' l s).length) (l+aJ (ac d) s) T) a':=g2
    have g3':SitsR M (kT (dA d) (cg d) t a' l (ac d) s++kq (fun a l s=>kT (dA d) (cg d) t a l (ac d) s) (fun l s=>(aC [] (ai [] d) (ac d) false 0 l s).length) (aJ (ac d)) (a'+(aC [] (ai [] d) (ac d) false 0 l s).length) (l+aJ (ac d) s) T) a:=g3
    have gx':Ex Rt Rc M (a+(aC kv (ai kv d) (ac d) t a l s++aU (aC kv (ai kv d) (ac d) t) (aJ (ac d)) (a+(aC kv (ai kv d) (ac d) t a l s).length) (l+aJ (ac d) s) T).length) (a'+(aC kv (ai kv d) (ac d) false a' l s++aU (aC kv (ai kv d) (ac d) false) (aJ (ac d)) (a'+(aC kv (ai kv d) (ac d) false a' l s).length) (l+aJ (ac d) s) T).length):=gx
    show Okb Rt Rc M a (aC kv (ai kv d) (ac d) t a l s++aU (aC kv (ai kv d) (ac d) t) (aJ (ac d)) (a+(aC kv (ai kv d) (ac d) t a l s).length) (l+aJ (ac d) s) T).length∧_
    have le:=jd (kv:=[]) (kv':=kv) (cnt:=ac d) (f:=ai [] d) (g:=ai kv d) (fun t a a' l l' b=>fY d t a a' l l' b) s false 0 a' l l
    have lm:=qx (d:=d) (fP d) s t a' l
    rw[jd (kv:=[]) (kv':=kv) (cnt:=ac d) (f:=ai [] d) (g:=ai kv d) (fun t a a' l l' b=>fY d t a a' l l' b) s t 0 a l l]at lm
    have t3:=g3'.right
    rw[le,lm]at t3
    rw[List.length_append,List.length_append,← Nat.add_assoc,← Nat.add_assoc]at gx'
    obtain⟨o2,x2⟩:=ihT _ _ _ (fun s hs=>hf s (List.mem_cons_of_mem _ hs)) g1'.right g2'.right t3 gx'
    obtain⟨o1,x1⟩:=st s a a' l (hf s List.mem_cons_self) g1'.left g2'.left g3'.left x2
    rw[List.length_append]
    exact⟨o1.app o2,x1⟩
  exact go T a a' l hf h1 h2 h3 hx
def ShpR(N:Nat)(r:aG):Prop:=(ia r∧∃ h u,r = .str h::u∧h∉(["test", "jump", "end"]:List Str))∨(∃ (l:Nat) (n:Int) (j:Nat),r=[.str "test", iN l,.int n,iN j]∧j≤N)∨∃ l j:Nat,r=[.str "jump", iN l,iN j]∧j≤N
theorem ShpR.up{N N':Nat}{r:aG}(h:ShpR N r)(hn:N≤N'):ShpR N' r:=by
 rcases h with h | ⟨l,n,j,h1,h2⟩ | ⟨l,j,h1,h2⟩
 ·exact .inl h
 ·exact .inr (.inl ⟨l,n,j,h1,by omega⟩)
 ·exact .inr (.inr ⟨l,j,h1,by omega⟩)
theorem jA{N:Nat}{h:Str}{u:List V}(hh:h∉(["test", "jump", "end"]:List Str)):ShpR N (.str h::u):=.inl ⟨cR hh,h,u,rfl,hh⟩
theorem qJ{N:Nat}{kv:List (aK × V)}{l:Nat}{ws:List Str}(px:dH ws):ShpR N (dN kv l ws):=by
 unfold dN
 split
 ·exact jA (by decide +kernel)
 ·refine jA ?_
  rcases iG px with h | h | h | h | h <;> rw[h] <;> decide +kernel
theorem lg(kv:List (aK × V)):∀ (d:Nat) (t:Bool) (a l:Nat) (T:List Stp),bW d T→∀ r∈ai kv d t a l T,ShpR (a+(ai kv d t a l T).length) r
 | 0,_,_,_,_,h=>h.elim
 | d+1,t,a,l,T,hf=>by
  have ih:=lg kv d
  have st:∀ (s:Stp) (a l:Nat),eC (bW d) s→∀ r∈aC kv (ai kv d) (ac d) t a l s,ShpR (a+(aC kv (ai kv d) (ac d) t a l s).length) r:=fun s a l hs r hr=>by
   cases s with
   | plain ws=>rw[List.mem_singleton.mp hr]; exact qJ hs.1
   | lend x y b=>
    have e:(aC kv (ai kv d) (ac d) t a l (.lend x y b)).length=3+((ai kv d t (a+3) (l+1) b).length+3):=by
     show (b_ kv (ai kv d) (ac d) t a l x y b).length=_
     unfold b_; simp only[List.length_append,List.length_cons,List.length_nil]; omega
    rw[e]
    rcases List.mem_append.mp hr with hr | hr
    ·rcases List.mem_append.mp hr with hr | hr
     ·simp only[List.mem_cons,List.not_mem_nil,or_false]at hr
      rcases hr with rfl | rfl | rfl <;> exact jA (by decide +kernel)
     ·exact(ih t _ _ b hs.2.2 r hr).up (by omega)
    ·simp only[List.mem_cons,List.not_mem_nil,or_false]at hr
     rcases hr with rfl | rfl | rfl <;> exact jA (by decide +kernel)
   | ite n b c=>
    have hr':r∈db (ai kv d) (ac d) t a l n b c:=hr
    show ShpR (a+(db (ai kv d) (ac d) t a l n b c).length) r
    have ihb:=ih t (a+1) (l+1) b hs.2.1
    unfold db at hr' ⊢
    generalize ai kv d t (a+1) (l+1) b=B at *
    have ihc:=ih t (a+1+B.length+1) (l+1+ac d b+1) c hs.2.2
    generalize ai kv d t (a+1+B.length+1) (l+1+ac d b+1) c=C at *
    simp only[List.length_append,List.length_cons,List.length_nil]
    rcases List.mem_append.mp hr' with hr | hr
    ·rcases List.mem_append.mp hr with hr | hr
     ·rcases List.mem_append.mp hr with hr | hr
      ·exact .inr (.inl ⟨_,_,_,List.mem_singleton.mp hr,by omega⟩)
      ·exact(ihb r hr).up (by omega)
     ·exact .inr (.inr ⟨_,_,List.mem_singleton.mp hr,by omega⟩)
    ·exact(ihc r hr).up (by omega)
   | whl n b=>
    have lp:∀ a,r∈bU (ai kv d) (ac d) a l n b→ShpR (a+(bU (ai kv d) (ac d) a l n b).length) r:=fun a hr=>by
     have ihb:=ih false (a+1) (l+1) b hs.2
     unfold bU at hr ⊢
     generalize ai kv d false (a+1) (l+1) b=B at *
     simp only[List.length_append,List.length_cons,List.length_nil]
     rcases List.mem_append.mp hr with hr | hr
     ·rcases List.mem_append.mp hr with hr | hr
      ·exact .inr (.inl ⟨_,_,_,List.mem_singleton.mp hr,by omega⟩)
      ·exact(ihb r hr).up (by omega)
     ·exact .inr (.inr ⟨_,_,List.mem_singleton.mp hr,by omega⟩)
    have hr':r∈bG (ai kv d) (ac d) t a l n b:=hr
    show ShpR (a+(bG (ai kv d) (ac d) t a l n b).length) r
    have ihb:=ih true (a+1) (l+1) b hs.2
    unfold bG at hr' ⊢
    split at hr'
    ·rename_i ht
     rw[if_pos ht]
     generalize ai kv d true (a+1) (l+1) b=B at *
     simp only[List.length_append,List.length_cons,List.length_nil]
     rcases List.mem_append.mp hr' with hr | hr
     ·rcases List.mem_append.mp hr with hr | hr
      ·exact .inr (.inl ⟨_,_,_,List.mem_singleton.mp hr,by omega⟩)
      ·exact(ihb r hr).up (by omega)
     ·exact(lp _ hr).up (by omega)
    ·rename_i ht
     rw[if_neg ht]
     exact lp a hr'
  have go:∀ (T:List Stp) (a l:Nat),(∀ s∈T,eC (bW d) s)→∀ r∈aU (aC kv (ai kv d) (ac d) t) (aJ (ac d)) a l T,ShpR (a+(aU (aC kv (ai kv d) (ac d) t) (aJ (ac d)) a l T).length) r:=fun T=>by
   induction T with
   | nil=>intro a l _ r hr; cases hr
   | cons s T ihT=>
    intro a l hf r hr
    show ShpR (a+(aC kv (ai kv d) (ac d) t a l s++aU _ _ _ _ T).length) r
    rw[List.length_append]
    rcases List.mem_append.mp hr with hr | hr
    ·exact(st s a l (hf s List.mem_cons_self) r hr).up (by omega)
    ·exact(ihT _ _ (fun s hs=>hf s (List.mem_cons_of_mem _ hs)) r hr).up (by omega)
  exact go T a l hf
def iS(R:List aG)(r:aG):Prop:=ShpR (R.length - 1) r∨∃ l:Nat,r=[.str "end", iN l]
theorem jo{NM:List Str}{d:Nat}{t:Bool}{T:List Stp}(hf:bW d T):∀ r∈bw NM d t T,iS (bw NM d t T) r:=fun r hr=>by
 have e:(bw NM d t T).length - 1=0+(ai (eU (cu NM (bX d T))) d t 0 0 T).length:=by
  unfold bw; rw[List.length_append]; simp
 rcases List.mem_append.mp hr with hr | hr
 ·left; rw[e]; exact lg _ d t 0 0 T hf r hr
 ·exact .inr ⟨_,List.mem_singleton.mp hr⟩
theorem Sh.det{R:List aG}:∀ {i j k n m:Nat},Sh R i j n→Sh R i k m→j=k:=by
 intro i j k n m h
 induction h generalizing k m with
 | stop e j=>
  intro h'
  cases h' with
  | stop _ _=>rfl
  | hop e' _=>
   rw[e]at e'; cases e'
   exact absurd j (by show ¬ decide (("jump" : Str) = "jump")=false; decide +kernel)
 | hop e _ ih=>
  intro h'
  cases h' with
  | stop e' j=>
   rw[e]at e'; cases e'
   exact absurd j (by show ¬ decide (("jump" : Str) = "jump")=false; decide +kernel)
  | hop e' h''=>
   rw[e]at e'
   have e2:_=_:=Option.some.inj e'
   simp only[List.cons.injEq,and_true,true_and]at e2
   have e3:=V.int.inj e2.2
   have e4:=Int.ofNat.inj e3
   subst e4
   exact ih h''
theorem q_{R:List aG}(hc:∀ r∈R,iS R r)(D:Nat→Prop)(h0:∀ k n,Sh R 0 k n→D k)(hs:∀ i r,D i→R[i]? = some r→bI r=false→∀ e∈eY i r,∀ k n,Sh R e k n→D k):∀ i,Rch R i→∀ k n,Sh R i k n→D k:=fun i h=>by
 induction h with
 | zero=>exact h0
 | step h e hj ih=>
  rename_i i j r
  intro k n hk
  cases hjr:bI r with
  | false=>
   refine hs i r (ih i 0 (.stop e hjr)) e hjr j ?_ k n hk
   unfold kK at hj
   rw[hjr,if_neg (by decide)]at hj; exact hj
  | true=>
   have hr:=hc r (List.mem_of_getElem? e)
   rcases hr with (h | ⟨l,m,j',rfl,_⟩ | ⟨l,j',rfl,_⟩) | ⟨l,rfl⟩
   ·rw[h.1.1]at hjr; cases hjr
   ·rw[cN (by decide +kernel)]at hjr; cases hjr
   ·rw[xx]at hj
    have:=List.mem_singleton.mp hj
    subst this
    exact ih k (n+1) (.hop e hk)
   ·rw[cN (by decide +kernel)]at hjr; cases hjr
def jO(d:Nat)(T:List Stp):List Nat:=dA d true 0 0 T++[cg d false 0 T]
theorem rP{NM:List Str}{d:Nat}{T:List Stp}(hf:bW d T):(∀ i,mZ (bw NM d true T) (bw NM d false T) (jO d T) i)∧Ex (bw NM d true T) (bw NM d false T) (jO d T) 0 0:=by
 have lt:(ai (eU (cu NM (bX d T))) d true 0 0 T).length=cg d true 0 T:=bZ
 have lf:(ai (eU (cu NM (bX d T))) d false 0 0 T).length=cg d false 0 T:=bZ
 have lm:=fP d true 0 0 T
 have sit:∀ t,SitsR (bw NM d t T) (ai (eU (cu NM (bX d T))) d t 0 0 T) 0:=fun t i r e=>by
  rw[Nat.zero_add]; unfold bw
  rw[List.getElem?_append_left (List.getElem?_eq_some_iff.mp e).1]; exact e
 have sm:SitsR (jO d T) (dA d true 0 0 T) 0:=fun i r e=>by
  rw[Nat.zero_add]; unfold jO
  rw[List.getElem?_append_left (List.getElem?_eq_some_iff.mp e).1]; exact e
 have e1:(bw NM d true T)[cg d true 0 T]? = some [.str "end", iN (ac d T)]:=by
  unfold bw
  rw[List.getElem?_append_right (by omega),lt,Nat.sub_self]; rfl
 have e2:(bw NM d false T)[cg d false 0 T]? = some [.str "end", iN (ac d T)]:=by
  unfold bw
  rw[List.getElem?_append_right (by omega),lf,Nat.sub_self]; rfl
 have e3:(jO d T)[cg d true 0 T]? = some (cg d false 0 T):=by
  unfold jO
  rw[List.getElem?_append_right (by omega),lm,Nat.sub_self]; rfl
 have je:∀ n,bI [.str "end", iN n]=false:=fun n=>cN (by decide +kernel)
 have xe:=fX e1 (je _) e2 (je _) e3
 obtain⟨o,x⟩:=sV (eU (cu NM (bX d T))) _ _ _ d true 0 0 0 T hf (sit true) (sit false) sm (by rw[lt,lf,Nat.zero_add,Nat.zero_add]; exact xe)
 refine⟨fun i r hr hj=>?_,x⟩
 by_cases c:i<cg d true 0 T
 ·exact o i (Nat.zero_le _) (by rw[lt]; omega) r hr hj
 ·have hl:=(List.getElem?_eq_some_iff.mp hr).1
  have:(bw NM d true T).length=cg d true 0 T+1:=by unfold bw; rw[List.length_append,lt]; rfl
  have hi:i=cg d true 0 T:=by omega
  subst hi
  rw[e1]at hr
  cases hr
  refine⟨_,_,e3,e2,je _,.inl rfl,?_⟩
  rw[nJ,nJ]
  exact .nil
section
variable{P:Program}{w:World}{K:PySem.W.Frag}{mg:Str→Option Value}{base:Heap}
theorem nh{R:List aG}{r:aG}(h:iS R r):∃ (g:Str) (u:List V),r = .str g::u∧bI r=decide (g = "jump"):=by
 rcases h with (⟨_,g,u,rfl,_⟩ | ⟨l,n,j,rfl,_⟩ | ⟨l,j,rfl,_⟩) | ⟨l,rfl⟩ <;> exact⟨_,_,rfl,rfl⟩
theorem fL{H:Hp}{c:Addr}{R:List aG}{i:Nat}{r:aG}(h:ListR H c R)(e:R[i]? = some r):∃ (as:List Addr) (b:Addr),H c=some (.lst (as.map V.ref))∧as.length=R.length∧as[i]? = some b∧H b=some (.tup r):=by
 obtain⟨as,a1,a2⟩:=h
 have hl:=ay a2
 have hi:=(List.getElem?_eq_some_iff.mp e).1
 have hai:i<as.length:=by omega
 obtain⟨r',e1,e2⟩:=bP a2 (List.getElem?_eq_getElem hai)
 rw[e]at e1
 cases e1
 exact⟨as,_,a1,hl,List.getElem?_eq_getElem hai,e2⟩
def jI:Sp:=fun vs H Q _=>∃ (c:Addr) (R:List aG) (e k n:Nat),vs=[.ref c,.int (e:Int)]∧ListR H c R∧(∀ r∈R,iS R r)∧Sh R e k n∧n≤R.length∧Q (.int (k:Int)) H
theorem vy(D:DefAt K mg "_law_shown" bV) (z_len:mg "len" = none):aV P w K mg base 1 "_law_shown" ["_law_code", "_law_at"] jI:=by
 refine D.cal (k:=0) sc_law_shown (fun _ _ _ _ _ _ us hl=>match us,hl with | [_,_],_=>rfl) (fun vs H Q E h=>by obtain⟨_,_,_,_,_,rfl,_⟩:=h; rfl) (fun f cdv A outer s H vs Q E hr h=>?_)
 obtain⟨c,R,e,k,n,rfl,hL,hC,hS,hn,q⟩:=h
 refine⟨_,(aj (aw 2 sc_law_shown.nd ak (hx:=ye))
   (aj (mI PassesOwn.never (PW.pt' (eX (iZ iu dR ak (pv 1 (hv:=oA)) (bv (aW K) z_len bK (aa (pv 0 (hv:=j0)) ae) (hg:=rJ))) (eX (aH cm (aI (ba K) (aI (ba K) (pv 0 (hv:=j0)) (pv 1 (hv:=oA)) (fun _ _=>rfl)) ak (fun _ _=>rfl)) aB (aM _)) (gb (aH iu (pv 2 (hv:=uR)) (bv (aW K) z_len bK (aa (pv 0 (hv:=j0)) ae) (hg:=rJ)) (aM _)))))) (aj (aw 1 sc_law_shown.nd (aI (ba K) (aI (ba K) (pv 0 (hv:=j0)) (pv 1 (hv:=oA)) (fun _ _=>rfl)) ak (fun _ _=>rfl)) (hx:=Ca))
   (ao (aw 2 sc_law_shown.nd (ar az (pv 2 (hv:=uR)) ak) (hx:=ye)))))
   (aj (bQ (PW.pt' (eX (iZ iu dR ak (pv 1 (hv:=oA)) (bv (aW K) z_len bK (aa (pv 0 (hv:=j0)) ae) (hg:=rJ))) (gb (aH iu (pv 2 (hv:=uR)) (bv (aW K) z_len bK (aa (pv 0 (hv:=j0)) ae) (hg:=rJ)) (aM _))))) (ao (aD (pv 1 (hv:=oA)))) bA)
   (ao (aD (eZ eh ak)))))),?_⟩
 walk_at "rd1"
 walk_at "nx"
 refine⟨fun m σ H'=>∃ (e' m':Nat),σ=[some (.ref c),some (.int (e':Int)),some (.int (m':Int))]∧H'=H∧Sh R e' k m∧m'+m=n,⟨n,e,0,rfl,rfl,hS,by omega⟩,?_⟩
 rintro m σ H' ⟨e',m',rfl,rfl,hS',hm⟩
 walk_at "rd1"
 have hlt:=hS'.lt
 obtain⟨r0,hr0⟩ : ∃ r0,R[e']? = some r0:=⟨_,List.getElem?_eq_getElem hlt⟩
 obtain⟨as,b,a1,al,ab,eb⟩:=fL hL hr0
 have hat:cY (as.map V.ref) (e':Int)=some (.ref b):=bM (by rw[List.getElem?_map,ab]; rfl)
 obtain⟨g,u,rfl,hj⟩:=nh (hC r0 (List.mem_of_getElem? hr0))
 rw[if_pos (by omega)]
 refine⟨_,.inl (SqL.of a1),?_⟩
 rw[List.length_map,al,if_pos (by omega)]
 refine⟨_,_,.inl (SqL.of a1),hat,?_⟩
 walk_at "rd1"
 refine⟨_,_,.inr (SqT.of eb),fJ,?_⟩
 walk_at "rd1"
 cases hS' with
 | stop e1 j1=>
  rw[hr0]at e1
  cases e1
  rw[hj]at j1
  rw[if_neg (of_decide_eq_false j1)]
  walk_at "nx"
  rw[if_pos (by omega)]
  refine⟨_,.inl (SqL.of a1),?_⟩
  rw[List.length_map,al,if_pos (by omega)]
  refine⟨_,.inl (SqL.of a1),?_⟩
  rw[List.length_map,al,if_pos (by omega)]
  exact q
 | hop e1 h2=>
  rw[hr0]at e1
  cases e1
  rw[if_pos rfl]
  refine⟨_,.inl (SqL.of a1),?_⟩
  rw[List.length_map,al,if_pos (by omega)]
  refine⟨fun σ' H2=>∃ (e' m':Nat),σ'=[some (.ref c),some (.int (e':Int)),some (.int (m':Int))]∧H2=H'∧Sh R e' k _∧m'+_=n,fun σ' H2 z=>⟨_,Nat.lt_succ_self _,z⟩,?_⟩
  refine⟨_,_,.inl (SqL.of a1),hat,?_⟩
  walk_at "rd1"
  refine⟨_,_,.inr (SqT.of eb),bM (j:=2) rfl,?_⟩
  walk_at "nx"
  exact⟨_,m'+1,rfl,h2,by omega⟩
theorem vY{r s:aG}(h:wt r s):r.take 3=s.take 3∧r.length=s.length:=by
 rcases h with rfl | ⟨u,j,k,hu,rfl,rfl⟩
 ·exact⟨rfl,rfl⟩
 ·match u,hu with
  | [a,b],_=>exact⟨rfl,rfl⟩
theorem zm{r s:aG}{g:Str}{u:List V}(h:wt r s)(e:r = .str g::u)(hg:¬ g = "test"):r=s:=by
 rcases h with h | ⟨u',j,k,hu,h1,h2⟩
 ·exact h
 ·rw[h1]at e
  cases e
  exact absurd rfl hg
def yW(r:aG):Prop:=∀ v∈r,dC v=true
def p9:Sp:=fun vs H Q _=>∃ (a b:Addr) (r s:aG) (g:Str) (u:List V),vs=[.ref a,.ref b]∧bY H a r∧bY H b s∧wt r s∧r = .str g::u∧yW r∧∀ H':Hp,Same H H'→Q (.bl true) H'
theorem uO(D:DefAt K mg "_law_alike" b4) (z_isinstance:mg "isinstance" = none) (z_tuple:mg "tuple" = none) (z_len:mg "len" = none):aV P w K mg base 1 "_law_alike" ["_law_one", "_law_other"] p9:=by
 refine D.cal (k:=0) oR (fun _ _ _ _ _ _ us hl=>match us,hl with | [_,_],_=>rfl) (fun vs H Q E h=>by obtain⟨_,_,_,_,_,_,rfl,_⟩:=h; rfl) (fun f cdv A outer s0 H vs Q E hr h=>?_)
 obtain⟨a,b,r,s,g,u,rfl,ha,hb,hk,hru,hf,q⟩:=h
 refine⟨_,(aj (bQ (PW.pt' (fg (gi (fM (bv gu z_isinstance dX (aa (pv 0 (hv:=nK)) (aa (jC z_tuple i9 (hg:=yQ)) ae)) (hg:=Aa)))) (fg (gi (fM (bv gu z_isinstance dX (aa (pv 1 (hv:=sn)) (aa (jC z_tuple i9 (hg:=yQ)) ae)) (hg:=Aa)))) (gQ (aH fA (bv (aW K) z_len bK (aa (pv 0 (hv:=nK)) ae) (hg:=zn)) (bv (aW K) z_len bK (aa (pv 1 (hv:=sn)) ae) (hg:=zn)) (aM _)))))) (ao (aD fc)) bA)
   (aj (bQ (aH cm (aI (ba K) (pv 0 (hv:=nK)) ak (fun _ _=>rfl)) aB (aM _)) (ao (aD (gg (j6 K hr) (ck (fo K) (pv 0 (hv:=nK)) cQ (cn ak)) (ck (fo K) (pv 1 (hv:=sn)) cQ (cn ak)) (aM _)))) bA)
   (ao (aD (gg (j6 K hr) (pv 0 (hv:=nK)) (pv 1 (hv:=sn)) (aM _)))))),?_⟩
 obtain⟨k1,k2⟩:=vY hk
 have hat:cY r 0=some (.str g):=by rw[hru]; exact fJ
 walk_at "rd1"
 refine⟨"tuple", by simp[cz,show H a=_ from ha],by decide,?_⟩
 rw[if_neg (by decide)]
 refine⟨"tuple", by simp[cz,show H b=_ from hb],by decide,?_⟩
 rw[if_neg (by decide)]
 refine⟨_,.inr (SqT.of ha),_,.inr (SqT.of hb),?_⟩
 rw[if_neg (by simp[k2])]
 walk_at "nx"
 refine⟨_,_,.inr (SqT.of ha),hat,?_⟩
 walk_at "rd1"
 by_cases c:g = "test"
 ·rw[if_pos c]
  refine eQ (SqT.of ha) (fun p1 H1 s1 hp1=>?_)
  refine eQ (SqT.of (s1 _ _ hb)) (fun p2 H2 s2 hp2=>?_)
  rw[show (some (3:Int))=some ((3:Nat):Int) from rfl,jZ]at hp1 hp2
  rw[← k1]at hp2
  walk_at "rd1"
  exact⟨0,true,by decide,EqN.seqFlat (.inr ⟨hp1.same s2,hp2⟩) (fun x hx=>hf x (List.mem_of_mem_take hx)),q H2 (s1.trans s2)⟩
 ·rw[if_neg c]
  have e:=zm hk hru c
  subst e
  walk_at "nx"
  exact⟨0,true,by decide,EqN.seqFlat (.inr ⟨SqT.of ha,SqT.of hb⟩) hf,q H (fun _ _ z=>z)⟩
def pD:Sp:=fun vs H Q _=>∃ (c:Addr) (R:List aG) (i:Nat) (r:aG) (ks:List Nat),vs=[.ref c,.int (i:Int)]∧ListR H c R∧(∀ r∈R,iS R r)∧R[i]? = some r∧bI r=false∧Paired (fun e k=>∃ n,Sh R e k n∧n≤R.length) (eY i r) ks∧
 ∀ (q:Addr) (H':Hp),Same H H'→H q=none→H' q=some (.lst (ks.map iN))→Q (.ref q) H'
theorem vo(D:DefAt K mg "_law_nexts" cw) (c_law_shown:aV P w K mg base 1 "_law_shown" ["_law_code", "_law_at"] jI):aV P w K mg base 2 "_law_nexts" ["_law_code", "_law_at"] pD:=by
 refine D.cal (k:=1) mO (fun _ _ _ _ _ _ us hl=>match us,hl with | [_,_],_=>rfl) (fun vs H Q E h=>by obtain⟨_,_,_,_,_,rfl,_⟩:=h; rfl) (fun f cdv A outer s0 H vs Q E hr h=>?_)
 obtain⟨c,R,i,r,ks,rfl,hL,hC,hri,hj,hks,q⟩:=h
 refine⟨_,(aj (bQ (aH cm (aI (ba K) (aI (ba K) (pv 0 (hv:=kn)) (pv 1 (hv:=nM)) (fun _ _=>rfl)) ak (fun _ _=>rfl)) aB (aM _)) (ao (aD (bC ae))) bA)
   (aj (bQ (aH cm (aI (ba K) (aI (ba K) (pv 0 (hv:=kn)) (pv 1 (hv:=nM)) (fun _ _=>rfl)) ak (fun _ _=>rfl)) aB (aM _)) (ao (aD (bC (aa (aE c_law_shown hr (aa (pv 0 (hv:=kn)) (aa (ar az (pv 1 (hv:=nM)) ak) ae)) (hg:=v8)) (aa (aE c_law_shown hr (aa (pv 0 (hv:=kn)) (aa (aI (ba K) (aI (ba K) (pv 0 (hv:=kn)) (pv 1 (hv:=nM)) (fun _ _=>rfl)) ak (fun _ _=>rfl)) ae)) (hg:=v8)) ae))))) bA)
   (ao (aD (bC (aa (aE c_law_shown hr (aa (pv 0 (hv:=kn)) (aa (ar az (pv 1 (hv:=nM)) ak) ae)) (hg:=v8)) ae)))))),?_⟩
 obtain⟨as,b,a1,al,ab,eb⟩:=fL hL hri
 have hat:cY (as.map V.ref) (i:Int)=some (.ref b):=bM (by rw[List.getElem?_map,ab]; rfl)
 walk_at "rd1"
 refine⟨_,_,.inl (SqL.of a1),hat,?_⟩
 walk_at "rd1"
 rcases hC r (List.mem_of_getElem? hri) with (⟨p,g,u,rfl,hg⟩ | ⟨l,n,j,rfl,_⟩ | ⟨l,j,rfl,_⟩) | ⟨l,rfl⟩
 ·simp only[List.mem_cons,List.not_mem_nil,or_false,not_or]at hg
  obtain⟨g1,g2,g3⟩:=hg
  rw[p.2.1]at hks
  cases hks with
  | cons hx ht=>
  cases ht
  obtain⟨n,hx,hn⟩:=hx
  refine⟨_,_,.inr (SqT.of eb),fJ,?_⟩
  walk_at "rd1"
  rw[if_neg g3]
  walk_at "nx"
  refine⟨_,_,.inl (SqL.of a1),hat,?_⟩
  walk_at "rd1"
  refine⟨_,_,.inr (SqT.of eb),fJ,?_⟩
  walk_at "rd1"
  rw[if_neg g1]
  walk_at "nx"
  refine⟨c,R,i+1,_,n,by simp,hL,hC,hx,hn,?_⟩
  walk_at "rd1"
  exact⟨by decide,fun m1 hm1=>q m1 _ (am hm1 _) hm1 ah⟩
 ·rw[ij]at hks
  cases hks with
  | cons hx ht=>
  cases ht with
  | cons hy ht=>
  cases ht
  obtain⟨n1,hx,hn1⟩:=hx
  obtain⟨n2,hy,hn2⟩:=hy
  refine⟨_,_,.inr (SqT.of eb),fJ,?_⟩
  walk_at "rd1"
  rw[if_neg (by decide +kernel)]
  walk_at "nx"
  refine⟨_,_,.inl (SqL.of a1),hat,?_⟩
  walk_at "rd1"
  refine⟨_,_,.inr (SqT.of eb),fJ,?_⟩
  walk_at "rd1"
  refine⟨c,R,i+1,_,n1,by simp,hL,hC,hx,hn1,?_⟩
  walk_at "rd1"
  refine⟨_,_,.inl (SqL.of a1),hat,?_⟩
  walk_at "rd1"
  refine⟨_,_,.inr (SqT.of eb),bM (j:=3) rfl,?_⟩
  refine⟨c,R,j,_,n2,rfl,hL,hC,hy,hn2,?_⟩
  walk_at "rd1"
  exact⟨by decide,fun m1 hm1=>q m1 _ (am hm1 _) hm1 ah⟩
 ·exact absurd hj (by show ¬ decide (("jump" : Str) = "jump")=false; decide +kernel)
 ·rw[nJ]at hks
  cases hks
  refine⟨_,_,.inr (SqT.of eb),fJ,?_⟩
  walk_at "rd1"
  exact⟨by decide,fun m1 hm1=>q m1 _ (am hm1 _) hm1 ah⟩
theorem fw:∀ {D F:List Nat},D.Nodup→(∀ x∈D,x∈F)→D.length≤F.length
 | [],_,_,_=>Nat.zero_le _
 | x::D,F,hn,hs=>by
  rw[List.nodup_cons]at hn
  have hx:=hs x List.mem_cons_self
  have:=fw (D:=D) (F:=F.erase x) hn.2 (fun y hy=>by
   have hne:y≠x:=fun e=>hn.1 (e ▸ hy)
   exact(List.mem_erase_of_ne hne).mpr (hs y (List.mem_cons_of_mem _ hy)))
  rw[List.length_erase_of_mem hx]at this
  have:0<F.length:=List.length_pos_of_mem hx
  rw[List.length_cons]; omega
theorem Sh.good{R:List aG}{i k n:Nat}(h:Sh R i k n):∃ r,R[k]? = some r∧bI r=false:=by
 induction h with
 | stop e j=>exact⟨_,e,j⟩
 | hop _ _ ih=>exact ih
section
variable(M:List Nat)
def mD(D:List Nat):List (aK × V):=D.map fun (x:Nat)=>(.inl (x:Int),iN (M.getD x 0))
theorem jl(x:Nat):∀ D:List Nat,bT (mD M D) (.inl (x:Int))=if x∈D then some (iN (M.getD x 0)) else none
 | []=>by simp[mD,bT]
 | y::D=>by
  have ih:=jl x D
  show bT ((.inl (y:Int),iN (M.getD y 0))::mD M D) _=_
  by_cases c:y=x
  ·subst c
   rw[cL rfl,if_pos List.mem_cons_self]
  ·rw[cM (by intro e; have:=Sum.inl.inj e; omega),ih]
   by_cases d:x∈D
   ·rw[if_pos d,if_pos (List.mem_cons_of_mem _ d)]
   ·rw[if_neg d,if_neg (by simp only[List.mem_cons,not_or]; exact⟨fun z=>c z.symm,d⟩)]
theorem yJ{x:Nat}{D:List Nat}(h:x∉D):cS (mD M D) (.inl (x:Int)) (iN (M.getD x 0))=mD M (D++[x]):=by
 rw[vn _ (by rw[jl,if_neg h])]
 unfold mD; rw[List.map_append]; rfl
end
structure MInv (H H':Hp) (Rt:List aG) (M:List Nat) (md td:Addr) (D:List Nat) (ts:List Addr) (ps:List Nat):Prop where
 sm:Same H H'
 md:H' md=some (.dK (mD M D))
 td:H' td=some (.lst (ts.map V.ref))
 tp:Paired (fun t x=>H' t=some (.tup [iN x,iN (M.getD x 0)])) ts ps
 gd:∀ x,x∈D∨x∈ps→∃ r,Rt[x]? = some r∧bI r=false
 nd:D.Nodup
 st:∀ k n,Sh Rt 0 k n→k∈D∨k∈ps
 cl:∀ x∈D,∀ r,Rt[x]? = some r→∀ e∈eY x r,∀ k n,Sh Rt e k n→k∈D∨k∈ps
theorem MInv.le{H H':Hp}{Rt:List aG}{M:List Nat}{md td:Addr}{D:List Nat}{ts:List Addr}{ps:List Nat}(I:MInv H H' Rt M md td D ts ps):D.length≤Rt.length:=by
 have:=fw (D:=D) (F:=List.range Rt.length) I.nd (fun x hx=>by
  obtain⟨r,e,_⟩:=I.gd x (.inl hx)
  exact List.mem_range.mpr (List.getElem?_eq_some_iff.mp e).1)
 rwa [List.length_range]at this
theorem wL{Rt Rc:List aG}{M:List Nat}:∀ {es es':List Nat},Paired (Ex Rt Rc M) es es'→∃ ks ks':List Nat,Paired (fun e k=>∃ n,Sh Rt e k n∧n≤Rt.length) es ks∧Paired (fun e k=>∃ n,Sh Rc e k n∧n≤Rc.length) es' ks'∧ks'=ks.map (fun k=>M.getD k 0)∧ks.length=es.length
 | _,_,.nil=>⟨[],[],.nil,.nil,rfl,rfl⟩
 | _,_,.cons h t=>by
  obtain⟨ks,ks',a,b,c,d⟩:=wL t
  obtain⟨k,k',n,n',s,hn,s',hn',m⟩:=h
  refine⟨k::ks,k'::ks',.cons ⟨n,s,by omega⟩ a,.cons ⟨n',s',by omega⟩ b,?_,by rw[List.length_cons,List.length_cons,d]⟩
  rw[List.map_cons,← c,List.getD_eq_getElem?_getD,m]; rfl
theorem iP{α β : Type}{R:α→β→Prop}:∀ {xs zs:List α} {ys us:List β},xs.length=ys.length→Paired R (xs++zs) (ys++us)→Paired R xs ys
 | [],_,[],_,_,_=>.nil
 | _::_,_,_::_,_,h,.cons a t=>.cons a (iP (by simpa using h) t)
 | [],_,_::_,_,h,_=>by simp at h
 | _::_,_,[],_,h,_=>by simp at h
theorem kL{α β : Type}{R:α→β→Prop}:∀ {xs:List α} {ys:List β},xs.length=ys.length→(∀ (i:Nat) x y,xs[i]? = some x→ys[i]? = some y→R x y)→Paired R xs ys
 | [],[],_,_=>.nil
 | x::xs,y::ys,h,r=>.cons (r 0 x y rfl rfl) (kL (by simpa using h) fun i a b e1 e2=>r (i+1) a b (by simpa using e1) (by simpa using e2))
 | [],_::_,h,_=>by simp at h
 | _::_,[],h,_=>by simp at h
theorem yL(i:Nat)(r:aG):(eY i r).length≤2:=by
 unfold eY
 split
 ·split <;> simp
 ·split <;> simp
 ·simp
def vk(R:List aG):Nat:=((List.range R.length).filter fun i=>!bI (R.getD i [])).length
def lj:Sp:=fun vs H Q _=>∃ (tp cp:Addr) (Rt Rc:List aG) (M:List Nat),vs=[.ref tp,.ref cp]∧ListR H tp Rt∧ListR H cp Rc∧(∀ r∈Rt,iS Rt r)∧(∀ r∈Rc,iS Rc r)∧(∀ r∈Rt,yW r)∧(∀ i,mZ Rt Rc M i)∧Ex Rt Rc M 0 0∧(∀ i,i<Rt.length→Rch Rt i)∧Rt.length≤100000∧
 ∀ (md:Addr) (H':Hp) (kv:List (aK × V)),Same H H'→H' md=some (.dK kv)→kv.length=vk Rt→Q (.ref md) H'
theorem rb(D:DefAt K mg "_law_matched" aL) (z_list:mg "list" = none) (z_zip:mg "zip" = none) (c_law_shown:aV P w K mg base 1 "_law_shown" ["_law_code", "_law_at"] jI) (c_law_alike:aV P w K mg base 1 "_law_alike" ["_law_one", "_law_other"] p9) (c_law_nexts:aV P w K mg base 2 "_law_nexts" ["_law_code", "_law_at"] pD):aV P w K mg base 3 "_law_matched" ["_law_turned", "_law_code"] lj:=by
 refine D.cal (k:=2) sc_law_matched (fun _ _ _ _ _ _ us hl=>match us,hl with | [_,_],_=>rfl) (fun vs H Q E h=>by obtain⟨_,_,_,_,_,rfl,_⟩:=h; rfl) (fun f cdv A outer s0 H vs Q E hr h=>?_)
 obtain⟨tp,cp,Rt,Rc,M,rfl,hT,hC,cT,cC,fT,hok,hx0,hrch,hsz,q⟩:=h
 refine⟨_,(aj (aw 2 sc_law_matched.nd iU (hx:=Bs))
   (aj (aw 3 sc_law_matched.nd (bC (aa (bE (aa (aE c_law_shown hr (aa (pv 0 (hv:=u7)) (aa ak ae)) (hg:=yv)) (aa (aE c_law_shown hr (aa (pv 1 (hv:=ve)) (aa ak ae)) (hg:=yv)) ae))) ae)) (hx:=Bp))
   (aj (mI PassesOwn.never (aH (jW K hr) (pv 3 (hv:=wc)) (bC ae) (aM _)) (aj (h8 (p0 K PySem.F.plainAttrs_list PySem.F.slot_list_pop PySem.F.type_list_pop ph (pv 3 (hv:=wc))) (eJ K (n:=2) (cy (bH 4 sc_law_matched.nd (hx:=C9)) (cy (bH 5 sc_law_matched.nd (hx:=BK)) eP))))
   (aj (bQ (PW.pt' (fg (aH dR (pv 4 (hv:=jS)) ak (aM _)) (fg (aH dR (pv 5 (hv:=nc)) ak (aM _)) (gQ (gi (fM (aE c_law_alike hr (aa (aI (ba K) (pv 0 (hv:=u7)) (pv 4 (hv:=jS)) (fun _ _=>rfl)) (aa (aI (ba K) (pv 1 (hv:=ve)) (pv 5 (hv:=nc)) (fun _ _=>rfl)) ae)) (hg:=C3)))))))) (ao (aD n9)) bA)
   (aj (bQ (aH (Ad hr) (pv 4 (hv:=jS)) (pv 2 (hv:=r_)) (by with_unfolding_all rfl)) (aj (bQ (aH fA (aI (kg K) (pv 2 (hv:=r_)) (pv 4 (hv:=jS)) (fun _ _=>rfl)) (pv 5 (hv:=nc)) (aM _)) (ao (aD n9)) bA)
   (ao oU)) bA)
   (aj (h8 (pv 5 (hv:=nc)) (ng (pv 2 (hv:=r_)) (pv 4 (hv:=jS)) (rC hr)))
   (ao (bm (bt K PySem.F.plainAttrs_list PySem.F.slot_list_extend PySem.F.type_list_extend dM (pv 3 (hv:=wc)) (aa (rN K hr BN z_list C7 z_zip (aa (aE c_law_nexts hr (aa (pv 0 (hv:=u7)) (aa (pv 4 (hv:=jS)) ae)) (hg:=zd)) (aa (aE c_law_nexts hr (aa (pv 1 (hv:=ve)) (aa (pv 5 (hv:=nc)) ae)) (hg:=zd)) ae))) ae)))))))))
   (ao (aD (pv 2 (hv:=r_))))))),?_⟩
 walk_at "rd1"
 intro md hmd
 have s1:=am hmd (.dK [])
 have e1:upd H md (.dK []) md=some (.dK (mD M [])):=ah
 generalize upd H md (.dK [])=H1 at s1 e1 ⊢
 obtain⟨k0,k0',n0,n0',sh0,hn0,sh0',hn0',m0⟩:=hx0
 walk_at "nx"
 refine⟨tp,Rt,0,k0,n0,by simp,hT.mono s1,cT,sh0,by omega,?_⟩
 walk_at "rd1"
 refine⟨cp,Rc,0,k0',n0',by simp,hC.mono s1,cC,sh0',by omega,?_⟩
 walk_at "rd1"
 refine⟨by decide,fun t1 ht1=>?_⟩
 have s2:=am ht1 (.tup [.int (k0:Int),.int (k0':Int)])
 have e2:upd H1 t1 (.tup [.int (k0:Int),.int (k0':Int)]) t1=some (.tup [iN k0,iN (M.getD k0 0)]):=by
  rw[ah,List.getD_eq_getElem?_getD,m0]; rfl
 generalize upd H1 t1 (.tup [.int (k0:Int),.int (k0':Int)])=H2 at s2 e2 ⊢
 refine⟨by decide,fun td htd=>?_⟩
 have s3:=am htd (.lst [.ref t1])
 have e3:upd H2 td (.lst [.ref t1]) td=some (.lst ([t1].map V.ref)):=ah
 generalize upd H2 td (.lst [.ref t1])=H3 at s3 e3 ⊢
 have hmt:md≠td:=aq (s2 _ _ e1) htd
 have htdH:H td=none:=(s1.trans s2).free htd
 have I0:MInv H H3 Rt M md td [] [t1] [k0]:=⟨(s1.trans s2).trans s3,s3 _ _ (s2 _ _ e1),e3,.cons (s3 _ _ e2) .nil,fun x hx=>by
  rcases hx with hx | hx
  ·cases hx
  ·rw[List.mem_singleton.mp hx]; exact sh0.good,List.nodup_nil,fun k n h=>.inr (by rw[Sh.det h sh0]; exact List.mem_cons_self),fun x hx=>by cases hx⟩
 walk_at "nx"
 refine⟨fun m σ H'=>∃ (D:List Nat) (ts:List Addr) (ps:List Nat) (o4 o5:Option V),σ=[some (.ref tp),some (.ref cp),some (.ref md),some (.ref td),o4,o5]∧MInv H H' Rt M md td D ts ps∧3 * (Rt.length - D.length)+ps.length≤3 * Rt.length+1∧3 * (Rt.length - D.length)+ps.length=m,⟨_,[],[t1],[k0],_,_,rfl,I0,by simp,rfl⟩,?_⟩
 rintro m σ H4 ⟨D,ts,ps,o4,o5,rfl,I,hpl,hm⟩
 have hDl:=I.le
 have lts:=ay I.tp
 walk_at "rd1"
 refine⟨by decide,fun nl hnl=>?_⟩
 have s5:=am hnl (.lst [])
 have e5:upd H4 nl (.lst []) nl=some (.lst []):=ah
 generalize upd H4 nl (.lst [])=H5 at s5 e5 ⊢
 have td5:=s5 _ _ I.td
 have md5:=s5 _ _ I.md
 by_cases hps:ps=[]
 ·subst hps
  cases ts with
  | cons _ _=>simp at lts
  | nil=>
  refine⟨0,true,by decide,EqN.seqFlat (.inl ⟨SqL.of td5,SqL.of e5⟩) (by simp),?_⟩
  rw[if_neg (by decide)]
  walk_at "nx"
  refine q md H5 _ (I.sm.trans s5) md5 ?_
  have hall:∀ i,i<Rt.length→∀ k n,Sh Rt i k n→k∈D:=fun i hi=>q_ cT (fun k=>k∈D) (fun k n h=>(I.st k n h).elim id (fun z=>by cases z)) (fun x r hx e j e' he k n hk=>(I.cl x hx r e e' he k n hk).elim id (fun z=>by cases z)) i (hrch i hi)
  unfold mD vk
  rw[List.length_map]
  refine Nat.le_antisymm (fw I.nd fun x hx=>?_) (fw (List.Nodup.sublist List.filter_sublist List.nodup_range) fun x hx=>?_)
  ·obtain⟨r,e,j⟩:=I.gd x (.inl hx)
   rw[List.mem_filter]
   refine⟨List.mem_range.mpr (List.getElem?_eq_some_iff.mp e).1,?_⟩
   rw[List.getD_eq_getElem?_getD,e]
   show (!bI r)=true
   rw[j]; rfl
  ·rw[List.mem_filter,List.mem_range]at hx
   have e:=List.getElem?_eq_getElem hx.1
   rw[List.getD_eq_getElem?_getD,e]at hx
   have j:bI Rt[x]=false:=by simpa using hx.2
   exact hall x hx.1 x 0 (.stop e j)
 ·have hts:ts≠[]:=fun z=>by rw[z]at lts; exact hps (List.eq_nil_of_length_eq_zero lts.symm)
  obtain⟨ts',t,rfl⟩ : ∃ ts' t,ts=ts'++[t]:=⟨ts.dropLast,ts.getLast hts,(List.dropLast_concat_getLast hts).symm⟩
  obtain⟨ps',x,rfl⟩ : ∃ ps' x,ps=ps'++[x]:=⟨ps.dropLast,ps.getLast hps,(List.dropLast_concat_getLast hps).symm⟩
  have ltp:ts'.length=ps'.length:=by simpa using lts
  obtain⟨tp1,ht5⟩ : Paired (fun t x=>H5 t=some (.tup [iN x,iN (M.getD x 0)])) ts' ps'∧H5 t=some (.tup [iN x,iN (M.getD x 0)]):=by
   have tp5:=Paired.imp' (fun a b z=>s5 _ _ z) I.tp
   refine⟨?_,?_⟩
   ·exact iP ltp tp5
   ·obtain⟨y,y1,y2⟩:=bP (i:=ts'.length) tp5 (by rw[List.getElem?_append_right (Nat.le_refl _),Nat.sub_self]; rfl)
    rw[ltp,List.getElem?_append_right (Nat.le_refl _),Nat.sub_self]at y1
    cases y1
    exact y2
  obtain⟨r,hr1,hj1⟩:=I.gd x (.inr (List.mem_append_right _ List.mem_cons_self))
  obtain⟨x',r',hM,hr2,hj2,halk,hpair⟩:=hok x r hr1 hj1
  have hMx:M.getD x 0=x':=by rw[List.getD_eq_getElem?_getD,hM]; rfl
  refine⟨0,false,by decide,.inr ⟨td,nl,_,_,rfl,rfl,.inl ⟨SqL.of td5,SqL.of e5⟩,.inr ⟨SqL.of td5,SqL.of e5,by simp,rfl⟩⟩,?_⟩
  rw[if_pos (by decide)]
  have keep:∀ {H6:Hp} {D':List Nat} {ts2:List Addr} {ps2:List Nat} {o4 o5:Option V},MInv H H6 Rt M md td D' ts2 ps2→3 * (Rt.length - D'.length)+ps2.length≤3 * Rt.length+1→3 * (Rt.length - D'.length)+ps2.length<m→∃ m',m'<m∧∃ (D:List Nat) (ts:List Addr) (ps:List Nat) (p4 p5:Option V),[some (V.ref tp),some (.ref cp),some (.ref md),some (.ref td),o4,o5]=[some (.ref tp),some (.ref cp),some (.ref md),some (.ref td),p4,p5]∧MInv H H6 Rt M md td D ts ps∧3 * (Rt.length - D.length)+ps.length≤3 * Rt.length+1∧3 * (Rt.length - D.length)+ps.length=m':=fun I' hl hlt=>⟨_,hlt,_,_,_,_,_,rfl,I',hl,rfl⟩
  refine⟨fun σ' H'=>∃ m',m'<m∧∃ (D:List Nat) (ts:List Addr) (ps:List Nat) (o4 o5:Option V),σ'=[some (.ref tp),some (.ref cp),some (.ref md),some (.ref td),o4,o5]∧MInv H H' Rt M md td D ts ps∧3 * (Rt.length - D.length)+ps.length≤3 * Rt.length+1∧3 * (Rt.length - D.length)+ps.length=m',fun σ' H' z=>z,⟨_,SqL.of td5⟩,_,_,td5,(by rw[List.map_append,List.length_append,List.getElem?_append_right (by simp)]; simp:_=some (V.ref t)),?_⟩
  rw[List.map_append,List.map_cons,List.map_nil,List.dropLast_concat]
  have tne:∀ {b:Addr} {u:List V},H5 b=some (.tup u)→b≠td:=fun z=>cJ z td5 (fun y=>nomatch y)
  have sX:∀ b o,b≠td→H5 b=some o→upd H5 td (.lst (ts'.map V.ref)) b=some o:=fun b o n z=>by rw[af n]; exact z
  have s6:Same H (upd H5 td (.lst (ts'.map V.ref))):=(I.sm.trans s5).upd htdH _
  have td6:upd H5 td (.lst (ts'.map V.ref)) td=some (.lst (ts'.map V.ref)):=ah
  have md6:=sX _ _ hmt md5
  have t6:=sX _ _ (tne ht5) ht5
  have tp6:Paired (fun t x=>upd H5 td (.lst (ts'.map V.ref)) t=some (.tup [iN x,iN (M.getD x 0)])) ts' ps':=Paired.imp' (fun a b z=>sX _ _ (tne z) z) tp1
  generalize upd H5 td (.lst (ts'.map V.ref))=H6 at s6 td6 md6 t6 tp6 ⊢
  have t6':H6 t=some (.tup [.int (x:Int),.int (x':Int)]):=by rw[t6,hMx]; rfl
  refine⟨t,_,rfl,SqT.of t6',rfl,_,_,rfl,_,_,rfl,rfl,?_⟩
  walk_at "nx"
  rw[if_neg (by omega),if_neg (by omega)]
  obtain⟨as,b1,a1,al,ab,eb⟩:=fL (hT.mono s6) hr1
  obtain⟨as',b2,a1',al',ab',eb'⟩:=fL (hC.mono s6) hr2
  refine⟨_,_,.inl (SqL.of a1),bM (j:=x) (v:=V.ref b1) (by rw[List.getElem?_map,ab]; rfl),?_⟩
  refine⟨_,_,.inl (SqL.of a1'),bM (j:=x') (v:=V.ref b2) (by rw[List.getElem?_map,ab']; rfl),?_⟩
  obtain⟨g,u,hgu,_⟩:=nh (cT r (List.mem_of_getElem? hr1))
  refine⟨b1,b2,r,r',g,u,rfl,eb,eb',halk,hgu,fT r (List.mem_of_getElem? hr1),fun H7 s7=>?_⟩
  have md7:=s7 _ _ md6
  have td7:=s7 _ _ td6
  have s07:=s6.trans s7
  have tp7:Paired (fun t x=>H7 t=some (.tup [iN x,iN (M.getD x 0)])) ts' ps':=Paired.imp' (fun a b z=>s7 _ _ z) tp6
  refine⟨true,rfl,?_⟩
  rw[if_neg (by decide)]
  walk_at "nx"
  refine⟨md,_,.inl (x:Int),rfl,rfl,md7,?_⟩
  rw[jl]
  rw[List.length_append,List.length_cons,List.length_nil]at hpl hm
  by_cases hxD:x∈D
  ·rw[if_pos hxD]
   refine⟨_,rfl,?_⟩
   rw[if_pos (by rfl)]
   refine .inr ⟨md,_,.inl (x:Int),V.int (x':Int),rfl,rfl,md7,by rw[jl,if_pos hxD,hMx]; rfl,?_⟩
   walk_at "rd1"
   rw[if_neg (by simp)]
   walk_at "nx"
   refine keep (D':=D) (ts2:=ts') (ps2:=ps') ⟨s07,md7,td7,tp7,fun y hy=>I.gd y (hy.elim .inl fun z=>.inr (List.mem_append_left _ z)),I.nd,fun k n h=>?_,fun y hy r e e' he k n hk=>?_⟩ (by omega) (by omega)
   ·rcases I.st k n h with z | z
    ·exact .inl z
    ·rcases List.mem_append.mp z with z | z
     ·exact .inr z
     ·rw[List.mem_singleton.mp z]; exact .inl hxD
   ·rcases I.cl y hy r e e' he k n hk with z | z
    ·exact .inl z
    ·rcases List.mem_append.mp z with z | z
     ·exact .inr z
     ·rw[List.mem_singleton.mp z]; exact .inl hxD
  ·rw[if_neg hxD]
   refine⟨_,rfl,?_⟩
   rw[if_neg (by simp)]
   walk_at "nx"
   have hnd:(D++[x]).Nodup:=by
    rw[List.nodup_append]
    refine⟨I.nd,by simp,fun a ha b hb=>?_⟩
    rw[List.mem_singleton.mp hb]
    exact fun z=>hxD (z ▸ ha)
   have hDx:D.length+1≤Rt.length:=by
    have:=fw (D:=D++[x]) (F:=List.range Rt.length) hnd (fun y hy=>by
     rcases List.mem_append.mp hy with hy | hy
     ·obtain⟨r,e,_⟩:=I.gd y (.inl hy)
      exact List.mem_range.mpr (List.getElem?_eq_some_iff.mp e).1
     ·rw[List.mem_singleton.mp hy]
      exact List.mem_range.mpr (List.getElem?_eq_some_iff.mp hr1).1)
    rw[List.length_range,List.length_append]at this
    simpa using this
   refine⟨md,_,.inl (x:Int),rfl,rfl,md7,bO (by unfold mD; rw[List.length_map]; omega),?_⟩
   rw[show V.int (x':Int)=iN (M.getD x 0) by rw[hMx]; rfl,yJ M hxD]
   have sM:∀ b o,b≠md→H7 b=some o→upd H7 md (.dK (mD M (D++[x]))) b=some o:=fun b o n z=>by rw[af n]; exact z
   have md8:upd H7 md (.dK (mD M (D++[x]))) md=some (.dK (mD M (D++[x]))):=ah
   have td8:=sM _ _ hmt.symm td7
   have s08:Same H (upd H7 md (.dK (mD M (D++[x])))):=s07.upd hmd _
   have tp8:Paired (fun t x_1=>upd H7 md (.dK (mD M (D++[x]))) t=some (.tup [iN x_1,iN (M.getD x_1 0)])) ts' ps':=Paired.imp' (fun a b z=>sM a _ (cJ (show H7 a=some (.tup [iN b,iN (M.getD b 0)]) from z) md7 (fun y=>nomatch y)) z) tp7
   generalize upd H7 md (.dK (mD M (D++[x])))=H8 at md8 td8 s08 tp8 ⊢
   obtain⟨ks,ks',hk1,hk2,hk3,hkl⟩:=wL hpair
   walk_at "nx"
   refine⟨⟨_,SqL.of td8⟩,?_⟩
   unfold wu
   walk_at "rd1"
   refine⟨tp,Rt,x,r,ks,rfl,hT.mono s08,cT,hr1,hj1,hk1,fun q1 H9 s9 hq1 e9=>?_⟩
   walk_at "rd1"
   refine⟨cp,Rc,x',r',ks',by rw[hMx]; rfl,hC.mono (s08.trans s9),cC,hr2,hj2,hk2,fun q2 H10 s10 hq2 e10=>?_⟩
   walk_at "rd1"
   have hks2:ks.length≤2:=by rw[hkl]; exact yL x r
   have hgood:∀ k∈ks,∃ e∈eY x r,∃ n,Sh Rt e k n:=fun k hk=>by
    obtain⟨i,hi,rfl⟩:=List.mem_iff_getElem.mp hk
    have hlen:=ay hk1
    have hi2:i<(eY x r).length:=by omega
    obtain⟨y,y1,n,y2,_⟩:=bP hk1 (List.getElem?_eq_getElem hi2)
    rw[List.getElem?_eq_getElem hi]at y1
    cases y1
    exact⟨_,List.getElem_mem hi2,n,y2⟩
   have hcov:∀ e∈eY x r,∀ k n,Sh Rt e k n→k∈ks:=fun e he k n hk=>by
    obtain⟨i,hi,rfl⟩:=List.mem_iff_getElem.mp he
    obtain⟨y,y1,n',y2,_⟩:=bP hk1 (List.getElem?_eq_getElem hi)
    rw[Sh.det hk y2]
    exact List.mem_of_getElem? y1
   refine⟨q1,q2,ks.map iN,ks'.map iN,rfl,SqL.of (s10 _ _ e9),SqL.of e10,by rw[List.length_map,List.length_map,hk3,List.length_map],by rw[List.length_map]; omega,fun p us H11 s11 hp ep hul hus=>?_⟩
   have s810:=s9.trans s10
   have s811:=s810.trans s11
   have td11:=s811 _ _ td8
   rw[List.length_map]at hul
   refine⟨_,_,td11,ep,by rw[List.length_map,List.length_map,ltp,hul]; exact bg (by omega),?_⟩
   have npt:∀ {b:Addr} {u:List V},H11 b=some (.tup u)→b≠td:=fun z=>cJ z td11 (fun y=>nomatch y)
   refine keep (D':=D++[x]) (ts2:=ts'++us) (ps2:=ps'++ks) ⟨(s08.trans s811).upd htdH _,by rw[af hmt]; exact s811 _ _ md8,by rw[ah,List.map_append],?_,fun y hy=>?_,hnd,fun k n h=>?_,fun y hy r0 e e' he k n hk=>?_⟩ (by rw[List.length_append,List.length_append,List.length_cons,List.length_nil]; omega) (by rw[List.length_append,List.length_append,List.length_cons,List.length_nil]; omega)
   ·refine dQ (Paired.imp' (fun a b z=>?_) tp8) (kL (by rw[hul]) fun j t0 k0 f1 f2=>?_)
    ·have z':=s811 _ _ z
     rw[af (npt z')]; exact z'
    ·obtain⟨a,b,g1,g2,g3,_⟩:=hus j t0 f1
     rw[List.getElem?_map,f2]at g1
     cases g1
     rw[hk3,List.getElem?_map,List.getElem?_map,f2]at g2
     cases g2
     rw[af (npt g3)]; exact g3
   ·rcases hy with hy | hy
    ·rcases List.mem_append.mp hy with hy | hy
     ·exact I.gd y (.inl hy)
     ·rw[List.mem_singleton.mp hy]; exact⟨r,hr1,hj1⟩
    ·rcases List.mem_append.mp hy with hy | hy
     ·exact I.gd y (.inr (List.mem_append_left _ hy))
     ·obtain⟨_,_,_,hk⟩:=hgood y hy
      exact hk.good
   ·rcases I.st k n h with z | z
    ·exact .inl (List.mem_append_left _ z)
    ·rcases List.mem_append.mp z with z | z
     ·exact .inr (List.mem_append_left _ z)
     ·exact .inl (List.mem_append_right _ z)
   ·rcases List.mem_append.mp hy with hy | hy
    ·rcases I.cl y hy r0 e e' he k n hk with z | z
     ·exact .inl (List.mem_append_left _ z)
     ·rcases List.mem_append.mp z with z | z
      ·exact .inr (List.mem_append_left _ z)
      ·exact .inl (List.mem_append_right _ z)
    ·have hyx:=List.mem_singleton.mp hy
     subst hyx
     rw[hr1]at e
     cases e
     exact .inr (List.mem_append_right _ (hcov e' he k n hk))
def fV:V→Bool
 | .str _=>true
 | .int _=>true
 | _=>false
def kM(r:aG):Prop:=(∀ v∈r,fV v=true)∧r.length≤100
theorem oM(ks:List aK):∀ (i:Nat) (k:aK) (v:V),bT (fD ks i) k=some v→∃ n:Nat,v=iN n
 | 0,_,_,h=>by cases h
 | i+1,k,v,h=>by
  rw[fQ,oH]at h
  split at h
  ·exact⟨i,(Option.some.inj h).symm⟩
  ·exact oM ks i k v h
theorem ze{ks:List aK}{k:aK}(h:fN (eU ks) k):fV (cr (eU ks) k)=true:=by
 obtain⟨n,e⟩:=oM ks ks.length k _ h
 rw[e]; rfl
theorem w4{h:Str}{x y:V}(hx:fV x=true)(hy:fV y=true):kM [.str h,x,y]:=⟨fun v hv=>by
 simp only[List.mem_cons,List.not_mem_nil,or_false]at hv
 rcases hv with rfl | rfl | rfl
 ·rfl
 ·exact hx
 ·exact hy,by simp⟩
theorem lB{h:Str}{x y z:V}(hx:fV x=true)(hy:fV y=true)(hz:fV z=true):kM [.str h,x,y,z]:=⟨fun v hv=>by
 simp only[List.mem_cons,List.not_mem_nil,or_false]at hv
 rcases hv with rfl | rfl | rfl | rfl
 ·rfl
 ·exact hx
 ·exact hy
 ·exact hz,by simp⟩
section
variable{kv:List (aK × V)}
theorem ud(hk:∀ k,fN kv k→fV (cr kv k)=true){l:Nat}{ws:List Str}(px:dH ws)(hn:∀ n∈du ws,fN kv (.inr n)):kM (dN kv l ws):=by
 unfold dN
 by_cases c:ws.headD "" = "do"
 ·rw[if_pos c]
  unfold du at hn
  rw[if_pos c]at hn
  cases px with
  | dd u x=>exact lB rfl (hk _ (hn x (by simp))) rfl
  | op x=>exact absurd c (show ¬ ("open" : Str) = "do" by decide +kernel)
  | dr x=>exact absurd c (show ¬ ("drop" : Str) = "do" by decide +kernel)
  | cp x y=>exact absurd c (show ¬ ("copy" : Str) = "do" by decide +kernel)
  | ti x y=>exact absurd c (show ¬ ("tie" : Str) = "do" by decide +kernel)
 ·rw[if_neg c]
  unfold du at hn
  rw[if_neg c]at hn
  refine⟨fun v hv=>?_,?_⟩
  ·rcases List.mem_cons.mp hv with rfl | hv
   ·rfl
   rcases List.mem_cons.mp hv with rfl | hv
   ·rfl
   obtain⟨n,h1,rfl⟩:=List.mem_map.mp hv
   exact hk _ (hn n h1)
  ·cases px <;> simp
theorem p7(hk:∀ k,fN kv k→fV (cr kv k)=true):∀ (d:Nat) (t:Bool) (a l:Nat) (T:List Stp),bW d T→dJ kv d l T→∀ r∈ai kv d t a l T,kM r
 | 0,_,_,_,_,h,_=>h.elim
 | d+1,t,a,l,T,hf,hkl=>by
  have ih:=p7 hk d
  have st:∀ (s:Stp) (a l:Nat),eC (bW d) s→ki kv (dJ kv d) (ac d) l s→∀ r∈aC kv (ai kv d) (ac d) t a l s,kM r:=fun s a l hs hk' r hr=>by
   cases s with
   | plain ws=>rw[List.mem_singleton.mp hr]; exact ud hk hs.1 hk'.2
   | lend x y b=>
    obtain⟨k1,k2,k3,k4⟩:=hk'
    have f1:=hk _ k1
    have f2:=hk _ k2
    have f3:=hk _ k3
    rcases List.mem_append.mp hr with hr | hr
    ·rcases List.mem_append.mp hr with hr | hr
     ·simp only[List.mem_cons,List.not_mem_nil,or_false]at hr
      rcases hr with rfl | rfl | rfl
      ·exact lB rfl f3 f1
      ·exact lB rfl f3 rfl
      ·exact lB rfl f2 f3
     ·exact ih t _ _ b hs.2.2 k4 r hr
    ·simp only[List.mem_cons,List.not_mem_nil,or_false]at hr
     rcases hr with rfl | rfl | rfl
     ·exact lB rfl f3 rfl
     ·exact w4 rfl f2
     ·exact w4 rfl f3
   | ite n b c=>
    rcases List.mem_append.mp hr with hr | hr
    ·rcases List.mem_append.mp hr with hr | hr
     ·rcases List.mem_append.mp hr with hr | hr
      ·rw[List.mem_singleton.mp hr]; exact lB rfl rfl rfl
      ·exact ih t _ _ b hs.2.1 hk'.1 r hr
     ·rw[List.mem_singleton.mp hr]; exact w4 rfl rfl
    ·exact ih t _ _ c hs.2.2 hk'.2 r hr
   | whl n b=>
    have lp:∀ a,r∈bU (ai kv d) (ac d) a l n b→kM r:=fun a hr=>by
     rcases List.mem_append.mp hr with hr | hr
     ·rcases List.mem_append.mp hr with hr | hr
      ·rw[List.mem_singleton.mp hr]; exact lB rfl rfl rfl
      ·exact ih false _ _ b hs.2 hk' r hr
     ·rw[List.mem_singleton.mp hr]; exact w4 rfl rfl
    have hr':r∈bG (ai kv d) (ac d) t a l n b:=hr
    unfold bG at hr'
    split at hr'
    ·rcases List.mem_append.mp hr' with hr | hr
     ·rcases List.mem_append.mp hr with hr | hr
      ·rw[List.mem_singleton.mp hr]; exact lB rfl rfl rfl
      ·exact ih true _ _ b hs.2 hk' r hr
     ·exact lp _ hr
    ·exact lp _ hr'
  have go:∀ (T:List Stp) (a l:Nat),(∀ s∈T,eC (bW d) s)→(∀ z∈dO (aJ (ac d)) l T,ki kv (dJ kv d) (ac d) z.1 z.2)→∀ r∈aU (aC kv (ai kv d) (ac d) t) (aJ (ac d)) a l T,kM r:=fun T=>by
   induction T with
   | nil=>intro a l _ _ r hr; cases hr
   | cons s T ihT=>
    intro a l hf hz r hr
    rcases List.mem_append.mp hr with hr | hr
    ·exact st s a l (hf s List.mem_cons_self) (hz _ List.mem_cons_self) r hr
    ·exact ihT _ _ (fun s hs=>hf s (List.mem_cons_of_mem _ hs)) (fun z h=>hz z (List.mem_cons_of_mem _ h)) r hr
  exact go T a l hf hkl
end
theorem xL{d:Nat}{t:Bool}{T:List Stp}(hf:bW d T):∀ r∈bw (cX ((bL d T).flatMap bB)) d t T,kM r:=by
 have hnm:p_ (fun n=>n∈cX ((bL d T).flatMap bB)) d T:=nj d T (iY hf) fun n hn=>pZ hn
 intro r hr
 rcases List.mem_append.mp hr with hr | hr
 ·exact p7 (fun k=>ze) d t 0 0 T hf (j5 d 0 T (fun i s e=>by rw[Nat.zero_add]; exact e) hnm) r hr
 ·rw[List.mem_singleton.mp hr]
  refine⟨fun v hv=>?_,by simp⟩
  simp only[List.mem_cons,List.not_mem_nil,or_false]at hv
  rcases hv with rfl | rfl <;> rfl
theorem tH{j k:Nat}{x:Str}{ps:List Str}{sp:Sp}(c:aV P w K mg base j x ps sp)(h:j≤k):aV P w K mg base k x ps sp:=by
 obtain⟨f,fd,F,r⟩:=c.ex
 exact⟨f,fd,F.mono h,r⟩
theorem xQ{k:Nat}{x:Str}{ps:List Str}{sp sp':Sp}(c:aV P w K mg base k x ps sp)(h:∀ vs H Q E,sp' vs H Q E→sp vs H Q E):aV P w K mg base k x ps sp':=by
 obtain⟨f,fd,F,r⟩:=c.ex
 exact⟨f,fd,F.imp h,r⟩
def NOt(H:Hp)(p:Addr)(NM:List Str):Prop:=∃ (T:List Stp) (S:Addr→Prop),ProgAt S 10 H p T∧gN 10 T∧(bL 10 T).length≤1000∧((bL 10 T).flatMap bB).length≤5000∧NM=cX ((bL 10 T).flatMap bB)
theorem NOt.mono{H H':Hp}{p:Addr}{NM:List Str}(h:NOt H p NM)(s:Same H H'):NOt H' p NM:=by
 obtain⟨T,S,h1,h2⟩:=h
 exact⟨T,S,h1.mono s,h2⟩
theorem vt{k:Nat}(c:aV P w K mg base k "names_of" ["program"] lC):aV P w K mg base k "names_of" ["program"] (zW NOt):=xQ c fun vs H Q E h=>by
 obtain⟨p,NM,rfl,⟨T,S,h1,h2,h3,h4,rfl⟩,q⟩:=h
 exact⟨p,T,S,rfl,h1,h2,h3,h4,q⟩
theorem v_{f:List Stp→List Stp}{g:List Stp→Nat}(h:∀ b,(f b).length≤g b):∀ s:Stp,(eD f s).length≤aJ g s
 | .plain _=>by simp[eD,di,aJ]
 | .lend _ _ b=>by have:=h b; simp[eD,di,aJ]; omega
 | .ite _ b c=>by have:=h b; have:=h c; simp[eD,di,aJ]; omega
 | .whl _ b=>by have:=h b; simp[eD,di,aJ]; omega
theorem jY:∀ (d:Nat) (T:List Stp),(bL d T).length≤ac d T
 | 0,_=>Nat.le_refl _
 | d+1,T=>by
  show (T.flatMap (eD (bL d))).length≤(T.map (aJ (ac d))).sum
  induction T with
  | nil=>exact Nat.le_refl _
  | cons s T ih=>
   have:=v_ (jY d) s
   rw[List.flatMap_cons,List.length_append,List.map_cons,List.sum_cons]; omega
theorem yz{g:List Stp→Prop}:∀ {s:Stp},eG g s→(bB s).length≤2
 | .plain ws,h=>by cases (show eF ws from h) <;> simp[bB] <;> split <;> simp
 | .lend _ _ _,_=>by simp[bB]
 | .ite _ _ _,_=>by simp[bB]
 | .whl _ _,_=>by simp[bB]
theorem tm{d:Nat}{T:List Stp}(h:gN d T):((bL d T).flatMap bB).length≤2 * ac d T:=by
 have h1:=jY d T
 have h2:=mJ d h
 have go:∀ X:List Stp,(∀ s∈X,∃ g:List Stp→Prop,eG g s)→(X.flatMap bB).length≤2 * X.length:=fun X=>by
  induction X with
  | nil=>intro _; exact Nat.le_refl _
  | cons s X ih=>
   intro hx
   obtain⟨g,hg⟩:=hx s List.mem_cons_self
   have:=yz hg
   have:=ih fun u hu=>hx u (List.mem_cons_of_mem _ hu)
   rw[List.flatMap_cons,List.length_append,List.length_cons]; omega
 have:=go _ h2
 omega
theorem lK:∀ (d:Nat) (l l':Nat) (T:List Stp),cg d false l T≤cg d true l' T
 | 0,_,_,_=>Nat.le_refl _
 | d+1,l,l',T=>by
  have ih:=lK d
  have st:∀ (s:Stp) (a a' l l':Nat),(aC [] (ai [] d) (ac d) false a l s).length≤(aC [] (ai [] d) (ac d) true a' l' s).length:=fun s a a' l l'=>by
   have ihb:∀ (a a' l l':Nat) (b:List Stp),(ai [] d false a l b).length≤(ai [] d true a' l' b).length:=fun a a' l l' b=>by
    rw[bZ (l':=l),bZ (t:=true) (l':=l')]; exact ih l l' b
   cases s with
   | plain ws=>exact Nat.le_refl _
   | lend x y b=>
    show (b_ [] (ai [] d) (ac d) false a l x y b).length≤(b_ [] (ai [] d) (ac d) true a' l' x y b).length
    unfold b_
    simp only[List.length_append,List.length_cons,List.length_nil]
    have:=ihb (a+3) (a'+3) (l+1) (l'+1) b
    omega
   | ite n b c=>
    show (db (ai [] d) (ac d) false a l n b c).length≤(db (ai [] d) (ac d) true a' l' n b c).length
    unfold db
    simp only[List.length_append,List.length_cons,List.length_nil]
    have h1:=ihb (a+1) (a'+1) (l+1) (l'+1) b
    have h2:=ihb (a+1+(ai [] d false (a+1) (l+1) b).length+1) (a'+1+(ai [] d true (a'+1) (l'+1) b).length+1) (l+1+ac d b+1) (l'+1+ac d b+1) c
    omega
   | whl n b=>
    show (bU (ai [] d) (ac d) a l n b).length≤(bG (ai [] d) (ac d) true a' l' n b).length
    unfold bG
    rw[if_pos rfl]
    simp only[List.length_append,List.length_cons,List.length_nil,dk]
    have:=fY (kv:=[]) (kv':=[]) d false (a+1) (a'+1+(ai [] d true (a'+1) (l'+1) b).length+1) (l+1) (l'+1) b
    omega
  have go:∀ (T:List Stp) (a a' l l':Nat),(aU (aC [] (ai [] d) (ac d) false) (aJ (ac d)) a l T).length≤(aU (aC [] (ai [] d) (ac d) true) (aJ (ac d)) a' l' T).length:=fun T=>by
   induction T with
   | nil=>intro _ _ _ _; exact Nat.le_refl _
   | cons s T ihT=>
    intro a a' l l'
    show (aC [] (ai [] d) (ac d) false a l s++aU _ _ _ _ T).length≤(aC [] (ai [] d) (ac d) true a' l' s++aU _ _ _ _ T).length
    rw[List.length_append,List.length_append]
    have:=st s a a' l l'
    have:=ihT (a+(aC [] (ai [] d) (ac d) false a l s).length) (a'+(aC [] (ai [] d) (ac d) true a' l' s).length) (l+aJ (ac d) s) (l'+aJ (ac d) s)
    omega
  exact go T 0 0 l l'
theorem y8{f:Addr}{fd:FuncData}(F:Fun K "law" "law" bN f fd) (c_law_cell_at:aV P w K mg base 1 "_law_cell_at" ["_law_script", "_law_k"] (sH K)) (c_law_names:aV P w K mg base 1 "_law_names" ["_law_cell"] oq) (c_law_program:aV P w K mg base 3 "_law_program" ["_law_cells", "_law_names_here"] kR) (z_isinstance:mg "isinstance" = none) (z_list:mg "list" = none) (z_len:mg "len" = none) (c_code_of:aV P w K mg base 35 "code_of" ["program"] (tM NOt 10)) (c_turned_code:aV P w K mg base 35 "turned_code" ["program"] (n_ NOt 10)) (c_law_matched:aV P w K mg base 3 "_law_matched" ["_law_turned", "_law_code"] lj):FnOk P w K mg base ib 36 f fd ["_law_script"] (ma K):=by
 refine F.ok sc_law (fun vs H Q E h=>by obtain⟨a,ns,rfl,_⟩:=h; rfl) (fun cdv A outer s H vs Q E hr h=>?_)
 obtain⟨a,ns,rfl,hS,hn,q⟩:=h
 refine⟨_,(aj (aw 1 sc_law.nd (aI (ba K) (aE c_law_program hr (aa (ck (iQ K) (pv 0 (hv:=yM)) (cn ak) (cn ak)) (aa (aE c_law_names hr (aa (aE c_law_cell_at hr (aa (pv 0 (hv:=yM)) (aa ak ae)) (hg:=BH)) ae) (hg:=Bk)) ae)) (hg:=Bt)) ak (fun _ _=>rfl)) (hx:=BM))
   (aj (aw 2 sc_law.nd (aE c_code_of hr (aa (pv 1 (hv:=zA)) ae) (hg:=Co)) (hx:=B6))
   (aj (aw 3 sc_law.nd (aE c_turned_code hr (aa (pv 1 (hv:=zA)) ae) (hg:=Cv)) (hx:=Ce))
   (aj (bQ (PW.pt' (fg (gi (fM (bv gu z_isinstance dX (aa (pv 2 (hv:=jN)) (aa (jC z_list ip (hg:=zg)) ae)) (hg:=zk)))) (fg (gi (fM (bv gu z_isinstance dX (aa (pv 3 (hv:=ni)) (aa (jC z_list ip (hg:=zg)) ae)) (hg:=zk)))) (fg (aH dR (bv (aW K) z_len bK (aa (pv 3 (hv:=ni)) ae) (hg:=qK)) (bv (aW K) z_len bK (aa (pv 2 (hv:=jN)) ae) (hg:=qK)) (aM _)) (gQ (aH (j6 K hr) (pv 2 (hv:=jN)) (bC ae) (aM _))))))) (ao (aD fc)) bA)
   (aj (bQ (PW.pt' (fg (aH (jW K hr) (aI (ba K) (pv 3 (hv:=ni)) (eZ eh ak) (fun _ _=>rfl)) (aI (ba K) (pv 2 (hv:=jN)) (eZ eh ak) (fun _ _=>rfl)) (aM _)) (gQ (aH fA (aI (ba K) (aI (ba K) (pv 2 (hv:=jN)) (eZ eh ak) (fun _ _=>rfl)) ak (fun _ _=>rfl)) aB (aM _))))) (ao (aD fc)) bA)
   (aj (aw 4 sc_law.nd (aE c_law_matched hr (aa (pv 3 (hv:=ni)) (aa (pv 2 (hv:=jN)) ae)) (hg:=CV)) (hx:=BQ))
   (aj (bQ (aH x8 (pv 4 (hv:=yu)) n9 (aM _)) (ao (aD fc)) bA)
   (ao (aD (gg cm (bv ux z_len bK (aa (pv 4 (hv:=yu)) ae) (hg:=qK)) (bv (aW K) z_len bK (aa (fq (CompSc.to (fsc:=(defScope bN)) (N:=["_law_script", "_law_program_here", "_law_code", "_law_turned", "_law_matches"]) (N0:=["_law_script", "_law_program_here", "_law_code", "_law_turned", "_law_matches"]) (T:=["_law_row"]) ⟨by decide +kernel,by decide +kernel,by decide +kernel,by decide +kernel,by decide +kernel,by decide +kernel,by decide +kernel⟩ rfl rfl) rfl (dI K (pv 3 (hv:=ni))) (fun _ _ _ _=>(bH 5 (show (["_law_script", "_law_program_here", "_law_code", "_law_turned", "_law_matches", "_law_row"]:List Str).Nodup from by decide +kernel) (hx:=(i0 (defScope bN) (by decide +kernel))) (hf:=nQ (defScope bN) (by decide +kernel)))) (dY (show (["_law_script", "_law_program_here", "_law_code", "_law_turned", "_law_matches"]:List Str).length≤5 from by decide)) (fun _ _ _ _=>(i8 (aH fA (aI (ba K) (pv 5 (hv:=(dZ (defScope bN) (by decide +kernel)))) ak (fun _ _=>rfl)) aB (aM _)))) (fun _ _ _ _=>(pv 5 (hv:=(dZ (defScope bN) (by decide +kernel)))))) ae) (hg:=qK)) (aM _))))))))))),?_⟩
 walk_at "rd1"
 refine⟨_,hS,fun cp hcp=>?_⟩
 rw[xO]
 have hcl:=vI ns (some 1) (some 201)
 have s1:=am hcp (.lst ((gM ns (some 1) (some 201)).map V.int))
 have e1:upd H cp (.lst ((gM ns (some 1) (some 201)).map V.int)) cp=some (.lst ((gM ns (some 1) (some 201)).map V.int)):=ah
 generalize hcs:gM ns (some 1) (some 201)=cs at hcl s1 e1 ⊢
 generalize upd H cp (.lst (cs.map V.int))=H1 at s1 e1 ⊢
 refine⟨a,ns,0,rfl,s1.seq hS,by decide,?_⟩
 walk_at "rd1"
 refine⟨_,rfl,fun np H2 s2 hnp hl1 n1 n7 hb hfree=>?_⟩
 generalize iD (ns.getD (Int.toNat 0) 0)=nm at hl1 n1 n7 hb hfree
 have ok:NmOk nm:=⟨n1,n7,hb⟩
 refine⟨cp,np,cs,nm,rfl,s2 _ _ e1,hl1,ok,by omega,fun t root lp H3 S as sm3 ht3 hroot hlp hrl hSr hSl hr3 hst3 okt hl3 hlen hal=>?_⟩
 have fine:=rm n1 hfree 60 cs
 walk_at "rd1"
 refine⟨_,_,.inr (SqT.of ht3),fJ,?_⟩
 have prog:∀ {H':Hp},Same H3 H'→ProgAt (fun b=>S b∨b=root) 10 H' root (aQ 60 nm cs).cur:=fun {H'} sm=>⟨.inr rfl,as,sm _ _ hr3,Paired.imp' (fun a s z=>stpAt.imp (fun b xs e=>sm _ _ e) (fun q b y=>ProgAt.imp (fun b xs e=>sm _ _ e) (fun b xs _ e=>sm _ _ e) (fun b z=>.inl z) 9 y) z) hst3⟩
 have hcnt:ac 10 (aQ 60 nm cs).cur≤100:=by rw[← gU]; exact hlen
 have okn:=iY fine
 have hpc:=jY 10 (aQ 60 nm cs).cur
 have hnf:=tm okn
 have hnl:(cX ((bL 10 (aQ 60 nm cs).cur).flatMap bB)).length≤1000:=by
  have:=gf ((bL 10 (aQ 60 nm cs).cur).flatMap bB) []
  rw[List.length_nil]at this
  unfold cX; omega
 have cin:∀ {H':Hp},Same H3 H'→jv NOt H' root 10 (aQ 60 nm cs).cur (cX ((bL 10 (aQ 60 nm cs).cur).flatMap bB)):=fun {H'} sm=>
  ⟨⟨_,prog sm⟩,okt,⟨_,_,prog sm,okn,by omega,by omega,rfl⟩,jB 10 (prog sm) okt,nj 10 _ okn (fun n hn=>pZ hn),by omega,hnl,by decide⟩
 walk_at "nx"
 refine⟨root,_,_,rfl,cin (fun _ _ z=>z),fun cq H4 s4 hcq hCq=>?_⟩
 walk_at "nx"
 refine⟨root,_,_,rfl,cin s4,fun tq H5 s5 htq hTq=>?_⟩
 have hTl:(bw (cX ((bL 10 (aQ 60 nm cs).cur).flatMap bB)) 10 true (aQ 60 nm cs).cur).length=cg 10 true 0 (aQ 60 nm cs).cur+1:=by unfold bw; rw[List.length_append,bZ (l':=0)]; rfl
 have hCl:(bw (cX ((bL 10 (aQ 60 nm cs).cur).flatMap bB)) 10 false (aQ 60 nm cs).cur).length=cg 10 false 0 (aQ 60 nm cs).cur+1:=by unfold bw; rw[List.length_append,bZ (l':=0)]; rfl
 have hge:=lK 10 0 0 (aQ 60 nm cs).cur
 have hbig:cg 10 true 0 (aQ 60 nm cs).cur≤30000:=by
  have:=da (kv:=[]) (d:=10) (a:=0) (l:=0) (t:=true) (T:=(aQ 60 nm cs).cur) (by omega) (by decide)
  exact this
 have hTe:(bw (cX ((bL 10 (aQ 60 nm cs).cur).flatMap bB)) 10 true (aQ 60 nm cs).cur)[cg 10 true 0 (aQ 60 nm cs).cur]? = some [.str "end", iN (ac 10 (aQ 60 nm cs).cur)]:=by
  unfold bw
  rw[List.getElem?_append_right (by rw[bZ (l':=0)]; exact Nat.le_refl _),bZ (l':=0),Nat.sub_self]; rfl
 have hCe:(bw (cX ((bL 10 (aQ 60 nm cs).cur).flatMap bB)) 10 false (aQ 60 nm cs).cur)[cg 10 false 0 (aQ 60 nm cs).cur]? = some [.str "end", iN (ac 10 (aQ 60 nm cs).cur)]:=by
  unfold bw
  rw[List.getElem?_append_right (by rw[bZ (l':=0)]; exact Nat.le_refl _),bZ (l':=0),Nat.sub_self]; rfl
 obtain⟨hok,hx0⟩:=rP (NM:=cX ((bL 10 (aQ 60 nm cs).cur).flatMap bB)) fine
 have hrch:=qY (NM:=cX ((bL 10 (aQ 60 nm cs).cur).flatMap bB)) (t:=true) fine
 have shT:=jo (NM:=cX ((bL 10 (aQ 60 nm cs).cur).flatMap bB)) (t:=true) fine
 have shC:=jo (NM:=cX ((bL 10 (aQ 60 nm cs).cur).flatMap bB)) (t:=false) fine
 have hfl:∀ r∈bw (cX ((bL 10 (aQ 60 nm cs).cur).flatMap bB)) 10 true (aQ 60 nm cs).cur,yW r:=fun r hr v hv=>by
  have:=(xL fine r hr).1 v hv
  cases v <;> first | rfl | cases this
 generalize bw (cX ((bL 10 (aQ 60 nm cs).cur).flatMap bB)) 10 true (aQ 60 nm cs).cur=RT at *
 generalize bw (cX ((bL 10 (aQ 60 nm cs).cur).flatMap bB)) 10 false (aQ 60 nm cs).cur=RC at *
 have cq5:=hCq.mono s5
 obtain⟨at1,bt1,a1,al1,ab1,eb1⟩:=fL hTq hTe
 obtain⟨at2,bt2,a2,al2,ab2,eb2⟩:=fL cq5 hCe
 walk_at "nx"
 refine⟨"list", by simp[cz,a2],by decide,?_⟩
 rw[if_neg (by decide)]
 refine⟨"list", by simp[cz,a1],by decide,?_⟩
 rw[if_neg (by decide)]
 refine⟨_,.inl (SqL.of a1),_,.inl (SqL.of a2),?_⟩
 rw[List.length_map,List.length_map,al1,al2,if_neg (by omega)]
 refine⟨by decide,fun nl hnl=>?_⟩
 have s6:=am hnl (.lst [])
 have e6:upd H5 nl (.lst []) nl=some (.lst []):=ah
 generalize upd H5 nl (.lst [])=H6 at s6 e6 ⊢
 have a1':=s6 _ _ a1
 have a2':=s6 _ _ a2
 refine⟨0,false,by decide,.inr ⟨cq,nl,_,_,rfl,rfl,.inl ⟨SqL.of a2',SqL.of e6⟩,.inr ⟨SqL.of a2',SqL.of e6,by rw[List.length_map,al2,hCl]; simp,rfl⟩⟩,?_⟩
 rw[if_neg (by decide)]
 walk_at "nx"
 have at1':cY (at1.map V.ref) (-1)=some (.ref bt1):=pY (by rw[List.length_map,al1,hTl,Nat.add_sub_cancel,List.getElem?_map,ab1]; rfl)
 have at2':cY (at2.map V.ref) (-1)=some (.ref bt2):=pY (by rw[List.length_map,al2,hCl,Nat.add_sub_cancel,List.getElem?_map,ab2]; rfl)
 refine⟨_,_,.inl (SqL.of a1'),at1',_,_,.inl (SqL.of a2'),at2',?_⟩
 walk_at "rd1"
 refine⟨0,true,by decide,EqN.seqFlat (.inr ⟨SqT.of (s6 _ _ eb1),SqT.of (s6 _ _ eb2)⟩) (by simp[dC,iN]),?_⟩
 rw[if_neg (by decide)]
 refine⟨_,_,.inl (SqL.of a2'),at2',?_⟩
 walk_at "rd1"
 refine⟨_,_,.inr (SqT.of (s6 _ _ eb2)),fJ,?_⟩
 walk_at "rd1"
 rw[if_neg (by simp)]
 walk_at "nx"
 refine⟨tq,cq,RT,RC,_,rfl,hTq.mono s6,cq5.mono s6,shT,shC,hfl,hok,hx0,hrch,by omega,fun md H7 kv s7 e7 hkv=>?_⟩
 walk_at "nx"
 rw[if_neg (by simp)]
 walk_at "nx"
 refine⟨md,kv,rfl,e7,?_⟩
 have a7:=s7 _ _ a1'
 have hT7:=(hTq.mono s6).mono s7
 refine⟨⟨_,SqL.of a7⟩,fun L hL=>?_⟩
 refine ju (xs:=at1.map V.ref) (fun i ys H'=>Same H7 H'∧H' L=some (.lst ys)∧ys.length=((List.range i).filter fun j=>!bI (RT.getD j [])).length) ⟨am hL _,ah,rfl⟩ (fun i ys H' _ hh=>SqL.of (hh.1 _ _ a7)) ?_ ?_
 ·rintro i ys H' v hv hi ⟨sm,hl,hys⟩
  rw[List.length_map]at hi
  rw[List.getElem?_map,List.getElem?_eq_getElem hi]at hv
  cases hv
  have hiR:i<RT.length:=by omega
  have hri:=List.getElem?_eq_getElem hiR
  obtain⟨asx,bx,c1,c2,c3,c4⟩:=fL hT7 hri
  rw[a7]at c1
  have hasx:at1=asx:=by
   have:=HO.lst.inj (Option.some.inj c1)
   exact(List.map_inj_right (f:=V.ref) (fun x y e=>V.ref.inj e)).mp this
  subst hasx
  rw[List.getElem?_eq_getElem hi]at c3
  have hbx:at1[i]=bx:=Option.some.inj c3
  obtain⟨g,u,hgu,hjg⟩:=nh (shT RT[i] (List.getElem_mem hiR))
  have hgd:RT.getD i []=RT[i]:=by rw[List.getD_eq_getElem?_getD,hri]; rfl
  have hrow:H' at1[i]=some (.tup (.str g::u)):=by rw[hbx,← hgu]; exact sm _ _ c4
  have hle:ys.length≤i:=by
   rw[hys]
   have:=List.length_filter_le (fun j=>!bI (RT.getD j [])) (List.range i)
   rwa [List.length_range]at this
  walk_at "rd1"
  refine⟨_,_,.inr (SqT.of hrow),fJ,?_⟩
  walk_at "rd1"
  by_cases cc:g = "jump"
  ·rw[if_neg (by simpa using cc)]
   refine sF (by rw[List.length_map]; exact hi) ⟨sm,hl,?_⟩
   rw[eT (f:=fun j=>!bI (RT.getD j [])),if_neg (by rw[hgd,hjg,cc]; simp),List.append_nil,hys]
  ·rw[if_pos (by simpa using cc)]
   refine nH (by rw[List.length_map]; exact hi) hle (by rw[List.length_map]; exact bg (by omega)) hl ⟨sm.upd hL _,ah,?_⟩
   rw[eT (f:=fun j=>!bI (RT.getD j [])),if_pos (by rw[hgd,hjg]; simpa using cc),List.length_append,List.length_append,hys]
   rfl
 ·rintro ys H8 ⟨s8,e8,hys⟩
  walk_at "rd1"
  refine⟨_,.inl (SqL.of e8),?_⟩
  walk_at "rd1"
  rw[hys,List.length_map,al1,hkv]
  unfold vk
  have hd:decide ((((List.range RT.length).filter fun i=>!bI (RT.getD i [])).length:Int)=(((List.range RT.length).filter fun j=>!bI (RT.getD j [])).length:Int))=true:=decide_eq_true rfl
  rw[hd]
  exact q H8
end
theorem wg{K:PySem.W.Frag}{a0 a1 a2 a3 a4 a5 a6 a7:Addr}(q0:∀ H:Hp,SqT K H a0 [.str "name"]) (q1:∀ H:Hp,SqT K H a1 [.str "word", .str "name"]) (q2:∀ H:Hp,SqT K H a2 [.str "name", .str "name"]) (q3:∀ H:Hp,SqT K H a3 [.str "name"]) (q4:∀ H:Hp,SqT K H a4 [.str "name", .str "name"]) (q5:∀ H:Hp,SqT K H a5 [.str "name", .str "name", .str "steps"]) (q6:∀ H:Hp,SqT K H a6 [.str "bound", .str "steps", .str "steps"]) (q7:∀ H:Hp,SqT K H a7 [.str "bound", .str "steps"]) :
  ∀ kind ks,(kind,ks)∈dq→∃ a,bT [(("open" : Str),V.ref a0),(("do" : Str),V.ref a1),(("copy" : Str),V.ref a2),(("drop" : Str),V.ref a3),(("tie" : Str),V.ref a4),(("lend" : Str),V.ref a5),(("if" : Str),V.ref a6),(("while" : Str),V.ref a7)] kind=some (.ref a)∧∀ H:Hp,SqT K H a (ks.map V.str):=by
 intro kind ks h
 simp only[dq,List.mem_cons,Prod.mk.injEq,List.mem_nil_iff,or_false]at h
 rcases h with ⟨rfl,rfl⟩ | ⟨rfl,rfl⟩ | ⟨rfl,rfl⟩ | ⟨rfl,rfl⟩ | ⟨rfl,rfl⟩ | ⟨rfl,rfl⟩ | ⟨rfl,rfl⟩ | ⟨rfl,rfl⟩
 ·exact⟨a0,rfl,q0⟩
 ·exact⟨a1,rfl,q1⟩
 ·exact⟨a2,rfl,q2⟩
 ·exact⟨a3,rfl,q3⟩
 ·exact⟨a4,rfl,q4⟩
 ·exact⟨a5,rfl,q5⟩
 ·exact⟨a6,rfl,q6⟩
 ·exact⟨a7,rfl,q7⟩
theorem all_mk{l:PySem.W.OpenLaw}{w:World}{K:PySem.W.Frag}{h:Heap}{mg:Str→Option Value}{fa:Addr}(X:K.In h)(G:h.Ns mainGlobals mg)(hfa:mg "law" = some (.ref fa))
  {f0:Addr} {od0 an0:Option Addr} {sl0:Array (Option Value)} {oc0 kV0 dc0 pm0 cd0 ct0:Value} {f1:Addr} {od1 an1:Option Addr} {sl1:Array (Option Value)} {oc1 kV1 dc1 pm1 cd1 ct1:Value} {f2:Addr} {od2 an2:Option Addr} {sl2:Array (Option Value)} {oc2 kV2 dc2 pm2 cd2 ct2:Value} {f3:Addr} {od3 an3:Option Addr} {sl3:Array (Option Value)} {oc3 kV3 dc3 pm3 cd3 ct3:Value} {f4:Addr} {od4 an4:Option Addr} {sl4:Array (Option Value)} {oc4 kV4 dc4 pm4 cd4 ct4:Value} {f5:Addr} {od5 an5:Option Addr} {sl5:Array (Option Value)} {oc5 kV5 dc5 pm5 cd5 ct5:Value} {f6:Addr} {od6 an6:Option Addr} {sl6:Array (Option Value)} {oc6 kV6 dc6 pm6 cd6 ct6:Value} {f7:Addr} {od7 an7:Option Addr} {sl7:Array (Option Value)} {oc7 kV7 dc7 pm7 cd7 ct7:Value} {f8:Addr} {od8 an8:Option Addr} {sl8:Array (Option Value)} {oc8 kV8 dc8 pm8 cd8 ct8:Value} {f9:Addr} {od9 an9:Option Addr} {sl9:Array (Option Value)} {oc9 kV9 dc9 pm9 cd9 ct9:Value} {f10:Addr} {od10 an10:Option Addr} {sl10:Array (Option Value)} {oc10 kV10 dc10 pm10 cd10 ct10:Value} {f11:Addr} {od11 an11:Option Addr} {sl11:Array (Option Value)} {oc11 kV11 dc11 pm11 cd11 ct11:Value} {f12:Addr} {od12 an12:Option Addr} {sl12:Array (Option Value)} {oc12 kV12 dc12 pm12 cd12 ct12:Value} {f13:Addr} {od13 an13:Option Addr} {sl13:Array (Option Value)} {oc13 kV13 dc13 pm13 cd13 ct13:Value} {f14:Addr} {od14 an14:Option Addr} {sl14:Array (Option Value)} {oc14 kV14 dc14 pm14 cd14 ct14:Value} {f15:Addr} {od15 an15:Option Addr} {sl15:Array (Option Value)} {oc15 kV15 dc15 pm15 cd15 ct15:Value} {f16:Addr} {od16 an16:Option Addr} {sl16:Array (Option Value)} {oc16 kV16 dc16 pm16 cd16 ct16:Value} {f17:Addr} {od17 an17:Option Addr} {sl17:Array (Option Value)} {oc17 kV17 dc17 pm17 cd17 ct17:Value} {f18:Addr} {od18 an18:Option Addr} {sl18:Array (Option Value)} {oc18 kV18 dc18 pm18 cd18 ct18:Value} {f19:Addr} {od19 an19:Option Addr} {sl19:Array (Option Value)} {oc19 kV19 dc19 pm19 cd19 ct19:Value} {f20:Addr} {od20 an20:Option Addr} {sl20:Array (Option Value)} {oc20 kV20 dc20 pm20 cd20 ct20:Value} {f21:Addr} {od21 an21:Option Addr} {sl21:Array (Option Value)} {oc21 kV21 dc21 pm21 cd21 ct21:Value} {f22:Addr} {od22 an22:Option Addr} {sl22:Array (Option Value)} {oc22 kV22 dc22 pm22 cd22 ct22:Value} {f23:Addr} {od23 an23:Option Addr} {sl23:Array (Option Value)} {oc23 kV23 dc23 pm23 cd23 ct23:Value} {f24:Addr} {od24 an24:Option Addr} {sl24:Array (Option Value)} {oc24 kV24 dc24 pm24 cd24 ct24:Value} {f25:Addr} {od25 an25:Option Addr} {sl25:Array (Option Value)} {oc25 kV25 dc25 pm25 cd25 ct25:Value} {f26:Addr} {od26 an26:Option Addr} {sl26:Array (Option Value)} {oc26 kV26 dc26 pm26 cd26 ct26:Value} {f27:Addr} {od27 an27:Option Addr} {sl27:Array (Option Value)} {oc27 kV27 dc27 pm27 cd27 ct27:Value} {f28:Addr} {od28 an28:Option Addr} {sl28:Array (Option Value)} {oc28 kV28 dc28 pm28 cd28 ct28:Value} {f29:Addr} {od29 an29:Option Addr} {sl29:Array (Option Value)} {oc29 kV29 dc29 pm29 cd29 ct29:Value} {f30:Addr} {od30 an30:Option Addr} {sl30:Array (Option Value)} {oc30 kV30 dc30 pm30 cd30 ct30:Value} {f31:Addr} {od31 an31:Option Addr} {sl31:Array (Option Value)} {oc31 kV31 dc31 pm31 cd31 ct31:Value} {C_NumberedStep:Addr} {fNumberedStep___init__:Addr} {odNumberedStep___init__ anNumberedStep___init__:Option Addr} {slNumberedStep___init__:Array (Option Value)} {ocNumberedStep___init__ kVNumberedStep___init__ dcNumberedStep___init__ pmNumberedStep___init__ cdNumberedStep___init__ ctNumberedStep___init__:Value} {d_PARTS:Addr} {n_PARTS:Nat} {k_PARTS_0:Tok} {a_PARTS_0:Addr} {od_PARTS_0:Option Addr} {m_PARTS_0:Nat} {sl_PARTS_0:Array (Option Value)} {k_PARTS_0_0:Tok} {k_PARTS_1:Tok} {a_PARTS_1:Addr} {od_PARTS_1:Option Addr} {m_PARTS_1:Nat} {sl_PARTS_1:Array (Option Value)} {k_PARTS_1_0:Tok} {k_PARTS_1_1:Tok} {k_PARTS_2:Tok} {a_PARTS_2:Addr} {od_PARTS_2:Option Addr} {m_PARTS_2:Nat} {sl_PARTS_2:Array (Option Value)} {k_PARTS_2_0:Tok} {k_PARTS_2_1:Tok} {k_PARTS_3:Tok} {a_PARTS_3:Addr} {od_PARTS_3:Option Addr} {m_PARTS_3:Nat} {sl_PARTS_3:Array (Option Value)} {k_PARTS_3_0:Tok} {k_PARTS_4:Tok} {a_PARTS_4:Addr} {od_PARTS_4:Option Addr} {m_PARTS_4:Nat} {sl_PARTS_4:Array (Option Value)} {k_PARTS_4_0:Tok} {k_PARTS_4_1:Tok} {k_PARTS_5:Tok} {a_PARTS_5:Addr} {od_PARTS_5:Option Addr} {m_PARTS_5:Nat} {sl_PARTS_5:Array (Option Value)} {k_PARTS_5_0:Tok} {k_PARTS_5_1:Tok} {k_PARTS_5_2:Tok} {k_PARTS_6:Tok} {a_PARTS_6:Addr} {od_PARTS_6:Option Addr} {m_PARTS_6:Nat} {sl_PARTS_6:Array (Option Value)} {k_PARTS_6_0:Tok} {k_PARTS_6_1:Tok} {k_PARTS_6_2:Tok} {k_PARTS_7:Tok} {a_PARTS_7:Addr} {od_PARTS_7:Option Addr} {m_PARTS_7:Nat} {sl_PARTS_7:Array (Option Value)} {k_PARTS_7_0:Tok} {k_PARTS_7_1:Tok} {d_CLOSERS:Addr} {n_CLOSERS:Nat} {k_CLOSERS_0:Tok} {a_CLOSERS_0:Addr} {od_CLOSERS_0:Option Addr} {m_CLOSERS_0:Nat} {sl_CLOSERS_0:Array (Option Value)} {k_CLOSERS_0_0:Tok} {k_CLOSERS_1:Tok} {a_CLOSERS_1:Addr} {od_CLOSERS_1:Option Addr} {m_CLOSERS_1:Nat} {sl_CLOSERS_1:Array (Option Value)} {k_CLOSERS_1_0:Tok} {k_CLOSERS_1_1:Tok} {k_CLOSERS_2:Tok} {a_CLOSERS_2:Addr} {od_CLOSERS_2:Option Addr} {m_CLOSERS_2:Nat} {sl_CLOSERS_2:Array (Option Value)} {k_CLOSERS_2_0:Tok}
  (a0:PySem.W.nsIn K mainGlobals "closers_of" = some (some (.ref f0))) (l0:K.lookup f0=some ⟨oc0,od0,.func (PySem.W.fnOf "closers_of" "closers_of" (defArgs cB) (defBody cB) (defScope cB) .none kV0 dc0 pm0 an0 cd0 ct0),sl0⟩) (c0:PySem.W.codeIn K cd0 "closers_of" = true) (k0:PySem.W.keepIn K (.ref f0)=true)
  (a1:PySem.W.nsIn K mainGlobals "head_of" = some (some (.ref f1))) (l1:K.lookup f1=some ⟨oc1,od1,.func (PySem.W.fnOf "head_of" "head_of" (defArgs cP) (defBody cP) (defScope cP) .none kV1 dc1 pm1 an1 cd1 ct1),sl1⟩) (c1:PySem.W.codeIn K cd1 "head_of" = true) (k1:PySem.W.keepIn K (.ref f1)=true)
  (a2:PySem.W.nsIn K mainGlobals "blocks_of" = some (some (.ref f2))) (l2:K.lookup f2=some ⟨oc2,od2,.func (PySem.W.fnOf "blocks_of" "blocks_of" (defArgs cv) (defBody cv) (defScope cv) .none kV2 dc2 pm2 an2 cd2 ct2),sl2⟩) (c2:PySem.W.codeIn K cd2 "blocks_of" = true) (k2:PySem.W.keepIn K (.ref f2)=true)
  (a3:PySem.W.nsIn K mainGlobals "steps_within" = some (some (.ref f3))) (l3:K.lookup f3=some ⟨oc3,od3,.func (PySem.W.fnOf "steps_within" "steps_within" (defArgs aY) (defBody aY) (defScope aY) .none kV3 dc3 pm3 an3 cd3 ct3),sl3⟩) (c3:PySem.W.codeIn K cd3 "steps_within" = true) (k3:PySem.W.keepIn K (.ref f3)=true)
  (a4:PySem.W.nsIn K mainGlobals "names_in" = some (some (.ref f4))) (l4:K.lookup f4=some ⟨oc4,od4,.func (PySem.W.fnOf "names_in" "names_in" (defArgs bn) (defBody bn) (defScope bn) .none kV4 dc4 pm4 an4 cd4 ct4),sl4⟩) (c4:PySem.W.codeIn K cd4 "names_in" = true) (k4:PySem.W.keepIn K (.ref f4)=true)
  (a5:PySem.W.nsIn K mainGlobals "names_of" = some (some (.ref f5))) (l5:K.lookup f5=some ⟨oc5,od5,.func (PySem.W.fnOf "names_of" "names_of" (defArgs cH) (defBody cH) (defScope cH) .none kV5 dc5 pm5 an5 cd5 ct5),sl5⟩) (c5:PySem.W.codeIn K cd5 "names_of" = true) (k5:PySem.W.keepIn K (.ref f5)=true)
  (a6:PySem.W.nsIn K mainGlobals "lines_of" = some (some (.ref f6))) (l6:K.lookup f6=some ⟨oc6,od6,.func (PySem.W.fnOf "lines_of" "lines_of" (defArgs aP) (defBody aP) (defScope aP) .none kV6 dc6 pm6 an6 cd6 ct6),sl6⟩) (c6:PySem.W.codeIn K cd6 "lines_of" = true) (k6:PySem.W.keepIn K (.ref f6)=true)
  (a7:PySem.W.nsIn K mainGlobals "line_behind" = some (some (.ref f7))) (l7:K.lookup f7=some ⟨oc7,od7,.func (PySem.W.fnOf "line_behind" "line_behind" (defArgs b5) (defBody b5) (defScope b5) .none kV7 dc7 pm7 an7 cd7 ct7),sl7⟩) (c7:PySem.W.codeIn K cd7 "line_behind" = true) (k7:PySem.W.keepIn K (.ref f7)=true)
  (a8:PySem.W.nsIn K mainGlobals "numbered_step" = some (some (.ref f8))) (l8:K.lookup f8=some ⟨oc8,od8,.func (PySem.W.fnOf "numbered_step" "numbered_step" (defArgs aA) (defBody aA) (defScope aA) .none kV8 dc8 pm8 an8 cd8 ct8),sl8⟩) (c8:PySem.W.codeIn K cd8 "numbered_step" = true) (k8:PySem.W.keepIn K (.ref f8)=true)
  (a9:PySem.W.nsIn K mainGlobals "numbered_steps" = some (some (.ref f9))) (l9:K.lookup f9=some ⟨oc9,od9,.func (PySem.W.fnOf "numbered_steps" "numbered_steps" (defArgs aT) (defBody aT) (defScope aT) .none kV9 dc9 pm9 an9 cd9 ct9),sl9⟩) (c9:PySem.W.codeIn K cd9 "numbered_steps" = true) (k9:PySem.W.keepIn K (.ref f9)=true)
  (a10:PySem.W.nsIn K mainGlobals "lend_lines" = some (some (.ref f10))) (l10:K.lookup f10=some ⟨oc10,od10,.func (PySem.W.fnOf "lend_lines" "lend_lines" (defArgs bh) (defBody bh) (defScope bh) .none kV10 dc10 pm10 an10 cd10 ct10),sl10⟩) (c10:PySem.W.codeIn K cd10 "lend_lines" = true) (k10:PySem.W.keepIn K (.ref f10)=true)
  (a11:PySem.W.nsIn K mainGlobals "slots_of" = some (some (.ref f11))) (l11:K.lookup f11=some ⟨oc11,od11,.func (PySem.W.fnOf "slots_of" "slots_of" (defArgs bD) (defBody bD) (defScope bD) .none kV11 dc11 pm11 an11 cd11 ct11),sl11⟩) (c11:PySem.W.codeIn K cd11 "slots_of" = true) (k11:PySem.W.keepIn K (.ref f11)=true)
  (a12:PySem.W.nsIn K mainGlobals "simple_row" = some (some (.ref f12))) (l12:K.lookup f12=some ⟨oc12,od12,.func (PySem.W.fnOf "simple_row" "simple_row" (defArgs bb) (defBody bb) (defScope bb) .none kV12 dc12 pm12 an12 cd12 ct12),sl12⟩) (c12:PySem.W.codeIn K cd12 "simple_row" = true) (k12:PySem.W.keepIn K (.ref f12)=true)
  (a13:PySem.W.nsIn K mainGlobals "lend_rows" = some (some (.ref f13))) (l13:K.lookup f13=some ⟨oc13,od13,.func (PySem.W.fnOf "lend_rows" "lend_rows" (defArgs aF) (defBody aF) (defScope aF) .none kV13 dc13 pm13 an13 cd13 ct13),sl13⟩) (c13:PySem.W.codeIn K cd13 "lend_rows" = true) (k13:PySem.W.keepIn K (.ref f13)=true)
  (a14:PySem.W.nsIn K mainGlobals "if_rows" = some (some (.ref f14))) (l14:K.lookup f14=some ⟨oc14,od14,.func (PySem.W.fnOf "if_rows" "if_rows" (defArgs bc) (defBody bc) (defScope bc) .none kV14 dc14 pm14 an14 cd14 ct14),sl14⟩) (c14:PySem.W.codeIn K cd14 "if_rows" = true) (k14:PySem.W.keepIn K (.ref f14)=true)
  (a15:PySem.W.nsIn K mainGlobals "loop_rows" = some (some (.ref f15))) (l15:K.lookup f15=some ⟨oc15,od15,.func (PySem.W.fnOf "loop_rows" "loop_rows" (defArgs bo) (defBody bo) (defScope bo) .none kV15 dc15 pm15 an15 cd15 ct15),sl15⟩) (c15:PySem.W.codeIn K cd15 "loop_rows" = true) (k15:PySem.W.keepIn K (.ref f15)=true)
  (a16:PySem.W.nsIn K mainGlobals "while_rows" = some (some (.ref f16))) (l16:K.lookup f16=some ⟨oc16,od16,.func (PySem.W.fnOf "while_rows" "while_rows" (defArgs aR) (defBody aR) (defScope aR) .none kV16 dc16 pm16 an16 cd16 ct16),sl16⟩) (c16:PySem.W.codeIn K cd16 "while_rows" = true) (k16:PySem.W.keepIn K (.ref f16)=true)
  (a17:PySem.W.nsIn K mainGlobals "rows_of" = some (some (.ref f17))) (l17:K.lookup f17=some ⟨oc17,od17,.func (PySem.W.fnOf "rows_of" "rows_of" (defArgs bi) (defBody bi) (defScope bi) .none kV17 dc17 pm17 an17 cd17 ct17),sl17⟩) (c17:PySem.W.codeIn K cd17 "rows_of" = true) (k17:PySem.W.keepIn K (.ref f17)=true)
  (a18:PySem.W.nsIn K mainGlobals "rows_and_end" = some (some (.ref f18))) (l18:K.lookup f18=some ⟨oc18,od18,.func (PySem.W.fnOf "rows_and_end" "rows_and_end" (defArgs bf) (defBody bf) (defScope bf) .none kV18 dc18 pm18 an18 cd18 ct18),sl18⟩) (c18:PySem.W.codeIn K cd18 "rows_and_end" = true) (k18:PySem.W.keepIn K (.ref f18)=true)
  (a19:PySem.W.nsIn K mainGlobals "code_of" = some (some (.ref f19))) (l19:K.lookup f19=some ⟨oc19,od19,.func (PySem.W.fnOf "code_of" "code_of" (defArgs cZ) (defBody cZ) (defScope cZ) .none kV19 dc19 pm19 an19 cd19 ct19),sl19⟩) (c19:PySem.W.codeIn K cd19 "code_of" = true) (k19:PySem.W.keepIn K (.ref f19)=true)
  (a20:PySem.W.nsIn K mainGlobals "turned_code" = some (some (.ref f20))) (l20:K.lookup f20=some ⟨oc20,od20,.func (PySem.W.fnOf "turned_code" "turned_code" (defArgs cj) (defBody cj) (defScope cj) .none kV20 dc20 pm20 an20 cd20 ct20),sl20⟩) (c20:PySem.W.codeIn K cd20 "turned_code" = true) (k20:PySem.W.keepIn K (.ref f20)=true)
  (a21:PySem.W.nsIn K mainGlobals "_law_cell_at" = some (some (.ref f21))) (l21:K.lookup f21=some ⟨oc21,od21,.func (PySem.W.fnOf "_law_cell_at" "_law_cell_at" (defArgs b6) (defBody b6) (defScope b6) .none kV21 dc21 pm21 an21 cd21 ct21),sl21⟩) (c21:PySem.W.codeIn K cd21 "_law_cell_at" = true) (k21:PySem.W.keepIn K (.ref f21)=true)
  (a22:PySem.W.nsIn K mainGlobals "_law_names" = some (some (.ref f22))) (l22:K.lookup f22=some ⟨oc22,od22,.func (PySem.W.fnOf "_law_names" "_law_names" (defArgs ax) (defBody ax) (defScope ax) .none kV22 dc22 pm22 an22 cd22 ct22),sl22⟩) (c22:PySem.W.codeIn K cd22 "_law_names" = true) (k22:PySem.W.keepIn K (.ref f22)=true)
  (a23:PySem.W.nsIn K mainGlobals "_law_bound" = some (some (.ref f23))) (l23:K.lookup f23=some ⟨oc23,od23,.func (PySem.W.fnOf "_law_bound" "_law_bound" (defArgs cx) (defBody cx) (defScope cx) .none kV23 dc23 pm23 an23 cd23 ct23),sl23⟩) (c23:PySem.W.codeIn K cd23 "_law_bound" = true) (k23:PySem.W.keepIn K (.ref f23)=true)
  (a24:PySem.W.nsIn K mainGlobals "_law_step" = some (some (.ref f24))) (l24:K.lookup f24=some ⟨oc24,od24,.func (PySem.W.fnOf "_law_step" "_law_step" (defArgs bJ) (defBody bJ) (defScope bJ) .none kV24 dc24 pm24 an24 cd24 ct24),sl24⟩) (c24:PySem.W.codeIn K cd24 "_law_step" = true) (k24:PySem.W.keepIn K (.ref f24)=true)
  (a25:PySem.W.nsIn K mainGlobals "_law_begun" = some (some (.ref f25))) (l25:K.lookup f25=some ⟨oc25,od25,.func (PySem.W.fnOf "_law_begun" "_law_begun" (defArgs aX) (defBody aX) (defScope aX) .none kV25 dc25 pm25 an25 cd25 ct25),sl25⟩) (c25:PySem.W.codeIn K cd25 "_law_begun" = true) (k25:PySem.W.keepIn K (.ref f25)=true)
  (a26:PySem.W.nsIn K mainGlobals "_law_program" = some (some (.ref f26))) (l26:K.lookup f26=some ⟨oc26,od26,.func (PySem.W.fnOf "_law_program" "_law_program" (defArgs ap) (defBody ap) (defScope ap) .none kV26 dc26 pm26 an26 cd26 ct26),sl26⟩) (c26:PySem.W.codeIn K cd26 "_law_program" = true) (k26:PySem.W.keepIn K (.ref f26)=true)
  (a27:PySem.W.nsIn K mainGlobals "_law_shown" = some (some (.ref f27))) (l27:K.lookup f27=some ⟨oc27,od27,.func (PySem.W.fnOf "_law_shown" "_law_shown" (defArgs bV) (defBody bV) (defScope bV) .none kV27 dc27 pm27 an27 cd27 ct27),sl27⟩) (c27:PySem.W.codeIn K cd27 "_law_shown" = true) (k27:PySem.W.keepIn K (.ref f27)=true)
  (a28:PySem.W.nsIn K mainGlobals "_law_alike" = some (some (.ref f28))) (l28:K.lookup f28=some ⟨oc28,od28,.func (PySem.W.fnOf "_law_alike" "_law_alike" (defArgs b4) (defBody b4) (defScope b4) .none kV28 dc28 pm28 an28 cd28 ct28),sl28⟩) (c28:PySem.W.codeIn K cd28 "_law_alike" = true) (k28:PySem.W.keepIn K (.ref f28)=true)
  (a29:PySem.W.nsIn K mainGlobals "_law_nexts" = some (some (.ref f29))) (l29:K.lookup f29=some ⟨oc29,od29,.func (PySem.W.fnOf "_law_nexts" "_law_nexts" (defArgs cw) (defBody cw) (defScope cw) .none kV29 dc29 pm29 an29 cd29 ct29),sl29⟩) (c29:PySem.W.codeIn K cd29 "_law_nexts" = true) (k29:PySem.W.keepIn K (.ref f29)=true)
  (a30:PySem.W.nsIn K mainGlobals "_law_matched" = some (some (.ref f30))) (l30:K.lookup f30=some ⟨oc30,od30,.func (PySem.W.fnOf "_law_matched" "_law_matched" (defArgs aL) (defBody aL) (defScope aL) .none kV30 dc30 pm30 an30 cd30 ct30),sl30⟩) (c30:PySem.W.codeIn K cd30 "_law_matched" = true) (k30:PySem.W.keepIn K (.ref f30)=true)
  (a31:PySem.W.nsIn K mainGlobals "law" = some (some (.ref f31))) (l31:K.lookup f31=some ⟨oc31,od31,.func (PySem.W.fnOf "law" "law" (defArgs bN) (defBody bN) (defScope bN) .none kV31 dc31 pm31 an31 cd31 ct31),sl31⟩) (c31:PySem.W.codeIn K cd31 "law" = true) (k31:PySem.W.keepIn K (.ref f31)=true)
  (y_isinstance:PySem.W.nsIn K mainGlobals "isinstance" = some none)
  (y_str:PySem.W.nsIn K mainGlobals "str" = some none)
  (y_int:PySem.W.nsIn K mainGlobals "int" = some none)
  (y_bool:PySem.W.nsIn K mainGlobals "bool" = some none)
  (y_tuple:PySem.W.nsIn K mainGlobals "tuple" = some none)
  (y_len:PySem.W.nsIn K mainGlobals "len" = some none)
  (y_range:PySem.W.nsIn K mainGlobals "range" = some none)
  (y_list:PySem.W.nsIn K mainGlobals "list" = some none)
  (y_reversed:PySem.W.nsIn K mainGlobals "reversed" = some none)
  (y_zip:PySem.W.nsIn K mainGlobals "zip" = some none)
  (y_enumerate:PySem.W.nsIn K mainGlobals "enumerate" = some none)
  (n_NumberedStep:PySem.W.nsIn K mainGlobals "NumberedStep" = some (some (.ref C_NumberedStep))) (pg_NumberedStep:PySem.W.plainGet K C_NumberedStep Str.empty=true) (hd_NumberedStep:PySem.W.hasDictIn K C_NumberedStep=true) (po_NumberedStep:PySem.W.plainOver K C_NumberedStep=true) (sa_NumberedStep:PySem.W.findIn K (.ref C_NumberedStep) "__setattr__" = some (some (.builtin "object.__setattr__"))) (mk_NumberedStep:PySem.W.makesIn K C_NumberedStep=true) (kc_NumberedStep:PySem.W.keepIn K (.ref C_NumberedStep)=true)
  (nf_kind:PySem.W.findIn K (.ref C_NumberedStep) "kind" = some none)
  (nf_parts:PySem.W.findIn K (.ref C_NumberedStep) "parts" = some none)
  (nf_lines:PySem.W.findIn K (.ref C_NumberedStep) "lines" = some none)
  (nf_blocks:PySem.W.findIn K (.ref C_NumberedStep) "blocks" = some none)
  (aNumberedStep___init__:PySem.W.findIn K (.ref C_NumberedStep) "__init__" = some (some (.ref fNumberedStep___init__))) (iNumberedStep___init__:PySem.W.isFn K (.ref fNumberedStep___init__)=true) (lNumberedStep___init__:K.lookup fNumberedStep___init__=some ⟨ocNumberedStep___init__,odNumberedStep___init__,.func (PySem.W.fnOf "__init__" "NumberedStep.__init__" (defArgs aN) (defBody aN) (defScope aN) .none kVNumberedStep___init__ dcNumberedStep___init__ pmNumberedStep___init__ anNumberedStep___init__ cdNumberedStep___init__ ctNumberedStep___init__),slNumberedStep___init__⟩) (cNumberedStep___init__:PySem.W.codeIn K cdNumberedStep___init__ "NumberedStep.__init__" = true) (kNumberedStep___init__:PySem.W.keepIn K (.ref fNumberedStep___init__)=true)
  (h_PARTS:PySem.W.nsIn K mainGlobals "PARTS" = some (some (.ref d_PARTS)))
  (ld_PARTS:K.lookup d_PARTS=some ⟨.type "dict", none,.dict #[⟨PyData.keyHash w.params "open", .str "open" k_PARTS_0,.ref a_PARTS_0⟩,⟨PyData.keyHash w.params "do", .str "do" k_PARTS_1,.ref a_PARTS_1⟩,⟨PyData.keyHash w.params "copy", .str "copy" k_PARTS_2,.ref a_PARTS_2⟩,⟨PyData.keyHash w.params "drop", .str "drop" k_PARTS_3,.ref a_PARTS_3⟩,⟨PyData.keyHash w.params "tie", .str "tie" k_PARTS_4,.ref a_PARTS_4⟩,⟨PyData.keyHash w.params "lend", .str "lend" k_PARTS_5,.ref a_PARTS_5⟩,⟨PyData.keyHash w.params "if", .str "if" k_PARTS_6,.ref a_PARTS_6⟩,⟨PyData.keyHash w.params "while", .str "while" k_PARTS_7,.ref a_PARTS_7⟩] n_PARTS,#[]⟩)
  (la_PARTS_0:K.lookup a_PARTS_0=some ⟨.type "tuple", od_PARTS_0,.seq #[.str "name" k_PARTS_0_0] m_PARTS_0,sl_PARTS_0⟩)
  (la_PARTS_1:K.lookup a_PARTS_1=some ⟨.type "tuple", od_PARTS_1,.seq #[.str "word" k_PARTS_1_0,.str "name" k_PARTS_1_1] m_PARTS_1,sl_PARTS_1⟩)
  (la_PARTS_2:K.lookup a_PARTS_2=some ⟨.type "tuple", od_PARTS_2,.seq #[.str "name" k_PARTS_2_0,.str "name" k_PARTS_2_1] m_PARTS_2,sl_PARTS_2⟩)
  (la_PARTS_3:K.lookup a_PARTS_3=some ⟨.type "tuple", od_PARTS_3,.seq #[.str "name" k_PARTS_3_0] m_PARTS_3,sl_PARTS_3⟩)
  (la_PARTS_4:K.lookup a_PARTS_4=some ⟨.type "tuple", od_PARTS_4,.seq #[.str "name" k_PARTS_4_0,.str "name" k_PARTS_4_1] m_PARTS_4,sl_PARTS_4⟩)
  (la_PARTS_5:K.lookup a_PARTS_5=some ⟨.type "tuple", od_PARTS_5,.seq #[.str "name" k_PARTS_5_0,.str "name" k_PARTS_5_1,.str "steps" k_PARTS_5_2] m_PARTS_5,sl_PARTS_5⟩)
  (la_PARTS_6:K.lookup a_PARTS_6=some ⟨.type "tuple", od_PARTS_6,.seq #[.str "bound" k_PARTS_6_0,.str "steps" k_PARTS_6_1,.str "steps" k_PARTS_6_2] m_PARTS_6,sl_PARTS_6⟩)
  (la_PARTS_7:K.lookup a_PARTS_7=some ⟨.type "tuple", od_PARTS_7,.seq #[.str "bound" k_PARTS_7_0,.str "steps" k_PARTS_7_1] m_PARTS_7,sl_PARTS_7⟩)
  (dz_PARTS:(d_PARTS == sysModules)=false)
  (h_CLOSERS:PySem.W.nsIn K mainGlobals "CLOSERS" = some (some (.ref d_CLOSERS)))
  (ld_CLOSERS:K.lookup d_CLOSERS=some ⟨.type "dict", none,.dict #[⟨PyData.keyHash w.params "lend", .str "lend" k_CLOSERS_0,.ref a_CLOSERS_0⟩,⟨PyData.keyHash w.params "if", .str "if" k_CLOSERS_1,.ref a_CLOSERS_1⟩,⟨PyData.keyHash w.params "while", .str "while" k_CLOSERS_2,.ref a_CLOSERS_2⟩] n_CLOSERS,#[]⟩)
  (la_CLOSERS_0:K.lookup a_CLOSERS_0=some ⟨.type "tuple", od_CLOSERS_0,.seq #[.str "back" k_CLOSERS_0_0] m_CLOSERS_0,sl_CLOSERS_0⟩)
  (la_CLOSERS_1:K.lookup a_CLOSERS_1=some ⟨.type "tuple", od_CLOSERS_1,.seq #[.str "else" k_CLOSERS_1_0,.str "fi" k_CLOSERS_1_1] m_CLOSERS_1,sl_CLOSERS_1⟩)
  (la_CLOSERS_2:K.lookup a_CLOSERS_2=some ⟨.type "tuple", od_CLOSERS_2,.seq #[.str "done" k_CLOSERS_2_0] m_CLOSERS_2,sl_CLOSERS_2⟩)
  (dz_CLOSERS:(d_CLOSERS == sysModules)=false) :
  ∃ fd:FuncData,(∀ (s:Shared) (v:Value),BindsTo s fd ⟨[v],[]⟩ [("_law_script", v)])∧∀ base:Heap,K.In base→base.Ns mainGlobals mg→FnOk l.prog w K mg base ib 36 fa fd ["_law_script"] (ma K):=by
 have e:=hfa.symm.trans (PySem.W.mg_of X G a31)
 cases e
 have D_closers_of:DefAt K mg "closers_of" cB:=⟨f0,_,bj (st:=cB) l0 c0 k0,PySem.W.mg_of X G a0⟩
 have D_head_of:DefAt K mg "head_of" cP:=⟨f1,_,bj (st:=cP) l1 c1 k1,PySem.W.mg_of X G a1⟩
 have D_blocks_of:DefAt K mg "blocks_of" cv:=⟨f2,_,bj (st:=cv) l2 c2 k2,PySem.W.mg_of X G a2⟩
 have D_steps_within:DefAt K mg "steps_within" aY:=⟨f3,_,bj (st:=aY) l3 c3 k3,PySem.W.mg_of X G a3⟩
 have D_names_in:DefAt K mg "names_in" bn:=⟨f4,_,bj (st:=bn) l4 c4 k4,PySem.W.mg_of X G a4⟩
 have D_names_of:DefAt K mg "names_of" cH:=⟨f5,_,bj (st:=cH) l5 c5 k5,PySem.W.mg_of X G a5⟩
 have D_lines_of:DefAt K mg "lines_of" aP:=⟨f6,_,bj (st:=aP) l6 c6 k6,PySem.W.mg_of X G a6⟩
 have D_line_behind:DefAt K mg "line_behind" b5:=⟨f7,_,bj (st:=b5) l7 c7 k7,PySem.W.mg_of X G a7⟩
 have D_numbered_step:DefAt K mg "numbered_step" aA:=⟨f8,_,bj (st:=aA) l8 c8 k8,PySem.W.mg_of X G a8⟩
 have D_numbered_steps:DefAt K mg "numbered_steps" aT:=⟨f9,_,bj (st:=aT) l9 c9 k9,PySem.W.mg_of X G a9⟩
 have D_lend_lines:DefAt K mg "lend_lines" bh:=⟨f10,_,bj (st:=bh) l10 c10 k10,PySem.W.mg_of X G a10⟩
 have D_slots_of:DefAt K mg "slots_of" bD:=⟨f11,_,bj (st:=bD) l11 c11 k11,PySem.W.mg_of X G a11⟩
 have D_simple_row:DefAt K mg "simple_row" bb:=⟨f12,_,bj (st:=bb) l12 c12 k12,PySem.W.mg_of X G a12⟩
 have D_lend_rows:DefAt K mg "lend_rows" aF:=⟨f13,_,bj (st:=aF) l13 c13 k13,PySem.W.mg_of X G a13⟩
 have D_if_rows:DefAt K mg "if_rows" bc:=⟨f14,_,bj (st:=bc) l14 c14 k14,PySem.W.mg_of X G a14⟩
 have D_loop_rows:DefAt K mg "loop_rows" bo:=⟨f15,_,bj (st:=bo) l15 c15 k15,PySem.W.mg_of X G a15⟩
 have D_while_rows:DefAt K mg "while_rows" aR:=⟨f16,_,bj (st:=aR) l16 c16 k16,PySem.W.mg_of X G a16⟩
 have D_rows_of:DefAt K mg "rows_of" bi:=⟨f17,_,bj (st:=bi) l17 c17 k17,PySem.W.mg_of X G a17⟩
 have D_rows_and_end:DefAt K mg "rows_and_end" bf:=⟨f18,_,bj (st:=bf) l18 c18 k18,PySem.W.mg_of X G a18⟩
 have D_code_of:DefAt K mg "code_of" cZ:=⟨f19,_,bj (st:=cZ) l19 c19 k19,PySem.W.mg_of X G a19⟩
 have D_turned_code:DefAt K mg "turned_code" cj:=⟨f20,_,bj (st:=cj) l20 c20 k20,PySem.W.mg_of X G a20⟩
 have D_law_cell_at:DefAt K mg "_law_cell_at" b6:=⟨f21,_,bj (st:=b6) l21 c21 k21,PySem.W.mg_of X G a21⟩
 have D_law_names:DefAt K mg "_law_names" ax:=⟨f22,_,bj (st:=ax) l22 c22 k22,PySem.W.mg_of X G a22⟩
 have D_law_bound:DefAt K mg "_law_bound" cx:=⟨f23,_,bj (st:=cx) l23 c23 k23,PySem.W.mg_of X G a23⟩
 have D_law_step:DefAt K mg "_law_step" bJ:=⟨f24,_,bj (st:=bJ) l24 c24 k24,PySem.W.mg_of X G a24⟩
 have D_law_begun:DefAt K mg "_law_begun" aX:=⟨f25,_,bj (st:=aX) l25 c25 k25,PySem.W.mg_of X G a25⟩
 have D_law_program:DefAt K mg "_law_program" ap:=⟨f26,_,bj (st:=ap) l26 c26 k26,PySem.W.mg_of X G a26⟩
 have D_law_shown:DefAt K mg "_law_shown" bV:=⟨f27,_,bj (st:=bV) l27 c27 k27,PySem.W.mg_of X G a27⟩
 have D_law_alike:DefAt K mg "_law_alike" b4:=⟨f28,_,bj (st:=b4) l28 c28 k28,PySem.W.mg_of X G a28⟩
 have D_law_nexts:DefAt K mg "_law_nexts" cw:=⟨f29,_,bj (st:=cw) l29 c29 k29,PySem.W.mg_of X G a29⟩
 have D_law_matched:DefAt K mg "_law_matched" aL:=⟨f30,_,bj (st:=aL) l30 c30 k30,PySem.W.mg_of X G a30⟩
 have z_isinstance:mg "isinstance" = none:=PySem.W.mg_none_of X G y_isinstance
 have z_str:mg "str" = none:=PySem.W.mg_none_of X G y_str
 have z_int:mg "int" = none:=PySem.W.mg_none_of X G y_int
 have z_bool:mg "bool" = none:=PySem.W.mg_none_of X G y_bool
 have z_tuple:mg "tuple" = none:=PySem.W.mg_none_of X G y_tuple
 have z_len:mg "len" = none:=PySem.W.mg_none_of X G y_len
 have z_range:mg "range" = none:=PySem.W.mg_none_of X G y_range
 have z_list:mg "list" = none:=PySem.W.mg_none_of X G y_list
 have z_reversed:mg "reversed" = none:=PySem.W.mg_none_of X G y_reversed
 have z_zip:mg "zip" = none:=PySem.W.mg_none_of X G y_zip
 have z_enumerate:mg "enumerate" = none:=PySem.W.mg_none_of X G y_enumerate
 have cl_NumberedStep:Cls K C_NumberedStep:=⟨pg_NumberedStep,hd_NumberedStep,po_NumberedStep,sa_NumberedStep⟩
 have a_kind:Fl K C_NumberedStep "kind" := ⟨cl_NumberedStep,nf_kind⟩
 have a_parts:Fl K C_NumberedStep "parts" := ⟨cl_NumberedStep,nf_parts⟩
 have a_lines:Fl K C_NumberedStep "lines" := ⟨cl_NumberedStep,nf_lines⟩
 have a_blocks:Fl K C_NumberedStep "blocks" := ⟨cl_NumberedStep,nf_blocks⟩
 have D_NumberedStep:MakeAt K mg "NumberedStep" C_NumberedStep "NumberedStep.__init__" aN:=⟨fNumberedStep___init__,_,bj (st:=aN) lNumberedStep___init__ cNumberedStep___init__ kNumberedStep___init__,⟨mk_NumberedStep,aNumberedStep___init__,iNumberedStep___init__,kc_NumberedStep⟩,PySem.W.mg_of X G n_NumberedStep⟩
 have g_PARTS:mg "PARTS" = some (.ref d_PARTS):=PySem.W.mg_of X G h_PARTS
 have m_PARTS:ModD w K d_PARTS [("open", .ref a_PARTS_0),("do", .ref a_PARTS_1),("copy", .ref a_PARTS_2),("drop", .ref a_PARTS_3),("tie", .ref a_PARTS_4),("lend", .ref a_PARTS_5),("if", .ref a_PARTS_6),("while", .ref a_PARTS_7)]:=⟨dz_PARTS,(show (["open", "do", "copy", "drop", "tie", "lend", "if", "while"]:List Str).Nodup from by decide),_,[⟨PyData.keyHash w.params "open", .str "open" k_PARTS_0,.ref a_PARTS_0⟩,⟨PyData.keyHash w.params "do", .str "do" k_PARTS_1,.ref a_PARTS_1⟩,⟨PyData.keyHash w.params "copy", .str "copy" k_PARTS_2,.ref a_PARTS_2⟩,⟨PyData.keyHash w.params "drop", .str "drop" k_PARTS_3,.ref a_PARTS_3⟩,⟨PyData.keyHash w.params "tie", .str "tie" k_PARTS_4,.ref a_PARTS_4⟩,⟨PyData.keyHash w.params "lend", .str "lend" k_PARTS_5,.ref a_PARTS_5⟩,⟨PyData.keyHash w.params "if", .str "if" k_PARTS_6,.ref a_PARTS_6⟩,⟨PyData.keyHash w.params "while", .str "while" k_PARTS_7,.ref a_PARTS_7⟩],n_PARTS,ld_PARTS,⟨rfl,rfl,rfl⟩,rfl,.cons rfl (.cons rfl (.cons rfl (.cons rfl (.cons rfl (.cons rfl (.cons rfl (.cons rfl (.nil))))))))⟩
 have q_PARTS_0:∀ H:Hp,SqT K H a_PARTS_0 [.str "name"]:=fun H=>.inr ⟨_,_,_,la_PARTS_0,rfl,rfl,bg (show 1≤1000000 from by decide),.cons ⟨_,rfl⟩ (.nil)⟩
 have q_PARTS_1:∀ H:Hp,SqT K H a_PARTS_1 [.str "word", .str "name"]:=fun H=>.inr ⟨_,_,_,la_PARTS_1,rfl,rfl,bg (show 2≤1000000 from by decide),.cons ⟨_,rfl⟩ (.cons ⟨_,rfl⟩ (.nil))⟩
 have q_PARTS_2:∀ H:Hp,SqT K H a_PARTS_2 [.str "name", .str "name"]:=fun H=>.inr ⟨_,_,_,la_PARTS_2,rfl,rfl,bg (show 2≤1000000 from by decide),.cons ⟨_,rfl⟩ (.cons ⟨_,rfl⟩ (.nil))⟩
 have q_PARTS_3:∀ H:Hp,SqT K H a_PARTS_3 [.str "name"]:=fun H=>.inr ⟨_,_,_,la_PARTS_3,rfl,rfl,bg (show 1≤1000000 from by decide),.cons ⟨_,rfl⟩ (.nil)⟩
 have q_PARTS_4:∀ H:Hp,SqT K H a_PARTS_4 [.str "name", .str "name"]:=fun H=>.inr ⟨_,_,_,la_PARTS_4,rfl,rfl,bg (show 2≤1000000 from by decide),.cons ⟨_,rfl⟩ (.cons ⟨_,rfl⟩ (.nil))⟩
 have q_PARTS_5:∀ H:Hp,SqT K H a_PARTS_5 [.str "name", .str "name", .str "steps"]:=fun H=>.inr ⟨_,_,_,la_PARTS_5,rfl,rfl,bg (show 3≤1000000 from by decide),.cons ⟨_,rfl⟩ (.cons ⟨_,rfl⟩ (.cons ⟨_,rfl⟩ (.nil)))⟩
 have q_PARTS_6:∀ H:Hp,SqT K H a_PARTS_6 [.str "bound", .str "steps", .str "steps"]:=fun H=>.inr ⟨_,_,_,la_PARTS_6,rfl,rfl,bg (show 3≤1000000 from by decide),.cons ⟨_,rfl⟩ (.cons ⟨_,rfl⟩ (.cons ⟨_,rfl⟩ (.nil)))⟩
 have q_PARTS_7:∀ H:Hp,SqT K H a_PARTS_7 [.str "bound", .str "steps"]:=fun H=>.inr ⟨_,_,_,la_PARTS_7,rfl,rfl,bg (show 2≤1000000 from by decide),.cons ⟨_,rfl⟩ (.cons ⟨_,rfl⟩ (.nil))⟩
 have g_CLOSERS:mg "CLOSERS" = some (.ref d_CLOSERS):=PySem.W.mg_of X G h_CLOSERS
 have m_CLOSERS:ModD w K d_CLOSERS [("lend", .ref a_CLOSERS_0),("if", .ref a_CLOSERS_1),("while", .ref a_CLOSERS_2)]:=⟨dz_CLOSERS,(show (["lend", "if", "while"]:List Str).Nodup from by decide),_,[⟨PyData.keyHash w.params "lend", .str "lend" k_CLOSERS_0,.ref a_CLOSERS_0⟩,⟨PyData.keyHash w.params "if", .str "if" k_CLOSERS_1,.ref a_CLOSERS_1⟩,⟨PyData.keyHash w.params "while", .str "while" k_CLOSERS_2,.ref a_CLOSERS_2⟩],n_CLOSERS,ld_CLOSERS,⟨rfl,rfl,rfl⟩,rfl,.cons rfl (.cons rfl (.cons rfl (.nil)))⟩
 have q_CLOSERS_0:∀ H:Hp,SqT K H a_CLOSERS_0 [.str "back"]:=fun H=>.inr ⟨_,_,_,la_CLOSERS_0,rfl,rfl,bg (show 1≤1000000 from by decide),.cons ⟨_,rfl⟩ (.nil)⟩
 have q_CLOSERS_1:∀ H:Hp,SqT K H a_CLOSERS_1 [.str "else", .str "fi"]:=fun H=>.inr ⟨_,_,_,la_CLOSERS_1,rfl,rfl,bg (show 2≤1000000 from by decide),.cons ⟨_,rfl⟩ (.cons ⟨_,rfl⟩ (.nil))⟩
 have q_CLOSERS_2:∀ H:Hp,SqT K H a_CLOSERS_2 [.str "done"]:=fun H=>.inr ⟨_,_,_,la_CLOSERS_2,rfl,rfl,bg (show 1≤1000000 from by decide),.cons ⟨_,rfl⟩ (.nil)⟩
 have F:=bj (st:=bN) l31 c31 k31
 refine⟨PySem.W.fnOf "law" "law" (defArgs bN) (defBody bN) (defScope bN) .none kV31 dc31 pm31 an31 cd31 ct31,fun s v=>.of_eq rfl,fun base _ _=>?_⟩
 have c1:=xT (P:=l.prog) (w:=w) (base:=base) D_law_cell_at z_len
 have d1:=qR (P:=l.prog) (w:=w) (base:=base) D_closers_of g_CLOSERS m_CLOSERS q_CLOSERS_0 q_CLOSERS_1 q_CLOSERS_2
 have d2:=xp D_head_of z_len d1
 have d3:=uF D_blocks_of z_len d2
 have d4:=lw D_steps_within d3 10
 have d5:=q8 (P:=l.prog) (w:=w) (base:=base) D_names_in z_zip z_list g_PARTS m_PARTS (wg q_PARTS_0 q_PARTS_1 q_PARTS_2 q_PARTS_3 q_PARTS_4 q_PARTS_5 q_PARTS_6 q_PARTS_7)
 have d6:=vt (rK D_names_of d5 d4)
 have d7:=mo D_lines_of z_str z_zip d1 d2 d3 10
 have d8:=oT D_lend_lines z_enumerate d7
 have d9:=u5 (NO:=NOt) NOt.mono D_slots_of z_enumerate (tH d6 (k:=15) (by decide)) d8
 have k0:=uS (P:=l.prog) (w:=w) (base:=base) D_NumberedStep a_kind a_parts a_lines a_blocks
 have b0:=um (P:=l.prog) (w:=w) (base:=base) D_line_behind z_len a_lines
 have n0:=pJ D_numbered_step D_numbered_steps d2 d3 b0 k0 10
 have r0:=qF (P:=l.prog) (w:=w) (base:=base) D_rows_of D_lend_rows D_if_rows D_loop_rows D_while_rows D_simple_row z_len z_tuple a_kind a_parts a_lines a_blocks 10
 have r1:=rR (NO:=NOt) (d:=10) (k:=33) NOt.mono D_rows_and_end (by decide) n0 r0 (tH d9 (by decide)) b0 (by decide) (by decide)
 have r2:=ua D_turned_code r1
 have r3:=x6 D_code_of r1
 have pg:=rB D_law_program z_len z_int z_reversed (vw D_law_begun z_len z_str (vf (P:=l.prog) (w:=w) (base:=base) D_law_bound)) (xG D_law_step z_len)
 have sw:=vy (P:=l.prog) (w:=w) (base:=base) D_law_shown z_len
 have mt:=rb D_law_matched z_list z_zip sw (uO D_law_alike z_isinstance z_tuple z_len) (vo D_law_nexts sw)
 exact y8 F c1 (vx D_law_names z_range) pg z_isinstance z_list z_len r3 r2 mt
theorem walk{l:PySem.W.OpenLaw}{q:Program}{loose:List Str}{XP:(Str→Option Value)→Heap→Prop}{YP:World→Heap→Prop}{d:DefRec}{K:Params→PySem.W.Frag}(hn:l.most=some 63)(hdf:d.params.defaults=[])
  (hY:∀ (w:World) (h:Heap),YP w h→(K w.params).In h)
  (F:∀ (w:World) (mg:Str→Option Value) (fa:Addr) (h:Heap),(K w.params).In h→h.Ns mainGlobals mg→mg d.name=some (.ref fa)→
   ∃ fd:FuncData,(∀ (s:Shared) (u:Value),BindsTo s fd ⟨[u],[]⟩ [("_law_script", u)])∧∀ base:Heap,(K w.params).In base→base.Ns mainGlobals mg→FnOk l.prog w (K w.params) mg base ib 36 fa fd ["_law_script"] (ma (K w.params))) :
  PySem.W.WalkO q loose XP YP l.row.toRowW d [] (fun f vs=>PySem.call f vs):=
 L2.walk_of (n:=63) (k:=36) (x := "_law_script") (CX:=fun _=>ib) (sp:=fun w=>ma (K w.params)) hn (by decide) hdf ⟨rfl,by decide,by decide⟩ hY F (fun _ _ a ns hl _ hS=>⟨a,ns,rfl,hS,hl,fun _=>rfl⟩) fun _ _ _ _ _ z=>z
end K37
end
open PySem PySem.W PyProof.Rows
set_option maxRecDepth 100000 in
set_option maxHeartbeats 0 in
theorem PySem.Challenge.cw_usewarden_k37_turned_code_goes_alike_holds : PySem.Challenge.rw_usewarden_k37_turned_code_goes_alike.Holds := by
 w_on
 refine holds_law (by decide +kernel) fun said=>?_
 refine holds_open (q:=K37.qq) (loose:=K37.loo) (Xt:=K37.xt) (XP:=XL K37.qq []) (Yf:=Hook.obs (kHook K37.KK K37.kk K37.kk_eq)) (Ya:=Hook.val (kHook K37.KK K37.kk K37.kk_eq)) (YP:=Hook.says (kHook K37.KK K37.kk K37.kk_eq)) (N:=3062) K37.hl (Hook.of (kHook K37.KK K37.kk K37.kk_eq)) (Hook.keeps (kHook K37.KK K37.kk K37.kk_eq)) (fun s e=>xl_of s (Bool.and_eq_true_iff.mp e).1) XL.keeps (by rfl) (by rfl) (by rfl) (fun s e=>recFacts_of (Bool.and_eq_true_iff.mp e).2) (by rfl) said (by decide +kernel) ⟨rfl,rfl,rfl,rfl,rfl,by decide +kernel⟩ ?hw ?hc
 (case hw=>w_witness2)
 k_fill
 refine K37.walk (l:=PySem.Challenge.rw_usewarden_k37_turned_code_goes_alike) rfl rfl (fun w h Y=>PySem.W.kIn_of Y) ?F
 case F=>
  intro w mg fa h KX G hmg
  refine' K37.all_mk KX G hmg ?a0 ?l0 ?c0 ?k0 ?a1 ?l1 ?c1 ?k1 ?a2 ?l2 ?c2 ?k2 ?a3 ?l3 ?c3 ?k3 ?a4 ?l4 ?c4 ?k4 ?a5 ?l5 ?c5 ?k5 ?a6 ?l6 ?c6 ?k6 ?a7 ?l7 ?c7 ?k7 ?a8 ?l8 ?c8 ?k8 ?a9 ?l9 ?c9 ?k9 ?a10 ?l10 ?c10 ?k10 ?a11 ?l11 ?c11 ?k11 ?a12 ?l12 ?c12 ?k12 ?a13 ?l13 ?c13 ?k13 ?a14 ?l14 ?c14 ?k14 ?a15 ?l15 ?c15 ?k15 ?a16 ?l16 ?c16 ?k16 ?a17 ?l17 ?c17 ?k17 ?a18 ?l18 ?c18 ?k18 ?a19 ?l19 ?c19 ?k19 ?a20 ?l20 ?c20 ?k20 ?a21 ?l21 ?c21 ?k21 ?a22 ?l22 ?c22 ?k22 ?a23 ?l23 ?c23 ?k23 ?a24 ?l24 ?c24 ?k24 ?a25 ?l25 ?c25 ?k25 ?a26 ?l26 ?c26 ?k26 ?a27 ?l27 ?c27 ?k27 ?a28 ?l28 ?c28 ?k28 ?a29 ?l29 ?c29 ?k29 ?a30 ?l30 ?c30 ?k30 ?a31 ?l31 ?c31 ?k31 ?y_isinstance ?y_str ?y_int ?y_bool ?y_tuple ?y_len ?y_range ?y_list ?y_reversed ?y_zip ?y_enumerate ?n_NumberedStep ?pg_NumberedStep ?hd_NumberedStep ?po_NumberedStep ?sa_NumberedStep ?mk_NumberedStep ?kc_NumberedStep ?nf_kind ?nf_parts ?nf_lines ?nf_blocks ?aNumberedStep___init__ ?iNumberedStep___init__ ?lNumberedStep___init__ ?cNumberedStep___init__ ?kNumberedStep___init__ ?h_PARTS ?ld_PARTS ?la_PARTS_0 ?la_PARTS_1 ?la_PARTS_2 ?la_PARTS_3 ?la_PARTS_4 ?la_PARTS_5 ?la_PARTS_6 ?la_PARTS_7 ?dz_PARTS ?h_CLOSERS ?ld_CLOSERS ?la_CLOSERS_0 ?la_CLOSERS_1 ?la_CLOSERS_2 ?dz_CLOSERS
  (case a0=>k_is)
  (case l0=>k_is)
  (case c0=>k_is)
  (case k0=>k_is)
  (case a1=>k_is)
  (case l1=>k_is)
  (case c1=>k_is)
  (case k1=>k_is)
  (case a2=>k_is)
  (case l2=>k_is)
  (case c2=>k_is)
  (case k2=>k_is)
  (case a3=>k_is)
  (case l3=>k_is)
  (case c3=>k_is)
  (case k3=>k_is)
  (case a4=>k_is)
  (case l4=>k_is)
  (case c4=>k_is)
  (case k4=>k_is)
  (case a5=>k_is)
  (case l5=>k_is)
  (case c5=>k_is)
  (case k5=>k_is)
  (case a6=>k_is)
  (case l6=>k_is)
  (case c6=>k_is)
  (case k6=>k_is)
  (case a7=>k_is)
  (case l7=>k_is)
  (case c7=>k_is)
  (case k7=>k_is)
  (case a8=>k_is)
  (case l8=>k_is)
  (case c8=>k_is)
  (case k8=>k_is)
  (case a9=>k_is)
  (case l9=>k_is)
  (case c9=>k_is)
  (case k9=>k_is)
  (case a10=>k_is)
  (case l10=>k_is)
  (case c10=>k_is)
  (case k10=>k_is)
  (case a11=>k_is)
  (case l11=>k_is)
  (case c11=>k_is)
  (case k11=>k_is)
  (case a12=>k_is)
  (case l12=>k_is)
  (case c12=>k_is)
  (case k12=>k_is)
  (case a13=>k_is)
  (case l13=>k_is)
  (case c13=>k_is)
  (case k13=>k_is)
  (case a14=>k_is)
  (case l14=>k_is)
  (case c14=>k_is)
  (case k14=>k_is)
  (case a15=>k_is)
  (case l15=>k_is)
  (case c15=>k_is)
  (case k15=>k_is)
  (case a16=>k_is)
  (case l16=>k_is)
  (case c16=>k_is)
  (case k16=>k_is)
  (case a17=>k_is)
  (case l17=>k_is)
  (case c17=>k_is)
  (case k17=>k_is)
  (case a18=>k_is)
  (case l18=>k_is)
  (case c18=>k_is)
  (case k18=>k_is)
  (case a19=>k_is)
  (case l19=>k_is)
  (case c19=>k_is)
  (case k19=>k_is)
  (case a20=>k_is)
  (case l20=>k_is)
  (case c20=>k_is)
  (case k20=>k_is)
  (case a21=>k_is)
  (case l21=>k_is)
  (case c21=>k_is)
  (case k21=>k_is)
  (case a22=>k_is)
  (case l22=>k_is)
  (case c22=>k_is)
  (case k22=>k_is)
  (case a23=>k_is)
  (case l23=>k_is)
  (case c23=>k_is)
  (case k23=>k_is)
  (case a24=>k_is)
  (case l24=>k_is)
  (case c24=>k_is)
  (case k24=>k_is)
  (case a25=>k_is)
  (case l25=>k_is)
  (case c25=>k_is)
  (case k25=>k_is)
  (case a26=>k_is)
  (case l26=>k_is)
  (case c26=>k_is)
  (case k26=>k_is)
  (case a27=>k_is)
  (case l27=>k_is)
  (case c27=>k_is)
  (case k27=>k_is)
  (case a28=>k_is)
  (case l28=>k_is)
  (case c28=>k_is)
  (case k28=>k_is)
  (case a29=>k_is)
  (case l29=>k_is)
  (case c29=>k_is)
  (case k29=>k_is)
  (case a30=>k_is)
  (case l30=>k_is)
  (case c30=>k_is)
  (case k30=>k_is)
  (case a31=>k_is)
  (case l31=>k_is)
  (case c31=>k_is)
  (case k31=>k_is)
  (case y_isinstance=>k_is)
  (case y_str=>k_is)
  (case y_int=>k_is)
  (case y_bool=>k_is)
  (case y_tuple=>k_is)
  (case y_len=>k_is)
  (case y_range=>k_is)
  (case y_list=>k_is)
  (case y_reversed=>k_is)
  (case y_zip=>k_is)
  (case y_enumerate=>k_is)
  (case n_NumberedStep=>k_is)
  (case pg_NumberedStep=>k_is)
  (case hd_NumberedStep=>k_is)
  (case po_NumberedStep=>k_is)
  (case sa_NumberedStep=>k_is)
  (case mk_NumberedStep=>k_is)
  (case kc_NumberedStep=>k_is)
  (case nf_kind=>k_is)
  (case nf_parts=>k_is)
  (case nf_lines=>k_is)
  (case nf_blocks=>k_is)
  (case aNumberedStep___init__=>k_is)
  (case iNumberedStep___init__=>k_is)
  (case lNumberedStep___init__=>k_is)
  (case cNumberedStep___init__=>k_is)
  (case kNumberedStep___init__=>k_is)
  (case h_PARTS=>k_is)
  (case ld_PARTS=>k_is)
  (case la_PARTS_0=>k_is)
  (case la_PARTS_1=>k_is)
  (case la_PARTS_2=>k_is)
  (case la_PARTS_3=>k_is)
  (case la_PARTS_4=>k_is)
  (case la_PARTS_5=>k_is)
  (case la_PARTS_6=>k_is)
  (case la_PARTS_7=>k_is)
  (case dz_PARTS=>decide)
  (case h_CLOSERS=>k_is)
  (case ld_CLOSERS=>k_is)
  (case la_CLOSERS_0=>k_is)
  (case la_CLOSERS_1=>k_is)
  (case la_CLOSERS_2=>k_is)
  (case dz_CLOSERS=>decide)
#print axioms PySem.Challenge.cw_usewarden_k37_turned_code_goes_alike_holds
