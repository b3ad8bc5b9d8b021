import PyProof.Rows.All
import Wide.All
import OpenK.AllK
import Wide.FinOn
import Lean
import PyProof.EqAt
import PyProof.EqKinds
import PyProof.TupleCall
import PyProof.SetScanFacts
import PyProof.SetKind
import PyProof.SetRoads
import PyProof.Rows.SetFrom
import PyProof.FactsBase
import PyProof.TableTree
import PyProof.FactsTree
import PyProof.PlainAttrs
import PyProof.FactsAll.set_1
import PyProof.CollectIter
import PyProof.FactsAll.set
import PyProof.ZipIter
import PyProof.EnumIter
import PyProof.TupleIter
import KE.KRevIter
import KE.KDictList
import PyProof.Rows.SumAny
import KE.KIntText
import PyProof.StrLawsTight
import PyProof.StrLawsChain
import PyProof.Rows.SortStr
import PyProof.Rows.StrNews2
import PyProof.StrLawsFirst
import PyProof.AutoSeq1
import KE.KDictOf
import PyProof.DictItems
import PyProof.NeKinds
import KE.KPairComp
import PyProof.FactsAll.tuple_2
import PyProof.FactsAll.tuple_3
import KE.KDictLaws
import PyProof.FactsAll.dict_3
import PyProof.MinMaxWalk
import PyProof.WalkInts
import PySem.Challenge.RW_usewarden_k36_rows_of_turned_code
set_option Elab.async false
set_option linter.all false
set_option maxRecDepth 100000
set_option maxHeartbeats 4000000
namespace L2
open PySem
def inClass(s:Stmt)(j:Nat):Stmt:=match s with
 | .ClassDef _ _ _ body _ _ _ _ _ _ _=>body.getD j (.Pass ⟨0,0,0,0⟩)
 | _=>.Pass ⟨0,0,0,0⟩
def defArgs(s:Stmt):Arguments:=match s with
 | .FunctionDef _ a _ _ _ _ _ _ _ _=>a
 | _=>{ posonlyargs:=[],args:=[],vararg:=none,kwonlyargs:=[],kw_defaults:=[],kwarg:=none,defaults:=[] }
def defBody(s:Stmt):List Stmt:=match s with
 | .FunctionDef _ _ b _ _ _ _ _ _ _=>b
 | _=>[]
def defScope(s:Stmt):Scope:=match s with
 | .FunctionDef _ _ _ _ _ _ sc _ _ _=>sc
 | _=>{ kind:=.function,names:=[],isGenerator:=false,isCoroutine:=false }
end L2
namespace K36
open PySem PySem.W
def az (i:Nat):Stmt:=PySem.Challenge.pw_usewarden_k36_rows_of_turned_code.main.body.getD i (.Pass ⟨0,0,0,0⟩)
noncomputable def KK(P:Params):Frag:=
 (nat_lit 2,⟨.none,none,.dict #[] 0,#[]⟩) ::
 (nat_lit 3,⟨.type "dict", none,.dict #[⟨PyData.keyHash P "__name__", .str "__name__" 165,.str "law_usewarden_k36_rows_of_turned_code" 463⟩,⟨PyData.keyHash P "__doc__", .str "__doc__" 166,.none⟩,⟨PyData.keyHash P "__package__", .str "__package__" 167,.none⟩,⟨PyData.keyHash P "__loader__", .str "__loader__" 168,.builtin "__main__.__loader__#opaque"⟩,⟨PyData.keyHash P "__spec__", .str "__spec__" 169,.none⟩,⟨PyData.keyHash P "__annotations__", .str "__annotations__" 170,.ref 6⟩,⟨PyData.keyHash P "__builtins__", .str "__builtins__" 171,.ref 4⟩,⟨PyData.keyHash P "__file__", .str "__file__" 173,.str "/claim/cut.py" 172⟩,⟨PyData.keyHash P "__cached__", .str "__cached__" 174,.none⟩,⟨PyData.keyHash P "PARTS", .str "PARTS" 221,.ref 15⟩,⟨PyData.keyHash P "CLOSERS", .str "CLOSERS" 232,.ref 24⟩,⟨PyData.keyHash P "closers_of", .str "closers_of" 239,.ref 34⟩,⟨PyData.keyHash P "head_of", .str "head_of" 246,.ref 41⟩,⟨PyData.keyHash P "blocks_of", .str "blocks_of" 253,.ref 48⟩,⟨PyData.keyHash P "steps_within", .str "steps_within" 263,.ref 55⟩,⟨PyData.keyHash P "names_in", .str "names_in" 274,.ref 62⟩,⟨PyData.keyHash P "lines_of", .str "lines_of" 280,.ref 67⟩,⟨PyData.keyHash P "names_of", .str "names_of" 287,.ref 74⟩,⟨PyData.keyHash P "NumberedStep", .str "NumberedStep" 323,.ref 91⟩,⟨PyData.keyHash P "line_behind", .str "line_behind" 331,.ref 102⟩,⟨PyData.keyHash P "numbered_step", .str "numbered_step" 343,.ref 109⟩,⟨PyData.keyHash P "numbered_steps", .str "numbered_steps" 353,.ref 116⟩,⟨PyData.keyHash P "lend_lines", .str "lend_lines" 361,.ref 121⟩,⟨PyData.keyHash P "slots_of", .str "slots_of" 371,.ref 128⟩,⟨PyData.keyHash P "simple_row", .str "simple_row" 377,.ref 133⟩,⟨PyData.keyHash P "lend_rows", .str "lend_rows" 394,.ref 140⟩,⟨PyData.keyHash P "if_rows", .str "if_rows" 409,.ref 147⟩,⟨PyData.keyHash P "loop_rows", .str "loop_rows" 420,.ref 154⟩,⟨PyData.keyHash P "while_rows", .str "while_rows" 433,.ref 161⟩,⟨PyData.keyHash P "rows_of", .str "rows_of" 446,.ref 168⟩,⟨PyData.keyHash P "rows_and_end", .str "rows_and_end" 455,.ref 175⟩,⟨PyData.keyHash P "turned_code", .str "turned_code" 462,.ref 182⟩,⟨PyData.keyHash P "_law_cell_at", .str "_law_cell_at" 472,.ref 189⟩,⟨PyData.keyHash P "_law_names", .str "_law_names" 478,.ref 194⟩,⟨PyData.keyHash P "_law_bound", .str "_law_bound" 486,.ref 201⟩,⟨PyData.keyHash P "_law_step", .str "_law_step" 498,.ref 208⟩,⟨PyData.keyHash P "_law_begun", .str "_law_begun" 513,.ref 215⟩,⟨PyData.keyHash P "_law_program", .str "_law_program" 519,.ref 220⟩,⟨PyData.keyHash P "_law_partners", .str "_law_partners" 531,.ref 227⟩,⟨PyData.keyHash P "_law_slots", .str "_law_slots" 542,.ref 234⟩,⟨PyData.keyHash P "_law_plain", .str "_law_plain" 548,.ref 239⟩,⟨PyData.keyHash P "_law_part", .str "_law_part" 569,.ref 246⟩,⟨PyData.keyHash P "_law_due", .str "_law_due" 575,.ref 251⟩,⟨PyData.keyHash P "_law_row", .str "_law_row" 585,.ref 258⟩,⟨PyData.keyHash P "law", .str "law" 598,.ref 265⟩] 45,#[]⟩) ::
 (nat_lit 15,⟨.type "dict", none,.dict #[⟨PyData.keyHash P "open", .str "open" 189,.ref 16⟩,⟨PyData.keyHash P "do", .str "do" 191,.ref 17⟩,⟨PyData.keyHash P "copy", .str "copy" 194,.ref 18⟩,⟨PyData.keyHash P "drop", .str "drop" 197,.ref 19⟩,⟨PyData.keyHash P "tie", .str "tie" 199,.ref 20⟩,⟨PyData.keyHash P "lend", .str "lend" 202,.ref 21⟩,⟨PyData.keyHash P "if", .str "if" 206,.ref 22⟩,⟨PyData.keyHash P "while", .str "while" 210,.ref 23⟩] 8,#[]⟩) ::
 (nat_lit 16,⟨.type "tuple", none,.seq #[.str "name" 190] 0,#[]⟩) ::
 (nat_lit 17,⟨.type "tuple", none,.seq #[.str "word" 192,.str "name" 193] 0,#[]⟩) ::
 (nat_lit 18,⟨.type "tuple", none,.seq #[.str "name" 195,.str "name" 196] 0,#[]⟩) ::
 (nat_lit 19,⟨.type "tuple", none,.seq #[.str "name" 198] 0,#[]⟩) ::
 (nat_lit 20,⟨.type "tuple", none,.seq #[.str "name" 200,.str "name" 201] 0,#[]⟩) ::
 (nat_lit 21,⟨.type "tuple", none,.seq #[.str "name" 203,.str "name" 204,.str "steps" 205] 0,#[]⟩) ::
 (nat_lit 22,⟨.type "tuple", none,.seq #[.str "bound" 207,.str "steps" 208,.str "steps" 209] 0,#[]⟩) ::
 (nat_lit 23,⟨.type "tuple", none,.seq #[.str "bound" 211,.str "steps" 212] 0,#[]⟩) ::
 (nat_lit 24,⟨.type "dict", none,.dict #[⟨PyData.keyHash P "lend", .str "lend" 222,.ref 25⟩,⟨PyData.keyHash P "if", .str "if" 224,.ref 26⟩,⟨PyData.keyHash P "while", .str "while" 227,.ref 27⟩] 3,#[]⟩) ::
 (nat_lit 25,⟨.type "tuple", none,.seq #[.str "back" 223] 0,#[]⟩) ::
 (nat_lit 26,⟨.type "tuple", none,.seq #[.str "else" 225,.str "fi" 226] 0,#[]⟩) ::
 (nat_lit 27,⟨.type "tuple", none,.seq #[.str "done" 228] 0,#[]⟩) ::
 (nat_lit 28,⟨.type "tuple", none,.seq #[] 0,#[]⟩) ::
 (nat_lit 30,⟨.type "tuple", none,.seq #[.str "kind" 236] 0,#[]⟩) ::
 (nat_lit 31,⟨.type "tuple", none,.seq #[] 0,#[]⟩) ::
 (nat_lit 33,⟨.type "code", none,.fields #[.str "closers_of" 233,.str "closers_of" 234,.str "/claim/cut.py" 235,.int 4 0,.int 1 0,.int 0 0,.int 0 0,.int 3 0,.ref 28,.bool true,.int 181 0,.ref 29,.none,.ref 30,.ref 31,.ref 32,.int 237 0,.int 4 0,.str "/claim/cut.py" 238],#[]⟩) ::
 (nat_lit 34,⟨.type "function", none,.func ⟨"closers_of", "closers_of", L2.defArgs (az 3),.stmts (L2.defBody (az 3)),L2.defScope (az 3),3,[],.none,.none,.none,.str "usewarden.programs" 187,none,.ref 33,.none,0⟩,#[]⟩) ::
 (nat_lit 35,⟨.type "tuple", none,.seq #[] 0,#[]⟩) ::
 (nat_lit 37,⟨.type "tuple", none,.seq #[.str "step" 243] 0,#[]⟩) ::
 (nat_lit 38,⟨.type "tuple", none,.seq #[] 0,#[]⟩) ::
 (nat_lit 40,⟨.type "code", none,.fields #[.str "head_of" 240,.str "head_of" 241,.str "/claim/cut.py" 242,.int 6 0,.int 1 0,.int 0 0,.int 0 0,.int 3 0,.ref 35,.bool true,.int 181 0,.ref 36,.none,.ref 37,.ref 38,.ref 39,.int 244 0,.int 6 0,.str "/claim/cut.py" 245],#[]⟩) ::
 (nat_lit 41,⟨.type "function", none,.func ⟨"head_of", "head_of", L2.defArgs (az 4),.stmts (L2.defBody (az 4)),L2.defScope (az 4),3,[],.none,.none,.none,.str "usewarden.programs" 187,none,.ref 40,.none,0⟩,#[]⟩) ::
 (nat_lit 42,⟨.type "tuple", none,.seq #[] 0,#[]⟩) ::
 (nat_lit 44,⟨.type "tuple", none,.seq #[.str "step" 250] 0,#[]⟩) ::
 (nat_lit 45,⟨.type "tuple", none,.seq #[] 0,#[]⟩) ::
 (nat_lit 47,⟨.type "code", none,.fields #[.str "blocks_of" 247,.str "blocks_of" 248,.str "/claim/cut.py" 249,.int 8 0,.int 1 0,.int 0 0,.int 0 0,.int 3 0,.ref 42,.bool true,.int 181 0,.ref 43,.none,.ref 44,.ref 45,.ref 46,.int 251 0,.int 8 0,.str "/claim/cut.py" 252],#[]⟩) ::
 (nat_lit 48,⟨.type "function", none,.func ⟨"blocks_of", "blocks_of", L2.defArgs (az 5),.stmts (L2.defBody (az 5)),L2.defScope (az 5),3,[],.none,.none,.none,.str "usewarden.programs" 187,none,.ref 47,.none,0⟩,#[]⟩) ::
 (nat_lit 49,⟨.type "tuple", none,.seq #[] 0,#[]⟩) ::
 (nat_lit 51,⟨.type "tuple", none,.seq #[.str "program" 257,.str "steps" 258,.str "step" 259,.str "block" 260] 0,#[]⟩) ::
 (nat_lit 52,⟨.type "tuple", none,.seq #[] 0,#[]⟩) ::
 (nat_lit 54,⟨.type "code", none,.fields #[.str "steps_within" 254,.str "steps_within" 255,.str "/claim/cut.py" 256,.int 10 0,.int 1 0,.int 0 0,.int 0 0,.int 3 0,.ref 49,.bool true,.int 181 0,.ref 50,.none,.ref 51,.ref 52,.ref 53,.int 261 0,.int 10 0,.str "/claim/cut.py" 262],#[]⟩) ::
 (nat_lit 55,⟨.type "function", none,.func ⟨"steps_within", "steps_within", L2.defArgs (az 6),.stmts (L2.defBody (az 6)),L2.defScope (az 6),3,[],.none,.none,.none,.str "usewarden.programs" 187,none,.ref 54,.none,0⟩,#[]⟩) ::
 (nat_lit 56,⟨.type "tuple", none,.seq #[] 0,#[]⟩) ::
 (nat_lit 58,⟨.type "tuple", none,.seq #[.str "steps" 267,.str "names" 268,.str "step" 269,.str "part" 270,.str "kind" 271] 0,#[]⟩) ::
 (nat_lit 59,⟨.type "tuple", none,.seq #[] 0,#[]⟩) ::
 (nat_lit 61,⟨.type "code", none,.fields #[.str "names_in" 264,.str "names_in" 265,.str "/claim/cut.py" 266,.int 17 0,.int 1 0,.int 0 0,.int 0 0,.int 3 0,.ref 56,.bool true,.int 181 0,.ref 57,.none,.ref 58,.ref 59,.ref 60,.int 272 0,.int 17 0,.str "/claim/cut.py" 273],#[]⟩) ::
 (nat_lit 62,⟨.type "function", none,.func ⟨"names_in", "names_in", L2.defArgs (az 7),.stmts (L2.defBody (az 7)),L2.defScope (az 7),3,[],.none,.none,.none,.str "usewarden.programs" 187,none,.ref 61,.none,0⟩,#[]⟩) ::
 (nat_lit 63,⟨.type "tuple", none,.seq #[] 0,#[]⟩) ::
 (nat_lit 66,⟨.type "code", none,.fields #[.str "lines_of" 275,.str "lines_of" 276,.str "/claim/cut.py" 277,.int 24 0,.int 1 0,.int 0 0,.int 0 0,.int 3 0,.ref 63,.bool true,.int 181 0,.ref 64,.none,.none,.none,.ref 65,.int 278 0,.int 24 0,.str "/claim/cut.py" 279],#[]⟩) ::
 (nat_lit 67,⟨.type "function", none,.func ⟨"lines_of", "lines_of", L2.defArgs (az 8),.stmts (L2.defBody (az 8)),L2.defScope (az 8),3,[],.none,.none,.none,.str "usewarden.programs" 187,none,.ref 66,.none,0⟩,#[]⟩) ::
 (nat_lit 68,⟨.type "tuple", none,.seq #[] 0,#[]⟩) ::
 (nat_lit 70,⟨.type "tuple", none,.seq #[.str "program" 284] 0,#[]⟩) ::
 (nat_lit 71,⟨.type "tuple", none,.seq #[] 0,#[]⟩) ::
 (nat_lit 73,⟨.type "code", none,.fields #[.str "names_of" 281,.str "names_of" 282,.str "/claim/cut.py" 283,.int 32 0,.int 1 0,.int 0 0,.int 0 0,.int 3 0,.ref 68,.bool true,.int 181 0,.ref 69,.none,.ref 70,.ref 71,.ref 72,.int 285 0,.int 32 0,.str "/claim/cut.py" 286],#[]⟩) ::
 (nat_lit 74,⟨.type "function", none,.func ⟨"names_of", "names_of", L2.defArgs (az 9),.stmts (L2.defBody (az 9)),L2.defScope (az 9),3,[],.none,.none,.none,.str "usewarden.programs" 187,none,.ref 73,.none,0⟩,#[]⟩) ::
 (nat_lit 82,⟨.type "tuple", none,.seq #[] 0,#[]⟩) ::
 (nat_lit 84,⟨.type "tuple", none,.seq #[.str "self" 305,.str "head" 306,.str "lines" 307,.str "blocks" 308] 0,#[]⟩) ::
 (nat_lit 85,⟨.type "tuple", none,.seq #[] 0,#[]⟩) ::
 (nat_lit 87,⟨.type "code", none,.fields #[.str "__init__" 302,.str "NumberedStep.__init__" 303,.str "/claim/cut.py" 304,.int 37 0,.int 4 0,.int 0 0,.int 0 0,.int 3 0,.ref 82,.bool true,.int 181 0,.ref 83,.none,.ref 84,.ref 85,.ref 86,.int 309 0,.int 37 0,.str "/claim/cut.py" 310],#[]⟩) ::
 (nat_lit 88,⟨.type "function", none,.func ⟨"__init__", "NumberedStep.__init__", L2.defArgs (L2.inClass (az 11) 0),.stmts (L2.defBody (L2.inClass (az 11) 0)),L2.defScope (L2.inClass (az 11) 0),3,[],.none,.none,.none,.str "usewarden.numbered" 288,none,.ref 87,.none,0⟩,#[]⟩) ::
 (nat_lit 89,⟨.type "tuple", none,.seq #[.str "blocks" 312,.str "kind" 313,.str "lines" 314,.str "parts" 315] 0,#[]⟩) ::
 (nat_lit 90,⟨.type "dict", none,.dict #[⟨PyData.keyHash P "__module__", .str "__module__" 297,.str "usewarden.numbered" 288⟩,⟨PyData.keyHash P "__firstlineno__", .str "__firstlineno__" 301,.int 35 300⟩,⟨PyData.keyHash P "__init__", .str "__init__" 311,.ref 88⟩,⟨PyData.keyHash P "__static_attributes__", .str "__static_attributes__" 316,.ref 89⟩,⟨PyData.keyHash P "__dict__", .str "__dict__" 318,.ref 92⟩,⟨PyData.keyHash P "__weakref__", .str "__weakref__" 320,.ref 93⟩,⟨PyData.keyHash P "__doc__", .str "__doc__" 321,.none⟩] 4,#[]⟩) ::
 (nat_lit 91,⟨.type "type", none,.cls ⟨"NumberedStep", [.type "object"],[.ref 91,.type "object"],90, "NumberedStep", true,[],[],false,none,false⟩,#[none,none,some (.str "NumberedStep" 290),some (.str "NumberedStep" 298),some (.builtin "object.__new__"),some (.bool true)]⟩) ::
 (nat_lit 92,⟨.type "getset_descriptor", none,.fields #[.str "__dict__" 317,.ref 91,.builtin "function.__dict__", .builtin "function.__dict__#set"],#[]⟩) ::
 (nat_lit 93,⟨.type "getset_descriptor", none,.fields #[.str "__weakref__" 319,.ref 91,.builtin "ExceptionGroup.__weakref__", .none],#[]⟩) ::
 (nat_lit 96,⟨.type "tuple", none,.seq #[] 0,#[]⟩) ::
 (nat_lit 98,⟨.type "tuple", none,.seq #[.str "steps" 327,.str "line" 328] 0,#[]⟩) ::
 (nat_lit 99,⟨.type "tuple", none,.seq #[] 0,#[]⟩) ::
 (nat_lit 101,⟨.type "code", none,.fields #[.str "line_behind" 324,.str "line_behind" 325,.str "/claim/cut.py" 326,.int 42 0,.int 2 0,.int 0 0,.int 0 0,.int 3 0,.ref 96,.bool true,.int 181 0,.ref 97,.none,.ref 98,.ref 99,.ref 100,.int 329 0,.int 42 0,.str "/claim/cut.py" 330],#[]⟩) ::
 (nat_lit 102,⟨.type "function", none,.func ⟨"line_behind", "line_behind", L2.defArgs (az 12),.stmts (L2.defBody (az 12)),L2.defScope (az 12),3,[],.none,.none,.none,.str "usewarden.numbered" 288,none,.ref 101,.none,0⟩,#[]⟩) ::
 (nat_lit 103,⟨.type "tuple", none,.seq #[] 0,#[]⟩) ::
 (nat_lit 105,⟨.type "tuple", none,.seq #[.str "step" 335,.str "line" 336,.str "lines" 337,.str "blocks" 338,.str "block" 339,.str "steps" 340] 0,#[]⟩) ::
 (nat_lit 106,⟨.type "tuple", none,.seq #[] 0,#[]⟩) ::
 (nat_lit 108,⟨.type "code", none,.fields #[.str "numbered_step" 332,.str "numbered_step" 333,.str "/claim/cut.py" 334,.int 44 0,.int 2 0,.int 0 0,.int 0 0,.int 3 0,.ref 103,.bool true,.int 181 0,.ref 104,.none,.ref 105,.ref 106,.ref 107,.int 341 0,.int 44 0,.str "/claim/cut.py" 342],#[]⟩) ::
 (nat_lit 109,⟨.type "function", none,.func ⟨"numbered_step", "numbered_step", L2.defArgs (az 13),.stmts (L2.defBody (az 13)),L2.defScope (az 13),3,[],.none,.none,.none,.str "usewarden.numbered" 288,none,.ref 108,.none,0⟩,#[]⟩) ::
 (nat_lit 110,⟨.type "tuple", none,.seq #[] 0,#[]⟩) ::
 (nat_lit 112,⟨.type "tuple", none,.seq #[.str "steps" 347,.str "line" 348,.str "numbered" 349,.str "step" 350] 0,#[]⟩) ::
 (nat_lit 113,⟨.type "tuple", none,.seq #[] 0,#[]⟩) ::
 (nat_lit 115,⟨.type "code", none,.fields #[.str "numbered_steps" 344,.str "numbered_steps" 345,.str "/claim/cut.py" 346,.int 52 0,.int 2 0,.int 0 0,.int 0 0,.int 3 0,.ref 110,.bool true,.int 181 0,.ref 111,.none,.ref 112,.ref 113,.ref 114,.int 351 0,.int 52 0,.str "/claim/cut.py" 352],#[]⟩) ::
 (nat_lit 116,⟨.type "function", none,.func ⟨"numbered_steps", "numbered_steps", L2.defArgs (az 14),.stmts (L2.defBody (az 14)),L2.defScope (az 14),3,[],.none,.none,.none,.str "usewarden.numbered" 288,none,.ref 115,.none,0⟩,#[]⟩) ::
 (nat_lit 117,⟨.type "tuple", none,.seq #[] 0,#[]⟩) ::
 (nat_lit 120,⟨.type "code", none,.fields #[.str "lend_lines" 356,.str "lend_lines" 357,.str "/claim/cut.py" 358,.int 58 0,.int 1 0,.int 0 0,.int 0 0,.int 3 0,.ref 117,.bool true,.int 181 0,.ref 118,.none,.none,.none,.ref 119,.int 359 0,.int 58 0,.str "/claim/cut.py" 360],#[]⟩) ::
 (nat_lit 121,⟨.type "function", none,.func ⟨"lend_lines", "lend_lines", L2.defArgs (az 16),.stmts (L2.defBody (az 16)),L2.defScope (az 16),3,[],.none,.none,.none,.str "usewarden.codes" 354,none,.ref 120,.none,0⟩,#[]⟩) ::
 (nat_lit 122,⟨.type "tuple", none,.seq #[] 0,#[]⟩) ::
 (nat_lit 124,⟨.type "tuple", none,.seq #[.str "program" 365,.str "slots" 366,.str "slot" 367,.str "holder" 368] 0,#[]⟩) ::
 (nat_lit 125,⟨.type "tuple", none,.seq #[] 0,#[]⟩) ::
 (nat_lit 127,⟨.type "code", none,.fields #[.str "slots_of" 362,.str "slots_of" 363,.str "/claim/cut.py" 364,.int 60 0,.int 1 0,.int 0 0,.int 0 0,.int 3 0,.ref 122,.bool true,.int 181 0,.ref 123,.none,.ref 124,.ref 125,.ref 126,.int 369 0,.int 60 0,.str "/claim/cut.py" 370],#[]⟩) ::
 (nat_lit 128,⟨.type "function", none,.func ⟨"slots_of", "slots_of", L2.defArgs (az 17),.stmts (L2.defBody (az 17)),L2.defScope (az 17),3,[],.none,.none,.none,.str "usewarden.codes" 354,none,.ref 127,.none,0⟩,#[]⟩) ::
 (nat_lit 129,⟨.type "tuple", none,.seq #[] 0,#[]⟩) ::
 (nat_lit 132,⟨.type "code", none,.fields #[.str "simple_row" 372,.str "simple_row" 373,.str "/claim/cut.py" 374,.int 65 0,.int 2 0,.int 0 0,.int 0 0,.int 3 0,.ref 129,.bool true,.int 181 0,.ref 130,.none,.none,.none,.ref 131,.int 375 0,.int 65 0,.str "/claim/cut.py" 376],#[]⟩) ::
 (nat_lit 133,⟨.type "function", none,.func ⟨"simple_row", "simple_row", L2.defArgs (az 18),.stmts (L2.defBody (az 18)),L2.defScope (az 18),3,[],.none,.none,.none,.str "usewarden.codes" 354,none,.ref 132,.none,0⟩,#[]⟩) ::
 (nat_lit 134,⟨.type "tuple", none,.seq #[] 0,#[]⟩) ::
 (nat_lit 136,⟨.type "tuple", none,.seq #[.str "step" 381,.str "at" 382,.str "slots" 383,.str "turned" 384,.str "line" 385,.str "back" 386,.str "giver" 387,.str "taker" 388,.str "lent" 389,.str "ahead" 390,.str "within" 391] 0,#[]⟩) ::
 (nat_lit 137,⟨.type "tuple", none,.seq #[] 0,#[]⟩) ::
 (nat_lit 139,⟨.type "code", none,.fields #[.str "lend_rows" 378,.str "lend_rows" 379,.str "/claim/cut.py" 380,.int 70 0,.int 4 0,.int 0 0,.int 0 0,.int 3 0,.ref 134,.bool true,.int 181 0,.ref 135,.none,.ref 136,.ref 137,.ref 138,.int 392 0,.int 70 0,.str "/claim/cut.py" 393],#[]⟩) ::
 (nat_lit 140,⟨.type "function", none,.func ⟨"lend_rows", "lend_rows", L2.defArgs (az 19),.stmts (L2.defBody (az 19)),L2.defScope (az 19),3,[],.none,.none,.none,.str "usewarden.codes" 354,none,.ref 139,.none,0⟩,#[]⟩) ::
 (nat_lit 141,⟨.type "tuple", none,.seq #[] 0,#[]⟩) ::
 (nat_lit 143,⟨.type "tuple", none,.seq #[.str "step" 398,.str "at" 399,.str "slots" 400,.str "turned" 401,.str "more" 402,.str "jump" 403,.str "rest" 404,.str "behind" 405,.str "test" 406] 0,#[]⟩) ::
 (nat_lit 144,⟨.type "tuple", none,.seq #[] 0,#[]⟩) ::
 (nat_lit 146,⟨.type "code", none,.fields #[.str "if_rows" 395,.str "if_rows" 396,.str "/claim/cut.py" 397,.int 79 0,.int 4 0,.int 0 0,.int 0 0,.int 3 0,.ref 141,.bool true,.int 181 0,.ref 142,.none,.ref 143,.ref 144,.ref 145,.int 407 0,.int 79 0,.str "/claim/cut.py" 408],#[]⟩) ::
 (nat_lit 147,⟨.type "function", none,.func ⟨"if_rows", "if_rows", L2.defArgs (az 20),.stmts (L2.defBody (az 20)),L2.defScope (az 20),3,[],.none,.none,.none,.str "usewarden.codes" 354,none,.ref 146,.none,0⟩,#[]⟩) ::
 (nat_lit 148,⟨.type "tuple", none,.seq #[] 0,#[]⟩) ::
 (nat_lit 150,⟨.type "tuple", none,.seq #[.str "step" 413,.str "at" 414,.str "slots" 415,.str "within" 416,.str "behind" 417] 0,#[]⟩) ::
 (nat_lit 151,⟨.type "tuple", none,.seq #[] 0,#[]⟩) ::
 (nat_lit 153,⟨.type "code", none,.fields #[.str "loop_rows" 410,.str "loop_rows" 411,.str "/claim/cut.py" 412,.int 86 0,.int 3 0,.int 0 0,.int 0 0,.int 3 0,.ref 148,.bool true,.int 181 0,.ref 149,.none,.ref 150,.ref 151,.ref 152,.int 418 0,.int 86 0,.str "/claim/cut.py" 419],#[]⟩) ::
 (nat_lit 154,⟨.type "function", none,.func ⟨"loop_rows", "loop_rows", L2.defArgs (az 21),.stmts (L2.defBody (az 21)),L2.defScope (az 21),3,[],.none,.none,.none,.str "usewarden.codes" 354,none,.ref 153,.none,0⟩,#[]⟩) ::
 (nat_lit 155,⟨.type "tuple", none,.seq #[] 0,#[]⟩) ::
 (nat_lit 157,⟨.type "tuple", none,.seq #[.str "step" 424,.str "at" 425,.str "slots" 426,.str "turned" 427,.str "first" 428,.str "loop" 429,.str "behind" 430] 0,#[]⟩) ::
 (nat_lit 158,⟨.type "tuple", none,.seq #[] 0,#[]⟩) ::
 (nat_lit 160,⟨.type "code", none,.fields #[.str "while_rows" 421,.str "while_rows" 422,.str "/claim/cut.py" 423,.int 90 0,.int 4 0,.int 0 0,.int 0 0,.int 3 0,.ref 155,.bool true,.int 181 0,.ref 156,.none,.ref 157,.ref 158,.ref 159,.int 431 0,.int 90 0,.str "/claim/cut.py" 432],#[]⟩) ::
 (nat_lit 161,⟨.type "function", none,.func ⟨"while_rows", "while_rows", L2.defArgs (az 22),.stmts (L2.defBody (az 22)),L2.defScope (az 22),3,[],.none,.none,.none,.str "usewarden.codes" 354,none,.ref 160,.none,0⟩,#[]⟩) ::
 (nat_lit 162,⟨.type "tuple", none,.seq #[] 0,#[]⟩) ::
 (nat_lit 164,⟨.type "tuple", none,.seq #[.str "steps" 437,.str "at" 438,.str "slots" 439,.str "turned" 440,.str "rows" 441,.str "step" 442,.str "place" 443] 0,#[]⟩) ::
 (nat_lit 165,⟨.type "tuple", none,.seq #[] 0,#[]⟩) ::
 (nat_lit 167,⟨.type "code", none,.fields #[.str "rows_of" 434,.str "rows_of" 435,.str "/claim/cut.py" 436,.int 97 0,.int 4 0,.int 0 0,.int 0 0,.int 3 0,.ref 162,.bool true,.int 181 0,.ref 163,.none,.ref 164,.ref 165,.ref 166,.int 444 0,.int 97 0,.str "/claim/cut.py" 445],#[]⟩) ::
 (nat_lit 168,⟨.type "function", none,.func ⟨"rows_of", "rows_of", L2.defArgs (az 23),.stmts (L2.defBody (az 23)),L2.defScope (az 23),3,[],.none,.none,.none,.str "usewarden.codes" 354,none,.ref 167,.none,0⟩,#[]⟩) ::
 (nat_lit 169,⟨.type "tuple", none,.seq #[] 0,#[]⟩) ::
 (nat_lit 171,⟨.type "tuple", none,.seq #[.str "program" 450,.str "turned" 451,.str "steps" 452] 0,#[]⟩) ::
 (nat_lit 172,⟨.type "tuple", none,.seq #[] 0,#[]⟩) ::
 (nat_lit 174,⟨.type "code", none,.fields #[.str "rows_and_end" 447,.str "rows_and_end" 448,.str "/claim/cut.py" 449,.int 110 0,.int 2 0,.int 0 0,.int 0 0,.int 3 0,.ref 169,.bool true,.int 181 0,.ref 170,.none,.ref 171,.ref 172,.ref 173,.int 453 0,.int 110 0,.str "/claim/cut.py" 454],#[]⟩) ::
 (nat_lit 175,⟨.type "function", none,.func ⟨"rows_and_end", "rows_and_end", L2.defArgs (az 24),.stmts (L2.defBody (az 24)),L2.defScope (az 24),3,[],.none,.none,.none,.str "usewarden.codes" 354,none,.ref 174,.none,0⟩,#[]⟩) ::
 (nat_lit 176,⟨.type "tuple", none,.seq #[] 0,#[]⟩) ::
 (nat_lit 178,⟨.type "tuple", none,.seq #[.str "program" 459] 0,#[]⟩) ::
 (nat_lit 179,⟨.type "tuple", none,.seq #[] 0,#[]⟩) ::
 (nat_lit 181,⟨.type "code", none,.fields #[.str "turned_code" 456,.str "turned_code" 457,.str "/claim/cut.py" 458,.int 113 0,.int 1 0,.int 0 0,.int 0 0,.int 3 0,.ref 176,.bool true,.int 181 0,.ref 177,.none,.ref 178,.ref 179,.ref 180,.int 460 0,.int 113 0,.str "/claim/cut.py" 461],#[]⟩) ::
 (nat_lit 182,⟨.type "function", none,.func ⟨"turned_code", "turned_code", L2.defArgs (az 25),.stmts (L2.defBody (az 25)),L2.defScope (az 25),3,[],.none,.none,.none,.str "usewarden.codes" 354,none,.ref 181,.none,0⟩,#[]⟩) ::
 (nat_lit 183,⟨.type "tuple", none,.seq #[] 0,#[]⟩) ::
 (nat_lit 185,⟨.type "tuple", none,.seq #[.str "_law_script" 468,.str "_law_k" 469] 0,#[]⟩) ::
 (nat_lit 186,⟨.type "tuple", none,.seq #[] 0,#[]⟩) ::
 (nat_lit 188,⟨.type "code", none,.fields #[.str "_law_cell_at" 465,.str "_law_cell_at" 466,.str "/claim/cut.py" 467,.int 116 0,.int 2 0,.int 0 0,.int 0 0,.int 3 0,.ref 183,.bool true,.int 181 0,.ref 184,.none,.ref 185,.ref 186,.ref 187,.int 470 0,.int 116 0,.str "/claim/cut.py" 471],#[]⟩) ::
 (nat_lit 189,⟨.type "function", none,.func ⟨"_law_cell_at", "_law_cell_at", L2.defArgs (az 27),.stmts (L2.defBody (az 27)),L2.defScope (az 27),3,[],.none,.none,.none,.str "law_usewarden_k36_rows_of_turned_code" 463,none,.ref 188,.none,0⟩,#[]⟩) ::
 (nat_lit 190,⟨.type "tuple", none,.seq #[] 0,#[]⟩) ::
 (nat_lit 193,⟨.type "code", none,.fields #[.str "_law_names" 473,.str "_law_names" 474,.str "/claim/cut.py" 475,.int 120 0,.int 1 0,.int 0 0,.int 0 0,.int 3 0,.ref 190,.bool true,.int 181 0,.ref 191,.none,.none,.none,.ref 192,.int 476 0,.int 120 0,.str "/claim/cut.py" 477],#[]⟩) ::
 (nat_lit 194,⟨.type "function", none,.func ⟨"_law_names", "_law_names", L2.defArgs (az 28),.stmts (L2.defBody (az 28)),L2.defScope (az 28),3,[],.none,.none,.none,.str "law_usewarden_k36_rows_of_turned_code" 463,none,.ref 193,.none,0⟩,#[]⟩) ::
 (nat_lit 195,⟨.type "tuple", none,.seq #[] 0,#[]⟩) ::
 (nat_lit 197,⟨.type "tuple", none,.seq #[.str "_law_cell" 482,.str "_law_way" 483] 0,#[]⟩) ::
 (nat_lit 198,⟨.type "tuple", none,.seq #[] 0,#[]⟩) ::
 (nat_lit 200,⟨.type "code", none,.fields #[.str "_law_bound" 479,.str "_law_bound" 480,.str "/claim/cut.py" 481,.int 135 0,.int 1 0,.int 0 0,.int 0 0,.int 3 0,.ref 195,.bool true,.int 181 0,.ref 196,.none,.ref 197,.ref 198,.ref 199,.int 484 0,.int 135 0,.str "/claim/cut.py" 485],#[]⟩) ::
 (nat_lit 201,⟨.type "function", none,.func ⟨"_law_bound", "_law_bound", L2.defArgs (az 29),.stmts (L2.defBody (az 29)),L2.defScope (az 29),3,[],.none,.none,.none,.str "law_usewarden_k36_rows_of_turned_code" 463,none,.ref 200,.none,0⟩,#[]⟩) ::
 (nat_lit 202,⟨.type "tuple", none,.seq #[] 0,#[]⟩) ::
 (nat_lit 204,⟨.type "tuple", none,.seq #[.str "_law_cell" 490,.str "_law_x" 491,.str "_law_y" 492,.str "_law_names_here" 493,.str "_law_kind" 494,.str "_law_words" 495] 0,#[]⟩) ::
 (nat_lit 205,⟨.type "tuple", none,.seq #[] 0,#[]⟩) ::
 (nat_lit 207,⟨.type "code", none,.fields #[.str "_law_step" 487,.str "_law_step" 488,.str "/claim/cut.py" 489,.int 142 0,.int 4 0,.int 0 0,.int 0 0,.int 3 0,.ref 202,.bool true,.int 181 0,.ref 203,.none,.ref 204,.ref 205,.ref 206,.int 496 0,.int 142 0,.str "/claim/cut.py" 497],#[]⟩) ::
 (nat_lit 208,⟨.type "function", none,.func ⟨"_law_step", "_law_step", L2.defArgs (az 30),.stmts (L2.defBody (az 30)),L2.defScope (az 30),3,[],.none,.none,.none,.str "law_usewarden_k36_rows_of_turned_code" 463,none,.ref 207,.none,0⟩,#[]⟩) ::
 (nat_lit 209,⟨.type "tuple", none,.seq #[] 0,#[]⟩) ::
 (nat_lit 211,⟨.type "tuple", none,.seq #[.str "_law_here" 502,.str "_law_pile" 503,.str "_law_lines" 504,.str "_law_cell" 505,.str "_law_x" 506,.str "_law_y" 507,.str "_law_inner" 508,.str "_law_bound_here" 509,.str "_law_others" 510] 0,#[]⟩) ::
 (nat_lit 212,⟨.type "tuple", none,.seq #[] 0,#[]⟩) ::
 (nat_lit 214,⟨.type "code", none,.fields #[.str "_law_begun" 499,.str "_law_begun" 500,.str "/claim/cut.py" 501,.int 154 0,.int 6 0,.int 0 0,.int 0 0,.int 3 0,.ref 209,.bool true,.int 181 0,.ref 210,.none,.ref 211,.ref 212,.ref 213,.int 511 0,.int 154 0,.str "/claim/cut.py" 512],#[]⟩) ::
 (nat_lit 215,⟨.type "function", none,.func ⟨"_law_begun", "_law_begun", L2.defArgs (az 31),.stmts (L2.defBody (az 31)),L2.defScope (az 31),3,[],.none,.none,.none,.str "law_usewarden_k36_rows_of_turned_code" 463,none,.ref 214,.none,0⟩,#[]⟩) ::
 (nat_lit 216,⟨.type "tuple", none,.seq #[] 0,#[]⟩) ::
 (nat_lit 219,⟨.type "code", none,.fields #[.str "_law_program" 514,.str "_law_program" 515,.str "/claim/cut.py" 516,.int 173 0,.int 2 0,.int 0 0,.int 0 0,.int 3 0,.ref 216,.bool true,.int 181 0,.ref 217,.none,.none,.none,.ref 218,.int 517 0,.int 173 0,.str "/claim/cut.py" 518],#[]⟩) ::
 (nat_lit 220,⟨.type "function", none,.func ⟨"_law_program", "_law_program", L2.defArgs (az 32),.stmts (L2.defBody (az 32)),L2.defScope (az 32),3,[],.none,.none,.none,.str "law_usewarden_k36_rows_of_turned_code" 463,none,.ref 219,.none,0⟩,#[]⟩) ::
 (nat_lit 221,⟨.type "tuple", none,.seq #[] 0,#[]⟩) ::
 (nat_lit 223,⟨.type "tuple", none,.seq #[.str "_law_lines" 523,.str "_law_found" 524,.str "_law_pile" 525,.str "_law_at" 526,.str "_law_word" 527,.str "_law_head" 528] 0,#[]⟩) ::
 (nat_lit 224,⟨.type "tuple", none,.seq #[] 0,#[]⟩) ::
 (nat_lit 226,⟨.type "code", none,.fields #[.str "_law_partners" 520,.str "_law_partners" 521,.str "/claim/cut.py" 522,.int 199 0,.int 1 0,.int 0 0,.int 0 0,.int 3 0,.ref 221,.bool true,.int 181 0,.ref 222,.none,.ref 223,.ref 224,.ref 225,.int 529 0,.int 199 0,.str "/claim/cut.py" 530],#[]⟩) ::
 (nat_lit 227,⟨.type "function", none,.func ⟨"_law_partners", "_law_partners", L2.defArgs (az 33),.stmts (L2.defBody (az 33)),L2.defScope (az 33),3,[],.none,.none,.none,.str "law_usewarden_k36_rows_of_turned_code" 463,none,.ref 226,.none,0⟩,#[]⟩) ::
 (nat_lit 228,⟨.type "tuple", none,.seq #[] 0,#[]⟩) ::
 (nat_lit 230,⟨.type "tuple", none,.seq #[.str "_law_lines" 535,.str "_law_slots_here" 536,.str "_law_line" 537,.str "_law_words" 538,.str "_law_name" 539] 0,#[]⟩) ::
 (nat_lit 231,⟨.type "tuple", none,.seq #[] 0,#[]⟩) ::
 (nat_lit 233,⟨.type "code", none,.fields #[.str "_law_slots" 532,.str "_law_slots" 533,.str "/claim/cut.py" 534,.int 211 0,.int 1 0,.int 0 0,.int 0 0,.int 3 0,.ref 228,.bool true,.int 181 0,.ref 229,.none,.ref 230,.ref 231,.ref 232,.int 540 0,.int 211 0,.str "/claim/cut.py" 541],#[]⟩) ::
 (nat_lit 234,⟨.type "function", none,.func ⟨"_law_slots", "_law_slots", L2.defArgs (az 34),.stmts (L2.defBody (az 34)),L2.defScope (az 34),3,[],.none,.none,.none,.str "law_usewarden_k36_rows_of_turned_code" 463,none,.ref 233,.none,0⟩,#[]⟩) ::
 (nat_lit 235,⟨.type "tuple", none,.seq #[] 0,#[]⟩) ::
 (nat_lit 238,⟨.type "code", none,.fields #[.str "_law_plain" 543,.str "_law_plain" 544,.str "/claim/cut.py" 545,.int 221 0,.int 5 0,.int 0 0,.int 0 0,.int 3 0,.ref 235,.bool true,.int 181 0,.ref 236,.none,.none,.none,.ref 237,.int 546 0,.int 221 0,.str "/claim/cut.py" 547],#[]⟩) ::
 (nat_lit 239,⟨.type "function", none,.func ⟨"_law_plain", "_law_plain", L2.defArgs (az 35),.stmts (L2.defBody (az 35)),L2.defScope (az 35),3,[],.none,.none,.none,.str "law_usewarden_k36_rows_of_turned_code" 463,none,.ref 238,.none,0⟩,#[]⟩) ::
 (nat_lit 240,⟨.type "tuple", none,.seq #[] 0,#[]⟩) ::
 (nat_lit 242,⟨.type "tuple", none,.seq #[.str "_law_low" 552,.str "_law_high" 553,.str "_law_turn" 554,.str "_law_lines" 555,.str "_law_partner" 556,.str "_law_plain_here" 557,.str "_law_rows" 558,.str "_law_at" 559,.str "_law_words" 560,.str "_law_end" 561,.str "_law_middle" 562,.str "_law_some" 563,.str "_law_others" 564,.str "_law_body" 565,.str "_law_first" 566] 0,#[]⟩) ::
 (nat_lit 243,⟨.type "tuple", none,.seq #[] 0,#[]⟩) ::
 (nat_lit 245,⟨.type "code", none,.fields #[.str "_law_part" 549,.str "_law_part" 550,.str "/claim/cut.py" 551,.int 235 0,.int 6 0,.int 0 0,.int 0 0,.int 3 0,.ref 240,.bool true,.int 181 0,.ref 241,.none,.ref 242,.ref 243,.ref 244,.int 567 0,.int 235 0,.str "/claim/cut.py" 568],#[]⟩) ::
 (nat_lit 246,⟨.type "function", none,.func ⟨"_law_part", "_law_part", L2.defArgs (az 36),.stmts (L2.defBody (az 36)),L2.defScope (az 36),3,[],.none,.none,.none,.str "law_usewarden_k36_rows_of_turned_code" 463,none,.ref 245,.none,0⟩,#[]⟩) ::
 (nat_lit 247,⟨.type "tuple", none,.seq #[] 0,#[]⟩) ::
 (nat_lit 250,⟨.type "code", none,.fields #[.str "_law_due" 570,.str "_law_due" 571,.str "/claim/cut.py" 572,.int 264 0,.int 1 0,.int 0 0,.int 0 0,.int 3 0,.ref 247,.bool true,.int 181 0,.ref 248,.none,.none,.none,.ref 249,.int 573 0,.int 264 0,.str "/claim/cut.py" 574],#[]⟩) ::
 (nat_lit 251,⟨.type "function", none,.func ⟨"_law_due", "_law_due", L2.defArgs (az 37),.stmts (L2.defBody (az 37)),L2.defScope (az 37),3,[],.none,.none,.none,.str "law_usewarden_k36_rows_of_turned_code" 463,none,.ref 250,.none,0⟩,#[]⟩) ::
 (nat_lit 252,⟨.type "tuple", none,.seq #[] 0,#[]⟩) ::
 (nat_lit 254,⟨.type "tuple", none,.seq #[.str "_law_found" 579,.str "_law_due_here" 580,.str "_law_one" 581,.str "_law_other" 582] 0,#[]⟩) ::
 (nat_lit 255,⟨.type "tuple", none,.seq #[] 0,#[]⟩) ::
 (nat_lit 257,⟨.type "code", none,.fields #[.str "_law_row" 576,.str "_law_row" 577,.str "/claim/cut.py" 578,.int 275 0,.int 2 0,.int 0 0,.int 0 0,.int 3 0,.ref 252,.bool true,.int 181 0,.ref 253,.none,.ref 254,.ref 255,.ref 256,.int 583 0,.int 275 0,.str "/claim/cut.py" 584],#[]⟩) ::
 (nat_lit 258,⟨.type "function", none,.func ⟨"_law_row", "_law_row", L2.defArgs (az 38),.stmts (L2.defBody (az 38)),L2.defScope (az 38),3,[],.none,.none,.none,.str "law_usewarden_k36_rows_of_turned_code" 463,none,.ref 257,.none,0⟩,#[]⟩) ::
 (nat_lit 259,⟨.type "tuple", none,.seq #[] 0,#[]⟩) ::
 (nat_lit 261,⟨.type "tuple", none,.seq #[.str "_law_script" 589,.str "_law_program_here" 590,.str "_law_lines" 591,.str "_law_due_here" 592,.str "_law_found" 593,.str "_law_one" 594,.str "_law_other" 595] 0,#[]⟩) ::
 (nat_lit 262,⟨.type "tuple", none,.seq #[] 0,#[]⟩) ::
 (nat_lit 264,⟨.type "code", none,.fields #[.str "law" 586,.str "law" 587,.str "/claim/cut.py" 588,.int 284 0,.int 1 0,.int 0 0,.int 0 0,.int 3 0,.ref 259,.bool true,.int 181 0,.ref 260,.none,.ref 261,.ref 262,.ref 263,.int 596 0,.int 284 0,.str "/claim/cut.py" 597],#[]⟩) ::
 (nat_lit 265,⟨.type "function", none,.func ⟨"law", "law", L2.defArgs (az 39),.stmts (L2.defBody (az 39)),L2.defScope (az 39),3,[],.none,.none,.none,.str "law_usewarden_k36_rows_of_turned_code" 463,none,.ref 264,.none,0⟩,#[]⟩)::[]
def kk:List Addr:=[2,3,15,16,17,18,19,20,21,22,23,24,25,26,27,28,30,31,33,34,35,37,38,40,41,42,44,45,47,48,49,51,52,54,55,56,58,59,61,62,63,66,67,68,70,71,73,74,82,84,85,87,88,89,90,91,92,93,96,98,99,101,102,103,105,106,108,109,110,112,113,115,116,117,120,121,122,124,125,127,128,129,132,133,134,136,137,139,140,141,143,144,146,147,148,150,151,153,154,155,157,158,160,161,162,164,165,167,168,169,171,172,174,175,176,178,179,181,182,183,185,186,188,189,190,193,194,195,197,198,200,201,202,204,205,207,208,209,211,212,214,215,216,219,220,221,223,224,226,227,228,230,231,233,234,235,238,239,240,242,243,245,246,247,250,251,252,254,255,257,258,259,261,262,264,265]
theorem kk_eq:∀ P,kk=(KK P).map (·.1):=fun _=>by kernel_rfl
noncomputable abbrev HH:Hook:=kHook KK kk kk_eq
def qq:Program:=view PySem.Challenge.pw_usewarden_k36_rows_of_turned_code [1,2,3,4,5,6,7,8,9,11,12,13,14,16,17,18,19,20,21,22,23,24,25,27,28,29,30,31,32,33,34,35,36,37,38,39]
def loo:List Str:=["PARTS", "CLOSERS"]
noncomputable def xt(s:Shared):Bool:=xlAt qq [] s&&recOk (RowW.records (OpenRow.toRowW (OpenLaw.row PySem.Challenge.rw_usewarden_k36_rows_of_turned_code))) s
def sK(w:World):Prop:=(openEnds treeTable PySem.Challenge.pw_usewarden_k36_rows_of_turned_code w 3160).map (fun s=>openSeen qq loo (importedModules (Program.main PySem.Challenge.pw_usewarden_k36_rows_of_turned_code).body) xt true s)=some (openGood qq loo)
def sX(w:World):Prop:=(openEnds treeTable PySem.Challenge.pw_usewarden_k36_rows_of_turned_code w 3160).map (fun s=>Hook.obs HH s)=some (Hook.val HH w)
set_option maxRecDepth 1000000 in
theorem Dq(w:World):sK (w.withFollow "special-get-raises" false):=by unfold sK; kernel_rfl
set_option maxRecDepth 1000000 in
theorem EL(w:World):sK (w.withFollow "special-get-raises" true):=by unfold sK; kernel_rfl
theorem EW(w:World):sK w:=byRow2 "special-get-raises" (P:=sK) Dq EL w
set_option maxRecDepth 1000000 in
theorem F1(w:World):sX (w.withFollow "special-get-raises" false):=by unfold sX; kernel_rfl
set_option maxRecDepth 1000000 in
theorem Dx(w:World):sX (w.withFollow "special-get-raises" true):=by unfold sX; kernel_rfl
theorem Fb(w:World):sX w:=byRow2 "special-get-raises" (P:=sX) F1 Dx w
theorem xk{α β γ : Type}{o:Option α}{f:α→β}{g:α→γ}{a:β}{b:γ}(h1:o.map f=some a)(h2:o.map g=some b):o.map (fun s=>(f s,g s))=some (a,b):=by
 cases o with
 | none=>cases h1
 | some s=>cases h1; cases h2; rfl
theorem hl(w:World):(openEnds treeTable PySem.Challenge.pw_usewarden_k36_rows_of_turned_code w 3160).map (fun s=>(openSeen qq loo (importedModules (Program.main PySem.Challenge.pw_usewarden_k36_rows_of_turned_code).body) xt true s,Hook.obs HH s))=some (openGood qq loo,Hook.val HH w):=xk (EW w) (Fb w)
end K36
-- CHANGE: your row's module here, as the last of these rows
namespace L2
open PySem PySem.Spec PyProof.Rows
abbrev ax:=Sum Int Str
def jA:ax→Value→Bool
 | .inl k,v=>Value.isInt k v
 | .inr x,v=>Value.isStrOf x v
def Dw(w:World):ax→Int
 | .inl k=>hashInt k
 | .inr x=>hashStr w x
theorem cR:∀ {k:ax} {v:Value},jA k v=true→(∃ i t,k=Sum.inl i∧v=Value.int i t)∨(∃ x t,k=Sum.inr x∧v=Value.str x t)
 | .inl i,v,h=>by
  obtain⟨t,e⟩:=Value.isInt_shape (k:=i) (v:=v) h
  exact .inl ⟨i,t,rfl,e⟩
 | .inr x,v,h=>by
  obtain⟨t,e⟩:=Value.isStrOf_shape (x:=x) (v:=v) h
  exact .inr ⟨x,t,rfl,e⟩
theorem vT(i:Int)(t:Tok):jA (.inl i) (.int i t)=true:=by simp[jA,Value.isInt]
theorem vZ(x:Str)(t:Tok):jA (.inr x) (.str x t)=true:=by simp[jA,Value.isStrOf]
theorem BP(a b:Int):decide ((Sum.inl a:ax)=Sum.inl b)=(a == b):=by
 by_cases e:a=b
 ·subst e; simp
 ·have h:¬ (Sum.inl a:ax)=Sum.inl b:=fun q=>e (Sum.inl.inj q)
  rw[decide_eq_false h]
  exact(beq_eq_false_iff_ne.mpr e).symm
theorem Ci(a b:Str):decide ((Sum.inr a:ax)=Sum.inr b)=decide (a=b):=by
 by_cases e:a=b
 ·subst e; simp
 ·have h:¬ (Sum.inr a:ax)=Sum.inr b:=fun q=>e (Sum.inr.inj q)
  rw[decide_eq_false h,decide_eq_false e]
theorem Al(a:Int)(b:Str):decide ((Sum.inl a:ax)=Sum.inr b)=false:=decide_eq_false (fun q=>nomatch q)
theorem BF(a:Str)(b:Int):decide ((Sum.inr a:ax)=Sum.inl b)=false:=decide_eq_false (fun q=>nomatch q)
def cK(prog:Program)(w:World):PySem.KeyKind prog w ax where
 is:=jA
 hash:=Dw w
 inj:=fun v a b ha hb=>by
  rcases cR ha with ⟨i,t,rfl,rfl⟩ | ⟨x,t,rfl,rfl⟩
  ·rcases cR hb with ⟨j,u,rfl,e⟩ | ⟨y,u,rfl,e⟩
   ·injection e with e1 _; rw[e1]
   ·exact nomatch e
  ·rcases cR hb with ⟨j,u,rfl,e⟩ | ⟨y,u,rfl,e⟩
   ·exact nomatch e
   ·injection e with e1 _; rw[e1]
 byValue:=fun k v h=>by
  rcases cR h with ⟨i,t,rfl,rfl⟩ | ⟨x,t,rfl,rfl⟩ <;> rfl
 pyHash:=fun hv h=>by
  rcases cR hv with ⟨i,t,rfl,rfl⟩ | ⟨x,t,rfl,rfl⟩
  ·exact wpAny_pyHash_int h
  ·exact wpAny_pyHash_str h
 eqBool:=fun hu hv h=>by
  rcases cR hu with ⟨i,t,rfl,rfl⟩ | ⟨x,t,rfl,rfl⟩
  ·rcases cR hv with ⟨j,u,rfl,rfl⟩ | ⟨y,u,rfl,rfl⟩
   ·rw[BP]at h; exact wpAny_eqBool_int h
   ·rw[Al]at h; exact SeqAt.EqAt.int_str i t y u _ _ _ _ h
  ·rcases cR hv with ⟨j,u,rfl,rfl⟩ | ⟨y,u,rfl,rfl⟩
   ·rw[BF]at h; exact SeqAt.EqAt.str_int x t j u _ _ _ _ h
   ·rw[Ci]at h; exact wpAny_eqBool_str h
 «strs»:=fun k x t v h=>by
  rcases cR h with ⟨i,u,rfl,e⟩ | ⟨y,u,rfl,e⟩
  ·exact nomatch e
  ·injection e with e1 _
   subst e1
   cases v <;> rfl
theorem qS(prog:Program)(w:World)(i:Int)(t:Tok):(cK prog w).is (.inl i) (.int i t)=true:=vT i t
theorem qM(prog:Program)(w:World)(x:Str)(t:Tok):(cK prog w).is (.inr x) (.str x t)=true:=vZ x t
end L2
namespace L2
open PySem PySem.Spec PyProof.Rows
set_option genSizeOf false in
inductive V where
 | non | bl (b:Bool) | int (i:Int) | str (x:Str) | byt (b:Array UInt8) | flt (b:UInt64) | ref (a:Addr) | ty (n:String)
 deriving DecidableEq
def RelV:V→Value→Prop
 | .non,u=>u=Value.none
 | .bl b,u=>u=Value.bool b
 | .int i,u=>∃ t,u=Value.int i t
 | .str x,u=>∃ t,u=Value.str x t
 | .byt b,u=>∃ t,u=Value.bytes b t
 | .flt b,u=>∃ t,u=Value.float b t
 | .ref a,u=>u=Value.ref a
 | .ty n,u=>u=Value.type n
abbrev Vals:List V→List Value→Prop:=Paired RelV
theorem Vals.length{xs:List V}{us:List Value}(r:Vals xs us):xs.length=us.length:=Paired.length r
theorem Vals.get:∀ {xs:List V} {us:List Value} {i:Nat} {x:V},Vals xs us→xs[i]? = some x→∃ u,us[i]? = some u∧RelV x u
 | _,_,_,_,.nil,e=>by simp at e
 | _,_,0,_,.cons r _,e=>by simp at e; subst e; exact⟨_,rfl,r⟩
 | _,_,i+1,x,.cons _ t,e=>by
  obtain⟨u,h1,h2⟩:=Vals.get (i:=i) (x:=x) t (by simpa using e)
  exact⟨u,by simpa using h1,h2⟩
theorem Vals.append:∀ {xs ys:List V} {us ws:List Value},Vals xs us→Vals ys ws→Vals (xs++ys) (us++ws)
 | _,_,_,_,.nil,s=>s
 | _,_,_,_,.cons r t,s=>.cons r (Vals.append t s)
theorem Vals.take:∀ {xs:List V} {us:List Value} (n:Nat),Vals xs us→Vals (xs.take n) (us.take n)
 | _,_,0,_=>.nil
 | _,_,_+1,.nil=>.nil
 | _,_,n+1,.cons r t=>.cons r (Vals.take n t)
theorem Vals.drop:∀ {xs:List V} {us:List Value} (n:Nat),Vals xs us→Vals (xs.drop n) (us.drop n)
 | _,_,0,r=>r
 | _,_,_+1,.nil=>.nil
 | _,_,n+1,.cons _ t=>Vals.drop n t
def RelO:Option V→Option Value→Prop
 | some v,some u=>RelV v u
 | none,none=>True
 | _,_=>False
def KV{κ : Type}:List (κ × V)→List (κ × Value)→Prop:=Paired fun (p:κ × V) (q:κ × Value)=>p.1=q.1∧RelV p.2 q.2
def kV:ax→V
 | .inl i=>.int i
 | .inr x=>.str x
set_option genSizeOf false in
inductive HO where
 /-- a list -/
 | lst (xs:List V)
 /-- a tuple (never changes) -/
 | tup (xs:List V)
 /-- a dict whose keys are ints and texts; one whose keys are tuples of ints and texts (the empty one is both) -/
 | dK (kvs:List (ax × V)) | dT (kvs:List (List ax × V))
 /-- a set of ints: its members, its size -/
 | set (S:Int→Bool) (n:Nat)
 /-- an instance of the class at C, its dict at dx, its attributes -/
 | ins (C dx:Addr) (fs:List (Str × V))
 /-- the dict of the instance at x -/
 | own (x:Addr)
 /-- the dict of an exception -/
 | xd (fs:List (Str × V))
 /-- a bound method, f of x -/
 | met (f x:Addr)
 /-- a range object lo, lo+1, .. below hi -/
 | rng (lo hi:Int)
 /-- a thing that is known to the object (the script; a dict while a loop walks it): read, never written while it is so -/
 | frz (o:Obj) (u:HO)
 /-- a code object's table -/
 | tbl (ps:Array Value)
 /-- any other thing, by what is true of its one object (a def of one's own: SetO a S n := HO.ext fun h => ..) -/
 | ext (φ : Heap→Prop)
abbrev Hp:=Addr→Option HO
def upd(H:Hp)(a:Addr)(o:HO):Hp:=fun b=>if b=a then some o else H b
theorem ac{H:Hp}{a:Addr}{o:HO}:upd H a o a=some o:=by unfold upd; rw[if_pos rfl]
theorem ah{H:Hp}{a b:Addr}{o:HO}(h:b≠a):upd H a o b=H b:=by unfold upd; rw[if_neg h]
theorem b7{H:Hp}{a b:Addr}{o u:HO}(h:H a=some o)(h':H b=some u)(d:o≠u):a≠b:=by
 intro e; subst e; rw[h]at h'; exact d (Option.some.inj h')
theorem au{H:Hp}{a b:Addr}{o:HO}(h:H a=some o)(h':H b=none):a≠b:=by
 intro e; subst e; rw[h]at h'; cases h'
def IsTupN(h:Heap)(a:Addr)(items:Array Value):Prop:=∃ o,h.get? a=some o∧o.cls = .type "tuple" ∧ o.dict=none∧∃ n,o.data = .seq items n
theorem IsTupN.tup{h:Heap}{a:Addr}{items:Array Value}(x:IsTupN h a items):IsTup h a items:=let ⟨o,e,c,_,d⟩:=x; ⟨o,e,c,d⟩
theorem IsTupN.lt{h:Heap}{a:Addr}{items:Array Value}(x:IsTupN h a items):a<h.objs.size:=let ⟨_,e,_⟩:=x; Heap.lt_size e
theorem IsTupN.new(h:Heap)(items:Array Value):IsTupN (h.push { cls:=.type "tuple", data:=.seq items }) h.objs.size items:=⟨_,Heap.get?_push_size _ rfl,rfl,rfl,_,rfl⟩
section
variable(P:Program)(w:World)
def ObjOk(H:Hp)(h:Heap)(a:Addr):HO→Prop
 | .lst xs=>xs.length≤sizeLine∧∃ (its:List Value) (n:Nat),Vals xs its∧h.get? a=some { cls:=.type "list", data:=.seq its.toArray n }
 | .tup xs=>xs.length≤sizeLine∧∃ its:List Value,Vals xs its∧IsTupN h a its.toArray
 | .dK kvs=>kvs.length≤sizeLine∧(a == sysModules)=false∧∃ vs,KV kvs vs∧h.DictOf (cK P w) a vs
 | .dT kvs=>kvs.length≤sizeLine∧(a == sysModules)=false∧∃ xs:List (List ax × Addr × Value),
   Paired (fun (p:List ax × V) (q:List ax × Addr × Value)=>p.1=q.1∧H q.2.1=some (.tup (p.1.map kV))∧RelV p.2 q.2.2) kvs xs∧
   ∃ o es ep,h.get? a=some o∧o.ExactDict∧o.data = .dict es ep∧es.toList=xs.map (entryOfKey (tupleKind (cK P w)))∧(xs.map (·.1)).Nodup
 | .set S n=>h.SetOf (intKind P w) a S n
 | .ins C dx fs=>H dx=some (.own a)∧fs.length≤1000∧dx≠a∧h.get? a=some (PySem.W.instObj C dx)∧
   ∃ mA,h.Ns1 dx mA∧(∀ f,RelO (fs.lookup f) (mA f))∧PySem.Within mA (fs.map (·.1))
 | .own _=>∃ o,h.get? a=some o
 | .xd fs=>∃ mA,h.Ns1 a mA∧∀ f,RelO (fs.lookup f) (mA f)
 | .rng lo hi=>∃ t u v,h.get? a=some { cls:=.type "range", data:=.fields #[.int lo t,.int hi u,.int 1 v] }
 | .frz o u=>h.get? a=some o∧ObjOk H h a u
 | .tbl ps=>h.get? a=some { cls:=.none,data:=.fields ps }
 | .met f x=>h.get? a=some (PySem.W.methodObj (.ref f) (.ref x))
 | .ext φ=>φ h∧(∃ o,h.get? a=some o)∧∀ h1 h2:Heap,φ h1→(∀ o,h1.get? a=some o→h2.get? a=some o)→φ h2
def HOk(H:Hp)(h:Heap):Prop:=∀ a o,H a=some o→ObjOk P w H h a o
end
section
variable{P:Program}{w:World}{H H':Hp}{h h':Heap}{a:Addr}{o:HO}
theorem ObjOk.lt(x:ObjOk P w H h a o):a<h.objs.size:=by
 cases o with
 | lst xs=>obtain⟨_,_,_,_,e⟩:=x; exact Heap.lt_size e
 | tup xs=>obtain⟨_,_,_,p⟩:=x; exact p.lt
 | dK kvs=>obtain⟨_,_,_,_,o,_,_,e,_⟩:=x; exact Heap.lt_size e
 | dT kvs=>obtain⟨_,_,_,_,o,_,_,e,_⟩:=x; exact Heap.lt_size e
 | set S n=>obtain⟨o,_,_,_,e,_⟩:=x; exact Heap.lt_size e
 | ins C dx fs=>obtain⟨_,_,_,e,_⟩:=x; exact Heap.lt_size e
 | own y=>obtain⟨_,e⟩:=x; exact Heap.lt_size e
 | xd fs=>obtain⟨_,⟨_,_,_,e,_⟩,_⟩:=x; exact Heap.lt_size e
 | rng lo hi=>obtain⟨_,_,_,e⟩:=x; exact Heap.lt_size e
 | frz ob u=>obtain⟨e,_⟩:=x; exact Heap.lt_size e
 | tbl ps=>exact Heap.lt_size (show h.get? a=some _ from x)
 | met f y=>exact Heap.lt_size (show h.get? a=some _ from x)
 | ext φ=>obtain⟨_,⟨_,e⟩,_⟩:=x; exact Heap.lt_size e
theorem Paired.mapP{α β : Type}{F G:α→β→Prop}:∀ {l₁:List α} {l₂:List β},Paired F l₁ l₂→(∀ a b,F a b→G a b)→Paired G l₁ l₂
 | _,_,.nil,_=>.nil
 | _,_,.cons r t,f=>.cons (f _ _ r) (Paired.mapP t f)
theorem Paired.imp'{α β : Type}{F G:α→β→Prop}(f:∀ a b,F a b→G a b){l₁:List α}{l₂:List β}(r:Paired F l₁ l₂):Paired G l₁ l₂:=Paired.mapP r f
theorem ObjOk.stay(x:ObjOk P w H h a o)(k:∀ b u,(b=a∨H b=some (.own a))→h.get? b=some u→h'.get? b=some u)
  (ho:∀ b,H b=some (.own a)→H' b=some (.own a)) (ht:∀ b xs,H b=some (.tup xs)→H' b=some (.tup xs)):ObjOk P w H' h' a o:=by
 induction o with
 | lst xs=>obtain⟨z,its,n,r,e⟩:=x; exact⟨z,its,n,r,k _ _ (.inl rfl) e⟩
 | tup xs=>obtain⟨z,its,r,ob,e,c⟩:=x; exact⟨z,its,r,ob,k _ _ (.inl rfl) e,c⟩
 | dK kvs=>obtain⟨z,y,vs,r,ob,es,ep,e,c⟩:=x; exact⟨z,y,vs,r,ob,es,ep,k _ _ (.inl rfl) e,c⟩
 | dT kvs=>
  obtain⟨z,y,xs,r,ob,es,ep,e,c⟩:=x
  exact⟨z,y,xs,Paired.mapP r fun p q z=>⟨z.1,ht _ _ z.2.1,z.2.2⟩,ob,es,ep,k _ _ (.inl rfl) e,c⟩
 | set S n=>obtain⟨ob,es,ep,t,e,c⟩:=x; exact⟨ob,es,ep,t,k _ _ (.inl rfl) e,c⟩
 | ins C dx fs=>
  obtain⟨d,z,ne,e,mA,⟨od,es,ep,e2,c⟩,r⟩:=x
  exact⟨ho _ d,z,ne,k _ _ (.inl rfl) e,mA,⟨od,es,ep,k _ _ (.inr d) e2,c⟩,r⟩
 | own y=>obtain⟨ob,e⟩:=x; exact⟨ob,k _ _ (.inl rfl) e⟩
 | xd fs=>obtain⟨mA,⟨od,es,ep,e,c⟩,r⟩:=x; exact⟨mA,⟨od,es,ep,k _ _ (.inl rfl) e,c⟩,r⟩
 | rng lo hi=>obtain⟨t,u,v,e⟩:=x; exact⟨t,u,v,k _ _ (.inl rfl) e⟩
 | frz ob u ih=>obtain⟨e,q⟩:=x; exact⟨k _ _ (.inl rfl) e,ih q⟩
 | tbl ps=>
  have e:h.get? a=some { cls:=.none,data:=.fields ps }:=x
  show h'.get? a=some { cls:=.none,data:=.fields ps }
  exact k a _ (.inl rfl) e
 | met f y=>
  have e:h.get? a=some (PySem.W.methodObj (.ref f) (.ref y)):=x
  show h'.get? a=some (PySem.W.methodObj (.ref f) (.ref y))
  exact k a _ (.inl rfl) e
 | ext φ=>obtain⟨p,⟨o,e⟩,st⟩:=x; exact⟨st _ _ p fun o q=>k _ _ (.inl rfl) q,⟨o,k _ _ (.inl rfl) e⟩,st⟩
theorem HOk.lt(x:HOk P w H h)(e:H a=some o):a<h.objs.size:=(x a o e).lt
theorem HOk.fresh(x:HOk P w H h)(e:h.objs.size≤a):H a=none:=by
 cases q:H a with
 | none=>rfl
 | some u=>exact absurd (Nat.lt_of_lt_of_le (x.lt q) e) (Nat.lt_irrefl _)
theorem HOk.kept(x:HOk P w H h)(k:∀ b u,h.get? b=some u→h'.get? b=some u):HOk P w H h':=fun a o e=>
 (x a o e).stay (fun b u _ q=>k b u q) (fun _ q=>q) fun _ _ q=>q
theorem HOk.laid(x:HOk P w H h)(k:∀ b u,h.get? b=some u→h'.get? b=some u)(hp:h.objs.size≤a)(new:ObjOk P w (upd H a o) h' a o):HOk P w (upd H a o) h':=fun b u e=>by
 have hn:=x.fresh hp
 by_cases hb:b=a
 ·subst hb; rw[ac]at e; cases e; exact new
 ·rw[ah hb]at e
  exact(x b u e).stay (fun c v _ q=>k c v q) (fun c q=>by rw[ah (au q hn)]; exact q) fun c xs q=>by rw[ah (au q hn)]; exact q
end
def Rd(H:Hp)(a:Addr)(u:HO):Prop:=H a=some u∨∃ o,H a=some (.frz o u)
theorem Rd.ok{P:Program}{w:World}{H:Hp}{h:Heap}{a:Addr}{u:HO}(r:Rd H a u)(x:HOk P w H h):ObjOk P w H h a u:=by
 rcases r with r | ⟨o,r⟩
 ·exact x a u r
 ·obtain⟨_,q⟩:=x a _ r
  exact q
def v7:Option HO→Prop
 | some (.lst _)=>True
 | some (.dK _)=>True
 | some (.dT _)=>True
 | some (.set _ _)=>True
 | some (.ins _ _ _)=>True
 | some (.ext _)=>True
 | _=>False
section
variable{P:Program}{w:World}{H:Hp}{h h':Heap}{x e:Addr}{o':HO}
theorem HOk.write(ok:HOk P w H h)(mu:v7 (H x))(he:e=x∨H e=some (.own x))(k:∀ b u,b≠e→h.get? b=some u→h'.get? b=some u)(heo:∃ u,h'.get? e=some u)
  (new:ObjOk P w (upd H x o') h' x o'):HOk P w (upd H x o') h':=fun b u q=>by
 have nown:∀ c y,H c=some (.own y)→c≠x:=fun c y r z=>by subst z; rw[r]at mu; exact mu
 have ntup:∀ c xs,H c=some (.tup xs)→c≠x:=fun c xs r z=>by subst z; rw[r]at mu; exact mu
 by_cases hb:b=x
 ·subst hb; rw[ac]at q; cases q; exact new
 ·rw[ah hb]at q
  by_cases hbe:b=e
  ·have q':H b=some (.own x):=by
    rcases he with z | z
    ·exact absurd (hbe.trans z) hb
    ·rw[hbe]; exact z
   rw[q]at q'; cases q'
   obtain⟨v,hv⟩:=heo
   exact⟨v,by rw[hbe]; exact hv⟩
  ·refine(ok b u q).stay (fun c v hc r=>k c v ?_ r) (fun c r=>by rw[ah (nown c b r)]; exact r) fun c xs r=>by rw[ah (ntup c xs r)]; exact r
   rcases hc with rfl | hc
   ·exact hbe
   ·rintro rfl
    rcases he with z | z
    ·exact nown c b hc z
    ·rw[hc]at z; cases z; exact hb rfl
end
structure Un (fs ex:List Addr) (H H':Hp) (h h':Heap):Prop where
 keep:∀ b o,h.get? b=some o→H b=none→b∉fs→b∉ex→h'.get? b=some o
 slot:∀ b o,h.get? b=some o→H b=none→b∈fs→b∉ex→∃ sl,h'.get? b=some { o with slots:=sl }
 free:∀ b o,h.get? b=some o→H b=none→b∉ex→H' b=none
 there:∀ b o,h.get? b=some o→b∉ex→∃ o',h'.get? b=some o'
 tups:∀ b xs,H b=some (.tup xs)→H' b=some (.tup xs)
 frzs:∀ b o u,H b=some (.frz o u)→H' b=some (.frz o u)
 tbls:∀ b ps,H b=some (.tbl ps)→∃ more,H' b=some (.tbl (ps++more))
section
variable{fs fs' ex ex':List Addr}{H H1 H2:Hp}{h h1 h2 h':Heap}{a x e:Addr}{o:HO}
theorem Un.any(u:Un fs ex H H1 h h1){b:Addr}{ob:Obj}(q:h.get? b=some ob)(n:H b=none)(hx:b∉ex):∃ sl,h1.get? b=some { ob with slots:=sl }:=by
 by_cases hb:b∈fs
 ·exact u.slot b ob q n hb hx
 ·exact⟨ob.slots,u.keep b ob q n hb hx⟩
theorem Un.kept(k:∀ b u,h.get? b=some u→h'.get? b=some u):Un fs ex H H h h':=
 ⟨fun b ob q _ _ _=>k b ob q,fun b ob q _ _ _=>⟨ob.slots,k b ob q⟩,fun _ _ _ n _=>n,fun b ob q _=>⟨ob,k b ob q⟩,fun _ _ q=>q,fun _ _ _ q=>q,fun _ ps q=>⟨#[],by rw[q]; simp⟩⟩
theorem Un.refl:Un fs ex H H h h:=Un.kept fun _ _ q=>q
theorem Un.laid(k:∀ b u,h.get? b=some u→h'.get? b=some u)(hp:h.objs.size≤a)(hn:H a=none):Un fs ex H (upd H a o) h h' where
 keep:=fun b u q _ _ _=>k b u q
 slot:=fun b u q _ _ _=>⟨u.slots,k b u q⟩
 free:=fun b u q n _=>by rw[ah (Nat.ne_of_lt (Nat.lt_of_lt_of_le (Heap.lt_size q) hp))]; exact n
 there:=fun b u q _=>⟨u,k b u q⟩
 tups:=fun b xs q=>by rw[ah (au q hn)]; exact q
 frzs:=fun b u xs q=>by rw[ah (au q hn)]; exact q
 tbls:=fun b ps q=>⟨#[],by rw[ah (au q hn),q]; simp⟩
theorem Un.write(mu:v7 (H x))(he:e=x∨H e=some (.own x))(k:∀ b u,b≠e→h.get? b=some u→h'.get? b=some u)(heo:∃ u,h'.get? e=some u):Un fs ex H (upd H x o) h h':=by
 have hx:∀ b,H b=none→b≠x:=fun b n z=>by subst z; rw[n]at mu; exact mu
 have hb:∀ b,H b=none→b≠e:=fun b n z=>by
  subst z
  rcases he with r | r
  ·exact hx b n r
  ·rw[n]at r; cases r
 have hm:∀ b u,H b=some u→¬ v7 (some u)→b≠x:=fun b u q nm z=>by subst z; rw[q]at mu; exact nm mu
 refine⟨fun b u q n _ _=>k b u (hb b n) q,fun b u q n _ _=>⟨u.slots,k b u (hb b n) q⟩,fun b u q n _=>by rw[ah (hx b n)]; exact n,fun b u q _=>?_,
  fun b xs q=>by rw[ah (hm b _ q fun z=>z)]; exact q,fun b u xs q=>by rw[ah (hm b _ q fun z=>z)]; exact q,fun b ps q=>⟨#[],by rw[ah (hm b _ q fun z=>z),q]; simp⟩⟩
 by_cases hbe:b=e
 ·subst hbe; exact heo
 ·exact⟨u,k b u hbe q⟩
end
def yG(h:Heap)(H:Hp):List Addr:=(List.range h.objs.size).filter fun a=>(H a).isSome
def iC(h:Heap)(H:Hp):Heap:=PySem.W.hideAll h (yG h H)
theorem v5(h:Heap)(H:Hp):(iC h H).objs.size=h.objs.size:=PySem.W.hideAll_size _ _
theorem xv{h:Heap}{H:Hp}{b:Addr}{o:Obj}(e:h.get? b=some o)(n:H b=none):(iC h H).get? b=some o:=
 PySem.W.hideAll_get _ e fun hm=>by
  have q:(H b).isSome=true:=(List.mem_filter.mp hm).2
  rw[n]at q; simp at q
theorem zC{h:Heap}{H:Hp}{b:Addr}{o:Obj}(e:(iC h H).get? b=some o):h.get? b=some o∧H b=none:=by
 have e':h.get? b=some o:=PySem.W.of_hideAll (yG h H) e
 refine⟨e',?_⟩
 cases q:H b with
 | none=>rfl
 | some x=>
  have hm:b∈yG h H:=List.mem_filter.mpr ⟨List.mem_range.mpr (Heap.lt_size e'),by simp[q]⟩
  have z:(iC h H).get? b=none:=PySem.W.hideAll_none (yG h H) hm
  rw[z]at e; cases e
def zo(g h:Heap)(L:Addr):List (Addr × Obj):=(List.range h.objs.size).filterMap fun a=>if a=L∨(g.get? a).isSome=true then none else (h.get? a).map fun o=>(a,o)
def rest(g h:Heap)(L d:Addr):List (Addr × Obj):=(zo g h L).filter fun p=>decide (p.1≠d)
end L2
namespace L2
open PySem PySem.Spec PyProof.Rows
structure Mod (K:PySem.W.Frag) (mg:Str→Option Value) (base:Heap):Prop where
 kin:K.In base
 glob:base.Ns mainGlobals mg
 blt:∃ mb,base.Ns builtinsNs mb∧∀ x:Str,x ≠ "__name__" → mb x=bootBuiltins x
 nolimit:base.NoLimit
set_option genInjectivity false in
set_option genSizeOf false in
structure Cx where
 prog:Program
 w:World
 K:PySem.W.Frag
 mg:Str→Option Value
 base:Heap
 A:Around
 N:List Str
 s₀ : Shared
 H₀ : Hp
 env:Env
 outer:List Env
 stack:List Env
 ex:List Addr
 fn:Str→Bool
 calm:Bool
 pn:List (Addr × Obj)
 xe:Value→Shared→Prop
def iP(l:List Env):List Addr:=l.filterMap (·.frame)
abbrev Cx.fs (X:Cx):List Addr:=iP X.outer
def ap(sc:Scope)(x:Str):Prop:=sc.names.lookup x=some .local∨sc.names.lookup x=some .cell∨sc.names.lookup x=some .free
def aE(sc:Scope)(x:Str):Prop:=sc.names.lookup x=some .local∨sc.names.lookup x=some .cell
def EY(env:Env)(h:Heap)(m:Str→Option Value)(x:Str)(u:Value):Prop:=
 (env.kindOf x=some .local∧m x=some u)∨((env.kindOf x=some .cell∨env.kindOf x=some .free)∧∃ c,env.cells.lookup x=some c∧h.IsCell c (some u))
structure Cx.Ok (X:Cx):Prop where
 mod:Mod X.K X.mg X.base
 kind:X.env.scope.kind = .function
 glob:X.env.globals=mainGlobals
 blt:X.env.builtins=builtinsNs
 above:X.s₀.heap.objs.size≤X.env.locals
 inj:∀ x y c,X.env.cells.lookup x=some c→X.env.cells.lookup y=some c→x=y
 has:∀ x,(X.env.kindOf x=some .cell∨X.env.kindOf x=some .free)→∃ c,X.env.cells.lookup x=some c
 cab:∀ x c,X.fn x=true→X.env.cells.lookup x=some c→X.s₀.heap.objs.size≤c
 hd:X.calm=true→X.A.handled=none
 frames:X.A.frames=some X.stack
 stk:X.stack=X.outer∨(X.stack=X.env::X.outer∧X.env.frame=some X.env.locals)
 exf:∀ b∈X.ex,b≠X.env.locals∧∀ x c,X.env.cells.lookup x=some c→c≠b
 bs:∀ b o,X.base.get? b=some o→X.s₀.heap.get? b=some o∧X.H₀ b=none
 bsz:X.base.objs.size≤X.s₀.heap.objs.size
 noex:∀ b o,X.base.get? b=some o→b∉X.ex
 exfs:∀ b∈X.ex,b∉X.fs
 funs:X.s₀.heap.FunFrames X.base X.outer
 frf:∀ b∈X.fs,X.H₀ b=none
structure Inv (X:Cx) (pins:List (Addr × Obj)) (σ : List (Option V)) (H:Hp) (s:Shared):Prop where
 ok:X.Ok
 os:s.os=X.s₀.os
 bare:AllBare s.gens
 base:Un X.fs X.ex X.H₀ H X.s₀.heap s.heap
 loc:∃ m,s.heap.Ns X.env.locals m∧∀ (i:Nat) (x:Str) (v:V),X.N[i]? = some x→σ[i]? = some (some v)→ap X.env.scope x→∃ u,RelV v u∧EY X.env s.heap m x u
 cell:∀ x c,X.env.cells.lookup x=some c→∃ v,s.heap.IsCell c v
 free:H X.env.locals=none
 freeC:∀ x c,X.env.cells.lookup x=some c→H c=none
 pin:∀ p∈X.pn++pins,s.heap.get? p.1=some p.2∧H p.1=none∧p.1≠X.env.locals∧p.1∉X.fs∧∀ v,p.2.data ≠ .cell v
 hok:HOk X.prog X.w H s.heap
 len:σ.length=X.N.length
section
variable{X:Cx}{pins:List (Addr × Obj)}{σ : List (Option V)}{H H':Hp}{s:Shared}{h':Heap}
theorem Cx.Ok.nofr(ok:X.Ok){b:Addr}{o:Obj}(e:X.base.get? b=some o):b∉X.fs:=fun hb=>by
 have:=(ok.funs.mem hb).1
 rw[e]at this; cases this
theorem Inv.bs(I:Inv X pins σ H s):∀ b o,X.base.get? b=some o→s.heap.get? b=some o∧H b=none:=fun b o e=>
 ⟨I.base.keep b o (I.ok.bs b o e).1 (I.ok.bs b o e).2 (I.ok.nofr e) (I.ok.noex b o e),I.base.free b o (I.ok.bs b o e).1 (I.ok.bs b o e).2 (I.ok.noex b o e)⟩
theorem Inv.bk(I:Inv X pins σ H s):∀ b o,X.base.get? b=some o→s.heap.get? b=some o:=fun b o e=>(I.bs b o e).1
theorem Inv.mod(I:Inv X pins σ H s):Mod X.K X.mg X.base:=I.ok.mod
theorem Inv.kIn(I:Inv X pins σ H s):X.K.In s.heap:=I.ok.mod.kin.keeps I.bk
theorem Inv.lt(I:Inv X pins σ H s):X.env.locals<s.heap.objs.size:=let ⟨_,hn,_⟩:=I.loc; hn.lt
theorem Inv.sz(I:Inv X pins σ H s):X.s₀.heap.objs.size≤s.heap.objs.size:=Nat.le_trans I.ok.above (Nat.le_of_lt I.lt)
theorem Inv.nofs(I:Inv X pins σ H s){a:Addr}(h:s.heap.objs.size≤a):a∉X.fs:=fun hb=>by
 obtain⟨_,o,ho,_⟩:=I.ok.funs.mem hb
 exact absurd (Nat.lt_of_lt_of_le (Heap.lt_size ho) (Nat.le_trans I.sz h)) (Nat.lt_irrefl _)
theorem Inv.cne(I:Inv X pins σ H s):∀ x c,X.env.cells.lookup x=some c→c≠X.env.locals:=fun x c e z=>by
 obtain⟨v,o,ho,hd⟩:=I.cell x c e
 obtain⟨m,⟨o',es,ep,ho',hd',_⟩,_⟩:=I.loc
 rw[z,ho']at ho; cases ho; rw[hd']at hd; cases hd
theorem Inv.funs(I:Inv X pins σ H s):s.heap.FunFrames X.base X.outer:=by
 have all:∀ (l:List Env),(∀ b∈iP l,b∈X.fs)→X.s₀.heap.FunFrames X.base l→s.heap.FunFrames X.base l:=by
  intro l
  induction l with
  | nil=>intro _ _; trivial
  | cons env r ih=>
   intro hs hl
   obtain⟨hk,⟨L,o,hf,hn,ho,hd⟩,hr⟩:=hl
   have hL:L∈X.fs:=hs L (by unfold iP; rw[List.filterMap_cons,hf]; exact List.mem_cons_self)
   obtain⟨sl,e⟩:=I.base.slot L o ho (I.ok.frf L hL) hL fun z=>I.ok.exfs L z hL
   exact⟨hk,⟨L,_,hf,hn,e,hd⟩,ih (fun b hb=>hs b (by unfold iP; rw[List.filterMap_cons,hf]; exact List.mem_cons_of_mem _ hb)) hr⟩
 exact all X.outer (fun _ hb=>hb) I.ok.funs
theorem Inv.stack(I:Inv X pins σ H s):s.heap.FunFrames X.base X.stack:=by
 rcases I.ok.stk with e | ⟨e,hf⟩
 ·rw[e]; exact I.funs
 ·rw[e]
  obtain⟨m,hn,_⟩:=I.loc
  refine .cons (by rw[I.ok.kind]; decide) hf hn ?_ I.funs
  exact Heap.get?_none_of_le (Nat.le_trans I.ok.bsz I.ok.above)
theorem Inv.stkSub(I:Inv X pins σ H s):∀ b∈iP X.stack,b∈X.env.locals::X.fs:=fun b hb=>by
 rcases I.ok.stk with e | ⟨e,hf⟩
 ·rw[e]at hb; exact List.mem_cons_of_mem _ hb
 ·rw[e]at hb
  unfold iP at hb
  rw[List.filterMap_cons,hf]at hb
  exact hb
theorem Inv.stkFree(I:Inv X pins σ H s):∀ b∈iP X.stack,H b=none:=fun b hb=>by
 rcases List.mem_cons.mp (I.stkSub b hb) with e | hb
 ·rw[e]; exact I.free
 ·obtain⟨_,o,ho,_⟩:=I.ok.funs.mem hb
  exact I.base.free b o ho (I.ok.frf b hb) fun z=>I.ok.exfs b z hb
theorem Inv.step{g':Array GenState}{t':Nat}{d':Drawn}{ch:List Addr}(I:Inv X pins σ H s)
  (hch:∀ b∈ch,(b∈X.ex∨X.s₀.heap.objs.size≤b)∧b≠X.env.locals∧(∀ x c,X.env.cells.lookup x=some c→c≠b)∧∀ p∈X.pn++pins,p.1≠b)
  (keep:∀ b o,b≠X.env.locals→b∉X.fs→b∉ch→s.heap.get? b=some o→H b=none→h'.get? b=some o)
  (slot:∀ b o,b≠X.env.locals→b∈X.fs→b∉ch→s.heap.get? b=some o→H b=none→∃ sl,h'.get? b=some { o with slots:=sl }) (free:∀ b o,b∉ch→s.heap.get? b=some o→H b=none→H' b=none)
  (there:∀ b o,b∉ch→s.heap.get? b=some o→∃ o',h'.get? b=some o')
  (tups:∀ b xs,H b=some (.tup xs)→H' b=some (.tup xs)) (frzs:∀ b o u,H b=some (.frz o u)→H' b=some (.frz o u)) (tbls:∀ b ps,H b=some (.tbl ps)→∃ more,H' b=some (.tbl (ps++more)))
  (ns:∀ m,s.heap.Ns X.env.locals m→h'.Ns X.env.locals m) (hok:HOk X.prog X.w H' h') (hg:AllBare g') :
  Inv X pins σ H' { s with heap:=h',gens:=g',drawn:=d',toks:=t' }:=by
 have neL:∀ b o,X.s₀.heap.get? b=some o→b≠X.env.locals:=fun b o e=>Nat.ne_of_lt (Nat.lt_of_lt_of_le (Heap.lt_size e) I.ok.above)
 have neC:∀ b o,X.s₀.heap.get? b=some o→b∉X.ex→b∉ch:=fun b o e hx hb=>by
  rcases(hch b hb).1 with z | z
  ·exact hx z
  ·exact absurd (Nat.lt_of_lt_of_le (Heap.lt_size e) z) (Nat.lt_irrefl _)
 have cellK:∀ x c,X.env.cells.lookup x=some c→∀ v,s.heap.IsCell c v→h'.IsCell c v:=fun x c e v ⟨o,ho,hd⟩=>by
  have nch:c∉ch:=fun z=>(hch c z).2.2.1 x c e rfl
  by_cases hc:c∈X.fs
  ·obtain⟨sl,q⟩:=slot c o (I.cne x c e) hc nch ho (I.freeC x c e)
   exact⟨_,q,hd⟩
  ·exact⟨o,keep c o (I.cne x c e) hc nch ho (I.freeC x c e),hd⟩
 refine⟨I.ok,I.os,hg,⟨fun b o e n hb hx=>?_,fun b o e n hb hx=>?_,fun b o e n hx=>?_,fun b o e hx=>?_,fun b xs e=>tups b xs (I.base.tups b xs e),fun b o xs e=>frzs b o xs (I.base.frzs b o xs e),fun b ps e=>?_⟩,?_,fun x c e=>?_,?_,fun x c e=>?_,fun p hp=>?_,hok,I.len⟩
 ·exact keep b o (neL b o e) hb (neC b o e hx) (I.base.keep b o e n hb hx) (I.base.free b o e n hx)
 ·obtain⟨sl,e1⟩:=I.base.slot b o e n hb hx
  obtain⟨sl',e2⟩:=slot b _ (neL b o e) hb (neC b o e hx) e1 (I.base.free b o e n hx)
  exact⟨sl',e2⟩
 ·obtain⟨o',e1⟩:=I.base.there b o e hx
  exact free b o' (neC b o e hx) e1 (I.base.free b o e n hx)
 ·obtain⟨o',e1⟩:=I.base.there b o e hx
  exact there b o' (neC b o e hx) e1
 ·obtain⟨m1,e1⟩:=I.base.tbls b ps e
  obtain⟨m2,e2⟩:=tbls b _ e1
  exact⟨m1++m2,by rw[e2,Array.append_assoc]⟩
 ·obtain⟨m,hn,hl⟩:=I.loc
  refine⟨m,ns m hn,fun i x v e1 e2 e3=>?_⟩
  obtain⟨u,r,l⟩:=hl i x v e1 e2 e3
  refine⟨u,r,?_⟩
  rcases l with l | ⟨k,c,e,z⟩
  ·exact .inl l
  ·exact .inr ⟨k,c,e,cellK x c e _ z⟩
 ·obtain⟨v,z⟩:=I.cell x c e
  exact⟨v,cellK x c e v z⟩
 ·obtain⟨m,⟨o,_,_,ho,_⟩,_⟩:=I.loc
  exact free _ o (fun z=>(hch _ z).2.1 rfl) ho I.free
 ·obtain⟨v,o,ho,hd⟩:=I.cell x c e
  exact free c o (fun z=>(hch c z).2.2.1 x c e rfl) ho (I.freeC x c e)
 ·obtain⟨e,n,ne,nf,d⟩:=I.pin p hp
  have nch:p.1∉ch:=fun z=>(hch p.1 z).2.2.2 p hp rfl
  exact⟨keep p.1 p.2 ne nf nch e n,free p.1 p.2 nch e n,ne,nf,d⟩
theorem Inv.un{t':Nat}(I:Inv X pins σ H s)(u:Un X.fs [] H H' s.heap h')(hok:HOk X.prog X.w H' h'):Inv X pins σ H' { s with heap:=h',toks:=t' }:=by
 obtain⟨m,⟨o,es,ep,ho,r⟩,_⟩:=id I.loc
 obtain⟨sl,hL⟩:=u.any ho I.free (by simp)
 exact I.step (g':=s.gens) (d':=s.drawn) (ch:=[]) (fun _ z=>nomatch z) (fun b o _ hb _ e n=>u.keep b o e n hb (by simp)) (fun b o _ hb _ e n=>u.slot b o e n hb (by simp)) (fun b o _ e n=>u.free b o e n (by simp)) (fun b o _ e=>u.there b o e (by simp)) u.tups u.frzs u.tbls (fun m' hm=>by
  obtain⟨o',es',ep',ho',r'⟩:=hm
  rw[ho]at ho'; cases ho'
  exact⟨_,es',ep',hL,r'⟩) hok I.bare
theorem Inv.call{g':Array GenState}{t':Nat}{d':Drawn}{ch:List Addr}(I:Inv X pins σ H s)(u:Un (iP X.stack) ch H H' s.heap h')(hok:HOk X.prog X.w H' h')(hg:AllBare g')
  (hch:∀ b∈ch,(b∈X.ex∨X.s₀.heap.objs.size≤b)∧b≠X.env.locals∧(∀ x c,X.env.cells.lookup x=some c→c≠b)∧∀ p∈X.pn++pins,p.1≠b) :
  Inv X pins σ H' { s with heap:=h',gens:=g',drawn:=d',toks:=t' }:=by
 obtain⟨m,⟨o,es,ep,ho,r⟩,_⟩:=id I.loc
 obtain⟨sl,hL⟩:=u.any ho I.free fun z=>(hch _ z).2.1 rfl
 exact I.step (ch:=ch) hch (fun b o hL hb hc e n=>u.keep b o e n (fun z=>(List.mem_cons.mp (I.stkSub b z)).elim hL hb) hc) (fun b o _ _ hc e n=>u.any e n hc) (fun b o hc e n=>u.free b o e n hc) (fun b o hc e=>u.there b o e hc) u.tups u.frzs u.tbls (fun m' hm=>by
  obtain⟨o',es',ep',ho',r'⟩:=hm
  rw[ho]at ho'; cases ho'
  exact⟨_,es',ep',hL,r'⟩) hok hg
theorem Inv.turned{t':Nat}{it:Addr}(I:Inv X pins σ H s)(k:∀ b o,b≠it→s.heap.get? b=some o→h'.get? b=some o)(hn:H it=none)(hL:it≠X.env.locals)
  (h1:it∈X.ex∨X.s₀.heap.objs.size≤it) (h2:∀ x c,X.env.cells.lookup x=some c→c≠it) (h3:∀ p∈X.pn++pins,p.1≠it):Inv X pins σ H { s with heap:=h',toks:=t' }:=by
 have nit:∀ b u,H b=some u→b≠it:=fun b u e z=>by rw[z,hn]at e; cases e
 refine I.step (g':=s.gens) (d':=s.drawn) (ch:=[it]) (fun b hb=>?_) (fun b o _ _ hc e _=>k b o (fun z=>hc (by simp[z])) e) (fun b o _ _ hc e _=>⟨o.slots,k b o (fun z=>hc (by simp[z])) e⟩) (fun _ _ _ _ n=>n)
  (fun b o hc e=>⟨o,k b o (fun z=>hc (by simp[z])) e⟩) (fun _ _ e=>e) (fun _ _ _ e=>e) (fun b ps e=>⟨#[],by rw[e]; simp⟩) (fun m hm=>?_) (fun b u e=>?_) I.bare
 ·have e:b=it:=by simpa using hb
  subst e
  exact⟨h1,hL,h2,h3⟩
 ·obtain⟨o,es,ep,ho,r⟩:=hm
  exact⟨o,es,ep,k _ o (Ne.symm hL) ho,r⟩
 ·refine(I.hok b u e).stay (fun c v hc q=>k c v ?_ q) (fun _ q=>q) fun _ _ q=>q
  rcases hc with z | z
  ·rw[z]; exact nit b u e
  ·exact nit c _ z
theorem Inv.tok(I:Inv X pins σ H s)(t:Nat):Inv X pins σ H { s with toks:=t }:=I.un (h':=s.heap) (t':=t) Un.refl I.hok
theorem Inv.kept{t':Nat}(I:Inv X pins σ H s)(k:∀ b u,s.heap.get? b=some u→h'.get? b=some u):Inv X pins σ H { s with heap:=h',toks:=t' }:=I.un (Un.kept k) (I.hok.kept k)
theorem Inv.laid{a:Addr}{o:HO}{t':Nat}(I:Inv X pins σ H s)(k:∀ b u,s.heap.get? b=some u→h'.get? b=some u)(hp:s.heap.objs.size≤a)(new:ObjOk X.prog X.w (upd H a o) h' a o) :
  Inv X pins σ (upd H a o) { s with heap:=h',toks:=t' }:=I.un (Un.laid k hp (I.hok.fresh hp)) (I.hok.laid k hp new)
theorem Inv.write{x e:Addr}{o:HO}{t':Nat}(I:Inv X pins σ H s)(mu:v7 (H x))(he:e=x∨H e=some (.own x))(k:∀ b u,b≠e→s.heap.get? b=some u→h'.get? b=some u)(heo:∃ u,h'.get? e=some u)
  (new:ObjOk X.prog X.w (upd H x o) h' x o):Inv X pins σ (upd H x o) { s with heap:=h',toks:=t' }:=I.un (Un.write mu he k heo) (I.hok.write mu he k heo new)
theorem Inv.weak{σ':List (Option V)}(I:Inv X pins σ H s)(hl:σ'.length=σ.length)(w:∀ (i:Nat) v,σ'[i]? = some (some v)→σ[i]? = some (some v)):Inv X pins σ' H s:=
 ⟨I.ok,I.os,I.bare,I.base,let ⟨m,hn,hl'⟩:=I.loc; ⟨m,hn,fun i x v e1 e2 e3=>hl' i x v e1 (w i v e2) e3⟩,I.cell,I.free,I.freeC,I.pin,I.hok,hl.trans I.len⟩
theorem Inv.pins_of{pins':List (Addr × Obj)}(I:Inv X pins σ H s)(h:∀ p∈pins',s.heap.get? p.1=some p.2∧H p.1=none∧p.1≠X.env.locals∧p.1∉X.fs∧∀ v,p.2.data ≠ .cell v):Inv X pins' σ H s:=
 ⟨I.ok,I.os,I.bare,I.base,I.loc,I.cell,I.free,I.freeC,fun p hp=>(List.mem_append.mp hp).elim (fun z=>I.pin p (List.mem_append_left _ z)) (h p),I.hok,I.len⟩
theorem qe{N:List Str}(hN:N.Nodup){i j:Nat}{x:Str}(a:N[i]? = some x)(b:N[j]? = some x):i=j:=by
 obtain⟨h1,e1⟩:=List.getElem?_eq_some_iff.mp a
 obtain⟨h2,e2⟩:=List.getElem?_eq_some_iff.mp b
 exact(List.getElem_inj hN).mp (e1.trans e2.symm)
theorem nj{M:Model}{A:Around}{E:Value→Shared→Prop}{i:Nat}{x:Str}{v:V}{u:Value}{Q:Unit→Shared→Prop}(I:Inv X pins σ H s)(hN:X.N.Nodup)(hi:X.N[i]? = some x)(hx:aE X.env.scope x)(r:RelV v u)
  (h:∀ s',Inv X pins (σ.set i (some v)) H s'→(∃ a,Heap.SameBut a s.heap s'.heap∧(a=X.env.locals∨X.env.cells.lookup x=some a))→Q () s') (hf:X.fn x=true∨X.env.scope.names.lookup x=some .local:=by first | exact .inl rfl | exact .inr rfl | assumption):wpAny M A (storeName X.env x u) Q E s:=by
 obtain⟨m,hn,hl⟩:=id I.loc
 have hcls:(X.env.scope.kind == .class||(X.env.scope.kind == .module&&X.env.locals != X.env.globals))=false:=by rw[I.ok.kind]; rfl
 have hiσ : i<σ.length:=by rw[I.len]; exact(List.getElem?_eq_some_iff.mp hi).1
 have cne:=I.cne
 have tracked:∀ {a:Addr} {h':Heap},(∃ o,s.heap.get? a=some o∧H a=none)→Heap.SameBut a s.heap h'→HOk X.prog X.w H h':=fun {a h'} ha hs b ob e=>by
  obtain⟨_,_,hfree⟩:=ha
  refine(I.hok b ob e).stay (fun c w' hc q=>(hs.2 c ?_).trans q) (fun _ q=>q) fun _ _ q=>q
  rintro rfl
  rcases hc with rfl | hc
  ·rw[hfree]at e; cases e
  ·rw[hfree]at hc; cases hc
 rcases hx with hk | hk
 ·refine wpAny_storeName_local hk hn (fun h' hn' hs=>?_) hcls
  obtain⟨oL,_,_,hoL,_⟩:=id hn
  refine h _ ⟨I.ok,I.os,I.bare,⟨fun b o e n hb hx=>?_,fun b o e n hb hx=>?_,I.base.free,fun b o e hx=>?_,I.base.tups,I.base.frzs,I.base.tbls⟩,⟨_,hn',fun j y v' e1 e2 e3=>?_⟩,fun y c e=>?_,I.free,I.freeC,fun p hp=>?_,tracked ⟨oL,hoL,I.free⟩ hs,by simpa using I.len⟩ ⟨_,hs,.inl rfl⟩
  ·exact(hs.2 b (Nat.ne_of_lt (Nat.lt_of_lt_of_le (Heap.lt_size e) I.ok.above))).trans (I.base.keep b o e n hb hx)
  ·obtain⟨sl,e1⟩:=I.base.slot b o e n hb hx
   exact⟨sl,(hs.2 b (Nat.ne_of_lt (Nat.lt_of_lt_of_le (Heap.lt_size e) I.ok.above))).trans e1⟩
  ·obtain⟨o',e1⟩:=I.base.there b o e hx
   exact⟨o',(hs.2 b (Nat.ne_of_lt (Nat.lt_of_lt_of_le (Heap.lt_size e) I.ok.above))).trans e1⟩
  ·by_cases hj:j=i
   ·subst hj
    rw[hi]at e1; cases e1
    rw[List.getElem?_set_self hiσ]at e2
    cases e2
    exact⟨u,r,.inl ⟨hk,by simp⟩⟩
   ·rw[List.getElem?_set_ne (Ne.symm hj)]at e2
    obtain⟨u',r',q⟩:=hl j y v' e1 e2 e3
    refine⟨u',r',?_⟩
    rcases q with ⟨k,e⟩ | ⟨k,c,e,z⟩
    ·refine .inl ⟨k,?_⟩
     have:y≠x:=fun e=>hj (qe hN e1 (e ▸ hi))
     simp[this,e]
    ·exact .inr ⟨k,c,e,z.sameBut hs (cne y c e)⟩
  ·obtain⟨w',z⟩:=I.cell y c e
   exact⟨w',z.sameBut hs (cne y c e)⟩
  ·obtain⟨e,n,ne,nf,d⟩:=I.pin p hp
   exact⟨(hs.2 p.1 ne).trans e,n,ne,nf,d⟩
 ·have hfn:X.fn x=true:=by
   rcases hf with z | z
   ·exact z
   ·rw[z]at hk; cases hk
  obtain⟨c,hc⟩:=I.ok.has x (.inl hk)
  obtain⟨w',z⟩:=I.cell x c hc
  refine wpAny_storeName_cell I.ok.kind hk hc z (fun h' hc' hs=>?_)
  obtain⟨oc,hoc,hocd⟩:=id z
  refine h { s with heap:=h' } ⟨I.ok,I.os,I.bare,⟨fun b o e n hb hx=>?_,fun b o e n hb hx=>?_,I.base.free,fun b o e hx=>?_,I.base.tups,I.base.frzs,I.base.tbls⟩,⟨m,hn.sameBut hs (Ne.symm (cne x c hc)),fun j y v' e1 e2 e3=>?_⟩,fun y c' e=>?_,I.free,I.freeC,fun p hp=>?_,tracked ⟨oc,hoc,I.freeC x c hc⟩ hs,by simpa using I.len⟩ ⟨c,hs,.inr hc⟩
  ·exact(hs.2 b (Nat.ne_of_lt (Nat.lt_of_lt_of_le (Heap.lt_size e) (I.ok.cab x c hfn hc)))).trans (I.base.keep b o e n hb hx)
  ·obtain⟨sl,e1⟩:=I.base.slot b o e n hb hx
   exact⟨sl,(hs.2 b (Nat.ne_of_lt (Nat.lt_of_lt_of_le (Heap.lt_size e) (I.ok.cab x c hfn hc)))).trans e1⟩
  ·obtain⟨o',e1⟩:=I.base.there b o e hx
   exact⟨o',(hs.2 b (Nat.ne_of_lt (Nat.lt_of_lt_of_le (Heap.lt_size e) (I.ok.cab x c hfn hc)))).trans e1⟩
  ·by_cases hj:j=i
   ·subst hj
    rw[hi]at e1; cases e1
    rw[List.getElem?_set_self hiσ]at e2
    cases e2
    exact⟨u,r,.inr ⟨.inl hk,c,hc,hc'⟩⟩
   ·rw[List.getElem?_set_ne (Ne.symm hj)]at e2
    obtain⟨u',r',q⟩:=hl j y v' e1 e2 e3
    refine⟨u',r',?_⟩
    rcases q with q | ⟨k,c',e,z'⟩
    ·exact .inl q
    ·refine .inr ⟨k,c',e,z'.sameBut hs ?_⟩
     rintro rfl
     exact hj (qe hN e1 (I.ok.inj _ _ _ e hc ▸ hi))
  ·by_cases hcc:c'=c
   ·subst hcc; exact⟨_,hc'⟩
   ·obtain⟨w2,z2⟩:=I.cell y c' e
    exact⟨w2,z2.sameBut hs hcc⟩
  ·obtain⟨e,n,ne,nf,d⟩:=I.pin p hp
   refine⟨(hs.2 p.1 ?_).trans e,n,ne,nf,d⟩
   intro q
   rw[q,hoc]at e
   have q':oc=p.2:=Option.some.inj e
   exact d w' (by rw[← q']; exact hocd)
theorem pc{M:Model}{A:Around}{E:Value→Shared→Prop}{i:Nat}{x:Str}{v:V}{u:Value}{Q:Unit→Shared→Prop}(I:Inv X pins σ H s)(hN:X.N.Nodup)(hi:X.N[i]? = some x)(hx:aE X.env.scope x)(r:RelV v u)
  (h:∀ s',Inv X pins (σ.set i (some v)) H s'→Q () s') (hf:X.fn x=true∨X.env.scope.names.lookup x=some .local:=by first | exact .inl rfl | exact .inr rfl | assumption):wpAny M A (storeName X.env x u) Q E s:=
 nj I hN hi hx r (fun s' I' _=>h s' I') hf
theorem Inv.call'{s':Shared}{ch:List Addr}(I:Inv X pins σ H s)(ho:s'.os=s.os)(u:Un (iP X.stack) ch H H' s.heap s'.heap)(hok:HOk X.prog X.w H' s'.heap)(hg:AllBare s'.gens)
  (hch:∀ b∈ch,(b∈X.ex∨X.s₀.heap.objs.size≤b)∧b≠X.env.locals∧(∀ x c,X.env.cells.lookup x=some c→c≠b)∧∀ p∈X.pn++pins,p.1≠b):Inv X pins σ H' s':=by
 obtain⟨h',g',d',t',o'⟩:=s'
 have e:o'=s.os:=ho
 subst e
 exact I.call (g':=g') (t':=t') (d':=d') u hok hg hch
end
abbrev XK:=Value→Option Addr→Hp→Prop
abbrev St:=List (Option V)
abbrev VK:=V→Hp→Prop
abbrev TE:=St→Hp→VK→Prop
abbrev TT:=St→Hp→(Bool→Hp→Prop)→Prop
abbrev TA:=St→Hp→(List V→Hp→Prop)→Prop
set_option genInjectivity false in
set_option genSizeOf false in
structure dF where
 nx:St→Hp→Prop
 rt:VK
 bk:St→Hp→Prop:=fun _ _=>False
 ct:St→Hp→Prop:=fun _ _=>False
abbrev TS:=dF→St→Hp→Prop
def EP(X:Cx)(pins:List (Addr × Obj))(σ : St)(Q:VK)(u:Value)(s':Shared):Prop:=∃ v H',Inv X pins σ H' s'∧RelV v u∧Q v H'
def TP(X:Cx)(pins:List (Addr × Obj))(σ : St)(Q:Bool→Hp→Prop)(b:Bool)(s':Shared):Prop:=∃ H',Inv X pins σ H' s'∧Q b H'
def AP(X:Cx)(pins:List (Addr × Obj))(σ : St)(Q:List V→Hp→Prop)(us:List Value)(s':Shared):Prop:=∃ vs H',Inv X pins σ H' s'∧Vals vs us∧Q vs H'
def SP(X:Cx)(pins:List (Addr × Obj))(D:dF)(f:Flow)(s':Shared):Prop:=
 match f with
 | .next=>∃ σ' H',Inv X pins σ' H' s'∧D.nx σ' H'
 | .brk=>∃ σ' H',Inv X pins σ' H' s'∧D.bk σ' H'
 | .cont=>∃ σ' H',Inv X pins σ' H' s'∧D.ct σ' H'
 | .ret u=>∃ v σ' H',Inv X pins σ' H' s'∧RelV v u∧D.rt v H'
def PE(X:Cx)(e:Expr)(t:TE):Prop:=
 ∀ (pins:List (Addr × Obj)) (s:Shared) (σ : St) (H:Hp) (Q:VK),Inv X pins σ H s→t σ H Q→wpAny (model X.prog X.w) X.A (eval e X.env) (EP X pins σ Q) X.xe s
def PT(X:Cx)(e:Expr)(t:TT):Prop:=
 ∀ (pins:List (Addr × Obj)) (s:Shared) (σ : St) (H:Hp) (Q:Bool→Hp→Prop),Inv X pins σ H s→t σ H Q→wpAny (model X.prog X.w) X.A (isTrue e X.env (eval e X.env)) (TP X pins σ Q) X.xe s
def PW(X:Cx)(e:Expr)(t:TT):Prop:=
 ∀ (whole:Sem Value) (pins:List (Addr × Obj)) (s:Shared) (σ : St) (H:Hp) (Q:Bool→Hp→Prop),Inv X pins σ H s→t σ H Q→wpAny (model X.prog X.w) X.A (isTrue e X.env whole) (TP X pins σ Q) X.xe s
theorem PW.pt{X:Cx}{e:Expr}{t:TT}(h:PW X e t):PT X e t:=h _
def PA(X:Cx)(es:List Expr)(t:TA):Prop:=
 ∀ (pos:Pos) (pins:List (Addr × Obj)) (s:Shared) (σ : St) (H:Hp) (Q:List V→Hp→Prop),Inv X pins σ H s→t σ H Q→wpAny (model X.prog X.w) X.A (spliced (backTo pos (starEach es X.env))) (AP X pins σ Q) X.xe s
def PS(X:Cx)(st:Stmt)(t:TS):Prop:=
 ∀ (pins:List (Addr × Obj)) (s:Shared) (σ : St) (H:Hp) (D:dF),Inv X pins σ H s→t D σ H→wpAny (model X.prog X.w) X.A (exec st X.env) (SP X pins D) X.xe s
def PSs(X:Cx)(st:List Stmt)(t:TS):Prop:=
 ∀ (pins:List (Addr × Obj)) (s:Shared) (σ : St) (H:Hp) (D:dF),Inv X pins σ H s→t D σ H→wpAny (model X.prog X.w) X.A (execs st X.env) (SP X pins D) X.xe s
theorem bt{α : Type}{t:Sem α}{Q Q':α→Shared→Prop}{M:Model}{A:Around}{E:Value→Shared→Prop}{s:Shared}(h:wpAny M A t Q E s)(hQ:∀ a s,Q a s→Q' a s):wpAny M A t Q' E s:=wpAny_mono h hQ fun _ _ x=>x
end L2
namespace L2
open PySem PySem.Spec PyProof.Rows
section
variable{X:Cx}
def xx(i:Nat):TE:=fun σ H Q=>∃ v,σ[i]? = some (some v)∧Q v H
def tC(v:V):TE:=fun _ H Q=>Q v H
theorem Ca{i:Nat}{x:Str}{pos:Pos}(hN:X.N[i]? = some x)(hv:ap X.env.scope x)(hd:(x == ("__debug__" : Str))=false:=by decide) (hcd:(x == ("__classdict__" : Str))=false:=by decide):PE X (.Name x pos) (xx i):=by
 intro pins s σ H Q I h
 obtain⟨v,e,h⟩:=h
 obtain⟨m,hn,hl⟩:=I.loc
 obtain⟨u,r,l⟩:=hl i x v hN e hv
 have fin:EP X pins σ Q u s:=⟨v,H,I,r,h⟩
 rcases l with ⟨hk,hm⟩ | ⟨hk,c,hc,hcell⟩
 ·exact wpAny_Name (wpAny_loadName_local I.ok.kind hk hn hm fin) hd
 ·rcases hk with hk | hk
  ·exact wpAny_Name (wpAny_loadName_cell I.ok.kind hk hc hcell fin) hd
  ·exact wpAny_Name (wpAny_loadName_free I.ok.kind hk hc hcell fin hcd) hd
theorem ai{i j pos}:PE X (.Constant (.int i) j pos) (tC (.int i)):=fun _ _ _ H _ I h=>wpAny_Constant_int ⟨.int i,H,I.tok _,⟨_,rfl⟩,h⟩
theorem d0{b j pos}:PE X (.Constant (.bool b) j pos) (tC (.bl b)):=fun _ _ _ H _ I h=>Constant_bool ⟨.bl b,H,I,rfl,h⟩
theorem al{x j pos}:PE X (.Constant (.str x) j pos) (tC (.str x)):=fun _ _ _ H _ I h=>Calls.Constant_str ⟨.str x,H,I.tok _,⟨_,rfl⟩,h⟩
def Gl(X:Cx)(x:Str):Prop:=X.env.kindOf x=some .globalImplicit
theorem lV{E:Value→Shared→Prop}{pins:List (Addr × Obj)}{s:Shared}{σ : St}{H:Hp}{x:Str}{u:Value}{pos:Pos}{Q:Value→Shared→Prop}(I:Inv X pins σ H s)(hg:Gl X x)(hm:X.mg x=some u)(h:Q u s)
  (hd:(x == ("__debug__" : Str))=false:=by decide):wpAny (model X.prog X.w) X.A (eval (.Name x pos) X.env) Q E s:=
 Calls.Name_function_global I.ok.kind hg (Calls.loadGlobal_global (by rw[I.ok.glob]; exact I.mod.glob.keeps I.bk) hm h) hd
theorem fT{E:Value→Shared→Prop}{pins:List (Addr × Obj)}{s:Shared}{σ : St}{H:Hp}{x:Str}{u:Value}{pos:Pos}{Q:Value→Shared→Prop}(I:Inv X pins σ H s)(hg:Gl X x)(hm:X.mg x=none)(hv:bootBuiltins x=some u)(h:Q u s)
  (hn:x ≠ "__name__" := by decide) (hd:(x == ("__debug__" : Str))=false:=by decide):wpAny (model X.prog X.w) X.A (eval (.Name x pos) X.env) Q E s:=by
 obtain⟨mb,h1,h2⟩:=I.mod.blt
 exact Calls.Name_function_global I.ok.kind hg (Calls.loadGlobal_builtin (by rw[I.ok.glob]; exact I.mod.glob.keeps I.bk) hm (by rw[I.ok.blt]; exact h1.keeps I.bk) ((h2 x hn).trans hv) h) hd
theorem zz{x:Str}{v:V}{u:Value}{pos:Pos}(hg:Gl X x)(hm:X.mg x=some u)(r:RelV v u)(hd:(x == ("__debug__" : Str))=false:=by decide):PE X (.Name x pos) (tC v):=
 fun _ _ _ H _ I h=>lV I hg hm ⟨v,H,I,r,h⟩ hd
theorem Ad{x:Str}{v:V}{u:Value}{pos:Pos}(hg:Gl X x)(hm:X.mg x=none)(hv:bootBuiltins x=some u)(r:RelV v u)(hn:x ≠ "__name__" := by decide) (hd:(x == ("__debug__" : Str))=false:=by decide):PE X (.Name x pos) (tC v):=
 fun _ _ _ H _ I h=>fT I hg hm hv ⟨v,H,I,r,h⟩ hn hd
variable{a b:Expr}{ta tb:TE}{pos:Pos}
def tB(t:TE):TT:=fun σ H Q=>t σ H fun x H1=>∃ c,x = .bl c∧Q c H1
theorem fB{e:Expr}{t:TE}(h:PE X e t)(he:∀ whole,isTrue e X.env whole=(do let v ← whole; standAt e.pos; holding [v] (truthy v)):=by intro _; rfl):PT X e (tB t):=by
 intro pins s σ H Q I hw
 refine isTrue_plain (bt (h pins s σ H _ I hw) fun v s1 ⟨x,H1,I1,r1,q1⟩=>?_) (he _)
 obtain⟨d,rfl,q⟩:=q1
 cases r1
 exact wpAny_truthy_bool ⟨H1,I1,q⟩
variable{tA tB':TT}{rest:List Expr}
def AO(t u:TT):TT:=fun σ H Q=>t σ H fun c H1=>if c=true then u σ H1 Q else Q false H1
def C6(t u:TT):TT:=fun σ H Q=>t σ H fun c H1=>if c=true then Q true H1 else u σ H1 Q
def AH(t:TT):TT:=fun σ H Q=>t σ H fun c H1=>Q (!c) H1
theorem h_(ha:PT X a tA):PW X (.BoolOp .And [a] pos) tA:=by
 intro wh pins s σ H Q I h
 refine isTrue_and (bt (ha pins s σ H Q I h) fun c s1 e=>?_)
 cases c with
 | true=>exact isTrue_and_nil e
 | false=>exact e
theorem je(ha:PT X a tA):PW X (.BoolOp .Or [a] pos) tA:=by
 intro wh pins s σ H Q I h
 refine isTrue_or (bt (ha pins s σ H Q I h) fun c s1 e=>?_)
 cases c with
 | false=>exact isTrue_or_nil e
 | true=>exact e
theorem gv(ha:PT X a tA)(hb:PW X (.BoolOp .And (b::rest) pos) tB'):PW X (.BoolOp .And (a::b::rest) pos) (AO tA tB'):=by
 intro wh pins s σ H Q I h
 refine isTrue_and (bt (ha pins s σ H _ I h) fun c s1 ⟨H1,I1,q1⟩=>?_)
 cases c with
 | true=>exact hb wh pins s1 σ H1 Q I1 q1
 | false=>exact⟨H1,I1,q1⟩
theorem jv(ha:PT X a tA)(hb:PW X (.BoolOp .Or (b::rest) pos) tB'):PW X (.BoolOp .Or (a::b::rest) pos) (C6 tA tB'):=by
 intro wh pins s σ H Q I h
 refine isTrue_or (bt (ha pins s σ H _ I h) fun c s1 ⟨H1,I1,q1⟩=>?_)
 cases c with
 | true=>exact⟨H1,I1,q1⟩
 | false=>exact hb wh pins s1 σ H1 Q I1 q1
theorem ij(ha:PT X a tA):PT X (.UnaryOp .Not a pos) (AH tA):=by
 intro pins s σ H Q I h
 exact isTrue_not (ha pins s σ H (fun c H1=>Q (!c) H1) I h)
def Df(t:TT)(ta tb:TE):TE:=fun σ H Q=>t σ H fun c H1=>if c=true then ta σ H1 Q else tb σ H1 Q
theorem xy{c:Expr}(hc:PT X c tA)(ha:PE X a ta)(hb:PE X b tb):PE X (.IfExp c a b pos) (Df tA ta tb):=by
 intro pins s σ H Q I h
 refine wpAny_IfExp (bt (hc pins s σ H _ I h) fun d s1 ⟨H1,I1,q1⟩=>?_)
 cases d with
 | true=>exact ha pins s1 σ H1 Q I1 q1
 | false=>exact hb pins s1 σ H1 Q I1 q1
end
end L2
namespace L2
open PySem PySem.Spec PyProof.Rows
def SqL(K:PySem.W.Frag)(H:Hp)(a:Addr)(xs:List V):Prop:=
 Rd H a (.lst xs)∨
  ∃ (o:Obj) (its:Array Value) (n:Nat),K.lookup a=some o∧o.cls = .type "list" ∧ o.dict=none∧o.data = .seq its n∧its.size≤sizeLine∧Vals xs its.toList
def SqT(K:PySem.W.Frag)(H:Hp)(a:Addr)(xs:List V):Prop:=
 Rd H a (.tup xs)∨
  ∃ (o:Obj) (its:Array Value) (n:Nat),K.lookup a=some o∧o.cls = .type "tuple" ∧ o.data = .seq its n∧its.size≤sizeLine∧Vals xs its.toList
def EC:Value→Option V
 | .none=>some .non
 | .bool b=>some (.bl b)
 | .int i _=>some (.int i)
 | .str x _=>some (.str x)
 | .bytes b _=>some (.byt b)
 | .float b _=>some (.flt b)
 | .ref a=>some (.ref a)
 | .type n=>some (.ty n)
 | _=>none
theorem RelV.abs{x:V}{u:Value}(r:RelV x u):EC u=some x:=by
 cases x with
 | non=>cases r; rfl
 | bl _=>cases r; rfl
 | int _=>obtain⟨t,rfl⟩:=r; rfl
 | str _=>obtain⟨t,rfl⟩:=r; rfl
 | byt _=>obtain⟨t,rfl⟩:=r; rfl
 | flt _=>obtain⟨t,rfl⟩:=r; rfl
 | ref _=>cases r; rfl
 | ty _=>cases r; rfl
theorem RelV.inj{x y:V}{u:Value}(r:RelV x u)(q:RelV y u):x=y:=Option.some.inj (r.abs.symm.trans q.abs)
theorem Vals.inj:∀ {xs ys:List V} {us:List Value},Vals xs us→Vals ys us→xs=ys
 | _,_,_,.nil,.nil=>rfl
 | _,_,_,.cons r t,.cons r' t'=>by rw[r.inj r',Vals.inj t t']
section
variable{X:Cx}{pins:List (Addr × Obj)}{σ : St}{H:Hp}{s:Shared}{a:Addr}{xs ys:List V}
theorem SqL.of{K:PySem.W.Frag}(h:H a=some (.lst xs)):SqL K H a xs:=.inl (.inl h)
theorem SqT.of{K:PySem.W.Frag}(h:H a=some (.tup xs)):SqT K H a xs:=.inl (.inl h)
theorem Inv.list(I:Inv X pins σ H s)(h:SqL X.K H a xs):∃ its:List Value,Vals xs its∧PlainL s.heap a its.toArray∧xs.length≤sizeLine:=by
 rcases h with h | ⟨o,its,n,hk,hc,hd,hs,hz,r⟩
 ·obtain⟨z,its,n,r,e⟩:=h.ok I.hok
  exact⟨its,r,⟨_,n,e,rfl,rfl,rfl⟩,z⟩
 ·refine⟨its.toList,r,⟨o,n,I.kIn a o hk,hc,hd,by simpa using hs⟩,?_⟩
  have e:=r.length
  simp only[Array.length_toList]at e
  omega
theorem Inv.tuple(I:Inv X pins σ H s)(h:SqT X.K H a xs):∃ its:List Value,Vals xs its∧IsTup s.heap a its.toArray∧xs.length≤sizeLine:=by
 rcases h with h | ⟨o,its,n,hk,hc,hs,hz,r⟩
 ·obtain⟨z,its,r,p⟩:=h.ok I.hok
  exact⟨its,r,p.tup,z⟩
 ·refine⟨its.toList,r,⟨o,I.kIn a o hk,hc,n,by simpa using hs⟩,?_⟩
  have e:=r.length
  simp only[Array.length_toList]at e
  omega
theorem Inv.list_inj(I:Inv X pins σ H s)(h:SqL X.K H a xs)(h':SqL X.K H a ys):xs=ys:=by
 obtain⟨its,r,⟨o,n,e,_,_,d⟩,_⟩:=I.list h
 obtain⟨its',r',⟨o',n',e',_,_,d'⟩,_⟩:=I.list h'
 rw[e]at e'; cases e'
 rw[d]at d'
 injection d' with d1 _
 have:its=its':=by simpa using congrArg Array.toList d1
 subst this
 exact r.inj r'
theorem Inv.tuple_inj(I:Inv X pins σ H s)(h:SqT X.K H a xs)(h':SqT X.K H a ys):xs=ys:=by
 obtain⟨its,r,⟨o,e,_,n,d⟩,_⟩:=I.tuple h
 obtain⟨its',r',⟨o',e',_,n',d'⟩,_⟩:=I.tuple h'
 rw[e]at e'; cases e'
 rw[d]at d'
 injection d' with d1 _
 have:its=its':=by simpa using congrArg Array.toList d1
 subst this
 exact r.inj r'
end
abbrev Cx.wish (X:Cx) (E:Value→Shared→Prop):Cx:={ X with xe:=E }
abbrev Cx.nox (X:Cx):Cx:=X.wish fun _ _=>False
theorem Cx.Ok.wish{X:Cx}(ok:X.Ok)(E:Value→Shared→Prop):(X.wish E).Ok:=
 ⟨ok.mod,ok.kind,ok.glob,ok.blt,ok.above,ok.inj,ok.has,ok.cab,ok.hd,ok.frames,ok.stk,ok.exf,ok.bs,ok.bsz,ok.noex,ok.exfs,ok.funs,ok.frf⟩
theorem Cx.Ok.unwish{X:Cx}{E:Value→Shared→Prop}(ok:(X.wish E).Ok):X.Ok:=
 ⟨ok.mod,ok.kind,ok.glob,ok.blt,ok.above,ok.inj,ok.has,ok.cab,ok.hd,ok.frames,ok.stk,ok.exf,ok.bs,ok.bsz,ok.noex,ok.exfs,ok.funs,ok.frf⟩
section
variable{X:Cx}{pins:List (Addr × Obj)}{σ : St}{H:Hp}{s:Shared}{E:Value→Shared→Prop}
theorem Inv.wish(I:Inv X pins σ H s)(E:Value→Shared→Prop):Inv (X.wish E) pins σ H s:=⟨I.ok.wish E,I.os,I.bare,I.base,I.loc,I.cell,I.free,I.freeC,I.pin,I.hok,I.len⟩
theorem Inv.unwish(I:Inv (X.wish E) pins σ H s):Inv X pins σ H s:=⟨I.ok.unwish,I.os,I.bare,I.base,I.loc,I.cell,I.free,I.freeC,I.pin,I.hok,I.len⟩
theorem SP.unwish{D:dF}{f:Flow}{s':Shared}(h:SP (X.wish E) pins D f s'):SP X pins D f s':=by
 cases f with
 | next=>obtain⟨σ',H',I,q⟩:=h; exact⟨σ',H',I.unwish,q⟩
 | brk=>obtain⟨σ',H',I,q⟩:=h; exact⟨σ',H',I.unwish,q⟩
 | cont=>obtain⟨σ',H',I,q⟩:=h; exact⟨σ',H',I.unwish,q⟩
 | ret u=>obtain⟨v,σ',H',I,r,q⟩:=h; exact⟨v,σ',H',I.unwish,r,q⟩
theorem PSs.nox{st:List Stmt}{t:TS}(h:PSs X.nox st t):PSs X st t:=fun pins s σ H D I hw=>
 wpAny_mono (h pins s σ H D (I.wish _) hw) (fun _ _ q=>q.unwish) fun _ _ z=>False.elim z
end
section
variable{X:Cx}{st:Stmt}{rest:List Stmt}{t u:TS}{e:Expr}{te:TE}{pos:Pos}
def yX:TS:=fun D σ H=>D.nx σ H
def Cp(t u:TS):TS:=fun D σ H=>t { D with nx:=u D } σ H
theorem bB:PSs X [] yX:=fun _ _ σ H _ I h=>wpAny_execs_nil ⟨σ,H,I,h⟩
theorem ae(h1:PS X st t)(h2:PSs X rest u):PSs X (st::rest) (Cp t u):=by
 intro pins s σ H D I h
 refine wpAny_execs_cons (bt (h1 pins s σ H { D with nx:=u D } I h) fun f s1 q=>?_)
 cases f with
 | next=>
  obtain⟨σ',H',I',q⟩:=q
  exact h2 pins s1 σ' H' D I' q
 | ret v=>exact q
 | brk=>exact q
 | cont=>exact q
theorem ak(h1:PS X st t):PSs X [st] t:=by
 intro pins s σ H D I h
 refine wpAny_execs_cons (bt (h1 pins s σ H D I h) fun f s1 q=>?_)
 cases f with
 | next=>exact wpAny_execs_nil q
 | ret v=>exact q
 | brk=>exact q
 | cont=>exact q
theorem Inv.quiet{pins:List (Addr × Obj)}{σ : St}{H:Hp}{s:Shared}(I:Inv X pins σ H s):interactive X.env=false:=by simp[interactive,I.ok.kind]
def za(te:TE):TS:=fun D σ H=>te σ H fun _ H1=>D.nx σ H1
theorem aQ(he:PE X e te)(hs:swapsWith e none pos.line X.env=pure false:=by rfl):PS X (.Expr e pos) (za te):=by
 intro pins s σ H D I h
 exact wpAny_Expr_any (bt (he pins s σ H _ I h) fun v s1 ⟨x,H1,I1,r1,q1⟩=>⟨σ,H1,I1,q1⟩) I.quiet hs
def BW(te:TE):TS:=fun D σ H=>te σ H D.rt
theorem aF(he:PE X e te):PS X (.Return (some e) pos) (BW te):=by
 intro pins s σ H D I h
 exact wpAny_Return_some (bt (he pins s σ H _ I h) fun v s1 ⟨x,H1,I1,r1,q1⟩=>⟨x,σ,H1,I1,r1,q1⟩)
def Ai(c:TT)(t u:TS):TS:=fun D σ H=>c σ H fun b H1=>if b=true then t D σ H1 else u D σ H1
theorem bN{c:Expr}{a b:List Stmt}{tc:TT}(hc:PT X c tc)(ha:PSs X a t)(hb:PSs X b u):PS X (.If c a b pos) (Ai tc t u):=by
 intro pins s σ H D I h
 refine wpAny_If (bt (hc pins s σ H _ I h) fun d s1 ⟨H1,I1,q1⟩=>?_)
 cases d with
 | true=>exact ha pins s1 σ H1 D I1 q1
 | false=>exact hb pins s1 σ H1 D I1 q1
end
abbrev TG:=V→St→Hp→(St→Hp→Prop)→Prop
abbrev gr:=List V→St→Hp→(St→Hp→Prop)→Prop
def PG(X:Cx)(target:Expr)(t:TG):Prop:=
 ∀ (pins:List (Addr × Obj)) (s:Shared) (σ : St) (H:Hp) (v:V) (u:Value) (Q:St→Hp→Prop),Inv X pins σ H s→RelV v u→t v σ H Q→
  wpAny (model X.prog X.w) X.A (assign target X.env u) (fun _ s'=>∃ σ' H',Inv X pins σ' H' s'∧Q σ' H') X.xe s
def PGs(X:Cx)(ts:List Expr)(t:gr):Prop:=
 ∀ (pins:List (Addr × Obj)) (s:Shared) (σ : St) (H:Hp) (vs:List V) (us:List Value) (Q:St→Hp→Prop),Inv X pins σ H s→Vals vs us→t vs σ H Q→
  wpAny (model X.prog X.w) X.A (assignInOrder ((assignEach ts X.env).map (·.2)) us) (fun _ s'=>∃ σ' H',Inv X pins σ' H' s'∧Q σ' H') X.xe s
abbrev oY:=V→V→V→Hp→(Hp→Prop)→Prop
def PSet(X:Cx)(t:oY):Prop:=
 ∀ (pins:List (Addr × Obj)) (s:Shared) (σ : St) (H:Hp) (o i v:V) (ov iv u:Value) (Q:Hp→Prop),Inv X pins σ H s→RelV o ov→RelV i iv→RelV v u→t o i v H Q→
  wpAny (model X.prog X.w) X.A (setItem ov iv u) (fun _ s'=>∃ H',Inv X pins σ H' s'∧Q H') X.xe s
section
variable{X:Cx}{pos:Pos}
def gZ(i:Nat):TG:=fun v σ H Q=>Q (σ.set i (some v)) H
theorem zq{i:Nat}{x:Str}(hN:X.N.Nodup)(hi:X.N[i]? = some x)(hx:aE X.env.scope x)(hf:X.fn x=true∨X.env.scope.names.lookup x=some .local:=by first | exact .inl rfl | exact .inr rfl | assumption):PG X (.Name x pos) (gZ i):=by
 intro pins s σ H v u Q I r h
 exact wpAny_assign_Name (pc I hN hi hx r (fun s' I'=>⟨_,H,I',h⟩) hf)
def uc:gr:=fun vs σ H Q=>vs=[]∧Q σ H
def nW(t:TG)(u:gr):gr:=fun vs σ H Q=>∃ v r,vs=v::r∧t v σ H fun σ' H'=>u r σ' H' Q
theorem dS:PGs X [] uc:=by
 intro pins s σ H vs us Q I r h
 obtain⟨e,h⟩:=h
 subst e
 cases r
 exact assignInOrder_nil ⟨σ,H,I,h⟩
theorem bW{e:Expr}{es:List Expr}{t:TG}{u:gr}(h1:PG X e t)(h2:PGs X es u)
  (hs:(assignEach (e::es) X.env).map (·.2)=assign e X.env::(assignEach es X.env).map (·.2):=by rfl):PGs X (e::es) (nW t u):=by
 intro pins s σ H vs us Q I r h
 obtain⟨v,vr,e1,h⟩:=h
 subst e1
 cases r with
 | cons r rr=>
  rw[hs]
  refine assignInOrder_cons (bt (h1 pins s σ H _ _ _ I r h) fun _ s1 ⟨σ1,H1,I1,q1⟩=>?_)
  exact h2 pins s1 σ1 H1 _ _ Q I1 rr q1
def uG(K:PySem.W.Frag)(n:Nat)(t:gr):TG:=fun v σ H Q=>∃ a xs,v = .ref a∧SqT K H a xs∧xs.length=n∧t xs σ H Q
theorem AD{es:List Expr}{k:Nat}{t:gr}{n:Nat}(hc:X.calm=true)(h:PGs X es t)
  (hn:(assignEach es X.env).length=n:=by rfl) (hst:(assignEach es X.env).findIdx? (·.1)=none:=by rfl):PG X (.Tuple es k pos) (uG X.K n t):=by
 intro pins s σ H v u Q I r hw
 obtain⟨a,xs,e1,hq,hl,hw⟩:=hw
 subst e1
 cases r
 obtain⟨its,rv,ht,hz⟩:=I.tuple hq
 refine assign_Tuple_tuple (I.ok.hd hc) ht (by simp[hn,← hl,rv.length]) hst fun h' hx=>?_
 have I1:Inv X pins σ H { s with heap:=h' }:=I.kept (t':=s.toks) fun b o e=>hx b o (Nat.ne_of_lt (Heap.lt_size e)) e
 exact h pins _ σ H xs _ Q I1 (by simpa using rv) hw
def Au(to ti:TE)(t:oY):TG:=fun v σ H Q=>to σ H fun o H1=>ti σ H1 fun i H2=>t o i v H2 fun H3=>Q σ H3
theorem kS{o i:Expr}{to ti:TE}{t:oY}(ho:PE X o to)(hi:PE X i ti)(hs:PSet X t)
  (ha:∀ v,assign (.Subscript o i pos) X.env v=(do
   let ov ← holding [v] (eval o X.env)
   let iv ← holding [v,ov] (eval i X.env)
   standAt pos
   holding [v,ov,iv] (setItem ov iv v)
   release [v,ov,iv] []):=by intro _; rfl):PG X (.Subscript o i pos) (Au to ti t):=by
 intro pins s σ H v u Q I r h
 rw[ha]
 refine wpAny_bind (wpAny_holding (bt (ho pins s σ H _ I h) fun ov s1 ⟨x,H1,I1,r1,q1⟩=>?_))
 refine wpAny_bind (wpAny_holding (bt (hi pins s1 σ H1 _ I1 q1) fun iv s2 ⟨y,H2,I2,r2,q2⟩=>?_))
 refine wpAny_bind (wpAny_standAt (wpAny_bind (wpAny_holding (bt (hs pins s2 σ H2 x y v ov iv u _ I2 r1 r2 r q2) fun _ s3 ⟨H3,I3,q3⟩=>?_))))
 exact wpAny_release ⟨σ,H3,I3,q3⟩
def pK(te:TE)(g:TG):TS:=fun D σ H=>te σ H fun x H1=>g x σ H1 D.nx
theorem im{tg e:Expr}{te:TE}{g:TG}(he:PE X e te)(hg:PG X tg g)(hs:swapsWithSole [tg] e pos.line X.env=pure false:=by rfl)(hw:swappedStores [tg] e X.env=pure none:=by rfl)
  (h1:(assignEach [tg] X.env).map (·.2)=[assign tg X.env]:=by rfl):PS X (.Assign [tg] e pos) (pK te g):=by
 intro pins s σ H D I h
 refine wpAny_Assign_stores (bt (he pins s σ H _ I h) fun v s1 ⟨x,H1,I1,r1,q1⟩=>?_) hs hw
 rw[h1]
 exact bt (hg pins s1 σ H1 x v _ I1 r1 q1) fun _ s2 q=>q
theorem BC{i:Nat}{x:Str}{e:Expr}{te:TE}{pos':Pos}(hN:X.N.Nodup)(hi:X.N[i]? = some x)(hx:aE X.env.scope x)(he:PE X e te)(hs:swapsWith e (some (.Name x pos')) pos.line X.env=pure false:=by rfl)(hf:X.fn x=true∨X.env.scope.names.lookup x=some .local:=by first | exact .inl rfl | exact .inr rfl | assumption) :
  PS X (.Assign [.Name x pos'] e pos) (pK te (gZ i)):=by
 intro pins s σ H D I h
 refine wpAny_Assign_Name (bt (he pins s σ H _ I h) fun v s1 ⟨y,H1,I1,r1,q1⟩=>?_) hs
 exact pc I1 hN hi hx r1 (fun s2 I2=>⟨_,H1,I2,q1⟩) hf
end
section
variable{X:Cx}{pos:Pos}
def Bu(c:TT)(tb:TS):TS:=fun D σ H=>∃ W:Nat→St→Hp→Prop,(∃ m,W m σ H)∧∀ m σ H,W m σ H→
 c σ H fun b H1=>if b=true then ∃ N:St→Hp→Prop,(∀ σ' H',N σ' H'→∃ m',m'<m∧W m' σ' H')∧tb { D with nx:=N,ct:=N,bk:=D.nx } σ H1 else D.nx σ H1
theorem yq{c:Expr}{body:List Stmt}{tc:TT}{tb:TS}(hp:PassesOwn (model X.prog X.w) X.A X.env X.xe)(hc:PT X c tc)(hb:PSs X body tb):PS X (.While c body [] pos) (Bu tc tb):=by
 intro pins s σ H D I h
 obtain⟨W,⟨m0,w0⟩,turn⟩:=h
 refine wpAny_While (codeAny_whileLoop (fun n s'=>∃ σ' H',Inv X pins σ' H' s'∧W n σ' H') ?_ m0 ⟨σ,H,I,w0⟩)
 rintro n s1 ⟨σ1,H1,I1,w1⟩
 refine wpAny_passesOwn hp (bt (hc pins s1 σ1 H1 _ I1 (turn n σ1 H1 w1)) fun b s2 ⟨H2,I2,q2⟩=>?_)
 cases b with
 | true=>
  obtain⟨N,hN,q2⟩:=q2
  rw[if_pos rfl]
  refine wpAny_passesOwn hp (bt (hb pins s2 σ1 H2 _ I2 q2) fun f s3 q3=>?_)
  cases f with
  | next=>
   obtain⟨σ3,H3,I3,n3⟩:=q3
   obtain⟨m',hm,w3⟩:=hN σ3 H3 n3
   exact⟨m',hm,σ3,H3,I3,w3⟩
  | cont=>
   obtain⟨σ3,H3,I3,n3⟩:=q3
   obtain⟨m',hm,w3⟩:=hN σ3 H3 n3
   exact⟨m',hm,σ3,H3,I3,w3⟩
  | brk=>exact q3
  | ret v=>exact q3
 | false=>
  rw[if_neg Bool.false_ne_true]
  exact wpAny_execs_nil ⟨σ1,H2,I2,q2⟩
end
set_option genInjectivity false in
set_option genSizeOf false in
structure It where
 go:Nat→Hp→Prop
 yld:Nat→Hp→V→Hp→Prop
 stop:Nat→Hp→Prop
def gC(X:Cx)(pins:List (Addr × Obj))(H:Hp)(b:Addr):Prop:=
 H b=none∧b≠X.env.locals∧b∉X.fs∧(b∈X.ex∨X.s₀.heap.objs.size≤b)∧(∀ x c,X.env.cells.lookup x=some c→c≠b)∧∀ p∈X.pn++pins,p.1≠b
theorem Inv.fpOk{X:Cx}{pins:List (Addr × Obj)}{σ : St}{H H':Hp}{s:Shared}{b:Addr}(I:Inv X pins σ H s)(hb:s.heap.objs.size≤b)(hn:H' b=none):gC X pins H' b:=by
 refine⟨hn,Nat.ne_of_gt (Nat.lt_of_lt_of_le I.lt hb),I.nofs hb,.inr (Nat.le_trans I.sz hb),fun x c e z=>?_,fun p hp z=>?_⟩
 ·obtain⟨v,q⟩:=I.cell x c e
  exact absurd (Nat.lt_of_lt_of_le q.lt (by rw[z]; exact hb)) (Nat.lt_irrefl _)
 ·exact absurd (Nat.lt_of_lt_of_le (Heap.lt_size (I.pin p hp).1) (by rw[z]; exact hb)) (Nat.lt_irrefl _)
structure iH (P:Program) (w:World) (K:PySem.W.Frag) (tg:Expr) (J:It) (fp:List Addr) (it:Addr) (tn:Nat→Heap→Prop):Prop where
 mem:it∈fp
 obj:∀ i h,tn i h→∀ b∈fp,∃ o,h.get? b=some o∧∀ v,o.data ≠ .cell v
 keep:∀ i h h',tn i h→(∀ b∈fp,∀ o,h.get? b=some o→h'.get? b=some o)→tn i h'
 item:∀ (X:Cx),X.prog=P→X.w=w→X.K=K→X.calm=true→∀ (i:Nat) (pins:List (Addr × Obj)) (s:Shared) (σ : St) (H:Hp) (E:Value→Shared→Prop),Inv X pins σ H s→(∀ b∈fp,gC X pins H b)→tn i s.heap→J.go i H→
  wpAny (model P w) X.A (pyNext (.ref it)) (fun r s1=>∃ u,r=some u∧
   wpAny (model P w) X.A (letOwnedTupleGo tg (.ref it) u) (fun _ s2=>∃ x H',Inv X pins σ H' s2∧RelV x u∧J.yld i H x H'∧tn (i+1) s2.heap∧∀ b∈fp,H' b=none) E s1) E s
 done:∀ (X:Cx),X.prog=P→X.w=w→X.K=K→X.calm=true→∀ (i:Nat) (pins:List (Addr × Obj)) (s:Shared) (σ : St) (H:Hp) (E:Value→Shared→Prop),Inv X pins σ H s→(∀ b∈fp,gC X pins H b)→tn i s.heap→J.stop i H→
  wpAny (model P w) X.A (pyNext (.ref it)) (fun r s1=>r=none∧Inv X pins σ H s1) E s
 self:∀ (A:Around) (i:Nat) (s:Shared) (Q:Value→Shared→Prop) (E:Value→Shared→Prop),tn i s.heap→Q (.ref it) s→wpAny (model P w) A (pyIter (.ref it)) Q E s
abbrev TI:=St→Hp→(It→Hp→Prop)→Prop
def C0(X:Cx)(pins:List (Addr × Obj))(σ : St)(tg:Expr)(R:It→Hp→Prop)(itv:Value)(s2:Shared):Prop:=
 ∃ (it:Addr) (fp:List Addr) (tn:Nat→Heap→Prop) (J:It) (H':Hp),itv = .ref it∧Inv X pins σ H' s2∧iH X.prog X.w X.K tg J fp it tn∧tn 0 s2.heap∧(∀ b∈fp,gC X pins H' b)∧R J H'
def PI(X:Cx)(tg iter:Expr)(wi:TI):Prop:=
 ∀ (pins:List (Addr × Obj)) (s:Shared) (σ : St) (H:Hp) (R:It→Hp→Prop),Inv X pins σ H s→wi σ H R→
  wpAny (model X.prog X.w) X.A (eval iter X.env) (fun v s1=>wpAny (model X.prog X.w) X.A (pyIter v) (C0 X pins σ tg R) X.xe s1) X.xe s
theorem nU{M:Model}{A:Around}{E:Value→Shared→Prop}{s:Shared}{tg:Expr}{it:Addr}{u:Value}{o:Obj}{n:String}{vs:Array Value}{Q:Unit→Shared→Prop}(ho:s.heap.get? it=some o)(hc:o.cls = .type n)(hd:o.data = .fields vs)
    (hn:["enumerate", "zip", "dict_itemiterator", "dict_reverseitemiterator", "odict_iterator", "itertools.zip_longest", "itertools.pairwise"].contains n=false) (hQ:Q () s):wpAny M A (letOwnedTupleGo tg (.ref it) u) Q E s:=by
  unfold letOwnedTupleGo
  cases tg <;> first
    | exact wpAny_pure hQ
    | (cases u <;> first
        | exact wpAny_pure hQ
        | (refine wpAny_bind (wpAny_load ho ?_)
           rw[hc,hd]
           show wpAny M A (if (["enumerate", "zip", "dict_itemiterator", "dict_reverseitemiterator", "odict_iterator", "itertools.zip_longest", "itertools.pairwise"].contains n&&vs[0]? == some (rawInt _))=true then _ else _) Q E s
           rw[if_neg (by intro h; rw[hn,Bool.false_and]at h; cases h)]
           exact wpAny_pure hQ))
def ly(K:PySem.W.Frag)(a:Addr):It:=
 ⟨fun i H=>∃ xs x,SqL K H a xs∧xs[i]? = some x,fun i H x H'=>H'=H∧∀ xs,SqL K H a xs→xs[i]? = some x,fun i H=>∃ xs,SqL K H a xs∧xs.length≤i⟩
def vR(K:PySem.W.Frag)(a:Addr):It:=
 ⟨fun i H=>∃ xs x,SqT K H a xs∧xs[i]? = some x,fun i H x H'=>H'=H∧∀ xs,SqT K H a xs→xs[i]? = some x,fun i H=>∃ xs,SqT K H a xs∧xs.length≤i⟩
def jN(lo:Int)(n:Nat):It:=⟨fun i _=>i<n,fun i H x H'=>H'=H∧x = .int (lo+i),fun i _=>n≤i⟩
theorem ve{P:Program}{w:World}{K:PySem.W.Frag}{tg:Expr}(a it:Addr):iH P w K tg (ly K a) [it] it (fun i h=>h.IsListIter it a i) where
 mem:=by simp
 obj:=fun i h st b hb=>by
  have e:b=it:=by simpa using hb
  subst e
  obtain⟨o,e,c,d⟩:=st
  exact⟨o,e,fun v z=>by rw[d]at z; cases z⟩
 keep:=fun i h h' st k=>st.at fun o e=>k it (by simp) o e
 item:=by
  intro X hP hw hK hc i pins s σ H E I hf st hg
  subst hP hw hK
  obtain⟨xs,x,hq,hx⟩:=hg
  obtain⟨its,rv,p,hz⟩:=I.list hq
  obtain⟨u,hu,ru⟩:=rv.get hx
  obtain⟨f0,f1,f2,f3,f4,f5⟩:=hf it (by simp)
  refine wpAny_pyNext_list_item st p.isList (x:=u) (by simpa using hu) fun h' st' sb=>?_
  have I1:Inv X pins σ H { s with heap:=h' }:=I.turned (t':=s.toks) (fun b o hb e=>(sb.2 b hb).trans e) f0 f1 f3 f4 f5
  obtain⟨o,e,c,d⟩:=id st'
  exact⟨u,rfl,nU (s:={ s with heap:=h' }) e c d (by decide) ⟨x,H,I1,ru,⟨rfl,fun ys hy=>by rw[I.list_inj hy hq]; exact hx⟩,st',fun b hb=>(hf b hb).1⟩⟩
 done:=by
  intro X hP hw hK hc i pins s σ H E I hf st hg
  subst hP hw hK
  obtain⟨xs,hq,hx⟩:=hg
  obtain⟨its,rv,p,hz⟩:=I.list hq
  obtain⟨f0,f1,f2,f3,f4,f5⟩:=hf it (by simp)
  have hl:=rv.length
  exact wpAny_pyNext_list_end (I.ok.hd hc) st p.isList (by simp; omega) fun h' eb=>⟨rfl,I.turned (t':=s.toks) (fun b o hb e=>eb b o hb e) f0 f1 f3 f4 f5⟩
 self:=fun _ _ _ _ _ st h=>wpAny_pyIter_listiter st h
theorem uU{P:Program}{w:World}{K:PySem.W.Frag}{tg:Expr}(a it:Addr):iH P w K tg (vR K a) [it] it (fun i h=>h.IsTupleIter it a i) where
 mem:=by simp
 obj:=fun i h st b hb=>by
  have e:b=it:=by simpa using hb
  subst e
  obtain⟨o,e,c,d⟩:=st
  exact⟨o,e,fun v z=>by rw[d]at z; cases z⟩
 keep:=fun i h h' st k=>st.at fun o e=>k it (by simp) o e
 item:=by
  intro X hP hw hK hc i pins s σ H E I hf st hg
  subst hP hw hK
  obtain⟨xs,x,hq,hx⟩:=hg
  obtain⟨its,rv,p,hz⟩:=I.tuple hq
  obtain⟨u,hu,ru⟩:=rv.get hx
  obtain⟨f0,f1,f2,f3,f4,f5⟩:=hf it (by simp)
  refine wpAny_pyNext_tuple_item st (show s.heap.IsTuple a its.toArray from p) (x:=u) (by simpa using hu) fun h' st' sb=>?_
  have I1:Inv X pins σ H { s with heap:=h' }:=I.turned (t':=s.toks) (fun b o hb e=>(sb.2 b hb).trans e) f0 f1 f3 f4 f5
  obtain⟨o,e,c,d⟩:=id st'
  exact⟨u,rfl,nU (s:={ s with heap:=h' }) e c d (by decide) ⟨x,H,I1,ru,⟨rfl,fun ys hy=>by rw[I.tuple_inj hy hq]; exact hx⟩,st',fun b hb=>(hf b hb).1⟩⟩
 done:=by
  intro X hP hw hK hc i pins s σ H E I hf st hg
  subst hP hw hK
  obtain⟨xs,hq,hx⟩:=hg
  obtain⟨its,rv,p,hz⟩:=I.tuple hq
  obtain⟨f0,f1,f2,f3,f4,f5⟩:=hf it (by simp)
  have hl:=rv.length
  exact wpAny_pyNext_tuple_end (I.ok.hd hc) st (show s.heap.IsTuple a its.toArray from p) (by simp; omega) fun h' eb=>⟨rfl,I.turned (t':=s.toks) (fun b o hb e=>eb b o hb e) f0 f1 f3 f4 f5⟩
 self:=fun _ _ _ _ _ st h=>wpAny_pyIter_tupleiter st h
theorem t_{P:Program}{w:World}{K:PySem.W.Frag}{tg:Expr}(it:Addr)(lo:Int)(n:Nat):iH P w K tg (jN lo n) [it] it (fun i h=>IsRangeIter h it (lo+(i:Nat) * 1) ((n:Int) - (i:Nat)) 1) where
 mem:=by simp
 obj:=fun i h st b hb=>by
  have e:b=it:=by simpa using hb
  subst e
  exact⟨_,st,fun v z=>by
   have z':Data.fields _=Data.cell v:=z
   cases z'⟩
 keep:=fun i h h' st k=>k it (by simp) _ st
 item:=by
  intro X hP hw hK hc i pins s σ H E I hf st hg
  subst hP hw hK
  obtain⟨f0,f1,f2,f3,f4,f5⟩:=hf it (by simp)
  have W:=Walks.range (prog:=X.prog) (w:=X.w) (I.ok.hd hc) it lo 1 n
  refine W.item i s _ _ hg st fun v h' tk hv st' kk=>?_
  obtain⟨t,rfl⟩:=hv
  have I1:Inv X pins σ H { s with heap:=h',toks:=tk }:=I.turned (fun b o hb e=>kk b o (by simpa using hb) e) f0 f1 f3 f4 f5
  refine⟨_,rfl,nU (s:={ s with heap:=h',toks:=tk }) (n := "range_iterator") st' rfl rfl (by decide) ⟨.int (lo+i),H,I1,⟨t,?_⟩,⟨rfl,rfl⟩,st',fun b hb=>(hf b hb).1⟩⟩
  rw[Int.mul_one]
 done:=by
  intro X hP hw hK hc i pins s σ H E I hf st hg
  subst hP hw hK
  obtain⟨f0,f1,f2,f3,f4,f5⟩:=hf it (by simp)
  exact wpAny_pyNext_range_end (I.ok.hd hc) st (by have:n≤i:=hg; omega) fun h' eb=>⟨rfl,I.turned (t':=s.toks) (fun b o hb e=>eb b o hb e) f0 f1 f3 f4 f5⟩
 self:=fun _ _ _ _ _ st h=>wpAny_pyIter_rangeiter st h
end L2
namespace L2
open PySem PySem.Spec PyProof.Rows
section
variable{X:Cx}{tg:Expr}
def tU(K:PySem.W.Frag)(tl:TE):TI:=fun σ H R=>tl σ H fun x H1=>∃ a,x = .ref a∧(∃ xs,SqL K H1 a xs)∧R (ly K a) H1
def ya(K:PySem.W.Frag)(tl:TE):TI:=fun σ H R=>tl σ H fun x H1=>∃ a,x = .ref a∧(∃ xs,SqT K H1 a xs)∧R (vR K a) H1
theorem zy{l:Expr}{tl:TE}(hl:PE X l tl):PI X tg l (tU X.K tl):=by
 intro pins s σ H R I h
 refine bt (hl pins s σ H _ I h) fun v s1 ⟨x,H1,I1,r1,q1⟩=>?_
 obtain⟨a,e,⟨xs,hq⟩,q⟩:=q1
 subst e
 cases r1
 obtain⟨its,rv,p,hz⟩:=I1.list hq
 refine wpAny_pyIter_list p.isList ?_
 refine⟨s1.heap.objs.size,[s1.heap.objs.size],_,_,H1,rfl,I1.kept (t':=s1.toks) fun b o e=>Heap.get?_push_of_some _ e,ve a _,⟨_,Heap.get?_push_size _ rfl,rfl,rfl⟩,fun b hb=>?_,q⟩
 have e:b=s1.heap.objs.size:=by simpa using hb
 subst e
 exact I1.fpOk (Nat.le_refl _) (I1.hok.fresh (Nat.le_refl _))
theorem Ck{l:Expr}{tl:TE}(hl:PE X l tl):PI X tg l (ya X.K tl):=by
 intro pins s σ H R I h
 refine bt (hl pins s σ H _ I h) fun v s1 ⟨x,H1,I1,r1,q1⟩=>?_
 obtain⟨a,e,⟨xs,hq⟩,q⟩:=q1
 subst e
 cases r1
 obtain⟨its,rv,p,hz⟩:=I1.tuple hq
 refine wpAny_pyIter_tuple (show s1.heap.IsTuple a its.toArray from p) ?_
 refine⟨s1.heap.objs.size,[s1.heap.objs.size],_,_,H1,rfl,I1.kept (t':=s1.toks) fun b o e=>Heap.get?_push_of_some _ e,uU a _,⟨_,Heap.get?_push_size _ rfl,rfl,rfl⟩,fun b hb=>?_,q⟩
 have e:b=s1.heap.objs.size:=by simpa using hb
 subst e
 exact I1.fpOk (Nat.le_refl _) (I1.hok.fresh (Nat.le_refl _))
theorem xV{pins:List (Addr × Obj)}{σ : St}{H:Hp}{s:Shared}{R:It→Hp→Prop}{E:Value→Shared→Prop}{lo hi:Int}{t u v:Tok}{tk:Nat}(I:Inv X pins σ H s)(h1:-(2 ^ 62)≤lo)(h2:lo<2 ^ 62)(h3:-(2 ^ 62)≤hi)(h4:hi<2 ^ 62)
  (q:R (jN lo (hi - lo).toNat) H):wpAny (model X.prog X.w) X.A (pyIter (.ref s.heap.objs.size)) (C0 X pins σ tg R) E { s with heap:=s.heap.push { cls:=.type "range", data:=.fields #[.int lo t,.int hi u,.int 1 v] },toks:=tk }:=by
 refine wpAny_pyIter_range (IsRange.new ..) (small_one h1 h2 h3 h4) ?_
 have I1:Inv X pins σ H { s with heap:=s.heap.push { cls:=.type "range", data:=.fields #[.int lo t,.int hi u,.int 1 v] },toks:=tk }:=I.kept fun b o e=>Heap.get?_push_of_some _ e
 refine⟨(s.heap.push { cls:=.type "range", data:=.fields #[.int lo t,.int hi u,.int 1 v] }).objs.size,[(s.heap.push { cls:=.type "range", data:=.fields #[.int lo t,.int hi u,.int 1 v] }).objs.size],_,_,H,rfl,
  I1.kept (t':=tk) fun b o e=>Heap.get?_push_of_some _ e,t_ _ lo (hi - lo).toNat,?_,fun b hb=>?_,q⟩
 ·have e1:lo+((0:Nat):Int) * 1=lo:=by simp
  have e2:(((hi - lo).toNat:Nat):Int) - ((0:Nat):Int)=Builtin.Range.rangeSize lo hi 1:=by rw[rangeSize_one]; split <;> omega
  show IsRangeIter _ _ (lo+((0:Nat):Int) * 1) ((((hi - lo).toNat:Nat):Int) - ((0:Nat):Int)) 1
  rw[e1,e2]
  exact Heap.get?_push_size _ rfl
 ·have e:b=(s.heap.push { cls:=.type "range", data:=.fields #[.int lo t,.int hi u,.int 1 v] }).objs.size:=by simpa using hb
  subst e
  exact I1.fpOk (Nat.le_refl _) (I1.hok.fresh (Nat.le_refl _))
def yR(ta:TA):TI:=fun σ H R=>ta σ H fun vs H1=>∃ j:Int,vs=[.int j]∧-(2 ^ 62)≤j∧j<2 ^ 62∧R (jN 0 j.toNat) H1
theorem fR{a:Expr}{ta:TA}{p pos:Pos}(hg:Gl X "range") (hm:X.mg "range" = none) (ha:PA X [a] ta) (hs:starEach [a] X.env=[(false,eval a X.env)]:=by rfl):PI X tg (.Call (.Name "range" p) [a] [] pos) (yR ta):=by
 intro pins s σ H R I h
 refine Call_ (fT I hg hm boot_range (PyProof.Rows.callWith_type1 (bt (ha pos pins s σ H _ I h) fun us s1 ⟨vs,H1,I1,r1,q1⟩=>?_) hs rfl))
 obtain⟨j,e,q1,q2,q⟩:=q1
 subst e
 cases r1 with
 | cons r rr=>
  cases rr
  obtain⟨t,rfl⟩:=r
  exact call_range_1 (xV I1 (by omega) (by omega) q1 q2 (by simpa using q))
def BY(wi:TI)(g:TG)(tb:TS):TS:=fun D σ H=>wi σ H fun J H1=>∃ W:Nat→Nat→St→Hp→Prop,(∃ m,W 0 m σ H1)∧∀ i m σ H,W i m σ H→
 (J.stop i H∧D.nx σ H)∨(J.go i H∧∃ N:St→Hp→Prop,(∀ σ' H',N σ' H'→∃ m',m'<m∧W (i+1) m' σ' H')∧∀ x H',J.yld i H x H'→g x σ H' fun σ2 H2=>tb { D with nx:=N,ct:=N,bk:=D.nx } σ2 H2)
def i0(fp:List Addr)(h:Heap):List (Addr × Obj):=fp.filterMap fun b=>(h.get? b).map fun o=>(b,o)
theorem gg{fp:List Addr}{h:Heap}{b:Addr}{o:Obj}(hb:b∈fp)(e:h.get? b=some o):(b,o)∈i0 fp h:=List.mem_filterMap.mpr ⟨b,hb,by rw[e]; rfl⟩
theorem vc{fp:List Addr}{h:Heap}{p:Addr × Obj}(hp:p∈i0 fp h):p.1∈fp∧h.get? p.1=some p.2:=by
 obtain⟨b,hb,e⟩:=List.mem_filterMap.mp hp
 cases q:h.get? b with
 | none=>rw[q]at e; cases e
 | some o=>
  rw[q]at e
  have e':(b,o)=p:=Option.some.inj e
  subst e'
  exact⟨hb,q⟩
theorem Inv.pinned{pins:List (Addr × Obj)}{σ : St}{H:Hp}{s:Shared}{fp:List Addr}(I:Inv X pins σ H s)(hf:∀ b∈fp,gC X pins H b)(ho:∀ b∈fp,∃ o,s.heap.get? b=some o∧∀ v,o.data ≠ .cell v):Inv X (pins++i0 fp s.heap) σ H s:=
 I.pins_of fun p hp=>(List.mem_append.mp hp).elim (fun z=>I.pin p (List.mem_append_right _ z)) fun z=>by
  obtain⟨hb,e⟩:=vc z
  obtain⟨f0,f1,f2,_⟩:=hf p.1 hb
  obtain⟨o,e',d⟩:=ho p.1 hb
  rw[e]at e'; cases e'
  exact⟨e,f0,f1,f2,d⟩
theorem Inv.unpinned{pins pl:List (Addr × Obj)}{σ : St}{H:Hp}{s:Shared}(I:Inv X (pins++pl) σ H s):Inv X pins σ H s:=I.pins_of fun p hp=>I.pin p (List.mem_append_right _ (List.mem_append_left _ hp))
theorem cE{iter:Expr}{body:List Stmt}{wi:TI}{g:TG}{tb:TS}{pos:Pos}(hp:PassesOwn (model X.prog X.w) X.A X.env X.xe)(hc:X.calm=true)(hi:PI X tg iter wi)(hg:PG X tg g)(hb:PSs X body tb)
  (hs:∀ x,foldedSetIterable iter X.env x=pure x:=by intro _; rfl):PS X (.For tg iter body [] pos) (BY wi g tb):=by
 intro pins s σ H D I h
 refine wpAny_For (bt (hi pins s σ H _ I h) fun v s1 h1=>bt h1 fun itv s2 h2=>?_) hs
 obtain⟨it,fp,tn,J,H2,e,I2,T,st2,f2,W,⟨m0,w0⟩,turn⟩:=h2
 subst e
 -- what stays true of the iterator's objects through the loop
 have stat:∀ {H':Hp},(∀ b∈fp,H' b=none)→∀ b∈fp,gC X pins H' b:=fun hn b hb=>⟨hn b hb,(f2 b hb).2⟩
 refine codeAny_forLoop_any (fun n s'=>∃ i σ' H',Inv X pins σ' H' s'∧tn i s'.heap∧(∀ b∈fp,H' b=none)∧W i n σ' H') ?_ m0 ⟨0,σ,H2,I2,st2,fun b hb=>(f2 b hb).1,w0⟩
 rintro n s3 ⟨i,σ3,H3,I3,st3,fr3,w3⟩
 rcases turn i n σ3 H3 w3 with ⟨stop,qn⟩ | ⟨go,N,hN,step⟩
 ·refine wpAny_passesOwn hp (bt (T.done X rfl rfl rfl hc i pins s3 σ3 H3 X.xe I3 (stat fr3) st3 stop) fun r s4 ⟨hr,I4⟩=>?_)
  subst hr
  exact wpAny_execs_nil ⟨σ3,H3,I4,qn⟩
 ·refine wpAny_passesOwn hp (bt (T.item X rfl rfl rfl hc i pins s3 σ3 H3 X.xe I3 (stat fr3) st3 go) fun r s4 ⟨u,hr,h4⟩=>?_)
  subst hr
  refine wpAny_passesOwn hp (bt h4 fun _ s5 ⟨x,H5,I5,r5,y5,st5,fr5⟩=>?_)
  have I5':=I5.pinned (stat fr5) (T.obj _ _ st5)
  refine wpAny_passesOwn hp (bt (hg _ s5 σ3 H5 x u _ I5' r5 (step x H5 y5)) fun _ s6 ⟨σ6,H6,I6,q6⟩=>?_)
  refine wpAny_passesOwn hp (bt (hb _ s6 σ6 H6 _ I6 q6) fun f s7 q7=>?_)
  have again:∀ {σ7:St} {H7:Hp},Inv X (pins++i0 fp s5.heap) σ7 H7 s7→N σ7 H7→∃ m,m<n∧∃ i σ' H',Inv X pins σ' H' s7∧tn i s7.heap∧(∀ b∈fp,H' b=none)∧W i m σ' H':=fun {σ7 H7} I7 n7=>by
   obtain⟨m',hm,w7⟩:=hN σ7 H7 n7
   refine⟨m',hm,i+1,σ7,H7,I7.unpinned,T.keep _ _ _ st5 fun b hb o e=>(I7.pin (b,o) (List.mem_append_right _ (List.mem_append_right _ (gg hb e)))).1,fun b hb=>?_,w7⟩
   obtain⟨o,e,d⟩:=T.obj _ _ st5 b hb
   exact(I7.pin (b,o) (List.mem_append_right _ (List.mem_append_right _ (gg hb e)))).2.1
  cases f with
  | next=>obtain⟨σ7,H7,I7,n7⟩:=q7; exact again I7 n7
  | cont=>obtain⟨σ7,H7,I7,n7⟩:=q7; exact again I7 n7
  | brk=>obtain⟨σ7,H7,I7,q7⟩:=q7; exact⟨σ7,H7,I7.unpinned,q7⟩
  | ret v=>obtain⟨x7,σ7,H7,I7,r7,q7⟩:=q7; exact⟨x7,σ7,H7,I7.unpinned,r7,q7⟩
end
theorem yb{K:PySem.W.Frag}{a:Addr}{xs:List V}{g:TG}{tb:TS}{D:dF}{σ : St}{H:Hp}(Pv:Nat→St→Hp→Prop)(h0:Pv 0 σ H)(hl:∀ i σ H,i≤xs.length→Pv i σ H→SqL K H a xs)
  (hs:∀ i x σ H,xs[i]? = some x→Pv i σ H→g x σ H fun σ2 H2=>tb { D with nx:=Pv (i+1),ct:=Pv (i+1),bk:=D.nx } σ2 H2) (hd:∀ σ H,Pv xs.length σ H→D.nx σ H) :
  ∃ W:Nat→Nat→St→Hp→Prop,(∃ m,W 0 m σ H)∧∀ i m σ H,W i m σ H→
   ((ly K a).stop i H∧D.nx σ H)∨((ly K a).go i H∧∃ N:St→Hp→Prop,(∀ σ' H',N σ' H'→∃ m',m'<m∧W (i+1) m' σ' H')∧∀ x H',(ly K a).yld i H x H'→g x σ H' fun σ2 H2=>tb { D with nx:=N,ct:=N,bk:=D.nx } σ2 H2):=by
 refine⟨fun i m σ H=>m=xs.length - i∧i≤xs.length∧Pv i σ H,⟨xs.length,by simp,Nat.zero_le _,h0⟩,?_⟩
 rintro i m σ H ⟨rfl,hi,p⟩
 have q:=hl i σ H hi p
 by_cases hlt:i<xs.length
 ·refine .inr ⟨⟨xs,xs[i],q,by simp[hlt]⟩,Pv (i+1),fun σ' H' p'=>⟨xs.length - (i+1),by omega,rfl,hlt,p'⟩,fun x H' y=>?_⟩
  obtain⟨e,y⟩:=y
  subst e
  exact hs i x σ _ (y xs q) p
 ·have e:i=xs.length:=by omega
  subst e
  exact .inl ⟨⟨xs,q,Nat.le_refl _⟩,hd σ H p⟩
theorem vq{lo:Int}{n:Nat}{g:TG}{tb:TS}{D:dF}{σ : St}{H:Hp}(Pv:Nat→St→Hp→Prop)(h0:Pv 0 σ H)
  (hs:∀ i σ H,i<n→Pv i σ H→g (.int (lo+i)) σ H fun σ2 H2=>tb { D with nx:=Pv (i+1),ct:=Pv (i+1),bk:=D.nx } σ2 H2) (hd:∀ σ H,Pv n σ H→D.nx σ H) :
  ∃ W:Nat→Nat→St→Hp→Prop,(∃ m,W 0 m σ H)∧∀ i m σ H,W i m σ H→
   ((jN lo n).stop i H∧D.nx σ H)∨((jN lo n).go i H∧∃ N:St→Hp→Prop,(∀ σ' H',N σ' H'→∃ m',m'<m∧W (i+1) m' σ' H')∧∀ x H',(jN lo n).yld i H x H'→g x σ H' fun σ2 H2=>tb { D with nx:=N,ct:=N,bk:=D.nx } σ2 H2):=by
 refine⟨fun i m σ H=>m=n - i∧i≤n∧Pv i σ H,⟨n,by simp,Nat.zero_le _,h0⟩,?_⟩
 rintro i m σ H ⟨rfl,hi,p⟩
 by_cases hlt:i<n
 ·refine .inr ⟨hlt,Pv (i+1),fun σ' H' p'=>⟨n - (i+1),by omega,rfl,hlt,p'⟩,fun x H' y=>?_⟩
  obtain⟨e,y⟩:=y
  subst e y
  exact hs i σ _ hlt p
 ·have e:i=n:=by omega
  subst e
  exact .inl ⟨Nat.le_refl _,hd σ H p⟩
end L2
namespace L2
open PySem PySem.Spec PyProof.Rows
abbrev R2:=V→V→Hp→VK→Prop
def OpR(X:Cx)(f:Value→Value→Sem Value)(r:R2):Prop:=
 ∀ (pins:List (Addr × Obj)) (s:Shared) (σ : St) (H:Hp) (x y:V) (v u:Value) (Q:VK),Inv X pins σ H s→RelV x v→RelV y u→r x y H Q→
  wpAny (model X.prog X.w) X.A (f v u) (EP X pins σ Q) X.xe s
def UnR(X:Cx)(f:Value→Sem Value)(r:V→Hp→VK→Prop):Prop:=
 ∀ (pins:List (Addr × Obj)) (s:Shared) (σ : St) (H:Hp) (x:V) (v:Value) (Q:VK),Inv X pins σ H s→RelV x v→r x H Q→
  wpAny (model X.prog X.w) X.A (f v) (EP X pins σ Q) X.xe s
def CallR(X:Cx)(f:Value)(r:List V→Hp→VK→Prop):Prop:=
 ∀ (pins:List (Addr × Obj)) (s:Shared) (σ : St) (H:Hp) (xs:List V) (us:List Value) (Q:VK),Inv X pins σ H s→Vals xs us→r xs H Q→
  wpAny (model X.prog X.w) X.A (call f us) (EP X pins σ Q) X.xe s
def vO(r:R2)(ta tb:TE):TE:=fun σ H Q=>ta σ H fun x H1=>tb σ H1 fun y H2=>r x y H2 Q
def De(r:V→Hp→VK→Prop)(ta:TE):TE:=fun σ H Q=>ta σ H fun x H1=>r x H1 Q
def rI(C:Int→Int→Prop)(g:Int→Int→V):R2:=fun x y H Q=>∃ i j,x = .int i∧y = .int j∧C i j∧Q (g i j) H
def mP(g:Int→Int→V):R2:=fun x y H Q=>∃ i j,x = .int i∧y = .int j∧Q (g i j) H
def rU(g:Int→V):V→Hp→VK→Prop:=fun x H Q=>∃ i,x = .int i∧Q (g i) H
section
variable{X:Cx}{a b c:Expr}{ta tb tc:TE}{pos:Pos}
theorem xb(ha:PE X a ta)(hb:PE X b tb){pins:List (Addr × Obj)}{s:Shared}{σ : St}{H:Hp}{R:V→V→Hp→Prop}(I:Inv X pins σ H s)
  (h:ta σ H fun x H1=>tb σ H1 fun y H2=>R x y H2) {Q:Value→Shared→Prop} {f:Value→Value→Sem Value}
  (hf:∀ v u s2 x y H2,Inv X pins σ H2 s2→RelV x v→RelV y u→R x y H2→wpAny (model X.prog X.w) X.A (f v u) Q X.xe s2) :
  wpAny (model X.prog X.w) X.A (eval a X.env) (fun v s₁=>wpAny (model X.prog X.w) X.A (eval b X.env) (fun u s₂=>wpAny (model X.prog X.w) X.A (f v u) Q X.xe s₂) X.xe s₁) X.xe s:=by
 refine bt (ha pins s σ H _ I h) fun v s1 ⟨x,H1,I1,r1,q1⟩=>?_
 refine bt (hb pins s1 σ H1 _ I1 q1) fun u s2 ⟨y,H2,I2,r2,q2⟩=>?_
 exact hf v u s2 x y H2 I2 r1 r2 q2
theorem ao{op:Operator}{r:R2}(ho:OpR X (binaryOp op) r)(ha:PE X a ta)(hb:PE X b tb):PE X (.BinOp a op b pos) (vO r ta tb):=by
 intro pins s σ H Q I h
 exact wpAny_BinOp (xb ha hb I h fun v u s2 x y H2 I2 rx ry q=>ho pins s2 σ H2 x y v u Q I2 rx ry q)
theorem gR{op:UnaryOp}{r:V→Hp→VK→Prop}(ho:UnR X (unaryOp op) r)(ha:PE X a ta):PE X (.UnaryOp op a pos) (De r ta):=by
 intro pins s σ H Q I h
 exact UnaryOp_ (bt (ha pins s σ H _ I h) fun v s1 ⟨x,H1,I1,r1,q1⟩=>ho pins s1 σ H1 x v Q I1 r1 q1)
theorem zj{f:Value→Value→Sem Value}{C:Int→Int→Prop}{g:Int→Int→Int}
  (rule:∀ (i j:Int) (t u:Tok) (s:Shared) (Q:Value→Shared→Prop) (E:Value→Shared→Prop),C i j→Q (.int (g i j) s.toks) { s with toks:=s.toks+1 }→wpAny (model X.prog X.w) X.A (f (.int i t) (.int j u)) Q E s) :
  OpR X f (rI C fun i j=>.int (g i j)):=by
 intro pins s σ H x y v u Q I rx ry h
 obtain⟨i,j,rfl,rfl,hc,q⟩:=h
 obtain⟨t,rfl⟩:=rx
 obtain⟨t',rfl⟩:=ry
 exact rule i j t t' s _ _ hc ⟨.int (g i j),H,I.tok _,⟨_,rfl⟩,q⟩
theorem Am{f:Value→Value→Sem Value}{g:Int→Int→Int}
  (rule:∀ (i j:Int) (t u:Tok) (s:Shared) (Q:Value→Shared→Prop) (E:Value→Shared→Prop),Q (.int (g i j) s.toks) { s with toks:=s.toks+1 }→wpAny (model X.prog X.w) X.A (f (.int i t) (.int j u)) Q E s) :
  OpR X f (mP fun i j=>.int (g i j)):=by
 intro pins s σ H x y v u Q I rx ry h
 obtain⟨i,j,rfl,rfl,q⟩:=h
 obtain⟨t,rfl⟩:=rx
 obtain⟨t',rfl⟩:=ry
 exact rule i j t t' s _ _ ⟨.int (g i j),H,I.tok _,⟨_,rfl⟩,q⟩
theorem xH{f:Value→Value→Sem Value}{g:Int→Int→Bool}
  (rule:∀ (i j:Int) (t u:Tok) (s:Shared) (Q:Value→Shared→Prop) (E:Value→Shared→Prop),Q (.bool (g i j)) s→wpAny (model X.prog X.w) X.A (f (.int i t) (.int j u)) Q E s) :
  OpR X f (mP fun i j=>.bl (g i j)):=by
 intro pins s σ H x y v u Q I rx ry h
 obtain⟨i,j,rfl,rfl,q⟩:=h
 obtain⟨t,rfl⟩:=rx
 obtain⟨t',rfl⟩:=ry
 exact rule i j t t' s _ _ ⟨.bl (g i j),H,I,rfl,q⟩
def FN(i j:Int):Prop:=0<j∧j<1073741824
def Ef(i j:Int):Prop:=0≤j∧j≤1000000∧i.natAbs<2 ^ 64
def CMul(i j:Int):Prop:=(-(2 ^ 64)<i∧i<2 ^ 64)∨(-(2 ^ 64)<j∧j<2 ^ 64)
theorem CMul.ok{i j:Int}(h:CMul i j):IntMulOk i j:=by
 rcases h with ⟨h1,h2⟩ | ⟨h1,h2⟩
 ·exact .of_left (intBits_le_64 h1 h2)
 ·exact .of_right (intBits_le_64 h1 h2)
theorem Ah:OpR X (binaryOp .Add) (mP fun i j=>.int (i+j)):=Am fun _ _ _ _ _ _ _ q=>add_int q
theorem gA:OpR X (binaryOp .Sub) (mP fun i j=>.int (i - j)):=Am fun _ _ _ _ _ _ _ q=>sub_int q
theorem An:OpR X (binaryOp .Mult) (rI CMul fun i j=>.int (i * j)):=zj fun _ _ _ _ _ _ _ hc q=>mul_int q hc.ok
theorem gk:OpR X (binaryOp .FloorDiv) (rI FN fun i j=>.int (i / j)):=zj fun i j _ _ _ _ _ hc q=>by
 have h1:(0:Int)<j:=hc.1
 have h2:j<1073741824:=hc.2
 exact floordiv_int (by omega) (by rw[Int.fdiv_eq_ediv_of_nonneg i (by omega)]; exact q) (.inl (PyProof.noPylong_small (by omega)))
theorem cg:OpR X (binaryOp .Mod) (rI (fun _ j=>0<j) fun i j=>.int (i % j)):=zj fun i j _ _ _ _ _ hc q=>by
 have h1:(0:Int)<j:=hc
 exact mod_int' (by omega) (by rw[Int.fmod_eq_emod_of_nonneg i (by omega)]; exact q)
theorem wy:OpR X (binaryOp .Pow) (rI Ef fun i j=>.int (i ^ j.toNat)):=zj fun _ _ _ _ _ _ _ hc q=>pow_int_small hc.1 hc.2.1 hc.2.2 q
theorem Gg{f:Value→Sem Value}{g:Int→Int}
  (rule:∀ (i:Int) (t:Tok) (s:Shared) (Q:Value→Shared→Prop) (E:Value→Shared→Prop),Q (.int (g i) s.toks) { s with toks:=s.toks+1 }→wpAny (model X.prog X.w) X.A (f (.int i t)) Q E s) :
  UnR X f (rU fun i=>.int (g i)):=by
 intro pins s σ H x v Q I rx h
 obtain⟨i,rfl,q⟩:=h
 obtain⟨t,rfl⟩:=rx
 exact rule i t s _ _ ⟨.int (g i),H,I.tok _,⟨_,rfl⟩,q⟩
theorem fW:UnR X (unaryOp .USub) (rU fun i=>.int (-i)):=Gg fun _ _ _ _ _ q=>neg_int q
end
def j7:V→V→Bool
 | .non,.non=>true | .non,.int _=>true | .int _,.non=>true | .non,.bl _=>true | .bl _,.non=>true | .non,.str _=>true | .str _,.non=>true
 | .int _,.int _=>true | .bl _,.bl _=>true | .str _,.str _=>true | .byt _,.byt _=>true
 | .int _,.str _=>true | .str _,.int _=>true | .bl _,.str _=>true | .str _,.bl _=>true
 | _,_=>false
def C4:R2:=fun x y H Q=>j7 x y=true∧Q (.bl (decide (x=y))) H
def C8:R2:=fun x y H Q=>j7 x y=true∧Q (.bl (!decide (x=y))) H
theorem q_{i j:Int}:decide (V.int i=V.int j)=(i == j):=by
 rw[Bool.eq_iff_iff]
 simp
theorem p_{i j:Bool}:decide (V.bl i=V.bl j)=(i == j):=by
 rw[Bool.eq_iff_iff]
 simp
theorem r_{i j:Str}:decide (V.str i=V.str j)=(i == j):=by
 rw[Bool.eq_iff_iff]
 simp
theorem rX{i j:Array UInt8}:decide (V.byt i=V.byt j)=(i.toList == j.toList):=by
 rw[Bool.eq_iff_iff]
 cases i
 cases j
 simp
section
variable{X:Cx}{a b c:Expr}{ta tb tc:TE}{pos:Pos}
theorem bJ{pins:List (Addr × Obj)}{σ : St}{H:Hp}{s:Shared}{Q:VK}{k k':Bool}(I:Inv X pins σ H s)(q:Q (.bl k) H)(e:k=k'):EP X pins σ Q (.bool k') s:=by
 subst e
 exact⟨.bl k,H,I,rfl,q⟩
theorem CA:OpR X (compareOp .Eq) C4:=by
 intro pins s σ H x y v u Q I rx ry h
 obtain⟨hs,q⟩:=h
 cases x with
 | non=>
  cases rx
  cases y with
  | non=>cases ry; exact PySem.EqNone.eq_none_none (bJ I q (by simp))
  | bl j=>cases ry; exact PySem.EqNone.eq_none_bool (bJ I q (by simp))
  | int j=>obtain⟨t',rfl⟩:=ry; exact PySem.EqNone.eq_none_int (bJ I q (by simp))
  | str j=>obtain⟨t',rfl⟩:=ry; exact PySem.EqNone.eq_none_str (bJ I q (by simp))
  | _=>exact absurd (show false=true from hs) Bool.false_ne_true
 | bl i=>
  cases rx
  cases y with
  | non=>cases ry; exact PySem.EqNone.eq_bool_none (bJ I q (by simp))
  | bl j=>cases ry; exact eq_bool (bJ I q p_)
  | str j=>obtain⟨t',rfl⟩:=ry; exact PySem.EqMixed.eq_bool_str (bJ I q (by simp))
  | _=>exact absurd (show false=true from hs) Bool.false_ne_true
 | int i=>
  obtain⟨t,rfl⟩:=rx
  cases y with
  | non=>cases ry; exact PySem.EqNone.eq_int_none (bJ I q (by simp))
  | int j=>obtain⟨t',rfl⟩:=ry; exact eq_int (bJ I q q_)
  | str j=>obtain⟨t',rfl⟩:=ry; exact PySem.EqMixed.eq_int_str (bJ I q (by simp))
  | _=>exact absurd (show false=true from hs) Bool.false_ne_true
 | str i=>
  obtain⟨t,rfl⟩:=rx
  cases y with
  | non=>cases ry; exact PySem.EqNone.eq_str_none (bJ I q (by simp))
  | bl j=>cases ry; exact PySem.EqMixed.eq_str_bool (bJ I q (by simp))
  | int j=>obtain⟨t',rfl⟩:=ry; exact PySem.EqMixed.eq_str_int (bJ I q (by simp))
  | str j=>obtain⟨t',rfl⟩:=ry; exact eq_str (bJ I q r_)
  | _=>exact absurd (show false=true from hs) Bool.false_ne_true
 | byt i=>
  obtain⟨t,rfl⟩:=rx
  cases y with
  | byt j=>obtain⟨t',rfl⟩:=ry; exact PySem.W.eq_bytes (bJ I q rX)
  | _=>exact absurd (show false=true from hs) Bool.false_ne_true
 | _=>cases y <;> exact absurd (show false=true from hs) Bool.false_ne_true
theorem CM:OpR X (compareOp .NotEq) C8:=by
 intro pins s σ H x y v u Q I rx ry h
 obtain⟨hs,q⟩:=h
 cases x with
 | non=>
  cases rx
  cases y with
  | non=>cases ry; exact PySem.EqNone.ne_none_none (bJ I q (by simp))
  | bl j=>cases ry; exact PySem.EqNone.ne_none_bool (bJ I q (by simp))
  | int j=>obtain⟨t',rfl⟩:=ry; exact PySem.EqNone.ne_none_int (bJ I q (by simp))
  | str j=>obtain⟨t',rfl⟩:=ry; exact PySem.EqNone.ne_none_str (bJ I q (by simp))
  | _=>exact absurd (show false=true from hs) Bool.false_ne_true
 | bl i=>
  cases rx
  cases y with
  | non=>cases ry; exact PySem.EqNone.ne_bool_none (bJ I q (by simp))
  | bl j=>cases ry; exact ne_bool (bJ I q (congrArg not p_))
  | str j=>obtain⟨t',rfl⟩:=ry; exact PySem.EqMixed.ne_bool_str (bJ I q (by simp))
  | _=>exact absurd (show false=true from hs) Bool.false_ne_true
 | int i=>
  obtain⟨t,rfl⟩:=rx
  cases y with
  | non=>cases ry; exact PySem.EqNone.ne_int_none (bJ I q (by simp))
  | int j=>obtain⟨t',rfl⟩:=ry; exact ne_int (bJ I q (congrArg not q_))
  | str j=>obtain⟨t',rfl⟩:=ry; exact PySem.EqMixed.ne_int_str (bJ I q (by simp))
  | _=>exact absurd (show false=true from hs) Bool.false_ne_true
 | str i=>
  obtain⟨t,rfl⟩:=rx
  cases y with
  | non=>cases ry; exact PySem.EqNone.ne_str_none (bJ I q (by simp))
  | bl j=>cases ry; exact PySem.EqMixed.ne_str_bool (bJ I q (by simp))
  | int j=>obtain⟨t',rfl⟩:=ry; exact PySem.EqMixed.ne_str_int (bJ I q (by simp))
  | str j=>obtain⟨t',rfl⟩:=ry; exact ne_str (bJ I q (congrArg not r_))
  | _=>exact absurd (show false=true from hs) Bool.false_ne_true
 | byt i=>
  obtain⟨t,rfl⟩:=rx
  cases y with
  | byt j=>obtain⟨t',rfl⟩:=ry; exact PySem.W.ne_bytes (bJ I q (congrArg not rX))
  | _=>exact absurd (show false=true from hs) Bool.false_ne_true
 | _=>cases y <;> exact absurd (show false=true from hs) Bool.false_ne_true
theorem Cw:OpR X (compareOp .Lt) (mP fun i j=>.bl (decide (i<j))):=xH fun _ _ _ _ _ _ _ q=>lt_int q
theorem zl:OpR X (compareOp .LtE) (mP fun i j=>.bl (decide (i≤j))):=xH fun _ _ _ _ _ _ _ q=>le_int q
theorem lv:OpR X (compareOp .Gt) (mP fun i j=>.bl (decide (j<i))):=xH fun _ _ _ _ _ _ _ q=>gt_int q
theorem vX:OpR X (compareOp .Lt) (fun x y H Q=>∃ i j,x = .str i∧y = .str j∧Q (.bl (decide (i.cps.toList<j.cps.toList))) H):=by
 intro pins s σ H x y v u Q I rx ry h
 obtain⟨i,j,rfl,rfl,q⟩:=h
 obtain⟨t,rfl⟩:=rx
 obtain⟨t',rfl⟩:=ry
 exact lt_str (bJ I q rfl)
theorem u3:OpR X (compareOp .In) (fun x y H Q=>∃ i j,x = .str i∧y = .str j∧Q (.bl (!(Builtin.Str.occurrences j i 0 j.length 1).isEmpty)) H):=by
 intro pins s σ H x y v u Q I rx ry h
 obtain⟨i,j,rfl,rfl,q⟩:=h
 obtain⟨t,rfl⟩:=rx
 obtain⟨t',rfl⟩:=ry
 exact in_str (bJ I q rfl)
theorem bc(b:Expr){op:CmpOp}(h:op ≠ .In:=by decide)(h2:op ≠ .NotIn:=by decide):behindInMarks op b=false:=by
 have e1:(op == CmpOp.In)=false:=by cases op <;> first | rfl | exact absurd rfl h
 have e2:(op == CmpOp.NotIn)=false:=by cases op <;> first | rfl | exact absurd rfl h2
 cases b <;> simp[behindInMarks,e1,e2]
theorem rn{op:CmpOp}{r:R2}(ho:OpR X (compareOp op) r)(ha:PE X a ta)(hb:PE X b tb)(hm:behindInMarks op b=false):PE X (.Compare a [op] [b] pos) (vO r ta tb):=by
 intro pins s σ H Q I h
 exact wpAny_Compare1 (xb ha hb I h fun v u s2 x y H2 I2 rx ry q=>ho pins s2 σ H2 x y v u Q I2 rx ry q) hm
def tm(t:TE):TT:=fun σ H Q=>t σ H fun x H'=>∃ k,x = .bl k∧Q k H'
theorem aG{op:CmpOp}{r:R2}(ho:OpR X (compareOp op) r)(ha:PE X a ta)(hb:PE X b tb)(hm:behindInMarks op b=false):PT X (.Compare a [op] [b] pos) (tm (vO r ta tb)):=by
 intro pins s σ H Q I h
 refine wpAny_isTrue_Compare1 (bt (ha pins s σ H _ I h) fun v s1 ⟨x,H1,I1,r1,q1⟩=>bt (hb pins s1 σ H1 _ I1 q1) fun u s2 ⟨y,H2,I2,r2,q2⟩=>
  bt (ho pins s2 σ H2 x y v u _ I2 r1 r2 q2) fun c s3 ⟨z,H3,I3,r3,k,e,q3⟩=>?_) hm
 subst e
 cases r3
 exact wpAny_truthy_bool ⟨H3,I3,q3⟩
def wg(r r':R2)(ta tb tc:TE):TE:=fun σ H Q=>ta σ H fun x H1=>tb σ H1 fun y H2=>r x y H2 fun z H3=>∃ k,z = .bl k∧
 (if k=true then tc σ H3 fun w' H4=>r' y w' H4 Q else Q (.bl false) H3)
theorem xf{op op':CmpOp}{r r':R2}(ho:OpR X (compareOp op) r)(ho':OpR X (compareOp op') r')(ha:PE X a ta)(hb:PE X b tb)(hc:PE X c tc)
  (hm:lastMarks [op,op'] [b,c]=false:=by with_unfolding_all rfl):PT X (.Compare a [op,op'] [b,c] pos) (tm (wg r r' ta tb tc)):=by
 intro pins s σ H Q I h
 refine isTrue_chain (bt (ha pins s σ H _ I h) fun v s1 ⟨x,H1,I1,r1,q1⟩=>test_link (bt (hb pins s1 σ H1 _ I1 q1) fun u s2 ⟨y,H2,I2,r2,q2⟩=>
  bt (ho pins s2 σ H2 x y v u _ I2 r1 r2 q2) fun d s3 ⟨z,H3,I3,r3,k,e,q3⟩=>?_)) hm
 subst e
 cases r3
 refine wpAny_truthy_bool ?_
 cases k with
 | false=>
  obtain⟨k',e',q'⟩:=q3
  cases e'
  exact ite_ff ⟨H3,I3,q'⟩
 | true=>
  refine ite_tt (test_last (bt (hc pins s3 σ H3 _ I3 q3) fun w' s4 ⟨z',H4,I4,r4,q4⟩=>bt (ho' pins s4 σ H4 y z' u w' _ I4 r2 r4 q4) fun d' s5 ⟨z2,H5,I5,r5,k2,e2,q5⟩=>?_))
  subst e2
  cases r5
  exact wpAny_truthy_bool ⟨H5,I5,q5⟩
theorem i7:(sizeLine:Nat)<2 ^ 63:=by rw[sizeLine_eq]; decide
theorem ud:OpR X (binaryOp .Add) (fun x y H Q=>∃ i j,x = .str i∧y = .str j∧i.length+j.length≤sizeLine∧Q (.str (i++j)) H):=by
 intro pins s σ H x y v u Q I rx ry h
 obtain⟨i,j,rfl,rfl,hz,q⟩:=h
 obtain⟨t,rfl⟩:=rx
 obtain⟨t',rfl⟩:=ry
 exact add_str (fun t' tk=>⟨.str (i++j),H,I.tok _,⟨_,rfl⟩,q⟩) hz
theorem dm{x:V}{us:List Value}(r:Vals [x] us):∃ u,us=[u]∧RelV x u:=by
 cases r with
 | cons r1 r2=>cases r2; exact⟨_,rfl,r1⟩
theorem kJ{x y:V}{us:List Value}(r:Vals [x,y] us):∃ u w',us=[u,w']∧RelV x u∧RelV y w':=by
 cases r with
 | cons r1 r2=>
  cases r2 with
  | cons r3 r4=>cases r4; exact⟨_,_,rfl,r1,r3⟩
theorem va:CallR X (.type "int") (fun xs H Q=>(∃ i,xs=[.int i]∧Q (.int i) H)∨∃ k,xs=[.bl k]∧Q (.int (if k then 1 else 0)) H):=by
 intro pins s σ H xs us Q I r h
 rcases h with ⟨i,rfl,q⟩ | ⟨k,rfl,q⟩
 ·obtain⟨u,rfl,t,rfl⟩:=dm r
  exact call_int_int ⟨.int i,H,I,⟨_,rfl⟩,q⟩
 ·obtain⟨u,rfl,r1⟩:=dm r
  cases r1
  exact call_int_bool ⟨.int (if k then 1 else 0),H,I.tok _,⟨_,rfl⟩,q⟩
theorem i8:CallR X (.type "str") (fun xs H Q=>∃ i,xs=[.int i]∧i.natAbs.log2<1920∧Q (.str (toString i)) H):=by
 intro pins s σ H xs us Q I r h
 obtain⟨i,rfl,hz,q⟩:=h
 obtain⟨u,rfl,t,rfl⟩:=dm r
 exact PySem.P.str_of_int hz ⟨.str _,H,I.tok _,⟨_,rfl⟩,q⟩
end
end L2
namespace L2
open PySem PySem.Spec PyProof.Rows
structure ObjM (h:Heap) (x dx C:Addr) (mA:Str→Option Value):Prop where
 obj:h.get? x=some (PySem.W.instObj C dx)
 ns:h.Ns1 dx mA
 ne:dx≠x
theorem vN{h:Heap}{dx:Addr}{mA:Str→Option Value}(n:h.Ns1 dx mA):∃ od,h.get? dx=some od∧∀ name,PySem.W.lookIn name od=some (mA name):=by
 obtain⟨o,es,ep,ho,hd,hk,_,hm⟩:=n
 refine⟨o,ho,fun name=>?_⟩
 have e:=hm name
 unfold nsFind findBy at e
 rw[← Array.find?_toList]at e
 unfold PySem.W.lookIn
 rw[hd]
 dsimp only
 split
 ·rename_i y q
  rw[q]at e
  exact congrArg some e
 ·rename_i q
  rw[q]at e
  have a:es.toList.any (·.refKey)=false:=by
   rw[List.any_eq_false]
   intro y hy
   obtain⟨z,t,hkey⟩:=hk y (Array.mem_toList_iff.mp hy)
   simp[DictEntry.refKey,hkey]
  have a':¬ es.toList.any (·.refKey)=true:=by rw[a]; exact Bool.false_ne_true
  rw[if_neg a']
  exact congrArg some e
theorem ObjM.look{h:Heap}{x dx C:Addr}{mA:Str→Option Value}(I:ObjM h x dx C mA):∃ od,PySem.W.InstAt h x (PySem.W.instObj C dx) C (some od)∧∀ name,PySem.W.lookIn name od=some (mA name):=
 let ⟨od,ho,hl⟩:=vN I.ns
 ⟨od,⟨I.obj,rfl,rfl,ho⟩,hl⟩
section
variable{prog:Program}{w:World}{A:Around}{E:Value→Shared→Prop}{s:Shared}{K:PySem.W.Frag}{x dx C f:Addr}{mA:Str→Option Value}{name:Str}{v:Value}
theorem Aa{expr:Bool}{Q:Value→Shared→Prop}(X:K.In s.heap)(I:ObjM s.heap x dx C mA)(hg:PySem.W.plainGet K C name=true)(hh:PySem.W.hasDictIn K C=true)
  (ha:PySem.W.findIn K (.ref C) name=some none) (hv:mA name=some v) (hv':PySem.W.handedIn v=true) (h:Q v { s with toks:=s.toks+1 }) :
  wpAny (model prog w) A (getAttr (.ref x) name expr) Q E s:=by
 obtain⟨od,J,hl⟩:=I.look
 exact PySem.W.get_value X J (PySem.W.plainGet_of hg).1 (PySem.W.findObj_own hh ha rfl (by rw[hl,hv])) hv' h
theorem zp{ns:List Str}{Q:Unit→Shared→Prop}(X:K.In s.heap)(I:ObjM s.heap x dx C mA)
  (hs:PySem.W.findIn K (.ref C) "__setattr__" = some (some (.builtin "object.__setattr__"))) (hp:PySem.W.plainOver K C=true) (ht:PySem.W.takerIn K C name=some none) (hh:PySem.W.hasDictIn K C=true)
  (hw:PySem.Within mA ns) (hsz:ns.length≤sizeLine)
  (h:∀ h',ObjM h' x dx C (fun y=>if y=name then some v else mA y)→Heap.SameBut dx s.heap h'→Q () { s with heap:=h',toks:=s.toks+2 }) :
  wpAny (model prog w) A (setAttr (.ref x) name v) Q E s:=by
 obtain⟨od,J,hl⟩:=I.look
 refine PySem.W.set_plain X J hs (PySem.W.osa_open (s:={ s with toks:=s.toks+1 }) (r:=none) X J hp ht fun b=>?_)
 obtain⟨cd,hc,hd'⟩:=PySem.W.any_some hh
 have hx:s.heap.get? x=some ⟨.ref C,some dx,.plain,#[]⟩:=I.obj
 refine wpAny_bind (wpAny_pure (wpAny_bind (wpAny_bind (wpAny_loadPart hx (wpAny_bind (PySem.W.Looks.here (s:={ s with toks:=s.toks+1 }) (PySem.W.looks_clsIn X hc) ?_))))))
 rw[hd']
 refine wpAny_pure (a:=some dx) (wpAny_bind (wpAny_pure (wpAny_bind ?_)))
 refine wpAny_nsSet1 (s:={ s with toks:=s.toks+1 }) I.ns fun h' hn2 hs2=>?_
 obtain⟨oD,esD,epD,hoD,hdD,hcD⟩:=hn2.count (PySem.Within.cons name v hw)
 refine wpAny_bind (wpAny_lookBehind hoD (by rw[hdD]; exact pastItsLine_dict (Nat.le_trans hcD (by rw[List.length_cons]; omega))) ?_)
 exact wpAny_pure (h _ ⟨(hs2.2 _ (Ne.symm I.ne)).trans I.obj,hn2,I.ne⟩ hs2)
theorem xQ{R:Result→Shared→Prop}{vs:List Value}{kw:List (Str × Value)}(X:K.In s.heap)(hm:PySem.W.makesIn K C=true)
  (hi:PySem.W.findIn K (.ref C) "__init__" = some (some (.ref f))) (hf:PySem.W.typeIn K (.ref f)=some (.type "function"))
  (h:codeAny (model prog w) (A.under (.builtin "type.__call__" ⟨.ref C::vs,kw⟩)) (.call (.ref f) ⟨.ref (s.heap.objs.size+1)::vs,kw⟩) (PySem.W.InitBack (s.heap.objs.size+1) R)
   { s with heap:=(s.heap.push PySem.W.emptyDict).push (PySem.W.instObj C s.heap.objs.size) }) :
  codeAny (model prog w) A (.call (.ref C) ⟨vs,kw⟩) R s:=by
 obtain⟨hh,g,d,t,os⟩:=s
 exact PySem.W.make_core (PySem.W.makes_of X hm) (PySem.W.looks_findIn X hi) (fun self=>PySem.W.bind_fn X self hf) (.inl rfl) h
end
def dC(f:Str)(v:V):List (Str × V)→List (Str × V)
 | []=>[(f,v)]
 | (g,x)::r=>if g=f then (g,v)::r else (g,x)::dC f v r
theorem jJ(f g:Str)(v:V):∀ fs:List (Str × V),(dC f v fs).lookup g=if g=f then some v else fs.lookup g
 | []=>by
  show List.lookup g [(f,v)]=_
  by_cases h:g=f
  ·have hb:(g == f)=true:=beq_iff_eq.mpr h
   simp only[List.lookup,hb,if_pos h]
  ·have hb:(g == f)=false:=beq_eq_false_iff_ne.mpr h
   simp only[List.lookup,hb,if_neg h]
 | (k,x)::r=>by
  have ih:=jJ f g v r
  rw[show dC f v ((k,x)::r)=(if k=f then (k,v)::r else (k,x)::dC f v r) from rfl]
  by_cases hk:k=f
  ·rw[if_pos hk]
   by_cases h:g=k
   ·have hb:(g == k)=true:=beq_iff_eq.mpr h
    simp only[List.lookup,hb,if_pos (h.trans hk)]
   ·have hb:(g == k)=false:=beq_eq_false_iff_ne.mpr h
    simp only[List.lookup,hb,if_neg (fun e:g=f=>h (e.trans hk.symm))]
  ·rw[if_neg hk]
   by_cases h:g=k
   ·have hb:(g == k)=true:=beq_iff_eq.mpr h
    simp only[List.lookup,hb,if_neg (fun e:g=f=>hk (h.symm.trans e))]
   ·have hb:(g == k)=false:=beq_eq_false_iff_ne.mpr h
    simp only[List.lookup,hb]
    exact ih
theorem js(f:Str)(v:V):∀ fs:List (Str × V),f∈(dC f v fs).map (·.1)∧∀ g,g∈fs.map (·.1)→g∈(dC f v fs).map (·.1)
 | []=>⟨by simp[dC],fun g h=>by simp at h⟩
 | (k,x)::r=>by
  obtain⟨i1,i2⟩:=js f v r
  rw[show dC f v ((k,x)::r)=(if k=f then (k,v)::r else (k,x)::dC f v r) from rfl]
  by_cases hk:k=f
  ·rw[if_pos hk]
   subst hk
   exact⟨by simp,fun g h=>by simpa using h⟩
  ·rw[if_neg hk]
   refine⟨?_,fun g h=>?_⟩
   ·rw[List.map_cons]
    exact List.mem_cons_of_mem _ i1
   ·rw[List.map_cons]at h ⊢
    rcases List.mem_cons.mp h with e | e
    ·exact List.mem_cons.mpr (.inl e)
    ·exact List.mem_cons_of_mem _ (i2 g e)
theorem jR(f:Str)(v:V):∀ fs:List (Str × V),(dC f v fs).length≤fs.length+1
 | []=>by simp[dC]
 | (k,x)::r=>by
  have ih:=jR f v r
  rw[show dC f v ((k,x)::r)=(if k=f then (k,v)::r else (k,x)::dC f v r) from rfl]
  by_cases hk:k=f
  ·rw[if_pos hk,List.length_cons,List.length_cons]; omega
  ·rw[if_neg hk,List.length_cons,List.length_cons]; omega
theorem RelO.some_of{v:V}{o:Option Value}(r:RelO (some v) o):∃ u,o=some u∧RelV v u:=by
 cases o with
 | none=>exact(show False from r).elim
 | some u=>exact⟨u,rfl,r⟩
theorem ww{v:V}{u:Value}(r:RelV v u):PySem.W.handedIn u=true:=by
 cases v with
 | non=>cases (show u=Value.none from r); rfl
 | bl b=>cases (show u=Value.bool b from r); rfl
 | int i=>obtain⟨t,e⟩:=(show ∃ t,u=Value.int i t from r); cases e; rfl
 | str x=>obtain⟨t,e⟩:=(show ∃ t,u=Value.str x t from r); cases e; rfl
 | byt b=>obtain⟨t,e⟩:=(show ∃ t,u=Value.bytes b t from r); cases e; rfl
 | flt b=>obtain⟨t,e⟩:=(show ∃ t,u=Value.float b t from r); cases e; rfl
 | ref a=>cases (show u=Value.ref a from r); rfl
 | ty n=>cases (show u=Value.type n from r); rfl
section
variable{P:Program}{w:World}{H H':Hp}{h h':Heap}{a C dx:Addr}{fs fs':List (Str × V)}
theorem lC(hok:HOk P w H h)(e:H a=some (.ins C dx fs)):∃ mA,ObjM h a dx C mA∧(∀ f,RelO (fs.lookup f) (mA f))∧PySem.Within mA (fs.map (·.1))∧fs.length≤1000∧H dx=some (.own a):=by
 obtain⟨d,z,ne,ob,mA,n,r,q⟩:=(show ObjOk P w H h a (.ins C dx fs) from hok a _ e)
 exact⟨mA,⟨ob,n,ne⟩,r,q,z,d⟩
end
structure Cls (K:PySem.W.Frag) (C:Addr):Prop where
 pg:PySem.W.plainGet K C Str.empty=true
 hd:PySem.W.hasDictIn K C=true
 po:PySem.W.plainOver K C=true
 sa:PySem.W.findIn K (.ref C) "__setattr__" = some (some (.builtin "object.__setattr__"))
theorem Cls.get{K:PySem.W.Frag}{C:Addr}(c:Cls K C)(f:Str):PySem.W.plainGet K C f=true:=c.pg
def NoAttr(K:PySem.W.Frag)(C:Addr)(f:Str):Prop:=PySem.W.findIn K (.ref C) f=some none
theorem NoAttr.taker{K:PySem.W.Frag}{C:Addr}{f:Str}(n:NoAttr K C f):PySem.W.takerIn K C f=some none:=by
 unfold PySem.W.takerIn
 rw[show PySem.W.findIn K (.ref C) f=some none from n]
 rfl
section
variable{X:Cx}{pins:List (Addr × Obj)}{σ : St}{H:Hp}{s:Shared}{a C dx:Addr}{fs:List (Str × V)}{f:Str}{v:V}{A:Around}{E:Value→Shared→Prop}
theorem uK{b:Bool}{Q:Value→Shared→Prop}(I:Inv X pins σ H s)(e:H a=some (.ins C dx fs))(c:Cls X.K C)(n:NoAttr X.K C f)(l:fs.lookup f=some v)
  (h:∀ u s',Inv X pins σ H s'→RelV v u→Q u s'):wpAny (model X.prog X.w) A (getAttr (.ref a) f b) Q E s:=by
 obtain⟨mA,O,r,_,_,_⟩:=lC I.hok e
 obtain⟨u,hu,ru⟩:=RelO.some_of (v:=v) (o:=mA f) (by rw[← l]; exact r f)
 exact Aa I.kIn O (c.get f) c.hd n hu (ww ru) (h u _ (I.tok _) ru)
theorem tD{y:V}{u:Value}{Q:Unit→Shared→Prop}(I:Inv X pins σ H s)(e:H a=some (.ins C dx fs))(c:Cls X.K C)(n:NoAttr X.K C f)(hl:fs.length<1000)(ry:RelV y u)
  (h:∀ s',Inv X pins σ (upd H a (.ins C dx (dC f y fs))) s'→Q () s'):wpAny (model X.prog X.w) A (setAttr (.ref a) f u) Q E s:=by
 obtain⟨mA,O,r,wi,_,ho⟩:=lC I.hok e
 have hz:(fs.map (·.1)).length≤sizeLine:=by rw[List.length_map,sizeLine_eq]; omega
 refine zp I.kIn O c.sa c.po n.taker c.hd wi hz fun h' O' sb=>h _ ?_
 have hd:∃ o,h'.get? dx=some o:=let ⟨o,_,_,e',_⟩:=O'.ns; ⟨o,e'⟩
 refine I.write (x:=a) (e:=dx) (by rw[e]; exact True.intro) (.inr ho) (fun b q hb z=>(sb.2 b hb).trans z) hd ?_
 refine⟨by rw[ah O.ne]; exact ho,?_,O.ne,O'.obj,_,O'.ns,fun g=>?_,fun g hg=>?_⟩
 ·have:=jR f y fs; omega
 ·show RelO ((dC f y fs).lookup g) (if g=f then some u else mA g)
  rw[jJ]
  by_cases q:g=f
  ·rw[if_pos q,if_pos q]; exact ry
  ·rw[if_neg q,if_neg q]; exact r g
 ·by_cases q:g=f
  ·rw[q]; exact(js f y fs).1
  ·refine(js f y fs).2 g (wi g fun z=>hg ?_)
   show (if g=f then some u else mA g)=none
   rw[if_neg q]; exact z
theorem Inv.made(I:Inv X pins σ H s):Inv X pins σ (upd (upd H s.heap.objs.size (.own (s.heap.objs.size+1))) (s.heap.objs.size+1) (.ins C s.heap.objs.size []))
  { s with heap:=(s.heap.push PySem.W.emptyDict).push (PySem.W.instObj C s.heap.objs.size) }:=by
 have e1:(s.heap.push PySem.W.emptyDict).get? s.heap.objs.size=some PySem.W.emptyDict:=Heap.get?_push_size s.heap rfl
 have e2:((s.heap.push PySem.W.emptyDict).push (PySem.W.instObj C s.heap.objs.size)).get? (s.heap.objs.size+1)=some (PySem.W.instObj C s.heap.objs.size):=by
  have:=Heap.get?_push_size (s.heap.push PySem.W.emptyDict) (o:=PySem.W.instObj C s.heap.objs.size) rfl
  rwa [Heap.size_push]at this
 have e3:(s.heap.push PySem.W.emptyDict).Ns s.heap.objs.size (fun _=>none):=⟨PySem.W.emptyDict,#[],_,e1,rfl,(fun e he=>absurd he (by simp)),fun _=>rfl⟩
 have I1:=I.laid (a:=s.heap.objs.size) (o:=.own (s.heap.objs.size+1)) (h':=s.heap.push PySem.W.emptyDict) (t':=s.toks) (fun b u q=>Heap.get?_push_of_some _ q) (Nat.le_refl _) ⟨_,e1⟩
 refine I1.laid (a:=s.heap.objs.size+1) (o:=.ins C s.heap.objs.size []) (t':=s.toks) (fun b u q=>Heap.get?_push_of_some _ q) (Nat.le_of_eq (Heap.size_push _ _)) ?_
 have ne:s.heap.objs.size≠s.heap.objs.size+1:=Nat.ne_of_lt (Nat.lt_succ_self _)
 refine⟨by rw[ah ne,ac],Nat.zero_le _,ne,e2,fun _=>none,(Heap.Ns1.of_empty e3).at fun o q=>Heap.get?_push_of_some _ q,fun _=>True.intro,fun y hy=>absurd rfl hy⟩
theorem zu{prog:Program}{w:World}{env:Env}{e:Expr}{f:Str}{pos:Pos}{s:Shared}{Q:Value→Shared→Prop}(hb:attributeBase e f env (eval e env)=eval e env)
  (h:wpAny (model prog w) A (eval e env) (fun o s₁=>wpAny (model prog w) A (getAttr o f true) Q E s₁) E s):wpAny (model prog w) A (eval (.Attribute e f pos) env) Q E s:=
 Attribute_any_ h (by rw[arm_eval_Attribute,hb])
end
section
variable{X:Cx}{o e value:Expr}{f:Str}{pos pos' tpos:Pos}{ta tv:TE}
end
section
variable{X:Cx}{pins:List (Addr × Obj)}{σ : St}{H:Hp}{s:Shared}{A:Around}{E:Value→Shared→Prop}{Q:Value→Shared→Prop}{c:Value}{b:Bool}
inductive fK (K:PySem.W.Frag) (H:Hp):V→Value→Prop where
 | non:fK K H .non (.type "NoneType")
 | bl (x:Bool):fK K H (.bl x) (.type "bool")
 | int (i:Int):fK K H (.int i) (.type "int")
 | str (x:Str):fK K H (.str x) (.type "str")
 | flt (x:UInt64):fK K H (.flt x) (.type "float")
 | lst {a:Addr} {xs:List V} (e:H a=some (.lst xs)):fK K H (.ref a) (.type "list")
 | frz {a:Addr} {o:Obj} {xs:List V} (e:H a=some (.frz o (.lst xs))):fK K H (.ref a) (.type "list")
 | tup {a:Addr} {xs:List V} (e:H a=some (.tup xs)):fK K H (.ref a) (.type "tuple")
 | dK {a:Addr} {kvs:List (ax × V)} (e:H a=some (.dK kvs)):fK K H (.ref a) (.type "dict")
 | dT {a:Addr} {kvs:List (List ax × V)} (e:H a=some (.dT kvs)):fK K H (.ref a) (.type "dict")
 | ins {a C dx:Addr} {fs:List (Str × V)} (e:H a=some (.ins C dx fs)) (cl:Cls K C) (ha:PySem.W.findIn K (.ref C) "__class__" = some (some (.builtin "object.__class__")))
   (hn:PySem.W.specialIn K (.builtin "object.__class__") "__get__" = some (some (.builtin "getset_descriptor.__get__"))) (htk:PySem.W.takesIn K (.builtin "object.__class__")=some true)
   (hm:PySem.W.mroIn K C (.type "object")=some true):fK K H (.ref a) (.ref C)
theorem uX{x:V}{u t:Value}(I:Inv X pins σ H s)(rx:RelV x u)(ty:fK X.K H x t)(e:PySem.W.kitOne X.K t c=some b)(h:∀ tk,Q (.bool b) { s with toks:=tk }) :
  wpAny (model X.prog X.w) A (call (.builtin "isinstance") [u,c]) Q E s:=by
 cases ty with
 | non=>cases (show u=Value.none from rx); exact PySem.W.kia_one PySem.W.kitx_none I.kIn True.intro e (fun z=>nomatch z) h
 | bl y=>cases (show u=Value.bool y from rx); exact PySem.W.kia_one PySem.W.kitx_bool I.kIn True.intro e (fun z=>nomatch z) h
 | int i=>obtain⟨t,q⟩:=(show ∃ t,u=Value.int i t from rx); cases q; exact PySem.W.kia_one PySem.W.kitx_int I.kIn True.intro e (fun z=>nomatch z) h
 | str y=>obtain⟨t,q⟩:=(show ∃ t,u=Value.str y t from rx); cases q; exact PySem.W.kia_one PySem.W.kitx_str I.kIn True.intro e (fun z=>nomatch z) h
 | flt y=>obtain⟨t,q⟩:=(show ∃ t,u=Value.float y t from rx); cases q; exact PySem.W.kia_one PySem.W.kitx_float I.kIn True.intro e (fun z=>nomatch z) h
 | @lst a xs ea=>
  cases (show u=Value.ref a from rx)
  obtain⟨_,_,n,_,h1⟩:=(show ObjOk X.prog X.w H s.heap a (.lst xs) from I.hok a _ ea)
  exact PySem.W.kia_one PySem.W.kitx_list I.kIn ⟨_,h1,rfl⟩ e (fun z=>nomatch z) h
 | @frz a ob xs ea=>
  cases (show u=Value.ref a from rx)
  obtain⟨_,_,_,n,_,h1⟩:=(show ObjOk X.prog X.w H s.heap a (.frz ob (.lst xs)) from I.hok a _ ea)
  exact PySem.W.kia_one PySem.W.kitx_list I.kIn ⟨_,h1,rfl⟩ e (fun z=>nomatch z) h
 | @tup a xs ea=>
  cases (show u=Value.ref a from rx)
  obtain⟨_,_,_,p⟩:=(show ObjOk X.prog X.w H s.heap a (.tup xs) from I.hok a _ ea)
  obtain⟨o,h1,h2,_⟩:=p
  exact PySem.W.kia_one PySem.W.kitx_tuple I.kIn ⟨o,h1,h2⟩ e (fun z=>nomatch z) h
 | @dK a kvs ea=>
  cases (show u=Value.ref a from rx)
  obtain⟨_,_,vs,_,p⟩:=(show ObjOk X.prog X.w H s.heap a (.dK kvs) from I.hok a _ ea)
  obtain⟨o,es,ep,h1,h2,_⟩:=p
  exact PySem.W.kia_one PySem.W.kitx_dict I.kIn ⟨o,h1,h2.1⟩ e (fun z=>nomatch z) h
 | @dT a kvs ea=>
  cases (show u=Value.ref a from rx)
  obtain⟨_,_,xs,_,o,es,ep,h1,h2,_⟩:=(show ObjOk X.prog X.w H s.heap a (.dT kvs) from I.hok a _ ea)
  exact PySem.W.kia_one PySem.W.kitx_dict I.kIn ⟨o,h1,h2.1⟩ e (fun z=>nomatch z) h
 | @ins a C dx fs ea cl ha hn htk hm=>
  cases (show u=Value.ref a from rx)
  obtain⟨mA,O,_⟩:=lC I.hok ea
  obtain⟨od,J,_⟩:=O.look
  exact PySem.W.kia_one (PySem.W.kitx_own (cl.get _) cl.hd ha hn htk hm) I.kIn J e (fun z=>nomatch z) h
end
end L2
namespace L2
open PySem PySem.Spec PyProof.Rows
structure Room (k:Nat) (A:Around):Prop where
 hd:A.handled=none
 dp:A.depth+3 * k+5<recursionLimit
 un:A.units+16 * k+200<cLine
theorem Room.mono{j k:Nat}{A:Around}(r:Room k A)(h:j≤k):Room j A:=⟨r.hd,by have:=r.dp; omega,by have:=r.un; omega⟩
theorem Room.deeper{k:Nat}{A:Around}(r:Room (k+1) A)(env:Env):Room k (A.deeper env):=
 ⟨r.hd,by have:=r.dp; show A.depth+1+3 * k+5<_; omega,by have:=r.un; show A.units+3+16 * k+200<_; omega⟩
theorem tj{A:Around}{C:Addr}{us:List Value}{kw:List (Str × Value)}:(A.under (.builtin "type.__call__" ⟨.ref C::us,kw⟩)).depth=A.depth+1:=by
 first | rfl | simp[Around.under,Code.weight,Code.isCreation,Code.isGuard,Code.isCaller,Code.frames,Code.isFrame,guardIds]
theorem tH{A:Around}{C:Addr}{us:List Value}{kw:List (Str × Value)}:(A.under (.builtin "type.__call__" ⟨.ref C::us,kw⟩)).units=A.units+1:=by
 first | rfl | simp[Around.under,Code.cUnits,Code.frames,Code.isFrame]
theorem Room.make{k:Nat}{A:Around}(r:Room (k+1) A)(C:Addr)(us:List Value)(kw:List (Str × Value)):Room k (A.under (.builtin "type.__call__" ⟨.ref C::us,kw⟩)):=
 ⟨r.hd,by have:=r.dp; rw[tj]; omega,by have:=r.un; rw[tH]; omega⟩
theorem Room.depth{k:Nat}{A:Around}(r:Room k A):A.depth<recursionLimit:=by have:=r.dp; omega
def AU:TA:=fun _ H Q=>Q [] H
def yM(ta:TE)(tr:TA):TA:=fun σ H Q=>ta σ H fun x H1=>tr σ H1 fun xs H2=>Q (x::xs) H2
section
variable{X:Cx}{e:Expr}{es:List Expr}{te:TE}{t:TA}{pos:Pos}
theorem ab:PA X [] AU:=fun _ _ _ _ H Q I h=>Calls.spliced_nil ⟨[],H,I,.nil,h⟩
theorem aa(ha:PE X e te)(hr:PA X es t)(hs:starEach (e::es) X.env=(false,eval e X.env)::starEach es X.env:=by rfl):PA X (e::es) (yM te t):=by
 intro pos pins s σ H Q I h
 rw[hs]
 show wpAny _ _ (spliced ((false,eval e X.env)::backTo pos (starEach es X.env))) _ _ s
 refine Calls.spliced_cons (bt (ha pins s σ H _ I h) fun u s1 ⟨x,H1,I1,r1,q1⟩=>?_)
 exact bt (hr pos pins s1 σ H1 _ I1 q1) fun us s2 ⟨xs,H2,I2,r2,q2⟩=>⟨x::xs,H2,I2,.cons r1 r2,q2⟩
def Bq(t:TA):TE:=fun σ H Q=>t σ H fun xs H1=>xs.length≤sizeLine∧∀ p,H1 p=none→Q (.ref p) (upd H1 p (.tup xs))
def Cc(t:TA):TE:=fun σ H Q=>t σ H fun xs H1=>xs.length≤sizeLine∧∀ p,H1 p=none→Q (.ref p) (upd H1 p (.lst xs))
theorem bb{x1}(h:PA X es t):PE X (.Tuple es x1 pos) (Bq t):=by
 intro pins s σ H Q I hq
 refine wpAny_Tuple_spliced (bt (h pos pins s σ H _ I hq) fun us s1 ⟨xs,H1,I1,r,z,q⟩=>⟨by rw[← r.length]; exact z,?_⟩)
 have hf:H1 s1.heap.objs.size=none:=I1.hok.fresh (Nat.le_refl _)
 refine⟨.ref s1.heap.objs.size,upd H1 s1.heap.objs.size (.tup xs),I1.laid (t':=s1.toks) (fun b u e=>Heap.get?_push_of_some _ e) (Nat.le_refl _) ?_,rfl,q _ hf⟩
 exact⟨z,us,r,⟨_,Heap.get?_push_size _ rfl,rfl,rfl,_,rfl⟩⟩
theorem bi(h:PA X es t):PE X (.List es pos) (Cc t):=by
 intro pins s σ H Q I hq
 refine wpAny_List_spliced (bt (h pos pins s σ H _ I hq) fun us s1 ⟨xs,H1,I1,r,z,q⟩=>⟨by rw[← r.length]; exact z,?_⟩)
 have hf:H1 s1.heap.objs.size=none:=I1.hok.fresh (Nat.le_refl _)
 refine⟨.ref s1.heap.objs.size,upd H1 s1.heap.objs.size (.lst xs),I1.laid (t':=s1.toks) (fun b u e=>Heap.get?_push_of_some _ e) (Nat.le_refl _) ?_,rfl,q _ hf⟩
 exact⟨z,us,0,r,Heap.get?_push_size _ rfl⟩
end
abbrev Sp:=List V→Hp→VK→XK→Prop
abbrev ii:=List Env→Hp→Shared→XK→Value→Shared→Prop
structure Env0 (P:Program) (w:World) (K:PySem.W.Frag) (mg:Str→Option Value) (base:Heap) (A:Around) (outer:List Env) (s:Shared) (H:Hp):Prop where
 frames:A.frames=some outer
 mod:Mod K mg base
 bs:∀ b o,base.get? b=some o→s.heap.get? b=some o∧H b=none
 bsz:base.objs.size≤s.heap.objs.size
 funs:s.heap.FunFrames base outer
 frf:∀ b∈iP outer,H b=none
 hok:HOk P w H s.heap
 bare:AllBare s.gens
def CE(outer:List Env)(P:Program)(w:World)(H:Hp)(s:Shared)(Q:VK)(u:Value)(s':Shared):Prop:=
 ∃ v H',s'.os=s.os∧AllBare s'.gens∧Un (iP outer) [] H H' s.heap s'.heap∧HOk P w H' s'.heap∧RelV v u∧Q v H'
def CR(CX:ii)(outer:List Env)(P:Program)(w:World)(H:Hp)(s:Shared)(Q:VK)(E:XK)(r:Result)(s':Shared):Prop:=
 match r with
 | .ok (.ret u)=>CE outer P w H s Q u s'
 | .ok _=>False
 | .error e=>CX outer H s E e s'
structure FnOk (P:Program) (w:World) (K:PySem.W.Frag) (mg:Str→Option Value) (base:Heap) (CX:ii) (k:Nat) (f:Addr) (fd:FuncData) (ps:List Str) (sp:Sp):Prop where
 len:∀ vs H Q E,sp vs H Q E→vs.length=ps.length
 run:∀ (A:Around) (outer:List Env) (s:Shared) (H:Hp) (args:Args) (us:List Value) (vs:List V) (Q:VK) (E:XK),Room k A→Env0 P w K mg base A outer s H→BindsTo s fd args (ps.zip us)→Vals vs us→sp vs H Q E→
  codeAny (model P w) A (.call (.ref f) args) (CR CX outer P w H s Q E) s
theorem FnOk.mono{P:Program}{w:World}{K:PySem.W.Frag}{mg:Str→Option Value}{base:Heap}{CX:ii}{j k:Nat}{f:Addr}{fd:FuncData}{ps:List Str}{sp:Sp}(F:FnOk P w K mg base CX j f fd ps sp)(h:j≤k) :
  FnOk P w K mg base CX k f fd ps sp:=⟨F.len,fun A outer s H args us vs Q E hr=>F.run A outer s H args us vs Q E (hr.mono h)⟩
theorem FnOk.imp{P:Program}{w:World}{K:PySem.W.Frag}{mg:Str→Option Value}{base:Heap}{CX:ii}{k:Nat}{f:Addr}{fd:FuncData}{ps:List Str}{sp sp':Sp}(F:FnOk P w K mg base CX k f fd ps sp)
  (h:∀ vs H Q E,sp' vs H Q E→sp vs H Q E):FnOk P w K mg base CX k f fd ps sp':=
 ⟨fun vs H Q E q=>F.len vs H Q E (h _ _ _ _ q),fun A outer s H args us vs Q E hr he hb hv hs=>F.run A outer s H args us vs Q E hr he hb hv (h _ _ _ _ hs)⟩
theorem Env0.make{P:Program}{w:World}{K:PySem.W.Frag}{mg:Str→Option Value}{base:Heap}{A:Around}{outer:List Env}{s:Shared}{H:Hp}(e:Env0 P w K mg base A outer s H)(C:Addr)(us:List Value)(kw:List (Str × Value)) :
  Env0 P w K mg base (A.under (.builtin "type.__call__" ⟨.ref C::us,kw⟩)) outer s H:=⟨by first | exact e.frames | (simpa [Around.under,Code.envs,Code.isFrame,pushEnvs] using e.frames),e.mod,e.bs,e.bsz,e.funs,e.frf,e.hok,e.bare⟩
section
variable{X:Cx}{pins:List (Addr × Obj)}{σ : St}{H:Hp}{s s':Shared}
theorem Inv.env0(I:Inv X pins σ H s):Env0 X.prog X.w X.K X.mg X.base X.A X.stack s H:=
 ⟨I.ok.frames,I.ok.mod,I.bs,Nat.le_trans I.ok.bsz I.sz,I.stack,I.stkFree,I.hok,I.bare⟩
theorem Inv.after{Q:VK}{u:Value}(I:Inv X pins σ H s)(h:CE X.stack X.prog X.w H s Q u s'):EP X pins σ Q u s':=by
 obtain⟨v,H',os,bare,un,hok,r,q⟩:=h
 obtain⟨hh,g,d,t,os'⟩:=s'
 obtain rfl:os'=s.os:=os
 exact⟨v,H',I.call (h':=hh) (g':=g) (d':=d) (t':=t) (ch:=[]) un hok bare (fun b z=>absurd z (by simp)),r,q⟩
end
def uR(sp:Sp)(dvs:List V)(E:XK)(t:TA):TE:=fun σ H Q=>t σ H fun vs H1=>sp (vs++dvs) H1 Q E
def Binds(K:PySem.W.Frag)(fd:FuncData)(ps:List Str)(ds:List Value):Prop:=
 ∀ (s:Shared) (us:List Value),K.In s.heap→(us++ds).length=ps.length→BindsTo s fd ⟨us,[]⟩ (ps.zip (us++ds))
theorem Binds.all{K:PySem.W.Frag}{fd:FuncData}{ps:List Str}(h:∀ us:List Value,us.length=ps.length→bindArgs fd ⟨us,[]⟩=pure (ps.zip us)):Binds K fd ps []:=fun s us _ hl=>by
 rw[List.append_nil]at hl ⊢
 exact .of_eq (h us hl)
def li(CX:ii)(X:Cx)(E:XK):Prop:=∀ (pins:List (Addr × Obj)) (σ : St) (H:Hp) (s:Shared) (e:Value) (s':Shared),Inv X pins σ H s→CX X.stack H s E e s'→X.xe e s'
section
variable{X:Cx}{CX:ii}{k:Nat}{f C:Addr}{fd:FuncData}{ps:List Str}{sp:Sp}{dvs:List V}{ds:List Value}{E:XK}{x m:Str}{p pos apos:Pos}{e o:Expr}{es:List Expr}{ta:TE}{t:TA}
theorem A_{pins:List (Addr × Obj)}{σ : St}{H:Hp}{s:Shared}{Q:VK}{us:List Value}{vs:List V}(F:FnOk X.prog X.w X.K X.mg X.base CX k f fd ps sp)(hr:Room k X.A)(hb:Binds X.K fd ps ds)(hd:Vals dvs ds)(hx:li CX X E)
  (I:Inv X pins σ H s) (r:Vals vs us) (h:sp (vs++dvs) H Q E):wpAny (model X.prog X.w) X.A (call (.ref f) us) (EP X pins σ Q) X.xe s:=by
 have r2:Vals (vs++dvs) (us++ds):=r.append hd
 have hl:(us++ds).length=ps.length:=by rw[← r2.length]; exact F.len _ _ _ _ h
 refine wpAny_call (codeAny_mono (F.run X.A X.stack s H ⟨us,[]⟩ (us++ds) (vs++dvs) Q E hr I.env0 (hb s us I.kIn hl) r2 h) fun r s' hq=>?_)
 cases r with
 | error e=>exact hx pins σ H s e s' I hq
 | ok fl=>
  cases fl with
  | ret u=>exact I.after hq
  | next=>exact False.elim hq
  | brk=>exact False.elim hq
  | cont=>exact False.elim hq
theorem zE(F:FnOk X.prog X.w X.K X.mg X.base CX k f fd ps sp)(hr:Room k X.A)(hg:Gl X x)(hm:X.mg x=some (.ref f))(hk:PySem.W.keepIn X.K (.ref f)=true)(hb:Binds X.K fd ps ds)(hd:Vals dvs ds)(hx:li CX X E)
  (ha:PA X (e::es) t) (hdb:(x == ("__debug__" : Str))=false:=by decide) (he:starEach (e::es) X.env=(false,eval e X.env)::starEach es X.env:=by rfl) (hpl:(backTo pos (starEach es X.env)).any (·.1)=false:=by rfl) :
  PE X (.Call (.Name x p) (e::es) [] pos) (uR sp dvs E t):=by
 intro pins s σ H Q I h
 refine wpAny_Call_Name_kw (lV I hg hm ?_ hdb)
 refine PySem.W.callWith_K (h₀:=X.base) I.ok.mod.kin hk (bt (ha pos pins s σ H _ I h) fun us s1 ⟨vs,H1,I1,r,q⟩=>⟨I1.kIn,?_⟩) he hpl
 exact A_ F hr hb hd hx I1 r q
structure Mk (K:PySem.W.Frag) (C f:Addr):Prop where
 makes:PySem.W.makesIn K C=true
 init:PySem.W.findIn K (.ref C) "__init__" = some (some (.ref f))
 fn:PySem.W.isFn K (.ref f)=true
 kp:PySem.W.keepIn K (.ref C)=true
theorem wJ{pins:List (Addr × Obj)}{σ : St}{H:Hp}{s:Shared}{Q:VK}{us:List Value}{vs:List V}(M:Mk X.K C f)(F:FnOk X.prog X.w X.K X.mg X.base CX k f fd ps sp)(hr:Room (k+1) X.A)(hb:Binds X.K fd ps ds)(hd:Vals dvs ds)
  (hx:li CX X E) (I:Inv X pins σ H s) (r:Vals vs us)
  (h:∀ x dx,H x=none→H dx=none→dx≠x→sp (.ref x::(vs++dvs)) (upd (upd H dx (.own x)) x (.ins C dx [])) (fun v H2=>v = .non∧Q (.ref x) H2) E) :
  wpAny (model X.prog X.w) X.A (call (.ref C) us) (EP X pins σ Q) X.xe s:=by
 have hq:=h (s.heap.objs.size+1) s.heap.objs.size (I.hok.fresh (Nat.le_succ _)) (I.hok.fresh (Nat.le_refl _)) (Nat.ne_of_lt (Nat.lt_succ_self _))
 have I2:=Inv.made (C:=C) I
 have r2:Vals (V.ref (s.heap.objs.size+1)::(vs++dvs)) (Value.ref (s.heap.objs.size+1)::(us++ds)):=.cons rfl (r.append hd)
 have hl:(Value.ref (s.heap.objs.size+1)::us++ds).length=ps.length:=by
  have e:=r2.length
  rw[F.len _ _ _ _ hq]at e
  exact e.symm
 refine wpAny_call (xQ (f:=f) I.kIn M.makes M.init (beq_iff_eq.mp M.fn) (codeAny_mono (F.run _ X.stack _ _ ⟨Value.ref (s.heap.objs.size+1)::us,[]⟩ (Value.ref (s.heap.objs.size+1)::(us++ds)) _ _ E (hr.make C us [])
  (I2.env0.make C us []) (hb _ (Value.ref (s.heap.objs.size+1)::us) I2.kIn hl) r2 hq) fun r s' hq'=>?_))
 cases r with
 | error e=>exact hx pins σ _ _ e s' I2 hq'
 | ok fl=>
  cases fl with
  | ret u=>
   obtain⟨v,H',I3,rv,ev,q3⟩:=I2.after hq'
   subst ev
   exact⟨rv,⟨V.ref (s.heap.objs.size+1),H',I3,rfl,q3⟩⟩
  | next=>exact False.elim hq'
  | brk=>exact False.elim hq'
  | cont=>exact False.elim hq'
end
section
variable{X:Cx}{CX:ii}{k:Nat}{f C:Addr}{fd:FuncData}{ps ks:List Str}{sp:Sp}{E:XK}{x m:Str}{p pos apos kpos:Pos}{e o:Expr}{es:List Expr}{kws:List Keyword}{te ta:TE}{t tk:TA}{nm:Option Str}
variable{g:List Value→List Value→List Value}{gV:List V→List V→List V}
end
structure aT (N P:List Str) (sc:Scope):Prop where
 kind:sc.kind = .function
 co:sc.isCoroutine=false
 gen:sc.isGenerator=false
 nd:N.Nodup
 pre:N.take P.length=P
 par:∀ x∈P,sc.names.lookup x=some .local∨sc.names.lookup x=some .cell
 nofree:∀ y∈sc.names,y.2 ≠ .free
theorem mz{kindOf:Str→Option NameKind}{x:Str}:∀ {binds:List (Str × Value)} {m:Str→Option Value},(∀ v,(x,v)∉binds)→bindL kindOf binds m x=m x
 | [],_,_=>rfl
 | (n,v)::r,m,h=>by
  unfold bindL
  rw[mz fun w hw=>h w (List.mem_cons_of_mem _ hw)]
  split
  ·have:x≠n:=by rintro rfl; exact h v List.mem_cons_self
   simp[this]
  ·rfl
theorem mI{kindOf:Str→Option NameKind}{x:Str}:∀ {binds:List (Str × Value)} {m:Str→Option Value},(∀ v,(x,v)∉binds)→bindC kindOf binds m x=m x
 | [],_,_=>rfl
 | (n,v)::r,m,h=>by
  unfold bindC
  rw[mI fun w hw=>h w (List.mem_cons_of_mem _ hw)]
  split
  ·rfl
  ·have:x≠n:=by rintro rfl; exact h v List.mem_cons_self
   simp[this]
theorem mF{kindOf:Str→Option NameKind}{x:Str}{v:Value}:∀ {P:List Str} {vs:List Value} {i:Nat} {m:Str→Option Value},P.Nodup→P[i]? = some x→vs[i]? = some v→kindOf x=some .local→
  bindL kindOf (P.zip vs) m x=some v
 | [],_,_,_,_,h,_,_=>by simp at h
 | _::_,[],_,_,_,_,h,_=>by simp at h
 | p::P,w::vs,0,m,nd,h1,h2,hk=>by
  simp at h1 h2; subst h1; subst h2
  show bindL kindOf ((p,w)::P.zip vs) m p=_
  unfold bindL
  rw[mz fun v hv=>(List.nodup_cons.mp nd).1 (List.of_mem_zip hv).1,if_pos hk]
  simp
 | p::P,w::vs,i+1,m,nd,h1,h2,hk=>by
  show bindL kindOf ((p,w)::P.zip vs) m x=_
  unfold bindL
  exact mF (i:=i) (List.nodup_cons.mp nd).2 (by simpa using h1) (by simpa using h2) hk
theorem mv{kindOf:Str→Option NameKind}{x:Str}{v:Value}:∀ {P:List Str} {vs:List Value} {i:Nat} {m:Str→Option Value},P.Nodup→P[i]? = some x→vs[i]? = some v→kindOf x≠some .local→
  bindC kindOf (P.zip vs) m x=some v
 | [],_,_,_,_,h,_,_=>by simp at h
 | _::_,[],_,_,_,_,h,_=>by simp at h
 | p::P,w::vs,0,m,nd,h1,h2,hk=>by
  simp at h1 h2; subst h1; subst h2
  show bindC kindOf ((p,w)::P.zip vs) m p=_
  unfold bindC
  rw[mI fun v hv=>(List.nodup_cons.mp nd).1 (List.of_mem_zip hv).1,if_neg hk]
  simp
 | p::P,w::vs,i+1,m,nd,h1,h2,hk=>by
  show bindC kindOf ((p,w)::P.zip vs) m x=_
  unfold bindC
  exact mv (i:=i) (List.nodup_cons.mp nd).2 (by simpa using h1) (by simpa using h2) hk
def start(N:List Str)(vs:List V):St:=vs.map some++List.replicate (N.length - vs.length) none
def jp(CX:ii)(P:Program)(w:World)(K:PySem.W.Frag)(mg:Str→Option Value)(base:Heap)(N:List Str)(qual:Str)(scope:Scope)(f:Addr)(cd:Value)(A:Around)(outer:List Env)(s:Shared)(H:Hp)(E:XK):Cx where
 prog:=P
 w:=w
 K:=K
 mg:=mg
 base:=base
 A:=A.deeper (envOfC qual scope s.heap.objs.size f cd)
 N:=N
 s₀:=s
 H₀:=H
 env:=envOfC qual scope s.heap.objs.size f cd
 outer:=outer
 stack:=envOfC qual scope s.heap.objs.size f cd::outer
 ex:=[]
 calm:=true
 fn:=fun _=>true
 pn:=[]
 xe:=fun e s'=>wpAny (model P w) (A.deeper (envOfC qual scope s.heap.objs.size f cd)) (leaving (envOfC qual scope s.heap.objs.size f cd) e) (fun _ s''=>CX outer H s E e s'') (fun e' s''=>CX outer H s E e' s'') s'
theorem pC{sc:Scope}{n:Nat}{x:Str}(h:sc.names.lookup x=some .cell):∃ c,(cellsFrom n sc.names []).lookup x=some c:=by
 have q:=PySem.W.cellsFrom_some sc.names n [] (.inl h)
 exact Option.isSome_iff_exists.mp q
theorem vy{CX:ii}{P:Program}{w:World}{K:PySem.W.Frag}{mg:Str→Option Value}{base:Heap}{N ps:List Str}{qual:Str}{scope:Scope}{f:Addr}{cd:Value}{A:Around}{outer:List Env}{s s1:Shared}{H:Hp}{E:XK}{us:List Value}{vs:List V}
  (S:aT N ps scope) (hd:A.handled=none) (e0:Env0 P w K mg base A outer s H) (hl:vs.length=ps.length) (r:Vals vs us)
  (x:InCallC s s.heap.objs.size (bindL (envOfC qual scope s.heap.objs.size f cd).kindOf (ps.zip us) fun _=>none) (cellsFrom (s.heap.objs.size+1) scope.names []) (bindC (envOfC qual scope s.heap.objs.size f cd).kindOf (ps.zip us) fun _=>none) s1) :
  Inv (jp CX P w K mg base N qual scope f cd A outer s H E) [] (start N vs) H s1:=by
 have hpl:ps.length≤N.length:=by have:=congrArg List.length S.pre; rw[List.length_take]at this; omega
 obtain⟨h1,tk,rfl,hk⟩:=x.done
 have noA:∀ b:Addr,b∉(jp CX P w K mg base N qual scope f cd A outer s H E).ex:=fun b z=>absurd (show b∈([]:List Addr) from z) (by simp)
 refine⟨⟨e0.mod,S.kind,rfl,rfl,Nat.le_refl _,fun y z c h1 h2=>?_,fun y hy=>?_,fun y c _ h=>?_,fun _=>hd,Around.frames_deeper e0.frames,.inr ⟨rfl,rfl⟩,fun b z=>absurd z (noA b),e0.bs,e0.bsz,fun b _ _=>noA b,fun b z=>absurd z (noA b),e0.funs,e0.frf⟩,
  rfl,e0.bare,Un.kept hk,⟨_,x.toInCall.ns,fun i y v h1 h2 h3=>?_⟩,fun y c h=>⟨_,x.cell y c h⟩,e0.hok.fresh (Nat.le_refl _),fun y c h=>?_,fun p hp=>absurd (show p∈([]:List (Addr × Obj)) from hp) (by simp),e0.hok.kept hk,?_⟩
 ·exact name_of_addr x.apart (PySem.mem_of_lookup h1) (PySem.mem_of_lookup h2)
 ·have hy:scope.names.lookup y=some .cell∨scope.names.lookup y=some .free:=hy
  rcases hy with hy | hy
  ·exact pC hy
  ·exact absurd rfl (S.nofree _ (PySem.mem_of_lookup hy))
 ·exact Nat.le_of_lt (x.above y c (PySem.mem_of_lookup h))
 ·have hi:i<vs.length:=by
   unfold start at h2
   by_cases hi:i<vs.length
   ·exact hi
   ·rw[List.getElem?_append_right (by simpa using hi)]at h2
    rw[List.getElem?_replicate]at h2
    split at h2 <;> cases h2
  have ha:vs[i]? = some v:=by
   unfold start at h2
   rw[List.getElem?_append_left (by simpa using hi),List.getElem?_map]at h2
   cases e:vs[i]? with
   | none=>rw[e]at h2; cases h2
   | some a=>rw[e]at h2; cases h2; rfl
  obtain⟨u,hu,rv⟩:=r.get ha
  have hp:ps[i]? = some y:=by
   rw[← S.pre,List.getElem?_take_of_lt (by omega)]; exact h1
  have ndP:ps.Nodup:=by rw[← S.pre]; exact S.nd.sublist (List.take_sublist _ _)
  refine⟨u,rv,?_⟩
  rcases S.par y (List.mem_of_getElem? hp) with k | k
  ·exact .inl ⟨k,mF ndP hp hu k⟩
  ·obtain⟨c,e⟩:=pC (n:=s.heap.objs.size+1) k
   refine .inr ⟨.inl k,c,e,?_⟩
   have q:=x.cell y c e
   rw[mv ndP hp hu (by show scope.names.lookup y≠_; rw[k]; decide)]at q
   exact q
 ·exact e0.hok.fresh (Nat.le_of_lt (x.above y c (PySem.mem_of_lookup h)))
 ·unfold start
  show _=N.length
  rw[List.length_append,List.length_map,List.length_replicate]
  omega
theorem CP{CX:ii}{P:Program}{w:World}{K:PySem.W.Frag}{mg:Str→Option Value}{base:Heap}{k:Nat}{f:Addr}{name qual:Str}{params:Arguments}{body:List Stmt}{scope:Scope}{dV kV doc pm cdv ct oc:Value}{an od:Option Addr}
  {osl:Array (Option Value)} {N ps:List Str} {sp:Sp} (lk:K.lookup f=some ⟨oc,od,.func (PySem.W.fnOf name qual params body scope dV kV doc pm an cdv ct),osl⟩) (hcd:PySem.W.codeIn K cdv qual=true) (S:aT N ps scope)
  (len:∀ vs H Q E,sp vs H Q E→vs.length=ps.length)
  (hbody:∀ (A:Around) (outer:List Env) (s:Shared) (H:Hp) (vs:List V) (Q:VK) (E:XK),Room k (A.deeper (envOfC qual scope s.heap.objs.size f cdv))→sp vs H Q E→
   ∃ t,PSs (jp CX P w K mg base N qual scope f cdv A outer s H E) body t∧t { nx:=fun _ H'=>Q .non H',rt:=Q } (start N vs) H) :
  FnOk P w K mg base CX (k+1) f (PySem.W.fnOf name qual params body scope dV kV doc pm an cdv ct) ps sp:=by
 refine⟨len,fun A outer s H args us vs Q E hr e0 hb r hsp=>?_⟩
 have hl:=len _ _ _ _ hsp
 have KX:K.In s.heap:=e0.mod.kin.keeps fun b o e=>(e0.bs b o e).1
 have lim:s.heap.NoLimit:=e0.mod.nolimit.keeps fun b o e=>(e0.bs b o e).1
 have hkind:∀ y∈ps.zip us,scope.names.lookup y.1=some .local∨(scope.names.lookup y.1=some .cell∧((cellsFrom (s.heap.objs.size+1) scope.names []).lookup y.1).isSome=true):=fun ⟨n,v⟩ hy=>by
  rcases S.par n (List.of_mem_zip hy).1 with q | q
  ·exact .inl q
  ·exact .inr ⟨q,PySem.W.cellsFrom_some _ _ _ (.inl q)⟩
 refine codeAny_call_function hr.depth (KX _ _ lk) rfl S.co S.gen rfl (PySem.W.codeRec_of KX hcd) (hb _ _ _ _ ?_)
 refine wpAny_newFunctionEnv_cells S.kind hkind fun env he s1 x=>?_
 subst he
 refine⟨lim.keeps x.toInCall.keep,codeAny_func ?_⟩
 obtain⟨t,ht,hq⟩:=hbody A outer s H vs Q E (hr.deeper _) hsp
 have I:Inv (jp CX P w K mg base N qual scope f cdv A outer s H E) [] (start N vs) H s1:=vy S hr.hd e0 hl r x
 refine wpAny_mono (ht [] s1 (start N vs) H _ I hq) (fun fl s' hs=>?_) fun e s' hs=>hs
 have fin:∀ {σ':St} {H':Hp} {v:V} {u:Value},Inv (jp CX P w K mg base N qual scope f cdv A outer s H E) [] σ' H' s'→RelV v u→Q v H'→CE outer P w H s Q u s':=
  fun {σ' H' v u} J rv q=>⟨v,H',J.os,J.bare,J.base,J.hok,rv,q⟩
 cases fl with
 | ret u=>
  obtain⟨v,σ',H',J,rv,q⟩:=hs
  exact fin J rv q
 | next=>
  obtain⟨σ',H',J,q⟩:=hs
  exact fin (v:=V.non) (u:=Value.none) J rfl q
 | brk=>
  obtain⟨_,_,_,q⟩:=hs
  exact False.elim q
 | cont=>
  obtain⟨_,_,_,q⟩:=hs
  exact False.elim q
end L2
namespace L2
open PySem PySem.Spec PyProof.Rows
section
variable{X:Cx}{x:Str}{p pos:Pos}{e:Expr}{es:List Expr}{t:TA}{id T:String}{r:List V→Hp→VK→Prop}
def vW(r:List V→Hp→VK→Prop)(t:TA):TE:=fun σ H Q=>t σ H fun vs H1=>r vs H1 Q
theorem xw(hc:CallR X (.builtin id) r)(hg:Gl X x)(hm:X.mg x=none)(hv:bootBuiltins x=some (.builtin id))(ha:PA X (e::es) t)(hn:x ≠ "__name__" := by decide) (hdb:(x == ("__debug__" : Str))=false:=by decide)
  (he:starEach (e::es) X.env=(false,eval e X.env)::starEach es X.env:=by rfl) (hpl:(backTo pos (starEach es X.env)).any (·.1)=false:=by rfl):PE X (.Call (.Name x p) (e::es) [] pos) (vW r t):=by
 intro pins s σ H Q I h
 refine wpAny_Call_Name_kw (fT I hg hm hv ?_ hn hdb)
 exact PyProof.Rows.callWith_builtin1 (bt (ha pos pins s σ H _ I h) fun us s1 ⟨vs,H1,I1,r1,q1⟩=>hc pins s1 σ H1 vs us Q I1 r1 q1) he hpl
theorem vg(hc:CallR X (.type T) r)(hg:Gl X x)(hm:X.mg x=none)(hv:bootBuiltins x=some (.type T))(ha:PA X (e::es) t)(hn:x ≠ "__name__" := by decide) (hdb:(x == ("__debug__" : Str))=false:=by decide)
  (he:starEach (e::es) X.env=(false,eval e X.env)::starEach es X.env:=by rfl) (hpl:(backTo pos (starEach es X.env)).any (·.1)=false:=by rfl):PE X (.Call (.Name x p) (e::es) [] pos) (vW r t):=by
 intro pins s σ H Q I h
 refine wpAny_Call_Name_kw (fT I hg hm hv ?_ hn hdb)
 exact PyProof.Rows.callWith_type1 (bt (ha pos pins s σ H _ I h) fun us s1 ⟨vs,H1,I1,r1,q1⟩=>hc pins s1 σ H1 vs us Q I1 r1 q1) he hpl
end
end L2
namespace HT
open PySem PyProof.Rows
section
open PySem.SeqAt
open PySem.AutoSeq1 (wpAny_loadPart')
open PySem.MeetsSeq PySem.MeetsSeq2 PySem.MeetsSeq3
end
section
variable{prog:Program}{w:World}{A:Around}{E:Value→Shared→Prop}{s:Shared}
theorem cat_tup{t b:Addr}{vs ws:List Value}{Q:Value→Shared→Prop}(ht:IsTup s.heap t vs.toArray)(hb:IsTup s.heap b ws.toArray)(hv:vs≠[])
  (h1:ws=[]→Q (.ref t) s) (h2:ws≠[]→Q (.ref s.heap.objs.size) { s with heap:=s.heap.push { cls:=.type "tuple", data:=.seq (vs++ws).toArray } })
  (hsz:vs.length+ws.length≤sizeLine):wpAny (model prog w) A (binaryOp .Add (.ref t) (.ref b)) Q E s:=by
 obtain⟨⟨cls,dd,data,sl⟩,ho,hc,n,hd⟩:=id ht
 obtain⟨⟨cls2,dd2,data2,sl2⟩,ho2,hc2,n2,hd2⟩:=id hb
 simp only at hc hd hc2 hd2
 subst hc hd hc2 hd2
 have e:vs.toArray++ws.toArray=(vs++ws).toArray:=by simp
 by_cases hw:ws=[]
 ·exact concat_meets ⟨_,ho,rfl⟩ ⟨_,ho2,rfl⟩ noFill_tuple_add seq_tuple_add PySem.F.slot_tuple_add PySem.F.entry_tuple_add (PySem.F.args_tuple_add_2 _ _)
   (tuple_addW1 t b vs.toArray ws.toArray n n2 dd dd2 sl sl2 (by simpa using hv) (by simp[hw])) ⟨ho,ho2,h1 hw⟩
 ·refine concat_meets ⟨_,ho,rfl⟩ ⟨_,ho2,rfl⟩ noFill_tuple_add seq_tuple_add PySem.F.slot_tuple_add PySem.F.entry_tuple_add (PySem.F.args_tuple_add_2 _ _)
   (tuple_addW2 t b vs.toArray ws.toArray n n2 dd dd2 sl sl2 (by simpa using hv) (by simpa using hw) (by rw[List.size_toArray,List.size_toArray]; exact hsz)) ⟨ho,ho2,?_⟩
  rw[e]
  exact h2 hw
def sIx(n d:Nat):Option Int→Nat
 | none=>d
 | some v=>if v<0 then (v+(n:Int)).toNat else min v.toNat n
theorem sIx_none(n d:Nat):sIx n d none=d:=rfl
theorem sIx_nat(n d k:Nat):sIx n d (some (k:Int))=min k n:=by
 show (if (k:Int)<0 then ((k:Int)+(n:Int)).toNat else min (k:Int).toNat n)=min k n
 rw[if_neg (by omega),Int.toNat_natCast]
theorem sIx_le(n d:Nat)(hd:d≤n)(o:Option Int):sIx n d o≤n:=by
 cases o with
 | none=>exact hd
 | some v=>
  show (if v<0 then (v+(n:Int)).toNat else min v.toNat n)≤n
  by_cases hv:v<0
  ·rw[if_pos hv]; omega
  ·rw[if_neg hv]; exact Nat.min_le_right _ _
theorem rm(v:Int)(n d:Nat):(if v<0 then max (v+(n:Int)) 0 else min v (n:Int))=((sIx n d (some v):Nat):Int):=by
 show (if v<0 then max (v+(n:Int)) 0 else min v (n:Int))=(((if v<0 then (v+(n:Int)).toNat else min v.toNat n):Nat):Int)
 by_cases hv:v<0
 ·simp only[if_pos hv]; omega
 ·simp only[if_neg hv]; omega
theorem uA(lo hi:Option Int)(n:Nat):Builtin.Slice.sliceAdjust lo hi 1 (n:Int)=(((sIx n 0 lo:Nat):Int),((sIx n n hi:Nat):Int)):=by
 have h1:¬ ((1:Int)<0):=by omega
 unfold Builtin.Slice.sliceAdjust
 simp only[h1,if_false]
 refine Prod.ext ?_ ?_
 ·cases lo with
  | none=>rfl
  | some v=>exact rm v n 0
 ·cases hi with
  | none=>rfl
  | some v=>exact rm v n n
theorem uz(i j:Nat):Builtin.Slice.slicePlaces (i:Int) (j:Int) 1=j - i:=by
 unfold Builtin.Slice.slicePlaces
 have h1:(1:Int)>0:=by omega
 simp only[h1,if_true,Int.ediv_one]
 split <;> omega
theorem kB{v:Value}{o:Option Int}{Q:Option Int→Shared→Prop}(p:IsPart v o)(h:Q o s):wpAny (model prog w) A (Builtin.Slice.slicePartIndex v) Q E s:=by
 cases p with
 | none=>exact slicePart_none h
 | int i t=>exact slicePart_int h
theorem sliceApplied_gen{sl:Addr}{vl vu:Value}{lo hi:Option Int}{n:Nat}{Q:Int × Int × Nat→Shared→Prop}(hs:s.heap.IsSliceOf sl vl vu .none)(pl:IsPart vl lo)(pu:IsPart vu hi)
  (h:Q (((sIx n 0 lo:Nat):Int),1,sIx n n hi - sIx n 0 lo) s):wpAny (model prog w) A (Builtin.Slice.sliceApplied (.ref sl) (pure (n:Int))) Q E s:=by
 obtain⟨os,hos,hcs,hds⟩:=id hs
 unfold Builtin.Slice.sliceApplied Builtin.Slice.sliceFields
 refine wpAny_bind (wpAny_bind (wpAny_field hos hds (x:=vl) rfl (wpAny_bind (wpAny_field hos hds (x:=vu) rfl (wpAny_bind (wpAny_field hos hds (x:=.none) rfl (wpAny_pure ?_)))))))
 refine wpAny_bind (slicePart_none ?_)
 show wpAny _ _ (if ((1:Int) == 0)=true then _ else _) _ _ s
 rw[if_neg (by decide)]
 refine wpAny_bind (kB pl (wpAny_bind (kB pu (wpAny_bind (wpAny_pure ?_)))))
 show wpAny _ _ (match Builtin.Slice.sliceAdjust lo hi 1 (n:Int) with | (lo,hi)=>pure (lo,(1:Int),Builtin.Slice.slicePlaces lo hi 1)) _ _ s
 rw[uA lo hi n]
 show wpAny _ _ (pure (((sIx n 0 lo:Nat):Int),(1:Int),Builtin.Slice.slicePlaces ((sIx n 0 lo:Nat):Int) ((sIx n n hi:Nat):Int) 1)) _ _ s
 rw[uz]
 exact wpAny_pure h
theorem w5(xs:Array Value)(i k:Nat):((List.range k).filterMap fun (m:Nat)=>xs[((i:Int)+(m:Int) * 1).toNat]?).toArray=((xs.toList.drop i).take k).toArray:=by
 have e:(fun (m:Nat)=>xs[((i:Int)+(m:Int) * 1).toNat]?)=fun m=>xs[i+m]?:=by
  funext m
  have:((i:Int)+(m:Int) * 1).toNat=i+m:=by omega
  rw[this]
 rw[e]
 have:=pick_run xs i k
 rw[List.filterMap_map]at this
 have e2:((fun x=>xs[x]?) ∘ fun x=>i+x)=fun m=>xs[i+m]?:=rfl
 rw[e2]at this
 rw[this]
theorem getItem_tuple_cut{t sl:Addr}{items:Array Value}{vl vu:Value}{lo hi:Option Int}{Q:Value→Shared→Prop}(ht:IsTup s.heap t items)(hs:s.heap.IsSliceOf sl vl vu .none)(pl:IsPart vl lo)(pu:IsPart vu hi)
  (hw:¬ (sIx items.size 0 lo=0∧sIx items.size items.size hi=items.size))
  (h:Q (.ref s.heap.objs.size) { s with heap:=s.heap.push { cls:=.type "tuple", data:=.seq ((items.toList.drop (sIx items.size 0 lo)).take (sIx items.size items.size hi - sIx items.size 0 lo)).toArray } })
  (hsz:items.size≤sizeLine):wpAny (model prog w) A (getItem (.ref t) (.ref sl)) Q E s:=by
 have htake:sizeOk (.seq ((items.toList.drop (sIx items.size 0 lo)).take (sIx items.size items.size hi - sIx items.size 0 lo)).toArray):=by
  show ((items.toList.drop (sIx items.size 0 lo)).take (sIx items.size items.size hi - sIx items.size 0 lo)).toArray.size≤sizeLine
  rw[List.size_toArray,List.length_take,List.length_drop,Array.length_toList]
  omega
 have hj:sIx items.size items.size hi≤items.size:=sIx_le _ _ (Nat.le_refl _) hi
 obtain⟨os,hos,hcs,hds⟩:=id hs
 have hTs:s.TypeIs (.ref sl) "slice" := ⟨os,hos,hcs⟩
 unfold getItem
 try with_reducible refine wpAny_holding ?_
 first | refine wpAny_bind (wpAny_pure ?_) | skip
 refine wpAny_bind (wpAny_sequenceKey ht.typeIs (by decide) ?_)
 refine wpAny_bind (wpAny_callSpecial?_slot (name:=Str.ofString "__getitem__") ht.typeIs PyProof.Rows.slot_tuple_getitem
  (wpAny_call_entry PyProof.Rows.slot_tuple_getitem ht.typeIs entry_tuple_getitem ?_ (args_tuple_getitem _ _)))
 show wpAny _ _ (Builtin.Tuple.tupleItemsOf (.ref t) >>= _) _ _ s
 refine wpAny_bind (tupleItemsOf_ ht ?_)
 refine wpAny_bind (wpAny_typeOf hTs ?_)
 rw[if_pos (by decide)]
 refine wpAny_bind (sliceApplied_gen hs pl pu ?_)
 have hno:¬ ((((sIx items.size 0 lo:Nat):Int) == 0&&(1:Int) == 1&&(sIx items.size items.size hi - sIx items.size 0 lo) == items.size)=true):=by
  intro q
  rw[Bool.and_eq_true,Bool.and_eq_true]at q
  have q1:((sIx items.size 0 lo:Nat):Int)=0:=eq_of_beq q.1.1
  have q2:sIx items.size items.size hi - sIx items.size 0 lo=items.size:=eq_of_beq q.2
  exact hw ⟨by omega,by omega⟩
 show wpAny _ _ (if (((sIx items.size 0 lo:Nat):Int) == 0&&(1:Int) == 1&&(sIx items.size items.size hi - sIx items.size 0 lo) == items.size)=true then _ else _) _ _ s
 rw[if_neg hno,w5]
 first
  | exact wpAny_bind (m:=Builtin.Tuple.tupleExact _) (wpAny_newObj_type (wpAny_pure ⟨_,rfl,wpAny_pure h⟩) htake)
  | exact wpAny_bind (m:=Builtin.Tuple.tupleExact _) (wpAny_newObj_type (wpAny_bind (wpAny_pure (wpAny_pure ⟨_,rfl,wpAny_pure h⟩))) htake)
  | exact wpAny_bind (wpAny_bind (m:=Builtin.Tuple.tupleExact _) (wpAny_newObj_type (wpAny_pure (wpAny_pure ⟨_,rfl,wpAny_pure h⟩)) htake))
  | exact wpAny_bind (wpAny_bind (m:=Builtin.Tuple.tupleExact _) (wpAny_newObj_type (wpAny_pure ⟨_,rfl,wpAny_pure h⟩) htake))
end
end HT
namespace L2
open PySem PySem.Spec PyProof.Rows
abbrev TO:=St→Hp→(Option Int→Hp→Prop)→Prop
def PO(X:Cx)(e:Option Expr)(t:TO):Prop:=
 ∀ (pins:List (Addr × Obj)) (s:Shared) (σ : St) (H:Hp) (Q:Option Int→Hp→Prop),Inv X pins σ H s→t σ H Q→
  wpAny (model X.prog X.w) X.A (evalPart e X.env) (fun u s'=>∃ o H',Inv X pins σ H' s'∧IsPart u o∧Q o H') X.xe s
def rC:TO:=fun _ H Q=>Q none H
def yD(t:TE):TO:=fun σ H Q=>t σ H fun x H1=>∃ i,x = .int i∧Q (some i) H1
section
variable{X:Cx}{e:Expr}{te:TE}{lo hi:Option Expr}{tl th:TO}{pos p2:Pos}
theorem cV:PO X none rC:=by
 intro pins s σ H Q I h
 rw[evalPart_none]
 exact wpAny_pure ⟨none,H,I,.none,h⟩
theorem cr(h:PE X e te):PO X (some e) (yD te):=by
 intro pins s σ H Q I hw
 rw[evalPart_some]
 refine bt (h pins s σ H _ I hw) fun u s1 ⟨x,H1,I1,r1,q1⟩=>?_
 obtain⟨i,rfl,q⟩:=q1
 obtain⟨t,rfl⟩:=r1
 exact⟨some i,H1,I1,.int i t,q⟩
def SlR(X:Cx)(r:V→Option Int→Option Int→Hp→VK→Prop):Prop:=
 ∀ (pins:List (Addr × Obj)) (s:Shared) (σ : St) (H:Hp) (x:V) (v vl vu:Value) (lo hi:Option Int) (sl:Addr) (Q:VK),Inv X pins σ H s→RelV x v→s.heap.IsSliceOf sl vl vu .none→IsPart vl lo→IsPart vu hi→r x lo hi H Q→
  ∃ T id,typeLookup (.type T) "__getitem__" = pure (some (.builtin id))∧s.TypeIs v T∧wpAny (model X.prog X.w) X.A (getItem v (.ref sl)) (EP X pins σ Q) X.xe s
def Dc(r:V→Option Int→Option Int→Hp→VK→Prop)(te:TE)(tl th:TO):TE:=fun σ H Q=>te σ H fun x H1=>tl σ H1 fun l H2=>th σ H2 fun u H3=>r x l u H3 Q
theorem cj{r:V→Option Int→Option Int→Hp→VK→Prop}(hr:SlR X r)(he:PE X e te)(hl:PO X lo tl)(hu:PO X hi th):PE X (.Subscript e (.Slice lo hi none p2) pos) (Dc r te tl th):=by
 intro pins s σ H Q I h
 refine Subscript_ (bt (he pins s σ H _ I h) fun v s1 ⟨x,H1,I1,r1,q1⟩=>?_)
 refine wpAny_Slice (bt (hl pins s1 σ H1 _ I1 q1) fun vl s2 ⟨l,H2,I2,pl,q2⟩=>bt (hu pins s2 σ H2 _ I2 q2) fun vu s3 ⟨u,H3,I3,pu,q3⟩=>?_)
 rw[evalPart_none]
 refine wpAny_pure ?_
 have I4:Inv X pins σ H3 { s3 with heap:=s3.heap.push { cls:=.type "slice", data:=.fields #[vl,vu,.none] } }:=I3.kept (t':=s3.toks) fun b ob q=>Heap.get?_push_of_some _ q
 obtain⟨T,id,hT,ht,hg⟩:=hr pins { s3 with heap:=s3.heap.push { cls:=.type "slice", data:=.fields #[vl,vu,.none] } } σ H3 x v vl vu l u s3.heap.objs.size Q I4 r1 (Heap.IsSliceOf.new ..) pl pu q3
 show wpAny (model X.prog X.w) X.A (subscriptTail e (.Slice lo hi none p2) v (.ref s3.heap.objs.size)) (EP X pins σ Q) X.xe { s3 with heap:=s3.heap.push { cls:=.type "slice", data:=.fields #[vl,vu,.none] } }
 exact tail_any (ops:=[.ref s3.heap.objs.size,v]) ht hT hg (by with_unfolding_all rfl)
def df(xs:List V)(lo hi:Option Int):List V:=(xs.drop (HT.sIx xs.length 0 lo)).take (HT.sIx xs.length xs.length hi - HT.sIx xs.length 0 lo)
theorem jI(xs:List V)(lo hi:Option Int):(df xs lo hi).length≤xs.length:=by
 unfold df
 rw[List.length_take,List.length_drop]
 omega
def Et(K:PySem.W.Frag):V→Option Int→Option Int→Hp→VK→Prop:=fun x lo hi H Q=>∃ a xs,x = .ref a∧SqT K H a xs∧
 ¬ (HT.sIx xs.length 0 lo=0∧HT.sIx xs.length xs.length hi=xs.length)∧∀ p,H p=none→Q (.ref p) (upd H p (.tup (df xs lo hi)))
theorem AS:SlR X (Et X.K):=by
 intro pins s σ H x v vl vu lo hi sl Q I rx hs pl pu h
 obtain⟨a,xs,rfl,hx,hw,q⟩:=h
 cases rx
 obtain⟨its,r,ht,hz⟩:=I.tuple hx
 have hlen:its.toArray.size=xs.length:=by rw[List.size_toArray]; exact r.length.symm
 refine⟨"tuple", _,PyProof.Rows.slot_tuple_getitem.lookup,ht.typeIs,?_⟩
 refine HT.getItem_tuple_cut ht hs pl pu (by rw[hlen]; exact hw) ?_ (by rw[hlen]; exact hz)
 rw[hlen]
 refine⟨.ref s.heap.objs.size,_,I.laid (t':=s.toks) (o:=.tup (df xs lo hi)) (fun b ob q=>Heap.get?_push_of_some _ q) (Nat.le_refl _) ?_,rfl,q _ (I.hok.fresh (Nat.le_refl _))⟩
 exact⟨Nat.le_trans (jI xs lo hi) hz,_,(r.drop (HT.sIx xs.length 0 lo)).take (HT.sIx xs.length xs.length hi - HT.sIx xs.length 0 lo),IsTupN.new _ _⟩
def uh(K:PySem.W.Frag):R2:=fun x y H Q=>∃ a b xs ys,x = .ref a∧y = .ref b∧SqT K H a xs∧SqT K H b ys∧xs≠[]∧xs.length+ys.length≤sizeLine∧
 (ys=[]→Q (.ref a) H)∧(ys≠[]→∀ p,H p=none→Q (.ref p) (upd H p (.tup (xs++ys))))
theorem Vals.nil_iff{xs:List V}{us:List Value}(r:Vals xs us):us=[] ↔ xs=[]:=by
 cases r with
 | nil=>simp
 | cons _ _=>simp
theorem zn:OpR X (binaryOp .Add) (uh X.K):=by
 intro pins s σ H x y v u Q I rx ry h
 obtain⟨a,b,xs,ys,rfl,rfl,ha,hb,hx,hz,q1,q2⟩:=h
 cases rx
 cases ry
 obtain⟨its,r1,p1,_⟩:=I.tuple ha
 obtain⟨its2,r2,p2,_⟩:=I.tuple hb
 refine HT.cat_tup p1 p2 (fun z=>hx (r1.nil_iff.mp z)) (fun z=>⟨.ref a,H,I,rfl,q1 (r2.nil_iff.mp z)⟩) (fun z=>?_) (by rw[← r1.length,← r2.length]; exact hz)
 refine⟨.ref s.heap.objs.size,_,I.laid (t':=s.toks) (o:=.tup (xs++ys)) (fun b ob q=>Heap.get?_push_of_some _ q) (Nat.le_refl _) ?_,rfl,q2 (fun w=>z (r2.nil_iff.mpr w)) _ (I.hok.fresh (Nat.le_refl _))⟩
 exact⟨by rw[List.length_append]; exact hz,_,r1.append r2,IsTupN.new _ _⟩
end
end L2
namespace L2
open PySem PySem.Spec PyProof.Rows
def iS(n:Nat)(i:Int):Option Nat:=if 0≤i then (if i<n then some i.toNat else none) else if -(n:Int)≤i then some (i+n).toNat else none
def di{α : Type}(xs:List α)(i:Int):Option α:=(iS xs.length i).bind fun j=>xs[j]?
theorem zt{n:Nat}{i:Int}{j:Nat}(h:iS n i=some j):seqIndex? i n=some j∧j<n∧-(n:Int)≤i∧i<n:=by
 unfold iS at h
 by_cases h0:0≤i
 ·rw[if_pos h0]at h
  by_cases h1:i<n
  ·rw[if_pos h1]at h
   have e:i.toNat=j:=Option.some.inj h
   exact⟨by rw[seqIndex_of h0 h1,e],by omega,by omega,h1⟩
  ·rw[if_neg h1]at h; cases h
 ·rw[if_neg h0]at h
  by_cases h1:-(n:Int)≤i
  ·rw[if_pos h1]at h
   have e:(i+n).toNat=j:=Option.some.inj h
   exact⟨by rw[seqIndex_neg (by omega) h1,e],by omega,h1,by omega⟩
  ·rw[if_neg h1]at h; cases h
theorem lO{α : Type}{xs:List α}{i:Int}{v:α}(h:di xs i=some v):∃ j,seqIndex? i xs.length=some j∧xs[j]? = some v∧j<xs.length∧-(xs.length:Int)≤i∧i<xs.length:=by
 unfold di at h
 cases e:iS xs.length i with
 | none=>rw[e]at h; cases h
 | some j=>
  rw[e]at h
  obtain⟨h1,h2,h3,h4⟩:=zt e
  exact⟨j,h1,h,h2,h3,h4⟩
theorem bu{α : Type}{xs:List α}{j:Nat}{v:α}(h:xs[j]? = some v):di xs (j:Int)=some v:=by
 have hj:j<xs.length:=(List.getElem?_eq_some_iff.mp h).1
 have e:iS xs.length (j:Int)=some j:=by
  unfold iS
  rw[if_pos (by omega),if_pos (by omega)]; simp
 unfold di; rw[e]; exact h
def zw(b:Expr):Prop:=∀ o i,subscripted b false o i=operate [o,i] (getItem o i)
def IxR(X:Cx)(r:R2):Prop:=
 ∀ (value slice:Expr) (pins:List (Addr × Obj)) (s:Shared) (σ : St) (H:Hp) (x y:V) (v u:Value) (Q:VK),Inv X pins σ H s→RelV x v→RelV y u→r x y H Q→
  subscripted slice false v u=operate [v,u] (getItem v u)→wpAny (model X.prog X.w) X.A (subscriptTail value slice v u) (EP X pins σ Q) X.xe s
def MtR(X:Cx)(id:String)(r:V→List V→Hp→VK→Prop):Prop:=
 ∀ (pins:List (Addr × Obj)) (s:Shared) (σ : St) (H:Hp) (x:V) (xs:List V) (v:Value) (us:List Value) (Q:VK),Inv X pins σ H s→RelV x v→Vals xs us→r x xs H Q→
  wpAny (model X.prog X.w) X.A (call (.builtin id) (v::us)) (EP X pins σ Q) X.xe s
section
variable{X:Cx}{a b:Expr}{ta tb:TE}{pos:Pos}
theorem IxR.or{r r':R2}(h:IxR X r)(h':IxR X r'):IxR X (fun x y H Q=>r x y H Q∨r' x y H Q):=by
 intro value slice pins s σ H x y v u Q I rx ry q hs
 rcases q with q | q
 ·exact h value slice pins s σ H x y v u Q I rx ry q hs
 ·exact h' value slice pins s σ H x y v u Q I rx ry q hs
theorem ay{r:R2}(hr:IxR X r)(ha:PE X a ta)(hb:PE X b tb)(hs:zw b):PE X (.Subscript a b pos) (vO r ta tb):=by
 intro pins s σ H Q I h
 exact Subscript_ (xb ha hb I h fun v u s2 x y H2 I2 rx ry q=>hr a b pins s2 σ H2 x y v u Q I2 rx ry q (hs _ _))
def AL(K:PySem.W.Frag):R2:=fun x y H Q=>∃ p xs i v,x = .ref p∧y = .int i∧SqL K H p xs∧di xs i=some v∧Q v H
def Aq(K:PySem.W.Frag):R2:=fun x y H Q=>∃ p xs i v,x = .ref p∧y = .int i∧SqT K H p xs∧di xs i=some v∧Q v H
def BH:R2:=fun x y H Q=>∃ z i c,x = .str z∧y = .int i∧z.length≤sizeLine∧di z.cps.toList i=some c∧Q (.str ⟨#[c]⟩) H
theorem ix_list:IxR X (AL X.K):=by
 intro value slice pins s σ H x y v u Q I rx ry h hs
 obtain⟨p,xs,i,z,rfl,rfl,hq,he,q⟩:=h
 cases rx
 obtain⟨t,rfl⟩:=ry
 obtain⟨its,r,pl,hz⟩:=I.list hq
 obtain⟨j,h1,h2,h3,h4,h5⟩:=lO he
 obtain⟨w,ew,rw'⟩:=r.get h2
 have hl:=r.length
 have hn:=i7
 have fin:EP X pins σ Q w s:=⟨z,H,I,rw',q⟩
 by_cases h0:0≤i
 ·have hj:i.toNat=j:=by
   rw[seqIndex_of h0 h5]at h1
   exact Option.some.inj h1
  exact item_listR pl.isList h0 (by omega) (by rw[hj]; simpa using ew) fin hs
 ·have hj:(i+(its.toArray.size:Int)).toNat=j:=by
   rw[seqIndex_neg (by omega) h4]at h1
   rw[List.size_toArray,← hl]
   exact Option.some.inj h1
  exact subscriptTail_builtinR (x:=w) pl.isList.typeIs slot_list_getitem.lookup
   (wpAny_getItem_list_neg (Q:=fun r s'=>r=w∧EP X pins σ Q r s') pl.isList (by omega) (by rw[List.size_toArray] <;> omega) (by omega) (by rw[hj]; simpa using ew) ⟨rfl,fin⟩) hs
theorem ix_tup:IxR X (Aq X.K):=by
 intro value slice pins s σ H x y v u Q I rx ry h hs
 obtain⟨p,xs,i,z,rfl,rfl,hq,he,q⟩:=h
 cases rx
 obtain⟨t,rfl⟩:=ry
 obtain⟨its,r,pl,hz⟩:=I.tuple hq
 obtain⟨j,h1,h2,h3,h4,h5⟩:=lO he
 obtain⟨w,ew,rw'⟩:=r.get h2
 have hl:=r.length
 have hn:=i7
 have fin:EP X pins σ Q w s:=⟨z,H,I,rw',q⟩
 exact subscriptTail_builtinR (x:=w) pl.typeIs slot_tuple_getitem.lookup
  (getItem_tuple (j:=j) (Q:=fun r s'=>r=w∧EP X pins σ Q r s') pl (by omega) (by omega) (by rw[List.size_toArray,← hl]; exact h1) (by simpa using ew) ⟨rfl,fin⟩) hs
theorem Bk:IxR X BH:=by
 intro value slice pins s σ H x y v u Q I rx ry h hs
 obtain⟨z,i,c,rfl,rfl,hz,he,q⟩:=h
 obtain⟨t,rfl⟩:=rx
 obtain⟨t',rfl⟩:=ry
 obtain⟨j,h1,h2,h3,h4,h5⟩:=lO he
 have hl:z.cps.toList.length=z.length:=by simp[Str.length]
 rw[hl]at h1 h4 h5
 have hn:=i7
 exact tail_any (typeIs_str s z t) slot_str_getitem.lookup (getItem_str (c:=c) (by
  have e1:decide (i < -(2 ^ 63:Int))=false:=decide_eq_false (by omega)
  have e2:decide (i≥2 ^ 63)=false:=decide_eq_false (by omega)
  rw[e1,e2,Bool.or_false]) (by rw[h1]; simpa using h2) ⟨.str ⟨#[c]⟩,H,I.tok _,⟨_,rfl⟩,q⟩) hs
def Hb(K:PySem.W.Frag):R2:=fun x y H Q=>AL K x y H Q∨Aq K x y H Q∨BH x y H Q
theorem Av:IxR X (Hb X.K):=ix_list.or (ix_tup.or Bk)
theorem jk(lo hi:Option Int)(n:Nat):(sliceBounds lo hi none n).1=((HT.sIx n 0 lo:Nat):Int)∧(sliceBounds lo hi none n).2.1=((HT.sIx n n hi:Nat):Int)∧(sliceBounds lo hi none n).2.2=1:=by
 refine⟨?_,?_,rfl⟩
 ·cases lo with
  | none=>simp[sliceBounds,HT.sIx]
  | some i=>
   simp only[sliceBounds,HT.sIx,Option.getD_none,show (1:Int)>0 by decide,if_true]
   by_cases h:i<0
   ·simp only[h,if_true] <;> omega
   ·simp only[h,if_false] <;> omega
 ·cases hi with
  | none=>simp[sliceBounds,HT.sIx]
  | some i=>
   simp only[sliceBounds,HT.sIx,Option.getD_none,show (1:Int)>0 by decide,if_true]
   by_cases h:i<0
   ·simp only[h,if_true] <;> omega
   ·simp only[h,if_false] <;> omega
theorem nI(its:List Value)(lo hi:Option Int):slicePick its.toArray lo hi none=((its.drop (HT.sIx its.length 0 lo)).take (HT.sIx its.length its.length hi - HT.sIx its.length 0 lo)).toArray:=by
 obtain⟨h1,h2,h3⟩:=jk lo hi its.toArray.size
 unfold slicePick
 rw[h1,h2,h3]
 simp only[sliceRange_one,pick_run,List.size_toArray] <;> rfl
def xN(K:PySem.W.Frag):V→Option Int→Option Int→Hp→VK→Prop:=fun x lo hi H Q=>∃ a xs,x = .ref a∧SqL K H a xs∧∀ p,H p=none→Q (.ref p) (upd H p (.lst (df xs lo hi)))
theorem zO:SlR X (xN X.K):=by
 intro pins s σ H x v vl vu lo hi sl Q I rx hs pl pu h
 obtain⟨a,xs,rfl,hx,q⟩:=h
 cases rx
 obtain⟨its,r,ht,hz⟩:=I.list hx
 have hlen:=r.length
 refine⟨"list", _,slot_list_getitem.lookup,ht.isList.typeIs,?_⟩
 refine wpAny_getItem_list_slice ht.isList hs pl pu .none (by simp) ?_ (by rw[List.size_toArray] <;> omega)
 rw[nI,← hlen]
 refine⟨.ref s.heap.objs.size,_,I.laid (t':=s.toks) (o:=.lst (df xs lo hi)) (fun b ob q=>Heap.get?_push_of_some _ q) (Nat.le_refl _) ?_,rfl,q _ (I.hok.fresh (Nat.le_refl _))⟩
 exact⟨Nat.le_trans (jI xs lo hi) hz,_,0,(r.drop (HT.sIx xs.length 0 lo)).take (HT.sIx xs.length xs.length hi - HT.sIx xs.length 0 lo),Heap.get?_push_size _ rfl⟩
def cz:V→Bool
 | .non=>true
 | .bl _=>true
 | .int _=>true
 | .str _=>true
 | _=>false
def eG:V→V→Bool
 | .non,.non=>true
 | .bl a,.bl b=>a == b
 | .bl a,.int b=>(if a then 1 else 0) == b
 | .int a,.bl b=>a == (if b then 1 else 0)
 | .int a,.int b=>a == b
 | .str a,.str b=>a == b
 | _,_=>false
theorem iV{A:Around}{s:Shared}{y x:V}{u v:Value}(ry:RelV y u)(rx:RelV x v)(fy:cz y=true)(fx:cz x=true):SeqAt.EqAt A s u v (eG y x):=by
 cases y with
 | non=>
  cases ry
  cases x with
  | non=>cases rx; exact SeqAt.EqAt.same _
  | bl b=>cases rx; exact SeqAt.EqAt.none_bool b
  | int b=>obtain⟨t,rfl⟩:=rx; exact SeqAt.EqAt.none_int b t
  | str b=>obtain⟨t,rfl⟩:=rx; exact SeqAt.EqAt.none_str b t
  | _=>exact absurd (show false=true from fx) Bool.false_ne_true
 | bl a=>
  cases ry
  cases x with
  | non=>cases rx; exact SeqAt.EqAt.bool_none a
  | bl b=>cases rx; exact SeqAt.EqAt.bool_bool a b
  | int b=>obtain⟨t,rfl⟩:=rx; exact SeqAt.EqAt.bool_int a b t
  | str b=>obtain⟨t,rfl⟩:=rx; exact SeqAt.EqAt.bool_str a b t
  | _=>exact absurd (show false=true from fx) Bool.false_ne_true
 | int a=>
  obtain⟨t',rfl⟩:=ry
  cases x with
  | non=>cases rx; exact SeqAt.EqAt.int_none a t'
  | bl b=>cases rx; exact SeqAt.EqAt.int_bool a t' b
  | int b=>obtain⟨t,rfl⟩:=rx; exact SeqAt.EqAt.int_int a t' b t
  | str b=>obtain⟨t,rfl⟩:=rx; exact SeqAt.EqAt.int_str a t' b t
  | _=>exact absurd (show false=true from fx) Bool.false_ne_true
 | str a=>
  obtain⟨t',rfl⟩:=ry
  cases x with
  | non=>cases rx; exact SeqAt.EqAt.str_none a t'
  | bl b=>cases rx; exact SeqAt.EqAt.str_bool a t' b
  | int b=>obtain⟨t,rfl⟩:=rx; exact SeqAt.EqAt.str_int a t' b t
  | str b=>obtain⟨t,rfl⟩:=rx; exact SeqAt.EqAt.str_str a t' b t
  | _=>exact absurd (show false=true from fx) Bool.false_ne_true
 | _=>exact absurd (show false=true from fy) Bool.false_ne_true
def hZ(x:V)(u:Value):Bool:=match u with
 | .none=>eG .non x
 | .bool b=>eG (.bl b) x
 | .int i _=>eG (.int i) x
 | .str z _=>eG (.str z) x
 | _=>false
theorem kM{x y:V}{u:Value}(r:RelV y u)(f:cz y=true):hZ x u=eG y x:=by
 cases y with
 | non=>cases r; rfl
 | bl b=>cases r; rfl
 | int i=>obtain⟨t,rfl⟩:=r; rfl
 | str z=>obtain⟨t,rfl⟩:=r; rfl
 | _=>exact absurd (show false=true from f) Bool.false_ne_true
theorem mn{x:V}:∀ {xs:List V} {us:List Value},Vals xs us→xs.all cz=true→us.any (hZ x)=xs.any fun y=>eG y x
 | _,_,.nil,_=>rfl
 | y::xs,u::us,.cons r t,f=>by
  rw[List.all_cons,Bool.and_eq_true]at f
  rw[List.any_cons,List.any_cons,kM r f.1,mn t f.2]
theorem j0{A:Around}{s:Shared}{x:V}{v:Value}(rx:RelV x v)(fx:cz x=true):∀ {xs:List V} {us:List Value},Vals xs us→xs.all cz=true→∀ u∈us,SeqAt.EqAt A s u v (hZ x u)
 | _,_,.nil,_=>fun u hu=>by cases hu
 | y::xs,u::us,.cons r t,f=>fun u' hu=>by
  rw[List.all_cons,Bool.and_eq_true]at f
  rcases List.mem_cons.mp hu with rfl | hu
  ·rw[kM r f.1]; exact iV r rx f.1 fx
  ·exact j0 rx fx t f.2 u' hu
def fX(x:V)(xs:List V):Bool:=xs.any fun y=>eG y x
def Gw(K:PySem.W.Frag)(neg:Bool):R2:=fun x y H Q=>∃ p xs,y = .ref p∧(SqL K H p xs∨SqT K H p xs)∧cz x=true∧xs.all cz=true∧Q (.bl (if neg then !fX x xs else fX x xs)) H
theorem v2:OpR X (compareOp .In) (Gw X.K false):=by
 intro pins s σ H x y v u Q I rx ry h
 obtain⟨p,xs,rfl,hq,fx,fs,q⟩:=h
 cases ry
 rcases hq with hq | hq
 ·obtain⟨its,r,pl,hz⟩:=I.list hq
  refine SeqAt.in_listAt (hZ x) pl.isList (fun w hw=>j0 rx fx r fs w (by simpa using hw)) ⟨.bl _,H,I,rfl,?_⟩
  rw[show its.toArray.any (hZ x)=its.any (hZ x) by simp,mn r fs]
  exact q
 ·obtain⟨its,r,pl,hz⟩:=I.tuple hq
  refine SeqAt.in_tupleAt (hZ x) pl (fun w hw=>j0 rx fx r fs w (by simpa using hw)) ⟨.bl _,H,I,rfl,?_⟩
  rw[show its.toArray.any (hZ x)=its.any (hZ x) by simp,mn r fs]
  exact q
theorem qD:CallR X (.builtin "len") (fun xs H Q=>∃ p ys,xs=[.ref p]∧(SqL X.K H p ys∨SqT X.K H p ys)∧Q (.int ys.length) H):=by
 intro pins s σ H xs us Q I r h
 obtain⟨p,ys,rfl,hq,q⟩:=h
 obtain⟨u,rfl,rx⟩:=dm r
 cases rx
 have hn:=i7
 rcases hq with hq | hq
 ·obtain⟨its,r',pl,hz⟩:=I.list hq
  have hlen:=r'.length
  exact Calls.call_len_list pl.isList (by simp only[List.size_toArray] <;> omega) ⟨.int ys.length,H,I.tok _,⟨s.toks+1,by rw[List.size_toArray,hlen]⟩,q⟩
 ·obtain⟨its,r',pl,hz⟩:=I.tuple hq
  have hlen:=r'.length
  exact len_tuple pl (by simp only[List.size_toArray] <;> omega) ⟨.int ys.length,H,I.tok _,⟨s.toks+1,by rw[List.size_toArray,hlen]⟩,q⟩
theorem pz:CallR X (.builtin "len") (fun xs H Q=>∃ z,xs=[.str z]∧z.length≤sizeLine∧Q (.int z.length) H):=by
 intro pins s σ H xs us Q I r h
 obtain⟨z,rfl,hz,q⟩:=h
 obtain⟨u,rfl,t,rfl⟩:=dm r
 have hn:=i7
 exact len_str (by omega) ⟨.int z.length,H,I.tok _,⟨_,rfl⟩,q⟩
theorem nH:CallR X (.type "tuple") (fun xs H Q=>∃ p ys,xs=[.ref p]∧((SqL X.K H p ys∧∀ l,H l=none→Q (.ref l) (upd H l (.tup ys)))∨(SqT X.K H p ys∧Q (.ref p) H))):=by
 intro pins s σ H xs us Q I r h
 obtain⟨p,ys,rfl,h⟩:=h
 obtain⟨u,rfl,rx⟩:=dm r
 cases rx
 rcases h with ⟨hq,q⟩ | ⟨hq,q⟩
 ·obtain⟨its,r',pl,hz⟩:=I.list hq
  have hlen:=r'.length
  refine call_tuple_list pl.isList (fun h' kp=>?_) (by simp only[List.size_toArray] <;> omega)
  have I1:Inv X pins σ H { s with heap:=h' }:=I.kept (t':=s.toks) kp
  have I2:Inv X pins σ (upd H h'.objs.size (.tup ys)) { s with heap:=h'.push { cls:=.type "tuple", data:=.seq its.toArray } }:=
   I1.laid (t':=s.toks) (fun b o e=>Heap.get?_push_of_some _ e) (Nat.le_refl _) (show ObjOk X.prog X.w _ _ _ (.tup ys) from ⟨hz,its,r',IsTupN.new _ _⟩)
  exact⟨.ref h'.objs.size,_,I2,rfl,q _ (I1.hok.fresh (Nat.le_refl _))⟩
 ·obtain⟨its,r',pl,hz⟩:=I.tuple hq
  exact call_tuple_same pl ⟨.ref p,H,I,rfl,q⟩
def oO(K:PySem.W.Frag)(T:String)(x:V)(H:Hp):Prop:=match x with
 | .str _=>T = "str"
 | .int _=>T = "int"
 | .ref p=>(T = "list" ∧ ∃ xs,SqL K H p xs)∨(T = "tuple" ∧ ∃ o,K.lookup p=some o∧o.cls = .type "tuple" ∧ o.dict=none)∨
   (T = "dict" ∧ ((∃ kvs,H p=some (.dK kvs))∨∃ kvs,H p=some (.dT kvs)))∨(T = "set" ∧ ∃ S n,H p=some (.set S n))
 | _=>False
theorem vS{pins:List (Addr × Obj)}{σ : St}{H:Hp}{s:Shared}{T:String}{x:V}{v:Value}(I:Inv X pins σ H s)(r:RelV x v)(ty:oO X.K T x H) :
  s.TypeIs v T∧∀ a,v = .ref a→∃ ob,s.heap.get? a=some ob∧ob.dict=none:=by
 cases x with
 | str z=>
  obtain⟨t,rfl⟩:=r
  cases (show T = "str" from ty)
  exact⟨typeIs_str s z t,fun _ e=>nomatch e⟩
 | int i=>
  obtain⟨t,rfl⟩:=r
  cases (show T = "int" from ty)
  exact⟨typeIs_int s i t,fun _ e=>nomatch e⟩
 | ref p=>
  cases r
  rcases ty with ⟨rfl,xs,hq⟩ | ⟨rfl,o,hk,hc,hd⟩ | ⟨rfl,hk⟩ | ⟨rfl,S,n,hk⟩
  ·obtain⟨its,_,pl,_⟩:=I.list hq
   refine⟨pl.isList.typeIs,fun a e=>?_⟩
   cases e
   obtain⟨o,n,e,c,hd,_⟩:=pl
   exact⟨o,e,hd⟩
  ·refine⟨⟨o,I.kIn p o hk,hc⟩,fun a e=>?_⟩
   cases e
   exact⟨o,I.kIn _ o hk,hd⟩
  ·have z:∃ o,s.heap.get? p=some o∧o.ExactDict:=by
    rcases hk with ⟨kvs,hk⟩ | ⟨kvs,hk⟩
    ·obtain⟨_,_,_,_,o,_,_,e,ex,_⟩:=I.hok p _ hk
     exact⟨o,e,ex⟩
    ·obtain⟨_,_,_,_,o,_,_,e,ex,_⟩:=I.hok p _ hk
     exact⟨o,e,ex⟩
   obtain⟨o,e,ex⟩:=z
   refine⟨⟨o,e,ex.1⟩,fun a e2=>?_⟩
   cases e2
   exact⟨o,e,ex.2.1⟩
  ·obtain⟨o,_,_,_,e,ex,_⟩:=I.hok p _ hk
   refine⟨⟨o,e,ex.1⟩,fun a e2=>?_⟩
   cases e2
   exact⟨o,e,ex.2.1⟩
 | _=>exact False.elim ty
def w_(K:PySem.W.Frag)(T:String)(r:V→List V→Hp→VK→Prop)(to:TE):TE:=fun σ H Q=>to σ H fun x H1=>oO K T x H1∧r x [] H1 Q
def AY(K:PySem.W.Frag)(T:String)(r:V→List V→Hp→VK→Prop)(to:TE)(t:TA):TE:=fun σ H Q=>to σ H fun x H1=>oO K T x H1∧t σ H1 fun xs H2=>r x xs H2 Q
variable{o e:Expr}{es:List Expr}{to:TE}{t:TA}{name:Str}{apos cpos:Pos}{T id:String}{r:V→List V→Hp→VK→Prop}
theorem BA(pa:PlainAttrs T)(slot:Slot T name id)(hty:typeOf (.builtin id)=pure (.type "method_descriptor")) (hm:MtR X id r) (ho:PE X o to)
  (hbase:attributeBase o name X.env (eval o X.env)=eval o X.env:=by rfl) (hline:(apos.endLine == cpos.line)=true:=by rfl):PE X (.Call (.Attribute o name apos) [] [] cpos) (w_ X.K T r to):=by
 intro pins s σ H Q I h
 refine wpAny_Call_method0_late hbase hline (bt (ho pins s σ H _ I h) fun v s1 ⟨x,H1,I1,r1,ty,q1⟩=>?_)
 obtain⟨h1,h2⟩:=vS I1 r1 ty
 exact⟨T,id,pa,slot,hty,h1,h2,Calls.callWith_builtin rfl (PySem.evalArgs_none (hm pins s1 σ H1 x [] v [] Q I1 r1 .nil q1))⟩
theorem Cv(pa:PlainAttrs T)(slot:Slot T name id)(hty:typeOf (.builtin id)=pure (.type "method_descriptor")) (hm:MtR X id r) (ho:PE X o to) (ha:PA X (e::es) t)
  (hbase:attributeBase o name X.env (eval o X.env)=eval o X.env:=by rfl)
  (hfew:((backTo cpos (starEach (e::es) X.env)).all (fun x=>!x.1)&&(backToKw cpos (keywordEach [] X.env)).all (fun x=>x.1.isSome)
   && decide ((e::es).length+([]:List Keyword).length+(if ([]:List Keyword).isEmpty then 0 else 1)<30))=true:=by rfl)
  (hline:(apos.endLine == cpos.line)=true:=by rfl) (hs:starEach (e::es) X.env=(false,eval e X.env)::starEach es X.env:=by rfl) (hplain:(backTo cpos (starEach es X.env)).any (·.1)=false:=by rfl) :
  PE X (.Call (.Attribute o name apos) (e::es) [] cpos) (AY X.K T r to t):=by
 intro pins s σ H Q I h
 refine wpAny_Call_method_late hbase hfew hline rfl (bt (ho pins s σ H _ I h) fun v s1 ⟨x,H1,I1,r1,ty,q1⟩=>?_)
 obtain⟨h1,h2⟩:=vS I1 r1 ty
 refine⟨T,id,pa,slot,hty,h1,h2,?_⟩
 have hA:=ha cpos pins s1 σ H1 _ I1 q1
 rw[hs]at hA ⊢
 refine Calls.callWith_builtin (by show (false||(backTo cpos (starEach es X.env)).any (·.1))=false; rw[hplain] <;> rfl) (Calls.evalArgs_plain ?_)
 exact bt hA fun us s2 ⟨vs,H2,I2,r2,q2⟩=>hm pins s2 σ H2 x vs v us Q I2 r1 r2 q2
/- xs.append(e), list.index on a module's tuple .. are MtR facts of 06m -/
end
end L2
namespace L2
open PySem PySem.Spec PyProof.Rows
def B1(X:Cx)(id:String)(r:V→List V→Hp→VK→Prop):Prop:=
 ∀ (pins:List (Addr × Obj)) (s:Shared) (σ : St) (H:Hp) (x:V) (xs:List V) (v:Value) (us:List Value) (Q:VK),Inv X pins σ H s→RelV x v→Vals xs us→r x xs H Q→
  wpAny (model X.prog X.w) X.A (call (.builtin id) (v::us)) (EP X pins σ Q) X.xe s
theorem Vals.one:∀ {x:V} {us:List Value},Vals [x] us→∃ u,us=[u]∧RelV x u
 | _,_,.cons r .nil=>⟨_,rfl,r⟩
theorem Vals.zero:∀ {us:List Value},Vals [] us→us=[]
 | _,.nil=>rfl
theorem Vals.dropLast{xs:List V}{us:List Value}(h:Vals xs us):Vals xs.dropLast us.dropLast:=by
 induction h with
 | nil=>exact .nil
 | cons r t ih=>
  cases t with
  | nil=>exact .nil
  | cons q t'=>exact .cons r ih
theorem um{α : Type}(l:List α):l.eraseIdx (l.length - 1)=l.dropLast:=by
 induction l with
 | nil=>rfl
 | cons a r ih=>
  cases r with
  | nil=>rfl
  | cons b r=>
   have e:(a::b::r).length - 1=((b::r).length - 1)+1:=by
    have h1:(a::b::r).length=r.length+2:=rfl
    have h2:(b::r).length=r.length+1:=rfl
    omega
   rw[e,List.eraseIdx_cons_succ,ih]
   all_goals rfl
section
variable{X:Cx}{pins:List (Addr × Obj)}{σ : St}{H:Hp}{s:Shared}{l b:Addr}{xs ys zs:List V}
theorem Inv.lset{its its':List Value}{n:Nat}{f:Array Value→Array Value}{t':Nat}(I:Inv X pins σ H s)(hH:H l=some (.lst xs))
  (e:s.heap.get? l=some { cls:=.type "list", data:=.seq its.toArray n }) (hf:f its.toArray=its'.toArray) (hv:Vals ys its') (hz:ys.length≤sizeLine) :
  Inv X pins σ (upd H l (.lst ys)) { s with heap:=s.heap.update l (Obj.mapSeq f),toks:=t' }:=by
 have q:=PySem.IsL.update e f
 rw[hf]at q
 refine I.write (x:=l) (e:=l) (by rw[hH]; exact trivial) (.inl rfl) (fun b' u hb hu=>(Heap.get?_update_other s.heap (Obj.mapSeq f) (Ne.symm hb)).trans hu) ⟨_,q⟩ ?_
 exact⟨hz,its',_,hv,q⟩
theorem Inv.lnew{its:List Value}{t':Nat}(I:Inv X pins σ H s)(hv:Vals ys its)(hz:ys.length≤sizeLine) :
  Inv X pins σ (upd H s.heap.objs.size (.lst ys)) { s with heap:=s.heap.push { cls:=.type "list", data:=.seq its.toArray },toks:=t' }:=
 I.laid (fun _ _ q=>Heap.get?_push_of_some _ q) (Nat.le_refl _) ⟨hz,its,0,hv,Heap.get?_push_size _ rfl⟩
theorem Inv.fresh(I:Inv X pins σ H s):H s.heap.objs.size=none:=I.hok.fresh (Nat.le_refl _)
theorem Inv.lstM(I:Inv X pins σ H s)(hH:H l=some (.lst xs)):xs.length≤sizeLine∧∃ (its:List Value) (n:Nat),Vals xs its∧xs.length=its.length∧s.heap.get? l=some { cls:=.type "list", data:=.seq its.toArray n }:=by
 obtain⟨z,its,n,r,e⟩:=I.hok l _ hH
 exact⟨z,its,n,r,r.length,e⟩
theorem xX{n:Nat}(h:n≤sizeLine):Builtin.List.listTooLong n=false:=by
 unfold Builtin.List.listTooLong
 exact decide_eq_false (by omega)
end
section
variable{X:Cx}
def mo:V→List V→Hp→VK→Prop:=fun x vs H Q=>∃ l xs y,x = .ref l∧vs=[y]∧H l=some (.lst xs)∧xs.length<sizeLine∧Q .non (upd H l (.lst (xs++[y])))
theorem mE:B1 X "list.append" mo:=by
 intro pins s σ H x vs v us Q I rx rv h
 obtain⟨l,xs,y,rfl,rfl,hH,hz,q⟩:=h
 cases rx
 obtain⟨u,rfl,ru⟩:=rv.one
 obtain⟨z,its,n,r,hl,e⟩:=I.lstM hH
 refine call_meets F.slot_list_append ⟨_,e,rfl⟩ F.entry_list_append (F.args_list_append_2 _ _) (PySem.list_append l its.toArray n u (by rw[List.size_toArray]; omega)) ⟨e,?_⟩
 refine⟨.non,_,I.lset (its':=its++[u]) hH e (by simp) (r.append (.cons ru .nil)) ?_,rfl,q⟩
 rw[List.length_append,List.length_singleton]
 omega
def lG:V→List V→Hp→VK→Prop:=fun x vs H Q=>∃ l b xs zs,x = .ref l∧vs=[.ref b]∧H l=some (.lst xs)∧H b=some (.lst zs)∧xs.length+zs.length≤sizeLine∧Q .non (upd H l (.lst (xs++zs)))
theorem wo:B1 X "list.extend" lG:=by
 intro pins s σ H x vs v us Q I rx rv h
 obtain⟨l,b,xs,zs,rfl,rfl,hH,hB,hz,q⟩:=h
 cases rx
 obtain⟨u,rfl,ru⟩:=rv.one
 cases ru
 obtain⟨z,its,n,r,hl,e⟩:=I.lstM hH
 obtain⟨z2,its2,n2,r2,hl2,e2⟩:=I.lstM hB
 have hsz:its.toArray.size+its2.toArray.size≤sizeLine:=by rw[List.size_toArray,List.size_toArray]; omega
 have hlong:¬ (!its.toArray.isEmpty&&Builtin.List.listTooLong (its.toArray.size+its2.toArray.size))=true:=by
  rw[xX hsz,Bool.and_false]
  exact Bool.false_ne_true
 refine call_meets F.slot_list_extend ⟨_,e,rfl⟩ F.entry_list_extend (F.args_list_extend_2 _ _)
  (AutoSeq1.list_extend_list_list_0 l its.toArray n b its2.toArray n2 hlong (by rw[List.size_toArray]; omega) (by omega)) ⟨e,e2,?_⟩
 refine⟨.non,_,I.lset (its':=its++its2) hH e (by simp) (r.append r2) ?_,rfl,q⟩
 rw[List.length_append]
 omega
def xM:V→List V→Hp→VK→Prop:=fun x vs H Q=>∃ l xs y,x = .ref l∧vs=[]∧H l=some (.lst xs)∧xs[xs.length - 1]? = some y∧Q y (upd H l (.lst xs.dropLast))
theorem Ak:B1 X "list.pop" xM:=by
 intro pins s σ H x vs v us Q I rx rv h
 obtain⟨l,xs,y,rfl,rfl,hH,hy,q⟩:=h
 cases rx
 have hus:=rv.zero
 subst hus
 obtain⟨z,its,n,r,hl,e⟩:=I.lstM hH
 obtain⟨u,hu,ru⟩:=r.get hy
 have hy':its.toArray[its.toArray.size - 1]? = some u:=by
  show its.toArray[its.length - 1]? = some u
  rw[← Array.getElem?_toList,← hl]
  exact hu
 refine call_meets F.slot_list_pop ⟨_,e,rfl⟩ F.entry_list_pop (F.args_list_pop_1 _) (MeetsSeq.list_pop_last l its.toArray n u hy' (by rw[List.size_toArray]; omega)) ⟨e,?_⟩
 refine⟨y,_,I.lset (its':=its.dropLast) hH e ?_ r.dropLast ?_,ru,q⟩
 ·show its.toArray.eraseIdxIfInBounds (its.toArray.size - 1)=its.dropLast.toArray
  rw[List.size_toArray,List.eraseIdxIfInBounds_toArray,um]
 ·rw[List.length_dropLast]
  omega
def Do:R2:=fun x y H Q=>∃ l b xs zs,x = .ref l∧y = .ref b∧H l=some (.lst xs)∧H b=some (.lst zs)∧xs.length+zs.length≤sizeLine∧∀ p,H p=none→Q (.ref p) (upd H p (.lst (xs++zs)))
theorem Bm:OpR X (binaryOp .Add) Do:=by
 intro pins s σ H x y v u Q I rx ry h
 obtain⟨l,b,xs,zs,rfl,rfl,hH,hB,hz,q⟩:=h
 cases rx
 cases ry
 obtain⟨z,its,n,r,hl,e⟩:=I.lstM hH
 obtain⟨z2,its2,n2,r2,hl2,e2⟩:=I.lstM hB
 refine PySem.P.add_list e e2 ?_ (by rw[List.size_toArray,List.size_toArray]; omega)
 have ea:its.toArray++its2.toArray=(its++its2).toArray:=by simp
 rw[ea]
 exact⟨.ref _,_,I.lnew (t':=s.toks) (r.append r2) (by rw[List.length_append]; omega),rfl,q _ I.fresh⟩
end
section
variable{prog:Program}{w:World}{A:Around}{E:Value→Shared→Prop}{s:Shared}
end
section
variable{X:Cx}
end
end L2
namespace L2
open PySem PySem.Spec PyProof.Rows
section
variable{κ : Type}[DecidableEq κ]
def aM(kvs:List (κ × V))(k:κ):Option V:=(kvs.find? fun kv=>decide (kv.1=k)).map (·.2)
def aZ(kvs:List (κ × V))(k:κ)(v:V):List (κ × V):=
 if (kvs.any fun kv=>decide (kv.1=k))=true then kvs.map (fun kv=>if kv.1=k then (kv.1,v) else kv) else kvs++[(k,v)]
theorem db{p:κ × V}{r:List (κ × V)}{k:κ}(e:p.1=k):aM (p::r) k=some p.2:=by simp[aM,List.find?_cons,e]
theorem dc{p:κ × V}{r:List (κ × V)}{k:κ}(e:¬ p.1=k):aM (p::r) k=aM r k:=by simp[aM,List.find?_cons,e]
theorem gG(k:κ):∀ kvs:List (κ × V),(kvs.any fun kv=>decide (kv.1=k))=(aM kvs k).isSome
 | []=>rfl
 | p::r=>by
  rw[List.any_cons]
  by_cases e:p.1=k
  ·simp only[db e,decide_eq_true e,Bool.true_or,Option.isSome_some]
  ·rw[dc e,decide_eq_false e,Bool.false_or]; exact gG k r
theorem pX(k j:κ)(y:V):∀ kvs:List (κ × V),aM (kvs.map fun kv=>if kv.1=k then (kv.1,y) else kv) j=(aM kvs j).map fun x=>if j=k then y else x
 | []=>rfl
 | p::r=>by
  have ih:=pX k j y r
  rw[List.map_cons]
  by_cases h:p.1=k
  ·rw[if_pos h]
   by_cases e:p.1=j
   ·rw[db (p:=(p.1,y)) e,db e,Option.map_some,if_pos (e.symm.trans h)]
   ·rw[dc (p:=(p.1,y)) e,dc e,ih]
  ·rw[if_neg h]
   by_cases e:p.1=j
   ·rw[db (p:=p) e,db e,Option.map_some,if_neg (fun z=>h (e.trans z))]
   ·rw[dc (p:=p) e,dc e,ih]
theorem m9(k j:κ)(y:V):∀ kvs:List (κ × V),aM kvs k=none→aM (kvs++[(k,y)]) j=if j=k then some y else aM kvs j
 | [],_=>by
  by_cases e:k=j
  ·rw[if_pos e.symm]; exact db (p:=(k,y)) e
  ·rw[if_neg (fun z=>e z.symm)]; exact dc (p:=(k,y)) e
 | p::r,hn=>by
  rw[List.cons_append]
  have hk:¬ p.1=k:=fun z=>by rw[db z]at hn; cases hn
  rw[dc hk]at hn
  have ih:=m9 k j y r hn
  by_cases e:p.1=j
  ·rw[db e,db e,if_neg (fun z=>hk (e.trans z))]
  ·rw[dc e,dc e,ih]
theorem dg(kvs:List (κ × V))(k j:κ)(y:V):aM (aZ kvs k y) j=if j=k then some y else aM kvs j:=by
 unfold aZ
 by_cases a:(kvs.any fun kv=>decide (kv.1=k))=true
 ·rw[if_pos a,pX]
  rw[gG]at a
  by_cases e:j=k
  ·obtain⟨x,hx⟩:=Option.isSome_iff_exists.mp a
   rw[if_pos e,e,hx,Option.map_some,if_pos rfl]
  ·rw[if_neg e]
   cases aM kvs j with
   | none=>rfl
   | some x=>rw[Option.map_some,if_neg e]
 ·rw[if_neg a]
  refine m9 k j y kvs ?_
  rw[gG]at a
  cases q:aM kvs k with
  | none=>rfl
  | some x=>rw[q]at a; exact(a rfl).elim
theorem eU(kvs:List (κ × V))(k:κ)(v:V):(aZ kvs k v).length≤kvs.length+1:=by
 unfold aZ
 split
 ·rw[List.length_map]; omega
 ·rw[List.length_append,List.length_cons,List.length_nil]; omega
theorem yz{kvs:List (κ × V)}{k:κ}(v:V)(h:aM kvs k=none):aZ kvs k v=kvs++[(k,v)]:=by
 unfold aZ
 rw[gG,h]
 exact if_neg (by decide)
theorem RelO.isSome_eq{o:Option V}{u:Option Value}(r:RelO o u):o.isSome=u.isSome:=by
 cases o with
 | none=>cases u with
  | none=>rfl
  | some _=>exact(show False from r).elim
 | some _=>cases u with
  | none=>exact(show False from r).elim
  | some _=>rfl
theorem RelO.getD{o:Option V}{u:Option Value}{d:V}{d':Value}(r:RelO o u)(rd:RelV d d'):RelV (o.getD d) (u.getD d'):=by
 cases o with
 | none=>cases u with
  | none=>exact rd
  | some _=>exact(show False from r).elim
 | some _=>cases u with
  | none=>exact(show False from r).elim
  | some _=>exact r
theorem KV.val{kvs:List (κ × V)}{vs:List (κ × Value)}(r:KV kvs vs)(k:κ):RelO (aM kvs k) (valueAt vs k):=by
 unfold KV at r
 induction r with
 | nil=>exact True.intro
 | @cons p q ps qs h t ih=>
  obtain⟨h1,h2⟩:=h
  by_cases e:p.1=k
  ·have e':q.1=k:=h1.symm.trans e
   have b:valueAt (q::qs) k=some q.2:=by simp[valueAt,List.find?_cons,e']
   rw[db e,b]; exact h2
  ·have e':¬ q.1=k:=fun z=>e (h1.trans z)
   have b:valueAt (q::qs) k=valueAt qs k:=by simp[valueAt,List.find?_cons,e']
   rw[dc e,b]; exact ih
theorem KV.any{kvs:List (κ × V)}{vs:List (κ × Value)}(r:KV kvs vs)(k:κ):(kvs.any fun kv=>decide (kv.1=k))=vs.any fun kv=>decide (kv.1=k):=by
 unfold KV at r
 induction r with
 | nil=>rfl
 | cons h t ih=>rw[List.any_cons,List.any_cons,ih,h.1]
theorem KV.repl{kvs:List (κ × V)}{vs:List (κ × Value)}(r:KV kvs vs)(k:κ){y:V}{u:Value}(ry:RelV y u) :
  KV (kvs.map fun kv=>if kv.1=k then (kv.1,y) else kv) (vs.map fun kv=>if kv.1=k then (kv.1,u) else kv):=by
 unfold KV at r ⊢
 induction r with
 | nil=>exact .nil
 | @cons p q ps qs h t ih=>
  rw[List.map_cons,List.map_cons]
  refine .cons ?_ ih
  obtain⟨h1,h2⟩:=h
  by_cases e:p.1=k
  ·rw[if_pos e,if_pos (h1.symm.trans e)]; exact⟨h1,ry⟩
  ·rw[if_neg e,if_neg (fun z=>e (h1.trans z))]; exact⟨h1,h2⟩
theorem KV.put{kvs:List (κ × V)}{vs:List (κ × Value)}(r:KV kvs vs)(k:κ){y:V}{u:Value}(ry:RelV y u):KV (aZ kvs k y) (stored vs k u):=by
 unfold aZ stored
 rw[r.any k]
 by_cases e:(vs.any fun kv=>decide (kv.1=k))=true
 ·rw[if_pos e,if_pos e]; exact r.repl k ry
 ·rw[if_neg e,if_neg e]; exact Paired.snoc r ⟨rfl,ry⟩
theorem KV.length{kvs:List (κ × V)}{vs:List (κ × Value)}(r:KV kvs vs):kvs.length=vs.length:=Paired.length r
end
theorem nX{P:Program}{w:World}{k:ax}{u:Value}(r:RelV (kV k) u):(cK P w).is k u=true:=by
 cases k with
 | inl i=>obtain⟨t,e⟩:=(show ∃ t,u=Value.int i t from r); subst e; exact qS P w i t
 | inr x=>obtain⟨t,e⟩:=(show ∃ t,u=Value.str x t from r); subst e; exact qM P w x t
theorem ni{P:Program}{w:World}:∀ {ks:List ax} {us:List Value},Vals (ks.map kV) us→ItemsAre (cK P w) ks us
 | [],_,r=>by rw[List.map_nil]at r; cases r; exact .nil
 | k::ks,_,r=>by
  rw[List.map_cons]at r
  cases r with
  | cons h t=>exact .cons (nX h) (ni t)
abbrev KT (H:Hp):List (List ax × V)→List (List ax × Addr × Value)→Prop:=Paired fun p q=>p.1=q.1∧H q.2.1=some (.tup (p.1.map kV))∧RelV p.2 q.2.2
theorem KT.val{H:Hp}{kvs:List (List ax × V)}{xs:List (List ax × Addr × Value)}(r:KT H kvs xs)(k:List ax):RelO (aM kvs k) ((atKey xs k).map (·.2)):=by
 induction r with
 | nil=>exact True.intro
 | @cons p q ps qs h t ih=>
  obtain⟨h1,_,h2⟩:=h
  by_cases e:p.1=k
  ·have e':q.1=k:=h1.symm.trans e
   have b:atKey (q::qs) k=some q.2:=by simp[atKey,List.find?_cons,e']
   rw[db e,b]; exact h2
  ·have e':¬ q.1=k:=fun z=>e (h1.trans z)
   have b:atKey (q::qs) k=atKey qs k:=by simp[atKey,List.find?_cons,e']
   rw[dc e,b]; exact ih
theorem KT.repl{H:Hp}{kvs:List (List ax × V)}{xs:List (List ax × Addr × Value)}(r:KT H kvs xs)(k:List ax){y:V}{u:Value}(ry:RelV y u) :
  KT H (kvs.map fun kv=>if kv.1=k then (kv.1,y) else kv) (xs.map (putAt k u)):=by
 induction r with
 | nil=>exact .nil
 | @cons p q ps qs h t ih=>
  rw[List.map_cons,List.map_cons]
  refine .cons ?_ ih
  obtain⟨h1,h2,h3⟩:=h
  unfold putAt
  by_cases e:p.1=k
  ·rw[if_pos e,if_pos (h1.symm.trans e)]; exact⟨h1,h2,ry⟩
  ·rw[if_neg e,if_neg (fun z=>e (h1.trans z))]; exact⟨h1,h2,h3⟩
theorem KT.put{H:Hp}{kvs:List (List ax × V)}{xs:List (List ax × Addr × Value)}(r:KT H kvs xs)(k:List ax){b:Addr}{y:V}{u:Value}(hb:H b=some (.tup (k.map kV)))(ry:RelV y u) :
  KT H (aZ kvs k y) (storedH xs k b u):=by
 have e:(kvs.any fun kv=>decide (kv.1=k))=(atKey xs k).isSome:=by
  rw[gG,(r.val k).isSome_eq,Option.isSome_map]
 unfold aZ storedH
 rw[e]
 by_cases q:(atKey xs k).isSome=true
 ·rw[if_pos q,if_pos q]; exact r.repl k ry
 ·rw[if_neg q,if_neg q]; exact Paired.snoc r ⟨rfl,hb,ry⟩
theorem KT.keeps{H H':Hp}{kvs:List (List ax × V)}{xs:List (List ax × Addr × Value)}(r:KT H kvs xs)(ht:∀ b ys,H b=some (.tup ys)→H' b=some (.tup ys)):KT H' kvs xs:=
 Paired.mapP r fun _ _ z=>⟨z.1,ht _ _ z.2.1,z.2.2⟩
section
variable{P:Program}{w:World}{H:Hp}{h:Heap}{a:Addr}
theorem yE{u:HO}(ok:HOk P w H h)(e:Rd H a u):ObjOk P w H h a u:=e.ok ok
theorem nY{kvs:List (ax × V)}(ok:HOk P w H h)(e:Rd H a (.dK kvs)):kvs.length≤sizeLine∧(a == sysModules)=false∧∃ vs,KV kvs vs∧h.DictOf (cK P w) a vs:=
 show ObjOk P w H h a (.dK kvs) from yE ok e
theorem yT{kvs:List (ax × V)}(ok:HOk P w H h)(e:H a=some (.dK kvs)):kvs.length≤sizeLine∧(a == sysModules)=false∧∃ vs,KV kvs vs∧h.DictOf (cK P w) a vs:=nY ok (.inl e)
theorem uW{ks:List ax}(ok:HOk P w H h)(e:H a=some (.tup (ks.map kV))):(tupleKind (cK P w)).is h ks a:=by
 obtain⟨_,its,r,o,h1,h2,_,n,h3⟩:=(show ObjOk P w H h a (.tup (ks.map kV)) from ok a _ e)
 exact⟨o,its.toArray,n,h1,h2,h3,by simpa using ni r⟩
theorem CL{kvs:List (List ax × V)}(ok:HOk P w H h)(e:Rd H a (.dT kvs)):kvs.length≤sizeLine∧(a == sysModules)=false∧
  ∃ xs,KT H kvs xs∧h.DictOfH (tupleKind (cK P w)) a xs:=by
 obtain⟨z,y,xs,r,o,es,ep,h1,h2,h3,h4,h5⟩:=(show ObjOk P w H h a (.dT kvs) from yE ok e)
 refine⟨z,y,xs,r,o,es,ep,h1,h2,h3,h4,fun x hx=>?_,h5⟩
 have all:∀ {l:List (List ax × V)} {m:List (List ax × Addr × Value)},KT H l m→∀ x∈m,(tupleKind (cK P w)).is h x.1 x.2.1:=by
  intro l m q
  induction q with
  | nil=>intro x hx; exact nomatch hx
  | @cons p q ps qs hq t ih=>
   intro x hx
   rcases List.mem_cons.mp hx with e | hx
   ·subst e
    exact uW ok (by rw[← hq.1]; exact hq.2.1)
   ·exact ih x hx
 exact all r x hx
theorem CW{kvs:List (List ax × V)}(ok:HOk P w H h)(e:H a=some (.dT kvs)):kvs.length≤sizeLine∧(a == sysModules)=false∧
  ∃ xs,KT H kvs xs∧h.DictOfH (tupleKind (cK P w)) a xs:=CL ok (.inl e)
end
def DPut(H:Hp)(a:Addr)(y v:V)(H':Hp):Prop:=
 (∃ kvs k,H a=some (.dK kvs)∧y=kV k∧kvs.length<sizeLine∧H'=upd H a (.dK (aZ kvs k v)))∨
 ∃ kvs k b,H a=some (.dT kvs)∧y = .ref b∧H b=some (.tup (k.map kV))∧kvs.length<sizeLine∧H'=upd H a (.dT (aZ kvs k v))
theorem DPut.k{H:Hp}{a:Addr}{kvs:List (ax × V)}{k:ax}{v:V}(e:H a=some (.dK kvs))(hl:kvs.length<sizeLine):DPut H a (kV k) v (upd H a (.dK (aZ kvs k v))):=.inl ⟨kvs,k,e,rfl,hl,rfl⟩
section
variable{X:Cx}{pins:List (Addr × Obj)}{σ : St}{H:Hp}{s:Shared}{a:Addr}{y v:V}{u r:Value}{o:Option V}{A:Around}{E:Value→Shared→Prop}
theorem Inv.big(I:Inv X pins σ H s):sysModules<s.heap.objs.size:=by
 have h:mainGlobals<s.heap.objs.size:=(I.mod.glob.keeps I.bk).lt
 exact Nat.lt_trans (by decide) h
theorem lP{h':Heap}{t':Nat}{ob:HO}(I:Inv X pins σ H s)(mu:v7 (H a))(hs:Heap.SameBut a s.heap h')(he:∃ q,h'.get? a=some q)(new:ObjOk X.prog X.w (upd H a ob) h' a ob) :
  Inv X pins σ (upd H a ob) { s with heap:=h',toks:=t' }:=
 I.write (x:=a) (e:=a) mu (.inl rfl) (fun b q hb z=>(hs.2 b hb).trans z) he new
theorem vI{P:Program}{w:World}{H':Hp}{h':Heap}{kvs:List (ax × V)}{vs:List (ax × Value)}(z:kvs.length≤sizeLine)(hd:(a == sysModules)=false)(rel:KV kvs vs)(dd:h'.DictOf (cK P w) a vs) :
  ObjOk P w H' h' a (.dK kvs):=⟨z,hd,vs,rel,dd⟩
theorem u5{H':Hp}{Q:Unit→Shared→Prop}(hu:A.units+1<cLine)(I:Inv X pins σ H s)(g:DPut H a y v H')(ry:RelV y u)(rv:RelV v r)(h:∀ s',Inv X pins σ H' s'→Q () s') :
  wpAny (model X.prog X.w) A (setItem (.ref a) u r) Q E s:=by
 rcases g with ⟨kvs,k,e,ey,l,eH⟩ | ⟨kvs,k,b,e,ey,eb,l,eH⟩
 ·subst ey eH
  obtain⟨z,hd,vs,rel,dd⟩:=yT I.hok e
  have hz:vs.length≤sizeLine:=by rw[← rel.length]; exact z
  have hl:(aZ kvs k v).length≤sizeLine:=by have:=eU kvs k v; omega
  refine wpAny_setItem_pairs (hsz:=hz) (nX ry) dd fun h' dd' hs=>h _ ?_
  have he:∃ q,h'.get? a=some q:=let ⟨q,_,_,hq,_⟩:=dd'; ⟨q,hq⟩
  exact lP I (by rw[e]; exact True.intro) hs he (vI hl hd (rel.put k rv) dd')
 ·subst ey eH
  cases (show u=Value.ref b from ry)
  obtain⟨z,hd,xs,rel,dd⟩:=CW I.hok e
  have hz:xs.length≤sizeLine:=by rw[← Paired.length rel]; exact z
  have hl:(aZ kvs k v).length≤sizeLine:=by have:=eU kvs k v; omega
  refine wpAny_setItem_heap (hsz:=hz) (tupleKind_room_in1 hu) (uW I.hok eb) dd fun h' dd' hs=>h _ ?_
  obtain⟨q,es,ep,hq,h2,h3,h4,_,h5⟩:=dd'
  refine lP I (by rw[e]; exact True.intro) hs ⟨q,hq⟩ ⟨hl,hd,_,(rel.put k eb rv).keeps fun c ys ec=>?_,q,es,ep,hq,h2,h3,h4,h5⟩
  rw[ah (b7 ec e (fun z=>nomatch z))]
  exact ec
end
section
variable{X:Cx}{pins:List (Addr × Obj)}{σ : St}{H:Hp}{s:Shared}{a:Addr}{kvs:List (ax × V)}{k:ax}{u:Value}{A:Around}{E:Value→Shared→Prop}
theorem CJ{Q:Value→Shared→Prop}(I:Inv X pins σ H s)(e:Rd H a (.dK kvs))(h:∀ t s',Inv X pins σ H s'→Q (.int kvs.length t) s'):wpAny (model X.prog X.w) A (call (.builtin "len") [.ref a]) Q E s:=by
 obtain⟨z,hd,vs,rel,dd⟩:=nY I.hok e
 refine call_len_dict hd dd (by rw[← rel.length]; rw[sizeLine_eq]at z; omega) ?_
 rw[← rel.length]
 exact h _ _ (I.tok _)
end
section
variable{X:Cx}{o i e value:Expr}{pos pos' tpos:Pos}{td ty tv:TE}
end
theorem wM{P:Program}{w:World}{H:Hp}(h:Heap)(hb:sysModules<h.objs.size):ObjOk P w H (h.push { cls:=.type "dict", data:=.dict #[] }) h.objs.size (.dK []):=
 ⟨Nat.zero_le _,beq_eq_false_iff_ne.mpr (Ne.symm (Nat.ne_of_lt hb)),[],.nil,Heap.DictOf.new h⟩
def B6:TE:=fun _ H Q=>∀ p,H p=none→Q (.ref p) (upd H p (.dK []))
section
variable{X:Cx}{pos:Pos}
theorem ir:PE X (.Dict [] [] pos) B6:=fun pins s σ H Q I h=>
 wpAny_Dict_empty ⟨.ref s.heap.objs.size,_,I.laid (a:=s.heap.objs.size) (o:=.dK []) (t':=s.toks) (fun _ _ q=>Heap.get?_push_of_some _ q) (Nat.le_refl _) (wM s.heap I.big),rfl,h _ (I.hok.fresh (Nat.le_refl _))⟩
end
def iX:List (TE × TE)→St→Hp→(List (V × V)→Hp→Prop)→Prop
 | [],_,H,Q=>Q [] H
 | (tk,tv)::r,σ,H,Q=>tk σ H fun x H1=>tv σ H1 fun y H2=>iX r σ H2 fun ps H3=>Q ((x,y)::ps) H3
abbrev VV:List (V × V)→List (Value × Value)→Prop:=Paired fun p q=>RelV p.1 q.1∧RelV p.2 q.2
def PPs(X:Cx)(pos:Pos)(keys:List (Option Expr))(values:List Expr)(trs:List (TE × TE)):Prop:=
 ∀ (pins:List (Addr × Obj)) (s:Shared) (σ : St) (H:Hp) (Q:List (V × V)→Hp→Prop),Inv X pins σ H s→iX trs σ H Q→
  wpAny (model X.prog X.w) X.A (evalPairs (pairTrees keys values X.env pos)) (fun vs s'=>∃ ps H',Inv X pins σ H' s'∧VV ps vs∧Q ps H') X.xe s
section
variable{X:Cx}{pins:List (Addr × Obj)}{σ : St}{H:Hp}{s:Shared}{a:Addr}{y d:V}{u r:Value}{o:Option V}{A:Around}{E:Value→Shared→Prop}
end
section
variable{X:Cx}{o e f:Expr}{apos cpos:Pos}{td ty tx:TE}
end
section
variable{X:Cx}{pins:List (Addr × Obj)}{σ : St}{H:Hp}{s:Shared}{a:Addr}{kvs:List (ax × V)}{A:Around}{E:Value→Shared→Prop}
end
section
variable{X:Cx}{pins:List (Addr × Obj)}{σ : St}{H:Hp}{s:Shared}{a:Addr}{y:V}{u:Value}{A:Around}{E:Value→Shared→Prop}
end
end L2
namespace Att
open PySem PySem.W PySem.Calls PyProof.Rows
theorem kA{P:Params}{h:Heap}:∀ (ns:List Int) (vs:List Value),WellAll P h vs (ns.map WData.int)→IntsAre vs ns:=by
 intro ns
 induction ns with
 | nil=>
  intro vs w
  rw[List.map_nil]at w
  cases w
  exact .nil
 | cons n ns ih=>
  intro vs w
  rw[List.map_cons]at w
  cases w with
  | cons a b=>
   cases a
   exact .cons _ _ (ih _ b)
theorem vt{l:OpenLaw}{n:Nat}(hn:l.most=some n){P:Params}{h:Heap}{args:List WData}{vals:List Value}
  (hpre:l.row.toRowW.claim.pre args=true) (hwl:WellAll P h vals args) :
  ∃ a vs ns,vals=[Value.ref a]∧args=[WData.list (ns.map WData.int)]∧h.get? a=some { cls:=.type "list", data:=.seq vs.toArray }∧IntsAre vs ns∧ns.length≤n:=by
 have hsh:WShape.hasAll [] args [.list .int]=true:=(pre_splitW hpre).1
 have hc:l.pre.holds [] { args:=args }=true:=(pre_splitW hpre).2
 obtain⟨d,r,rfl,h1,h2⟩:=hasAllW_cons hsh
 obtain rfl:=hasAllW_nil h2
 obtain⟨xs,rfl,h3⟩:=hasW_list h1
 obtain⟨ns,rfl⟩:=items_int h3
 have hlen:ns.length≤n:=by
  unfold OpenLaw.pre at hc
  have h4:(WTm.not (.lt (.lit (.int (n:Int))) (.len (.arg 0)))).holds [] { args:=[.list (ns.map .int)] }=true:=by
   have h4:=(holds_andW hc).1
   rw[hn]at h4
   exact h4
  have h5:=condW_of h4 (w_not (w_lt w_lit (w_len_list (w_arg rfl))))
  rw[List.length_map]at h5
  refine Nat.le_of_not_lt fun q=>?_
  have q':(n:Int)<((ns.length:Nat):Int):=by omega
  first
   | (rw[decide_eq_true q']at h5; exact absurd h5 (by decide))
   | (simp at h5; omega)
 cases hwl with
 | cons w1 w2=>
  cases w2
  cases w1 with
  | list ho hall=>exact⟨_,_,ns,rfl,rfl,ho,kA ns _ hall,hlen⟩
theorem vJ(l:OpenLaw)(args:List WData):l.row.toRowW.claim.post args (.bool true) args=true:=
 postW_of (r:=l.row.toRowW) (X:=(true == true))
  (show WShape.has [] (.bool true) .bool=true by first | rfl | decide | simp[WShape.has,WShape.arms,WShape.armsAll])
  (show (WTm.eq .res (.lit (.bool true))).value [] { args:=args,res:=some (.bool true),after:=args }=some (.bool (true == true)) from w_eq_bool (w_res rfl) w_lit) rfl
theorem attach_call{l:OpenLaw}{n:Nat}{q:Program}{loose:List Str}{XP:(Str→Option Value)→Heap→Prop}{YP:World→Heap→Prop}{d:DefRec}
  (hn:l.most=some n) (hdf:d.params.defaults=[])
  (call:∀ (w:World) (s₀ s₁:Shared) (mg mb:Str→Option Value) (fa:Addr) (o:Obj) (pm cd doc:Value) (a:Addr) (vs:List Value) (ns:List Int),
   Ground q loose [] XP w s₀ mg mb s₁.heap→YP w s₁.heap→
   s₁.heap.get? fa=some o→o.data = .func (docDef d.name d.params d.body d.scope pm cd doc)→s₁.heap.CodeRec cd d.name→mg d.name=some (.ref fa)→
   s₁.heap.get? a=some { cls:=.type "list", data:=.seq vs.toArray }→IntsAre vs ns→ns.length≤n→s₁.gens = #[]→
   codeAny (model l.prog w) callerA (.call (.ref fa) ⟨[.ref a],[]⟩) (fun r s'=>r = .ok (.ret (.bool true))∧OldK s₁.heap s'.heap∧s'.os=s₁.os∧AllBare s'.gens) s₁) :
  WalkO q loose XP YP l.row.toRowW d [] (fun f vs=>PySem.call f vs):=by
 intro w s₀ s₁ mg mb G Y fa o pm cd doc dV kV ho hd hcd hD hmg hg args vals as hpre hlay hrd hwl hlo
 obtain rfl:dV = .none:=Dflts.none hD hdf
 obtain rfl:kV = .none:=Dflts.noKw hD
 obtain⟨a,vs,ns,rfl,rfl,hobj,hints,hlen⟩:=vt hn hpre hwl
 refine enter_call (codeAny_mono (call w s₀ s₁ mg mb fa o pm cd doc a vs ns G Y ho (fd_plain hd) hcd hmg hobj hints hlen hg) fun r s' hq=>?_)
 obtain⟨rfl,h2,h3,h4⟩:=hq
 exact⟨.inl ⟨.bool true,.bool true,[],rfl,fun _=>rfl,.bool true,vJ l _,fun _=>⟨List.Pairwise.nil,fun _ hm=>(nomatch hm)⟩⟩,h2,h3,h4⟩
section
variable{prog:Program}{w:World}{A:Around}{E:Value→Shared→Prop}{s:Shared}{K:Frag}
end
end Att
namespace L2
open PySem PySem.Spec PyProof.Rows
theorem mB:∀ {vs:List Value} {ns:List Int},IntsAre vs ns→Vals (ns.map V.int) vs
 | _,_,.nil=>.nil
 | _,_,.cons n t h=>.cons ⟨t,rfl⟩ (mB h)
def yx(H:Hp):Prop:=∀ b,H b=none∨∃ o xs,H b=some (.frz o (.lst xs))
theorem xh{P:Program}{w:World}{K:PySem.W.Frag}{mg mb:Str→Option Value}{CX:ii}{k:Nat}{fa a:Addr}{fd:FuncData}{x:Str}{sp:Sp}{s₁:Shared}{vs:List Value}{ns:List Int}
  (KX:K.In s₁.heap) (hns:s₁.heap.Ns mainGlobals mg) (hb:s₁.heap.Ns builtinsNs mb) (hbb:∀ x:Str,x ≠ "__name__" → mb x=bootBuiltins x) (hlim:s₁.heap.NoLimit) (hg:s₁.gens = #[])
  (ha:s₁.heap.get? a=some { cls:=.type "list", data:=.seq vs.toArray }) (hi:IntsAre vs ns) (hl:ns.length≤sizeLine) (hr:Room k callerA)
  (F:∀ base:Heap,K.In base→base.Ns mainGlobals mg→FnOk P w K mg base CX k fa fd [x] sp) (hbind:∀ (s:Shared) (u:Value),BindsTo s fd ⟨[u],[]⟩ [(x,u)])
  (hsp:∀ H:Hp,yx H→SqL K H a (ns.map V.int)→sp [.ref a] H (fun v _=>v = .bl true) fun _ _ _=>False)
  (hCX:∀ H e s',CX [] H s₁ (fun _ _ _=>False) e s'→False) :
  codeAny (model P w) callerA (.call (.ref fa) ⟨[.ref a],[]⟩) (fun r s'=>r = .ok (.ret (.bool true))∧OldK s₁.heap s'.heap∧s'.os=s₁.os∧AllBare s'.gens) s₁:=by
 have rv:=mB hi
 have lenV:=hi.length
 -- from an abstract heap in which nothing but the script may be tracked
 have core:∀ H:Hp,yx H→SqL K H a (ns.map V.int)→HOk P w H s₁.heap→(∀ b,H b≠none→b=a)→(H a≠none→K.lookup a=none)→
   codeAny (model P w) callerA (.call (.ref fa) ⟨[.ref a],[]⟩) (fun r s'=>r = .ok (.ret (.bool true))∧OldK s₁.heap s'.heap∧s'.os=s₁.os∧AllBare s'.gens) s₁:=by
  intro H hO hS hok hA hK
  have base_of:∀ {b:Addr} {o:Obj},s₁.heap.get? b=some o→H b=none→(iC s₁.heap H).get? b=some o:=fun e n=>xv e n
  have noA:∀ {b:Addr} {o:Obj} {es:Array DictEntry} {ep:Nat},s₁.heap.get? b=some o→o.data = .dict es ep→H b=none:=fun {b o es ep} e d=>by
   cases q:H b with
   | none=>rfl
   | some u=>
    have e':b=a:=hA b (by rw[q]; simp)
    subst e'
    rw[ha]at e; cases e
    have d':Data.seq vs.toArray _=Data.dict es ep:=d
    cases d'
  have nsK:∀ {b:Addr} {m:Str→Option Value},s₁.heap.Ns b m→(iC s₁.heap H).Ns b m:=fun {b m} ⟨o,es,ep,e,d,r⟩=>⟨o,es,ep,base_of e (noA e d),d,r⟩
  have hKb:K.In (iC s₁.heap H):=fun b o e=>base_of (KX b o e) (by
   cases q:H b with
   | none=>rfl
   | some u=>
    have e':b=a:=hA b (by rw[q]; simp)
    subst e'
    rw[hK (by rw[q]; simp)]at e; cases e)
  have hM:Mod K mg (iC s₁.heap H):=⟨hKb,nsK hns,⟨mb,nsK hb,hbb⟩,let ⟨mc,h1,h2⟩:=hlim; ⟨mc,nsK h1,h2⟩⟩
  have e0:Env0 P w K mg (iC s₁.heap H) callerA [] s₁ H:=⟨rfl,hM,fun b o e=>zC e,Nat.le_of_eq (v5 _ _),trivial,fun b hb=>absurd (show b∈([]:List Addr) from hb) (by simp),hok,.of_eq hg⟩
  refine codeAny_mono ((F _ hKb (nsK hns)).run callerA [] s₁ H ⟨[.ref a],[]⟩ [.ref a] [.ref a] _ _ hr e0 (hbind s₁ (.ref a)) (.cons rfl .nil) (hsp H hO hS)) fun r s' h=>?_
  cases r with
  | error e=>exact(hCX H e s' h).elim
  | ok fl=>
   cases fl with
   | next=>exact False.elim h
   | brk=>exact False.elim h
   | cont=>exact False.elim h
   | ret u=>
    obtain⟨v,H',os,bare,un,hok',r',q⟩:=h
    have q':v = .bl true:=q
    subst q'
    obtain rfl:u=Value.bool true:=r'
    refine⟨rfl,OldK.of_keep fun b o e=>?_,os,bare⟩
    cases q:H b with
    | none=>exact un.keep b o e q (by intro z; exact absurd (show b∈([]:List Addr) from z) (by simp)) (by simp)
    | some u=>
     rcases hO b with z | ⟨ob,xs,z⟩
     ·rw[q]at z; cases z
     ·have z2:=un.frzs b ob _ z
      obtain⟨e1,_⟩:=hok b _ z
      obtain⟨e2,_⟩:=hok' b _ z2
      rw[e]at e1; cases e1
      exact e2
 cases hk:K.lookup a with
 | some o=>
  -- the script is one of the module's own objects
  have e:=KX a o hk
  rw[ha]at e
  cases e
  refine core (fun _=>none) (fun _=>.inl rfl) (.inr ⟨_,vs.toArray,_,hk,rfl,rfl,rfl,by rw[List.size_toArray,lenV]; exact hl,by simpa using rv⟩) (fun b u z=>by have z':(none:Option HO)=some u:=z; cases z') (fun b z=>absurd rfl z) fun z=>absurd rfl z
 | none=>
  refine core (fun b=>if b=a then some (.frz { cls:=.type "list", data:=.seq vs.toArray } (.lst (ns.map V.int))) else none) (fun b=>?_) (.inl (.inr ⟨{ cls:=.type "list", data:=.seq vs.toArray },if_pos rfl⟩)) (fun b u z=>?_) (fun b z=>?_) fun _=>hk
  ·by_cases hb:b=a
   ·exact .inr ⟨_,_,if_pos hb⟩
   ·exact .inl (if_neg hb)
  ·by_cases hb:b=a
   ·have z':=(if_pos hb).symm.trans z
    cases z'
    subst hb
    exact⟨ha,by rw[List.length_map]; exact hl,vs,_,rv,ha⟩
   ·have z':=(if_neg hb).symm.trans z
    cases z'
  ·by_cases hb:b=a
   ·exact hb
   ·exact absurd (if_neg hb) z
end L2
namespace L2
open PySem PySem.Spec PyProof.Rows
abbrev KOf {K:PySem.W.Frag} {h:Heap} (_:K.In h):PySem.W.Frag:=K
theorem walk_of{l:PySem.W.OpenLaw}{n k:Nat}{q:Program}{loose:List Str}{XP:(Str→Option Value)→Heap→Prop}{YP:World→Heap→Prop}{d:DefRec}{K:Params→PySem.W.Frag}{CX:World→ii}{sp:World→Sp}{x:Str}
  (hn:l.most=some n) (hn2:n≤sizeLine) (hdf:d.params.defaults=[]) (hr:Room k callerA)
  (hY:∀ (w:World) (h:Heap),YP w h→(K w.params).In h)
  (F:∀ (w:World) (mg:Str→Option Value) (fa:Addr) (h:Heap),(K w.params).In h→h.Ns mainGlobals mg→mg d.name=some (.ref fa)→
   ∃ fd:FuncData,(∀ (s:Shared) (u:Value),BindsTo s fd ⟨[u],[]⟩ [(x,u)])∧
    ∀ base:Heap,(K w.params).In base→base.Ns mainGlobals mg→FnOk l.prog w (K w.params) mg base (CX w) k fa fd [x] (sp w))
  (hsp:∀ (w:World) (H:Hp) (a:Addr) (ns:List Int),ns.length≤n→yx H→SqL (K w.params) H a (ns.map V.int)→sp w [.ref a] H (fun v _=>v = .bl true) fun _ _ _=>False)
  (hCX:∀ (w:World) (H:Hp) (s:Shared) (e:Value) (s':Shared),CX w [] H s (fun _ _ _=>False) e s'→False) :
  PySem.W.WalkO q loose XP YP l.row.toRowW d [] (fun f vs=>PySem.call f vs):=by
 refine Att.attach_call hn hdf fun w s₀ s₁ mg mb fa o pm cd doc a vs ns G Y ho hd hcd hmg hobj hints hlen hg=>?_
 have KX:=hY w _ Y
 obtain⟨fd,hb,hF⟩:=F w mg fa _ KX G.T.g hmg
 exact xh KX G.T.g G.T.b G.T.builtins G.T.nolimit hg hobj hints (Nat.le_trans hlen hn2) hr hF hb (fun H hO hS=>hsp w H a ns hlen hO hS) fun H e s'=>hCX w H s₁ e s'
end L2
/- THE LAST THEOREM (shape; LID, My.* are yours):
   My.Adr: a structure of the addresses that your layer names (classes,functions); My.Txt K t: a structure (Prop) of the equations over K;
   My.txt_mk:{K} {implicit addresses ..} (e1:nsIn K mainGlobals "law" = some (some (.ref f))) (e2:K.lookup f=some ⟨oc,od,.func (fnOf "law" "law" params body scope dV kV doc pm an cdv ct),sl⟩) (e3:codeIn K cdv "law" = true) .. : ∃ t,My.Txt K t
set_option maxRecDepth 100000 in
set_option maxHeartbeats 0 in
theorem PySem.Challenge.cw_LID_holds : PySem.Challenge.rw_LID.Holds := by
 w_on; o_law; k_head; (case hw=>w_witness2)
 k_fill
 refine L2.walk_of (l:=PySem.Challenge.rw_LID) (n:=63) (k:=40) (x := "script") (CX:=fun w=>..) (sp:=fun _=>My.sp_law) rfl (by decide) rfl ⟨rfl,by decide,by decide⟩ (fun w h Y=>PySem.W.kIn_of Y) ?F ?S ?C
 case F=>
  intro w mg fa h KX G hmg
  have T:∃ t,My.Txt (L2.KOf KX) t:=by
   dsimp only[L2.KOf]                          -- K must stand as «<heap const> w.params» for k_is
   refine' My.txt_mk ?e1 ?e2 ?e3 ..
   (case e1=>PySem.W.k_is)                    -- in the order: a name -> its address -> its object -> its parts
   (case e2=>PySem.W.k_is)
   ..
  obtain⟨t,T⟩:=T
  have e0:=hmg.symm.trans (PySem.W.mg_of KX G T.law)
  cases e0                                       -- fa is the law's own address
  exact⟨_,fun s u=>.of_eq rfl,fun base kb nb=>My.law_fn T kb nb⟩     -- if «.of_eq rfl» comes too early: refine' ⟨_,?b,fun base kb nb=>My.law_fn T kb nb⟩; exact fun s u=>.of_eq rfl
 case S=>exact fun w H a ns hl hO hS=>..
 case C=>exact ..
(the tactic k_is has no namespace: write k_is) -/
namespace L2
open PySem PySem.Spec PyProof.Rows
abbrev jh:ii:=fun _ _ _ _ _ _=>False
abbrev E0:XK:=fun _ _ _=>False
theorem yI{X:Cx}:li jh X E0:=fun _ _ _ _ _ _ _ h=>h.elim
structure Fun (K:PySem.W.Frag) (x qual:Str) (st:Stmt) (f:Addr) (fd:FuncData):Prop where
 ex:∃ (oc:Value) (od:Option Addr) (kV doc pm:Value) (an:Option Addr) (cdv ct:Value) (osl:Array (Option Value)),
  fd=PySem.W.fnOf x qual (defArgs st) (defBody st) (defScope st) .none kV doc pm an cdv ct∧K.lookup f=some ⟨oc,od,.func fd,osl⟩∧PySem.W.codeIn K cdv qual=true
 kp:PySem.W.keepIn K (.ref f)=true
section
variable{P:Program}{w:World}{K:PySem.W.Frag}{mg:Str→Option Value}{base:Heap}
theorem Fun.ok{x qual:Str}{st:Stmt}{f:Addr}{fd:FuncData}{N ps:List Str}{k:Nat}{sp:Sp}(F:Fun K x qual st f fd)(S:aT N ps (defScope st))(len:∀ vs H Q E,sp vs H Q E→vs.length=ps.length)
  (hbody:∀ (cdv:Value) (A:Around) (outer:List Env) (s:Shared) (H:Hp) (vs:List V) (Q:VK) (E:XK),Room k (A.deeper (envOfC qual (defScope st) s.heap.objs.size f cdv))→sp vs H Q E→
   ∃ t,PSs (jp jh P w K mg base N qual (defScope st) f cdv A outer s H E).nox (defBody st) t∧t { nx:=fun _ H'=>Q .non H',rt:=Q } (start N vs) H):FnOk P w K mg base jh (k+1) f fd ps sp:=by
 obtain⟨oc,od,kV,doc,pm,an,cdv,ct,osl,rfl,lk,hcd⟩:=F.ex
 refine CP lk hcd S len fun A outer s H vs Q E hr hsp=>?_
 obtain⟨t,h,q⟩:=hbody cdv A outer s H vs Q E hr hsp
 exact⟨t,h.nox,q⟩
theorem Fun.binds{x qual:Str}{st:Stmt}{f:Addr}{fd:FuncData}{ps:List Str}(F:Fun K x qual st f fd)
  (h:∀ (kV doc pm:Value) (an:Option Addr) (cdv ct:Value) (us:List Value),us.length=ps.length→bindArgs (PySem.W.fnOf x qual (defArgs st) (defBody st) (defScope st) .none kV doc pm an cdv ct) ⟨us,[]⟩=pure (ps.zip us)):Binds K fd ps []:=by
 obtain⟨oc,od,kV,doc,pm,an,cdv,ct,osl,rfl,lk,hcd⟩:=F.ex
 exact .all (h kV doc pm an cdv ct)
theorem bD{x qual:Str}{st:Stmt}{f:Addr}{oc:Value}{od an:Option Addr}{osl:Array (Option Value)}{kV doc pm cdv ct:Value}(l:K.lookup f=some ⟨oc,od,.func (PySem.W.fnOf x qual (defArgs st) (defBody st) (defScope st) .none kV doc pm an cdv ct),osl⟩)
  (c:PySem.W.codeIn K cdv qual=true) (k:PySem.W.keepIn K (.ref f)=true):Fun K x qual st f (PySem.W.fnOf x qual (defArgs st) (defBody st) (defScope st) .none kV doc pm an cdv ct):=⟨⟨oc,od,kV,doc,pm,an,cdv,ct,osl,rfl,l,c⟩,k⟩
end
section
variable{X:Cx}
theorem pv(i:Nat){x:Str}{pos:Pos}(hN:X.N[i]? = some x:=by rfl)(hv:ap X.env.scope x:=by first | exact Or.inl rfl | exact Or.inr (Or.inl rfl) | exact Or.inr (Or.inr rfl))(hd:(x == ("__debug__" : Str))=false:=by decide)
  (hcd:(x == ("__classdict__" : Str))=false:=by decide):PE X (.Name x pos) (xx i):=Ca hN hv hd hcd
end
theorem bA{c A B:Prop}[Decidable c](h1:c→A)(h2:¬ c→B):if c then A else B:=by
 by_cases h:c
 ·rw[if_pos h]
  exact h1 h
 ·rw[if_neg h]
  exact h2 h
def Same(H H':Hp):Prop:=∀ b o,H b=some o→H' b=some o
theorem Same.refl(H:Hp):Same H H:=fun _ _ h=>h
theorem Same.trans{H H1 H2:Hp}(a:Same H H1)(b:Same H1 H2):Same H H2:=fun c o h=>b c o (a c o h)
theorem Same.free{H H':Hp}(e:Same H H'){l:Addr}(h:H' l=Option.none):H l=Option.none:=by
 cases q:H l with
 | none=>rfl
 | some o=>
  rw[e l o q]at h
  cases h
theorem Same.seq{K:PySem.W.Frag}{H H':Hp}{a:Addr}{xs:List V}(e:Same H H')(h:SqL K H a xs):SqL K H' a xs:=by
 rcases h with (h | ⟨o,h⟩) | h
 ·exact .inl (.inl (e _ _ h))
 ·exact .inl (.inr ⟨o,e _ _ h⟩)
 ·exact .inr h
theorem jr{X:Cx}:CallR X (.builtin "len") (fun xs H Q=>∃ a kvs,xs=[V.ref a]∧H a=some (.dK kvs)∧Q (.int kvs.length) H):=by
 intro pins s σ H xs us Q I r h
 obtain⟨a,kvs,rfl,ha,q⟩:=h
 obtain⟨u,rfl,ru⟩:=dm r
 cases ru
 exact CJ I (.inl ha) fun t s' I'=>⟨.int kvs.length,H,I',⟨t,rfl⟩,q⟩
section
variable{κ : Type}[DecidableEq κ]
end
end L2
namespace L2
open PySem PySem.Spec PyProof.Rows
def dO(cells:List (Str × Addr)):List (Str × NameKind)→List (Str × Addr)→List (Str × Addr)
 | [],acc=>acc
 | (n,k)::r,acc=>dO cells r (if k == .free then (n,(cells.lookup n).getD 0)::acc else acc)
theorem ow{env:Env}{f:(Str × NameKind)→List (Str × Addr)→Sem (ForInStep (List (Str × Addr)))}
  (hf:∀ n k cs,f (n,k) cs=if (k == NameKind.free)=true then (cellOf env n >>= fun c=>pure (ForInStep.yield ((n,c)::cs))) else pure (ForInStep.yield cs)) :
  ∀ (names:List (Str × NameKind)) (acc:List (Str × Addr)),(∀ x∈names,x.2 = .free→∃ c,env.cells.lookup x.1=some c)→
  forIn names acc f=(pure (dO env.cells names acc):Sem _)
 | [],acc,_=>rfl
 | (n,k)::r,acc,h=>by
  rw[List.forIn_cons,hf]
  have ih:=fun acc=>ow hf r acc fun x hx=>h x (List.mem_cons_of_mem _ hx)
  by_cases hk:(k == NameKind.free)=true
  ·rw[if_pos hk]
   obtain⟨c,hc⟩:=h (n,k) List.mem_cons_self (by simpa using hk)
   have e:cellOf env n=pure c:=by unfold cellOf; rw[hc]
   rw[e,pure_bind,pure_bind]
   show forIn r ((n,c)::acc) f=_
   rw[ih]
   show _=pure (dO env.cells r (if (k == NameKind.free)=true then (n,(env.cells.lookup n).getD 0)::acc else acc))
   rw[if_pos hk,hc]; rfl
  ·rw[if_neg hk,pure_bind]
   show forIn r acc f=_
   rw[ih]
   show _=pure (dO env.cells r (if (k == NameKind.free)=true then (n,(env.cells.lookup n).getD 0)::acc else acc))
   rw[if_neg hk]
theorem iO{env:Env}{scope:Scope}(h:∀ x∈scope.names,x.2 = .free→∃ c,env.cells.lookup x.1=some c):closureFor scope env=pure (dO env.cells scope.names []):=by
 unfold closureFor
 show (forIn scope.names ([]:List (Str × Addr)) _ >>= fun cs=>pure cs)=_
 rw[ow (env:=env) (fun n k cs=>?_) _ _ h]
 ·rfl
 ·rfl
theorem jZ{cells:List (Str × Addr)}:∀ {names:List (Str × NameKind)} {acc:List (Str × Addr)} {x:Str} {c:Addr},(∀ y∈names,y.2 = .free→∃ c,cells.lookup y.1=some c)→
  (∀ y c,acc.lookup y=some c→cells.lookup y=some c)→(dO cells names acc).lookup x=some c→cells.lookup x=some c
 | [],acc,x,c,_,ha,h=>ha x c h
 | (n,k)::r,acc,x,c,hn,ha,h=>by
  refine jZ (names:=r) (fun y hy=>hn y (List.mem_cons_of_mem _ hy)) ?_ h
  intro y d hy
  by_cases hk:(k == NameKind.free)=true
  ·rw[if_pos hk]at hy
   obtain⟨e,he⟩:=hn (n,k) List.mem_cons_self (by simpa using hk)
   have he':cells.lookup n=some e:=he
   rw[List.lookup_cons]at hy
   by_cases hyn:(y == n)=true
   ·rw[hyn]at hy
    have hy':(cells.lookup n).getD 0=d:=Option.some.inj hy
    rw[he']at hy'
    have e1:y=n:=by simpa using hyn
    rw[e1,he',← hy']; rfl
   ·have hf:(y == n)=false:=by simpa using hyn
    rw[hf]at hy
    exact ha y d hy
  ·rw[if_neg hk]at hy
   exact ha y d hy
theorem kz{cells:List (Str × Addr)}:∀ {names:List (Str × NameKind)} {acc:List (Str × Addr)} {x:Str},(∃ c,acc.lookup x=some c)→∃ c,(dO cells names acc).lookup x=some c
 | [],_,_,h=>h
 | (n,k)::r,acc,x,h=>by
  refine kz (names:=r) ?_
  by_cases hk:(k == NameKind.free)=true
  ·rw[if_pos hk,List.lookup_cons]
   cases hx:(x == n) with
   | true=>exact⟨_,rfl⟩
   | false=>exact h
  ·rw[if_neg hk]; exact h
theorem iK{cells:List (Str × Addr)}:∀ {names:List (Str × NameKind)} {acc:List (Str × Addr)} {x:Str},(x,NameKind.free)∈names→∃ c,(dO cells names acc).lookup x=some c
 | (n,k)::r,acc,x,h=>by
  rcases List.mem_cons.mp h with e | h
  ·have e1:x=n:=congrArg (·.1) e
   have e2:NameKind.free=k:=congrArg (·.2) e
   subst e1 e2
   refine kz (names:=r) ?_
   rw[if_pos (by rfl),List.lookup_cons]
   rw[beq_self_eq_true]
   exact⟨_,rfl⟩
  ·exact iK (names:=r) h
theorem eh{env:Env}:∀ {names:List (Str × NameKind)} {x:Str} {k:NameKind},(∀ y∈names,y.2 ≠ .cell)→
  (names.map fun (n,k)=>if (k == NameKind.free&&env.scope.kind == .function&&env.kindOf n == some .cell) then (n,NameKind.cell) else (n,k)).lookup x=some k→(k = .cell∨k = .free)→(x,NameKind.free)∈names
 | [],_,_,_,h,_=>by simp at h
 | (n,k0)::r,x,k,hc,h,hk=>by
  have ih:=@eh env r x k (fun y hy=>hc y (List.mem_cons_of_mem _ hy))
  rw[List.map_cons]at h
  by_cases hf:(k0 == NameKind.free&&env.scope.kind == .function&&env.kindOf n == some .cell)=true
  ·have hk0:k0 = .free:=by
    have:(k0 == NameKind.free)=true:=by
     rw[Bool.and_eq_true,Bool.and_eq_true]at hf; exact hf.1.1
    simpa using this
   dsimp only at h
   rw[if_pos hf,List.lookup_cons]at h
   cases hx:(x == n) with
   | true=>
    have:x=n:=by simpa using hx
    rw[this,hk0]; exact List.mem_cons_self
   | false=>rw[hx]at h; exact List.mem_cons_of_mem _ (ih h hk)
  ·dsimp only at h
   rw[if_neg hf,List.lookup_cons]at h
   cases hx:(x == n) with
   | true=>
    rw[hx]at h
    have e:k0=k:=Option.some.inj h
    have:x=n:=by simpa using hx
    rcases hk with z | z
    ·exact absurd (e.trans z) (hc (n,k0) List.mem_cons_self)
    ·rw[this,e,z]; exact List.mem_cons_self
   | false=>rw[hx]at h; exact List.mem_cons_of_mem _ (ih h hk)
def bZ(X:Cx)(N0 T:List Str)(scope:Scope)(C:Addr)(fp:List Addr)(s:Shared)(H:Hp):Cx:=
 { X with N:=N0++T,s₀:=s,H₀:=H,env:=compEnvC scope (dO X.env.cells scope.names []) C X.env,outer:=X.stack,stack:=X.stack,ex:=fp,fn:=fun _=>false,pn:=[],xe:=fun _ _=>False }
structure gU (X:Cx) (N0 T:List Str) (scope:Scope):Prop where
 kind:scope.kind = .function
 nocell:∀ y∈scope.names,y.2 ≠ .cell
 names:∀ y∈scope.names,y.2 = .local→scope.names.lookup y.1=some .local
 free:∀ y∈scope.names,y.2 = .free→X.env.kindOf y.1=some .cell∨X.env.kindOf y.1=some .free
 apart:∀ y∈scope.names,y.2 = .local→y.1∉N0
 len0:N0.length=X.N.length
 same:∀ (i:Nat) (x:Str) (k:NameKind),N0[i]? = some x→(x,k)∈scope.names→X.N[i]? = some x
theorem iQ{prog:Program}{w:World}{A:Around}{R:Result→Shared→Prop}{s:Shared}{elt target iter:Expr}{ifs:List Expr}{scope:Scope}{pos:Pos}{it acc:Value}{env:Env}(I:Nat→Shared→Prop)
  (turn:∀ n s,I n s→wpAny (model prog w) A (pyNext it) (fun r s₁=>match r with
   | none=>R (.ok .next) s₁
   | some v=>wpAny (model prog w) A (letOwnedTupleGo target it v) (fun _ s₀=>wpAny (model prog w) A (assign target env v) (fun _ s₂=>
     wpAny (model prog w) A (forIn ifs true fun c r=>if r=true then do let ok ← isTrue c env (eval c env); pure (ForInStep.yield ok) else pure (ForInStep.yield r)) (fun ok s₃=>
      if ok=true then wpAny (model prog w) A (eval elt env) (fun x s₄=>
       wpAny (model prog w) A (call (.builtin "list.append") [acc,x]) (fun _ s₅=>∃ m,m<n∧I m s₅) (fun _ _=>False) s₄) (fun _ _=>False) s₃
      else ∃ m,m<n∧I m s₃) (fun _ _=>False) s₂) (fun _ _=>False) s₀) (fun _ _=>False) s₁) (fun _ _=>False) s)
  (n:Nat) (h:I n s) :
  codeAny (model prog w) A (.compLoop (.ListComp elt [⟨target,iter,ifs,0⟩] scope pos) 0 it acc env) R s:=by
 refine codeAny_loop rfl I (fun n s hI=>?_) n h
 show wpAny _ A ((compTurn (.ListComp elt [⟨target,iter,ifs,0⟩] scope pos) 0 it acc env).onRaise (fun x=>do noteFrame x env; theTreesLotGoes x)) _ _ s
 refine wpAny_noted ?_
 rw[compTurn_list]
 refine wpAny_bind (wpAny_standAt (wpAny_bind (wpAny_mono (turn n s hI) (fun r s₁ h₁=>?_) fun _ _ h'=>h'.elim)))
 cases r with
 | none=>exact wpAny_pure h₁
 | some v=>
  refine wpAny_bind (wpAny_mono h₁ (fun _ s₀ h₀=>?_) fun _ _ h'=>h'.elim)
  refine wpAny_bind (wpAny_mono h₀ (fun _ s₂ h₂=>wpAny_bind (wpAny_mono h₂ (fun ok s₃ h₃=>?_) fun _ _ h'=>h'.elim)) fun _ _ h'=>h'.elim)
  cases ok with
  | false=>exact wpAny_pure ⟨rfl,h₃⟩
  | true=>
   exact wpAny_bind (wpAny_bind (wpAny_mono h₃ (fun x s₄ h₄=>wpAny_bind (wpAny_mono h₄ (fun _ s₅ h₅=>wpAny_pure (wpAny_pure ⟨rfl,h₅⟩)) fun _ _ h'=>h'.elim)) fun _ _ h'=>h'.elim))
def PIfs(X:Cx)(ifs:List Expr)(tc:TT):Prop:=
 ∀ (pins:List (Addr × Obj)) (s:Shared) (σ : St) (H:Hp) (Q:Bool→Hp→Prop),Inv X pins σ H s→tc σ H Q→
  wpAny (model X.prog X.w) X.A (forIn ifs true fun c r=>if r=true then do let ok ← isTrue c X.env (eval c X.env); pure (ForInStep.yield ok) else pure (ForInStep.yield r)) (TP X pins σ Q) X.xe s
def lL:TT:=fun _ H Q=>Q true H
theorem gN{X:Cx}:PIfs X [] lL:=fun _ _ _ H _ I h=>wpAny_tests_nil ⟨H,I,h⟩
theorem ki{X:Cx}{c:Expr}{tc:TT}(hc:PT X c tc):PIfs X [c] tc:=fun pins s σ H Q I h=>wpAny_tests_one (hc pins s σ H Q I h)
def sQ(g:TG)(n:Nat):Prop:=∀ x σ H Q,g x σ H Q→g x σ H fun σ' H'=>Q σ' H'∧σ'.length=σ.length∧∀ k,k<n→σ'[k]? = σ[k]?
def uN(g:gr)(n:Nat):Prop:=∀ x σ H Q,g x σ H Q→g x σ H fun σ' H'=>Q σ' H'∧σ'.length=σ.length∧∀ k,k<n→σ'[k]? = σ[k]?
theorem dN{i n:Nat}(h:n≤i):sQ (gZ i) n:=fun x σ H Q q=>⟨q,by simp,fun k hk=>by rw[List.getElem?_set_ne (by omega)]⟩
theorem xJ{n:Nat}:uN uc n:=fun x σ H Q q=>⟨q.1,q.2,rfl,fun _ _=>rfl⟩
def uj(g:TG):Prop:=∀ x σ H Q Q',(∀ σ' H',Q σ' H'→Q' σ' H')→g x σ H Q→g x σ H Q'
def kL(g:gr):Prop:=∀ x σ H Q Q',(∀ σ' H',Q σ' H'→Q' σ' H')→g x σ H Q→g x σ H Q'
theorem mf{i:Nat}:uj (gZ i):=fun x σ H Q Q' h q=>h _ _ q
theorem rB:kL uc:=fun x σ H Q Q' h q=>⟨q.1,h _ _ q.2⟩
theorem wY{t:TG}{u:gr}(h1:uj t)(h2:kL u):kL (nW t u):=fun x σ H Q Q' h ⟨v,r,e,q⟩=>⟨v,r,e,h1 _ _ _ _ _ (fun σ' H' z=>h2 _ _ _ _ _ h z) q⟩
theorem mS{t:TG}{u:gr}{n:Nat}(h1:sQ t n)(m1:uj t)(h2:uN u n)(m2:kL u):uN (nW t u) n:=fun x σ H Q ⟨v,r,e,q⟩=>by
 refine⟨v,r,e,?_⟩
 refine m1 _ _ _ _ _ (fun σ' H' z=>?_) (h1 _ _ _ _ q)
 obtain⟨z,l1,k1⟩:=z
 exact m2 _ _ _ _ _ (fun σ2 H2 y=>⟨y.1,y.2.1.trans l1,fun k hk=>(y.2.2 k hk).trans (k1 k hk)⟩) (h2 _ _ _ _ z)
theorem z0{K:PySem.W.Frag}{m n:Nat}{t:gr}(h:uN t n):sQ (uG K m t) n:=fun x σ H Q ⟨a,xs,e,q,l,z⟩=>⟨a,xs,e,q,l,h _ _ _ _ z⟩
def fz(J:It)(g:TG)(tc:TT)(te:TE)(nT:Nat)(σ : St)(D:Addr)(Q:VK)(H:Hp):Prop:=
 ∃ W:Nat→Nat→List V→Hp→Prop,(∃ m,W 0 m [] H)∧∀ i m ys H2,W i m ys H2→
  (J.stop i H2∧Q (.ref D) H2)∨(J.go i H2∧∀ x H',J.yld i H2 x H'→g x (σ++List.replicate nT none) H' fun σ2 H3=>tc σ2 H3 fun b H4=>
   if b=true then te σ2 H4 fun y H5=>H5 D=some (.lst ys)∧ys.length<sizeLine∧∃ m',m'<m∧W (i+1) m' (ys++[y]) (upd H5 D (.lst (ys++[y]))) else ∃ m',m'<m∧W (i+1) m' ys H4)
def uv(wi:TI)(g:TG)(tc:TT)(te:TE)(nT:Nat):TE:=fun σ H Q=>wi σ H fun J H1=>∀ D,H1 D=none→fz J g tc te nT σ D Q (upd H1 D (.lst []))
theorem HOk.sameBut{P:Program}{w:World}{H:Hp}{h h':Heap}{C:Addr}(x:HOk P w H h)(hs:Heap.SameBut C h h')(hC:H C=none):HOk P w H h':=fun a o e=>
 (x a o e).stay (fun b u hb q=>(hs.2 b (by
  rintro rfl
  rcases hb with z | z
  ·rw[z]at hC; rw[hC]at e; cases e
  ·rw[hC]at z; cases z)).trans q) (fun _ q=>q) fun _ _ q=>q
section
variable{X:Cx}{N0 T:List Str}{scope:Scope}{tg elt iter:Expr}{ifs:List Expr}{pos:Pos}{wi:TI}{g:TG}{tc:TT}{te:TE}
theorem nr{pins:List (Addr × Obj)}{σ : St}{H:Hp}{s:Shared}{E:Value→Shared→Prop}{it:Addr}{fp:List Addr}{tn:Nat→Heap→Prop}{J:It}{Q:VK}{RR:Value→Addr→Result→Shared→Prop}
  (S:gU X N0 T scope) (hc:X.calm=true)
  (hg:∀ C fp s H,PG (bZ X N0 T scope C fp s H) tg g) (hfr:sQ g X.N.length) (hi:∀ C fp s H,PIfs (bZ X N0 T scope C fp s H) ifs tc) (he:∀ C fp s H,PE (bZ X N0 T scope C fp s H) elt te)
  (I:Inv X pins σ H s) (Tn:iH X.prog X.w X.K tg J fp it tn) (st:tn 0 s.heap) (hf:∀ b∈fp,gC X pins H b)
  (h:∀ D,H D=none→fz J g tc te T.length σ D Q (upd H D (.lst [])))
  (hRR:∀ D C s' H' m,s'.heap.Ns C m→H' C=none→C≠X.env.locals→(∀ x c,X.env.cells.lookup x=some c→c≠C)→(∀ p∈X.pn++pins,p.1≠C)→X.s₀.heap.objs.size≤C→Inv X pins σ H' s'→
   (∀ h',Heap.SameBut C s'.heap h'→Inv X pins σ H' { s' with heap:=h' })→Q (.ref D) H'→RR (.ref D) C (.ok .next) s') :
  wpAny (model X.prog X.w) X.A (newList []) (fun acc s₃=>wpAny (model X.prog X.w) X.A (newFunctionEnv scope X.env.globals (dO X.env.cells scope.names []) [] X.env.qual none .none (some X.env)) (fun cenv s₄=>
   codeAny (model X.prog X.w) X.A (.compStart (.ListComp elt [⟨tg,iter,ifs,0⟩] scope pos) 0 (.ref it) acc { cenv with scope:=relabel scope X.env }) (RR acc cenv.locals) s₄) E s₃) E s:=by
 refine wpAny_newObj_type (wpAny_newFunctionEnv S.nocell (by intro y hy; simp at hy) (fun h₁ hns₁ hsb₁=>?_) S.kind)
 dsimp only at hns₁ hsb₁ ⊢
 generalize hH2:s.heap.push { cls:=.type "list", dict:=none,data:=.seq ([]:List Value).toArray }=P2 at hns₁ hsb₁ ⊢
 have hC:P2.objs.size=s.heap.objs.size+1:=by rw[← hH2,Heap.size_push]
 -- the new list D, the block's names C
 obtain⟨D,hD⟩ : ∃ D:Nat,D=s.heap.objs.size:=⟨_,rfl⟩
 obtain⟨C,hCC⟩ : ∃ C:Nat,C=P2.objs.size:=⟨_,rfl⟩
 rw[← hCC]at hns₁ hsb₁ hC ⊢
 rw[← hD]at hC ⊢
 have hDC:D≠C:=by omega
 have hDlt:D<C:=by omega
 have neD:∀ b o,s.heap.get? b=some o→b≠D:=fun b o e=>hD ▸ Nat.ne_of_lt (Heap.lt_size e)
 have neC:∀ b o,s.heap.get? b=some o→b≠C:=fun b o e=>Nat.ne_of_lt (Nat.lt_trans (hD ▸ Heap.lt_size e) hDlt)
 have old:∀ b o,s.heap.get? b=some o→h₁.get? b=some o:=fun b o e=>hsb₁.extBut b o (neC b o e) (Heap.get?_push_of_some _ (hH2 ▸ Heap.get?_push_of_some _ e))
 have hHD:H D=none:=I.hok.fresh (by omega)
 have hHC:H C=none:=I.hok.fresh (by omega)
 have dat:h₁.get? D=some { cls:=.type "list", data:=.seq ([]:List Value).toArray 0 }:=by
  refine hsb₁.extBut _ _ hDC (Heap.get?_push_of_some _ ?_)
  rw[← hH2,hD]
  exact Heap.get?_push_size _ rfl
 -- the block's context stands
 have hcl:∀ x c,(dO X.env.cells scope.names []).lookup x=some c→X.env.cells.lookup x=some c:=fun x c e=>
  jZ (fun y hy hk=>I.ok.has y.1 (S.free y hy hk)) (fun y c z=>by simp at z) e
 have okC:(bZ X N0 T scope C fp s H).Ok:=by
  refine⟨I.ok.mod,?_,I.ok.glob,I.ok.blt,?_,fun x y c e1 e2=>I.ok.inj x y c (hcl x c e1) (hcl y c e2),fun x hx=>?_,fun x c z _=>(by cases z),I.ok.hd,I.ok.frames,.inl rfl,fun b hb=>⟨?_,fun x c e=>(hf b hb).2.2.2.2.1 x c (hcl x c e)⟩,
   I.bs,?_,fun b o e hb=>?_,fun b hb z=>?_,I.stack,I.stkFree⟩
  ·show (relabel scope X.env).kind = .function
   exact S.kind
  ·show s.heap.objs.size≤C
   omega
  ·have hx':(relabel scope X.env).names.lookup x=some .cell∨(relabel scope X.env).names.lookup x=some .free:=hx
   have m:(x,NameKind.free)∈scope.names:=by
    rcases hx' with z | z
    ·exact eh S.nocell z (.inl rfl)
    ·exact eh S.nocell z (.inr rfl)
   exact iK m
  ·show b≠C
   obtain⟨o,e,_⟩:=Tn.obj 0 _ st b hb
   exact neC b o e
  ·exact Nat.le_trans I.ok.bsz I.sz
  ·obtain⟨_,_,_,z,_⟩:=hf b hb
   rcases z with z | z
   ·exact I.ok.noex b o e z
   ·exact absurd (Nat.lt_of_lt_of_le (Nat.lt_of_lt_of_le (Heap.lt_size e) I.ok.bsz) z) (Nat.lt_irrefl _)
  ·obtain⟨_,z1,z2,_⟩:=hf b hb
   rcases List.mem_cons.mp (I.stkSub b z) with q | q
   ·exact z1 q
   ·exact z2 q
 have I1:Inv (bZ X N0 T scope C fp s H) [] (σ++List.replicate T.length none) (upd H D (.lst [])) { s with heap:=h₁,toks:=s.toks+([]:List (Str × Value)).length }:=by
  refine⟨okC,rfl,I.bare,Un.laid (h:=s.heap) old (by omega) hHD,⟨_,hns₁,fun i x v e1 e2 e3=>?_⟩,fun x c e=>?_,?_,fun x c e=>?_,fun p hp=>(by simp[bZ]at hp),I.hok.laid old (by omega) ?_,?_⟩
  ·have e1':(N0++T)[i]? = some x:=e1
   have hl:=I.len
   have hl0:=S.len0
   have hi:i<σ.length:=by
    rcases Nat.lt_or_ge i σ.length with z | z
    ·exact z
    ·rw[List.getElem?_append_right z]at e2
     rw[List.getElem?_replicate]at e2
     split at e2 <;> cases e2
   rw[List.getElem?_append_left hi]at e2
   rw[List.getElem?_append_left (by omega)]at e1'
   have hxN:x∈N0:=List.mem_of_getElem? e1'
   have e3':(relabel scope X.env).names.lookup x=some .local∨(relabel scope X.env).names.lookup x=some .cell∨(relabel scope X.env).names.lookup x=some .free:=e3
   have fr:(relabel scope X.env).names.lookup x=some .cell∨(relabel scope X.env).names.lookup x=some .free:=by
    rcases e3' with z | z | z
    ·exfalso
     -- a local of the block is no tracked name
     have key:∀ (names:List (Str × NameKind)),(names.map fun (n,k)=>if (k == NameKind.free&&X.env.scope.kind == .function&&X.env.kindOf n == some .cell) then (n,NameKind.cell) else (n,k)).lookup x=some .local→(x,NameKind.local)∈names:=by
      intro names
      induction names with
      | nil=>intro z; simp at z
      | cons y r ih=>
       obtain⟨n,k⟩:=y
       intro z
       rw[List.map_cons]at z
       dsimp only at z
       by_cases hfk:(k == NameKind.free&&X.env.scope.kind == .function&&X.env.kindOf n == some .cell)=true
       ·rw[if_pos hfk,List.lookup_cons]at z
        cases hx:(x == n) with
        | true=>rw[hx]at z; cases z
        | false=>rw[hx]at z; exact List.mem_cons_of_mem _ (ih z)
       ·rw[if_neg hfk,List.lookup_cons]at z
        cases hx:(x == n) with
        | true=>
         rw[hx]at z
         have ek:k = .local:=Option.some.inj z
         have en:x=n:=by simpa using hx
         rw[ek,en]; exact List.mem_cons_self
        | false=>rw[hx]at z; exact List.mem_cons_of_mem _ (ih z)
     exact S.apart (x,.local) (key _ z) rfl hxN
    ·exact .inl z
    ·exact .inr z
   have m:(x,NameKind.free)∈scope.names:=by
    rcases fr with z | z
    ·exact eh S.nocell z (.inl rfl)
    ·exact eh S.nocell z (.inr rfl)
   have kX:=S.free _ m rfl
   obtain⟨mm,hn,hl'⟩:=I.loc
   obtain⟨u,r,lk⟩:=hl' i x v (S.same i x _ e1' m) e2 (.inr kX)
   refine⟨u,r,.inr ⟨fr,?_⟩⟩
   rcases lk with ⟨z,_⟩ | ⟨_,c,ec,cc⟩
   ·rcases kX with q | q
    ·rw[q]at z; cases z
    ·rw[q]at z; cases z
   ·obtain⟨c',ec'⟩:=iK (cells:=X.env.cells) (acc:=[]) m
    have:=hcl x c' ec'
    rw[ec]at this; cases this
    exact⟨c,ec',cc.keeps old⟩
  ·obtain⟨v,z⟩:=I.cell x c (hcl x c e)
   exact⟨v,z.keeps old⟩
  ·show upd H D (.lst []) C=none
   rw[ah (Ne.symm hDC)]; exact hHC
  ·have q:=I.freeC x c (hcl x c e)
   obtain⟨v,o,z,_⟩:=I.cell x c (hcl x c e)
   rw[ah (neD c o z)]; exact q
  ·exact⟨Nat.zero_le _,[],0,.nil,dat⟩
  ·show (σ++List.replicate T.length none).length=(N0++T).length
   rw[List.length_append,List.length_append,List.length_replicate,I.len,S.len0]
 have st1:tn 0 h₁:=Tn.keep _ _ _ st fun b _ o e=>old b o e
 have fp1:∀ {H':Hp},(∀ b∈fp,H' b=none)→∀ b∈fp,gC (bZ X N0 T scope C fp s H) [] H' b:=fun hn b hb=>
  ⟨hn b hb,(okC.exf b hb).1,okC.exfs b hb,.inl hb,(okC.exf b hb).2,fun p hp=>(by simp[bZ]at hp)⟩
 have fp0:∀ b∈fp,upd H D (.lst []) b=none:=fun b hb=>by
  obtain⟨o,e,_⟩:=Tn.obj 0 _ st b hb
  rw[ah (neD b o e)]; exact(hf b hb).1
 obtain⟨W,⟨m0,w0⟩,turn⟩:=h D hHD
 have loop:∀ s₃ : Shared,s₃={ s with heap:=h₁,toks:=s.toks+([]:List (Str × Value)).length }→
   codeAny (model X.prog X.w) X.A (.compLoop (.ListComp elt [⟨tg,iter,ifs,0⟩] scope pos) 0 (.ref it) (.ref D) (compEnvC scope (dO X.env.cells scope.names []) C X.env)) (RR (.ref D) C) s₃:=by
  rintro s₃ rfl
  refine iQ (fun n s'=>∃ i H' ys,Inv (bZ X N0 T scope C fp s H) [] (σ++List.replicate T.length none) H' s'∧tn i s'.heap∧(∀ b∈fp,H' b=none)∧W i n ys H') ?_ m0 ⟨0,_,[],I1,st1,fp0,w0⟩
  rintro n s3 ⟨i,H3,ys,I3,st3,fr3,w3⟩
  rcases turn i n ys H3 w3 with ⟨stop,qn⟩ | ⟨go,step⟩
  ·refine bt (Tn.done (bZ X N0 T scope C fp s H) rfl rfl rfl hc i [] s3 _ H3 (fun _ _=>False) I3 (fp1 fr3) st3 stop) fun r s4 ⟨hr,I4⟩=>?_
   subst hr
   obtain⟨m,hm,_⟩:=I4.loc
   have hch:∀ b∈fp,(b∈X.ex∨X.s₀.heap.objs.size≤b)∧b≠X.env.locals∧(∀ x c,X.env.cells.lookup x=some c→c≠b)∧∀ p∈X.pn++pins,p.1≠b:=fun b hb=>
    ⟨(hf b hb).2.2.2.1,(hf b hb).2.1,(hf b hb).2.2.2.2.1,(hf b hb).2.2.2.2.2⟩
   have u4:Un (iP X.stack) fp H H3 s.heap s4.heap:=I4.base
   refine hRR D C s4 H3 m hm I4.free (Ne.symm (Nat.ne_of_lt (Nat.lt_trans (hD ▸ I.lt) hDlt))) (fun x c e=>?_) (fun p hp=>?_) (Nat.le_trans (hD ▸ I.sz) (Nat.le_of_lt hDlt)) (I.call' (ch:=fp) I4.os u4 I4.hok I4.bare hch) (fun h' hs'=>?_) qn
   ·obtain⟨v,o,q,_⟩:=I.cell x c e
    exact neC c o q
   ·exact neC _ _ (I.pin p hp).1
   ·refine I.call' (ch:=fp) (s':={ s4 with heap:=h' }) I4.os ⟨fun b o q n' hb hx=>(hs'.2 b (neC b o q)).trans (u4.keep b o q n' hb hx),fun b o q n' hb hx=>?_,u4.free,fun b o q hx=>?_,u4.tups,u4.frzs,u4.tbls⟩ (I4.hok.sameBut hs' I4.free) I4.bare hch
    ·obtain⟨sl,e⟩:=u4.slot b o q n' hb hx
     exact⟨sl,(hs'.2 b (neC b o q)).trans e⟩
    ·obtain⟨o',e⟩:=u4.there b o q hx
     exact⟨o',(hs'.2 b (neC b o q)).trans e⟩
  ·refine bt (Tn.item (bZ X N0 T scope C fp s H) rfl rfl rfl hc i [] s3 _ H3 (fun _ _=>False) I3 (fp1 fr3) st3 go) fun r s4 ⟨u,hr,h4⟩=>?_
   subst hr
   refine bt h4 fun _ s5 ⟨x,H5,I5,r5,y5,st5,fr5⟩=>?_
   have I5':=I5.pinned (fp1 fr5) (Tn.obj _ _ st5)
   refine bt (hg C fp s H _ s5 _ H5 x u _ I5' r5 (hfr _ _ _ _ (step x H5 y5))) fun _ s6 ⟨σ6,H6,I6,q6,l6,k6⟩=>?_
   have back:∀ {H7:Hp} {s7:Shared},Inv (bZ X N0 T scope C fp s H) ([]++i0 fp s5.heap) σ6 H7 s7→(∀ {m':Nat} {zs:List V},m'<n→W (i+1) m' zs H7→∃ m,m<n∧∃ i H' ys,Inv (bZ X N0 T scope C fp s H) [] (σ++List.replicate T.length none) H' s7∧tn i s7.heap∧(∀ b∈fp,H' b=none)∧W i m ys H'):=fun {H7 s7} I7 {m' zs} hm w7=>by
    refine⟨m',hm,i+1,H7,zs,I7.unpinned.weak (by rw[l6]) (fun j v e=>?_),Tn.keep _ _ _ st5 fun b hb o e=>(I7.pin (b,o) (List.mem_append_right _ (List.mem_append_right _ (gg hb e)))).1,fun b hb=>?_,w7⟩
    ·have hj:j<σ.length:=by
      rcases Nat.lt_or_ge j σ.length with z | z
      ·exact z
      ·rw[List.getElem?_append_right z,List.getElem?_replicate]at e
       split at e <;> cases e
     rw[k6 j (by rw[← I.len]; exact hj)]
     exact e
    ·obtain⟨o,e,d⟩:=Tn.obj _ _ st5 b hb
     exact(I7.pin (b,o) (List.mem_append_right _ (List.mem_append_right _ (gg hb e)))).2.1
   refine bt (hi C fp s H _ s6 σ6 H6 _ I6 q6) fun b s7 ⟨H7,I7,q7⟩=>?_
   cases b with
   | false=>
    obtain⟨m',hm,w7⟩:=(show ∃ m',m'<n∧W (i+1) m' ys H7 from by simpa using q7)
    exact back I7 hm w7
   | true=>
    rw[if_pos rfl]at q7
    refine bt (he C fp s H _ s7 σ6 H7 _ I7 q7) fun v s8 ⟨y,H8,I8,r8,hD8,hz,m',hm,w8⟩=>?_
    refine bt (mE (X:=bZ X N0 T scope C fp s H) _ s8 σ6 H8 (.ref D) [y] (.ref D) [v] (fun _ H9=>H9=upd H8 D (.lst (ys++[y]))) I8 rfl (.cons r8 .nil) ⟨D,ys,y,rfl,rfl,hD8,hz,rfl⟩) fun v9 s9 ⟨y9,H9,I9,_,e9⟩=>?_
    subst e9
    exact back I9 hm w8
 exact codeAny_compStart_list (loop _ rfl) (Tn.self X.A 0 _ _ _ st1 (loop _ rfl))
theorem fJ(S:gU X N0 T scope)(hc:X.calm=true)(hI:PI X tg iter wi)
  (hg:∀ C fp s H,PG (bZ X N0 T scope C fp s H) tg g) (hfr:sQ g X.N.length) (hi:∀ C fp s H,PIfs (bZ X N0 T scope C fp s H) ifs tc) (he:∀ C fp s H,PE (bZ X N0 T scope C fp s H) elt te)
  (hs:∀ x,foldedSetIterable iter X.env x=pure x:=by intro _; rfl):PE X (.ListComp elt [⟨tg,iter,ifs,0⟩] scope pos) (uv wi g tc te T.length):=by
 intro pins s σ H Q I h
 rw[eval_ListComp]
 refine wpAny_comprehension_free (use:=none) rfl hs (iO fun x hx hk=>I.ok.has x.1 (S.free x hx hk)) S.kind S.names (bt (hI pins s σ H _ I h) fun v s1 h1=>bt h1 fun itv s2 h2=>?_)
 obtain⟨it,fp,tn,J,H2,e,I2,Tn,st2,f2,q2⟩:=h2
 subst e
 refine nr (RR:=fun acc C=>compPost (model X.prog X.w) X.A X.xe none (EP X pins σ Q) acc C) S hc hg hfr hi he I2 Tn st2 f2 q2 ?_
 intro D C s' H' m hn hC hL hcells hpins hfresh I' hI' q
 exact⟨m,hn,fun h' hs'=>⟨.ref D,H',hI' h' hs',rfl,q⟩⟩
theorem uT{i:Nat}{x:Str}{pos' spos:Pos}(S:gU X N0 T scope)(hc:X.calm=true)(hN:X.N.Nodup)(hi':X.N[i]? = some x)(hx:X.env.scope.names.lookup x=some .local)(hI:PI X tg iter wi)
  (hg:∀ C fp s H,PG (bZ X N0 T scope C fp s H) tg g) (hfr:sQ g X.N.length) (hi:∀ C fp s H,PIfs (bZ X N0 T scope C fp s H) ifs tc) (he:∀ C fp s H,PE (bZ X N0 T scope C fp s H) elt te)
  (hsw:swapsWith (.ListComp elt [⟨tg,iter,ifs,0⟩] scope pos) (some (.Name x pos')) spos.line X.env=pure true:=by rfl)
  (hs:∀ x,foldedSetIterable iter X.env x=pure x:=by intro _; rfl):PS X (.Assign [.Name x pos'] (.ListComp elt [⟨tg,iter,ifs,0⟩] scope pos) spos) (pK (uv wi g tc te T.length) (gZ i)):=by
 intro pins s σ H D I h
 rw[exec_Assign_Name_used _ _ _ _ hsw]
 refine wpAny_bind (wpAny_standAt (wpAny_bind ?_))
 show wpAny _ X.A (do let _ ← comprehension (.ListComp elt [⟨tg,iter,ifs,0⟩] scope pos) scope X.env _ (newList []) false (eval iter X.env) (some (assign (.Name x pos') X.env))) _ _ s
 refine wpAny_bind (wpAny_mono (wpAny_comprehension_free (use:=some (assign (.Name x pos') X.env)) (Q:=fun _ s'=>SP X pins D .next s') rfl hs (iO fun x hx hk=>I.ok.has x.1 (S.free x hx hk)) S.kind S.names
  (bt (hI pins s σ H _ I h) fun v s1 h1=>bt h1 fun itv s2 h2=>?_)) (fun _ s' hq=>wpAny_pure (wpAny_pure hq)) fun _ _ e=>e)
 obtain⟨it,fp,tn,J,H2,e,I2,Tn,st2,f2,q2⟩:=h2
 subst e
 refine nr (RR:=fun acc C=>compPost (model X.prog X.w) X.A X.xe (some (assign (.Name x pos') X.env)) (fun _ s'=>SP X pins D .next s') acc C) S hc hg hfr hi he I2 Tn st2 f2 q2 ?_
 intro L C s' H' m hn hC hL hcells hpins hfresh I' hI' q
 show wpAny _ X.A (assign (.Name x pos') X.env (.ref L)) _ _ _
 refine wpAny_assign_Name (nj (v:=.ref L) I' hN hi' (.inl hx) rfl (fun s'' I'' ⟨a,hsa,ha⟩=>?_) (.inr hx))
 have hCa:C≠a:=by
  rintro rfl
  rcases ha with z | z
  ·exact hL z
  ·exact hcells x C z rfl
 refine⟨m,hn.sameBut hsa hCa,fun h' hs'=>?_⟩
 exact⟨σ.set i (some (.ref L)),H',I''.turned (t':=s''.toks) (fun b o hb e=>(hs'.2 b hb).trans e) hC hL (.inr hfresh) hcells hpins,q⟩
end
end L2
namespace L2
open PySem PySem.Spec PyProof.Rows
theorem Vals.of:∀ {xs:List V} {us:List Value} {i:Nat} {u:Value},Vals xs us→us[i]? = some u→∃ x,xs[i]? = some x∧RelV x u
 | _,_,0,u,.cons r _,e=>⟨_,rfl,by simp at e; subst e; exact r⟩
 | _,_,i+1,u,.cons _ rr,e=>by
  obtain⟨x,hx,r⟩:=Vals.of (i:=i) rr (by simpa using e)
  exact⟨x,by simpa using hx,r⟩
theorem jq:∀ {ss:List Str} {us:List Value},Vals (ss.map V.str) us→StrsAre us ss
 | [],_,.nil=>.nil
 | s::ss,_,.cons r rr=>by
  obtain⟨t,rfl⟩:=r
  exact .cons s t (jq rr)
section
variable{X:Cx}
def cU(H:Hp):V→Option String
 | .non=>some "NoneType"
 | .bl _=>some "bool"
 | .int _=>some "int"
 | .str _=>some "str"
 | .ref a=>match H a with
  | some (.lst _)=>some "list"
  | some (.frz _ (.lst _))=>some "list"
  | some (.tup _)=>some "tuple"
  | some (.dK _)=>some "dict"
  | some (.dT _)=>some "dict"
  | _=>none
 | _=>none
theorem vG{K:PySem.W.Frag}{H:Hp}:∀ {x:V} {T:String},cU H x=some T→fK K H x (.type T)
 | .non,T,h=>by cases h; exact .non
 | .bl b,T,h=>by cases h; exact .bl b
 | .int i,T,h=>by cases h; exact .int i
 | .str y,T,h=>by cases h; exact .str y
 | .byt _,T,h=>by cases h
 | .flt _,T,h=>by cases h
 | .ty _,T,h=>by cases h
 | .ref a,T,h=>by
  cases e:H a with
  | none=>simp[cU,e]at h
  | some o=>
   cases o with
   | lst xs=>simp[cU,e]at h; subst h; exact .lst e
   | tup xs=>simp[cU,e]at h; subst h; exact .tup e
   | dK xs=>simp[cU,e]at h; subst h; exact .dK e
   | dT xs=>simp[cU,e]at h; subst h; exact .dT e
   | frz ob u=>
    cases u with
    | lst xs=>simp[cU,e]at h; subst h; exact .frz e
    | _=>simp[cU,e]at h
   | _=>simp[cU,e]at h
def zf(T C:String):Bool:=T == C||(T == "bool" && C == "int")
theorem yj(K:PySem.W.Frag){T C:String}(hT:T∈["NoneType", "bool", "int", "str", "list", "tuple", "dict"]) (hC:C∈["bool", "int", "str", "list", "tuple"]):PySem.W.kitOne K (.type T) (.type C)=some (zf T C):=by
 simp only[List.mem_cons,List.mem_nil_iff,or_false]at hT hC
 rcases hT with rfl | rfl | rfl | rfl | rfl | rfl | rfl <;> rcases hC with rfl | rfl | rfl | rfl | rfl <;> (with_unfolding_all rfl)
theorem uB{H:Hp}{x:V}{T:String}(h:cU H x=some T):T∈["NoneType", "bool", "int", "str", "list", "tuple", "dict"]:=by
 cases x with
 | ref a=>
  cases e:H a with
  | none=>simp[cU,e]at h
  | some o=>
   cases o with
   | frz ob u=>cases u <;> simp[cU,e]at h <;> subst h <;> decide
   | _=>simp[cU,e]at h <;> subst h <;> decide
 | _=>first | (cases h; decide) | cases h
def Bj:List V→Hp→VK→Prop:=fun xs H Q=>∃ (x:V) (T C:String),xs=[x,.ty C]∧cU H x=some T∧C∈["bool", "int", "str", "list", "tuple"]∧Q (.bl (zf T C)) H
theorem rg{H:Hp}{Q:VK}(x:V)(C:String):Bj [x,.ty C] H Q=∃ T,cU H x=some T∧C∈["bool", "int", "str", "list", "tuple"]∧Q (.bl (zf T C)) H:=
 propext ⟨fun ⟨_,T,_,e,q⟩=>by cases e; exact⟨T,q⟩,fun ⟨T,q⟩=>⟨x,T,C,rfl,q⟩⟩
theorem eZ:CallR X (.builtin "isinstance") Bj:=by
 intro pins s σ H xs us Q I r h
 obtain⟨x,T,C,rfl,hT,hC,q⟩:=h
 obtain⟨u,w',rfl,ru,rw'⟩:=kJ r
 cases rw'
 exact uX I ru (vG hT) (yj X.K (uB hT) hC) fun tk=>⟨.bl (zf T C),H,I.tok tk,rfl,q⟩
def uM(K:PySem.W.Frag):V→List V→Hp→VK→Prop:=fun x vs H Q=>∃ (sep:Str) (p:Addr) (ss:List Str),x = .str sep∧vs=[.ref p]∧SqL K H p (ss.map V.str)∧(ss.map (·.length)).sum+ss.length * sep.length≤16777216∧Q (.str (Txt.join sep ss)) H
theorem zU:MtR X "str.join" (uM X.K):=by
 intro pins s σ H x xs v us Q I rx r h
 obtain⟨sep,p,ss,rfl,rfl,hq,hz,q⟩:=h
 obtain⟨t,rfl⟩:=rx
 obtain⟨u,rfl,ru⟩:=dm r
 cases ru
 obtain⟨its,rv,pl,_⟩:=I.list hq
 exact join_list pl.isList (by simpa using jq rv) hz fun t' k=>⟨.str (Txt.join sep ss),H,I.tok k,⟨t',rfl⟩,q⟩
end
def iE(J:It)(g:TG)(tb:TS)(D:dF)(σ : St)(H:Hp):Prop:=∃ W:Nat→Nat→St→Hp→Prop,(∃ m,W 0 m σ H)∧∀ i m σ H,W i m σ H→
 (J.stop i H∧D.nx σ H)∨(J.go i H∧∃ N:St→Hp→Prop,(∀ σ' H',N σ' H'→∃ m',m'<m∧W (i+1) m' σ' H')∧∀ x H',J.yld i H x H'→g x σ H' fun σ2 H2=>tb { D with nx:=N,ct:=N,bk:=D.nx } σ2 H2)
theorem sF(wi:TI)(g:TG)(tb:TS)(D:dF)(σ : St)(H:Hp):BY wi g tb D σ H=wi σ H fun J H1=>iE J g tb D σ H1:=rfl
theorem hV{J:It}{g:TG}{tb:TS}{D:dF}{σ : St}{H:Hp}(n:Nat)(Pv:Nat→St→Hp→Prop)(h0:Pv 0 σ H)(hgo:∀ i σ H,i<n→Pv i σ H→J.go i H)(hst:∀ σ H,Pv n σ H→J.stop n H)
  (hs:∀ i σ H x H',i<n→Pv i σ H→J.yld i H x H'→g x σ H' fun σ2 H2=>tb { D with nx:=Pv (i+1),ct:=Pv (i+1),bk:=D.nx } σ2 H2) (hd:∀ σ H,Pv n σ H→D.nx σ H):iE J g tb D σ H:=by
 refine⟨fun i m σ H=>m=n - i∧i≤n∧Pv i σ H,⟨n,by simp,Nat.zero_le _,h0⟩,?_⟩
 rintro i m σ H ⟨rfl,hi,p⟩
 by_cases hlt:i<n
 ·exact .inr ⟨hgo i σ H hlt p,Pv (i+1),fun σ' H' p'=>⟨n - (i+1),by omega,rfl,hlt,p'⟩,fun x H' y=>hs i σ H x H' hlt p y⟩
 ·have e:i=n:=by omega
  subst e
  exact .inl ⟨hst σ H p,hd σ H p⟩
theorem dn{K:PySem.W.Frag}{a:Addr}{xs:List V}{g:TG}{tb:TS}{D:dF}{σ : St}{H:Hp}(Pv:Nat→St→Hp→Prop)(h0:Pv 0 σ H)(hl:∀ i σ H,i≤xs.length→Pv i σ H→SqL K H a xs)
  (hs:∀ i x σ H,xs[i]? = some x→Pv i σ H→g x σ H fun σ2 H2=>tb { D with nx:=Pv (i+1),ct:=Pv (i+1),bk:=D.nx } σ2 H2) (hd:∀ σ H,Pv xs.length σ H→D.nx σ H):iE (ly K a) g tb D σ H:=
 yb Pv h0 hl hs hd
theorem k_{lo:Int}{n:Nat}{g:TG}{tb:TS}{D:dF}{σ : St}{H:Hp}(Pv:Nat→St→Hp→Prop)(h0:Pv 0 σ H)
  (hs:∀ i σ H,i<n→Pv i σ H→g (.int (lo+i)) σ H fun σ2 H2=>tb { D with nx:=Pv (i+1),ct:=Pv (i+1),bk:=D.nx } σ2 H2) (hd:∀ σ H,Pv n σ H→D.nx σ H):iE (jN lo n) g tb D σ H:=
 vq Pv h0 hs hd
def iz(n i:Nat)(Pv:Nat→List V→Hp→Prop)(D:Addr)(ys:List V)(y:V)(H:Hp):Prop:=
 H D=some (.lst ys)∧ys.length<sizeLine∧∃ m',m'<n - i∧(m'=n - (i+1)∧i+1≤n∧Pv (i+1) (ys++[y]) (upd H D (.lst (ys++[y]))))
theorem kH{n i:Nat}{Pv:Nat→List V→Hp→Prop}{D:Addr}{ys:List V}{y:V}{H:Hp}(hi:i<n)(hlen:ys.length=i)(hz:n≤sizeLine)(h1:H D=some (.lst ys))(h2:Pv (i+1) (ys++[y]) (upd H D (.lst (ys++[y])))):iz n i Pv D ys y H:=
 ⟨h1,by omega,n - (i+1),by omega,rfl,hi,h2⟩
def jB(n i:Nat)(Pv:Nat→List V→Hp→Prop)(D:Addr)(ys:List V)(te:TE)(σ : St)(H:Hp):Prop:=
 if true=true then te σ H (iz n i Pv D ys) else ∃ m',m'<n - i∧(m'=n - (i+1)∧i+1≤n∧Pv (i+1) ys H)
theorem oN{n i:Nat}{Pv:Nat→List V→Hp→Prop}{D:Addr}{ys:List V}{te:TE}{σ : St}{H:Hp}:jB n i Pv D ys te σ H=te σ H (iz n i Pv D ys):=by
 unfold jB; rw[if_pos rfl]
theorem kh{J:It}{g:TG}{te:TE}{nT:Nat}{σ : St}{D:Addr}{Q:VK}{H:Hp}(n:Nat)(Pv:Nat→List V→Hp→Prop)(h0:Pv 0 [] H)(hgo:∀ i ys H,i<n→Pv i ys H→J.go i H)(hst:∀ ys H,Pv n ys H→J.stop n H)
  (hs:∀ i ys H x H',i<n→Pv i ys H→J.yld i H x H'→g x (σ++List.replicate nT none) H' (jB n i Pv D ys te))
  (hd:∀ ys H,Pv n ys H→Q (.ref D) H):fz J g lL te nT σ D Q H:=by
 refine⟨fun i m ys H=>m=n - i∧i≤n∧Pv i ys H,⟨n,by simp,Nat.zero_le _,h0⟩,?_⟩
 rintro i m ys H ⟨rfl,hi,p⟩
 by_cases hlt:i<n
 ·exact .inr ⟨hgo i ys H hlt p,fun x H' y=>hs i ys H x H' hlt p y⟩
 ·have e:i=n:=by omega
  subst e
  exact .inl ⟨hst ys H p,hd ys H p⟩
theorem uw{K:PySem.W.Frag}{a:Addr}{xs:List V}{g:TG}{te:TE}{nT:Nat}{σ : St}{D:Addr}{Q:VK}{H:Hp}(Pv:Nat→List V→Hp→Prop)(h0:Pv 0 [] H)(hl:∀ i ys H,i≤xs.length→Pv i ys H→SqL K H a xs)
  (hs:∀ i ys H x,xs[i]? = some x→i<xs.length→Pv i ys H→g x (σ++List.replicate nT none) H (jB xs.length i Pv D ys te))
  (hd:∀ ys H,Pv xs.length ys H→Q (.ref D) H):fz (ly K a) g lL te nT σ D Q H:=by
 refine kh xs.length Pv h0 (fun i ys H hi p=>⟨xs,xs[i],hl i ys H (Nat.le_of_lt hi) p,by simp[hi]⟩) (fun ys H p=>⟨xs,hl _ ys H (Nat.le_refl _) p,Nat.le_refl _⟩) (fun i ys H x H' hi p yl=>?_) hd
 obtain⟨rfl,y⟩:=yl
 exact hs i ys _ x (y xs (hl i ys _ (Nat.le_of_lt hi) p)) hi p
theorem jS{lo:Int}{n:Nat}{g:TG}{te:TE}{nT:Nat}{σ : St}{D:Addr}{Q:VK}{H:Hp}(Pv:Nat→List V→Hp→Prop)(h0:Pv 0 [] H)
  (hs:∀ i ys H,i<n→Pv i ys H→g (.int (lo+i)) (σ++List.replicate nT none) H (jB n i Pv D ys te))
  (hd:∀ ys H,Pv n ys H→Q (.ref D) H):fz (jN lo n) g lL te nT σ D Q H:=by
 refine kh n Pv h0 (fun i ys H hi p=>hi) (fun ys H p=>Nat.le_refl _) (fun i ys H x H' hi p yl=>?_) hd
 obtain⟨rfl,rfl⟩:=yl
 exact hs i ys _ hi p
end L2
namespace L2
open PySem PySem.Spec PyProof.Rows
def Bh(u:TS)(D:dF)(σ : St)(H:Hp):Prop:=u D σ H
section
variable{D:dF}{σ : St}{H:Hp}{Q:VK}{B:Bool→Hp→Prop}{L:List V→Hp→Prop}{R:It→Hp→Prop}{G:St→Hp→Prop}
theorem sf(t u:TS):Cp t u D σ H=t { D with nx:=Bh u D } σ H:=rfl
theorem lM(u:TS):Bh u D σ H=u D σ H:=rfl
theorem oE:yX D σ H=D.nx σ H:=rfl
theorem sO(c:TT)(t u:TS):Ai c t u D σ H=c σ H fun b H1=>if b=true then t D σ H1 else u D σ H1:=rfl
theorem rW(t:TE):BW t D σ H=t σ H D.rt:=rfl
theorem qu(t:TE):za t D σ H=t σ H fun _ H1=>D.nx σ H1:=rfl
theorem rP(t:TE)(g:TG):pK t g D σ H=t σ H fun x H1=>g x σ H1 D.nx:=rfl
theorem oX(i:Nat)(v:V):gZ i v σ H G=G (σ.set i (some v)) H:=rfl
theorem qW(vs:List V):uc vs σ H G=(vs=[]∧G σ H):=rfl
theorem qC(t:TG)(u:gr)(vs:List V):nW t u vs σ H G=∃ v r,vs=v::r∧t v σ H fun σ' H'=>u r σ' H' G:=rfl
theorem q8(K:PySem.W.Frag)(n:Nat)(t:gr)(v:V):uG K n t v σ H G=∃ a xs,v = .ref a∧SqT K H a xs∧xs.length=n∧t xs σ H G:=rfl
theorem s_(to ti:TE)(t:oY)(v:V):Au to ti t v σ H G=to σ H fun o H1=>ti σ H1 fun i H2=>t o i v H2 fun H3=>G σ H3:=rfl
theorem sH(i:Nat):xx i σ H Q=∃ v,σ[i]? = some (some v)∧Q v H:=rfl
theorem yH(v:V):tC v σ H Q=Q v H:=rfl
theorem wB(r:R2)(ta tb:TE):vO r ta tb σ H Q=ta σ H fun x H1=>tb σ H1 fun y H2=>r x y H2 Q:=rfl
theorem wF(r:V→Hp→VK→Prop)(ta:TE):De r ta σ H Q=ta σ H fun x H1=>r x H1 Q:=rfl
theorem ol(t:TE):tm t σ H B=t σ H fun x H'=>∃ k,x = .bl k∧B k H':=rfl
theorem y8(t:TE):tB t σ H B=t σ H fun x H'=>∃ k,x = .bl k∧B k H':=rfl
theorem s0(t u:TT):AO t u σ H B=t σ H fun c H1=>if c=true then u σ H1 B else B false H1:=rfl
theorem wk(t u:TT):C6 t u σ H B=t σ H fun c H1=>if c=true then B true H1 else u σ H1 B:=rfl
theorem rF(t:TT):AH t σ H B=t σ H fun c H1=>B (!c) H1:=rfl
theorem v8(t:TT)(ta tb:TE):Df t ta tb σ H Q=t σ H fun c H1=>if c=true then ta σ H1 Q else tb σ H1 Q:=rfl
theorem vU(r:List V→Hp→VK→Prop)(t:TA):vW r t σ H Q=t σ H fun vs H1=>r vs H1 Q:=rfl
theorem qv(ta:TE)(tr:TA):yM ta tr σ H L=ta σ H fun x H1=>tr σ H1 fun xs H2=>L (x::xs) H2:=rfl
theorem rR:AU σ H L=L [] H:=rfl
theorem qV(t:TA):Bq t σ H Q=t σ H fun xs H1=>xs.length≤sizeLine∧∀ p,H1 p=none→Q (.ref p) (upd H1 p (.tup xs)):=rfl
theorem rZ(t:TA):Cc t σ H Q=t σ H fun xs H1=>xs.length≤sizeLine∧∀ p,H1 p=none→Q (.ref p) (upd H1 p (.lst xs)):=rfl
theorem qG(sp:Sp)(dvs:List V)(E:XK)(t:TA):uR sp dvs E t σ H Q=t σ H fun vs H1=>sp (vs++dvs) H1 Q E:=rfl
theorem wj(K:PySem.W.Frag)(T:String)(r:V→List V→Hp→VK→Prop)(to:TE)(t:TA):AY K T r to t σ H Q=to σ H fun x H1=>oO K T x H1∧t σ H1 fun xs H2=>r x xs H2 Q:=rfl
theorem sU(K:PySem.W.Frag)(T:String)(r:V→List V→Hp→VK→Prop)(to:TE):w_ K T r to σ H Q=to σ H fun x H1=>oO K T x H1∧r x [] H1 Q:=rfl
theorem mT(r r':R2)(ta tb tc:TE):wg r r' ta tb tc σ H Q=ta σ H fun x H1=>tb σ H1 fun y H2=>r x y H2 fun z H3=>∃ k,z = .bl k∧(if k=true then tc σ H3 fun w' H4=>r' y w' H4 Q else Q (.bl false) H3):=rfl
theorem uY(r:V→Option Int→Option Int→Hp→VK→Prop)(te:TE)(tl th:TO):Dc r te tl th σ H Q=te σ H fun x H1=>tl σ H1 fun l H2=>th σ H2 fun u H3=>r x l u H3 Q:=rfl
theorem qI(t:TE)(O:Option Int→Hp→Prop):yD t σ H O=t σ H fun x H1=>∃ i,x = .int i∧O (some i) H1:=rfl
theorem lu(O:Option Int→Hp→Prop):rC σ H O=O none H:=rfl
theorem n8(wi:TI)(g:TG)(tc:TT)(te:TE)(nT:Nat):uv wi g tc te nT σ H Q=wi σ H fun J H1=>∀ D,H1 D=none→fz J g tc te nT σ D Q (upd H1 D (.lst [])):=rfl
theorem sy:lL σ H B=B true H:=rfl
theorem qm(K:PySem.W.Frag)(tl:TE):tU K tl σ H R=tl σ H fun x H1=>∃ a,x = .ref a∧(∃ xs,SqL K H1 a xs)∧R (ly K a) H1:=rfl
theorem pW(ta:TA):yR ta σ H R=ta σ H fun vs H1=>∃ j:Int,vs=[.int j]∧-(2 ^ 62)≤j∧j<2 ^ 62∧R (jN 0 j.toNat) H1:=rfl
theorem wx(g:Int→Int→V)(i j:Int):mP g (.int i) (.int j) H Q=Q (g i j) H:=propext ⟨fun ⟨_,_,e1,e2,q⟩=>by cases e1; cases e2; exact q,fun q=>⟨i,j,rfl,rfl,q⟩⟩
theorem yW(C:Int→Int→Prop)(g:Int→Int→V)(i j:Int):rI C g (.int i) (.int j) H Q=(C i j∧Q (g i j) H):=propext ⟨fun ⟨_,_,e1,e2,q⟩=>by cases e1; cases e2; exact q,fun q=>⟨i,j,rfl,rfl,q⟩⟩
end
structure DefAt (K:PySem.W.Frag) (mg:Str→Option Value) (x:Str) (st:Stmt):Prop where
 ex:∃ f fd,Fun K x x st f fd∧mg x=some (.ref f)
structure bg (P:Program) (w:World) (K:PySem.W.Frag) (mg:Str→Option Value) (base:Heap) (k:Nat) (x:Str) (ps:List Str) (sp:Sp):Prop where
 ex:∃ f fd,FnOk P w K mg base jh k f fd ps sp∧Binds K fd ps []∧PySem.W.keepIn K (.ref f)=true∧mg x=some (.ref f)
section
variable{P:Program}{w:World}{K:PySem.W.Frag}{mg:Str→Option Value}{base:Heap}
theorem DefAt.cal{x:Str}{st:Stmt}{N ps:List Str}{k:Nat}{sp:Sp}(D:DefAt K mg x st)(S:aT N ps (defScope st))
  (hb:∀ (kV doc pm:Value) (an:Option Addr) (cdv ct:Value) (us:List Value),us.length=ps.length→bindArgs (PySem.W.fnOf x x (defArgs st) (defBody st) (defScope st) .none kV doc pm an cdv ct) ⟨us,[]⟩=pure (ps.zip us))
  (len:∀ vs H Q E,sp vs H Q E→vs.length=ps.length)
  (hbody:∀ (f:Addr) (cdv:Value) (A:Around) (outer:List Env) (s:Shared) (H:Hp) (vs:List V) (Q:VK) (E:XK),Room k (A.deeper (envOfC x (defScope st) s.heap.objs.size f cdv))→sp vs H Q E→
   ∃ t,PSs (jp jh P w K mg base N x (defScope st) f cdv A outer s H E).nox (defBody st) t∧t { nx:=fun _ H'=>Q .non H',rt:=Q } (start N vs) H):bg P w K mg base (k+1) x ps sp:=by
 obtain⟨f,fd,F,m⟩:=D.ex
 exact⟨f,fd,F.ok S len fun cdv A outer s H vs Q E hr h=>hbody f cdv A outer s H vs Q E hr h,F.binds hb,F.kp,m⟩
end
section
variable{X:Cx}
theorem aJ{j k:Nat}{x:Str}{ps:List Str}{sp:Sp}{p pos:Pos}{e:Expr}{es:List Expr}{t:TA}(c:bg X.prog X.w X.K X.mg X.base j x ps sp)(hr:Room k X.A)(ha:PA X (e::es) t)(hle:j≤k:=by decide)(hg:Gl X x:=by rfl)
  (hdb:(x == ("__debug__" : Str))=false:=by decide) (he:starEach (e::es) X.env=(false,eval e X.env)::starEach es X.env:=by rfl) (hpl:(backTo pos (starEach es X.env)).any (·.1)=false:=by rfl) :
  PE X (.Call (.Name x p) (e::es) [] pos) (uR sp [] E0 t):=by
 obtain⟨f,fd,F,b,kp,m⟩:=c.ex
 exact zE F (hr.mono hle) hg m kp b .nil yI ha hdb he hpl
theorem gD{x:Str}{T:String}{pos:Pos}(hm:X.mg x=none)(hv:bootBuiltins x=some (.type T))(hg:Gl X x:=by rfl)(hn:x ≠ "__name__" := by decide) (hd:(x == ("__debug__" : Str))=false:=by decide):PE X (.Name x pos) (tC (.ty T)):=
 Ad hg hm hv rfl hn hd
theorem aY{x:Str}{p pos:Pos}{e:Expr}{es:List Expr}{t:TA}{id:String}{r:List V→Hp→VK→Prop}(hc:CallR X (.builtin id) r)(hm:X.mg x=none)(hv:bootBuiltins x=some (.builtin id))(ha:PA X (e::es) t)(hg:Gl X x:=by rfl)
  (hn:x ≠ "__name__" := by decide) (hdb:(x == ("__debug__" : Str))=false:=by decide) (he:starEach (e::es) X.env=(false,eval e X.env)::starEach es X.env:=by rfl) (hpl:(backTo pos (starEach es X.env)).any (·.1)=false:=by rfl) :
  PE X (.Call (.Name x p) (e::es) [] pos) (vW r t):=xw hc hg hm hv ha hn hdb he hpl
theorem ef{x:Str}{p pos:Pos}{e:Expr}{es:List Expr}{t:TA}{T:String}{r:List V→Hp→VK→Prop}(hc:CallR X (.type T) r)(hm:X.mg x=none)(hv:bootBuiltins x=some (.type T))(ha:PA X (e::es) t)(hg:Gl X x:=by rfl)
  (hn:x ≠ "__name__" := by decide) (hdb:(x == ("__debug__" : Str))=false:=by decide) (he:starEach (e::es) X.env=(false,eval e X.env)::starEach es X.env:=by rfl) (hpl:(backTo pos (starEach es X.env)).any (·.1)=false:=by rfl) :
  PE X (.Call (.Name x p) (e::es) [] pos) (vW r t):=vg hc hg hm hv ha hn hdb he hpl
end
section
variable{X:Cx}
def nS:R2:=fun x y H Q=>match x,y with
 | .int i,.int j=>Q (.int (i+j)) H
 | .str a,.str b=>a.length+b.length≤sizeLine∧Q (.str (a++b)) H
 | .ref l,.ref b=>∃ xs zs,H l=some (.lst xs)∧H b=some (.lst zs)∧xs.length+zs.length≤sizeLine∧∀ p,H p=none→Q (.ref p) (upd H p (.lst (xs++zs)))
 | _,_=>False
theorem aw:OpR X (binaryOp .Add) nS:=by
 intro pins s σ H x y v u Q I rx ry h
 cases x <;> cases y <;> first
  | exact(show False from h).elim
  | exact Ah pins s σ H _ _ v u Q I rx ry ⟨_,_,rfl,rfl,h⟩
  | exact ud pins s σ H _ _ v u Q I rx ry ⟨_,_,rfl,rfl,h⟩
  | (obtain⟨xs,zs,h1,h2,h3,h4⟩:=h; exact Bm pins s σ H _ _ v u Q I rx ry ⟨_,_,xs,zs,rfl,rfl,h1,h2,h3,h4⟩)
def xD:R2:=fun x y H Q=>match x,y with
 | .int i,.int j=>Q (.bl (decide (i<j))) H
 | .str i,.str j=>Q (.bl (decide (i.cps.toList<j.cps.toList))) H
 | _,_=>False
theorem hU:OpR X (compareOp .Lt) xD:=by
 intro pins s σ H x y v u Q I rx ry h
 cases x <;> cases y <;> first
  | exact(show False from h).elim
  | exact Cw pins s σ H _ _ v u Q I rx ry ⟨_,_,rfl,rfl,h⟩
  | exact vX pins s σ H _ _ v u Q I rx ry ⟨_,_,rfl,rfl,h⟩
def uI(K:PySem.W.Frag):R2:=fun x y H Q=>match x,y with
 | .str i,.str j=>Q (.bl (!(Builtin.Str.occurrences j i 0 j.length 1).isEmpty)) H
 | x,.ref p=>∃ xs,(SqL K H p xs∨SqT K H p xs)∧cz x=true∧xs.all cz=true∧Q (.bl (fX x xs)) H
 | _,_=>False
theorem As:OpR X (compareOp .In) (uI X.K):=by
 intro pins s σ H x y v u Q I rx ry h
 cases y with
 | str j=>
  cases x with
  | str i=>exact u3 pins s σ H _ _ v u Q I rx ry ⟨i,j,rfl,rfl,h⟩
  | _=>exact(show False from h).elim
 | ref p=>
  have h':∃ xs,(SqL X.K H p xs∨SqT X.K H p xs)∧cz x=true∧xs.all cz=true∧Q (.bl (fX x xs)) H:=by cases x <;> exact h
  obtain⟨xs,h1,h2,h3,h4⟩:=h'
  exact v2 pins s σ H _ _ v u Q I rx ry ⟨p,xs,rfl,h1,h2,h3,h4⟩
 | _=>cases x <;> exact(show False from h).elim
def nV(K:PySem.W.Frag):List V→Hp→VK→Prop:=fun xs H Q=>match xs with
 | [.str z]=>z.length≤sizeLine∧Q (.int z.length) H
 | [.ref p]=>∃ ys,(SqL K H p ys∨SqT K H p ys)∧Q (.int ys.length) H
 | _=>False
theorem vL:CallR X (.builtin "len") (nV X.K):=by
 intro pins s σ H xs us Q I r h
 match xs,h with
 | [.str z],h=>exact pz pins s σ H _ us Q I r ⟨z,rfl,h⟩
 | [.ref p],h=>obtain⟨ys,h1,h2⟩:=h; exact qD pins s σ H _ us Q I r ⟨p,ys,rfl,h1,h2⟩
def n9(K:PySem.W.Frag):R2:=fun x y H Q=>match x,y with
 | .ref p,.int i=>∃ xs v,(SqL K H p xs∨SqT K H p xs)∧di xs i=some v∧Q v H
 | .str z,.int i=>∃ c,z.length≤sizeLine∧di z.cps.toList i=some c∧Q (.str ⟨#[c]⟩) H
 | _,_=>False
theorem EX:IxR X (n9 X.K):=by
 intro value slice pins s σ H x y v u Q I rx ry h hs
 refine Av value slice pins s σ H x y v u Q I rx ry ?_ hs
 match x,y,h with
 | .ref p,.int i,h=>
  obtain⟨xs,v',h1,h2,h3⟩:=h
  rcases h1 with h1 | h1
  ·exact .inl ⟨p,xs,i,v',rfl,rfl,h1,h2,h3⟩
  ·exact .inr (.inl ⟨p,xs,i,v',rfl,rfl,h1,h2,h3⟩)
 | .str z,.int i,h=>
  obtain⟨c,h1,h2,h3⟩:=h
  exact .inr (.inr ⟨z,i,c,rfl,rfl,h1,h2,h3⟩)
end
section
variable{K:PySem.W.Frag}{H:Hp}{Q:VK}
theorem mU(i j:Int):nS (.int i) (.int j) H Q=Q (.int (i+j)) H:=rfl
theorem mK(a b:Str):nS (.str a) (.str b) H Q=(a.length+b.length≤sizeLine∧Q (.str (a++b)) H):=rfl
theorem gX(l b:Addr):nS (.ref l) (.ref b) H Q=∃ xs zs,H l=some (.lst xs)∧H b=some (.lst zs)∧xs.length+zs.length≤sizeLine∧∀ p,H p=none→Q (.ref p) (upd H p (.lst (xs++zs))):=rfl
theorem qb(i j:Int):xD (.int i) (.int j) H Q=Q (.bl (decide (i<j))) H:=rfl
theorem pd(i j:Str):xD (.str i) (.str j) H Q=Q (.bl (decide (i.cps.toList<j.cps.toList))) H:=rfl
theorem oV(i j:Str):uI K (.str i) (.str j) H Q=Q (.bl (!(Builtin.Str.occurrences j i 0 j.length 1).isEmpty)) H:=rfl
theorem oz(x:V)(p:Addr):uI K x (.ref p) H Q=∃ xs,(SqL K H p xs∨SqT K H p xs)∧cz x=true∧xs.all cz=true∧Q (.bl (fX x xs)) H:=by cases x <;> rfl
theorem ng(z:Str):nV K [.str z] H Q=(z.length≤sizeLine∧Q (.int z.length) H):=rfl
theorem mV(p:Addr):nV K [.ref p] H Q=∃ ys,(SqL K H p ys∨SqT K H p ys)∧Q (.int ys.length) H:=rfl
theorem oB(p:Addr)(i:Int):n9 K (.ref p) (.int i) H Q=∃ xs v,(SqL K H p xs∨SqT K H p xs)∧di xs i=some v∧Q v H:=rfl
theorem oW(z:Str)(i:Int):n9 K (.str z) (.int i) H Q=∃ c,z.length≤sizeLine∧di z.cps.toList i=some c∧Q (.str ⟨#[c]⟩) H:=rfl
theorem kU(p:Addr)(y:V):mo (.ref p) [y] H Q=∃ xs,H p=some (.lst xs)∧xs.length<sizeLine∧Q .non (upd H p (.lst (xs++[y]))):=
 propext ⟨fun ⟨_,xs,_,e1,e2,q⟩=>by cases e1; cases e2; exact⟨xs,q⟩,fun ⟨xs,q⟩=>⟨p,xs,y,rfl,rfl,q⟩⟩
theorem pS(sep:Str)(p:Addr):uM K (.str sep) [.ref p] H Q=∃ ss,SqL K H p (ss.map V.str)∧(ss.map (·.length)).sum+ss.length * sep.length≤16777216∧Q (.str (Txt.join sep ss)) H:=
 propext ⟨fun ⟨_,_,ss,e1,e2,q⟩=>by cases e1; cases e2; exact⟨ss,q⟩,fun ⟨ss,q⟩=>⟨sep,p,ss,rfl,rfl,q⟩⟩
theorem sg(y:Str):oO K "str" (.str y) H=True:=eq_true rfl
theorem rA(p:Addr):(oO K "list" (.ref p) H)=∃ xs,SqL K H p xs:=by
 refine propext ⟨fun h=>?_,fun h=>.inl ⟨rfl,h⟩⟩
 rcases h with ⟨_,h⟩ | ⟨h,_⟩ | ⟨h,_⟩ | ⟨h,_⟩
 ·exact h
 ·exact absurd h (by decide)
 ·exact absurd h (by decide)
 ·exact absurd h (by decide)
end
theorem bw:bootBuiltins "len" = some (.builtin "len"):=by decide +kernel
theorem cX:bootBuiltins "isinstance" = some (.builtin "isinstance"):=by decide +kernel
theorem h9:bootBuiltins "str" = some (.type "str"):=by decide +kernel
theorem ip:bootBuiltins "int" = some (.type "int"):=by decide +kernel
theorem Ac:bootBuiltins "bool" = some (.type "bool"):=by decide +kernel
theorem rN:bootBuiltins "list" = some (.type "list"):=by decide +kernel
theorem j6:bootBuiltins "tuple" = some (.type "tuple"):=by decide +kernel
theorem ar{X:Cx}(i:Nat){x:Str}{e:Expr}{te:TE}{pos pos':Pos}(hN:X.N.Nodup)(he:PE X e te)(hi:X.N[i]? = some x:=by rfl)(hx:aE X.env.scope x:=by first | exact Or.inl rfl | exact Or.inr rfl)(hs:swapsWith e (some (.Name x pos')) pos.line X.env=pure false:=by rfl)
  (hf:X.fn x=true∨X.env.scope.names.lookup x=some .local:=by first | exact .inl rfl | exact .inr rfl | assumption):PS X (.Assign [.Name x pos'] e pos) (pK te (gZ i)):=BC hN hi hx he hs hf
theorem bj{X:Cx}(i:Nat){x:Str}{pos:Pos}(hN:X.N.Nodup)(hi:X.N[i]? = some x:=by rfl)(hx:aE X.env.scope x:=by first | exact Or.inl rfl | exact Or.inr rfl)
  (hf:X.fn x=true∨X.env.scope.names.lookup x=some .local:=by first | exact .inl rfl | exact .inr rfl | assumption):PG X (.Name x pos) (gZ i):=zq hN hi hx hf
structure CompSc (fsc:Scope) (N N0 T:List Str) (scope:Scope):Prop where
 kind:scope.kind = .function
 nocell:∀ y∈scope.names,y.2 ≠ .cell
 names:∀ y∈scope.names,y.2 = .local→scope.names.lookup y.1=some .local
 free:∀ y∈scope.names,y.2 = .free→fsc.names.lookup y.1=some .cell∨fsc.names.lookup y.1=some .free
 apart:∀ y∈scope.names,y.2 = .local→y.1∉N0
 len0:N0.length=N.length
 same:((N0.zip N).all fun p=>p.1 == p.2 || !(scope.names.any fun y=>y.1 == p.1))=true
theorem CompSc.to{X:Cx}{fsc:Scope}{N N0 T:List Str}{scope:Scope}(S:CompSc fsc N N0 T scope)(h1:X.env.scope=fsc)(h2:X.N=N):gU X N0 T scope:=by
 subst h1 h2
 refine⟨S.kind,S.nocell,S.names,S.free,S.apart,S.len0,fun i x k e m=>?_⟩
 have hl:=S.len0
 have hi:i<N0.length:=(List.getElem?_eq_some_iff.mp e).1
 have hN:X.N[i]? = some X.N[i]:=List.getElem?_eq_getElem (by omega)
 have hz:(x,X.N[i])∈N0.zip X.N:=List.mem_of_getElem? (i:=i) (by rw[List.getElem?_zip_eq_some]; exact⟨e,hN⟩)
 have q:=List.all_eq_true.mp S.same _ hz
 simp only[Bool.or_eq_true,beq_iff_eq,Bool.not_eq_true']at q
 rcases q with q | q
 ·rw[hN,← q]
 ·have:(scope.names.any fun y=>y.1 == x)=true:=List.any_eq_true.mpr ⟨_,m,by simp⟩
  rw[this]at q; cases q
def wI:R2:=C4
def uk:R2:=C8
theorem b8{X:Cx}:OpR X (compareOp .Eq) wI:=CA
theorem gw{X:Cx}:OpR X (compareOp .NotEq) uk:=CM
section
variable{K:PySem.W.Frag}{H:Hp}{Q:VK}
theorem pR(i j:Int):wI (.int i) (.int j) H Q=Q (.bl (decide (i=j))) H:=by
 have e:decide (V.int i=V.int j)=decide (i=j):=by by_cases h:i=j <;> simp[h]
 show (j7 (.int i) (.int j)=true∧Q (.bl (decide (V.int i=V.int j))) H)=_
 rw[e]; exact propext ⟨fun h=>h.2,fun h=>⟨rfl,h⟩⟩
theorem p0(i j:Str):wI (.str i) (.str j) H Q=Q (.bl (decide (i=j))) H:=by
 have e:decide (V.str i=V.str j)=decide (i=j):=by by_cases h:i=j <;> simp[h]
 show (j7 (.str i) (.str j)=true∧Q (.bl (decide (V.str i=V.str j))) H)=_
 rw[e]; exact propext ⟨fun h=>h.2,fun h=>⟨rfl,h⟩⟩
theorem oQ(i j:Int):uk (.int i) (.int j) H Q=Q (.bl (!decide (i=j))) H:=by
 have e:decide (V.int i=V.int j)=decide (i=j):=by by_cases h:i=j <;> simp[h]
 show (j7 (.int i) (.int j)=true∧Q (.bl (!decide (V.int i=V.int j))) H)=_
 rw[e]; exact propext ⟨fun h=>h.2,fun h=>⟨rfl,h⟩⟩
theorem pj(i j:Str):uk (.str i) (.str j) H Q=Q (.bl (!decide (i=j))) H:=by
 have e:decide (V.str i=V.str j)=decide (i=j):=by by_cases h:i=j <;> simp[h]
 show (j7 (.str i) (.str j)=true∧Q (.bl (!decide (V.str i=V.str j))) H)=_
 rw[e]; exact propext ⟨fun h=>h.2,fun h=>⟨rfl,h⟩⟩
end
section
variable{X:Cx}(K:PySem.W.Frag)
theorem jo(hK:X.K=K:=by rfl):OpR X (compareOp .In) (uI K):=hK ▸ As
theorem aK(hK:X.K=K:=by rfl):CallR X (.builtin "len") (nV K):=hK ▸ vL
theorem aW(hK:X.K=K:=by rfl):IxR X (n9 K):=hK ▸ EX
theorem oG(hK:X.K=K:=by rfl):MtR X "str.join" (uM K):=hK ▸ zU
theorem gM(hK:X.K=K:=by rfl):SlR X (xN K):=hK ▸ zO
theorem dz{tg l:Expr}{tl:TE}(hl:PE X l tl)(hK:X.K=K:=by rfl):PI X tg l (tU K tl):=hK ▸ zy hl
theorem dR{es:List Expr}{k n:Nat}{t:gr}{pos:Pos}(h:PGs X es t)(hn:(assignEach es X.env).length=n:=by rfl)(hst:(assignEach es X.env).findIdx? (·.1)=none:=by rfl)(hK:X.K=K:=by rfl)(hc:X.calm=true:=by rfl):PG X (.Tuple es k pos) (uG K n t):=hK ▸ AD hc h hn hst
theorem aI{o e:Expr}{es:List Expr}{to:TE}{t:TA}{name:Str}{apos cpos:Pos}{T id:String}{r:V→List V→Hp→VK→Prop}(pa:PlainAttrs T)(slot:Slot T name id)(hty:typeOf (.builtin id)=pure (.type "method_descriptor")) (hm:MtR X id r) (ho:PE X o to) (ha:PA X (e::es) t)
  (hbase:attributeBase o name X.env (eval o X.env)=eval o X.env:=by rfl)
  (hfew:((backTo cpos (starEach (e::es) X.env)).all (fun x=>!x.1)&&(backToKw cpos (keywordEach [] X.env)).all (fun x=>x.1.isSome)&&decide ((e::es).length+([]:List Keyword).length+(if ([]:List Keyword).isEmpty then 0 else 1)<30))=true:=by rfl)
  (hline:(apos.endLine == cpos.line)=true:=by rfl) (hs:starEach (e::es) X.env=(false,eval e X.env)::starEach es X.env:=by rfl) (hplain:(backTo cpos (starEach es X.env)).any (·.1)=false:=by rfl) (hK:X.K=K:=by rfl) :
  PE X (.Call (.Attribute o name apos) (e::es) [] cpos) (AY K T r to t):=hK ▸ Cv pa slot hty hm ho ha hbase hfew hline hs hplain
theorem qQ(hK:X.K=K:=by rfl):CallR X (.type "tuple") (fun xs H Q=>∃ p ys,xs=[.ref p]∧((SqL K H p ys∧∀ l,H l=none→Q (.ref l) (upd H l (.tup ys)))∨(SqT K H p ys∧Q (.ref p) H))):=hK ▸ nH
end
theorem vF(n:Int)(P:Int→Prop):(∃ j,[V.int n]=[V.int j]∧P j)=P n:=propext ⟨fun ⟨_,e,h⟩=>by cases e; exact h,fun h=>⟨n,rfl,h⟩⟩
theorem rD(x:V)(xs:List V)(P:V→List V→Prop):(∃ v r,x::xs=v::r∧P v r)=P x xs:=propext ⟨fun ⟨_,_,e,h⟩=>by cases e; exact h,fun h=>⟨x,xs,rfl,h⟩⟩
def fF(scope fsc:Scope):Scope:={ scope with names:=scope.names.map fun (n,k)=>if (k == .free&&fsc.kind == .function&&fsc.names.lookup n == some .cell) then (n,.cell) else (n,k) }
section
variable{X:Cx}{N0 T:List Str}{scope:Scope}{C:Addr}{fp:List Addr}{s:Shared}{H:Hp}{x:Str}
theorem C9(fsc:Scope)(h:(fF scope fsc).names.lookup x=some .globalImplicit)(e:X.env.scope=fsc:=by rfl):Gl (bZ X N0 T scope C fp s H) x:=by subst e; exact h
theorem de(fsc:Scope)(h:((fF scope fsc).names.lookup x=some .local||(fF scope fsc).names.lookup x=some .cell||(fF scope fsc).names.lookup x=some .free)=true)(e:X.env.scope=fsc:=by rfl):ap (bZ X N0 T scope C fp s H).env.scope x:=by
 subst e
 simp only[Bool.or_eq_true,decide_eq_true_eq]at h
 rcases h with (h | h) | h
 ·exact .inl h
 ·exact .inr (.inl h)
 ·exact .inr (.inr h)
theorem iA(fsc:Scope)(h:(fF scope fsc).names.lookup x=some .local)(e:X.env.scope=fsc:=by rfl):aE (bZ X N0 T scope C fp s H).env.scope x:=by subst e; exact .inl h
theorem lx(fsc:Scope)(h:(fF scope fsc).names.lookup x=some .local)(e:X.env.scope=fsc:=by rfl):(bZ X N0 T scope C fp s H).fn x=true∨(bZ X N0 T scope C fp s H).env.scope.names.lookup x=some .local:=by subst e; exact .inr h
end
theorem aL{X:Cx}:MtR X "list.append" mo:=mE
theorem PW.pt'{X:Cx}{e:Expr}{t:TT}(h:PW X e t):PT X e t:=h.pt
theorem kI{σ : St}{H:Hp}{Q:List (V × V)→Hp→Prop}:iX [] σ H Q=Q [] H:=rfl
theorem jK{σ : St}{H:Hp}{Q:List (V × V)→Hp→Prop}(tk tv:TE)(r:List (TE × TE)):iX ((tk,tv)::r) σ H Q=tk σ H fun x H1=>tv σ H1 fun y H2=>iX r σ H2 fun ps H3=>Q ((x,y)::ps) H3:=rfl
theorem Same.upd{H H':Hp}{p:Addr}(sm:Same H H')(h:H p=none)(o:HO):Same H (upd H' p o):=fun b u q=>by rw[ah (au q h)]; exact sm b u q
theorem af{H:Hp}{p:Addr}(h:H p=none)(o:HO):Same H (upd H p o):=fun b u q=>by rw[ah (au q h)]; exact q
end L2
namespace L2
open PySem PySem.Spec PyProof.Rows PySem.SeqAt
def EqN(K:PySem.W.Frag)(H:Hp):Nat→V→V→Bool→Prop
 | 0,x,y,b=>cz x=true∧cz y=true∧b=eG x y
 | n+1,x,y,b=>(cz x=true∧cz y=true∧b=eG x y)∨∃ a c xs ys,x = .ref a∧y = .ref c∧((SqL K H a xs∧SqL K H c ys)∨(SqT K H a xs∧SqT K H c ys))∧
   ((∃ e:Nat→Bool,xs.length=ys.length∧(∀ (i:Nat) x y,xs[i]? = some x→ys[i]? = some y→EqN K H n x y (e i))∧b=(List.range xs.length).all e)∨
    (SqL K H a xs∧SqL K H c ys∧xs.length≠ys.length∧b=false))
theorem j5:∀ {x:V},cz x=true→eG x x=true
 | .non,_=>rfl
 | .bl b,_=>by simp[eG]
 | .int i,_=>by simp[eG]
 | .str y,_=>by simp[eG]
section
variable{X:Cx}{pins:List (Addr × Obj)}{σ : St}{H:Hp}{s:Shared}
theorem EqN.self(I:Inv X pins σ H s):∀ {n:Nat} {x:V} {b:Bool},EqN X.K H n x x b→b=true
 | 0,x,b,h=>by obtain⟨h1,_,rfl⟩:=h; exact j5 h1
 | n+1,x,b,h=>by
  rcases h with ⟨h1,_,rfl⟩ | ⟨a,c,xs,ys,rfl,e,hq,h⟩
  ·exact j5 h1
  ·cases e
   have exy:xs=ys:=by
    rcases hq with ⟨q1,q2⟩ | ⟨q1,q2⟩
    ·exact I.list_inj q1 q2
    ·exact I.tuple_inj q1 q2
   subst exy
   rcases h with ⟨e,_,he,rfl⟩ | ⟨_,_,z,_⟩
   ·rw[List.all_eq_true]
    intro i hi
    have hi':=List.mem_range.mp hi
    have q:=he i xs[i] xs[i] (List.getElem?_eq_getElem hi') (List.getElem?_eq_getElem hi')
    exact EqN.self I q
   ·exact absurd rfl z
theorem EqN.rc(I:Inv X pins σ H s){n:Nat}(ih:∀ {A:Around} {x y:V} {b:Bool} {u v:Value},A.units+n<cLine→EqN X.K H n x y b→RelV x u→RelV y v→EqAt A s u v b)
  {A:Around} {a c:Addr} {xs ys:List V} {b:Bool} (hu:A.units+(n+1)<cLine) (hq:(SqL X.K H a xs∧SqL X.K H c ys)∨(SqT X.K H a xs∧SqT X.K H c ys))
  (h:(∃ e:Nat→Bool,xs.length=ys.length∧(∀ (i:Nat) x y,xs[i]? = some x→ys[i]? = some y→EqN X.K H n x y (e i))∧b=(List.range xs.length).all e)∨(SqL X.K H a xs∧SqL X.K H c ys∧xs.length≠ys.length∧b=false)) :
  RcAt A s (.ref a) (.ref c) b∧RcNeAt A s (.ref a) (.ref c) (!b):=by
 have hin:A.in1.units+n<cLine:=by
  have:A.in1.units=A.units+1:=rfl
  omega
 rcases h with ⟨e,hl,he,rfl⟩ | ⟨q1,q2,hl,rfl⟩
 ·rcases hq with ⟨q1,q2⟩ | ⟨q1,q2⟩
  ·obtain⟨i1,r1,p1,z1⟩:=I.list q1
   obtain⟨i2,r2,p2,z2⟩:=I.list q2
   have l1:=r1.length
   have l2:=r2.length
   have hit:∀ j (h1:j<i1.toArray.size) (h2:j<i2.toArray.size),EqAt A.in1 s i1.toArray[j] i2.toArray[j] (e j):=fun j h1 h2=>by
    obtain⟨x,hx,rx⟩:=r1.of (i:=j) (u:=i1.toArray[j]) (by simp at h1 ⊢)
    obtain⟨y,hy,ry⟩:=r2.of (i:=j) (u:=i2.toArray[j]) (by simp at h2 ⊢)
    exact ih hin (he j x y hx hy) rx ry
   have ez:xs.length=i1.toArray.size:=by simp; omega
   rw[ez]
   exact⟨RcAt.lists p1.isList p2.isList (by simp; omega) (by omega) hit,RcNeAt.lists p1.isList p2.isList (by simp; omega) (by omega) hit⟩
  ·obtain⟨i1,r1,p1,z1⟩:=I.tuple q1
   obtain⟨i2,r2,p2,z2⟩:=I.tuple q2
   have l1:=r1.length
   have l2:=r2.length
   have hit:∀ j (h1:j<i1.toArray.size) (h2:j<i2.toArray.size),EqAt A.in1 s i1.toArray[j] i2.toArray[j] (e j):=fun j h1 h2=>by
    obtain⟨x,hx,rx⟩:=r1.of (i:=j) (u:=i1.toArray[j]) (by simp at h1 ⊢)
    obtain⟨y,hy,ry⟩:=r2.of (i:=j) (u:=i2.toArray[j]) (by simp at h2 ⊢)
    exact ih hin (he j x y hx hy) rx ry
   have ez:(List.range xs.length).all e=((List.range (min i1.toArray.size i2.toArray.size)).all e&&i1.toArray.size == i2.toArray.size):=by
    have e1:i1.toArray.size=xs.length:=by simp; omega
    have e2:i2.toArray.size=xs.length:=by simp; omega
    rw[e1,e2,Nat.min_self]; simp
   rw[ez]
   exact⟨RcAt.tuples (show s.heap.IsTuple a i1.toArray from p1) (show s.heap.IsTuple c i2.toArray from p2) (by omega) hit,RcNeAt.tuples (show s.heap.IsTuple a i1.toArray from p1) (show s.heap.IsTuple c i2.toArray from p2) (by omega) hit⟩
 ·obtain⟨i1,r1,p1,z1⟩:=I.list q1
  obtain⟨i2,r2,p2,z2⟩:=I.list q2
  have l1:=r1.length
  have l2:=r2.length
  have hne:(i1.toArray.size != i2.toArray.size)=true:=by
   rw[bne_iff_ne]; simp; omega
  exact⟨RcAt.lists_lengths p1.isList p2.isList hne (by omega),RcNeAt.lists_lengths p1.isList p2.isList hne (by omega)⟩
theorem EqN.at(I:Inv X pins σ H s):∀ {n:Nat} {A:Around} {x y:V} {b:Bool} {u v:Value},A.units+n<cLine→EqN X.K H n x y b→RelV x u→RelV y v→EqAt A s u v b
 | 0,A,x,y,b,u,v,_,h,rx,ry=>by obtain⟨h1,h2,rfl⟩:=h; exact iV rx ry h1 h2
 | n+1,A,x,y,b,u,v,hu,h,rx,ry=>by
  have h0:=h
  rcases h with ⟨h1,h2,rfl⟩ | ⟨a,c,xs,ys,rfl,rfl,hq,h⟩
  ·exact iV rx ry h1 h2
  ·cases rx
   cases ry
   by_cases hac:a=c
   ·subst hac
    rw[EqN.self I h0]
    exact EqAt.same _
   ·exact EqAt.of_refs hac (EqN.rc I (fun hu' q rx ry=>EqN.at I hu' q rx ry) hu hq h).1
end
section
variable{X:Cx}
def xG(K:PySem.W.Frag):R2:=fun x y H Q=>∃ (a c:Addr) (n:Nat) (b:Bool),x = .ref a∧y = .ref c∧n≤100∧EqN K H (n+1) x y b∧Q (.bl (!b)) H
theorem AA(hu:X.A.units+101<cLine):OpR X (compareOp .NotEq) (xG X.K):=by
 intro pins s σ H x y v u Q I rx ry h
 obtain⟨a,c,n,b,rfl,rfl,hn,he,q⟩:=h
 cases rx
 cases ry
 rcases he with ⟨h1,_⟩ | ⟨a',c',xs,ys,e1,e2,hq,h⟩
 ·cases h1
 ·cases e1
  cases e2
  exact(EqN.rc I (fun hu' q rx ry=>EqN.at I hu' q rx ry) (by omega) hq h).2 _ _ _ _ ⟨.bl (!b),H,I,rfl,q⟩
theorem zM(K:PySem.W.Frag){k:Nat}(hr:Room k X.A)(hK:X.K=K:=by rfl):OpR X (compareOp .NotEq) (xG K):=by subst hK; exact AA (by have:=hr.un; omega)
end
section
variable{K:PySem.W.Frag}{H:Hp}{Q:VK}
theorem rk(a c:Addr):xG K (.ref a) (.ref c) H Q=∃ (n:Nat) (b:Bool),n≤100∧EqN K H (n+1) (.ref a) (.ref c) b∧Q (.bl (!b)) H:=
 propext ⟨fun ⟨_,_,n,b,e1,e2,q⟩=>⟨n,b,q⟩,fun ⟨n,b,q⟩=>⟨a,c,n,b,rfl,rfl,q⟩⟩
theorem EqN.flat{n:Nat}{x y:V}(hx:cz x=true)(hy:cz y=true):EqN K H n x y (eG x y):=by
 cases n with
 | zero=>exact⟨hx,hy,rfl⟩
 | succ n=>exact .inl ⟨hx,hy,rfl⟩
theorem EqN.refl{n:Nat}{x:V}(hx:cz x=true):EqN K H n x x true:=by
 have q:EqN K H n x x (eG x x):=EqN.flat hx hx
 rwa [j5 hx]at q
theorem EqN.seq{n:Nat}{a c:Addr}{xs ys:List V}(hq:(SqL K H a xs∧SqL K H c ys)∨(SqT K H a xs∧SqT K H c ys))(hl:xs.length=ys.length)(he:∀ (i:Nat) x y,xs[i]? = some x→ys[i]? = some y→EqN K H n x y true):EqN K H (n+1) (.ref a) (.ref c) true:=
 .inr ⟨a,c,xs,ys,rfl,rfl,hq,.inl ⟨fun _=>true,hl,he,by simp⟩⟩
theorem EqN.seqFlat{n:Nat}{a c:Addr}{xs:List V}(hq:(SqL K H a xs∧SqL K H c xs)∨(SqT K H a xs∧SqT K H c xs))(hf:∀ x∈xs,cz x=true):EqN K H (n+1) (.ref a) (.ref c) true:=
 EqN.seq hq rfl fun i x y e1 e2=>by
  rw[e1]at e2; cases e2
  exact EqN.refl (hf x (List.mem_of_getElem? e1))
end
section
variable{X:Cx}
end
section
variable{X:Cx}
def y7:List V→Hp→VK→Prop:=fun xs H Q=>∃ i,xs=[.int i]∧i.natAbs.log2<1920∧Q (.str (toString i)) H
theorem nh:CallR X (.type "str") y7:=i8
def ze:List V→Hp→VK→Prop:=fun xs H Q=>(∃ i,xs=[.int i]∧Q (.int i) H)∨∃ k,xs=[.bl k]∧Q (.int (if k then 1 else 0)) H
theorem m6:CallR X (.type "int") ze:=va
def wc(K:PySem.W.Frag):List V→Hp→VK→Prop:=fun xs H Q=>∃ p ys,xs=[.ref p]∧((SqL K H p ys∧∀ l,H l=none→Q (.ref l) (upd H l (.tup ys)))∨(SqT K H p ys∧Q (.ref p) H))
theorem mH(K:PySem.W.Frag)(hK:X.K=K:=by rfl):CallR X (.type "tuple") (wc K):=qQ K hK
def tS:R2:=fun x y H Q=>match x,y with
 | .int i,.int j=>CMul i j∧Q (.int (i * j)) H
 | .str z,.int n=>0≤n∧n≤4096∧z.length≤4096∧Q (.str (Txt.mul z n)) H
 | _,_=>False
theorem fL:OpR X (binaryOp .Mult) tS:=by
 intro pins s σ H x y v u Q I rx ry h
 match x,y,h with
 | .int i,.int j,h=>exact An pins s σ H _ _ v u Q I rx ry ⟨_,_,rfl,rfl,h⟩
 | .str z,.int n,h=>
  obtain⟨t,rfl⟩:=rx
  obtain⟨t',rfl⟩:=ry
  obtain⟨h0,h1,h2,q⟩:=h
  exact SB.mul (mulOk_of 4096 4096 h2 (by omega) (by omega) (by decide) (by decide)) fun t' k=>⟨.str (Txt.mul z n),H,I.tok k,⟨t',rfl⟩,q⟩
end
section
variable{K:PySem.W.Frag}{H:Hp}{Q:VK}
theorem o_(i:Int):y7 [.int i] H Q=(i.natAbs.log2<1920∧Q (.str (toString i)) H):=propext ⟨fun ⟨_,e,q⟩=>by cases e; exact q,fun q=>⟨i,rfl,q⟩⟩
theorem oh(k:Bool):ze [.bl k] H Q=Q (.int (if k then 1 else 0)) H:=propext ⟨fun h=>by rcases h with ⟨_,e,q⟩ | ⟨_,e,q⟩ <;> cases e; exact q,fun q=>.inr ⟨k,rfl,q⟩⟩
theorem ms(p:Addr):wc K [.ref p] H Q=∃ ys,((SqL K H p ys∧∀ l,H l=none→Q (.ref l) (upd H l (.tup ys)))∨(SqT K H p ys∧Q (.ref p) H)):=propext ⟨fun ⟨_,ys,e,q⟩=>by cases e; exact⟨ys,q⟩,fun ⟨ys,q⟩=>⟨p,ys,rfl,q⟩⟩
theorem mx(i j:Int):tS (.int i) (.int j) H Q=(CMul i j∧Q (.int (i * j)) H):=rfl
theorem nu(z:Str)(n:Int):tS (.str z) (.int n) H Q=(0≤n∧n≤4096∧z.length≤4096∧Q (.str (Txt.mul z n)) H):=rfl
theorem sr(a:Addr)(lo hi:Option Int):xN K (.ref a) lo hi H Q=∃ xs,SqL K H a xs∧∀ p,H p=none→Q (.ref p) (upd H p (.lst (df xs lo hi))):=propext ⟨fun ⟨_,xs,e,q⟩=>by cases e; exact⟨xs,q⟩,fun ⟨xs,q⟩=>⟨a,xs,rfl,q⟩⟩
theorem yJ(g:Int→V)(i:Int):rU g (.int i) H Q=Q (g i) H:=propext ⟨fun ⟨_,e,q⟩=>by cases e; exact q,fun q=>⟨i,rfl,q⟩⟩
end
theorem bG{n:Nat}(h:n≤1000000):n<sizeLine:=by
 have:sizeLine=16777216:=sizeLine_eq
 omega
theorem aS{n:Nat}(h:n≤1000000):n≤sizeLine:=Nat.le_of_lt (bG h)
theorem v4{α : Type}{f:α→V}{xs:List α}{i:Int}{x:α}(h0:0≤i)(h:xs[i.toNat]? = some x):di (xs.map f) i=some (f x):=by
 have q:(xs.map f)[i.toNat]? = some (f x):=by rw[List.getElem?_map,h]; rfl
 have q':=bu q
 rwa [show ((i.toNat:Nat):Int)=i by omega]at q'
theorem eJ{H H':Hp}{p:Addr}{o:HO}(h:upd H p o=H')(hp:H p=none):Same H H':=h ▸ af hp o
theorem gf{H H':Hp}{p:Addr}{o:HO}(h:upd H p o=H'):H' p=some o:=h ▸ ac
theorem pB{α β : Type}{f:α→β}(xs:List α)(x:α):xs.map f++[f x]=(xs++[x]).map f:=by rw[List.map_append]; rfl
end L2
namespace L2
open PySem PySem.Spec PyProof.Rows
theorem Inv.turnedL{X:Cx}{pins:List (Addr × Obj)}{σ : St}{H:Hp}{s:Shared}{h':Heap}{t':Nat}{ch:List Addr}(I:Inv X pins σ H s)(k:∀ b o,b∉ch→s.heap.get? b=some o→h'.get? b=some o)
  (hf:∀ b∈ch,gC X pins H b):Inv X pins σ H { s with heap:=h',toks:=t' }:=by
 have nit:∀ b u,H b=some u→b∉ch:=fun b u e z=>by rw[(hf b z).1]at e; cases e
 refine I.step (g':=s.gens) (d':=s.drawn) (ch:=ch) (fun b hb=>?_) (fun b o _ _ hc e _=>k b o hc e) (fun b o _ _ hc e _=>⟨o.slots,k b o hc e⟩) (fun _ _ _ _ n=>n)
  (fun b o hc e=>⟨o,k b o hc e⟩) (fun _ _ e=>e) (fun _ _ _ e=>e) (fun b ps e=>⟨#[],by rw[e]; simp⟩) (fun m hm=>?_) (fun b u e=>?_) I.bare
 ·obtain⟨_,f1,_,f3,f4,f5⟩:=hf b hb
  exact⟨f3,f1,f4,f5⟩
 ·obtain⟨o,es,ep,ho,r⟩:=hm
  exact⟨o,es,ep,k _ o (fun z=>(hf _ z).2.1 rfl) ho,r⟩
 ·refine(I.hok b u e).stay (fun c v hc q=>k c v ?_ q) (fun _ q=>q) fun _ _ q=>q
  rcases hc with z | z
  ·rw[z]; exact nit b u e
  ·exact nit c _ z
theorem Inv.turnedLaid{X:Cx}{pins:List (Addr × Obj)}{σ : St}{H:Hp}{s:Shared}{h':Heap}{t':Nat}{ch:List Addr}{a:Addr}{o:HO}(I:Inv X pins σ H s)(k:∀ b o,b∉ch→s.heap.get? b=some o→h'.get? b=some o)
  (hf:∀ b∈ch,gC X pins H b) (hp:s.heap.objs.size≤a) (new:ObjOk X.prog X.w (upd H a o) h' a o):Inv X pins σ (upd H a o) { s with heap:=h',toks:=t' }:=by
 have hn:H a=none:=I.hok.fresh hp
 have nit:∀ b u,H b=some u→b∉ch:=fun b u e z=>by rw[(hf b z).1]at e; cases e
 refine I.step (g':=s.gens) (d':=s.drawn) (ch:=ch) (fun b hb=>?_) (fun b o _ _ hc e _=>k b o hc e) (fun b o _ _ hc e _=>⟨o.slots,k b o hc e⟩) (fun b u _ q n=>?_)
  (fun b o hc e=>⟨o,k b o hc e⟩) (fun b xs q=>?_) (fun b u xs q=>?_) (fun b ps q=>⟨#[],?_⟩) (fun m hm=>?_) (fun b u e=>?_) I.bare
 ·obtain⟨_,f1,_,f3,f4,f5⟩:=hf b hb
  exact⟨f3,f1,f4,f5⟩
 ·rw[ah (Nat.ne_of_lt (Nat.lt_of_lt_of_le (Heap.lt_size q) hp))]; exact n
 ·rw[ah (au q hn)]; exact q
 ·rw[ah (au q hn)]; exact q
 ·rw[ah (au q hn),q]; simp
 ·obtain⟨o,es,ep,ho,r⟩:=hm
  exact⟨o,es,ep,k _ o (fun z=>(hf _ z).2.1 rfl) ho,r⟩
 ·by_cases hb:b=a
  ·subst hb; rw[ac]at e; cases e; exact new
  ·rw[ah hb]at e
   refine(I.hok b u e).stay (fun c v hc q=>k c v ?_ q) (fun c q=>by rw[ah (au q hn)]; exact q) fun c xs q=>by rw[ah (au q hn)]; exact q
   rcases hc with z | z
   ·rw[z]; exact nit b u e
   ·exact nit c _ z
def zd(K:PySem.W.Frag)(a b:Addr):It:=
  ⟨fun i H=>∃ xs ys x y,SqL K H a xs∧SqL K H b ys∧xs[i]? = some x∧ys[i]? = some y,
   fun i H v H'=>∃ t x y,H t=none∧v = .ref t∧H'=upd H t (.tup [x,y])∧(∀ xs,SqL K H a xs→xs[i]? = some x)∧∀ ys,SqL K H b ys→ys[i]? = some y,
   fun i H=>∃ xs ys,SqL K H a xs∧SqL K H b ys∧(xs.length≤i∨ys.length≤i)⟩
structure kD (z TI TO i1 i2:Addr):Prop where
 TIz:TI≠z
 TOz:TO≠z
 i1z:i1≠z
 i2z:i2≠z
 TITO:TI≠TO
 TIi1:TI≠i1
 TIi2:TI≠i2
 TOi1:TO≠i1
 TOi2:TO≠i2
 i12:i1≠i2
theorem ft{h:Heap}{l c:Addr}{xs:Array Value}{o:Obj}(hl:h.IsList l xs)(e:h.get? c=some o)(hc:o.cls ≠ .type "list"):l≠c:=by
 rintro rfl
 obtain⟨o',e',c',_⟩:=hl
 rw[e]at e'; cases e'
 exact hc c'
def C5(z TI TO i1 i2 l1 l2:Addr)(i:Nat)(h:Heap):Prop:=
 IsZip h z TI TO .none∧IsPair h TI (.ref i1) (.ref i2)∧(∃ a b,IsPair h TO a b)∧h.IsListIter i1 l1 i∧h.IsListIter i2 l2 i
theorem wA{h:Heap}{z TI TO i1 i2 l1 l2:Addr}{i:Nat}{xs ys:Array Value}(D:kD z TI TO i1 i2)(st:C5 z TI TO i1 i2 l1 l2 i h)(h1:h.IsList l1 xs)(h2:h.IsList l2 ys):ZipApart z TI TO i1 i2 l1 l2:=by
 obtain⟨s1,s2,⟨a,b,s3⟩,⟨o4,s4,c4,_⟩,⟨o5,s5,c5,_⟩⟩:=st
 have n4:o4.cls ≠ .type "list" := by rw[c4]; decide
 have n5:o5.cls ≠ .type "list" := by rw[c5]; decide
 have nz:Value.type "zip" ≠ Value.type "list" := by decide
 have nt:Value.type "tuple" ≠ Value.type "list" := by decide
 exact⟨D.TIz,D.TOz,D.i1z,D.i2z,D.TITO,D.TIi1,D.TIi2,D.TOi1,D.TOi2,D.i12,ft h1 s1 nz,ft h1 s3 nt,ft h1 s4 n4,ft h1 s5 n5,ft h2 s1 nz,ft h2 s3 nt,ft h2 s4 n4,ft h2 s5 n5⟩
theorem x8{P:Program}{w:World}{K:PySem.W.Frag}{elts:List Expr}{k:Nat}{pos:Pos}{z TI TO i1 i2 l1 l2:Addr}(D:kD z TI TO i1 i2):iH P w K (.Tuple elts k pos) (zd K l1 l2) [z,TI,TO,i1,i2] z (C5 z TI TO i1 i2 l1 l2) where
 mem:=by simp
 obj:=fun i h st b hb=>by
  obtain⟨s1,s2,⟨_,_,s3⟩,⟨o4,s4,c4,d4⟩,⟨o5,s5,c5,d5⟩⟩:=st
  simp only[List.mem_cons,List.mem_nil_iff,or_false]at hb
  rcases hb with rfl | rfl | rfl | rfl | rfl
  ·exact⟨_,s1,fun v e=>by cases e⟩
  ·exact⟨_,s2,fun v e=>by cases e⟩
  ·exact⟨_,s3,fun v e=>by cases e⟩
  ·exact⟨_,s4,fun v e=>by rw[d4]at e; cases e⟩
  ·exact⟨_,s5,fun v e=>by rw[d5]at e; cases e⟩
 keep:=fun i h h' st kk=>by
  obtain⟨s1,s2,⟨a,b,s3⟩,s4,s5⟩:=st
  exact⟨kk z (by simp) _ s1,kk TI (by simp) _ s2,⟨a,b,kk TO (by simp) _ s3⟩,s4.at fun o e=>kk i1 (by simp) o e,s5.at fun o e=>kk i2 (by simp) o e⟩
 item:=by
  intro X hP hw hK hc i pins s σ H E I hf st hg
  subst hP hw hK
  obtain⟨xs,ys,x,y,q1,q2,hx,hy⟩:=hg
  obtain⟨is1,rv1,p1,_⟩:=I.list q1
  obtain⟨is2,rv2,p2,_⟩:=I.list q2
  obtain⟨u1,hu1,ru1⟩:=rv1.get hx
  obtain⟨u2,hu2,ru2⟩:=rv2.get hy
  have D':=wA D st p1.isList p2.isList
  obtain⟨s1,s2,⟨a,b,s3⟩,s4,s5⟩:=st
  refine wpAny_pyNext_zip_item D' s1 s2 s3 s4 s5 p1.isList p2.isList (x:=u1) (y:=u2) (by simpa using hu1) (by simpa using hu2) fun h' a1 a2 a3 a4 a5 a6 kk=>?_
  refine⟨_,rfl,wpAny_letOwnedTupleGo_zip a1 fun h'' hz' hs'=>?_⟩
  have lt:∀ {c o},s.heap.get? c=some o→s.heap.objs.size≠c:=fun e=>Nat.ne_of_gt (Heap.lt_size e)
  have zne:s.heap.objs.size≠z:=lt s1
  have keep2:∀ b o,b∉[z,TI,TO,i1,i2]→s.heap.get? b=some o→h''.get? b=some o:=fun b o hb e=>by
   simp only[List.mem_cons,List.mem_nil_iff,or_false,not_or]at hb
   exact hs'.extBut _ _ hb.1 (kk b o hb.1 hb.2.2.1 hb.2.2.2.1 hb.2.2.2.2 e)
  have hsz:H s.heap.objs.size=none:=I.hok.fresh (Nat.le_refl _)
  have tupN:IsPair h'' s.heap.objs.size u1 u2:=hs'.extBut _ _ zne a5
  have nlt:∀ c∈[z,TI,TO,i1,i2],c≠s.heap.objs.size:=fun c hc'=>by
   obtain⟨o4,e4,_⟩:=id s4
   obtain⟨o5,e5,_⟩:=id s5
   simp only[List.mem_cons,List.mem_nil_iff,or_false]at hc'
   rcases hc' with rfl | rfl | rfl | rfl | rfl
   ·exact(lt s1).symm
   ·exact(lt s2).symm
   ·exact(lt s3).symm
   ·exact(lt e4).symm
   ·exact(lt e5).symm
  refine⟨.ref s.heap.objs.size,upd H s.heap.objs.size (.tup [x,y]),I.turnedLaid (t':=s.toks) keep2 hf (Nat.le_refl _) ⟨aS (by show 2≤1000000; decide),[u1,u2],.cons ru1 (.cons ru2 .nil),⟨_,tupN,rfl,rfl,0,rfl⟩⟩,rfl,⟨_,x,y,hsz,rfl,rfl,fun xs' q'=>?_,fun ys' q'=>?_⟩,
   ⟨hz',hs'.extBut _ _ D.TIz (kk _ _ D.TIz D.TITO D.TIi1 D.TIi2 s2),⟨_,_,hs'.extBut _ _ D.TOz a2⟩,a3.extBut hs'.extBut D.i1z,a4.extBut hs'.extBut D.i2z⟩,fun c hc'=>?_⟩
  ·rw[I.list_inj q' q1]; exact hx
  ·rw[I.list_inj q' q2]; exact hy
  ·rw[ah (nlt c hc')]; exact(hf c hc').1
 done:=by
  intro X hP hw hK hc i pins s σ H E I hf st hg
  subst hP hw hK
  obtain⟨xs,ys,q1,q2,hlen⟩:=hg
  obtain⟨is1,rv1,p1,_⟩:=I.list q1
  obtain⟨is2,rv2,p2,_⟩:=I.list q2
  have l1:=rv1.length
  have l2:=rv2.length
  have D':=wA D st p1.isList p2.isList
  obtain⟨s1,s2,⟨a,b,s3⟩,s4,s5⟩:=st
  refine wpAny_pyNext_zip_end (I.ok.hd hc) D' s1 s2 s3 s4 s5 p1.isList p2.isList ?_ fun h' kk=>⟨rfl,I.turnedL (t':=s.toks) (fun b o hb e=>?_) hf⟩
  ·rcases hlen with z | z
   ·exact .inl (by simp; omega)
   ·exact .inr (by simp; omega)
  ·simp only[List.mem_cons,List.mem_nil_iff,or_false,not_or]at hb
   exact kk b o hb.1 hb.2.2.1 hb.2.2.2.1 hb.2.2.2.2 e
 self:=fun A i s Q E st h=>wpAny_pyIter_zip st.1 h
theorem C7(n:Nat):kD (n+4) (n+2) (n+3) n (n+1):=⟨(show (@Ne Nat (n+2) (n+4):Prop) by omega),(show (@Ne Nat (n+3) (n+4):Prop) by omega),(show (@Ne Nat (n) (n+4):Prop) by omega),(show (@Ne Nat (n+1) (n+4):Prop) by omega),(show (@Ne Nat (n+2) (n+3):Prop) by omega),(show (@Ne Nat (n+2) (n):Prop) by omega),(show (@Ne Nat (n+2) (n+1):Prop) by omega),(show (@Ne Nat (n+3) (n):Prop) by omega),(show (@Ne Nat (n+3) (n+1):Prop) by omega),(show (@Ne Nat (n) (n+1):Prop) by omega)⟩
theorem oJ:bootBuiltins "zip" = some (.type "zip"):=by decide +kernel
def xA(K:PySem.W.Frag)(ta:TA):TI:=fun σ H R=>ta σ H fun vs H1=>∃ a b:Addr,vs=[.ref a,.ref b]∧(∃ xs,SqL K H1 a xs)∧(∃ ys,SqL K H1 b ys)∧R (zd K a b) H1
theorem rS(K:PySem.W.Frag)(ta:TA){σ : St}{H:Hp}{R:It→Hp→Prop}:xA K ta σ H R=ta σ H fun vs H1=>∃ a b:Addr,vs=[.ref a,.ref b]∧(∃ xs,SqL K H1 a xs)∧(∃ ys,SqL K H1 b ys)∧R (zd K a b) H1:=rfl
theorem oZ(n m:Addr)(P:Addr→Addr→Prop):(∃ i j,[V.ref n,V.ref m]=[V.ref i,V.ref j]∧P i j)=P n m:=propext ⟨fun ⟨_,_,e,h⟩=>by cases e; exact h,fun h=>⟨n,m,rfl,h⟩⟩
theorem Ax{X:Cx}{elts:List Expr}{k:Nat}{tpos:Pos}{a b:Expr}{ta:TA}{p pos:Pos}(hg:Gl X "zip") (hm:X.mg "zip" = none) (ha:PA X [a,b] ta) (hs:starEach [a,b] X.env=[(false,eval a X.env),(false,eval b X.env)]:=by rfl) (hs2:starEach [b] X.env=[(false,eval b X.env)]:=by rfl) :
  PI X (.Tuple elts k tpos) (.Call (.Name "zip" p) [a,b] [] pos) (xA X.K ta):=by
 intro pins s σ H R I h
 refine Call_ (fT I hg hm oJ (PyProof.Rows.callWith_type1 (bt (ha pos pins s σ H _ I h) fun us s1 ⟨vs,H1,I1,r1,q1⟩=>?_) (by rw[hs,hs2]) (by rw[hs2]; rfl)))
 obtain⟨l1,l2,e,⟨xs,h1⟩,⟨ys,h2⟩,q⟩:=q1
 subst e
 obtain⟨u1,u2,rfl,r1,r2⟩:=kJ r1
 cases r1
 cases r2
 obtain⟨is1,_,p1,_⟩:=I1.list h1
 obtain⟨is2,_,p2,_⟩:=I1.list h2
 refine call_zip_2 p1.isList p2.isList fun h' a1 a2 a3 a4 a5 a6 kk=>?_
 refine wpAny_pyIter_zip a1 ⟨_,[s1.heap.objs.size+4,s1.heap.objs.size+2,s1.heap.objs.size+3,s1.heap.objs.size,s1.heap.objs.size+1],_,_,H1,rfl,I1.kept (t':=s1.toks) kk,
  x8 (z:=s1.heap.objs.size+4) (TI:=s1.heap.objs.size+2) (TO:=s1.heap.objs.size+3) (i1:=s1.heap.objs.size) (i2:=s1.heap.objs.size+1) (C7 _),⟨a1,a2,⟨_,_,a3⟩,a4,a5⟩,fun b hb=>?_,q⟩
 have hb':s1.heap.objs.size≤b:=by
  simp only[List.mem_cons,List.mem_nil_iff,or_false]at hb
  rcases hb with rfl | rfl | rfl | rfl | rfl <;> first | exact Nat.le_refl _ | exact Nat.le_add_right _ _
 exact I1.fpOk hb' (I1.hok.fresh hb')
theorem zN(K:PySem.W.Frag){X:Cx}{elts:List Expr}{k:Nat}{tpos:Pos}{a b:Expr}{ta:TA}{p pos:Pos}(hg:Gl X "zip") (hm:X.mg "zip" = none) (ha:PA X [a,b] ta) (hs:starEach [a,b] X.env=[(false,eval a X.env),(false,eval b X.env)]:=by rfl) (hs2:starEach [b] X.env=[(false,eval b X.env)]:=by rfl) (hK:X.K=K:=by rfl) :
  PI X (.Tuple elts k tpos) (.Call (.Name "zip" p) [a,b] [] pos) (xA K ta):=hK ▸ Ax hg hm ha hs hs2
section
variable{X:Cx}
end
section
variable{σ : St}{H:Hp}{Q:VK}
end
end L2
namespace L2
open PySem PySem.Spec PyProof.Rows
def vk(K:PySem.W.Frag)(a:Addr):It:=
  ⟨fun i H=>∃ xs x,SqL K H a xs∧xs[i]? = some x,
   fun i H v H'=>∃ t x,H t=none∧v = .ref t∧H'=upd H t (.tup [.int i,x])∧∀ xs,SqL K H a xs→xs[i]? = some x,
   fun i H=>∃ xs,SqL K H a xs∧xs.length≤i⟩
def GP(e it l:Addr)(i:Nat)(h:Heap):Prop:=(∃ old,IsEnum h e it i old)∧h.IsListIter it l i
theorem v_{P:Program}{w:World}{K:PySem.W.Frag}{elts:List Expr}{k:Nat}{pos:Pos}{e it l:Addr}(hei:e≠it):iH P w K (.Tuple elts k pos) (vk K l) [e,it] e (GP e it l) where
 mem:=by simp
 obj:=fun i h st b hb=>by
  obtain⟨⟨old,s1⟩,⟨o4,s4,c4,d4⟩⟩:=st
  simp only[List.mem_cons,List.mem_nil_iff,or_false]at hb
  rcases hb with rfl | rfl
  ·exact⟨_,s1,fun v e=>by cases e⟩
  ·exact⟨_,s4,fun v e=>by rw[d4]at e; cases e⟩
 keep:=fun i h h' st kk=>by
  obtain⟨⟨old,s1⟩,s4⟩:=st
  exact⟨⟨old,kk e (by simp) _ s1⟩,s4.at fun o z=>kk it (by simp) o z⟩
 item:=by
  intro X hP hw hK hc i pins s σ H E I hf st hg
  subst hP hw hK
  obtain⟨xs,x,q1,hx⟩:=hg
  obtain⟨is1,rv1,p1,_⟩:=I.list q1
  obtain⟨u1,hu1,ru1⟩:=rv1.get hx
  obtain⟨⟨old,s1⟩,s4⟩:=st
  refine wpAny_pyNext_enum_item s1 s4 p1.isList (x:=u1) (by simpa using hu1) hei fun h' a1 a3 a5 a6 kk=>?_
  refine⟨_,rfl,wpAny_letOwnedTupleGo_enum a1 fun h'' hz' hs'=>?_⟩
  have lt:∀ {c o},s.heap.get? c=some o→s.heap.objs.size≠c:=fun z=>Nat.ne_of_gt (Heap.lt_size z)
  have zne:s.heap.objs.size≠e:=lt s1
  have keep2:∀ b o,b∉[e,it]→s.heap.get? b=some o→h''.get? b=some o:=fun b o hb z=>by
   simp only[List.mem_cons,List.mem_nil_iff,or_false,not_or]at hb
   exact hs'.extBut _ _ hb.1 (kk b o hb.1 hb.2 z)
  have hsz:H s.heap.objs.size=none:=I.hok.fresh (Nat.le_refl _)
  have tupN:=hs'.extBut _ _ zne a5
  have nlt:∀ c∈[e,it],c≠s.heap.objs.size:=fun c hc'=>by
   obtain⟨o4,e4,_⟩:=id s4
   simp only[List.mem_cons,List.mem_nil_iff,or_false]at hc'
   rcases hc' with rfl | rfl
   ·exact(lt s1).symm
   ·exact(lt e4).symm
  refine⟨.ref s.heap.objs.size,upd H s.heap.objs.size (.tup [.int i,x]),I.turnedLaid (t':=s.toks+1) keep2 hf (Nat.le_refl _) ⟨aS (by show 2≤1000000; decide),[.int i s.toks,u1],.cons ⟨_,rfl⟩ (.cons ru1 .nil),⟨_,tupN,rfl,rfl,0,rfl⟩⟩,rfl,⟨_,x,hsz,rfl,rfl,fun xs' q'=>?_⟩,
   ⟨⟨_,by simpa using hz'⟩,a3.extBut hs'.extBut hei.symm⟩,fun c hc'=>?_⟩
  ·rw[I.list_inj q' q1]; exact hx
  ·rw[ah (nlt c hc')]; exact(hf c hc').1
 done:=by
  intro X hP hw hK hc i pins s σ H E I hf st hg
  subst hP hw hK
  obtain⟨xs,q1,hlen⟩:=hg
  obtain⟨is1,rv1,p1,_⟩:=I.list q1
  have l1:=rv1.length
  obtain⟨⟨old,s1⟩,s4⟩:=st
  refine wpAny_pyNext_enum_end (I.ok.hd hc) s1 s4 p1.isList (by simp; omega) fun h' kk=>⟨rfl,I.turnedL (t':=s.toks) (fun b o hb z=>?_) hf⟩
  simp only[List.mem_cons,List.mem_nil_iff,or_false,not_or]at hb
  exact kk b o hb.2 z
 self:=fun A i s Q E st h=>by
  obtain⟨⟨old,s1⟩,_⟩:=st
  exact wpAny_pyIter_enum s1 h
theorem lQ:bootBuiltins "enumerate" = some (.type "enumerate"):=by decide +kernel
def yN(K:PySem.W.Frag)(ta:TA):TI:=fun σ H R=>ta σ H fun vs H1=>∃ a:Addr,vs=[.ref a]∧(∃ xs,H1 a=some (.lst xs))∧R (vk K a) H1
theorem qz(K:PySem.W.Frag)(ta:TA){σ : St}{H:Hp}{R:It→Hp→Prop}:yN K ta σ H R=ta σ H fun vs H1=>∃ a:Addr,vs=[.ref a]∧(∃ xs,H1 a=some (.lst xs))∧R (vk K a) H1:=rfl
theorem rJ(n:Addr)(P:Addr→Prop):(∃ i,[V.ref n]=[V.ref i]∧P i)=P n:=propext ⟨fun ⟨_,e,h⟩=>by cases e; exact h,fun h=>⟨n,rfl,h⟩⟩
theorem kn(K:PySem.W.Frag){X:Cx}{elts:List Expr}{k:Nat}{tpos:Pos}{a:Expr}{ta:TA}{p pos:Pos}(hg:Gl X "enumerate") (hm:X.mg "enumerate" = none) (ha:PA X [a] ta) (hs:starEach [a] X.env=[(false,eval a X.env)]:=by rfl) (hK:X.K=K:=by rfl) :
  PI X (.Tuple elts k tpos) (.Call (.Name "enumerate" p) [a] [] pos) (yN K ta):=by
 subst hK
 intro pins s σ H R I h
 refine Call_ (fT I hg hm lQ (PyProof.Rows.callWith_type1 (bt (ha pos pins s σ H _ I h) fun us s1 ⟨vs,H1,I1,r1,q1⟩=>?_) hs rfl))
 obtain⟨l,e,⟨xs,h1⟩,q⟩:=q1
 subst e
 obtain⟨u1,rfl,r1'⟩:=dm r1
 obtain rfl:u1=Value.ref l:=r1'
 obtain⟨hz,its,n,rv,hl⟩ : xs.length≤sizeLine∧∃ (its:List Value) (n:Nat),Vals xs its∧s1.heap.get? l=some { cls:=.type "list", data:=.seq its.toArray n }:=I1.hok l _ h1
 refine call_enumerate_1 hl fun h' a1 a4 a6 kk=>?_
 refine wpAny_pyIter_enum a1 ⟨_,[s1.heap.objs.size+1,s1.heap.objs.size],_,_,H1,rfl,I1.kept (t':=s1.toks) kk,
  v_ (e:=s1.heap.objs.size+1) (it:=s1.heap.objs.size) (Nat.ne_of_gt (Nat.lt_succ_self _)),⟨⟨_,a1⟩,a4⟩,fun b hb=>?_,q⟩
 have hb':s1.heap.objs.size≤b:=by
  simp only[List.mem_cons,List.mem_nil_iff,or_false]at hb
  rcases hb with rfl | rfl <;> first | exact Nat.le_refl _ | exact Nat.le_add_right _ _
 exact I1.fpOk hb' (I1.hok.fresh hb')
section
variable{K:PySem.W.Frag}{a b:Addr}{xs ys:List V}{g:TG}{te:TE}{nT:Nat}{σ : St}{D:Addr}{Q:VK}{H:Hp}
theorem mQ{tb:TS}{D:dF}(Pv:Nat→St→Hp→Prop)(h0:Pv 0 σ H)(hl:∀ i σ H,i≤xs.length→Pv i σ H→SqL K H a xs)
  (hs:∀ i x t σ H,xs[i]? = some x→Pv i σ H→H t=none→g (.ref t) σ (upd H t (.tup [.int i,x])) fun σ2 H2=>tb { D with nx:=Pv (i+1),ct:=Pv (i+1),bk:=D.nx } σ2 H2) (hd:∀ σ H,Pv xs.length σ H→D.nx σ H):iE (vk K a) g tb D σ H:=by
 refine hV xs.length Pv h0 (fun i σ H hi p=>⟨xs,xs[i],hl i σ H (Nat.le_of_lt hi) p,by simp[hi]⟩) (fun σ H p=>⟨xs,hl _ σ H (Nat.le_refl _) p,Nat.le_refl _⟩) (fun i σ H v H' hi p yl=>?_) hd
 obtain⟨t,x,ht,rfl,rfl,y1⟩:=yl
 exact hs i x t σ H (y1 xs (hl i σ H (Nat.le_of_lt hi) p)) p ht
theorem yt{tb:TS}{D:dF}(Pv:Nat→St→Hp→Prop)(hn:xs.length=ys.length)(h0:Pv 0 σ H)(hl:∀ i σ H,i≤xs.length→Pv i σ H→SqL K H a xs∧SqL K H b ys)
  (hs:∀ i x y t σ H,xs[i]? = some x→ys[i]? = some y→Pv i σ H→H t=none→g (.ref t) σ (upd H t (.tup [x,y])) fun σ2 H2=>tb { D with nx:=Pv (i+1),ct:=Pv (i+1),bk:=D.nx } σ2 H2) (hd:∀ σ H,Pv xs.length σ H→D.nx σ H):iE (zd K a b) g tb D σ H:=by
 refine hV xs.length Pv h0 (fun i σ H hi p=>⟨xs,ys,xs[i],ys[i],(hl i σ H (Nat.le_of_lt hi) p).1,(hl i σ H (Nat.le_of_lt hi) p).2,by simp[hi],by simp[hn ▸ hi]⟩) (fun σ H p=>⟨xs,ys,(hl _ σ H (Nat.le_refl _) p).1,(hl _ σ H (Nat.le_refl _) p).2,.inl (Nat.le_refl _)⟩) (fun i σ H v H' hi p yl=>?_) hd
 obtain⟨t,x,y,ht,rfl,rfl,y1,y2⟩:=yl
 exact hs i x y t σ H (y1 xs (hl i σ H (Nat.le_of_lt hi) p).1) (y2 ys (hl i σ H (Nat.le_of_lt hi) p).2) p ht
def tG(n i:Nat)(Pv:Nat→List V→Hp→Prop)(ys:List V)(H:Hp):Prop:=∃ m',m'<n - i∧(m'=n - (i+1)∧i+1≤n∧Pv (i+1) ys H)
theorem uF{n i:Nat}{Pv:Nat→List V→Hp→Prop}{ys:List V}{H:Hp}(hi:i<n)(h:Pv (i+1) ys H):tG n i Pv ys H:=⟨n - (i+1),by omega,rfl,hi,h⟩
theorem oC{n i:Nat}{Pv:Nat→List V→Hp→Prop}{D:Addr}{ys:List V}{y:V}{H:Hp}(hi:i<n)(hlen:ys.length≤i)(hz:n≤sizeLine)(h1:H D=some (.lst ys))(h2:Pv (i+1) (ys++[y]) (upd H D (.lst (ys++[y])))):iz n i Pv D ys y H:=
 ⟨h1,by omega,n - (i+1),by omega,rfl,hi,h2⟩
def lc(n i:Nat)(Pv:Nat→List V→Hp→Prop)(D:Addr)(ys:List V)(tc:TT)(te:TE)(σ : St)(H:Hp):Prop:=
 tc σ H fun b H4=>if b=true then te σ H4 (iz n i Pv D ys) else tG n i Pv ys H4
theorem pV{n i:Nat}{Pv:Nat→List V→Hp→Prop}{D:Addr}{ys:List V}{tc:TT}{te:TE}{σ : St}{H:Hp}:lc n i Pv D ys tc te σ H=tc σ H fun b H4=>if b=true then te σ H4 (iz n i Pv D ys) else tG n i Pv ys H4:=rfl
theorem km{J:It}{tc:TT}(n:Nat)(Pv:Nat→List V→Hp→Prop)(h0:Pv 0 [] H)(hgo:∀ i ys H,i<n→Pv i ys H→J.go i H)(hst:∀ ys H,Pv n ys H→J.stop n H)
  (hs:∀ i ys H x H',i<n→Pv i ys H→J.yld i H x H'→g x (σ++List.replicate nT none) H' (lc n i Pv D ys tc te))
  (hd:∀ ys H,Pv n ys H→Q (.ref D) H):fz J g tc te nT σ D Q H:=by
 refine⟨fun i m ys H=>m=n - i∧i≤n∧Pv i ys H,⟨n,by simp,Nat.zero_le _,h0⟩,?_⟩
 rintro i m ys H ⟨rfl,hi,p⟩
 by_cases hlt:i<n
 ·exact .inr ⟨hgo i ys H hlt p,fun x H' y=>hs i ys H x H' hlt p y⟩
 ·have e:i=n:=by omega
  subst e
  exact .inl ⟨hst ys H p,hd ys H p⟩
theorem t0{tc:TT}(Pv:Nat→List V→Hp→Prop)(h0:Pv 0 [] H)(hl:∀ i ys H,i≤xs.length→Pv i ys H→SqL K H a xs)
  (hs:∀ i ys H x,xs[i]? = some x→i<xs.length→Pv i ys H→g x (σ++List.replicate nT none) H (lc xs.length i Pv D ys tc te))
  (hd:∀ ys H,Pv xs.length ys H→Q (.ref D) H):fz (ly K a) g tc te nT σ D Q H:=by
 refine km xs.length Pv h0 (fun i ys H hi p=>⟨xs,xs[i],hl i ys H (Nat.le_of_lt hi) p,by simp[hi]⟩) (fun ys H p=>⟨xs,hl _ ys H (Nat.le_refl _) p,Nat.le_refl _⟩) (fun i ys H x H' hi p yl=>?_) hd
 obtain⟨rfl,y⟩:=yl
 exact hs i ys _ x (y xs (hl i ys _ (Nat.le_of_lt hi) p)) hi p
theorem qP{tc:TT}{lo:Int}{n:Nat}(Pv:Nat→List V→Hp→Prop)(h0:Pv 0 [] H)
  (hs:∀ i ys H,i<n→Pv i ys H→g (.int (lo+i)) (σ++List.replicate nT none) H (lc n i Pv D ys tc te))
  (hd:∀ ys H,Pv n ys H→Q (.ref D) H):fz (jN lo n) g tc te nT σ D Q H:=by
 refine km n Pv h0 (fun i ys H hi p=>hi) (fun ys H p=>Nat.le_refl _) (fun i ys H x H' hi p yl=>?_) hd
 obtain⟨rfl,rfl⟩:=yl
 exact hs i ys _ hi p
end
end L2
namespace L2
open PySem PySem.Spec PyProof.Rows
theorem zR(lo hi:Option Int)(n:Nat):Builtin.Str.strSliceIndices lo hi 1 n=(List.range (HT.sIx n n hi - HT.sIx n 0 lo)).map (HT.sIx n 0 lo + ·):=by
 obtain⟨h1,h2,h3⟩:=jk lo hi n
 rw[← sliceRange_one,← h1,← h2]
 cases lo <;> cases hi <;> rfl
theorem we(x:Str)(lo hi:Option Int):(Txt.slice x lo hi).cps.toList=(x.cps.toList.drop (HT.sIx x.length 0 lo)).take (HT.sIx x.length x.length hi - HT.sIx x.length 0 lo):=by
 have hn:x.cps.toList.length=x.length:=by simp[Str.length]
 have hb:=HT.sIx_le x.length x.length (Nat.le_refl _) hi
 unfold Txt.slice
 rw[zR]
 by_cases h:((1:Int) == 1&&((List.range (HT.sIx x.length x.length hi - HT.sIx x.length 0 lo)).map (HT.sIx x.length 0 lo + ·)).length == x.length)=true
 ·rw[if_pos h]
  simp only[List.length_map,List.length_range,Bool.and_eq_true,beq_iff_eq]at h
  have h2:=h.2
  rcases Nat.eq_zero_or_pos x.length with z | z
  ·have e:x.cps.toList=[]:=List.eq_nil_of_length_eq_zero (by omega)
   rw[e]; simp
  ·have a0:HT.sIx x.length 0 lo=0:=by omega
   rw[a0,List.drop_zero,List.take_of_length_le (by omega)]
 ·rw[if_neg h]
  show ((List.filterMap _ _).toArray).toList=_
  rw[pick_run]
def Be:V→Option Int→Option Int→Hp→VK→Prop:=fun x lo hi H Q=>∃ y,x = .str y∧y.length≤sizeLine∧Q (.str (Txt.slice y lo hi)) H
theorem ic{X:Cx}:SlR X Be:=by
 intro pins s σ H x v vl vu lo hi sl Q I rx hs pl pu h
 obtain⟨y,rfl,hz,q⟩:=h
 obtain⟨t,rfl⟩:=rx
 obtain⟨l,hl,el⟩ : ∃ l:Option (Int × Tok),vl=partValue l∧l.map (·.1)=lo:=by
  cases pl with
  | none=>exact⟨none,rfl,rfl⟩
  | int i t=>exact⟨some (i,t),rfl,rfl⟩
 obtain⟨u,hu,eu⟩ : ∃ l:Option (Int × Tok),vu=partValue l∧l.map (·.1)=hi:=by
  cases pu with
  | none=>exact⟨none,rfl,rfl⟩
  | int i t=>exact⟨some (i,t),rfl,rfl⟩
 subst hl hu el eu
 refine⟨"str", _,PySem.F.slot_str_getitem.lookup,typeIs_str _ _ _,wpAny_getItem_str_slice (l:=l) (u:=u) (st:=none) hs rfl (post_val_or_str ⟨Nat.le_trans (Txt.slice_le y _ _) hz,fun t' k=>⟨.str _,H,I.tok k,⟨t',rfl⟩,q⟩⟩)⟩
theorem rf{H:Hp}{Q:VK}(y:Str)(lo hi:Option Int):Be (.str y) lo hi H Q=(y.length≤sizeLine∧Q (.str (Txt.slice y lo hi)) H):=propext ⟨fun ⟨_,e,h⟩=>by cases e; exact h,fun h=>⟨y,rfl,h⟩⟩
end L2
namespace L2
open PySem PySem.Spec PyProof.Rows
set_option genInjectivity false in
set_option genSizeOf false in
structure IK (prog:Program) (w:World) (κ : Type) [DecidableEq κ] where
 is:Heap→κ→Value→Prop
 hash:κ→Int
 draws:κ→Nat
 deep:Nat
 inj:∀ {h:Heap} {v:Value} {x y:κ},is h x v→is h y v→x=y
 keeps:∀ {h h':Heap} {k:κ} {v:Value} {d:Addr} {o:Obj} {es ep},is h k v→h.get? d=some o→o.data = .dict es ep→Heap.SameBut d h h'→is h' k v
 pyHash:∀ {A:Around} {E:Value→Shared→Prop} {s:Shared} {k:κ} {v:Value} {Q:Int→Shared→Prop},A.units+deep<cLine→is s.heap k v→Q (hash k) { s with toks:=s.toks+draws k }→
  wpAny (model prog w) A (PySem.pyHash v) Q E s
 eqBool:∀ {A:Around} {E:Value→Shared→Prop} {s:Shared} {x y:κ} {u v:Value} {Q:Bool→Shared→Prop},A.units+deep<cLine→is s.heap x u→is s.heap y v→Q (decide (x=y)) s→
  wpAny (model prog w) A (PySem.eqBool u v) Q E s
 quiet:∀ {A:Around} {E:Value→Shared→Prop} {s:Shared} {k:κ} {v:Value} {n:Nat} {Q:Bool→Shared→Prop},is s.heap k v→Q true s→wpAny (model prog w) A (eqIsQuiet (n+deep) v) Q E s
section
variable{prog:Program}{w:World}{κ : Type}[DecidableEq κ](K:IK prog w κ)
inductive IsItems (h:Heap):List κ→List Value→Prop
 | nil:IsItems h [] []
 | cons {k:κ} {v:Value} {ks:List κ} {vs:List Value}:K.is h k v→IsItems h ks vs→IsItems h (k::ks) (v::vs)
def IsTupK(h:Heap)(ks:List κ)(v:Value):Prop:=∃ a o items n,v = .ref a∧h.get? a=some o∧o.cls = .type "tuple" ∧ o.data = .seq items n∧IsItems K h ks items.toList
variable{K}
theorem IsItems.inj{h:Heap}:∀ {x y:List κ} {vs:List Value},IsItems K h x vs→IsItems K h y vs→x=y
 | _,_,_,.nil,.nil=>rfl
 | _,_,_,.cons a b,.cons c d=>by rw[K.inj a c,IsItems.inj b d]
theorem IsItems.keeps{h h':Heap}{d:Addr}{o:Obj}{es ep}(ho:h.get? d=some o)(hd:o.data = .dict es ep)(hs:Heap.SameBut d h h'):∀ {x:List κ} {vs:List Value},IsItems K h x vs→IsItems K h' x vs
 | _,_,.nil=>.nil
 | _,_,.cons a b=>.cons (K.keeps a ho hd hs) (b.keeps ho hd hs)
theorem IsItems.len{h:Heap}:∀ {x:List κ} {vs:List Value},IsItems K h x vs→x.length=vs.length
 | _,_,.nil=>rfl
 | _,_,.cons _ b=>by rw[List.length_cons,List.length_cons,b.len]
def g0(K:IK prog w κ)(ks:List κ):Nat:=(ks.map K.draws).sum
def oi(K:IK prog w κ)(ks:List κ):Int:=reduceHash (Builtin.Tuple.tupleHashOf (ks.map K.hash))
theorem ja{A:Around}{E:Value→Shared→Prop}{s:Shared}{ks:List κ}{v:Value}{Q:Int→Shared→Prop}(hu:A.units+(K.deep+1)<cLine)(hk:IsTupK K s.heap ks v)(h:Q (oi K ks) { s with toks:=s.toks+(g0 K ks+1) }) :
  wpAny (model prog w) A (PySem.pyHash v) Q E s:=by
 obtain⟨a,o,items,n,rfl,ho,hc,hd,hi⟩:=hk
 have hT:s.TypeIs (.ref a) "tuple" := ⟨o,ho,hc⟩
 unfold PySem.pyHash
 first | unfold pyHashByItsType | skip
 first | refine wpAny_bind (wpAny_cRoomFor_or (.inr (by omega)) ?_) | skip
 refine wpAny_bind (wpAny_specialOf hT PySem.F.slot_tuple_hash.lookup ?_)
 rw[if_neg (by rw[beq_builtin_none]; exact Bool.false_ne_true)]
 refine wpAny_bind (wpAny_specialOf hT PySem.F.slot_tuple_hash.lookup ?_)
 show wpAny _ _ (callSpecialIfBoundUnlessNone? (.ref a) "__hash__" _ >>= _) Q E s
 refine wpAny_bind (wpAny_callSpecialIfBoundUnlessNone?_slot hT PySem.F.slot_tuple_hash (wpAny_call_entry PySem.F.slot_tuple_hash hT
  PySem.F.entry_tuple_hash ?_ (PySem.F.args_tuple_hash_1 _)))
 show wpAny _ _ (Builtin.Tuple.tupleItemsOf (.ref a) >>= _) _ _ s
 refine wpAny_bind (wpAny_tupleItemsOf ho hd (wpAny_bind ?_))
 rw[← Array.forIn_toList]
 refine wpAny_forIn_list _ (fun rest (b:Array Int) s'=>∃ done left,ks=done++left∧IsItems K s.heap left rest∧b.toList=done.map K.hash∧s'={ s with toks:=s.toks+g0 K done }) _ ?_ ?_ _ _ ⟨[],ks,rfl,hi,rfl,rfl⟩
 ·rintro x rest b s' ⟨done,left,rfl,hl,hb,rfl⟩
  cases hl with
  | @cons k _ ks' _ h1 hl'=>
   have e:g0 K (done++[k])=g0 K done+K.draws k:=by simp[g0]
   refine wpAny_bind (K.pyHash (show A.in1.units+K.deep<cLine from by show A.units+1+K.deep<cLine; omega) h1 ?_)
   have fin:∃ done' left',done++k::ks'=done'++left'∧IsItems K s.heap left' rest∧(b.push (K.hash k)).toList=done'.map K.hash∧({ s with toks:=s.toks+g0 K done+K.draws k }:Shared)={ s with toks:=s.toks+g0 K done' }:=
    ⟨done++[k],ks',by simp,hl',by simp[hb],by rw[e,Nat.add_assoc]⟩
   first
    | exact wpAny_pure fin
    | exact wpAny_bind (wpAny_pure (wpAny_pure fin))
 ·rintro b s' ⟨done,left,rfl,hl,hb,rfl⟩
  cases hl
  rw[List.append_nil]at h
  show wpAny _ _ (retInt (Builtin.Tuple.tupleHashOf b.toList)) _ _ _
  rw[hb]
  refine wpAny_ret_mkInt ?_
  unfold oi reduceHash at h
  show wpAny _ _ (if (decide (-(2:Int) ^ 63≤Builtin.Tuple.tupleHashOf (done.map K.hash))&&decide (Builtin.Tuple.tupleHashOf (done.map K.hash)<2 ^ 63))=true then _ else _) Q E _
  by_cases hr:(decide (-(2:Int) ^ 63≤Builtin.Tuple.tupleHashOf (done.map K.hash))&&decide (Builtin.Tuple.tupleHashOf (done.map K.hash)<2 ^ 63))=true
  ·rw[if_pos hr]at h ⊢
   exact wpAny_pure (by simpa [Nat.add_assoc] using h)
  ·rw[if_neg hr]at h ⊢
   exact wpAny_bind (wpAny_rule (wpAny_pure (by simpa [Nat.add_assoc] using h)))
theorem ug{A:Around}{E:Value→Shared→Prop}{s:Shared}{x y:List κ}{a b:Addr}{P:Fin→Shared→Prop}(hu:A.units+K.deep<cLine)(hx:IsTupK K s.heap x (.ref a))(hy:IsTupK K s.heap y (.ref b))(h:P (.done (.ret (.bool (decide (x=y))))) s) :
  wpAny (model prog w) A (Builtin.«tuple.__eq__» ⟨[.ref a,.ref b],[]⟩) P E s:=by
 obtain⟨_,oa,xs,na,e1,hoa,ca,hda,hia⟩:=hx
 obtain⟨_,ob,ys,nb,e2,hob,cb,hdb,hib⟩:=hy
 cases e1
 cases e2
 show wpAny _ _ (isInstance (.ref b) (.type "tuple") >>= _) _ _ s
 refine wpAny_bind (wpAny_isInstance ⟨ob,hob,cb⟩ isSubtype_tuple_tuple ?_)
 simp only[Bool.not_true,Bool.false_eq_true,if_false]
 refine wpAny_bind (wpAny_tupleItemsOf hoa hda (wpAny_bind (wpAny_tupleItemsOf hob hdb (wpAny_bind ?_))))
 refine wpAny_forIn_list _ (fun rest r s'=>r.1=none∧s'=s∧∃ x' y' xs' ys',rest=List.zip xs' ys'∧IsItems K s.heap x' xs'∧IsItems K s.heap y' ys'∧decide (x'=y')=decide (x=y)∧(xs'.length == ys'.length)=(xs.size == ys.size)) _ ?_ ?_ _ _
  ⟨rfl,rfl,x,y,xs.toList,ys.toList,rfl,hia,hib,rfl,by simp⟩
 ·rintro⟨u,v⟩ rest r s' ⟨hr,rfl,x',y',xs',ys',hz,hx',hy',hdec,hlen⟩
  cases hx' with
  | nil=>simp at hz
  | @cons k1 u' x'' xs'' h1 hx''=>
   cases hy' with
   | nil=>simp at hz
   | @cons k2 v' y'' ys'' h2 hy''=>
    simp only[List.zip_cons_cons,List.cons.injEq,Prod.mk.injEq]at hz
    obtain⟨⟨rfl,rfl⟩,rfl⟩:=hz
    refine wpAny_bind (K.eqBool (x:=k1) (y:=k2) hu h1 h2 ?_)
    by_cases hk:k1=k2
    ·subst hk
     rw[decide_eq_true rfl]
     simp only[Bool.not_true,Bool.false_eq_true,if_false]
     refine wpAny_pure ⟨rfl,rfl,x'',y'',xs'',ys'',rfl,hx'',hy'',?_,by simpa using hlen⟩
     rw[← hdec]
     by_cases hxy:x''=y'' <;> simp[hxy]
    ·rw[decide_eq_false hk]
     simp only[Bool.not_false,if_true]
     have hf:decide (x=y)=false:=by rw[← hdec]; simp[hk]
     rw[hf]at h
     exact wpAny_bind (wpAny_pure (wpAny_pure (wpAny_pure h)))
 ·rintro⟨r1,r2⟩ s' ⟨hr,rfl,x',y',xs',ys',hz,hx',hy',hdec,hlen⟩
  simp only at hr
  subst hr
  refine wpAny_pure ?_
  have hfin:(xs.size == ys.size)=decide (x=y):=by
   rw[← hdec,← hlen]
   cases hx' with
   | nil=>cases hy' <;> simp
   | cons _ _=>
    cases hy' with
    | nil=>simp
    | cons _ _=>simp at hz
  show P (.done (.ret (.bool (xs.size == ys.size)))) s'
  rw[hfin]; exact h
theorem lU{A:Around}{E:Value→Shared→Prop}{s:Shared}{x y:List κ}{u v:Value}{Q:Bool→Shared→Prop}(hu:A.units+(K.deep+1)<cLine)(hx:IsTupK K s.heap x u)(hy:IsTupK K s.heap y v)(h:Q (decide (x=y)) s) :
  wpAny (model prog w) A (PySem.eqBool u v) Q E s:=by
 have hx0:=hx
 have hy0:=hy
 obtain⟨a,oa,xs,na,rfl,hoa,ca,hda,hia⟩:=hx
 obtain⟨b,ob,ys,nb,rfl,hob,cb,hdb,hib⟩:=hy
 unfold PySem.eqBool
 try with_reducible refine wpAny_holding ?_
 show wpAny _ _ (if (Value.ref a == Value.ref b)=true then _ else _) Q E s
 by_cases hab:(Value.ref a == Value.ref b)=true
 ·rw[if_pos hab]
  have e:a=b:=by have:=eq_of_beq hab; injection this
  subst e
  rw[hoa]at hob
  cases hob
  rw[hda]at hdb
  injection hdb with e1 _
  subst e1
  rw[decide_eq_true (hia.inj hib)]at h
  exact wpAny_bind (wpAny_rule (wpAny_pure h))
 ·rw[if_neg hab]
  have ta:s.TypeIs (.ref a) "tuple" := ⟨oa,hoa,ca⟩
  have tb:s.TypeIs (.ref b) "tuple" := ⟨ob,hob,cb⟩
  refine wpAny_bind (wpAny_richCompare_same_room (op:=.Eq) ta tb PySem.F.slot_tuple_eq (wpAny_call_entry PySem.F.slot_tuple_eq ta PySem.F.entry_tuple_eq ?_ (PySem.F.args_tuple_eq_2 _ _)) (by omega))
  refine ug (K:=K) ?_ hx0 hy0 ⟨_,rfl,(fun e=>nomatch e),wpAny_truthy_bool h⟩
  show A.units+1+K.deep<cLine
  omega
theorem iM{A:Around}{E:Value→Shared→Prop}{s:Shared}{ks:List κ}{v:Value}{n:Nat}{Q:Bool→Shared→Prop}(hk:IsTupK K s.heap ks v)(h:Q true s):wpAny (model prog w) A (eqIsQuiet (n+(K.deep+1)) v) Q E s:=by
 obtain⟨a,o,items,m,rfl,ho,hc,hd,hi⟩:=hk
 have hT:s.TypeIs (.ref a) "tuple" := ⟨o,ho,hc⟩
 rw[show n+(K.deep+1)=(n+K.deep)+1 from rfl]
 unfold eqIsQuiet
 refine wpAny_bind (wpAny_specialOf hT PySem.F.slot_tuple_eq.lookup ?_)
 show wpAny _ _ (isInstance (.ref a) (.type "tuple") >>= _) _ _ s
 refine wpAny_bind (wpAny_isInstance hT isSubtype_tuple_tuple ?_)
 simp only[Bool.not_true,Bool.false_eq_true,if_false]
 refine wpAny_bind (wpAny_seqItems ho hd (wpAny_bind ?_))
 show wpAny _ _ (forIn items _ _) _ _ s
 rw[← Array.forIn_toList]
 refine wpAny_forIn_list _ (fun rest r s'=>r.1=none∧s'=s∧∃ ks',IsItems K s.heap ks' rest) _ ?_ ?_ _ _ ⟨rfl,rfl,ks,hi⟩
 ·rintro v rest r s' ⟨hr,rfl,ks',hall⟩
  cases hall with
  | cons h1 h2=>
   refine wpAny_bind (K.quiet h1 ?_)
   simp only[Bool.not_true,Bool.false_eq_true,if_false]
   exact wpAny_pure ⟨rfl,rfl,_,h2⟩
 ·rintro⟨r1,r2⟩ s' ⟨hr,rfl,_⟩
  simp only at hr
  subst hr
  exact wpAny_pure h
def uf(K:IK prog w κ):IK prog w (List κ) where
 is:=IsTupK K
 hash:=oi K
 draws:=fun ks=>g0 K ks+1
 deep:=K.deep+1
 inj:=by
  rintro h v x y ⟨a,oa,xs,na,rfl,hoa,ca,hda,hia⟩ ⟨b,ob,ys,nb,e,hob,cb,hdb,hib⟩
  cases e
  rw[hoa]at hob
  cases hob
  rw[hda]at hdb
  injection hdb with e1 _
  subst e1
  exact hia.inj hib
 keeps:=by
  rintro h h' k v d o es ep ⟨a,oa,xs,na,rfl,hoa,ca,hda,hia⟩ ho hd hs
  have hne:a≠d:=by
   rintro rfl
   rw[hoa]at ho
   cases ho
   rw[hd]at hda; cases hda
  exact⟨a,oa,xs,na,rfl,(hs.2 a hne).trans hoa,ca,hda,hia.keeps ho hd hs⟩
 pyHash:=fun hu hk h=>ja hu hk h
 eqBool:=fun hu hx hy h=>lU hu hx hy h
 quiet:=fun hk h=>iM hk h
def zb(K:IK prog w κ)(hd:K.deep≤7):HeapKind prog w (List κ) where
 is:=fun h k a=>IsTupK K h k (.ref a)
 hash:=oi K
 draws:=fun ks=>g0 K ks+1
 room:=fun A=>A.units+(K.deep+1)<cLine
 inj:=(uf K).inj
 keeps:=(uf K).keeps
 pyHash:=fun hu hk h=>ja hu hk h
 eqBool:=fun hu hx hy h=>lU hu hx hy h
 quiet:=fun {A E s k a Q} hk h=>by
  have q:=iM (n:=7 - K.deep) (A:=A) (E:=E) hk h
  rwa [show 7 - K.deep+(K.deep+1)=8 by omega]at q
end
end L2
namespace L2
open PySem PySem.Spec PyProof.Rows
def eC:Option Int→V
 | none=>.non
 | some i=>.int i
theorem w9{x y:Option Int}{v:Value}(a:RelV (eC x) v)(b:RelV (eC y) v):x=y:=by
 have e:=a.inj b
 cases x <;> cases y <;> simp_all [eC]
theorem fj(x:Option Int):cz (eC x)=true:=by cases x <;> rfl
theorem rL(x y:Option Int):eG (eC x) (eC y)=decide (x=y):=by
 cases x with
 | none=>cases y <;> rfl
 | some i=>
  cases y with
  | none=>rfl
  | some j=>
   show (i == j)=_
   by_cases h:i=j <;> simp[h]
theorem v3{prog:Program}{w:World}{A:Around}{E:Value→Shared→Prop}{s:Shared}{Q:Int→Shared→Prop}(h:Q 0xFCA86420 { s with toks:=s.toks+1 }):wpAny (model prog w) A (PySem.pyHash .none) Q E s:=by
 have hT:s.TypeIs .none "NoneType" := rfl
 unfold PySem.pyHash
 first | unfold pyHashByItsType | skip
 refine wpAny_bind ?_
 rw[cRoomFor,if_neg (by decide)]
 refine wpAny_pure (wpAny_bind (wpAny_specialOf hT PySem.F.slot_NoneType_hash.lookup ?_))
 rw[if_neg (by rw[beq_builtin_none]; exact Bool.false_ne_true)]
 refine wpAny_bind (wpAny_specialOf hT PySem.F.slot_NoneType_hash.lookup ?_)
 show wpAny _ _ (callSpecialIfBoundUnlessNone? .none "__hash__" _ >>= _) Q E s
 refine wpAny_bind (wpAny_callSpecialIfBoundUnlessNone?_slot hT PySem.F.slot_NoneType_hash (wpAny_call_entry PySem.F.slot_NoneType_hash hT
  PySem.F.entry_NoneType_hash ?_ (PySem.F.args_NoneType_hash_1 _)))
 show wpAny _ _ (retInt 0xFCA86420) _ _ s
 refine wpAny_ret_mkInt ?_
 exact wpAny_pure h
def em(prog:Program)(w:World):IK prog w (Option Int) where
 is:=fun _ k v=>RelV (eC k) v
 hash:=fun k=>match k with
  | none=>0xFCA86420
  | some i=>hashInt i
 draws:=fun _=>1
 deep:=0
 inj:=fun a b=>w9 a b
 keeps:=fun a _ _ _=>a
 pyHash:=fun {A E s k v Q} _ hk h=>by
  cases k with
  | none=>
   obtain rfl:v=Value.none:=hk
   exact v3 h
  | some i=>
   obtain⟨t,rfl⟩:=(show ∃ t,v=Value.int i t from hk)
   exact wpAny_pyHash_int h
 eqBool:=fun {A E s x y u v Q} _ hx hy h=>by
  have q:=iV (A:=A) (s:=s) hx hy (fj x) (fj y)
  rw[rL]at q
  exact q prog w E Q h
 quiet:=fun {A E s k v n Q} hk h=>by
  have e:carriedByValue v=true:=by
   cases k with
   | none=>obtain rfl:v=Value.none:=hk; rfl
   | some i=>obtain⟨t,rfl⟩:=(show ∃ t,v=Value.int i t from hk); rfl
  rw[eqIsQuiet_byValue _ e]
  exact wpAny_pure h
abbrev NI:=Sum Int (List (Option Int))
theorem IsTupK.tup{prog:Program}{w:World}{κ : Type}[DecidableEq κ]{K:IK prog w κ}{h:Heap}{l:List κ}{v:Value}(x:IsTupK K h l v):∃ a its,v = .ref a∧h.IsTuple a its:=by
 obtain⟨a,o,items,n,rfl,ho,hc,hd,hi⟩:=x
 exact⟨a,items,rfl,o,ho,hc,n,hd⟩
theorem rV{A:Around}{prog:Program}{w:World}(hu:A.units+1<cLine):A.units+((em prog w).deep+1)<cLine:=hu
end L2
namespace L2
open PySem PySem.Spec PyProof.Rows
abbrev xu:=Int × List (Option Int)
def nk(k:xu):List NI:=[.inl k.1,.inr k.2]
section
variable{P:Program}{w:World}{H:Hp}
end
section
variable{X:Cx}{pins:List (Addr × Obj)}{σ : St}{H:Hp}{s:Shared}{a b:Addr}{k:xu}{kvs:List (xu × V)}
theorem Paired.snoc{α β : Type}{F:α→β→Prop}{x:α}{y:β}(h:F x y):∀ {l:List α} {m:List β},Paired F l m→Paired F (l++[x]) (m++[y])
 | _,_,.nil=>.cons h .nil
 | _,_,.cons r t=>.cons r (Paired.snoc h t)
end
end L2
namespace L2
open PySem PySem.Spec PyProof.Rows PySem.SeqAt
section
variable{X:Cx}
def ES(K:PySem.W.Frag):R2:=fun x y H Q=>n9 K x y H Q∨∃ a kvs k v,x = .ref a∧y=kV k∧H a=some (.dK kvs)∧aM kvs k=some v∧Q v H
theorem fg(K:PySem.W.Frag)(hK:X.K=K:=by rfl):IxR X (ES K):=by
 intro value slice pins s σ H x y v u Q I rx ry h hs
 rcases h with h | ⟨a,kvs,k,z,rfl,rfl,e,l,q⟩
 ·exact aW K hK value slice pins s σ H x y v u Q I rx ry h hs
 ·cases rx
  obtain⟨_,hd,vs,rel,dd⟩:=nY I.hok (.inl e)
  obtain⟨w',hw,rw'⟩:=RelO.some_of (v:=z) (o:=valueAt vs k) (by rw[← l]; exact rel.val k)
  have hl:typeLookup (.type "dict") "__getitem__" = pure (some (.builtin "dict.__getitem__")):=PySem.F.slot_dict_getitem.lookup
  exact subscriptTail_builtinR (x:=w') dd.typeIs hl (wpAny_getItem_of (nX ry) dd.mapOf hw ⟨rfl,z,H,I.tok _,rw',q⟩) hs
def CO:oY:=fun o i v H Q=>∃ a kvs k,o = .ref a∧i=kV k∧H a=some (.dK kvs)∧kvs.length<sizeLine∧Q (upd H a (.dK (aZ kvs k v)))
theorem nQ{n:Nat}(hr:Room n X.A):PSet X CO:=by
 intro pins s σ H o i v ov iv u Q I ro ri rv h
 obtain⟨a,kvs,k,rfl,rfl,e,hl,q⟩:=h
 cases ro
 exact u5 (by have:=hr.un; omega) I (DPut.k e hl) ri rv fun s' I'=>⟨_,I',q⟩
end
section
variable{K:PySem.W.Frag}{H:Hp}{Q:VK}
end
section
variable{X:Cx}
end
end L2
namespace L2
open PySem PySem.Spec PyProof.Rows PySem.SeqAt
theorem sV{X:Cx}:MtR X "list.pop" xM:=Ak
section
variable{K:PySem.W.Frag}{H:Hp}{Q:VK}
theorem sR(p:Addr):xM (.ref p) [] H Q=∃ xs y,H p=some (.lst xs)∧xs[xs.length - 1]? = some y∧Q y (upd H p (.lst xs.dropLast)):=
 propext ⟨fun ⟨_,xs,y,e1,_,q⟩=>by cases e1; exact⟨xs,y,q⟩,fun ⟨xs,y,q⟩=>⟨p,xs,y,rfl,rfl,q⟩⟩
theorem rE(i j:Bool):uk (.bl i) (.bl j) H Q=Q (.bl (!(i == j))) H:=by
 show (j7 (.bl i) (.bl j)=true∧Q (.bl (!decide (V.bl i=V.bl j))) H)=_
 rw[p_]; exact propext ⟨fun h=>h.2,fun h=>⟨rfl,h⟩⟩
end
theorem sG{X:Cx}(K:PySem.W.Frag){o:Expr}{to:TE}{name:Str}{apos cpos:Pos}{T id:String}{r:V→List V→Hp→VK→Prop}(pa:PlainAttrs T)(slot:Slot T name id)(hty:typeOf (.builtin id)=pure (.type "method_descriptor")) (hm:MtR X id r) (ho:PE X o to)
  (hbase:attributeBase o name X.env (eval o X.env)=eval o X.env:=by rfl) (hline:(apos.endLine == cpos.line)=true:=by rfl) (hK:X.K=K:=by rfl):PE X (.Call (.Attribute o name apos) [] [] cpos) (w_ K T r to):=hK ▸ BA pa slot hty hm ho hbase hline
end L2
namespace L2
open PySem PySem.Spec PyProof.Rows PySem.SeqAt
theorem q9:∀ (xs:List V) (us:List Value),xs.length=us.length→(∀ (j:Nat) x u,xs[j]? = some x→us[j]? = some u→RelV x u)→Vals xs us
 | [],[],_,_=>.nil
 | [],u::us,hl,_=>by simp at hl
 | x::xs,[],hl,_=>by simp at hl
 | x::xs,u::us,hl,h=>.cons (h 0 x u rfl rfl) (q9 xs us (by simpa using hl) fun j a b e1 e2=>h (j+1) a b e1 e2)
section
variable{X:Cx}
end
section
variable{X:Cx}
end
section
variable{prog:Program}{w:World}{K:Type}[DecidableEq K]{knd:KeyKind prog w K}{A:Around}{E:Value→Shared→Prop}{s:Shared}
end
section
variable{X:Cx}
theorem lw{α β : Type}{F:α→β→Prop}:∀ {l:List α} {m:List β} {j:Nat} {a:α} {b:β},Paired F l m→l[j]? = some a→m[j]? = some b→F a b
 | _,_,0,_,_,.cons h _,e1,e2=>by
  cases e1; cases e2; exact h
 | _,_,j+1,_,_,.cons _ t,e1,e2=>lw (j:=j) t e1 e2
 | _,_,0,_,_,.nil,e1,_=>by cases e1
 | _,_,_+1,_,_,.nil,e1,_=>by cases e1
end
end L2
namespace L2
open PySem PySem.Spec PyProof.Rows PySem.SeqAt
end L2
namespace L2
open PySem PySem.Spec PyProof.Rows PySem.SeqAt
section
variable{prog:Program}{w:World}{K:Type}[DecidableEq K]{knd:KeyKind prog w K}{A:Around}{E:Value→Shared→Prop}{s:Shared}{G:SetTable→Prop}
def Cs(knd:KeyKind prog w K)(l:List (Int × Value)):Prop:=l.Pairwise fun e e'=>∀ k,knd.is k e.2=true→knd.is k e'.2=false
structure Bn (knd:KeyKind prog w K) (G:SetTable→Prop) (o:Obj) (es:Array (Int × Value)) (ep:Nat) (t:SetTable) (S:K→Bool) (n:Nat):Prop where
 ex:o.ExactSet
 dat:o.data = .set es ep t
 el:ElemsOf knd es.toList
 mem:∀ k,S k=true ↔ ∃ e∈es.toList,knd.is k e.2=true
 few:es.size<scanBound
 fit:t.fits es.size=true
 num:es.size=n
 good:G t
 apart:Cs knd es.toList
theorem stored{h:Heap}{a:Addr}{o:Obj}{es:Array (Int × Value)}{ep:Nat}{t:SetTable}{S:K→Bool}{n:Nat}{es':Array (Int × Value)}{t':SetTable}{S':K→Bool}{n':Nat}(ho:h.get? a=some o)(T:Bn knd G o es ep t S n)
  (T':∀ o',o'.ExactSet→o'.data = .set es' (ep+1) t'→Bn knd G o' es' (ep+1) t' S' n'):∃ o',(h.update a (Obj.putSet es' t')).get? a=some o'∧Bn knd G o' es' (ep+1) t' S' n':=by
 have hp:=putSet_of es' t' T.dat
 have hg:=Heap.get?_update_self (Obj.putSet es' t') ho (by rw[hp]; rfl)
 rw[hp]at hg
 exact⟨_,hg,T' _ T.ex rfl⟩
end
end L2
namespace L2
open PySem PySem.Spec PyProof.Rows PySem.SeqAt
section
variable{prog:Program}{w:World}{A:Around}{R:Result→Shared→Prop}{I:Addr}{fp wr:List Addr}{Gm:Array GenState→Array GenState→Prop}{n:Nat}{P:Nat→Value→Prop}{St:Nat→Shared→Prop}{L:Bool}
end
section
variable{prog:Program}{w:World}{A:Around}{E:Value→Shared→Prop}{s:Shared}
end
end L2
namespace L2
open PySem PySem.Spec PyProof.Rows PySem.SeqAt
section
variable{X:Cx}
end
end L2
namespace L2
open PySem PySem.Spec PyProof.Rows PySem.SeqAt
section
variable{M:Model}{A:Around}{E:Value→Shared→Prop}
end
end L2
namespace L2
open PySem PySem.Spec PyProof.Rows PySem.SeqAt
section
variable{prog:Program}{w:World}{A:Around}{E:Value→Shared→Prop}{s:Shared}
end
end L2
namespace L2
open PySem PySem.Spec PyProof.Rows PySem.SeqAt
section
variable{prog:Program}{w:World}{A:Around}{E:Value→Shared→Prop}{s:Shared}
end
end L2
namespace L2
open PySem PySem.Spec PyProof.Rows PySem.SeqAt
section
variable{prog:Program}{w:World}{A:Around}{E:Value→Shared→Prop}{s:Shared}
end
end L2
namespace L2
open PySem PySem.Spec PyProof.Rows PySem.SeqAt
section
variable{prog:Program}{w:World}{A:Around}{E:Value→Shared→Prop}{s:Shared}
end
end L2
namespace L2
open PySem PySem.Spec PyProof.Rows PySem.SeqAt
section
variable{prog:Program}{w:World}{A:Around}{E:Value→Shared→Prop}{s:Shared}
end
end L2
namespace L2
open PySem PySem.Spec PyProof.Rows PySem.SeqAt
section
variable{prog:Program}{w:World}{A:Around}{E:Value→Shared→Prop}{s:Shared}
end
section
variable{X:Cx}
end
end L2
namespace L2
open PySem PySem.Spec PyProof PyProof.Rows
section
variable{X:Cx}
end
end L2
namespace L2
open PySem PySem.Spec PyProof PyProof.Rows
inductive Ents (w:World):List DictEntry→List (Str × V)→Prop
 | nil:Ents w [] []
 | cons {x:Str} {t:Tok} {y:V} {v:Value} {es:List DictEntry} {kvs:List (Str × V)}:RelV y v→Ents w es kvs→Ents w (⟨PyData.keyHash w.params x,.str x t,v⟩::es) ((x,y)::kvs)
theorem Ents.vs{P:Program}{w:World}{es:List DictEntry}{kvs:List (Str × V)}(h:Ents w es kvs):∃ vs:List (Str × Value),KV kvs vs∧PySem.Pairs (PySem.strKind P w) es vs∧vs.map (·.1)=kvs.map (·.1)∧∀ e∈es,∃ k,(PySem.strKind P w).is k e.key=true∧e.hash=(PySem.strKind P w).hash k:=by
 induction h with
 | nil=>exact⟨[],.nil,.nil,rfl,fun _ h=>nomatch h⟩
 | @cons x t y v es kvs r _ ih=>
  obtain⟨vs,h1,h2,h3,h4⟩:=ih
  have hx:(PySem.strKind P w).is x (.str x t)=true:=by show Value.isStrOf x (.str x t)=true; simp[Value.isStrOf]
  refine⟨(x,v)::vs,.cons ⟨rfl,r⟩ h1,.cons hx rfl h2,by rw[List.map_cons,List.map_cons,h3],fun e he=>?_⟩
  rcases List.mem_cons.mp he with rfl | he
  ·exact⟨x,hx,rfl⟩
  ·exact h4 e he
structure ModD (w:World) (K:PySem.W.Frag) (d:Addr) (kvs:List (Str × V)):Prop where
 low:(d == sysModules)=false
 nd:(kvs.map (·.1)).Nodup
 at':∃ (o:Obj) (es:List DictEntry) (ep:Nat),K.lookup d=some o∧o.ExactDict∧o.data = .dict es.toArray ep∧Ents w es kvs
section
variable{X:Cx}{pins:List (Addr × Obj)}{σ : St}{H:Hp}{s:Shared}{d:Addr}{kvs:List (Str × V)}
theorem ModD.dict(h:ModD X.w X.K d kvs)(I:Inv X pins σ H s):∃ vs:List (Str × Value),KV kvs vs∧s.heap.DictOf (PySem.strKind X.prog X.w) d vs∧∃ ob,s.heap.get? d=some ob∧ob.dict=none:=by
 obtain⟨o,es,ep,h1,h2,h3,h4⟩:=h.at'
 obtain⟨vs,r1,r2,r3,r4⟩:=h4.vs (P:=X.prog)
 have e:=I.kIn d o h1
 exact⟨vs,r1,⟨o,es.toArray,ep,e,h2,h3,fun x hx=>r4 x (by simpa using hx),by simpa using r2,by rw[r3]; exact h.nd⟩,o,e,h2.2.1⟩
theorem vP{P:Program}{w:World}{k:Str}{u:Value}(r:RelV (.str k) u):(PySem.strKind P w).is k u=true:=by
 obtain⟨t,rfl⟩:=r
 show Value.isStrOf k (.str k t)=true
 simp[Value.isStrOf]
end
section
variable{X:Cx}
def DX(w:World)(K:PySem.W.Frag):R2:=fun x y H Q=>∃ d kvs k z,x = .ref d∧y = .str k∧ModD w K d kvs∧aM kvs k=some z∧Q z H
theorem FR(w:World)(K:PySem.W.Frag)(hw:X.w=w:=by rfl)(hK:X.K=K:=by rfl):IxR X (DX w K):=by
 subst hw hK
 intro value slice pins s σ H x y v u Q I rx ry h hs
 obtain⟨d,kvs,k,z,rfl,rfl,m,l,q⟩:=h
 cases rx
 obtain⟨vs,rel,dd,_⟩:=m.dict I
 obtain⟨w',hw,rw'⟩:=RelO.some_of (v:=z) (o:=valueAt vs k) (by rw[← l]; exact rel.val k)
 have hl:typeLookup (.type "dict") "__getitem__" = pure (some (.builtin "dict.__getitem__")):=PySem.F.slot_dict_getitem.lookup
 exact subscriptTail_builtinR (x:=w') dd.typeIs hl (wpAny_getItem_of (vP ry) dd.mapOf hw ⟨rfl,z,H,I.tok _,rw',q⟩) hs
def CG(w:World)(K:PySem.W.Frag):V→List V→Hp→VK→Prop:=fun x xs H Q=>∃ d kvs k z,x = .ref d∧xs=[.str k,z]∧ModD w K d kvs∧Q ((aM kvs k).getD z) H
theorem zQ(w:World)(K:PySem.W.Frag)(hw:X.w=w:=by rfl)(hK:X.K=K:=by rfl):MtR X "dict.get" (CG w K):=by
 subst hw hK
 intro pins s σ H x vs v us Q I rx rv h
 obtain⟨d,kvs,k,z,rfl,rfl,m,q⟩:=h
 cases rx
 obtain⟨u,r,rfl,ru,rr⟩:=kJ rv
 obtain⟨vs,rel,dd,_⟩:=m.dict I
 refine call_meetsIn PySem.F.slot_dict_get dd.typeIs PySem.F.entry_dict_get (PySem.F.args_dict_get_3 _ _ _) (meets_dict_get_default (PySem.strKind X.prog X.w) d (vP ru) m.low r) ⟨_,dd.mapOf,_,H,I.tok _,?_,q⟩
 exact(rel.val k).getD rr
def Bc(w:World)(K:PySem.W.Frag)(r:V→List V→Hp→VK→Prop)(to:TE)(t:TA):TE:=fun σ H Q=>to σ H fun x H1=>(∃ d kvs,x = .ref d∧ModD w K d kvs)∧t σ H1 fun xs H2=>r x xs H2 Q
theorem BU{o e:Expr}{es:List Expr}{to:TE}{t:TA}{name:Str}{apos cpos:Pos}{id:String}{r:V→List V→Hp→VK→Prop}(w:World)(K:PySem.W.Frag)(pa:PlainAttrs "dict") (slot:Slot "dict" name id) (hty:typeOf (.builtin id)=pure (.type "method_descriptor")) (hm:MtR X id r) (ho:PE X o to) (ha:PA X (e::es) t)
  (hbase:attributeBase o name X.env (eval o X.env)=eval o X.env:=by rfl)
  (hfew:((backTo cpos (starEach (e::es) X.env)).all (fun x=>!x.1)&&(backToKw cpos (keywordEach [] X.env)).all (fun x=>x.1.isSome)&&decide ((e::es).length+([]:List Keyword).length+(if ([]:List Keyword).isEmpty then 0 else 1)<30))=true:=by rfl)
  (hline:(apos.endLine == cpos.line)=true:=by rfl) (hs:starEach (e::es) X.env=(false,eval e X.env)::starEach es X.env:=by rfl) (hplain:(backTo cpos (starEach es X.env)).any (·.1)=false:=by rfl) (hw:X.w=w:=by rfl) (hK:X.K=K:=by rfl) :
  PE X (.Call (.Attribute o name apos) (e::es) [] cpos) (Bc w K r to t):=by
 subst hw hK
 intro pins s σ H Q I h
 refine wpAny_Call_method_late hbase hfew hline rfl (bt (ho pins s σ H _ I h) fun v s1 ⟨x,H1,I1,r1,ty,q1⟩=>?_)
 obtain⟨d,kvs,rfl,m⟩:=ty
 have e1:v = .ref d:=r1
 subst e1
 obtain⟨vs,rel,dd,ob,eo,en⟩:=m.dict I1
 refine⟨"dict", id,pa,slot,hty,dd.typeIs,fun a ea=>⟨ob,by cases ea; exact eo,en⟩,?_⟩
 have hA:=ha cpos pins s1 σ H1 _ I1 q1
 rw[hs]at hA ⊢
 refine Calls.callWith_builtin (by show (false||(backTo cpos (starEach es X.env)).any (·.1))=false; rw[hplain] <;> rfl) (Calls.evalArgs_plain ?_)
 exact bt hA fun us s2 ⟨vs,H2,I2,r2,q2⟩=>hm pins s2 σ H2 _ vs _ us Q I2 r1 r2 q2
end
theorem rb{w:World}{K:PySem.W.Frag}{r:V→List V→Hp→VK→Prop}{to:TE}{t:TA}{σ : St}{H:Hp}{Q:VK}:Bc w K r to t σ H Q=to σ H fun x H1=>(∃ d kvs,x = .ref d∧ModD w K d kvs)∧t σ H1 fun xs H2=>r x xs H2 Q:=rfl
end L2
namespace L2
open PySem PySem.Spec PyProof PyProof.Rows
section
variable{prog:Program}{w:World}{A:Around}{E:Value→Shared→Prop}{s:Shared}
def TSt(i t:Addr)(zs:Array Value)(k:Nat)(h:Heap):Prop:=h.IsTupleIter i t k∧h.IsTuple t zs
theorem TSt.ext{i t b:Addr}{zs:Array Value}{k:Nat}{h h':Heap}(x:TSt i t zs k h)(hs:Heap.ExtBut b h h')(n1:i≠b)(n2:t≠b):TSt i t zs k h':=⟨x.1.extBut hs n1,x.2.extBut hs n2⟩
theorem ku{i t:Addr}{k:Nat}{zs:Array Value}{v:Value}{Q:Value→Shared→Prop}(st:TSt i t zs k s.heap)(nit:t≠i)(hv:zs[k]? = some v)
  (q:∀ h',TSt i t zs (k+1) h'→Heap.SameBut i s.heap h'→Q v { s with heap:=h' }):wpAny (model prog w) A (Builtin.SmallTypes.nextOf (.ref i)) Q E s:=by
 obtain⟨hi,ht⟩:=id st
 obtain⟨ob,e1,e2,e3⟩:=id hi
 obtain⟨ot,f1,_,m,f2⟩:=id ht
 unfold Builtin.SmallTypes.nextOf
 refine wpAny_bind (wpAny_callSpecial?_slot (name:=Str.ofString "__next__") hi.typeIs PySem.F.slot_tuple_iterator_next (wpAny_call_entry PySem.F.slot_tuple_iterator_next hi.typeIs PySem.F.entry_tuple_iterator_next ?_ (PySem.F.args_tuple_iterator_next_1 _)))
 show wpAny _ _ (field (.ref i) 0 >>= _) _ _ s
 refine wpAny_bind (wpAny_field e1 e3 (x:=.ref t) rfl ?_)
 show wpAny _ _ (if (Value.ref t == Value.none)=true then _ else _) _ _ s
 have hno:¬ ((Value.ref t == Value.none)=true):=Bool.false_ne_true
 rw[if_neg hno]
 show wpAny _ _ (field (.ref i) 1 >>= _) _ _ s
 refine wpAny_bind (wpAny_field e1 e3 (x:=.int k 0) rfl ?_)
 show wpAny _ _ (seqItems? (.ref t) >>= _) _ _ s
 refine wpAny_bind (wpAny_seqItems f1 f2 ?_)
 simp only[Int.toNat_natCast,hv]
 refine wpAny_bind (wpAny_setField e1 e3 (by simp) (wpAny_pure ⟨v,rfl,wpAny_pure (q _ ⟨?_,?_⟩ (Heap.SameBut.update ..))⟩))
 ·exact⟨_,Heap.get?_update_self _ e1 (Obj.isFreed_of_fields (Obj.data_mapFields e3 _)),(Obj.cls_mapFields ..).trans e2,by rw[Obj.data_mapFields e3]; simp[rawInt]⟩
 ·exact ht.extBut (Heap.SameBut.update ..).extBut nit
theorem sY{i t:Addr}{k:Nat}{zs:Array Value}{Q:Value→Shared→Prop}(hh:A.handled=none)(st:TSt i t zs k s.heap)(hv:zs[k]? = none)
  (q:∀ h' e,Heap.ExtBut i s.heap h'→(∃ o,h'.get? e=some o∧o.cls = .type "StopIteration")→E (.ref e) { s with heap:=h' }):wpAny (model prog w) A (Builtin.SmallTypes.nextOf (.ref i)) Q E s:=by
 obtain⟨hi,ht⟩:=id st
 obtain⟨ob,e1,e2,e3⟩:=id hi
 obtain⟨ot,f1,_,m,f2⟩:=id ht
 unfold Builtin.SmallTypes.nextOf
 refine wpAny_bind (wpAny_callSpecial?_slot (name:=Str.ofString "__next__") hi.typeIs PySem.F.slot_tuple_iterator_next (wpAny_call_entry PySem.F.slot_tuple_iterator_next hi.typeIs PySem.F.entry_tuple_iterator_next ?_ (PySem.F.args_tuple_iterator_next_1 _)))
 show wpAny _ _ (field (.ref i) 0 >>= _) _ _ s
 refine wpAny_bind (wpAny_field e1 e3 (x:=.ref t) rfl ?_)
 show wpAny _ _ (if (Value.ref t == Value.none)=true then _ else _) _ _ s
 have hno:¬ ((Value.ref t == Value.none)=true):=Bool.false_ne_true
 rw[if_neg hno]
 show wpAny _ _ (field (.ref i) 1 >>= _) _ _ s
 refine wpAny_bind (wpAny_field e1 e3 (x:=.int k 0) rfl ?_)
 show wpAny _ _ (seqItems? (.ref t) >>= _) _ _ s
 refine wpAny_bind (wpAny_seqItems f1 f2 ?_)
 simp only[Int.toNat_natCast,hv]
 refine wpAny_bind (wpAny_rule (wpAny_bind (wpAny_setField e1 e3 (by simp) ?_)))
 show wpAny _ _ (newExc (.type "StopIteration") [] >>= fun z=>_) _ _ _
 refine wpAny_bind ?_
 simp only[newTuple,newExc]
 refine wpAny_bind (wpAny_newObj_type (hd:=by size_fits) ?_)
 refine wpAny_bind (m:=firstArgMember _ _) (wpAny_of_eq (a:=Value.none) (by first | (simp only[firstArgMember]; rfl) | rfl) ?_)
 refine wpAny_newObj_type (hd:=by size_fits) ?_
 simp only[raiseNew]
 refine wpAny_bind (wpAny_handled ?_)
 have hn:A.in1.handled=none:=hh
 first | rw[hn] | rw[hh]
 refine wpAny_bind (wpAny_pure (wpAny_throw (q _ _ (((Heap.SameBut.update ..).extBut.push _).push _) ⟨_,Heap.get?_push_size _ rfl,rfl⟩)))
variable{z TI TO i1 i2 t1 t2:Addr}{xs ys:Array Value}{k1 k2:Nat}{a b:Value}
theorem wH{x y:Value}{Q:Value→Shared→Prop}(D:ZipApart z TI TO i1 i2 t1 t2)(gz:IsZip s.heap z TI TO .none)(gI:IsPair s.heap TI (.ref i1) (.ref i2))(gO:IsPair s.heap TO a b)
  (g1:TSt i1 t1 xs k1 s.heap) (g2:TSt i2 t2 ys k2 s.heap) (hx:xs[k1]? = some x) (hy:ys[k2]? = some y)
  (q:∀ h',IsZip h' z TI TO (rawInt s.heap.objs.size)→IsPair h' TO x y→TSt i1 t1 xs (k1+1) h'→TSt i2 t2 ys (k2+1) h'→IsPair h' s.heap.objs.size x y→h'.objs.size=s.heap.objs.size+1→
   (∀ c o,c≠z→c≠TO→c≠i1→c≠i2→s.heap.get? c=some o→h'.get? c=some o)→Q (.ref s.heap.objs.size) { s with heap:=h' }) :
  wpAny (model prog w) A (Builtin.«zip.__next__» ⟨[.ref z],[]⟩) (fun fin s'=>∃ v,fin = .done (.ret v)∧Q v s') E s:=by
 show wpAny _ _ (field (.ref z) 2 >>= fun _=>_) _ _ _
 refine wpAny_bind (wpAny_field gz rfl (x:=.bool false) rfl ?_)
 show wpAny _ _ (field (.ref z) 3 >>= fun _=>_) _ _ _
 refine wpAny_bind (wpAny_field gz rfl (x:=.ref TI) rfl (wpAny_bind (wpAny_seqItems gI rfl ?_)))
 show wpAny _ _ (Builtin.SmallTypes.ownedTupleIsFree (.ref z) >>= fun _=>_) _ _ _
 refine wpAny_bind ?_
 unfold Builtin.SmallTypes.ownedTupleIsFree
 refine wpAny_bind (wpAny_field gz rfl (x:=.none) rfl (wpAny_pure ?_))
 simp only[if_true]
 refine wpAny_bind (wpAny_rule (wpAny_bind (wpAny_field gz rfl (x:=.ref TO) rfl (wpAny_bind (wpAny_setField_rec gz (by simp) fun ha z1 m1=>?_)))))
 replace z1:IsZip ha z TI TO .ellipsis:=z1
 refine wpAny_bind ?_
 simp only[List.zipIdx_nil,List.zipIdx_cons,List.forIn_nil,List.forIn_cons]
 refine wpAny_bind (wpAny_bind (wpAny_onRaise ?_))
 show wpAny _ _ (Builtin.SmallTypes.nextOf (.ref i1) >>= fun _=>_) _ _ _
 refine wpAny_bind (ku (g1.ext m1.extBut D.i1z D.l1z) D.l1i1 hx fun hb r1 m2=>wpAny_pure ?_)
 have o2:IsPair hb TO a b:=m2.extBut _ _ D.TOi1 (m1.extBut _ _ D.TOz gO)
 refine wpAny_bind (wpAny_seqItems o2 rfl (wpAny_bind (wpAny_updateSeq_pair o2 fun hc o3 m3=>wpAny_bind (wpAny_letGo (wpAny_pure ?_)))))
 replace o3:IsPair hc TO x b:=o3
 refine wpAny_bind (wpAny_bind (wpAny_onRaise ?_))
 show wpAny _ _ (Builtin.SmallTypes.nextOf (.ref i2) >>= fun _=>_) _ _ _
 refine wpAny_bind (ku (((g2.ext m1.extBut D.i2z D.l2z).ext m2.extBut D.i12.symm D.l2i1).ext m3.extBut D.TOi2.symm D.l2TO) D.l2i2 hy fun hd r2 m4=>wpAny_pure ?_)
 have o4:IsPair hd TO x b:=m4.extBut _ _ D.TOi2 o3
 refine wpAny_bind (wpAny_seqItems o4 rfl (wpAny_bind (wpAny_updateSeq_pair o4 fun he o5 m5=>wpAny_bind (wpAny_letGo (wpAny_pure (wpAny_pure ?_))))))
 replace o5:IsPair he TO x y:=o5
 refine wpAny_bind (wpAny_seqItems o5 rfl (wpAny_bind (wpAny_newTuple ?_)))
 have hsz:he.objs.size=s.heap.objs.size:=by rw[m5.1,m4.1,m3.1,m2.1,m1.1]
 have z5:IsZip he z TI TO .ellipsis:=m5.extBut _ _ D.TOz.symm (m4.extBut _ _ D.i2z.symm (m3.extBut _ _ D.TOz.symm (m2.extBut _ _ D.i1z.symm z1)))
 have kp:∀ c o,c≠z→c≠TO→c≠i1→c≠i2→s.heap.get? c=some o→he.get? c=some o:=fun c o c1 c2 c3 c4 e=>m5.extBut _ _ c2 (m4.extBut _ _ c4 (m3.extBut _ _ c2 (m2.extBut _ _ c3 (m1.extBut _ _ c1 e))))
 have r1':TSt i1 t1 xs (k1+1) he:=((r1.ext m3.extBut D.TOi1.symm D.l1TO).ext m4.extBut D.i12 D.l1i2).ext m5.extBut D.TOi1.symm D.l1TO
 have r2':TSt i2 t2 ys (k2+1) he:=r2.ext m5.extBut D.TOi2.symm D.l2TO
 have zlt:z<he.objs.size:=Heap.lt_size z5
 show wpAny _ _ (Builtin.SmallTypes.ownedTupleHandOut (.ref z) (.ref he.objs.size) >>= fun _=>_) _ _ _
 refine wpAny_bind ?_
 unfold Builtin.SmallTypes.ownedTupleHandOut
 have z6:IsZip (he.push { cls:=.type "tuple", data:=.seq #[x,y] }) z TI TO .ellipsis:=Heap.get?_push_of_some _ z5
 refine wpAny_bind (wpAny_setField_rec z6 (by simp) fun hf z7 m7=>?_)
 replace z7:IsZip hf z TI TO (rawInt he.objs.size):=z7
 refine wpAny_setField_rec z7 (by simp) fun hg z8 m8=>?_
 replace z8:IsZip hg z TI TO (rawInt he.objs.size):=z8
 have up:∀ c o,c≠z→he.get? c=some o→hg.get? c=some o:=fun c o c1 e=>m8.extBut _ _ c1 (m7.extBut _ _ c1 (Heap.get?_push_of_some _ e))
 have t8:IsPair hg he.objs.size x y:=m8.extBut _ _ (Nat.ne_of_gt zlt) (m7.extBut _ _ (Nat.ne_of_gt zlt) (Heap.get?_push_size _ rfl))
 have s8:hg.objs.size=he.objs.size+1:=by rw[m8.1,m7.1,Heap.size_push]
 rw[hsz]at z8 t8 s8
 refine wpAny_pure ⟨_,rfl,?_⟩
 show Q (.ref he.objs.size) _
 rw[hsz]
 have ex:Heap.ExtBut z he hg:=fun c o c1 e=>up c o c1 e
 exact q hg z8 (up _ _ D.TOz o5) (r1'.ext ex D.i1z D.l1z) (r2'.ext ex D.i2z D.l2z) t8 s8 fun c o c1 c2 c3 c4 e=>up c o c1 (kp c o c1 c2 c3 c4 e)
theorem yi{Q:Fin→Shared→Prop}(hh:A.handled=none)(D:ZipApart z TI TO i1 i2 t1 t2)(gz:IsZip s.heap z TI TO .none)(gI:IsPair s.heap TI (.ref i1) (.ref i2))(gO:IsPair s.heap TO a b)
  (g1:TSt i1 t1 xs k1 s.heap) (g2:TSt i2 t2 ys k2 s.heap) (hend:xs[k1]? = none∨ys[k2]? = none)
  (q:∀ h' e,(∀ c o,c≠z→c≠TO→c≠i1→c≠i2→s.heap.get? c=some o→h'.get? c=some o)→(∃ o,h'.get? e=some o∧o.cls = .type "StopIteration")→E (.ref e) { s with heap:=h' }) :
  wpAny (model prog w) A (Builtin.«zip.__next__» ⟨[.ref z],[]⟩) Q E s:=by
 show wpAny _ _ (field (.ref z) 2 >>= fun _=>_) _ _ _
 refine wpAny_bind (wpAny_field gz rfl (x:=.bool false) rfl ?_)
 show wpAny _ _ (field (.ref z) 3 >>= fun _=>_) _ _ _
 refine wpAny_bind (wpAny_field gz rfl (x:=.ref TI) rfl (wpAny_bind (wpAny_seqItems gI rfl ?_)))
 show wpAny _ _ (Builtin.SmallTypes.ownedTupleIsFree (.ref z) >>= fun _=>_) _ _ _
 refine wpAny_bind ?_
 unfold Builtin.SmallTypes.ownedTupleIsFree
 refine wpAny_bind (wpAny_field gz rfl (x:=.none) rfl (wpAny_pure ?_))
 simp only[if_true]
 refine wpAny_bind (wpAny_rule (wpAny_bind (wpAny_field gz rfl (x:=.ref TO) rfl (wpAny_bind (wpAny_setField_rec gz (by simp) fun ha z1 m1=>?_)))))
 replace z1:IsZip ha z TI TO .ellipsis:=z1
 refine wpAny_bind ?_
 simp only[List.zipIdx_nil,List.zipIdx_cons,List.forIn_nil,List.forIn_cons]
 refine wpAny_bind (wpAny_bind (wpAny_onRaise ?_))
 show wpAny _ _ (Builtin.SmallTypes.nextOf (.ref i1) >>= fun _=>_) _ _ _
 have stop:∀ {h':Heap} {e:Addr},IsZip h' z TI TO .ellipsis→(∃ o,h'.get? e=some o∧o.cls = .type "StopIteration")→e≠z:=fun {h' e} hz ⟨o,ho,hc⟩ n=>by
  subst n; rw[hz]at ho; cases ho; simp at hc
 rcases hx:xs[k1]? with _ | x
 ·refine wpAny_bind (sY hh (g1.ext m1.extBut D.i1z D.l1z) hx fun hb e m2 he=>?_)
  have z2:IsZip hb z TI TO .ellipsis:=m2 _ _ D.i1z.symm z1
  have nz:=stop z2 he
  obtain⟨oe,p1,p2⟩:=he
  exact wpAny_setField_rec z2 (by simp) fun hc _ m3=>q hc e (fun c o c1 _ c3 _ x=>m3.extBut _ _ c1 (m2 _ _ c3 (m1.extBut _ _ c1 x))) ⟨oe,m3.extBut _ _ nz p1,p2⟩
 ·have hy:ys[k2]? = none:=by
   rcases hend with h | h
   ·rw[hx]at h; cases h
   ·exact h
  refine wpAny_bind (ku (g1.ext m1.extBut D.i1z D.l1z) D.l1i1 hx fun hb r1 m2=>wpAny_pure ?_)
  have o2:IsPair hb TO a b:=m2.extBut _ _ D.TOi1 (m1.extBut _ _ D.TOz gO)
  refine wpAny_bind (wpAny_seqItems o2 rfl (wpAny_bind (wpAny_updateSeq_pair o2 fun hc o3 m3=>wpAny_bind (wpAny_letGo (wpAny_pure ?_)))))
  refine wpAny_bind (wpAny_bind (wpAny_onRaise ?_))
  show wpAny _ _ (Builtin.SmallTypes.nextOf (.ref i2) >>= fun _=>_) _ _ _
  refine wpAny_bind (sY hh (((g2.ext m1.extBut D.i2z D.l2z).ext m2.extBut D.i12.symm D.l2i1).ext m3.extBut D.TOi2.symm D.l2TO) hy fun hd e m4 he=>?_)
  have z4:IsZip hd z TI TO .ellipsis:=m4 _ _ D.i2z.symm (m3.extBut _ _ D.TOz.symm (m2.extBut _ _ D.i1z.symm z1))
  have nz:=stop z4 he
  obtain⟨oe,p1,p2⟩:=he
  exact wpAny_setField_rec z4 (by simp) fun hg _ m5=>q hg e (fun c o c1 c2 c3 c4 x=>m5.extBut _ _ c1 (m4 _ _ c4 (m3.extBut _ _ c2 (m2.extBut _ _ c3 (m1.extBut _ _ c1 x))))) ⟨oe,m5.extBut _ _ nz p1,p2⟩
end
end L2
namespace L2
open PySem PySem.Spec PyProof PyProof.Rows
section
variable{prog:Program}{w:World}{A:Around}{E:Value→Shared→Prop}{s:Shared}{z TI TO i1 i2 t1 t2:Addr}{xs ys:Array Value}{k1 k2:Nat}{a b:Value}
theorem tW{x y:Value}{Q:Option Value→Shared→Prop}(D:ZipApart z TI TO i1 i2 t1 t2)(gz:IsZip s.heap z TI TO .none)(gI:IsPair s.heap TI (.ref i1) (.ref i2))(gO:IsPair s.heap TO a b)
  (g1:TSt i1 t1 xs k1 s.heap) (g2:TSt i2 t2 ys k2 s.heap) (hx:xs[k1]? = some x) (hy:ys[k2]? = some y)
  (q:∀ h',IsZip h' z TI TO (rawInt s.heap.objs.size)→IsPair h' TO x y→TSt i1 t1 xs (k1+1) h'→TSt i2 t2 ys (k2+1) h'→IsPair h' s.heap.objs.size x y→h'.objs.size=s.heap.objs.size+1→
   (∀ c o,c≠z→c≠TO→c≠i1→c≠i2→s.heap.get? c=some o→h'.get? c=some o)→Q (some (.ref s.heap.objs.size)) { s with heap:=h' }):wpAny (model prog w) A (pyNext (.ref z)) Q E s:=by
 have ty:s.TypeIs (.ref z) "zip" := ⟨_,gz,rfl⟩
 unfold pyNext
 exact wpAny_bind (wpAny_attempt (wpAny_callSpecial?_slot (name:=Str.ofString "__next__") ty PySem.F.slot_zip_next (wpAny_call_entry PySem.F.slot_zip_next ty PySem.F.entry_zip_next
  (wH D gz gI gO g1 g2 hx hy fun h' a1 a2 a3 a4 a5 a6 a7=>wpAny_pure (q h' a1 a2 a3 a4 a5 a6 a7)) (PySem.F.args_zip_next_1 _))))
theorem vf{Q:Option Value→Shared→Prop}(hh:A.handled=none)(D:ZipApart z TI TO i1 i2 t1 t2)(gz:IsZip s.heap z TI TO .none)(gI:IsPair s.heap TI (.ref i1) (.ref i2))(gO:IsPair s.heap TO a b)
  (g1:TSt i1 t1 xs k1 s.heap) (g2:TSt i2 t2 ys k2 s.heap) (hend:xs[k1]? = none∨ys[k2]? = none)
  (q:∀ h',(∀ c o,c≠z→c≠TO→c≠i1→c≠i2→s.heap.get? c=some o→h'.get? c=some o)→Q none { s with heap:=h' }):wpAny (model prog w) A (pyNext (.ref z)) Q E s:=by
 have ty:s.TypeIs (.ref z) "zip" := ⟨_,gz,rfl⟩
 unfold pyNext
 refine wpAny_bind (wpAny_attempt (wpAny_callSpecial?_slot (name:=Str.ofString "__next__") ty PySem.F.slot_zip_next (wpAny_call_entry PySem.F.slot_zip_next ty PySem.F.entry_zip_next
  (yi hh D gz gI gO g1 g2 hend fun h' e kk he=>?_) (PySem.F.args_zip_next_1 _))))
 obtain⟨o,ho,hc⟩:=he
 exact wpAny_bind (wpAny_isInstance (T := "StopIteration") (b:=true) ⟨o,ho,hc⟩ isSubtype_stop (wpAny_pure (q _ kk)))
abbrev zh (h:Heap) (t1:Addr):Heap:=h.push { cls:=.type "tuple_iterator", data:=.fields #[.ref t1,.int 0 0] }
abbrev yU (h:Heap) (t1 t2:Addr):Heap:=(zh h t1).push { cls:=.type "tuple_iterator", data:=.fields #[.ref t2,.int 0 0] }
abbrev yC (h:Heap) (t1 t2:Addr):Heap:=(yU h t1 t2).push { cls:=.type "tuple", data:=.seq #[.ref h.objs.size,.ref (zh h t1).objs.size] }
abbrev zc (h:Heap) (t1 t2:Addr):Heap:=(yC h t1 t2).push { cls:=.type "tuple", data:=.seq #[.none,.none] }
abbrev m_ (h:Heap) (t1 t2:Addr):Heap:=(zc h t1 t2).push { cls:=.type "zip", data:=.fields #[.none,.bool false,.bool false,.ref (yU h t1 t2).objs.size,.ref (yC h t1 t2).objs.size] }
theorem uy(t1 t2:Addr)(xs ys:Array Value):Meets (Builtin.«zip.__new__» ⟨[.type "zip", .ref t1,.ref t2],[]⟩) (fun _ R s=>s.heap.IsTuple t1 xs∧s.heap.IsTuple t2 ys∧
   R (.ok (.ret (.ref (zc s.heap t1 t2).objs.size))) { s with heap:=m_ s.heap t1 t2 }):=
 .of_wp fun prog w A R s q=>by
  obtain⟨hp,g,d,tk,os⟩:=s
  obtain⟨e1,e2,q⟩:=q
  have hsub:=sub_zip
  have f1:Heap.IsTuple (Shared.heap ⟨hp,g,d,tk,os⟩) t1 xs:=e1
  have f2:Heap.IsTuple (Shared.heap ⟨hp.push { cls:=.type "tuple_iterator", data:=.fields #[.ref t1,.int 0 0] },g,d,tk,os⟩) t2 ys:=Heap.IsTuple.push e2 _
  wp_walk using wpAny_pyIter_tuple f1,wpAny_pyIter_tuple f2
  exact⟨_,rfl,q⟩
theorem uV{Q:Value→Shared→Prop}(e1:s.heap.IsTuple t1 xs)(e2:s.heap.IsTuple t2 ys)
  (q:∀ h',IsZip h' (s.heap.objs.size+4) (s.heap.objs.size+2) (s.heap.objs.size+3) .none→IsPair h' (s.heap.objs.size+2) (.ref s.heap.objs.size) (.ref (s.heap.objs.size+1))→
   IsPair h' (s.heap.objs.size+3) .none .none→TSt s.heap.objs.size t1 xs 0 h'→TSt (s.heap.objs.size+1) t2 ys 0 h'→
   (∀ c o,s.heap.get? c=some o→h'.get? c=some o)→Q (.ref (s.heap.objs.size+4)) { s with heap:=h' }):wpAny (model prog w) A (call (.type "zip") [.ref t1,.ref t2]) Q E s:=by
 refine callType_new PySem.F.called_zip (by decide) (PySem.F.typeCall_zip_2 _ _) (PySem.F.newCall_zip_2 _ _) (fun obj=>PySem.F.args_object_init_3 obj _ _) PySem.F.entry_zip_new (uy t1 t2 xs ys) ⟨e1,e2,?_⟩
 have z1:(zh s.heap t1).objs.size=s.heap.objs.size+1:=Heap.size_push ..
 have z2:(yU s.heap t1 t2).objs.size=s.heap.objs.size+2:=by rw[Heap.size_push,z1]
 have z3:(yC s.heap t1 t2).objs.size=s.heap.objs.size+3:=by rw[Heap.size_push,z2]
 have z4:(zc s.heap t1 t2).objs.size=s.heap.objs.size+4:=by rw[Heap.size_push,z3]
 have p:∀ {h:Heap} {o:Obj} {c:Addr} {u:Obj},h.get? c=some u→(h.push o).get? c=some u:=fun e=>Heap.get?_push_of_some _ e
 have kk:∀ c o,s.heap.get? c=some o→(m_ s.heap t1 t2).get? c=some o:=fun c o e=>p (p (p (p (p e))))
 have g5:(m_ s.heap t1 t2).get? (zc s.heap t1 t2).objs.size=some _:=Heap.get?_push_size _ rfl
 have g4:(m_ s.heap t1 t2).get? (yC s.heap t1 t2).objs.size=some _:=p (Heap.get?_push_size _ rfl)
 have g3:(m_ s.heap t1 t2).get? (yU s.heap t1 t2).objs.size=some _:=p (p (Heap.get?_push_size _ rfl))
 have g2:(m_ s.heap t1 t2).get? (zh s.heap t1).objs.size=some _:=p (p (p (Heap.get?_push_size _ rfl)))
 have g1:(m_ s.heap t1 t2).get? s.heap.objs.size=some _:=p (p (p (p (Heap.get?_push_size _ rfl))))
 show _∧_
 rw[z2,z3,z4]at g5
 rw[z1,z2]at g3
 rw[z3]at g4
 rw[z1]at g2
 rw[z4]
 have tt:∀ {t zs},s.heap.IsTuple t zs→(m_ s.heap t1 t2).IsTuple t zs:=fun ⟨o,e,r⟩=>⟨o,kk _ _ e,r⟩
 exact⟨⟨_,g5,rfl⟩,q _ g5 g3 g4 ⟨⟨_,g1,rfl,rfl⟩,tt e1⟩ ⟨⟨_,g2,rfl,rfl⟩,tt e2⟩ kk⟩
end
def zm(K:PySem.W.Frag)(a b:Addr):It:=
  ⟨fun i H=>∃ xs ys x y,SqT K H a xs∧SqT K H b ys∧xs[i]? = some x∧ys[i]? = some y,
   fun i H v H'=>∃ t x y,H t=none∧v = .ref t∧H'=upd H t (.tup [x,y])∧(∀ xs,SqT K H a xs→xs[i]? = some x)∧∀ ys,SqT K H b ys→ys[i]? = some y,
   fun i H=>∃ xs ys,SqT K H a xs∧SqT K H b ys∧(xs.length≤i∨ys.length≤i)⟩
def UZ(z TI TO i1 i2 l1 l2:Addr)(i:Nat)(h:Heap):Prop:=
 IsZip h z TI TO .none∧IsPair h TI (.ref i1) (.ref i2)∧(∃ a b,IsPair h TO a b)∧h.IsTupleIter i1 l1 i∧h.IsTupleIter i2 l2 i
end L2
namespace L2
open PySem PySem.Spec PyProof PyProof.Rows
theorem SqT.apart{X:Cx}{pins:List (Addr × Obj)}{σ : St}{H:Hp}{s:Shared}{a c:Addr}{xs:List V}(I:Inv X pins σ H s)(hf:gC X pins H c)(h:SqT X.K H a xs):a≠c:=by
 rintro rfl
 rcases h with h | ⟨o,its,n,hk,_⟩
 ·rcases h with e | ⟨o,e⟩ <;> (rw[hf.1]at e; cases e)
 ·have e:=I.ok.mod.kin a o hk
  rcases hf.2.2.2.1 with z | z
  ·exact I.ok.noex a o e z
  ·exact absurd (Nat.lt_of_lt_of_le (Heap.lt_size (I.ok.bs a o e).1) z) (Nat.lt_irrefl _)
theorem vb{P:Program}{w:World}{K:PySem.W.Frag}{elts:List Expr}{k:Nat}{pos:Pos}{z TI TO i1 i2 l1 l2:Addr}(D:kD z TI TO i1 i2):iH P w K (.Tuple elts k pos) (zm K l1 l2) [z,TI,TO,i1,i2] z (UZ z TI TO i1 i2 l1 l2) where
 mem:=by simp
 obj:=fun i h st b hb=>by
  obtain⟨s1,s2,⟨_,_,s3⟩,⟨o4,s4,c4,d4⟩,⟨o5,s5,c5,d5⟩⟩:=st
  simp only[List.mem_cons,List.mem_nil_iff,or_false]at hb
  rcases hb with rfl | rfl | rfl | rfl | rfl
  ·exact⟨_,s1,fun v e=>by cases e⟩
  ·exact⟨_,s2,fun v e=>by cases e⟩
  ·exact⟨_,s3,fun v e=>by cases e⟩
  ·exact⟨_,s4,fun v e=>by rw[d4]at e; cases e⟩
  ·exact⟨_,s5,fun v e=>by rw[d5]at e; cases e⟩
 keep:=fun i h h' st kk=>by
  obtain⟨s1,s2,⟨a,b,s3⟩,s4,s5⟩:=st
  exact⟨kk z (by simp) _ s1,kk TI (by simp) _ s2,⟨a,b,kk TO (by simp) _ s3⟩,s4.at fun o e=>kk i1 (by simp) o e,s5.at fun o e=>kk i2 (by simp) o e⟩
 item:=by
  intro X hP hw hK hc i pins s σ H E I hf st hg
  subst hP hw hK
  obtain⟨xs,ys,x,y,q1,q2,hx,hy⟩:=hg
  obtain⟨is1,rv1,p1,_⟩:=I.tuple q1
  obtain⟨is2,rv2,p2,_⟩:=I.tuple q2
  obtain⟨u1,hu1,ru1⟩:=rv1.get hx
  obtain⟨u2,hu2,ru2⟩:=rv2.get hy
  have n1:∀ c∈[z,TI,TO,i1,i2],l1≠c:=fun c hc'=>SqT.apart I (hf c hc') q1
  have n2:∀ c∈[z,TI,TO,i1,i2],l2≠c:=fun c hc'=>SqT.apart I (hf c hc') q2
  have D':ZipApart z TI TO i1 i2 l1 l2:=⟨D.TIz,D.TOz,D.i1z,D.i2z,D.TITO,D.TIi1,D.TIi2,D.TOi1,D.TOi2,D.i12,n1 _ (by simp),n1 _ (by simp),n1 _ (by simp),n1 _ (by simp),n2 _ (by simp),n2 _ (by simp),n2 _ (by simp),n2 _ (by simp)⟩
  obtain⟨s1,s2,⟨a,b,s3⟩,s4,s5⟩:=st
  have e1:s.heap.IsTuple l1 is1.toArray:=p1
  have e2:s.heap.IsTuple l2 is2.toArray:=p2
  refine tW D' s1 s2 s3 ⟨s4,e1⟩ ⟨s5,e2⟩ (x:=u1) (y:=u2) (by simpa using hu1) (by simpa using hu2) fun h' a1 a2 a3 a4 a5 a6 kk=>?_
  refine⟨_,rfl,wpAny_letOwnedTupleGo_zip a1 fun h'' hz' hs'=>?_⟩
  have lt:∀ {c o},s.heap.get? c=some o→s.heap.objs.size≠c:=fun e=>Nat.ne_of_gt (Heap.lt_size e)
  have zne:s.heap.objs.size≠z:=lt s1
  have keep2:∀ b o,b∉[z,TI,TO,i1,i2]→s.heap.get? b=some o→h''.get? b=some o:=fun b o hb e=>by
   simp only[List.mem_cons,List.mem_nil_iff,or_false,not_or]at hb
   exact hs'.extBut _ _ hb.1 (kk b o hb.1 hb.2.2.1 hb.2.2.2.1 hb.2.2.2.2 e)
  have hsz:H s.heap.objs.size=none:=I.hok.fresh (Nat.le_refl _)
  have tupN:IsPair h'' s.heap.objs.size u1 u2:=hs'.extBut _ _ zne a5
  have nlt:∀ c∈[z,TI,TO,i1,i2],c≠s.heap.objs.size:=fun c hc'=>by
   obtain⟨o4,e4,_⟩:=id s4
   obtain⟨o5,e5,_⟩:=id s5
   simp only[List.mem_cons,List.mem_nil_iff,or_false]at hc'
   rcases hc' with rfl | rfl | rfl | rfl | rfl
   ·exact(lt s1).symm
   ·exact(lt s2).symm
   ·exact(lt s3).symm
   ·exact(lt e4).symm
   ·exact(lt e5).symm
  refine⟨.ref s.heap.objs.size,upd H s.heap.objs.size (.tup [x,y]),I.turnedLaid (t':=s.toks) keep2 hf (Nat.le_refl _) ⟨aS (by show 2≤1000000; decide),[u1,u2],.cons ru1 (.cons ru2 .nil),⟨_,tupN,rfl,rfl,0,rfl⟩⟩,rfl,⟨_,x,y,hsz,rfl,rfl,fun xs' q'=>?_,fun ys' q'=>?_⟩,
   ⟨hz',hs'.extBut _ _ D.TIz (kk _ _ D.TIz D.TITO D.TIi1 D.TIi2 s2),⟨_,_,hs'.extBut _ _ D.TOz a2⟩,a3.1.extBut hs'.extBut D.i1z,a4.1.extBut hs'.extBut D.i2z⟩,fun c hc'=>?_⟩
  ·rw[I.tuple_inj q' q1]; exact hx
  ·rw[I.tuple_inj q' q2]; exact hy
  ·rw[ah (nlt c hc')]; exact(hf c hc').1
 done:=by
  intro X hP hw hK hc i pins s σ H E I hf st hg
  subst hP hw hK
  obtain⟨xs,ys,q1,q2,hlen⟩:=hg
  obtain⟨is1,rv1,p1,_⟩:=I.tuple q1
  obtain⟨is2,rv2,p2,_⟩:=I.tuple q2
  have l1:=rv1.length
  have l2:=rv2.length
  have n1:∀ c∈[z,TI,TO,i1,i2],_≠c:=fun c hc'=>SqT.apart I (hf c hc') q1
  have n2:∀ c∈[z,TI,TO,i1,i2],_≠c:=fun c hc'=>SqT.apart I (hf c hc') q2
  have D':ZipApart z TI TO i1 i2 _ _:=⟨D.TIz,D.TOz,D.i1z,D.i2z,D.TITO,D.TIi1,D.TIi2,D.TOi1,D.TOi2,D.i12,n1 _ (by simp),n1 _ (by simp),n1 _ (by simp),n1 _ (by simp),n2 _ (by simp),n2 _ (by simp),n2 _ (by simp),n2 _ (by simp)⟩
  obtain⟨s1,s2,⟨a,b,s3⟩,s4,s5⟩:=st
  have e1:s.heap.IsTuple _ is1.toArray:=p1
  have e2:s.heap.IsTuple _ is2.toArray:=p2
  refine vf (I.ok.hd hc) D' s1 s2 s3 ⟨s4,e1⟩ ⟨s5,e2⟩ ?_ fun h' kk=>⟨rfl,I.turnedL (t':=s.toks) (fun b o hb e=>?_) hf⟩
  ·rcases hlen with z | z
   ·exact .inl (by simp; omega)
   ·exact .inr (by simp; omega)
  ·simp only[List.mem_cons,List.mem_nil_iff,or_false,not_or]at hb
   exact kk b o hb.1 hb.2.2.1 hb.2.2.2.1 hb.2.2.2.2 e
 self:=fun A i s Q E st h=>wpAny_pyIter_zip st.1 h
def y6(K:PySem.W.Frag)(ta:TA):TI:=fun σ H R=>ta σ H fun vs H1=>∃ a b:Addr,vs=[.ref a,.ref b]∧(∃ xs,SqT K H1 a xs)∧(∃ ys,SqT K H1 b ys)∧R (zm K a b) H1
theorem pG(K:PySem.W.Frag)(ta:TA){σ : St}{H:Hp}{R:It→Hp→Prop}:y6 K ta σ H R=ta σ H fun vs H1=>∃ a b:Addr,vs=[.ref a,.ref b]∧(∃ xs,SqT K H1 a xs)∧(∃ ys,SqT K H1 b ys)∧R (zm K a b) H1:=rfl
theorem lZ(K:PySem.W.Frag){X:Cx}{elts:List Expr}{k:Nat}{tpos:Pos}{a b:Expr}{ta:TA}{p pos:Pos}(hg:Gl X "zip") (hm:X.mg "zip" = none) (ha:PA X [a,b] ta) (hs:starEach [a,b] X.env=[(false,eval a X.env),(false,eval b X.env)]:=by rfl) (hs2:starEach [b] X.env=[(false,eval b X.env)]:=by rfl) (hK:X.K=K:=by rfl) :
  PI X (.Tuple elts k tpos) (.Call (.Name "zip" p) [a,b] [] pos) (y6 K ta):=by
 subst hK
 intro pins s σ H R I h
 refine Call_ (fT I hg hm oJ (PyProof.Rows.callWith_type1 (bt (ha pos pins s σ H _ I h) fun us s1 ⟨vs,H1,I1,r1,q1⟩=>?_) (by rw[hs,hs2]) (by rw[hs2]; rfl)))
 obtain⟨l1,l2,e,⟨xs,h1⟩,⟨ys,h2⟩,q⟩:=q1
 subst e
 obtain⟨u1,u2,rfl,r1,r2⟩:=kJ r1
 cases r1
 cases r2
 obtain⟨is1,_,p1,_⟩:=I1.tuple h1
 obtain⟨is2,_,p2,_⟩:=I1.tuple h2
 refine uV (show s1.heap.IsTuple l1 is1.toArray from p1) (show s1.heap.IsTuple l2 is2.toArray from p2) fun h' a1 a2 a3 a4 a5 kk=>?_
 refine wpAny_pyIter_zip a1 ⟨_,[s1.heap.objs.size+4,s1.heap.objs.size+2,s1.heap.objs.size+3,s1.heap.objs.size,s1.heap.objs.size+1],_,_,H1,rfl,I1.kept (t':=s1.toks) kk,
  vb (z:=s1.heap.objs.size+4) (TI:=s1.heap.objs.size+2) (TO:=s1.heap.objs.size+3) (i1:=s1.heap.objs.size) (i2:=s1.heap.objs.size+1) (C7 _),⟨a1,a2,⟨_,_,a3⟩,a4.1,a5.1⟩,fun b hb=>?_,q⟩
 have hb':s1.heap.objs.size≤b:=by
  simp only[List.mem_cons,List.mem_nil_iff,or_false]at hb
  rcases hb with rfl | rfl | rfl | rfl | rfl <;> first | exact Nat.le_refl _ | exact Nat.le_add_right _ _
 exact I1.fpOk hb' (I1.hok.fresh hb')
end L2
namespace L2
open PySem PySem.Spec PyProof PyProof.Rows
section
variable{prog:Program}{w:World}{A:Around}{E:Value→Shared→Prop}{s:Shared}
theorem nM{t sl:Addr}{items:Array Value}{vl vu:Value}{lo hi:Option Int}{Q:Value→Shared→Prop}(ht:IsTup s.heap t items)(hs:s.heap.IsSliceOf sl vl vu .none)(pl:PySem.IsPart vl lo)(pu:PySem.IsPart vu hi)
  (hw:HT.sIx items.size 0 lo=0∧HT.sIx items.size items.size hi=items.size) (q:Q (.ref t) s):wpAny (model prog w) A (getItem (.ref t) (.ref sl)) Q E s:=by
 obtain⟨os,g1,g2,g3⟩:=id hs
 have ty:s.TypeIs (.ref sl) "slice" := ⟨os,g1,g2⟩
 unfold getItem
 try with_reducible refine wpAny_holding ?_
 first | refine wpAny_bind (wpAny_pure ?_) | skip
 refine wpAny_bind (wpAny_sequenceKey ht.typeIs (by decide) (wpAny_bind (wpAny_callSpecial?_slot (name:=Str.ofString "__getitem__") ht.typeIs PyProof.Rows.slot_tuple_getitem (wpAny_call_entry PyProof.Rows.slot_tuple_getitem ht.typeIs entry_tuple_getitem ?_ (args_tuple_getitem _ _)))))
 show wpAny _ _ (Builtin.Tuple.tupleItemsOf (.ref t) >>= fun _=>_) _ _ s
 refine wpAny_bind (tupleItemsOf_ ht (wpAny_bind (wpAny_typeOf ty ?_)))
 rw[if_pos (by decide)]
 refine wpAny_bind (HT.sliceApplied_gen hs pl pu ?_)
 have hyes:((((HT.sIx items.size 0 lo:Nat):Int) == 0&&(1:Int) == 1&&(HT.sIx items.size items.size hi - HT.sIx items.size 0 lo) == items.size)=true):=by
  rw[hw.1,hw.2]; simp
 show wpAny _ _ (if (((HT.sIx items.size 0 lo:Nat):Int) == 0&&(1:Int) == 1&&(HT.sIx items.size items.size hi - HT.sIx items.size 0 lo) == items.size)=true then _ else _) _ _ s
 rw[if_pos hyes]
 refine wpAny_bind (m:=Builtin.Tuple.tupleIsExact _) (wpAny_bind (wpAny_typeOf ht.typeIs (wpAny_pure ?_)))
 have hb:(Value.type "tuple" == Value.type "tuple")=true:=by decide
 rw[hb,if_pos rfl]
 exact wpAny_bind (wpAny_rule (wpAny_pure ⟨_,rfl,wpAny_pure q⟩))
end
section
variable{X:Cx}
def yK(K:PySem.W.Frag):V→Option Int→Option Int→Hp→VK→Prop:=fun x lo hi H Q=>∃ a xs,x = .ref a∧SqT K H a xs∧
 (HT.sIx xs.length 0 lo=0∧HT.sIx xs.length xs.length hi=xs.length→Q (.ref a) H)∧(¬ (HT.sIx xs.length 0 lo=0∧HT.sIx xs.length xs.length hi=xs.length)→∀ p,H p=none→Q (.ref p) (upd H p (.tup (df xs lo hi))))
theorem ie(K:PySem.W.Frag)(hK:X.K=K:=by rfl):SlR X (yK K):=by
 subst hK
 intro pins s σ H x v vl vu lo hi sl Q I rx hs pl pu h
 obtain⟨a,xs,rfl,hx,q1,q2⟩:=h
 by_cases hw:HT.sIx xs.length 0 lo=0∧HT.sIx xs.length xs.length hi=xs.length
 ·have rx':=rx
  cases rx
  obtain⟨its,r,ht,hz⟩:=I.tuple hx
  have hlen:its.toArray.size=xs.length:=by rw[List.size_toArray]; exact r.length.symm
  exact⟨"tuple", _,PyProof.Rows.slot_tuple_getitem.lookup,ht.typeIs,nM ht hs pl pu (by rw[hlen]; exact hw) ⟨.ref a,H,I,rx',q1 hw⟩⟩
 ·exact AS pins s σ H _ v vl vu lo hi sl Q I rx hs pl pu ⟨a,xs,rfl,hx,hw,q2 hw⟩
theorem gJ{K:PySem.W.Frag}{H:Hp}{Q:VK}{a:Addr}{lo hi:Option Int}{xs:List V}(h:SqT K H a xs)(q:∀ p H',Same H H'→SqT K H' p (df xs lo hi)→Q (.ref p) H'):yK K (.ref a) lo hi H Q:=by
 refine⟨a,xs,rfl,h,fun hw=>?_,fun _ p hp=>q p _ (af hp _) (SqT.of ac)⟩
 have e:df xs lo hi=xs:=by unfold df; rw[hw.1,hw.2]; simp
 exact q a H (fun _ _ e=>e) (by rw[e]; exact h)
theorem sE(xs:List V)(k:Nat):df xs none (some (k:Int))=xs.take k:=by
 unfold df
 rw[HT.sIx_none,HT.sIx_nat,List.drop_zero,Nat.sub_zero]
 exact List.take_eq_take_min.symm
theorem fm(xs:List V)(k:Nat):df xs (some (k:Int)) none=xs.drop k:=by
 unfold df
 rw[HT.sIx_none,HT.sIx_nat]
 rcases Nat.le_total k xs.length with h | h
 ·rw[Nat.min_eq_left h,List.take_of_length_le (by rw[List.length_drop]; omega)]
 ·rw[Nat.min_eq_right h,Nat.sub_self,List.take_zero,List.drop_eq_nil_of_le h]
def t7:List V→Hp→VK→Prop:=fun xs H Q=>(∃ i,xs=[.int i]∧i.natAbs.log2<1920∧Q (.str (toString i)) H)∨∃ y,xs=[.str y]∧Q (.str y) H
theorem vn:CallR X (.type "str") t7:=by
 intro pins s σ H xs us Q I r h
 rcases h with h | ⟨y,rfl,q⟩
 ·exact i8 pins s σ H xs us Q I r h
 ·obtain⟨u,rfl,t,rfl⟩:=dm r
  exact PySem.P.str_of_str ⟨.str y,H,I,⟨t,rfl⟩,q⟩
theorem mD{H:Hp}{Q:VK}(i:Int):t7 [.int i] H Q=(i.natAbs.log2<1920∧Q (.str (toString i)) H):=
 propext ⟨fun h=>by rcases h with ⟨_,e,h⟩ | ⟨_,e,_⟩ <;> cases e; exact h,fun h=>.inl ⟨i,rfl,h⟩⟩
theorem nw{H:Hp}{Q:VK}(y:Str):t7 [.str y] H Q=Q (.str y) H:=
 propext ⟨fun h=>by rcases h with ⟨_,e,h⟩ | ⟨_,e,h⟩ <;> cases e; exact h,fun h=>.inr ⟨y,rfl,h⟩⟩
theorem qZ{x:Str}{d:Addr}{pos:Pos}(h:X.mg x=some (.ref d))(hg:Gl X x:=by rfl)(hd:(x == ("__debug__" : Str))=false:=by decide):PE X (.Name x pos) (tC (.ref d)):=zz hg h rfl hd
theorem cS:MtR X "list.extend" lG:=wo
theorem eL{H:Hp}{Q:VK}(l b:Addr):lG (.ref l) [.ref b] H Q=∃ xs zs,H l=some (.lst xs)∧H b=some (.lst zs)∧xs.length+zs.length≤sizeLine∧Q .non (upd H l (.lst (xs++zs))):=
 propext ⟨fun ⟨_,_,xs,zs,e1,e2,q⟩=>by cases e1; cases e2; exact⟨xs,zs,q⟩,fun ⟨xs,zs,q⟩=>⟨l,b,xs,zs,rfl,rfl,q⟩⟩
theorem jG(K:PySem.W.Frag){tg l:Expr}{tl:TE}(hl:PE X l tl)(hK:X.K=K:=by rfl):PI X tg l (ya K tl):=hK ▸ Ck hl
theorem sJ(K:PySem.W.Frag)(tl:TE){σ : St}{H:Hp}{R:It→Hp→Prop}:ya K tl σ H R=tl σ H fun x H1=>∃ a,x = .ref a∧(∃ xs,SqT K H1 a xs)∧R (vR K a) H1:=rfl
end
section
variable{K:PySem.W.Frag}{a b:Addr}{xs ys:List V}{g:TG}{te:TE}{nT:Nat}{σ : St}{D:Addr}{Q:VK}{H:Hp}
theorem pI{tb:TS}{D:dF}(Pv:Nat→St→Hp→Prop)(h0:Pv 0 σ H)(hl:∀ i σ H,i≤xs.length→Pv i σ H→SqT K H a xs)
  (hs:∀ i x σ H,xs[i]? = some x→Pv i σ H→g x σ H fun σ2 H2=>tb { D with nx:=Pv (i+1),ct:=Pv (i+1),bk:=D.nx } σ2 H2) (hd:∀ σ H,Pv xs.length σ H→D.nx σ H):iE (vR K a) g tb D σ H:=by
 refine hV xs.length Pv h0 (fun i σ H hi p=>⟨xs,xs[i],hl i σ H (Nat.le_of_lt hi) p,by simp[hi]⟩) (fun σ H p=>⟨xs,hl _ σ H (Nat.le_refl _) p,Nat.le_refl _⟩) (fun i σ H x H' hi p yl=>?_) hd
 obtain⟨rfl,y⟩:=yl
 exact hs i x σ _ (y xs (hl i σ _ (Nat.le_of_lt hi) p)) p
theorem nD(Pv:Nat→List V→Hp→Prop)(h0:Pv 0 [] H)(hl:∀ i ys H,i≤xs.length→Pv i ys H→SqT K H a xs)
  (hs:∀ i ys H x,xs[i]? = some x→i<xs.length→Pv i ys H→g x (σ++List.replicate nT none) H (jB xs.length i Pv D ys te))
  (hd:∀ ys H,Pv xs.length ys H→Q (.ref D) H):fz (vR K a) g lL te nT σ D Q H:=by
 refine kh xs.length Pv h0 (fun i ys H hi p=>⟨xs,xs[i],hl i ys H (Nat.le_of_lt hi) p,by simp[hi]⟩) (fun ys H p=>⟨xs,hl _ ys H (Nat.le_refl _) p,Nat.le_refl _⟩) (fun i ys H x H' hi p yl=>?_) hd
 obtain⟨rfl,y⟩:=yl
 exact hs i ys _ x (y xs (hl i ys _ (Nat.le_of_lt hi) p)) hi p
theorem jm{tb:TS}{D:dF}(Pv:Nat→St→Hp→Prop)(hn:xs.length=ys.length)(h0:Pv 0 σ H)(hl:∀ i σ H,i≤xs.length→Pv i σ H→SqT K H a xs∧SqT K H b ys)
  (hs:∀ i x y t σ H,xs[i]? = some x→ys[i]? = some y→Pv i σ H→H t=none→g (.ref t) σ (upd H t (.tup [x,y])) fun σ2 H2=>tb { D with nx:=Pv (i+1),ct:=Pv (i+1),bk:=D.nx } σ2 H2) (hd:∀ σ H,Pv xs.length σ H→D.nx σ H):iE (zm K a b) g tb D σ H:=by
 refine hV xs.length Pv h0 (fun i σ H hi p=>⟨xs,ys,xs[i],ys[i],(hl i σ H (Nat.le_of_lt hi) p).1,(hl i σ H (Nat.le_of_lt hi) p).2,by simp[hi],by simp[hn ▸ hi]⟩) (fun σ H p=>⟨xs,ys,(hl _ σ H (Nat.le_refl _) p).1,(hl _ σ H (Nat.le_refl _) p).2,.inl (Nat.le_refl _)⟩) (fun i σ H v H' hi p yl=>?_) hd
 obtain⟨t,x,y,ht,rfl,rfl,y1,y2⟩:=yl
 exact hs i x y t σ H (y1 xs (hl i σ H (Nat.le_of_lt hi) p).1) (y2 ys (hl i σ H (Nat.le_of_lt hi) p).2) p ht
end
theorem SqT.same{K:PySem.W.Frag}{H H':Hp}{a:Addr}{xs:List V}(h:SqT K H a xs)(sm:Same H H'):SqT K H' a xs:=by
 rcases h with (h | ⟨o,h⟩) | h
 ·exact .inl (.inl (sm _ _ h))
 ·exact .inl (.inr ⟨o,sm _ _ h⟩)
 ·exact .inr h
theorem cM{α : Type}{x:α}{xs:List α}:di (x::xs) 0=some x:=bu (j:=0) rfl
theorem SqT.updL{K:PySem.W.Frag}{H:Hp}{a l:Addr}{xs ys:List V}{o:HO}(h:SqT K H a xs)(hl:H l=some (.lst ys)):SqT K (upd H l o) a xs:=by
 rcases h with (h | ⟨o',h⟩) | h
 ·exact .inl (.inl (by rw[ah (b7 h hl (fun z=>nomatch z))]; exact h))
 ·exact .inl (.inr ⟨o',by rw[ah (b7 h hl (fun z=>nomatch z))]; exact h⟩)
 ·exact .inr h
end L2
namespace L2
open PySem PySem.Spec PyProof PyProof.Rows
section
variable{X:Cx}
def vx(K:PySem.W.Frag):V→List V→Hp→VK→Prop:=fun x vs H Q=>∃ (sep:Str) (p:Addr) (ss:List Str),x = .str sep∧vs=[.ref p]∧SqT K H p (ss.map V.str)∧(ss.map (·.length)).sum+ss.length * sep.length≤16777216∧Q (.str (Txt.join sep ss)) H
theorem xi(K:PySem.W.Frag)(hK:X.K=K:=by rfl):MtR X "str.join" (vx K):=by
 subst hK
 intro pins s σ H x xs v us Q I rx r h
 obtain⟨sep,p,ss,rfl,rfl,hq,hz,q⟩:=h
 obtain⟨t,rfl⟩:=rx
 obtain⟨u,rfl,ru⟩:=dm r
 cases ru
 obtain⟨its,rv,pl,_⟩:=I.tuple hq
 exact join_tuple pl (by simpa using jq rv) hz fun t' k=>⟨.str (Txt.join sep ss),H,I.tok k,⟨t',rfl⟩,q⟩
theorem mC{K:PySem.W.Frag}{H:Hp}{Q:VK}(sep:Str)(p:Addr):vx K (.str sep) [.ref p] H Q=∃ ss,SqT K H p (ss.map V.str)∧(ss.map (·.length)).sum+ss.length * sep.length≤16777216∧Q (.str (Txt.join sep ss)) H:=
 propext ⟨fun ⟨_,_,ss,e1,e2,q⟩=>by cases e1; cases e2; exact⟨ss,q⟩,fun ⟨ss,q⟩=>⟨sep,p,ss,rfl,rfl,q⟩⟩
end
end L2
namespace L2
open PySem PySem.Spec PyProof PyProof.Rows
def yQ(K:PySem.W.Frag)(a:Addr)(n:Nat):It:=
 ⟨fun i H=>i<n∧∃ xs x,SqL K H a xs∧xs[n - 1 - i]? = some x,fun i H x H'=>H'=H∧∀ xs,SqL K H a xs→xs[n - 1 - i]? = some x,fun i _=>i=n⟩
theorem xL{P:Program}{w:World}{K:PySem.W.Frag}{tg:Expr}(a it:Addr)(n:Nat):iH P w K tg (yQ K a n) [it] it (fun i h=>h.IsRevIter it a ((n:Int) - 1 - (i:Nat))) where
 mem:=by simp
 obj:=fun i h st b hb=>by
  have e:b=it:=by simpa using hb
  subst e
  obtain⟨o,e,c,d⟩:=st
  exact⟨o,e,fun v z=>by rw[d]at z; cases z⟩
 keep:=fun i h h' st k=>st.at fun o e=>k it (by simp) o e
 item:=by
  intro X hP hw hK hc i pins s σ H E I hf st hg
  subst hP hw hK
  obtain⟨hi,xs,x,hq,hx⟩:=hg
  obtain⟨its,rv,p,hz⟩:=I.list hq
  obtain⟨u,hu,ru⟩:=rv.get hx
  obtain⟨f0,f1,f2,f3,f4,f5⟩:=hf it (by simp)
  have e:(n:Int) - 1 - (i:Int)=((n - 1 - i:Nat):Int):=by omega
  rw[e]at st
  refine wpAny_pyNext_rev_item st p.isList (x:=u) (by simpa using hu) fun h' st' sb=>?_
  have I1:Inv X pins σ H { s with heap:=h' }:=I.turned (t':=s.toks) (fun b o hb e=>(sb.2 b hb).trans e) f0 f1 f3 f4 f5
  have e2:((n - 1 - i:Nat):Int) - 1=(n:Int) - 1 - ((i+1:Nat):Int):=by omega
  rw[e2]at st'
  obtain⟨o,eo,c,d⟩:=id st'
  exact⟨u,rfl,nU (s:={ s with heap:=h' }) eo c d (by decide) ⟨x,H,I1,ru,⟨rfl,fun ys hy=>by rw[I.list_inj hy hq]; exact hx⟩,st',fun b hb=>(hf b hb).1⟩⟩
 done:=by
  intro X hP hw hK hc i pins s σ H E I hf st hg
  subst hP hw hK
  obtain⟨f0,f1,f2,f3,f4,f5⟩:=hf it (by simp)
  have hg':i=n:=hg
  have e:(n:Int) - 1 - (i:Int) = -1:=by omega
  rw[e]at st
  exact wpAny_pyNext_rev_end (I.ok.hd hc) st fun h' eb=>⟨rfl,I.turned (t':=s.toks) (fun b o hb e=>eb b o hb e) f0 f1 f3 f4 f5⟩
 self:=fun _ _ _ _ _ st h=>wpAny_pyIter_revIter st h
theorem nO:bootBuiltins "reversed" = some (.type "reversed"):=by decide +kernel
def A4(K:PySem.W.Frag)(ta:TA):TI:=fun σ H R=>ta σ H fun vs H1=>∃ a:Addr,vs=[.ref a]∧∃ xs,SqL K H1 a xs∧R (yQ K a xs.length) H1
theorem sI(K:PySem.W.Frag)(ta:TA){σ : St}{H:Hp}{R:It→Hp→Prop}:A4 K ta σ H R=ta σ H fun vs H1=>∃ a:Addr,vs=[.ref a]∧∃ xs,SqL K H1 a xs∧R (yQ K a xs.length) H1:=rfl
theorem Bo(K:PySem.W.Frag){X:Cx}{tg:Expr}{a:Expr}{ta:TA}{p pos:Pos}(hg:Gl X "reversed") (hm:X.mg "reversed" = none) (ha:PA X [a] ta) (hs:starEach [a] X.env=[(false,eval a X.env)]:=by rfl) (hK:X.K=K:=by rfl) :
  PI X tg (.Call (.Name "reversed" p) [a] [] pos) (A4 K ta):=by
 subst hK
 intro pins s σ H R I h
 refine Call_ (fT I hg hm nO (PyProof.Rows.callWith_type1 (bt (ha pos pins s σ H _ I h) fun us s1 ⟨vs,H1,I1,r1,q1⟩=>?_) hs rfl))
 obtain⟨l,e,xs,h1,q⟩:=q1
 subst e
 obtain⟨u1,rfl,r1'⟩:=dm r1
 obtain rfl:u1=Value.ref l:=r1'
 obtain⟨its,rv,pl,hz⟩:=I1.list h1
 have hlen:its.toArray.size=xs.length:=by rw[List.size_toArray]; exact rv.length.symm
 refine call_reversed_list pl.isList ?_
 rw[hlen]
 have hit:(s1.heap.push (revObj l ((xs.length:Int) - 1))).IsRevIter s1.heap.objs.size l ((xs.length:Int) - 1 - ((0:Nat):Int)):=⟨_,Heap.get?_push_size _ rfl,rfl,by simp[revObj]⟩
 refine wpAny_pyIter_revIter (s:={ s1 with heap:=s1.heap.push (revObj l ((xs.length:Int) - 1)) }) hit ⟨s1.heap.objs.size,[s1.heap.objs.size],_,_,H1,rfl,I1.kept (t':=s1.toks) fun b o e=>Heap.get?_push_of_some _ e,xL l _ xs.length,hit,fun b hb=>?_,q⟩
 have e:b=s1.heap.objs.size:=by simpa using hb
 subst e
 exact I1.fpOk (Nat.le_refl _) (I1.hok.fresh (Nat.le_refl _))
section
variable{K:PySem.W.Frag}{a:Addr}{xs:List V}{g:TG}{σ : St}{H:Hp}
theorem wQ{tb:TS}{D:dF}(Pv:Nat→St→Hp→Prop)(h0:Pv 0 σ H)(hl:∀ i σ H,i≤xs.length→Pv i σ H→SqL K H a xs)
  (hs:∀ i x σ H,i<xs.length→xs[xs.length - 1 - i]? = some x→Pv i σ H→g x σ H fun σ2 H2=>tb { D with nx:=Pv (i+1),ct:=Pv (i+1),bk:=D.nx } σ2 H2) (hd:∀ σ H,Pv xs.length σ H→D.nx σ H):iE (yQ K a xs.length) g tb D σ H:=by
 refine hV xs.length Pv h0 (fun i σ H hi p=>⟨hi,xs,xs[xs.length - 1 - i],hl i σ H (Nat.le_of_lt hi) p,List.getElem?_eq_getElem _⟩) (fun σ H p=>rfl) (fun i σ H x H' hi p yl=>?_) hd
 obtain⟨rfl,y⟩:=yl
 exact hs i x σ _ hi (y xs (hl i σ _ (Nat.le_of_lt hi) p)) p
end
end L2
namespace L2
open PySem PySem.Spec PyProof PyProof.Rows
theorem CC{P:Program}{w:World}{k:ax}{u:Value}(h:(cK P w).is k u=true):RelV (kV k) u:=by
 cases k with
 | inl i=>
  obtain⟨t,rfl⟩:=Value.isInt_shape (show Value.isInt i u=true from h)
  exact⟨t,rfl⟩
 | inr x=>
  obtain⟨t,rfl⟩:=Value.isStrOf_shape (show Value.isStrOf x u=true from h)
  exact⟨t,rfl⟩
section
variable{X:Cx}
def wv:List V→Hp→VK→Prop:=fun xs H Q=>∃ d kvs,xs=[.ref d]∧H d=some (.dK kvs)∧kvs.length≤60000∧∀ l,H l=none→Q (.ref l) (upd H l (.lst (kvs.map fun kv=>kV kv.1)))
theorem mL{H:Hp}{Q:VK}(d:Addr):wv [.ref d] H Q=∃ kvs,H d=some (.dK kvs)∧kvs.length≤60000∧∀ l,H l=none→Q (.ref l) (upd H l (.lst (kvs.map fun kv=>kV kv.1))):=
 propext ⟨fun ⟨_,kvs,e,q⟩=>by cases e; exact⟨kvs,q⟩,fun ⟨kvs,q⟩=>⟨d,kvs,rfl,q⟩⟩
theorem uL{m:Nat}(hr:Room m X.A):CallR X (.type "list") wv:=by
 intro pins s σ H xs us Q I r h
 obtain⟨d,kvs,rfl,ed,hn,q⟩:=h
 obtain⟨u,rfl,ru⟩:=dm r
 cases ru
 obtain⟨_,hd,vs,rel,dd⟩:=nY I.hok (.inl ed)
 obtain⟨ep,hm⟩:=dd.dictAt
 have hs:sizeLine=16777216:=sizeLine_eq
 have hl:kvs.length=vs.length:=Paired.length rel
 refine PySem.W.kdl_call (PySem.W.kdl_dict (knd:=cK X.prog X.w) (kvs:=vs) (ep:=ep) hd) hr.hd hm (by omega) fun h' tk acc' c' hk hS hacc=>?_
 refine⟨.ref s.heap.objs.size,_,I.laid hk (Nat.le_refl _) (show ObjOk X.prog X.w _ h' _ (.lst (kvs.map fun kv=>kV kv.1)) from ⟨by simp; omega,acc'.toList,c',?_,by simpa using hS⟩),rfl,q _ (I.hok.fresh (Nat.le_refl _))⟩
 refine q9 _ _ (by simp[hacc.1,hl]) fun j x w' e1 e2=>?_
 obtain⟨k,y,hk',his⟩:=hacc.2 j w' (by rw[← Array.getElem?_toList]; exact e2)
 rw[List.getElem?_map]at e1
 cases hkv:kvs[j]? with
 | none=>rw[hkv]at e1; cases e1
 | some kv=>
  rw[hkv]at e1
  cases e1
  have:=(lw rel hkv hk').1
  show RelV (kV kv.1) w'
  rw[this]
  exact CC his
end
end L2
namespace L2
open PySem PySem.Spec PyProof PyProof.Rows PySem.SeqAt
section
variable{X:Cx}
end
end L2
namespace L2
open PySem PySem.Spec PyProof.Rows PySem.SeqAt
structure Fl (K:PySem.W.Frag) (C:Addr) (f:Str):Prop where
 c:Cls K C
 n:NoAttr K C f
structure MakeAt (K:PySem.W.Frag) (mg:Str→Option Value) (x:Str) (C:Addr) (qual:Str) (st:Stmt):Prop where
 ex:∃ f fd,Fun K "__init__" qual st f fd∧Mk K C f∧mg x=some (.ref C)
structure qE (P:Program) (w:World) (K:PySem.W.Frag) (mg:Str→Option Value) (base:Heap) (k:Nat) (x:Str) (C:Addr) (ps:List Str) (sp:Sp):Prop where
 ex:∃ f fd,FnOk P w K mg base jh k f fd ps sp∧Binds K fd ps []∧Mk K C f∧mg x=some (.ref C)
section
variable{P:Program}{w:World}{K:PySem.W.Frag}{mg:Str→Option Value}{base:Heap}
theorem MakeAt.mkal{x:Str}{C:Addr}{qual:Str}{st:Stmt}{N ps:List Str}{k:Nat}{sp:Sp}(D:MakeAt K mg x C qual st)(S:aT N ps (defScope st))
  (hb:∀ (kV doc pm:Value) (an:Option Addr) (cdv ct:Value) (us:List Value),us.length=ps.length→bindArgs (PySem.W.fnOf "__init__" qual (defArgs st) (defBody st) (defScope st) .none kV doc pm an cdv ct) ⟨us,[]⟩=pure (ps.zip us))
  (len:∀ vs H Q E,sp vs H Q E→vs.length=ps.length)
  (hbody:∀ (f:Addr) (cdv:Value) (A:Around) (outer:List Env) (s:Shared) (H:Hp) (vs:List V) (Q:VK) (E:XK),Room k (A.deeper (envOfC qual (defScope st) s.heap.objs.size f cdv))→sp vs H Q E→
   ∃ t,PSs (jp jh P w K mg base N qual (defScope st) f cdv A outer s H E).nox (defBody st) t∧t { nx:=fun _ H'=>Q .non H',rt:=Q } (start N vs) H):qE P w K mg base (k+1) x C ps sp:=by
 obtain⟨f,fd,F,m,g⟩:=D.ex
 exact⟨f,fd,F.ok S len fun cdv A outer s H vs Q E hr h=>hbody f cdv A outer s H vs Q E hr h,F.binds hb,m,g⟩
end
def yF(C:Addr)(f:Str)(ta:TE):TE:=fun σ H Q=>ta σ H fun x H1=>∃ a,x = .ref a∧∃ dx fs v,H1 a=some (.ins C dx fs)∧fs.lookup f=some v∧Q v H1
def yO(C:Addr)(f:Str)(ta tv:TE):TS:=fun D σ H=>tv σ H fun y H1=>ta σ H1 fun x H2=>∃ a,x = .ref a∧∃ dx fs,H2 a=some (.ins C dx fs)∧fs.length<1000∧D.nx σ (upd H2 a (.ins C dx (dC f y fs)))
def u0(C:Addr)(sp:Sp)(t:TA):TE:=fun σ H Q=>t σ H fun vs H1=>∀ x dx,H1 x=none→H1 dx=none→dx≠x→sp (.ref x::vs) (upd (upd H1 dx (.own x)) x (.ins C dx [])) (fun v H2=>v = .non∧Q (.ref x) H2) E0
section
variable{X:Cx}{o e value:Expr}{es:List Expr}{f m:Str}{pos pos' apos p:Pos}{ta tv:TE}{t:TA}{C:Addr}{x:Str}{ps:List Str}{sp:Sp}{j k:Nat}
theorem bM(g:Fl X.K C f)(he:PE X e ta)(hb:attributeBase e f X.env (eval e X.env)=eval e X.env:=by rfl):PE X (.Attribute e f pos) (yF C f ta):=by
 intro pins s σ H Q I h
 refine zu hb (bt (he pins s σ H _ I h) fun u s1 ⟨x,H1,I1,rx,a,ex,dx,fs,v,ea,l,q⟩=>?_)
 subst ex
 obtain rfl:u=Value.ref a:=rx
 exact uK I1 ea g.c g.n l fun u' s2 I2 ru=>⟨v,H1,I2,ru,q⟩
theorem ju(g:Fl X.K C f)(ha:PE X o ta)(hv:PE X value tv)(hs:swapsWith value (some (.Attribute o f pos')) pos.line X.env=pure false:=by rfl):PS X (.Assign [.Attribute o f pos'] value pos) (yO C f ta tv):=by
 intro pins s σ H D I h
 refine plainObj_wpAny_Assign_Attribute (bt (hv pins s σ H _ I h) fun u s1 ⟨y,H1,I1,ry,q⟩=>bt (ha pins s1 σ H1 _ I1 q) fun ov s2 ⟨x,H2,I2,rx,a,ex,dx,fs,ea,l,q2⟩=>?_) hs
 subst ex
 obtain rfl:ov=Value.ref a:=rx
 exact tD I2 ea g.c g.n l ry fun s3 I3=>⟨σ,_,I3,q2⟩
theorem CD(c:qE X.prog X.w X.K X.mg X.base j x C ps sp)(hr:Room k X.A)(ha:PA X (e::es) t)(hle:j+1≤k:=by decide)(hg:Gl X x:=by rfl)(hdb:(x == ("__debug__" : Str))=false:=by decide)
  (he:starEach (e::es) X.env=(false,eval e X.env)::starEach es X.env:=by rfl) (hpl:(backTo pos (starEach es X.env)).any (·.1)=false:=by rfl) :
  PE X (.Call (.Name x p) (e::es) [] pos) (u0 C sp t):=by
 obtain⟨f,fd,F,b,M,hm⟩:=c.ex
 intro pins s σ H Q I h
 refine wpAny_Call_Name_kw (lV I hg hm ?_ hdb)
 refine PySem.W.callWith_K (h₀:=X.base) I.ok.mod.kin M.kp (bt (ha pos pins s σ H _ I h) fun us s1 ⟨vs,H1,I1,r,q⟩=>⟨I1.kIn,?_⟩) he hpl
 exact wJ M F (hr.mono hle) b .nil yI I1 r (by simpa only[List.append_nil] using q)
end
section
variable{C:Addr}{f m:Str}{sp:Sp}{ta tv:TE}{t:TA}{σ : St}{H:Hp}{Q:VK}
theorem pN:yF C f ta σ H Q=ta σ H fun x H1=>∃ a,x = .ref a∧∃ dx fs v,H1 a=some (.ins C dx fs)∧fs.lookup f=some v∧Q v H1:=rfl
theorem pY{D:dF}:yO C f ta tv D σ H=tv σ H fun y H1=>ta σ H1 fun x H2=>∃ a,x = .ref a∧∃ dx fs,H2 a=some (.ins C dx fs)∧fs.length<1000∧D.nx σ (upd H2 a (.ins C dx (dC f y fs))):=rfl
theorem mM:u0 C sp t σ H Q=t σ H fun vs H1=>∀ x dx,H1 x=none→H1 dx=none→dx≠x→sp (.ref x::vs) (upd (upd H1 dx (.own x)) x (.ins C dx [])) (fun v H2=>v = .non∧Q (.ref x) H2) E0:=rfl
end
theorem Bx{f:Str}{v:V}{fs:List (Str × V)}:List.lookup f ((f,v)::fs)=some v:=by simp[List.lookup]
theorem zr{f g:Str}{v:V}{fs:List (Str × V)}(h:(f == g)=false):List.lookup f ((g,v)::fs)=List.lookup f fs:=by simp[List.lookup,h]
theorem Bd{f:Str}:List.lookup f ([]:List (Str × V))=none:=rfl
theorem wt{f g:Str}{v x:V}{r:List (Str × V)}(h:¬ g=f):dC f v ((g,x)::r)=(g,x)::dC f v r:=by simp[dC,h]
theorem x6{f:Str}{v:V}:dC f v []=[(f,v)]:=rfl
end L2
namespace L2
open PySem PySem.Spec PyProof.Rows PySem.SeqAt
section
variable{X:Cx}
def vH:V→List V→Hp→VK→Prop:=fun x xs H Q=>∃ s y,x = .str s∧xs=[.str y]∧(y.length == 0)=false∧s.length≤100000∧∀ l,H l=none→Q (.ref l) (upd H l (.lst ((Txt.split s y).map V.str)))
theorem mY{H:Hp}{Q:VK}(s y:Str):vH (.str s) [.str y] H Q=((y.length == 0)=false∧s.length≤100000∧∀ l,H l=none→Q (.ref l) (upd H l (.lst ((Txt.split s y).map V.str)))):=
 propext ⟨fun ⟨_,_,e1,e2,q⟩=>by cases e1; cases e2; exact q,fun q=>⟨s,y,rfl,rfl,q⟩⟩
theorem xp(l:List (Str × Tok)):Vals ((l.map (·.1)).map V.str) (strValues l):=by
 induction l with
 | nil=>exact .nil
 | cons a l ih=>exact .cons ⟨a.2,rfl⟩ ih
theorem fH:MtR X "str.split" vH:=by
 intro pins s σ H x xs v us Q I rx r h
 obtain⟨z,y,rfl,rfl,hy,hz,q⟩:=h
 obtain⟨t,rfl⟩:=rx
 obtain⟨u,rfl,ru⟩:=dm r
 obtain⟨u,rfl⟩:=ru
 have hs:sizeLine=16777216:=sizeLine_eq
 have hn:(Txt.split z y).length≤z.length+2:=split_le z y
 have lay:∀ (l:List (Str × Tok)) (k:Tok),l.map (·.1)=Txt.split z y→EP X pins σ Q (.ref s.heap.objs.size) { s with heap:=s.heap.push { cls:=.type "list", data:=.seq (strValues l).toArray },toks:=k }:=by
  intro l k e
  refine⟨.ref s.heap.objs.size,_,I.laid (fun _ _ q=>Heap.get?_push_of_some _ q) (Nat.le_refl _) (show ObjOk X.prog X.w _ _ _ (.lst ((Txt.split z y).map V.str)) from ⟨by rw[List.length_map,hs]; omega,strValues l,_,e ▸ xp l,Heap.get?_push_size _ rfl⟩),rfl,q _ (I.hok.fresh (Nat.le_refl _))⟩
 cases h1:(decide (z.length<y.length)||decide (Builtin.Str.strKind z<Builtin.Str.strKind y))
 ·cases hf:(Builtin.Str.occurrences z y 0 z.length (z.length+1)).isEmpty
  ·have e:Txt.split z y=Builtin.Str.partsBetween z (Builtin.Str.occurrences z y 0 z.length (z.length+1)) y.length:=(if_neg (ne_true_of_eq_false h1)).trans (if_neg (ne_true_of_eq_false hf))
   refine call_meets F.slot_str_split (typeIs_str _ _ _) F.entry_str_split (F.args_str_split_2 _ _) (meets_str_split_sep z y t u h1 hy hf (by rw[hs]; omega) (by rw[← e,hs]; omega)) ?_
   show wants _ _ _ { s with toks:=_,heap:=s.heap.push { cls:=.type "list", data:=.seq (strsFrom s.toks (Builtin.Str.partsBetween z (Builtin.Str.occurrences z y 0 z.length (z.length+1)) y.length)).toArray } }
   rw[strsFrom_eq]
   exact lay (numbered s.toks _) _ ((numbered_texts _ _).trans e.symm)
  ·exact call_meets F.slot_str_split (typeIs_str _ _ _) F.entry_str_split (F.args_str_split_2 _ _) (meets_str_split_not_found z y t u h1 hy hf)
    (lay [(z,t)] _ ((if_neg (ne_true_of_eq_false h1)).trans (if_pos hf)).symm)
 ·exact call_meets F.slot_str_split (typeIs_str _ _ _) F.entry_str_split (F.args_str_split_2 _ _) (meets_str_split_cannot_occur z y t u h1) (lay [(z,t)] _ (if_pos h1).symm)
def CI:List V→Hp→VK→Prop:=fun xs H Q=>∃ x n,xs=[.str x]∧PySem.intText? x=some n∧x.length≤640∧Q (.int n) H
theorem iR:CallR X (.type "int") CI:=by
 intro pins s σ H xs us Q I r h
 obtain⟨x,n,rfl,hn,hl,q⟩:=h
 obtain⟨u,rfl,ru⟩:=dm r
 obtain⟨t,rfl⟩:=ru
 exact PySem.W.KIN.call_text hn hl ⟨.int n,H,I.tok _,⟨_,rfl⟩,q⟩
end
theorem j9{c:Nat}:∀ {p q t u:List Nat},c∉p→c∉q→p++c::t=q++c::u→p=q∧t=u
 | [],[],_,_,_,_,e=>⟨rfl,(List.cons.inj e).2⟩
 | [],b::q,_,_,_,hq,e=>absurd ((List.cons.inj e).1 ▸ List.mem_cons_self) hq
 | a::p,[],_,_,hp,_,e=>absurd ((List.cons.inj e).1 ▸ List.mem_cons_self) hp
 | a::p,b::q,t,u,hp,hq,e=>by
  obtain⟨e1,e2⟩:=List.cons.inj e
  obtain⟨e3,e4⟩:=j9 (p:=p) (q:=q) (fun z=>hp (List.mem_cons_of_mem _ z)) (fun z=>hq (List.mem_cons_of_mem _ z)) e2
  exact⟨by rw[e1,e3],e4⟩
theorem jt{x y:Str}(h:x.cps.toList=y.cps.toList):x=y:=by
 cases x; cases y
 exact congrArg _ (Array.toList_inj.mp h)
theorem dj(x y:Str):(x++y).cps.toList=x.cps.toList++y.cps.toList:=Array.toList_append
theorem ke(c:Nat)(x y:Str)(r:List Str):(Str.join ⟨#[c]⟩ (x::y::r)).cps.toList=x.cps.toList++c::(Str.join ⟨#[c]⟩ (y::r)).cps.toList:=by
 rw[join_cons_cons,dj,dj]
 show (x.cps.toList++[c])++_=_
 rw[List.append_assoc]; rfl
theorem mZ{c:Nat}:∀ {ps qs:List Str},ps≠[]→qs≠[]→(∀ p∈ps,c∉p.cps.toList)→(∀ q∈qs,c∉q.cps.toList)→Str.join ⟨#[c]⟩ ps=Str.join ⟨#[c]⟩ qs→ps=qs
 | [],_,h,_,_,_,_=>absurd rfl h
 | _::_,[],_,h,_,_,_=>absurd rfl h
 | [p],[q],_,_,_,_,e=>congrArg (fun z=>[z]) (show p=q from e)
 | [p],q::q'::qs,_,_,hp,_,e=>by
  have e':=congrArg (fun z:Str=>z.cps.toList) e
  simp only[ke]at e'
  have e2:p.cps.toList=q.cps.toList++c::(Str.join ⟨#[c]⟩ (q'::qs)).cps.toList:=e'
  exact absurd (e2 ▸ List.mem_append_right _ List.mem_cons_self) (hp p List.mem_cons_self)
 | p::p'::ps,[q],_,_,_,hq,e=>by
  have e':=congrArg (fun z:Str=>z.cps.toList) e
  simp only[ke]at e'
  have e2:q.cps.toList=p.cps.toList++c::(Str.join ⟨#[c]⟩ (p'::ps)).cps.toList:=e'.symm
  exact absurd (e2 ▸ List.mem_append_right _ List.mem_cons_self) (hq q List.mem_cons_self)
 | p::p'::ps,q::q'::qs,_,_,hp,hq,e=>by
  have e':=congrArg (fun z:Str=>z.cps.toList) e
  simp only[ke]at e'
  obtain⟨e1,e2⟩:=j9 (hp p List.mem_cons_self) (hq q List.mem_cons_self) e'
  have ih:=mZ (ps:=p'::ps) (qs:=q'::qs) (by simp) (by simp) (fun z hz=>hp z (List.mem_cons_of_mem _ hz)) (fun z hz=>hq z (List.mem_cons_of_mem _ hz)) (jt e2)
  rw[jt e1,ih]
theorem kC{ws:List Str}(h:ws≠[])(hf:∀ x∈ws,32∉x.cps.toList):Txt.split (Txt.join " " ws) " " = ws:=by
 have e0:(" " : Str)=⟨#[32]⟩:=by decide +kernel
 have e1:Str.join ⟨#[32]⟩ (Txt.split (Txt.join " " ws) " ")=Str.join ⟨#[32]⟩ ws:=by
  have:=PySem.StrLaws.join_split (Txt.join " " ws) " "
  rw[e0]at this ⊢
  rw[this]
  exact PySem.StrLaws.glued_eq_join _ ws
 refine mZ ?_ h ?_ hf e1
 ·intro z
  have:=split_pos (Txt.join " " ws) " "
  rw[z]at this; exact absurd this (by decide)
 ·rw[e0]; exact PySem.StrLaws.split_free _ 32
theorem iu(m:Nat):PySem.NumText.AllDigits ((Nat.toDigits 10 m).map Char.toNat)∧(Nat.toDigits 10 m).map Char.toNat≠[]:=by
 constructor
 ·intro c hc
  obtain⟨ch,hch,e⟩:=List.mem_map.mp hc
  rw[← e]
  exact digit_range (Nat.isDigit_of_mem_toDigits (by decide) (by decide) hch)
 ·intro e
  have h:=tDigits_len_ge 10 m
  rw[List.map_eq_nil_iff.mp e]at h
  exact absurd h (by decide)
theorem wz{m:Nat}(h:m<10 ^ 61):(Nat.toDigits 10 m).length≤61:=digits10_le (by decide) h
theorem pH{n:Int}(h:n.natAbs<10 ^ 61):PySem.intText? (Str.ofString (toString n))=some n∧(Str.ofString (toString n)).length≤640:=by
 obtain⟨d1,d2⟩:=iu n.natAbs
 have hl:=wz h
 cases n with
 | ofNat m=>
  have e:(Str.ofString (toString (Int.ofNat m))).cps.toList=(Nat.toDigits 10 m).map Char.toNat:=PySem.W.KIN.signs_num m
  have el:(Str.ofString (toString (Int.ofNat m))).length=(Nat.toDigits 10 m).length:=by
   have:=congrArg List.length e
   rw[List.length_map]at this
   rw[← this]; exact Array.length_toList.symm
  have hm:(Nat.toDigits 10 m).length≤61:=hl
  refine⟨?_,by omega⟩
  have z:=intText_digits (x:=Str.ofString (toString (Int.ofNat m))) (by rw[e]; exact d1) (by rw[e]; exact d2) (by omega)
  rw[e,PySem.W.KIN.val_back]at z
  exact z
 | negSucc m=>
  have e:(Str.ofString (toString (Int.negSucc m))).cps.toList=45::(Nat.toDigits 10 (m+1)).map Char.toNat:=by
   rw[signs_ofString]
   show ("-" ++ Nat.repr (m+1)).toList.map Char.toNat=_
   rw[String.toList_append,List.map_append,Nat.toList_repr]; rfl
  have el:(Str.ofString (toString (Int.negSucc m))).length=(Nat.toDigits 10 (m+1)).length+1:=by
   have:=congrArg List.length e
   rw[List.length_cons,List.length_map]at this
   rw[← this]; exact Array.length_toList.symm
  have hm:(Nat.toDigits 10 (m+1)).length≤61:=hl
  refine⟨?_,by omega⟩
  have z:=intText_neg (x:=Str.ofString (toString (Int.negSucc m))) e d1 d2 (by omega)
  rw[PySem.W.KIN.val_back]at z
  exact z
end L2
namespace L2
open PySem PySem.Spec PyProof.Rows
section
variable{X:Cx}{tg e:Expr}
end
end L2
namespace L2
open PySem PySem.Spec PyProof.Rows PySem.SeqAt
section
variable{prog:Program}{w:World}{A:Around}{R:Result→Shared→Prop}{I:Addr}{fp wr:List Addr}{Gm:Array GenState→Array GenState→Prop}{n:Nat}{P:Nat→Value→Prop}{St:Nat→Shared→Prop}{L:Bool}
end
section
variable{prog:Program}{w:World}{A:Around}{E:Value→Shared→Prop}{s:Shared}
end
section
variable{X:Cx}
end
section
variable{prog:Program}{w:World}{A:Around}{E:Value→Shared→Prop}{s:Shared}
end
section
variable{X:Cx}
end
section
variable{X:Cx}{c a b:Expr}{tA tB1 tB2:TT}{pos:Pos}
end
end L2
namespace L2
open PySem PySem.Spec PyProof.Rows PySem.SeqAt PySem.Builtin PySem.Builtin.Str PySem.StrLaws
section
variable{X:Cx}
end
end L2
namespace L2
open PySem PySem.Spec PyProof.Rows PySem.SeqAt PySem.Builtin PySem.Builtin.Str PySem.StrLaws
def ox:V→List V→Hp→VK→Prop:=fun x xs H Q=>∃ s y,x = .str s∧xs=[.str y]∧Q (.bl (decide (0+y.length≤s.length)&&subAt s y 0)) H
theorem jP{H:Hp}{Q:VK}(s y:Str):ox (.str s) [.str y] H Q=Q (.bl (decide (0+y.length≤s.length)&&subAt s y 0)) H:=
 propext ⟨fun ⟨_,_,e1,e2,q⟩=>by cases e1; cases e2; exact q,fun q=>⟨s,y,rfl,rfl,q⟩⟩
theorem nK{X:Cx}:MtR X "str.startswith" ox:=by
 intro pins s σ H x xs v us Q I rx r h
 obtain⟨z,y,rfl,rfl,q⟩:=h
 obtain⟨t,rfl⟩:=rx
 obtain⟨u,rfl,ru⟩:=dm r
 obtain⟨u,rfl⟩:=ru
 exact call_gives F.slot_str_startswith (typeIs_str _ _ _) F.entry_str_startswith (F.args_str_startswith_2 _ _) (gives_str_startswith z y t u) ⟨.bl _,H,I,rfl,q⟩
theorem kq{X:Cx}(K:PySem.W.Frag)(hK:X.K=K:=by rfl):OpR X (binaryOp .Add) (uh K):=hK ▸ zn
theorem n_{K:PySem.W.Frag}{H:Hp}{Q:VK}(a b:Addr):uh K (.ref a) (.ref b) H Q=∃ xs ys,SqT K H a xs∧SqT K H b ys∧xs≠[]∧xs.length+ys.length≤sizeLine∧(ys=[]→Q (.ref a) H)∧(ys≠[]→∀ p,H p=none→Q (.ref p) (upd H p (.tup (xs++ys)))):=
 propext ⟨fun ⟨_,_,xs,ys,e1,e2,q⟩=>by cases e1; cases e2; exact⟨xs,ys,q⟩,fun ⟨xs,ys,q⟩=>⟨a,b,xs,ys,rfl,rfl,q⟩⟩
end L2
namespace L2
open PySem PySem.Spec PyProof.Rows
section
variable{X:Cx}
end
end L2
namespace L2
open PySem PySem.Spec PyProof.Rows
abbrev iU:=List (Option Int)
def MO(P:Program)(w:World):HeapKind P w (iU):=zb (em P w) (show 0≤7 by decide)
def Cr(P:Program)(w:World)(a:Addr)(xs:List (iU × Addr × Value)):HO:=
 .ext fun h=>∃ o es ep,h.get? a=some o∧o.ExactDict∧o.data = .dict es ep∧es.toList=xs.map (entryOfKey (MO P w))∧(xs.map (·.1)).Nodup
def Fa(H:Hp)(k:iU)(b:Addr):Prop:=H b=some (.tup (k.map eC))
def FI(H:Hp)(p:iU × V)(q:iU × Addr × Value):Prop:=q.1=p.1∧Fa H p.1 q.2.1∧RelV p.2 q.2.2
def DO(P:Program)(w:World)(H:Hp)(a:Addr)(kvs:List (iU × V)):Prop:=
 ∃ xs,H a=some (Cr P w a xs)∧(a == sysModules)=false∧xs.length≤sizeLine∧Paired (FI H) kvs xs
section
variable{P:Program}{w:World}{H:Hp}
end
section
variable{X:Cx}{pins:List (Addr × Obj)}{σ : St}{H:Hp}{s:Shared}{a b:Addr}{k:iU}{kvs:List (iU × V)}
end
end L2
namespace L2
open PySem PySem.Spec PyProof PyProof.Rows
section
variable{K:PySem.W.Frag}{a b:Addr}{xs ys:List V}{g:TG}{te:TE}{nT:Nat}{σ : St}{D:Addr}{Q:VK}{H:Hp}
theorem uq{tc:TT}(Pv:Nat→List V→Hp→Prop)(h0:Pv 0 [] H)(hl:∀ i zs H,i≤xs.length→Pv i zs H→SqL K H a xs)
  (hs:∀ i zs H x t,xs[i]? = some x→i<xs.length→Pv i zs H→H t=none→g (.ref t) (σ++List.replicate nT none) (upd H t (.tup [.int i,x])) (lc xs.length i Pv D zs tc te))
  (hd:∀ zs H,Pv xs.length zs H→Q (.ref D) H):fz (vk K a) g tc te nT σ D Q H:=by
 refine km xs.length Pv h0 (fun i zs H hi p=>⟨xs,xs[i],hl i zs H (Nat.le_of_lt hi) p,by simp[hi]⟩) (fun zs H p=>⟨xs,hl _ zs H (Nat.le_refl _) p,Nat.le_refl _⟩) (fun i zs H v H' hi p yl=>?_) hd
 obtain⟨t,x,ht,rfl,rfl,y1⟩:=yl
 exact hs i zs H x t (y1 xs (hl i zs H (Nat.le_of_lt hi) p)) hi p ht
end
theorem zx{α : Type}{xs:List α}{v:α}(h:xs[xs.length - 1]? = some v):di xs (-1)=some v:=by
 have hl:0<xs.length:=by
  refine Classical.byContradiction fun hn=>?_
  rw[List.getElem?_eq_none (by omega)]at h; cases h
 unfold di iS
 rw[if_neg (by decide),if_pos (by omega)]
 show xs[(-1+(xs.length:Int)).toNat]? = some v
 rw[show (-1+(xs.length:Int)).toNat=xs.length - 1 by omega]; exact h
theorem wC(xs:List V):df xs none (some (-1))=xs.dropLast:=by
 unfold df
 rw[HT.sIx_none,List.drop_zero,Nat.sub_zero,List.dropLast_eq_take]
 congr 1
 unfold HT.sIx
 simp only[]
 split <;> omega
section
variable{prog:Program}{w:World}{A:Around}{E:Value→Shared→Prop}{s:Shared}
end
end L2
namespace L2
open PySem PySem.Spec PyProof PyProof.Rows
section
variable{X:Cx}
end
section
variable{X:Cx}
end
section
variable{d:Addr}{o:Obj}{kvs:List (ax × V)}{g:TG}{σ : St}{H:Hp}
end
end L2
namespace PySem.SeqAt
open AutoSeq1 (wpAny_loadPart')
open MeetsSeq MeetsSeq2 MeetsSeq3
end PySem.SeqAt
namespace L2
open PySem PySem.Spec PyProof PyProof.Rows
section
variable{X:Cx}
end
end L2
namespace L2
open PySem PySem.Spec PyProof PyProof.Rows
section
variable{X:Cx}
end
end L2
namespace L2
open PySem PySem.Spec PyProof.Rows
section
variable{X:Cx}{pins:List (Addr × Obj)}{σ : St}{H:Hp}{s:Shared}{a:Addr}{kvs:List (Option Int × V)}
end
section
variable{X:Cx}(P:Program)(w:World)
end
end L2
namespace L2
open PySem PySem.Spec PyProof PyProof.Rows
section
variable{prog:Program}{w:World}{A:Around}{E:Value→Shared→Prop}{s:Shared}
variable{z TI TO i1 i2 t1 t2:Addr}{xs ys:Array Value}{k1 k2:Nat}{a b:Value}
end
section
variable{K:PySem.W.Frag}{a b:Addr}{xs ys:List V}{g:TG}{te:TE}{nT:Nat}{σ : St}{D:Addr}{Q:VK}{H:Hp}
end
end L2
namespace L2
open PySem PySem.Spec PyProof PyProof.Rows PySem.SeqAt
theorem rj{α : Type}[BEq α][LawfulBEq α]{y:α}:∀ {l:List α} {j:Nat},j<l.idxOf y→∀ (h:j<l.length),l[j]≠y
 | n::r,0,h,_=>by
  intro e
  have e':n=y:=e
  subst e'
  simp at h
 | n::r,j+1,h,h2=>by
  rw[List.idxOf_cons]at h
  cases hb:n == y with
  | true=>rw[hb]at h; exact absurd h (Nat.not_lt_zero _)
  | false=>
   rw[hb]at h
   have h':j+1<r.idxOf y+1:=h
   have q:=rj (y:=y) (l:=r) (j:=j) (by omega) (by simpa using h2)
   simpa using q
section
variable{X:Cx}
def zJ(K:PySem.W.Frag):V→List V→Hp→VK→Prop:=fun x vs H Q=>∃ (p:Addr) (ss:List (Option Int)) (y:Option Int),x = .ref p∧vs=[eC y]∧SqL K H p (ss.map eC)∧y∈ss∧Q (.int (ss.idxOf y:Nat)) H
theorem my(K:PySem.W.Frag)(hK:X.K=K:=by rfl):MtR X "list.index" (zJ K):=by
 subst hK
 intro pins s σ H x xs v us Q I rx r h
 obtain⟨p,ss,y,rfl,rfl,hq,hy,q⟩:=h
 cases rx
 obtain⟨u,rfl,ru⟩:=dm r
 obtain⟨its,rv,pl,hz⟩:=I.list hq
 have hlen:its.length=ss.length:=by rw[← rv.length,List.length_map]
 rw[List.length_map]at hz
 have hs:sizeLine=16777216:=sizeLine_eq
 obtain⟨⟨cls,dd,data,sl⟩,ho,hc,n,hd⟩:=pl.isList
 simp only at hc hd
 subst hc hd
 have hj:ss.idxOf y<ss.length:=List.idxOf_lt_length_iff.mpr hy
 have rel:∀ (i:Nat) (h:i<its.length),RelV (eC (ss[i]'(by omega))) its[i]:=fun i h=>by
  obtain⟨x,hx,rx⟩:=rv.of (i:=i) (u:=its[i]) (List.getElem?_eq_getElem h)
  rw[List.getElem?_map,List.getElem?_eq_getElem (by omega)]at hx
  have hx':eC (ss[i]'(by omega))=x:=Option.some.inj hx
  subst hx'
  exact rx
 have eqq:∀ (i:Nat) (h:i<its.length),hZ (eC y) its[i]=decide (ss[i]'(by omega)=y):=fun i h=>by
  rw[kM (rel i h) (fj _),rL]
 refine call_meets PySem.F.slot_list_index ⟨_,ho,rfl⟩ PySem.F.entry_list_index (PySem.F.args_list_index_2 _ _)
  (list_indexAt p its.toArray n dd sl u (hZ (eC y)) (ss.idxOf y) (by simpa [hlen] using hj) (by omega) ?_ ?_) ⟨ho,fun z hz=>?_,⟨.int _,H,I.tok _,⟨_,rfl⟩,q⟩⟩
 ·show hZ (eC y) its[ss.idxOf y]=true
  rw[eqq _ (by omega),List.getElem_idxOf hj]; simp
 ·intro j hjs hlt
  have hj':j<its.length:=by simpa using hjs
  show hZ (eC y) its[j]=false
  rw[eqq j hj']
  exact decide_eq_false (rj hlt _)
 ·have hz':z∈its:=by simpa using hz
  obtain⟨i,hi,rfl⟩:=List.mem_iff_getElem.mp hz'
  rw[kM (rel i hi) (fj _)]
  exact iV (A:=X.A.in1) (s:=s) (rel i hi) ru (fj _) (fj _)
end
section
variable{X:Cx}
end
section
variable{X:Cx}
end
end L2
namespace L2
open PySem PySem.Spec PyProof PyProof.Rows
section
variable{X:Cx}
def yh:V→List V→Hp→VK→Prop:=fun x xs H Q=>∃ a kvs k v,x = .ref a∧xs=[kV k,v]∧H a=some (.dK kvs)∧kvs.length<sizeLine∧(∀ z,aM kvs k=some z→Q z H)∧(aM kvs k=none→Q v (upd H a (.dK (aZ kvs k v))))
theorem ua:MtR X "dict.setdefault" yh:=by
 intro pins s σ H x vs v us Q I rx rv h
 obtain⟨a,kvs,k,y,rfl,rfl,e,hl,q1,q2⟩:=h
 cases rx
 obtain⟨u,r,rfl,ru,rr⟩:=kJ rv
 obtain⟨z,hd,vs,rel,dd⟩:=yT I.hok e
 have hz:vs.length≤sizeLine:=by rw[← rel.length]; exact z
 have hl':(aZ kvs k y).length≤sizeLine:=by have:=eU kvs k y; omega
 have rv:=rel.val k
 refine call_meetsIn PySem.F.slot_dict_setdefault dd.typeIs PySem.F.entry_dict_setdefault (PySem.F.args_dict_setdefault_3 _ _ _) (kt_meets_setdefault (cK X.prog X.w) a (nX ru) hd r) ⟨vs,dd,hz,fun z' hz'=>?_,fun hn h' dd' hs=>?_⟩
 ·cases ho:aM kvs k with
  | none=>rw[ho,hz']at rv; exact rv.elim
  | some w'=>
   rw[ho,hz']at rv
   exact⟨w',H,I.tok _,rv,q1 w' ho⟩
 ·have ho:aM kvs k=none:=by
   cases ho:aM kvs k with
   | none=>rfl
   | some w'=>rw[ho,hn]at rv; exact rv.elim
  have he:∃ q,h'.get? a=some q:=let ⟨q,_,_,hq,_⟩:=dd'; ⟨q,hq⟩
  exact⟨y,_,lP I (by rw[e]; exact True.intro) hs he (vI hl' hd (rel.put k rr) dd'),rr,q2 ho⟩
end
section
variable{prog:Program}{w:World}{κ : Type}[DecidableEq κ]{knd:HeapKind prog w κ}{A:Around}{E:Value→Shared→Prop}{s:Shared}
end
section
variable{X:Cx}
end
end L2
namespace L2
open PySem PySem.Spec PyProof PyProof.Rows
section
variable{X:Cx}{pins:List (Addr × Obj)}{σ : List (Option V)}{H:Hp}{s:Shared}
end
section
variable{X:Cx}
end
open PySem.SeqAt
section
variable{X:Cx}
end
end L2
namespace PySem.SeqAt
open AutoSeq1 (wpAny_loadPart')
open MeetsSeq MeetsSeq2 MeetsSeq3
open SeqRoads2
section
variable{A:Around}{s:Shared}
end
end PySem.SeqAt
namespace L2
open PySem PySem.Spec PyProof PyProof.Rows PySem.SeqAt
section
variable{X:Cx}{pins:List (Addr × Obj)}{σ : St}{H:Hp}{s:Shared}
end
end L2
namespace PySem
section
variable{M:Program}{w:World}{A:Around}{R:Result→Shared→Prop}{I:Addr}{fp wr:List Addr}{n:Nat}{Pv:Nat→Value→Prop}{St:Nat→Heap→Prop}
end
end PySem
namespace PySem
section
variable{M:Program}{w:World}{A:Around}{E:Value→Shared→Prop}{s:Shared}
end
end PySem
namespace L2
open PySem PySem.Spec PyProof PyProof.Rows PySem.SeqAt
section
variable{X:Cx}
end
end L2
namespace L2
open PySem PySem.Spec PyProof PyProof.Rows
section
variable{X:Cx}
end
end L2
namespace L2
open PySem PySem.Spec PyProof.Rows
abbrev ig:=Sum Str (List (Option Int))
def tF(prog:Program)(w:World)(h:Heap):ig→Value→Prop
 | .inl u,v=>∃ t,v=Value.str u t
 | .inr l,v=>IsTupK (em prog w) h l v
theorem CH(i j:Str):decide (i=j)=decide ((Sum.inl i:ig)=Sum.inl j):=by
 by_cases z:i=j
 ·subst z; simp
 ·have z':¬ ((Sum.inl i:ig)=Sum.inl j):=fun q=>z (Sum.inl.inj q)
  rw[decide_eq_false z',decide_eq_false z]
theorem CV(l l':List (Option Int)):decide (l=l')=decide ((Sum.inr l:ig)=Sum.inr l'):=by
 by_cases z:l=l'
 ·subst z; simp
 ·have z':¬ ((Sum.inr l:ig)=Sum.inr l'):=fun q=>z (Sum.inr.inj q)
  rw[decide_eq_false z',decide_eq_false z]
theorem Cu(i:Str)(l:List (Option Int)):decide ((Sum.inl i:ig)=Sum.inr l)=false:=decide_eq_false (fun q=>nomatch q)
theorem CQ(i:Str)(l:List (Option Int)):decide ((Sum.inr l:ig)=Sum.inl i)=false:=decide_eq_false (fun q=>nomatch q)
theorem CK{prog:Program}{w:World}{A:Around}{E:Value→Shared→Prop}{s:Shared}{u v:Value}{Q:Bool→Shared→Prop}(hu:A.units+1<cLine):∀ (x y:ig),tF prog w s.heap x u→tF prog w s.heap y v→Q (decide (x=y)) s→
  wpAny (model prog w) A (PySem.eqBool u v) Q E s
 | .inl i,.inl j,⟨t,e1⟩,⟨t',e2⟩,h=>by
  subst e1 e2
  rw[← CH]at h
  exact wpAny_eqBool_str h
 | .inl i,.inr l,⟨t,e1⟩,hy,h=>by
  subst e1
  obtain⟨b,its,rfl,ht⟩:=IsTupK.tup (K:=em prog w) hy
  rw[Cu]at h
  exact SeqAt.EqAt.str_tuple i t ht (Nat.lt_of_succ_lt hu) prog w E Q h
 | .inr l,.inl j,hx,⟨t,e1⟩,h=>by
  subst e1
  obtain⟨b,its,rfl,ht⟩:=IsTupK.tup (K:=em prog w) hx
  rw[CQ]at h
  exact SeqAt.EqAt.tuple_str j t ht (Nat.lt_of_succ_lt hu) prog w E Q h
 | .inr l,.inr l',hx,hy,h=>by
  rw[← CV]at h
  exact lU (K:=em prog w) (rV hu) hx hy h
def DN(prog:Program)(w:World):IK prog w ig where
 is:=tF prog w
 hash:=fun k=>match k with
  | .inl u=>hashStr w u
  | .inr l=>oi (em prog w) l
 draws:=fun k=>match k with
  | .inl _=>1
  | .inr l=>g0 (em prog w) l+1
 deep:=1
 inj:=fun {h v x y} a b=>by
  cases x with
  | inl i=>
   obtain⟨t,rfl⟩:=(show ∃ t,v=Value.str i t from a)
   cases y with
   | inl j=>obtain⟨t',e⟩:=(show ∃ t',Value.str i t=Value.str j t' from b); injection e with e1 _; rw[e1]
   | inr l=>obtain⟨a,_,e,_⟩:=IsTupK.tup (show IsTupK (em prog w) h l _ from b); cases e
  | inr l=>
   cases y with
   | inl j=>
    obtain⟨t,rfl⟩:=(show ∃ t,v=Value.str j t from b)
    obtain⟨a,_,e,_⟩:=IsTupK.tup (show IsTupK (em prog w) h l _ from a); cases e
   | inr l'=>rw[(uf (em prog w)).inj (show IsTupK (em prog w) h l v from a) (show IsTupK (em prog w) h l' v from b)]
 keeps:=fun {h h' k v d o es ep} a ho hd hs=>by
  cases k with
  | inl i=>exact a
  | inr l=>exact(uf (em prog w)).keeps (show IsTupK (em prog w) h l v from a) ho hd hs
 pyHash:=fun {A E s k v Q} hu hk h=>by
  cases k with
  | inl i=>
   obtain⟨t,rfl⟩:=(show ∃ t,v=Value.str i t from hk)
   exact wpAny_pyHash_str h
  | inr l=>exact ja (K:=em prog w) (rV hu) hk h
 eqBool:=fun {A E s x y u v Q} hu hx hy h=>CK hu x y hx hy h
 quiet:=fun {A E s k v n Q} hk h=>by
  cases k with
  | inl i=>
   obtain⟨t,rfl⟩:=(show ∃ t,v=Value.str i t from hk)
   rw[eqIsQuiet_byValue _ rfl]
   exact wpAny_pure h
  | inr l=>exact iM (K:=em prog w) hk h
abbrev ml:=Str × List (Option Int)
def sk(k:ml):List ig:=[.inl k.1,.inr k.2]
def MS(P:Program)(w:World):HeapKind P w (List ig):=zb (DN P w) (show 1≤7 by decide)
def CU(P:Program)(w:World)(a:Addr)(xs:List (List ig × Addr × Value)):HO:=
 .ext fun h=>∃ o es ep,h.get? a=some o∧o.ExactDict∧o.data = .dict es ep∧es.toList=xs.map (entryOfKey (MS P w))∧(xs.map (·.1)).Nodup
def Er(H:Hp)(k:ml)(b:Addr):Prop:=∃ t,H b=some (.tup [.str k.1,.ref t])∧H t=some (.tup (k.2.map eC))
def Fg(H:Hp)(p:ml × V)(q:List ig × Addr × Value):Prop:=q.1=sk p.1∧Er H p.1 q.2.1∧RelV p.2 q.2.2
def DS(P:Program)(w:World)(H:Hp)(a:Addr)(kvs:List (ml × V)):Prop:=
 ∃ xs,H a=some (CU P w a xs)∧(a == sysModules)=false∧xs.length≤sizeLine∧Paired (Fg H) kvs xs
section
variable{P:Program}{w:World}{H:Hp}
end
section
variable{X:Cx}{pins:List (Addr × Obj)}{σ : St}{H:Hp}{s:Shared}{a b:Addr}{k:ml}{kvs:List (ml × V)}
end
end L2
section
open PySem PySem.Spec PyProof.Rows L2
seal L2.PE L2.PT L2.PW L2.PA L2.PS L2.PSs L2.PG L2.PGs L2.PSet L2.PI L2.PIfs L2.OpR L2.UnR L2.CallR L2.IxR L2.MtR L2.SlR L2.PO L2.PPs
local macro_rules | `(tactic| walk_at "rd1")=>`(tactic| try simp only [sf,kI,jK,oE,sO,rW,qu,rP,oX,qW,qC,q8,s_,sH,yH,wB,wF,ol,y8,s0,wk,rF,v8,vU,qv,rR,qV,rZ,qG,wj,sU,pN,pY,mM,mY,jP,n_,mT,uY,qI,lu,n8,sy,rS,oZ,qz,rJ,pV,rf,qm,pW,sF,oN,wx,yW,mU,mK,gX,mx,nu,o_,oh,ms,sr,yJ,rk,qb,pd,oV,oz,ng,mV,oB,oW,kU,pS,rg,rb,mD,nw,eL,sJ,mL,sI,mC,pG,pR,p0,oQ,pj,rE,sR,sg,rA,L2.start,List.map_cons,List.map_nil,List.length_cons,List.length_nil,List.replicate,List.cons_append,List.nil_append,List.append_nil,List.getElem?_cons_zero,List.getElem?_cons_succ,List.set_cons_zero,List.set_cons_succ,Nat.reduceAdd,Nat.reduceSub,Option.some.injEq,exists_eq_left',exists_eq_left,V.int.injEq,V.ref.injEq,V.str.injEq,V.bl.injEq,vF,rD,and_true,true_and,decide_eq_true_eq,Bool.not_true,Bool.not_false,if_true,Bool.false_eq_true,if_false,ite_true,ite_false])
local macro_rules | `(tactic| walk_at "nx")=>`(tactic| ((first | rw [lM] | (dsimp only; rw [lM])); walk_at "rd1"))
local macro_rules | `(tactic| walk_at "lk")=>`(tactic| repeat (first | exact Bx | exact Bd | rw [zr (by decide +kernel)]))
local macro_rules | `(tactic| walk_at "pf")=>`(tactic| repeat (first | rw [putF_hit] | rw [x6] | rw [wt (by decide +kernel)]))
namespace K36
open PySem L2
abbrev cF:Stmt:=az 3
theorem nL:aT ["kind"] ["kind"] (defScope cF):=⟨rfl,rfl,rfl,by decide +kernel,rfl,by decide +kernel,by decide +kernel⟩
theorem Hg:ap (defScope cF) "kind" := Or.inl (by decide +kernel)
theorem GT:(defScope cF).names.lookup ("CLOSERS" : Str)=some .globalImplicit:=by decide +kernel
abbrev c_:Stmt:=az 4
theorem uD:aT ["step"] ["step"] (defScope c_):=⟨rfl,rfl,rfl,by decide +kernel,rfl,by decide +kernel,by decide +kernel⟩
theorem Bl:ap (defScope c_) "step" := Or.inl (by decide +kernel)
theorem Ga:(defScope c_).names.lookup ("closers_of" : Str)=some .globalImplicit:=by decide +kernel
theorem Dk:(defScope c_).names.lookup ("len" : Str)=some .globalImplicit:=by decide +kernel
abbrev cB:Stmt:=az 5
theorem oR:aT ["step"] ["step"] (defScope cB):=⟨rfl,rfl,rfl,by decide +kernel,rfl,by decide +kernel,by decide +kernel⟩
theorem Dl:ap (defScope cB) "step" := Or.inl (by decide +kernel)
theorem He:(defScope cB).names.lookup ("head_of" : Str)=some .globalImplicit:=by decide +kernel
theorem Gx:(defScope cB).names.lookup ("len" : Str)=some .globalImplicit:=by decide +kernel
abbrev bn:Stmt:=az 6
theorem sc_steps_within:aT ["program", "steps", "step", "block"] ["program"] (defScope bn):=⟨rfl,rfl,rfl,by decide +kernel,rfl,by decide +kernel,by decide +kernel⟩
theorem Hx:ap (defScope bn) "program" := Or.inl (by decide +kernel)
theorem Co:ap (defScope bn) "steps" := Or.inl (by decide +kernel)
theorem Gy:aE (defScope bn) "steps" := Or.inl (by decide +kernel)
theorem CZ:ap (defScope bn) "step" := Or.inl (by decide +kernel)
theorem G3:aE (defScope bn) "step" := Or.inl (by decide +kernel)
theorem G5:ap (defScope bn) "block" := Or.inl (by decide +kernel)
theorem GK:aE (defScope bn) "block" := Or.inl (by decide +kernel)
theorem GC:(defScope bn).names.lookup ("blocks_of" : Str)=some .globalImplicit:=by decide +kernel
theorem F8:(defScope bn).names.lookup ("steps_within" : Str)=some .globalImplicit:=by decide +kernel
abbrev bI:Stmt:=az 7
theorem sc_names_in:aT ["steps", "names", "step", "part", "kind"] ["steps"] (defScope bI):=⟨rfl,rfl,rfl,by decide +kernel,rfl,by decide +kernel,by decide +kernel⟩
theorem Gc:ap (defScope bI) "steps" := Or.inl (by decide +kernel)
theorem Dm:ap (defScope bI) "names" := Or.inl (by decide +kernel)
theorem GV:aE (defScope bI) "names" := Or.inl (by decide +kernel)
theorem Dd:ap (defScope bI) "step" := Or.inl (by decide +kernel)
theorem Gi:aE (defScope bI) "step" := Or.inl (by decide +kernel)
theorem GA:ap (defScope bI) "part" := Or.inl (by decide +kernel)
theorem Gk:aE (defScope bI) "part" := Or.inl (by decide +kernel)
theorem Ha:ap (defScope bI) "kind" := Or.inl (by decide +kernel)
theorem GE:aE (defScope bI) "kind" := Or.inl (by decide +kernel)
theorem GG:(defScope bI).names.lookup ("PARTS" : Str)=some .globalImplicit:=by decide +kernel
theorem GD:(defScope bI).names.lookup ("list" : Str)=some .globalImplicit:=by decide +kernel
theorem Gu:(defScope bI).names.lookup ("zip" : Str)=some .globalImplicit:=by decide +kernel
abbrev aX:Stmt:=az 8
theorem sc_lines_of:aT ["program", "lines", "step", "block", "closer"] ["program"] (defScope aX):=⟨rfl,rfl,rfl,by decide +kernel,rfl,by decide +kernel,by decide +kernel⟩
theorem G8:ap (defScope aX) "program" := Or.inl (by decide +kernel)
theorem yY:ap (defScope aX) "lines" := Or.inl (by decide +kernel)
theorem F_:aE (defScope aX) "lines" := Or.inl (by decide +kernel)
theorem A7:ap (defScope aX) "step" := Or.inl (by decide +kernel)
theorem Gs:aE (defScope aX) "step" := Or.inl (by decide +kernel)
theorem Hh:ap (defScope aX) "block" := Or.inl (by decide +kernel)
theorem GH:aE (defScope aX) "block" := Or.inl (by decide +kernel)
theorem Hq:ap (defScope aX) "closer" := Or.inl (by decide +kernel)
theorem Hs:aE (defScope aX) "closer" := Or.inl (by decide +kernel)
theorem Hk:(defScope aX).names.lookup ("blocks_of" : Str)=some .globalImplicit:=by decide +kernel
theorem Gj:(defScope aX).names.lookup ("closers_of" : Str)=some .globalImplicit:=by decide +kernel
theorem Ho:(defScope aX).names.lookup ("head_of" : Str)=some .globalImplicit:=by decide +kernel
theorem G6:(defScope aX).names.lookup ("lines_of" : Str)=some .globalImplicit:=by decide +kernel
theorem Hy:(defScope aX).names.lookup ("zip" : Str)=some .globalImplicit:=by decide +kernel
abbrev cT:Stmt:=az 9
theorem qK:aT ["program"] ["program"] (defScope cT):=⟨rfl,rfl,rfl,by decide +kernel,rfl,by decide +kernel,by decide +kernel⟩
theorem Ge:ap (defScope cT) "program" := Or.inl (by decide +kernel)
theorem Hj:(defScope cT).names.lookup ("names_in" : Str)=some .globalImplicit:=by decide +kernel
theorem G1:(defScope cT).names.lookup ("steps_within" : Str)=some .globalImplicit:=by decide +kernel
abbrev aV:Stmt:=inClass (az 11) 0
theorem gs:aT ["self", "head", "lines", "blocks"] ["self", "head", "lines", "blocks"] (defScope aV):=⟨rfl,rfl,rfl,by decide +kernel,rfl,by decide +kernel,by decide +kernel⟩
theorem yZ:ap (defScope aV) "self" := Or.inl (by decide +kernel)
theorem Dj:ap (defScope aV) "head" := Or.inl (by decide +kernel)
theorem Gv:ap (defScope aV) "lines" := Or.inl (by decide +kernel)
theorem G0:ap (defScope aV) "blocks" := Or.inl (by decide +kernel)
abbrev b9:Stmt:=az 12
theorem lW:aT ["steps", "line"] ["steps", "line"] (defScope b9):=⟨rfl,rfl,rfl,by decide +kernel,rfl,by decide +kernel,by decide +kernel⟩
theorem C1:ap (defScope b9) "steps" := Or.inl (by decide +kernel)
theorem G2:ap (defScope b9) "line" := Or.inl (by decide +kernel)
theorem Hr:(defScope b9).names.lookup ("len" : Str)=some .globalImplicit:=by decide +kernel
abbrev aC:Stmt:=az 13
theorem sc_numbered_step:aT ["step", "line", "lines", "blocks", "block", "steps"] ["step", "line"] (defScope aC):=⟨rfl,rfl,rfl,by decide +kernel,rfl,by decide +kernel,by decide +kernel⟩
theorem C_:ap (defScope aC) "step" := Or.inl (by decide +kernel)
theorem G_:ap (defScope aC) "line" := Or.inl (by decide +kernel)
theorem y_:ap (defScope aC) "lines" := Or.inl (by decide +kernel)
theorem GL:aE (defScope aC) "lines" := Or.inl (by decide +kernel)
theorem CY:ap (defScope aC) "blocks" := Or.inl (by decide +kernel)
theorem Gn:aE (defScope aC) "blocks" := Or.inl (by decide +kernel)
theorem GQ:ap (defScope aC) "block" := Or.inl (by decide +kernel)
theorem Hc:aE (defScope aC) "block" := Or.inl (by decide +kernel)
theorem Dg:ap (defScope aC) "steps" := Or.inl (by decide +kernel)
theorem F6:aE (defScope aC) "steps" := Or.inl (by decide +kernel)
theorem GW:(defScope aC).names.lookup ("NumberedStep" : Str)=some .globalImplicit:=by decide +kernel
theorem Gz:(defScope aC).names.lookup ("blocks_of" : Str)=some .globalImplicit:=by decide +kernel
theorem Gb:(defScope aC).names.lookup ("head_of" : Str)=some .globalImplicit:=by decide +kernel
theorem G7:(defScope aC).names.lookup ("line_behind" : Str)=some .globalImplicit:=by decide +kernel
theorem GJ:(defScope aC).names.lookup ("numbered_steps" : Str)=some .globalImplicit:=by decide +kernel
abbrev bd:Stmt:=az 14
theorem sc_numbered_steps:aT ["steps", "line", "numbered", "step"] ["steps", "line"] (defScope bd):=⟨rfl,rfl,rfl,by decide +kernel,rfl,by decide +kernel,by decide +kernel⟩
theorem HJ:ap (defScope bd) "steps" := Or.inl (by decide +kernel)
theorem Hd:ap (defScope bd) "line" := Or.inl (by decide +kernel)
theorem Cd:ap (defScope bd) "numbered" := Or.inl (by decide +kernel)
theorem GI:aE (defScope bd) "numbered" := Or.inl (by decide +kernel)
theorem Hf:ap (defScope bd) "step" := Or.inl (by decide +kernel)
theorem GM:aE (defScope bd) "step" := Or.inl (by decide +kernel)
theorem F7:(defScope bd).names.lookup ("line_behind" : Str)=some .globalImplicit:=by decide +kernel
theorem Hm:(defScope bd).names.lookup ("numbered_step" : Str)=some .globalImplicit:=by decide +kernel
abbrev bC:Stmt:=az 16
theorem nG:aT ["program"] ["program"] (defScope bC):=⟨rfl,rfl,rfl,by decide +kernel,rfl,by decide +kernel,by decide +kernel⟩
theorem Hv:ap (defScope bC) "program" := Or.inl (by decide +kernel)
theorem GU:(defScope bC).names.lookup ("enumerate" : Str)=some .globalImplicit:=by decide +kernel
theorem Ht:(defScope bC).names.lookup ("lines_of" : Str)=some .globalImplicit:=by decide +kernel
abbrev bS:Stmt:=az 17
theorem sc_slots_of:aT ["program", "slots", "slot", "holder"] ["program"] (defScope bS):=⟨rfl,rfl,rfl,by decide +kernel,rfl,by decide +kernel,by decide +kernel⟩
theorem Di:ap (defScope bS) "program" := Or.inl (by decide +kernel)
theorem Cq:ap (defScope bS) "slots" := Or.inl (by decide +kernel)
theorem Gd:aE (defScope bS) "slots" := Or.inl (by decide +kernel)
theorem E_:ap (defScope bS) "slot" := Or.inl (by decide +kernel)
theorem Hi:aE (defScope bS) "slot" := Or.inl (by decide +kernel)
theorem Eb:ap (defScope bS) "holder" := Or.inl (by decide +kernel)
theorem GY:aE (defScope bS) "holder" := Or.inl (by decide +kernel)
theorem HI:(defScope bS).names.lookup ("enumerate" : Str)=some .globalImplicit:=by decide +kernel
theorem HG:(defScope bS).names.lookup ("lend_lines" : Str)=some .globalImplicit:=by decide +kernel
theorem Hl:(defScope bS).names.lookup ("names_of" : Str)=some .globalImplicit:=by decide +kernel
abbrev bv:Stmt:=az 18
theorem sc_simple_row:aT ["step", "slots", "line"] ["step", "slots"] (defScope bv):=⟨rfl,rfl,rfl,by decide +kernel,rfl,by decide +kernel,by decide +kernel⟩
theorem lX:ap (defScope bv) "step" := Or.inl (by decide +kernel)
theorem EN:ap (defScope bv) "slots" := Or.inr (Or.inl (by decide +kernel))
theorem B7:ap (defScope bv) "line" := Or.inl (by decide +kernel)
theorem GN:aE (defScope bv) "line" := Or.inl (by decide +kernel)
theorem Hw:(defScope bv).names.lookup ("tuple" : Str)=some .globalImplicit:=by decide +kernel
abbrev aH:Stmt:=az 19
theorem sc_lend_rows:aT ["step", "at", "slots", "turned", "line", "back", "giver", "taker", "lent", "ahead", "within"] ["step", "at", "slots", "turned"] (defScope aH):=⟨rfl,rfl,rfl,by decide +kernel,rfl,by decide +kernel,by decide +kernel⟩
theorem oK:ap (defScope aH) "step" := Or.inl (by decide +kernel)
theorem F2:ap (defScope aH) "at" := Or.inl (by decide +kernel)
theorem ut:ap (defScope aH) "slots" := Or.inl (by decide +kernel)
theorem Ec:ap (defScope aH) "turned" := Or.inl (by decide +kernel)
theorem tJ:ap (defScope aH) "line" := Or.inl (by decide +kernel)
theorem G9:aE (defScope aH) "line" := Or.inl (by decide +kernel)
theorem wZ:ap (defScope aH) "back" := Or.inl (by decide +kernel)
theorem HK:aE (defScope aH) "back" := Or.inl (by decide +kernel)
theorem FL:ap (defScope aH) "giver" := Or.inl (by decide +kernel)
theorem GB:aE (defScope aH) "giver" := Or.inl (by decide +kernel)
theorem Bi:ap (defScope aH) "taker" := Or.inl (by decide +kernel)
theorem Gp:aE (defScope aH) "taker" := Or.inl (by decide +kernel)
theorem pO:ap (defScope aH) "lent" := Or.inl (by decide +kernel)
theorem Gq:aE (defScope aH) "lent" := Or.inl (by decide +kernel)
theorem A0:ap (defScope aH) "ahead" := Or.inl (by decide +kernel)
theorem GZ:aE (defScope aH) "ahead" := Or.inl (by decide +kernel)
theorem DJ:ap (defScope aH) "within" := Or.inl (by decide +kernel)
theorem Hz:aE (defScope aH) "within" := Or.inl (by decide +kernel)
theorem Gh:(defScope aH).names.lookup ("len" : Str)=some .globalImplicit:=by decide +kernel
theorem GX:(defScope aH).names.lookup ("rows_of" : Str)=some .globalImplicit:=by decide +kernel
abbrev bx:Stmt:=az 20
theorem sc_if_rows:aT ["step", "at", "slots", "turned", "more", "jump", "rest", "behind", "test"] ["step", "at", "slots", "turned"] (defScope bx):=⟨rfl,rfl,rfl,by decide +kernel,rfl,by decide +kernel,by decide +kernel⟩
theorem qx:ap (defScope bx) "step" := Or.inl (by decide +kernel)
theorem AB:ap (defScope bx) "at" := Or.inl (by decide +kernel)
theorem Ay:ap (defScope bx) "slots" := Or.inl (by decide +kernel)
theorem B8:ap (defScope bx) "turned" := Or.inl (by decide +kernel)
theorem Ag:ap (defScope bx) "more" := Or.inl (by decide +kernel)
theorem HP:aE (defScope bx) "more" := Or.inl (by decide +kernel)
theorem wO:ap (defScope bx) "jump" := Or.inl (by decide +kernel)
theorem GR:aE (defScope bx) "jump" := Or.inl (by decide +kernel)
theorem BN:ap (defScope bx) "rest" := Or.inl (by decide +kernel)
theorem Gr:aE (defScope bx) "rest" := Or.inl (by decide +kernel)
theorem E2:ap (defScope bx) "behind" := Or.inl (by decide +kernel)
theorem HL:aE (defScope bx) "behind" := Or.inl (by decide +kernel)
theorem FD:ap (defScope bx) "test" := Or.inl (by decide +kernel)
theorem Gf:aE (defScope bx) "test" := Or.inl (by decide +kernel)
theorem Dh:(defScope bx).names.lookup ("len" : Str)=some .globalImplicit:=by decide +kernel
theorem Da:(defScope bx).names.lookup ("rows_of" : Str)=some .globalImplicit:=by decide +kernel
abbrev bL:Stmt:=az 21
theorem sc_loop_rows:aT ["step", "at", "slots", "within", "behind"] ["step", "at", "slots"] (defScope bL):=⟨rfl,rfl,rfl,by decide +kernel,rfl,by decide +kernel,by decide +kernel⟩
theorem ub:ap (defScope bL) "step" := Or.inl (by decide +kernel)
theorem wK:ap (defScope bL) "at" := Or.inl (by decide +kernel)
theorem DD:ap (defScope bL) "slots" := Or.inl (by decide +kernel)
theorem Bv:ap (defScope bL) "within" := Or.inl (by decide +kernel)
theorem F9:aE (defScope bL) "within" := Or.inl (by decide +kernel)
theorem EH:ap (defScope bL) "behind" := Or.inl (by decide +kernel)
theorem GF:aE (defScope bL) "behind" := Or.inl (by decide +kernel)
theorem GO:(defScope bL).names.lookup ("len" : Str)=some .globalImplicit:=by decide +kernel
theorem D8:(defScope bL).names.lookup ("rows_of" : Str)=some .globalImplicit:=by decide +kernel
abbrev ba:Stmt:=az 22
theorem sc_while_rows:aT ["step", "at", "slots", "turned", "first", "loop", "behind"] ["step", "at", "slots", "turned"] (defScope ba):=⟨rfl,rfl,rfl,by decide +kernel,rfl,by decide +kernel,by decide +kernel⟩
theorem pA:ap (defScope ba) "step" := Or.inl (by decide +kernel)
theorem tY:ap (defScope ba) "at" := Or.inl (by decide +kernel)
theorem wV:ap (defScope ba) "slots" := Or.inl (by decide +kernel)
theorem D_:ap (defScope ba) "turned" := Or.inl (by decide +kernel)
theorem yo:ap (defScope ba) "first" := Or.inl (by decide +kernel)
theorem Hn:aE (defScope ba) "first" := Or.inl (by decide +kernel)
theorem A1:ap (defScope ba) "loop" := Or.inl (by decide +kernel)
theorem Fh:aE (defScope ba) "loop" := Or.inl (by decide +kernel)
theorem DT:ap (defScope ba) "behind" := Or.inl (by decide +kernel)
theorem D7:aE (defScope ba) "behind" := Or.inl (by decide +kernel)
theorem xU:(defScope ba).names.lookup ("len" : Str)=some .globalImplicit:=by decide +kernel
theorem B3:(defScope ba).names.lookup ("loop_rows" : Str)=some .globalImplicit:=by decide +kernel
theorem El:(defScope ba).names.lookup ("rows_of" : Str)=some .globalImplicit:=by decide +kernel
abbrev bE:Stmt:=az 23
theorem sc_rows_of:aT ["steps", "at", "slots", "turned", "rows", "step", "place"] ["steps", "at", "slots", "turned"] (defScope bE):=⟨rfl,rfl,rfl,by decide +kernel,rfl,by decide +kernel,by decide +kernel⟩
theorem Ed:ap (defScope bE) "steps" := Or.inl (by decide +kernel)
theorem Fv:ap (defScope bE) "at" := Or.inl (by decide +kernel)
theorem tw:ap (defScope bE) "slots" := Or.inl (by decide +kernel)
theorem yc:ap (defScope bE) "turned" := Or.inl (by decide +kernel)
theorem lJ:ap (defScope bE) "rows" := Or.inl (by decide +kernel)
theorem D1:aE (defScope bE) "rows" := Or.inl (by decide +kernel)
theorem kf:ap (defScope bE) "step" := Or.inl (by decide +kernel)
theorem Ez:aE (defScope bE) "step" := Or.inl (by decide +kernel)
theorem yv:ap (defScope bE) "place" := Or.inl (by decide +kernel)
theorem Dt:aE (defScope bE) "place" := Or.inl (by decide +kernel)
theorem Fd:(defScope bE).names.lookup ("if_rows" : Str)=some .globalImplicit:=by decide +kernel
theorem Fq:(defScope bE).names.lookup ("len" : Str)=some .globalImplicit:=by decide +kernel
theorem Fj:(defScope bE).names.lookup ("lend_rows" : Str)=some .globalImplicit:=by decide +kernel
theorem DP:(defScope bE).names.lookup ("simple_row" : Str)=some .globalImplicit:=by decide +kernel
theorem Dy:(defScope bE).names.lookup ("while_rows" : Str)=some .globalImplicit:=by decide +kernel
abbrev bz:Stmt:=az 24
theorem sc_rows_and_end:aT ["program", "turned", "steps"] ["program", "turned"] (defScope bz):=⟨rfl,rfl,rfl,by decide +kernel,rfl,by decide +kernel,by decide +kernel⟩
theorem Bp:ap (defScope bz) "program" := Or.inl (by decide +kernel)
theorem Eo:ap (defScope bz) "turned" := Or.inl (by decide +kernel)
theorem AN:ap (defScope bz) "steps" := Or.inl (by decide +kernel)
theorem D4:aE (defScope bz) "steps" := Or.inl (by decide +kernel)
theorem D9:(defScope bz).names.lookup ("line_behind" : Str)=some .globalImplicit:=by decide +kernel
theorem FW:(defScope bz).names.lookup ("numbered_steps" : Str)=some .globalImplicit:=by decide +kernel
theorem Ej:(defScope bz).names.lookup ("rows_of" : Str)=some .globalImplicit:=by decide +kernel
theorem FU:(defScope bz).names.lookup ("slots_of" : Str)=some .globalImplicit:=by decide +kernel
abbrev cw:Stmt:=az 25
theorem lD:aT ["program"] ["program"] (defScope cw):=⟨rfl,rfl,rfl,by decide +kernel,rfl,by decide +kernel,by decide +kernel⟩
theorem FY:ap (defScope cw) "program" := Or.inl (by decide +kernel)
theorem FZ:(defScope cw).names.lookup ("rows_and_end" : Str)=some .globalImplicit:=by decide +kernel
abbrev b_:Stmt:=az 27
theorem lR:aT ["_law_script", "_law_k"] ["_law_script", "_law_k"] (defScope b_):=⟨rfl,rfl,rfl,by decide +kernel,rfl,by decide +kernel,by decide +kernel⟩
theorem AV:ap (defScope b_) "_law_script" := Or.inl (by decide +kernel)
theorem BZ:ap (defScope b_) "_law_k" := Or.inl (by decide +kernel)
theorem EA:(defScope b_).names.lookup ("len" : Str)=some .globalImplicit:=by decide +kernel
abbrev aA:Stmt:=az 28
theorem sc_law_names:aT ["_law_cell", "_law_letters", "_law_base", "_law_many", "_law_size", "_law_at", "_law_found", "_law_k", "_law_sign"] ["_law_cell"] (defScope aA):=⟨rfl,rfl,rfl,by decide +kernel,rfl,by decide +kernel,by decide +kernel⟩
theorem me:ap (defScope aA) "_law_cell" := Or.inr (Or.inl (by decide +kernel))
theorem E5:ap (defScope aA) "_law_letters" := Or.inr (Or.inl (by decide +kernel))
theorem DZ:aE (defScope aA) "_law_letters" := Or.inr (by decide +kernel)
theorem md:ap (defScope aA) "_law_base" := Or.inl (by decide +kernel)
theorem DV:aE (defScope aA) "_law_base" := Or.inl (by decide +kernel)
theorem xc:ap (defScope aA) "_law_many" := Or.inl (by decide +kernel)
theorem Ee:aE (defScope aA) "_law_many" := Or.inl (by decide +kernel)
theorem Bt:ap (defScope aA) "_law_size" := Or.inl (by decide +kernel)
theorem Du:aE (defScope aA) "_law_size" := Or.inl (by decide +kernel)
theorem BJ:ap (defScope aA) "_law_at" := Or.inl (by decide +kernel)
theorem Ds:aE (defScope aA) "_law_at" := Or.inl (by decide +kernel)
theorem AM:ap (defScope aA) "_law_found" := Or.inl (by decide +kernel)
theorem Fo:aE (defScope aA) "_law_found" := Or.inl (by decide +kernel)
theorem FG:ap (defScope aA) "_law_k" := Or.inl (by decide +kernel)
theorem Ey:aE (defScope aA) "_law_k" := Or.inl (by decide +kernel)
theorem FA:ap (defScope aA) "_law_sign" := Or.inl (by decide +kernel)
theorem EO:aE (defScope aA) "_law_sign" := Or.inl (by decide +kernel)
theorem BQ:(defScope aA).names.lookup ("range" : Str)=some .globalImplicit:=by decide +kernel
abbrev cC:Stmt:=az 29
theorem sc_law_bound:aT ["_law_cell", "_law_way"] ["_law_cell"] (defScope cC):=⟨rfl,rfl,rfl,by decide +kernel,rfl,by decide +kernel,by decide +kernel⟩
theorem tQ:ap (defScope cC) "_law_cell" := Or.inl (by decide +kernel)
theorem B_:ap (defScope cC) "_law_way" := Or.inl (by decide +kernel)
theorem Eg:aE (defScope cC) "_law_way" := Or.inl (by decide +kernel)
abbrev bV:Stmt:=az 30
theorem sc_law_step:aT ["_law_cell", "_law_x", "_law_y", "_law_names_here", "_law_kind", "_law_words"] ["_law_cell", "_law_x", "_law_y", "_law_names_here"] (defScope bV):=⟨rfl,rfl,rfl,by decide +kernel,rfl,by decide +kernel,by decide +kernel⟩
theorem Aw:ap (defScope bV) "_law_cell" := Or.inl (by decide +kernel)
theorem p6:ap (defScope bV) "_law_x" := Or.inl (by decide +kernel)
theorem AJ:ap (defScope bV) "_law_y" := Or.inl (by decide +kernel)
theorem FH:ap (defScope bV) "_law_names_here" := Or.inl (by decide +kernel)
theorem uO:ap (defScope bV) "_law_kind" := Or.inl (by decide +kernel)
theorem DG:aE (defScope bV) "_law_kind" := Or.inl (by decide +kernel)
theorem A6:ap (defScope bV) "_law_words" := Or.inl (by decide +kernel)
theorem EJ:aE (defScope bV) "_law_words" := Or.inl (by decide +kernel)
theorem E8:(defScope bV).names.lookup ("len" : Str)=some .globalImplicit:=by decide +kernel
abbrev bh:Stmt:=az 31
theorem sc_law_begun:aT ["_law_here", "_law_pile", "_law_lines", "_law_cell", "_law_x", "_law_y", "_law_inner", "_law_bound_here", "_law_others"] ["_law_here", "_law_pile", "_law_lines", "_law_cell", "_law_x", "_law_y"] (defScope bh):=⟨rfl,rfl,rfl,by decide +kernel,rfl,by decide +kernel,by decide +kernel⟩
theorem mi:ap (defScope bh) "_law_here" := Or.inl (by decide +kernel)
theorem tO:ap (defScope bh) "_law_pile" := Or.inl (by decide +kernel)
theorem wX:ap (defScope bh) "_law_lines" := Or.inl (by decide +kernel)
theorem wN:ap (defScope bh) "_law_cell" := Or.inl (by decide +kernel)
theorem BR:ap (defScope bh) "_law_x" := Or.inl (by decide +kernel)
theorem BX:ap (defScope bh) "_law_y" := Or.inl (by decide +kernel)
theorem lF:ap (defScope bh) "_law_inner" := Or.inl (by decide +kernel)
theorem Fx:aE (defScope bh) "_law_inner" := Or.inl (by decide +kernel)
theorem tX:ap (defScope bh) "_law_bound_here" := Or.inl (by decide +kernel)
theorem E4:aE (defScope bh) "_law_bound_here" := Or.inl (by decide +kernel)
theorem A9:ap (defScope bh) "_law_others" := Or.inl (by decide +kernel)
theorem E7:aE (defScope bh) "_law_others" := Or.inl (by decide +kernel)
theorem EU:(defScope bh).names.lookup ("_law_bound" : Str)=some .globalImplicit:=by decide +kernel
theorem AE:(defScope bh).names.lookup ("str" : Str)=some .globalImplicit:=by decide +kernel
abbrev am:Stmt:=az 32
theorem sc_law_program:aT ["_law_cells", "_law_names_here", "_law_program_here", "_law_lines", "_law_pile", "_law_here", "_law_left", "_law_lends", "_law_cell", "_law_kind", "_law_x", "_law_y", "_law_deep", "_law_line", "_law_there"] ["_law_cells", "_law_names_here"] (defScope am):=⟨rfl,rfl,rfl,by decide +kernel,rfl,by decide +kernel,by decide +kernel⟩
theorem DR:ap (defScope am) "_law_cells" := Or.inl (by decide +kernel)
theorem pb:ap (defScope am) "_law_names_here" := Or.inl (by decide +kernel)
theorem B9:ap (defScope am) "_law_program_here" := Or.inl (by decide +kernel)
theorem D5:aE (defScope am) "_law_program_here" := Or.inl (by decide +kernel)
theorem ou:ap (defScope am) "_law_lines" := Or.inl (by decide +kernel)
theorem Dr:aE (defScope am) "_law_lines" := Or.inl (by decide +kernel)
theorem qc:ap (defScope am) "_law_pile" := Or.inl (by decide +kernel)
theorem Fu:aE (defScope am) "_law_pile" := Or.inl (by decide +kernel)
theorem xP:ap (defScope am) "_law_here" := Or.inl (by decide +kernel)
theorem xn:aE (defScope am) "_law_here" := Or.inl (by decide +kernel)
theorem tZ:ap (defScope am) "_law_left" := Or.inl (by decide +kernel)
theorem xR:aE (defScope am) "_law_left" := Or.inl (by decide +kernel)
theorem AZ:ap (defScope am) "_law_lends" := Or.inl (by decide +kernel)
theorem Cg:aE (defScope am) "_law_lends" := Or.inl (by decide +kernel)
theorem qy:ap (defScope am) "_law_cell" := Or.inl (by decide +kernel)
theorem FK:aE (defScope am) "_law_cell" := Or.inl (by decide +kernel)
theorem lN:ap (defScope am) "_law_kind" := Or.inl (by decide +kernel)
theorem F4:aE (defScope am) "_law_kind" := Or.inl (by decide +kernel)
theorem BK:ap (defScope am) "_law_x" := Or.inl (by decide +kernel)
theorem Ei:aE (defScope am) "_law_x" := Or.inl (by decide +kernel)
theorem BM:ap (defScope am) "_law_y" := Or.inl (by decide +kernel)
theorem Ek:aE (defScope am) "_law_y" := Or.inl (by decide +kernel)
theorem EZ:ap (defScope am) "_law_deep" := Or.inl (by decide +kernel)
theorem Ff:aE (defScope am) "_law_deep" := Or.inl (by decide +kernel)
theorem AR:ap (defScope am) "_law_line" := Or.inl (by decide +kernel)
theorem Bz:aE (defScope am) "_law_line" := Or.inl (by decide +kernel)
theorem DB:aE (defScope am) "_law_there" := Or.inl (by decide +kernel)
theorem Dz:(defScope am).names.lookup ("_law_begun" : Str)=some .globalImplicit:=by decide +kernel
theorem F0:(defScope am).names.lookup ("_law_step" : Str)=some .globalImplicit:=by decide +kernel
theorem AI:(defScope am).names.lookup ("int" : Str)=some .globalImplicit:=by decide +kernel
theorem xE:(defScope am).names.lookup ("len" : Str)=some .globalImplicit:=by decide +kernel
theorem FT:(defScope am).names.lookup ("reversed" : Str)=some .globalImplicit:=by decide +kernel
abbrev aO:Stmt:=az 33
theorem sc_law_partners:aT ["_law_lines", "_law_found", "_law_pile", "_law_at", "_law_word", "_law_head"] ["_law_lines"] (defScope aO):=⟨rfl,rfl,rfl,by decide +kernel,rfl,by decide +kernel,by decide +kernel⟩
theorem pJ:ap (defScope aO) "_law_lines" := Or.inl (by decide +kernel)
theorem ym:ap (defScope aO) "_law_found" := Or.inl (by decide +kernel)
theorem FJ:aE (defScope aO) "_law_found" := Or.inl (by decide +kernel)
theorem Ce:ap (defScope aO) "_law_pile" := Or.inl (by decide +kernel)
theorem Fw:aE (defScope aO) "_law_pile" := Or.inl (by decide +kernel)
theorem kc:ap (defScope aO) "_law_at" := Or.inl (by decide +kernel)
theorem En:aE (defScope aO) "_law_at" := Or.inl (by decide +kernel)
theorem Az:ap (defScope aO) "_law_word" := Or.inl (by decide +kernel)
theorem ER:aE (defScope aO) "_law_word" := Or.inl (by decide +kernel)
theorem Bw:ap (defScope aO) "_law_head" := Or.inl (by decide +kernel)
theorem E6:aE (defScope aO) "_law_head" := Or.inl (by decide +kernel)
theorem yr:(defScope aO).names.lookup ("len" : Str)=some .globalImplicit:=by decide +kernel
theorem EQ:(defScope aO).names.lookup ("range" : Str)=some .globalImplicit:=by decide +kernel
abbrev bK:Stmt:=az 34
theorem sc_law_slots:aT ["_law_lines", "_law_slots_here", "_law_line", "_law_words", "_law_name"] ["_law_lines"] (defScope bK):=⟨rfl,rfl,rfl,by decide +kernel,rfl,by decide +kernel,by decide +kernel⟩
theorem Fk:ap (defScope bK) "_law_lines" := Or.inl (by decide +kernel)
theorem xT:ap (defScope bK) "_law_slots_here" := Or.inl (by decide +kernel)
theorem E3:aE (defScope bK) "_law_slots_here" := Or.inl (by decide +kernel)
theorem D3:ap (defScope bK) "_law_line" := Or.inl (by decide +kernel)
theorem EG:aE (defScope bK) "_law_line" := Or.inl (by decide +kernel)
theorem tu:ap (defScope bK) "_law_words" := Or.inl (by decide +kernel)
theorem AG:aE (defScope bK) "_law_words" := Or.inl (by decide +kernel)
theorem Dv:ap (defScope bK) "_law_name" := Or.inl (by decide +kernel)
theorem Fp:aE (defScope bK) "_law_name" := Or.inl (by decide +kernel)
theorem Fy:(defScope bK).names.lookup ("len" : Str)=some .globalImplicit:=by decide +kernel
abbrev aR:Stmt:=az 35
theorem sc_law_plain:aT ["_law_at", "_law_lines", "_law_partner", "_law_slots_here", "_law_lends", "_law_words", "_law_lent", "_law_other"] ["_law_at", "_law_lines", "_law_partner", "_law_slots_here", "_law_lends"] (defScope aR):=⟨rfl,rfl,rfl,by decide +kernel,rfl,by decide +kernel,by decide +kernel⟩
theorem fZ:ap (defScope aR) "_law_at" := Or.inl (by decide +kernel)
theorem A5:ap (defScope aR) "_law_lines" := Or.inl (by decide +kernel)
theorem AF:ap (defScope aR) "_law_partner" := Or.inl (by decide +kernel)
theorem lH:ap (defScope aR) "_law_slots_here" := Or.inr (Or.inl (by decide +kernel))
theorem Bb:ap (defScope aR) "_law_lends" := Or.inl (by decide +kernel)
theorem g_:ap (defScope aR) "_law_words" := Or.inl (by decide +kernel)
theorem FO:aE (defScope aR) "_law_words" := Or.inl (by decide +kernel)
theorem pe:ap (defScope aR) "_law_lent" := Or.inl (by decide +kernel)
theorem BG:aE (defScope aR) "_law_lent" := Or.inl (by decide +kernel)
theorem Ea:ap (defScope aR) "_law_other" := Or.inl (by decide +kernel)
theorem Dn:aE (defScope aR) "_law_other" := Or.inl (by decide +kernel)
theorem Bf:(defScope aR).names.lookup ("len" : Str)=some .globalImplicit:=by decide +kernel
theorem FM:(defScope aR).names.lookup ("tuple" : Str)=some .globalImplicit:=by decide +kernel
abbrev aD:Stmt:=az 36
theorem sc_law_part:aT ["_law_low", "_law_high", "_law_turn", "_law_lines", "_law_partner", "_law_plain_here", "_law_rows", "_law_at", "_law_words", "_law_end", "_law_middle", "_law_some", "_law_others", "_law_body", "_law_first"] ["_law_low", "_law_high", "_law_turn", "_law_lines", "_law_partner", "_law_plain_here"] (defScope aD):=⟨rfl,rfl,rfl,by decide +kernel,rfl,by decide +kernel,by decide +kernel⟩
theorem Dp:ap (defScope aD) "_law_low" := Or.inl (by decide +kernel)
theorem F5:ap (defScope aD) "_law_high" := Or.inl (by decide +kernel)
theorem yn:ap (defScope aD) "_law_turn" := Or.inl (by decide +kernel)
theorem ql:ap (defScope aD) "_law_lines" := Or.inl (by decide +kernel)
theorem j8:ap (defScope aD) "_law_partner" := Or.inl (by decide +kernel)
theorem oF:ap (defScope aD) "_law_plain_here" := Or.inl (by decide +kernel)
theorem gH:ap (defScope aD) "_law_rows" := Or.inl (by decide +kernel)
theorem FX:aE (defScope aD) "_law_rows" := Or.inl (by decide +kernel)
theorem f_:ap (defScope aD) "_law_at" := Or.inl (by decide +kernel)
theorem AX:aE (defScope aD) "_law_at" := Or.inl (by decide +kernel)
theorem qg:ap (defScope aD) "_law_words" := Or.inl (by decide +kernel)
theorem FV:aE (defScope aD) "_law_words" := Or.inl (by decide +kernel)
theorem o0:ap (defScope aD) "_law_end" := Or.inl (by decide +kernel)
theorem wR:aE (defScope aD) "_law_end" := Or.inl (by decide +kernel)
theorem tI:ap (defScope aD) "_law_middle" := Or.inl (by decide +kernel)
theorem E1:aE (defScope aD) "_law_middle" := Or.inl (by decide +kernel)
theorem B2:ap (defScope aD) "_law_some" := Or.inl (by decide +kernel)
theorem FQ:aE (defScope aD) "_law_some" := Or.inl (by decide +kernel)
theorem B5:ap (defScope aD) "_law_others" := Or.inl (by decide +kernel)
theorem ED:aE (defScope aD) "_law_others" := Or.inl (by decide +kernel)
theorem uo:ap (defScope aD) "_law_body" := Or.inl (by decide +kernel)
theorem DQ:aE (defScope aD) "_law_body" := Or.inl (by decide +kernel)
theorem BL:ap (defScope aD) "_law_first" := Or.inl (by decide +kernel)
theorem Fi:aE (defScope aD) "_law_first" := Or.inl (by decide +kernel)
theorem uH:(defScope aD).names.lookup ("_law_part" : Str)=some .globalImplicit:=by decide +kernel
theorem x5:(defScope aD).names.lookup ("int" : Str)=some .globalImplicit:=by decide +kernel
theorem l_:(defScope aD).names.lookup ("len" : Str)=some .globalImplicit:=by decide +kernel
abbrev aB:Stmt:=az 37
theorem sc_law_due:aT ["_law_lines", "_law_due_here", "_law_partner", "_law_slots_here", "_law_lends", "_law_plain_here", "_law_at", "_law_row_here"] ["_law_lines"] (defScope aB):=⟨rfl,rfl,rfl,by decide +kernel,rfl,by decide +kernel,by decide +kernel⟩
theorem kg:ap (defScope aB) "_law_lines" := Or.inr (Or.inl (by decide +kernel))
theorem Cj:ap (defScope aB) "_law_due_here" := Or.inl (by decide +kernel)
theorem DC:aE (defScope aB) "_law_due_here" := Or.inl (by decide +kernel)
theorem EM:ap (defScope aB) "_law_partner" := Or.inr (Or.inl (by decide +kernel))
theorem FC:aE (defScope aB) "_law_partner" := Or.inr (by decide +kernel)
theorem DU:aE (defScope aB) "_law_slots_here" := Or.inr (by decide +kernel)
theorem E9:aE (defScope aB) "_law_lends" := Or.inr (by decide +kernel)
theorem Fn:ap (defScope aB) "_law_plain_here" := Or.inl (by decide +kernel)
theorem Hu:(defScope aB).names.lookup ("_law_plain_here" : Str)=some .local:=by decide +kernel
theorem FB:ap (defScope aB) "_law_at" := Or.inl (by decide +kernel)
theorem Fs:aE (defScope aB) "_law_at" := Or.inl (by decide +kernel)
theorem ui:ap (defScope aB) "_law_row_here" := Or.inl (by decide +kernel)
theorem BI:aE (defScope aB) "_law_row_here" := Or.inl (by decide +kernel)
theorem Ew:(defScope aB).names.lookup ("_law_part" : Str)=some .globalImplicit:=by decide +kernel
theorem Fe:(defScope aB).names.lookup ("_law_partners" : Str)=some .globalImplicit:=by decide +kernel
theorem FF:(defScope aB).names.lookup ("_law_slots" : Str)=some .globalImplicit:=by decide +kernel
theorem EI:(defScope aB).names.lookup ("enumerate" : Str)=some .globalImplicit:=by decide +kernel
theorem ux:(defScope aB).names.lookup ("len" : Str)=some .globalImplicit:=by decide +kernel
theorem Af:(defScope aB).names.lookup ("range" : Str)=some .globalImplicit:=by decide +kernel
abbrev bP:Stmt:=az 38
theorem sc_law_row:aT ["_law_found", "_law_due_here", "_law_one", "_law_other"] ["_law_found", "_law_due_here"] (defScope bP):=⟨rfl,rfl,rfl,by decide +kernel,rfl,by decide +kernel,by decide +kernel⟩
theorem yd:ap (defScope bP) "_law_found" := Or.inl (by decide +kernel)
theorem A8:ap (defScope bP) "_law_due_here" := Or.inl (by decide +kernel)
theorem qH:ap (defScope bP) "_law_one" := Or.inl (by decide +kernel)
theorem D2:aE (defScope bP) "_law_one" := Or.inl (by decide +kernel)
theorem AC:ap (defScope bP) "_law_other" := Or.inl (by decide +kernel)
theorem Ft:aE (defScope bP) "_law_other" := Or.inl (by decide +kernel)
theorem FE:(defScope bP).names.lookup ("bool" : Str)=some .globalImplicit:=by decide +kernel
theorem F3:(defScope bP).names.lookup ("int" : Str)=some .globalImplicit:=by decide +kernel
theorem mj:(defScope bP).names.lookup ("isinstance" : Str)=some .globalImplicit:=by decide +kernel
theorem Bs:(defScope bP).names.lookup ("len" : Str)=some .globalImplicit:=by decide +kernel
theorem x_:(defScope bP).names.lookup ("str" : Str)=some .globalImplicit:=by decide +kernel
theorem DK:(defScope bP).names.lookup ("tuple" : Str)=some .globalImplicit:=by decide +kernel
theorem EK:(defScope bP).names.lookup ("zip" : Str)=some .globalImplicit:=by decide +kernel
abbrev bX:Stmt:=az 39
theorem sc_law:aT ["_law_script", "_law_program_here", "_law_lines", "_law_due_here", "_law_found", "_law_one", "_law_other"] ["_law_script"] (defScope bX):=⟨rfl,rfl,rfl,by decide +kernel,rfl,by decide +kernel,by decide +kernel⟩
theorem BV:ap (defScope bX) "_law_script" := Or.inl (by decide +kernel)
theorem D6:ap (defScope bX) "_law_program_here" := Or.inl (by decide +kernel)
theorem FP:aE (defScope bX) "_law_program_here" := Or.inl (by decide +kernel)
theorem DM:ap (defScope bX) "_law_lines" := Or.inl (by decide +kernel)
theorem Em:aE (defScope bX) "_law_lines" := Or.inl (by decide +kernel)
theorem Aj:ap (defScope bX) "_law_due_here" := Or.inl (by decide +kernel)
theorem Fm:aE (defScope bX) "_law_due_here" := Or.inl (by decide +kernel)
theorem yy:ap (defScope bX) "_law_found" := Or.inl (by decide +kernel)
theorem Ex:aE (defScope bX) "_law_found" := Or.inl (by decide +kernel)
theorem ET:ap (defScope bX) "_law_one" := Or.inl (by decide +kernel)
theorem FS:aE (defScope bX) "_law_one" := Or.inl (by decide +kernel)
theorem Fz:ap (defScope bX) "_law_other" := Or.inl (by decide +kernel)
theorem EE:aE (defScope bX) "_law_other" := Or.inl (by decide +kernel)
theorem Eh:(defScope bX).names.lookup ("_law_cell_at" : Str)=some .globalImplicit:=by decide +kernel
theorem DY:(defScope bX).names.lookup ("_law_due" : Str)=some .globalImplicit:=by decide +kernel
theorem DF:(defScope bX).names.lookup ("_law_names" : Str)=some .globalImplicit:=by decide +kernel
theorem DE:(defScope bX).names.lookup ("_law_program" : Str)=some .globalImplicit:=by decide +kernel
theorem DA:(defScope bX).names.lookup ("_law_row" : Str)=some .globalImplicit:=by decide +kernel
theorem Ep:(defScope bX).names.lookup ("isinstance" : Str)=some .globalImplicit:=by decide +kernel
theorem Cf:(defScope bX).names.lookup ("len" : Str)=some .globalImplicit:=by decide +kernel
theorem Eu:(defScope bX).names.lookup ("list" : Str)=some .globalImplicit:=by decide +kernel
theorem EF:(defScope bX).names.lookup ("turned_code" : Str)=some .globalImplicit:=by decide +kernel
theorem EB:(defScope bX).names.lookup ("zip" : Str)=some .globalImplicit:=by decide +kernel
def br(k:Str):List Str:=if k = "lend" then ["back"] else if k = "if" then ["else", "fi"] else if k = "while" then ["done"] else []
def jf:V→Str→Prop
 | .str y,x=>x=y
 | .int i,x=>i.natAbs.log2<1920∧x=Str.ofString (toString i)
 | _,_=>False
def b4:List (List Str)→List Str→List Str
 | i::is,c::cs=>(i++[c])++b4 is cs
 | _,_=>[]
structure A3 (LA:Addr→List Str→Prop) (H:Hp) (a:Addr) (kind:Str) (hs:List V) (ws:List Str) (bs:List Addr) (ins:List (List Str)):Prop where
 at':H a=some (.tup (.str kind::hs++bs.map V.ref))
 parts:Paired jf hs ws
 size:((kind::ws).map (·.length)).sum+(kind::ws).length≤10000
 bl:bs.length=(br kind).length
 inn:Paired LA bs ins
def kY(LA:Addr→List Str→Prop)(H:Hp)(a:Addr)(ls:List Str):Prop:=∃ kind hs ws bs ins,A3 LA H a kind hs ws bs ins∧ls=Txt.join " " (kind::ws)::b4 ins (br kind)
def LinesAt:Nat→Hp→Addr→List Str→Prop
 | 0=>fun _ _ _=>False
 | d+1=>fun H p L=>∃ (as:List Addr) (Ls:List (List Str)),H p=some (.lst (as.map V.ref))∧Paired (kY (LinesAt d H) H) as Ls∧L=Ls.flatten
theorem LinesAt.mono:∀ (d:Nat) {H H':Hp} {p:Addr} {L:List Str},LinesAt d H p L→Same H H'→LinesAt d H' p L
 | 0,_,_,_,_,h,_=>h.elim
 | d+1,H,H',p,L,⟨as,Ls,h1,h2,h3⟩,sm=>by
  refine⟨as,Ls,sm _ _ h1,Paired.imp' (fun a ls z=>?_) h2,h3⟩
  obtain⟨kind,hs,ws,bs,ins,z1,z2⟩:=z
  exact⟨kind,hs,ws,bs,ins,⟨sm _ _ z1.at',z1.parts,z1.size,z1.bl,Paired.imp' (fun b i y=>LinesAt.mono d y sm) z1.inn⟩,z2⟩
theorem b6{α β : Type}{R:α→β→Prop}:∀ {xs:List α} {ys:List β} {i:Nat} {x:α},Paired R xs ys→xs[i]? = some x→∃ y,ys[i]? = some y∧R x y
 | _,_,_,_,.nil,e=>by simp at e
 | _,_,0,_,.cons (b:=b) h _,e=>⟨b,rfl,by have:=Option.some.inj e; subst this; exact h⟩
 | _,_,i+1,_,.cons _ t,e=>by
  rw[List.getElem?_cons_succ]at e
  obtain⟨y,h1,h2⟩:=b6 t e
  exact⟨y,by rw[List.getElem?_cons_succ]; exact h1,h2⟩
theorem av{α β : Type}{R:α→β→Prop}:∀ {xs:List α} {ys:List β},Paired R xs ys→xs.length=ys.length
 | _,_,.nil=>rfl
 | _,_,.cons _ t=>by rw[List.length_cons,List.length_cons,av t]
theorem jO:∀ {ins:List (List Str)} {cs:List Str} {j:Nat} {i:List Str} {c:Str},ins[j]? = some i→cs[j]? = some c→b4 (ins.take (j+1)) (cs.take (j+1))=b4 (ins.take j) (cs.take j)++(i++[c])
 | [],_,_,_,_,h,_=>by simp at h
 | _::_,[],_,_,_,_,h=>by simp at h
 | a::ins,b::cs,0,i,c,h,h'=>by
  have e1:a=i:=by simpa using h
  have e2:b=c:=by simpa using h'
  subst e1 e2
  show (a++[b])++b4 [] []=b4 [] []++(a++[b])
  simp[b4]
 | a::ins,b::cs,j+1,i,c,h,h'=>by
  have ih:=jO (ins:=ins) (cs:=cs) (j:=j) (i:=i) (c:=c) (by simpa using h) (by simpa using h')
  show (a++[b])++b4 (ins.take (j+1)) (cs.take (j+1))=((a++[b])++b4 (ins.take j) (cs.take j))++(i++[c])
  rw[ih,List.append_assoc (a++[b])]
theorem kG:∀ {ins:List (List Str)} {cs:List Str} (j:Nat),(b4 (ins.take j) (cs.take j)).length≤(b4 ins cs).length
 | [],_,j=>by simp[b4]
 | _::_,[],j=>by cases j <;> simp[b4]
 | a::ins,b::cs,0=>by simp[b4]
 | a::ins,b::cs,j+1=>by
  have ih:=kG (ins:=ins) (cs:=cs) j
  show ((a++[b])++b4 (ins.take j) (cs.take j)).length≤((a++[b])++b4 ins cs).length
  simp only[List.length_append]; omega
theorem lS{α : Type}:∀ (Ls:List (List α)) (i:Nat),(Ls.take i).flatten.length≤Ls.flatten.length
 | [],i=>by simp
 | a::Ls,0=>by simp
 | a::Ls,i+1=>by
  have ih:=lS Ls i
  rw[List.take_succ_cons,List.flatten_cons,List.flatten_cons,List.length_append,List.length_append]; omega
theorem vA{α : Type}{Ls:List (List α)}{i:Nat}{l:List α}(h:Ls[i]? = some l):(Ls.take (i+1)).flatten=(Ls.take i).flatten++l:=by
 rw[List.take_add_one,h,List.flatten_append]; simp
def i9(K:PySem.W.Frag):Sp:=fun vs H Q _=>∃ k:Str,vs=[.str k]∧∀ (p:Addr) (H':Hp),Same H H'→SqT K H' p ((br k).map V.str)→Q (.ref p) H'
def iT(K:PySem.W.Frag):Sp:=fun vs H Q _=>∃ (a:Addr) (k:Str) (xs:List V),vs=[.ref a]∧SqT K H a (.str k::xs)∧(br k).length≤xs.length+1∧
 ∀ (p:Addr) (H':Hp),Same H H'→SqT K H' p ((V.str k::xs).take (xs.length+1 - (br k).length))→Q (.ref p) H'
def gq(K:PySem.W.Frag):Sp:=fun vs H Q _=>∃ (a:Addr) (k:Str) (xs:List V),vs=[.ref a]∧SqT K H a (.str k::xs)∧(br k).length≤xs.length+1∧
 ∀ (p:Addr) (H':Hp),Same H H'→SqT K H' p ((V.str k::xs).drop (xs.length+1 - (br k).length))→Q (.ref p) H'
def sv(d:Nat):Sp:=fun vs H Q _=>∃ (p:Addr) (L:List Str),vs=[.ref p]∧LinesAt d H p L∧L.length≤10000∧∀ (q:Addr) (H':Hp),Same H H'→H q=none→H' q=some (.lst (L.map V.str))→Q (.ref q) H'
section
variable{P:Program}{w:World}{K:PySem.W.Frag}{mg:Str→Option Value}{base:Heap}
theorem tE(D:DefAt K mg "closers_of" cF) {d a0 a1 a2:Addr} (g_CLOSERS:mg "CLOSERS" = some (.ref d)) (m:ModD w K d [("lend", .ref a0),("if", .ref a1),("while", .ref a2)])
  (q0:∀ H:Hp,SqT K H a0 [.str "back"]) (q1:∀ H:Hp,SqT K H a1 [.str "else", .str "fi"]) (q2:∀ H:Hp,SqT K H a2 [.str "done"]):bg P w K mg base 1 "closers_of" ["kind"] (i9 K):=by
 refine D.cal nL (fun _ _ _ _ _ _ us hl=>match us,hl with | [_],_=>rfl) (fun vs H Q E h=>by obtain⟨k,rfl,_⟩:=h; rfl) (fun f cdv A outer s H vs Q E hr h=>?_)
 obtain⟨k,rfl,q⟩:=h
 refine⟨_,(ak (aF (BU w K PySem.F.plainAttrs_dict PySem.F.slot_dict_get PySem.F.type_dict_get (zQ w K) (qZ g_CLOSERS (hg:=GT)) (aa (pv 0 (hv:=Hg)) (aa (bb ab) ab))))),?_⟩
 walk_at "rd1"
 refine⟨⟨d,_,rfl,m⟩,by decide,fun p hp=>?_⟩
 refine⟨d,_,k,.ref p,rfl,rfl,m,?_⟩
 have sm:=af hp (.tup [])
 unfold br at q
 by_cases h0:k = "lend"
 ·subst h0; exact q _ _ sm (q0 _)
 rw[if_neg h0]at q
 by_cases h1:k = "if"
 ·subst h1; exact q _ _ sm (q1 _)
 rw[if_neg h1]at q
 by_cases h2:k = "while"
 ·subst h2; exact q _ _ sm (q2 _)
 rw[if_neg h2]at q
 have e:aM [(("lend" : Str),V.ref a0),("if", .ref a1),("while", .ref a2)] k=none:=by simp[aM,Ne.symm h0,Ne.symm h1,Ne.symm h2]
 rw[e]
 exact q _ _ sm (SqT.of ac)
theorem zS(D:DefAt K mg "head_of" c_) (z_len:mg "len" = none) (c_closers_of:bg P w K mg base 1 "closers_of" ["kind"] (i9 K)):bg P w K mg base 2 "head_of" ["step"] (iT K):=by
 refine D.cal uD (fun _ _ _ _ _ _ us hl=>match us,hl with | [_],_=>rfl) (fun vs H Q E h=>by obtain⟨a,k,xs,rfl,_⟩:=h; rfl) (fun f cdv A outer s H vs Q E hr h=>?_)
 obtain⟨a,k,xs,rfl,ha,hl,q⟩:=h
 refine⟨_,(ak (aF (cj (ie K) (pv 0 (hv:=Bl)) cV (cr (ao gA (aY (aK K) z_len bw (aa (pv 0 (hv:=Bl)) ab) (hg:=Dk)) (aY (aK K) z_len bw (aa (aJ c_closers_of hr (aa (ay (aW K) (pv 0 (hv:=Bl)) ai (fun _ _=>rfl)) ab) (hg:=Ga)) ab) (hg:=Dk))))))),?_⟩
 walk_at "rd1"
 refine⟨_,.inr ha,?_⟩
 refine⟨_,_,.inr ha,cM,?_⟩
 refine⟨k,rfl,fun p H1 sm1 hp=>?_⟩
 walk_at "rd1"
 refine⟨_,.inr hp,?_⟩
 walk_at "rd1"
 have e:((xs.length+1:Nat):Int) - ((((br k).map V.str).length:Nat):Int)=((xs.length+1 - (br k).length:Nat):Int):=by
  rw[List.length_map]; omega
 rw[e]
 refine gJ (ha.same sm1) fun p2 H2 sm2 h2=>q p2 H2 (sm1.trans sm2) ?_
 rw[sE]at h2
 exact h2
theorem vh(D:DefAt K mg "blocks_of" cB) (z_len:mg "len" = none) (c_head_of:bg P w K mg base 2 "head_of" ["step"] (iT K)):bg P w K mg base 3 "blocks_of" ["step"] (gq K):=by
 refine D.cal oR (fun _ _ _ _ _ _ us hl=>match us,hl with | [_],_=>rfl) (fun vs H Q E h=>by obtain⟨a,k,xs,rfl,_⟩:=h; rfl) (fun f cdv A outer s H vs Q E hr h=>?_)
 obtain⟨a,k,xs,rfl,ha,hl,q⟩:=h
 refine⟨_,(ak (aF (cj (ie K) (pv 0 (hv:=Dl)) (cr (aY (aK K) z_len bw (aa (aJ c_head_of hr (aa (pv 0 (hv:=Dl)) ab) (hg:=He)) ab) (hg:=Gx))) cV))),?_⟩
 walk_at "rd1"
 refine⟨a,k,xs,rfl,ha,hl,fun p H1 sm1 hp=>?_⟩
 walk_at "rd1"
 refine⟨_,.inr hp,?_⟩
 have e:(((V.str k::xs).take (xs.length+1 - (br k).length)).length:Int)=((xs.length+1 - (br k).length:Nat):Int):=by
  rw[List.length_take,List.length_cons]; omega
 rw[e]
 refine gJ (ha.same sm1) fun p2 H2 sm2 h2=>q p2 H2 (sm1.trans sm2) ?_
 rw[fm]at h2
 exact h2
theorem qw(D:DefAt K mg "lines_of" aX) (z_str:mg "str" = none) (z_zip:mg "zip" = none) (c_closers_of:bg P w K mg base 1 "closers_of" ["kind"] (i9 K)) (c_head_of:bg P w K mg base 2 "head_of" ["step"] (iT K)) (c_blocks_of:bg P w K mg base 3 "blocks_of" ["step"] (gq K)) :
  ∀ d:Nat,bg P w K mg base (d+4) "lines_of" ["program"] (sv d)
 | 0=>D.cal (k:=3) sc_lines_of (fun _ _ _ _ _ _ us hl=>match us,hl with | [_],_=>rfl) (fun vs H Q E h=>by obtain⟨p,L,rfl,_⟩:=h; rfl) (fun f cdv A outer s H vs Q E hr h=>by obtain⟨p,L,rfl,z,_⟩:=h; exact z.elim)
 | d+1=>by
  have c_lines_of:=qw D z_str z_zip c_closers_of c_head_of c_blocks_of d
  refine D.cal (k:=d+4) sc_lines_of (fun _ _ _ _ _ _ us hl=>match us,hl with | [_],_=>rfl) (fun vs H Q E h=>by obtain⟨p,L,rfl,_⟩:=h; rfl) (fun f cdv A outer s H vs Q E hr h=>?_)
  obtain⟨p,L,rfl,⟨as,Ls,h1,h2,rfl⟩,hL,q⟩:=h
  have hlen:=av h2
  refine⟨_,(ae (ar 1 sc_lines_of.nd (bi ab) (hx:=F_))
   (ae (cE PassesOwn.never rfl (dz K (pv 0 (hv:=G8))) (bj 2 sc_lines_of.nd (hx:=Gs)) (ae (aQ (aI K PySem.F.plainAttrs_list PySem.F.slot_list_append PySem.F.type_list_append aL (pv 1 (hv:=yY)) (aa (aI K PySem.F.plainAttrs_str PySem.F.slot_str_join PySem.F.type_str_join (oG K) al (aa (fJ (CompSc.to (fsc:=(defScope aX)) (N:=["program", "lines", "step", "block", "closer"]) (N0:=["program", "lines", "step", "block", "closer"]) (T:=["part"]) ⟨by decide +kernel,by decide +kernel,by decide +kernel,by decide +kernel,by decide +kernel,by decide +kernel,by decide +kernel⟩ rfl rfl) rfl (jG K (aJ c_head_of hr (aa (pv 2 (hv:=A7)) ab) (hg:=Ho) (hle:=by omega))) (fun _ _ _ _=>(bj 5 (show (["program", "lines", "step", "block", "closer", "part"]:List Str).Nodup from by decide +kernel) (hx:=(iA (defScope aX) (by decide +kernel))) (hf:=lx (defScope aX) (by decide +kernel)))) (dN (show (["program", "lines", "step", "block", "closer"]:List Str).length≤5 from by decide)) (fun _ _ _ _=>gN) (fun _ _ _ _=>(ef vn z_str h9 (aa (pv 5 (hv:=(de (defScope aX) (by decide +kernel)))) ab) (hg:=(C9 (defScope aX) (by decide +kernel)))))) ab)) ab)))
   (ak (cE PassesOwn.never rfl (lZ K Hy z_zip (aa (aJ c_blocks_of hr (aa (pv 2 (hv:=A7)) ab) (hg:=Hk) (hle:=by omega)) (aa (aJ c_closers_of hr (aa (ay (aW K) (pv 2 (hv:=A7)) ai (fun _ _=>rfl)) ab) (hg:=Gj) (hle:=by omega)) ab))) (dR K (n:=2) (bW (bj 3 sc_lines_of.nd (hx:=GH)) (bW (bj 4 sc_lines_of.nd (hx:=Hs)) dS))) (ae (aQ (aI K PySem.F.plainAttrs_list PySem.F.slot_list_extend PySem.F.type_list_extend cS (pv 1 (hv:=yY)) (aa (aJ c_lines_of hr (aa (pv 3 (hv:=Hh)) ab) (hg:=G6) (hle:=by omega)) ab)))
   (ak (aQ (aI K PySem.F.plainAttrs_list PySem.F.slot_list_append PySem.F.type_list_append aL (pv 1 (hv:=yY)) (aa (pv 4 (hv:=Hq)) ab)))))))))
   (ak (aF (pv 1 (hv:=yY)))))),?_⟩
  walk_at "rd1"
  refine⟨by decide,fun lp hlp=>?_⟩
  generalize hH1:upd H lp _=H1
  have sm1:=eJ hH1 hlp
  have e1:=gf hH1
  walk_at "nx"
  refine⟨⟨_,SqL.of (sm1 _ _ h1)⟩,?_⟩
  refine dn (xs:=as.map V.ref) (fun i σ H'=>∃ o2 o3 o4:Option V,σ=[some (.ref p),some (.ref lp),o2,o3,o4]∧Same H H'∧H' lp=some (.lst ((Ls.take i).flatten.map V.str)))
   ⟨none,none,none,rfl,sm1,e1⟩ (fun i σ H' _ h=>by obtain⟨_,_,_,_,sm,_⟩:=h; exact SqL.of (sm _ _ h1)) ?_ ?_
  ·rintro i v σ H' hv ⟨o2,o3,o4,rfl,sm,hl⟩
   have hi:i<as.length:=by have:=(List.getElem?_eq_some_iff.mp hv).1; simpa using this
   rw[List.getElem?_map,List.getElem?_eq_getElem hi]at hv
   cases hv
   obtain⟨ls,hls,kind,hs,ws,bs,ins,st,rfl⟩:=b6 h2 (List.getElem?_eq_getElem hi)
   have hflat:=vA hls
   have hfl:=lS Ls (i+1)
   rw[hflat]at hfl ⊢
   generalize (Ls.take i).flatten=pre at hl hfl hflat ⊢
   rw[List.length_append,List.length_cons]at hfl
   have hat:SqT K H' as[i] (.str kind::(hs++bs.map V.ref)):=SqT.of (sm _ _ st.at')
   have hcl:(br kind).length≤(hs++bs.map V.ref).length+1:=by rw[List.length_append,List.length_map,st.bl]; omega
   have hcut:(hs++bs.map V.ref).length+1 - (br kind).length=hs.length+1:=by rw[List.length_append,List.length_map,st.bl]; omega
   have hpl:=av st.parts
   have hsz:=st.size
   walk_at "rd1"
   refine⟨⟨_,SqL.of hl⟩,as[i],kind,hs++bs.map V.ref,rfl,hat,hcl,fun hp H2 sm2 hhp=>?_⟩
   rw[hcut]at hhp
   have etk:(V.str kind::(hs++bs.map V.ref)).take (hs.length+1)=V.str kind::hs:=by rw[List.take_succ_cons,List.take_left']; rfl
   rw[etk]at hhp
   walk_at "rd1"
   refine⟨⟨_,hhp⟩,fun C hC=>?_⟩
   refine nD (xs:=V.str kind::hs) (fun j ys H3=>Same H2 H3∧H3 C=some (.lst ys)∧ys=((kind::ws).take j).map V.str) ⟨af hC _,ac,rfl⟩ (fun j ys H3 _ h=>hhp.same h.1) ?_ ?_
   ·rintro j ys H3 x hx hj ⟨sm3,hl3,rfl⟩
    obtain⟨y,hy,hr'⟩:=b6 (R:=jf) (.cons (show jf (.str kind) kind from rfl) st.parts) hx
    have hjl:j<(kind::ws).length:=(List.getElem?_eq_some_iff.mp hy).1
    have fin:iz (V.str kind::hs).length j (fun j ys H3=>Same H2 H3∧H3 C=some (.lst ys)∧ys=((kind::ws).take j).map V.str) C (((kind::ws).take j).map V.str) (.str y) H3:=by
     refine kH hj (by rw[List.length_map,List.length_take]; omega) (aS (by simp only[List.length_cons]at hsz hjl ⊢; omega)) hl3 ⟨sm3.upd hC _,ac,?_⟩
     rw[List.take_add_one,hy,List.map_append]; rfl
    match x,hr' with
    | .str z,hr'=>
     have e:y=z:=hr'
     subst e
     walk_at "rd1"
     exact fin
    | .int z,hr'=>
     obtain⟨g1,rfl⟩:=hr'
     walk_at "rd1"
     exact⟨g1,fin⟩
   rintro ys H3 ⟨sm3,hl3,rfl⟩
   have hl3':H3 C=some (.lst ((kind::ws).map V.str)):=by
    rw[hl3,List.length_cons,hpl,List.take_of_length_le (by simp)]
   have smA:=sm2.trans sm3
   have h1l:(Str.ofString " ").length=1:=by decide
   walk_at "rd1"
   refine⟨kind::ws,SqL.of hl3',by rw[h1l]; omega,?_⟩
   refine⟨_,smA _ _ hl,by rw[List.length_map]; exact bG (by omega),?_⟩
   generalize hH4:upd H3 lp _=H4
   have smH:Same H H4:=fun b o e=>by
    have nb:b≠lp:=fun z=>by subst z; rw[hlp]at e; cases e
    rw[← hH4,ah nb]; exact smA _ _ (sm _ _ e)
   have e4:H4 lp=some (.lst ((pre++[Txt.join " " (kind::ws)]).map V.str)):=by rw[← hH4,ac,List.map_append]; rfl
   have hat4:SqT K H4 as[i] (.str kind::(hs++bs.map V.ref)):=SqT.of (smH _ _ st.at')
   walk_at "nx"
   refine⟨as[i],kind,hs++bs.map V.ref,rfl,hat4,hcl,fun bp H5 sm5 hbp=>?_⟩
   rw[hcut]at hbp
   have edr:(V.str kind::(hs++bs.map V.ref)).drop (hs.length+1)=bs.map V.ref:=by rw[List.drop_succ_cons,List.drop_left']; rfl
   rw[edr]at hbp
   walk_at "rd1"
   refine⟨_,_,.inr (hat4.same sm5),cM,kind,rfl,fun cp H6 sm6 hcp=>?_⟩
   walk_at "rd1"
   refine⟨⟨_,hbp.same sm6⟩,⟨_,hcp⟩,?_⟩
   have sm46:=sm5.trans sm6
   have hil:=av st.inn
   have hbl:=st.bl
   refine jm (xs:=bs.map V.ref) (ys:=(br kind).map V.str) (fun j σ H'=>∃ o3 o4:Option V,σ=[some (.ref p),some (.ref lp),some (.ref as[i]),o3,o4]∧Same H H'∧SqT K H' bp (bs.map V.ref)∧SqT K H' cp ((br kind).map V.str)∧
     H' lp=some (.lst ((pre++([Txt.join " " (kind::ws)]++b4 (ins.take j) ((br kind).take j))).map V.str)))
    (by rw[List.length_map,List.length_map]; exact hbl) ⟨o3,o4,rfl,smH.trans sm46,hbp.same sm6,hcp,by rw[sm46 _ _ e4]; simp[b4]⟩ (fun j σ H' _ h=>by obtain⟨_,_,_,_,z1,z2,_⟩:=h; exact⟨z1,z2⟩) ?_ ?_
   ·rintro j x y t σ H7 hx hy ⟨o3,o4,rfl,sm7,hb7,hc7,hl7⟩ ht
    have hj:j<bs.length:=by have:=(List.getElem?_eq_some_iff.mp hx).1; simpa using this
    have hjc:j<(br kind).length:=by omega
    rw[List.getElem?_map,List.getElem?_eq_getElem hj]at hx
    cases hx
    rw[List.getElem?_map,List.getElem?_eq_getElem hjc]at hy
    cases hy
    obtain⟨il,hil',hla⟩:=b6 st.inn (List.getElem?_eq_getElem hj)
    have hsn:=jO hil' (List.getElem?_eq_getElem hjc)
    have hcl1:=kG (ins:=ins) (cs:=br kind) (j+1)
    rw[hsn]at hcl1 ⊢
    rw[List.length_append,List.length_append]at hcl1
    generalize b4 (ins.take j) ((br kind).take j)=mid at hl7 hsn hcl1 ⊢
    have st7:=af ht (.tup [V.ref bs[j],.str (br kind)[j]])
    have et7:upd H7 t (.tup [V.ref bs[j],.str (br kind)[j]]) t=some (.tup [V.ref bs[j],.str (br kind)[j]]):=ac
    generalize upd H7 t (.tup [V.ref bs[j],.str (br kind)[j]])=H8 at st7 et7 ⊢
    have hl8:=st7 _ _ hl7
    walk_at "rd1"
    refine⟨t,_,rfl,SqT.of et7,rfl,?_⟩
    walk_at "rd1"
    refine⟨⟨_,SqL.of hl8⟩,bs[j],il,rfl,LinesAt.mono d hla (sm7.trans st7),by omega,fun r H9 sm9 hr9 hl9=>?_⟩
    walk_at "rd1"
    refine⟨_,_,sm9 _ _ hl8,hl9,aS (by simp only[List.length_map,List.length_append,List.length_cons,List.length_nil]; omega),?_⟩
    have hb9:=((hb7.same st7).same sm9).updL (sm9 _ _ hl8) (o:=.lst ((pre++([Txt.join " " (kind::ws)]++mid)).map V.str++il.map V.str))
    have hc9:=((hc7.same st7).same sm9).updL (sm9 _ _ hl8) (o:=.lst ((pre++([Txt.join " " (kind::ws)]++mid)).map V.str++il.map V.str))
    have sm10:Same H (upd H9 lp (.lst ((pre++([Txt.join " " (kind::ws)]++mid)).map V.str++il.map V.str))):=((sm7.trans st7).trans sm9).upd hlp _
    have e10:upd H9 lp (.lst ((pre++([Txt.join " " (kind::ws)]++mid)).map V.str++il.map V.str)) lp=some (.lst ((pre++([Txt.join " " (kind::ws)]++mid)).map V.str++il.map V.str)):=ac
    generalize upd H9 lp (.lst ((pre++([Txt.join " " (kind::ws)]++mid)).map V.str++il.map V.str))=H10 at hb9 hc9 sm10 e10 ⊢
    walk_at "nx"
    refine⟨⟨_,SqL.of e10⟩,_,e10,bG (by simp only[List.length_map,List.length_append,List.length_cons,List.length_nil]; omega),?_⟩
    refine⟨_,_,rfl,sm10.upd hlp _,hb9.updL e10,hc9.updL e10,?_⟩
    rw[ac]
    simp only[List.map_append,List.map_cons,List.map_nil,List.append_assoc,List.cons_append,List.nil_append]
   ·rintro σ H7 ⟨o3,o4,rfl,sm7,_,_,hl7⟩
    refine⟨_,_,_,rfl,sm7,?_⟩
    rw[hl7,List.length_map,List.take_of_length_le (by omega),List.take_of_length_le (by omega)]; rfl
  ·rintro σ H' ⟨o2,o3,o4,rfl,sm,hl⟩
   walk_at "nx"
   rw[List.length_map,List.take_of_length_le (by omega)]at hl
   exact q lp H' sm hlp hl
end
abbrev letters:Str := "abcdefghijklmnopqrstuvwxyz"
def nP(K:PySem.W.Frag):Sp:=fun vs H Q _=>∃ (a:Addr) (ns:List Int),vs=[.ref a]∧SqL K H a (ns.map V.int)∧ns.length≤63∧∀ H',Q (.bl true) H'
def vz(K:PySem.W.Frag):Sp:=fun vs H Q _=>∃ (a:Addr) (ns:List Int) (k:Int),vs=[.ref a,.int k]∧SqL K H a (ns.map V.int)∧0≤k∧Q (.int (ns.getD k.toNat 0)) H
theorem oy:∀ (cs:List Nat) (acc:Array Nat),((cs.map fun c=>(⟨#[c]⟩ : Str)).foldl (fun acc p=>acc++(Str.ofString "").cps++p.cps) acc).toList=acc.toList++cs
 | [],acc=>by simp
 | c::cs,acc=>by
  rw[List.map_cons,List.foldl_cons,oy cs]
  have e:(Str.ofString "").cps = #[]:=by decide +kernel
  rw[e]; simp
theorem qA(cs:List Nat):(Txt.join "" (cs.map fun c=>(⟨#[c]⟩ : Str))).cps.toList=cs:=by
 cases cs with
 | nil=>rfl
 | cons c cs=>
  show (((c::cs).map fun c=>(⟨#[c]⟩ : Str)).drop 1 |>.foldl (fun acc p=>acc++(Str.ofString "").cps++p.cps) (((c::cs).map fun c=>(⟨#[c]⟩ : Str)).headD Str.empty).cps).toList=c::cs
  rw[List.map_cons,List.drop_one,List.tail_cons,oy]; rfl
theorem yg(cs:List Nat):(Txt.join "" (cs.map fun c=>(⟨#[c]⟩ : Str))).length=cs.length:=by
 have e:=congrArg List.length (qA cs)
 simpa [Str.length] using e
theorem gb(b:Nat):∀ (ss:List Str),(∀ s∈ss,s.length≤b)→(ss.map (·.length)).sum≤ss.length * b
 | [],_=>by simp
 | s::ss,h=>by
  have h1:=gb b ss fun x hx=>h x (List.mem_cons_of_mem _ hx)
  have h2:=h s List.mem_cons_self
  rw[List.map_cons,List.sum_cons,List.length_cons,Nat.succ_mul]
  omega
theorem vE(z:Int):∃ c,letters.length≤sizeLine∧di letters.cps.toList (z % 26)=some c∧c∈letters.cps.toList:=by
 have hz:(z % 26).toNat<letters.cps.toList.length:=by
  show (z % 26).toNat<26
  omega
 refine⟨letters.cps.toList[(z % 26).toNat],by decide,?_,List.getElem_mem hz⟩
 have q:=bu (List.getElem?_eq_getElem hz)
 rwa [show (((z % 26).toNat:Nat):Int)=z % 26 by omega]at q
theorem xm(x:Str)(c:Nat):(x++(⟨#[c]⟩ : Str)).length=x.length+1:=by rw[Str.length_append]; rfl
section
variable{P:Program}{w:World}{K:PySem.W.Frag}{mg:Str→Option Value}{base:Heap}
theorem zL(D:DefAt K mg "_law_cell_at" b_) (z_len:mg "len" = none):bg P w K mg base 1 "_law_cell_at" ["_law_script", "_law_k"] (vz K):=by
 refine D.cal lR (fun _ _ _ _ _ _ us hl=>match us,hl with | [_,_],_=>rfl) (fun vs H Q E h=>by obtain⟨a,ns,k,rfl,_⟩:=h; rfl) (fun f cdv A outer s H vs Q E hr h=>?_)
 obtain⟨a,ns,k,rfl,hS,h0,q⟩:=h
 refine⟨_,(ae (bN (aG hU (pv 1 (hv:=BZ)) (aY (aK K) z_len bw (aa (pv 0 (hv:=AV)) ab) (hg:=EA)) (bc _)) (ak (aF (ay (aW K) (pv 0 (hv:=AV)) (pv 1 (hv:=BZ)) (fun _ _=>rfl)))) bB)
   (ak (aF ai))),?_⟩
 try simp only[lM,sf,kI,jK,oE,sO,rW,qu,rP,oX,qW,qC,q8,s_,sH,yH,wB,wF,ol,y8,s0,wk,rF,v8,vU,qv,rR,qV,rZ,qG,wj,sU,pN,pY,mM,mY,jP,n_,mT,uY,qI,lu,n8,sy,rS,oZ,qz,rJ,pV,rf,qm,pW,sF,oN,wx,yW,mU,mK,gX,mx,nu,o_,oh,ms,sr,yJ,rk,qb,pd,oV,oz,ng,mV,oB,oW,kU,pS,rg,rb,mD,nw,eL,sJ,mL,sI,mC,pG,pR,p0,oQ,pj,rE,sR,sg,rA,L2.start,List.map_cons,List.map_nil,List.length_cons,List.length_nil,List.replicate,List.cons_append,List.nil_append,List.append_nil,List.getElem?_cons_zero,List.getElem?_cons_succ,List.set_cons_zero,List.set_cons_succ,Nat.reduceAdd,Nat.reduceSub,Option.some.injEq,exists_eq_left',exists_eq_left,V.int.injEq,V.ref.injEq,V.str.injEq,V.bl.injEq,vF,rD,and_true,true_and,decide_eq_true_eq,Bool.not_true,Bool.not_false,if_true,Bool.false_eq_true,if_false,ite_true,ite_false]
 refine⟨_,.inl hS,bA (fun c=>?_) (fun c=>?_)⟩
 ·rw[List.length_map]at c
  refine⟨_,.int (ns.getD k.toNat 0),.inl hS,v4 h0 ?_,q⟩
  rw[List.getD_eq_getElem?_getD,List.getElem?_eq_getElem (by omega)]; rfl
 ·rw[List.length_map]at c
  have e:ns.getD k.toNat 0=0:=by
   rw[List.getD_eq_getElem?_getD,List.getElem?_eq_none (by omega)]; rfl
  rw[e]at q; exact q
theorem p7(ss:List Str){z:Int}(h:0≤z):df (ss.map V.str) none (some z)=(ss.take z.toNat).map V.str:=by
 have e:z=(z.toNat:Int):=by omega
 rw[e,sE,List.map_take]; rfl
end
theorem ej(sep k:Str)(ws:List Str):Txt.join sep (k::ws)=ws.foldl (fun a x=>a++sep++x) k:=by
 have go:∀ (ws:List Str) (a:Str),(⟨ws.foldl (fun acc p=>acc++sep.cps++p.cps) a.cps⟩ : Str)=ws.foldl (fun a x=>a++sep++x) a:=by
  intro ws
  induction ws with
  | nil=>intro a; rfl
  | cons x ws ih=>intro a; rw[List.foldl_cons,List.foldl_cons]; exact ih (a++sep++x)
 exact go ws k
def cZ:List Str:=["open", "copy", "drop", "tie", "do"]
structure gL (ws:List Str):Prop where
 two:2≤ws.length
 three:ws.length≤3
 kind:ws.headD "" ∈ cZ
 len:∀ x∈ws,x.length≤20
def Cy(H:Hp)(a:Addr)(ws:List Str):Prop:=H a=some (.tup (ws.map V.str))∧gL ws
def jb{α : Type}(xs:List α)(lo hi:Option Int):List α:=(xs.drop (HT.sIx xs.length 0 lo)).take (HT.sIx xs.length xs.length hi - HT.sIx xs.length 0 lo)
theorem zX{α : Type}(f:α→V)(xs:List α)(lo hi:Option Int):df (xs.map f) lo hi=(jb xs lo hi).map f:=by
 unfold df jb
 rw[List.length_map,List.map_take,List.map_drop]
theorem xZ{α : Type}(xs:List α)(lo hi:Option Int):(jb xs lo hi).length≤xs.length:=by
 unfold jb
 rw[List.length_take,List.length_drop]
 omega
theorem tL{H:Hp}{a:Addr}{ws:List Str}{LA:Addr→List Str→Prop}(h:Cy H a ws):kY LA H a [Txt.join " " ws]:=by
 obtain⟨h1,two,three,kd,len⟩:=h
 cases ws with
 | nil=>simp at two
 | cons k ws=>
  have hk:k∈cZ:=kd
  have hc:br k=[]:=by
   simp only[cZ,List.mem_cons,List.mem_nil_iff,or_false]at hk
   rcases hk with rfl | rfl | rfl | rfl | rfl <;> decide
  have hp:∀ ws:List Str,Paired jf (ws.map V.str) ws:=fun ws=>by
   induction ws with
   | nil=>exact .nil
   | cons x ws ih=>exact .cons (show jf (.str x) x from rfl) ih
  refine⟨k,ws.map V.str,ws,[],[],⟨by rw[List.map_nil,List.append_nil]; exact h1,hp ws,?_,by rw[hc]; rfl,.nil⟩,by rw[hc]; rfl⟩
  have:=gb 20 (k::ws) len
  simp only[List.length_cons]at this two three ⊢
  omega
theorem cv{α β : Type}{R:α→β→Prop}{x:α}{y:β}(hxy:R x y):∀ {xs:List α} {ys:List β},Paired R xs ys→Paired R (xs++[x]) (ys++[y])
 | _,_,.nil=>.cons hxy .nil
 | _,_,.cons h t=>.cons h (cv hxy t)
set_option genSizeOf false in
inductive Stp where
 | plain (ws:List Str)
 | lend (x y:Str) (b:List Stp)
 | ite (n:Int) (b c:List Stp)
 | whl (n:Int) (b:List Stp)
def bH(n:Int):Str:=Str.ofString (toString n)
def bT(f:List Stp→List Str):Stp→List Str
 | .plain ws=>[Txt.join " " ws]
 | .lend x y b=>Txt.join " " ["lend", x,y]::(f b++[("back" : Str)])
 | .ite n b c=>Txt.join " " ["if", bH n]::(f b++[("else" : Str)]++(f c++[("fi" : Str)]))
 | .whl n b=>Txt.join " " ["while", bH n]::(f b++[("done" : Str)])
def b5:Nat→List Stp→List Str
 | 0,_=>[]
 | d+1,T=>T.flatMap (bT (b5 d))
def qj(f:List Stp→Prop):Stp→Prop
 | .plain ws=>gL ws
 | .lend x y b=>x.length≤20∧y.length≤20∧f b
 | .ite n b c=>n.natAbs.log2<1920∧f b∧f c
 | .whl n b=>n.natAbs.log2<1920∧f b
def dZ:Nat→List Stp→Prop
 | 0,_=>False
 | d+1,T=>∀ s∈T,qj (dZ d) s
def stpAt(PA:Addr→List Stp→Prop)(H:Hp)(a:Addr):Stp→Prop
 | .plain ws=>H a=some (.tup (ws.map V.str))
 | .lend x y b=>∃ q,H a=some (.tup [.str "lend", .str x,.str y,.ref q])∧PA q b
 | .ite n b c=>∃ q r,H a=some (.tup [.str "if", .int n,.ref q,.ref r])∧PA q b∧PA r c
 | .whl n b=>∃ q,H a=some (.tup [.str "while", .int n,.ref q])∧PA q b
def ProgAt(S:Addr→Prop):Nat→Hp→Addr→List Stp→Prop
 | 0=>fun _ _ _=>False
 | d+1=>fun H p T=>S p∧∃ as:List Addr,H p=some (.lst (as.map V.ref))∧Paired (stpAt (ProgAt S d H) H) as T
theorem stpAt.imp{PA PA':Addr→List Stp→Prop}{H H':Hp}{a:Addr}(ht:∀ b xs,H b=some (.tup xs)→H' b=some (.tup xs))(hp:∀ q b,PA q b→PA' q b):∀ {s:Stp},stpAt PA H a s→stpAt PA' H' a s
 | .plain _,h=>ht _ _ h
 | .lend _ _ _,⟨q,h,z⟩=>⟨q,ht _ _ h,hp _ _ z⟩
 | .ite _ _ _,⟨q,r,h,z,y⟩=>⟨q,r,ht _ _ h,hp _ _ z,hp _ _ y⟩
 | .whl _ _,⟨q,h,z⟩=>⟨q,ht _ _ h,hp _ _ z⟩
theorem ProgAt.imp{S S':Addr→Prop}{H H':Hp}(ht:∀ b xs,H b=some (.tup xs)→H' b=some (.tup xs))(hl:∀ b xs,S b→H b=some (.lst xs)→H' b=some (.lst xs))(hS:∀ b,S b→S' b) :
  ∀ (d:Nat) {p:Addr} {T:List Stp},ProgAt S d H p T→ProgAt S' d H' p T
 | 0,_,_,h=>h.elim
 | d+1,p,T,⟨h0,as,h1,h2⟩=>⟨hS _ h0,as,hl _ _ h0 h1,Paired.imp' (fun a s z=>z.imp ht fun q b y=>ProgAt.imp ht hl hS d y) h2⟩
theorem ProgAt.mono{S:Addr→Prop}{H H':Hp}{d:Nat}{p:Addr}{T:List Stp}(h:ProgAt S d H p T)(sm:Same H H'):ProgAt S d H' p T:=h.imp (fun b xs e=>sm _ _ e) (fun b xs _ e=>sm _ _ e) (fun _ z=>z) d
theorem iq{n:Int}(h:n.natAbs.log2<1920):(bH n).length≤1921:=by
 have e:=int_text_length_le (k:=1920) (by decide) h
 unfold bH
 rw[PySem.ofString_length]; exact e
theorem ue{PA:Addr→List Stp→Prop}{LA:Addr→List Str→Prop}{H:Hp}{a:Addr}{f:List Stp→List Str}{g:List Stp→Prop}(hp:∀ q b,PA q b→g b→LA q (f b)):∀ {s:Stp},stpAt PA H a s→qj g s→kY LA H a (bT f s)
 | .plain ws,h,ok=>tL ⟨h,ok⟩
 | .lend x y b,⟨q,h,z⟩,⟨o1,o2,o3⟩=>by
  refine⟨"lend", [.str x,.str y],[x,y],[q],[f b],⟨h,.cons rfl (.cons rfl .nil),?_,by show 1=(br "lend").length; decide,.cons (hp _ _ z o3) .nil⟩,by show _=_::b4 [f b] ["back"]; simp[bT,b4]⟩
  have:(Str.ofString "lend").length=4:=by decide
  simp only[List.map_cons,List.map_nil,List.sum_cons,List.sum_nil,List.length_cons,List.length_nil,this]; omega
 | .ite n b c,⟨q,r,h,z,y⟩,⟨o1,o2,o3⟩=>by
  refine⟨"if", [.int n],[bH n],[q,r],[f b,f c],⟨h,.cons ⟨o1,rfl⟩ .nil,?_,by show 2=(br "if").length; decide,.cons (hp _ _ z o2) (.cons (hp _ _ y o3) .nil)⟩,?_⟩
  ·have:(Str.ofString "if").length=2:=by decide
   have:=iq o1
   simp only[List.map_cons,List.map_nil,List.sum_cons,List.sum_nil,List.length_cons,List.length_nil]; omega
  ·show _=_::b4 [f b,f c] ["else", "fi"]
   simp[bT,b4]
 | .whl n b,⟨q,h,z⟩,⟨o1,o2⟩=>by
  refine⟨"while", [.int n],[bH n],[q],[f b],⟨h,.cons ⟨o1,rfl⟩ .nil,?_,by show 1=(br "while").length; decide,.cons (hp _ _ z o2) .nil⟩,by show _=_::b4 [f b] ["done"]; simp[bT,b4]⟩
  have:(Str.ofString "while").length=5:=by decide
  have:=iq o1
  simp only[List.map_cons,List.map_nil,List.sum_cons,List.sum_nil,List.length_cons,List.length_nil]; omega
theorem jX{PA:Addr→List Stp→Prop}{LA:Addr→List Str→Prop}{H:Hp}{f:List Stp→List Str}{g:List Stp→Prop}(hp:∀ q b,PA q b→g b→LA q (f b)) :
  ∀ {as:List Addr} {T:List Stp},Paired (stpAt PA H) as T→(∀ s∈T,qj g s)→Paired (kY LA H) as (T.map (bT f))
 | _,_,.nil,_=>.nil
 | _,_,.cons h t,ok=>.cons (ue hp h (ok _ List.mem_cons_self)) (jX hp t fun s hs=>ok s (List.mem_cons_of_mem _ hs))
theorem kT{S:Addr→Prop}{H:Hp}:∀ (d:Nat) {p:Addr} {T:List Stp},ProgAt S d H p T→dZ d T→LinesAt d H p (b5 d T)
 | 0,_,_,h,_=>h.elim
 | d+1,p,T,⟨_,as,h1,h2⟩,ok=>⟨as,T.map (bT (b5 d)),h1,jX (fun q b z o=>kT d z o) h2 ok,List.flatMap_def⟩
def aU(f:List Stp→Nat):Stp→Nat
 | .plain _=>1
 | .lend _ _ b=>f b+2
 | .ite _ b c=>f b+f c+3
 | .whl _ b=>f b+2
def aj:Nat→List Stp→Nat
 | 0,_=>0
 | d+1,T=>(T.map (aU (aj d))).sum
def dA(f:Stp→Nat):Nat→List Stp→List (Nat × Stp)
 | _,[]=>[]
 | l,s::T=>(l,s)::dA f (l+f s) T
theorem jd(f:Stp→Nat)(s:Stp):∀ (l:Nat) (T:List Stp),dA f l (T++[s])=dA f l T++[(l+(T.map f).sum,s)]
 | l,[]=>by simp[dA]
 | l,t::T=>by
  show (l,t)::dA f (l+f t) (T++[s])=(l,t)::dA f (l+f t) T++[(l+(f t+(T.map f).sum),s)]
  rw[jd f s (l+f t) T,Nat.add_assoc]; rfl
theorem fI(f:Stp→Nat):∀ (l:Nat) (T:List Stp),(dA f l T).length=T.length
 | _,[]=>rfl
 | l,s::T=>by show (dA f (l+f s) T).length+1=T.length+1; rw[fI f _ T]
theorem sS(f:Stp→Nat):∀ (l:Nat) (T:List Stp) (i:Nat) (s:Stp),T[i]? = some s→(dA f l T)[i]? = some (l+((T.take i).map f).sum,s)
 | _,[],_,_,h=>by simp at h
 | l,t::T,0,s,h=>by
  have e:t=s:=by simpa using h
  subst e; simp[dA]
 | l,t::T,i+1,s,h=>by
  have h':T[i]? = some s:=by simpa using h
  have ih:=sS f (l+f t) T i s h'
  show (dA f (l+f t) T)[i]? = _
  rw[ih,List.take_succ_cons,List.map_cons,List.sum_cons,Nat.add_assoc]
def kindOf:Stp→Str
 | .plain ws=>ws.headD ""
 | .lend _ _ _ => "lend"
 | .ite _ _ _ => "if"
 | .whl _ _ => "while"
def dE:Stp→List V
 | .plain ws=>(ws.drop 1).map V.str
 | .lend x y _=>[.str x,.str y]
 | .ite n _ _=>[.int n]
 | .whl n _=>[.int n]
def cD(f:List Stp→Nat)(l:Nat):Stp→List (Nat × List Stp)
 | .plain _=>[]
 | .lend _ _ b=>[(l+1,b)]
 | .ite _ b c=>[(l+1,b),(l+1+f b+1,c)]
 | .whl _ b=>[(l+1,b)]
def cJ(f:List Stp→Nat)(l:Nat)(s:Stp):List Nat:=l::(cD f l s).map fun z=>z.1+f z.2
theorem wU{f:List Stp→Nat}{l:Nat}:∀ {s:Stp} {j:Nat} {z:Nat × List Stp},(cD f l s)[j]? = some z→∃ y,(cJ f l s)[j]? = some y∧z.1=y+1
 | .plain _,j,z,h=>by simp[cD]at h
 | .lend _ _ b,0,z,h=>by cases h; exact⟨l,rfl,rfl⟩
 | .lend _ _ b,j+1,z,h=>by simp[cD]at h
 | .ite _ b c,0,z,h=>by cases h; exact⟨l,rfl,rfl⟩
 | .ite _ b c,1,z,h=>by cases h; exact⟨l+1+f b,rfl,rfl⟩
 | .ite _ b c,j+2,z,h=>by simp[cD]at h
 | .whl _ b,0,z,h=>by cases h; exact⟨l,rfl,rfl⟩
 | .whl _ b,j+1,z,h=>by simp[cD]at h
theorem kW{f:List Stp→Nat}{l:Nat}:∀ {s:Stp},(cJ f l s).getLast? = some (l+aU f s - 1)∧1≤aU f s
 | .plain _=>by simp[cJ,cD,aU]
 | .lend _ _ b=>by simp[cJ,cD,aU]; omega
 | .ite _ b c=>by simp[cJ,cD,aU]; omega
 | .whl _ b=>by simp[cJ,cD,aU]; omega
inductive cN:List Str→Prop
 | op (x:Str):cN ["open", x]
 | dr (x:Str):cN ["drop", x]
 | dd (u x:Str):cN ["do", u,x]
 | cp (x y:Str):cN ["copy", x,y]
 | ti (x y:Str):cN ["tie", x,y]
def mh(f:List Stp→Prop):Stp→Prop
 | .plain ws=>cN ws
 | .lend _ _ b=>f b
 | .ite _ b c=>f b∧f c
 | .whl _ b=>f b
def mq:Nat→List Stp→Prop
 | 0,_=>False
 | d+1,T=>∀ s∈T,mh (mq d) s
def nF(k:Str)(pp lp bp:Addr):List (Str × V):=[("kind", .str k),("parts", .ref pp),("lines", .ref lp),("blocks", .ref bp)]
theorem fh(k:Str)(pp lp bp:Addr):(nF k pp lp bp).lookup ("kind" : Str)=some (.str k):=by unfold nF; walk_at "lk"
theorem eF(k:Str)(pp lp bp:Addr):(nF k pp lp bp).lookup ("parts" : Str)=some (.ref pp):=by unfold nF; walk_at "lk"
theorem dM(k:Str)(pp lp bp:Addr):(nF k pp lp bp).lookup ("lines" : Str)=some (.ref lp):=by unfold nF; walk_at "lk"
theorem fU(k:Str)(pp lp bp:Addr):(nF k pp lp bp).lookup ("blocks" : Str)=some (.ref bp):=by unfold nF; walk_at "lk"
def eY(ns:List Nat):List V:=ns.map fun (n:Nat)=>V.int (n:Int)
def nstpAt(K:PySem.W.Frag)(C:Addr)(f:List Stp→Nat)(S:Addr→Prop)(PA:Addr→Nat→List Stp→Prop)(H:Hp)(a:Addr)(l:Nat)(s:Stp):Prop:=
 ∃ (dx pp lp bp:Addr) (bs:List Addr),H a=some (.ins C dx (nF (kindOf s) pp lp bp))∧SqT K H pp (dE s)∧S lp∧H lp=some (.lst (eY (cJ f l s)))∧S bp∧H bp=some (.lst (bs.map V.ref))∧Paired (fun q (z:Nat × List Stp)=>PA q z.1 z.2) bs (cD f l s)
def NumAt(K:PySem.W.Frag)(C:Addr)(S:Addr→Prop):Nat→Hp→Addr→Nat→List Stp→Prop
 | 0=>fun _ _ _ _=>False
 | d+1=>fun H p l T=>S p∧∃ as:List Addr,H p=some (.lst (as.map V.ref))∧Paired (fun a (z:Nat × Stp)=>nstpAt K C (aj d) S (NumAt K C S d H) H a z.1 z.2) as (dA (aU (aj d)) l T)
structure Stays (S:Addr→Prop) (H H':Hp):Prop where
 t:∀ b xs,H b=some (.tup xs)→H' b=some (.tup xs)
 z:∀ b o u,H b=some (.frz o u)→H' b=some (.frz o u)
 i:∀ b C dx fs,H b=some (.ins C dx fs)→H' b=some (.ins C dx fs)
 l:∀ b xs,S b→H b=some (.lst xs)→H' b=some (.lst xs)
theorem Stays.of{S:Addr→Prop}{H H':Hp}(sm:Same H H'):Stays S H H':=⟨fun b xs h=>sm _ _ h,fun b o u h=>sm _ _ h,fun b C dx fs h=>sm _ _ h,fun b xs _ h=>sm _ _ h⟩
theorem Stays.upd{S:Addr→Prop}{H:Hp}{p:Addr}{xs:List V}{o:HO}(h:H p=some (.lst xs))(hS:¬ S p):Stays S H (upd H p o):=
  ⟨fun b xs e=>by rw[ah (b7 e h (fun z=>nomatch z))]; exact e,fun b o u e=>by rw[ah (b7 e h (fun z=>nomatch z))]; exact e,fun b C dx fs e=>by rw[ah (b7 e h (fun z=>nomatch z))]; exact e,
   fun b xs hb e=>by rw[ah (show b≠p from fun z=>hS (z ▸ hb))]; exact e⟩
theorem SqT.stays{K:PySem.W.Frag}{S:Addr→Prop}{H H':Hp}{a:Addr}{xs:List V}(h:SqT K H a xs)(st:Stays S H H'):SqT K H' a xs:=by
 rcases h with (h | ⟨o,h⟩) | h
 ·exact .inl (.inl (st.t _ _ h))
 ·exact .inl (.inr ⟨o,st.z _ _ _ h⟩)
 ·exact .inr h
theorem SqT.updI{K:PySem.W.Frag}{H:Hp}{a x C dx:Addr}{xs:List V}{fs:List (Str × V)}{o:HO}(h:SqT K H a xs)(hx:H x=some (.ins C dx fs)):SqT K (upd H x o) a xs:=by
 rcases h with (h | ⟨o',h⟩) | h
 ·exact .inl (.inl (by rw[ah (b7 h hx (fun z=>nomatch z))]; exact h))
 ·exact .inl (.inr ⟨o',by rw[ah (b7 h hx (fun z=>nomatch z))]; exact h⟩)
 ·exact .inr h
theorem nstpAt.imp{K:PySem.W.Frag}{C:Addr}{f:List Stp→Nat}{S S':Addr→Prop}{PA PA':Addr→Nat→List Stp→Prop}{H H':Hp}{a:Addr}{l:Nat}{s:Stp}(h:nstpAt K C f S PA H a l s)(st:Stays S H H')(hS:∀ b,S b→S' b)(hp:∀ q l b,PA q l b→PA' q l b):nstpAt K C f S' PA' H' a l s:=by
 obtain⟨dx,pp,lp,bp,bs,h1,h2,h3,h4,h5,h6,h7⟩:=h
 exact⟨dx,pp,lp,bp,bs,st.i _ _ _ _ h1,SqT.stays h2 st,hS _ h3,st.l _ _ h3 h4,hS _ h5,st.l _ _ h5 h6,Paired.imp' (fun q z y=>hp _ _ _ y) h7⟩
theorem NumAt.imp{K:PySem.W.Frag}{C:Addr}{S S':Addr→Prop}{H H':Hp}(st:Stays S H H')(hS:∀ b,S b→S' b):∀ (d:Nat) {p:Addr} {l:Nat} {T:List Stp},NumAt K C S d H p l T→NumAt K C S' d H' p l T
 | 0,_,_,_,h=>h.elim
 | d+1,p,l,T,⟨h0,as,h1,h2⟩=>⟨hS _ h0,as,st.l _ _ h0 h1,Paired.imp' (fun a z y=>y.imp st hS fun q l b y'=>NumAt.imp st hS d y') h2⟩
theorem NumAt.mono{K:PySem.W.Frag}{C:Addr}{S:Addr→Prop}{H H':Hp}{d:Nat}{p:Addr}{l:Nat}{T:List Stp}(h:NumAt K C S d H p l T)(sm:Same H H'):NumAt K C S d H' p l T:=h.imp (Stays.of sm) (fun _ z=>z) d
theorem nstpAt.mono{K:PySem.W.Frag}{C:Addr}{S:Addr→Prop}{H H':Hp}{d:Nat}{a:Addr}{l:Nat}{s:Stp}(h:nstpAt K C (aj d) S (NumAt K C S d H) H a l s)(sm:Same H H'):nstpAt K C (aj d) S (NumAt K C S d H') H' a l s:=
 h.imp (Stays.of sm) (fun _ z=>z) fun q l b y=>y.mono sm
theorem sW{α : Type}{xs:List α}{x:α}(h:xs.getLast? = some x):di xs (-1)=some x:=by
 rcases List.eq_nil_or_concat xs with rfl | ⟨ys,y,rfl⟩
 ·simp at h
 ·have e:y=x:=by simpa using h
  subst e
  have e:iS (ys++[y]).length (-1)=some ys.length:=by
   unfold iS
   simp only[List.length_append,List.length_cons,List.length_nil]
   split <;> simp_all <;> omega
  unfold di
  rw[List.concat_eq_append,e]
  simp
theorem iD{ns:List Nat}{n:Nat}(h:ns.getLast? = some n):di (eY ns) (-1)=some (.int n):=sW (by unfold eY; rw[List.getLast?_map,h]; rfl)
theorem eD{ns:List Nat}{i n:Nat}(h:ns[i]? = some n):di (eY ns) i=some (.int n):=bu (by unfold eY; rw[List.getElem?_map,h]; rfl)
theorem sZ(d:Nat):∀ T:List Stp,T.length≤aj (d+1) T
 | []=>Nat.zero_le _
 | s::T=>by
  have:=sZ d T
  have h1:=(kW (f:=aj d) (l:=0) (s:=s)).2
  show T.length+1≤aU (aj d) s+aj (d+1) T
  omega
theorem ma{d:Nat}:∀ {T:List Stp} {s:Stp},s∈T→aU (aj d) s≤aj (d+1) T
 | [],_,h=>by cases h
 | t::T,s,h=>by
  show aU (aj d) s≤aU (aj d) t+aj (d+1) T
  rcases List.mem_cons.mp h with rfl | h
  ·omega
  ·have:=ma (d:=d) h; omega
theorem qo{d i:Nat}{T:List Stp}:aj (d+1) (T.take i)≤aj (d+1) T:=by
 have e:aj (d+1) T=aj (d+1) (T.take i)+aj (d+1) (T.drop i):=by
  show (T.map _).sum=((T.take i).map _).sum+((T.drop i).map _).sum
  rw[← List.sum_append,← List.map_append,List.take_append_drop]
 omega
theorem zZ{f:List Stp→Nat}{l:Nat}:∀ {s:Stp} {z:Nat × List Stp},z∈cD f l s→f z.2≤aU f s
 | .plain _,z,h=>by cases h
 | .lend _ _ b,z,h=>by simp[cD]at h; subst h; simp[aU]
 | .ite _ b c,z,h=>by
  simp[cD]at h
  rcases h with rfl | rfl <;> simp[aU] <;> omega
 | .whl _ b,z,h=>by simp[cD]at h; subst h; simp[aU]
theorem xj(f:List Stp→Nat)(l:Nat)(s:Stp):(cD f l s).length≤2:=by cases s <;> simp[cD]
theorem zY{PA:Addr→List Stp→Prop}{H:Hp}{a:Addr}{f:List Stp→Nat}{g:List Stp→Prop}{l:Nat}:∀ {s:Stp},stpAt PA H a s→qj g s→∃ bs:List Addr,H a=some (.tup (.str (kindOf s)::(dE s++bs.map V.ref)))∧bs.length=(br (kindOf s)).length∧Paired (fun q (z:Nat × List Stp)=>PA q z.2∧g z.2) bs (cD f l s)
 | .plain ws,h,ok=>by
  have hw:ws≠[]:=fun e=>by have:=ok.two; rw[e]at this; simp at this
  obtain⟨k,r,rfl⟩:=List.exists_cons_of_ne_nil hw
  have hk:k∈cZ:=ok.kind
  refine⟨[],?_,?_,.nil⟩
  ·show H a=some (.tup (.str k::(r.map V.str++[])))
   rw[List.append_nil]; exact h
  ·show 0=(br k).length
   revert hk; unfold cZ
   intro hk
   simp only[List.mem_cons,List.not_mem_nil,or_false]at hk
   rcases hk with rfl | rfl | rfl | rfl | rfl <;> decide
 | .lend x y b,⟨q,h,z⟩,⟨_,_,o⟩=>⟨[q],h,by show 1=(br "lend").length; decide,.cons ⟨z,o⟩ .nil⟩
 | .ite n b c,⟨q,r,h,z,y⟩,⟨_,o,o'⟩=>⟨[q,r],h,by show 2=(br "if").length; decide,.cons ⟨z,o⟩ (.cons ⟨y,o'⟩ .nil)⟩
 | .whl n b,⟨q,h,z⟩,⟨_,o⟩=>⟨[q],h,by show 1=(br "while").length; decide,.cons ⟨z,o⟩ .nil⟩
def lY(K:PySem.W.Frag)(C:Addr):Sp:=fun vs H Q _=>∃ (x dx hp:Addr) (k:Str) (ps:List V) (lp bp:Addr),vs=[.ref x,.ref hp,.ref lp,.ref bp]∧H x=some (.ins C dx [])∧SqT K H hp (.str k::ps)∧
 ∀ (pp:Addr) (H':Hp),(∀ b o,H b=some o→b≠x→H' b=some o)→H' x=some (.ins C dx (nF k pp lp bp))→SqT K H' pp ps→Q .non H'
def iL(K:PySem.W.Frag)(C:Addr):Sp:=fun vs H Q _=>∃ (p:Addr) (l d:Nat) (T:List Stp) (S:Addr→Prop),vs=[.ref p,.int (l:Int)]∧NumAt K C S (d+1) H p l T∧aj (d+1) T≤10000∧Q (.int ((l+aj (d+1) T:Nat):Int)) H
def Cz(K:PySem.W.Frag)(C:Addr)(d:Nat):Sp:=fun vs H Q _=>∃ (a:Addr) (l:Nat) (s:Stp) (S:Addr→Prop),vs=[.ref a,.int (l:Int)]∧stpAt (ProgAt S d H) H a s∧qj (dZ d) s∧aU (aj d) s≤10000∧
 ∀ (q:Addr) (H':Hp),Same H H'→nstpAt K C (aj d) (fun b=>H b=none) (NumAt K C (fun b=>H b=none) d H') H' q l s→Q (.ref q) H'
def qa(K:PySem.W.Frag)(C:Addr)(d:Nat):Sp:=fun vs H Q _=>∃ (p:Addr) (l:Nat) (T:List Stp) (S:Addr→Prop),vs=[.ref p,.int (l:Int)]∧ProgAt S d H p T∧dZ d T∧aj d T≤10000∧
 ∀ (q:Addr) (H':Hp),Same H H'→NumAt K C (fun b=>H b=none) d H' q l T→Q (.ref q) H'
section
variable{P:Program}{w:World}{K:PySem.W.Frag}{mg:Str→Option Value}{base:Heap}{CN:Addr}
theorem ye(D:MakeAt K mg "NumberedStep" CN "NumberedStep.__init__" aV) (a_kind:Fl K CN "kind") (a_parts:Fl K CN "parts") (a_lines:Fl K CN "lines") (a_blocks:Fl K CN "blocks") :
  qE P w K mg base 1 "NumberedStep" CN ["self", "head", "lines", "blocks"] (lY K CN):=by
 refine D.mkal (k:=0) gs (fun _ _ _ _ _ _ us hl=>match us,hl with | [_,_,_,_],_=>rfl) (fun vs H Q E h=>by obtain⟨x,dx,hp,k,ps,lp,bp,rfl,_⟩:=h; rfl) (fun f cdv A outer s H vs Q E hr h=>?_)
 obtain⟨x,dx,hp,k,ps,lp,bp,rfl,hx,hh,q⟩:=h
 refine⟨_,(ae (ju a_kind (pv 0 (hv:=yZ)) (ay (aW K) (pv 1 (hv:=Dj)) ai (fun _ _=>rfl)))
   (ae (ju a_parts (pv 0 (hv:=yZ)) (cj (ie K) (pv 1 (hv:=Dj)) (cr ai) cV))
   (ae (ju a_lines (pv 0 (hv:=yZ)) (pv 2 (hv:=Gv)))
   (ak (ju a_blocks (pv 0 (hv:=yZ)) (pv 3 (hv:=G0))))))),?_⟩
 walk_at "rd1"
 refine⟨_,_,.inr hh,cM,dx,_,hx,by decide,?_⟩
 generalize hH1:upd H x _=H1
 have e1:H1 x=some (.ins CN dx [("kind", .str k)]):=by rw[← hH1,ac]; walk_at "pf"
 have k1:∀ b o,H b=some o→b≠x→H1 b=some o:=fun b o e n=>by rw[← hH1,ah n]; exact e
 have hh1:SqT K H1 hp (.str k::ps):=by rw[← hH1]; exact SqT.updI hh hx
 walk_at "nx"
 refine gJ hh1 fun pp H2 sm2 hpp=>?_
 have ec:df (V.str k::ps) (some 1) none=ps:=fm _ 1
 rw[ec]at hpp
 refine⟨dx,_,sm2 _ _ e1,by simp,?_⟩
 generalize hH3:upd H2 x _=H3
 have e3:H3 x=some (.ins CN dx [("kind", .str k),("parts", .ref pp)]):=by rw[← hH3,ac]; walk_at "pf"
 have k3:∀ b o,H2 b=some o→b≠x→H3 b=some o:=fun b o e n=>by rw[← hH3,ah n]; exact e
 have hp3:SqT K H3 pp ps:=by rw[← hH3]; exact SqT.updI hpp (sm2 _ _ e1)
 walk_at "nx"
 refine⟨dx,_,e3,by simp,?_⟩
 generalize hH4:upd H3 x _=H4
 have e4:H4 x=some (.ins CN dx [("kind", .str k),("parts", .ref pp),("lines", .ref lp)]):=by rw[← hH4,ac]; walk_at "pf"
 have k4:∀ b o,H3 b=some o→b≠x→H4 b=some o:=fun b o e n=>by rw[← hH4,ah n]; exact e
 have hp4:SqT K H4 pp ps:=by rw[← hH4]; exact SqT.updI hp3 e3
 walk_at "nx"
 refine⟨dx,_,e4,by simp,?_⟩
 refine q pp _ (fun b o e n=>?_) ?_ (SqT.updI hp4 e4)
 ·rw[ah n]; exact k4 _ _ (k3 _ _ (sm2 _ _ (k1 _ _ e n)) n) n
 ·rw[ac]; unfold nF; walk_at "pf"
theorem vo(D:DefAt K mg "line_behind" b9) (z_len:mg "len" = none) (a_lines:Fl K CN "lines"):bg P w K mg base 1 "line_behind" ["steps", "line"] (iL K CN):=by
 refine D.cal (k:=0) lW (fun _ _ _ _ _ _ us hl=>match us,hl with | [_,_],_=>rfl) (fun vs H Q E h=>by obtain⟨p,l,d,T,S,rfl,_⟩:=h; rfl) (fun f cdv A outer s H vs Q E hr h=>?_)
 obtain⟨p,l,d,T,S,rfl,⟨h0,as,h1,h2⟩,hz,q⟩:=h
 have hlen:=av h2
 rw[fI]at hlen
 refine⟨_,(ak (aF (xy (aG b8 (aY (aK K) z_len bw (aa (pv 0 (hv:=C1)) ab) (hg:=Hr)) ai (bc _)) (pv 1 (hv:=G2)) (ao aw (ay (aW K) (bM a_lines (ay (aW K) (pv 0 (hv:=C1)) (gR fW ai) (fun _ _=>rfl))) (gR fW ai) (fun _ _=>rfl)) ai)))),?_⟩
 walk_at "rd1"
 refine⟨_,.inl (SqL.of h1),?_⟩
 rw[List.length_map,hlen]
 rcases List.eq_nil_or_concat T with rfl | ⟨T',t,rfl⟩
 ·refine bA (fun c=>?_) (fun c=>absurd rfl c)
  exact q
 ·rw[List.concat_eq_append]at *
  refine bA (fun c=>absurd c (by rw[List.length_append]; simp; omega)) (fun c=>?_)
  rw[jd]at h2
  rcases List.eq_nil_or_concat as with rfl | ⟨as',a,rfl⟩
  ·have:=av h2; simp at this
  rw[List.concat_eq_append]at *
  have hl':as'.length=T'.length:=by simpa using hlen
  have h3:nstpAt K CN (aj d) S (NumAt K CN S d H) H a (l+(T'.map (aU (aj d))).sum) t:=by
   obtain⟨z,hz1,hz2⟩:=b6 h2 (i:=as'.length) (x:=a) (by simp)
   rw[List.getElem?_append_right (by rw[fI]; omega),fI,hl']at hz1
   simp at hz1
   subst hz1; exact hz2
  obtain⟨dx,pp,lp,bp,bs,g1,g2,g3,g4,g5,g6,g7⟩:=h3
  obtain⟨g8,g9⟩:=kW (f:=aj d) (l:=l+(T'.map (aU (aj d))).sum) (s:=t)
  walk_at "rd1"
  refine⟨_,_,.inl (SqL.of h1),sW (x:=V.ref a) (by simp),?_⟩
  refine⟨a,rfl,dx,_,_,g1,dM _ _ _ _,?_⟩
  walk_at "rd1"
  refine⟨_,_,.inl (SqL.of g4),iD g8,?_⟩
  walk_at "rd1"
  have e:((l+(T'.map (aU (aj d))).sum+aU (aj d) t - 1:Nat):Int)+1=((l+aj (d+1) (T'++[t]):Nat):Int):=by
   have:aj (d+1) (T'++[t])=(T'.map (aU (aj d))).sum+aU (aj d) t:=by show ((T'++[t]).map _).sum=_; simp
   omega
  rw[e]; exact q
theorem Ao(D:DefAt K mg "numbered_step" aC) (c_head_of:bg P w K mg base 2 "head_of" ["step"] (iT K)) (c_blocks_of:bg P w K mg base 3 "blocks_of" ["step"] (gq K)) (c_line_behind:bg P w K mg base 1 "line_behind" ["steps", "line"] (iL K CN))
  (k_NumberedStep:qE P w K mg base 1 "NumberedStep" CN ["self", "head", "lines", "blocks"] (lY K CN)) {d:Nat} (c_numbered_steps:bg P w K mg base (2 * d+4) "numbered_steps" ["steps", "line"] (qa K CN d)) :
  bg P w K mg base (2 * d+5) "numbered_step" ["step", "line"] (Cz K CN d):=by
 refine D.cal (k:=2 * d+4) sc_numbered_step (fun _ _ _ _ _ _ us hl=>match us,hl with | [_,_],_=>rfl) (fun vs H Q E h=>by obtain⟨a,l,s,S,rfl,_⟩:=h; rfl) (fun f cdv A outer sh H vs Q E hr h=>?_)
 obtain⟨a,l,s,S,rfl,h1,ok,hz,q⟩:=h
 obtain⟨bs,b1,b2,b3⟩:=zY (f:=aj d) (l:=l) h1 ok
 refine⟨_,(ae (ar 2 sc_numbered_step.nd (bi (aa (pv 1 (hv:=G_)) ab)) (hx:=GL))
   (ae (ar 3 sc_numbered_step.nd (bi ab) (hx:=Gn))
   (ae (cE PassesOwn.never rfl (jG K (aJ c_blocks_of hr (aa (pv 0 (hv:=C_)) ab) (hg:=Gz) (hle:=by omega))) (bj 4 sc_numbered_step.nd (hx:=Hc)) (ae (ar 5 sc_numbered_step.nd (aJ c_numbered_steps hr (aa (pv 4 (hv:=GQ)) (aa (ao aw (ay (aW K) (pv 2 (hv:=y_)) (gR fW ai) (fun _ _=>rfl)) ai) ab)) (hg:=GJ) (hle:=by omega)) (hx:=F6))
   (ae (aQ (aI K PySem.F.plainAttrs_list PySem.F.slot_list_append PySem.F.type_list_append aL (pv 3 (hv:=CY)) (aa (pv 5 (hv:=Dg)) ab)))
   (ak (aQ (aI K PySem.F.plainAttrs_list PySem.F.slot_list_append PySem.F.type_list_append aL (pv 2 (hv:=y_)) (aa (aJ c_line_behind hr (aa (pv 5 (hv:=Dg)) (aa (ao aw (ay (aW K) (pv 2 (hv:=y_)) (gR fW ai) (fun _ _=>rfl)) ai) ab)) (hg:=G7) (hle:=by omega)) ab)))))))
   (ak (aF (CD k_NumberedStep hr (aa (aJ c_head_of hr (aa (pv 0 (hv:=C_)) ab) (hg:=Gb) (hle:=by omega)) (aa (pv 2 (hv:=y_)) (aa (pv 3 (hv:=CY)) ab))) (hg:=GW) (hle:=by omega))))))),?_⟩
 walk_at "rd1"
 refine⟨by decide,fun lp hlp=>?_⟩
 generalize hA:upd H lp _=HA
 have sA:=eJ hA hlp
 have eA:=gf hA
 walk_at "nx"
 refine⟨by decide,fun bp hbp=>?_⟩
 generalize hB:upd HA bp _=HB
 have sB:=eJ hB hbp
 have eB:=gf hB
 have sAB:=sA.trans sB
 have hcl:(br (kindOf s)).length≤(dE s++bs.map V.ref).length+1:=by rw[List.length_append,List.length_map,b2]; omega
 have hcut:(dE s++bs.map V.ref).length+1 - (br (kindOf s)).length=(dE s).length+1:=by rw[List.length_append,List.length_map,b2]; omega
 walk_at "nx"
 refine⟨a,kindOf s,_,rfl,SqT.of (sAB _ _ b1),hcl,fun tp HC sC htp=>?_⟩
 rw[hcut]at htp
 have etk:(V.str (kindOf s)::(dE s++bs.map V.ref)).drop ((dE s).length+1)=bs.map V.ref:=by rw[List.drop_succ_cons,List.drop_left']; rfl
 rw[etk]at htp
 walk_at "rd1"
 refine⟨⟨_,htp⟩,?_⟩
 have hbl:=av b3
 have hb2:=xj (aj d) l s
 have nlb:lp≠bp:=fun z=>by rw[← z]at hbp; rw[hbp]at eA; cases eA
 refine pI (xs:=bs.map V.ref) (fun j σ H'=>∃ (o4 o5:Option V) (qs:List Addr),σ=[some (.ref a),some (.int (l:Int)),some (.ref lp),some (.ref bp),o4,o5]∧Same H H'∧SqT K H' tp (bs.map V.ref)∧H' lp=some (.lst (eY ((cJ (aj d) l s).take (j+1))))∧H' bp=some (.lst (qs.map V.ref))∧
   (∀ b,H' b=none→HC b=none)∧Paired (fun q (z:Nat × List Stp)=>NumAt K CN (fun b=>HC b=none) d H' q z.1 z.2) qs ((cD (aj d) l s).take j))
  ⟨none,none,[],rfl,sAB.trans sC,htp,by rw[sC _ _ (sB _ _ eA)]; simp[eY,cJ],by rw[sC _ _ eB]; rfl,fun b h=>h,.nil⟩ (fun j σ H' _ h=>by obtain⟨_,_,_,_,_,z,_⟩:=h; exact z) ?_ ?_
 ·rintro j v σ H' hv ⟨o4,o5,qs,rfl,sm,ht',hl',hb',hfr,hp'⟩
  have hj:j<bs.length:=by have:=(List.getElem?_eq_some_iff.mp hv).1; simpa using this
  rw[List.getElem?_map,List.getElem?_eq_getElem hj]at hv
  cases hv
  obtain⟨z,hz1,hz2,hz3⟩:=b6 b3 (List.getElem?_eq_getElem hj)
  obtain⟨y,hy1,hy2⟩:=wU hz1
  have hylast:((cJ (aj d) l s).take (j+1)).getLast? = some y:=by
   rw[List.take_add_one,hy1]; simp
  have hcnt:=zZ (List.mem_of_getElem? hz1)
  walk_at "rd1"
  refine⟨_,_,.inl (SqL.of hl'),iD hylast,?_⟩
  walk_at "rd1"
  have ey:(y:Int)+1=((z.1:Nat):Int):=by omega
  rw[ey]
  refine⟨bs[j],z.1,z.2,S,rfl,hz2.mono sm,hz3,by omega,fun q' HD sD hq'=>?_⟩
  have qlen:=av hp'
  rw[List.length_take]at qlen
  walk_at "nx"
  refine⟨⟨_,SqL.of (sD _ _ hb')⟩,_,sD _ _ hb',bG (by rw[List.length_map]; omega),?_⟩
  generalize hE:upd HD bp _=HE
  have stE:Stays (fun b=>H' b=none) HD HE:=by rw[← hE]; exact Stays.upd (sD _ _ hb') (fun z=>by rw[hb']at z; cases z)
  have hqE:=NumAt.imp (S':=fun b=>H' b=none) stE (fun _ z=>z) d hq'
  have eE:HE bp=some (.lst (qs.map V.ref++[V.ref q'])):=by rw[← hE,ac]
  have lE:HE lp=some (.lst (eY ((cJ (aj d) l s).take (j+1)))):=by rw[← hE,ah nlb]; exact sD _ _ hl'
  walk_at "nx"
  refine⟨⟨_,SqL.of lE⟩,_,_,.inl (SqL.of lE),iD hylast,?_⟩
  walk_at "rd1"
  rw[ey]
  have hC1:∀ b,H' b=none→HC b=none:=hfr
  have hqC:=NumAt.imp (S':=fun b=>HC b=none) (Stays.of (Same.refl HE)) hC1 d hqE
  cases d with
  | zero=>exact hqE.elim
  | succ d=>
  refine⟨q',z.1,d,z.2,_,rfl,hqE,by omega,?_⟩
  refine⟨_,lE,bG (by unfold eY; rw[List.length_map,List.length_take]; omega),?_⟩
  generalize hF:upd HE lp _=HF
  have lpC:HC lp=some (.lst (eY [l])):=by rw[sC _ _ (sB _ _ eA)]; simp[eY]
  have bpC:HC bp=some (.lst []):=sC _ _ eB
  have stF:Stays (fun b=>HC b=none) HE HF:=by rw[← hF]; exact Stays.upd lE (fun z=>by rw[lpC]at z; cases z)
  have stE':Stays (fun b=>HC b=none) HD HE:=by rw[← hE]; exact Stays.upd (sD _ _ hb') (fun z=>by rw[bpC]at z; cases z)
  have up:∀ {p:Addr} {l:Nat} {T:List Stp},NumAt K CN (fun b=>HC b=none) (d+1) H' p l T→NumAt K CN (fun b=>HC b=none) (d+1) HF p l T:=fun z=>NumAt.imp stF (fun _ y=>y) _ (NumAt.imp stE' (fun _ y=>y) _ (z.mono sD))
  refine⟨_,_,qs++[q'],rfl,?_,?_,?_,?_,?_,?_⟩
  ·rw[← hF,← hE]; exact((sm.trans sD).upd (sA.free hbp) _).upd hlp _
  ·exact SqT.stays (SqT.stays (ht'.same sD) stE') stF
  ·rw[← hF,ac]
   have:(cJ (aj (d+1)) l s)[j+1]? = some (z.1+aj (d+1) z.2):=by
    unfold cJ
    rw[List.getElem?_cons_succ,List.getElem?_map,hz1]; rfl
   unfold eY
   rw[List.take_add_one (i:=j+1),this,List.map_append]; rfl
  ·rw[← hF,ah nlb.symm,eE,List.map_append]; rfl
  ·intro b hb
   refine hfr b (sD.free ?_)
   rw[← hF,← hE]at hb
   by_cases e1:b=lp
   ·rw[e1,ac]at hb; cases hb
   ·rw[ah e1]at hb
    by_cases e2:b=bp
    ·rw[e2,ac]at hb; cases hb
    ·rw[ah e2]at hb; exact hb
  ·rw[List.take_add_one,hz1]
   exact cv (R:=fun q (z:Nat × List Stp)=>NumAt K CN (fun b=>HC b=none) (d+1) HF q z.1 z.2) (NumAt.imp stF (fun _ y=>y) _ hqC) (Paired.imp' (fun q z y=>up y) hp')
 ·rintro σ H' ⟨o4,o5,qs,rfl,sm,ht',hl',hb',hfr,hp'⟩
  rw[List.length_map,hbl,List.take_length]at hp'
  have hll:(cJ (aj d) l s).take ((bs.map V.ref).length+1)=cJ (aj d) l s:=by
   rw[List.take_of_length_le]; unfold cJ; rw[List.length_cons,List.length_map,List.length_map,hbl]; exact Nat.le_refl _
  rw[hll]at hl'
  walk_at "nx"
  refine⟨a,kindOf s,_,rfl,SqT.of (sm _ _ b1),hcl,fun hp HD sD hhp=>?_⟩
  rw[hcut]at hhp
  have etk2:(V.str (kindOf s)::(dE s++bs.map V.ref)).take ((dE s).length+1)=V.str (kindOf s)::dE s:=by rw[List.take_succ_cons,List.take_left']; rfl
  rw[etk2]at hhp
  walk_at "rd1"
  intro x dx hx hdx ndx
  generalize hM:upd (upd HD dx (.own x)) x (.ins CN dx [])=HM
  have sM:Same HD HM:=by rw[← hM]; exact(af hdx (.own x)).upd hx _
  have eM:HM x=some (.ins CN dx []):=by rw[← hM,ac]
  refine⟨x,dx,hp,kindOf s,dE s,lp,bp,rfl,eM,hhp.same sM,fun pp HN kN eN hpp=>⟨rfl,?_⟩⟩
  have sN:Same HD HN:=fun b o e=>kN b o (sM _ _ e) (au e hx)
  have sHN:Same H HN:=(sm.trans sD).trans sN
  have hCH:∀ b,HC b=none→H b=none:=fun b z=>(sAB.trans sC).free z
  refine q x HN sHN ⟨dx,pp,lp,bp,qs,eN,hpp,hlp,sN _ _ (sD _ _ hl'),sA.free hbp,sN _ _ (sD _ _ hb'),?_⟩
  exact Paired.imp' (fun q z y=>NumAt.imp (Stays.of (sD.trans sN)) hCH d y) hp'
theorem rO(D0:DefAt K mg "numbered_step" aC) (D:DefAt K mg "numbered_steps" bd) (c_head_of:bg P w K mg base 2 "head_of" ["step"] (iT K)) (c_blocks_of:bg P w K mg base 3 "blocks_of" ["step"] (gq K)) (c_line_behind:bg P w K mg base 1 "line_behind" ["steps", "line"] (iL K CN))
  (k_NumberedStep:qE P w K mg base 1 "NumberedStep" CN ["self", "head", "lines", "blocks"] (lY K CN)):∀ d:Nat,bg P w K mg base (2 * d+4) "numbered_steps" ["steps", "line"] (qa K CN d)
 | 0=>D.cal (k:=3) sc_numbered_steps (fun _ _ _ _ _ _ us hl=>match us,hl with | [_,_],_=>rfl) (fun vs H Q E h=>by obtain⟨p,l,T,S,rfl,_⟩:=h; rfl) (fun f cdv A outer s H vs Q E hr h=>by obtain⟨p,l,T,S,rfl,z,_⟩:=h; exact z.elim)
 | d+1=>by
  have c_numbered_step:=Ao D0 c_head_of c_blocks_of c_line_behind k_NumberedStep (rO D0 D c_head_of c_blocks_of c_line_behind k_NumberedStep d)
  refine D.cal (k:=2 * d+5) sc_numbered_steps (fun _ _ _ _ _ _ us hl=>match us,hl with | [_,_],_=>rfl) (fun vs H Q E h=>by obtain⟨p,l,T,S,rfl,_⟩:=h; rfl) (fun f cdv A outer s H vs Q E hr h=>?_)
  obtain⟨p,l,T,S,rfl,⟨h0,as,h1,h2⟩,ok,hz,q⟩:=h
  have hlen:=av h2
  have hTl:=sZ d T
  refine⟨_,(ae (ar 2 sc_numbered_steps.nd (bi ab) (hx:=GI))
   (ae (cE PassesOwn.never rfl (dz K (pv 0 (hv:=HJ))) (bj 3 sc_numbered_steps.nd (hx:=GM)) (ak (aQ (aI K PySem.F.plainAttrs_list PySem.F.slot_list_append PySem.F.type_list_append aL (pv 2 (hv:=Cd)) (aa (aJ c_numbered_step hr (aa (pv 3 (hv:=Hf)) (aa (aJ c_line_behind hr (aa (pv 2 (hv:=Cd)) (aa (pv 1 (hv:=Hd)) ab)) (hg:=F7) (hle:=by omega)) ab)) (hg:=Hm) (hle:=by omega)) ab)))))
   (ak (aF (pv 2 (hv:=Cd)))))),?_⟩
  walk_at "rd1"
  refine⟨by decide,fun lp hlp=>?_⟩
  generalize hA:upd H lp _=HA
  have sA:=eJ hA hlp
  have eA:=gf hA
  walk_at "nx"
  refine⟨⟨_,SqL.of (sA _ _ h1)⟩,?_⟩
  have lpA:¬ HA lp=none:=fun z=>by rw[eA]at z; cases z
  refine dn (xs:=as.map V.ref) (fun i σ H'=>∃ (o3:Option V) (ns:List Addr),σ=[some (.ref p),some (.int (l:Int)),some (.ref lp),o3]∧Same H H'∧H' lp=some (.lst (ns.map V.ref))∧(∀ b,H' b=none→HA b=none)∧
    Paired (fun a (z:Nat × Stp)=>nstpAt K CN (aj d) (fun b=>HA b=none) (NumAt K CN (fun b=>HA b=none) d H') H' a z.1 z.2) ns (dA (aU (aj d)) l (T.take i)))
   ⟨none,[],rfl,sA,eA,fun _ z=>z,.nil⟩ (fun i σ H' _ h=>by obtain⟨_,_,_,sm,_⟩:=h; exact SqL.of (sm _ _ h1)) ?_ ?_
  ·rintro i v σ H' hv ⟨o3,ns,rfl,sm,n1,nf,n2⟩
   have hi:i<as.length:=by have:=(List.getElem?_eq_some_iff.mp hv).1; simpa using this
   rw[List.getElem?_map,List.getElem?_eq_getElem hi]at hv
   cases hv
   obtain⟨s,hs,hsa⟩:=b6 h2 (List.getElem?_eq_getElem hi)
   have hmem:=List.mem_of_getElem? hs
   have hct:=ma (d:=d) hmem
   have hctk:=qo (d:=d) (i:=i) (T:=T)
   have nlen:=av n2
   rw[fI,List.length_take]at nlen
   walk_at "rd1"
   refine⟨⟨_,SqL.of n1⟩,?_⟩
   refine⟨lp,l,d,T.take i,fun _=>True,rfl,⟨trivial,ns,n1,Paired.imp' (fun a z y=>y.imp (Stays.of (Same.refl H')) (fun _ _=>trivial) fun q l b y'=>NumAt.imp (Stays.of (Same.refl H')) (fun _ _=>trivial) d y') n2⟩,by omega,?_⟩
   refine⟨as[i],l+aj (d+1) (T.take i),s,S,rfl,?_,ok s hmem,by omega,fun q' HD sD hq'=>?_⟩
   ·exact stpAt.imp (fun b xs e=>sm _ _ e) (fun q b y=>y.mono sm) hsa
   refine⟨_,sD _ _ n1,bG (by rw[List.length_map]; omega),?_⟩
   generalize hE:upd HD lp _=HE
   have eE:HE lp=some (.lst ((ns++[q']).map V.ref)):=by rw[← hE,ac,List.map_append]; rfl
   have stE:Stays (fun b=>HA b=none) HD HE:=by rw[← hE]; exact Stays.upd (sD _ _ n1) lpA
   have hq2:nstpAt K CN (aj d) (fun b=>HA b=none) (NumAt K CN (fun b=>HA b=none) d HD) HD q' (l+aj (d+1) (T.take i)) s:=hq'.imp (Stays.of (Same.refl HD)) nf fun q l b y'=>NumAt.imp (Stays.of (Same.refl HD)) nf d y'
   have up:∀ {a:Addr} {l:Nat} {s:Stp},nstpAt K CN (aj d) (fun b=>HA b=none) (NumAt K CN (fun b=>HA b=none) d HD) HD a l s→nstpAt K CN (aj d) (fun b=>HA b=none) (NumAt K CN (fun b=>HA b=none) d HE) HE a l s:=fun z=>z.imp stE (fun _ y=>y) fun q l b y'=>NumAt.imp stE (fun _ y=>y) d y'
   refine⟨_,ns++[q'],rfl,?_,eE,?_,?_⟩
   ·rw[← hE]; exact(sm.trans sD).upd hlp _
   ·intro b hb
    refine nf b (sD.free ?_)
    rw[← hE]at hb
    by_cases e1:b=lp
    ·rw[e1,ac]at hb; cases hb
    ·rw[ah e1]at hb; exact hb
   ·have et:T.take (i+1)=T.take i++[s]:=by rw[List.take_add_one,hs]; rfl
    rw[et,jd]
    exact cv (R:=fun a (z:Nat × Stp)=>nstpAt K CN (aj d) (fun b=>HA b=none) (NumAt K CN (fun b=>HA b=none) d HE) HE a z.1 z.2) (up hq2) (Paired.imp' (fun a z y=>up (nstpAt.mono y sD)) n2)
  ·rintro σ H' ⟨o3,ns,rfl,sm,n1,nf,n2⟩
   rw[List.length_map,hlen,List.take_length]at n2
   walk_at "nx"
   have hAH:∀ b,HA b=none→H b=none:=fun b z=>sA.free z
   exact q lp H' sm ⟨hlp,ns,n1,Paired.imp' (fun a z y=>y.imp (Stays.of (Same.refl H')) hAH fun q l b y'=>NumAt.imp (Stays.of (Same.refl H')) hAH d y') n2⟩
end
section
variable{P:Program}{w:World}{K:PySem.W.Frag}{mg:Str→Option Value}{base:Heap}
abbrev aP:=List V
def aN(kv:List (ax × V))(k:ax):V:=(aM kv k).getD .non
def iN(n:Nat):V:=.int (n:Int)
def cL(kv:List (ax × V))(l:Nat)(ws:List Str):aP:=
 if ws.headD "" = "do" then [.str "do", iN l,aN kv (.inr (ws.getD 2 "")),.str (ws.getD 1 "")] else .str (ws.headD "")::iN l::(ws.drop 1).map fun n=>aN kv (.inr n)
section
variable(kv:List (ax × V))(f:Bool→Nat→Nat→List Stp→List aP)(cnt:List Stp→Nat)
def gh(t:Bool)(a l:Nat)(x y:Str)(b:List Stp):List aP:=
 [[.str "copy", iN l,aN kv (.inl l),aN kv (.inr x)],[.str "do", iN l,aN kv (.inl l),.str "lend"],[.str "copy", iN l,aN kv (.inr y),aN kv (.inl l)]]++f t (a+3) (l+1) b ++
 [[.str "do", iN (l+1+cnt b),aN kv (.inl l),.str "back"],[.str "drop", iN (l+1+cnt b),aN kv (.inr y)],[.str "drop", iN (l+1+cnt b),aN kv (.inl l)]]
def jM(t:Bool)(a l:Nat)(n:Int)(b c:List Stp):List aP:=
 [[.str "test", iN l,.int n,iN (a+1+(f t (a+1) (l+1) b).length+1)]]++f t (a+1) (l+1) b ++
 [[.str "jump", iN (l+1+cnt b),iN (a+1+(f t (a+1) (l+1) b).length+1+(f t (a+1+(f t (a+1) (l+1) b).length+1) (l+1+cnt b+1) c).length)]]++f t (a+1+(f t (a+1) (l+1) b).length+1) (l+1+cnt b+1) c
def eW(a l:Nat)(n:Int)(b:List Stp):List aP:=
 [[.str "test", iN l,.int n,iN (a+1+(f false (a+1) (l+1) b).length+1)]]++f false (a+1) (l+1) b++[[.str "jump", iN (l+1+cnt b),iN a]]
def dH(t:Bool)(a l:Nat)(n:Int)(b:List Stp):List aP:=
 if t=true then [[.str "test", iN l,.int n,iN (a+1+(f true (a+1) (l+1) b).length+(eW f cnt (a+1+(f true (a+1) (l+1) b).length) l n b).length)]]++f true (a+1) (l+1) b++eW f cnt (a+1+(f true (a+1) (l+1) b).length) l n b
 else eW f cnt a l n b
def fM(t:Bool)(a l:Nat):Stp→List aP
 | .plain ws=>[cL kv l ws]
 | .lend x y b=>gh kv f cnt t a l x y b
 | .ite n b c=>jM f cnt t a l n b c
 | .whl n b=>dH f cnt t a l n b
end
def cY(g:Nat→Nat→Stp→List aP)(c:Stp→Nat):Nat→Nat→List Stp→List aP
 | _,_,[]=>[]
 | a,l,s::T=>g a l s++cY g c (a+(g a l s).length) (l+c s) T
theorem jQ(g:Nat→Nat→Stp→List aP)(c:Stp→Nat)(s:Stp):∀ (T:List Stp) (a l:Nat),cY g c a l (T++[s])=cY g c a l T++g (a+(cY g c a l T).length) (l+(T.map c).sum) s
 | [],a,l=>by simp[cY]
 | t::T,a,l=>by
  show g a l t++cY g c _ _ (T++[s])=(g a l t++cY g c _ _ T)++_
  have e:(cY g c a l (t::T)).length=(g a l t).length+(cY g c (a+(g a l t).length) (l+c t) T).length:=List.length_append
  rw[jQ g c s T,List.append_assoc,e,List.map_cons,List.sum_cons,Nat.add_assoc,Nat.add_assoc]
def bF(kv:List (ax × V)):Nat→Bool→Nat→Nat→List Stp→List aP
 | 0,_,_,_,_=>[]
 | d+1,t,a,l,T=>cY (fM kv (bF kv d) (aj d) t) (aU (aj d)) a l T
theorem iw{f:Bool→Nat→Nat→List Stp→List aP}{cnt:List Stp→Nat}{a l:Nat}{n:Int}{b:List Stp}:(eW f cnt a l n b).length=(f false (a+1) (l+1) b).length+2:=by
 unfold eW; simp
theorem xS{kv:List (ax × V)}{f:Bool→Nat→Nat→List Stp→List aP}{cnt:List Stp→Nat}{m:Nat}(h0:∀ a l T,(f false a l T).length≤6 * cnt T)(h1:∀ a l T,(f true a l T).length≤6 * m * cnt T)(hm:1≤m):∀ (s:Stp) (t:Bool) (a l:Nat),(fM kv f cnt t a l s).length≤(if t=true then 6 * (m+1) else 6) * aU cnt s
 | .plain ws,t,a,l=>by
  show 1≤_ * 1
  split <;> omega
 | .lend x y b,t,a,l=>by
  cases t with
  | false=>
   have:=h0 (a+3) (l+1) b
   show (gh kv f cnt false a l x y b).length≤6 * (cnt b+2)
   unfold gh
   simp only[List.length_append,List.length_cons,List.length_nil]
   omega
  | true=>
   have:=h1 (a+3) (l+1) b
   show (gh kv f cnt true a l x y b).length≤6 * (m+1) * (cnt b+2)
   unfold gh
   simp only[List.length_append,List.length_cons,List.length_nil]
   have e:6 * (m+1) * (cnt b+2)=6 * m * cnt b+6 * cnt b+12 * m+12:=by rw[Nat.mul_add 6 m 1,Nat.add_mul,Nat.mul_add,Nat.mul_add]; omega
   omega
 | .ite n b c,t,a,l=>by
  cases t with
  | false=>
   have:=h0 (a+1) (l+1) b
   have:=h0 (a+1+(f false (a+1) (l+1) b).length+1) (l+1+cnt b+1) c
   show (jM f cnt false a l n b c).length≤6 * (cnt b+cnt c+3)
   unfold jM
   simp only[List.length_append,List.length_cons,List.length_nil]
   omega
  | true=>
   have:=h1 (a+1) (l+1) b
   have:=h1 (a+1+(f true (a+1) (l+1) b).length+1) (l+1+cnt b+1) c
   show (jM f cnt true a l n b c).length≤6 * (m+1) * (cnt b+cnt c+3)
   unfold jM
   simp only[List.length_append,List.length_cons,List.length_nil]
   have e:6 * (m+1) * (cnt b+cnt c+3)=6 * m * cnt b+6 * m * cnt c+18 * m+6 * cnt b+6 * cnt c+18:=by rw[Nat.mul_add 6 m 1,Nat.add_mul,Nat.mul_add,Nat.mul_add,Nat.mul_add,Nat.mul_add]; omega
   omega
 | .whl n b,t,a,l=>by
  cases t with
  | false=>
   have:=h0 (a+1) (l+1) b
   show (dH f cnt false a l n b).length≤6 * (cnt b+2)
   unfold dH
   rw[if_neg (by decide),iw]
   omega
  | true=>
   have:=h1 (a+1) (l+1) b
   have:=h0 (a+1+(f true (a+1) (l+1) b).length+1) (l+1) b
   show (dH f cnt true a l n b).length≤6 * (m+1) * (cnt b+2)
   unfold dH
   rw[if_pos rfl]
   simp only[List.length_append,List.length_cons,List.length_nil,iw]
   have e:6 * (m+1) * (cnt b+2)=6 * m * cnt b+6 * cnt b+12 * m+12:=by rw[Nat.mul_add 6 m 1,Nat.add_mul,Nat.mul_add,Nat.mul_add]; omega
   omega
theorem oT{g:Nat→Nat→Stp→List aP}{c:Stp→Nat}{k:Nat}(h:∀ s a l,(g a l s).length≤k * c s):∀ (T:List Stp) (a l:Nat),(cY g c a l T).length≤k * (T.map c).sum
 | [],_,_=>Nat.zero_le _
 | s::T,a,l=>by
  have:=h s a l
  have:=oT h T (a+(g a l s).length) (l+c s)
  show (g a l s++cY g c (a+(g a l s).length) (l+c s) T).length≤k * (c s+(T.map c).sum)
  rw[List.length_append,Nat.mul_add]; omega
theorem pL(kv:List (ax × V)):∀ (d:Nat) (a l:Nat) (T:List Stp),(bF kv d false a l T).length≤6 * aj d T∧(bF kv d true a l T).length≤6 * (d+1) * aj d T
 | 0,_,_,_=>⟨Nat.zero_le _,Nat.zero_le _⟩
 | d+1,a,l,T=>by
  have ih:=pL kv d
  have st:=xS (kv:=kv) (f:=bF kv d) (cnt:=aj d) (m:=d+1) (fun a l T=>(ih a l T).1) (fun a l T=>(ih a l T).2) (by omega)
  exact⟨oT (k:=6) (fun s a l=>by have:=st s false a l; simpa using this) T a l,oT (k:=6 * (d+1+1)) (fun s a l=>by have:=st s true a l; simpa using this) T a l⟩
def bf(H:Hp)(c:Addr)(r:aP):Prop:=H c=some (.tup r)
def bY(ws:List Str):List Str:=if ws.headD "" = "do" then [ws.getD 2 ""] else ws.drop 1
def d_(kv:List (ax × V))(k:ax):Prop:=aM kv k=some (aN kv k)
def lT(kv:List (ax × V))(f:Nat→List Stp→Prop)(cnt:List Stp→Nat)(l:Nat):Stp→Prop
 | .plain ws=>(ws.headD "" = "do" → ws.length=3)∧∀ n∈bY ws,d_ kv (.inr n)
 | .lend x y b=>d_ kv (.inr x)∧d_ kv (.inr y)∧d_ kv (.inl (l:Int))∧f (l+1) b
 | .ite _ b c=>f (l+1) b∧f (l+1+cnt b+1) c
 | .whl _ b=>f (l+1) b
def eI(kv:List (ax × V)):Nat→Nat→List Stp→Prop
 | 0,_,_=>False
 | d+1,l,T=>∀ z∈dA (aU (aj d)) l T,lT kv (eI kv d) (aj d) z.1 z.2
section
variable{CN:Addr}
def xO(K:PySem.W.Frag)(C:Addr):Sp:=fun vs H Q _=>∃ (a sp:Addr) (l:Nat) (ws:List Str) (kv:List (ax × V)) (S:Addr→Prop) (PA:Addr→Nat→List Stp→Prop) (g:List Stp→Nat) (f:Nat→List Stp→Prop),vs=[.ref a,.ref sp]∧nstpAt K C g S PA H a l (.plain ws)∧gL ws∧H sp=some (.dK kv)∧lT kv f g l (.plain ws)∧
 ∀ (t:Addr) (H':Hp),Same H H'→bf H' t (cL kv l ws)→Q (.ref t) H'
theorem vC(D:DefAt K mg "simple_row" bv) (z_tuple:mg "tuple" = none) (a_kind:Fl K CN "kind") (a_parts:Fl K CN "parts") (a_lines:Fl K CN "lines"):bg P w K mg base 1 "simple_row" ["step", "slots"] (xO K CN):=by
 refine D.cal (k:=0) sc_simple_row (fun _ _ _ _ _ _ us hl=>match us,hl with | [_,_],_=>rfl) (fun vs H Q E h=>by obtain⟨_,_,_,_,_,_,_,_,_,rfl,_⟩:=h; rfl) (fun f cdv A outer s H vs Q E hr h=>?_)
 obtain⟨a,sp,l,ws,kv,S,PA,g,ff,rfl,⟨dx,pp,lp,bp,bs,g1,g2,g3,g4,g5,g6,g7⟩,ok,esp,⟨hk3,hks⟩,q⟩:=h
 refine⟨_,(ae (ar 2 sc_simple_row.nd (ay (aW K) (bM a_lines (pv 0 (hv:=lX))) ai (fun _ _=>rfl)) (hx:=GN))
   (ae (bN (aG b8 (bM a_kind (pv 0 (hv:=lX))) al (bc _)) (ak (aF (bb (aa al (aa (pv 2 (hv:=B7)) (aa (ay (fg K) (pv 1 (hv:=EN)) (ay (aW K) (bM a_parts (pv 0 (hv:=lX))) ai (fun _ _=>rfl)) (fun _ _=>rfl)) (aa (ay (aW K) (bM a_parts (pv 0 (hv:=lX))) ai (fun _ _=>rfl)) ab))))))) bB)
   (ak (aF (ao (kq K) (bb (aa (bM a_kind (pv 0 (hv:=lX))) (aa (pv 2 (hv:=B7)) ab))) (ef (mH K) z_tuple j6 (aa (fJ (CompSc.to (fsc:=(defScope bv)) (N:=["step", "slots", "line"]) (N0:=["step", "slots", "line"]) (T:=["name"]) ⟨by decide +kernel,by decide +kernel,by decide +kernel,by decide +kernel,by decide +kernel,by decide +kernel,by decide +kernel⟩ rfl rfl) rfl ((jG K) (bM a_parts (pv 0 (hv:=lX)))) (fun _ _ _ _=>(bj 3 (show (["step", "slots", "line", "name"]:List Str).Nodup from by decide +kernel) (hx:=(iA (defScope bv) (by decide +kernel))) (hf:=lx (defScope bv) (by decide +kernel)))) (dN (show (["step", "slots", "line"]:List Str).length≤3 from by decide)) (fun _ _ _ _=>gN) (fun _ _ _ _=>(ay (fg K) (pv 1 (hv:=(de (defScope bv) (by decide +kernel)))) (pv 3 (hv:=(de (defScope bv) (by decide +kernel)))) (fun _ _=>rfl)))) ab) (hg:=Hw))))))),?_⟩
 walk_at "rd1"
 refine⟨dx,_,_,g1,dM _ _ _ _,?_⟩
 walk_at "rd1"
 refine⟨_,_,.inl (SqL.of g4),eD (i:=0) (n:=l) rfl,?_⟩
 walk_at "nx"
 refine⟨dx,_,_,g1,fh _ _ _ _,?_⟩
 walk_at "rd1"
 unfold cL at q
 unfold bY at hks
 refine bA (fun c=>?_) (fun c=>?_)
 ·have hdo:ws.headD "" = "do" := c
  rw[if_pos hdo]at q hks
  obtain⟨k0,w0,x0,rfl⟩ : ∃ k w x,ws=[k,w,x]:=by
   have:=hk3 hdo
   match ws,this with
   | [k,w,x],_=>exact⟨k,w,x,rfl⟩
  have hx:=hks x0 (by simp)
  refine⟨dx,_,_,g1,eF _ _ _ _,?_⟩
  walk_at "rd1"
  refine⟨_,_,.inr g2,bu (j:=1) (v:=.str x0) rfl,?_⟩
  refine .inr ⟨sp,kv,.inr x0,_,rfl,rfl,esp,hx,?_⟩
  refine⟨dx,_,_,g1,eF _ _ _ _,?_⟩
  walk_at "rd1"
  refine⟨_,_,.inr g2,bu (j:=0) (v:=.str w0) rfl,by decide,fun t ht=>?_⟩
  exact q t _ (af ht _) ac
 ·have hdo:¬ ws.headD "" = "do" := c
  rw[if_neg hdo]at q hks
  walk_at "nx"
  refine⟨dx,_,_,g1,fh _ _ _ _,by decide,fun t1 ht1=>?_⟩
  generalize hH1:upd H t1 _=H1
  have s1:Same H H1:=by rw[← hH1]; exact af ht1 _
  have et1:H1 t1=some (.tup [.str (kindOf (.plain ws)),iN l]):=by rw[← hH1]; exact ac
  refine⟨dx,_,_,s1 _ _ g1,eF _ _ _ _,?_⟩
  refine⟨pp,rfl,⟨_,g2.same s1⟩,fun L hL=>?_⟩
  have g2':SqT K H1 pp ((ws.drop 1).map V.str):=g2.same s1
  have esp1:=s1 _ _ esp
  refine nD (xs:=(ws.drop 1).map V.str) (fun i ys H'=>Same H1 H'∧H' L=some (.lst ys)∧ys=((ws.drop 1).take i).map fun n=>aN kv (.inr n)) ⟨af hL _,ac,rfl⟩ (fun i ys H' _ hh=>g2'.same hh.1) ?_ ?_
  ·rintro i ys H' v hv hi ⟨sm,hl,rfl⟩
   rw[List.length_map]at hi
   rw[List.getElem?_map,List.getElem?_eq_getElem hi]at hv
   cases hv
   have hn:=hks _ (List.getElem_mem hi)
   have h3:=ok.three
   have hdl:(ws.drop 1).length≤3:=by rw[List.length_drop]; omega
   walk_at "rd1"
   refine .inr ⟨sp,kv,.inr (ws.drop 1)[i],_,rfl,rfl,sm _ _ esp1,hn,?_⟩
   refine kH (by rw[List.length_map]; exact hi) (by rw[List.length_map,List.length_take]; omega) (by rw[List.length_map]; exact aS (by omega)) hl ⟨sm.upd hL _,ac,?_⟩
   rw[List.take_add_one,List.getElem?_eq_getElem hi,List.map_append]; rfl
  ·rintro ys H2 ⟨s2,e2,rfl⟩
   rw[List.length_map,List.take_length]at e2
   have h2:=ok.two
   have h3:=ok.three
   have hdl:(ws.drop 1).length≤3∧1≤(ws.drop 1).length:=by rw[List.length_drop]; omega
   walk_at "rd1"
   refine⟨_,.inl ⟨SqL.of e2,fun t2 ht2=>?_⟩⟩
   have s3:=af ht2 (.tup ((ws.drop 1).map fun n=>aN kv (.inr n)))
   have et2:upd H2 t2 (.tup ((ws.drop 1).map fun n=>aN kv (.inr n))) t2=some (.tup ((ws.drop 1).map fun n=>aN kv (.inr n))):=ac
   generalize upd H2 t2 (.tup ((ws.drop 1).map fun n=>aN kv (.inr n)))=H3 at s3 et2 ⊢
   refine⟨_,_,SqT.of (s3 _ _ (s2 _ _ et1)),SqT.of et2,by simp,by rw[List.length_map]; exact aS (by simp only[List.length_cons,List.length_nil]; omega),fun hz=>?_,fun _ t3 ht3=>?_⟩
   ·have:=congrArg List.length hz
    rw[List.length_map]at this
    simp only[List.length_nil]at this
    omega
   ·exact q t3 _ (((s1.trans s2).trans s3).trans (af ht3 _)) ac
end
def ListR(H:Hp)(q:Addr)(rows:List aP):Prop:=∃ as:List Addr,H q=some (.lst (as.map V.ref))∧Paired (bf H) as rows
theorem ListR.mono{H H':Hp}{q:Addr}{rows:List aP}(h:ListR H q rows)(s:Same H H'):ListR H' q rows:=let ⟨as,h1,h2⟩:=h; ⟨as,s _ _ h1,Paired.imp' (fun _ _ z=>s _ _ z) h2⟩
theorem dU{α β : Type}{R:α→β→Prop}:∀ {xs zs:List α} {ys us:List β},Paired R xs ys→Paired R zs us→Paired R (xs++zs) (ys++us)
 | _,_,_,_,.nil,h=>h
 | _,_,_,_,.cons a t,h=>.cons a (dU t h)
theorem ee{H:Hp}{x:Addr}{as bs:List Addr}{r1 r2:List aP}(a2:Paired (bf H) as r1)(b2:Paired (bf H) bs r2)(hx:H x=none):ListR (upd H x (.lst (as.map V.ref++bs.map V.ref))) x (r1++r2):=by
 have s:=af hx (.lst (as.map V.ref++bs.map V.ref))
 exact⟨as++bs,by rw[ac,List.map_append],dU (Paired.imp' (fun _ _ z=>s _ _ z) a2) (Paired.imp' (fun _ _ z=>s _ _ z) b2)⟩
theorem dJ{H:Hp}{as bs:List Addr}{r1 r2:List aP}(a2:Paired (bf H) as r1)(b2:Paired (bf H) bs r2)(hl:r1.length+r2.length≤1000000):(as.map V.ref).length+(bs.map V.ref).length≤sizeLine:=by
 rw[List.length_map,List.length_map,av a2,av b2]; exact aS hl
theorem eQ{H:Hp}{c x:Addr}{r:aP}(hc:bf H c r)(hx:H x=none):ListR (upd H x (.lst [.ref c])) x [r]:=⟨[c],ac,.cons (af hx _ _ _ hc) .nil⟩
section
variable{CN:Addr}
def gj(K:PySem.W.Frag)(C:Addr)(d:Nat):Sp:=fun vs H Q _=>∃ (p sp:Addr) (a l:Nat) (t:Bool) (T:List Stp) (kv:List (ax × V)) (S:Addr→Prop),vs=[.ref p,.int (a:Int),.ref sp,.bl t]∧NumAt K C S d H p l T∧dZ d T∧H sp=some (.dK kv)∧eI kv d l T∧aj d T≤200∧d≤20∧
 ∀ (q:Addr) (H':Hp),Same H H'→H q=none→ListR H' q (bF kv d t a l T)→Q (.ref q) H'
def vQ(K:PySem.W.Frag)(C:Addr)(d:Nat):Sp:=fun vs H Q _=>∃ (x sp:Addr) (a l:Nat) (n:Int) (b:List Stp) (kv:List (ax × V)) (S:Addr→Prop),vs=[.ref x,.int (a:Int),.ref sp]∧nstpAt K C (aj d) S (NumAt K C S d H) H x l (.whl n b)∧dZ d b∧H sp=some (.dK kv)∧eI kv d (l+1) b∧aj d b≤200∧d≤20∧
 ∀ (q:Addr) (H':Hp),Same H H'→H q=none→ListR H' q (eW (bF kv d) (aj d) a l n b)→Q (.ref q) H'
theorem dB{kv:List (ax × V)}{d a l:Nat}{t:Bool}{T:List Stp}(h:aj d T≤200)(hd:d≤20):(bF kv d t a l T).length≤30000:=by
 have h1:=pL kv d a l T
 have h2:6 * (d+1) * aj d T≤6 * 21 * 200:=Nat.mul_le_mul (by omega) h
 cases t with
 | false=>omega
 | true=>omega
theorem Ab(D:DefAt K mg "loop_rows" bL) (z_len:mg "len" = none) (a_parts:Fl K CN "parts") (a_lines:Fl K CN "lines") (a_blocks:Fl K CN "blocks") {d:Nat} (c_rows_of:bg P w K mg base (3 * d+2) "rows_of" ["steps", "at", "slots", "turned"] (gj K CN d)):bg P w K mg base (3 * d+3) "loop_rows" ["step", "at", "slots"] (vQ K CN d):=by
 refine D.cal (k:=3 * d+2) sc_loop_rows (fun _ _ _ _ _ _ us hl=>match us,hl with | [_,_,_],_=>rfl) (fun vs H Q E h=>by obtain⟨_,_,_,_,_,_,_,_,rfl,_⟩:=h; rfl) (fun f cdv A outer s H vs Q E hr h=>?_)
 obtain⟨x,sp,a,l,n,b,kv,S,rfl,⟨dx,pp,lp,bp,bs,g1,g2,g3,g4,g5,g6,g7⟩,ok,esp,hk,hc,hd,q⟩:=h
 obtain⟨q0,rfl⟩ : ∃ q0,bs=[q0]:=by
  cases g7 with
  | cons _ t=>cases t; exact⟨_,rfl⟩
 have hb:NumAt K CN S d H q0 (l+1) b:=by
  cases g7 with
  | cons h _=>exact h
 refine⟨_,(ae (ar 3 sc_loop_rows.nd (aJ c_rows_of hr (aa (ay (aW K) (bM a_blocks (pv 0 (hv:=ub))) ai (fun _ _=>rfl)) (aa (ao aw (pv 1 (hv:=wK)) ai) (aa (pv 2 (hv:=DD)) (aa d0 ab)))) (hg:=D8) (hle:=by omega)) (hx:=F9))
   (ae (ar 4 sc_loop_rows.nd (ao aw (ao aw (ao aw (pv 1 (hv:=wK)) ai) (aY (aK K) z_len bw (aa (pv 3 (hv:=Bv)) ab) (hg:=GO))) ai) (hx:=GF))
   (ak (aF (ao aw (ao aw (bi (aa (bb (aa al (aa (ay (aW K) (bM a_lines (pv 0 (hv:=ub))) ai (fun _ _=>rfl)) (aa (ay (aW K) (bM a_parts (pv 0 (hv:=ub))) ai (fun _ _=>rfl)) (aa (pv 4 (hv:=EH)) ab))))) ab)) (pv 3 (hv:=Bv))) (bi (aa (bb (aa al (aa (ay (aW K) (bM a_lines (pv 0 (hv:=ub))) ai (fun _ _=>rfl)) (aa (pv 1 (hv:=wK)) ab)))) ab))))))),?_⟩
 walk_at "rd1"
 refine⟨dx,_,_,g1,fU _ _ _ _,?_⟩
 walk_at "rd1"
 refine⟨_,_,.inl (SqL.of g6),bu (j:=0) (v:=V.ref q0) rfl,?_⟩
 refine⟨q0,sp,a+1,l+1,false,b,kv,S,by simp,hb,ok,esp,hk,hc,hd,fun wq H1 s1 hwq hW=>?_⟩
 have hWl:=dB (kv:=kv) (a:=a+1) (l:=l+1) (t:=false) hc hd
 generalize hWW:bF kv d false (a+1) (l+1) b=W at hW hWl
 obtain⟨was,w1,w2⟩:=id hW
 have wl:=av w2
 walk_at "nx"
 refine⟨_,.inl (SqL.of w1),?_⟩
 rw[List.length_map,wl]
 walk_at "nx"
 refine⟨dx,_,_,s1 _ _ g1,dM _ _ _ _,?_⟩
 walk_at "rd1"
 refine⟨_,_,.inl (SqL.of (s1 _ _ g4)),eD (i:=0) (n:=l) rfl,?_⟩
 refine⟨dx,_,_,s1 _ _ g1,eF _ _ _ _,?_⟩
 walk_at "rd1"
 refine⟨_,_,.inr (g2.same s1),bu (j:=0) (v:=V.int n) rfl,by decide,fun t1 ht1=>?_⟩
 generalize hH2:upd H1 t1 _=H2
 have s2:Same H1 H2:=by rw[← hH2]; exact af ht1 _
 have et1:bf H2 t1 [.str "test", iN l,.int n,iN (a+1+W.length+1)]:=by
  show H2 t1=_
  rw[← hH2,ac]
  simp[iN]
 refine⟨by decide,fun l1 hl1=>?_⟩
 have s3:=af hl1 (.lst [.ref t1])
 have L1:=eQ et1 hl1
 generalize upd H2 l1 (.lst [.ref t1])=H3 at s3 L1 ⊢
 have s13:=s2.trans s3
 obtain⟨as1,a1,a2⟩:=L1
 obtain⟨bs1,b1,b2⟩:=hW.mono s13
 refine⟨_,_,a1,b1,dJ a2 b2 (by simp only[List.length_cons,List.length_nil]; omega),fun l2 hl2=>?_⟩
 have s4:=af hl2 (.lst (as1.map V.ref++bs1.map V.ref))
 have L2:=ee a2 b2 hl2
 generalize upd H3 l2 (.lst (as1.map V.ref++bs1.map V.ref))=H4 at s4 L2 ⊢
 have s04:=(s1.trans s13).trans s4
 refine⟨dx,_,_,s04 _ _ g1,dM _ _ _ _,?_⟩
 walk_at "rd1"
 refine⟨_,_,.inl (SqL.of (s04 _ _ g4)),eD (i:=1) (n:=l+1+aj d b) rfl,by decide,fun t2 ht2=>?_⟩
 generalize hH5:upd H4 t2 _=H5
 have s5:Same H4 H5:=by rw[← hH5]; exact af ht2 _
 have et2:bf H5 t2 [.str "jump", iN (l+1+aj d b),iN a]:=by
  show H5 t2=_
  rw[← hH5,ac]
  simp[iN]
 refine⟨by decide,fun l3 hl3=>?_⟩
 have s6:=af hl3 (.lst [.ref t2])
 have L3:=eQ et2 hl3
 generalize upd H5 l3 (.lst [.ref t2])=H6 at s6 L3 ⊢
 obtain⟨as2,c1,c2⟩:=L2.mono (s5.trans s6)
 obtain⟨bs2,d1,d2⟩:=L3
 refine⟨_,_,c1,d1,dJ c2 d2 (by simp only[List.length_append,List.length_cons,List.length_nil]; omega),fun l4 hl4=>?_⟩
 have s7:=af hl4 (.lst (as2.map V.ref++bs2.map V.ref))
 have L4:=ee c2 d2 hl4
 generalize upd H6 l4 (.lst (as2.map V.ref++bs2.map V.ref))=H7 at s7 L4 ⊢
 refine q l4 H7 (((s04.trans s5).trans s6).trans s7) (((s04.trans s5).trans s6).free hl4) ?_
 unfold eW
 rw[hWW]
 exact L4
end
section
variable{CN:Addr}
def yu(K:PySem.W.Frag)(C:Addr)(d:Nat):Sp:=fun vs H Q _=>∃ (x sp:Addr) (a l:Nat) (t:Bool) (n:Int) (b:List Stp) (kv:List (ax × V)) (S:Addr→Prop),vs=[.ref x,.int (a:Int),.ref sp,.bl t]∧nstpAt K C (aj d) S (NumAt K C S d H) H x l (.whl n b)∧dZ d b∧H sp=some (.dK kv)∧eI kv d (l+1) b∧aj d b≤200∧d≤20∧
 ∀ (q:Addr) (H':Hp),Same H H'→H q=none→ListR H' q (dH (bF kv d) (aj d) t a l n b)→Q (.ref q) H'
theorem xC(D:DefAt K mg "while_rows" ba) (z_len:mg "len" = none) (a_parts:Fl K CN "parts") (a_lines:Fl K CN "lines") (a_blocks:Fl K CN "blocks") {d:Nat} (c_rows_of:bg P w K mg base (3 * d+2) "rows_of" ["steps", "at", "slots", "turned"] (gj K CN d)) (c_loop_rows:bg P w K mg base (3 * d+3) "loop_rows" ["step", "at", "slots"] (vQ K CN d)):bg P w K mg base (3 * d+4) "while_rows" ["step", "at", "slots", "turned"] (yu K CN d):=by
 refine D.cal (k:=3 * d+3) sc_while_rows (fun _ _ _ _ _ _ us hl=>match us,hl with | [_,_,_,_],_=>rfl) (fun vs H Q E h=>by obtain⟨_,_,_,_,_,_,_,_,_,rfl,_⟩:=h; rfl) (fun f cdv A outer s H vs Q E hr h=>?_)
 obtain⟨x,sp,a,l,t,n,b,kv,S,rfl,hN,ok,esp,hk,hc,hd,q⟩:=h
 obtain⟨dx,pp,lp,bp,bs,g1,g2,g3,g4,g5,g6,g7⟩:=id hN
 obtain⟨q0,rfl⟩ : ∃ q0,bs=[q0]:=by
  cases g7 with
  | cons _ t=>cases t; exact⟨_,rfl⟩
 have hb:NumAt K CN S d H q0 (l+1) b:=by
  cases g7 with
  | cons h _=>exact h
 refine⟨_,(ae (bN (ij (fB (pv 3 (hv:=D_)))) (ak (aF (aJ c_loop_rows hr (aa (pv 0 (hv:=pA)) (aa (pv 1 (hv:=tY)) (aa (pv 2 (hv:=wV)) ab))) (hg:=B3) (hle:=by omega)))) bB)
   (ae (ar 4 sc_while_rows.nd (aJ c_rows_of hr (aa (ay (aW K) (bM a_blocks (pv 0 (hv:=pA))) ai (fun _ _=>rfl)) (aa (ao aw (pv 1 (hv:=tY)) ai) (aa (pv 2 (hv:=wV)) (aa d0 ab)))) (hg:=El) (hle:=by omega)) (hx:=Hn))
   (ae (ar 5 sc_while_rows.nd (aJ c_loop_rows hr (aa (pv 0 (hv:=pA)) (aa (ao aw (ao aw (pv 1 (hv:=tY)) ai) (aY (aK K) z_len bw (aa (pv 4 (hv:=yo)) ab) (hg:=xU))) (aa (pv 2 (hv:=wV)) ab))) (hg:=B3) (hle:=by omega)) (hx:=Fh))
   (ae (ar 6 sc_while_rows.nd (ao aw (ao aw (ao aw (pv 1 (hv:=tY)) ai) (aY (aK K) z_len bw (aa (pv 4 (hv:=yo)) ab) (hg:=xU))) (aY (aK K) z_len bw (aa (pv 5 (hv:=A1)) ab) (hg:=xU))) (hx:=D7))
   (ak (aF (ao aw (ao aw (bi (aa (bb (aa al (aa (ay (aW K) (bM a_lines (pv 0 (hv:=pA))) ai (fun _ _=>rfl)) (aa (ay (aW K) (bM a_parts (pv 0 (hv:=pA))) ai (fun _ _=>rfl)) (aa (pv 6 (hv:=DT)) ab))))) ab)) (pv 4 (hv:=yo))) (pv 5 (hv:=A1))))))))),?_⟩
 walk_at "rd1"
 cases t with
 | false=>
  refine bA (fun _=>?_) (fun c=>absurd rfl c)
  exact⟨x,sp,a,l,n,b,kv,S,rfl,hN,ok,esp,hk,hc,hd,fun q' H' s' hq' L'=>q q' H' s' hq' (by unfold dH; rw[if_neg (by decide)]; exact L')⟩
 | true=>
  refine bA (fun c=>absurd c (by decide)) (fun _=>?_)
  walk_at "nx"
  refine⟨dx,_,_,g1,fU _ _ _ _,?_⟩
  walk_at "rd1"
  refine⟨_,_,.inl (SqL.of g6),bu (j:=0) (v:=V.ref q0) rfl,?_⟩
  refine⟨q0,sp,a+1,l+1,true,b,kv,S,by simp,hb,ok,esp,hk,hc,hd,fun wq H1 s1 hwq hW=>?_⟩
  have hWl:=dB (kv:=kv) (a:=a+1) (l:=l+1) (t:=true) hc hd
  generalize hWW:bF kv d true (a+1) (l+1) b=W at hW hWl
  obtain⟨was,w1,w2⟩:=id hW
  have wl:=av w2
  walk_at "nx"
  refine⟨_,.inl (SqL.of w1),?_⟩
  rw[List.length_map,wl]
  walk_at "rd1"
  refine⟨x,sp,a+1+W.length,l,n,b,kv,S,by simp,hN.mono s1,ok,s1 _ _ esp,hk,hc,hd,fun lq H2 s2 hlq hLp=>?_⟩
  have hLl:(eW (bF kv d) (aj d) (a+1+W.length) l n b).length≤30002:=by
   rw[iw]
   have:=dB (kv:=kv) (a:=a+1+W.length+1) (l:=l+1) (t:=false) hc hd
   omega
  generalize hLL:eW (bF kv d) (aj d) (a+1+W.length) l n b=LP at hLp hLl
  obtain⟨las,l1,l2⟩:=id hLp
  have ll:=av l2
  have s12:=s1.trans s2
  walk_at "nx"
  refine⟨_,.inl (SqL.of (s2 _ _ w1)),?_⟩
  rw[List.length_map,wl]
  walk_at "rd1"
  refine⟨_,.inl (SqL.of l1),?_⟩
  rw[List.length_map,ll]
  walk_at "nx"
  refine⟨dx,_,_,s12 _ _ g1,dM _ _ _ _,?_⟩
  walk_at "rd1"
  refine⟨_,_,.inl (SqL.of (s12 _ _ g4)),eD (i:=0) (n:=l) rfl,?_⟩
  refine⟨dx,_,_,s12 _ _ g1,eF _ _ _ _,?_⟩
  walk_at "rd1"
  refine⟨_,_,.inr (g2.same s12),bu (j:=0) (v:=V.int n) rfl,by decide,fun t1 ht1=>?_⟩
  generalize hH3:upd H2 t1 _=H3
  have s3:Same H2 H3:=by rw[← hH3]; exact af ht1 _
  have et1:bf H3 t1 [.str "test", iN l,.int n,iN (a+1+W.length+LP.length)]:=by
   show H3 t1=_
   rw[← hH3,ac]
   simp[iN]
  refine⟨by decide,fun m1 hm1=>?_⟩
  have s4:=af hm1 (.lst [.ref t1])
  have L1:=eQ et1 hm1
  generalize upd H3 m1 (.lst [.ref t1])=H4 at s4 L1 ⊢
  obtain⟨as1,a1,a2⟩:=L1
  obtain⟨bs1,b1,b2⟩:=hW.mono ((s2.trans s3).trans s4)
  refine⟨_,_,a1,b1,dJ a2 b2 (by simp only[List.length_cons,List.length_nil]; omega),fun m2 hm2=>?_⟩
  have s5:=af hm2 (.lst (as1.map V.ref++bs1.map V.ref))
  have L2:=ee a2 b2 hm2
  generalize upd H4 m2 (.lst (as1.map V.ref++bs1.map V.ref))=H5 at s5 L2 ⊢
  obtain⟨as2,c1,c2⟩:=L2
  obtain⟨bs2,d1,d2⟩:=hLp.mono ((s3.trans s4).trans s5)
  refine⟨_,_,c1,d1,dJ c2 d2 (by simp only[List.length_append,List.length_cons,List.length_nil]; omega),fun m3 hm3=>?_⟩
  have s6:=af hm3 (.lst (as2.map V.ref++bs2.map V.ref))
  have L4:=ee c2 d2 hm3
  generalize upd H5 m3 (.lst (as2.map V.ref++bs2.map V.ref))=H6 at s6 L4 ⊢
  have s05:=((s12.trans s3).trans s4).trans s5
  refine q m3 H6 (s05.trans s6) (s05.free hm3) ?_
  unfold dH
  rw[if_pos rfl,hWW,hLL]
  exact L4
def Ct(K:PySem.W.Frag)(C:Addr)(d:Nat):Sp:=fun vs H Q _=>∃ (x sp:Addr) (a l:Nat) (t:Bool) (n:Int) (b c:List Stp) (kv:List (ax × V)) (S:Addr→Prop),vs=[.ref x,.int (a:Int),.ref sp,.bl t]∧nstpAt K C (aj d) S (NumAt K C S d H) H x l (.ite n b c)∧dZ d b∧dZ d c∧H sp=some (.dK kv)∧eI kv d (l+1) b∧eI kv d (l+1+aj d b+1) c∧aj d b≤200∧aj d c≤200∧d≤20∧
 ∀ (q:Addr) (H':Hp),Same H H'→H q=none→ListR H' q (jM (bF kv d) (aj d) t a l n b c)→Q (.ref q) H'
theorem CT(D:DefAt K mg "if_rows" bx) (z_len:mg "len" = none) (a_parts:Fl K CN "parts") (a_lines:Fl K CN "lines") (a_blocks:Fl K CN "blocks") {d:Nat} (c_rows_of:bg P w K mg base (3 * d+2) "rows_of" ["steps", "at", "slots", "turned"] (gj K CN d)):bg P w K mg base (3 * d+3) "if_rows" ["step", "at", "slots", "turned"] (Ct K CN d):=by
 refine D.cal (k:=3 * d+2) sc_if_rows (fun _ _ _ _ _ _ us hl=>match us,hl with | [_,_,_,_],_=>rfl) (fun vs H Q E h=>by obtain⟨_,_,_,_,_,_,_,_,_,_,rfl,_⟩:=h; rfl) (fun f cdv A outer s H vs Q E hr h=>?_)
 obtain⟨x,sp,a,l,t,n,b,c,kv,S,rfl,hN,ok,ok',esp,hk,hk',hc,hc',hd,q⟩:=h
 obtain⟨dx,pp,lp,bp,bs,g1,g2,g3,g4,g5,g6,g7⟩:=id hN
 obtain⟨q0,q1,rfl⟩ : ∃ q0 q1,bs=[q0,q1]:=by
  cases g7 with
  | cons _ t=>cases t with
   | cons _ t=>cases t; exact⟨_,_,rfl⟩
 have hb:NumAt K CN S d H q0 (l+1) b∧NumAt K CN S d H q1 (l+1+aj d b+1) c:=by
  cases g7 with
  | cons h t=>cases t with
   | cons h' _=>exact⟨h,h'⟩
 refine⟨_,(ae (ar 4 sc_if_rows.nd (aJ c_rows_of hr (aa (ay (aW K) (bM a_blocks (pv 0 (hv:=qx))) ai (fun _ _=>rfl)) (aa (ao aw (pv 1 (hv:=AB)) ai) (aa (pv 2 (hv:=Ay)) (aa (pv 3 (hv:=B8)) ab)))) (hg:=Da) (hle:=by omega)) (hx:=HP))
   (ae (ar 5 sc_if_rows.nd (ao aw (ao aw (pv 1 (hv:=AB)) ai) (aY (aK K) z_len bw (aa (pv 4 (hv:=Ag)) ab) (hg:=Dh))) (hx:=GR))
   (ae (ar 6 sc_if_rows.nd (aJ c_rows_of hr (aa (ay (aW K) (bM a_blocks (pv 0 (hv:=qx))) ai (fun _ _=>rfl)) (aa (ao aw (pv 5 (hv:=wO)) ai) (aa (pv 2 (hv:=Ay)) (aa (pv 3 (hv:=B8)) ab)))) (hg:=Da) (hle:=by omega)) (hx:=Gr))
   (ae (ar 7 sc_if_rows.nd (ao aw (ao aw (pv 5 (hv:=wO)) ai) (aY (aK K) z_len bw (aa (pv 6 (hv:=BN)) ab) (hg:=Dh))) (hx:=HL))
   (ae (ar 8 sc_if_rows.nd (bb (aa al (aa (ay (aW K) (bM a_lines (pv 0 (hv:=qx))) ai (fun _ _=>rfl)) (aa (ay (aW K) (bM a_parts (pv 0 (hv:=qx))) ai (fun _ _=>rfl)) (aa (ao aw (pv 5 (hv:=wO)) ai) ab))))) (hx:=Gf))
   (ak (aF (ao aw (ao aw (ao aw (bi (aa (pv 8 (hv:=FD)) ab)) (pv 4 (hv:=Ag))) (bi (aa (bb (aa al (aa (ay (aW K) (bM a_lines (pv 0 (hv:=qx))) ai (fun _ _=>rfl)) (aa (pv 7 (hv:=E2)) ab)))) ab))) (pv 6 (hv:=BN)))))))))),?_⟩
 walk_at "rd1"
 refine⟨dx,_,_,g1,fU _ _ _ _,?_⟩
 walk_at "rd1"
 refine⟨_,_,.inl (SqL.of g6),bu (j:=0) (v:=V.ref q0) rfl,?_⟩
 refine⟨q0,sp,a+1,l+1,t,b,kv,S,by simp,hb.1,ok,esp,hk,hc,hd,fun wq H1 s1 hwq hW=>?_⟩
 have hWl:=dB (kv:=kv) (a:=a+1) (l:=l+1) (t:=t) hc hd
 generalize hWW:bF kv d t (a+1) (l+1) b=W at hW hWl
 obtain⟨was,w1,w2⟩:=id hW
 have wl:=av w2
 walk_at "nx"
 refine⟨_,.inl (SqL.of w1),?_⟩
 rw[List.length_map,wl]
 walk_at "nx"
 refine⟨dx,_,_,s1 _ _ g1,fU _ _ _ _,?_⟩
 walk_at "rd1"
 refine⟨_,_,.inl (SqL.of (s1 _ _ g6)),bu (j:=1) (v:=V.ref q1) rfl,?_⟩
 refine⟨q1,sp,a+1+W.length+1,l+1+aj d b+1,t,c,kv,S,by simp,hb.2.mono s1,ok',s1 _ _ esp,hk',hc',hd,fun rq H2 s2 hrq hR=>?_⟩
 have hRl:=dB (kv:=kv) (a:=a+1+W.length+1) (l:=l+1+aj d b+1) (t:=t) hc' hd
 generalize hRR:bF kv d t (a+1+W.length+1) (l+1+aj d b+1) c=R at hR hRl
 obtain⟨ras,r1,r2⟩:=id hR
 have rl:=av r2
 have s12:=s1.trans s2
 walk_at "nx"
 refine⟨_,.inl (SqL.of r1),?_⟩
 rw[List.length_map,rl]
 walk_at "nx"
 refine⟨dx,_,_,s12 _ _ g1,dM _ _ _ _,?_⟩
 walk_at "rd1"
 refine⟨_,_,.inl (SqL.of (s12 _ _ g4)),eD (i:=0) (n:=l) rfl,?_⟩
 refine⟨dx,_,_,s12 _ _ g1,eF _ _ _ _,?_⟩
 walk_at "rd1"
 refine⟨_,_,.inr (g2.same s12),bu (j:=0) (v:=V.int n) rfl,by decide,fun t1 ht1=>?_⟩
 generalize hH3:upd H2 t1 _=H3
 have s3:Same H2 H3:=by rw[← hH3]; exact af ht1 _
 have et1:bf H3 t1 [.str "test", iN l,.int n,iN (a+1+W.length+1)]:=by
  show H3 t1=_
  rw[← hH3,ac]
  simp[iN]
 walk_at "nx"
 refine⟨by decide,fun m1 hm1=>?_⟩
 have s4:=af hm1 (.lst [.ref t1])
 have L1:=eQ et1 hm1
 generalize upd H3 m1 (.lst [.ref t1])=H4 at s4 L1 ⊢
 obtain⟨as1,a1,a2⟩:=L1
 obtain⟨bs1,b1,b2⟩:=hW.mono ((s2.trans s3).trans s4)
 refine⟨_,_,a1,b1,dJ a2 b2 (by simp only[List.length_cons,List.length_nil]; omega),fun m2 hm2=>?_⟩
 have s5:=af hm2 (.lst (as1.map V.ref++bs1.map V.ref))
 have L2:=ee a2 b2 hm2
 generalize upd H4 m2 (.lst (as1.map V.ref++bs1.map V.ref))=H5 at s5 L2 ⊢
 have s05:=((s12.trans s3).trans s4).trans s5
 refine⟨dx,_,_,s05 _ _ g1,dM _ _ _ _,?_⟩
 walk_at "rd1"
 refine⟨_,_,.inl (SqL.of (s05 _ _ g4)),eD (i:=1) (n:=l+1+aj d b) rfl,by decide,fun t2 ht2=>?_⟩
 generalize hH6:upd H5 t2 _=H6
 have s6:Same H5 H6:=by rw[← hH6]; exact af ht2 _
 have et2:bf H6 t2 [.str "jump", iN (l+1+aj d b),iN (a+1+W.length+1+R.length)]:=by
  show H6 t2=_
  rw[← hH6,ac]
  simp[iN]
 refine⟨by decide,fun m3 hm3=>?_⟩
 have s7:=af hm3 (.lst [.ref t2])
 have L3:=eQ et2 hm3
 generalize upd H6 m3 (.lst [.ref t2])=H7 at s7 L3 ⊢
 obtain⟨as2,c1,c2⟩:=L2.mono (s6.trans s7)
 obtain⟨bs2,d1,d2⟩:=L3
 refine⟨_,_,c1,d1,dJ c2 d2 (by simp only[List.length_append,List.length_cons,List.length_nil]; omega),fun m4 hm4=>?_⟩
 have s8:=af hm4 (.lst (as2.map V.ref++bs2.map V.ref))
 have L4:=ee c2 d2 hm4
 generalize upd H7 m4 (.lst (as2.map V.ref++bs2.map V.ref))=H8 at s8 L4 ⊢
 obtain⟨as3,e1,e2⟩:=L4
 obtain⟨bs3,f1,f2⟩:=hR.mono (((((s3.trans s4).trans s5).trans s6).trans s7).trans s8)
 refine⟨_,_,e1,f1,dJ e2 f2 (by simp only[List.length_append,List.length_cons,List.length_nil]; omega),fun m5 hm5=>?_⟩
 have s9:=af hm5 (.lst (as3.map V.ref++bs3.map V.ref))
 have L5:=ee e2 f2 hm5
 generalize upd H8 m5 (.lst (as3.map V.ref++bs3.map V.ref))=H9 at s9 L5 ⊢
 have s08:=((s05.trans s6).trans s7).trans s8
 refine q m5 H9 (s08.trans s9) (s08.free hm5) ?_
 unfold jM
 rw[hWW,hRR]
 exact L5
end
section
variable{CN:Addr}
def zT(K:PySem.W.Frag)(C:Addr)(d:Nat):Sp:=fun vs H Q _=>∃ (z sp:Addr) (a l:Nat) (t:Bool) (x y:Str) (b:List Stp) (kv:List (ax × V)) (S:Addr→Prop),vs=[.ref z,.int (a:Int),.ref sp,.bl t]∧nstpAt K C (aj d) S (NumAt K C S d H) H z l (.lend x y b)∧dZ d b∧H sp=some (.dK kv)∧d_ kv (.inr x)∧d_ kv (.inr y)∧d_ kv (.inl (l:Int))∧eI kv d (l+1) b∧aj d b≤200∧d≤20∧
 ∀ (q:Addr) (H':Hp),Same H H'→H q=none→ListR H' q (gh kv (bF kv d) (aj d) t a l x y b)→Q (.ref q) H'
theorem ga{H:Hp}{c1 c2 c3 x:Addr}{r1 r2 r3:aP}(h1:bf H c1 r1)(h2:bf H c2 r2)(h3:bf H c3 r3)(hx:H x=none):ListR (upd H x (.lst [.ref c1,.ref c2,.ref c3])) x [r1,r2,r3]:=⟨[c1,c2,c3],ac,.cons (af hx _ _ _ h1) (.cons (af hx _ _ _ h2) (.cons (af hx _ _ _ h3) .nil))⟩
theorem zH(D:DefAt K mg "lend_rows" aH) (z_len:mg "len" = none) (a_parts:Fl K CN "parts") (a_lines:Fl K CN "lines") (a_blocks:Fl K CN "blocks") {d:Nat} (c_rows_of:bg P w K mg base (3 * d+2) "rows_of" ["steps", "at", "slots", "turned"] (gj K CN d)):bg P w K mg base (3 * d+3) "lend_rows" ["step", "at", "slots", "turned"] (zT K CN d):=by
 refine D.cal (k:=3 * d+2) sc_lend_rows (fun _ _ _ _ _ _ us hl=>match us,hl with | [_,_,_,_],_=>rfl) (fun vs H Q E h=>by obtain⟨_,_,_,_,_,_,_,_,_,_,rfl,_⟩:=h; rfl) (fun f cdv A outer s H vs Q E hr h=>?_)
 obtain⟨z,sp,a,l,t,x,y,b,kv,S,rfl,hN,ok,esp,kx,ky,kl,hk,hc,hd,q⟩:=h
 obtain⟨dx,pp,lp,bp,bs,g1,g2,g3,g4,g5,g6,g7⟩:=id hN
 obtain⟨q0,rfl⟩ : ∃ q0,bs=[q0]:=by
  cases g7 with
  | cons _ t=>cases t; exact⟨_,rfl⟩
 have hb:NumAt K CN S d H q0 (l+1) b:=by
  cases g7 with
  | cons h _=>exact h
 refine⟨_,(ae (ar 4 sc_lend_rows.nd (ay (aW K) (bM a_lines (pv 0 (hv:=oK))) ai (fun _ _=>rfl)) (hx:=G9))
   (ae (ar 5 sc_lend_rows.nd (ay (aW K) (bM a_lines (pv 0 (hv:=oK))) ai (fun _ _=>rfl)) (hx:=HK))
   (ae (ar 6 sc_lend_rows.nd (ay (fg K) (pv 2 (hv:=ut)) (ay (aW K) (bM a_parts (pv 0 (hv:=oK))) ai (fun _ _=>rfl)) (fun _ _=>rfl)) (hx:=GB))
   (ae (ar 7 sc_lend_rows.nd (ay (fg K) (pv 2 (hv:=ut)) (ay (aW K) (bM a_parts (pv 0 (hv:=oK))) ai (fun _ _=>rfl)) (fun _ _=>rfl)) (hx:=Gp))
   (ae (ar 8 sc_lend_rows.nd (ay (fg K) (pv 2 (hv:=ut)) (pv 4 (hv:=tJ)) (fun _ _=>rfl)) (hx:=Gq))
   (ae (ar 9 sc_lend_rows.nd (bi (aa (bb (aa al (aa (pv 4 (hv:=tJ)) (aa (pv 8 (hv:=pO)) (aa (pv 6 (hv:=FL)) ab))))) (aa (bb (aa al (aa (pv 4 (hv:=tJ)) (aa (pv 8 (hv:=pO)) (aa al ab))))) (aa (bb (aa al (aa (pv 4 (hv:=tJ)) (aa (pv 7 (hv:=Bi)) (aa (pv 8 (hv:=pO)) ab))))) ab)))) (hx:=GZ))
   (ae (ar 10 sc_lend_rows.nd (aJ c_rows_of hr (aa (ay (aW K) (bM a_blocks (pv 0 (hv:=oK))) ai (fun _ _=>rfl)) (aa (ao aw (pv 1 (hv:=F2)) (aY (aK K) z_len bw (aa (pv 9 (hv:=A0)) ab) (hg:=Gh))) (aa (pv 2 (hv:=ut)) (aa (pv 3 (hv:=Ec)) ab)))) (hg:=GX) (hle:=by omega)) (hx:=Hz))
   (ak (aF (ao aw (ao aw (pv 9 (hv:=A0)) (pv 10 (hv:=DJ))) (bi (aa (bb (aa al (aa (pv 5 (hv:=wZ)) (aa (pv 8 (hv:=pO)) (aa al ab))))) (aa (bb (aa al (aa (pv 5 (hv:=wZ)) (aa (pv 7 (hv:=Bi)) ab)))) (aa (bb (aa al (aa (pv 5 (hv:=wZ)) (aa (pv 8 (hv:=pO)) ab)))) ab)))))))))))))),?_⟩
 walk_at "rd1"
 refine⟨dx,_,_,g1,dM _ _ _ _,?_⟩
 walk_at "rd1"
 refine⟨_,_,.inl (SqL.of g4),eD (i:=0) (n:=l) rfl,?_⟩
 walk_at "nx"
 refine⟨dx,_,_,g1,dM _ _ _ _,?_⟩
 walk_at "rd1"
 refine⟨_,_,.inl (SqL.of g4),eD (i:=1) (n:=l+1+aj d b) rfl,?_⟩
 walk_at "nx"
 refine⟨dx,_,_,g1,eF _ _ _ _,?_⟩
 walk_at "rd1"
 refine⟨_,_,.inr g2,bu (j:=0) (v:=V.str x) rfl,.inr ⟨sp,kv,.inr x,_,rfl,rfl,esp,kx,?_⟩⟩
 walk_at "nx"
 refine⟨dx,_,_,g1,eF _ _ _ _,?_⟩
 walk_at "rd1"
 refine⟨_,_,.inr g2,bu (j:=1) (v:=V.str y) rfl,.inr ⟨sp,kv,.inr y,_,rfl,rfl,esp,ky,?_⟩⟩
 walk_at "nx"
 refine .inr ⟨sp,kv,.inl (l:Int),_,rfl,rfl,esp,kl,?_⟩
 generalize hgx:aN kv (.inr x)=gx
 generalize hgy:aN kv (.inr y)=gy
 generalize hgl:aN kv (.inl (l:Int))=gl
 walk_at "nx"
 refine⟨by decide,fun t1 ht1=>?_⟩
 generalize hH1:upd H t1 _=H1
 have s1:Same H H1:=by rw[← hH1]; exact af ht1 _
 have r1:bf H1 t1 [.str "copy", iN l,gl,gx]:=by show H1 t1=_; rw[← hH1]; exact ac
 refine⟨by decide,fun t2 ht2=>?_⟩
 generalize hH2:upd H1 t2 _=H2
 have s2:Same H1 H2:=by rw[← hH2]; exact af ht2 _
 have r2:bf H2 t2 [.str "do", iN l,gl,.str "lend"]:=by show H2 t2=_; rw[← hH2]; exact ac
 refine⟨by decide,fun t3 ht3=>?_⟩
 generalize hH3:upd H2 t3 _=H3
 have s3:Same H2 H3:=by rw[← hH3]; exact af ht3 _
 have r3:bf H3 t3 [.str "copy", iN l,gy,gl]:=by show H3 t3=_; rw[← hH3]; exact ac
 refine⟨by decide,fun m1 hm1=>?_⟩
 have s4:=af hm1 (.lst [.ref t1,.ref t2,.ref t3])
 have L1:=ga (s3 _ _ (s2 _ _ r1)) (s3 _ _ r2) r3 hm1
 have em1:upd H3 m1 (.lst [.ref t1,.ref t2,.ref t3]) m1=some (.lst [.ref t1,.ref t2,.ref t3]):=ac
 generalize upd H3 m1 (.lst [.ref t1,.ref t2,.ref t3])=H4 at s4 L1 em1 ⊢
 have s04:=((s1.trans s2).trans s3).trans s4
 walk_at "nx"
 refine⟨dx,_,_,s04 _ _ g1,fU _ _ _ _,?_⟩
 walk_at "rd1"
 refine⟨_,_,.inl (SqL.of (s04 _ _ g6)),bu (j:=0) (v:=V.ref q0) rfl,?_⟩
 walk_at "rd1"
 refine⟨_,.inl (SqL.of em1),?_⟩
 refine⟨q0,sp,a+3,l+1,t,b,kv,S,by simp,hb.mono s04,ok,s04 _ _ esp,hk,hc,hd,fun wq H5 s5 hwq hW=>?_⟩
 have hWl:=dB (kv:=kv) (a:=a+3) (l:=l+1) (t:=t) hc hd
 generalize hWW:bF kv d t (a+3) (l+1) b=W at hW hWl
 have s05:=s04.trans s5
 walk_at "nx"
 obtain⟨as1,a1,a2⟩:=L1.mono s5
 obtain⟨bs1,b1,b2⟩:=id hW
 refine⟨_,_,a1,b1,dJ a2 b2 (by simp only[List.length_cons,List.length_nil]; omega),fun m2 hm2=>?_⟩
 have s6:=af hm2 (.lst (as1.map V.ref++bs1.map V.ref))
 have L2:=ee a2 b2 hm2
 generalize upd H5 m2 (.lst (as1.map V.ref++bs1.map V.ref))=H6 at s6 L2 ⊢
 refine⟨by decide,fun t4 ht4=>?_⟩
 generalize hH7:upd H6 t4 _=H7
 have s7:Same H6 H7:=by rw[← hH7]; exact af ht4 _
 have r4:bf H7 t4 [.str "do", iN (l+1+aj d b),gl,.str "back"]:=by show H7 t4=_; rw[← hH7]; exact ac
 refine⟨by decide,fun t5 ht5=>?_⟩
 generalize hH8:upd H7 t5 _=H8
 have s8:Same H7 H8:=by rw[← hH8]; exact af ht5 _
 have r5:bf H8 t5 [.str "drop", iN (l+1+aj d b),gy]:=by show H8 t5=_; rw[← hH8]; exact ac
 refine⟨by decide,fun t6 ht6=>?_⟩
 generalize hH9:upd H8 t6 _=H9
 have s9:Same H8 H9:=by rw[← hH9]; exact af ht6 _
 have r6:bf H9 t6 [.str "drop", iN (l+1+aj d b),gl]:=by show H9 t6=_; rw[← hH9]; exact ac
 refine⟨by decide,fun m3 hm3=>?_⟩
 have s10:=af hm3 (.lst [.ref t4,.ref t5,.ref t6])
 have L3:=ga (s9 _ _ (s8 _ _ r4)) (s9 _ _ r5) r6 hm3
 generalize upd H9 m3 (.lst [.ref t4,.ref t5,.ref t6])=H10 at s10 L3 ⊢
 obtain⟨as2,c1,c2⟩:=L2.mono (((s7.trans s8).trans s9).trans s10)
 obtain⟨bs2,d1,d2⟩:=L3
 refine⟨_,_,c1,d1,dJ c2 d2 (by simp only[List.length_append,List.length_cons,List.length_nil]; omega),fun m4 hm4=>?_⟩
 have s11:=af hm4 (.lst (as2.map V.ref++bs2.map V.ref))
 have L4:=ee c2 d2 hm4
 generalize upd H10 m4 (.lst (as2.map V.ref++bs2.map V.ref))=H11 at s11 L4 ⊢
 have s010:=((((s05.trans s6).trans s7).trans s8).trans s9).trans s10
 refine q m4 H11 (s010.trans s11) (s010.free hm4) ?_
 unfold gh
 rw[hWW,hgx,hgy,hgl]
 exact L4
theorem sj(D:DefAt K mg "rows_of" bE) (DL:DefAt K mg "lend_rows" aH) (DI:DefAt K mg "if_rows" bx) (DO:DefAt K mg "loop_rows" bL) (DW:DefAt K mg "while_rows" ba) (DS:DefAt K mg "simple_row" bv) (z_len:mg "len" = none) (z_tuple:mg "tuple" = none) (a_kind:Fl K CN "kind") (a_parts:Fl K CN "parts") (a_lines:Fl K CN "lines") (a_blocks:Fl K CN "blocks"):∀ d:Nat,bg P w K mg base (3 * d+2) "rows_of" ["steps", "at", "slots", "turned"] (gj K CN d)
 | 0=>D.cal (k:=1) sc_rows_of (fun _ _ _ _ _ _ us hl=>match us,hl with | [_,_,_,_],_=>rfl) (fun vs H Q E h=>by obtain⟨_,_,_,_,_,_,_,_,rfl,_⟩:=h; rfl) (fun f cdv A outer s H vs Q E hr h=>by obtain⟨_,_,_,_,_,_,_,_,rfl,z,_⟩:=h; exact z.elim)
 | d+1=>by
  have ih:=sj D DL DI DO DW DS z_len z_tuple a_kind a_parts a_lines a_blocks d
  have c_lend_rows:=zH DL z_len a_parts a_lines a_blocks ih
  have c_if_rows:=CT DI z_len a_parts a_lines a_blocks ih
  have c_while_rows:=xC DW z_len a_parts a_lines a_blocks ih (Ab DO z_len a_parts a_lines a_blocks ih)
  have c_simple_row:=vC (P:=P) (w:=w) (base:=base) DS z_tuple a_kind a_parts a_lines
  refine D.cal (k:=3 * d+4) sc_rows_of (fun _ _ _ _ _ _ us hl=>match us,hl with | [_,_,_,_],_=>rfl) (fun vs H Q E h=>by obtain⟨_,_,_,_,_,_,_,_,rfl,_⟩:=h; rfl) (fun f cdv A outer s H vs Q E hr h=>?_)
  obtain⟨p,sp,a,l,t,T,kv,S,rfl,⟨h0,as,h1,h2⟩,ok,esp,hk,hc,hd,q⟩:=h
  have hlen:=av h2
  rw[fI]at hlen
  refine⟨_,(ae (ar 4 sc_rows_of.nd (bi ab) (hx:=D1))
   (ae (cE PassesOwn.never rfl (dz K (pv 0 (hv:=Ed))) (bj 5 sc_rows_of.nd (hx:=Ez)) (ae (ar 6 sc_rows_of.nd (ao aw (pv 1 (hv:=Fv)) (aY (aK K) z_len bw (aa (pv 4 (hv:=lJ)) ab) (hg:=Fq))) (hx:=Dt))
   (ak (bN (aG b8 (bM a_kind (pv 5 (hv:=kf))) al (bc _)) (ak (aQ (aI K PySem.F.plainAttrs_list PySem.F.slot_list_extend PySem.F.type_list_extend cS (pv 4 (hv:=lJ)) (aa (aJ c_lend_rows hr (aa (pv 5 (hv:=kf)) (aa (pv 6 (hv:=yv)) (aa (pv 2 (hv:=tw)) (aa (pv 3 (hv:=yc)) ab)))) (hg:=Fj) (hle:=by omega)) ab)))) (ak (bN (aG b8 (bM a_kind (pv 5 (hv:=kf))) al (bc _)) (ak (aQ (aI K PySem.F.plainAttrs_list PySem.F.slot_list_extend PySem.F.type_list_extend cS (pv 4 (hv:=lJ)) (aa (aJ c_if_rows hr (aa (pv 5 (hv:=kf)) (aa (pv 6 (hv:=yv)) (aa (pv 2 (hv:=tw)) (aa (pv 3 (hv:=yc)) ab)))) (hg:=Fd) (hle:=by omega)) ab)))) (ak (bN (aG b8 (bM a_kind (pv 5 (hv:=kf))) al (bc _)) (ak (aQ (aI K PySem.F.plainAttrs_list PySem.F.slot_list_extend PySem.F.type_list_extend cS (pv 4 (hv:=lJ)) (aa (aJ c_while_rows hr (aa (pv 5 (hv:=kf)) (aa (pv 6 (hv:=yv)) (aa (pv 2 (hv:=tw)) (aa (pv 3 (hv:=yc)) ab)))) (hg:=Dy) (hle:=by omega)) ab)))) (ak (aQ (aI K PySem.F.plainAttrs_list PySem.F.slot_list_append PySem.F.type_list_append aL (pv 4 (hv:=lJ)) (aa (aJ c_simple_row hr (aa (pv 5 (hv:=kf)) (aa (pv 2 (hv:=tw)) ab)) (hg:=DP) (hle:=by omega)) ab))))))))))))
   (ak (aF (pv 4 (hv:=lJ)))))),?_⟩
  walk_at "rd1"
  refine⟨by decide,fun R hR=>?_⟩
  have s1:=af hR (.lst [])
  have eR0:upd H R (.lst []) R=some (.lst (([]:List Addr).map V.ref)):=ac
  generalize upd H R (.lst [])=H1 at s1 eR0 ⊢
  walk_at "nx"
  refine⟨⟨_,SqL.of (s1 _ _ h1)⟩,?_⟩
  have hnR:∀ {z:Addr} {o:HO},H z=some o→z≠R:=fun e=>au e hR
  refine dn (xs:=as.map V.ref) (fun i σ H'=>∃ (o5 o6:Option V),σ=[some (.ref p),some (.int (a:Int)),some (.ref sp),some (.bl t),some (.ref R),o5,o6]∧Same H H'∧ListR H' R (bF kv (d+1) t a l (T.take i)))
   ⟨_,_,rfl,s1,[],eR0,.nil⟩ (fun i σ H' _ hh=>by obtain⟨_,_,_,sm,_⟩:=hh; exact SqL.of (sm _ _ h1)) (fun i v σ H2 hv hh=>?_) (fun σ H2 hh=>?_)
  ·obtain⟨o5,o6,rfl,sm,ras,r1,r2⟩:=hh
   rw[List.getElem?_map]at hv
   cases hi:as[i]? with
   | none=>rw[hi]at hv; cases hv
   | some x=>
    rw[hi]at hv; cases hv
    have hiT:i<T.length:=by have:=(List.getElem?_eq_some_iff.mp hi).1; omega
    have hs:=List.getElem?_eq_getElem hiT
    have hz:=sS (aU (aj d)) l T i _ hs
    obtain⟨z,hz1,hz2⟩:=b6 h2 hi
    rw[hz]at hz1
    have hz1:=Option.some.inj hz1
    subst hz1
    have hkz:=hk _ (List.mem_of_getElem? hz)
    have hmem:=List.getElem_mem hiT
    generalize T[i]=st at hs hz hz2 hkz hmem
    have oks:=ok st hmem
    have hcs:=ma (d:=d) hmem
    generalize hl':l+((T.take i).map (aU (aj d))).sum=l' at hz hz2 hkz
    have etk:T.take (i+1)=T.take i++[st]:=by rw[List.take_add_one,hs]; rfl
    have erow:bF kv (d+1) t a l (T.take (i+1))=bF kv (d+1) t a l (T.take i)++fM kv (bF kv d) (aj d) t (a+(bF kv (d+1) t a l (T.take i)).length) l' st:=by
     rw[etk]
     show cY _ _ a l (T.take i++[st])=_
     rw[jQ,hl']; rfl
    have hcnt:=qo (d:=d) (i:=i) (T:=T)
    have hpre:=dB (kv:=kv) (d:=d+1) (a:=a) (l:=l) (t:=t) (T:=T.take i) (by omega) hd
    rw[erow]
    generalize bF kv (d+1) t a l (T.take i)=pre at r2 hpre
    have rl:=av r2
    have hx2:=hz2.mono sm
    obtain⟨dx,pp,lp,bp,bs,g1,g2,g3,g4,g5,g6,g7⟩:=id hx2
    have put:∀ {b:Addr} {H3:Hp} {rows:List aP},Same H2 H3→ListR H3 b rows→b≠R→rows.length≤100000→∃ xs zs,H3 R=some (.lst xs)∧H3 b=some (.lst zs)∧xs.length+zs.length≤sizeLine∧(Same H (upd H3 R (.lst (xs++zs)))∧ListR (upd H3 R (.lst (xs++zs))) R (pre++rows)):=fun {b H3 rows} s3 hL hne hl3=>by
     obtain⟨bas,e1,e2⟩:=hL
     have bl:=av e2
     have eR3:=s3 _ _ r1
     have tp:∀ {c:Addr} {r:aP},bf H3 c r→bf (upd H3 R (.lst (ras.map V.ref++bas.map V.ref))) c r:=fun {c r} z=>by
      show upd H3 R _ c=_
      rw[ah (b7 z eR3 (fun y=>nomatch y))]; exact z
     refine⟨_,_,eR3,e1,by rw[List.length_map,List.length_map,rl,bl]; exact aS (by omega),fun c o y=>?_,ras++bas,by rw[ac,List.map_append],dU (Paired.imp' (fun _ _ y=>tp (s3 _ _ y)) r2) (Paired.imp' (fun _ _ y=>tp y) e2)⟩
     rw[ah (hnR y)]; exact s3 _ _ (sm _ _ y)
    walk_at "rd1"
    refine⟨_,.inl (SqL.of r1),?_⟩
    rw[List.length_map,rl]
    walk_at "nx"
    refine⟨dx,_,_,g1,fh _ _ _ _,?_⟩
    walk_at "rd1"
    have hst200:aU (aj d) st≤200:=by omega
    have hsl:(fM kv (bF kv d) (aj d) t (a+pre.length) l' st).length≤30000:=by
     have:=dB (kv:=kv) (d:=d+1) (a:=a+pre.length) (l:=l') (t:=t) (T:=[st]) (by show aU (aj d) st+0≤200; omega) hd
     have e:bF kv (d+1) t (a+pre.length) l' [st]=fM kv (bF kv d) (aj d) t (a+pre.length) l' st++[]:=rfl
     rw[e,List.append_nil]at this
     exact this
    cases st with
    | lend x0 y0 b0=>
     obtain⟨k1,k2,k3,k4⟩ : d_ kv (.inr x0)∧d_ kv (.inr y0)∧d_ kv (.inl (l':Int))∧eI kv d (l'+1) b0:=hkz
     have hcb:aj d b0+2≤200:=hst200
     refine bA (fun _=>?_) (fun c=>absurd rfl c)
     refine⟨⟨_,SqL.of r1⟩,x,sp,a+pre.length,l',t,x0,y0,b0,kv,S,by simp,hx2,oks.2.2,sm _ _ esp,k1,k2,k3,k4,by omega,by omega,fun q' H3 s3 hq' L3=>?_⟩
     dsimp only
     rw[eL]
     obtain⟨xs,zs,p1,p2,p3,p4,p5⟩:=put s3 L3 (au r1 hq').symm (by have:(gh kv (bF kv d) (aj d) t (a+pre.length) l' x0 y0 b0).length≤30000:=hsl; omega)
     exact⟨xs,zs,p1,p2,p3,_,_,rfl,p4,p5⟩
    | ite n0 b0 c0=>
     obtain⟨k1,k2⟩ : eI kv d (l'+1) b0∧eI kv d (l'+1+aj d b0+1) c0:=hkz
     have hcb:aj d b0+aj d c0+3≤200:=hst200
     refine bA (fun c=>absurd c (by show ¬ (Str.ofString "if" = Str.ofString "lend"); decide +kernel)) (fun _=>?_)
     refine⟨dx,_,_,g1,fh _ _ _ _,?_⟩
     walk_at "rd1"
     refine bA (fun _=>?_) (fun c=>absurd rfl c)
     refine⟨⟨_,SqL.of r1⟩,x,sp,a+pre.length,l',t,n0,b0,c0,kv,S,by simp,hx2,oks.2.1,oks.2.2,sm _ _ esp,k1,k2,by omega,by omega,by omega,fun q' H3 s3 hq' L3=>?_⟩
     dsimp only
     rw[eL]
     obtain⟨xs,zs,p1,p2,p3,p4,p5⟩:=put s3 L3 (au r1 hq').symm (by have:(jM (bF kv d) (aj d) t (a+pre.length) l' n0 b0 c0).length≤30000:=hsl; omega)
     exact⟨xs,zs,p1,p2,p3,_,_,rfl,p4,p5⟩
    | whl n0 b0=>
     have k1:eI kv d (l'+1) b0:=hkz
     have hcb:aj d b0+2≤200:=hst200
     refine bA (fun c=>absurd c (by show ¬ (Str.ofString "while" = Str.ofString "lend"); decide +kernel)) (fun _=>?_)
     refine⟨dx,_,_,g1,fh _ _ _ _,?_⟩
     walk_at "rd1"
     refine bA (fun c=>absurd c (by show ¬ (Str.ofString "while" = Str.ofString "if"); decide +kernel)) (fun _=>?_)
     refine⟨dx,_,_,g1,fh _ _ _ _,?_⟩
     walk_at "rd1"
     refine bA (fun _=>?_) (fun c=>absurd rfl c)
     refine⟨⟨_,SqL.of r1⟩,x,sp,a+pre.length,l',t,n0,b0,kv,S,by simp,hx2,oks.2,sm _ _ esp,k1,by omega,by omega,fun q' H3 s3 hq' L3=>?_⟩
     dsimp only
     rw[eL]
     obtain⟨xs,zs,p1,p2,p3,p4,p5⟩:=put s3 L3 (au r1 hq').symm (by have:(dH (bF kv d) (aj d) t (a+pre.length) l' n0 b0).length≤30000:=hsl; omega)
     exact⟨xs,zs,p1,p2,p3,_,_,rfl,p4,p5⟩
    | plain ws=>
     have hkd:ws.headD "" ∈ cZ:=oks.kind
     have nk:∀ {u:Str},u∉cZ→¬ kindOf (.plain ws)=u:=fun hu c=>hu (by have c':ws.headD "" = _:=c; rw[← c']; exact hkd)
     refine bA (fun c=>absurd c (nk (by decide +kernel))) (fun _=>?_)
     refine⟨dx,_,_,g1,fh _ _ _ _,?_⟩
     walk_at "rd1"
     refine bA (fun c=>absurd c (nk (by decide +kernel))) (fun _=>?_)
     refine⟨dx,_,_,g1,fh _ _ _ _,?_⟩
     walk_at "rd1"
     refine bA (fun c=>absurd c (nk (by decide +kernel))) (fun _=>?_)
     refine⟨⟨_,SqL.of r1⟩,x,sp,l',ws,kv,S,_,aj d,eI kv d,rfl,hx2,oks,sm _ _ esp,hkz,fun c H3 s3 hc3=>?_⟩
     have eR3:=s3 _ _ r1
     have tp:∀ {c:Addr} {r:aP},bf H3 c r→∀ zs,bf (upd H3 R (.lst zs)) c r:=fun {c r} z zs=>by
      show upd H3 R _ c=_
      rw[ah (b7 z eR3 (fun y=>nomatch y))]; exact z
     walk_at "rd1"
     refine⟨_,eR3,bG (by rw[List.length_map]; omega),_,_,rfl,fun c' o y=>?_,ras++[c],by rw[ac,List.map_append]; rfl,dU (Paired.imp' (fun _ _ y=>tp (s3 _ _ y) _) r2) (.cons (tp hc3 _) .nil)⟩
     rw[ah (hnR y)]; exact s3 _ _ (sm _ _ y)
  ·obtain⟨o5,o6,rfl,sm,hL⟩:=hh
   rw[List.length_map,hlen,List.take_length]at hL
   walk_at "nx"
   exact q R H2 sm hR hL
end
def fO(s:Str):Bool:=decide (0+("lend " : Str).length≤s.length)&&PySem.Builtin.Str.subAt s "lend " 0
def dG(L:List Str):List Nat:=(List.range L.length).filter fun i=>fO (L.getD i "")
def jY(d:Nat):Sp:=fun vs H Q _=>∃ (p:Addr) (L:List Str),vs=[.ref p]∧LinesAt d H p L∧L.length≤1000∧∀ (q:Addr) (H':Hp),Same H H'→H q=none→H' q=some (.lst ((dG L).map iN))→Q (.ref q) H'
theorem fN(f:Nat→Bool)(i:Nat):(List.range (i+1)).filter f=(List.range i).filter f++(if f i=true then [i] else []):=by
 rw[List.range_succ,List.filter_append]
 congr 1
 rw[List.filter_cons]
 split <;> rfl
theorem n6(D:DefAt K mg "lend_lines" bC) (z_enumerate:mg "enumerate" = none) {d k:Nat} (c_lines_of:bg P w K mg base k "lines_of" ["program"] (sv d)):bg P w K mg base (k+1) "lend_lines" ["program"] (jY d):=by
 refine D.cal (k:=k) nG (fun _ _ _ _ _ _ us hl=>match us,hl with | [_],_=>rfl) (fun vs H Q E h=>by obtain⟨_,_,rfl,_⟩:=h; rfl) (fun f cdv A outer s H vs Q E hr h=>?_)
 obtain⟨p,L,rfl,hL,hl,q⟩:=h
 refine⟨_,(ak (aF (fJ (CompSc.to (fsc:=(defScope bC)) (N:=["program"]) (N0:=["program"]) (T:=["at", "line"]) ⟨by decide +kernel,by decide +kernel,by decide +kernel,by decide +kernel,by decide +kernel,by decide +kernel,by decide +kernel⟩ rfl rfl) rfl (kn K GU z_enumerate (aa (aJ c_lines_of hr (aa (pv 0 (hv:=Hv)) ab) (hg:=Ht) (hle:=by omega)) ab)) (fun _ _ _ _=>(dR K (n:=2) (bW (bj 1 (show (["program", "at", "line"]:List Str).Nodup from by decide +kernel) (hx:=(iA (defScope bC) (by decide +kernel))) (hf:=lx (defScope bC) (by decide +kernel))) (bW (bj 2 (show (["program", "at", "line"]:List Str).Nodup from by decide +kernel) (hx:=(iA (defScope bC) (by decide +kernel))) (hf:=lx (defScope bC) (by decide +kernel))) dS)))) (z0 (mS (dN (show (["program"]:List Str).length≤1 from by decide)) mf (mS (dN (show (["program"]:List Str).length≤2 from by decide)) mf xJ rB) (wY mf rB))) (fun _ _ _ _=>(ki (fB (aI K PySem.F.plainAttrs_str PySem.F.slot_str_startswith PySem.F.type_str_startswith nK (pv 2 (hv:=(de (defScope bC) (by decide +kernel)))) (aa al ab))))) (fun _ _ _ _=>(pv 1 (hv:=(de (defScope bC) (by decide +kernel)))))))),?_⟩
 walk_at "rd1"
 refine⟨p,L,rfl,hL,by omega,fun lq H1 s1 hlq e1=>?_⟩
 refine⟨lq,rfl,⟨_,e1⟩,fun R hR=>?_⟩
 refine uq (xs:=L.map V.str) (fun i ys H'=>∃ ns:List Nat,Same H1 H'∧H' R=some (.lst ys)∧ys=ns.map iN∧ns.length≤i∧ns=(List.range i).filter fun j=>fO (L.getD j "")) ⟨[],af hR _,ac,rfl,Nat.le_refl _,rfl⟩ (fun i ys H' _ hh=>by obtain⟨_,sm,_⟩:=hh; exact SqL.of (sm _ _ e1)) ?_ ?_
 ·rintro i ys H' v t hv hi ⟨ns,sm,hl',rfl,hnl,hns⟩ ht
  rw[List.length_map]at hi
  rw[List.getElem?_map,List.getElem?_eq_getElem hi]at hv
  cases hv
  have s2:=af ht (.tup [.int (i:Int),.str L[i]])
  have et:upd H' t (.tup [.int (i:Int),.str L[i]]) t=some (.tup [.int (i:Int),.str L[i]]):=ac
  generalize upd H' t (.tup [.int (i:Int),.str L[i]])=H2 at s2 et ⊢
  have sm2:=sm.trans s2
  have eR2:=s2 _ _ hl'
  have hg:fO (L.getD i "")=(decide (0+("lend " : Str).length≤L[i].length)&&PySem.Builtin.Str.subAt L[i] "lend " 0):=by
   unfold fO
   rw[List.getD_eq_getElem?_getD,List.getElem?_eq_getElem hi]; rfl
  walk_at "rd1"
  refine⟨t,_,rfl,SqT.of et,rfl,?_⟩
  walk_at "rd1"
  rw[← hg]
  refine bA (fun c=>?_) (fun c=>?_)
  ·refine oC (by rw[List.length_map]; exact hi) (by rw[List.length_map]; exact hnl) (by rw[List.length_map]; exact aS (by omega)) eR2 ⟨ns++[i],sm2.upd hR _,ac,pB _ _,by simp; omega,?_⟩
   rw[fN,if_pos c,← hns]
  ·refine uF (by rw[List.length_map]; exact hi) ⟨ns,sm2,eR2,rfl,by omega,?_⟩
   rw[fN,if_neg c,← hns,List.append_nil]
 ·rintro ys H2 ⟨ns,s2,e2,rfl,_,hns⟩
  rw[List.length_map]at hns
  refine q R H2 (s1.trans s2) (s1.free hR) ?_
  rw[hns]at e2
  exact e2
def fP(ks:List ax):List (ax × V):=(List.range ks.length).foldl (fun acc i=>aZ acc (ks.getD i (.inl 0)) (iN i)) []
def fG(ks:List ax)(i:Nat):List (ax × V):=(List.range i).foldl (fun acc i=>aZ acc (ks.getD i (.inl 0)) (iN i)) []
theorem fY(ks:List ax)(i:Nat):fG ks (i+1)=aZ (fG ks i) (ks.getD i (.inl 0)) (iN i):=by
 unfold fG; rw[List.range_succ,List.foldl_append]; rfl
theorem oj(ks:List ax):∀ i,(fG ks i).length≤i
 | 0=>Nat.le_refl _
 | i+1=>by
  have:=oj ks i
  rw[fY]
  unfold aZ
  split
  ·rw[List.length_map]; omega
  ·rw[List.length_append]; simp; omega
theorem oM(ks:List ax):∀ (i j:Nat) k,j<i→ks[j]? = some k→(aM (fG ks i) k).isSome=true
 | 0,j,_,h,_=>absurd h (Nat.not_lt_zero _)
 | i+1,j,k,h,hk=>by
  rw[fY,dg]
  split
  ·rfl
  ·rename_i c
   rcases Nat.lt_or_ge j i with z | z
   ·exact oM ks i j k z hk
   ·have:j=i:=by omega
    subst this
    exact absurd (by rw[List.getD_eq_getElem?_getD,hk]; rfl) c
theorem jw{ks:List ax}{k:ax}(h:k∈ks):d_ (fP ks) k:=by
 obtain⟨j,hj⟩:=List.mem_iff_getElem?.mp h
 have:=oM ks ks.length j k (List.getElem?_eq_some_iff.mp hj).1 hj
 show aM (fG ks ks.length) k=some (aN (fG ks ks.length) k)
 unfold aN
 cases e:aM (fG ks ks.length) k with
 | none=>rw[e]at this; cases this
 | some v=>rfl
section
variable{NO:Hp→Addr→List Str→Prop}
def Ba(NO:Hp→Addr→List Str→Prop):Sp:=fun vs H Q _=>∃ (p:Addr) (NM:List Str),vs=[.ref p]∧NO H p NM∧∀ (q:Addr) (H':Hp),Same H H'→H q=none→H' q=some (.lst (NM.map V.str))→Q (.ref q) H'
def ce(NM:List Str)(L:List Str):List ax:=NM.map Sum.inr++(dG L).map fun (n:Nat)=>Sum.inl (n:Int)
def si(NO:Hp→Addr→List Str→Prop)(d:Nat):Sp:=fun vs H Q _=>∃ (p:Addr) (NM L:List Str),vs=[.ref p]∧NO H p NM∧LinesAt d H p L∧L.length≤1000∧NM.length≤1000∧∀ (q:Addr) (H':Hp),Same H H'→H q=none→H' q=some (.dK (fP (ce NM L)))→Q (.ref q) H'
theorem xF(noM:∀ {H H':Hp} {p:Addr} {NM:List Str},NO H p NM→Same H H'→NO H' p NM)(D:DefAt K mg "slots_of" bS) (z_enumerate:mg "enumerate" = none) {d k:Nat} (c_names_of:bg P w K mg base k "names_of" ["program"] (Ba NO)) (c_lend_lines:bg P w K mg base k "lend_lines" ["program"] (jY d)):bg P w K mg base (k+1) "slots_of" ["program"] (si NO d):=by
 refine D.cal (k:=k) sc_slots_of (fun _ _ _ _ _ _ us hl=>match us,hl with | [_],_=>rfl) (fun vs H Q E h=>by obtain⟨_,_,_,rfl,_⟩:=h; rfl) (fun f cdv A outer s H vs Q E hr h=>?_)
 obtain⟨p,NM,L,rfl,hN,hL,hl,hnl,q⟩:=h
 refine⟨_,(ae (ar 1 sc_slots_of.nd ir (hx:=Gd))
   (ae (cE PassesOwn.never rfl (kn K HI z_enumerate (aa (ao aw (aJ c_names_of hr (aa (pv 0 (hv:=Di)) ab) (hg:=Hl) (hle:=by omega)) (aJ c_lend_lines hr (aa (pv 0 (hv:=Di)) ab) (hg:=HG) (hle:=by omega))) ab)) (dR K (n:=2) (bW (bj 2 sc_slots_of.nd (hx:=Hi)) (bW (bj 3 sc_slots_of.nd (hx:=GY)) dS))) (ak (im (pv 2 (hv:=E_)) (kS (pv 1 (hv:=Cq)) (pv 3 (hv:=Eb)) (nQ hr)))))
   (ak (aF (pv 1 (hv:=Cq)))))),?_⟩
 walk_at "rd1"
 intro RD hRD
 have s1:=af hRD (.dK [])
 have eRD:upd H RD (.dK []) RD=some (.dK (fG (ce NM L) 0)):=ac
 generalize upd H RD (.dK [])=H1 at s1 eRD ⊢
 walk_at "nx"
 refine⟨p,NM,rfl,noM hN s1,fun nq H2 s2 hnq e2=>?_⟩
 have s12:=s1.trans s2
 refine⟨p,L,rfl,hL.mono _ s12,hl,fun lq H3 s3 hlq e3=>?_⟩
 have hll:(dG L).length≤1000:=by
  unfold dG
  refine Nat.le_trans (List.length_filter_le _ _) ?_
  rw[List.length_range]; exact hl
 dsimp only
 rw[gX]
 refine⟨_,_,s3 _ _ e2,e3,by rw[List.length_map,List.length_map]; exact aS (by omega),fun cq hcq=>?_⟩
 have ecat:NM.map V.str++(dG L).map iN=(ce NM L).map kV:=by
  unfold ce
  rw[List.map_append,List.map_map,List.map_map]; rfl
 rw[ecat]
 have hkl:(ce NM L).length≤2000:=by unfold ce; rw[List.length_append,List.length_map,List.length_map]; omega
 generalize hks:ce NM L=ks at eRD hkl q ⊢
 have s4:=af hcq (.lst (ks.map kV))
 have ecq:upd H3 cq (.lst (ks.map kV)) cq=some (.lst (ks.map kV)):=ac
 generalize upd H3 cq (.lst (ks.map kV))=H4 at s4 ecq ⊢
 have s24:=(s2.trans s3).trans s4
 have eRD4:=s24 _ _ eRD
 have ncR:cq≠RD:=b7 ecq eRD4 (fun z=>nomatch z)
 walk_at "rd1"
 refine⟨⟨_,ecq⟩,?_⟩
 refine mQ (xs:=ks.map kV) (fun i σ H'=>∃ (o2 o3:Option V),σ=[some (.ref p),some (.ref RD),o2,o3]∧(∀ b o,b≠RD→H4 b=some o→H' b=some o)∧H' RD=some (.dK (fG ks i)))
  ⟨_,_,rfl,fun _ _ _ z=>z,eRD4⟩ (fun i σ H' _ hh=>by obtain⟨_,_,_,sb,_⟩:=hh; exact SqL.of (sb _ _ ncR ecq)) (fun i v t σ H5 hv hh ht=>?_) (fun σ H5 hh=>?_)
 ·obtain⟨o2,o3,rfl,sb,e5⟩:=hh
  rw[List.getElem?_map]at hv
  cases hi:ks[i]? with
  | none=>rw[hi]at hv; cases hv
  | some k0=>
   rw[hi]at hv; cases hv
   have hil:=(List.getElem?_eq_some_iff.mp hi).1
   have s6:=af ht (.tup [.int (i:Int),kV k0])
   have et:upd H5 t (.tup [.int (i:Int),kV k0]) t=some (.tup [.int (i:Int),kV k0]):=ac
   generalize upd H5 t (.tup [.int (i:Int),kV k0])=H6 at s6 et ⊢
   have hkt:=oj ks i
   walk_at "rd1"
   refine⟨t,_,rfl,SqT.of et,rfl,?_⟩
   walk_at "rd1"
   refine⟨RD,_,k0,rfl,rfl,s6 _ _ e5,bG (by omega),_,_,rfl,fun b o hb z=>by rw[ah hb]; exact s6 _ _ (sb b o hb z),?_⟩
   rw[ac,fY,List.getD_eq_getElem?_getD,hi]; rfl
 ·obtain⟨o2,o3,rfl,sb,e5⟩:=hh
  rw[List.length_map]at e5
  walk_at "nx"
  refine q RD H5 (fun b o z=>sb b o (au z hRD) (s4 _ _ (s3 _ _ (s12 _ _ z)))) hRD e5
end
theorem qr{f:List Stp→List Str}{g:List Stp→Nat}(h:∀ T,(f T).length=g T):∀ s:Stp,(bT f s).length=aU g s
 | .plain _=>rfl
 | .lend _ _ b=>by simp[bT,aU,h]
 | .ite _ b c=>by simp[bT,aU,h]; omega
 | .whl _ b=>by simp[bT,aU,h]
theorem iY:∀ (d:Nat) (T:List Stp),(b5 d T).length=aj d T
 | 0,_=>rfl
 | d+1,T=>by
  show (T.flatMap (bT (b5 d))).length=(T.map (aU (aj d))).sum
  induction T with
  | nil=>rfl
  | cons s T ih=>rw[List.flatMap_cons,List.length_append,List.map_cons,List.sum_cons,ih,qr (iY d)]
def Sub(L:List Str)(l:Nat)(X:List Str):Prop:=∀ (i:Nat) s,X[i]? = some s→L[l+i]? = some s
theorem Sub.left{L X Y:List Str}{l:Nat}(h:Sub L l (X++Y)):Sub L l X:=fun i s e=>h i s (by rw[List.getElem?_append_left (List.getElem?_eq_some_iff.mp e).1]; exact e)
theorem Sub.right{L X Y:List Str}{l:Nat}(h:Sub L l (X++Y)):Sub L (l+X.length) Y:=fun i s e=>by
 have:=h (X.length+i) s (by rw[List.getElem?_append_right (by omega),Nat.add_sub_cancel_left]; exact e)
 rw[← Nat.add_assoc]at this; exact this
def nC(f:List Stp→Prop)(N:Str→Prop):Stp→Prop
 | .plain ws=>(ws.headD "" = "do" → ws.length=3)∧∀ n∈bY ws,N n
 | .lend x y b=>N x∧N y∧f b
 | .ite _ b c=>f b∧f c
 | .whl _ b=>f b
def gT(N:Str→Prop):Nat→List Stp→Prop
 | 0,_=>False
 | d+1,T=>∀ s∈T,nC (gT N d) N s
theorem nv(x y:Str):fO (Txt.join " " ["lend", x,y])=true:=by
 have e:Txt.join " " ["lend", x,y]=("lend " : Str)++(x++((" " : Str)++y)):=by
  apply jt
  have h1:("lend " : Str).cps.toList=("lend" : Str).cps.toList++(" " : Str).cps.toList:=by decide +kernel
  rw[dj,dj,dj,h1]
  show ((("lend" : Str).cps++(" " : Str).cps++x.cps)++(" " : Str).cps++y.cps).toList=_
  simp only[Array.toList_append,List.append_assoc]
 rw[e]
 unfold fO
 have hl:("lend " : Str).length=5:=by decide +kernel
 rw[Str.length_append,hl,decide_eq_true (by omega),Bool.true_and]
 unfold PySem.Builtin.Str.subAt
 rw[hl,beq_iff_eq]
 apply Array.ext'
 rw[Array.toList_extract,dj]
 have h5:("lend " : Str).cps.toList.length=5:=by decide +kernel
 simp[List.extract_eq_drop_take,List.take_append,h5]
theorem vj{L:List Str}{i:Nat}{s:Str}(h:L[i]? = some s)(hs:fO s=true):i∈dG L:=by
 unfold dG
 rw[List.mem_filter]
 refine⟨List.mem_range.mpr (List.getElem?_eq_some_iff.mp h).1,?_⟩
 rw[List.getD_eq_getElem?_getD,h]; exact hs
section
variable{NM L:List Str}
theorem xW{f:Nat→List Stp→Prop}{g:List Stp→Prop}{d l:Nat}(hf:∀ l b,Sub L l (b5 d b)→g b→f l b):∀ (s:Stp),Sub L l (bT (b5 d) s)→nC g (fun n=>n∈NM) s→lT (fP (ce NM L)) f (aj d) l s
 | .plain ws,_,⟨h1,h2⟩=>⟨h1,fun n hn=>jw (by unfold ce; exact List.mem_append_left _ (List.mem_map.mpr ⟨n,h2 n hn,rfl⟩))⟩
 | .lend x y b,hS,⟨hx,hy,hb⟩=>by
  have hh:L[l]? = some (Txt.join " " ["lend", x,y]):=hS 0 _ rfl
  refine⟨jw (by unfold ce; exact List.mem_append_left _ (List.mem_map.mpr ⟨x,hx,rfl⟩)),jw (by unfold ce; exact List.mem_append_left _ (List.mem_map.mpr ⟨y,hy,rfl⟩)),jw (by unfold ce; exact List.mem_append_right _ (List.mem_map.mpr ⟨l,vj hh (nv x y),rfl⟩)),hf _ _ ?_ hb⟩
  have:Sub L l ([Txt.join " " ["lend", x,y]]++(b5 d b++[("back" : Str)])):=hS
  exact this.right.left
 | .ite n b c,hS,⟨hb,hc⟩=>by
  have:Sub L l ([Txt.join " " ["if", bH n]]++((b5 d b++[("else" : Str)])++(b5 d c++[("fi" : Str)]))):=hS
  refine⟨hf _ _ this.right.left.left hb,hf _ _ ?_ hc⟩
  have h2:=this.right.right.left
  rw[List.length_append,iY,List.length_singleton,List.length_singleton]at h2
  rw[show l+1+aj d b+1=l+1+(aj d b+1) by omega]; exact h2
 | .whl n b,hS,hb=>by
  have:Sub L l ([Txt.join " " ["while", bH n]]++(b5 d b++[("done" : Str)])):=hS
  exact hf _ _ this.right.left hb
theorem mr:∀ (d l:Nat) (T:List Stp),Sub L l (b5 d T)→gT (fun n=>n∈NM) d T→eI (fP (ce NM L)) d l T
 | 0,_,_,_,h=>h
 | d+1,l,T,hS,hN=>by
  have go:∀ (T:List Stp) (l:Nat),Sub L l (T.flatMap (bT (b5 d)))→(∀ s∈T,nC (gT (fun n=>n∈NM) d) (fun n=>n∈NM) s)→∀ z∈dA (aU (aj d)) l T,lT (fP (ce NM L)) (eI (fP (ce NM L)) d) (aj d) z.1 z.2:=fun T=>by
   induction T with
   | nil=>intro l _ _ z hz; cases hz
   | cons s T ih=>
    intro l hS hN z hz
    rw[List.flatMap_cons]at hS
    rcases List.mem_cons.mp hz with rfl | hz
    ·exact xW (fun l b h1 h2=>mr d l b h1 h2) s hS.left (hN s List.mem_cons_self)
    ·have h2:=hS.right
     rw[qr (iY d)]at h2
     exact ih (l+aU (aj d) s) h2 (fun s hs=>hN s (List.mem_cons_of_mem _ hs)) z hz
  exact go T l hS hN
end
section
variable{CN:Addr}{NO:Hp→Addr→List Str→Prop}
def jE(NM:List Str)(d:Nat)(t:Bool)(T:List Stp):List aP:=bF (fP (ce NM (b5 d T))) d t 0 0 T++[[.str "end", iN (aj d T)]]
structure pQ (NO:Hp→Addr→List Str→Prop) (H:Hp) (p:Addr) (d:Nat) (T:List Stp) (NM:List Str):Prop where
 prog:∃ S,ProgAt S d H p T
 ok:dZ d T
 no:NO H p NM
 ln:LinesAt d H p (b5 d T)
 nm:gT (fun n=>n∈NM) d T
 cnt:aj d T≤200
 nl:NM.length≤1000
 d20:d≤20
def rp(NO:Hp→Addr→List Str→Prop)(d:Nat):Sp:=fun vs H Q _=>∃ (p:Addr) (t:Bool) (T:List Stp) (NM:List Str),vs=[.ref p,.bl t]∧pQ NO H p d T NM∧∀ (q:Addr) (H':Hp),Same H H'→H q=none→ListR H' q (jE NM d t T)→Q (.ref q) H'
theorem uJ(noM:∀ {H H':Hp} {p:Addr} {NM:List Str},NO H p NM→Same H H'→NO H' p NM)(D:DefAt K mg "rows_and_end" bz) {d k:Nat} (hk1:1≤k) (c_numbered_steps:bg P w K mg base (2 * d+4) "numbered_steps" ["steps", "line"] (qa K CN d)) (c_rows_of:bg P w K mg base (3 * d+2) "rows_of" ["steps", "at", "slots", "turned"] (gj K CN d)) (c_slots_of:bg P w K mg base k "slots_of" ["program"] (si NO d)) (c_line_behind:bg P w K mg base 1 "line_behind" ["steps", "line"] (iL K CN)) (h1:2 * d+4≤k) (h2:3 * d+2≤k):bg P w K mg base (k+1) "rows_and_end" ["program", "turned"] (rp NO d):=by
 refine D.cal (k:=k) sc_rows_and_end (fun _ _ _ _ _ _ us hl=>match us,hl with | [_,_],_=>rfl) (fun vs H Q E h=>by obtain⟨_,_,_,_,rfl,_⟩:=h; rfl) (fun f cdv A outer s H vs Q E hr h=>?_)
 obtain⟨p,t,T,NM,rfl,I,q⟩:=h
 obtain⟨S,hP⟩:=I.prog
 have hcnt:=I.cnt
 refine⟨_,(ae (ar 2 sc_rows_and_end.nd (aJ c_numbered_steps hr (aa (pv 0 (hv:=Bp)) (aa ai ab)) (hg:=FW) (hle:=by omega)) (hx:=D4))
   (ak (aF (ao aw (aJ c_rows_of hr (aa (pv 2 (hv:=AN)) (aa ai (aa (aJ c_slots_of hr (aa (pv 0 (hv:=Bp)) ab) (hg:=FU) (hle:=by omega)) (aa (pv 1 (hv:=Eo)) ab)))) (hg:=Ej) (hle:=by omega)) (bi (aa (bb (aa al (aa (aJ c_line_behind hr (aa (pv 2 (hv:=AN)) (aa ai ab)) (hg:=D9) (hle:=by omega)) ab))) ab)))))),?_⟩
 walk_at "rd1"
 refine⟨p,0,T,S,rfl,hP,I.ok,by omega,fun nq H1 s1 hN=>?_⟩
 walk_at "nx"
 refine⟨p,NM,b5 d T,rfl,noM I.no s1,I.ln.mono _ s1,by rw[iY]; omega,I.nl,fun sq H2 s2 hsq e2=>?_⟩
 refine⟨nq,sq,0,0,t,T,_,_,rfl,hN.mono s2,I.ok,e2,mr d 0 T (fun i s e=>by rw[Nat.zero_add]; exact e) I.nm,I.cnt,I.d20,fun rq H3 s3 hrq hR=>?_⟩
 have hRl:=dB (kv:=fP (ce NM (b5 d T))) (a:=0) (l:=0) (t:=t) I.cnt I.d20
 generalize hRR:bF (fP (ce NM (b5 d T))) d t 0 0 T=R at hR hRl
 have s23:=s2.trans s3
 cases d with
 | zero=>exact hN.elim
 | succ d=>
  refine⟨nq,0,d,T,_,rfl,hN.mono s23,by omega,?_⟩
  walk_at "rd1"
  refine⟨by decide,fun t1 ht1=>?_⟩
  generalize hH4:upd H3 t1 _=H4
  have s4:Same H3 H4:=by rw[← hH4]; exact af ht1 _
  have et1:bf H4 t1 [.str "end", iN (aj (d+1) T)]:=by
   show H4 t1=_
   rw[← hH4,ac,Nat.zero_add]; rfl
  refine⟨by decide,fun m1 hm1=>?_⟩
  have s5:=af hm1 (.lst [.ref t1])
  have L1:=eQ et1 hm1
  generalize upd H4 m1 (.lst [.ref t1])=H5 at s5 L1 ⊢
  obtain⟨as1,a1,a2⟩:=hR.mono (s4.trans s5)
  obtain⟨bs1,b1,b2⟩:=L1
  refine⟨_,_,a1,b1,dJ a2 b2 (by simp only[List.length_cons,List.length_nil]; omega),fun m2 hm2=>?_⟩
  have s6:=af hm2 (.lst (as1.map V.ref++bs1.map V.ref))
  have L2:=ee a2 b2 hm2
  generalize upd H5 m2 (.lst (as1.map V.ref++bs1.map V.ref))=H6 at s6 L2 ⊢
  have s05:=((s1.trans s23).trans s4).trans s5
  refine q m2 H6 (s05.trans s6) (s05.free hm2) ?_
  unfold jE
  rw[hRR]
  exact L2
def pD(NO:Hp→Addr→List Str→Prop)(d:Nat):Sp:=fun vs H Q _=>∃ (p:Addr) (T:List Stp) (NM:List Str),vs=[.ref p]∧pQ NO H p d T NM∧∀ (q:Addr) (H':Hp),Same H H'→H q=none→ListR H' q (jE NM d true T)→Q (.ref q) H'
theorem vV(D:DefAt K mg "turned_code" cw) {d k:Nat} (c_rows_and_end:bg P w K mg base k "rows_and_end" ["program", "turned"] (rp NO d)):bg P w K mg base (k+1) "turned_code" ["program"] (pD NO d):=by
 refine D.cal (k:=k) lD (fun _ _ _ _ _ _ us hl=>match us,hl with | [_],_=>rfl) (fun vs H Q E h=>by obtain⟨_,_,_,rfl,_⟩:=h; rfl) (fun f cdv A outer s H vs Q E hr h=>?_)
 obtain⟨p,T,NM,rfl,I,q⟩:=h
 refine⟨_,(ak (aF (aJ c_rows_and_end hr (aa (pv 0 (hv:=FY)) (aa d0 ab)) (hg:=FZ) (hle:=by omega)))),?_⟩
 walk_at "rd1"
 exact⟨p,true,T,NM,rfl,I,q⟩
end
end
def dL:Stp→List (List Stp)
 | .plain _=>[]
 | .lend _ _ b=>[b]
 | .ite _ b c=>[b,c]
 | .whl _ b=>[b]
def eS(f:List Stp→List Stp)(s:Stp):List Stp:=s::(dL s).flatMap f
def bQ:Nat→List Stp→List Stp
 | 0,_=>[]
 | d+1,T=>T.flatMap (eS (bQ d))
inductive fw:List Str→Prop
 | opn (x:Str):fw ["open", x]
 | drp (x:Str):fw ["drop", x]
 | cpy (x y:Str):fw ["copy", x,y]
 | tie (x y:Str):fw ["tie", x,y]
 | doo (u x:Str):fw ["do", u,x]
def bo:Stp→List Str
 | .plain ws=>if ws.headD "" = "do" then ws.drop 2 else ws.drop 1
 | .lend x y _=>[x,y]
 | .ite _ _ _=>[]
 | .whl _ _=>[]
def fu(f:List Stp→Prop):Stp→Prop
 | .plain ws=>fw ws
 | .lend _ _ b=>f b
 | .ite _ b c=>f b∧f c
 | .whl _ b=>f b
def jg:Nat→List Stp→Prop
 | 0,_=>False
 | d+1,T=>∀ s∈T,fu (jg d) s
def headAt(H:Hp)(a:Addr)(s:Stp):Prop:=stpAt (fun _ _=>True) H a s
theorem headAt.mono{H H':Hp}{a:Addr}{s:Stp}(h:headAt H a s)(sm:Same H H'):headAt H' a s:=stpAt.imp (fun b xs e=>sm _ _ e) (fun _ _ _=>trivial) h
theorem tz{PA:Addr→List Stp→Prop}{H:Hp}{a:Addr}{g:List Stp→Prop}:∀ {s:Stp},stpAt PA H a s→fu g s→∃ (kind:Str) (hs:List V) (bs:List Addr),H a=some (.tup (.str kind::hs++bs.map V.ref))∧bs.length=(br kind).length∧Paired PA bs (dL s)∧∀ b∈dL s,g b
 | .plain ws,h,ok=>by
  cases ok with
  | opn x=>exact⟨"open", [.str x],[],h,by show 0=(br "open").length; decide,.nil,by simp[dL]⟩
  | drp x=>exact⟨"drop", [.str x],[],h,by show 0=(br "drop").length; decide,.nil,by simp[dL]⟩
  | cpy x y=>exact⟨"copy", [.str x,.str y],[],h,by show 0=(br "copy").length; decide,.nil,by simp[dL]⟩
  | tie x y=>exact⟨"tie", [.str x,.str y],[],h,by show 0=(br "tie").length; decide,.nil,by simp[dL]⟩
  | doo u x=>exact⟨"do", [.str u,.str x],[],h,by show 0=(br "do").length; decide,.nil,by simp[dL]⟩
 | .lend x y b,⟨q,h,z⟩,ok=>⟨"lend", [.str x,.str y],[q],h,by show 1=(br "lend").length; decide,.cons z .nil,by simpa [dL,fu] using ok⟩
 | .ite n b c,⟨q,r,h,z,y⟩,ok=>⟨"if", [.int n],[q,r],h,by show 2=(br "if").length; decide,.cons z (.cons y .nil),by simpa [dL,fu] using ok⟩
 | .whl n b,⟨q,h,z⟩,ok=>⟨"while", [.int n],[q],h,by show 1=(br "while").length; decide,.cons z .nil,by simpa [dL,fu] using ok⟩
def oP(d:Nat):Sp:=fun vs H Q _=>∃ (p:Addr) (T:List Stp) (S:Addr→Prop),vs=[.ref p]∧ProgAt S d H p T∧jg d T∧(bQ d T).length≤5000∧
 ∀ (q:Addr) (H':Hp) (ads:List Addr),Same H H'→H q=none→H' q=some (.lst (ads.map V.ref))→Paired (headAt H') ads (bQ d T)→Q (.ref q) H'
theorem nR{α β : Type}(f:α→List β)(T:List α)(i:Nat):((T.take i).flatMap f).length≤(T.flatMap f).length:=by
 rw[List.flatMap_def,List.flatMap_def,List.map_take]; exact lS _ _
theorem jC{α β : Type}(f:α→List β){T:List α}{i:Nat}{x:α}(h:T[i]? = some x):(T.take (i+1)).flatMap f=(T.take i).flatMap f++f x:=by
 rw[List.take_add_one,h,List.flatMap_append]; simp
theorem kE{α β : Type}{R:α→β→Prop}:∀ {xs zs:List α} {ys us:List β},Paired R xs ys→Paired R zs us→Paired R (xs++zs) (ys++us)
 | _,_,_,_,.nil,h=>h
 | _,_,_,_,.cons h t,h'=>.cons h (kE t h')
section
variable{P:Program}{w:World}{K:PySem.W.Frag}{mg:Str→Option Value}{base:Heap}
theorem mX(D:DefAt K mg "steps_within" bn) (c_blocks_of:bg P w K mg base 3 "blocks_of" ["step"] (gq K)):∀ d:Nat,bg P w K mg base (d+4) "steps_within" ["program"] (oP d)
 | 0=>D.cal (k:=3) sc_steps_within (fun _ _ _ _ _ _ us hl=>match us,hl with | [_],_=>rfl) (fun vs H Q E h=>by obtain⟨p,T,S,rfl,_⟩:=h; rfl) (fun f cdv A outer s H vs Q E hr h=>by obtain⟨p,T,S,rfl,z,_⟩:=h; exact z.elim)
 | d+1=>by
  have c_steps_within:=mX D c_blocks_of d
  refine D.cal (k:=d+4) sc_steps_within (fun _ _ _ _ _ _ us hl=>match us,hl with | [_],_=>rfl) (fun vs H Q E h=>by obtain⟨p,T,S,rfl,_⟩:=h; rfl) (fun f cdv A outer s H vs Q E hr h=>?_)
  obtain⟨p,T,S,rfl,⟨hS,as,h1,h2⟩,ok,hL,q⟩:=h
  have hlen:=av h2
  refine⟨_,(ae (ar 1 sc_steps_within.nd (bi ab) (hx:=Gy))
   (ae (cE PassesOwn.never rfl (dz K (pv 0 (hv:=Hx))) (bj 2 sc_steps_within.nd (hx:=G3)) (ae (aQ (aI K PySem.F.plainAttrs_list PySem.F.slot_list_append PySem.F.type_list_append aL (pv 1 (hv:=Co)) (aa (pv 2 (hv:=CZ)) ab)))
   (ak (cE PassesOwn.never rfl (jG K (aJ c_blocks_of hr (aa (pv 2 (hv:=CZ)) ab) (hg:=GC) (hle:=by omega))) (bj 3 sc_steps_within.nd (hx:=GK)) (ak (aQ (aI K PySem.F.plainAttrs_list PySem.F.slot_list_extend PySem.F.type_list_extend cS (pv 1 (hv:=Co)) (aa (aJ c_steps_within hr (aa (pv 3 (hv:=G5)) ab) (hg:=F8) (hle:=by omega)) ab))))))))
   (ak (aF (pv 1 (hv:=Co)))))),?_⟩
  walk_at "rd1"
  refine⟨by decide,fun lp hlp=>?_⟩
  generalize hH1:upd H lp _=H1
  have sm1:=eJ hH1 hlp
  have e1:=gf hH1
  walk_at "nx"
  refine⟨⟨_,SqL.of (sm1 _ _ h1)⟩,?_⟩
  refine dn (xs:=as.map V.ref) (fun i σ H'=>∃ (ads:List Addr) (o2 o3:Option V),σ=[some (.ref p),some (.ref lp),o2,o3]∧Same H H'∧H' lp=some (.lst (ads.map V.ref))∧Paired (headAt H') ads ((T.take i).flatMap (eS (bQ d))))
   ⟨[],none,none,rfl,sm1,e1,.nil⟩ (fun i σ H' _ h=>by obtain⟨_,_,_,_,sm,_⟩:=h; exact SqL.of (sm _ _ h1)) ?_ ?_
  ·rintro i v σ H' hv ⟨ads,o2,o3,rfl,sm,hl,hp⟩
   have hi:i<as.length:=by have:=(List.getElem?_eq_some_iff.mp hv).1; simpa using this
   rw[List.getElem?_map,List.getElem?_eq_getElem hi]at hv
   cases hv
   obtain⟨s,hs,st⟩:=b6 h2 (List.getElem?_eq_getElem hi)
   have oks:=ok s (List.mem_of_getElem? hs)
   obtain⟨kind,hds,bs,ha,hbl,hbp,hbo⟩:=tz st oks
   have hflat:=jC (eS (bQ d)) hs
   have hfl:=nR (eS (bQ d)) T (i+1)
   have hL':(T.flatMap (eS (bQ d))).length≤5000:=hL
   rw[hflat]at hfl ⊢
   have hpl:=av hp
   generalize (T.take i).flatMap (eS (bQ d))=pre at hp hfl hpl ⊢
   have hps:(eS (bQ d) s).length=1+((dL s).flatMap (bQ d)).length:=by show (s::_).length=_; rw[List.length_cons]; omega
   rw[List.length_append,hps]at hfl
   have hhd:headAt H as[i] s:=stpAt.imp (fun b xs e=>e) (fun _ _ _=>trivial) st
   walk_at "rd1"
   refine⟨⟨_,SqL.of hl⟩,_,hl,by rw[List.length_map]; exact bG (by omega),?_⟩
   have upl:∀ {X:Hp} {o:HO} {l:List Addr} {us:List Stp} {ys:List V},X lp=some (.lst ys)→Paired (headAt X) l us→Paired (headAt (upd X lp o)) l us:=fun {X o l us ys} e h=>Paired.imp' (fun a s z=>stpAt.imp (fun b xs e'=>by rw[ah (b7 e' e (fun z=>nomatch z))]; exact e') (fun _ _ _=>trivial) z) h
   have hp2:=upl (o:=.lst (ads.map V.ref++[.ref as[i]])) hl hp
   have sm2:Same H (upd H' lp (.lst (ads.map V.ref++[.ref as[i]]))):=sm.upd hlp _
   have e2:upd H' lp (.lst (ads.map V.ref++[.ref as[i]])) lp=some (.lst ((ads++[as[i]]).map V.ref)):=by rw[ac,List.map_append]; rfl
   generalize upd H' lp (.lst (ads.map V.ref++[.ref as[i]]))=H2 at hp2 sm2 e2 ⊢
   have hat:SqT K H2 as[i] (.str kind::(hds++bs.map V.ref)):=SqT.of (sm2 _ _ ha)
   have hcl:(br kind).length≤(hds++bs.map V.ref).length+1:=by rw[List.length_append,List.length_map,hbl]; omega
   have hcut:(hds++bs.map V.ref).length+1 - (br kind).length=hds.length+1:=by rw[List.length_append,List.length_map,hbl]; omega
   walk_at "nx"
   refine⟨as[i],kind,hds++bs.map V.ref,rfl,hat,hcl,fun bp H3 sm3 hbp3=>?_⟩
   rw[hcut]at hbp3
   have edr:(V.str kind::(hds++bs.map V.ref)).drop (hds.length+1)=bs.map V.ref:=by rw[List.drop_succ_cons,List.drop_left']; rfl
   rw[edr]at hbp3
   walk_at "rd1"
   refine⟨⟨_,hbp3⟩,?_⟩
   have hil:=av hbp
   refine pI (xs:=bs.map V.ref) (fun j σ H'=>∃ (ads':List Addr) (o3:Option V),σ=[some (.ref p),some (.ref lp),some (.ref as[i]),o3]∧Same H H'∧SqT K H' bp (bs.map V.ref)∧H' lp=some (.lst (ads'.map V.ref))∧Paired (headAt H') ads' (pre++(s::((dL s).take j).flatMap (bQ d))))
    ⟨ads++[as[i]],o3,rfl,sm2.trans sm3,hbp3,sm3 _ _ e2,?_⟩ (fun j σ H' _ h=>by obtain⟨_,_,_,_,z1,_⟩:=h; exact z1) ?_ ?_
   ·exact cv (R:=headAt H3) (hhd.mono (sm2.trans sm3)) (Paired.imp' (fun a s z=>headAt.mono z sm3) hp2)
   ·rintro j x σ H4 hx ⟨ads',o3,rfl,sm4,hb4,hl4,hp4⟩
    have hj:j<bs.length:=by have:=(List.getElem?_eq_some_iff.mp hx).1; simpa using this
    rw[List.getElem?_map,List.getElem?_eq_getElem hj]at hx
    cases hx
    obtain⟨b,hb,hpb⟩:=b6 hbp (List.getElem?_eq_getElem hj)
    have hsn:=jC (bQ d) hb
    have hle:=nR (bQ d) (dL s) (j+1)
    rw[hsn]at hle ⊢
    rw[List.length_append]at hle
    have hpl4:=av hp4
    rw[List.length_append,List.length_cons]at hpl4
    walk_at "rd1"
    refine⟨⟨_,SqL.of hl4⟩,bs[j],b,S,rfl,hpb.mono sm4,hbo b (List.mem_of_getElem? hb),by omega,fun r H5 ads5 sm5 hr5 hl5 hp5=>?_⟩
    have hpl5:=av hp5
    walk_at "rd1"
    refine⟨_,_,sm5 _ _ hl4,hl5,aS (by rw[List.length_map,List.length_map]; omega),?_⟩
    refine⟨ads'++ads5,_,rfl,(sm4.trans sm5).upd hlp _,(hb4.same sm5).updL (sm5 _ _ hl4),by rw[ac,List.map_append],?_⟩
    rw[← List.cons_append,← List.append_assoc]
    exact kE (upl (sm5 _ _ hl4) (Paired.imp' (fun a s z=>headAt.mono z sm5) hp4)) (upl (sm5 _ _ hl4) hp5)
   ·rintro σ H4 ⟨ads',o3,rfl,sm4,hb4,hl4,hp4⟩
    rw[List.length_map,List.take_of_length_le (by omega)]at hp4
    exact⟨ads',_,_,rfl,sm4,hl4,hp4⟩
  ·rintro σ H' ⟨ads,o2,o3,rfl,sm,hl,hp⟩
   walk_at "nx"
   rw[List.length_map,List.take_of_length_le (by omega)]at hp
   exact q lp H' ads sm hlp hl hp
def eT(acc:List Str)(x:Str):List Str:=if x∈acc then acc else acc++[x]
def cQ(l:List Str):List Str:=l.foldl eT []
def jn(l:List Str):List (ax × V):=l.map fun x=>(Sum.inr x,V.bl true)
theorem z_(acc:List Str)(x:Str):aZ (jn acc) (.inr x) (.bl true)=jn (eT acc x):=by
 unfold aZ eT
 by_cases h:x∈acc
 ·rw[if_pos h]
  have ha:((jn acc).any fun kv=>decide (kv.1=(Sum.inr x:ax)))=true:=by
   rw[List.any_eq_true]
   exact⟨(.inr x,.bl true),List.mem_map.mpr ⟨x,h,rfl⟩,by simp⟩
  rw[if_pos ha]
  unfold jn
  rw[List.map_map]
  refine List.map_congr_left fun y _=>?_
  by_cases e:y=x
  ·subst e; simp
  ·have:¬ ((Sum.inr y:ax)=Sum.inr x):=fun z=>e (Sum.inr.inj z)
   simp[this]
 ·rw[if_neg h]
  have ha:((jn acc).any fun kv=>decide (kv.1=(Sum.inr x:ax)))=false:=by
   rw[List.any_eq_false]
   intro kv hkv
   obtain⟨y,hy,rfl⟩:=List.mem_map.mp hkv
   have:¬ ((Sum.inr y:ax)=Sum.inr x):=fun z=>h (Sum.inr.inj z ▸ hy)
   simp[this]
  rw[if_neg (by rw[ha]; exact Bool.false_ne_true)]
  unfold jn
  rw[List.map_append]; rfl
theorem gm:∀ (l acc:List Str),(l.foldl eT acc).length≤acc.length+l.length
 | [],acc=>by simp
 | x::l,acc=>by
  have:=gm l (eT acc x)
  have h2:(eT acc x).length≤acc.length+1:=by unfold eT; split <;> simp
  rw[List.foldl_cons,List.length_cons]; omega
def cm:List V→List Str→List Str
 | .str x::xs,k::ks=>if k = "name" then x::cm xs ks else cm xs ks
 | _::xs,_::ks=>cm xs ks
 | _,_=>[]
def dQ:List (Str × List Str):=[("open", ["name"]),("do", ["word", "name"]),("copy", ["name", "name"]),("drop", ["name"]),("tie", ["name", "name"]),("lend", ["name", "name", "steps"]),("if", ["bound", "steps", "steps"]),("while", ["bound", "steps"])]
structure GS (H:Hp) (a:Addr) (s:Stp) (kind:Str) (xs:List V) (ks:List Str):Prop where
 at':H a=some (.tup (.str kind::xs))
 kd:(kind,ks)∈dQ
 len:xs.length=ks.length
 txt:∀ (i:Nat) (x:V),xs[i]? = some x→ks[i]? = some "name" → ∃ y,x = .str y
 names:cm xs ks=bo s
theorem oS{α : Type}{a b x:α}{i:Nat}(h:[a,b][i]? = some x):(i=0∧x=a)∨(i=1∧x=b):=by
 match i,h with
 | 0,h=>exact .inl ⟨rfl,by simpa using h.symm⟩
 | 1,h=>exact .inr ⟨rfl,by simpa using h.symm⟩
 | i+2,h=>simp at h
theorem tq{H:Hp}{a:Addr}{g:List Stp→Prop}:∀ {s:Stp},headAt H a s→fu g s→∃ kind xs ks,GS H a s kind xs ks
 | .plain ws,h,ok=>by
  cases ok with
  | opn x=>exact⟨"open", [.str x],["name"],h,by simp[dQ],rfl,fun i y e _=>by match i,e with | 0,e=>exact⟨x,by simpa using e.symm⟩ | i+1,e=>simp at e,by simp[cm,bo]; decide⟩
  | drp x=>exact⟨"drop", [.str x],["name"],h,by simp[dQ],rfl,fun i y e _=>by match i,e with | 0,e=>exact⟨x,by simpa using e.symm⟩ | i+1,e=>simp at e,by simp[cm,bo]; decide⟩
  | cpy x y=>exact⟨"copy", [.str x,.str y],["name", "name"],h,by simp[dQ],rfl,fun i z e _=>by rcases oS e with ⟨_,rfl⟩ | ⟨_,rfl⟩ <;> exact⟨_,rfl⟩,by simp[cm,bo]; decide⟩
  | tie x y=>exact⟨"tie", [.str x,.str y],["name", "name"],h,by simp[dQ],rfl,fun i z e _=>by rcases oS e with ⟨_,rfl⟩ | ⟨_,rfl⟩ <;> exact⟨_,rfl⟩,by simp[cm,bo]; decide⟩
  | doo u x=>exact⟨"do", [.str u,.str x],["word", "name"],h,by simp[dQ],rfl,fun i z e _=>by rcases oS e with ⟨_,rfl⟩ | ⟨_,rfl⟩ <;> exact⟨_,rfl⟩,by simp[cm,bo]; decide⟩
 | .lend x y b,⟨q,h,_⟩,ok=>⟨"lend", [.str x,.str y,.ref q],["name", "name", "steps"],h,by simp[dQ],rfl,fun i z e e2=>by match i,e,e2 with | 0,e,e2=>exact⟨_,by simpa using e.symm⟩ | 1,e,e2=>exact⟨_,by simpa using e.symm⟩ | 2,e,e2=>exact absurd (by simpa using e2) (show ¬ (("steps" : Str) = "name") from by decide) | i+3,e,e2=>simp at e,by simp[cm,bo]⟩
 | .ite n b c,⟨q,r,h,_,_⟩,ok=>⟨"if", [.int n,.ref q,.ref r],["bound", "steps", "steps"],h,by simp[dQ],rfl,fun i z e e2=>by match i,e,e2 with | 0,e,e2=>exact absurd (by simpa using e2) (show ¬ (("bound" : Str) = "name") from by decide) | 1,e,e2=>exact absurd (by simpa using e2) (show ¬ (("steps" : Str) = "name") from by decide) | 2,e,e2=>exact absurd (by simpa using e2) (show ¬ (("steps" : Str) = "name") from by decide) | i+3,e,e2=>simp at e,by simp[cm,bo]⟩
 | .whl n b,⟨q,h,_⟩,ok=>⟨"while", [.int n,.ref q],["bound", "steps"],h,by simp[dQ],rfl,fun i z e e2=>by match i,e,e2 with | 0,e,e2=>exact absurd (by simpa using e2) (show ¬ (("bound" : Str) = "name") from by decide) | 1,e,e2=>exact absurd (by simpa using e2) (show ¬ (("steps" : Str) = "name") from by decide) | i+2,e,e2=>simp at e,by simp[cm,bo]⟩
theorem pT:∀ {xs:List V} {ks:List Str} (x:V) (k:Str),xs.length=ks.length→cm (xs++[x]) (ks++[k])=cm xs ks++cm [x] [k]
 | [],[],x,k,_=>rfl
 | [],_::_,_,_,h=>by simp at h
 | _::_,[],_,_,h=>by simp at h
 | y::xs,c::ks,x,k,h=>by
  have ih:=pT (xs:=xs) (ks:=ks) x k (by simpa using h)
  cases y <;> simp only[List.cons_append,cm,ih]
  split <;> simp
theorem nN(xs:List V)(ks:List Str)(j:Nat)(h:xs.length=ks.length):(cm (xs.take j) (ks.take j)).length≤(cm xs ks).length:=by
 induction xs generalizing ks j with
 | nil=>simp[cm]
 | cons y xs ih=>
  cases ks with
  | nil=>simp at h
  | cons c ks=>
   cases j with
   | zero=>simp[cm]
   | succ j=>
    have:=ih ks j (by simpa using h)
    rw[List.take_succ_cons,List.take_succ_cons]
    cases y <;> simp only[cm] <;> (try split) <;> (try simp only[List.length_cons]) <;> omega
theorem w6{K:PySem.W.Frag}{H:Hp}{a l:Addr}{xs:List V}{kvs:List (ax × V)}{o:HO}(h:SqT K H a xs)(hl:H l=some (.dK kvs)):SqT K (upd H l o) a xs:=by
 rcases h with (h | ⟨o',h⟩) | h
 ·exact .inl (.inl (by rw[ah (b7 h hl (fun z=>nomatch z))]; exact h))
 ·exact .inl (.inr ⟨o',by rw[ah (b7 h hl (fun z=>nomatch z))]; exact h⟩)
 ·exact .inr h
def nB:Sp:=fun vs H Q _=>∃ (sp:Addr) (ads:List Addr) (Ps:List Stp) (g:List Stp→Prop),vs=[.ref sp]∧H sp=some (.lst (ads.map V.ref))∧Paired (headAt H) ads Ps∧(∀ s∈Ps,fu g s)∧(Ps.flatMap bo).length≤5000∧
 ∀ (q:Addr) (H':Hp),Same H H'→H q=none→H' q=some (.lst ((cQ (Ps.flatMap bo)).map V.str))→Q (.ref q) H'
theorem uP(D:DefAt K mg "names_in" bI) (z_zip:mg "zip" = none) (z_list:mg "list" = none) {dP:Addr} {kvs:List (Str × V)} (g_PARTS:mg "PARTS" = some (.ref dP)) (m:ModD w K dP kvs)
  (qk:∀ kind ks,(kind,ks)∈dQ→∃ a,aM kvs kind=some (.ref a)∧∀ H:Hp,SqT K H a (ks.map V.str)):bg P w K mg base 1 "names_in" ["steps"] nB:=by
 refine D.cal sc_names_in (fun _ _ _ _ _ _ us hl=>match us,hl with | [_],_=>rfl) (fun vs H Q E h=>by obtain⟨_,_,_,_,rfl,_⟩:=h; rfl) (fun f cdv A outer s H vs Q E hr h=>?_)
 obtain⟨sp,ads,Ps,g,rfl,hsp,hp,hok,hL,q⟩:=h
 have hlen:=av hp
 refine⟨_,(ae (ar 1 sc_names_in.nd ir (hx:=GV))
   (ae (cE PassesOwn.never rfl (dz K (pv 0 (hv:=Gc))) (bj 2 sc_names_in.nd (hx:=Gi)) (ak (cE PassesOwn.never rfl (lZ K Gu z_zip (aa (cj (ie K) (pv 2 (hv:=Dd)) (cr ai) cV) (aa (ay (FR w K) (qZ g_PARTS (hg:=GG)) (ay (aW K) (pv 2 (hv:=Dd)) ai (fun _ _=>rfl)) (fun _ _=>rfl)) ab))) (dR K (n:=2) (bW (bj 3 sc_names_in.nd (hx:=Gk)) (bW (bj 4 sc_names_in.nd (hx:=GE)) dS))) (ak (bN (aG b8 (pv 4 (hv:=Ha)) al (bc _)) (ak (im d0 (kS (pv 1 (hv:=Dm)) (pv 3 (hv:=GA)) (nQ hr)))) bB)))))
   (ak (aF (ef (uL hr) z_list rN (aa (pv 1 (hv:=Dm)) ab) (hg:=GD)))))),?_⟩
 walk_at "rd1"
 refine fun dp hdp=>?_
 generalize hH1:upd H dp _=H1
 have sm1:=eJ hH1 hdp
 have e1:=gf hH1
 walk_at "nx"
 refine⟨⟨_,SqL.of (sm1 _ _ hsp)⟩,?_⟩
 refine dn (xs:=ads.map V.ref) (fun i σ H'=>∃ o2 o3 o4:Option V,σ=[some (.ref sp),some (.ref dp),o2,o3,o4]∧Same H H'∧H' dp=some (.dK (jn (cQ ((Ps.take i).flatMap bo)))))
  ⟨none,none,none,rfl,sm1,e1⟩ (fun i σ H' _ h=>by obtain⟨_,_,_,_,sm,_⟩:=h; exact SqL.of (sm _ _ hsp)) ?_ ?_
 ·rintro i v σ H' hv ⟨o2,o3,o4,rfl,sm,hd⟩
  have hi:i<ads.length:=by have:=(List.getElem?_eq_some_iff.mp hv).1; simpa using this
  rw[List.getElem?_map,List.getElem?_eq_getElem hi]at hv
  cases hv
  obtain⟨s,hs,st⟩:=b6 hp (List.getElem?_eq_getElem hi)
  obtain⟨kind,xs,ks,hd1,hd2,hd3,hd4,hd5⟩:=tq st (hok s (List.mem_of_getElem? hs))
  obtain⟨ka,hka,hks⟩:=qk kind ks hd2
  have hsn:=jC bo hs
  have hfl:=nR bo Ps (i+1)
  rw[hsn]at hfl ⊢
  have hded:cQ ((Ps.take i).flatMap bo++bo s)=(bo s).foldl eT (cQ ((Ps.take i).flatMap bo)):=by unfold cQ; rw[List.foldl_append]
  rw[hded]
  have hac:=gm ((Ps.take i).flatMap bo) []
  rw[List.length_append]at hfl
  rw[List.length_nil]at hac
  have hac':(cQ ((Ps.take i).flatMap bo)).length≤((Ps.take i).flatMap bo).length:=by unfold cQ; omega
  generalize cQ ((Ps.take i).flatMap bo)=acc at hd hac' ⊢
  have hat:SqT K H' ads[i] (.str kind::xs):=SqT.of (sm _ _ hd1)
  walk_at "rd1"
  refine gJ hat fun p2 H2 sm2 h2=>?_
  have e1:df (V.str kind::xs) (some 1) none=xs:=fm _ 1
  rw[e1]at h2
  walk_at "rd1"
  refine⟨_,_,.inr (hat.same sm2),cM,dP,kvs,kind,.ref ka,rfl,rfl,m,hka,?_⟩
  refine⟨p2,ka,rfl,⟨_,h2⟩,⟨_,hks _⟩,?_⟩
  refine jm (xs:=xs) (ys:=ks.map V.str) (fun j σ H'=>∃ o3 o4:Option V,σ=[some (.ref sp),some (.ref dp),some (.ref ads[i]),o3,o4]∧Same H H'∧SqT K H' p2 xs∧H' dp=some (.dK (jn ((cm (xs.take j) (ks.take j)).foldl eT acc))))
   (by rw[List.length_map]; exact hd3) ⟨o3,o4,rfl,sm.trans sm2,h2,sm2 _ _ hd⟩ (fun j σ H' _ h=>by obtain⟨_,_,_,_,z1,_⟩:=h; exact⟨z1,hks _⟩) ?_ ?_
  ·rintro j x y t σ H3 hx hy ⟨o3,o4,rfl,sm3,h3,hd3'⟩ ht
   have hjx:j<xs.length:=(List.getElem?_eq_some_iff.mp hx).1
   have hjk:j<ks.length:=by omega
   have hkj:ks[j]? = some ks[j]:=List.getElem?_eq_getElem hjk
   rw[List.getElem?_map,hkj]at hy
   cases hy
   have ht1:xs.take (j+1)=xs.take j++[x]:=by rw[List.take_add_one,hx]; rfl
   have ht2:ks.take (j+1)=ks.take j++[ks[j]]:=by rw[List.take_add_one,hkj]; rfl
   have hpa:=pT (xs:=xs.take j) (ks:=ks.take j) x ks[j] (by rw[List.length_take,List.length_take,hd3])
   have hpl:=nN xs ks j hd3
   rw[hd5]at hpl
   have hfl2:=gm (cm (xs.take j) (ks.take j)) acc
   rw[ht1,ht2,hpa]
   have htx:=hd4 j x hx
   rw[hkj]at htx
   generalize ks[j]=kj at hpa htx ⊢
   generalize cm (xs.take j) (ks.take j)=pk at hd3' hpl hfl2 ⊢
   have st:=af ht (.tup [x,V.str kj])
   have et:upd H3 t (.tup [x,V.str kj]) t=some (.tup [x,V.str kj]):=ac
   generalize upd H3 t (.tup [x,V.str kj])=H4 at st et ⊢
   walk_at "rd1"
   refine⟨t,_,rfl,SqT.of et,rfl,?_⟩
   walk_at "rd1"
   refine bA (fun c=>?_) (fun c=>?_)
   ·subst c
    obtain⟨z,rfl⟩:=htx rfl
    have hd4':=st _ _ hd3'
    refine⟨dp,_,.inr z,rfl,rfl,hd4',by unfold jn; rw[List.length_map]; exact bG (by omega),?_⟩
    rw[z_]
    refine⟨_,_,rfl,(sm3.trans st).upd hdp _,w6 (h3.same st) hd4',?_⟩
    rw[ac,List.foldl_append]; rfl
   ·have hno:cm [x] [kj]=[]:=by
     cases x <;> simp[cm,c]
    rw[hno,List.append_nil]
    exact⟨_,_,rfl,sm3.trans st,h3.same st,st _ _ hd3'⟩
  ·rintro σ H3 ⟨o3,o4,rfl,sm3,h3,hd3'⟩
   rw[List.take_length,List.take_of_length_le (by omega),hd5]at hd3'
   exact⟨_,_,_,rfl,sm3,hd3'⟩
 ·rintro σ H' ⟨o2,o3,o4,rfl,sm,hd⟩
  walk_at "nx"
  rw[List.length_map,List.take_of_length_le (by omega)]at hd
  have hac:=gm (Ps.flatMap bo) []
  rw[List.length_nil]at hac
  refine⟨_,hd,by unfold jn cQ; rw[List.length_map]; omega,fun l hl=>q l _ (sm.trans (af hl _)) (sm.free hl) ?_⟩
  rw[ac]
  unfold jn
  rw[List.map_map]; rfl
def mR:Sp:=fun vs H Q _=>∃ (p:Addr) (T:List Stp) (S:Addr→Prop),vs=[.ref p]∧ProgAt S 10 H p T∧jg 10 T∧(bQ 10 T).length≤1000∧((bQ 10 T).flatMap bo).length≤5000∧
 ∀ (q:Addr) (H':Hp),Same H H'→H q=none→H' q=some (.lst ((cQ ((bQ 10 T).flatMap bo)).map V.str))→Q (.ref q) H'
theorem pE:∀ (d:Nat) {T:List Stp},jg d T→∀ s∈bQ d T,∃ g:List Stp→Prop,fu g s
 | 0,_,h,_,_=>h.elim
 | d+1,T,ok,s,hs=>by
  obtain⟨u,hu,hs⟩:=List.mem_flatMap.mp hs
  have o:=ok u hu
  rcases List.mem_cons.mp hs with rfl | hs
  ·exact⟨_,o⟩
  obtain⟨b,hb,hs⟩:=List.mem_flatMap.mp hs
  refine pE d (T:=b) ?_ s hs
  cases u with
  | plain ws=>simp[dL]at hb
  | lend x y c=>
   have:b=c:=by simpa [dL] using hb
   subst this; exact o
  | ite n c e=>
   obtain⟨o1,o2⟩:=o
   have:b=c∨b=e:=by simpa [dL] using hb
   rcases this with rfl | rfl
   ·exact o1
   ·exact o2
  | whl n c=>
   have:b=c:=by simpa [dL] using hb
   subst this; exact o
theorem yp:∀ {s:Stp} {g:List Stp→Prop},fu g s→fu (fun _=>True) s
 | .plain _,_,h=>h
 | .lend _ _ _,_,_=>trivial
 | .ite _ _ _,_,_=>⟨trivial,trivial⟩
 | .whl _ _,_,_=>trivial
theorem uC(D:DefAt K mg "names_of" cT) (c_names_in:bg P w K mg base 1 "names_in" ["steps"] nB) (c_steps_within:bg P w K mg base 14 "steps_within" ["program"] (oP 10)):bg P w K mg base 15 "names_of" ["program"] mR:=by
 refine D.cal qK (fun _ _ _ _ _ _ us hl=>match us,hl with | [_],_=>rfl) (fun vs H Q E h=>by obtain⟨_,_,_,rfl,_⟩:=h; rfl) (fun f cdv A outer s H vs Q E hr h=>?_)
 obtain⟨p,T,S,rfl,hp,ok,h1,h2,q⟩:=h
 refine⟨_,(ak (aF (aJ c_names_in hr (aa (aJ c_steps_within hr (aa (pv 0 (hv:=Ge)) ab) (hg:=G1) (hle:=by omega)) ab) (hg:=Hj) (hle:=by omega)))),?_⟩
 walk_at "rd1"
 refine⟨p,T,S,rfl,hp,ok,by omega,fun sp H1 ads sm1 hsp hl1 hp1=>?_⟩
 walk_at "rd1"
 refine⟨sp,ads,bQ 10 T,fun _=>True,rfl,hl1,hp1,fun s hs=>let ⟨g,z⟩:=pE 10 ok s hs; yp z,h2,fun r H2 sm2 hr2 hl2=>?_⟩
 exact q r H2 (sm1.trans sm2) (sm1.free hr2) hl2
theorem qf{ws:List Str}(h:fw ws):(ws.headD "" = "do" → ws.length=3)∧bY ws=bo (.plain ws):=by
 cases h with
 | opn x=>exact⟨fun c=>absurd c (by show ¬ (Str.ofString "open" = Str.ofString "do"); decide +kernel),by unfold bY; simp only[bo]; rw[if_neg (by show ¬ (Str.ofString "open" = Str.ofString "do"); decide +kernel),if_neg (by show ¬ (Str.ofString "open" = Str.ofString "do"); decide +kernel)]⟩
 | drp x=>exact⟨fun c=>absurd c (by show ¬ (Str.ofString "drop" = Str.ofString "do"); decide +kernel),by unfold bY; simp only[bo]; rw[if_neg (by show ¬ (Str.ofString "drop" = Str.ofString "do"); decide +kernel),if_neg (by show ¬ (Str.ofString "drop" = Str.ofString "do"); decide +kernel)]⟩
 | cpy x y=>exact⟨fun c=>absurd c (by show ¬ (Str.ofString "copy" = Str.ofString "do"); decide +kernel),by unfold bY; simp only[bo]; rw[if_neg (by show ¬ (Str.ofString "copy" = Str.ofString "do"); decide +kernel),if_neg (by show ¬ (Str.ofString "copy" = Str.ofString "do"); decide +kernel)]⟩
 | tie x y=>exact⟨fun c=>absurd c (by show ¬ (Str.ofString "tie" = Str.ofString "do"); decide +kernel),by unfold bY; simp only[bo]; rw[if_neg (by show ¬ (Str.ofString "tie" = Str.ofString "do"); decide +kernel),if_neg (by show ¬ (Str.ofString "tie" = Str.ofString "do"); decide +kernel)]⟩
 | doo u x=>exact⟨fun _=>rfl,by unfold bY; simp only[bo]; rw[if_pos (by rfl),if_pos (by rfl)]; rfl⟩
theorem zF{f g:List Stp→Prop}{N:Str→Prop}{pr:List Stp→List Stp}(hf:∀ b,g b→(∀ n∈(pr b).flatMap bo,N n)→f b):∀ (s:Stp),fu g s→(∀ n∈(eS pr s).flatMap bo,N n)→nC f N s
 | .plain ws,ok,h=>by
  obtain⟨h1,h2⟩:=qf ok
  refine⟨h1,fun n hn=>h n ?_⟩
  rw[h2]at hn
  exact List.mem_flatMap.mpr ⟨.plain ws,List.mem_cons_self,hn⟩
 | .lend x y b,ok,h=>by
  refine⟨h x (List.mem_flatMap.mpr ⟨.lend x y b,List.mem_cons_self,by simp[bo]⟩),h y (List.mem_flatMap.mpr ⟨.lend x y b,List.mem_cons_self,by simp[bo]⟩),hf b ok fun n hn=>h n ?_⟩
  obtain⟨s,hs,hn⟩:=List.mem_flatMap.mp hn
  exact List.mem_flatMap.mpr ⟨s,List.mem_cons_of_mem _ (List.mem_flatMap.mpr ⟨b,by simp[dL],hs⟩),hn⟩
 | .ite m b c,ok,h=>by
  refine⟨hf b ok.1 fun n hn=>h n ?_,hf c ok.2 fun n hn=>h n ?_⟩
  ·obtain⟨s,hs,hn⟩:=List.mem_flatMap.mp hn
   exact List.mem_flatMap.mpr ⟨s,List.mem_cons_of_mem _ (List.mem_flatMap.mpr ⟨b,by simp[dL],hs⟩),hn⟩
  ·obtain⟨s,hs,hn⟩:=List.mem_flatMap.mp hn
   exact List.mem_flatMap.mpr ⟨s,List.mem_cons_of_mem _ (List.mem_flatMap.mpr ⟨c,by simp[dL],hs⟩),hn⟩
 | .whl m b,ok,h=>hf b ok fun n hn=>h n (by
   obtain⟨s,hs,hn⟩:=List.mem_flatMap.mp hn
   exact List.mem_flatMap.mpr ⟨s,List.mem_cons_of_mem _ (List.mem_flatMap.mpr ⟨b,by simp[dL],hs⟩),hn⟩)
theorem jc{N:Str→Prop}:∀ (d:Nat) (T:List Stp),jg d T→(∀ n∈(bQ d T).flatMap bo,N n)→gT N d T
 | 0,_,h,_=>h
 | d+1,T,ok,h=>fun s hs=>zF (fun b hb hn=>jc d b hb hn) s (ok s hs) fun n hn=>h n (by
   obtain⟨s',hs',hn⟩:=List.mem_flatMap.mp hn
   exact List.mem_flatMap.mpr ⟨s',List.mem_flatMap.mpr ⟨s,hs,hs'⟩,hn⟩)
end
set_option genSizeOf false in
inductive Frm where
 | lend (x y:Str) (up:List Stp)
 | whl (n:Int) (up:List Stp)
 | inB (n:Int) (up:List Stp)
 | inC (n:Int) (b up:List Stp)
inductive Ctx (H:Hp) (S:Addr→Prop) (root:Addr):List Frm→List (Str × Addr)→Nat→Addr→Prop
 | nil:Ctx H S root [] [] 9 root
 | lend {x y:Str} {us:List Stp} {r:List Frm} {pr:List (Str × Addr)} {d:Nat} {here up t:Addr} {as:List Addr}:H up=some (.lst (as.map V.ref++[.ref t]))→Paired (stpAt (ProgAt S (d+1) H) H) as us→H t=some (.tup [.str "lend", .str x,.str y,.ref here])→Ctx H S root r pr (d+1) up→Ctx H S root (.lend x y us::r) (("back", up)::pr) d here
 | whl {n:Int} {us:List Stp} {r:List Frm} {pr:List (Str × Addr)} {d:Nat} {here up t:Addr} {as:List Addr}:H up=some (.lst (as.map V.ref++[.ref t]))→Paired (stpAt (ProgAt S (d+1) H) H) as us→H t=some (.tup [.str "while", .int n,.ref here])→Ctx H S root r pr (d+1) up→Ctx H S root (.whl n us::r) (("done", up)::pr) d here
 | inB {n:Int} {us:List Stp} {r:List Frm} {pr:List (Str × Addr)} {d:Nat} {here up t oth:Addr} {as:List Addr}:H up=some (.lst (as.map V.ref++[.ref t]))→Paired (stpAt (ProgAt S (d+1) H) H) as us→H t=some (.tup [.str "if", .int n,.ref here,.ref oth])→H oth=some (.lst [])→Ctx H S root r pr (d+1) up→Ctx H S root (.inB n us::r) (("else", oth)::("fi", up)::pr) d here
 | inC {n:Int} {b us:List Stp} {r:List Frm} {pr:List (Str × Addr)} {d:Nat} {here up t bq:Addr} {as:List Addr}:H up=some (.lst (as.map V.ref++[.ref t]))→Paired (stpAt (ProgAt S (d+1) H) H) as us→H t=some (.tup [.str "if", .int n,.ref bq,.ref here])→ProgAt S (d+1) H bq b→Ctx H S root r pr (d+1) up→Ctx H S root (.inC n b us::r) (("fi", up)::pr) d here
theorem Ctx.imp{H H':Hp}{S S':Addr→Prop}{root:Addr}(ht:∀ b xs,H b=some (.tup xs)→H' b=some (.tup xs))(hl:∀ b xs,S b→H b=some (.lst xs)→H' b=some (.lst xs))(hS:∀ b,S b→S' b){fs:List Frm}{pr:List (Str × Addr)}{d:Nat}{here:Addr}
  (h:Ctx H S root fs pr d here):(∀ q∈pr,∀ xs,H q.2=some (.lst xs)→H' q.2=some (.lst xs))→Ctx H' S' root fs pr d here:=by
 have st:∀ {d:Nat} {as:List Addr} {us:List Stp},Paired (stpAt (ProgAt S d H) H) as us→Paired (stpAt (ProgAt S' d H') H') as us:=fun {d as us} h=>Paired.imp' (fun a s z=>z.imp ht fun q b y=>y.imp ht hl hS d) h
 induction h with
 | nil=>intro _; exact .nil
 | lend h1 h2 h3 _ ih=>intro hu; exact .lend (hu _ List.mem_cons_self _ h1) (st h2) (ht _ _ h3) (ih fun q hq=>hu q (List.mem_cons_of_mem _ hq))
 | whl h1 h2 h3 _ ih=>intro hu; exact .whl (hu _ List.mem_cons_self _ h1) (st h2) (ht _ _ h3) (ih fun q hq=>hu q (List.mem_cons_of_mem _ hq))
 | inB h1 h2 h3 h4 _ ih=>intro hu; exact .inB (hu _ (List.mem_cons_of_mem _ List.mem_cons_self) _ h1) (st h2) (ht _ _ h3) (hu _ List.mem_cons_self _ h4) (ih fun q hq=>hu q (List.mem_cons_of_mem _ (List.mem_cons_of_mem _ hq)))
 | inC h1 h2 h3 h4 _ ih=>intro hu; exact .inC (hu _ List.mem_cons_self _ h1) (st h2) (ht _ _ h3) (h4.imp ht hl hS _) (ih fun q hq=>hu q (List.mem_cons_of_mem _ hq))
def da(pr:List (Str × Addr)):Nat:=(pr.filter fun q=>decide (q.1≠("else" : Str))).length
theorem ik{w:Str}(h:w ≠ "else") (a:Addr) (pr:List (Str × Addr)):da ((w,a)::pr)=da pr+1:=by
 unfold da
 rw[List.filter_cons,if_pos (by simpa using h)]; rfl
theorem rH(a:Addr)(pr:List (Str × Addr)):da (("else", a)::pr)=da pr:=by
 unfold da
 rw[List.filter_cons,if_neg (by simp)]
theorem Ctx.deep{H:Hp}{S:Addr→Prop}{root:Addr}{fs:List Frm}{pr:List (Str × Addr)}{d:Nat}{here:Addr}(h:Ctx H S root fs pr d here):d+fs.length=9∧da pr=fs.length∧pr.length≤2 * fs.length:=by
 induction h with
 | nil=>exact⟨rfl,rfl,Nat.le_refl _⟩
 | lend _ _ _ _ ih=>obtain⟨a,b,c⟩:=ih; refine⟨by rw[List.length_cons]; omega,by rw[ik (by decide),List.length_cons]; omega,by simp only[List.length_cons]; omega⟩
 | whl _ _ _ _ ih=>obtain⟨a,b,c⟩:=ih; refine⟨by rw[List.length_cons]; omega,by rw[ik (by decide),List.length_cons]; omega,by simp only[List.length_cons]; omega⟩
 | inB _ _ _ _ _ ih=>obtain⟨a,b,c⟩:=ih; refine⟨by rw[List.length_cons]; omega,by rw[rH,ik (by decide),List.length_cons]; omega,by simp only[List.length_cons]; omega⟩
 | inC _ _ _ _ _ ih=>obtain⟨a,b,c⟩:=ih; refine⟨by rw[List.length_cons]; omega,by rw[ik (by decide),List.length_cons]; omega,by simp only[List.length_cons]; omega⟩
set_option genInjectivity false in
set_option genSizeOf false in
structure BS where
 cur:List Stp
 stk:List Frm
 L:List Str
 left:Int
 lends:Int
def dY(st:BS):BS:=match st.stk with
 | []=>st
 | .lend x y up::r=>{ st with cur:=up++[.lend x y st.cur],stk:=r,L:=st.L++[("back" : Str)] }
 | .whl n up::r=>{ st with cur:=up++[.whl n st.cur],stk:=r,L:=st.L++[("done" : Str)] }
 | .inB n up::r=>{ st with cur:=[],stk:=.inC n st.cur up::r,L:=st.L++[("else" : Str)] }
 | .inC n b up::r=>{ st with cur:=up++[.ite n b st.cur],stk:=r,L:=st.L++[("fi" : Str)] }
def dX:List Frm→Nat→List Str
 | [],_=>[]
 | .lend x y up::r,d=>dX r (d+1)++b5 (d+2) up++[Txt.join " " ["lend", x,y]]
 | .whl n up::r,d=>dX r (d+1)++b5 (d+2) up++[Txt.join " " ["while", bH n]]
 | .inB n up::r,d=>dX r (d+1)++b5 (d+2) up++[Txt.join " " ["if", bH n]]
 | .inC n b up::r,d=>dX r (d+1)++b5 (d+2) up++[Txt.join " " ["if", bH n]]++b5 (d+1) b++[("else" : Str)]
def tf:List Frm→Nat→Prop
 | [],_=>True
 | .lend x y up::r,d=>x.length≤20∧y.length≤20∧dZ (d+2) up∧tf r (d+1)
 | .whl n up::r,d=>n.natAbs.log2<1920∧dZ (d+2) up∧tf r (d+1)
 | .inB n up::r,d=>n.natAbs.log2<1920∧dZ (d+2) up∧tf r (d+1)
 | .inC n b up::r,d=>n.natAbs.log2<1920∧dZ (d+1) b∧dZ (d+2) up∧tf r (d+1)
def eX:Frm→Nat
 | .lend _ _ up=>up.length
 | .whl _ up=>up.length
 | .inB _ up=>up.length
 | .inC _ _ up=>up.length
structure gF (st:BS) (d:Nat):Prop where
 dep:d+st.stk.length=9
 lines:st.L=dX st.stk d++b5 (d+1) st.cur
 ok:dZ (d+1) st.cur
 okf:tf st.stk d
 size:st.cur.length+(st.stk.map eX).sum≤st.L.length
theorem kK(d:Nat)(T U:List Stp):b5 (d+1) (T++U)=b5 (d+1) T++b5 (d+1) U:=by show List.flatMap _ _=_; rw[List.flatMap_append]; rfl
theorem lz{d:Nat}{T U:List Stp}(h:dZ (d+1) T)(h':dZ (d+1) U):dZ (d+1) (T++U):=fun s hs=>(List.mem_append.mp hs).elim (h s) (h' s)
theorem kZ{d:Nat}{s:Stp}(h:qj (dZ d) s):dZ (d+1) [s]:=fun u hu=>by rw[List.mem_singleton.mp hu]; exact h
theorem zA{st:BS}{d:Nat}(h:gF st d)(hne:st.stk≠[]):∃ d',gF (dY st) d':=by
 obtain⟨cur,stk,L,left,lends⟩:=st
 obtain⟨h1,h2,h3,h4,h5⟩:=h
 dsimp only at h1 h2 h3 h4 h5 hne
 cases stk with
 | nil=>exact absurd rfl hne
 | cons f r=>
  rw[List.map_cons,List.sum_cons]at h5
  rw[List.length_cons]at h1
  cases f with
  | lend x y up=>
   obtain⟨k1,k2,k3,k4⟩:=h4
   refine⟨d+1,⟨by show d+1+r.length=9; omega,?_,lz k3 (kZ ⟨k1,k2,h3⟩),k4,?_⟩⟩
   ·show L++[("back" : Str)]=dX r (d+1)++b5 (d+2) (up++[.lend x y cur])
    rw[kK,h2]
    simp[dX,b5,bT,List.append_assoc]
   ·show (up++[Stp.lend x y cur]).length+(r.map eX).sum≤(L++[("back" : Str)]).length
    simp only[List.length_append,List.length_cons,List.length_nil]
    have:eX (.lend x y up)=up.length:=rfl
    omega
  | whl n up=>
   obtain⟨k1,k3,k4⟩:=h4
   refine⟨d+1,⟨by show d+1+r.length=9; omega,?_,lz k3 (kZ ⟨k1,h3⟩),k4,?_⟩⟩
   ·show L++[("done" : Str)]=dX r (d+1)++b5 (d+2) (up++[.whl n cur])
    rw[kK,h2]
    simp[dX,b5,bT,List.append_assoc]
   ·show (up++[Stp.whl n cur]).length+(r.map eX).sum≤(L++[("done" : Str)]).length
    simp only[List.length_append,List.length_cons,List.length_nil]
    have:eX (.whl n up)=up.length:=rfl
    omega
  | inB n up=>
   obtain⟨k1,k3,k4⟩:=h4
   refine⟨d,⟨by show d+(r.length+1)=9; omega,?_,fun s hs=>absurd hs (by show ¬ s∈([]:List Stp); simp),⟨k1,h3,k3,k4⟩,?_⟩⟩
   ·show L++[("else" : Str)]=dX (.inC n cur up::r) d++b5 (d+1) []
    rw[h2]
    simp[dX,b5,List.append_assoc]
   ·show 0+(((Frm.inC n cur up)::r).map eX).sum≤(L++[("else" : Str)]).length
    rw[List.map_cons,List.sum_cons]
    simp only[List.length_append,List.length_cons,List.length_nil]
    have:eX (.inC n cur up)=up.length:=rfl
    have:eX (.inB n up)=up.length:=rfl
    omega
  | inC n b up=>
   obtain⟨k1,k2,k3,k4⟩:=h4
   refine⟨d+1,⟨by show d+1+r.length=9; omega,?_,lz k3 (kZ ⟨k1,k2,h3⟩),k4,?_⟩⟩
   ·show L++[("fi" : Str)]=dX r (d+1)++b5 (d+2) (up++[.ite n b cur])
    rw[kK,h2]
    simp[dX,b5,bT,List.append_assoc]
   ·show (up++[Stp.ite n b cur]).length+(r.map eX).sum≤(L++[("fi" : Str)]).length
    simp only[List.length_append,List.length_cons,List.length_nil]
    have:eX (.inC n b up)=up.length:=rfl
    omega
def gQ(H:Hp)(e:Addr)(q:Str × Addr):Prop:=H e=some (.tup [.str q.1,.ref q.2])
structure BInv (H0 H:Hp) (root lp pp here:Addr) (st:BS) (d:Nat) (pr:List (Str × Addr)) (S:Addr→Prop) (as es:List Addr):Prop where
 ctx:Ctx H S root st.stk pr d here
 pile:H pp=some (.lst (es.map V.ref))
 ents:Paired (gQ H) es pr.reverse
 cur:H here=some (.lst (as.map V.ref))
 steps:Paired (stpAt (ProgAt S d H) H) as st.cur
 lines:H lp=some (.lst (st.L.map V.str))
 nd:(here::pr.map (·.2)).Nodup
 apart:∀ a∈here::pr.map (·.2),¬ S a∧a≠lp∧a≠pp∧H0 a=none∧∃ xs,H a=some (.lst xs)
 lpp:lp≠pp
 off:¬ S lp∧¬ S pp∧H0 lp=none∧H0 pp=none
 sin:∀ b,S b→∃ xs,H b=some (.lst xs)
 sm:Same H0 H
section
variable{H0 H H':Hp}{root lp pp here:Addr}{st:BS}{d:Nat}{pr:List (Str × Addr)}{S:Addr→Prop}{as es:List Addr}
theorem BInv.fr(I:BInv H0 H root lp pp here st d pr S as es)(fr:∀ b o,H b=some o→b≠here→b≠pp→b≠lp→H' b=some o) :
  (∀ b xs,H b=some (.tup xs)→H' b=some (.tup xs))∧(∀ b xs,S b→H b=some (.lst xs)→H' b=some (.lst xs))∧(∀ q∈pr,∀ xs,H q.2=some (.lst xs)→H' q.2=some (.lst xs))∧Same H0 H':=by
 have hh:=I.apart here List.mem_cons_self
 refine⟨fun b xs e=>fr b _ e ?_ ?_ ?_,fun b xs hs e=>fr b _ e ?_ ?_ ?_,fun q hq xs e=>fr _ _ e ?_ ?_ ?_,fun b o e=>fr b o (I.sm b o e) ?_ ?_ ?_⟩
 ·rintro rfl; rw[I.cur]at e; cases e
 ·rintro rfl; rw[I.pile]at e; cases e
 ·rintro rfl; rw[I.lines]at e; cases e
 ·rintro rfl; exact hh.1 hs
 ·rintro rfl; exact I.off.2.1 hs
 ·rintro rfl; exact I.off.1 hs
 ·intro z
  have:=(List.nodup_cons.mp I.nd).1
  exact this (z ▸ List.mem_map_of_mem hq)
 ·exact(I.apart _ (List.mem_cons_of_mem _ (List.mem_map_of_mem hq))).2.2.1
 ·exact(I.apart _ (List.mem_cons_of_mem _ (List.mem_map_of_mem hq))).2.1
 ·rintro rfl; rw[hh.2.2.2.1]at e; cases e
 ·rintro rfl; rw[I.off.2.2.2]at e; cases e
 ·rintro rfl; rw[I.off.2.2.1]at e; cases e
theorem BInv.new(I:BInv H0 H root lp pp here st d pr S as es){a:Addr}(ha:H a=none):a≠lp∧a≠pp∧¬ S a∧H0 a=none∧a∉here::pr.map (·.2):=by
 refine⟨?_,?_,fun z=>?_,I.sm.free ha,fun z=>?_⟩
 ·rintro rfl; rw[I.lines]at ha; cases ha
 ·rintro rfl; rw[I.pile]at ha; cases ha
 ·obtain⟨xs,e⟩:=I.sin a z; rw[ha]at e; cases e
 ·obtain⟨_,_,_,_,xs,e⟩:=I.apart a z; rw[ha]at e; cases e
theorem BInv.alloc(I:BInv H0 H root lp pp here st d pr S as es)(sm:Same H H'):BInv H0 H' root lp pp here st d pr S as es:=
 ⟨I.ctx.imp (fun b xs e=>sm _ _ e) (fun b xs _ e=>sm _ _ e) (fun _ z=>z) (fun q _ xs e=>sm _ _ e),sm _ _ I.pile,Paired.imp' (fun e q z=>sm _ _ z) I.ents,sm _ _ I.cur,Paired.imp' (fun a s z=>z.imp (fun b xs e=>sm _ _ e) fun q b y=>y.mono sm) I.steps,sm _ _ I.lines,I.nd,
  fun a ha=>let ⟨z1,z2,z3,z4,xs,z5⟩:=I.apart a ha; ⟨z1,z2,z3,z4,xs,sm _ _ z5⟩,I.lpp,I.off,fun b hb=>let ⟨xs,e⟩:=I.sin b hb; ⟨xs,sm _ _ e⟩,I.sm.trans sm⟩
theorem BInv.plain(I:BInv H0 H root lp pp here st d pr S as es)(fr:∀ b o,H b=some o→b≠here→b≠pp→b≠lp→H' b=some o){t:Addr}{ws:List Str}{L':List Str}(hh:H' here=some (.lst ((as++[t]).map V.ref)))(ht:H' t=some (.tup (ws.map V.str)))
  (hl:H' lp=some (.lst (L'.map V.str))) (hp:H' pp=some (.lst (es.map V.ref))) {lf ld:Int}:BInv H0 H' root lp pp here ⟨st.cur++[.plain ws],st.stk,L',lf,ld⟩ d pr S (as++[t]) es:=by
 obtain⟨f1,f2,f3,f4⟩:=I.fr fr
 refine⟨I.ctx.imp f1 f2 (fun _ z=>z) f3,hp,Paired.imp' (fun e q z=>f1 _ _ z) I.ents,hh,cv (R:=stpAt (ProgAt S d H') H') (show stpAt _ H' t (.plain ws) from ht) (Paired.imp' (fun a s z=>stpAt.imp f1 (fun q b y=>ProgAt.imp f1 f2 (fun _ z=>z) d y) z) I.steps),hl,I.nd,fun a ha=>?_,I.lpp,I.off,fun b hb=>let ⟨xs,e⟩:=I.sin b hb; ⟨xs,f2 _ _ hb e⟩,f4⟩
 obtain⟨z1,z2,z3,z4,xs,z5⟩:=I.apart a ha
 refine⟨z1,z2,z3,z4,?_⟩
 rcases List.mem_cons.mp ha with rfl | ha
 ·exact⟨_,hh⟩
 ·obtain⟨q,hq,rfl⟩:=List.mem_map.mp ha
  exact⟨xs,f3 q hq _ z5⟩
theorem BInv.open1(I:BInv H0 H root lp pp here st (d+1) pr S as es)(fr:∀ b o,H b=some o→b≠here→b≠pp→b≠lp→H' b=some o){t e inner:Addr}{word:Str}{L':List Str}{f:Frm}(hh:H' here=some (.lst ((as++[t]).map V.ref)))(hin:H inner=none)(hi:H' inner=some (.lst []))
  (hl:H' lp=some (.lst (L'.map V.str))) (hp:H' pp=some (.lst ((es++[e]).map V.ref))) (he:H' e=some (.tup [.str word,.ref here]))
  (hc:Ctx H' S root st.stk pr (d+1) here→Paired (stpAt (ProgAt S (d+1) H') H') as st.cur→Ctx H' S root (f::st.stk) ((word,here)::pr) d inner) {lf ld:Int} :
  BInv H0 H' root lp pp inner ⟨[],f::st.stk,L',lf,ld⟩ d ((word,here)::pr) S [] (es++[e]):=by
 obtain⟨f1,f2,f3,f4⟩:=I.fr fr
 obtain⟨n1,n2,n3,n4,n5⟩:=I.new hin
 refine⟨hc (I.ctx.imp f1 f2 (fun _ z=>z) f3) (Paired.imp' (fun a s z=>z.imp f1 fun q b y=>y.imp f1 f2 (fun _ z=>z) _) I.steps),hp,?_,hi,.nil,hl,?_,fun a ha=>?_,I.lpp,I.off,fun b hb=>let ⟨xs,e⟩:=I.sin b hb; ⟨xs,f2 _ _ hb e⟩,f4⟩
 ·rw[List.reverse_cons]
  exact cv (R:=gQ H') (show gQ H' e (word,here) from he) (Paired.imp' (fun e q z=>f1 _ _ z) I.ents)
 ·rw[List.map_cons]
  exact List.nodup_cons.mpr ⟨n5,I.nd⟩
 ·rw[List.map_cons]at ha
  rcases List.mem_cons.mp ha with rfl | ha
  ·exact⟨n3,n1,n2,n4,_,hi⟩
  obtain⟨z1,z2,z3,z4,xs,z5⟩:=I.apart a ha
  refine⟨z1,z2,z3,z4,?_⟩
  rcases List.mem_cons.mp ha with rfl | ha
  ·exact⟨_,hh⟩
  ·obtain⟨q,hq,rfl⟩:=List.mem_map.mp ha
   exact⟨xs,f3 q hq _ z5⟩
theorem BInv.open2(I:BInv H0 H root lp pp here st (d+1) pr S as es)(fr:∀ b o,H b=some o→b≠here→b≠pp→b≠lp→H' b=some o){t e e2 inner oth:Addr}{L':List Str}{n:Int}(hh:H' here=some (.lst ((as++[t]).map V.ref)))(hin:H inner=none)(hi:H' inner=some (.lst []))(hon:H oth=none)(ho:H' oth=some (.lst []))(hio:inner≠oth)
  (hl:H' lp=some (.lst (L'.map V.str))) (hp:H' pp=some (.lst ((es++[e,e2]).map V.ref))) (he:H' e=some (.tup [.str "fi", .ref here])) (he2:H' e2=some (.tup [.str "else", .ref oth])) (ht:H' t=some (.tup [.str "if", .int n,.ref inner,.ref oth])) {lf ld:Int} :
  BInv H0 H' root lp pp inner ⟨[],.inB n st.cur::st.stk,L',lf,ld⟩ d (("else", oth)::("fi", here)::pr) S [] (es++[e,e2]):=by
 obtain⟨f1,f2,f3,f4⟩:=I.fr fr
 obtain⟨n1,n2,n3,n4,n5⟩:=I.new hin
 obtain⟨m1,m2,m3,m4,m5⟩:=I.new hon
 refine⟨.inB (by rw[hh,List.map_append]; rfl) (Paired.imp' (fun a s z=>z.imp f1 fun q b y=>y.imp f1 f2 (fun _ z=>z) _) I.steps) ht ho (I.ctx.imp f1 f2 (fun _ z=>z) f3),hp,?_,hi,.nil,hl,?_,fun a ha=>?_,I.lpp,I.off,fun b hb=>let ⟨xs,e⟩:=I.sin b hb; ⟨xs,f2 _ _ hb e⟩,f4⟩
 ·rw[List.reverse_cons,List.reverse_cons,show es++[e,e2]=(es++[e])++[e2] by simp]
  exact cv (R:=gQ H') (show gQ H' e2 ("else", oth) from he2) (cv (R:=gQ H') (show gQ H' e ("fi", here) from he) (Paired.imp' (fun e q z=>f1 _ _ z) I.ents))
 ·rw[List.map_cons,List.map_cons]
  refine List.nodup_cons.mpr ⟨fun z=>?_,List.nodup_cons.mpr ⟨m5,I.nd⟩⟩
  rcases List.mem_cons.mp z with z | z
  ·exact hio z
  ·exact n5 z
 ·rw[List.map_cons,List.map_cons]at ha
  rcases List.mem_cons.mp ha with rfl | ha
  ·exact⟨n3,n1,n2,n4,_,hi⟩
  rcases List.mem_cons.mp ha with rfl | ha
  ·exact⟨m3,m1,m2,m4,_,ho⟩
  obtain⟨z1,z2,z3,z4,xs,z5⟩:=I.apart a ha
  refine⟨z1,z2,z3,z4,?_⟩
  rcases List.mem_cons.mp ha with rfl | ha
  ·exact⟨_,hh⟩
  ·obtain⟨q,hq,rfl⟩:=List.mem_map.mp ha
   exact⟨xs,f3 q hq _ z5⟩
theorem hJ{α β : Type}{R:α→β→Prop}{x:α}{y:β}:∀ {xs:List α} {ys:List β},Paired R (xs++[x]) (ys++[y])→Paired R xs ys∧R x y
 | [],[],.cons h _=>⟨.nil,h⟩
 | [],b::ys,.cons h t=>by have:=av t; simp at this
 | a::xs,[],.cons h t=>by have:=av t; simp at this
 | a::xs,b::ys,.cons h t=>let ⟨z1,z2⟩:=hJ t; ⟨.cons h z1,z2⟩
theorem BInv.pop{w:Str}{up e:Addr}{pr':List (Str × Addr)}(I:BInv H0 H root lp pp here st d ((w,up)::pr') S as (es++[e]))(fr:∀ b o,H b=some o→b≠pp→b≠lp→H' b=some o)(hp:H' pp=some (.lst (es.map V.ref)))(hl:H' lp=some (.lst ((st.L++[w]).map V.str))) :
  ∃ d' as',BInv H0 H' root lp pp up (dY st) d' pr' (fun b=>S b∨b=here) as' es:=by
 obtain⟨f1,f2,f3,f4⟩:=I.fr fun b o e _ n1 n2=>fr b o e n1 n2
 have hh:=I.apart here List.mem_cons_self
 have hcur:H' here=some (.lst (as.map V.ref)):=fr _ _ I.cur hh.2.2.1 hh.2.1
 have hS:∀ b,S b→S b∨b=here:=fun b z=>.inl z
 have hents:Paired (gQ H') es pr'.reverse:=by
  have:=I.ents
  rw[List.reverse_cons]at this
  exact Paired.imp' (fun e q z=>f1 _ _ z) (hJ this).1
 have hnd:=I.nd
 rw[List.map_cons]at hnd
 have hnd2:=(List.nodup_cons.mp hnd).2
 have hnh:=(List.nodup_cons.mp hnd).1
 have hap:∀ a∈up::pr'.map (·.2),¬ (S a∨a=here)∧a≠lp∧a≠pp∧H0 a=none∧∃ xs,H' a=some (.lst xs):=fun a ha=>by
  obtain⟨z1,z2,z3,z4,xs,z5⟩:=I.apart a (by rw[List.map_cons]; exact List.mem_cons_of_mem _ ha)
  refine⟨fun z=>z.elim z1 fun z=>hnh (z ▸ ha),z2,z3,z4,xs,fr _ _ z5 z3 z2⟩
 have hoff:¬ (S lp∨lp=here)∧¬ (S pp∨pp=here)∧H0 lp=none∧H0 pp=none:=⟨fun z=>z.elim I.off.1 fun z=>hh.2.1 z.symm,fun z=>z.elim I.off.2.1 fun z=>hh.2.2.1 z.symm,I.off.2.2⟩
 have hsin:∀ b,S b∨b=here→∃ xs,H' b=some (.lst xs):=fun b z=>by
  rcases z with z | rfl
  ·obtain⟨xs,e⟩:=I.sin b z; exact⟨xs,f2 _ _ z e⟩
  ·exact⟨_,hcur⟩
 have hst:∀ {d:Nat} {as:List Addr} {us:List Stp},Paired (stpAt (ProgAt S d H) H) as us→Paired (stpAt (ProgAt (fun b=>S b∨b=here) d H') H') as us:=fun {d as us} h=>Paired.imp' (fun a s z=>stpAt.imp f1 (fun q b y=>ProgAt.imp f1 f2 hS d y) z) h
 have hprog:∀ d',d'=d→ProgAt (fun b=>S b∨b=here) (d'+1) H' here st.cur:=fun d' e=>by subst e; exact⟨.inr rfl,as,hcur,hst I.steps⟩
 have f3':∀ q∈pr',∀ xs,H q.2=some (.lst xs)→H' q.2=some (.lst xs):=fun q hq=>f3 q (List.mem_cons_of_mem _ hq)
 have hup:∀ xs,H up=some (.lst xs)→H' up=some (.lst xs):=fun xs=>f3 (w,up) List.mem_cons_self xs
 have hctx:=I.ctx
 have hsm:=f4
 have hlpp:=I.lpp
 clear I
 obtain⟨cur,stk,L,left,lends⟩:=st
 dsimp only at hctx hl hprog
 cases hctx with
 | @lend x y us r _ _ _ _ t aus h1 h2 h3 h4=>
  refine⟨d+1,aus++[t],⟨h4.imp f1 f2 hS f3',hp,hents,by rw[hup _ h1,List.map_append]; rfl,?_,hl,hnd2,hap,hlpp,hoff,hsin,hsm⟩⟩
  exact cv (R:=stpAt (ProgAt (fun b=>S b∨b=here) (d+1) H') H') (x:=t) (y:=.lend x y cur) ⟨here,f1 _ _ h3,hprog d rfl⟩ (hst h2)
 | @whl n us r _ _ _ _ t aus h1 h2 h3 h4=>
  refine⟨d+1,aus++[t],⟨h4.imp f1 f2 hS f3',hp,hents,by rw[hup _ h1,List.map_append]; rfl,?_,hl,hnd2,hap,hlpp,hoff,hsin,hsm⟩⟩
  exact cv (R:=stpAt (ProgAt (fun b=>S b∨b=here) (d+1) H') H') (x:=t) (y:=.whl n cur) ⟨here,f1 _ _ h3,hprog d rfl⟩ (hst h2)
 | @inB n us r pr2 _ _ up2 t _ aus h1 h2 h3 h4 h5=>
  refine⟨d,[],⟨.inC (f3' (_,up2) List.mem_cons_self _ h1) (hst h2) (f1 _ _ h3) (hprog d rfl) (h5.imp f1 f2 hS fun q hq=>f3' q (List.mem_cons_of_mem _ hq)),hp,hents,hup _ h4,.nil,hl,hnd2,hap,hlpp,hoff,hsin,hsm⟩⟩
 | @inC n b us r _ _ _ _ t bq aus h1 h2 h3 h4 h5=>
  refine⟨d+1,aus++[t],⟨h5.imp f1 f2 hS f3',hp,hents,by rw[hup _ h1,List.map_append]; rfl,?_,hl,hnd2,hap,hlpp,hoff,hsin,hsm⟩⟩
  exact cv (R:=stpAt (ProgAt (fun b=>S b∨b=here) (d+1) H') H') (x:=t) (y:=.ite n b cur) ⟨bq,here,f1 _ _ h3,h4.imp f1 f2 hS _,hprog d rfl⟩ (hst h2)
theorem BInv.line(I:BInv H0 H root lp pp here st d pr S as es)(L':List Str){lf ld:Int}:BInv H0 (upd H lp (.lst (L'.map V.str))) root lp pp here ⟨st.cur,st.stk,L',lf,ld⟩ d pr S as es:=by
 obtain⟨_,hhl,hhp,_,_⟩:=I.apart here List.mem_cons_self
 have fr:∀ b o,H b=some o→b≠lp→upd H lp (.lst (L'.map V.str)) b=some o:=fun b o e n=>by rw[ah n]; exact e
 obtain⟨f1,f2,f3,f4⟩:=I.fr (H':=upd H lp (.lst (L'.map V.str))) fun b o e _ _ n=>fr b o e n
 refine⟨I.ctx.imp f1 f2 (fun _ z=>z) f3,fr _ _ I.pile (Ne.symm I.lpp),Paired.imp' (fun e q z=>f1 _ _ z) I.ents,fr _ _ I.cur hhl,Paired.imp' (fun a s z=>stpAt.imp f1 (fun q b y=>ProgAt.imp f1 f2 (fun _ z=>z) d y) z) I.steps,ac,I.nd,fun a ha=>?_,I.lpp,I.off,fun b hb=>let ⟨xs,e⟩:=I.sin b hb; ⟨xs,f2 _ _ hb e⟩,f4⟩
 obtain⟨z1,z2,z3,z4,xs,z5⟩:=I.apart a ha
 exact⟨z1,z2,z3,z4,xs,fr _ _ z5 z2⟩
end
section
variable{P:Program}{w:World}{K:PySem.W.Frag}{mg:Str→Option Value}{base:Heap}
theorem jU{ss:List Str}{z:Int}{n:Nat}(h0:1≤z)(h1:z≤n)(hn:ss.length=n)(hb:∀ x∈ss,x.length≤20):1≤(ss.take z.toNat).length∧((ss.take z.toNat).length:Int)=z∧∀ x∈ss.take z.toNat,x.length≤20:=by
 refine⟨?_,?_,fun x hx=>hb x (List.mem_of_mem_take hx)⟩ <;> rw[List.length_take] <;> omega
theorem jl{x:Str}{lo hi:Option Int}{P:Nat→Prop}(h:∀ c∈x.cps.toList,P c):∀ c∈(Txt.slice x lo hi).cps.toList,P c:=fun c hc=>by
 rw[we]at hc
 exact h c (List.mem_of_mem_drop (List.mem_of_mem_take hc))
theorem rQ{x:Str}(h:∀ c∈x.cps.toList,c∈letters.cps.toList):32∉x.cps.toList:=fun z=>absurd (h 32 z) (by decide)
def kr(z:Int):Nat:=letters.cps.toList.getD (z % 26).toNat 0
theorem iI(z:Int):letters.length≤sizeLine∧di letters.cps.toList (z % 26)=some (kr z)∧kr z∈letters.cps.toList:=by
 obtain⟨c,h1,h2,h3⟩:=vE z
 have hz:(z % 26).toNat<letters.cps.toList.length:=by show (z % 26).toNat<26; omega
 have q:=bu (List.getElem?_eq_getElem hz)
 rw[show (((z % 26).toNat:Nat):Int)=z % 26 by omega,h2]at q
 have e:kr z=c:=by
  unfold kr
  rw[List.getD_eq_getElem?_getD,List.getElem?_eq_getElem hz]
  exact(Option.some.inj q).symm
 rw[e]
 exact⟨h1,h2,h3⟩
def iB(c:Int)(k:Nat):Nat:=kr (c / (0+(k:Int)+1)+(0+(k:Int)) * (0+(k:Int)) * c)
def iy(c:Int):Str:=Txt.join "" (((List.range 8).map (iB c)).map fun c=>(⟨#[c]⟩ : Str))
def yL(c:Int)(k:Nat):Str:=Txt.slice (iy c) none (some (c / 32 % (1+c / 4 % 8)))++(⟨#[kr (c / 256+9 * (0+(k:Int)))]⟩ : Str)++Txt.slice (iy c) (some (c / 32 % (1+c / 4 % 8)+1)) (some (1+c / 4 % 8))
def jL(c:Int):List Str:=if c % 4=1 then (["open", "lend", "back", "end"]:List Str).take (1+c / 3 % 4).toNat
 else if c % 4=2 then [Txt.slice (iy c) none (some 2),Txt.slice (iy c) none (some 3),Txt.slice (iy c) none (some 8),Txt.slice (iy c) none (some 7)].take (1+c / 3 % 4).toNat
 else (List.range (1+c / 3 % 4).toNat).map (yL c)
def oU:Sp:=fun vs H Q _=>∃ c:Int,vs=[.int c]∧∀ (L:Addr) (H':Hp),Same H H'→H L=none→H' L=some (.lst ((jL c).map V.str))→1≤(jL c).length→(jL c).length≤7→(∀ x∈jL c,x.length≤20)→(∀ x∈jL c,32∉x.cps.toList)→Q (.ref L) H'
theorem xK(D:DefAt K mg "_law_names" aA) (z_range:mg "range" = none):bg P w K mg base 1 "_law_names" ["_law_cell"] oU:=by
 refine D.cal sc_law_names (fun _ _ _ _ _ _ us hl=>match us,hl with | [_],_=>rfl) (fun vs H Q E h=>by obtain⟨c,rfl,_⟩:=h; rfl) (fun f cdv A outer s H vs Q E hr h=>?_)
 obtain⟨c,rfl,q0⟩:=h
 have q:∀ (L:Addr) (H':Hp) (ns:List Str),ns=jL c→Same H H'→H L=none→H' L=some (.lst (ns.map V.str))→1≤ns.length→ns.length≤7→(∀ x∈ns,x.length≤20)→(∀ x∈ns,32∉x.cps.toList)→Q (.ref L) H':=fun L H' ns e=>by subst e; exact q0 L H'
 refine⟨_,(ae (ar 1 sc_law_names.nd al (hx:=DZ))
   (ae (ar 2 sc_law_names.nd (aI K PySem.F.plainAttrs_str PySem.F.slot_str_join PySem.F.type_str_join (oG K) al (aa (fJ (CompSc.to (fsc:=(defScope aA)) (N:=["_law_cell", "_law_letters", "_law_base", "_law_many", "_law_size", "_law_at", "_law_found", "_law_k", "_law_sign"]) (N0:=["_law_cell", "_law_letters", "_law_base", "_law_many", "_law_size", "_law_at", "_law_found", "_law_k'", "_law_sign"]) (T:=["_law_k"]) ⟨by decide +kernel,by decide +kernel,by decide +kernel,by decide +kernel,by decide +kernel,by decide +kernel,by decide +kernel⟩ rfl rfl) rfl (fR BQ z_range (aa ai ab)) (fun _ _ _ _=>(bj 9 (show (["_law_cell", "_law_letters", "_law_base", "_law_many", "_law_size", "_law_at", "_law_found", "_law_k'", "_law_sign", "_law_k"]:List Str).Nodup from by decide +kernel) (hx:=(iA (defScope aA) (by decide +kernel))) (hf:=lx (defScope aA) (by decide +kernel)))) (dN (show (["_law_cell", "_law_letters", "_law_base", "_law_many", "_law_size", "_law_at", "_law_found", "_law_k", "_law_sign"]:List Str).length≤9 from by decide)) (fun _ _ _ _=>gN) (fun _ _ _ _=>(ay (aW K) (pv 1 (hv:=(de (defScope aA) (by decide +kernel)))) (ao cg (ao aw (ao gk (pv 0 (hv:=(de (defScope aA) (by decide +kernel)))) (ao aw (pv 9 (hv:=(de (defScope aA) (by decide +kernel)))) ai)) (ao fL (ao fL (pv 9 (hv:=(de (defScope aA) (by decide +kernel)))) (pv 9 (hv:=(de (defScope aA) (by decide +kernel))))) (pv 0 (hv:=(de (defScope aA) (by decide +kernel)))))) ai) (fun _ _=>rfl)))) ab)) (hx:=DV))
   (ae (ar 3 sc_law_names.nd (ao aw ai (ao cg (ao gk (pv 0 (hv:=me)) ai) ai)) (hx:=Ee))
   (ae (bN (aG b8 (ao cg (pv 0 (hv:=me)) ai) ai (bc _)) (ak (aF (cj (gM K) (bi (aa al (aa al (aa al (aa al ab))))) cV (cr (pv 3 (hv:=xc)))))) bB)
   (ae (bN (aG b8 (ao cg (pv 0 (hv:=me)) ai) ai (bc _)) (ak (aF (cj (gM K) (bi (aa (cj ic (pv 2 (hv:=md)) cV (cr ai)) (aa (cj ic (pv 2 (hv:=md)) cV (cr ai)) (aa (cj ic (pv 2 (hv:=md)) cV (cr ai)) (aa (cj ic (pv 2 (hv:=md)) cV (cr ai)) ab))))) cV (cr (pv 3 (hv:=xc)))))) bB)
   (ae (ar 4 sc_law_names.nd (ao aw ai (ao cg (ao gk (pv 0 (hv:=me)) ai) ai)) (hx:=Du))
   (ae (ar 5 sc_law_names.nd (ao cg (ao gk (pv 0 (hv:=me)) ai) (pv 4 (hv:=Bt))) (hx:=Ds))
   (ae (ar 6 sc_law_names.nd (bi ab) (hx:=Fo))
   (ae (cE PassesOwn.never rfl (fR BQ z_range (aa (pv 3 (hv:=xc)) ab)) (bj 7 sc_law_names.nd (hx:=Ey)) (ae (ar 8 sc_law_names.nd (ay (aW K) (pv 1 (hv:=E5)) (ao cg (ao aw (ao gk (pv 0 (hv:=me)) ai) (ao fL ai (pv 7 (hv:=FG)))) ai) (fun _ _=>rfl)) (hx:=EO))
   (ak (aQ (aI K PySem.F.plainAttrs_list PySem.F.slot_list_append PySem.F.type_list_append aL (pv 6 (hv:=AM)) (aa (ao aw (ao aw (cj ic (pv 2 (hv:=md)) cV (cr (pv 5 (hv:=BJ)))) (pv 8 (hv:=FA))) (cj ic (pv 2 (hv:=md)) (cr (ao aw (pv 5 (hv:=BJ)) ai)) (cr (pv 4 (hv:=Bt))))) ab))))))
   (ak (aF (pv 6 (hv:=AM))))))))))))),?_⟩
 walk_at "rd1"
 walk_at "nx"
 refine⟨by decide,by decide,fun C hC=>?_⟩
 refine jS (fun i ys H'=>Same H H'∧H' C=some (.lst ys)∧ys=((List.range i).map (iB c)).map (fun c=>V.str ⟨#[c]⟩)) ⟨af hC _,ac,rfl⟩ ?_ ?_
 ·rintro i ys H' hi ⟨sm,hl,rfl⟩
  have hi8:i<8:=hi
  walk_at "rd1"
  obtain⟨z1,z2,z3⟩:=iI (c / (0+(i:Int)+1)+(0+(i:Int)) * (0+(i:Int)) * c)
  have h49:(0+(i:Int)) * (0+(i:Int))≤49:=by
   have:=Nat.mul_le_mul (show i≤7 by omega) (show i≤7 by omega)
   have e:(0+(i:Int)) * (0+(i:Int))=((i * i:Nat):Int):=by rw[Int.zero_add]; push_cast; rfl
   rw[e]; omega
  have h0:0≤(0+(i:Int)) * (0+(i:Int)):=Int.mul_nonneg (by omega) (by omega)
  refine⟨⟨by omega,by omega⟩,.inl ⟨by omega,by omega⟩,.inl ⟨by omega,by omega⟩,by decide,_,z1,z2,?_⟩
  refine kH hi (by simp) (aS (by show 8≤1000000; decide)) hl ⟨sm.upd hC _,ac,by rw[List.range_succ,List.map_append,List.map_append]; rfl⟩
 ·rintro ys H1 ⟨sm1,hl1,rfl⟩
  have hlt:∀ d∈(List.range 8).map (iB c),d∈letters.cps.toList:=fun d hd=>by obtain⟨k,_,rfl⟩:=List.mem_map.mp hd; exact(iI _).2.2
  have hn8:((List.range 8).map (iB c)).length=8:=by simp
  have hl1:H1 C=some (.lst (((List.range 8).map (iB c)).map (fun c=>V.str ⟨#[c]⟩))):=hl1
  have hbF:Txt.join "" (((List.range 8).map (iB c)).map fun c=>(⟨#[c]⟩ : Str))=iy c:=rfl
  generalize (List.range 8).map (iB c)=cs at hl1 hlt hn8 hbF ⊢
  walk_at "rd1"
  have hmm:cs.map (fun c=>V.str ⟨#[c]⟩)=(cs.map fun c=>(⟨#[c]⟩ : Str)).map V.str:=by rw[List.map_map]; rfl
  rw[hmm]at hl1
  have h1l:(Str.ofString "").length=0:=by decide
  refine⟨_,SqL.of hl1,?_,?_⟩
  ·rw[h1l]
   have:=gb 1 (cs.map fun c=>(⟨#[c]⟩ : Str)) (fun s hs=>by obtain⟨c,_,rfl⟩:=List.mem_map.mp hs; exact Nat.le_refl _)
   rw[List.length_map]at this ⊢
   omega
  have hbl:(Txt.join "" (cs.map fun c=>(⟨#[c]⟩ : Str))).length=8:=by rw[yg]; exact hn8
  have hbm:∀ c∈(Txt.join "" (cs.map fun c=>(⟨#[c]⟩ : Str))).cps.toList,c∈letters.cps.toList:=by rw[qA]; exact hlt
  generalize Txt.join "" (cs.map fun c=>(⟨#[c]⟩ : Str))=bs at hbl hbm hbF ⊢
  have bsz:bs.length≤sizeLine:=by rw[hbl]; exact aS (by decide)
  have hsl:∀ l u,(Txt.slice bs l u).length≤8:=fun l u=>hbl ▸ Txt.slice_le bs l u
  walk_at "nx"
  refine⟨⟨by decide,by decide⟩,by decide,?_⟩
  generalize hmy:1+c / 3 % 4=many
  have m1:1≤many:=by omega
  have m4:many≤4:=by omega
  walk_at "nx"
  refine⟨by decide,bA (fun c1=>?_) (fun c1=>?_)⟩
  ·refine⟨by decide,fun l hl=>⟨_,SqL.of ac,fun r hr'=>?_⟩⟩
   have sl:=af hl (.lst [V.str "open", .str "lend", .str "back", .str "end"])
   obtain⟨t1,t2,t3⟩:=jU (ss:=["open", "lend", "back", "end"]) (n:=4) m1 m4 rfl (by decide)
   exact q r _ _ (by unfold jL; rw[if_pos c1,hmy]) (sm1.trans (sl.trans (af hr' _))) (sm1.free (sl.free hr')) (by rw[ac]; exact congrArg (fun z=>some (HO.lst z)) (p7 ["open", "lend", "back", "end"] (by omega))) t1 (by omega) t3 (fun x hx=>(by decide:∀ x∈(["open", "lend", "back", "end"]:List Str),32∉x.cps.toList) x (List.mem_of_mem_take hx))
  walk_at "nx"
  refine⟨by decide,bA (fun c2=>?_) (fun c2=>?_)⟩
  ·refine⟨bsz,bsz,bsz,bsz,by decide,fun l hl=>⟨_,SqL.of ac,fun r hr'=>?_⟩⟩
   have sl:=af hl (.lst ([Txt.slice bs none (some 2),Txt.slice bs none (some 3),Txt.slice bs none (some 8),Txt.slice bs none (some 7)].map V.str))
   obtain⟨t1,t2,t3⟩:=jU (ss:=[Txt.slice bs none (some 2),Txt.slice bs none (some 3),Txt.slice bs none (some 8),Txt.slice bs none (some 7)]) (n:=4) m1 m4 rfl (by
    intro x hx
    simp only[List.mem_cons,List.mem_nil_iff,or_false]at hx
    rcases hx with rfl | rfl | rfl | rfl <;> exact Nat.le_trans (hsl _ _) (by decide))
   exact q r _ _ (by unfold jL; rw[if_neg c1,if_pos c2,hmy,← hbF]) (sm1.trans (sl.trans (af hr' _))) (sm1.free (sl.free hr')) (by rw[ac]; exact congrArg (fun z=>some (HO.lst z)) (p7 [Txt.slice bs none (some 2),Txt.slice bs none (some 3),Txt.slice bs none (some 8),Txt.slice bs none (some 7)] (by omega))) t1 (by omega) t3 (fun x hx=>by
    have hx:=List.mem_of_mem_take hx
    simp only[List.mem_cons,List.mem_nil_iff,or_false]at hx
    rcases hx with rfl | rfl | rfl | rfl <;> exact rQ (jl hbm))
  walk_at "nx"
  refine⟨⟨by decide,by decide⟩,by decide,?_⟩
  generalize hsz:1+c / 4 % 8=sz
  have s1:1≤sz:=by omega
  walk_at "nx"
  refine⟨⟨by decide,by decide⟩,by omega,?_⟩
  generalize hat9:c / 32 % sz=at9
  walk_at "nx"
  refine⟨by decide,fun fp hfp=>?_⟩
  generalize hH2:upd H1 fp _=H2
  have sm2:=eJ hH2 hfp
  have e2:=gf hH2
  walk_at "nx"
  refine⟨by omega,by omega,?_⟩
  refine k_ (fun i σ H'=>∃ (ss:List Str) (o7 o8:Option V),σ=[some (.int c),some (.str letters),some (.str bs),some (.int many),some (.int sz),some (.int at9),some (.ref fp),o7,o8]∧Same H H'∧H' fp=some (.lst (ss.map V.str))∧ss=(List.range i).map (yL c)∧ss.length=i∧(∀ x∈ss,x.length≤20)∧∀ x∈ss,32∉x.cps.toList)
   ⟨[],none,none,rfl,sm1.trans sm2,e2,rfl,rfl,by simp,by simp⟩ ?_ ?_
  ·rintro i σ H' hi ⟨ss,o7,o8,rfl,sm,hl,hss,hn',hb,hf⟩
   walk_at "rd1"
   obtain⟨z1,z2,z3⟩:=iI (c / 256+9 * (0+(i:Int)))
   generalize hc':kr (c / 256+9 * (0+(i:Int)))=c' at z2 z3
   have hel:Txt.slice bs none (some at9)++(⟨#[c']⟩ : Str)++Txt.slice bs (some (at9+1)) (some sz)=yL c i:=by unfold yL; rw[← hbF,hsz,hat9,hc']
   refine⟨⟨by decide,by decide⟩,.inl ⟨by decide,by decide⟩,by decide,c',z1,z2,?_⟩
   walk_at "nx"
   have l1:=hsl none (some at9)
   have l2:=hsl (some (at9+1)) (some sz)
   have la:((Txt.slice bs none (some at9))++(⟨#[c']⟩ : Str)).length≤9:=by rw[xm]; omega
   have lb:((Txt.slice bs none (some at9))++(⟨#[c']⟩ : Str)++Txt.slice bs (some (at9+1)) (some sz)).length≤17:=by rw[Str.length_append]; omega
   refine⟨⟨_,SqL.of hl⟩,bsz,?_,bsz,?_,_,hl,by rw[List.length_map]; exact bG (by omega),?_⟩
   ·rw[Str.length_append]at la; exact aS (by omega)
   ·rw[Str.length_append]at lb; exact aS (by omega)
   refine⟨ss++[_],_,_,rfl,sm.upd (sm1.free hfp) _,by rw[ac,List.map_append]; rfl,by rw[List.range_succ,List.map_append,← hss,hel]; rfl,by simp[hn'],fun x hx=>?_,fun x hx=>?_⟩
   ·rcases List.mem_append.mp hx with z | z
    ·exact hb x z
    ·rw[List.mem_singleton.mp z]; omega
   ·rcases List.mem_append.mp hx with z | z
    ·exact hf x z
    ·rw[List.mem_singleton.mp z]
     refine rQ fun d hd=>?_
     rw[dj,dj,List.mem_append,List.mem_append]at hd
     rcases hd with (hd | hd) | hd
     ·exact jl hbm d hd
     ·have:d=c':=by simpa using hd
      rw[this]; exact z3
     ·exact jl hbm d hd
  ·rintro σ H' ⟨ss,o7,o8,rfl,sm,hl,hss,hn',hb,hf⟩
   walk_at "nx"
   exact q fp H' ss (by rw[hss]; unfold jL; rw[if_neg c1,if_neg c2,hmy]) sm (sm1.free hfp) hl (by omega) (by omega) hb hf
def cO(c:Int):Int:=if c * 16807 % 65537 % 4<2 then c / 15 % 9 - 4 else if c * 16807 % 65537 % 4=2 then c % 10 ^ 60 else 0 - c % 10 ^ 60
theorem qJ{n:Int}(h:-(10 ^ 61)<n)(h':n<10 ^ 61):n.natAbs.log2<1920:=by
 have hb:n.natAbs<2 ^ 1920:=Nat.lt_of_lt_of_le (show n.natAbs<10 ^ 61 by omega) (by decide)
 by_cases h0:n.natAbs=0
 ·rw[h0]; decide
 ·exact(Nat.log2_lt h0).mpr hb
theorem ko(c:Int):(cO c).natAbs.log2<1920:=by
 unfold cO
 split
 ·exact qJ (by omega) (by omega)
 split
 ·exact qJ (by omega) (by omega)
 ·exact qJ (by omega) (by omega)
def qY:Sp:=fun vs H Q _=>∃ c:Int,vs=[.int c]∧Q (.int (cO c)) H
theorem w4(D:DefAt K mg "_law_bound" cC):bg P w K mg base 1 "_law_bound" ["_law_cell"] qY:=by
 refine D.cal sc_law_bound (fun _ _ _ _ _ _ us hl=>match us,hl with | [_],_=>rfl) (fun vs H Q E h=>by obtain⟨c,rfl,_⟩:=h; rfl) (fun f cdv A outer s H vs Q E hr h=>?_)
 obtain⟨c,rfl,q⟩:=h
 refine⟨_,(ae (ar 1 sc_law_bound.nd (ao cg (ao cg (ao fL (pv 0 (hv:=tQ)) ai) ai) ai) (hx:=Eg))
   (ae (bN (aG hU (pv 1 (hv:=B_)) ai (bc _)) (ak (aF (ao gA (ao cg (ao gk (pv 0 (hv:=tQ)) ai) ai) ai))) bB)
   (ae (bN (aG b8 (pv 1 (hv:=B_)) ai (bc _)) (ak (aF (ao cg (pv 0 (hv:=tQ)) (ao wy ai ai)))) bB)
   (ak (aF (ao gA ai (ao cg (pv 0 (hv:=tQ)) (ao wy ai ai)))))))),?_⟩
 unfold cO at q
 walk_at "rd1"
 refine⟨.inr ⟨by decide,by decide⟩,by decide,by decide,?_⟩
 walk_at "nx"
 refine bA (fun c1=>?_) (fun c1=>?_)
 ·rw[if_pos c1]at q
  exact⟨⟨by decide,by decide⟩,by decide,q⟩
 rw[if_neg c1]at q
 walk_at "nx"
 refine bA (fun c1=>?_) (fun c1=>?_)
 ·rw[if_pos c1]at q
  exact⟨⟨by decide,by decide,by decide⟩,by decide,q⟩
 rw[if_neg c1]at q
 walk_at "nx"
 exact⟨⟨by decide,by decide,by decide⟩,by decide,q⟩
abbrev jV:List Str:=["read", "lend", "back", "open", "end", "write"]
def pk(nm:List Str)(z:Int):Str:=nm.getD (z % (nm.length:Int)).toNat ""
theorem fC{nm:List Str}(hn:1≤nm.length)(z:Int):pk nm z∈nm∧di (nm.map V.str) (z % (nm.length:Int))=some (.str (pk nm z)):=by
 have h0:0≤z % (nm.length:Int):=Int.emod_nonneg _ (by omega)
 have h1:z % (nm.length:Int)<nm.length:=Int.emod_lt_of_pos _ (by omega)
 have hlt:(z % (nm.length:Int)).toNat<nm.length:=by omega
 have e:pk nm z=nm[(z % (nm.length:Int)).toNat]:=by unfold pk; rw[List.getD_eq_getElem?_getD,List.getElem?_eq_getElem hlt]; rfl
 rw[e]
 exact⟨List.getElem_mem hlt,v4 h0 (List.getElem?_eq_getElem hlt)⟩
def xB(nm:List Str)(c:Int):Str:=pk nm (c * 48271 % 1009)
def yB(nm:List Str)(c:Int):Str:=pk nm (c * 69621 % 2003)
def dv(nm:List Str)(c:Int):List Str:=
 if c % 15<3 then ["open", xB nm c] else if c % 15=3 then ["copy", xB nm c,yB nm c] else if c % 15=4 then ["drop", xB nm c] else if c % 15=5 then ["tie", xB nm c,yB nm c] else ["do", pk (jV++nm) (c * 40692 % 4001),xB nm c]
structure NmOk (nm:List Str):Prop where
 n1:1≤nm.length
 n7:nm.length≤7
 len:∀ x∈nm,x.length≤20
theorem NmOk.xl{nm:List Str}(h:NmOk nm)(c:Int):(xB nm c).length≤20:=h.len _ (fC h.n1 _).1
theorem NmOk.yl{nm:List Str}(h:NmOk nm)(c:Int):(yB nm c).length≤20:=h.len _ (fC h.n1 _).1
theorem NmOk.ex{nm:List Str}(h:NmOk nm):1≤(jV++nm).length∧∀ u∈jV++nm,u.length≤20:=by
 refine⟨by rw[List.length_append]; have:=h.n1; omega,fun u hu=>?_⟩
 rcases List.mem_append.mp hu with z | z
 ·exact(by decide:∀ u∈jV,u.length≤20) u z
 ·exact h.len u z
theorem yf{nm:List Str}(h:NmOk nm)(c:Int):gL (dv nm c):=by
 have xl:=h.xl c
 have yl:=h.yl c
 have wl:=h.ex.2 _ (fC h.ex.1 (c * 40692 % 4001)).1
 have two:∀ (k:Str),k∈cZ→k.length≤20→gL [k,xB nm c]:=fun k h1 h2=>⟨by simp,by simp,h1,fun z hz=>by
  simp only[List.mem_cons,List.mem_nil_iff,or_false]at hz
  rcases hz with rfl | rfl <;> assumption⟩
 have three:∀ (k u v:Str),k∈cZ→k.length≤20→u.length≤20→v.length≤20→gL [k,u,v]:=fun k u v h1 h2 h3 h4=>⟨by simp,by simp,h1,fun z hz=>by
  simp only[List.mem_cons,List.mem_nil_iff,or_false]at hz
  rcases hz with rfl | rfl | rfl <;> assumption⟩
 unfold dv
 split
 ·exact two "open" (by decide) (by decide)
 split
 ·exact three "copy" _ _ (by decide) (by decide) xl yl
 split
 ·exact two "drop" (by decide) (by decide)
 split
 ·exact three "tie" _ _ (by decide) (by decide) xl yl
 ·exact three "do" _ _ (by decide) (by decide) wl xl
def wu:Sp:=fun vs H Q _=>∃ (c:Int) (a:Addr) (nm:List Str),vs=[.int c,.str (xB nm c),.str (yB nm c),.ref a]∧H a=some (.lst (nm.map V.str))∧NmOk nm∧
 ∀ (t:Addr) (H':Hp),Same H H'→H t=none→H' t=some (.tup ((dv nm c).map V.str))→Q (.ref t) H'
theorem zW(D:DefAt K mg "_law_step" bV) (z_len:mg "len" = none):bg P w K mg base 1 "_law_step" ["_law_cell", "_law_x", "_law_y", "_law_names_here"] wu:=by
 refine D.cal sc_law_step (fun _ _ _ _ _ _ us hl=>match us,hl with | [_,_,_,_],_=>rfl) (fun vs H Q E h=>by obtain⟨c,a,ns,rfl,_⟩:=h; rfl) (fun f cdv A outer s H vs Q E hr h=>?_)
 obtain⟨c,a,ns,rfl,ha,ok,q⟩:=h
 obtain⟨n1,n7,hb⟩:=id ok
 refine⟨_,(ae (ar 4 sc_law_step.nd (ao cg (pv 0 (hv:=Aw)) ai) (hx:=DG))
   (ae (bN (aG hU (pv 4 (hv:=uO)) ai (bc _)) (ak (aF (bb (aa al (aa (pv 1 (hv:=p6)) ab))))) bB)
   (ae (bN (aG b8 (pv 4 (hv:=uO)) ai (bc _)) (ak (aF (bb (aa al (aa (pv 1 (hv:=p6)) (aa (pv 2 (hv:=AJ)) ab)))))) bB)
   (ae (bN (aG b8 (pv 4 (hv:=uO)) ai (bc _)) (ak (aF (bb (aa al (aa (pv 1 (hv:=p6)) ab))))) bB)
   (ae (bN (aG b8 (pv 4 (hv:=uO)) ai (bc _)) (ak (aF (bb (aa al (aa (pv 1 (hv:=p6)) (aa (pv 2 (hv:=AJ)) ab)))))) bB)
   (ae (ar 5 sc_law_step.nd (ao aw (bi (aa al (aa al (aa al (aa al (aa al (aa al ab))))))) (pv 3 (hv:=FH))) (hx:=EJ))
   (ak (aF (bb (aa al (aa (ay (aW K) (pv 5 (hv:=A6)) (ao cg (ao cg (ao fL (pv 0 (hv:=Aw)) ai) ai) (aY (aK K) z_len bw (aa (pv 5 (hv:=A6)) ab) (hg:=E8))) (fun _ _=>rfl)) (aa (pv 1 (hv:=p6)) ab)))))))))))),?_⟩
 walk_at "rd1"
 refine⟨by decide,?_⟩
 unfold dv at q
 walk_at "nx"
 refine bA (fun c1=>?_) (fun c1=>?_)
 ·rw[if_pos c1]at q
  exact⟨by decide,fun p hp=>q p _ (af hp _) hp ac⟩
 rw[if_neg c1]at q
 walk_at "nx"
 refine bA (fun c1=>?_) (fun c1=>?_)
 ·rw[if_pos c1]at q
  exact⟨by decide,fun p hp=>q p _ (af hp _) hp ac⟩
 rw[if_neg c1]at q
 walk_at "nx"
 refine bA (fun c1=>?_) (fun c1=>?_)
 ·rw[if_pos c1]at q
  exact⟨by decide,fun p hp=>q p _ (af hp _) hp ac⟩
 rw[if_neg c1]at q
 walk_at "nx"
 refine bA (fun c1=>?_) (fun c1=>?_)
 ·rw[if_pos c1]at q
  exact⟨by decide,fun p hp=>q p _ (af hp _) hp ac⟩
 rw[if_neg c1]at q
 walk_at "nx"
 refine⟨by decide,fun p hp=>⟨_,_,ac,by rw[ah (au ha hp)]; exact ha,aS (by rw[List.length_map]; simp only[List.length_cons,List.length_nil]; omega),fun r hr'=>?_⟩⟩
 have sp:=af hp (.lst [V.str "read", .str "lend", .str "back", .str "open", .str "end", .str "write"])
 have smr:=sp.trans (af hr' (.lst ([V.str "read", .str "lend", .str "back", .str "open", .str "end", .str "write"]++ns.map V.str)))
 have er:[V.str "read", .str "lend", .str "back", .str "open", .str "end", .str "write"]++ns.map V.str=(jV++ns).map V.str:=by rw[List.map_append]; rfl
 have hat:upd (upd H p (.lst [V.str "read", .str "lend", .str "back", .str "open", .str "end", .str "write"])) r (.lst ([V.str "read", .str "lend", .str "back", .str "open", .str "end", .str "write"]++ns.map V.str)) r=some (.lst ((jV++ns).map V.str)):=by rw[ac,er]
 generalize upd (upd H p (.lst [V.str "read", .str "lend", .str "back", .str "open", .str "end", .str "write"])) r (.lst ([V.str "read", .str "lend", .str "back", .str "open", .str "end", .str "write"]++ns.map V.str))=H2 at hat smr ⊢
 have hwl:=ok.ex.1
 generalize jV++ns=wl at hat hwl q ⊢
 walk_at "nx"
 have eu:=(fC hwl (c * 40692 % 4001)).2
 refine⟨.inr ⟨by decide,by decide⟩,by decide,_,.inl (SqL.of hat),?_⟩
 rw[List.length_map]
 walk_at "rd1"
 refine⟨by omega,_,_,.inl (SqL.of hat),eu,by decide,fun t ht=>?_⟩
 exact q t _ (smr.trans (af ht _)) (smr.free ht) ac
theorem zI(nm:List Str)(c:Int):cN (dv nm c):=by
 unfold dv
 split
 ·exact .op _
 split
 ·exact .cp _ _
 split
 ·exact .dr _
 split
 ·exact .ti _ _
 ·exact .dd _ _
theorem cf{H:Hp}{a b:Addr}{o:HO}(h:upd H a o b=none):b≠a∧H b=none:=by
 have n:b≠a:=fun z=>by rw[z,ac]at h; cases h
 exact⟨n,by rw[ah n]at h; exact h⟩
theorem zk{H1:Hp}{t here e pp lp:Addr}{T L1 E L2 L3:HO}(ht:H1 t=none)(he:H1 e=none)(hht:here≠t)(hpt:pp≠t)(hlt:lp≠t)(e1:e≠here)(e2:e≠t)(e3:e≠pp)(e4:e≠lp)(hhl:here≠lp)(hhp:here≠pp)(hpl:pp≠lp) :
  let H':=upd (upd (upd (upd (upd H1 t T) here L1) e E) pp L2) lp L3
  H' t=some T∧H' here=some L1∧H' e=some E∧H' pp=some L2∧H' lp=some L3∧∀ b o,H1 b=some o→b≠here→b≠pp→b≠lp→H' b=some o:=by
 refine⟨?_,?_,?_,?_,ac,fun b o eb n1 n2 n3=>?_⟩
 ·rw[ah hlt.symm,ah hpt.symm,ah e2.symm,ah hht.symm,ac]
 ·rw[ah hhl,ah hhp,ah e1.symm,ac]
 ·rw[ah e4,ah e3,ac]
 ·rw[ah hpl,ac]
 ·rw[ah n3,ah n2,ah (au eb he),ah n1,ah (au eb ht)]; exact eb
theorem CF{H1:Hp}{t here e e' pp lp:Addr}{T L1 E L2 E' L2' L3:HO}(ht:H1 t=none)(he:H1 e=none)(he':H1 e'=none)(hht:here≠t)(hpt:pp≠t)(hlt:lp≠t)(e1:e≠here)(e2:e≠t)(e3:e≠pp)(e4:e≠lp)(d1:e'≠here)(d2:e'≠t)(d3:e'≠pp)(d4:e'≠lp)(d5:e'≠e)(hhl:here≠lp)(hhp:here≠pp)(hpl:pp≠lp) :
  let H':=upd (upd (upd (upd (upd (upd (upd H1 t T) here L1) e E) pp L2) e' E') pp L2') lp L3
  H' t=some T∧H' here=some L1∧H' e=some E∧H' e'=some E'∧H' pp=some L2'∧H' lp=some L3∧∀ b o,H1 b=some o→b≠here→b≠pp→b≠lp→H' b=some o:=by
 refine⟨?_,?_,?_,?_,?_,ac,fun b o eb n1 n2 n3=>?_⟩
 ·rw[ah hlt.symm,ah hpt.symm,ah d2.symm,ah hpt.symm,ah e2.symm,ah hht.symm,ac]
 ·rw[ah hhl,ah hhp,ah d1.symm,ah hhp,ah e1.symm,ac]
 ·rw[ah e4,ah e3,ah d5.symm,ah e3,ac]
 ·rw[ah d4,ah d3,ac]
 ·rw[ah hpl,ac]
 ·rw[ah n3,ah n2,ah (au eb he'),ah n2,ah (au eb he),ah n1,ah (au eb ht)]; exact eb
theorem CS(x y:Str):Str.ofString "lend " ++ x++Str.ofString " " ++ y=Txt.join " " ["lend", x,y]:=by
 rw[ej]
 show _=Str.ofString "lend" ++ Str.ofString " " ++ x++Str.ofString " " ++ y
 rw[show Str.ofString "lend" ++ Str.ofString " " = Str.ofString "lend " from by decide]
theorem BO(n:Int):Str.ofString "while " ++ Str.ofString (toString n)=Txt.join " " ["while", bH n]:=by
 rw[ej]
 show _=Str.ofString "while" ++ Str.ofString " " ++ bH n
 rw[show Str.ofString "while" ++ Str.ofString " " = Str.ofString "while " from by decide]; rfl
theorem G4(n:Int):Str.ofString "if " ++ Str.ofString (toString n)=Txt.join " " ["if", bH n]:=by
 rw[ej]
 show _=Str.ofString "if" ++ Str.ofString " " ++ bH n
 rw[show Str.ofString "if" ++ Str.ofString " " = Str.ofString "if " from by decide]; rfl
def dD(nm:List Str)(c:Int)(st:BS):BS:=
 if c % 15=9 then ⟨[],.lend (xB nm c) (yB nm c) st.cur::st.stk,st.L++[Txt.join " " ["lend", xB nm c,yB nm c]],st.left,st.lends⟩
 else if c % 15=11 then ⟨[],.whl (cO c) st.cur::st.stk,st.L++[Txt.join " " ["while", bH (cO c)]],st.left,st.lends⟩
 else ⟨[],.inB (cO c) st.cur::st.stk,st.L++[Txt.join " " ["if", bH (cO c)]],st.left,st.lends⟩
def rz:Sp:=fun vs H Q _=>∃ (here pp lp:Addr) (c:Int) (nm:List Str) (H0:Hp) (root:Addr) (st:BS) (d:Nat) (pr:List (Str × Addr)) (S:Addr→Prop) (as es:List Addr),vs=[.ref here,.ref pp,.ref lp,.int c,.str (xB nm c),.str (yB nm c)]∧
 BInv H0 H root lp pp here st (d+1) pr S as es∧NmOk nm∧as.length≤1000∧es.length≤1000∧st.L.length≤1000∧
 ∀ (inner:Addr) (H':Hp) (pr':List (Str × Addr)) (es':List Addr),BInv H0 H' root lp pp inner (dD nm c st) d pr' S [] es'→Q (.ref inner) H'
theorem wL(D:DefAt K mg "_law_begun" bh) (z_len:mg "len" = none) (z_str:mg "str" = none) (c_law_bound:bg P w K mg base 1 "_law_bound" ["_law_cell"] qY):bg P w K mg base 2 "_law_begun" ["_law_here", "_law_pile", "_law_lines", "_law_cell", "_law_x", "_law_y"] rz:=by
 refine D.cal sc_law_begun (fun _ _ _ _ _ _ us hl=>match us,hl with | [_,_,_,_,_,_],_=>rfl) (fun vs H Q E h=>by obtain⟨_,_,_,_,_,_,_,_,_,_,_,_,_,rfl,_⟩:=h; rfl) (fun f cdv A outer s H vs Q E hr h=>?_)
 obtain⟨here,pp,lp,c,nm,H0,root,st,d,pr,S,as,es,rfl,I,ok,ha1,he1,hl1,q⟩:=h
 refine⟨_,(ae (ar 6 sc_law_begun.nd (bi ab) (hx:=Fx))
   (ae (ar 7 sc_law_begun.nd (aJ c_law_bound hr (aa (pv 3 (hv:=wN)) ab) (hg:=EU)) (hx:=E4))
   (ae (bN (aG b8 (ao cg (pv 3 (hv:=wN)) ai) ai (bc _)) (ae (aQ (aI K PySem.F.plainAttrs_list PySem.F.slot_list_append PySem.F.type_list_append aL (pv 0 (hv:=mi)) (aa (bb (aa al (aa (pv 4 (hv:=BR)) (aa (pv 5 (hv:=BX)) (aa (pv 6 (hv:=lF)) ab))))) ab)))
   (ae (aQ (aI K PySem.F.plainAttrs_list PySem.F.slot_list_append PySem.F.type_list_append aL (pv 1 (hv:=tO)) (aa (bb (aa al (aa (pv 0 (hv:=mi)) ab))) ab)))
   (ae (aQ (aI K PySem.F.plainAttrs_list PySem.F.slot_list_append PySem.F.type_list_append aL (pv 2 (hv:=wX)) (aa (ao aw (ao aw (ao aw al (pv 4 (hv:=BR))) al) (pv 5 (hv:=BX))) ab)))
   (ak (aF (pv 6 (hv:=lF))))))) bB)
   (ae (bN (aG b8 (ao cg (pv 3 (hv:=wN)) ai) ai (bc _)) (ae (aQ (aI K PySem.F.plainAttrs_list PySem.F.slot_list_append PySem.F.type_list_append aL (pv 0 (hv:=mi)) (aa (bb (aa al (aa (pv 7 (hv:=tX)) (aa (pv 6 (hv:=lF)) ab)))) ab)))
   (ae (aQ (aI K PySem.F.plainAttrs_list PySem.F.slot_list_append PySem.F.type_list_append aL (pv 1 (hv:=tO)) (aa (bb (aa al (aa (pv 0 (hv:=mi)) ab))) ab)))
   (ae (aQ (aI K PySem.F.plainAttrs_list PySem.F.slot_list_append PySem.F.type_list_append aL (pv 2 (hv:=wX)) (aa (ao aw al (ef nh z_str h9 (aa (pv 7 (hv:=tX)) ab) (hg:=AE))) ab)))
   (ak (aF (pv 6 (hv:=lF))))))) bB)
   (ae (ar 8 sc_law_begun.nd (bi ab) (hx:=E7))
   (ae (aQ (aI K PySem.F.plainAttrs_list PySem.F.slot_list_append PySem.F.type_list_append aL (pv 0 (hv:=mi)) (aa (bb (aa al (aa (pv 7 (hv:=tX)) (aa (pv 6 (hv:=lF)) (aa (pv 8 (hv:=A9)) ab))))) ab)))
   (ae (aQ (aI K PySem.F.plainAttrs_list PySem.F.slot_list_append PySem.F.type_list_append aL (pv 1 (hv:=tO)) (aa (bb (aa al (aa (pv 0 (hv:=mi)) ab))) ab)))
   (ae (aQ (aI K PySem.F.plainAttrs_list PySem.F.slot_list_append PySem.F.type_list_append aL (pv 1 (hv:=tO)) (aa (bb (aa al (aa (pv 8 (hv:=A9)) ab))) ab)))
   (ae (aQ (aI K PySem.F.plainAttrs_list PySem.F.slot_list_append PySem.F.type_list_append aL (pv 2 (hv:=wX)) (aa (ao aw al (ef nh z_str h9 (aa (pv 7 (hv:=tX)) ab) (hg:=AE))) ab)))
   (ak (aF (pv 6 (hv:=lF))))))))))))),?_⟩
 walk_at "rd1"
 refine⟨by decide,fun inn hinn=>?_⟩
 have sm1:=af hinn (.lst [])
 have ei:upd H inn (.lst []) inn=some (.lst []):=ac
 generalize upd H inn (.lst [])=H1 at sm1 ei ⊢
 have I1:=I.alloc sm1
 obtain⟨_,hhl,hhp,_,_⟩:=I.apart here List.mem_cons_self
 have hph:=Ne.symm hhp
 have hlh:=Ne.symm hhl
 have hlp:=I.lpp
 have hpl:=Ne.symm hlp
 obtain⟨i1,i2,i3,i4,i5⟩:=I.new hinn
 have i6:inn≠here:=fun z=>i5 (z ▸ List.mem_cons_self)
 walk_at "nx"
 refine⟨c,rfl,?_⟩
 have hlog:=ko c
 have hnl:=iq hlog
 unfold bH at hnl
 walk_at "nx"
 refine⟨by decide,bA (fun c1=>?_) (fun c1=>?_)⟩
 ·refine⟨⟨_,SqL.of I1.cur⟩,by decide,fun t ht=>⟨_,by rw[ah (au I1.cur ht)]; exact I1.cur,by rw[List.length_map]; exact bG (by omega),?_⟩⟩
  walk_at "nx"
  have hpt:=au I1.pile ht
  have hlt:=au I1.lines ht
  have hht:=au I1.cur ht
  have hit:=au ei ht
  have pile3:∀ o1 o2,upd (upd H1 t o1) here o2 pp=some (.lst (es.map V.ref)):=fun o1 o2=>by rw[ah hph,ah hpt]; exact I1.pile
  refine⟨⟨_,SqL.of (pile3 _ _)⟩,by decide,fun e he=>?_⟩
  obtain⟨e1,he⟩:=cf he
  obtain⟨e2,he⟩:=cf he
  have e3:=Ne.symm (au I1.pile he)
  have e4:=Ne.symm (au I1.lines he)
  have e5:=Ne.symm (au ei he)
  refine⟨_,by rw[ah (Ne.symm e3)]; exact pile3 _ _,by rw[List.length_map]; exact bG (by omega),?_⟩
  walk_at "nx"
  obtain⟨g1,g2,g3,g4,g5,g6⟩:=zk (T:=.tup [.str "lend", .str (xB nm c),.str (yB nm c),.ref inn]) (L1:=.lst (as.map V.ref++[.ref t])) (E:=.tup [.str "back", .ref here]) (L2:=.lst (es.map V.ref++[.ref e])) (L3:=.lst (st.L.map V.str++[.str (Str.ofString "lend " ++ xB nm c++Str.ofString " " ++ yB nm c)])) ht he hht hpt hlt e1 e2 e3 e4 hhl hhp hpl
  have lines5:∀ o1 o2 o3 o4,upd (upd (upd (upd H1 t o1) here o2) e o3) pp o4 lp=some (.lst (st.L.map V.str)):=fun o1 o2 o3 o4=>by rw[ah hlp,ah (Ne.symm e4),ah hlh,ah hlt]; exact I1.lines
  have xl:=ok.xl c
  have yl:=ok.yl c
  have l5:(Str.ofString "lend ").length=5:=by decide
  have l1:(Str.ofString " ").length=1:=by decide
  refine⟨⟨_,SqL.of (lines5 _ _ _ _)⟩,aS (by omega),aS (by rw[Str.length_append]; omega),aS (by rw[Str.length_append,Str.length_append]; omega),_,lines5 _ _ _ _,by rw[List.length_map]; exact bG (by omega),?_⟩
  walk_at "nx"
  refine q inn _ (("back", here)::pr) (es++[e]) ?_
  have eq:dD nm c st=⟨[],.lend (xB nm c) (yB nm c) st.cur::st.stk,st.L++[Txt.join " " ["lend", xB nm c,yB nm c]],st.left,st.lends⟩:=if_pos c1
  rw[eq]
  refine BInv.open1 (e:=e) I (fun b o eb n1 n2 n3=>g6 b o (sm1 _ _ eb) n1 n2 n3) (t:=t) (by rw[List.map_append]; exact g2) hinn (g6 _ _ ei i6 i2 i1) (by rw[List.map_append,← CS]; exact g5) (by rw[List.map_append]; exact g4) g3 (fun z1 z2=>.lend g2 z2 g1 z1)
 walk_at "nx"
 refine⟨by decide,bA (fun c2=>?_) (fun c2=>?_)⟩
 ·refine⟨⟨_,SqL.of I1.cur⟩,by decide,fun t ht=>⟨_,by rw[ah (au I1.cur ht)]; exact I1.cur,by rw[List.length_map]; exact bG (by omega),?_⟩⟩
  walk_at "nx"
  have hpt:=au I1.pile ht
  have hlt:=au I1.lines ht
  have hht:=au I1.cur ht
  have hit:=au ei ht
  have pile3:∀ o1 o2,upd (upd H1 t o1) here o2 pp=some (.lst (es.map V.ref)):=fun o1 o2=>by rw[ah hph,ah hpt]; exact I1.pile
  refine⟨⟨_,SqL.of (pile3 _ _)⟩,by decide,fun e he=>?_⟩
  obtain⟨e1,he⟩:=cf he
  obtain⟨e2,he⟩:=cf he
  have e3:=Ne.symm (au I1.pile he)
  have e4:=Ne.symm (au I1.lines he)
  refine⟨_,by rw[ah (Ne.symm e3)]; exact pile3 _ _,by rw[List.length_map]; exact bG (by omega),?_⟩
  walk_at "nx"
  obtain⟨g1,g2,g3,g4,g5,g6⟩:=zk (T:=.tup [.str "while", .int (cO c),.ref inn]) (L1:=.lst (as.map V.ref++[.ref t])) (E:=.tup [.str "done", .ref here]) (L2:=.lst (es.map V.ref++[.ref e])) (L3:=.lst (st.L.map V.str++[.str (Str.ofString "while " ++ Str.ofString (toString (cO c)))])) ht he hht hpt hlt e1 e2 e3 e4 hhl hhp hpl
  have lines5:∀ o1 o2 o3 o4,upd (upd (upd (upd H1 t o1) here o2) e o3) pp o4 lp=some (.lst (st.L.map V.str)):=fun o1 o2 o3 o4=>by rw[ah hlp,ah (Ne.symm e4),ah hlh,ah hlt]; exact I1.lines
  have l5:(Str.ofString "while ").length=6:=by decide
  refine⟨⟨_,SqL.of (lines5 _ _ _ _)⟩,hlog,aS (by omega),_,lines5 _ _ _ _,by rw[List.length_map]; exact bG (by omega),?_⟩
  walk_at "nx"
  refine q inn _ (("done", here)::pr) (es++[e]) ?_
  have eq:dD nm c st=⟨[],.whl (cO c) st.cur::st.stk,st.L++[Txt.join " " ["while", bH (cO c)]],st.left,st.lends⟩:=(if_neg c1).trans (if_pos c2)
  rw[eq]
  refine BInv.open1 (e:=e) I (fun b o eb n1 n2 n3=>g6 b o (sm1 _ _ eb) n1 n2 n3) (t:=t) (by rw[List.map_append]; exact g2) hinn (g6 _ _ ei i6 i2 i1) (by rw[List.map_append,← BO]; exact g5) (by rw[List.map_append]; exact g4) g3 (fun z1 z2=>.whl g2 z2 g1 z1)
 walk_at "nx"
 refine⟨by decide,fun oth hoth=>?_⟩
 have sm2:=af hoth (.lst [])
 have eo:upd H1 oth (.lst []) oth=some (.lst []):=ac
 generalize upd H1 oth (.lst [])=H2 at sm2 eo ⊢
 have I2:=I1.alloc sm2
 have ei2:=sm2 _ _ ei
 obtain⟨o1,o2,o3,o4,o5⟩:=I1.new hoth
 have o6:oth≠here:=fun z=>o5 (z ▸ List.mem_cons_self)
 have hio:inn≠oth:=au ei hoth
 walk_at "nx"
 refine⟨⟨_,SqL.of I2.cur⟩,by decide,fun t ht=>⟨_,by rw[ah (au I2.cur ht)]; exact I2.cur,by rw[List.length_map]; exact bG (by omega),?_⟩⟩
 walk_at "nx"
 have hpt:=au I2.pile ht
 have hlt:=au I2.lines ht
 have hht:=au I2.cur ht
 have pile3:∀ o1 o2,upd (upd H2 t o1) here o2 pp=some (.lst (es.map V.ref)):=fun o1 o2=>by rw[ah hph,ah hpt]; exact I2.pile
 refine⟨⟨_,SqL.of (pile3 _ _)⟩,by decide,fun e he=>?_⟩
 obtain⟨e1,he⟩:=cf he
 obtain⟨e2,he⟩:=cf he
 have e3:=Ne.symm (au I2.pile he)
 have e4:=Ne.symm (au I2.lines he)
 refine⟨_,by rw[ah (Ne.symm e3)]; exact pile3 _ _,by rw[List.length_map]; exact bG (by omega),?_⟩
 walk_at "nx"
 refine⟨⟨_,SqL.of ac⟩,by decide,fun e' he'=>?_⟩
 obtain⟨d3,he'⟩:=cf he'
 obtain⟨d5,he'⟩:=cf he'
 obtain⟨d1,he'⟩:=cf he'
 obtain⟨d2,he'⟩:=cf he'
 have d4:=Ne.symm (au I2.lines he')
 refine⟨_,by rw[ah (Ne.symm d3)]; exact ac,by rw[List.length_append,List.length_map]; exact bG (by simp only[List.length_cons,List.length_nil]; omega),?_⟩
 walk_at "nx"
 obtain⟨g1,g2,g3,g3',g4,g5,g6⟩:=CF (T:=.tup [.str "if", .int (cO c),.ref inn,.ref oth]) (L1:=.lst (as.map V.ref++[.ref t])) (E:=.tup [.str "fi", .ref here]) (L2:=.lst (es.map V.ref++[.ref e])) (E':=.tup [.str "else", .ref oth]) (L2':=.lst (es.map V.ref++[.ref e]++[.ref e'])) (L3:=.lst (st.L.map V.str++[.str (Str.ofString "if " ++ Str.ofString (toString (cO c)))])) ht he he' hht hpt hlt e1 e2 e3 e4 d1 d2 d3 d4 d5 hhl hhp hpl
 have lines7:∀ o1 o2 o3 o4 o5 o6,upd (upd (upd (upd (upd (upd H2 t o1) here o2) e o3) pp o4) e' o5) pp o6 lp=some (.lst (st.L.map V.str)):=fun o1 o2 o3 o4 o5 o6=>by rw[ah hlp,ah (Ne.symm d4),ah hlp,ah (Ne.symm e4),ah hlh,ah hlt]; exact I2.lines
 have l3:(Str.ofString "if ").length=3:=by decide
 refine⟨⟨_,SqL.of (lines7 _ _ _ _ _ _)⟩,hlog,aS (by omega),_,lines7 _ _ _ _ _ _,by rw[List.length_map]; exact bG (by omega),?_⟩
 walk_at "nx"
 refine q inn _ (("else", oth)::("fi", here)::pr) (es++[e,e']) ?_
 have eq:dD nm c st=⟨[],.inB (cO c) st.cur::st.stk,st.L++[Txt.join " " ["if", bH (cO c)]],st.left,st.lends⟩:=(if_neg c1).trans (if_neg c2)
 rw[eq]
 exact BInv.open2 (e:=e) (e2:=e') (oth:=oth) I (fun b o eb n1 n2 n3=>g6 b o (sm2 _ _ (sm1 _ _ eb)) n1 n2 n3) (t:=t) (by rw[List.map_append]; exact g2) hinn (g6 _ _ ei2 i6 i2 i1) (sm1.free hoth) (g6 _ _ eo o6 o2 o1) hio (by rw[List.map_append,← G4]; exact g5) (by rw[List.map_append]; rw[g4,List.append_assoc]; rfl) g3 g3' g1
def dh(nm:List Str)(st:BS)(c:Int):BS:=
 if c % 15>11∧st.stk≠[] then dY st
 else if (9≤c % 15∧c % 15≤11)∧st.left>2∧(st.stk.length:Int)<8∧(c % 15≠9∨st.lends>0) then dD nm c ⟨st.cur,st.stk,st.L,st.left - 3+(if (!decide (c % 15=10))=true then 1 else 0),st.lends - (if c % 15=9 then 1 else 0)⟩
 else if c % 15<9∧st.left>0 then ⟨st.cur++[.plain (dv nm c)],st.stk,st.L++[Txt.join " " (dv nm c)],st.left - 1,st.lends⟩
 else st
def cn:List Frm→Nat
 | []=>0
 | .inB _ _::r=>cn r+2
 | _::r=>cn r+1
def dW:Nat→BS→BS
 | 0,st=>st
 | n+1,st=>dY (dW n st)
def i_(left:Int):BS:=⟨[],[],[],left,3⟩
def cP(left:Int)(nm:List Str)(cs:List Int):BS:=dW (cn (cs.foldl (dh nm) (i_ left)).stk) (cs.foldl (dh nm) (i_ left))
theorem Ctx.pile{H:Hp}{S:Addr→Prop}{root:Addr}{fs:List Frm}{pr:List (Str × Addr)}{d:Nat}{here:Addr}(h:Ctx H S root fs pr d here):pr.length=cn fs:=by
 induction h with
 | nil=>rfl
 | lend _ _ _ _ ih=>rw[List.length_cons,ih]; rfl
 | whl _ _ _ _ ih=>rw[List.length_cons,ih]; rfl
 | inB _ _ _ _ _ ih=>rw[List.length_cons,List.length_cons,ih]; rfl
 | inC _ _ _ _ _ ih=>rw[List.length_cons,ih]; rfl
theorem pP{nm:List Str}(hn:NmOk nm){st:BS}{d:Nat}(c:Int)(h:gF st (d+1)):gF (dD nm c st) d:=by
 obtain⟨cur,stk,L,left,lends⟩:=st
 obtain⟨h1,h2,h3,h4,h5⟩:=h
 dsimp only at h1 h2 h3 h4 h5
 have go:∀ (f:Frm) (x:Str),dX (f::stk) d=dX stk (d+1)++b5 (d+2) cur++[x]→tf (f::stk) d→eX f=cur.length→gF ⟨[],f::stk,L++[x],left,lends⟩ d:=fun f x e1 e2 e3=>by
  refine⟨by show d+(stk.length+1)=9; omega,?_,fun s hs=>absurd hs (by show ¬ s∈([]:List Stp); simp),e2,?_⟩
  ·show L++[x]=dX (f::stk) d++b5 (d+1) []
   rw[e1,h2]
   simp[b5]
  ·show 0+((f::stk).map eX).sum≤(L++[x]).length
   rw[List.map_cons,List.sum_cons,List.length_append,e3]
   omega
 unfold dD
 split
 ·exact go _ _ rfl ⟨hn.xl c,hn.yl c,h3,h4⟩ rfl
 split
 ·exact go _ _ rfl ⟨ko c,h3,h4⟩ rfl
 ·exact go _ _ rfl ⟨ko c,h3,h4⟩ rfl
theorem vm{ws:List Str}(hw:gL ws){st:BS}{d:Nat}(h:gF st d)(l:Int):gF ⟨st.cur++[.plain ws],st.stk,st.L++[Txt.join " " ws],l,st.lends⟩ d:=by
 obtain⟨cur,stk,L,left,lends⟩:=st
 obtain⟨h1,h2,h3,h4,h5⟩:=h
 dsimp only at h1 h2 h3 h4 h5
 refine⟨h1,?_,lz h3 (kZ hw),h4,?_⟩
 ·show L++[Txt.join " " ws]=dX stk d++b5 (d+1) (cur++[.plain ws])
  rw[kK,h2]
  simp[b5,bT]
 ·show (cur++[Stp.plain ws]).length+_≤(L++[_]).length
  simp only[List.length_append,List.length_cons,List.length_nil]
  omega
theorem qp{st:BS}{d:Nat}(h:gF st d)(l l':Int):gF ⟨st.cur,st.stk,st.L,l,l'⟩ d:=⟨h.dep,h.lines,h.ok,h.okf,h.size⟩
theorem xI(st:BS):(dY st).L.length≤st.L.length+1:=by
 obtain⟨cur,stk,L,left,lends⟩:=st
 cases stk with
 | nil=>exact Nat.le_succ _
 | cons f r=>cases f <;> (show (L++[_]).length≤L.length+1; rw[List.length_append]; exact Nat.le_refl _)
theorem iZ{H0 H:Hp}{root lp pp here:Addr}{st:BS}{d:Nat}{pr:List (Str × Addr)}{S:Addr→Prop}{as es:List Addr}(I:BInv H0 H root lp pp here st d pr S as es)(l l':Int):BInv H0 H root lp pp here ⟨st.cur,st.stk,st.L,l,l'⟩ d pr S as es:=
 ⟨I.ctx,I.pile,I.ents,I.cur,I.steps,I.lines,I.nd,I.apart,I.lpp,I.off,I.sin,I.sm⟩
theorem qX(st:BS):(dY st).left=st.left∧(dY st).lends=st.lends:=by
 obtain⟨cur,stk,L,left,lends⟩:=st
 cases stk with
 | nil=>exact⟨rfl,rfl⟩
 | cons f r=>cases f <;> exact⟨rfl,rfl⟩
theorem oq(nm:List Str)(c:Int)(st:BS):(dD nm c st).left=st.left∧(dD nm c st).lends=st.lends∧(dD nm c st).L.length=st.L.length+1:=by
 unfold dD
 split
 ·exact⟨rfl,rfl,by simp⟩
 split
 ·exact⟨rfl,rfl,by simp⟩
 ·exact⟨rfl,rfl,by simp⟩
theorem fA{nm:List Str}{st:BS}{c:Int}(h1:¬ (c % 15>11∧st.stk≠[]))(h2:¬ ((9≤c % 15∧c % 15≤11)∧st.left>2∧(st.stk.length:Int)<8∧(c % 15≠9∨st.lends>0)))(h3:¬ (c % 15<9∧st.left>0)):dh nm st c=st:=by
 unfold dh
 rw[if_neg h1,if_neg h2,if_neg h3]
theorem om{st:BS}{d d':Nat}(h:gF st d)(hne:st.stk≠[])(e:d'+(dY st).stk.length=9):gF (dY st) d':=by
 obtain⟨d2,z⟩:=zA h hne
 have:=z.dep
 have:d'=d2:=by omega
 rw[this]; exact z
theorem lg{nm:List Str}{st:BS}{c:Int}(h1:¬ (c % 15>11∧st.stk≠[]))(h2:(9≤c % 15∧c % 15≤11)∧st.left>2∧(st.stk.length:Int)<8∧(c % 15≠9∨st.lends>0)):dh nm st c=dD nm c ⟨st.cur,st.stk,st.L,st.left - 3+(if (!decide (c % 15=10))=true then 1 else 0),st.lends - (if c % 15=9 then 1 else 0)⟩:=by
 unfold dh
 rw[if_neg h1,if_pos h2]
theorem qU{nm:List Str}{st:BS}{c:Int}(h1:¬ (c % 15>11∧st.stk≠[]))(h2:¬ ((9≤c % 15∧c % 15≤11)∧st.left>2∧(st.stk.length:Int)<8∧(c % 15≠9∨st.lends>0)))(h3:c % 15<9∧st.left>0):dh nm st c=⟨st.cur++[.plain (dv nm c)],st.stk,st.L++[Txt.join " " (dv nm c)],st.left - 1,st.lends⟩:=by
 unfold dh
 rw[if_neg h1,if_neg h2,if_pos h3]
theorem fS(st:BS):∀ n,dW (n+1) st=dW n (dY st)
 | 0=>rfl
 | n+1=>by show dY (dW (n+1) st)=dY (dW n (dY st)); rw[fS st n]
theorem wG{H:Hp}{S:Addr→Prop}{root:Addr}{st:BS}{w:Str}{up:Addr}{pr:List (Str × Addr)}{d:Nat}{here:Addr}(h:Ctx H S root st.stk ((w,up)::pr) d here):(dY st).L=st.L++[w]:=by
 obtain⟨cur,stk,L,left,lends⟩:=st
 dsimp only at h
 cases h <;> rfl
theorem wa{H0:Hp}{root lp pp:Addr}:∀ (n:Nat) {H:Hp} {here:Addr} {st:BS} {d:Nat} {pr:List (Str × Addr)} {S:Addr→Prop} {as es:List Addr},pr.length=n→BInv H0 H root lp pp here st d pr S as es→gF st d→
  ∃ S' as',gF (dW n st) 9∧(dW n st).stk=[]∧(dW n st).L=st.L++pr.map (·.1)∧¬ S' root∧¬ S' lp∧¬ S' pp∧H root=some (.lst (as'.map V.ref))∧Paired (stpAt (ProgAt S' 9 H) H) as' (dW n st).cur∧(∀ b,S' b→∃ xs,H b=some (.lst xs))∧root≠lp∧root≠pp∧H0 root=none
 | 0,H,here,st,d,pr,S,as,es,hn,I,B=>by
  have:pr=[]:=List.length_eq_zero_iff.mp hn
  subst this
  have hc:st.stk=[]∧d=9∧here=root:=by
   have hcx:=I.ctx
   generalize st.stk=fs at hcx ⊢
   cases hcx
   exact⟨rfl,rfl,rfl⟩
  obtain⟨k1,k2,k3⟩:=hc
  subst k2 k3
  obtain⟨y1,y2,y3,y4,_⟩:=I.apart here List.mem_cons_self
  exact⟨S,as,B,k1,by simp[dW],y1,I.off.1,I.off.2.1,I.cur,I.steps,I.sin,y2,y3,y4⟩
 | n+1,H,here,st,d,pr,S,as,es,hn,I,B=>by
  rcases pr with _ | ⟨⟨wd,up⟩,pr'⟩
  ·simp at hn
  have hsk:st.stk≠[]:=fun z=>by have:=I.ctx.pile; rw[z]at this; simp[cn]at this
  have hes:=av I.ents
  rw[List.length_reverse]at hes
  rcases List.eq_nil_or_concat es with z | ⟨es0,e,z⟩
  ·rw[z]at hes; simp at hes
  rw[List.concat_eq_append]at z
  subst z
  obtain⟨d',as',I4⟩:=I.pop (H':=upd (upd H pp (.lst (es0.map V.ref))) lp (.lst (st.L.map V.str++[.str wd]))) (fun b o eb n1 n2=>by rw[ah n2,ah n1]; exact eb) (by rw[ah (Ne.symm I.lpp)]; exact ac) (by rw[ac,List.map_append]; rfl)
  have B4:=om B hsk I4.ctx.deep.1
  obtain⟨S',as2,z1,z2,z3,z4,z5,z6,z7,z8,z9,z10,z11,z12⟩:=wa n (by simpa using hn) I4 B4
  have back:∀ b o,upd (upd H pp (.lst (es0.map V.ref))) lp (.lst (st.L.map V.str++[.str wd])) b=some o→b≠lp→b≠pp→H b=some o:=fun b o e n1 n2=>by rw[ah n1,ah n2]at e; exact e
  have ht:∀ b xs,upd (upd H pp (.lst (es0.map V.ref))) lp (.lst (st.L.map V.str++[.str wd])) b=some (.tup xs)→H b=some (.tup xs):=fun b xs e=>back b _ e (fun z=>by rw[z,ac]at e; cases e) (fun z=>by rw[z,ah (Ne.symm I.lpp),ac]at e; cases e)
  have hl:∀ b xs,S' b→upd (upd H pp (.lst (es0.map V.ref))) lp (.lst (st.L.map V.str++[.str wd])) b=some (.lst xs)→H b=some (.lst xs):=fun b xs hb e=>back b _ e (fun z=>z5 (z ▸ hb)) (fun z=>z6 (z ▸ hb))
  refine⟨S',as2,by rw[fS]; exact z1,by rw[fS]; exact z2,?_,z4,z5,z6,back _ _ z7 z10 z11,?_,fun b hb=>?_,z10,z11,z12⟩
  ·rw[fS,z3,wG I.ctx,List.append_assoc]; rfl
  ·rw[fS]
   exact Paired.imp' (fun a s z=>stpAt.imp ht (fun q b y=>ProgAt.imp ht hl (fun _ z=>z) 9 y) z) z8
  ·obtain⟨xs,e⟩:=z9 b hb
   exact⟨xs,hl _ _ hb e⟩
theorem zv{α : Type}(xs:List α)(x:α):di (xs++[x]) (-1)=some x:=by
 have e:iS (xs++[x]).length (-1)=some xs.length:=by
  unfold iS
  simp only[List.length_append,List.length_cons,List.length_nil]
  split <;> simp_all <;> omega
 unfold di
 rw[e]
 simp
def nA:Sp:=fun vs H Q _=>∃ (ca na:Addr) (cs:List Int) (nm:List Str),vs=[.ref ca,.ref na]∧H ca=some (.lst (cs.map V.int))∧H na=some (.lst (nm.map V.str))∧NmOk nm∧cs.length≤63∧
 ∀ (t root lp:Addr) (H':Hp) (S:Addr→Prop) (as:List Addr),Same H H'→H' t=some (.tup [.ref root,.ref lp])→H root=none→H lp=none→root≠lp→¬ S root→¬ S lp→H' root=some (.lst (as.map V.ref))→Paired (stpAt (ProgAt S 9 H') H') as (cP 60 nm cs).cur→dZ 10 (cP 60 nm cs).cur→
  H' lp=some (.lst ((b5 10 (cP 60 nm cs).cur).map V.str))→(b5 10 (cP 60 nm cs).cur).length≤100→as.length≤500→Q (.ref t) H'
theorem tN(D:DefAt K mg "_law_program" am) (z_len:mg "len" = none) (z_int:mg "int" = none) (z_reversed:mg "reversed" = none) (c_law_begun:bg P w K mg base 2 "_law_begun" ["_law_here", "_law_pile", "_law_lines", "_law_cell", "_law_x", "_law_y"] rz) (c_law_step:bg P w K mg base 1 "_law_step" ["_law_cell", "_law_x", "_law_y", "_law_names_here"] wu):bg P w K mg base 3 "_law_program" ["_law_cells", "_law_names_here"] nA:=by
 refine D.cal sc_law_program (fun _ _ _ _ _ _ us hl=>match us,hl with | [_,_],_=>rfl) (fun vs H Q E h=>by obtain⟨_,_,_,_,rfl,_⟩:=h; rfl) (fun f cdv A outer s H vs Q E hr h=>?_)
 obtain⟨ca,na,cs,nm,rfl,hca,hna,ok,h63,q⟩:=h
 refine⟨_,(ae (ar 2 sc_law_program.nd (bi ab) (hx:=D5))
   (ae (ar 3 sc_law_program.nd (bi ab) (hx:=Dr))
   (ae (ar 4 sc_law_program.nd (bi ab) (hx:=Fu))
   (ae (ar 5 sc_law_program.nd (pv 2 (hv:=B9)) (hx:=xn))
   (ae (ar 6 sc_law_program.nd ai (hx:=xR))
   (ae (ar 7 sc_law_program.nd ai (hx:=Cg))
   (ae (cE PassesOwn.never rfl (dz K (pv 0 (hv:=DR))) (bj 8 sc_law_program.nd (hx:=FK)) (ae (ar 9 sc_law_program.nd (ao cg (pv 8 (hv:=qy)) ai) (hx:=F4))
   (ae (ar 10 sc_law_program.nd (ay (aW K) (pv 1 (hv:=pb)) (ao cg (ao cg (ao fL (pv 8 (hv:=qy)) ai) ai) (aY (aK K) z_len bw (aa (pv 1 (hv:=pb)) ab) (hg:=xE))) (fun _ _=>rfl)) (hx:=Ei))
   (ae (ar 11 sc_law_program.nd (ay (aW K) (pv 1 (hv:=pb)) (ao cg (ao cg (ao fL (pv 8 (hv:=qy)) ai) ai) (aY (aK K) z_len bw (aa (pv 1 (hv:=pb)) ab) (hg:=xE))) (fun _ _=>rfl)) (hx:=Ek))
   (ae (ar 12 sc_law_program.nd (aY (aK K) z_len bw (aa (fJ (CompSc.to (fsc:=(defScope am)) (N:=["_law_cells", "_law_names_here", "_law_program_here", "_law_lines", "_law_pile", "_law_here", "_law_left", "_law_lends", "_law_cell", "_law_kind", "_law_x", "_law_y", "_law_deep", "_law_line", "_law_there"]) (N0:=["_law_cells", "_law_names_here", "_law_program_here", "_law_lines", "_law_pile", "_law_here", "_law_left", "_law_lends", "_law_cell", "_law_kind", "_law_x", "_law_y", "_law_deep", "_law_line", "_law_there"]) (T:=["_law_one"]) ⟨by decide +kernel,by decide +kernel,by decide +kernel,by decide +kernel,by decide +kernel,by decide +kernel,by decide +kernel⟩ rfl rfl) rfl (dz K (pv 4 (hv:=qc))) (fun _ _ _ _=>(bj 15 (show (["_law_cells", "_law_names_here", "_law_program_here", "_law_lines", "_law_pile", "_law_here", "_law_left", "_law_lends", "_law_cell", "_law_kind", "_law_x", "_law_y", "_law_deep", "_law_line", "_law_there", "_law_one"]:List Str).Nodup from by decide +kernel) (hx:=(iA (defScope am) (by decide +kernel))) (hf:=lx (defScope am) (by decide +kernel)))) (dN (show (["_law_cells", "_law_names_here", "_law_program_here", "_law_lines", "_law_pile", "_law_here", "_law_left", "_law_lends", "_law_cell", "_law_kind", "_law_x", "_law_y", "_law_deep", "_law_line", "_law_there"]:List Str).length≤15 from by decide)) (fun _ _ _ _=>(ki (aG gw (ay (aW K) (pv 15 (hv:=(de (defScope am) (by decide +kernel)))) ai (fun _ _=>rfl)) al (bc _)))) (fun _ _ _ _=>(pv 15 (hv:=(de (defScope am) (by decide +kernel)))))) ab) (hg:=xE)) (hx:=Ff))
   (ak (bN (PW.pt' (gv (aG lv (pv 9 (hv:=lN)) ai (bc _)) (h_ (aG (zM K hr) (pv 4 (hv:=qc)) (bi ab) (bc _))))) (ae (im (sG K PySem.F.plainAttrs_list PySem.F.slot_list_pop PySem.F.type_list_pop sV (pv 4 (hv:=qc))) (dR K (n:=2) (bW (bj 13 sc_law_program.nd (hx:=Bz)) (bW (bj 5 sc_law_program.nd (hx:=xn)) dS))))
   (ak (aQ (aI K PySem.F.plainAttrs_list PySem.F.slot_list_append PySem.F.type_list_append aL (pv 3 (hv:=ou)) (aa (pv 13 (hv:=AR)) ab))))) (ak (bN (PW.pt' (gv (xf zl zl ai (pv 9 (hv:=lN)) ai) (gv (aG lv (pv 6 (hv:=tZ)) ai (bc _)) (gv (aG hU (pv 12 (hv:=EZ)) ai (bc _)) (h_ (PW.pt' (jv (aG gw (pv 9 (hv:=lN)) ai (bc _)) (je (aG lv (pv 7 (hv:=AZ)) ai (bc _)))))))))) (ae (ar 6 sc_law_program.nd (ao aw (ao gA (pv 6 (hv:=tZ)) ai) (ef m6 z_int ip (aa (rn gw (pv 9 (hv:=lN)) ai (bc _)) ab) (hg:=AI))) (hx:=xR))
   (ae (ar 7 sc_law_program.nd (ao gA (pv 7 (hv:=AZ)) (ef m6 z_int ip (aa (rn b8 (pv 9 (hv:=lN)) ai (bc _)) ab) (hg:=AI))) (hx:=Cg))
   (ak (ar 5 sc_law_program.nd (aJ c_law_begun hr (aa (pv 5 (hv:=xP)) (aa (pv 4 (hv:=qc)) (aa (pv 3 (hv:=ou)) (aa (pv 8 (hv:=qy)) (aa (pv 10 (hv:=BK)) (aa (pv 11 (hv:=BM)) ab)))))) (hg:=Dz)) (hx:=xn))))) (ak (bN (PW.pt' (gv (aG hU (pv 9 (hv:=lN)) ai (bc _)) (h_ (aG lv (pv 6 (hv:=tZ)) ai (bc _))))) (ae (ar 6 sc_law_program.nd (ao gA (pv 6 (hv:=tZ)) ai) (hx:=xR))
   (ae (aQ (aI K PySem.F.plainAttrs_list PySem.F.slot_list_append PySem.F.type_list_append aL (pv 5 (hv:=xP)) (aa (aJ c_law_step hr (aa (pv 8 (hv:=qy)) (aa (pv 10 (hv:=BK)) (aa (pv 11 (hv:=BM)) (aa (pv 1 (hv:=pb)) ab)))) (hg:=F0)) ab)))
   (ak (aQ (aI K PySem.F.plainAttrs_list PySem.F.slot_list_append PySem.F.type_list_append aL (pv 3 (hv:=ou)) (aa (aI K PySem.F.plainAttrs_str PySem.F.slot_str_join PySem.F.type_str_join (xi K) al (aa (ay (aW K) (pv 5 (hv:=xP)) (gR fW ai) (fun _ _=>rfl)) ab)) ab)))))) bB)))))))))))
   (ae (cE PassesOwn.never rfl (Bo K FT z_reversed (aa (pv 4 (hv:=qc)) ab)) (dR K (n:=2) (bW (bj 13 sc_law_program.nd (hx:=Bz)) (bW (bj 14 sc_law_program.nd (hx:=DB)) dS))) (ak (aQ (aI K PySem.F.plainAttrs_list PySem.F.slot_list_append PySem.F.type_list_append aL (pv 3 (hv:=ou)) (aa (pv 13 (hv:=AR)) ab)))))
   (ak (aF (bb (aa (pv 2 (hv:=B9)) (aa (pv 3 (hv:=ou)) ab))))))))))))),?_⟩
 walk_at "rd1"
 refine⟨by decide,fun root hroot=>?_⟩
 walk_at "nx"
 refine⟨by decide,fun lp hlp=>?_⟩
 walk_at "nx"
 refine⟨by decide,fun pp hpp=>?_⟩
 obtain⟨p1,hpp⟩:=cf hpp
 obtain⟨p2,hpp⟩:=cf hpp
 obtain⟨l1,hlp⟩:=cf hlp
 have I0:BInv H (upd (upd (upd H root (.lst [])) lp (.lst [])) pp (.lst [])) root lp pp root (i_ 60) 9 [] (fun _=>False) [] []:=by
  refine⟨.nil,ac,.nil,by rw[ah (Ne.symm p2),ah (Ne.symm l1)]; exact ac,.nil,by rw[ah (Ne.symm p1)]; exact ac,by simp,fun a ha=>?_,Ne.symm p1,⟨id,id,hlp,hpp⟩,fun b hb=>hb.elim,?_⟩
  ·have:a=root:=by simpa using ha
   subst this
   exact⟨id,Ne.symm l1,Ne.symm p2,hroot,_,by rw[ah (Ne.symm p2),ah (Ne.symm l1)]; exact ac⟩
  ·exact(((af hroot _).upd hlp _).upd hpp _)
 have B0:gF (i_ 60) 9:=⟨rfl,rfl,fun s hs=>absurd hs (by show ¬ s∈([]:List Stp); simp),trivial,Nat.le_refl _⟩
 generalize upd (upd (upd H root (.lst [])) lp (.lst [])) pp (.lst [])=H1 at I0 ⊢
 walk_at "nx"
 walk_at "nx"
 walk_at "nx"
 walk_at "nx"
 refine⟨⟨_,SqL.of (I0.sm _ _ hca)⟩,?_⟩
 refine dn (xs:=cs.map V.int) (fun i σ H'=>∃ (here:Addr) (d:Nat) (pr:List (Str × Addr)) (S:Addr→Prop) (as es:List Addr) (st:BS) (o8 o9 o10 o11 o12 o13 o14:Option V),σ=[some (.ref ca),some (.ref na),some (.ref root),some (.ref lp),some (.ref pp),some (.ref here),some (.int st.left),some (.int st.lends),o8,o9,o10,o11,o12,o13,o14]∧
   st=(cs.take i).foldl (dh nm) (i_ 60)∧BInv H H' root lp pp here st d pr S as es∧gF st d∧st.L.length≤i)
  ⟨root,9,[],_,[],[],i_ 60,none,none,none,none,none,none,none,rfl,rfl,I0,B0,Nat.le_refl _⟩ (fun i σ H' _ h=>by obtain⟨_,_,_,_,_,_,_,_,_,_,_,_,_,_,_,_,I,_⟩:=h; exact SqL.of (I.sm _ _ hca)) ?_ ?_
 ·rintro i v σ H' hv ⟨here,d,pr,S,as,es,st,o8,o9,o10,o11,o12,o13,o14,rfl,hst,I,B,hL⟩
  have hi:i<cs.length:=by have:=(List.getElem?_eq_some_iff.mp hv).1; simpa using this
  rw[List.getElem?_map,List.getElem?_eq_getElem hi]at hv
  cases hv
  have hfold:(cs.take (i+1)).foldl (dh nm) (i_ 60)=dh nm st cs[i]:=by
   rw[List.take_add_one,List.getElem?_eq_getElem hi,List.foldl_append,← hst]; rfl
  generalize cs[i]=c at hfold ⊢
  obtain⟨dd1,dd2,dd3⟩:=I.ctx.deep
  have hes:=av I.ents
  rw[List.length_reverse]at hes
  have hal:=av I.steps
  have hsz:=B.size
  have n1:=ok.n1
  have ha:=I.sm _ _ hna
  walk_at "rd1"
  refine⟨by decide,?_⟩
  walk_at "nx"
  refine⟨.inr ⟨by decide,by decide⟩,by decide,_,.inl (SqL.of ha),?_⟩
  rw[List.length_map]
  walk_at "rd1"
  refine⟨by omega,_,_,.inl (SqL.of ha),(fC n1 (c * 48271 % 1009)).2,?_⟩
  rw[show pk nm (c * 48271 % 1009)=xB nm c from rfl]
  walk_at "nx"
  refine⟨.inr ⟨by decide,by decide⟩,by decide,_,.inl (SqL.of ha),?_⟩
  rw[List.length_map]
  walk_at "rd1"
  refine⟨by omega,_,_,.inl (SqL.of ha),(fC n1 (c * 69621 % 2003)).2,?_⟩
  rw[show pk nm (c * 69621 % 2003)=yB nm c from rfl]
  walk_at "nx"
  refine⟨⟨_,SqL.of I.pile⟩,fun C hC=>?_⟩
  refine t0 (xs:=es.map V.ref) (fun j ys H2=>Same H' H2∧H2 C=some (.lst ys)∧ys.length=da (pr.reverse.take j)) ⟨af hC _,ac,rfl⟩ (fun j ys H2 _ h=>SqL.of (h.1 _ _ I.pile)) ?_ ?_
  ·rintro j ys H2 x hx hj ⟨sm2,hl2,hn2⟩
   rw[List.length_map]at hj
   rw[List.getElem?_map,List.getElem?_eq_getElem hj]at hx
   cases hx
   obtain⟨qq,hqq,hent⟩:=b6 I.ents (List.getElem?_eq_getElem hj)
   have htk:pr.reverse.take (j+1)=pr.reverse.take j++[qq]:=by rw[List.take_add_one,hqq]; rfl
   have hns:da (pr.reverse.take j++[qq])=da (pr.reverse.take j)+da [qq]:=by unfold da; rw[List.filter_append,List.length_append]
   have hle:da (pr.reverse.take j)≤j:=by
    unfold da
    have:=List.length_filter_le (fun q:Str × Addr=>decide (q.1≠("else" : Str))) (pr.reverse.take j)
    rw[List.length_take]at this
    omega
   walk_at "rd1"
   refine⟨_,_,.inr (SqT.of (sm2 _ _ hent)),cM,?_⟩
   walk_at "rd1"
   refine bA (fun c1=>?_) (fun c1=>?_)
   ·have hq1:qq.1 ≠ "else" := by simpa using c1
    refine oC (by rw[List.length_map]; exact hj) (by rw[hn2]; exact hle) (by rw[List.length_map]; exact aS (by omega)) hl2 ⟨sm2.upd hC _,ac,?_⟩
    obtain⟨q1,q2⟩:=qq
    rw[htk,hns,ik hq1,List.length_append,hn2]; rfl
   ·have hq1:qq.1 = "else" := by simpa using c1
    refine uF (by rw[List.length_map]; exact hj) ⟨sm2,hl2,?_⟩
    obtain⟨q1,q2⟩:=qq
    dsimp only at hq1
    subst hq1
    rw[htk,hns,rH,hn2]; rfl
  rintro ys H2 ⟨sm2,hl2,hn2⟩
  have hdeep:ys.length=st.stk.length:=by
   rw[hn2,List.length_map,List.take_of_length_le (by rw[List.length_reverse]; omega),← dd2]
   unfold da
   rw[List.filter_reverse,List.length_reverse]
  have I2:=I.alloc sm2
  walk_at "rd1"
  refine⟨_,.inl (SqL.of hl2),?_⟩
  rw[hdeep]
  walk_at "nx"
  refine bA (fun c1=>?_) (fun c1=>?_)
  ·refine⟨by decide,fun np hnp=>?_⟩
   have sm3:=af hnp (.lst [])
   have e3:upd H2 np (.lst []) np=some (.lst []):=ac
   generalize upd H2 np (.lst [])=H3 at sm3 e3 ⊢
   have I3:=I2.alloc sm3
   rcases pr with _ | ⟨⟨wd,up⟩,pr'⟩
   ·have hes0:es=[]:=List.length_eq_zero_iff.mp hes
    have hsk:st.stk=[]:=by have:=dd2; exact List.length_eq_zero_iff.mp this.symm
    subst hes0
    refine⟨0,true,by decide,EqN.seqFlat (.inl ⟨SqL.of I3.pile,SqL.of e3⟩) (by simp),?_⟩
    walk_at "rd1"
    refine bA (fun c2=>?_) (fun c2=>absurd c2 (by omega))
    refine bA (fun c3=>absurd c3 (by omega)) (fun c3=>?_)
    refine bA (fun c4=>absurd c4 (by omega)) (fun c4=>?_)
    exact⟨here,d,_,S,as,_,st,_,_,_,_,_,_,_,rfl,by rw[hfold,fA (by rw[hsk]; simp) (by omega) (by omega)],I3,B,by omega⟩
   ·have hsk:st.stk≠[]:=fun z=>by have:=I.ctx.pile; rw[z]at this; simp[cn]at this
    rcases List.eq_nil_or_concat es with z | ⟨es0,e,z⟩
    ·rw[z]at hes; simp at hes
    rw[List.concat_eq_append]at z
    subst z
    have hent:H3 e=some (.tup [.str wd,.ref up]):=by
     have:=I3.ents
     rw[List.reverse_cons]at this
     exact(hJ this).2
    have npe:e≠pp:=b7 hent I3.pile (fun z=>nomatch z)
    refine⟨0,false,by decide,.inr ⟨pp,np,_,_,rfl,rfl,.inl ⟨SqL.of I3.pile,SqL.of e3⟩,.inr ⟨SqL.of I3.pile,SqL.of e3,by simp,rfl⟩⟩,?_⟩
    walk_at "rd1"
    refine⟨⟨_,SqL.of I3.pile⟩,_,.ref e,I3.pile,by simp,e,[.str wd,.ref up],rfl,SqT.of (by rw[ah npe]; exact hent),rfl,_,_,rfl,_,_,rfl,rfl,?_⟩
    walk_at "nx"
    have hl4:∀ o,upd H3 pp o lp=some (.lst (st.L.map V.str)):=fun o=>by rw[ah I.lpp]; exact I3.lines
    refine⟨⟨_,SqL.of (hl4 _)⟩,_,hl4 _,by rw[List.length_map]; exact bG (by omega),?_⟩
    have hdl:(List.map V.ref (es0++[e])).dropLast=es0.map V.ref:=by rw[List.map_append]; exact List.dropLast_concat
    rw[hdl]
    obtain⟨d',as',I4⟩:=I3.pop (H':=upd (upd H3 pp (.lst (es0.map V.ref))) lp (.lst (st.L.map V.str++[.str wd]))) (fun b o eb n1 n2=>by rw[ah n2,ah n1]; exact eb) (by rw[ah (Ne.symm I.lpp)]; exact ac) (by rw[ac,List.map_append]; rfl)
    have hpl:=xI st
    refine⟨up,d',pr',_,as',es0,dY st,some (.int c),some (.int (c % 15)),some (.str (xB nm c)),some (.str (yB nm c)),some (.int (st.stk.length:Int)),some (.str wd),o14,?_,?_,I4,om B hsk I4.ctx.deep.1,by omega⟩
    ·rw[(qX st).1,(qX st).2]
    ·rw[hfold]; unfold dh; rw[if_pos ⟨c1,hsk⟩]
  ·refine bA (fun c2=>?_) (fun c2=>?_)
   ·refine bA (fun c3=>?_) (fun c3=>absurd c3 (by omega))
    refine bA (fun c4=>?_) (fun c4=>?_)
    rotate_left
    ·refine bA (fun c9=>absurd c9 (by omega)) (fun c9=>?_)
     exact⟨here,d,pr,S,as,es,st,_,_,_,_,_,_,_,rfl,by rw[hfold,fA (by omega) (by omega) (by omega)],I2,B,by omega⟩
    refine bA (fun c5=>?_) (fun c5=>?_)
    rotate_left
    ·refine bA (fun c9=>absurd c9 (by omega)) (fun c9=>?_)
     exact⟨here,d,pr,S,as,es,st,_,_,_,_,_,_,_,rfl,by rw[hfold,fA (by omega) (by omega) (by omega)],I2,B,by omega⟩
    obtain⟨d',rfl⟩ : ∃ d',d=d'+1:=⟨d - 1,by omega⟩
    refine bA (fun c6=>?_) (fun c6=>?_)
    ·walk_at "nx"
     walk_at "nx"
     refine⟨here,pp,lp,c,nm,H,root,⟨st.cur,st.stk,st.L,st.left - 3+(if (!decide (c % 15=10))=true then 1 else 0),st.lends - (if c % 15=9 then 1 else 0)⟩,d',pr,S,as,es,rfl,iZ I2 _ _,ok,by omega,by omega,by show st.L.length≤1000; omega,fun inner H3 pr3 es3 I3=>?_⟩
     obtain⟨y1,y2,y3⟩:=oq nm c ⟨st.cur,st.stk,st.L,st.left - 3+(if (!decide (c % 15=10))=true then 1 else 0),st.lends - (if c % 15=9 then 1 else 0)⟩
     refine⟨inner,d',pr3,S,[],es3,dD nm c ⟨st.cur,st.stk,st.L,st.left - 3+(if (!decide (c % 15=10))=true then 1 else 0),st.lends - (if c % 15=9 then 1 else 0)⟩,some (.int c),some (.int (c % 15)),some (.str (xB nm c)),some (.str (yB nm c)),some (.int (st.stk.length:Int)),o13,o14,?_,?_,I3,pP ok c (qp B _ _),?_⟩
     ·rw[y1,y2]
     ·rw[hfold,lg (by omega) ⟨⟨c2,c3⟩,c4,c5,.inl (by simpa using c6)⟩]
     ·rw[y3]; show st.L.length+1≤i+1; omega
    refine bA (fun c7=>?_) (fun c7=>?_)
    ·walk_at "nx"
     walk_at "nx"
     refine⟨here,pp,lp,c,nm,H,root,⟨st.cur,st.stk,st.L,st.left - 3+(if (!decide (c % 15=10))=true then 1 else 0),st.lends - (if c % 15=9 then 1 else 0)⟩,d',pr,S,as,es,rfl,iZ I2 _ _,ok,by omega,by omega,by show st.L.length≤1000; omega,fun inner H3 pr3 es3 I3=>?_⟩
     obtain⟨y1,y2,y3⟩:=oq nm c ⟨st.cur,st.stk,st.L,st.left - 3+(if (!decide (c % 15=10))=true then 1 else 0),st.lends - (if c % 15=9 then 1 else 0)⟩
     refine⟨inner,d',pr3,S,[],es3,dD nm c ⟨st.cur,st.stk,st.L,st.left - 3+(if (!decide (c % 15=10))=true then 1 else 0),st.lends - (if c % 15=9 then 1 else 0)⟩,some (.int c),some (.int (c % 15)),some (.str (xB nm c)),some (.str (yB nm c)),some (.int (st.stk.length:Int)),o13,o14,?_,?_,I3,pP ok c (qp B _ _),?_⟩
     ·rw[y1,y2]
     ·rw[hfold,lg (by omega) ⟨⟨c2,c3⟩,c4,c5,.inr c7⟩]
     ·rw[y3]; show st.L.length+1≤i+1; omega
    have c8:c % 15=9:=by simpa using c6
    refine bA (fun c9=>absurd c9 (by omega)) (fun c9=>?_)
    exact⟨here,d'+1,pr,S,as,es,st,_,_,_,_,_,_,_,rfl,by rw[hfold,fA (by omega) (by omega) (by omega)],I2,B,by omega⟩
   ·refine bA (fun c3=>?_) (fun c3=>absurd c3 (by omega))
    refine bA (fun c4=>?_) (fun c4=>?_)
    rotate_left
    ·exact⟨here,d,pr,S,as,es,st,_,_,_,_,_,_,_,rfl,by rw[hfold,fA (by omega) (by omega) (by omega)],I2,B,by omega⟩
    walk_at "nx"
    refine⟨⟨_,SqL.of I2.cur⟩,c,na,nm,rfl,I2.sm _ _ hna,ok,fun t H3 sm3 ht hat=>?_⟩
    have I3:=I2.alloc sm3
    walk_at "rd1"
    refine⟨_,I3.cur,by rw[List.length_map]; exact bG (by omega),?_⟩
    obtain⟨_,hhl,hhp,_,_⟩:=I.apart here List.mem_cons_self
    have nth:t≠here:=b7 hat I3.cur (fun z=>nomatch z)
    have hl4:∀ o,upd H3 here o lp=some (.lst (st.L.map V.str)):=fun o=>by rw[ah (Ne.symm hhl)]; exact I3.lines
    have pw:=yf ok c
    have hsum:=gb 20 (dv nm c) pw.len
    have p3:=pw.three
    have h1l:(Str.ofString " ").length=1:=by decide
    walk_at "nx"
    refine⟨⟨_,SqL.of (hl4 _)⟩,_,_,.inl (SqL.of ac),zv _ _,?_⟩
    walk_at "rd1"
    refine⟨dv nm c,SqT.of (by rw[ah nth]; exact hat),by rw[h1l]; omega,?_⟩
    refine⟨_,hl4 _,by rw[List.length_map]; exact bG (by omega),?_⟩
    have I5:=I3.plain (H':=upd (upd H3 here (.lst (as.map V.ref++[.ref t]))) lp (.lst (st.L.map V.str++[.str (Txt.join " " (dv nm c))]))) (t:=t) (ws:=dv nm c) (L':=st.L++[Txt.join " " (dv nm c)]) (lf:=st.left - 1) (ld:=st.lends) (fun b o eb n1 n2 n3=>by rw[ah n3,ah n1]; exact eb) (by rw[ah hhl,ac,List.map_append]; rfl) (by rw[ah (b7 hat I3.lines (fun z=>nomatch z)),ah nth]; exact hat) (by rw[ac,List.map_append]; rfl) (by rw[ah (Ne.symm I.lpp),ah (Ne.symm hhp)]; exact I3.pile)
    refine⟨here,d,pr,S,as++[t],es,_,some (.int c),some (.int (c % 15)),some (.str (xB nm c)),some (.str (yB nm c)),some (.int (st.stk.length:Int)),o13,o14,rfl,?_,I5,vm pw B _,?_⟩
    ·rw[hfold,qU (by omega) (by omega) ⟨c3,c4⟩]
    ·show (st.L++[_]).length≤i+1
     rw[List.length_append]; simp only[List.length_cons,List.length_nil]; omega
 ·rintro σ H' ⟨here,d,pr,S,as,es,st,o8,o9,o10,o11,o12,o13,o14,rfl,hst,I,B,hL⟩
  rw[List.length_map,List.take_length]at hst
  rw[List.length_map]at hL
  have hplen:=I.ctx.pile
  obtain⟨dd1,_,dd3⟩:=I.ctx.deep
  have hes:=av I.ents
  rw[List.length_reverse]at hes
  walk_at "nx"
  refine⟨_,SqL.of I.pile,?_⟩
  refine wQ (xs:=es.map V.ref) (fun j σ H2=>∃ o13 o14:Option V,σ=[some (.ref ca),some (.ref na),some (.ref root),some (.ref lp),some (.ref pp),some (.ref here),some (.int st.left),some (.int st.lends),o8,o9,o10,o11,o12,o13,o14]∧BInv H H2 root lp pp here ⟨st.cur,st.stk,st.L++(pr.take j).map (·.1),st.left,st.lends⟩ d pr S as es)
   ⟨o13,o14,rfl,by simpa using iZ I st.left st.lends⟩ (fun j σ H2 _ h=>by obtain⟨_,_,_,I⟩:=h; exact SqL.of I.pile) ?_ ?_
  ·rintro j x σ H2 hj hx ⟨o13,o14,rfl,I2⟩
   rw[List.length_map]at hj hx
   have hj':es.length - 1 - j<es.length:=by omega
   rw[List.getElem?_map,List.getElem?_eq_getElem hj']at hx
   cases hx
   obtain⟨qq,hqq,hent⟩:=b6 I2.ents (List.getElem?_eq_getElem hj')
   rw[List.getElem?_reverse (by omega)]at hqq
   have hix:pr.length - 1 - (es.length - 1 - j)=j:=by omega
   rw[hix]at hqq
   have htk:(pr.take (j+1)).map (·.1)=(pr.take j).map (·.1)++[qq.1]:=by rw[List.take_add_one,hqq,List.map_append]; rfl
   have hll:((pr.take j).map (·.1)).length≤20:=by rw[List.length_map,List.length_take]; omega
   walk_at "rd1"
   refine⟨_,_,rfl,SqT.of hent,rfl,?_⟩
   walk_at "rd1"
   refine⟨⟨_,SqL.of I2.lines⟩,_,I2.lines,by rw[List.length_map]; exact bG (by show (st.L++_).length≤1000000; rw[List.length_append]; omega),?_⟩
   have I3:=I2.line (st.L++(pr.take (j+1)).map (·.1)) (lf:=st.left) (ld:=st.lends)
   refine⟨_,_,rfl,?_⟩
   rw[htk,← List.append_assoc,List.map_append]at I3
   rw[htk,← List.append_assoc]
   exact I3
  ·rintro σ H2 ⟨o13,o14,rfl,I2⟩
   rw[List.length_map,List.take_of_length_le (by omega)]at I2
   walk_at "nx"
   refine⟨by decide,fun t ht=>?_⟩
   have I4:=I2.alloc (af ht (.tup [.ref root,.ref lp]))
   have ett:upd H2 t (.tup [.ref root,.ref lp]) t=some (.tup [.ref root,.ref lp]):=ac
   generalize upd H2 t (.tup [.ref root,.ref lp])=H3 at I4 ett ⊢
   have Ig:BInv H (upd H3 lp (.lst (st.L.map V.str))) root lp pp here st d pr S as es:=I4.line st.L (lf:=st.left) (ld:=st.lends)
   obtain⟨S',as',z1,z2,z3,z4,z5,z6,z7,z8,z9,z10,z11,z12⟩:=wa pr.length rfl Ig B
   have back:∀ b o,upd H3 lp (.lst (st.L.map V.str)) b=some o→b≠lp→H3 b=some o:=fun b o e n1=>by rw[ah n1]at e; exact e
   have htp:∀ b xs,upd H3 lp (.lst (st.L.map V.str)) b=some (.tup xs)→H3 b=some (.tup xs):=fun b xs e=>back b _ e (fun z=>by rw[z,ac]at e; cases e)
   have hlq:∀ b xs,S' b→upd H3 lp (.lst (st.L.map V.str)) b=some (.lst xs)→H3 b=some (.lst xs):=fun b xs hb e=>back b _ e (fun z=>z5 (z ▸ hb))
   have hb:cP 60 nm cs=dW pr.length st:=by
    unfold cP
    rw[← hst,hplen]
   have hlines:(dW pr.length st).L=b5 10 (dW pr.length st).cur:=by
    have:=z1.lines
    rw[z2]at this
    simpa [dX] using this
   have hal:=av z8
   have hsz:=z1.size
   have hll:(st.L++pr.map (·.1)).length≤100:=by rw[List.length_append,List.length_map]; omega
   rw[z3]at hlines hsz
   refine q t root lp H3 S' as' I4.sm ett z12 I4.off.2.2.1 z10 z4 z5 (back _ _ z7 z10) ?_ (by rw[hb]; exact z1.ok) ?_ ?_ (by omega)
   ·rw[hb]
    exact Paired.imp' (fun a s z=>stpAt.imp htp (fun q b y=>ProgAt.imp htp hlq (fun _ z=>z) 9 y) z) z8
   ·rw[hb,← hlines]; exact I4.lines
   ·rw[hb,← hlines]; omega
end
def cA(x:Str):Prop:=32∉x.cps.toList
def dy(f:List Stp→Prop):Stp→Prop
 | .plain ws=>cN ws∧∀ x∈ws,cA x
 | .lend x y b=>cA x∧cA y∧f b
 | .ite n b c=>n.natAbs<10 ^ 61∧f b∧f c
 | .whl n b=>n.natAbs<10 ^ 61∧f b
def bR:Nat→List Stp→Prop
 | 0,_=>False
 | d+1,T=>∀ s∈T,dy (bR d) s
theorem wD{f g:List Stp→Prop}(h:∀ b,f b→g b):∀ {s:Stp},dy f s→mh g s
 | .plain _,z=>z.1
 | .lend _ _ _,z=>h _ z.2.2
 | .ite _ _ _,z=>⟨h _ z.2.1,h _ z.2.2⟩
 | .whl _ _,z=>h _ z.2
theorem iJ:∀ {d:Nat} {T:List Stp},bR d T→mq d T
 | 0,_,h=>h
 | _+1,_,h=>fun s hs=>wD (fun _ z=>iJ z) (h s hs)
def kQ:List Frm→Nat→Prop
 | [],_=>True
 | .lend x y up::r,d=>cA x∧cA y∧bR (d+2) up∧kQ r (d+1)
 | .whl n up::r,d=>n.natAbs<10 ^ 61∧bR (d+2) up∧kQ r (d+1)
 | .inB n up::r,d=>n.natAbs<10 ^ 61∧bR (d+2) up∧kQ r (d+1)
 | .inC n b up::r,d=>n.natAbs<10 ^ 61∧bR (d+1) b∧bR (d+2) up∧kQ r (d+1)
structure jT (st:BS) (d:Nat):Prop where
 dep:d+st.stk.length=9
 fine:bR (d+1) st.cur
 finef:kQ st.stk d
theorem ix{d:Nat}{T:List Stp}{s:Stp}(h:bR (d+1) T)(hs:dy (bR d) s):bR (d+1) (T++[s]):=fun u hu=>(List.mem_append.mp hu).elim (h u) (fun z=>by rw[List.mem_singleton.mp z]; exact hs)
theorem gp(d:Nat):bR (d+1) []:=fun s hs=>by cases hs
theorem nn{st:BS}{d:Nat}(h:jT st d):∃ d',jT (dY st) d':=by
 obtain⟨cur,stk,L,left,lends⟩:=st
 obtain⟨h1,h2,h3⟩:=h
 dsimp only at h1 h2 h3
 cases stk with
 | nil=>exact⟨d,h1,h2,h3⟩
 | cons f r=>
  rw[List.length_cons]at h1
  cases f with
  | lend x y up=>
   obtain⟨k1,k2,k3,k4⟩:=h3
   exact⟨d+1,by show d+1+r.length=9; omega,ix k3 ⟨k1,k2,h2⟩,k4⟩
  | whl n up=>
   obtain⟨k1,k3,k4⟩:=h3
   exact⟨d+1,by show d+1+r.length=9; omega,ix k3 ⟨k1,h2⟩,k4⟩
  | inB n up=>
   obtain⟨k1,k3,k4⟩:=h3
   exact⟨d,by show d+(r.length+1)=9; omega,gp _,k1,h2,k3,k4⟩
  | inC n b up=>
   obtain⟨k1,k2,k3,k4⟩:=h3
   exact⟨d+1,by show d+1+r.length=9; omega,ix k3 ⟨k1,k2,h2⟩,k4⟩
theorem oH(c:Int):(cO c).natAbs<10 ^ 61:=by
 unfold cO
 split
 ·omega
 split
 ·omega
 ·omega
theorem tT{nm:List Str}(n1:1≤nm.length)(hn:∀ x∈nm,cA x){st:BS}{d:Nat}(c:Int)(h:jT st (d+1)):jT (dD nm c st) d:=by
 obtain⟨cur,stk,L,left,lends⟩:=st
 obtain⟨h1,h2,h3⟩:=h
 dsimp only at h1 h2 h3
 have hx:=hn _ (fC n1 (c * 48271 % 1009)).1
 have hy:=hn _ (fC n1 (c * 69621 % 2003)).1
 unfold dD
 split
 ·exact⟨by show d+(stk.length+1)=9; omega,gp _,hx,hy,h2,h3⟩
 split
 ·exact⟨by show d+(stk.length+1)=9; omega,gp _,oH c,h2,h3⟩
 ·exact⟨by show d+(stk.length+1)=9; omega,gp _,oH c,h2,h3⟩
theorem vB{nm:List Str}(n1:1≤nm.length)(hn:∀ x∈nm,cA x)(c:Int):∀ x∈dv nm c,cA x:=by
 have hx:cA (xB nm c):=hn _ (fC n1 (c * 48271 % 1009)).1
 have hy:cA (yB nm c):=hn _ (fC n1 (c * 69621 % 2003)).1
 have he:∀ u∈jV++nm,cA u:=fun u hu=>by
  rcases List.mem_append.mp hu with z | z
  ·exact(by decide:∀ u∈jV,32∉u.cps.toList) u z
  ·exact hn u z
 have hw:cA (pk (jV++nm) (c * 40692 % 4001)):=he _ (fC (by rw[List.length_append]; omega) _).1
 have k1:cA "open" := by unfold cA; decide
 have k2:cA "copy" := by unfold cA; decide
 have k3:cA "drop" := by unfold cA; decide
 have k4:cA "tie" := by unfold cA; decide
 have k5:cA "do" := by unfold cA; decide
 intro x hxm
 unfold dv at hxm
 split at hxm
 ·simp only[List.mem_cons,List.mem_nil_iff,or_false]at hxm; rcases hxm with rfl | rfl <;> assumption
 split at hxm
 ·simp only[List.mem_cons,List.mem_nil_iff,or_false]at hxm; rcases hxm with rfl | rfl | rfl <;> assumption
 split at hxm
 ·simp only[List.mem_cons,List.mem_nil_iff,or_false]at hxm; rcases hxm with rfl | rfl <;> assumption
 split at hxm
 ·simp only[List.mem_cons,List.mem_nil_iff,or_false]at hxm; rcases hxm with rfl | rfl | rfl <;> assumption
 ·simp only[List.mem_cons,List.mem_nil_iff,or_false]at hxm; rcases hxm with rfl | rfl | rfl <;> assumption
theorem tK{nm:List Str}(n1:1≤nm.length)(hn:∀ x∈nm,cA x){st:BS}(c:Int)(h:∃ d,jT st d):∃ d,jT (dh nm st c) d:=by
 obtain⟨d,h⟩:=h
 unfold dh
 split
 ·exact nn h
 split
 ·rename_i z
  have h1:=h.dep
  obtain⟨d',rfl⟩ : ∃ d',d=d'+1:=⟨d - 1,by have:=z.2.2.1; omega⟩
  exact⟨d',tT n1 hn c ⟨h.dep,h.fine,h.finef⟩⟩
 split
 ·exact⟨d,h.dep,ix h.fine ⟨zI nm c,vB n1 hn c⟩,h.finef⟩
 ·exact⟨d,h⟩
theorem mw{nm:List Str}(n1:1≤nm.length)(hn:∀ x∈nm,cA x):∀ (cs:List Int) (st:BS),(∃ d,jT st d)→∃ d,jT (cs.foldl (dh nm) st) d
 | [],_,h=>h
 | c::cs,st,h=>mw n1 hn cs _ (tK n1 hn c h)
theorem nE:∀ (n:Nat) (st:BS),(∃ d,jT st d)→∃ d,jT (dW n st) d
 | 0,_,h=>h
 | n+1,st,h=>by obtain⟨d,z⟩:=nE n st h; exact nn z
theorem u_(st:BS):cn (dY st).stk=cn st.stk - 1:=by
 obtain⟨cur,stk,L,left,lends⟩:=st
 cases stk with
 | nil=>rfl
 | cons f r=>cases f <;> rfl
theorem mO(st:BS):∀ n,cn (dW n st).stk=cn st.stk - n
 | 0=>rfl
 | n+1=>by show cn (dY (dW n st)).stk=_; rw[u_,mO st n]; omega
theorem xq:∀ {fs:List Frm},cn fs=0→fs=[]
 | [],_=>rfl
 | .lend _ _ _::r,h=>by simp[cn]at h
 | .whl _ _::r,h=>by simp[cn]at h
 | .inB _ _::r,h=>by simp[cn]at h
 | .inC _ _ _::r,h=>by simp[cn]at h
theorem tP{nm:List Str}(n1:1≤nm.length)(hn:∀ x∈nm,cA x)(l:Int)(cs:List Int):bR 10 (cP l nm cs).cur:=by
 obtain⟨d,h⟩:=nE (cn (cs.foldl (dh nm) (i_ l)).stk) _ (mw n1 hn cs (i_ l) ⟨9,rfl,gp _,trivial⟩)
 have e:(cP l nm cs).stk=[]:=xq (by unfold cP; rw[mO]; omega)
 have h1:=h.dep
 have e':(dW (cn (cs.foldl (dh nm) (i_ l)).stk) (cs.foldl (dh nm) (i_ l))).stk=[]:=e
 rw[e']at h1
 have:d=9:=by simpa using h1
 subst this
 exact h.fine
def cW(f:List Stp→List (List Str)):Stp→List (List Str)
 | .plain ws=>[ws]
 | .lend x y b=>["lend", x,y]::(f b++[[("back" : Str)]])
 | .ite n b c=>["if", bH n]::(f b++[[("else" : Str)]]++(f c++[[("fi" : Str)]]))
 | .whl n b=>["while", bH n]::(f b++[[("done" : Str)]])
def bO:Nat→List Stp→List (List Str)
 | 0,_=>[]
 | d+1,T=>T.flatMap (cW (bO d))
theorem AQ{f:List Stp→List Str}{g:List Stp→List (List Str)}(h:∀ b,f b=(g b).map (Txt.join " ")):∀ s:Stp,bT f s=(cW g s).map (Txt.join " ")
 | .plain ws=>rfl
 | .lend x y b=>by simp[bT,cW,h]; rfl
 | .ite n b c=>by simp[bT,cW,h]; exact⟨rfl,rfl⟩
 | .whl n b=>by simp[bT,cW,h]; rfl
theorem uE:∀ (d:Nat) (T:List Stp),b5 d T=(bO d T).map (Txt.join " ")
 | 0,_=>rfl
 | d+1,T=>by
  show T.flatMap (bT (b5 d))=(T.flatMap (cW (bO d))).map _
  rw[List.map_flatMap]
  congr 1
  funext s
  exact AQ (uE d) s
theorem ib{g:List Stp→List (List Str)}{f:List Stp→Nat}(h:∀ b,(g b).length=f b):∀ s:Stp,(cW g s).length=aU f s
 | .plain ws=>rfl
 | .lend x y b=>by simp[cW,aU,h]
 | .ite n b c=>by simp[cW,aU,h]; omega
 | .whl n b=>by simp[cW,aU,h]
theorem cI:∀ (d:Nat) (T:List Stp),(bO d T).length=aj d T
 | 0,_=>rfl
 | d+1,T=>by
  show (T.flatMap (cW (bO d))).length=(T.map (aU (aj d))).sum
  rw[List.length_flatMap]
  congr 1
  exact List.map_congr_left fun s _=>ib (cI d) s
structure WOk (ws:List Str):Prop where
 ne:ws≠[]
 free:∀ x∈ws,cA x
 num:(ws.headD "" = "if" ∨ ws.headD "" = "while")→∃ n:Int,ws[1]? = some (bH n)∧n.natAbs<10 ^ 61
theorem qh(n:Int):cA (bH n):=by
 unfold cA bH
 cases n with
 | ofNat m=>
  have e:(Str.ofString (toString (Int.ofNat m))).cps.toList=(Nat.toDigits 10 m).map Char.toNat:=PySem.W.KIN.signs_num m
  rw[e]
  intro z
  have:=(iu m).1 32 z
  omega
 | negSucc m=>
  have e:(Str.ofString (toString (Int.negSucc m))).cps.toList=45::(Nat.toDigits 10 (m+1)).map Char.toNat:=by
   rw[signs_ofString]
   show ("-" ++ Nat.repr (m+1)).toList.map Char.toNat=_
   rw[String.toList_append,List.map_append,Nat.toList_repr]; rfl
  rw[e]
  intro z
  rcases List.mem_cons.mp z with z | z
  ·cases z
  ·have:=(iu (m+1)).1 32 z
   omega
theorem jx{x:Str}(h:cA x)(h1:¬ x = "if") (h2:¬ x = "while"):WOk [x]:=⟨by simp,by simpa using h,fun z=>z.elim (fun z=>absurd z h1) (fun z=>absurd z h2)⟩
theorem Br{g:List Stp→List (List Str)}{f:List Stp→Prop}(h:∀ b,f b→∀ ws∈g b,WOk ws):∀ {s:Stp},dy f s→∀ ws∈cW g s,WOk ws
 | .plain us,⟨px,hf⟩,ws,hw=>by
  have e:ws=us:=by simpa [cW] using hw
  subst e
  refine⟨fun z=>(by subst z; cases px),hf,fun z=>?_⟩
  exfalso
  cases px with
  | op x=>rcases z with z | z <;> exact absurd z (show ¬ ("open" : Str)=_ by decide)
  | dr x=>rcases z with z | z <;> exact absurd z (show ¬ ("drop" : Str)=_ by decide)
  | dd u x=>rcases z with z | z <;> exact absurd z (show ¬ ("do" : Str)=_ by decide)
  | cp x y=>rcases z with z | z <;> exact absurd z (show ¬ ("copy" : Str)=_ by decide)
  | ti x y=>rcases z with z | z <;> exact absurd z (show ¬ ("tie" : Str)=_ by decide)
 | .lend x y b,⟨hx,hy,hb⟩,ws,hw=>by
  simp only[cW,List.mem_cons,List.mem_append,List.not_mem_nil,or_false]at hw
  rcases hw with rfl | hw | rfl
  ·refine⟨by simp,fun u hu=>?_,fun z=>?_⟩
   ·simp only[List.mem_cons,List.not_mem_nil,or_false]at hu
    rcases hu with rfl | rfl | rfl
    ·show 32∉_; decide
    ·exact hx
    ·exact hy
   ·exfalso; rcases z with z | z <;> exact absurd z (show ¬ ("lend" : Str)=_ by decide)
  ·exact h b hb ws hw
  ·exact jx (show 32∉_ by decide) (by decide) (by decide)
 | .ite n b c,⟨hn,hb,hc⟩,ws,hw=>by
  simp only[cW,List.mem_cons,List.mem_append,List.not_mem_nil,or_false]at hw
  rcases hw with rfl | (hw | rfl) | hw | rfl
  ·refine⟨by simp,fun u hu=>?_,fun _=>⟨n,rfl,hn⟩⟩
   simp only[List.mem_cons,List.not_mem_nil,or_false]at hu
   rcases hu with rfl | rfl
   ·show 32∉_; decide
   ·exact qh n
  ·exact h b hb ws hw
  ·exact jx (show 32∉_ by decide) (by decide) (by decide)
  ·exact h c hc ws hw
  ·exact jx (show 32∉_ by decide) (by decide) (by decide)
 | .whl n b,⟨hn,hb⟩,ws,hw=>by
  simp only[cW,List.mem_cons,List.mem_append,List.not_mem_nil,or_false]at hw
  rcases hw with rfl | hw | rfl
  ·refine⟨by simp,fun u hu=>?_,fun _=>⟨n,rfl,hn⟩⟩
   simp only[List.mem_cons,List.not_mem_nil,or_false]at hu
   rcases hu with rfl | rfl
   ·show 32∉_; decide
   ·exact qh n
  ·exact h b hb ws hw
  ·exact jx (show 32∉_ by decide) (by decide) (by decide)
theorem ul:∀ {d:Nat} {T:List Stp},bR d T→∀ ws∈bO d T,WOk ws
 | 0,_,h,_,_=>h.elim
 | d+1,T,h,ws,hw=>by
  obtain⟨s,hs,hw⟩:=List.mem_flatMap.mp hw
  exact Br (fun b z=>ul z) (h s hs) ws hw
theorem WOk.split{ws:List Str}(h:WOk ws):Txt.split (Txt.join " " ws) " " = ws:=kC h.ne h.free
def ck(ws:List Str):Bool:=decide (ws=[("else" : Str)])||decide (ws=[("fi" : Str)])||decide (ws=[("done" : Str)])||decide (ws=[("back" : Str)])
def ci(ws:List Str):Bool:=decide (ws=[("else" : Str)])||(decide (1<ws.length)&&(decide (ws.headD "" = ("if" : Str))||decide (ws.headD "" = ("while" : Str))||decide (ws.headD "" = ("lend" : Str))))
set_option genInjectivity false in
set_option genSizeOf false in
structure PS where
 kvs:List (ax × V)
 pile:List Nat
def tV(at_:Nat)(s:PS):PS:=match s.pile with
 | []=>s
 | h::r=>⟨aZ (aZ s.kvs (.inl at_) (.int h)) (.inl h) (.int at_),r⟩
def cy(at_:Nat)(ws:List Str)(s:PS):PS:=
 let s1:=if ck ws=true then tV at_ s else s
 if ci ws=true then ⟨s1.kvs,at_::s1.pile⟩ else s1
def bm:Nat→List (List Str)→PS→PS
 | _,[],s=>s
 | l,ws::W,s=>bm (l+1) W (cy l ws s)
theorem dw:∀ (l:Nat) (X Y:List (List Str)) (s:PS),bm l (X++Y) s=bm (l+X.length) Y (bm l X s)
 | l,[],Y,s=>rfl
 | l,x::X,Y,s=>by
  show bm (l+1) (X++Y) (cy l x s)=bm (l+(X.length+1)) Y (bm (l+1) X (cy l x s))
  rw[dw (l+1) X Y,show l+1+X.length=l+(X.length+1) by omega]
theorem iW(l:Nat)(ws:List Str)(s:PS):bm l [ws] s=cy l ws s:=rfl
structure PKeeps (l n:Nat) (a b:PS):Prop where
 pile:b.pile=a.pile
 keys:∀ k:Nat,k<l∨l+n≤k→aM b.kvs (.inl (k:Int))=aM a.kvs (.inl (k:Int))
theorem PKeeps.seq{l n m:Nat}{a b c:PS}(h:PKeeps l n a b)(k:PKeeps (l+n) m b c):PKeeps l (n+m) a c:=
 ⟨k.pile.trans h.pile,fun j hj=>(k.keys j (by omega)).trans (h.keys j (by omega))⟩
theorem qT{l:Nat}{ws:List Str}(s:PS)(h1:ck ws=false)(h2:ci ws=false):cy l ws s=s:=by
 unfold cy; simp[h1,h2]
theorem eP{l:Nat}{ws:List Str}(s:PS)(h1:ck ws=false)(h2:ci ws=true):cy l ws s=⟨s.kvs,l::s.pile⟩:=by
 unfold cy; simp[h1,h2]
theorem jW{l h:Nat}{r:List Nat}{ws:List Str}{kvs:List (ax × V)}(h1:ck ws=true)(h2:ci ws=false):cy l ws ⟨kvs,h::r⟩=⟨aZ (aZ kvs (.inl l) (.int h)) (.inl h) (.int l),r⟩:=by
 unfold cy; simp[h1,h2,tV]
theorem lh{l h:Nat}{r:List Nat}{kvs:List (ax × V)}:cy l ["else"] ⟨kvs,h::r⟩=⟨aZ (aZ kvs (.inl l) (.int h)) (.inl h) (.int l),l::r⟩:=by
 have h1:ck ["else"]=true:=by decide
 have h2:ci ["else"]=true:=by decide
 unfold cy; simp[h1,h2,tV]
theorem jy{kvs:List (ax × V)}{a b j:Nat}(u v:V)(h1:j≠a)(h2:j≠b):aM (aZ (aZ kvs (.inl (a:Int)) u) (.inl (b:Int)) v) (.inl (j:Int))=aM kvs (.inl (j:Int)):=by
 rw[dg,if_neg (fun z=>h2 (by have:=Sum.inl.inj z; omega)),dg,if_neg (fun z=>h1 (by have:=Sum.inl.inj z; omega))]
theorem oA{us:List Str}(px:cN us):ck us=false∧ci us=false:=by
 cases px <;> simp[ck,ci] <;> decide
theorem su{l n:Nat}{hd cl:List Str}{X:List (List Str)}{s:PS}(hX:X.length=n)(o1:ck hd=false)(o2:ci hd=true)(c1:ck cl=true)(c2:ci cl=false)(hk:∀ s,PKeeps (l+1) n s (bm (l+1) X s)) :
  PKeeps l (n+2) s (bm l (hd::(X++[cl])) s)∧aM (bm l (hd::(X++[cl])) s).kvs (.inl ((l+1+n:Nat):Int))=some (.int (l:Int))∧aM (bm l (hd::(X++[cl])) s).kvs (.inl (l:Int))=some (.int ((l+1+n:Nat):Int))∧
  ∀ j:Nat,l+1≤j→j<l+1+n→aM (bm l (hd::(X++[cl])) s).kvs (.inl (j:Int))=aM (bm (l+1) X ⟨s.kvs,l::s.pile⟩).kvs (.inl (j:Int)):=by
 have e:bm l (hd::(X++[cl])) s=cy (l+1+n) cl (bm (l+1) X ⟨s.kvs,l::s.pile⟩):=by
  show bm (l+1) (X++[cl]) (cy l hd s)=_
  rw[eP s o1 o2,dw,hX]; rfl
 obtain⟨k1,k2⟩:=hk ⟨s.kvs,l::s.pile⟩
 rw[e]
 generalize bm (l+1) X ⟨s.kvs,l::s.pile⟩=s1 at k1 k2 ⊢
 obtain⟨kv1,p1⟩:=s1
 have hp:p1=l::s.pile:=k1
 subst hp
 rw[jW c1 c2]
 refine⟨⟨rfl,fun j hj=>?_⟩,?_,?_,fun j j1 j2=>jy _ _ (by omega) (by omega)⟩
 ·show aM (aZ (aZ kv1 (.inl ((l+1+n:Nat):Int)) (.int l)) (.inl (l:Int)) (.int ((l+1+n:Nat):Int))) (.inl (j:Int))=_
  rw[jy _ _ (by omega) (by omega)]
  exact k2 j (by omega)
 ·show aM (aZ (aZ kv1 (.inl ((l+1+n:Nat):Int)) (.int l)) (.inl (l:Int)) (.int ((l+1+n:Nat):Int))) _=_
  rw[dg,if_neg (fun z=>by have:=Sum.inl.inj z; omega),dg,if_pos rfl]
 ·show aM (aZ (aZ kv1 (.inl ((l+1+n:Nat):Int)) (.int l)) (.inl (l:Int)) (.int ((l+1+n:Nat):Int))) _=_
  rw[dg,if_pos rfl]
def gi(f:List Stp→Nat)(g:Nat→List Stp→List (ax × V)→Prop)(l:Nat)(kvs:List (ax × V)):Stp→Prop
 | .plain _=>True
 | .lend _ _ b=>aM kvs (.inl ((l+1+f b:Nat):Int))=some (.int (l:Int))∧aM kvs (.inl (l:Int))=some (.int ((l+1+f b:Nat):Int))∧g (l+1) b kvs
 | .ite _ b c=>(aM kvs (.inl (l:Int))=some (.int ((l+1+f b:Nat):Int))∧aM kvs (.inl ((l+1+f b:Nat):Int))=some (.int ((l+1+f b+1+f c:Nat):Int)))∧g (l+1) b kvs∧g (l+1+f b+1) c kvs
 | .whl _ b=>(aM kvs (.inl ((l+1+f b:Nat):Int))=some (.int (l:Int))∧aM kvs (.inl (l:Int))=some (.int ((l+1+f b:Nat):Int)))∧g (l+1) b kvs
def eV:Nat→Nat→List Stp→List (ax × V)→Prop
 | 0,_,_,_=>True
 | d+1,l,T,kvs=>∀ z∈dA (aU (aj d)) l T,gi (aj d) (eV d) z.1 kvs z.2
theorem lr(f:Stp→Nat):∀ (l:Nat) (T:List Stp) (z:Nat × Stp),z∈dA f l T→l≤z.1∧z.1+f z.2≤l+(T.map f).sum
 | _,[],_,h=>by cases h
 | l,s::T,z,h=>by
  rw[List.map_cons,List.sum_cons]
  rcases List.mem_cons.mp h with rfl | h
  ·exact⟨Nat.le_refl _,by show l+f s≤_; omega⟩
  ·obtain⟨h1,h2⟩:=lr f (l+f s) T z h
   exact⟨by omega,by omega⟩
def kR(l n:Nat)(a b:List (ax × V)):Prop:=∀ k:Nat,l≤k→k<l+n→aM b (.inl (k:Int))=aM a (.inl (k:Int))
theorem lj{f:List Stp→Nat}{g:Nat→List Stp→List (ax × V)→Prop}(hg:∀ l T a b,kR l (f T) a b→g l T a→g l T b){l:Nat}{a b:List (ax × V)}:∀ {s:Stp},kR l (aU f s) a b→gi f g l a s→gi f g l b s
 | .plain _,_,_=>trivial
 | .lend x y c,h,⟨h1,h2,h3⟩=>⟨(h _ (by omega) (by show _<l+(f c+2); omega)).trans h1,(h _ (by omega) (by show _<l+(f c+2); omega)).trans h2,hg _ _ _ _ (fun k k1 k2=>h k (by omega) (by show _<l+(f c+2); omega)) h3⟩
 | .ite n c e,h,⟨⟨h4,h5⟩,h1,h2⟩=>⟨⟨(h _ (by omega) (by show _<l+(f c+f e+3); omega)).trans h4,(h _ (by omega) (by show _<l+(f c+f e+3); omega)).trans h5⟩,hg _ _ _ _ (fun k k1 k2=>h k (by omega) (by show _<l+(f c+f e+3); omega)) h1,hg _ _ _ _ (fun k k1 k2=>h k (by omega) (by show _<l+(f c+f e+3); omega)) h2⟩
 | .whl n c,h,⟨⟨h4,h5⟩,h1⟩=>⟨⟨(h _ (by omega) (by show _<l+(f c+2); omega)).trans h4,(h _ (by omega) (by show _<l+(f c+2); omega)).trans h5⟩,hg _ _ _ _ (fun k k1 k2=>h k (by omega) (by show _<l+(f c+2); omega)) h1⟩
theorem ji:∀ (d l:Nat) (T:List Stp) (a b:List (ax × V)),kR l (aj d T) a b→eV d l T a→eV d l T b
 | 0,_,_,_,_,_,_=>trivial
 | d+1,l,T,a,b,h,p=>fun z hz=>by
  obtain⟨r1,r2⟩:=lr _ l T z hz
  exact lj (ji d) (fun k k1 k2=>h k (by omega) (by show k<l+(T.map (aU (aj d))).sum; omega)) (p z hz)
theorem CB{f:List Stp→Nat}{wl:List Stp→List (List Str)}{g:Nat→List Stp→List (ax × V)→Prop}{sh:List Stp→Prop}(hl:∀ b,(wl b).length=f b)(hg:∀ l T a b,kR l (f T) a b→g l T a→g l T b)(ih:∀ l b s,sh b→PKeeps l (f b) s (bm l (wl b) s)∧g l b (bm l (wl b) s).kvs) :
  ∀ (s:Stp) (l:Nat) (st:PS),mh sh s→PKeeps l (aU f s) st (bm l (cW wl s) st)∧gi f g l (bm l (cW wl s) st).kvs s
 | .plain us,l,st,px=>by
  obtain⟨h1,h2⟩:=oA (show cN us from px)
  have e:bm l (cW wl (.plain us)) st=st:=qT st h1 h2
  rw[e]
  exact⟨⟨rfl,fun _ _=>rfl⟩,trivial⟩
 | .lend x y b,l,st,sb=>by
  obtain⟨k1,k2,k3,k4⟩:=su (l:=l) (n:=f b) (hd:=["lend", x,y]) (cl:=["back"]) (X:=wl b) (s:=st) (hl b) (by simp[ck]) (by simp[ci]) (by decide) (by decide) (fun s=>(ih (l+1) b s sb).1)
  exact⟨k1,k2,k3,hg _ _ _ _ (fun k r1 r2=>k4 k r1 r2) (ih (l+1) b ⟨st.kvs,l::st.pile⟩ sb).2⟩
 | .whl n b,l,st,sb=>by
  obtain⟨k1,k2,k3,k4⟩:=su (l:=l) (n:=f b) (hd:=["while", bH n]) (cl:=["done"]) (X:=wl b) (s:=st) (hl b) (by simp[ck]) (by simp[ci]) (by decide) (by decide) (fun s=>(ih (l+1) b s sb).1)
  exact⟨k1,⟨k2,k3⟩,hg _ _ _ _ (fun k r1 r2=>k4 k r1 r2) (ih (l+1) b ⟨st.kvs,l::st.pile⟩ sb).2⟩
 | .ite n b c,l,st,⟨sb,sc⟩=>by
  have o1:ck ["if", bH n]=false:=by simp[ck]
  have o2:ci ["if", bH n]=true:=by simp[ci]
  obtain⟨a1,a2⟩:=ih (l+1) b ⟨st.kvs,l::st.pile⟩ sb
  have e:bm l (cW wl (.ite n b c)) st=cy (l+1+f b+1+f c) ["fi"] (bm (l+1+f b+1) (wl c) (cy (l+1+f b) ["else"] (bm (l+1) (wl b) ⟨st.kvs,l::st.pile⟩))):=by
   show bm (l+1) (wl b++[[("else" : Str)]]++(wl c++[[("fi" : Str)]])) (cy l ["if", bH n] st)=_
   rw[eP st o1 o2,dw,dw,dw,iW,iW,List.length_append,List.length_singleton,hl b,hl c]
   rfl
  rw[e]
  generalize bm (l+1) (wl b) ⟨st.kvs,l::st.pile⟩=s1 at a1 a2
  obtain⟨kv1,p1⟩:=s1
  have hp:p1=l::st.pile:=a1.pile
  subst hp
  rw[lh]
  obtain⟨b1,b2⟩:=ih (l+1+f b+1) c ⟨aZ (aZ kv1 (.inl ((l+1+f b:Nat):Int)) (.int l)) (.inl (l:Int)) (.int ((l+1+f b:Nat):Int)),(l+1+f b)::st.pile⟩ sc
  generalize bm (l+1+f b+1) (wl c) ⟨aZ (aZ kv1 (.inl ((l+1+f b:Nat):Int)) (.int l)) (.inl (l:Int)) (.int ((l+1+f b:Nat):Int)),(l+1+f b)::st.pile⟩=s2 at b1 b2
  obtain⟨kv2,p2⟩:=s2
  have hp2:p2=(l+1+f b)::st.pile:=b1.pile
  subst hp2
  rw[jW (by decide) (by decide)]
  have fin:∀ j:Nat,j≠l+1+f b+1+f c→j≠l+1+f b→aM (aZ (aZ kv2 (.inl ((l+1+f b+1+f c:Nat):Int)) (.int ((l+1+f b:Nat):Int))) (.inl ((l+1+f b:Nat):Int)) (.int ((l+1+f b+1+f c:Nat):Int))) (.inl (j:Int))=aM kv2 (.inl (j:Int)):=fun j h1 h2=>jy _ _ h1 h2
  have mid:∀ j:Nat,j<l+1+f b+1∨l+1+f b+1+f c≤j→j≠l→j≠l+1+f b→aM kv2 (.inl (j:Int))=aM kv1 (.inl (j:Int)):=fun j h1 h2 h3=>(b1.keys j h1).trans (jy _ _ h3 h2)
  refine⟨⟨rfl,fun j hj=>?_⟩,⟨?_,?_⟩,hg _ _ _ _ (fun k r1 r2=>?_) a2,hg _ _ _ _ (fun k r1 r2=>?_) b2⟩
  ·have hj':j<l∨l+(f b+f c+3)≤j:=hj
   exact(fin j (by omega) (by omega)).trans ((mid j (by omega) (by omega) (by omega)).trans (a1.keys j (by omega)))
  ·refine(fin l (by omega) (by omega)).trans ((b1.keys l (by omega)).trans ?_)
   show aM (aZ (aZ kv1 (.inl ((l+1+f b:Nat):Int)) (.int l)) (.inl (l:Int)) (.int ((l+1+f b:Nat):Int))) (.inl (l:Int))=_
   rw[dg,if_pos rfl]
  ·show aM (aZ (aZ kv2 (.inl ((l+1+f b+1+f c:Nat):Int)) (.int ((l+1+f b:Nat):Int))) (.inl ((l+1+f b:Nat):Int)) (.int ((l+1+f b+1+f c:Nat):Int))) (.inl ((l+1+f b:Nat):Int))=_
   rw[dg,if_pos rfl]
  ·exact(fin k (by omega) (by omega)).trans (mid k (by omega) (by omega) (by omega))
  ·exact fin k (by omega) (by omega)
theorem zi{f:Stp→Nat}{wl:Stp→List (List Str)}{g:Nat→List (ax × V)→Stp→Prop}{sh:Stp→Prop}(hl:∀ s,(wl s).length=f s)(hg:∀ l s a b,kR l (f s) a b→g l a s→g l b s)(ih:∀ s l st,sh s→PKeeps l (f s) st (bm l (wl s) st)∧g l (bm l (wl s) st).kvs s) :
  ∀ (T:List Stp) (l:Nat) (st:PS),(∀ s∈T,sh s)→PKeeps l (T.map f).sum st (bm l (T.flatMap wl) st)∧∀ z∈dA f l T,g z.1 (bm l (T.flatMap wl) st).kvs z.2
 | [],l,st,_=>⟨⟨rfl,fun _ _=>rfl⟩,fun z hz=>by cases hz⟩
 | s::T,l,st,h=>by
  obtain⟨a1,a2⟩:=ih s l st (h s List.mem_cons_self)
  obtain⟨b1,b2⟩:=zi hl hg ih T (l+f s) (bm l (wl s) st) (fun u hu=>h u (List.mem_cons_of_mem _ hu))
  have e:bm l ((s::T).flatMap wl) st=bm (l+f s) (T.flatMap wl) (bm l (wl s) st):=by
   rw[List.flatMap_cons,dw,hl s]
  rw[e,List.map_cons,List.sum_cons]
  refine⟨a1.seq b1,fun z hz=>?_⟩
  rcases List.mem_cons.mp hz with rfl | hz
  ·exact hg _ _ _ _ (fun k r1 r2=>b1.keys k (.inl r2)) a2
  ·exact b2 z hz
theorem gS:∀ (d:Nat) (l:Nat) (T:List Stp) (st:PS),mq d T→PKeeps l (aj d T) st (bm l (bO d T) st)∧eV d l T (bm l (bO d T) st).kvs
 | 0,_,_,_,h=>h.elim
 | d+1,l,T,st,h=>zi (f:=aU (aj d)) (g:=fun l kvs s=>gi (aj d) (eV d) l kvs s) (sh:=mh (mq d)) (fun s=>ib (cI d) s) (fun l s a b z p=>lj (ji d) z p) (fun s l st z=>CB (cI d) (ji d) (fun l b s z=>gS d l b s z) s l st z) T l st h
def StandsAt(W X:List (List Str))(l:Nat):Prop:=∀ i ws,X[i]? = some ws→W[l+i]? = some ws
theorem StandsAt.left{W X Y:List (List Str)}{l:Nat}(h:StandsAt W (X++Y) l):StandsAt W X l:=fun i ws e=>h i ws (by rw[List.getElem?_append_left (List.getElem?_eq_some_iff.mp e).1]; exact e)
theorem StandsAt.right{W X Y:List (List Str)}{l:Nat}(h:StandsAt W (X++Y) l):StandsAt W Y (l+X.length):=fun i ws e=>by
 have:=h (X.length+i) ws (by rw[List.getElem?_append_right (by omega)]; rw[show X.length+i - X.length=i by omega]; exact e)
 rw[Nat.add_assoc]; exact this
theorem StandsAt.tail{W Y:List (List Str)}{x:List Str}{l:Nat}(h:StandsAt W (x::Y) l):StandsAt W Y (l+1):=fun i ws e=>by
 have:=h (i+1) ws (by rw[List.getElem?_cons_succ]; exact e)
 rw[show l+1+i=l+(i+1) by omega]; exact this
theorem StandsAt.head{W Y:List (List Str)}{x:List Str}{l:Nat}(h:StandsAt W (x::Y) l):W[l]? = some x:=h 0 x rfl
def gB(W:List (List Str)):List (ax × V):=(bm 0 W ⟨[],[]⟩).kvs
section
variable{P:Program}{w:World}{K:PySem.W.Frag}{mg:Str→Option Value}{base:Heap}
def PosC(l:Nat)(X:List (List Str))(s:PS):Prop:=∀ i ws,X[i]? = some ws→ck ws=true→(bm l (X.take i) s).pile≠[]
theorem PosC.nil(l:Nat)(s:PS):PosC l [] s:=fun i ws e=>by simp at e
theorem PosC.app{l:Nat}{X Y:List (List Str)}{s:PS}(h:PosC l X s)(k:PosC (l+X.length) Y (bm l X s)):PosC l (X++Y) s:=fun i ws e c=>by
 by_cases hi:i<X.length
 ·rw[List.getElem?_append_left hi]at e
  rw[List.take_append_of_le_length (by omega)]
  exact h i ws e c
 ·rw[List.getElem?_append_right (by omega)]at e
  have:=k (i - X.length) ws e c
  rw[List.take_append,List.take_of_length_le (by omega),dw]
  exact this
theorem PosC.one{l:Nat}{x:List Str}{s:PS}(h:ck x=true→s.pile≠[]):PosC l [x] s:=fun i ws e c=>by
 match i,e with
 | 0,e=>cases e; exact h c
 | i+1,e=>simp at e
theorem PosC.cons{l:Nat}{x:List Str}{Y:List (List Str)}{s:PS}(h:ck x=true→s.pile≠[])(k:PosC (l+1) Y (cy l x s)):PosC l (x::Y) s:=(PosC.one h).app k
theorem DH{f:List Stp→Nat}{wl:List Stp→List (List Str)}{sh:List Stp→Prop}(hl:∀ b,(wl b).length=f b)(hp:∀ l b s,sh b→PKeeps l (f b) s (bm l (wl b) s))(ih:∀ l b s,sh b→PosC l (wl b) s):∀ (s:Stp) (l:Nat) (st:PS),mh sh s→PosC l (cW wl s) st
 | .plain us,l,st,px=>PosC.one fun c=>by rw[(oA (show cN us from px)).1]at c; cases c
 | .lend x y b,l,st,sb=>by
  refine PosC.cons (fun c=>by simp[ck]at c) ((ih _ b _ sb).app (PosC.one fun _=>?_))
  rw[(hp _ b _ sb).pile,eP st (by simp[ck]) (by simp[ci])]; simp
 | .whl n b,l,st,sb=>by
  refine PosC.cons (fun c=>by simp[ck]at c) ((ih _ b _ sb).app (PosC.one fun _=>?_))
  rw[(hp _ b _ sb).pile,eP st (by simp[ck]) (by simp[ci])]; simp
 | .ite n b c,l,st,⟨sb,sc⟩=>by
  refine PosC.cons (fun c=>by simp[ck]at c) (((ih _ b _ sb).app (PosC.one fun _=>?_)).app ((ih _ c _ sc).app (PosC.one fun _=>?_)))
  ·rw[(hp _ b _ sb).pile,eP st (by simp[ck]) (by simp[ci])]; simp
  ·rw[(hp _ c _ sc).pile,dw,iW]
   have e:=(hp (l+1) b (cy l ["if", bH n] st) sb).pile
   rw[eP st (by simp[ck]) (by simp[ci])]at e ⊢
   generalize bm (l+1) (wl b) ⟨st.kvs,l::st.pile⟩=s1 at e ⊢
   obtain⟨kv,p⟩:=s1
   have e':p=l::st.pile:=e
   subst e'
   rw[lh]; simp
theorem BE{f:Stp→Nat}{wl:Stp→List (List Str)}{sh:Stp→Prop}(hl:∀ s,(wl s).length=f s)(ih:∀ s l st,sh s→PosC l (wl s) st):∀ (T:List Stp) (l:Nat) (st:PS),(∀ s∈T,sh s)→PosC l (T.flatMap wl) st
 | [],l,st,_=>PosC.nil l st
 | s::T,l,st,h=>by
  rw[List.flatMap_cons]
  exact(ih s l st (h s List.mem_cons_self)).app (BE hl ih T _ _ fun u hu=>h u (List.mem_cons_of_mem _ hu))
theorem AK:∀ (d l:Nat) (T:List Stp) (st:PS),mq d T→PosC l (bO d T) st
 | 0,_,_,_,h=>h.elim
 | d+1,l,T,st,h=>BE (f:=aU (aj d)) (sh:=mh (mq d)) (fun s=>ib (cI d) s) (fun s l st z=>DH (cI d) (fun l b s z=>(gS d l b s z).1) (fun l b s z=>AK d l b s z) s l st z) T l st h
theorem fk{ws:List Str}(h:WOk ws){x:Str}(hx:cA x):Txt.join " " ws=x ↔ ws=[x]:=by
 constructor
 ·intro e
  have e1:=h.split
  rw[e]at e1
  have e2:=kC (ws:=[x]) (by simp) (fun z hz=>by rw[List.mem_singleton.mp hz]; exact hx)
  have e3:Txt.join " " [x]=x:=rfl
  rw[e3]at e2
  rw[← e1,e2]
 ·rintro rfl; rfl
theorem join_longer{w0:Str}{wr:List Str}:w0.length<(Txt.join " " (w0::wr)).length ↔ 1<(w0::wr).length:=by
 have go:∀ (ws:List Str) (a:Str),a.length≤(ws.foldl (fun a x=>a++(" " : Str)++x) a).length:=by
  intro ws
  induction ws with
  | nil=>intro a; exact Nat.le_refl _
  | cons x ws ih=>intro a; have:=ih (a++(" " : Str)++x); rw[Str.length_append,Str.length_append]at this; rw[List.foldl_cons]; omega
 rw[ej]
 cases wr with
 | nil=>simp
 | cons x r=>
  have:=go r (w0++(" " : Str)++x)
  have h1:(Str.ofString " ").length=1:=by decide
  rw[Str.length_append,Str.length_append,h1]at this
  rw[List.foldl_cons]
  simp only[List.length_cons]
  constructor <;> intro _ <;> omega
theorem jj(w0:Str)(wr:List Str):w0.length≤(Txt.join " " (w0::wr)).length:=by
 by_cases h:1<(w0::wr).length
 ·exact Nat.le_of_lt (join_longer.mpr h)
 ·cases wr with
  | nil=>exact Nat.le_refl _
  | cons x r=>simp at h
def ra(K:PySem.W.Frag):Sp:=fun vs H Q _=>∃ (lp:Addr) (W:List (List Str)),vs=[.ref lp]∧H lp=some (.lst ((W.map (Txt.join " ")).map V.str))∧(∀ ws∈W,WOk ws)∧(∀ ws∈W,(Txt.join " " ws).length≤5000)∧W.length≤1000∧PosC 0 W ⟨[],[]⟩∧
 ∀ (fd:Addr) (H':Hp),Same H H'→H' fd=some (.dK (gB W))→Q (.ref fd) H'
theorem xr(D:DefAt K mg "_law_partners" aO) (z_len:mg "len" = none) (z_range:mg "range" = none):bg P w K mg base 1 "_law_partners" ["_law_lines"] (ra K):=by
 refine D.cal (k:=0) sc_law_partners (fun _ _ _ _ _ _ us hl=>match us,hl with | [_],_=>rfl) (fun vs H Q E h=>by obtain⟨lp,W,rfl,_⟩:=h; rfl) (fun f cdv A outer s H vs Q E hr h=>?_)
 obtain⟨lp,W,rfl,hlp,hw,hsz,hWl,hpos,q⟩:=h
 refine⟨_,(ae (ar 1 sc_law_partners.nd ir (hx:=FJ))
   (ae (ar 2 sc_law_partners.nd (bi ab) (hx:=Fw))
   (ae (cE PassesOwn.never rfl (fR EQ z_range (aa (aY (aK K) z_len bw (aa (pv 0 (hv:=pJ)) ab) (hg:=yr)) ab)) (bj 3 sc_law_partners.nd (hx:=En)) (ae (ar 4 sc_law_partners.nd (ay (aW K) (aI K PySem.F.plainAttrs_str PySem.F.slot_str_split PySem.F.type_str_split fH (ay (aW K) (pv 0 (hv:=pJ)) (pv 3 (hv:=kc)) (fun _ _=>rfl)) (aa al ab)) ai (fun _ _=>rfl)) (hx:=ER))
   (ae (bN (aG (jo K) (ay (aW K) (pv 0 (hv:=pJ)) (pv 3 (hv:=kc)) (fun _ _=>rfl)) (bi (aa al (aa al (aa al (aa al ab))))) (by with_unfolding_all rfl)) (ae (ar 5 sc_law_partners.nd (sG K PySem.F.plainAttrs_list PySem.F.slot_list_pop PySem.F.type_list_pop sV (pv 2 (hv:=Ce))) (hx:=E6))
   (ae (im (pv 5 (hv:=Bw)) (kS (pv 1 (hv:=ym)) (pv 3 (hv:=kc)) (nQ hr)))
   (ak (im (pv 3 (hv:=kc)) (kS (pv 1 (hv:=ym)) (pv 5 (hv:=Bw)) (nQ hr)))))) bB)
   (ak (bN (PW.pt' (jv (aG b8 (ay (aW K) (pv 0 (hv:=pJ)) (pv 3 (hv:=kc)) (fun _ _=>rfl)) al (bc _)) (je (PW.pt' (gv (aG lv (aY (aK K) z_len bw (aa (ay (aW K) (pv 0 (hv:=pJ)) (pv 3 (hv:=kc)) (fun _ _=>rfl)) ab) (hg:=yr)) (aY (aK K) z_len bw (aa (pv 4 (hv:=Az)) ab) (hg:=yr)) (bc _)) (h_ (aG (jo K) (pv 4 (hv:=Az)) (bi (aa al (aa al (aa al ab)))) (by with_unfolding_all rfl)))))))) (ak (aQ (aI K PySem.F.plainAttrs_list PySem.F.slot_list_append PySem.F.type_list_append aL (pv 2 (hv:=Ce)) (aa (pv 3 (hv:=kc)) ab)))) bB)))))
   (ak (aF (pv 1 (hv:=ym))))))),?_⟩
 walk_at "rd1"
 intro fd hfd
 generalize hA:upd H fd _=HA
 have sA:=eJ hA hfd
 have eA:=gf hA
 walk_at "nx"
 refine⟨by decide,fun pp hpp=>?_⟩
 generalize hB:upd HA pp _=HB
 have sB:=eJ hB hpp
 have eB:=gf hB
 walk_at "nx"
 refine⟨_,.inl (SqL.of ((sA.trans sB) _ _ hlp)),?_⟩
 rw[List.length_map,List.length_map]
 walk_at "rd1"
 refine⟨by omega,by omega,?_⟩
 rw[show ((W.length:Nat):Int).toNat=W.length from Int.toNat_natCast _]
 refine k_ (fun i σ H'=>∃ (o3 o4 o5:Option V) (s:PS),σ=[some (.ref lp),some (.ref fd),some (.ref pp),o3,o4,o5]∧Same H H'∧s=bm 0 (W.take i) ⟨[],[]⟩∧H' fd=some (.dK s.kvs)∧H' pp=some (.lst (s.pile.reverse.map fun (n:Nat)=>V.int (n:Int)))∧s.kvs.length≤2 * i∧s.pile.length≤i)
  ⟨none,none,none,⟨[],[]⟩,rfl,sA.trans sB,rfl,sB _ _ eA,eB,Nat.le_refl _,Nat.le_refl _⟩ ?_ ?_
 ·rintro i σ H' hi ⟨o3,o4,o5,s,rfl,sm,hs,hf,hp,hkl,hpl⟩
  have hwi:W[i]? = some W[i]:=List.getElem?_eq_getElem hi
  have hwm:=List.getElem_mem hi
  have hpc:=hpos i W[i] hwi
  have hnx:bm 0 (W.take (i+1)) ⟨[],[]⟩=cy i W[i] s:=by
   rw[List.take_add_one,hwi]
   show bm 0 (W.take i++[W[i]]) ⟨[],[]⟩=_
   rw[dw,← hs,List.length_take,Nat.zero_add,Nat.min_eq_left (by omega)]; rfl
  rw[← hs]at hpc
  generalize W[i]=ws at hwi hwm hpc hnx
  have ho:=hw ws hwm
  have hz:=hsz ws hwm
  have hat:di ((W.map (Txt.join " ")).map V.str) (i:Int)=some (.str (Txt.join " " ws)):=bu (by rw[List.getElem?_map,List.getElem?_map,hwi]; rfl)
  obtain⟨w0,wr,rfl⟩:=List.exists_cons_of_ne_nil ho.ne
  rw[hnx]
  rw[Int.zero_add]
  walk_at "rd1"
  refine⟨_,_,.inl (SqL.of (sm _ _ hlp)),hat,?_⟩
  walk_at "rd1"
  refine⟨by decide,by omega,fun sq hsq=>?_⟩
  rw[ho.split]
  have s5:=af hsq (.lst ((w0::wr).map V.str))
  have e5:upd H' sq (.lst ((w0::wr).map V.str)) sq=some (.lst ((w0::wr).map V.str)):=ac
  generalize upd H' sq (.lst ((w0::wr).map V.str))=H5 at s5 e5 ⊢
  refine⟨_,_,.inl (SqL.of e5),cM,?_⟩
  have sm5:=sm.trans s5
  walk_at "nx"
  refine⟨_,_,.inl (SqL.of (sm5 _ _ hlp)),hat,by decide,fun cl hcl=>?_⟩
  have s6:=af hcl (.lst [V.str "else", V.str "fi", V.str "done", V.str "back"])
  have e6:upd H5 cl (.lst [V.str "else", V.str "fi", V.str "done", V.str "back"]) cl=some (.lst [V.str "else", V.str "fi", V.str "done", V.str "back"]):=ac
  generalize upd H5 cl (.lst [V.str "else", V.str "fi", V.str "done", V.str "back"])=H6 at s6 e6 ⊢
  have sm6:=sm5.trans s6
  have hf6:=s6 _ _ (s5 _ _ hf)
  have hp6:=s6 _ _ (s5 _ _ hp)
  have hclB:fX (V.str (Txt.join " " (w0::wr))) [V.str "else", V.str "fi", V.str "done", V.str "back"]=ck (w0::wr):=by
   have j1:=fk ho (x := "else") (show 32∉_ by decide)
   have j2:=fk ho (x := "fi") (show 32∉_ by decide)
   have j3:=fk ho (x := "done") (show 32∉_ by decide)
   have j4:=fk ho (x := "back") (show 32∉_ by decide)
   unfold ck
   rw[← decide_eq_decide.mpr j1,← decide_eq_decide.mpr j2,← decide_eq_decide.mpr j3,← decide_eq_decide.mpr j4]
   simp only[fX,List.any_cons,List.any_nil,eG,Bool.or_false,Bool.or_assoc]
   have sw:∀ x:Str,(x == Txt.join " " (w0::wr))=decide (Txt.join " " (w0::wr)=x):=fun x=>by
    by_cases e:Txt.join " " (w0::wr)=x
    ·rw[decide_eq_true e,e]; simp
    ·rw[decide_eq_false e]; exact beq_eq_false_iff_ne.mpr (Ne.symm e)
   rw[sw,sw,sw,sw]
  refine⟨_,.inl (SqL.of e6),rfl,rfl,?_⟩
  rw[hclB]
  refine bA (fun c=>?_) (fun c=>?_)
  ·have hne0:=hpc c
   obtain⟨kv,pl⟩:=s
   obtain⟨h,r,rfl⟩:=List.exists_cons_of_ne_nil hne0
   have hrv:((h::r).reverse.map fun (n:Nat)=>V.int (n:Int))=(r.reverse.map fun (n:Nat)=>V.int (n:Int))++[V.int (h:Int)]:=by rw[List.reverse_cons,List.map_append]; rfl
   have hp6':H6 pp=some (.lst ((r.reverse.map fun (n:Nat)=>V.int (n:Int))++[V.int (h:Int)])):=by rw[← hrv]; exact hp6
   refine⟨⟨_,SqL.of hp6'⟩,_,.int (h:Int),hp6',by simp,?_⟩
   rw[List.dropLast_concat]
   have npf:fd≠pp:=b7 hf6 hp6' (fun z=>nomatch z)
   walk_at "nx"
   have hk0:kv.length≤2 * i:=hkl
   refine⟨fd,_,.inl (i:Int),rfl,rfl,by rw[ah npf]; exact hf6,bG (by omega),?_⟩
   walk_at "nx"
   have hk1:=eU kv (.inl (i:Int)) (.int (h:Int))
   have hk2:=eU (aZ kv (.inl (i:Int)) (.int (h:Int))) (.inl (h:Int)) (.int (i:Int))
   refine⟨fd,_,.inl (h:Int),rfl,rfl,ac,bG (by omega),?_⟩
   have smX:Same H (upd (upd (upd H6 pp (.lst (r.reverse.map fun (n:Nat)=>V.int (n:Int)))) fd (.dK (aZ kv (.inl (i:Int)) (.int (h:Int))))) fd (.dK (aZ (aZ kv (.inl (i:Int)) (.int (h:Int))) (.inl (h:Int)) (.int (i:Int))))):=((sm6.upd (sA.free hpp) _).upd hfd _).upd hfd _
   have hfX:(upd (upd (upd H6 pp (.lst (r.reverse.map fun (n:Nat)=>V.int (n:Int)))) fd (.dK (aZ kv (.inl (i:Int)) (.int (h:Int))))) fd (.dK (aZ (aZ kv (.inl (i:Int)) (.int (h:Int))) (.inl (h:Int)) (.int (i:Int))))) fd=some (.dK (aZ (aZ kv (.inl (i:Int)) (.int (h:Int))) (.inl (h:Int)) (.int (i:Int)))):=ac
   have hpX:(upd (upd (upd H6 pp (.lst (r.reverse.map fun (n:Nat)=>V.int (n:Int)))) fd (.dK (aZ kv (.inl (i:Int)) (.int (h:Int))))) fd (.dK (aZ (aZ kv (.inl (i:Int)) (.int (h:Int))) (.inl (h:Int)) (.int (i:Int))))) pp=some (.lst (r.reverse.map fun (n:Nat)=>V.int (n:Int))):=by rw[ah (Ne.symm npf),ah (Ne.symm npf)]; exact ac
   generalize upd (upd (upd H6 pp (.lst (r.reverse.map fun (n:Nat)=>V.int (n:Int)))) fd (.dK (aZ kv (.inl (i:Int)) (.int (h:Int))))) fd (.dK (aZ (aZ kv (.inl (i:Int)) (.int (h:Int))) (.inl (h:Int)) (.int (i:Int))))=HX at smX hfX hpX ⊢
   generalize hkvX:aZ (aZ kv (.inl (i:Int)) (.int (h:Int))) (.inl (h:Int)) (.int (i:Int))=kvX at hfX hk2
   have hstX:cy i (w0::wr) ⟨kv,h::r⟩=if ci (w0::wr)=true then ⟨kvX,i::r⟩ else ⟨kvX,r⟩:=by
    unfold cy tV; rw[← hkvX]; simp only[c,if_true]
   have hpl':(h::r).length≤i:=hpl
   rw[List.length_cons]at hpl'
   generalize r=plX at *
   walk_at "nx"
   refine⟨_,_,.inl (SqL.of (smX _ _ hlp)),hat,?_⟩
   walk_at "rd1"
   refine bA (fun c1=>?_) (fun c1=>?_)
   ·have hop:ci (w0::wr)=true:=by rw[(fk ho (show 32∉_ by decide)).mp c1]; decide
    refine⟨⟨_,SqL.of hpX⟩,_,hpX,bG (by rw[List.length_map,List.length_reverse]; omega),?_⟩
    refine⟨_,_,_,⟨kvX,i::plX⟩,rfl,smX.upd (sA.free hpp) _,?_,by rw[ah (b7 hfX hpX (fun z=>nomatch z))]; exact hfX,by rw[ac,List.reverse_cons,List.map_append]; rfl,by show kvX.length≤2 * (i+1); omega,by show plX.length+1≤i+1; omega⟩
    rw[hstX]; rw[hop]; rfl
   have hne:¬ (w0::wr)=[("else" : Str)]:=fun z=>c1 ((fk ho (show 32∉_ by decide)).mpr z)
   refine⟨_,_,.inl (SqL.of (smX _ _ hlp)),hat,?_⟩
   walk_at "rd1"
   have hhl:=jj w0 wr
   refine⟨aS (by omega),aS (by omega),bA (fun c2=>?_) (fun c2=>?_)⟩
   ·have hl1:1<(w0::wr).length:=join_longer.mp (by omega)
    refine⟨by decide,fun q3 hq3=>?_⟩
    have s7:=af hq3 (.lst [V.str "if", V.str "while", V.str "lend"])
    have e7:upd HX q3 (.lst [V.str "if", V.str "while", V.str "lend"]) q3=some (.lst [V.str "if", V.str "while", V.str "lend"]):=ac
    generalize upd HX q3 (.lst [V.str "if", V.str "while", V.str "lend"])=H7 at s7 e7 ⊢
    refine⟨_,.inl (SqL.of e7),rfl,rfl,bA (fun c3=>?_) (fun c3=>?_)⟩
    ·have hop:ci (w0::wr)=true:=by
      have c3':fX (V.str w0) [V.str "if", V.str "while", V.str "lend"]=true:=c3
      simp[fX,eG]at c3'
      unfold ci
      rcases c3' with z | z | z <;> subst z <;> simp at hl1 ⊢ <;> exact .inr hl1
     refine⟨⟨_,SqL.of (s7 _ _ hpX)⟩,_,s7 _ _ hpX,bG (by rw[List.length_map,List.length_reverse]; omega),?_⟩
     refine⟨_,_,_,⟨kvX,i::plX⟩,rfl,(smX.trans s7).upd (sA.free hpp) _,?_,by rw[ah (b7 (s7 _ _ hfX) (s7 _ _ hpX) (fun z=>nomatch z))]; exact s7 _ _ hfX,by rw[ac,List.reverse_cons,List.map_append]; rfl,by show kvX.length≤2 * (i+1); omega,by show plX.length+1≤i+1; omega⟩
     rw[hstX]; rw[hop]; rfl
    ·have hop:ci (w0::wr)=false:=by
      have c3':¬ fX (V.str w0) [V.str "if", V.str "while", V.str "lend"]=true:=c3
      simp[fX,eG]at c3'
      obtain⟨y1,y2,y3⟩:=c3'
      unfold ci
      simp[hne,Ne.symm y1,Ne.symm y2,Ne.symm y3]
     exact⟨_,_,_,⟨kvX,plX⟩,rfl,smX.trans s7,by rw[hstX]; rw[hop]; rfl,s7 _ _ hfX,s7 _ _ hpX,by show kvX.length≤2 * (i+1); omega,by show plX.length≤i+1; omega⟩
   ·have hop:ci (w0::wr)=false:=by
     have:¬ 1<(w0::wr).length:=fun z=>c2 (by have:=join_longer.mpr z; omega)
     unfold ci
     simp only[Bool.or_eq_false_iff,Bool.and_eq_false_iff,decide_eq_false_iff_not]
     exact⟨hne,.inl this⟩
    exact⟨_,_,_,⟨kvX,plX⟩,rfl,smX,by rw[hstX]; rw[hop]; rfl,hfX,hpX,by show kvX.length≤2 * (i+1); omega,by show plX.length≤i+1; omega⟩
  ·have hcf:ck (w0::wr)=false:=by simpa using c
   obtain⟨kvX,plX⟩:=s
   have smX:=sm6
   have hfX:H6 fd=some (.dK kvX):=hf6
   have hpX:H6 pp=some (.lst (plX.reverse.map fun (n:Nat)=>V.int (n:Int))):=hp6
   have hpl':plX.length≤i:=hpl
   have hkl':kvX.length≤2 * i:=hkl
   generalize H6=HX at smX hfX hpX ⊢
   have hstX:cy i (w0::wr) ⟨kvX,plX⟩=if ci (w0::wr)=true then ⟨kvX,i::plX⟩ else ⟨kvX,plX⟩:=by
    unfold cy; simp[hcf]
   walk_at "nx"
   refine⟨_,_,.inl (SqL.of (smX _ _ hlp)),hat,?_⟩
   walk_at "rd1"
   refine bA (fun c1=>?_) (fun c1=>?_)
   ·have hop:ci (w0::wr)=true:=by rw[(fk ho (show 32∉_ by decide)).mp c1]; decide
    refine⟨⟨_,SqL.of hpX⟩,_,hpX,bG (by rw[List.length_map,List.length_reverse]; omega),?_⟩
    refine⟨_,_,_,⟨kvX,i::plX⟩,rfl,smX.upd (sA.free hpp) _,?_,by rw[ah (b7 hfX hpX (fun z=>nomatch z))]; exact hfX,by rw[ac,List.reverse_cons,List.map_append]; rfl,by show kvX.length≤2 * (i+1); omega,by show plX.length+1≤i+1; omega⟩
    rw[hstX]; rw[hop]; rfl
   have hne:¬ (w0::wr)=[("else" : Str)]:=fun z=>c1 ((fk ho (show 32∉_ by decide)).mpr z)
   refine⟨_,_,.inl (SqL.of (smX _ _ hlp)),hat,?_⟩
   walk_at "rd1"
   have hhl:=jj w0 wr
   refine⟨aS (by omega),aS (by omega),bA (fun c2=>?_) (fun c2=>?_)⟩
   ·have hl1:1<(w0::wr).length:=join_longer.mp (by omega)
    refine⟨by decide,fun q3 hq3=>?_⟩
    have s7:=af hq3 (.lst [V.str "if", V.str "while", V.str "lend"])
    have e7:upd HX q3 (.lst [V.str "if", V.str "while", V.str "lend"]) q3=some (.lst [V.str "if", V.str "while", V.str "lend"]):=ac
    generalize upd HX q3 (.lst [V.str "if", V.str "while", V.str "lend"])=H7 at s7 e7 ⊢
    refine⟨_,.inl (SqL.of e7),rfl,rfl,bA (fun c3=>?_) (fun c3=>?_)⟩
    ·have hop:ci (w0::wr)=true:=by
      have c3':fX (V.str w0) [V.str "if", V.str "while", V.str "lend"]=true:=c3
      simp[fX,eG]at c3'
      unfold ci
      rcases c3' with z | z | z <;> subst z <;> simp at hl1 ⊢ <;> exact .inr hl1
     refine⟨⟨_,SqL.of (s7 _ _ hpX)⟩,_,s7 _ _ hpX,bG (by rw[List.length_map,List.length_reverse]; omega),?_⟩
     refine⟨_,_,_,⟨kvX,i::plX⟩,rfl,(smX.trans s7).upd (sA.free hpp) _,?_,by rw[ah (b7 (s7 _ _ hfX) (s7 _ _ hpX) (fun z=>nomatch z))]; exact s7 _ _ hfX,by rw[ac,List.reverse_cons,List.map_append]; rfl,by show kvX.length≤2 * (i+1); omega,by show plX.length+1≤i+1; omega⟩
     rw[hstX]; rw[hop]; rfl
    ·have hop:ci (w0::wr)=false:=by
      have c3':¬ fX (V.str w0) [V.str "if", V.str "while", V.str "lend"]=true:=c3
      simp[fX,eG]at c3'
      obtain⟨y1,y2,y3⟩:=c3'
      unfold ci
      simp[hne,Ne.symm y1,Ne.symm y2,Ne.symm y3]
     exact⟨_,_,_,⟨kvX,plX⟩,rfl,smX.trans s7,by rw[hstX]; rw[hop]; rfl,s7 _ _ hfX,s7 _ _ hpX,by show kvX.length≤2 * (i+1); omega,by show plX.length≤i+1; omega⟩
   ·have hop:ci (w0::wr)=false:=by
     have:¬ 1<(w0::wr).length:=fun z=>c2 (by have:=join_longer.mpr z; omega)
     unfold ci
     simp only[Bool.or_eq_false_iff,Bool.and_eq_false_iff,decide_eq_false_iff_not]
     exact⟨hne,.inl this⟩
    exact⟨_,_,_,⟨kvX,plX⟩,rfl,smX,by rw[hstX]; rw[hop]; rfl,hfX,hpX,by show kvX.length≤2 * (i+1); omega,by show plX.length≤i+1; omega⟩
 ·rintro σ H' ⟨o3,o4,o5,s,rfl,sm,hs,hf,hp,hkl,hpl⟩
  rw[List.take_length]at hs
  walk_at "nx"
  exact q fd H' sm (by rw[hf,hs]; rfl)
end
def tR(h:Str)(ws:List Str):Nat:=if ws=[("fi" : Str)] then 0 else if h = "lend" ∨ ws=[("back" : Str)] then 3 else 1
def ur(ws:List Str):Nat:=tR (ws.headD "") ws
def lK(W:List (List Str))(i:Nat):Nat:=((W.take i).map ur).sum
def Es(x:Str):Int:=(PySem.intText? x).getD 0
def a_(ws:List Str):List Str:=if ws.headD "" ∈ (["open", "copy", "drop", "tie", "lend"]:List Str) then ws.drop 1 else if ws.headD "" = "do" then ws.drop 2 else []
def fD(kv:List (ax × V))(n:Str):List (ax × V):=if (aM kv (.inr n)).isSome=true then kv else aZ kv (.inr n) (iN kv.length)
def cx(l:List Str)(kv:List (ax × V)):List (ax × V):=l.foldl fD kv
section
variable(W:List (List Str))(pt:Nat→Nat)(fs:Nat→Nat)(sl:Str→V)(lent:Nat→V)
def eO(i:Nat)(h:Str)(ws:List Str):List aP:=
 if h = "lend" then [[.str "copy", iN i,lent i,sl (ws.getD 1 "")],[.str "do", iN i,lent i,.str "lend"],[.str "copy", iN i,sl (ws.getD 2 ""),lent i]]
 else if h = "back" then [[.str "do", iN i,lent i,.str "back"],[.str "drop", iN i,sl ((W.getD (pt i) []).getD 2 "")],[.str "drop", iN i,lent i]]
 else if h = "if" ∨ h = "while" then [[.str "test", iN i,.int (Es (ws.getD 1 "")),iN (fs (pt i+1))]]
 else if h = "else" then [[.str "jump", iN i,iN (fs (pt i))]]
 else if h = "done" then [[.str "jump", iN i,iN (fs (pt i))]]
 else if h = "fi" then []
 else if h = "do" then [[.str "do", iN i,sl (ws.getD 2 ""),.str (ws.getD 1 "")]]
 else [.str (h)::iN i::(ws.drop 1).map sl]
def fQ(i:Nat)(ws:List Str):List aP:=eO W pt fs sl lent i (ws.headD "") ws
end
structure uQ (W:List (List Str)) (kvp:List (ax × V)) (NM:List Str) (kv:List (ax × V)) (pt:Nat→Nat) (sl:Str→V) (lent:Nat→V):Prop where
 hpt:∀ i j:Nat,aM kvp (.inl (i:Int))=some (.int (j:Int))→pt i=j
 hsl:∀ n∈NM,sl n=aN kv (.inr n)
 hl1:∀ (l:Nat) (x y:Str),W[l]? = some [("lend" : Str),x,y]→lent l=aN kv (.inl (l:Int))
 hl2:∀ (i j:Nat) (x y:Str),W[i]? = some [("back" : Str)]→pt i=j→W[j]? = some [("lend" : Str),x,y]→lent i=aN kv (.inl (j:Int))
section
variable{W:List (List Str)}{kvp:List (ax × V)}{NM:List Str}{kv:List (ax × V)}{pt:Nat→Nat}{sl:Str→V}{lent:Nat→V}
theorem fE{l:Nat}{h:Str}{r:List Str}{fs:Nat→Nat}(hh:h∉(["lend", "back", "if", "while", "else", "done", "fi", "do"]:List Str)):fQ W pt fs sl lent l (h::r)=[.str h::iN l::r.map sl]:=by
 simp only[List.mem_cons,List.not_mem_nil,or_false,not_or]at hh
 obtain⟨h1,h2,h3,h4,h5,h6,h7,h8⟩:=hh
 show eO W pt _ sl lent l h _=_
 unfold eO
 rw[if_neg h1,if_neg h2,if_neg (fun z=>z.elim h3 h4),if_neg h5,if_neg h6,if_neg h7,if_neg h8]
 rfl
theorem fv{h:Str}{r:List Str}(hh:h∉(["lend", "back", "fi"]:List Str)):ur (h::r)=1:=by
 simp only[List.mem_cons,List.not_mem_nil,or_false,not_or]at hh
 obtain⟨h1,h2,h3⟩:=hh
 show tR h (h::r)=1
 unfold tR
 rw[if_neg (fun z=>h3 (List.cons.inj z).1),if_neg (fun z=>z.elim (fun z=>h1 z) (fun z=>h2 (List.cons.inj z).1))]
theorem uS(I:uQ W kvp NM kv pt sl lent){l:Nat}{ws:List Str}(px:cN ws)(hn:∀ n∈bY ws,n∈NM):fQ W pt (lK W) sl lent l ws=[cL kv l ws]∧ur ws=1:=by
 have hs:(bY ws).map sl=(bY ws).map fun n=>aN kv (.inr n):=List.map_congr_left fun n hn'=>I.hsl n (hn n hn')
 cases px with
 | op x=>
  unfold cL
  rw[fE (by decide +kernel),fv (by decide +kernel),if_neg (show ¬ [("open" : Str),x].headD "" = "do" by show ¬ ("open" : Str) = "do"; decide +kernel)]
  unfold bY at hs
  rw[if_neg (show ¬ [("open" : Str),x].headD "" = "do" by show ¬ ("open" : Str) = "do"; decide +kernel)]at hs
  exact⟨by rw[← hs]; rfl,rfl⟩
 | dr x=>
  unfold cL
  rw[fE (by decide +kernel),fv (by decide +kernel),if_neg (show ¬ [("drop" : Str),x].headD "" = "do" by show ¬ ("drop" : Str) = "do"; decide +kernel)]
  unfold bY at hs
  rw[if_neg (show ¬ [("drop" : Str),x].headD "" = "do" by show ¬ ("drop" : Str) = "do"; decide +kernel)]at hs
  exact⟨by rw[← hs]; rfl,rfl⟩
 | cp x y=>
  unfold cL
  rw[fE (by decide +kernel),fv (by decide +kernel),if_neg (show ¬ [("copy" : Str),x,y].headD "" = "do" by show ¬ ("copy" : Str) = "do"; decide +kernel)]
  unfold bY at hs
  rw[if_neg (show ¬ [("copy" : Str),x,y].headD "" = "do" by show ¬ ("copy" : Str) = "do"; decide +kernel)]at hs
  exact⟨by rw[← hs]; rfl,rfl⟩
 | ti x y=>
  unfold cL
  rw[fE (by decide +kernel),fv (by decide +kernel),if_neg (show ¬ [("tie" : Str),x,y].headD "" = "do" by show ¬ ("tie" : Str) = "do"; decide +kernel)]
  unfold bY at hs
  rw[if_neg (show ¬ [("tie" : Str),x,y].headD "" = "do" by show ¬ ("tie" : Str) = "do"; decide +kernel)]at hs
  exact⟨by rw[← hs]; rfl,rfl⟩
 | dd u x=>
  unfold cL
  rw[fv (by decide +kernel),if_pos (show [("do" : Str),u,x].headD "" = "do" from rfl)]
  unfold bY at hs
  rw[if_pos (show [("do" : Str),u,x].headD "" = "do" from rfl)]at hs
  have hx:sl x=aN kv (.inr x):=by simpa using hs
  refine⟨?_,rfl⟩
  show eO W pt _ sl lent l "do" _=_
  unfold eO
  rw[if_neg (show ¬ ("do" : Str) = "lend" by decide +kernel),if_neg (show ¬ ("do" : Str) = "back" by decide +kernel),if_neg (show ¬ (("do" : Str) = "if" ∨ ("do" : Str) = "while") by decide +kernel),if_neg (show ¬ ("do" : Str) = "else" by decide +kernel),if_neg (show ¬ ("do" : Str) = "done" by decide +kernel),if_neg (show ¬ ("do" : Str) = "fi" by decide +kernel),if_pos (show ("do" : Str) = "do" from rfl)]
  show [[V.str "do", iN l,sl x,V.str u]]=_
  rw[hx]; rfl
theorem kO{l:Nat}{x y:Str}{fs:Nat→Nat}:fQ W pt fs sl lent l ["lend", x,y]=[[.str "copy", iN l,lent l,sl x],[.str "do", iN l,lent l,.str "lend"],[.str "copy", iN l,sl y,lent l]]:=by
 show eO W pt _ sl lent l "lend" _=_; unfold eO; rw[if_pos rfl]; rfl
theorem lA{l:Nat}{fs:Nat→Nat}:fQ W pt fs sl lent l ["back"]=[[.str "do", iN l,lent l,.str "back"],[.str "drop", iN l,sl ((W.getD (pt l) []).getD 2 "")],[.str "drop", iN l,lent l]]:=by
 show eO W pt _ sl lent l "back" _=_; unfold eO; rw[if_neg (show ¬ ("back" : Str) = "lend" by decide +kernel),if_pos rfl]
end
def qd(kv:List (ax × V))(NM:List Str):Prop:=kv.length=NM.length∧∀ n,aM kv (.inr n)=if n∈NM then some (iN (NM.idxOf n)) else none
theorem zD{kv:List (ax × V)}{NM:List Str}(h:qd kv NM)(x:Str):qd (fD kv x) (eT NM x):=by
 obtain⟨h1,h2⟩:=h
 unfold fD eT
 by_cases c:x∈NM
 ·rw[if_pos c,if_pos (by rw[h2 x,if_pos c]; rfl)]; exact⟨h1,h2⟩
 ·have hx:aM kv (.inr x)=none:=by rw[h2 x,if_neg c]
  rw[if_neg c,if_neg (by rw[hx]; simp)]
  refine⟨by rw[yz _ hx,List.length_append,List.length_append,h1]; rfl,fun n=>?_⟩
  rw[dg,h2 n,h1]
  by_cases e:n=x
  ·subst e
   rw[if_pos rfl,if_pos (List.mem_append_right _ List.mem_cons_self),List.idxOf_append,if_neg c]
   simp
  ·rw[if_neg (fun z=>e (Sum.inr.inj z))]
   by_cases m:n∈NM
   ·rw[if_pos m,if_pos (List.mem_append_left _ m),List.idxOf_append,if_pos m]
   ·rw[if_neg m,if_neg (fun z=>(List.mem_append.mp z).elim m (fun z=>e (List.mem_singleton.mp z)))]
theorem sL:∀ (l:List Str) {kv:List (ax × V)} {NM:List Str},qd kv NM→qd (cx l kv) (l.foldl eT NM)
 | [],_,_,h=>h
 | x::l,_,_,h=>sL l (zD h x)
theorem nZ(l:List Str):qd (cx l []) (cQ l):=sL l ⟨rfl,fun n=>by rw[if_neg (by simp)]; rfl⟩
theorem v1(l:List Str):(cQ l).Nodup:=by
 unfold cQ
 have go:∀ (l acc:List Str),acc.Nodup→(l.foldl eT acc).Nodup:=fun l=>by
  induction l with
  | nil=>intro acc h; exact h
  | cons x l ih=>
   intro acc h
   refine ih _ ?_
   unfold eT
   split
   ·exact h
   ·rename_i c
    rw[List.nodup_append]
    exact⟨h,by simp,fun a ha b hb=>by rw[List.mem_singleton.mp hb]; exact fun z=>c (z ▸ ha)⟩
 exact go l [] List.nodup_nil
theorem rY{ks:List ax}(hn:ks.Nodup):∀ (i j:Nat) k,j<i→i≤ks.length→ks[j]? = some k→aM (fG ks i) k=some (iN j)
 | 0,j,_,h,_,_=>absurd h (Nat.not_lt_zero _)
 | i+1,j,k,h,hi,hk=>by
  rw[fY,dg]
  have hil:i<ks.length:=by omega
  have e:ks.getD i (.inl 0)=ks[i]:=by rw[List.getD_eq_getElem?_getD,List.getElem?_eq_getElem hil]; rfl
  rw[e]
  obtain⟨hjl,hk'⟩:=List.getElem?_eq_some_iff.mp hk
  rcases Nat.lt_or_ge j i with z | z
  ·rw[if_neg (fun c=>by rw[← hk']at c; exact List.pairwise_iff_getElem.mp hn j i hjl hil z c)]
   exact rY hn i j k z (by omega) hk
  ·have:j=i:=by omega
   subst this
   rw[if_pos hk'.symm]
theorem wb{ks:List ax}(hn:ks.Nodup){j:Nat}{k:ax}(h:ks[j]? = some k):aN (fP ks) k=iN j:=by
 have:=rY hn ks.length j k (List.getElem?_eq_some_iff.mp h).1 (Nat.le_refl _) h
 show aN (fG ks ks.length) k=_
 unfold aN
 rw[this]; rfl
theorem qR(L:List Str):(dG L).Nodup:=List.Nodup.sublist List.filter_sublist List.nodup_range
theorem lm{NM L:List Str}(hn:NM.Nodup):(ce NM L).Nodup:=by
 unfold ce
 rw[List.nodup_append]
 refine⟨List.pairwise_map.mpr (List.Pairwise.imp (fun h e=>h (Sum.inr.inj e)) hn),List.pairwise_map.mpr (List.Pairwise.imp (fun h e=>h (by have:=Sum.inl.inj e; omega)) (qR L)),fun a ha b hb=>?_⟩
 obtain⟨x,_,rfl⟩:=List.mem_map.mp ha
 obtain⟨y,_,rfl⟩:=List.mem_map.mp hb
 exact fun z=>nomatch z
theorem wm{NM L:List Str}(hn:NM.Nodup){n:Str}(h:n∈NM):aN (fP (ce NM L)) (.inr n)=iN (NM.idxOf n):=by
 refine wb (lm hn) ?_
 have hl:=List.idxOf_lt_length_iff.mpr h
 unfold ce
 rw[List.getElem?_append_left (by rw[List.length_map]; exact hl),List.getElem?_map,List.getElem?_eq_getElem hl,List.getElem_idxOf hl]; rfl
theorem mG{NM L:List Str}(hn:NM.Nodup){l:Nat}(h:l∈dG L):aN (fP (ce NM L)) (.inl (l:Int))=iN (NM.length+(dG L).idxOf l):=by
 refine wb (lm hn) ?_
 have hl:=List.idxOf_lt_length_iff.mpr h
 unfold ce
 rw[List.getElem?_append_right (by rw[List.length_map]; omega),List.length_map,Nat.add_sub_cancel_left,List.getElem?_map,List.getElem?_eq_getElem hl,List.getElem_idxOf hl]; rfl
theorem nJ{ws:List Str}(px:cN ws):a_ ws=bo (.plain ws):=by
 cases px with
 | op x=>unfold a_; simp only[bo]; rw[if_pos (by show ("open" : Str)∈_; decide +kernel),if_neg (by show ¬ ("open" : Str) = "do"; decide +kernel)]
 | dr x=>unfold a_; simp only[bo]; rw[if_pos (by show ("drop" : Str)∈_; decide +kernel),if_neg (by show ¬ ("drop" : Str) = "do"; decide +kernel)]
 | cp x y=>unfold a_; simp only[bo]; rw[if_pos (by show ("copy" : Str)∈_; decide +kernel),if_neg (by show ¬ ("copy" : Str) = "do"; decide +kernel)]
 | ti x y=>unfold a_; simp only[bo]; rw[if_pos (by show ("tie" : Str)∈_; decide +kernel),if_neg (by show ¬ ("tie" : Str) = "do"; decide +kernel)]
 | dd u x=>unfold a_; simp only[bo]; rw[if_neg (by show ¬ ("do" : Str)∈_; decide +kernel),if_pos (by rfl),if_pos (by rfl)]
theorem qB(x y:Str):a_ ["lend", x,y]=[x,y]:=by
 unfold a_; rw[if_pos (by show ("lend" : Str)∈_; decide +kernel)]; rfl
theorem eR{h:Str}{r:List Str}(hh:h∉(["open", "copy", "drop", "tie", "lend", "do"]:List Str)):a_ (h::r)=[]:=by
 unfold a_
 rw[if_neg (by show ¬ h∈_; intro z; refine hh ?_; simp only[List.mem_cons,List.not_mem_nil,or_false]at z ⊢; rcases z with z | z | z | z | z <;> simp[z]),if_neg (by show ¬ h=_; intro z; subst z; exact hh (by simp))]
theorem BB{f:List Stp→List (List Str)}{g:List Stp→List Stp}{p:List Stp→Prop}(h:∀ b,p b→(f b).flatMap a_=(g b).flatMap bo):∀ (s:Stp),dy p s→(cW f s).flatMap a_=(eS g s).flatMap bo
 | .plain ws,⟨px,_⟩=>by
  show [ws].flatMap a_=[Stp.plain ws].flatMap bo
  rw[List.flatMap_singleton,List.flatMap_singleton,nJ px]
 | .lend x y b,⟨_,_,hb⟩=>by
  show ([("lend" : Str),x,y]::(f b++[[("back" : Str)]])).flatMap a_=(Stp.lend x y b::[b].flatMap g).flatMap bo
  rw[List.flatMap_cons,List.flatMap_append,List.flatMap_singleton,List.flatMap_cons,List.flatMap_singleton,h b hb,qB,eR (by decide +kernel),List.append_nil]; rfl
 | .ite n b c,⟨_,hb,hc⟩=>by
  show ([("if" : Str),bH n]::(f b++[[("else" : Str)]]++(f c++[[("fi" : Str)]]))).flatMap a_=(Stp.ite n b c::[b,c].flatMap g).flatMap bo
  rw[List.flatMap_cons,List.flatMap_append,List.flatMap_append,List.flatMap_append,List.flatMap_singleton,List.flatMap_singleton,List.flatMap_cons,List.flatMap_cons,List.flatMap_singleton,List.flatMap_append,h b hb,h c hc,eR (by decide +kernel),eR (by decide +kernel),eR (by decide +kernel),List.append_nil,List.append_nil]; rfl
 | .whl n b,⟨_,hb⟩=>by
  show ([("while" : Str),bH n]::(f b++[[("done" : Str)]])).flatMap a_=(Stp.whl n b::[b].flatMap g).flatMap bo
  rw[List.flatMap_cons,List.flatMap_append,List.flatMap_singleton,List.flatMap_cons,List.flatMap_singleton,h b hb,eR (by decide +kernel),eR (by decide +kernel),List.append_nil]; rfl
theorem gE:∀ (d:Nat) (T:List Stp),bR d T→(bO d T).flatMap a_=(bQ d T).flatMap bo
 | 0,_,h=>h.elim
 | d+1,T,h=>by
  show (T.flatMap (cW (bO d))).flatMap a_=(T.flatMap (eS (bQ d))).flatMap bo
  rw[List.flatMap_assoc,List.flatMap_assoc]
  induction T with
  | nil=>rfl
  | cons s T ih=>rw[List.flatMap_cons,List.flatMap_cons,BB (fun b z=>gE d b z) s (h s List.mem_cons_self),ih fun u hu=>h u (List.mem_cons_of_mem _ hu)]
theorem v6{f g:List Stp→Prop}(h:∀ b,f b→g b):∀ {s:Stp},dy f s→fu g s
 | .plain ws,⟨px,_⟩=>by
  show fw ws
  cases px with
  | op x=>exact .opn x
  | dr x=>exact .drp x
  | dd u x=>exact .doo u x
  | cp x y=>exact .cpy x y
  | ti x y=>exact .tie x y
 | .lend _ _ _,z=>h _ z.2.2
 | .ite _ _ _,z=>⟨h _ z.2.1,h _ z.2.2⟩
 | .whl _ _,z=>h _ z.2
theorem gP:∀ {d:Nat} {T:List Stp},bR d T→jg d T
 | 0,_,h=>h
 | _+1,_,h=>fun s hs=>v6 (fun _ z=>gP z) (h s hs)
def kP(ws:List Str):Prop:=ws.headD "" = "lend" → ∃ x y,ws=[("lend" : Str),x,y]
theorem AT{f:List Stp→List (List Str)}{p:List Stp→Prop}(h:∀ b,p b→∀ ws∈f b,kP ws):∀ (s:Stp),dy p s→∀ ws∈cW f s,kP ws
 | .plain us,⟨px,_⟩,ws,hw=>by
  have e:ws=us:=by simpa [cW] using hw
  subst e
  intro z
  exfalso
  cases px with
  | op x=>exact absurd z (show ¬ ("open" : Str)=_ by decide +kernel)
  | dr x=>exact absurd z (show ¬ ("drop" : Str)=_ by decide +kernel)
  | dd u x=>exact absurd z (show ¬ ("do" : Str)=_ by decide +kernel)
  | cp x y=>exact absurd z (show ¬ ("copy" : Str)=_ by decide +kernel)
  | ti x y=>exact absurd z (show ¬ ("tie" : Str)=_ by decide +kernel)
 | .lend x y b,⟨_,_,hb⟩,ws,hw=>by
  simp only[cW,List.mem_cons,List.mem_append,List.not_mem_nil,or_false]at hw
  rcases hw with rfl | hw | rfl
  ·exact fun _=>⟨x,y,rfl⟩
  ·exact h b hb ws hw
  ·exact fun z=>absurd z (show ¬ ("back" : Str)=_ by decide +kernel)
 | .ite n b c,⟨_,hb,hc⟩,ws,hw=>by
  simp only[cW,List.mem_cons,List.mem_append,List.not_mem_nil,or_false]at hw
  rcases hw with rfl | (hw | rfl) | hw | rfl
  ·exact fun z=>absurd z (show ¬ ("if" : Str)=_ by decide +kernel)
  ·exact h b hb ws hw
  ·exact fun z=>absurd z (show ¬ ("else" : Str)=_ by decide +kernel)
  ·exact h c hc ws hw
  ·exact fun z=>absurd z (show ¬ ("fi" : Str)=_ by decide +kernel)
 | .whl n b,⟨_,hb⟩,ws,hw=>by
  simp only[cW,List.mem_cons,List.mem_append,List.not_mem_nil,or_false]at hw
  rcases hw with rfl | hw | rfl
  ·exact fun z=>absurd z (show ¬ ("while" : Str)=_ by decide +kernel)
  ·exact h b hb ws hw
  ·exact fun z=>absurd z (show ¬ ("done" : Str)=_ by decide +kernel)
theorem qF:∀ {d:Nat} {T:List Stp},bR d T→∀ ws∈bO d T,kP ws
 | 0,_,h,_,_=>h.elim
 | d+1,T,h,ws,hw=>by
  obtain⟨s,hs,hw⟩:=List.mem_flatMap.mp hw
  exact AT (fun b z=>qF z) s (h s hs) ws hw
theorem qO{ws:List Str}(o:WOk ws)(h:kP ws):fO (Txt.join " " ws)=decide (ws.headD "" = "lend"):=by
 by_cases c:ws.headD "" = "lend"
 ·obtain⟨x,y,rfl⟩:=h c
  rw[nv,decide_eq_true c]
 ·rw[decide_eq_false c]
  cases hb:fO (Txt.join " " ws) with
  | false=>rfl
  | true=>
   exfalso
   unfold fO at hb
   rw[Bool.and_eq_true,decide_eq_true_eq]at hb
   obtain⟨h1,h2⟩:=hb
   unfold PySem.Builtin.Str.subAt at h2
   rw[beq_iff_eq]at h2
   have hl:("lend " : Str).length=5:=by decide +kernel
   rw[hl]at h2
   have h3:((Txt.join " " ws).cps.extract 0 (0+5)).toList=("lend " : Str).cps.toList:=by rw[h2]
   rw[Array.toList_extract]at h3
   simp only[List.extract_eq_drop_take,Nat.zero_add,Nat.sub_zero,List.drop_zero]at h3
   have h4:(Txt.join " " ws).cps.toList=("lend" : Str).cps.toList++32::(Txt.join " " ws).cps.toList.drop 5:=by
    conv=>lhs; rw[← List.take_append_drop 5 (Txt.join " " ws).cps.toList,h3]
    have:("lend " : Str).cps.toList=("lend" : Str).cps.toList++[32]:=by decide +kernel
    rw[this,List.append_assoc]; rfl
   have hf:32∉("lend" : Str).cps.toList:=by decide +kernel
   obtain⟨w0,wr,rfl⟩:=List.exists_cons_of_ne_nil o.ne
   have hw0:32∉w0.cps.toList:=o.free w0 List.mem_cons_self
   cases wr with
   | nil=>
    have:(Txt.join " " [w0]).cps.toList=w0.cps.toList:=rfl
    rw[this]at h4
    rw[h4]at hw0
    exact hw0 (List.mem_append_right _ List.mem_cons_self)
   | cons x r=>
    have hgo:∀ (r:List Str) (a:Str) (rest:List Nat),a.cps.toList=w0.cps.toList++32::rest→∃ rest',(r.foldl (fun a x=>a++(" " : Str)++x) a).cps.toList=w0.cps.toList++32::rest':=fun r=>by
     induction r with
     | nil=>intro a rest e; exact⟨rest,e⟩
     | cons y r ih=>
      intro a rest e
      refine ih (a++(" " : Str)++y) (rest++(" " : Str).cps.toList++y.cps.toList) ?_
      rw[dj,dj,e]; simp only[List.append_assoc,List.cons_append]
    rw[ej]at h4
    obtain⟨rest,hr⟩:=hgo r (w0++(" " : Str)++x) x.cps.toList (by
     have h32:(" " : Str).cps.toList=[32]:=by decide +kernel
     rw[dj,dj,h32,List.append_assoc]; rfl)
    rw[List.foldl_cons,hr]at h4
    have:=(j9 hw0 hf h4).1
    exact c (jt this)
def cu(W:List (List Str)):List Nat:=(List.range W.length).filter fun i=>decide ((W.getD i []).headD "" = "lend")
theorem wW{W:List (List Str)}(hw:∀ ws∈W,WOk ws)(hl:∀ ws∈W,kP ws):dG (W.map (Txt.join " "))=cu W:=by
 unfold dG cu
 rw[List.length_map]
 refine List.filter_congr fun i hi=>?_
 have hi':=List.mem_range.mp hi
 rw[List.getD_eq_getElem?_getD,List.getD_eq_getElem?_getD,List.getElem?_map,List.getElem?_eq_getElem hi']
 exact qO (hw _ (List.getElem_mem hi')) (hl _ (List.getElem_mem hi'))
section
variable{P:Program}{w:World}{K:PySem.W.Frag}{mg:Str→Option Value}{base:Heap}
theorem e_(x:Str):∀ ss:List Str,fX (.str x) (ss.map V.str)=decide (x∈ss)
 | []=>rfl
 | y::ss=>by
  have ih:=e_ x ss
  show (eG (.str y) (.str x)||fX (.str x) (ss.map V.str))=_
  rw[ih]
  show ((y == x)||decide (x∈ss))=_
  by_cases h:y=x
  ·subst h; simp
  ·have h2:¬ x=y:=fun z=>h z.symm
   rw[beq_eq_false_iff_ne.mpr h]
   simp[h2]
def yP(H:Hp)(lp:Addr)(W:List (List Str)):Prop:=H lp=some (.lst ((W.map (Txt.join " ")).map V.str))
structure og (W:List (List Str)):Prop where
 ok:∀ ws∈W,WOk ws
 sz:∀ ws∈W,(Txt.join " " ws).length≤5000
 len:W.length≤200
 nm:(W.flatMap a_).length≤1000
def pZ:Sp:=fun vs H Q _=>∃ (lp:Addr) (W:List (List Str)),vs=[.ref lp]∧yP H lp W∧og W∧∀ (fd:Addr) (H':Hp),Same H H'→H' fd=some (.dK (cx (W.flatMap a_) []))→Q (.ref fd) H'
theorem vK(l:List Str):(cx l []).length≤l.length:=by
 have h:=(nZ l).1
 have:=gm l []
 rw[List.length_nil]at this
 rw[h]; unfold cQ; omega
theorem uZ(w0:Str)(wr:List Str):(w0::wr).length≤(Txt.join " " (w0::wr)).length+1:=by
 have go:∀ (ws:List Str) (a:Str),a.length+ws.length≤(ws.foldl (fun a x=>a++(" " : Str)++x) a).length:=by
  intro ws
  induction ws with
  | nil=>intro a; exact Nat.le_refl _
  | cons x ws ih=>
   intro a
   have:=ih (a++(" " : Str)++x)
   have h1:(Str.ofString " ").length=1:=by decide
   rw[Str.length_append,Str.length_append,h1]at this
   rw[List.foldl_cons,List.length_cons]; omega
 rw[ej]
 have:=go wr w0
 rw[List.length_cons]; omega
theorem vY(D:DefAt K mg "_law_slots" bK) (z_len:mg "len" = none):bg P w K mg base 1 "_law_slots" ["_law_lines"] pZ:=by
 refine D.cal (k:=0) sc_law_slots (fun _ _ _ _ _ _ us hl=>match us,hl with | [_],_=>rfl) (fun vs H Q E h=>by obtain⟨lp,W,rfl,_⟩:=h; rfl) (fun f cdv A outer s H vs Q E hr h=>?_)
 obtain⟨lp,W,rfl,hlp,ok,q⟩:=h
 refine⟨_,(ae (ar 1 sc_law_slots.nd ir (hx:=E3))
   (ae (cE PassesOwn.never rfl (dz K (pv 0 (hv:=Fk))) (bj 2 sc_law_slots.nd (hx:=EG)) (ae (ar 3 sc_law_slots.nd (aI K PySem.F.plainAttrs_str PySem.F.slot_str_split PySem.F.type_str_split fH (pv 2 (hv:=D3)) (aa al ab)) (hx:=AG))
   (ae (bN (aG (jo K) (ay (aW K) (pv 3 (hv:=tu)) ai (fun _ _=>rfl)) (bi (aa al (aa al (aa al (aa al (aa al ab)))))) (by with_unfolding_all rfl)) (ak (ar 3 sc_law_slots.nd (ao aw (bi (aa al ab)) (pv 3 (hv:=tu))) (hx:=AG))) bB)
   (ak (bN (aG b8 (ay (aW K) (pv 3 (hv:=tu)) ai (fun _ _=>rfl)) al (bc _)) (ak (cE PassesOwn.never rfl (dz K (cj (gM K) (pv 3 (hv:=tu)) (cr ai) cV)) (bj 4 sc_law_slots.nd (hx:=Fp)) (ak (aQ (aI K PySem.F.plainAttrs_dict PySem.F.slot_dict_setdefault PySem.F.type_dict_setdefault ua (pv 1 (hv:=xT)) (aa (pv 4 (hv:=Dv)) (aa (aY jr z_len bw (aa (pv 1 (hv:=xT)) ab) (hg:=Fy)) ab))))))) bB)))))
   (ak (aF (pv 1 (hv:=xT)))))),?_⟩
 walk_at "rd1"
 intro fd hfd
 have s1:=af hfd (.dK [])
 have e1:upd H fd (.dK []) fd=some (.dK (cx ((W.take 0).flatMap a_) [])):=ac
 generalize upd H fd (.dK [])=H1 at s1 e1 ⊢
 walk_at "nx"
 refine⟨⟨_,SqL.of (s1 _ _ hlp)⟩,?_⟩
 refine dn (xs:=(W.map (Txt.join " ")).map V.str) (fun i σ H'=>∃ o2 o3 o4:Option V,σ=[some (.ref lp),some (.ref fd),o2,o3,o4]∧Same H H'∧H' fd=some (.dK (cx ((W.take i).flatMap a_) [])))
  ⟨none,none,none,rfl,s1,e1⟩ (fun i σ H' _ h=>by obtain⟨_,_,_,_,sm,_⟩:=h; exact SqL.of (sm _ _ hlp)) ?_ ?_
 ·rintro i v σ H' hv ⟨o2,o3,o4,rfl,sm,hd⟩
  have hi:i<W.length:=by have:=(List.getElem?_eq_some_iff.mp hv).1; simpa using this
  have hwi:W[i]? = some W[i]:=List.getElem?_eq_getElem hi
  rw[List.getElem?_map,List.getElem?_map,hwi]at hv
  cases hv
  have hwm:=List.getElem_mem hi
  have hsn:=jC a_ hwi
  have hfl:=nR a_ W (i+1)
  generalize W[i]=ws at hwi hwm hsn
  have ho:=ok.ok ws hwm
  have hz:=ok.sz ws hwm
  have hnm:=ok.nm
  rw[hsn]at hfl ⊢
  generalize (W.take i).flatMap a_=L at hd hfl ⊢
  obtain⟨w0,wr,rfl⟩:=List.exists_cons_of_ne_nil ho.ne
  walk_at "rd1"
  refine⟨by decide,by omega,fun wq hwq=>?_⟩
  rw[ho.split]
  have s5:=af hwq (.lst ((w0::wr).map V.str))
  have e5:upd H' wq (.lst ((w0::wr).map V.str)) wq=some (.lst ((w0::wr).map V.str)):=ac
  generalize upd H' wq (.lst ((w0::wr).map V.str))=H5 at s5 e5 ⊢
  walk_at "nx"
  refine⟨_,_,.inl (SqL.of e5),cM,by decide,fun cl hcl=>?_⟩
  have s6:=af hcl (.lst [V.str "open", V.str "copy", V.str "drop", V.str "tie", V.str "lend"])
  have e6:upd H5 cl (.lst [V.str "open", V.str "copy", V.str "drop", V.str "tie", V.str "lend"]) cl=some (.lst ((["open", "copy", "drop", "tie", "lend"]:List Str).map V.str)):=ac
  generalize upd H5 cl (.lst [V.str "open", V.str "copy", V.str "drop", V.str "tie", V.str "lend"])=H6 at s6 e6 ⊢
  refine⟨_,.inl (SqL.of e6),rfl,rfl,?_⟩
  rw[e_]
  have s56:=s5.trans s6
  refine bA (fun c=>?_) (fun c=>?_)
  ·have c':w0∈(["open", "copy", "drop", "tie", "lend"]:List Str):=by simpa using c
   have hnw:a_ (w0::wr)=wr:=by unfold a_; rw[if_pos (show (w0::wr).headD "" ∈ _ from c')]; rfl
   refine⟨by decide,fun dl hdl=>?_⟩
   have s7:=af hdl (.lst [V.str "do"])
   have e7:upd H6 dl (.lst [V.str "do"]) dl=some (.lst [V.str "do"]):=ac
   generalize upd H6 dl (.lst [V.str "do"])=H7 at s7 e7 ⊢
   try dsimp only
   try rw[gX]
   refine⟨_,_,e7,s7 _ _ (s6 _ _ e5),?_,fun aq haq=>?_⟩
   ·have:=uZ w0 wr
    simp only[List.length_map,List.length_cons,List.length_nil]at this ⊢
    exact aS (by omega)
   rw[show [V.str "do"]++(w0::wr).map V.str=(("do" : Str)::w0::wr).map V.str from rfl]
   have s7b:=af haq (.lst ((("do" : Str)::w0::wr).map V.str))
   have e7b:upd H7 aq (.lst ((("do" : Str)::w0::wr).map V.str)) aq=some (.lst ((("do" : Str)::w0::wr).map V.str)):=ac
   generalize upd H7 aq (.lst ((("do" : Str)::w0::wr).map V.str))=H7b at s7b e7b ⊢
   have s57:=(s56.trans s7).trans s7b
   walk_at "nx"
   refine⟨_,_,.inl (SqL.of e7b),cM,?_⟩
   walk_at "rd1"
   refine⟨_,SqL.of e7b,fun sq hsq=>?_⟩
   rw[show (some (2:Int))=some ((2:Nat):Int) from rfl,fm,← List.map_drop,show List.drop 2 (("do" : Str)::w0::wr)=wr from rfl]
   have s8:=af hsq (.lst ((wr).map V.str))
   have e8:upd H7b sq (.lst ((wr).map V.str)) sq=some (.lst ((wr).map V.str)):=ac
   generalize upd H7b sq (.lst ((wr).map V.str))=H8 at s8 e8 ⊢
   have s08:=s57.trans s8
   have hd8:=s08 _ _ hd
   rw[hnw]at hfl ⊢
   refine⟨⟨_,SqL.of e8⟩,?_⟩
   have nsf:sq≠fd:=b7 e8 hd8 (fun z=>nomatch z)
   refine dn (xs:=wr.map V.str) (fun j σ H9=>∃ o4:Option V,σ=[some (.ref lp),some (.ref fd),some (.str (Txt.join " " (w0::wr))),some (.ref aq),o4]∧Same H H9∧H9 sq=some (.lst (wr.map V.str))∧H9 fd=some (.dK (cx (L++wr.take j) [])))
    ⟨_,rfl,sm.trans s08,e8,by rw[List.take_zero,List.append_nil]; exact hd8⟩ (fun j σ H9 _ h=>by obtain⟨_,_,_,z,_⟩:=h; exact SqL.of z) ?_ ?_
   ·rintro j v σ H9 hv ⟨o4,rfl,sm9,e9,hd9⟩
    have hj:j<wr.length:=by have:=(List.getElem?_eq_some_iff.mp hv).1; simpa using this
    rw[List.getElem?_map,List.getElem?_eq_getElem hj]at hv
    cases hv
    have hst:cx (L++wr.take (j+1)) []=fD (cx (L++wr.take j) []) wr[j]:=by
     unfold cx
     rw[List.take_add_one,List.getElem?_eq_getElem hj,← List.append_assoc,List.foldl_append]; rfl
    have hll:=vK (L++wr.take j)
    rw[List.length_append,List.length_take]at hll
    rw[List.length_append]at hfl
    rw[hst]
    generalize cx (L++wr.take j) []=kv at hd9 hll ⊢
    generalize wr[j]=n
    walk_at "rd1"
    refine⟨.inr (.inr (.inl ⟨rfl,.inl ⟨_,hd9⟩⟩)),fd,kv,rfl,hd9,fd,kv,.inr n,_,rfl,rfl,hd9,bG (by omega),fun z hz'=>?_,fun hz'=>?_⟩
    ·refine⟨_,rfl,sm9,e9,?_⟩
     unfold fD
     rw[if_pos (by rw[hz']; rfl)]; exact hd9
    ·refine⟨_,rfl,sm9.upd hfd _,by rw[ah nsf]; exact e9,?_⟩
     unfold fD
     rw[if_neg (by rw[hz']; simp),ac]; rfl
   ·rintro σ H9 ⟨o4,rfl,sm9,e9,hd9⟩
    rw[List.length_map,List.take_length]at hd9
    exact⟨_,_,_,rfl,sm9,hd9⟩
  ·have c':w0∉(["open", "copy", "drop", "tie", "lend"]:List Str):=by simpa using c
   walk_at "nx"
   refine⟨_,_,.inl (SqL.of (s6 _ _ e5)),cM,?_⟩
   walk_at "rd1"
   refine bA (fun c2=>?_) (fun c2=>?_)
   ·have hnw:a_ (w0::wr)=wr.drop 1:=by unfold a_; rw[if_neg (show ¬ (w0::wr).headD "" ∈ _ from c'),if_pos (show (w0::wr).headD "" = "do" from c2)]; rfl
    have e6b:=s6 _ _ e5
    refine⟨_,SqL.of e6b,fun sq hsq=>?_⟩
    rw[show (some (2:Int))=some ((2:Nat):Int) from rfl,fm,← List.map_drop,show List.drop 2 (w0::wr)=wr.drop 1 from rfl]
    have s8:=af hsq (.lst ((wr.drop 1).map V.str))
    have e8:upd H6 sq (.lst ((wr.drop 1).map V.str)) sq=some (.lst ((wr.drop 1).map V.str)):=ac
    generalize upd H6 sq (.lst ((wr.drop 1).map V.str))=H8 at s8 e8 ⊢
    have s08:=s56.trans s8
    have hd8:=s08 _ _ hd
    rw[hnw]at hfl ⊢
    generalize wr.drop 1=X at e8 hfl ⊢
    refine⟨⟨_,SqL.of e8⟩,?_⟩
    have nsf:sq≠fd:=b7 e8 hd8 (fun z=>nomatch z)
    refine dn (xs:=X.map V.str) (fun j σ H9=>∃ o4:Option V,σ=[some (.ref lp),some (.ref fd),some (.str (Txt.join " " (w0::wr))),some (.ref wq),o4]∧Same H H9∧H9 sq=some (.lst (X.map V.str))∧H9 fd=some (.dK (cx (L++X.take j) [])))
     ⟨_,rfl,sm.trans s08,e8,by rw[List.take_zero,List.append_nil]; exact hd8⟩ (fun j σ H9 _ h=>by obtain⟨_,_,_,z,_⟩:=h; exact SqL.of z) ?_ ?_
    ·rintro j v σ H9 hv ⟨o4,rfl,sm9,e9,hd9⟩
     have hj:j<X.length:=by have:=(List.getElem?_eq_some_iff.mp hv).1; simpa using this
     rw[List.getElem?_map,List.getElem?_eq_getElem hj]at hv
     cases hv
     have hst:cx (L++X.take (j+1)) []=fD (cx (L++X.take j) []) X[j]:=by
      unfold cx
      rw[List.take_add_one,List.getElem?_eq_getElem hj,← List.append_assoc,List.foldl_append]; rfl
     have hll:=vK (L++X.take j)
     rw[List.length_append,List.length_take]at hll
     rw[List.length_append]at hfl
     rw[hst]
     generalize cx (L++X.take j) []=kv at hd9 hll ⊢
     generalize X[j]=n
     walk_at "rd1"
     refine⟨.inr (.inr (.inl ⟨rfl,.inl ⟨_,hd9⟩⟩)),fd,kv,rfl,hd9,fd,kv,.inr n,_,rfl,rfl,hd9,bG (by omega),fun z hz'=>?_,fun hz'=>?_⟩
     ·refine⟨_,rfl,sm9,e9,?_⟩
      unfold fD
      rw[if_pos (by rw[hz']; rfl)]; exact hd9
     ·refine⟨_,rfl,sm9.upd hfd _,by rw[ah nsf]; exact e9,?_⟩
      unfold fD
      rw[if_neg (by rw[hz']; simp),ac]; rfl
    ·rintro σ H9 ⟨o4,rfl,sm9,e9,hd9⟩
     rw[List.length_map,List.take_length]at hd9
     exact⟨_,_,_,rfl,sm9,hd9⟩
   ·have hnw:a_ (w0::wr)=[]:=by unfold a_; rw[if_neg (show ¬ (w0::wr).headD "" ∈ _ from c'),if_neg (show ¬ (w0::wr).headD "" = "do" from c2)]
    rw[hnw,List.append_nil]
    exact⟨_,_,_,rfl,sm.trans s56,s56 _ _ hd⟩
 ·rintro σ H' ⟨o2,o3,o4,rfl,sm,hd⟩
  rw[List.length_map,List.length_map,List.take_length]at hd
  walk_at "nx"
  exact q fd H' sm hd
end
section
variable(kv:List (ax × V))(f:Bool→Nat→List Stp→List aP)(cnt:List Stp→Nat)
def kF(t:Bool)(l:Nat)(n:Int)(b c:List Stp):List aP:=
 [[.str "test", iN l,.int n,iN ((f t (l+1) b).length+2)]]++f t (l+1) b++[[.str "jump", iN (l+1+cnt b),iN ((f t (l+1+cnt b+1) c).length+1)]]++f t (l+1+cnt b+1) c
def ia(l:Nat)(n:Int)(b:List Stp):List aP:=
 [[.str "test", iN l,.int n,iN ((f false (l+1) b).length+2)]]++f false (l+1) b++[[.str "jump", iN (l+1+cnt b),.int (-1 - ((f false (l+1) b).length:Int))]]
def fe(t:Bool)(l:Nat)(n:Int)(b:List Stp):List aP:=
 if t=true then [[.str "test", iN l,.int n,iN ((f true (l+1) b).length+(f false (l+1) b).length+3)]]++f true (l+1) b++ia f cnt l n b else ia f cnt l n b
def iG(t:Bool)(l:Nat):Stp→List aP
 | .plain ws=>[cL kv l ws]
 | .lend x y b=>[[.str "copy", iN l,aN kv (.inl l),aN kv (.inr x)],[.str "do", iN l,aN kv (.inl l),.str "lend"],[.str "copy", iN l,aN kv (.inr y),aN kv (.inl l)]]++f t (l+1) b ++
  [[.str "do", iN (l+1+cnt b),aN kv (.inl l),.str "back"],[.str "drop", iN (l+1+cnt b),aN kv (.inr y)],[.str "drop", iN (l+1+cnt b),aN kv (.inl l)]]
 | .ite n b c=>kF f cnt t l n b c
 | .whl n b=>fe f cnt t l n b
end
def jF(g:Nat→Stp→List aP)(c:Stp→Nat):Nat→List Stp→List aP
 | _,[]=>[]
 | l,s::T=>g l s++jF g c (l+c s) T
def bU(kv:List (ax × V)):Nat→Bool→Nat→List Stp→List aP
 | 0,_,_,_=>[]
 | d+1,t,l,T=>jF (iG kv (bU kv d) (aj d) t) (aU (aj d)) l T
def iF:aP→Bool
 | .str h::_=>decide (h = "test" ∨ h = "jump")
 | _=>false
def EV(a:Nat):V→V
 | .int n=>.int ((a:Int)+n)
 | v=>v
def cG(a:Nat)(r:aP):aP:=if iF r=true then r.dropLast++[EV a (r.getLastD .non)] else r
def cH:Nat→List aP→List aP
 | _,[]=>[]
 | a,r::R=>cG a r::cH (a+1) R
theorem dk:∀ (R:List aP) (a:Nat),(cH a R).length=R.length
 | [],_=>rfl
 | r::R,a=>by show (cH (a+1) R).length+1=R.length+1; rw[dk R]
theorem dI:∀ (R S:List aP) (a:Nat),cH a (R++S)=cH a R++cH (a+R.length) S
 | [],_,_=>rfl
 | r::R,S,a=>by
  show cG a r::cH (a+1) (R++S)=cG a r::(cH (a+1) R++_)
  rw[dI R S,List.length_cons,show a+1+R.length=a+(R.length+1) by omega]
theorem Ar{a:Nat}{r:aP}(h:iF r=false):cH a [r]=[r]:=by
 show [cG a r]=[r]
 unfold cG; rw[h]; rfl
theorem gW{h:Str}{r:aP}(hh:h∉(["test", "jump"]:List Str)):iF (.str h::r)=false:=by
 simp only[List.mem_cons,List.not_mem_nil,or_false]at hh
 show decide _=false
 exact decide_eq_false hh
theorem mW{a:Nat}{r1 r2 r3:aP}(h1:iF r1=false)(h2:iF r2=false)(h3:iF r3=false):cH a [r1,r2,r3]=[r1,r2,r3]:=by
 show [cG _ r1,cG _ r2,cG _ r3]=_
 unfold cG; rw[h1,h2,h3]; rfl
theorem kt{a l m:Nat}{n:Int}:cH a [[.str "test", iN l,.int n,iN m]]=[[.str "test", iN l,.int n,iN (a+m)]]:=by
 show [cG a _]=_
 unfold cG
 rw[if_pos (by exact decide_eq_true (p:=("test" : Str) = "test" ∨ ("test" : Str) = "jump") (.inl rfl))]
 show [[V.str "test", iN l,V.int n]++[V.int ((a:Int)+(m:Int))]]=_
 unfold iN; rw[Int.natCast_add]; rfl
theorem qt{a l:Nat}{m:Int}{j:Nat}(h:(a:Int)+m=(j:Int)):cH a [[.str "jump", iN l,.int m]]=[[.str "jump", iN l,iN j]]:=by
 show [cG a _]=_
 unfold cG
 rw[if_pos (by exact decide_eq_true (p:=("jump" : Str) = "test" ∨ ("jump" : Str) = "jump") (.inr rfl))]
 show [[V.str "jump", iN l]++[V.int ((a:Int)+m)]]=_
 unfold iN; rw[h]; rfl
theorem hG{ws:List Str}(px:cN ws):ws.headD "" = "open" ∨ ws.headD "" = "drop" ∨ ws.headD "" = "do" ∨ ws.headD "" = "copy" ∨ ws.headD "" = "tie" := by
 cases px
 ·exact .inl rfl
 ·exact .inr (.inl rfl)
 ·exact .inr (.inr (.inl rfl))
 ·exact .inr (.inr (.inr (.inl rfl)))
 ·exact .inr (.inr (.inr (.inr rfl)))
theorem vp{kv:List (ax × V)}{l:Nat}{ws:List Str}(px:cN ws):iF (cL kv l ws)=false:=by
 unfold cL
 split
 ·exact gW (by decide +kernel)
 ·refine gW ?_
  rcases hG px with h | h | h | h | h <;> rw[h] <;> decide +kernel
theorem xY{kv:List (ax × V)}{f:Bool→Nat→List Stp→List aP}{g:Bool→Nat→Nat→List Stp→List aP}{cnt:List Stp→Nat}{p:List Stp→Prop}(ih:∀ t a l b,p b→cH a (f t l b)=g t a l b):∀ (s:Stp) (t:Bool) (a l:Nat),dy p s→cH a (iG kv f cnt t l s)=fM kv g cnt t a l s
 | .plain ws,t,a,l,⟨px,_⟩=>Ar (vp px)
 | .lend x y b,t,a,l,⟨_,_,fb⟩=>by
  have hl:(f t (l+1) b).length=(g t (a+3) (l+1) b).length:=by rw[← ih t _ _ b fb,dk]
  show cH a (_++_++_)=gh kv g cnt t a l x y b
  rw[dI,dI,mW (gW (by decide +kernel)) (gW (by decide +kernel)) (gW (by decide +kernel)),mW (gW (by decide +kernel)) (gW (by decide +kernel)) (gW (by decide +kernel))]
  show _++cH (a+3) _++_=_
  rw[ih t _ _ b fb]; rfl
 | .ite n b c,t,a,l,⟨_,fb,fc⟩=>by
  have hb:(f t (l+1) b).length=(g t (a+1) (l+1) b).length:=by rw[← ih t _ _ b fb,dk]
  have hc:(f t (l+1+cnt b+1) c).length=(g t (a+1+(g t (a+1) (l+1) b).length+1) (l+1+cnt b+1) c).length:=by rw[← ih t _ _ c fc,dk]
  show cH a (kF f cnt t l n b c)=jM g cnt t a l n b c
  unfold kF jM
  rw[dI,dI,dI,kt]
  simp only[List.length_append,List.length_cons,List.length_nil,Nat.zero_add,hb,hc]
  rw[ih t _ _ b fb,show a+(1+(g t (a+1) (l+1) b).length+1)=a+1+(g t (a+1) (l+1) b).length+1 by omega,ih t _ _ c fc]
  rw[show iN ((g t (a+1+(g t (a+1) (l+1) b).length+1) (l+1+cnt b+1) c).length+1)=V.int (((g t (a+1+(g t (a+1) (l+1) b).length+1) (l+1+cnt b+1) c).length+1:Nat):Int) from rfl,qt (j:=a+1+(g t (a+1) (l+1) b).length+1+(g t (a+1+(g t (a+1) (l+1) b).length+1) (l+1+cnt b+1) c).length) (by omega)]
  rw[show a+((g t (a+1) (l+1) b).length+2)=a+1+(g t (a+1) (l+1) b).length+1 by omega]
 | .whl n b,t,a,l,⟨_,fb⟩=>by
  have lp:∀ a:Nat,cH a (ia f cnt l n b)=eW g cnt a l n b:=fun a=>by
   have hb:(f false (l+1) b).length=(g false (a+1) (l+1) b).length:=by rw[← ih false _ _ b fb,dk]
   unfold ia eW
   rw[dI,dI,kt]
   simp only[List.length_append,List.length_cons,List.length_nil,Nat.zero_add,hb]
   rw[ih false _ _ b fb,qt (j:=a) (by omega),show a+((g false (a+1) (l+1) b).length+2)=a+1+(g false (a+1) (l+1) b).length+1 by omega]
  show cH a (fe f cnt t l n b)=dH g cnt t a l n b
  unfold fe dH
  cases t with
  | false=>rw[if_neg (by decide),if_neg (by decide)]; exact lp a
  | true=>
   rw[if_pos rfl,if_pos rfl]
   have hb:(f true (l+1) b).length=(g true (a+1) (l+1) b).length:=by rw[← ih true _ _ b fb,dk]
   have hc:(f false (l+1) b).length=(g false (a+1+(g true (a+1) (l+1) b).length+1) (l+1) b).length:=by rw[← ih false _ _ b fb,dk]
   rw[dI,dI,kt,lp]
   simp only[List.length_append,List.length_cons,List.length_nil,Nat.zero_add,hb]
   rw[ih true _ _ b fb,iw,hc,show a+(1+(g true (a+1) (l+1) b).length)=a+1+(g true (a+1) (l+1) b).length by omega]
   rw[show a+((g true (a+1) (l+1) b).length+(g false (a+1+(g true (a+1) (l+1) b).length+1) (l+1) b).length+3)=a+1+(g true (a+1) (l+1) b).length+((g false (a+1+(g true (a+1) (l+1) b).length+1) (l+1) b).length+2) by omega]
theorem j_(kv:List (ax × V)):∀ (d:Nat) (t:Bool) (a l:Nat) (T:List Stp),bR d T→cH a (bU kv d t l T)=bF kv d t a l T
 | 0,_,_,_,_,h=>h.elim
 | d+1,t,a,l,T,hf=>by
  have st:=xY (kv:=kv) (cnt:=aj d) (p:=bR d) (fun t a l b hb=>j_ kv d t a l b hb)
  have go:∀ (T:List Stp) (a l:Nat),(∀ s∈T,dy (bR d) s)→cH a (jF (iG kv (bU kv d) (aj d) t) (aU (aj d)) l T)=cY (fM kv (bF kv d) (aj d) t) (aU (aj d)) a l T:=fun T=>by
   induction T with
   | nil=>intro a l _; rfl
   | cons s T ihT=>
    intro a l hf
    have h1:=st s t a l (hf s List.mem_cons_self)
    show cH a (iG kv (bU kv d) (aj d) t l s++jF _ _ _ T)=fM kv (bF kv d) (aj d) t a l s++cY _ _ _ _ T
    rw[dI,h1,← dk (iG kv (bU kv d) (aj d) t l s) a,h1,ihT _ _ fun s hs=>hf s (List.mem_cons_of_mem _ hs)]
  exact go T a l hf
theorem gn{kv:List (ax × V)}{d l:Nat}{t:Bool}{T:List Stp}(hf:bR d T)(h:aj d T≤200)(hd:d≤20):(bU kv d t l T).length≤30000:=by
 rw[← dk (bU kv d t l T) 0,j_ kv d t 0 l T hf]; exact dB h hd
set_option genSizeOf false in
inductive PIt
 | ln (l:Nat)
 | ite (e l:Nat) (n:Int) (b c:List Stp)
 | whl (e l:Nat) (n:Int) (b:List Stp)
def PIt.st:PIt→Nat
 | .ln l=>l
 | .ite _ l _ _ _=>l
 | .whl _ l _ _=>l
def PIt.en:PIt→Nat
 | .ln l=>l
 | .ite e l _ b c=>l+1+aj e b+1+aj e c
 | .whl e l _ b=>l+1+aj e b
def AW(fl:Nat→List Stp→List PIt)(d l:Nat):Stp→List PIt
 | .plain _=>[.ln l]
 | .lend _ _ b=>[.ln l]++fl (l+1) b++[.ln (l+1+aj d b)]
 | .ite n b c=>[.ite d l n b c]
 | .whl n b=>[.whl d l n b]
def yk(g:Nat→Stp→List PIt)(c:Stp→Nat):Nat→List Stp→List PIt
 | _,[]=>[]
 | l,s::T=>g l s++yk g c (l+c s) T
def pM:Nat→Nat→List Stp→List PIt
 | 0,_,_=>[]
 | d+1,l,T=>yk (AW (pM d) d) (aU (aj d)) l T
inductive Chn:Nat→List PIt→Nat→Prop
 | nil (l:Nat):Chn l [] l
 | cons (x:PIt) {X:List PIt} {h:Nat}:Chn (x.en+1) X h→Chn x.st (x::X) h
theorem Chn.app:∀ {X Y:List PIt} {l m h:Nat},Chn l X m→Chn m Y h→Chn l (X++Y) h
 | [],_,_,_,_,.nil _,y=>y
 | _::_,_,_,_,_,.cons x t,y=>.cons x (t.app y)
theorem Chn.one(x:PIt):Chn x.st [x] (x.en+1):=.cons x (.nil _)
structure PtOk (W:List (List Str)) (kvp:List (ax × V)) (NM:List Str) (e l:Nat) (b:List Stp):Prop where
 st:StandsAt W (bO e b) l
 pt:eV e l b kvp
 fi:bR e b
 nm:gT (fun n=>n∈NM) e b
def PItOk(W:List (List Str))(kvp:List (ax × V))(NM:List Str)(d:Nat):PIt→Prop
 | .ln l=>∃ ws,W[l]? = some ws∧ws.headD "" ∉ (["if", "while"]:List Str)
 | .ite e l n b c=>e<d∧W[l]? = some [("if" : Str),bH n]∧n.natAbs<10 ^ 61∧aM kvp (.inl (l:Int))=some (.int ((l+1+aj e b:Nat):Int))∧aM kvp (.inl ((l+1+aj e b:Nat):Int))=some (.int ((l+1+aj e b+1+aj e c:Nat):Int))∧PtOk W kvp NM e (l+1) b∧PtOk W kvp NM e (l+1+aj e b+1) c
 | .whl e l n b=>e<d∧W[l]? = some [("while" : Str),bH n]∧n.natAbs<10 ^ 61∧aM kvp (.inl (l:Int))=some (.int ((l+1+aj e b:Nat):Int))∧PtOk W kvp NM e (l+1) b
theorem PItOk.up{W:List (List Str)}{kvp:List (ax × V)}{NM:List Str}{d:Nat}:∀ {x:PIt},PItOk W kvp NM d x→PItOk W kvp NM (d+1) x
 | .ln _,h=>h
 | .ite _ _ _ _ _,⟨h,r⟩=>⟨Nat.lt_succ_of_lt h,r⟩
 | .whl _ _ _ _,⟨h,r⟩=>⟨Nat.lt_succ_of_lt h,r⟩
def gK(W:List (List Str))(pt:Nat→Nat)(sl:Str→V)(lent:Nat→V)(l:Nat):List aP:=
 if (W.getD l []).headD "" ∈ (["if", "else", "fi", "while", "done"]:List Str) then [] else fQ W pt (lK W) sl lent l (W.getD l [])
def PIt.rows(kv:List (ax × V))(pl:Nat→List aP)(t:Bool):PIt→List aP
 | .ln l=>pl l
 | .ite e l n b c=>kF (bU kv e) (aj e) t l n b c
 | .whl e l n b=>fe (bU kv e) (aj e) t l n b
section
variable{W:List (List Str)}{kvp:List (ax × V)}{NM:List Str}{kv:List (ax × V)}{pt:Nat→Nat}{sl:Str→V}{lent:Nat→V}
structure FlOk (W:List (List Str)) (kvp:List (ax × V)) (NM:List Str) (kv:List (ax × V)) (pl:Nat→List aP) (t:Bool) (d l h:Nat) (X:List PIt) (R:List aP):Prop where
 ch:Chn l X h
 ok:∀ x∈X,PItOk W kvp NM d x
 rows:X.flatMap (PIt.rows kv pl t)=R
theorem FlOk.app{pl:Nat→List aP}{t:Bool}{d l m h:Nat}{X Y:List PIt}{R S:List aP}(a:FlOk W kvp NM kv pl t d l m X R)(b:FlOk W kvp NM kv pl t d m h Y S):FlOk W kvp NM kv pl t d l h (X++Y) (R++S):=
 ⟨a.ch.app b.ch,fun x hx=>(List.mem_append.mp hx).elim (a.ok x) (b.ok x),by rw[List.flatMap_append,a.rows,b.rows]⟩
theorem FlOk.up{pl:Nat→List aP}{t:Bool}{d l h:Nat}{X:List PIt}{R:List aP}(a:FlOk W kvp NM kv pl t d l h X R):FlOk W kvp NM kv pl t (d+1) l h X R:=⟨a.ch,fun x hx=>(a.ok x hx).up,a.rows⟩
theorem FlOk.line{t:Bool}{d l:Nat}{ws:List Str}{R:List aP}(h:W[l]? = some ws)(hn:ws.headD "" ∉ (["if", "else", "fi", "while", "done"]:List Str)) (hr:fQ W pt (lK W) sl lent l ws=R):FlOk W kvp NM kv (gK W pt sl lent) t d l (l+1) [.ln l] R:=by
 refine⟨Chn.one (.ln l),fun x hx=>?_,?_⟩
 ·rw[List.mem_singleton.mp hx]
  refine⟨ws,h,fun z=>hn ?_⟩
  simp only[List.mem_cons,List.not_mem_nil,or_false]at z ⊢
  exact z.elim (fun z=>.inl z) (fun z=>.inr (.inr (.inr (.inl z))))
 ·show gK W pt sl lent l++[]=R
  have e:W.getD l []=ws:=by rw[List.getD_eq_getElem?_getD,h]; rfl
  unfold gK
  rw[e,if_neg hn,List.append_nil,hr]
theorem zG(I:uQ W kvp NM kv pt sl lent){t:Bool}{d:Nat}(ih:∀ l b,PtOk W kvp NM d l b→FlOk W kvp NM kv (gK W pt sl lent) t d l (l+aj d b) (pM d l b) (bU kv d t l b)) :
  ∀ (s:Stp) (l:Nat),StandsAt W (cW (bO d) s) l→gi (aj d) (eV d) l kvp s→dy (bR d) s→nC (gT (fun n=>n∈NM) d) (fun n=>n∈NM) s→
   FlOk W kvp NM kv (gK W pt sl lent) t (d+1) l (l+aU (aj d) s) (AW (pM d) d l s) (iG kv (bU kv d) (aj d) t l s)
 | .plain ws,l,hS,hp,⟨px,_⟩,⟨_,hn⟩=>FlOk.line (hS 0 ws rfl) (by rcases hG px with h | h | h | h | h <;> rw[h] <;> decide +kernel) (uS I (l:=l) px hn).1
 | .lend x y b,l,hS,⟨p1,p2,p3⟩,⟨_,_,fb⟩,⟨nx,ny,nb⟩=>by
  have hS':StandsAt W ([("lend" : Str),x,y]::(bO d b++[[("back" : Str)]])) l:=hS
  have e0:=hS'.head
  have hb:=hS'.tail.left
  have e1:=hS'.tail.right.head
  rw[cI d b]at e1
  have hpt:=I.hpt _ _ p1
  have ho:(W.getD (pt (l+1+aj d b)) []).getD 2 "" = y:=by rw[hpt,show W.getD l []=[("lend" : Str),x,y] by rw[List.getD_eq_getElem?_getD,e0]; rfl]; rfl
  have a1:FlOk W kvp NM kv (gK W pt sl lent) t (d+1) l (l+1) [.ln l] _:=FlOk.line e0 (by show ¬ ("lend" : Str)∈_; decide +kernel) (kO (fs:=lK W))
  have a2:=(ih (l+1) b ⟨hb,p3,fb,nb⟩).up
  have a3:FlOk W kvp NM kv (gK W pt sl lent) t (d+1) (l+1+aj d b) (l+1+aj d b+1) [.ln (l+1+aj d b)] _:=FlOk.line e1 (by show ¬ ("back" : Str)∈_; decide +kernel) (lA (fs:=lK W))
  rw[ho,I.hl2 _ l x y e1 hpt e0,I.hsl y ny]at a3
  rw[I.hl1 l x y e0,I.hsl x nx,I.hsl y ny]at a1
  have:=(a1.app a2).app a3
  rw[show l+1+aj d b+1=l+(aj d b+2) by omega]at this
  exact this
 | .ite n b c,l,hS,⟨⟨p1,p2⟩,p3,p4⟩,⟨hn,fb,fc⟩,⟨nb,nc⟩=>by
  have hS':StandsAt W ([("if" : Str),bH n]::(bO d b++[[("else" : Str)]]++(bO d c++[[("fi" : Str)]]))) l:=hS
  have e0:=hS'.head
  have hb:=hS'.tail.left.left
  have hc:=hS'.tail.right.left
  have hlen:l+1+(bO d b++[[("else" : Str)]]).length=l+1+aj d b+1:=by rw[List.length_append,cI d b]; rfl
  rw[hlen]at hc
  refine⟨?_,fun x hx=>?_,?_⟩
  ·have:=Chn.one (.ite d l n b c)
   rw[show (PIt.ite d l n b c).en+1=l+(aj d b+aj d c+3) by show l+1+aj d b+1+aj d c+1=_; omega]at this
   exact this
  ·rw[List.mem_singleton.mp hx]
   exact⟨Nat.lt_succ_self d,e0,hn,p1,p2,⟨hb,p3,fb,nb⟩,⟨hc,p4,fc,nc⟩⟩
  ·show kF (bU kv d) (aj d) t l n b c++[]=_
   rw[List.append_nil]; rfl
 | .whl n b,l,hS,⟨⟨p1,p2⟩,p3⟩,⟨hn,fb⟩,nb=>by
  have hS':StandsAt W ([("while" : Str),bH n]::(bO d b++[[("done" : Str)]])) l:=hS
  refine⟨?_,fun x hx=>?_,?_⟩
  ·have:=Chn.one (.whl d l n b)
   rw[show (PIt.whl d l n b).en+1=l+(aj d b+2) by show l+1+aj d b+1=_; omega]at this
   exact this
  ·rw[List.mem_singleton.mp hx]
   exact⟨Nat.lt_succ_self d,hS'.head,hn,p2,⟨hS'.tail.left,p3,fb,nb⟩⟩
  ·show fe (bU kv d) (aj d) t l n b++[]=_
   rw[List.append_nil]; rfl
theorem wn(I:uQ W kvp NM kv pt sl lent){t:Bool}:∀ (d l:Nat) (T:List Stp),PtOk W kvp NM d l T→FlOk W kvp NM kv (gK W pt sl lent) t d l (l+aj d T) (pM d l T) (bU kv d t l T)
 | 0,_,_,h=>h.fi.elim
 | d+1,l,T,h=>by
  have st:=zG I (t:=t) (d:=d) (fun l b h=>wn I d l b h)
  have go:∀ (T:List Stp) (l:Nat),StandsAt W (T.flatMap (cW (bO d))) l→(∀ z∈dA (aU (aj d)) l T,gi (aj d) (eV d) z.1 kvp z.2)→(∀ s∈T,dy (bR d) s)→(∀ s∈T,nC (gT (fun n=>n∈NM) d) (fun n=>n∈NM) s)→
    FlOk W kvp NM kv (gK W pt sl lent) t (d+1) l (l+(T.map (aU (aj d))).sum) (yk (AW (pM d) d) (aU (aj d)) l T) (jF (iG kv (bU kv d) (aj d) t) (aU (aj d)) l T):=fun T=>by
   induction T with
   | nil=>intro l _ _ _ _; exact⟨.nil l,fun x hx=>(by cases hx),rfl⟩
   | cons s T ihT=>
    intro l hS hp hf hn
    rw[List.flatMap_cons]at hS
    have a1:=st s l hS.left (hp _ List.mem_cons_self) (hf s List.mem_cons_self) (hn s List.mem_cons_self)
    have hr:=hS.right
    rw[ib (cI d) s]at hr
    have a2:=ihT (l+aU (aj d) s) hr (fun z hz=>hp z (List.mem_cons_of_mem _ hz)) (fun s hs=>hf s (List.mem_cons_of_mem _ hs)) (fun s hs=>hn s (List.mem_cons_of_mem _ hs))
    have:=a1.app a2
    rw[Nat.add_assoc]at this
    exact this
  exact go T l h.st h.pt h.fi h.nm
theorem tM{X:List (List Str)}{l:Nat}(h:StandsAt W X l):X.length≤W.length:=by
 by_cases c:X.length=0
 ·omega
 ·have:=(List.getElem?_eq_some_iff.mp (h (X.length - 1) X[X.length - 1] (List.getElem?_eq_getElem _))).1
  omega
theorem PtOk.cnt{e l:Nat}{b:List Stp}(h:PtOk W kvp NM e l b):aj e b≤W.length:=by
 rw[← cI]; exact tM h.st
end
def gY(kvp:List (ax × V))(i:Nat):Nat:=match aM kvp (.inl (i:Int)) with
 | some (.int j)=>j.toNat
 | _=>0
theorem oo{kvp:List (ax × V)}{i j:Nat}(h:aM kvp (.inl (i:Int))=some (.int (j:Int))):gY kvp i=j:=by
 unfold gY; rw[h]; exact Int.toNat_natCast _
inductive gu (W:List (List Str)) (kvp kvs:List (ax × V)) (i:Nat):List Str→Prop
 | lend (x y:Str):d_ kvs (.inr x)→d_ kvs (.inr y)→gu W kvp kvs i ["lend", x,y]
 | back (j:Nat) (x y:Str):aM kvp (.inl (i:Int))=some (.int (j:Int))→W[j]? = some [("lend" : Str),x,y]→d_ kvs (.inr y)→gu W kvp kvs i ["back"]
 | test (h:Str) (n:Int) (j:Nat):(h = "if" ∨ h = "while")→n.natAbs<10 ^ 61→aM kvp (.inl (i:Int))=some (.int (j:Int))→j+1≤W.length→gu W kvp kvs i [h,bH n]
 | jump (h:Str) (j:Nat):(h = "else" ∨ h = "done")→aM kvp (.inl (i:Int))=some (.int (j:Int))→j≤W.length→gu W kvp kvs i [h]
 | fi:gu W kvp kvs i ["fi"]
 | doo (u x:Str):d_ kvs (.inr x)→gu W kvp kvs i ["do", u,x]
 | oth (h:Str) (r:List Str):h∉(["lend", "back", "if", "while", "else", "done", "fi", "do"]:List Str)→(∀ n∈r,d_ kvs (.inr n))→r.length≤3→1≤r.length→gu W kvp kvs i (h::r)
def rG(kvs:List (ax × V))(n:Str):V:=aN kvs (.inr n)
theorem xg{W:List (List Str)}{pt fs:Nat→Nat}{sl:Str→V}{lent:Nat→V}{l:Nat}{u x:Str}:fQ W pt fs sl lent l ["do", u,x]=[[.str "do", iN l,sl x,.str u]]:=by
 show eO W pt _ sl lent l "do" _=_
 unfold eO
 rw[if_neg (show ¬ ("do" : Str) = "lend" by decide +kernel),if_neg (show ¬ ("do" : Str) = "back" by decide +kernel),if_neg (show ¬ (("do" : Str) = "if" ∨ ("do" : Str) = "while") by decide +kernel),if_neg (show ¬ ("do" : Str) = "else" by decide +kernel),if_neg (show ¬ ("do" : Str) = "done" by decide +kernel),if_neg (show ¬ ("do" : Str) = "fi" by decide +kernel),if_pos (show ("do" : Str) = "do" from rfl)]; rfl
section
variable{W:List (List Str)}{kvp kvs:List (ax × V)}{NM:List Str}
theorem yw{i:Nat}{ws:List Str}(px:cN ws)(hk:∀ n∈bY ws,d_ kvs (.inr n)):gu W kvp kvs i ws:=by
 cases px with
 | op x=>exact .oth _ _ (by decide +kernel) (fun n hn=>hk n (by unfold bY; rw[if_neg (by show ¬ ("open" : Str) = "do"; decide +kernel)]; exact hn)) (by simp) (by simp)
 | dr x=>exact .oth _ _ (by decide +kernel) (fun n hn=>hk n (by unfold bY; rw[if_neg (by show ¬ ("drop" : Str) = "do"; decide +kernel)]; exact hn)) (by simp) (by simp)
 | cp x y=>exact .oth _ _ (by decide +kernel) (fun n hn=>hk n (by unfold bY; rw[if_neg (by show ¬ ("copy" : Str) = "do"; decide +kernel)]; exact hn)) (by simp) (by simp)
 | ti x y=>exact .oth _ _ (by decide +kernel) (fun n hn=>hk n (by unfold bY; rw[if_neg (by show ¬ ("tie" : Str) = "do"; decide +kernel)]; exact hn)) (by simp) (by simp)
 | dd u x=>exact .doo u x (hk x (by unfold bY; rw[if_pos (by rfl)]; exact List.mem_cons_self))
def LnAll(W:List (List Str))(kvp kvs:List (ax × V))(l:Nat)(X:List (List Str)):Prop:=∀ i ws,X[i]? = some ws→gu W kvp kvs (l+i) ws
theorem LnAll.nil{l:Nat}:LnAll W kvp kvs l []:=fun i ws e=>by simp at e
theorem LnAll.cons{l:Nat}{x:List Str}{X:List (List Str)}(h:gu W kvp kvs l x)(t:LnAll W kvp kvs (l+1) X):LnAll W kvp kvs l (x::X):=fun i ws e=>by
 cases i with
 | zero=>cases e; exact h
 | succ i=>rw[show l+(i+1)=l+1+i by omega]; exact t i ws (by simpa using e)
theorem LnAll.app{l:Nat}{X Y:List (List Str)}(h:LnAll W kvp kvs l X)(t:LnAll W kvp kvs (l+X.length) Y):LnAll W kvp kvs l (X++Y):=fun i ws e=>by
 by_cases hi:i<X.length
 ·rw[List.getElem?_append_left hi]at e; exact h i ws e
 ·rw[List.getElem?_append_right (by omega)]at e
  have:=t (i - X.length) ws e
  rw[show l+X.length+(i - X.length)=l+i by omega]at this; exact this
theorem zB{d:Nat}{fi nm:List Stp→Prop}(hk:∀ n∈NM,d_ kvs (.inr n))(ih:∀ l b,StandsAt W (bO d b) l→eV d l b kvp→fi b→nm b→LnAll W kvp kvs l (bO d b)) :
  ∀ (s:Stp) (l:Nat),StandsAt W (cW (bO d) s) l→gi (aj d) (eV d) l kvp s→dy fi s→nC nm (fun n=>n∈NM) s→LnAll W kvp kvs l (cW (bO d) s)
 | .plain ws,l,hS,hp,⟨px,_⟩,⟨_,hn⟩=>LnAll.cons (yw px fun n z=>hk n (hn n z)) LnAll.nil
 | .lend x y b,l,hS,⟨p1,p2,p3⟩,⟨_,_,fb⟩,⟨nx,ny,nb⟩=>by
  have hS':StandsAt W ([("lend" : Str),x,y]::(bO d b++[[("back" : Str)]])) l:=hS
  refine LnAll.cons (.lend x y (hk x nx) (hk y ny)) ((ih _ b hS'.tail.left p3 fb nb).app (LnAll.cons ?_ LnAll.nil))
  rw[cI]
  exact .back l x y p1 hS'.head (hk y ny)
 | .ite n b c,l,hS,⟨⟨p1,p2⟩,p3,p4⟩,⟨hn,fb,fc⟩,⟨nb,nc⟩=>by
  have hS':StandsAt W ([("if" : Str),bH n]::(bO d b++[[("else" : Str)]]++(bO d c++[[("fi" : Str)]]))) l:=hS
  have hlen:l+1+(bO d b++[[("else" : Str)]]).length=l+1+aj d b+1:=by rw[List.length_append,cI]; rfl
  have e1:=hS'.tail.left.right.head
  rw[cI]at e1
  have hc:=hS'.tail.right.left
  have e2:=hS'.tail.right.right.head
  rw[hlen]at hc e2
  rw[cI]at e2
  have l1:=(List.getElem?_eq_some_iff.mp e1).1
  have l2:=(List.getElem?_eq_some_iff.mp e2).1
  refine LnAll.cons (.test "if" n _ (.inl rfl) hn p1 (by omega)) (((ih _ b hS'.tail.left.left p3 fb nb).app (LnAll.cons ?_ LnAll.nil)).app ?_)
  ·rw[cI]; exact .jump "else" _ (.inl rfl) p2 (by omega)
  ·rw[hlen]
   exact(ih _ c hc p4 fc nc).app (LnAll.cons .fi LnAll.nil)
 | .whl n b,l,hS,⟨⟨p1,p2⟩,p3⟩,⟨hn,fb⟩,nb=>by
  have hS':StandsAt W ([("while" : Str),bH n]::(bO d b++[[("done" : Str)]])) l:=hS
  have e1:=hS'.tail.right.head
  rw[cI]at e1
  have l1:=(List.getElem?_eq_some_iff.mp e1).1
  refine LnAll.cons (.test "while" n _ (.inr rfl) hn p2 (by omega)) ((ih _ b hS'.tail.left p3 fb nb).app (LnAll.cons ?_ LnAll.nil))
  rw[cI]; exact .jump "done" _ (.inr rfl) p1 (by omega)
theorem wf(hk:∀ n∈NM,d_ kvs (.inr n)):∀ (d l:Nat) (T:List Stp),StandsAt W (bO d T) l→eV d l T kvp→bR d T→gT (fun n=>n∈NM) d T→LnAll W kvp kvs l (bO d T)
 | 0,_,_,_,_,h,_=>h.elim
 | d+1,l,T,hS,hp,hf,hn=>by
  have st:=zB (W:=W) (kvp:=kvp) (kvs:=kvs) (NM:=NM) (d:=d) (fi:=bR d) (nm:=gT (fun n=>n∈NM) d) hk (fun l b h1 h2 h3 h4=>wf hk d l b h1 h2 h3 h4)
  have go:∀ (T:List Stp) (l:Nat),StandsAt W (T.flatMap (cW (bO d))) l→(∀ z∈dA (aU (aj d)) l T,gi (aj d) (eV d) z.1 kvp z.2)→(∀ s∈T,dy (bR d) s)→(∀ s∈T,nC (gT (fun n=>n∈NM) d) (fun n=>n∈NM) s)→LnAll W kvp kvs l (T.flatMap (cW (bO d))):=fun T=>by
   induction T with
   | nil=>intro l _ _ _ _; exact LnAll.nil
   | cons s T ihT=>
    intro l hS hp hf hn
    rw[List.flatMap_cons]at hS ⊢
    have hr:=hS.right
    refine(st s l hS.left (hp _ List.mem_cons_self) (hf s List.mem_cons_self) (hn s List.mem_cons_self)).app ?_
    rw[ib (cI d) s]at hr ⊢
    exact ihT _ hr (fun z hz=>hp z (List.mem_cons_of_mem _ hz)) (fun s hs=>hf s (List.mem_cons_of_mem _ hs)) (fun s hs=>hn s (List.mem_cons_of_mem _ hs))
  exact go T l hS hp hf hn
end
theorem jz{l:List Str}{n:Str}(h:n∈l):n∈cQ l:=by
 unfold cQ
 have go:∀ (l acc:List Str),n∈acc∨n∈l→n∈l.foldl eT acc:=fun l=>by
  induction l with
  | nil=>intro acc h; exact h.elim id (fun z=>by cases z)
  | cons x l ih=>
   intro acc h
   refine ih _ ?_
   unfold eT
   rcases h with h | h
   ·left; split
    ·exact h
    ·exact List.mem_append_left _ h
   ·rcases List.mem_cons.mp h with rfl | h
    ·left; split
     ·assumption
     ·exact List.mem_append_right _ List.mem_cons_self
    ·exact .inr h
 exact go l [] (.inr h)
def eK(NM:List Str)(W:List (List Str))(pt:Nat→Nat)(i:Nat):Nat:=
 if W.getD i []=[("back" : Str)] then NM.length+(cu W).idxOf (pt i) else if i∈cu W then NM.length+(cu W).idxOf i else 0
theorem zK{d:Nat}{T:List Stp}(hf:bR d T):uQ (bO d T) (gB (bO d T)) (cQ ((bQ d T).flatMap bo)) (fP (ce (cQ ((bQ d T).flatMap bo)) (b5 d T))) (gY (gB (bO d T))) (rG (cx ((bO d T).flatMap a_) [])) (fun i=>iN (eK (cQ ((bQ d T).flatMap bo)) (bO d T) (gY (gB (bO d T))) i)):=by
 generalize hNM:cQ ((bQ d T).flatMap bo)=NM
 have hnd:NM.Nodup:=by rw[← hNM]; exact v1 _
 have hst:StandsAt (bO d T) (bO d T) 0:=fun i ws e=>by rw[Nat.zero_add]; exact e
 have hpt:=(gS d 0 T ⟨[],[]⟩ (iJ hf)).2
 have hnm:gT (fun n=>n∈NM) d T:=jc d T (gP hf) fun n hn=>by
  rw[← hNM]; exact jz hn
 have hle:dG (b5 d T)=cu (bO d T):=by rw[uE]; exact wW (ul hf) (qF hf)
 have hsd:=nZ ((bO d T).flatMap a_)
 rw[gE d T hf,hNM]at hsd
 have mem:∀ (l:Nat) (x y:Str),(bO d T)[l]? = some [("lend" : Str),x,y]→l∈cu (bO d T):=fun l x y e=>by
  unfold cu
  rw[List.mem_filter]
  refine⟨List.mem_range.mpr (List.getElem?_eq_some_iff.mp e).1,?_⟩
  rw[List.getD_eq_getElem?_getD,e]; rfl
 refine⟨fun i j h=>oo h,fun n hn=>?_,fun l x y e=>?_,fun i j x y e h1 h2=>?_⟩
 ·rw[wm hnd hn]
  unfold rG aN
  rw[gE d T hf,hsd.2 n,if_pos hn]; rfl
 ·have hm:=mem l x y e
  rw[mG hnd (by rw[hle]; exact hm),hle]
  show iN (eK NM _ _ l)=_
  unfold eK
  rw[if_neg (by rw[List.getD_eq_getElem?_getD,e]; simp),if_pos hm]
 ·have hm:=mem j x y h2
  rw[mG hnd (by rw[hle]; exact hm),hle]
  show iN (eK NM _ _ i)=_
  unfold eK
  rw[if_pos (by rw[List.getD_eq_getElem?_getD,e]; rfl),h1]
theorem vd{W:List (List Str)}{pt fs:Nat→Nat}{sl:Str→V}{lent:Nat→V}{i:Nat}{h:Str}{ws:List Str}:(eO W pt fs sl lent i h ws).length≤3:=by
 unfold eO
 repeat' split
 all_goals simp
theorem lI{α β : Type}[BEq α][LawfulBEq α][BEq β][LawfulBEq β](f:α→β)(hf:∀ a b,f a=f b→a=b)(x:α):∀ (l:List α),(l.map f).idxOf (f x)=l.idxOf x
 | []=>rfl
 | y::l=>by
  rw[List.map_cons,List.idxOf_cons,List.idxOf_cons,lI f hf x l]
  by_cases h:y=x
  ·subst h; simp
  ·have h2:¬ f y=f x:=fun z=>h (hf _ _ z)
   rw[beq_eq_false_iff_ne.mpr h,beq_eq_false_iff_ne.mpr h2]
def oI(n:Nat):Option Int:=some (n:Int)
theorem v0(a b:Nat)(h:oI a=oI b):a=b:=by have:=Option.some.inj h; omega
section
variable{P:Program}{w:World}{K:PySem.W.Frag}{mg:Str→Option Value}{base:Heap}
def pF(NM:List Str):Sp:=fun vs H Q _=>∃ (i:Nat) (lp pp sd L:Addr) (W:List (List Str)) (kvp kvs:List (ax × V)) (ws:List Str),vs=[.int (i:Int),.ref lp,.ref pp,.ref sd,.ref L]∧yP H lp W∧og W∧H pp=some (.dK kvp)∧H sd=some (.dK kvs)∧H L=some (.lst ((cu W).map iN))∧kvs.length=NM.length∧W[i]? = some ws∧gu W kvp kvs i ws∧
 ∀ (q:Addr) (H':Hp),Same H H'→H q=none→ListR H' q (gK W (gY kvp) (rG kvs) (fun i=>iN (eK NM W (gY kvp) i)) i)→Q (.ref q) H'
theorem vD{NM:List Str}(D:DefAt K mg "_law_plain" aR) (z_len:mg "len" = none) (z_tuple:mg "tuple" = none):bg P w K mg base 1 "_law_plain" ["_law_at", "_law_lines", "_law_partner", "_law_slots_here", "_law_lends"] (pF NM):=by
 refine D.cal (k:=0) sc_law_plain (fun _ _ _ _ _ _ us hl=>match us,hl with | [_,_,_,_,_],_=>rfl) (fun vs H Q E h=>by obtain⟨_,_,_,_,_,_,_,_,_,rfl,_⟩:=h; rfl) (fun f cdv A outer s H vs Q E hr h=>?_)
 obtain⟨i,lp,pp,sd,L,W,kvp,kvs,ws,rfl,hlp,ok,hpp,hsd,hL,hkl,hwi,hln,q⟩:=h
 refine⟨_,(ae (ar 5 sc_law_plain.nd (aI K PySem.F.plainAttrs_str PySem.F.slot_str_split PySem.F.type_str_split fH (ay (aW K) (pv 1 (hv:=A5)) (pv 0 (hv:=fZ)) (fun _ _=>rfl)) (aa al ab)) (hx:=FO))
   (ae (bN (aG b8 (ay (aW K) (pv 5 (hv:=g_)) ai (fun _ _=>rfl)) al (bc _)) (ae (ar 6 sc_law_plain.nd (ao aw (aY jr z_len bw (aa (pv 3 (hv:=lH)) ab) (hg:=Bf)) (aI K PySem.F.plainAttrs_list PySem.F.slot_list_index PySem.F.type_list_index (my K) (pv 4 (hv:=Bb)) (aa (pv 0 (hv:=fZ)) ab))) (hx:=BG))
   (ak (aF (bi (aa (bb (aa al (aa (pv 0 (hv:=fZ)) (aa (pv 6 (hv:=pe)) (aa (ay (fg K) (pv 3 (hv:=lH)) (ay (aW K) (pv 5 (hv:=g_)) ai (fun _ _=>rfl)) (fun _ _=>rfl)) ab))))) (aa (bb (aa al (aa (pv 0 (hv:=fZ)) (aa (pv 6 (hv:=pe)) (aa al ab))))) (aa (bb (aa al (aa (pv 0 (hv:=fZ)) (aa (ay (fg K) (pv 3 (hv:=lH)) (ay (aW K) (pv 5 (hv:=g_)) ai (fun _ _=>rfl)) (fun _ _=>rfl)) (aa (pv 6 (hv:=pe)) ab))))) ab))))))) bB)
   (ae (bN (aG b8 (ay (aW K) (pv 5 (hv:=g_)) ai (fun _ _=>rfl)) al (bc _)) (ae (ar 6 sc_law_plain.nd (ao aw (aY jr z_len bw (aa (pv 3 (hv:=lH)) ab) (hg:=Bf)) (aI K PySem.F.plainAttrs_list PySem.F.slot_list_index PySem.F.type_list_index (my K) (pv 4 (hv:=Bb)) (aa (ay (fg K) (pv 2 (hv:=AF)) (pv 0 (hv:=fZ)) (fun _ _=>rfl)) ab))) (hx:=BG))
   (ae (ar 7 sc_law_plain.nd (ay (fg K) (pv 3 (hv:=lH)) (ay (aW K) (aI K PySem.F.plainAttrs_str PySem.F.slot_str_split PySem.F.type_str_split fH (ay (aW K) (pv 1 (hv:=A5)) (ay (fg K) (pv 2 (hv:=AF)) (pv 0 (hv:=fZ)) (fun _ _=>rfl)) (fun _ _=>rfl)) (aa al ab)) ai (fun _ _=>rfl)) (fun _ _=>rfl)) (hx:=Dn))
   (ak (aF (bi (aa (bb (aa al (aa (pv 0 (hv:=fZ)) (aa (pv 6 (hv:=pe)) (aa al ab))))) (aa (bb (aa al (aa (pv 0 (hv:=fZ)) (aa (pv 7 (hv:=Ea)) ab)))) (aa (bb (aa al (aa (pv 0 (hv:=fZ)) (aa (pv 6 (hv:=pe)) ab)))) ab)))))))) bB)
   (ae (bN (aG b8 (ay (aW K) (pv 5 (hv:=g_)) ai (fun _ _=>rfl)) al (bc _)) (ak (aF (bi (aa (bb (aa al (aa (pv 0 (hv:=fZ)) (aa (ay (fg K) (pv 3 (hv:=lH)) (ay (aW K) (pv 5 (hv:=g_)) ai (fun _ _=>rfl)) (fun _ _=>rfl)) (aa (ay (aW K) (pv 5 (hv:=g_)) ai (fun _ _=>rfl)) ab))))) ab)))) bB)
   (ae (bN (aG (jo K) (ay (aW K) (pv 5 (hv:=g_)) ai (fun _ _=>rfl)) (bi (aa al (aa al (aa al (aa al (aa al ab)))))) (by with_unfolding_all rfl)) (ak (aF (bi ab))) bB)
   (ak (aF (bi (aa (ao (kq K) (bb (aa (ay (aW K) (pv 5 (hv:=g_)) ai (fun _ _=>rfl)) (aa (pv 0 (hv:=fZ)) ab))) (ef (mH K) z_tuple j6 (aa (fJ (CompSc.to (fsc:=(defScope aR)) (N:=["_law_at", "_law_lines", "_law_partner", "_law_slots_here", "_law_lends", "_law_words", "_law_lent", "_law_other"]) (N0:=["_law_at", "_law_lines", "_law_partner", "_law_slots_here", "_law_lends", "_law_words", "_law_lent", "_law_other"]) (T:=["_law_name"]) ⟨by decide +kernel,by decide +kernel,by decide +kernel,by decide +kernel,by decide +kernel,by decide +kernel,by decide +kernel⟩ rfl rfl) rfl (dz K (cj (gM K) (pv 5 (hv:=g_)) (cr ai) cV)) (fun _ _ _ _=>(bj 8 (show (["_law_at", "_law_lines", "_law_partner", "_law_slots_here", "_law_lends", "_law_words", "_law_lent", "_law_other", "_law_name"]:List Str).Nodup from by decide +kernel) (hx:=(iA (defScope aR) (by decide +kernel))) (hf:=lx (defScope aR) (by decide +kernel)))) (dN (show (["_law_at", "_law_lines", "_law_partner", "_law_slots_here", "_law_lends", "_law_words", "_law_lent", "_law_other"]:List Str).length≤8 from by decide)) (fun _ _ _ _=>gN) (fun _ _ _ _=>(ay (fg K) (pv 3 (hv:=(de (defScope aR) (by decide +kernel)))) (pv 8 (hv:=(de (defScope aR) (by decide +kernel)))) (fun _ _=>rfl)))) ab) (hg:=FM))) ab))))))))),?_⟩
 have hwm:=List.mem_of_getElem? hwi
 have hz:=ok.sz ws hwm
 have ho:=ok.ok ws hwm
 have hgd:W.getD i []=ws:=by rw[List.getD_eq_getElem?_getD,hwi]; rfl
 have hpl:gK W (gY kvp) (rG kvs) (fun i=>iN (eK NM W (gY kvp) i)) i=if ws.headD "" ∈ (["if", "else", "fi", "while", "done"]:List Str) then [] else fQ W (gY kvp) (lK W) (rG kvs) (fun i=>iN (eK NM W (gY kvp) i)) i ws:=by unfold gK; rw[hgd]
 have hlm:∀ {j:Nat} {x y:Str},W[j]? = some [("lend" : Str),x,y]→j∈cu W:=fun {j x y} e=>by
  unfold cu
  rw[List.mem_filter]
  refine⟨List.mem_range.mpr (List.getElem?_eq_some_iff.mp e).1,?_⟩
  rw[List.getD_eq_getElem?_getD,e]; rfl
 have hat:di ((W.map (Txt.join " ")).map V.str) (i:Int)=some (.str (Txt.join " " ws)):=bu (by rw[List.getElem?_map,List.getElem?_map,hwi]; rfl)
 walk_at "rd1"
 refine⟨_,_,.inl (SqL.of hlp),hat,?_⟩
 walk_at "rd1"
 refine⟨by decide,by omega,fun wq hwq=>?_⟩
 rw[ho.split]
 have s1:=af hwq (.lst (ws.map V.str))
 have e1:upd H wq (.lst (ws.map V.str)) wq=some (.lst (ws.map V.str)):=ac
 generalize upd H wq (.lst (ws.map V.str))=H1 at s1 e1 ⊢
 walk_at "nx"
 cases hln with
 | lend x y hx hy=>
  have hm:=hlm hwi
  have hlt:eK NM W (gY kvp) i=kvs.length+(cu W).idxOf i:=by
   unfold eK
   rw[if_neg (by rw[hgd]; simp),if_pos hm,hkl]
  refine⟨_,_,.inl (SqL.of e1),cM,?_⟩
  walk_at "rd1"
  refine⟨_,_,rfl,s1 _ _ hsd,⟨_,SqL.of (s1 _ _ hL)⟩,L,(cu W).map oI,oI i,rfl,rfl,SqL.of (by rw[List.map_map]; exact s1 _ _ hL),List.mem_map.mpr ⟨i,hm,rfl⟩,?_⟩
  rw[lI oI v0]
  walk_at "rd1"
  walk_at "nx"
  refine⟨_,_,.inl (SqL.of e1),bu (j:=1) (v:=.str x) rfl,.inr ⟨sd,kvs,.inr x,_,rfl,rfl,s1 _ _ hsd,hx,?_⟩⟩
  refine⟨by decide,fun t1 ht1=>?_⟩
  generalize hT1:upd H1 t1 _=T1
  have sT1:Same H1 T1:=by rw[← hT1]; exact af ht1 _
  have r1:bf T1 t1 [.str "copy", iN i,iN (kvs.length+(cu W).idxOf i),aN kvs (.inr x)]:=by show T1 t1=_; rw[← hT1]; exact ac
  refine⟨by decide,fun t2 ht2=>?_⟩
  generalize hT2:upd T1 t2 _=T2
  have sT2:Same T1 T2:=by rw[← hT2]; exact af ht2 _
  have r2:bf T2 t2 [.str "do", iN i,iN (kvs.length+(cu W).idxOf i),.str "lend"]:=by show T2 t2=_; rw[← hT2]; exact ac
  have s12:=sT1.trans sT2
  refine⟨_,_,.inl (SqL.of (s12 _ _ e1)),bu (j:=2) (v:=.str y) rfl,.inr ⟨sd,kvs,.inr y,_,rfl,rfl,s12 _ _ (s1 _ _ hsd),hy,?_⟩⟩
  refine⟨by decide,fun t3 ht3=>?_⟩
  generalize hT3:upd T2 t3 _=T3
  have sT3:Same T2 T3:=by rw[← hT3]; exact af ht3 _
  have r3:bf T3 t3 [.str "copy", iN i,aN kvs (.inr y),iN (kvs.length+(cu W).idxOf i)]:=by show T3 t3=_; rw[← hT3]; exact ac
  refine⟨by decide,fun m1 hm1=>?_⟩
  have s03:=(s1.trans s12).trans sT3
  refine q m1 _ (s03.trans (af hm1 _)) (s03.free hm1) ?_
  rw[hpl,if_neg (by show ¬ ("lend" : Str)∈_; decide +kernel),kO,hlt]
  exact ga (sT3 _ _ (sT2 _ _ r1)) (sT3 _ _ r2) r3 hm1
 | back j x y hj hwj hy=>
  have hm:=hlm hwj
  have hlt:eK NM W (gY kvp) i=kvs.length+(cu W).idxOf j:=by
   unfold eK
   rw[if_pos (by rw[hgd]),oo hj,hkl]
  have hwm2:=List.mem_of_getElem? hwj
  have hz2:=ok.sz _ hwm2
  have ho2:=ok.ok _ hwm2
  have hat2:di ((W.map (Txt.join " ")).map V.str) (j:Int)=some (.str (Txt.join " " ["lend", x,y])):=bu (by rw[List.getElem?_map,List.getElem?_map,hwj]; rfl)
  refine⟨_,_,.inl (SqL.of e1),cM,?_⟩
  walk_at "rd1"
  rw[if_neg (by decide +kernel)]
  walk_at "nx"
  refine⟨_,_,.inl (SqL.of e1),cM,?_⟩
  walk_at "rd1"
  refine⟨_,_,rfl,s1 _ _ hsd,⟨_,SqL.of (s1 _ _ hL)⟩,.inr ⟨pp,_,.inl (i:Int),_,rfl,rfl,s1 _ _ hpp,hj,?_⟩⟩
  refine⟨L,(cu W).map oI,oI j,rfl,rfl,SqL.of (by rw[List.map_map]; exact s1 _ _ hL),List.mem_map.mpr ⟨j,hm,rfl⟩,?_⟩
  rw[lI oI v0]
  walk_at "rd1"
  walk_at "nx"
  refine .inr ⟨pp,kvp,.inl (i:Int),_,rfl,rfl,s1 _ _ hpp,hj,?_⟩
  refine⟨_,_,.inl (SqL.of (s1 _ _ hlp)),hat2,?_⟩
  walk_at "rd1"
  refine⟨by decide,by omega,fun w2 hw2=>?_⟩
  rw[ho2.split]
  have s2:=af hw2 (.lst ([("lend" : Str),x,y].map V.str))
  have e2:upd H1 w2 (.lst ([("lend" : Str),x,y].map V.str)) w2=some (.lst ([("lend" : Str),x,y].map V.str)):=ac
  generalize upd H1 w2 (.lst ([("lend" : Str),x,y].map V.str))=H2 at s2 e2 ⊢
  have s12:=s1.trans s2
  refine⟨_,_,.inl (SqL.of e2),bu (j:=2) (v:=.str y) rfl,.inr ⟨sd,kvs,.inr y,_,rfl,rfl,s12 _ _ hsd,hy,?_⟩⟩
  walk_at "nx"
  refine⟨by decide,fun t1 ht1=>?_⟩
  generalize hT1:upd H2 t1 _=T1
  have sT1:Same H2 T1:=by rw[← hT1]; exact af ht1 _
  have r1:bf T1 t1 [.str "do", iN i,iN (kvs.length+(cu W).idxOf j),.str "back"]:=by show T1 t1=_; rw[← hT1]; exact ac
  refine⟨by decide,fun t2 ht2=>?_⟩
  generalize hT2:upd T1 t2 _=T2
  have sT2:Same T1 T2:=by rw[← hT2]; exact af ht2 _
  have r2:bf T2 t2 [.str "drop", iN i,aN kvs (.inr y)]:=by show T2 t2=_; rw[← hT2]; exact ac
  refine⟨by decide,fun t3 ht3=>?_⟩
  generalize hT3:upd T2 t3 _=T3
  have sT3:Same T2 T3:=by rw[← hT3]; exact af ht3 _
  have r3:bf T3 t3 [.str "drop", iN i,iN (kvs.length+(cu W).idxOf j)]:=by show T3 t3=_; rw[← hT3]; exact ac
  refine⟨by decide,fun m1 hm1=>?_⟩
  have s03:=((s12.trans sT1).trans sT2).trans sT3
  refine q m1 _ (s03.trans (af hm1 _)) (s03.free hm1) ?_
  rw[hpl,if_neg (by show ¬ ("back" : Str)∈_; decide +kernel),lA,oo hj,show W.getD j []=[("lend" : Str),x,y] by rw[List.getD_eq_getElem?_getD,hwj]; rfl,hlt]
  exact ga (sT3 _ _ (sT2 _ _ r1)) (sT3 _ _ r2) r3 hm1
 | test h n j hh hn hj hjl=>
  have n1:¬ h = "lend" := by rcases hh with rfl | rfl <;> decide +kernel
  have n2:¬ h = "back" := by rcases hh with rfl | rfl <;> decide +kernel
  have n3:¬ h = "do" := by rcases hh with rfl | rfl <;> decide +kernel
  have hi:h∈(["if", "else", "fi", "while", "done"]:List Str):=by rcases hh with rfl | rfl <;> decide +kernel
  refine⟨_,_,.inl (SqL.of e1),cM,?_⟩
  walk_at "rd1"
  rw[if_neg n1]
  walk_at "nx"
  refine⟨_,_,.inl (SqL.of e1),cM,?_⟩
  walk_at "rd1"
  rw[if_neg n2]
  walk_at "nx"
  refine⟨_,_,.inl (SqL.of e1),cM,?_⟩
  walk_at "rd1"
  rw[if_neg n3]
  walk_at "nx"
  refine⟨_,_,.inl (SqL.of e1),cM,by decide,fun cl hcl=>?_⟩
  have s2:=af hcl (.lst [V.str "if", V.str "else", V.str "fi", V.str "while", V.str "done"])
  have e2:upd H1 cl (.lst [V.str "if", V.str "else", V.str "fi", V.str "while", V.str "done"]) cl=some (.lst ((["if", "else", "fi", "while", "done"]:List Str).map V.str)):=ac
  generalize upd H1 cl (.lst [V.str "if", V.str "else", V.str "fi", V.str "while", V.str "done"])=H2 at s2 e2 ⊢
  refine⟨_,.inl (SqL.of e2),rfl,rfl,?_⟩
  rw[e_]
  rw[if_pos (decide_eq_true hi)]
  have s12:=s1.trans s2
  have e1':=s2 _ _ e1
  walk_at "rd1"
  refine⟨by decide,fun m1 hm1=>?_⟩
  refine q m1 _ (s12.trans (af hm1 _)) (s12.free hm1) ?_
  rw[hpl,if_pos (by exact hi)]
  exact⟨[],ac,.nil⟩
 | jump h j hh hj hjl=>
  have n1:¬ h = "lend" := by rcases hh with rfl | rfl <;> decide +kernel
  have n2:¬ h = "back" := by rcases hh with rfl | rfl <;> decide +kernel
  have n3:¬ h = "do" := by rcases hh with rfl | rfl <;> decide +kernel
  have hi:h∈(["if", "else", "fi", "while", "done"]:List Str):=by rcases hh with rfl | rfl <;> decide +kernel
  refine⟨_,_,.inl (SqL.of e1),cM,?_⟩
  walk_at "rd1"
  rw[if_neg n1]
  walk_at "nx"
  refine⟨_,_,.inl (SqL.of e1),cM,?_⟩
  walk_at "rd1"
  rw[if_neg n2]
  walk_at "nx"
  refine⟨_,_,.inl (SqL.of e1),cM,?_⟩
  walk_at "rd1"
  rw[if_neg n3]
  walk_at "nx"
  refine⟨_,_,.inl (SqL.of e1),cM,by decide,fun cl hcl=>?_⟩
  have s2:=af hcl (.lst [V.str "if", V.str "else", V.str "fi", V.str "while", V.str "done"])
  have e2:upd H1 cl (.lst [V.str "if", V.str "else", V.str "fi", V.str "while", V.str "done"]) cl=some (.lst ((["if", "else", "fi", "while", "done"]:List Str).map V.str)):=ac
  generalize upd H1 cl (.lst [V.str "if", V.str "else", V.str "fi", V.str "while", V.str "done"])=H2 at s2 e2 ⊢
  refine⟨_,.inl (SqL.of e2),rfl,rfl,?_⟩
  rw[e_]
  rw[if_pos (decide_eq_true hi)]
  have s12:=s1.trans s2
  have e1':=s2 _ _ e1
  walk_at "rd1"
  refine⟨by decide,fun m1 hm1=>?_⟩
  refine q m1 _ (s12.trans (af hm1 _)) (s12.free hm1) ?_
  rw[hpl,if_pos (by exact hi)]
  exact⟨[],ac,.nil⟩
 | fi=>
  have hi:("fi" : Str)∈(["if", "else", "fi", "while", "done"]:List Str):=by decide +kernel
  refine⟨_,_,.inl (SqL.of e1),cM,?_⟩
  walk_at "rd1"
  rw[if_neg (by decide +kernel)]
  walk_at "nx"
  refine⟨_,_,.inl (SqL.of e1),cM,?_⟩
  walk_at "rd1"
  rw[if_neg (by decide +kernel)]
  walk_at "nx"
  refine⟨_,_,.inl (SqL.of e1),cM,?_⟩
  walk_at "rd1"
  rw[if_neg (by decide +kernel)]
  walk_at "nx"
  refine⟨_,_,.inl (SqL.of e1),cM,by decide,fun cl hcl=>?_⟩
  have s2:=af hcl (.lst [V.str "if", V.str "else", V.str "fi", V.str "while", V.str "done"])
  have e2:upd H1 cl (.lst [V.str "if", V.str "else", V.str "fi", V.str "while", V.str "done"]) cl=some (.lst ((["if", "else", "fi", "while", "done"]:List Str).map V.str)):=ac
  generalize upd H1 cl (.lst [V.str "if", V.str "else", V.str "fi", V.str "while", V.str "done"])=H2 at s2 e2 ⊢
  refine⟨_,.inl (SqL.of e2),rfl,rfl,?_⟩
  rw[e_]
  rw[if_pos (decide_eq_true hi)]
  have s12:=s1.trans s2
  have e1':=s2 _ _ e1
  walk_at "rd1"
  refine⟨by decide,fun m1 hm1=>?_⟩
  refine q m1 _ (s12.trans (af hm1 _)) (s12.free hm1) ?_
  rw[hpl,if_pos (by exact hi)]
  exact⟨[],ac,.nil⟩
 | doo u x hx=>
  refine⟨_,_,.inl (SqL.of e1),cM,?_⟩
  walk_at "rd1"
  rw[if_neg (by decide +kernel)]
  walk_at "nx"
  refine⟨_,_,.inl (SqL.of e1),cM,?_⟩
  walk_at "rd1"
  rw[if_neg (by decide +kernel)]
  walk_at "nx"
  refine⟨_,_,.inl (SqL.of e1),cM,?_⟩
  walk_at "rd1"
  refine⟨_,_,.inl (SqL.of e1),bu (j:=2) (v:=.str x) rfl,.inr ⟨sd,kvs,.inr x,_,rfl,rfl,s1 _ _ hsd,hx,?_⟩⟩
  refine⟨_,_,.inl (SqL.of e1),bu (j:=1) (v:=.str u) rfl,?_⟩
  refine⟨by decide,fun t1 ht1=>?_⟩
  generalize hT1:upd H1 t1 _=T1
  have sT1:Same H1 T1:=by rw[← hT1]; exact af ht1 _
  have r1:bf T1 t1 [.str "do", iN i,aN kvs (.inr x),.str u]:=by show T1 t1=_; rw[← hT1]; exact ac
  refine⟨by decide,fun m1 hm1=>?_⟩
  have s03:=s1.trans sT1
  refine q m1 _ (s03.trans (af hm1 _)) (s03.free hm1) ?_
  rw[hpl,if_neg (by show ¬ ("do" : Str)∈_; decide +kernel),xg]
  exact eQ r1 hm1
 | oth h r hh hr' hrl hr1=>
  have hh':=hh
  simp only[List.mem_cons,List.not_mem_nil,or_false,not_or]at hh
  obtain⟨h1,h2,h3,h4,h5,h6,h7,h8⟩:=hh
  have hni:h∉(["if", "else", "fi", "while", "done"]:List Str):=by
   simp only[List.mem_cons,List.not_mem_nil,or_false,not_or]
   exact⟨h3,h5,h7,h4,h6⟩
  refine⟨_,_,.inl (SqL.of e1),cM,?_⟩
  walk_at "rd1"
  rw[if_neg h1]
  walk_at "nx"
  refine⟨_,_,.inl (SqL.of e1),cM,?_⟩
  walk_at "rd1"
  rw[if_neg h2]
  walk_at "nx"
  refine⟨_,_,.inl (SqL.of e1),cM,?_⟩
  walk_at "rd1"
  rw[if_neg h8]
  walk_at "nx"
  refine⟨_,_,.inl (SqL.of e1),cM,by decide,fun cl hcl=>?_⟩
  have s2:=af hcl (.lst [V.str "if", V.str "else", V.str "fi", V.str "while", V.str "done"])
  have e2:upd H1 cl (.lst [V.str "if", V.str "else", V.str "fi", V.str "while", V.str "done"]) cl=some (.lst ((["if", "else", "fi", "while", "done"]:List Str).map V.str)):=ac
  generalize upd H1 cl (.lst [V.str "if", V.str "else", V.str "fi", V.str "while", V.str "done"])=H2 at s2 e2 ⊢
  refine⟨_,.inl (SqL.of e2),rfl,rfl,?_⟩
  rw[e_]
  rw[if_neg (fun z=>hni (of_decide_eq_true z))]
  walk_at "nx"
  have s12:=s1.trans s2
  have e1':=s2 _ _ e1
  refine⟨_,_,.inl (SqL.of e1'),cM,by decide,fun t1 ht1=>?_⟩
  generalize hT1:upd H2 t1 _=T1
  have sT1:Same H2 T1:=by rw[← hT1]; exact af ht1 _
  have r1:T1 t1=some (.tup [.str h,iN i]):=by rw[← hT1]; exact ac
  refine⟨_,SqL.of (sT1 _ _ e1'),fun cq hcq=>?_⟩
  rw[show (some (1:Int))=some ((1:Nat):Int) from rfl,fm,show List.drop 1 ((h::r).map V.str)=r.map V.str from rfl]
  have s3:=af hcq (.lst (r.map V.str))
  have e3:upd T1 cq (.lst (r.map V.str)) cq=some (.lst (r.map V.str)):=ac
  generalize upd T1 cq (.lst (r.map V.str))=H3 at s3 e3 ⊢
  refine⟨⟨_,SqL.of e3⟩,fun L hL=>?_⟩
  have esd:=(s12.trans (sT1.trans s3)) _ _ hsd
  refine uw (xs:=r.map V.str) (fun i ys H'=>Same H3 H'∧H' L=some (.lst ys)∧ys=(r.take i).map fun n=>aN kvs (.inr n)) ⟨af hL _,ac,rfl⟩ (fun i ys H' _ hh=>SqL.of (hh.1 _ _ e3)) ?_ ?_
  ·rintro k ys H' v hv hi ⟨sm,hl,rfl⟩
   rw[List.length_map]at hi
   rw[List.getElem?_map,List.getElem?_eq_getElem hi]at hv
   cases hv
   have hn:=hr' _ (List.getElem_mem hi)
   walk_at "rd1"
   refine .inr ⟨sd,kvs,.inr r[k],_,rfl,rfl,sm _ _ esd,hn,?_⟩
   refine kH (by rw[List.length_map]; exact hi) (by rw[List.length_map,List.length_take]; omega) (by rw[List.length_map]; exact aS (by omega)) hl ⟨sm.upd hL _,ac,?_⟩
   rw[List.take_add_one,List.getElem?_eq_getElem hi,List.map_append]; rfl
  ·rintro ys H4 ⟨s4,e4,rfl⟩
   rw[List.length_map,List.take_length]at e4
   walk_at "rd1"
   refine⟨_,.inl ⟨SqL.of e4,fun t2 ht2=>?_⟩⟩
   have s5:=af ht2 (.tup (r.map fun n=>aN kvs (.inr n)))
   have et2:upd H4 t2 (.tup (r.map fun n=>aN kvs (.inr n))) t2=some (.tup (r.map fun n=>aN kvs (.inr n))):=ac
   generalize upd H4 t2 (.tup (r.map fun n=>aN kvs (.inr n)))=H5 at s5 et2 ⊢
   have s35:=(s3.trans s4).trans s5
   refine⟨_,_,SqT.of (s35 _ _ r1),SqT.of et2,by simp,by rw[List.length_map]; exact aS (by simp only[List.length_cons,List.length_nil]; omega),fun hz=>?_,fun _ t3 ht3=>?_⟩
   ·have:=congrArg List.length hz
    rw[List.length_map]at this
    simp only[List.length_nil]at this
    omega
   ·have s05:=(s12.trans sT1).trans s35
    have s6:=af ht3 (.tup ([V.str h,iN i]++r.map fun n=>aN kvs (.inr n)))
    have r3:bf (upd H5 t3 (.tup ([V.str h,iN i]++r.map fun n=>aN kvs (.inr n)))) t3 ([V.str h,iN i]++r.map fun n=>aN kvs (.inr n)):=ac
    generalize upd H5 t3 (.tup ([V.str h,iN i]++r.map fun n=>aN kvs (.inr n)))=H6 at s6 r3 ⊢
    refine⟨by decide,fun m1 hm1=>?_⟩
    have s06:=s05.trans s6
    refine q m1 _ (s06.trans (af hm1 _)) (s06.free hm1) ?_
    rw[hpl,if_neg (by exact hni),fE (by simp only[List.mem_cons,List.not_mem_nil,or_false,not_or]; exact⟨h1,h2,h3,h4,h5,h6,h7,h8⟩)]
    exact eQ r3 hm1
def SmX(R:Addr)(H H':Hp):Prop:=∀ a o,a≠R→H a=some o→H' a=some o
theorem SmX.trans{R:Addr}{H H' H'':Hp}(a:SmX R H H')(b:SmX R H' H''):SmX R H H'':=fun c o n e=>b c o n (a c o n e)
theorem SmX.of{R:Addr}{H H':Hp}(a:Same H H'):SmX R H H':=fun c o _ e=>a c o e
theorem SmX.upd{R:Addr}{H:Hp}{o:HO}:SmX R H (upd H R o):=fun c u n e=>by rw[ah n]; exact e
theorem SmX.same{R:Addr}{H H':Hp}(a:SmX R H H')(h:H R=none):Same H H':=fun c o e=>a c o (au e h) e
theorem ListR.x{R q:Addr}{H H':Hp}{rows rs:List aP}(h:ListR H q rows)(hR:ListR H R rs)(s:SmX R H H')(n:q≠R):ListR H' q rows:=by
 obtain⟨as,a1,a2⟩:=h
 obtain⟨_,b1,_⟩:=hR
 exact⟨as,s _ _ n a1,Paired.imp' (fun c r z=>s _ _ (b7 (show H c=some (.tup r) from z) b1 (fun y=>nomatch y)) z) a2⟩
theorem gd{R c:Addr}{H:Hp}{rows:List aP}{r:aP}(h:ListR H R rows)(hc:bf H c r)(hl:rows.length≤40000):∃ xs,H R=some (.lst xs)∧xs.length<sizeLine∧ListR (upd H R (.lst (xs++[.ref c]))) R (rows++[r]):=by
 obtain⟨as,a1,a2⟩:=h
 have kp:∀ b s,bf H b s→bf (upd H R (.lst (as.map V.ref++[.ref c]))) b s:=fun b s z=>by
  show upd H R _ b=_
  rw[ah (b7 (show H b=some (.tup s) from z) a1 (fun y=>nomatch y))]; exact z
 refine⟨_,a1,by have:=av a2; have:=aS (n:=(as.map V.ref).length+1) (by rw[List.length_map]; omega); omega,as++[c],by rw[ac,List.map_append]; rfl,dU (Paired.imp' kp a2) (.cons (kp _ _ hc) .nil)⟩
theorem jD{R q:Addr}{H:Hp}{rows rs:List aP}(h:ListR H R rows)(hc:ListR H q rs)(hl:rows.length+rs.length≤40000):∃ xs zs,H R=some (.lst xs)∧H q=some (.lst zs)∧xs.length+zs.length≤sizeLine∧ListR (upd H R (.lst (xs++zs))) R (rows++rs):=by
 obtain⟨as,a1,a2⟩:=h
 obtain⟨bs,b1,b2⟩:=hc
 have kp:∀ b s,bf H b s→bf (upd H R (.lst (as.map V.ref++bs.map V.ref))) b s:=fun b s z=>by
  show upd H R _ b=_
  rw[ah (b7 (show H b=some (.tup s) from z) a1 (fun y=>nomatch y))]; exact z
 have:=av a2
 have:=av b2
 exact⟨_,_,a1,b1,by rw[List.length_map,List.length_map]; exact aS (by omega),as++bs,by rw[ac,List.map_append],dU (Paired.imp' kp a2) (Paired.imp' kp b2)⟩
def Fc(H:Hp)(ph:Addr)(pl:Nat→List aP)(n:Nat):Prop:=∃ ps:List Addr,H ph=some (.lst (ps.map V.ref))∧ps.length=n∧∀ i p,ps[i]? = some p→ListR H p (pl i)
structure PartCtx (H:Hp) (lp pp ph:Addr) (W:List (List Str)) (kvp:List (ax × V)) (NM:List Str) (kv:List (ax × V)) (pl:Nat→List aP):Prop where
 lp:yP H lp W
 ok:og W
 pp:H pp=some (.dK kvp)
 ph:Fc H ph pl W.length
 le:∀ i,(pl i).length≤3
 fl:∀ t d l T,PtOk W kvp NM d l T→FlOk W kvp NM kv pl t d l (l+aj d T) (pM d l T) (bU kv d t l T)
theorem PartCtx.mono{H H':Hp}{lp pp ph:Addr}{W:List (List Str)}{kvp:List (ax × V)}{NM:List Str}{kv:List (ax × V)}{pl:Nat→List aP}(h:PartCtx H lp pp ph W kvp NM kv pl)(s:Same H H'):PartCtx H' lp pp ph W kvp NM kv pl:=by
 obtain⟨ps,p1,p2,p3⟩:=h.ph
 exact⟨s _ _ h.lp,h.ok,s _ _ h.pp,⟨ps,s _ _ p1,p2,fun i p e=>(p3 i p e).mono s⟩,h.le,h.fl⟩
theorem PIt.se:∀ x:PIt,x.st≤x.en
 | .ln _=>Nat.le_refl _
 | .ite e l _ b c=>by show l≤l+1+aj e b+1+aj e c; omega
 | .whl e l _ b=>by show l≤l+1+aj e b; omega
theorem Chn.le:∀ {X:List PIt} {l h:Nat},Chn l X h→l≤h
 | [],_,_,.nil _=>Nat.le_refl _
 | _::_,_,_,.cons x t=>by have:=t.le; have:=x.se; omega
theorem Chn.inv{x:PIt}{X:List PIt}{l h:Nat}(c:Chn l (x::X) h):l=x.st∧Chn (x.en+1) X h∧l<h:=by
 cases c with
 | cons _ t=>have:=t.le; have:=x.se; exact⟨rfl,t,by omega⟩
def vi(NM:List Str)(kv:List (ax × V))(d:Nat):Sp:=fun vs H Q _=>∃ (l h e:Nat) (t:Bool) (lp pp ph:Addr) (W:List (List Str)) (kvp:List (ax × V)) (pl:Nat→List aP) (T:List Stp),vs=[.int (l:Int),.int (h:Int),.bl t,.ref lp,.ref pp,.ref ph]∧h=l+aj e T∧e≤d∧d≤20∧PtOk W kvp NM e l T∧PartCtx H lp pp ph W kvp NM kv pl∧
 ∀ (q:Addr) (H':Hp),Same H H'→H q=none→ListR H' q (bU kv e t l T)→Q (.ref q) H'
theorem sn{NM:List Str}{kv:List (ax × V)}(D:DefAt K mg "_law_part" aD) (z_len:mg "len" = none) (z_int:mg "int" = none):∀ d:Nat,bg P w K mg base (d+2) "_law_part" ["_law_low", "_law_high", "_law_turn", "_law_lines", "_law_partner", "_law_plain_here"] (vi NM kv d)
 | 0=>D.cal (k:=1) sc_law_part (fun _ _ _ _ _ _ us hl=>match us,hl with | [_,_,_,_,_,_],_=>rfl) (fun vs H Q E h=>by obtain⟨_,_,_,_,_,_,_,_,_,_,_,rfl,_⟩:=h; rfl) (fun f cdv A outer s H vs Q E hr h=>by
   obtain⟨_,_,e,_,_,_,_,_,_,_,_,_,_,he,_,hp,_⟩:=h
   have e0:e=0:=by omega
   subst e0
   exact hp.fi.elim)
 | d+1=>by
  have c_law_part:=sn (NM:=NM) (kv:=kv) D z_len z_int d
  refine D.cal (k:=d+2) sc_law_part (fun _ _ _ _ _ _ us hl=>match us,hl with | [_,_,_,_,_,_],_=>rfl) (fun vs H Q E h=>by obtain⟨_,_,_,_,_,_,_,_,_,_,_,rfl,_⟩:=h; rfl) (fun f cdv A outer s H vs Q E hr h=>?_)
  obtain⟨l,h,e,t,lp,pp,ph,W,kvp,pl,T,rfl,hh,he,hd,hp,C,q⟩:=h
  obtain⟨fc,fo,fr⟩:=C.fl t e l T hp
  have hWl:=C.ok.len
  have hcnt:=hp.cnt
  have htot:=gn (kv:=kv) (t:=t) (l:=l) hp.fi (by omega) (by omega)
  rw[← hh]at fc
  generalize hXX:pM e l T=XX at fc fo fr
  generalize bU kv e t l T=RR at fr htot q
  refine⟨_,(ae (ar 6 sc_law_part.nd (bi ab) (hx:=FX))
   (ae (ar 7 sc_law_part.nd (pv 0 (hv:=Dp)) (hx:=AX))
   (ae (yq PassesOwn.never (aG hU (pv 7 (hv:=f_)) (pv 1 (hv:=F5)) (bc _)) (ae (ar 8 sc_law_part.nd (aI K PySem.F.plainAttrs_str PySem.F.slot_str_split PySem.F.type_str_split fH (ay (aW K) (pv 3 (hv:=ql)) (pv 7 (hv:=f_)) (fun _ _=>rfl)) (aa al ab)) (hx:=FV))
   (ae (ar 9 sc_law_part.nd (pv 7 (hv:=f_)) (hx:=wR))
   (ae (bN (aG b8 (ay (aW K) (pv 8 (hv:=qg)) ai (fun _ _=>rfl)) al (bc _)) (ae (ar 10 sc_law_part.nd (ay (fg K) (pv 4 (hv:=j8)) (pv 7 (hv:=f_)) (fun _ _=>rfl)) (hx:=E1))
   (ae (ar 9 sc_law_part.nd (ay (fg K) (pv 4 (hv:=j8)) (pv 10 (hv:=tI)) (fun _ _=>rfl)) (hx:=wR))
   (ae (ar 11 sc_law_part.nd (aJ c_law_part hr (aa (ao aw (pv 7 (hv:=f_)) ai) (aa (pv 10 (hv:=tI)) (aa (pv 2 (hv:=yn)) (aa (pv 3 (hv:=ql)) (aa (pv 4 (hv:=j8)) (aa (pv 5 (hv:=oF)) ab)))))) (hg:=uH) (hle:=by omega)) (hx:=FQ))
   (ae (ar 12 sc_law_part.nd (aJ c_law_part hr (aa (ao aw (pv 10 (hv:=tI)) ai) (aa (pv 9 (hv:=o0)) (aa (pv 2 (hv:=yn)) (aa (pv 3 (hv:=ql)) (aa (pv 4 (hv:=j8)) (aa (pv 5 (hv:=oF)) ab)))))) (hg:=uH) (hle:=by omega)) (hx:=ED))
   (ae (aQ (aI K PySem.F.plainAttrs_list PySem.F.slot_list_append PySem.F.type_list_append aL (pv 6 (hv:=gH)) (aa (bb (aa al (aa (pv 7 (hv:=f_)) (aa (ef iR z_int ip (aa (ay (aW K) (pv 8 (hv:=qg)) ai (fun _ _=>rfl)) ab) (hg:=x5)) (aa (ao aw (aY (aK K) z_len bw (aa (pv 11 (hv:=B2)) ab) (hg:=l_)) ai) ab))))) ab)))
   (ae (aQ (aI K PySem.F.plainAttrs_list PySem.F.slot_list_extend PySem.F.type_list_extend cS (pv 6 (hv:=gH)) (aa (pv 11 (hv:=B2)) ab)))
   (ae (aQ (aI K PySem.F.plainAttrs_list PySem.F.slot_list_append PySem.F.type_list_append aL (pv 6 (hv:=gH)) (aa (bb (aa al (aa (pv 10 (hv:=tI)) (aa (ao aw (aY (aK K) z_len bw (aa (pv 12 (hv:=B5)) ab) (hg:=l_)) ai) ab)))) ab)))
   (ak (aQ (aI K PySem.F.plainAttrs_list PySem.F.slot_list_extend PySem.F.type_list_extend cS (pv 6 (hv:=gH)) (aa (pv 12 (hv:=B5)) ab))))))))))) (ak (bN (aG b8 (ay (aW K) (pv 8 (hv:=qg)) ai (fun _ _=>rfl)) al (bc _)) (ae (ar 9 sc_law_part.nd (ay (fg K) (pv 4 (hv:=j8)) (pv 7 (hv:=f_)) (fun _ _=>rfl)) (hx:=wR))
   (ae (ar 13 sc_law_part.nd (aJ c_law_part hr (aa (ao aw (pv 7 (hv:=f_)) ai) (aa (pv 9 (hv:=o0)) (aa d0 (aa (pv 3 (hv:=ql)) (aa (pv 4 (hv:=j8)) (aa (pv 5 (hv:=oF)) ab)))))) (hg:=uH) (hle:=by omega)) (hx:=DQ))
   (ae (bN (fB (pv 2 (hv:=yn))) (ae (ar 14 sc_law_part.nd (aJ c_law_part hr (aa (ao aw (pv 7 (hv:=f_)) ai) (aa (pv 9 (hv:=o0)) (aa d0 (aa (pv 3 (hv:=ql)) (aa (pv 4 (hv:=j8)) (aa (pv 5 (hv:=oF)) ab)))))) (hg:=uH) (hle:=by omega)) (hx:=Fi))
   (ae (aQ (aI K PySem.F.plainAttrs_list PySem.F.slot_list_append PySem.F.type_list_append aL (pv 6 (hv:=gH)) (aa (bb (aa al (aa (pv 7 (hv:=f_)) (aa (ef iR z_int ip (aa (ay (aW K) (pv 8 (hv:=qg)) ai (fun _ _=>rfl)) ab) (hg:=x5)) (aa (ao aw (ao aw (aY (aK K) z_len bw (aa (pv 14 (hv:=BL)) ab) (hg:=l_)) (aY (aK K) z_len bw (aa (pv 13 (hv:=uo)) ab) (hg:=l_))) ai) ab))))) ab)))
   (ak (aQ (aI K PySem.F.plainAttrs_list PySem.F.slot_list_extend PySem.F.type_list_extend cS (pv 6 (hv:=gH)) (aa (pv 14 (hv:=BL)) ab)))))) bB)
   (ae (aQ (aI K PySem.F.plainAttrs_list PySem.F.slot_list_append PySem.F.type_list_append aL (pv 6 (hv:=gH)) (aa (bb (aa al (aa (pv 7 (hv:=f_)) (aa (ef iR z_int ip (aa (ay (aW K) (pv 8 (hv:=qg)) ai (fun _ _=>rfl)) ab) (hg:=x5)) (aa (ao aw (aY (aK K) z_len bw (aa (pv 13 (hv:=uo)) ab) (hg:=l_)) ai) ab))))) ab)))
   (ae (aQ (aI K PySem.F.plainAttrs_list PySem.F.slot_list_extend PySem.F.type_list_extend cS (pv 6 (hv:=gH)) (aa (pv 13 (hv:=uo)) ab)))
   (ak (aQ (aI K PySem.F.plainAttrs_list PySem.F.slot_list_append PySem.F.type_list_append aL (pv 6 (hv:=gH)) (aa (bb (aa al (aa (pv 9 (hv:=o0)) (aa (ao gA (gR fW ai) (aY (aK K) z_len bw (aa (pv 13 (hv:=uo)) ab) (hg:=l_))) ab)))) ab))))))))) (ak (aQ (aI K PySem.F.plainAttrs_list PySem.F.slot_list_extend PySem.F.type_list_extend cS (pv 6 (hv:=gH)) (aa (ay (aW K) (pv 5 (hv:=oF)) (pv 7 (hv:=f_)) (fun _ _=>rfl)) ab)))))))
   (ak (ar 7 sc_law_part.nd (ao aw (pv 9 (hv:=o0)) ai) (hx:=AX)))))))
   (ak (aF (pv 6 (hv:=gH))))))),?_⟩
  walk_at "rd1"
  refine⟨by decide,fun R hR=>?_⟩
  have s1:=af hR (.lst [])
  have L1:ListR (upd H R (.lst [])) R []:=⟨[],ac,.nil⟩
  generalize upd H R (.lst [])=H1 at s1 L1 ⊢
  walk_at "nx"
  refine⟨fun m σ H'=>∃ (X Y:List PIt) (a:Nat) (o8 o9 o10 o11 o12 o13 o14:Option V),σ=[some (.int (l:Int)),some (.int (h:Int)),some (.bl t),some (.ref lp),some (.ref pp),some (.ref ph),some (.ref R),some (.int (a:Int)),o8,o9,o10,o11,o12,o13,o14]∧Same H H'∧XX=X++Y∧Chn a Y h∧ListR H' R (X.flatMap (PIt.rows kv pl t))∧m=Y.length,⟨XX.length,[],XX,l,_,_,_,_,_,_,_,rfl,s1,rfl,fc,L1,rfl⟩,?_⟩
  rintro m σ H2 ⟨X,Y,a,o8,o9,o10,o11,o12,o13,o14,rfl,s2,hXY,hch,L2,rfl⟩
  have C2:=C.mono s2
  have hXlen:(X.flatMap (PIt.rows kv pl t)).length+(Y.flatMap (PIt.rows kv pl t)).length≤30000:=by
   rw[← List.length_append,← List.flatMap_append,← hXY,fr]; exact htot
  walk_at "rd1"
  cases Y with
  | nil=>
   cases hch
   rw[List.append_nil]at hXY
   rw[← hXY,fr]at L2
   rw[if_neg (by simp)]
   exact q R H2 s2 hR L2
  | cons y Y=>
   obtain⟨ha,hch',hlt⟩:=hch.inv
   rw[if_pos (by simpa using hlt)]
   have hyo:=fo y (by rw[hXY]; exact List.mem_append_right _ List.mem_cons_self)
   generalize hrow:X.flatMap (PIt.rows kv pl t)=rows at L2 hXlen
   rw[List.flatMap_cons,List.length_append]at hXlen
   have done:∀ {H3:Hp} {o8 o9 o10 o11 o12 o13 o14:Option V},Same H H3→ListR H3 R (rows++y.rows kv pl t)→∃ (X' Y':List PIt) (a':Nat) (p8 p9 p10 p11 p12 p13 p14:Option V),[some (V.int (l:Int)),some (.int (h:Int)),some (.bl t),some (.ref lp),some (.ref pp),some (.ref ph),some (.ref R),some (.int ((y.en+1:Nat):Int)),o8,o9,o10,o11,o12,o13,o14]=[some (.int (l:Int)),some (.int (h:Int)),some (.bl t),some (.ref lp),some (.ref pp),some (.ref ph),some (.ref R),some (.int (a':Int)),p8,p9,p10,p11,p12,p13,p14]∧Same H H3∧XX=X'++Y'∧Chn a' Y' h∧ListR H3 R (X'.flatMap (PIt.rows kv pl t))∧Y.length=Y'.length:=fun s3 hL=>
    ⟨X++[y],Y,y.en+1,_,_,_,_,_,_,_,rfl,s3,by rw[hXY,List.append_assoc]; rfl,hch',by rw[List.flatMap_append,hrow,show [y].flatMap (PIt.rows kv pl t)=y.rows kv pl t from List.append_nil _]; exact hL,rfl⟩
   refine⟨fun σ' H'=>∃ (X Y':List PIt) (a:Nat) (o8 o9 o10 o11 o12 o13 o14:Option V),σ'=[some (.int (l:Int)),some (.int (h:Int)),some (.bl t),some (.ref lp),some (.ref pp),some (.ref ph),some (.ref R),some (.int (a:Int)),o8,o9,o10,o11,o12,o13,o14]∧Same H H'∧XX=X++Y'∧Chn a Y' h∧ListR H' R (X.flatMap (PIt.rows kv pl t))∧Y.length=Y'.length,fun σ' H' z=>⟨Y.length,Nat.lt_succ_self _,z⟩,?_⟩
   obtain⟨ws,hwi⟩ : ∃ ws,W[a]? = some ws:=by
    rw[ha]
    cases y with
    | ln j=>obtain⟨ws,h1,_⟩:=hyo; exact⟨ws,h1⟩
    | ite e' j n b c=>exact⟨_,hyo.2.1⟩
    | whl e' j n b=>exact⟨_,hyo.2.1⟩
   have hwm:=List.mem_of_getElem? hwi
   have hz:=C.ok.sz ws hwm
   have ho:=C.ok.ok ws hwm
   have hat:di ((W.map (Txt.join " ")).map V.str) (a:Int)=some (.str (Txt.join " " ws)):=bu (by rw[List.getElem?_map,List.getElem?_map,hwi]; rfl)
   refine⟨_,_,.inl (SqL.of C2.lp),hat,?_⟩
   walk_at "rd1"
   refine⟨by decide,by omega,fun wq hwq=>?_⟩
   rw[ho.split]
   have s3:=af hwq (.lst (ws.map V.str))
   have e3:upd H2 wq (.lst (ws.map V.str)) wq=some (.lst (ws.map V.str)):=ac
   generalize upd H2 wq (.lst (ws.map V.str))=H3 at s3 e3 ⊢
   have hwR:wq≠R:=fun z=>by
    obtain⟨_,x1,_⟩:=L2
    rw[z,x1]at hwq; cases hwq
   have s03:=s2.trans s3
   have C3:=C.mono s03
   have L3:=L2.mono s3
   walk_at "nx"
   walk_at "nx"
   have ehd:∀ {w0:Str} {wr:List Str},ws=w0::wr→di (ws.map V.str) 0=some (.str w0):=fun {w0 wr} z=>by rw[z]; exact cM
   obtain⟨w0,wr,hws⟩:=List.exists_cons_of_ne_nil ho.ne
   refine⟨_,_,.inl (SqL.of e3),ehd hws,?_⟩
   walk_at "rd1"
   cases y with
   | ln j=>
    obtain⟨ws',h1,h2⟩:=hyo
    have hj:a=j:=ha
    subst hj
    rw[hwi]at h1
    cases h1
    subst hws
    simp only[List.mem_cons,List.not_mem_nil,or_false,not_or]at h2
    have h3:¬ w0 = "if" := h2.1
    have h4:¬ w0 = "while" := h2.2
    rw[if_neg h3]
    refine⟨_,_,.inl (SqL.of e3),cM,?_⟩
    walk_at "rd1"
    rw[if_neg h4]
    obtain⟨ps,p1,p2,p3⟩:=C3.ph
    have hai:a<ps.length:=by rw[p2]; exact(List.getElem?_eq_some_iff.mp hwi).1
    have hpi:=List.getElem?_eq_getElem hai
    have hpl:=p3 a _ hpi
    refine⟨by obtain⟨_,x,_⟩:=L3; exact⟨_,SqL.of x⟩,_,_,.inl (SqL.of p1),bu (j:=a) (v:=V.ref ps[a]) (by rw[List.getElem?_map,hpi]; rfl),?_⟩
    rw[eL]
    obtain⟨xs,zs,x1,x2,x3,x4⟩:=jD L3 hpl (by have:=C.le a; omega)
    refine⟨xs,zs,x1,x2,x3,?_⟩
    walk_at "nx"
    exact done (s03.upd hR _) x4
   | ite e' j n b c=>
    obtain⟨h1,h2,h3,h4,h5,h6,h7⟩:=hyo
    have hj:a=j:=ha
    subst hj
    rw[hwi]at h2
    cases h2
    cases hws
    obtain⟨nb1,nb2⟩:=pH h3
    have hcb:=h6.cnt
    have hcc:=h7.cnt
    have hlb:=gn (kv:=kv) (t:=t) (l:=a+1) h6.fi (by omega) (by omega)
    have hlc:=gn (kv:=kv) (t:=t) (l:=a+1+aj e' b+1) h7.fi (by omega) (by omega)
    generalize hm:a+1+aj e' b=mid at h4 h5 h7 hlc
    generalize hn2:mid+1+aj e' c=nd at h5
    have hyr:PIt.rows kv pl t (.ite e' a n b c)=[[.str "test", iN a,.int n,iN ((bU kv e' t (a+1) b).length+2)]]++bU kv e' t (a+1) b++[[.str "jump", iN mid,iN ((bU kv e' t (mid+1) c).length+1)]]++bU kv e' t (mid+1) c:=by
     rw[← hm]; rfl
    have hye:(PIt.ite e' a n b c).en=nd:=by rw[← hn2,← hm]; rfl
    rw[hyr]at done
    rw[hye]at done
    rw[if_pos rfl]
    refine .inr ⟨pp,kvp,.inl (a:Int),_,rfl,rfl,C3.pp,h4,?_⟩
    walk_at "nx"
    refine .inr ⟨pp,kvp,.inl (mid:Int),_,rfl,rfl,C3.pp,h5,?_⟩
    walk_at "nx"
    refine⟨a+1,mid,e',t,lp,pp,ph,W,kvp,pl,b,by simp,hm.symm,by omega,by omega,h6,C3,fun q1 H4 s4 hq1 hL1=>?_⟩
    have s04:=s03.trans s4
    walk_at "nx"
    refine⟨mid+1,nd,e',t,lp,pp,ph,W,kvp,pl,c,by simp,hn2.symm,by omega,by omega,h7,C.mono s04,fun q2 H5 s5 hq2 hL2=>?_⟩
    have s05:=s04.trans s5
    have s35:=s4.trans s5
    have L5:=L3.mono s35
    have nq1:q1≠R:=fun z=>by
     obtain⟨_,x1,_⟩:=L3
     rw[z,x1]at hq1; cases hq1
    have nq2:q2≠R:=fun z=>by
     obtain⟨_,x1,_⟩:=L3.mono s4
     rw[z,x1]at hq2; cases hq2
    have K1:=hL1.mono s5
    have e5:=s35 _ _ e3
    rw[hyr]at hXlen
    simp only[List.length_append,List.length_cons,List.length_nil]at hXlen
    generalize bU kv e' t (a+1) b=r1 at *
    generalize bU kv e' t (mid+1) c=r2 at *
    walk_at "nx"
    refine⟨by obtain⟨_,x,_⟩:=L5; exact⟨_,SqL.of x⟩,_,_,.inl (SqL.of e5),bu (j:=1) (v:=.str (bH n)) rfl,bH n,n,rfl,nb1,nb2,?_⟩
    obtain⟨bK1,yK1,zK1⟩:=id K1
    refine⟨_,.inl (SqL.of yK1),?_⟩
    rw[List.length_map,av zK1]
    refine⟨by decide,fun t6 ht6=>?_⟩
    generalize hT6:upd H5 t6 _=H6
    have s6:Same H5 H6:=by rw[← hT6]; exact af ht6 _
    have rr6:bf H6 t6 [.str "test", iN a,.int n,iN (r1.length+2)]:=by show H6 t6=_; rw[← hT6]; exact ac
    obtain⟨xs6,xa6,xb6,L7⟩:=gd (L5.mono s6) rr6 (by (try simp only[List.length_append,List.length_cons,List.length_nil]); omega)
    refine⟨xs6,xa6,xb6,?_⟩
    have u7:SmX R H5 (upd H6 R (.lst (xs6++[.ref t6]))):=(SmX.of s6).trans SmX.upd
    generalize upd H6 R (.lst (xs6++[.ref t6]))=H7 at L7 u7 ⊢
    replace K1:=K1.x L5 u7 nq1
    replace hL2:=hL2.x L5 u7 nq2
    walk_at "nx"
    refine⟨by obtain⟨_,x,_⟩:=L7; exact⟨_,SqL.of x⟩,?_⟩
    obtain⟨xs8,zs8,xa8,xb8,xc8,L8⟩:=jD L7 K1 (by (try simp only[List.length_append,List.length_cons,List.length_nil]); omega)
    refine⟨xs8,zs8,xa8,xb8,xc8,?_⟩
    have u8:SmX R H7 (upd H7 R (.lst (xs8++zs8))):=SmX.upd
    generalize upd H7 R (.lst (xs8++zs8))=H8 at L8 u8 ⊢
    replace hL2:=hL2.x L7 u8 nq2
    walk_at "nx"
    refine⟨by obtain⟨_,x,_⟩:=L8; exact⟨_,SqL.of x⟩,?_⟩
    obtain⟨bhL2,yhL2,zhL2⟩:=id hL2
    refine⟨_,.inl (SqL.of yhL2),?_⟩
    rw[List.length_map,av zhL2]
    refine⟨by decide,fun t9 ht9=>?_⟩
    generalize hT9:upd H8 t9 _=H9
    have s9:Same H8 H9:=by rw[← hT9]; exact af ht9 _
    have rr9:bf H9 t9 [.str "jump", iN mid,iN (r2.length+1)]:=by show H9 t9=_; rw[← hT9]; exact ac
    obtain⟨xs9,xa9,xb9,L10⟩:=gd (L8.mono s9) rr9 (by (try simp only[List.length_append,List.length_cons,List.length_nil]); omega)
    refine⟨xs9,xa9,xb9,?_⟩
    have u10:SmX R H8 (upd H9 R (.lst (xs9++[.ref t9]))):=(SmX.of s9).trans SmX.upd
    generalize upd H9 R (.lst (xs9++[.ref t9]))=H10 at L10 u10 ⊢
    replace hL2:=hL2.x L8 u10 nq2
    walk_at "nx"
    refine⟨by obtain⟨_,x,_⟩:=L10; exact⟨_,SqL.of x⟩,?_⟩
    obtain⟨xs11,zs11,xa11,xb11,xc11,L11⟩:=jD L10 hL2 (by (try simp only[List.length_append,List.length_cons,List.length_nil]); omega)
    refine⟨xs11,zs11,xa11,xb11,xc11,?_⟩
    have u11:SmX R H10 (upd H10 R (.lst (xs11++zs11))):=SmX.upd
    generalize upd H10 R (.lst (xs11++zs11))=H11 at L11 u11 ⊢
    walk_at "nx"
    have uu:=((u7.trans u8).trans u10).trans u11
    refine done ((SmX.trans (SmX.of s05) uu).same hR) ?_
    simpa only[List.append_assoc] using L11
   | whl e' j n b=>
    obtain⟨h1,h2,h3,h4,h6⟩:=hyo
    have hj:a=j:=ha
    subst hj
    rw[hwi]at h2
    cases h2
    cases hws
    obtain⟨nb1,nb2⟩:=pH h3
    have hcb:=h6.cnt
    have hlb:=gn (kv:=kv) (t:=true) (l:=a+1) h6.fi (by omega) (by omega)
    have hlc:=gn (kv:=kv) (t:=false) (l:=a+1) h6.fi (by omega) (by omega)
    generalize hm:a+1+aj e' b=nd at h4
    have hyr:PIt.rows kv pl t (.whl e' a n b)=(if t=true then [[.str "test", iN a,.int n,iN ((bU kv e' true (a+1) b).length+(bU kv e' false (a+1) b).length+3)]]++bU kv e' true (a+1) b++([[.str "test", iN a,.int n,iN ((bU kv e' false (a+1) b).length+2)]]++bU kv e' false (a+1) b++[[.str "jump", iN nd,.int (-1 - ((bU kv e' false (a+1) b).length:Int))]]) else ([[.str "test", iN a,.int n,iN ((bU kv e' false (a+1) b).length+2)]]++bU kv e' false (a+1) b++[[.str "jump", iN nd,.int (-1 - ((bU kv e' false (a+1) b).length:Int))]])):=by
     rw[← hm]; rfl
    have hye:(PIt.whl e' a n b).en=nd:=by rw[← hm]; rfl
    rw[hyr]at done hXlen
    rw[hye]at done
    rw[if_neg (by decide +kernel)]
    refine⟨_,_,.inl (SqL.of e3),cM,?_⟩
    walk_at "rd1"
    refine .inr ⟨pp,kvp,.inl (a:Int),_,rfl,rfl,C3.pp,h4,?_⟩
    walk_at "nx"
    refine⟨a+1,nd,e',false,lp,pp,ph,W,kvp,pl,b,by simp,hm.symm,by omega,by omega,h6,C3,fun q1 H4 s4 hq1 hL1=>?_⟩
    have s04:=s03.trans s4
    have L4:=L3.mono s4
    have nq1:q1≠R:=fun z=>by
     obtain⟨_,x1,_⟩:=L3
     rw[z,x1]at hq1; cases hq1
    have e4:=s4 _ _ e3
    walk_at "nx"
    cases t with
    | false=>
     rw[if_neg (by decide)]at done hXlen ⊢
     simp only[List.length_append,List.length_cons,List.length_nil]at hXlen
     generalize bU kv e' false (a+1) b=r2 at *
     walk_at "nx"
     refine⟨by obtain⟨_,x,_⟩:=L4; exact⟨_,SqL.of x⟩,_,_,.inl (SqL.of e4),bu (j:=1) (v:=.str (bH n)) rfl,bH n,n,rfl,nb1,nb2,?_⟩
     obtain⟨bhL1,yhL1,zhL1⟩:=id hL1
     refine⟨_,.inl (SqL.of yhL1),?_⟩
     rw[List.length_map,av zhL1]
     refine⟨by decide,fun t5 ht5=>?_⟩
     generalize hT5:upd H4 t5 _=H5
     have s5:Same H4 H5:=by rw[← hT5]; exact af ht5 _
     have rr5:bf H5 t5 [.str "test", iN a,.int n,iN (r2.length+2)]:=by show H5 t5=_; rw[← hT5]; exact ac
     obtain⟨xs5,xa5,xb5,L6⟩:=gd (L4.mono s5) rr5 (by (try simp only[List.length_append,List.length_cons,List.length_nil]); omega)
     refine⟨xs5,xa5,xb5,?_⟩
     have u6:SmX R H4 (upd H5 R (.lst (xs5++[.ref t5]))):=(SmX.of s5).trans SmX.upd
     generalize upd H5 R (.lst (xs5++[.ref t5]))=H6 at L6 u6 ⊢
     replace hL1:=hL1.x L4 u6 nq1
     walk_at "nx"
     refine⟨by obtain⟨_,x,_⟩:=L6; exact⟨_,SqL.of x⟩,?_⟩
     obtain⟨xs7,zs7,xa7,xb7,xc7,L7⟩:=jD L6 hL1 (by (try simp only[List.length_append,List.length_cons,List.length_nil]); omega)
     refine⟨xs7,zs7,xa7,xb7,xc7,?_⟩
     have u7:SmX R H6 (upd H6 R (.lst (xs7++zs7))):=SmX.upd
     generalize upd H6 R (.lst (xs7++zs7))=H7 at L7 u7 ⊢
     replace hL1:=hL1.x L6 u7 nq1
     walk_at "nx"
     refine⟨by obtain⟨_,x,_⟩:=L7; exact⟨_,SqL.of x⟩,?_⟩
     obtain⟨bhL1,yhL1,zhL1⟩:=id hL1
     refine⟨_,.inl (SqL.of yhL1),?_⟩
     rw[List.length_map,av zhL1]
     refine⟨by decide,fun t8 ht8=>?_⟩
     generalize hT8:upd H7 t8 _=H8
     have s8:Same H7 H8:=by rw[← hT8]; exact af ht8 _
     have rr8:bf H8 t8 [.str "jump", iN nd,.int (-1 - (r2.length:Int))]:=by show H8 t8=_; rw[← hT8]; exact ac
     obtain⟨xs8,xa8,xb8,L9⟩:=gd (L7.mono s8) rr8 (by (try simp only[List.length_append,List.length_cons,List.length_nil]); omega)
     refine⟨xs8,xa8,xb8,?_⟩
     have u9:SmX R H7 (upd H8 R (.lst (xs8++[.ref t8]))):=(SmX.of s8).trans SmX.upd
     generalize upd H8 R (.lst (xs8++[.ref t8]))=H9 at L9 u9 ⊢
     walk_at "nx"
     have uu:=(u6.trans u7).trans u9
     refine done ((SmX.trans (SmX.of s04) uu).same hR) ?_
     simpa only[List.append_assoc] using L9
    | true=>
     rw[if_pos rfl]at done hXlen
     simp only[List.length_append,List.length_cons,List.length_nil]at hXlen
     rw[if_pos rfl]
     refine⟨a+1,nd,e',true,lp,pp,ph,W,kvp,pl,b,by simp,hm.symm,by omega,by omega,h6,C.mono s04,fun q2 H5 s5 hq2 hL2=>?_⟩
     have s05:=s04.trans s5
     have L5:=L4.mono s5
     have nq2:q2≠R:=fun z=>by
      obtain⟨_,x1,_⟩:=L4
      rw[z,x1]at hq2; cases hq2
     have K1:=hL1.mono s5
     have e5:=s5 _ _ e4
     generalize bU kv e' false (a+1) b=r2 at *
     generalize bU kv e' true (a+1) b=r1 at *
     walk_at "nx"
     refine⟨by obtain⟨_,x,_⟩:=L5; exact⟨_,SqL.of x⟩,_,_,.inl (SqL.of e5),bu (j:=1) (v:=.str (bH n)) rfl,bH n,n,rfl,nb1,nb2,?_⟩
     obtain⟨bhL2,yhL2,zhL2⟩:=id hL2
     refine⟨_,.inl (SqL.of yhL2),?_⟩
     rw[List.length_map,av zhL2]
     obtain⟨bK1,yK1,zK1⟩:=id K1
     refine⟨_,.inl (SqL.of yK1),?_⟩
     rw[List.length_map,av zK1]
     refine⟨by decide,fun t6 ht6=>?_⟩
     generalize hT6:upd H5 t6 _=H6
     have s6:Same H5 H6:=by rw[← hT6]; exact af ht6 _
     have rr6:bf H6 t6 [.str "test", iN a,.int n,iN (r1.length+r2.length+3)]:=by show H6 t6=_; rw[← hT6]; exact ac
     obtain⟨xs6,xa6,xb6,L7⟩:=gd (L5.mono s6) rr6 (by (try simp only[List.length_append,List.length_cons,List.length_nil]); omega)
     refine⟨xs6,xa6,xb6,?_⟩
     have u7:SmX R H5 (upd H6 R (.lst (xs6++[.ref t6]))):=(SmX.of s6).trans SmX.upd
     generalize upd H6 R (.lst (xs6++[.ref t6]))=H7 at L7 u7 ⊢
     replace hL2:=hL2.x L5 u7 nq2
     replace K1:=K1.x L5 u7 nq1
     walk_at "nx"
     refine⟨by obtain⟨_,x,_⟩:=L7; exact⟨_,SqL.of x⟩,?_⟩
     obtain⟨xs8,zs8,xa8,xb8,xc8,L8⟩:=jD L7 hL2 (by (try simp only[List.length_append,List.length_cons,List.length_nil]); omega)
     refine⟨xs8,zs8,xa8,xb8,xc8,?_⟩
     have u8:SmX R H7 (upd H7 R (.lst (xs8++zs8))):=SmX.upd
     generalize upd H7 R (.lst (xs8++zs8))=H8 at L8 u8 ⊢
     replace K1:=K1.x L7 u8 nq1
     walk_at "nx"
     have e8:=u8 _ _ hwR (u7 _ _ hwR e5)
     refine⟨by obtain⟨_,x,_⟩:=L8; exact⟨_,SqL.of x⟩,_,_,.inl (SqL.of e8),bu (j:=1) (v:=.str (bH n)) rfl,bH n,n,rfl,nb1,nb2,?_⟩
     obtain⟨bK1,yK1,zK1⟩:=id K1
     refine⟨_,.inl (SqL.of yK1),?_⟩
     rw[List.length_map,av zK1]
     refine⟨by decide,fun t9 ht9=>?_⟩
     generalize hT9:upd H8 t9 _=H9
     have s9:Same H8 H9:=by rw[← hT9]; exact af ht9 _
     have rr9:bf H9 t9 [.str "test", iN a,.int n,iN (r2.length+2)]:=by show H9 t9=_; rw[← hT9]; exact ac
     obtain⟨xs9,xa9,xb9,L10⟩:=gd (L8.mono s9) rr9 (by (try simp only[List.length_append,List.length_cons,List.length_nil]); omega)
     refine⟨xs9,xa9,xb9,?_⟩
     have u10:SmX R H8 (upd H9 R (.lst (xs9++[.ref t9]))):=(SmX.of s9).trans SmX.upd
     generalize upd H9 R (.lst (xs9++[.ref t9]))=H10 at L10 u10 ⊢
     replace K1:=K1.x L8 u10 nq1
     walk_at "nx"
     refine⟨by obtain⟨_,x,_⟩:=L10; exact⟨_,SqL.of x⟩,?_⟩
     obtain⟨xs11,zs11,xa11,xb11,xc11,L11⟩:=jD L10 K1 (by (try simp only[List.length_append,List.length_cons,List.length_nil]); omega)
     refine⟨xs11,zs11,xa11,xb11,xc11,?_⟩
     have u11:SmX R H10 (upd H10 R (.lst (xs11++zs11))):=SmX.upd
     generalize upd H10 R (.lst (xs11++zs11))=H11 at L11 u11 ⊢
     replace K1:=K1.x L10 u11 nq1
     walk_at "nx"
     refine⟨by obtain⟨_,x,_⟩:=L11; exact⟨_,SqL.of x⟩,?_⟩
     obtain⟨bK1,yK1,zK1⟩:=id K1
     refine⟨_,.inl (SqL.of yK1),?_⟩
     rw[List.length_map,av zK1]
     refine⟨by decide,fun t12 ht12=>?_⟩
     generalize hT12:upd H11 t12 _=H12
     have s12:Same H11 H12:=by rw[← hT12]; exact af ht12 _
     have rr12:bf H12 t12 [.str "jump", iN nd,.int (-1 - (r2.length:Int))]:=by show H12 t12=_; rw[← hT12]; exact ac
     obtain⟨xs12,xa12,xb12,L13⟩:=gd (L11.mono s12) rr12 (by (try simp only[List.length_append,List.length_cons,List.length_nil]); omega)
     refine⟨xs12,xa12,xb12,?_⟩
     have u13:SmX R H11 (upd H12 R (.lst (xs12++[.ref t12]))):=(SmX.of s12).trans SmX.upd
     generalize upd H12 R (.lst (xs12++[.ref t12]))=H13 at L13 u13 ⊢
     walk_at "nx"
     have uu:=(((u7.trans u8).trans u10).trans u11).trans u13
     refine done ((SmX.trans (SmX.of s05) uu).same hR) ?_
     simpa only[List.append_assoc] using L13
def zg:Sp:=fun vs H Q _=>∃ (lp:Addr) (d:Nat) (T:List Stp),vs=[.ref lp]∧yP H lp (bO d T)∧og (bO d T)∧bR d T∧d≤10∧∀ (q:Addr) (H':Hp),Same H H'→H q=none→ListR H' q (jE (cQ ((bQ d T).flatMap bo)) d true T)→Q (.ref q) H'
def RowS(r:aP):Prop:=∃ (h:Str) (u:List V),r = .str h::u∧((h = "test" ∨ h = "jump")→∃ (v:List V) (m:Int),u=v++[.int m]∧v.length≤2)
theorem RowS.test{l n:V}{m:Int}:RowS [.str "test", l,n,.int m]:=⟨_,_,rfl,fun _=>⟨[l,n],m,rfl,by simp⟩⟩
theorem RowS.jump{l:V}{m:Int}:RowS [.str "jump", l,.int m]:=⟨_,_,rfl,fun _=>⟨[l],m,rfl,by simp⟩⟩
theorem RowS.no{h:Str}{u:List V}(hh:h∉(["test", "jump"]:List Str)):RowS (.str h::u):=⟨_,_,rfl,fun z=>absurd (by simp only[List.mem_cons,List.not_mem_nil,or_false]; exact z) hh⟩
theorem qN{kv:List (ax × V)}{l:Nat}{ws:List Str}(px:cN ws):RowS (cL kv l ws):=by
 unfold cL
 split
 ·exact .no (by decide +kernel)
 ·refine .no ?_
  rcases hG px with h | h | h | h | h <;> rw[h] <;> decide +kernel
theorem sP(kv:List (ax × V)):∀ (d:Nat) (t:Bool) (l:Nat) (T:List Stp),bR d T→∀ r∈bU kv d t l T,RowS r
 | 0,_,_,_,h=>h.elim
 | d+1,t,l,T,hf=>by
  have ih:=sP kv d
  have st:∀ (s:Stp) (l:Nat),dy (bR d) s→∀ r∈iG kv (bU kv d) (aj d) t l s,RowS r:=fun s l hs r hr=>by
   cases s with
   | plain ws=>rw[List.mem_singleton.mp hr]; exact qN hs.1
   | lend x y b=>
    rcases List.mem_append.mp hr with hr | hr
    ·rcases List.mem_append.mp hr with hr | hr
     ·simp only[List.mem_cons,List.not_mem_nil,or_false]at hr
      rcases hr with rfl | rfl | rfl <;> exact .no (by decide +kernel)
     ·exact ih t (l+1) b hs.2.2 r hr
    ·simp only[List.mem_cons,List.not_mem_nil,or_false]at hr
     rcases hr with rfl | rfl | rfl <;> exact .no (by decide +kernel)
   | ite n b c=>
    rcases List.mem_append.mp hr with hr | hr
    ·rcases List.mem_append.mp hr with hr | hr
     ·rcases List.mem_append.mp hr with hr | hr
      ·rw[List.mem_singleton.mp hr]; exact .test
      ·exact ih t (l+1) b hs.2.1 r hr
     ·rw[List.mem_singleton.mp hr]; exact .jump
    ·exact ih t _ c hs.2.2 r hr
   | whl n b=>
    have lp:r∈ia (bU kv d) (aj d) l n b→RowS r:=fun hr=>by
     rcases List.mem_append.mp hr with hr | hr
     ·rcases List.mem_append.mp hr with hr | hr
      ·rw[List.mem_singleton.mp hr]; exact .test
      ·exact ih false (l+1) b hs.2 r hr
     ·rw[List.mem_singleton.mp hr]; exact .jump
    have hr':r∈fe (bU kv d) (aj d) t l n b:=hr
    unfold fe at hr'
    split at hr'
    ·rcases List.mem_append.mp hr' with hr | hr
     ·rcases List.mem_append.mp hr with hr | hr
      ·rw[List.mem_singleton.mp hr]; exact .test
      ·exact ih true (l+1) b hs.2 r hr
     ·exact lp hr
    ·exact lp hr'
  have go:∀ (T:List Stp) (l:Nat),(∀ s∈T,dy (bR d) s)→∀ r∈jF (iG kv (bU kv d) (aj d) t) (aU (aj d)) l T,RowS r:=fun T=>by
   induction T with
   | nil=>intro l _ r hr; cases hr
   | cons s T ihT=>
    intro l hf r hr
    rcases List.mem_append.mp hr with hr | hr
    ·exact st s l (hf s List.mem_cons_self) r hr
    ·exact ihT _ (fun s hs=>hf s (List.mem_cons_of_mem _ hs)) r hr
  exact go T l hf
theorem rh:∀ (R:List aP) (a i:Nat) (r:aP),R[i]? = some r→(cH a R)[i]? = some (cG (a+i) r)
 | r::R,a,0,_,h=>by cases h; rfl
 | _::R,a,i+1,r,h=>by
  have:=rh R (a+1) i r (by simpa using h)
  rw[show a+(i+1)=a+1+i by omega]; simpa [cH] using this
theorem ListR.x'{R q:Addr}{H H':Hp}{rows:List aP}{xs:List V}(h:ListR H q rows)(b1:H R=some (.lst xs))(s:SmX R H H')(n:q≠R):ListR H' q rows:=by
 obtain⟨as,a1,a2⟩:=h
 exact⟨as,s _ _ n a1,Paired.imp' (fun c r z=>s _ _ (b7 (show H c=some (.tup r) from z) b1 (fun y=>nomatch y)) z) a2⟩
theorem Cb{a:Nat}{h:Str}{v:List V}{m:Int}(hh:h = "test" ∨ h = "jump"):cG a (.str h::(v++[.int m])) = .str h::v++[.int ((a:Int)+m)]:=by
 unfold cG
 rw[if_pos (by exact decide_eq_true hh)]
 rw[show (V.str h::(v++[V.int m]))=(V.str h::v)++[V.int m] from rfl,List.dropLast_concat,List.getLastD_concat]; rfl
theorem A2{a:Nat}{h:Str}{u:List V}(hh:¬ (h = "test" ∨ h = "jump")):cG a (.str h::u) = .str h::u:=by
 unfold cG
 rw[if_neg (by show ¬ decide _=true; rw[decide_eq_true_eq]; exact hh)]
theorem BD{W:List (List Str)}{pt:Nat→Nat}{sl:Str→V}{lent:Nat→V}(i:Nat):(gK W pt sl lent i).length≤3:=by
 unfold gK
 split
 ·simp
 ·exact vd
theorem Ap(D:DefAt K mg "_law_due" aB) (z_len:mg "len" = none) (z_range:mg "range" = none) (z_enumerate:mg "enumerate" = none) (c_law_partners:bg P w K mg base 1 "_law_partners" ["_law_lines"] (ra K)) (c_law_slots:bg P w K mg base 1 "_law_slots" ["_law_lines"] pZ) (c_plain:∀ NM,bg P w K mg base 1 "_law_plain" ["_law_at", "_law_lines", "_law_partner", "_law_slots_here", "_law_lends"] (pF NM)) (c_part:∀ NM kv,bg P w K mg base 12 "_law_part" ["_law_low", "_law_high", "_law_turn", "_law_lines", "_law_partner", "_law_plain_here"] (vi NM kv 10)):bg P w K mg base 13 "_law_due" ["_law_lines"] zg:=by
 refine D.cal (k:=12) sc_law_due (fun _ _ _ _ _ _ us hl=>match us,hl with | [_],_=>rfl) (fun vs H Q E h=>by obtain⟨_,_,_,rfl,_⟩:=h; rfl) (fun f cdv A outer s H vs Q E hr h=>?_)
 obtain⟨lp,d,T,rfl,hlp,ok,hf,hd,q⟩:=h
 have c_law_plain:=c_plain (cQ ((bQ d T).flatMap bo))
 have c_law_part:=c_part (cQ ((bQ d T).flatMap bo)) (fP (ce (cQ ((bQ d T).flatMap bo)) (b5 d T)))
 refine⟨_,(ae (ar 1 sc_law_due.nd (bi ab) (hx:=DC))
   (ae (ar 2 sc_law_due.nd (aJ c_law_partners hr (aa (pv 0 (hv:=kg)) ab) (hg:=Fe)) (hx:=FC))
   (ae (ar 3 sc_law_due.nd (aJ c_law_slots hr (aa (pv 0 (hv:=kg)) ab) (hg:=FF)) (hx:=DU))
   (ae (ar 4 sc_law_due.nd (fJ (CompSc.to (fsc:=(defScope aB)) (N:=["_law_lines", "_law_due_here", "_law_partner", "_law_slots_here", "_law_lends", "_law_plain_here", "_law_at", "_law_row_here"]) (N0:=["_law_lines", "_law_due_here", "_law_partner", "_law_slots_here", "_law_lends", "_law_plain_here", "_law_at'", "_law_row_here"]) (T:=["_law_at"]) ⟨by decide +kernel,by decide +kernel,by decide +kernel,by decide +kernel,by decide +kernel,by decide +kernel,by decide +kernel⟩ rfl rfl) rfl (fR Af z_range (aa (aY (aK K) z_len bw (aa (pv 0 (hv:=kg)) ab) (hg:=ux)) ab)) (fun _ _ _ _=>(bj 8 (show (["_law_lines", "_law_due_here", "_law_partner", "_law_slots_here", "_law_lends", "_law_plain_here", "_law_at'", "_law_row_here", "_law_at"]:List Str).Nodup from by decide +kernel) (hx:=(iA (defScope aB) (by decide +kernel))) (hf:=lx (defScope aB) (by decide +kernel)))) (dN (show (["_law_lines", "_law_due_here", "_law_partner", "_law_slots_here", "_law_lends", "_law_plain_here", "_law_at", "_law_row_here"]:List Str).length≤8 from by decide)) (fun _ _ _ _=>(ki (aG b8 (ay (aW K) (aI K PySem.F.plainAttrs_str PySem.F.slot_str_split PySem.F.type_str_split fH (ay (aW K) (pv 0 (hv:=(de (defScope aB) (by decide +kernel)))) (pv 8 (hv:=(de (defScope aB) (by decide +kernel)))) (fun _ _=>rfl)) (aa al ab)) ai (fun _ _=>rfl)) al (bc _)))) (fun _ _ _ _=>(pv 8 (hv:=(de (defScope aB) (by decide +kernel)))))) (hx:=E9))
   (ae (uT (CompSc.to (fsc:=(defScope aB)) (N:=["_law_lines", "_law_due_here", "_law_partner", "_law_slots_here", "_law_lends", "_law_plain_here", "_law_at", "_law_row_here"]) (N0:=["_law_lines", "_law_due_here", "_law_partner", "_law_slots_here", "_law_lends", "_law_plain_here", "_law_at'", "_law_row_here"]) (T:=["_law_at"]) ⟨by decide +kernel,by decide +kernel,by decide +kernel,by decide +kernel,by decide +kernel,by decide +kernel,by decide +kernel⟩ rfl rfl) rfl sc_law_due.nd (i:=5) rfl Hu (fR Af z_range (aa (aY (aK K) z_len bw (aa (pv 0 (hv:=kg)) ab) (hg:=ux)) ab)) (fun _ _ _ _=>(bj 8 (show (["_law_lines", "_law_due_here", "_law_partner", "_law_slots_here", "_law_lends", "_law_plain_here", "_law_at'", "_law_row_here", "_law_at"]:List Str).Nodup from by decide +kernel) (hx:=(iA (defScope aB) (by decide +kernel))) (hf:=lx (defScope aB) (by decide +kernel)))) (dN (show (["_law_lines", "_law_due_here", "_law_partner", "_law_slots_here", "_law_lends", "_law_plain_here", "_law_at", "_law_row_here"]:List Str).length≤8 from by decide)) (fun _ _ _ _=>gN) (fun _ _ _ _=>(aJ c_law_plain hr (aa (pv 8 (hv:=(de (defScope aB) (by decide +kernel)))) (aa (pv 0 (hv:=(de (defScope aB) (by decide +kernel)))) (aa (pv 2 (hv:=(de (defScope aB) (by decide +kernel)))) (aa (pv 3 (hv:=(de (defScope aB) (by decide +kernel)))) (aa (pv 4 (hv:=(de (defScope aB) (by decide +kernel)))) ab))))) (hg:=(C9 (defScope aB) (by decide +kernel))))))
   (ae (cE PassesOwn.never rfl (kn K EI z_enumerate (aa (aJ c_law_part hr (aa ai (aa (aY (aK K) z_len bw (aa (pv 0 (hv:=kg)) ab) (hg:=ux)) (aa d0 (aa (pv 0 (hv:=kg)) (aa (pv 2 (hv:=EM)) (aa (pv 5 (hv:=Fn)) ab)))))) (hg:=Ew)) ab)) (dR K (n:=2) (bW (bj 6 sc_law_due.nd (hx:=Fs)) (bW (bj 7 sc_law_due.nd (hx:=BI)) dS))) (ae (bN (aG (jo K) (ay (aW K) (pv 7 (hv:=ui)) ai (fun _ _=>rfl)) (bi (aa al (aa al ab))) (by with_unfolding_all rfl)) (ak (ar 7 sc_law_due.nd (ao (kq K) (cj (ie K) (pv 7 (hv:=ui)) cV (cr (gR fW ai))) (bb (aa (ao aw (pv 6 (hv:=FB)) (ay (aW K) (pv 7 (hv:=ui)) (gR fW ai) (fun _ _=>rfl))) ab))) (hx:=BI))) bB)
   (ak (aQ (aI K PySem.F.plainAttrs_list PySem.F.slot_list_append PySem.F.type_list_append aL (pv 1 (hv:=Cj)) (aa (pv 7 (hv:=ui)) ab))))))
   (ak (aF (ao aw (pv 1 (hv:=Cj)) (bi (aa (bb (aa al (aa (aY (aK K) z_len bw (aa (pv 0 (hv:=kg)) ab) (hg:=ux)) ab))) ab))))))))))),?_⟩
 have hpos:=AK d 0 T ⟨[],[]⟩ (iJ hf)
 have hI:=zK hf
 have hst:StandsAt (bO d T) (bO d T) 0:=fun i ws e=>by rw[Nat.zero_add]; exact e
 have hpt:=(gS d 0 T ⟨[],[]⟩ (iJ hf)).2
 have hsd:=nZ ((bO d T).flatMap a_)
 rw[gE d T hf]at hsd
 have hnm:gT (fun n=>n∈cQ ((bQ d T).flatMap bo)) d T:=jc d T (gP hf) fun n hn=>jz hn
 have hln:=wf (W:=bO d T) (kvp:=gB (bO d T)) (kvs:=cx ((bO d T).flatMap a_) []) (NM:=cQ ((bQ d T).flatMap bo)) (fun n hn=>by
  unfold d_ aN
  rw[gE d T hf,hsd.2 n,if_pos hn]; rfl) d 0 T hst hpt hf hnm
 have hPt:PtOk (bO d T) (gB (bO d T)) (cQ ((bQ d T).flatMap bo)) d 0 T:=⟨hst,hpt,hf,hnm⟩
 have hcn:=cI d T
 have hkl:(cx ((bO d T).flatMap a_) []).length=(cQ ((bQ d T).flatMap bo)).length:=by rw[gE d T hf]; exact hsd.1
 unfold jE at q
 generalize fP (ce (cQ ((bQ d T).flatMap bo)) (b5 d T))=kv at hI q
 generalize cQ ((bQ d T).flatMap bo)=NM at hI hkl hPt hnm q
 have hfl:=fun (t:Bool) (e l:Nat) (U:List Stp) (h:PtOk (bO d T) (gB (bO d T)) NM e l U)=>wn hI (t:=t) e l U h
 have habs:=j_ kv d true 0 0 T hf
 have hrs:=sP kv d true 0 T hf
 have hrl:=gn (kv:=kv) (t:=true) (l:=0) hf (by rw[← hcn]; exact ok.len) (by omega)
 generalize hRR:bF kv d true 0 0 T=RR at habs q
 have hlw:=qF hf
 generalize hkk:cx ((bO d T).flatMap a_) []=kvs at hln hkl hfl
 rw[← hcn]at q
 have hW:aj d T=(bO d T).length:=hcn.symm
 generalize bO d T=W at *
 generalize hpf:gK W (gY (gB W)) (rG kvs) (fun i=>iN (eK NM W (gY (gB W)) i))=plf at hfl
 have hWl:=ok.len
 walk_at "rd1"
 refine⟨by decide,fun dq hdq=>?_⟩
 have s1:=af hdq (.lst [])
 have e1:upd H dq (.lst []) dq=some (.lst []):=ac
 generalize upd H dq (.lst [])=H1 at s1 e1 ⊢
 walk_at "nx"
 refine⟨lp,W,rfl,s1 _ _ hlp,ok.ok,ok.sz,by omega,hpos,fun pp H2 s2 e2=>?_⟩
 have s12:=s1.trans s2
 walk_at "nx"
 refine⟨lp,W,rfl,s12 _ _ hlp,ok,fun sd H3 s3 e3=>?_⟩
 rw[hkk]at e3
 have s13:=s12.trans s3
 walk_at "nx"
 refine⟨_,.inl (SqL.of (s13 _ _ hlp)),?_⟩
 rw[List.length_map,List.length_map]
 refine⟨by omega,by omega,fun L hL=>?_⟩
 rw[show ((W.length:Nat):Int).toNat=W.length from Int.toNat_natCast _]
 refine qP (fun i ys H'=>∃ ns:List Nat,Same H3 H'∧H' L=some (.lst ys)∧ys=ns.map iN∧ns.length≤i∧ns=(List.range i).filter fun j=>decide ((W.getD j []).headD "" = "lend")) ⟨[],af hL _,ac,rfl,Nat.le_refl _,rfl⟩ ?_ ?_
 ·rintro i ys H' hi ⟨ns,sm,hl',rfl,hnl,hns⟩
  have hwi:W[i]? = some W[i]:=List.getElem?_eq_getElem hi
  have hwm:=List.getElem_mem hi
  have hgd:W.getD i []=W[i]:=by rw[List.getD_eq_getElem?_getD,hwi]; rfl
  generalize W[i]=ws at hwi hwm hgd
  have ho:=ok.ok ws hwm
  have hz:=ok.sz ws hwm
  have hat:di ((W.map (Txt.join " ")).map V.str) (i:Int)=some (.str (Txt.join " " ws)):=bu (by rw[List.getElem?_map,List.getElem?_map,hwi]; rfl)
  obtain⟨w0,wr,rfl⟩:=List.exists_cons_of_ne_nil ho.ne
  rw[Int.zero_add]
  walk_at "rd1"
  refine⟨_,_,.inl (SqL.of (sm _ _ (s13 _ _ hlp))),hat,?_⟩
  walk_at "rd1"
  refine⟨by decide,by omega,fun wq hwq=>?_⟩
  rw[ho.split]
  have s5:=af hwq (.lst ((w0::wr).map V.str))
  have e5:upd H' wq (.lst ((w0::wr).map V.str)) wq=some (.lst ((w0::wr).map V.str)):=ac
  generalize upd H' wq (.lst ((w0::wr).map V.str))=H5 at s5 e5 ⊢
  refine⟨_,_,.inl (SqL.of e5),cM,?_⟩
  walk_at "rd1"
  have sm5:=sm.trans s5
  have hl5:=s5 _ _ hl'
  refine bA (fun c=>?_) (fun c=>?_)
  ·refine oC hi (by rw[List.length_map]; exact hnl) (aS (by omega)) hl5 ⟨ns++[i],sm5.upd hL _,ac,pB _ _,by simp; omega,?_⟩
   rw[fN (f:=fun j=>decide ((W.getD j []).headD "" = "lend")),if_pos (by rw[hgd]; exact decide_eq_true c),← hns]
  ·refine uF hi ⟨ns,sm5,hl5,rfl,by omega,?_⟩
   rw[fN (f:=fun j=>decide ((W.getD j []).headD "" = "lend")),if_neg (by rw[hgd]; simpa using c),← hns,List.append_nil]
 rintro ys H4 ⟨ns,s4,e4,rfl,hnl,hns⟩
 have hns':ns=cu W:=hns
 subst hns'
 have s14:=s13.trans s4
 have e1':=s4 _ _ (s3 _ _ (s2 _ _ e1))
 have e2':=s4 _ _ (s3 _ _ e2)
 have e3':=s4 _ _ e3
 walk_at "nx"
 refine⟨_,.inl (SqL.of (s14 _ _ hlp)),?_⟩
 rw[List.length_map,List.length_map]
 refine⟨by omega,by omega,fun M hM=>?_⟩
 rw[show ((W.length:Nat):Int).toNat=W.length from Int.toNat_natCast _]
 refine jS (fun i ys H'=>∃ ps:List Addr,Same H4 H'∧H' M=some (.lst ys)∧ys=ps.map V.ref∧ps.length=i∧∀ j p,ps[j]? = some p→ListR H' p (plf j)∧p≠M) ⟨[],af hM _,ac,rfl,rfl,fun j p z=>by simp at z⟩ ?_ ?_
 ·rintro i ys H' hi ⟨ps,sm,hl',rfl,hpsl,hps⟩
  have hwi:W[i]? = some W[i]:=List.getElem?_eq_getElem hi
  have hlni:=hln i W[i] hwi
  rw[Nat.zero_add]at hlni
  generalize W[i]=ws at hwi hlni
  rw[Int.zero_add]
  walk_at "rd1"
  refine⟨i,lp,pp,sd,L,W,gB W,kvs,ws,rfl,sm _ _ (s14 _ _ hlp),ok,sm _ _ e2',sm _ _ e3',sm _ _ e4,hkl,hwi,hlni,fun pq H6 s6 hpq hR=>?_⟩
  rw[hpf]at hR
  have hl6:=s6 _ _ hl'
  have npq:pq≠M:=fun z=>by rw[z,hl']at hpq; cases hpq
  refine kH hi (by rw[List.length_map]; omega) (aS (by omega)) hl6 ⟨ps++[pq],(sm.trans s6).upd hM _,ac,by rw[List.map_append]; rfl,by rw[List.length_append,hpsl]; rfl,fun j p z=>?_⟩
  by_cases hj:j<ps.length
  ·rw[List.getElem?_append_left hj]at z
   obtain⟨z1,z2⟩:=hps j p z
   exact⟨(z1.mono s6).x' hl6 SmX.upd z2,z2⟩
  ·rw[List.getElem?_append_right (by omega)]at z
   have hj2:j - ps.length=0:=by have:=(List.getElem?_eq_some_iff.mp z).1; simp at this; omega
   rw[hj2]at z
   cases z
   have:j=i:=by omega
   subst this
   exact⟨hR.x' hl6 SmX.upd npq,npq⟩
 rintro ys H5 ⟨ps,s5,e5,rfl,hpsl,hps⟩
 have s15:=s14.trans s5
 walk_at "nx"
 refine⟨_,.inl (SqL.of (s15 _ _ hlp)),?_⟩
 rw[List.length_map,List.length_map]
 refine⟨0,W.length,d,true,lp,pp,M,W,gB W,plf,T,by simp,by rw[hW,Nat.zero_add],hd,by decide,hPt,⟨s15 _ _ hlp,ok,s5 _ _ e2',⟨ps,e5,hpsl,fun j p z=>(hps j p z).1⟩,fun j=>by rw[← hpf]; exact BD j,hfl⟩,fun rq H6 s6 hrq hR6=>?_⟩
 generalize bU kv d true 0 T=R0 at habs hrs hrl hR6
 obtain⟨rs,r1,r2⟩:=hR6
 have s16:=s15.trans s6
 have e6:=s6 _ _ (s5 _ _ e1')
 have nrd:rq≠dq:=fun z=>by rw[z,s5 _ _ e1']at hrq; cases hrq
 have lrs:=av r2
 walk_at "rd1"
 refine⟨⟨_,r1⟩,?_⟩
 refine mQ (xs:=rs.map V.ref) (fun i σ H'=>∃ (o6 o7:Option V),σ=[some (.ref lp),some (.ref dq),some (.ref pp),some (.ref sd),some (.ref L),some (.ref M),o6,o7]∧SmX dq H6 H'∧ListR H' dq ((cH 0 R0).take i))
  ⟨none,none,rfl,fun _ _ _ z=>z,[],e6,.nil⟩ (fun i σ H' _ hh=>by obtain⟨_,_,_,sx,_⟩:=hh; exact SqL.of (sx _ _ nrd r1)) ?_ ?_
 ·rintro i v t σ H7 hv ⟨o6,o7,rfl,sx,hL⟩ ht
  rw[List.getElem?_map]at hv
  cases hi:rs[i]? with
  | none=>rw[hi]at hv; cases hv
  | some c=>
   rw[hi]at hv; cases hv
   obtain⟨r,hr1,hr2⟩:=b6 r2 hi
   have hil:=(List.getElem?_eq_some_iff.mp hi).1
   have habi:=rh R0 0 i r hr1
   rw[Nat.zero_add]at habi
   have htk:(cH 0 R0).take (i+1)=(cH 0 R0).take i++[cG i r]:=by rw[List.take_add_one,habi]; rfl
   have hlk:((cH 0 R0).take i).length≤40000:=by rw[List.length_take,dk]; omega
   obtain⟨h0,u,rfl,hgo⟩:=hrs r (List.mem_of_getElem? hr1)
   have nct:c≠dq:=b7 (show H6 c=some (.tup (.str h0::u)) from hr2) e6 (fun y=>nomatch y)
   have hr7:=sx _ _ nct hr2
   have st:=af ht (.tup [.int (i:Int),V.ref c])
   have et:upd H7 t (.tup [.int (i:Int),V.ref c]) t=some (.tup [.int (i:Int),V.ref c]):=ac
   generalize upd H7 t (.tup [.int (i:Int),V.ref c])=H8 at st et ⊢
   have L8:=hL.mono st
   have hr8:=st _ _ hr7
   walk_at "rd1"
   refine⟨t,_,rfl,SqT.of et,rfl,?_⟩
   walk_at "rd1"
   refine⟨_,_,.inr (SqT.of hr8),cM,by decide,fun cl hcl=>?_⟩
   have s9:=af hcl (.lst [V.str "test", V.str "jump"])
   have e9:upd H8 cl (.lst [V.str "test", V.str "jump"]) cl=some (.lst ((["test", "jump"]:List Str).map V.str)):=ac
   generalize upd H8 cl (.lst [V.str "test", V.str "jump"])=H9 at s9 e9 ⊢
   have L9:=L8.mono s9
   have hr9:=s9 _ _ hr8
   have x9:SmX dq H6 H9:=sx.trans (SmX.of (st.trans s9))
   refine⟨_,.inl (SqL.of e9),rfl,rfl,?_⟩
   rw[e_]
   refine bA (fun cc=>?_) (fun cc=>?_)
   ·have hg:h0 = "test" ∨ h0 = "jump" := by have:=of_decide_eq_true cc; simpa only[List.mem_cons,List.not_mem_nil,or_false] using this
    obtain⟨v,m,rfl,hv2⟩:=hgo hg
    have hdl:df (.str h0::(v++[.int m])) none (some (-1)) = .str h0::v:=by rw[wC]; exact List.dropLast_concat (l₁:=.str h0::v)
    rw[Cb hg]at htk
    refine gJ (SqT.of hr9) (fun p1 H10 s10 hp1=>?_)
    rw[hdl]at hp1
    refine⟨_,_,.inr (SqT.of (s10 _ _ hr9)),zx (v:=.int m) (by rw[show (V.str h0::(v++[V.int m]))=(V.str h0::v)++[V.int m] from rfl,List.length_append,List.getElem?_append_right (by simp)]; simp),?_⟩
    walk_at "rd1"
    refine⟨by decide,fun p2 hp2=>?_⟩
    have s11:=af hp2 (.tup [V.int ((i:Int)+m)])
    have e11:upd H10 p2 (.tup [V.int ((i:Int)+m)]) p2=some (.tup [V.int ((i:Int)+m)]):=ac
    generalize upd H10 p2 (.tup [V.int ((i:Int)+m)])=H11 at s11 e11 ⊢
    refine⟨_,_,hp1.same s11,SqT.of e11,by simp,aS (by simp only[List.length_cons,List.length_nil]; omega),fun z=>by simp at z,fun _ p3 hp3=>?_⟩
    have s12':=af hp3 (.tup (.str h0::v++[V.int ((i:Int)+m)]))
    have r12:bf (upd H11 p3 (.tup (.str h0::v++[V.int ((i:Int)+m)]))) p3 (.str h0::v++[V.int ((i:Int)+m)]):=ac
    generalize upd H11 p3 (.tup (.str h0::v++[V.int ((i:Int)+m)]))=H12 at s12' r12 ⊢
    have s912:=(s10.trans s11).trans s12'
    have L12:=L9.mono s912
    obtain⟨xs,x1,x2,x3⟩:=gd L12 r12 hlk
    walk_at "nx"
    refine⟨⟨_,SqL.of x1⟩,xs,x1,x2,_,_,rfl,x9.trans ((SmX.of s912).trans SmX.upd),?_⟩
    rw[htk]; exact x3
   ·have hg:¬ (h0 = "test" ∨ h0 = "jump"):=fun z=>cc (decide_eq_true (by simpa only[List.mem_cons,List.not_mem_nil,or_false] using z))
    rw[A2 hg]at htk
    obtain⟨xs,x1,x2,x3⟩:=gd L9 hr9 hlk
    walk_at "nx"
    refine⟨⟨_,SqL.of x1⟩,xs,x1,x2,_,_,rfl,x9.trans SmX.upd,?_⟩
    rw[htk]; exact x3
 ·rintro σ H7 ⟨o6,o7,rfl,sx,hL⟩
  have hlr:(cH 0 R0).length≤30000:=by rw[dk]; exact hrl
  rw[List.length_map,lrs,List.take_of_length_le (by rw[dk]; exact Nat.le_refl _),habs]at hL
  rw[habs]at hlr
  have sm7:Same H H7:=((SmX.of s16).trans sx).same hdq
  walk_at "nx"
  refine⟨_,.inl (SqL.of (sm7 _ _ hlp)),by decide,fun t1 ht1=>?_⟩
  rw[List.length_map,List.length_map]
  have sT:=af ht1 (.tup [V.str "end", V.int (W.length:Int)])
  have rT:bf (upd H7 t1 (.tup [V.str "end", V.int (W.length:Int)])) t1 [.str "end", iN W.length]:=ac
  generalize upd H7 t1 (.tup [V.str "end", V.int (W.length:Int)])=H8 at sT rT ⊢
  refine⟨by decide,fun m1 hm1=>?_⟩
  have s9:=af hm1 (.lst [.ref t1])
  have L1:=eQ rT hm1
  generalize upd H8 m1 (.lst [.ref t1])=H9 at s9 L1 ⊢
  obtain⟨bs1,b1,b2⟩:=L1
  obtain⟨as1,a1,a2⟩:=hL.mono (sT.trans s9)
  refine⟨_,_,a1,b1,dJ a2 b2 (by simp only[List.length_cons,List.length_nil]; omega),fun m2 hm2=>?_⟩
  have s09:=(sm7.trans sT).trans s9
  exact q m2 _ (s09.trans (af hm2 _)) (s09.free hm2) (ee a2 b2 hm2)
def fV:V→Bool
 | .str _=>true
 | .int _=>true
 | _=>false
def yV:Sp:=fun vs H Q _=>∃ (a b:Addr) (r:aP),vs=[.ref a,.ref b]∧bf H a r∧bf H b r∧(∀ v∈r,fV v=true)∧r.length≤100∧∀ H':Hp,Same H H'→Q (.bl true) H'
theorem Ae(D:DefAt K mg "_law_row" bP) (z_isinstance:mg "isinstance" = none) (z_tuple:mg "tuple" = none) (z_len:mg "len" = none) (z_zip:mg "zip" = none) (z_str:mg "str" = none) (z_bool:mg "bool" = none) (z_int:mg "int" = none):bg P w K mg base 1 "_law_row" ["_law_found", "_law_due_here"] yV:=by
 refine D.cal (k:=0) sc_law_row (fun _ _ _ _ _ _ us hl=>match us,hl with | [_,_],_=>rfl) (fun vs H Q E h=>by obtain⟨_,_,_,rfl,_⟩:=h; rfl) (fun f cdv A outer s H vs Q E hr h=>?_)
 obtain⟨a,b,r,rfl,ha,hb,hv,hl,q⟩:=h
 refine⟨_,(ae (bN (PW.pt' (jv (ij (fB (aY eZ z_isinstance cX (aa (pv 0 (hv:=yd)) (aa (gD z_tuple j6 (hg:=DK)) ab)) (hg:=mj)))) (je (aG gw (aY (aK K) z_len bw (aa (pv 0 (hv:=yd)) ab) (hg:=Bs)) (aY (aK K) z_len bw (aa (pv 1 (hv:=A8)) ab) (hg:=Bs)) (bc _))))) (ak (aF d0)) bB)
   (ae (cE PassesOwn.never rfl (lZ K EK z_zip (aa (pv 0 (hv:=yd)) (aa (pv 1 (hv:=A8)) ab))) (dR K (n:=2) (bW (bj 2 sc_law_row.nd (hx:=D2)) (bW (bj 3 sc_law_row.nd (hx:=Ft)) dS))) (ae (bN (PW.pt' (jv (aG gw (aY eZ z_isinstance cX (aa (pv 3 (hv:=AC)) (aa (gD z_str h9 (hg:=x_)) ab)) (hg:=mj)) (aY eZ z_isinstance cX (aa (pv 2 (hv:=qH)) (aa (gD z_str h9 (hg:=x_)) ab)) (hg:=mj)) (bc _)) (jv (fB (aY eZ z_isinstance cX (aa (pv 2 (hv:=qH)) (aa (gD z_bool Ac (hg:=FE)) ab)) (hg:=mj))) (je (aG gw (pv 2 (hv:=qH)) (pv 3 (hv:=AC)) (bc _)))))) (ak (aF d0)) bB)
   (ak (bN (PW.pt' (gv (ij (fB (aY eZ z_isinstance cX (aa (pv 2 (hv:=qH)) (aa (gD z_str h9 (hg:=x_)) ab)) (hg:=mj)))) (h_ (ij (fB (aY eZ z_isinstance cX (aa (pv 2 (hv:=qH)) (aa (gD z_int ip (hg:=F3)) ab)) (hg:=mj))))))) (ak (aF d0)) bB))))
   (ak (aF d0)))),?_⟩
 walk_at "rd1"
 refine⟨"tuple", by simp[cU,show H a=_ from ha],by decide,?_⟩
 rw[if_neg (by decide)]
 refine⟨_,.inr (SqT.of ha),_,.inr (SqT.of hb),?_⟩
 rw[if_neg (by simp)]
 walk_at "nx"
 refine⟨⟨_,SqT.of ha⟩,⟨_,SqT.of hb⟩,?_⟩
 refine jm (xs:=r) (ys:=r) (fun i σ H'=>∃ o2 o3:Option V,σ=[some (.ref a),some (.ref b),o2,o3]∧Same H H') rfl ⟨_,_,rfl,fun _ _ z=>z⟩ (fun i σ H' _ h=>by obtain⟨_,_,_,sm⟩:=h; exact⟨SqT.of (sm _ _ ha),SqT.of (sm _ _ hb)⟩) ?_ ?_
 ·rintro i x y t σ H' hx hy ⟨o2,o3,rfl,sm⟩ ht
  rw[hx]at hy
  cases hy
  have hfv:=hv x (List.mem_of_getElem? hx)
  have st:=af ht (.tup [x,x])
  have et:upd H' t (.tup [x,x]) t=some (.tup [x,x]):=ac
  generalize upd H' t (.tup [x,x])=H2 at st et ⊢
  walk_at "rd1"
  refine⟨t,_,rfl,SqT.of et,rfl,?_⟩
  cases x with
  | str z=>
   walk_at "rd1"
   refine⟨"str", rfl,by decide, "str", rfl,by decide,?_⟩
   rw[if_neg (by decide)]
   refine⟨"str", rfl,by decide,?_⟩
   rw[if_neg (by decide),if_neg (by decide)]
   walk_at "nx"
   refine⟨"str", rfl,by decide,?_⟩
   rw[if_neg (by decide)]
   exact⟨_,_,rfl,sm.trans st⟩
  | int z=>
   walk_at "rd1"
   refine⟨"int", rfl,by decide, "int", rfl,by decide,?_⟩
   rw[if_neg (by decide)]
   refine⟨"int", rfl,by decide,?_⟩
   rw[if_neg (by decide),if_neg (by decide)]
   walk_at "nx"
   refine⟨"int", rfl,by decide,?_⟩
   rw[if_pos (by decide)]
   refine⟨"int", rfl,by decide,?_⟩
   rw[if_neg (by decide)]
   exact⟨_,_,rfl,sm.trans st⟩
  | _=>cases hfv
 ·rintro σ H' ⟨o2,o3,rfl,sm⟩
  walk_at "nx"
  exact q H' sm
end
def mJ(r:aP):Prop:=(∀ v∈r,fV v=true)∧r.length≤100
theorem qi(ks:List ax):∀ (i:Nat) (k:ax) (v:V),aM (fG ks i) k=some v→∃ n:Nat,v=iN n
 | 0,_,_,h=>by cases h
 | i+1,k,v,h=>by
  rw[fY,dg]at h
  split at h
  ·exact⟨i,(Option.some.inj h).symm⟩
  ·exact qi ks i k v h
theorem Bg{ks:List ax}{k:ax}(h:d_ (fP ks) k):fV (aN (fP ks) k)=true:=by
 obtain⟨n,e⟩:=qi ks ks.length k _ h
 rw[e]; rfl
theorem yS{h:Str}{x y:V}(hx:fV x=true)(hy:fV y=true):mJ [.str h,x,y]:=⟨fun v hv=>by
 simp only[List.mem_cons,List.not_mem_nil,or_false]at hv
 rcases hv with rfl | rfl | rfl
 ·rfl
 ·exact hx
 ·exact hy,by simp⟩
theorem mN{h:Str}{x y z:V}(hx:fV x=true)(hy:fV y=true)(hz:fV z=true):mJ [.str h,x,y,z]:=⟨fun v hv=>by
 simp only[List.mem_cons,List.not_mem_nil,or_false]at hv
 rcases hv with rfl | rfl | rfl | rfl
 ·rfl
 ·exact hx
 ·exact hy
 ·exact hz,by simp⟩
section
variable{kv:List (ax × V)}
theorem vv(hk:∀ k,d_ kv k→fV (aN kv k)=true){l:Nat}{ws:List Str}(px:cN ws)(hn:∀ n∈bY ws,d_ kv (.inr n)):mJ (cL kv l ws):=by
 unfold cL
 by_cases c:ws.headD "" = "do"
 ·rw[if_pos c]
  unfold bY at hn
  rw[if_pos c]at hn
  cases px with
  | dd u x=>exact mN rfl (hk _ (hn x (by simp))) rfl
  | op x=>exact absurd c (show ¬ ("open" : Str) = "do" by decide +kernel)
  | dr x=>exact absurd c (show ¬ ("drop" : Str) = "do" by decide +kernel)
  | cp x y=>exact absurd c (show ¬ ("copy" : Str) = "do" by decide +kernel)
  | ti x y=>exact absurd c (show ¬ ("tie" : Str) = "do" by decide +kernel)
 ·rw[if_neg c]
  unfold bY at hn
  rw[if_neg c]at hn
  refine⟨fun v hv=>?_,?_⟩
  ·rcases List.mem_cons.mp hv with rfl | hv
   ·rfl
   rcases List.mem_cons.mp hv with rfl | hv
   ·rfl
   obtain⟨n,h1,rfl⟩:=List.mem_map.mp hv
   exact hk _ (hn n h1)
  ·cases px <;> simp
theorem rM(hk:∀ k,d_ kv k→fV (aN kv k)=true):∀ (d:Nat) (t:Bool) (a l:Nat) (T:List Stp),bR d T→eI kv d l T→∀ r∈bF kv d t a l T,mJ r
 | 0,_,_,_,_,h,_=>h.elim
 | d+1,t,a,l,T,hf,hkl=>by
  have ih:=rM hk d
  have st:∀ (s:Stp) (a l:Nat),dy (bR d) s→lT kv (eI kv d) (aj d) l s→∀ r∈fM kv (bF kv d) (aj d) t a l s,mJ r:=fun s a l hs hk' r hr=>by
   cases s with
   | plain ws=>rw[List.mem_singleton.mp hr]; exact vv hk hs.1 hk'.2
   | lend x y b=>
    obtain⟨k1,k2,k3,k4⟩:=hk'
    have f1:=hk _ k1
    have f2:=hk _ k2
    have f3:=hk _ k3
    rcases List.mem_append.mp hr with hr | hr
    ·rcases List.mem_append.mp hr with hr | hr
     ·simp only[List.mem_cons,List.not_mem_nil,or_false]at hr
      rcases hr with rfl | rfl | rfl
      ·exact mN rfl f3 f1
      ·exact mN rfl f3 rfl
      ·exact mN rfl f2 f3
     ·exact ih t _ _ b hs.2.2 k4 r hr
    ·simp only[List.mem_cons,List.not_mem_nil,or_false]at hr
     rcases hr with rfl | rfl | rfl
     ·exact mN rfl f3 rfl
     ·exact yS rfl f2
     ·exact yS rfl f3
   | ite n b c=>
    rcases List.mem_append.mp hr with hr | hr
    ·rcases List.mem_append.mp hr with hr | hr
     ·rcases List.mem_append.mp hr with hr | hr
      ·rw[List.mem_singleton.mp hr]; exact mN rfl rfl rfl
      ·exact ih t _ _ b hs.2.1 hk'.1 r hr
     ·rw[List.mem_singleton.mp hr]; exact yS rfl rfl
    ·exact ih t _ _ c hs.2.2 hk'.2 r hr
   | whl n b=>
    have lp:∀ a,r∈eW (bF kv d) (aj d) a l n b→mJ r:=fun a hr=>by
     rcases List.mem_append.mp hr with hr | hr
     ·rcases List.mem_append.mp hr with hr | hr
      ·rw[List.mem_singleton.mp hr]; exact mN rfl rfl rfl
      ·exact ih false _ _ b hs.2 hk' r hr
     ·rw[List.mem_singleton.mp hr]; exact yS rfl rfl
    have hr':r∈dH (bF kv d) (aj d) t a l n b:=hr
    unfold dH at hr'
    split at hr'
    ·rcases List.mem_append.mp hr' with hr | hr
     ·rcases List.mem_append.mp hr with hr | hr
      ·rw[List.mem_singleton.mp hr]; exact mN rfl rfl rfl
      ·exact ih true _ _ b hs.2 hk' r hr
     ·exact lp _ hr
    ·exact lp _ hr'
  have go:∀ (T:List Stp) (a l:Nat),(∀ s∈T,dy (bR d) s)→(∀ z∈dA (aU (aj d)) l T,lT kv (eI kv d) (aj d) z.1 z.2)→∀ r∈cY (fM kv (bF kv d) (aj d) t) (aU (aj d)) a l T,mJ r:=fun T=>by
   induction T with
   | nil=>intro a l _ _ r hr; cases hr
   | cons s T ihT=>
    intro a l hf hz r hr
    rcases List.mem_append.mp hr with hr | hr
    ·exact st s a l (hf s List.mem_cons_self) (hz _ List.mem_cons_self) r hr
    ·exact ihT _ _ (fun s hs=>hf s (List.mem_cons_of_mem _ hs)) (fun z h=>hz z (List.mem_cons_of_mem _ h)) r hr
  exact go T a l hf hkl
end
theorem zP{d:Nat}{t:Bool}{T:List Stp}(hf:bR d T):∀ r∈jE (cQ ((bQ d T).flatMap bo)) d t T,mJ r:=by
 have hnm:gT (fun n=>n∈cQ ((bQ d T).flatMap bo)) d T:=jc d T (gP hf) fun n hn=>jz hn
 intro r hr
 rcases List.mem_append.mp hr with hr | hr
 ·exact rM (fun k=>Bg) d t 0 0 T hf (mr d 0 T (fun i s e=>by rw[Nat.zero_add]; exact e) hnm) r hr
 ·rw[List.mem_singleton.mp hr]
  refine⟨fun v hv=>?_,by simp⟩
  simp only[List.mem_cons,List.not_mem_nil,or_false]at hv
  rcases hv with rfl | rfl <;> rfl
section
variable{P:Program}{w:World}{K:PySem.W.Frag}{mg:Str→Option Value}{base:Heap}
theorem pU(B:Nat):∀ (ws:List Str) (k:Str),(∀ x∈ws,x.length≤B)→(ws.foldl (fun a x=>a++(" " : Str)++x) k).length≤k.length+ws.length * (B+1)
 | [],k,_=>by simp
 | x::ws,k,h=>by
  have ih:=pU B ws (k++(" " : Str)++x) fun z hz=>h z (List.mem_cons_of_mem _ hz)
  have hx:=h x List.mem_cons_self
  have h1:(Str.ofString " ").length=1:=by decide
  rw[Str.length_append,Str.length_append,h1]at ih
  rw[List.foldl_cons,List.length_cons,Nat.succ_mul]
  omega
theorem jH(B:Nat){k:Str}{ws:List Str}(h:∀ x∈k::ws,x.length≤B):(Txt.join " " (k::ws)).length≤B+ws.length * (B+1):=by
 rw[ej]
 have:=pU B ws k fun z hz=>h z (List.mem_cons_of_mem _ hz)
 have:=h k List.mem_cons_self
 omega
theorem qL{f:List Stp→List Str}{g:List Stp→Prop}(h:∀ b,g b→∀ x∈f b,x.length≤5000):∀ {s:Stp},qj g s→∀ x∈bT f s,x.length≤5000
 | .plain ws,ok,x,hx=>by
  have e:x=Txt.join " " ws:=by simpa [bT] using hx
  subst e
  cases ws with
  | nil=>have:=ok.two; simp at this
  | cons k ws=>
   have:=jH 20 ok.len
   have h3:=ok.three
   rw[List.length_cons]at h3
   have:ws.length * 21≤2 * 21:=Nat.mul_le_mul (by omega) (Nat.le_refl _)
   omega
 | .lend u v b,⟨o1,o2,o3⟩,x,hx=>by
  simp only[bT,List.mem_cons,List.mem_append,List.not_mem_nil,or_false]at hx
  rcases hx with rfl | hx | rfl
  ·have:=jH 20 (k := "lend") (ws:=[u,v]) (fun z hz=>by
    simp only[List.mem_cons,List.not_mem_nil,or_false]at hz
    rcases hz with rfl | rfl | rfl
    ·decide
    ·exact o1
    ·exact o2)
   simp only[List.length_cons,List.length_nil]at this
   omega
  ·exact h b o3 x hx
  ·decide
 | .ite n b c,⟨o1,o2,o3⟩,x,hx=>by
  simp only[bT,List.mem_cons,List.mem_append,List.not_mem_nil,or_false]at hx
  rcases hx with rfl | (hx | rfl) | hx | rfl
  ·have:=jH 1921 (k := "if") (ws:=[bH n]) (fun z hz=>by
    simp only[List.mem_cons,List.not_mem_nil,or_false]at hz
    rcases hz with rfl | rfl
    ·decide
    ·exact iq o1)
   simp only[List.length_cons,List.length_nil]at this
   omega
  ·exact h b o2 x hx
  ·decide
  ·exact h c o3 x hx
  ·decide
 | .whl n b,⟨o1,o2⟩,x,hx=>by
  simp only[bT,List.mem_cons,List.mem_append,List.not_mem_nil,or_false]at hx
  rcases hx with rfl | hx | rfl
  ·have:=jH 1921 (k := "while") (ws:=[bH n]) (fun z hz=>by
    simp only[List.mem_cons,List.not_mem_nil,or_false]at hz
    rcases hz with rfl | rfl
    ·decide
    ·exact iq o1)
   simp only[List.length_cons,List.length_nil]at this
   omega
  ·exact h b o2 x hx
  ·decide
theorem rK:∀ {d:Nat} {T:List Stp},dZ d T→∀ x∈b5 d T,x.length≤5000
 | 0,_,h,_,_=>h.elim
 | d+1,T,h,x,hx=>by
  obtain⟨s,hs,hx⟩:=List.mem_flatMap.mp hx
  exact qL (fun b z=>rK z) (h s hs) x hx
theorem vM{j k:Nat}{x:Str}{ps:List Str}{sp:Sp}(c:bg P w K mg base j x ps sp)(h:j≤k):bg P w K mg base k x ps sp:=by
 obtain⟨f,fd,F,r⟩:=c.ex
 exact⟨f,fd,F.mono h,r⟩
theorem zV{k:Nat}{x:Str}{ps:List Str}{sp sp':Sp}(c:bg P w K mg base k x ps sp)(h:∀ vs H Q E,sp' vs H Q E→sp vs H Q E):bg P w K mg base k x ps sp':=by
 obtain⟨f,fd,F,r⟩:=c.ex
 exact⟨f,fd,F.imp h,r⟩
def NOt(H:Hp)(p:Addr)(NM:List Str):Prop:=∃ (T:List Stp) (S:Addr→Prop),ProgAt S 10 H p T∧jg 10 T∧(bQ 10 T).length≤1000∧((bQ 10 T).flatMap bo).length≤5000∧NM=cQ ((bQ 10 T).flatMap bo)
theorem NOt.mono{H H':Hp}{p:Addr}{NM:List Str}(h:NOt H p NM)(s:Same H H'):NOt H' p NM:=by
 obtain⟨T,S,h1,h2⟩:=h
 exact⟨T,S,h1.mono s,h2⟩
theorem xa{k:Nat}(c:bg P w K mg base k "names_of" ["program"] mR):bg P w K mg base k "names_of" ["program"] (Ba NOt):=zV c fun vs H Q E h=>by
 obtain⟨p,NM,rfl,⟨T,S,h1,h2,h3,h4,rfl⟩,q⟩:=h
 exact⟨p,T,S,rfl,h1,h2,h3,h4,q⟩
theorem yA{f:List Stp→List Stp}{g:List Stp→Nat}(h:∀ b,(f b).length≤g b):∀ s:Stp,(eS f s).length≤aU g s
 | .plain _=>by simp[eS,dL,aU]
 | .lend _ _ b=>by have:=h b; simp[eS,dL,aU]; omega
 | .ite _ b c=>by have:=h b; have:=h c; simp[eS,dL,aU]; omega
 | .whl _ b=>by have:=h b; simp[eS,dL,aU]; omega
theorem lB:∀ (d:Nat) (T:List Stp),(bQ d T).length≤aj d T
 | 0,_=>Nat.le_refl _
 | d+1,T=>by
  show (T.flatMap (eS (bQ d))).length≤(T.map (aU (aj d))).sum
  induction T with
  | nil=>exact Nat.le_refl _
  | cons s T ih=>
   have:=yA (lB d) s
   rw[List.flatMap_cons,List.length_append,List.map_cons,List.sum_cons]; omega
theorem Cm{g:List Stp→Prop}:∀ {s:Stp},fu g s→(bo s).length≤2
 | .plain ws,h=>by cases (show fw ws from h) <;> simp[bo] <;> split <;> simp
 | .lend _ _ _,_=>by simp[bo]
 | .ite _ _ _,_=>by simp[bo]
 | .whl _ _,_=>by simp[bo]
theorem vw{d:Nat}{T:List Stp}(h:jg d T):((bQ d T).flatMap bo).length≤2 * aj d T:=by
 have h1:=lB d T
 have h2:=pE d h
 have go:∀ X:List Stp,(∀ s∈X,∃ g:List Stp→Prop,fu g s)→(X.flatMap bo).length≤2 * X.length:=fun X=>by
  induction X with
  | nil=>intro _; exact Nat.le_refl _
  | cons s X ih=>
   intro hx
   obtain⟨g,hg⟩:=hx s List.mem_cons_self
   have:=Cm hg
   have:=ih fun u hu=>hx u (List.mem_cons_of_mem _ hu)
   rw[List.flatMap_cons,List.length_append,List.length_cons]; omega
 have:=go _ h2
 omega
theorem By{f:Addr}{fd:FuncData}(F:Fun K "law" "law" bX f fd) (c_law_cell_at:bg P w K mg base 1 "_law_cell_at" ["_law_script", "_law_k"] (vz K)) (c_law_names:bg P w K mg base 1 "_law_names" ["_law_cell"] oU) (c_law_program:bg P w K mg base 3 "_law_program" ["_law_cells", "_law_names_here"] nA) (z_isinstance:mg "isinstance" = none) (z_list:mg "list" = none) (z_len:mg "len" = none) (z_zip:mg "zip" = none) (c_law_due:bg P w K mg base 13 "_law_due" ["_law_lines"] zg) (c_turned_code:bg P w K mg base 35 "turned_code" ["program"] (pD NOt 10)) (c_law_row:bg P w K mg base 1 "_law_row" ["_law_found", "_law_due_here"] yV):FnOk P w K mg base jh 36 f fd ["_law_script"] (nP K):=by
 refine F.ok sc_law (fun vs H Q E h=>by obtain⟨a,ns,rfl,_⟩:=h; rfl) (fun cdv A outer s H vs Q E hr h=>?_)
 obtain⟨a,ns,rfl,hS,hn,q⟩:=h
 refine⟨_,(ae (im (aJ c_law_program hr (aa (cj (gM K) (pv 0 (hv:=BV)) (cr ai) (cr ai)) (aa (aJ c_law_names hr (aa (aJ c_law_cell_at hr (aa (pv 0 (hv:=BV)) (aa ai ab)) (hg:=Eh)) ab) (hg:=DF)) ab)) (hg:=DE)) (dR K (n:=2) (bW (bj 1 sc_law.nd (hx:=FP)) (bW (bj 2 sc_law.nd (hx:=Em)) dS))))
   (ae (ar 3 sc_law.nd (aJ c_law_due hr (aa (pv 2 (hv:=DM)) ab) (hg:=DY)) (hx:=Fm))
   (ae (ar 4 sc_law.nd (aJ c_turned_code hr (aa (pv 1 (hv:=D6)) ab) (hg:=EF)) (hx:=Ex))
   (ae (bN (PW.pt' (jv (ij (fB (aY eZ z_isinstance cX (aa (pv 4 (hv:=yy)) (aa (gD z_list rN (hg:=Eu)) ab)) (hg:=Ep)))) (je (aG gw (aY (aK K) z_len bw (aa (pv 4 (hv:=yy)) ab) (hg:=Cf)) (aY (aK K) z_len bw (aa (pv 3 (hv:=Aj)) ab) (hg:=Cf)) (bc _))))) (ak (aF d0)) bB)
   (ae (cE PassesOwn.never rfl (zN K EB z_zip (aa (pv 4 (hv:=yy)) (aa (pv 3 (hv:=Aj)) ab))) (dR K (n:=2) (bW (bj 5 sc_law.nd (hx:=FS)) (bW (bj 6 sc_law.nd (hx:=EE)) dS))) (ak (bN (ij (fB (aJ c_law_row hr (aa (pv 5 (hv:=ET)) (aa (pv 6 (hv:=Fz)) ab)) (hg:=DA)))) (ak (aF d0)) bB)))
   (ak (aF d0))))))),?_⟩
 walk_at "rd1"
 refine⟨_,hS,fun cp hcp=>?_⟩
 rw[zX]
 have hcl:=xZ ns (some 1) (some 201)
 have s1:=af hcp (.lst ((jb ns (some 1) (some 201)).map V.int))
 have e1:upd H cp (.lst ((jb ns (some 1) (some 201)).map V.int)) cp=some (.lst ((jb ns (some 1) (some 201)).map V.int)):=ac
 generalize hcs:jb ns (some 1) (some 201)=cs at hcl s1 e1 ⊢
 generalize upd H cp (.lst (cs.map V.int))=H1 at s1 e1 ⊢
 refine⟨a,ns,0,rfl,s1.seq hS,by decide,?_⟩
 walk_at "rd1"
 refine⟨_,rfl,fun np H2 s2 hnp hl1 n1 n7 hb hfree=>?_⟩
 generalize jL (ns.getD (Int.toNat 0) 0)=nm at hl1 n1 n7 hb hfree
 have ok:NmOk nm:=⟨n1,n7,hb⟩
 refine⟨cp,np,cs,nm,rfl,s2 _ _ e1,hl1,ok,by omega,fun t root lp H3 S as sm3 ht3 hroot hlp hrl hSr hSl hr3 hst3 okt hl3 hlen hal=>?_⟩
 have fine:=tP n1 hfree 60 cs
 walk_at "rd1"
 refine⟨t,_,rfl,SqT.of ht3,rfl,?_⟩
 walk_at "rd1"
 have prog:∀ {H':Hp},Same H3 H'→ProgAt (fun b=>S b∨b=root) 10 H' root (cP 60 nm cs).cur:=fun {H'} sm=>⟨.inr rfl,as,sm _ _ hr3,Paired.imp' (fun a s z=>stpAt.imp (fun b xs e=>sm _ _ e) (fun q b y=>ProgAt.imp (fun b xs e=>sm _ _ e) (fun b xs _ e=>sm _ _ e) (fun b z=>.inl z) 9 y) z) hst3⟩
 have hcnt:aj 10 (cP 60 nm cs).cur≤100:=by rw[← iY]; exact hlen
 have okn:=gP fine
 have hpc:=lB 10 (cP 60 nm cs).cur
 have hnf:=vw okn
 have hwl:=uE 10 (cP 60 nm cs).cur
 have hsz:=rK okt
 have hnl:(cQ ((bQ 10 (cP 60 nm cs).cur).flatMap bo)).length≤1000:=by
  have:=gm ((bQ 10 (cP 60 nm cs).cur).flatMap bo) []
  rw[List.length_nil]at this
  unfold cQ; omega
 have hnT:=gE 10 _ fine
 have cin:∀ {H':Hp},Same H3 H'→pQ NOt H' root 10 (cP 60 nm cs).cur (cQ ((bQ 10 (cP 60 nm cs).cur).flatMap bo)):=fun {H'} sm=>
  ⟨⟨_,prog sm⟩,okt,⟨_,_,prog sm,okn,by omega,by omega,rfl⟩,kT 10 (prog sm) okt,jc 10 _ okn (fun n hn=>jz hn),by omega,hnl,by decide⟩
 have wok:og (bO 10 (cP 60 nm cs).cur):=⟨ul fine,fun ws hw=>hsz _ (by rw[hwl]; exact List.mem_map.mpr ⟨ws,hw,rfl⟩),by rw[cI]; omega,by rw[hnT]; omega⟩
 have hcf:=zP (t:=true) fine
 walk_at "nx"
 refine⟨lp,10,_,rfl,by show H3 lp=_; rw[← hwl]; exact hl3,wok,fine,by decide,fun dq H4 s4 hdq hD=>?_⟩
 walk_at "nx"
 refine⟨root,_,_,rfl,cin s4,fun fq H5 s5 hfq hF=>?_⟩
 obtain⟨as1,a1,a2⟩:=hF
 obtain⟨bs1,b1,b2⟩:=hD.mono s5
 have la:=av a2
 have lb:=av b2
 walk_at "nx"
 refine⟨"list", by simp[cU,a1],by decide,?_⟩
 rw[if_neg (by decide)]
 refine⟨_,.inl (SqL.of a1),_,.inl (SqL.of b1),?_⟩
 rw[if_neg (by simp[la,lb])]
 walk_at "nx"
 refine⟨⟨_,SqL.of a1⟩,⟨_,SqL.of b1⟩,?_⟩
 refine yt (xs:=as1.map V.ref) (ys:=bs1.map V.ref) (fun i σ H'=>∃ o2 o3:Option V,σ=[some (.ref a),some (.ref root),some (.ref lp),some (.ref dq),some (.ref fq),o2,o3]∧Same H5 H') (by rw[List.length_map,List.length_map,la,lb]) ⟨_,_,rfl,fun _ _ z=>z⟩ (fun i σ H' _ h=>by obtain⟨_,_,_,sm⟩:=h; exact⟨SqL.of (sm _ _ a1),SqL.of (sm _ _ b1)⟩) ?_ ?_
 ·rintro i x y t σ H' hx hy ⟨o2,o3,rfl,sm⟩ ht
  have hi:i<as1.length:=by have:=(List.getElem?_eq_some_iff.mp hx).1; simpa using this
  have hi':i<bs1.length:=by omega
  rw[List.getElem?_map,List.getElem?_eq_getElem hi]at hx
  rw[List.getElem?_map,List.getElem?_eq_getElem hi']at hy
  cases hx
  cases hy
  obtain⟨r,hr1,hr2⟩:=b6 a2 (List.getElem?_eq_getElem hi)
  obtain⟨r',hr1',hr2'⟩:=b6 b2 (List.getElem?_eq_getElem hi')
  rw[hr1]at hr1'
  cases hr1'
  obtain⟨f1,f2⟩:=hcf r (List.mem_of_getElem? hr1)
  have st:=af ht (.tup [V.ref as1[i],V.ref bs1[i]])
  have et:upd H' t (.tup [V.ref as1[i],V.ref bs1[i]]) t=some (.tup [V.ref as1[i],V.ref bs1[i]]):=ac
  generalize upd H' t (.tup [V.ref as1[i],V.ref bs1[i]])=H2 at st et ⊢
  have s02:=sm.trans st
  walk_at "rd1"
  refine⟨t,_,rfl,SqT.of et,rfl,?_⟩
  walk_at "rd1"
  refine⟨_,_,r,rfl,s02 _ _ hr2,s02 _ _ hr2',f1,f2,fun H3 s3=>?_⟩
  walk_at "rd1"
  exact⟨_,_,rfl,s02.trans s3⟩
 ·rintro σ H' ⟨o2,o3,rfl,sm⟩
  walk_at "nx"
  exact q H'
end
theorem xo{K:PySem.W.Frag}{a0 a1 a2 a3 a4 a5 a6 a7:Addr}(q0:∀ H:Hp,SqT K H a0 [.str "name"]) (q1:∀ H:Hp,SqT K H a1 [.str "word", .str "name"]) (q2:∀ H:Hp,SqT K H a2 [.str "name", .str "name"]) (q3:∀ H:Hp,SqT K H a3 [.str "name"]) (q4:∀ H:Hp,SqT K H a4 [.str "name", .str "name"]) (q5:∀ H:Hp,SqT K H a5 [.str "name", .str "name", .str "steps"]) (q6:∀ H:Hp,SqT K H a6 [.str "bound", .str "steps", .str "steps"]) (q7:∀ H:Hp,SqT K H a7 [.str "bound", .str "steps"]) :
  ∀ kind ks,(kind,ks)∈dQ→∃ a,aM [(("open" : Str),V.ref a0),(("do" : Str),V.ref a1),(("copy" : Str),V.ref a2),(("drop" : Str),V.ref a3),(("tie" : Str),V.ref a4),(("lend" : Str),V.ref a5),(("if" : Str),V.ref a6),(("while" : Str),V.ref a7)] kind=some (.ref a)∧∀ H:Hp,SqT K H a (ks.map V.str):=by
 intro kind ks h
 simp only[dQ,List.mem_cons,Prod.mk.injEq,List.mem_nil_iff,or_false]at h
 rcases h with ⟨rfl,rfl⟩ | ⟨rfl,rfl⟩ | ⟨rfl,rfl⟩ | ⟨rfl,rfl⟩ | ⟨rfl,rfl⟩ | ⟨rfl,rfl⟩ | ⟨rfl,rfl⟩ | ⟨rfl,rfl⟩
 ·exact⟨a0,rfl,q0⟩
 ·exact⟨a1,rfl,q1⟩
 ·exact⟨a2,rfl,q2⟩
 ·exact⟨a3,rfl,q3⟩
 ·exact⟨a4,rfl,q4⟩
 ·exact⟨a5,rfl,q5⟩
 ·exact⟨a6,rfl,q6⟩
 ·exact⟨a7,rfl,q7⟩
theorem all_mk{l:PySem.W.OpenLaw}{w:World}{K:PySem.W.Frag}{h:Heap}{mg:Str→Option Value}{fa:Addr}(X:K.In h)(G:h.Ns mainGlobals mg)(hfa:mg "law" = some (.ref fa))
  {f0:Addr} {od0 an0:Option Addr} {sl0:Array (Option Value)} {oc0 kV0 dc0 pm0 cd0 ct0:Value} {f1:Addr} {od1 an1:Option Addr} {sl1:Array (Option Value)} {oc1 kV1 dc1 pm1 cd1 ct1:Value} {f2:Addr} {od2 an2:Option Addr} {sl2:Array (Option Value)} {oc2 kV2 dc2 pm2 cd2 ct2:Value} {f3:Addr} {od3 an3:Option Addr} {sl3:Array (Option Value)} {oc3 kV3 dc3 pm3 cd3 ct3:Value} {f4:Addr} {od4 an4:Option Addr} {sl4:Array (Option Value)} {oc4 kV4 dc4 pm4 cd4 ct4:Value} {f5:Addr} {od5 an5:Option Addr} {sl5:Array (Option Value)} {oc5 kV5 dc5 pm5 cd5 ct5:Value} {f6:Addr} {od6 an6:Option Addr} {sl6:Array (Option Value)} {oc6 kV6 dc6 pm6 cd6 ct6:Value} {f7:Addr} {od7 an7:Option Addr} {sl7:Array (Option Value)} {oc7 kV7 dc7 pm7 cd7 ct7:Value} {f8:Addr} {od8 an8:Option Addr} {sl8:Array (Option Value)} {oc8 kV8 dc8 pm8 cd8 ct8:Value} {f9:Addr} {od9 an9:Option Addr} {sl9:Array (Option Value)} {oc9 kV9 dc9 pm9 cd9 ct9:Value} {f10:Addr} {od10 an10:Option Addr} {sl10:Array (Option Value)} {oc10 kV10 dc10 pm10 cd10 ct10:Value} {f11:Addr} {od11 an11:Option Addr} {sl11:Array (Option Value)} {oc11 kV11 dc11 pm11 cd11 ct11:Value} {f12:Addr} {od12 an12:Option Addr} {sl12:Array (Option Value)} {oc12 kV12 dc12 pm12 cd12 ct12:Value} {f13:Addr} {od13 an13:Option Addr} {sl13:Array (Option Value)} {oc13 kV13 dc13 pm13 cd13 ct13:Value} {f14:Addr} {od14 an14:Option Addr} {sl14:Array (Option Value)} {oc14 kV14 dc14 pm14 cd14 ct14:Value} {f15:Addr} {od15 an15:Option Addr} {sl15:Array (Option Value)} {oc15 kV15 dc15 pm15 cd15 ct15:Value} {f16:Addr} {od16 an16:Option Addr} {sl16:Array (Option Value)} {oc16 kV16 dc16 pm16 cd16 ct16:Value} {f17:Addr} {od17 an17:Option Addr} {sl17:Array (Option Value)} {oc17 kV17 dc17 pm17 cd17 ct17:Value} {f18:Addr} {od18 an18:Option Addr} {sl18:Array (Option Value)} {oc18 kV18 dc18 pm18 cd18 ct18:Value} {f19:Addr} {od19 an19:Option Addr} {sl19:Array (Option Value)} {oc19 kV19 dc19 pm19 cd19 ct19:Value} {f20:Addr} {od20 an20:Option Addr} {sl20:Array (Option Value)} {oc20 kV20 dc20 pm20 cd20 ct20:Value} {f21:Addr} {od21 an21:Option Addr} {sl21:Array (Option Value)} {oc21 kV21 dc21 pm21 cd21 ct21:Value} {f22:Addr} {od22 an22:Option Addr} {sl22:Array (Option Value)} {oc22 kV22 dc22 pm22 cd22 ct22:Value} {f23:Addr} {od23 an23:Option Addr} {sl23:Array (Option Value)} {oc23 kV23 dc23 pm23 cd23 ct23:Value} {f24:Addr} {od24 an24:Option Addr} {sl24:Array (Option Value)} {oc24 kV24 dc24 pm24 cd24 ct24:Value} {f25:Addr} {od25 an25:Option Addr} {sl25:Array (Option Value)} {oc25 kV25 dc25 pm25 cd25 ct25:Value} {f26:Addr} {od26 an26:Option Addr} {sl26:Array (Option Value)} {oc26 kV26 dc26 pm26 cd26 ct26:Value} {f27:Addr} {od27 an27:Option Addr} {sl27:Array (Option Value)} {oc27 kV27 dc27 pm27 cd27 ct27:Value} {f28:Addr} {od28 an28:Option Addr} {sl28:Array (Option Value)} {oc28 kV28 dc28 pm28 cd28 ct28:Value} {f29:Addr} {od29 an29:Option Addr} {sl29:Array (Option Value)} {oc29 kV29 dc29 pm29 cd29 ct29:Value} {f30:Addr} {od30 an30:Option Addr} {sl30:Array (Option Value)} {oc30 kV30 dc30 pm30 cd30 ct30:Value} {f31:Addr} {od31 an31:Option Addr} {sl31:Array (Option Value)} {oc31 kV31 dc31 pm31 cd31 ct31:Value} {f32:Addr} {od32 an32:Option Addr} {sl32:Array (Option Value)} {oc32 kV32 dc32 pm32 cd32 ct32:Value} {C_NumberedStep:Addr} {fNumberedStep___init__:Addr} {odNumberedStep___init__ anNumberedStep___init__:Option Addr} {slNumberedStep___init__:Array (Option Value)} {ocNumberedStep___init__ kVNumberedStep___init__ dcNumberedStep___init__ pmNumberedStep___init__ cdNumberedStep___init__ ctNumberedStep___init__:Value} {d_PARTS:Addr} {n_PARTS:Nat} {k_PARTS_0:Tok} {a_PARTS_0:Addr} {od_PARTS_0:Option Addr} {m_PARTS_0:Nat} {sl_PARTS_0:Array (Option Value)} {k_PARTS_0_0:Tok} {k_PARTS_1:Tok} {a_PARTS_1:Addr} {od_PARTS_1:Option Addr} {m_PARTS_1:Nat} {sl_PARTS_1:Array (Option Value)} {k_PARTS_1_0:Tok} {k_PARTS_1_1:Tok} {k_PARTS_2:Tok} {a_PARTS_2:Addr} {od_PARTS_2:Option Addr} {m_PARTS_2:Nat} {sl_PARTS_2:Array (Option Value)} {k_PARTS_2_0:Tok} {k_PARTS_2_1:Tok} {k_PARTS_3:Tok} {a_PARTS_3:Addr} {od_PARTS_3:Option Addr} {m_PARTS_3:Nat} {sl_PARTS_3:Array (Option Value)} {k_PARTS_3_0:Tok} {k_PARTS_4:Tok} {a_PARTS_4:Addr} {od_PARTS_4:Option Addr} {m_PARTS_4:Nat} {sl_PARTS_4:Array (Option Value)} {k_PARTS_4_0:Tok} {k_PARTS_4_1:Tok} {k_PARTS_5:Tok} {a_PARTS_5:Addr} {od_PARTS_5:Option Addr} {m_PARTS_5:Nat} {sl_PARTS_5:Array (Option Value)} {k_PARTS_5_0:Tok} {k_PARTS_5_1:Tok} {k_PARTS_5_2:Tok} {k_PARTS_6:Tok} {a_PARTS_6:Addr} {od_PARTS_6:Option Addr} {m_PARTS_6:Nat} {sl_PARTS_6:Array (Option Value)} {k_PARTS_6_0:Tok} {k_PARTS_6_1:Tok} {k_PARTS_6_2:Tok} {k_PARTS_7:Tok} {a_PARTS_7:Addr} {od_PARTS_7:Option Addr} {m_PARTS_7:Nat} {sl_PARTS_7:Array (Option Value)} {k_PARTS_7_0:Tok} {k_PARTS_7_1:Tok} {d_CLOSERS:Addr} {n_CLOSERS:Nat} {k_CLOSERS_0:Tok} {a_CLOSERS_0:Addr} {od_CLOSERS_0:Option Addr} {m_CLOSERS_0:Nat} {sl_CLOSERS_0:Array (Option Value)} {k_CLOSERS_0_0:Tok} {k_CLOSERS_1:Tok} {a_CLOSERS_1:Addr} {od_CLOSERS_1:Option Addr} {m_CLOSERS_1:Nat} {sl_CLOSERS_1:Array (Option Value)} {k_CLOSERS_1_0:Tok} {k_CLOSERS_1_1:Tok} {k_CLOSERS_2:Tok} {a_CLOSERS_2:Addr} {od_CLOSERS_2:Option Addr} {m_CLOSERS_2:Nat} {sl_CLOSERS_2:Array (Option Value)} {k_CLOSERS_2_0:Tok}
  (a0:PySem.W.nsIn K mainGlobals "closers_of" = some (some (.ref f0))) (l0:K.lookup f0=some ⟨oc0,od0,.func (PySem.W.fnOf "closers_of" "closers_of" (defArgs cF) (defBody cF) (defScope cF) .none kV0 dc0 pm0 an0 cd0 ct0),sl0⟩) (c0:PySem.W.codeIn K cd0 "closers_of" = true) (k0:PySem.W.keepIn K (.ref f0)=true)
  (a1:PySem.W.nsIn K mainGlobals "head_of" = some (some (.ref f1))) (l1:K.lookup f1=some ⟨oc1,od1,.func (PySem.W.fnOf "head_of" "head_of" (defArgs c_) (defBody c_) (defScope c_) .none kV1 dc1 pm1 an1 cd1 ct1),sl1⟩) (c1:PySem.W.codeIn K cd1 "head_of" = true) (k1:PySem.W.keepIn K (.ref f1)=true)
  (a2:PySem.W.nsIn K mainGlobals "blocks_of" = some (some (.ref f2))) (l2:K.lookup f2=some ⟨oc2,od2,.func (PySem.W.fnOf "blocks_of" "blocks_of" (defArgs cB) (defBody cB) (defScope cB) .none kV2 dc2 pm2 an2 cd2 ct2),sl2⟩) (c2:PySem.W.codeIn K cd2 "blocks_of" = true) (k2:PySem.W.keepIn K (.ref f2)=true)
  (a3:PySem.W.nsIn K mainGlobals "steps_within" = some (some (.ref f3))) (l3:K.lookup f3=some ⟨oc3,od3,.func (PySem.W.fnOf "steps_within" "steps_within" (defArgs bn) (defBody bn) (defScope bn) .none kV3 dc3 pm3 an3 cd3 ct3),sl3⟩) (c3:PySem.W.codeIn K cd3 "steps_within" = true) (k3:PySem.W.keepIn K (.ref f3)=true)
  (a4:PySem.W.nsIn K mainGlobals "names_in" = some (some (.ref f4))) (l4:K.lookup f4=some ⟨oc4,od4,.func (PySem.W.fnOf "names_in" "names_in" (defArgs bI) (defBody bI) (defScope bI) .none kV4 dc4 pm4 an4 cd4 ct4),sl4⟩) (c4:PySem.W.codeIn K cd4 "names_in" = true) (k4:PySem.W.keepIn K (.ref f4)=true)
  (a5:PySem.W.nsIn K mainGlobals "names_of" = some (some (.ref f5))) (l5:K.lookup f5=some ⟨oc5,od5,.func (PySem.W.fnOf "names_of" "names_of" (defArgs cT) (defBody cT) (defScope cT) .none kV5 dc5 pm5 an5 cd5 ct5),sl5⟩) (c5:PySem.W.codeIn K cd5 "names_of" = true) (k5:PySem.W.keepIn K (.ref f5)=true)
  (a6:PySem.W.nsIn K mainGlobals "lines_of" = some (some (.ref f6))) (l6:K.lookup f6=some ⟨oc6,od6,.func (PySem.W.fnOf "lines_of" "lines_of" (defArgs aX) (defBody aX) (defScope aX) .none kV6 dc6 pm6 an6 cd6 ct6),sl6⟩) (c6:PySem.W.codeIn K cd6 "lines_of" = true) (k6:PySem.W.keepIn K (.ref f6)=true)
  (a7:PySem.W.nsIn K mainGlobals "line_behind" = some (some (.ref f7))) (l7:K.lookup f7=some ⟨oc7,od7,.func (PySem.W.fnOf "line_behind" "line_behind" (defArgs b9) (defBody b9) (defScope b9) .none kV7 dc7 pm7 an7 cd7 ct7),sl7⟩) (c7:PySem.W.codeIn K cd7 "line_behind" = true) (k7:PySem.W.keepIn K (.ref f7)=true)
  (a8:PySem.W.nsIn K mainGlobals "numbered_step" = some (some (.ref f8))) (l8:K.lookup f8=some ⟨oc8,od8,.func (PySem.W.fnOf "numbered_step" "numbered_step" (defArgs aC) (defBody aC) (defScope aC) .none kV8 dc8 pm8 an8 cd8 ct8),sl8⟩) (c8:PySem.W.codeIn K cd8 "numbered_step" = true) (k8:PySem.W.keepIn K (.ref f8)=true)
  (a9:PySem.W.nsIn K mainGlobals "numbered_steps" = some (some (.ref f9))) (l9:K.lookup f9=some ⟨oc9,od9,.func (PySem.W.fnOf "numbered_steps" "numbered_steps" (defArgs bd) (defBody bd) (defScope bd) .none kV9 dc9 pm9 an9 cd9 ct9),sl9⟩) (c9:PySem.W.codeIn K cd9 "numbered_steps" = true) (k9:PySem.W.keepIn K (.ref f9)=true)
  (a10:PySem.W.nsIn K mainGlobals "lend_lines" = some (some (.ref f10))) (l10:K.lookup f10=some ⟨oc10,od10,.func (PySem.W.fnOf "lend_lines" "lend_lines" (defArgs bC) (defBody bC) (defScope bC) .none kV10 dc10 pm10 an10 cd10 ct10),sl10⟩) (c10:PySem.W.codeIn K cd10 "lend_lines" = true) (k10:PySem.W.keepIn K (.ref f10)=true)
  (a11:PySem.W.nsIn K mainGlobals "slots_of" = some (some (.ref f11))) (l11:K.lookup f11=some ⟨oc11,od11,.func (PySem.W.fnOf "slots_of" "slots_of" (defArgs bS) (defBody bS) (defScope bS) .none kV11 dc11 pm11 an11 cd11 ct11),sl11⟩) (c11:PySem.W.codeIn K cd11 "slots_of" = true) (k11:PySem.W.keepIn K (.ref f11)=true)
  (a12:PySem.W.nsIn K mainGlobals "simple_row" = some (some (.ref f12))) (l12:K.lookup f12=some ⟨oc12,od12,.func (PySem.W.fnOf "simple_row" "simple_row" (defArgs bv) (defBody bv) (defScope bv) .none kV12 dc12 pm12 an12 cd12 ct12),sl12⟩) (c12:PySem.W.codeIn K cd12 "simple_row" = true) (k12:PySem.W.keepIn K (.ref f12)=true)
  (a13:PySem.W.nsIn K mainGlobals "lend_rows" = some (some (.ref f13))) (l13:K.lookup f13=some ⟨oc13,od13,.func (PySem.W.fnOf "lend_rows" "lend_rows" (defArgs aH) (defBody aH) (defScope aH) .none kV13 dc13 pm13 an13 cd13 ct13),sl13⟩) (c13:PySem.W.codeIn K cd13 "lend_rows" = true) (k13:PySem.W.keepIn K (.ref f13)=true)
  (a14:PySem.W.nsIn K mainGlobals "if_rows" = some (some (.ref f14))) (l14:K.lookup f14=some ⟨oc14,od14,.func (PySem.W.fnOf "if_rows" "if_rows" (defArgs bx) (defBody bx) (defScope bx) .none kV14 dc14 pm14 an14 cd14 ct14),sl14⟩) (c14:PySem.W.codeIn K cd14 "if_rows" = true) (k14:PySem.W.keepIn K (.ref f14)=true)
  (a15:PySem.W.nsIn K mainGlobals "loop_rows" = some (some (.ref f15))) (l15:K.lookup f15=some ⟨oc15,od15,.func (PySem.W.fnOf "loop_rows" "loop_rows" (defArgs bL) (defBody bL) (defScope bL) .none kV15 dc15 pm15 an15 cd15 ct15),sl15⟩) (c15:PySem.W.codeIn K cd15 "loop_rows" = true) (k15:PySem.W.keepIn K (.ref f15)=true)
  (a16:PySem.W.nsIn K mainGlobals "while_rows" = some (some (.ref f16))) (l16:K.lookup f16=some ⟨oc16,od16,.func (PySem.W.fnOf "while_rows" "while_rows" (defArgs ba) (defBody ba) (defScope ba) .none kV16 dc16 pm16 an16 cd16 ct16),sl16⟩) (c16:PySem.W.codeIn K cd16 "while_rows" = true) (k16:PySem.W.keepIn K (.ref f16)=true)
  (a17:PySem.W.nsIn K mainGlobals "rows_of" = some (some (.ref f17))) (l17:K.lookup f17=some ⟨oc17,od17,.func (PySem.W.fnOf "rows_of" "rows_of" (defArgs bE) (defBody bE) (defScope bE) .none kV17 dc17 pm17 an17 cd17 ct17),sl17⟩) (c17:PySem.W.codeIn K cd17 "rows_of" = true) (k17:PySem.W.keepIn K (.ref f17)=true)
  (a18:PySem.W.nsIn K mainGlobals "rows_and_end" = some (some (.ref f18))) (l18:K.lookup f18=some ⟨oc18,od18,.func (PySem.W.fnOf "rows_and_end" "rows_and_end" (defArgs bz) (defBody bz) (defScope bz) .none kV18 dc18 pm18 an18 cd18 ct18),sl18⟩) (c18:PySem.W.codeIn K cd18 "rows_and_end" = true) (k18:PySem.W.keepIn K (.ref f18)=true)
  (a19:PySem.W.nsIn K mainGlobals "turned_code" = some (some (.ref f19))) (l19:K.lookup f19=some ⟨oc19,od19,.func (PySem.W.fnOf "turned_code" "turned_code" (defArgs cw) (defBody cw) (defScope cw) .none kV19 dc19 pm19 an19 cd19 ct19),sl19⟩) (c19:PySem.W.codeIn K cd19 "turned_code" = true) (k19:PySem.W.keepIn K (.ref f19)=true)
  (a20:PySem.W.nsIn K mainGlobals "_law_cell_at" = some (some (.ref f20))) (l20:K.lookup f20=some ⟨oc20,od20,.func (PySem.W.fnOf "_law_cell_at" "_law_cell_at" (defArgs b_) (defBody b_) (defScope b_) .none kV20 dc20 pm20 an20 cd20 ct20),sl20⟩) (c20:PySem.W.codeIn K cd20 "_law_cell_at" = true) (k20:PySem.W.keepIn K (.ref f20)=true)
  (a21:PySem.W.nsIn K mainGlobals "_law_names" = some (some (.ref f21))) (l21:K.lookup f21=some ⟨oc21,od21,.func (PySem.W.fnOf "_law_names" "_law_names" (defArgs aA) (defBody aA) (defScope aA) .none kV21 dc21 pm21 an21 cd21 ct21),sl21⟩) (c21:PySem.W.codeIn K cd21 "_law_names" = true) (k21:PySem.W.keepIn K (.ref f21)=true)
  (a22:PySem.W.nsIn K mainGlobals "_law_bound" = some (some (.ref f22))) (l22:K.lookup f22=some ⟨oc22,od22,.func (PySem.W.fnOf "_law_bound" "_law_bound" (defArgs cC) (defBody cC) (defScope cC) .none kV22 dc22 pm22 an22 cd22 ct22),sl22⟩) (c22:PySem.W.codeIn K cd22 "_law_bound" = true) (k22:PySem.W.keepIn K (.ref f22)=true)
  (a23:PySem.W.nsIn K mainGlobals "_law_step" = some (some (.ref f23))) (l23:K.lookup f23=some ⟨oc23,od23,.func (PySem.W.fnOf "_law_step" "_law_step" (defArgs bV) (defBody bV) (defScope bV) .none kV23 dc23 pm23 an23 cd23 ct23),sl23⟩) (c23:PySem.W.codeIn K cd23 "_law_step" = true) (k23:PySem.W.keepIn K (.ref f23)=true)
  (a24:PySem.W.nsIn K mainGlobals "_law_begun" = some (some (.ref f24))) (l24:K.lookup f24=some ⟨oc24,od24,.func (PySem.W.fnOf "_law_begun" "_law_begun" (defArgs bh) (defBody bh) (defScope bh) .none kV24 dc24 pm24 an24 cd24 ct24),sl24⟩) (c24:PySem.W.codeIn K cd24 "_law_begun" = true) (k24:PySem.W.keepIn K (.ref f24)=true)
  (a25:PySem.W.nsIn K mainGlobals "_law_program" = some (some (.ref f25))) (l25:K.lookup f25=some ⟨oc25,od25,.func (PySem.W.fnOf "_law_program" "_law_program" (defArgs am) (defBody am) (defScope am) .none kV25 dc25 pm25 an25 cd25 ct25),sl25⟩) (c25:PySem.W.codeIn K cd25 "_law_program" = true) (k25:PySem.W.keepIn K (.ref f25)=true)
  (a26:PySem.W.nsIn K mainGlobals "_law_partners" = some (some (.ref f26))) (l26:K.lookup f26=some ⟨oc26,od26,.func (PySem.W.fnOf "_law_partners" "_law_partners" (defArgs aO) (defBody aO) (defScope aO) .none kV26 dc26 pm26 an26 cd26 ct26),sl26⟩) (c26:PySem.W.codeIn K cd26 "_law_partners" = true) (k26:PySem.W.keepIn K (.ref f26)=true)
  (a27:PySem.W.nsIn K mainGlobals "_law_slots" = some (some (.ref f27))) (l27:K.lookup f27=some ⟨oc27,od27,.func (PySem.W.fnOf "_law_slots" "_law_slots" (defArgs bK) (defBody bK) (defScope bK) .none kV27 dc27 pm27 an27 cd27 ct27),sl27⟩) (c27:PySem.W.codeIn K cd27 "_law_slots" = true) (k27:PySem.W.keepIn K (.ref f27)=true)
  (a28:PySem.W.nsIn K mainGlobals "_law_plain" = some (some (.ref f28))) (l28:K.lookup f28=some ⟨oc28,od28,.func (PySem.W.fnOf "_law_plain" "_law_plain" (defArgs aR) (defBody aR) (defScope aR) .none kV28 dc28 pm28 an28 cd28 ct28),sl28⟩) (c28:PySem.W.codeIn K cd28 "_law_plain" = true) (k28:PySem.W.keepIn K (.ref f28)=true)
  (a29:PySem.W.nsIn K mainGlobals "_law_part" = some (some (.ref f29))) (l29:K.lookup f29=some ⟨oc29,od29,.func (PySem.W.fnOf "_law_part" "_law_part" (defArgs aD) (defBody aD) (defScope aD) .none kV29 dc29 pm29 an29 cd29 ct29),sl29⟩) (c29:PySem.W.codeIn K cd29 "_law_part" = true) (k29:PySem.W.keepIn K (.ref f29)=true)
  (a30:PySem.W.nsIn K mainGlobals "_law_due" = some (some (.ref f30))) (l30:K.lookup f30=some ⟨oc30,od30,.func (PySem.W.fnOf "_law_due" "_law_due" (defArgs aB) (defBody aB) (defScope aB) .none kV30 dc30 pm30 an30 cd30 ct30),sl30⟩) (c30:PySem.W.codeIn K cd30 "_law_due" = true) (k30:PySem.W.keepIn K (.ref f30)=true)
  (a31:PySem.W.nsIn K mainGlobals "_law_row" = some (some (.ref f31))) (l31:K.lookup f31=some ⟨oc31,od31,.func (PySem.W.fnOf "_law_row" "_law_row" (defArgs bP) (defBody bP) (defScope bP) .none kV31 dc31 pm31 an31 cd31 ct31),sl31⟩) (c31:PySem.W.codeIn K cd31 "_law_row" = true) (k31:PySem.W.keepIn K (.ref f31)=true)
  (a32:PySem.W.nsIn K mainGlobals "law" = some (some (.ref f32))) (l32:K.lookup f32=some ⟨oc32,od32,.func (PySem.W.fnOf "law" "law" (defArgs bX) (defBody bX) (defScope bX) .none kV32 dc32 pm32 an32 cd32 ct32),sl32⟩) (c32:PySem.W.codeIn K cd32 "law" = true) (k32:PySem.W.keepIn K (.ref f32)=true)
  (y_isinstance:PySem.W.nsIn K mainGlobals "isinstance" = some none)
  (y_str:PySem.W.nsIn K mainGlobals "str" = some none)
  (y_int:PySem.W.nsIn K mainGlobals "int" = some none)
  (y_bool:PySem.W.nsIn K mainGlobals "bool" = some none)
  (y_tuple:PySem.W.nsIn K mainGlobals "tuple" = some none)
  (y_len:PySem.W.nsIn K mainGlobals "len" = some none)
  (y_range:PySem.W.nsIn K mainGlobals "range" = some none)
  (y_list:PySem.W.nsIn K mainGlobals "list" = some none)
  (y_reversed:PySem.W.nsIn K mainGlobals "reversed" = some none)
  (y_zip:PySem.W.nsIn K mainGlobals "zip" = some none)
  (y_enumerate:PySem.W.nsIn K mainGlobals "enumerate" = some none)
  (n_NumberedStep:PySem.W.nsIn K mainGlobals "NumberedStep" = some (some (.ref C_NumberedStep))) (pg_NumberedStep:PySem.W.plainGet K C_NumberedStep Str.empty=true) (hd_NumberedStep:PySem.W.hasDictIn K C_NumberedStep=true) (po_NumberedStep:PySem.W.plainOver K C_NumberedStep=true) (sa_NumberedStep:PySem.W.findIn K (.ref C_NumberedStep) "__setattr__" = some (some (.builtin "object.__setattr__"))) (mk_NumberedStep:PySem.W.makesIn K C_NumberedStep=true) (kc_NumberedStep:PySem.W.keepIn K (.ref C_NumberedStep)=true)
  (nf_kind:PySem.W.findIn K (.ref C_NumberedStep) "kind" = some none)
  (nf_parts:PySem.W.findIn K (.ref C_NumberedStep) "parts" = some none)
  (nf_lines:PySem.W.findIn K (.ref C_NumberedStep) "lines" = some none)
  (nf_blocks:PySem.W.findIn K (.ref C_NumberedStep) "blocks" = some none)
  (aNumberedStep___init__:PySem.W.findIn K (.ref C_NumberedStep) "__init__" = some (some (.ref fNumberedStep___init__))) (iNumberedStep___init__:PySem.W.isFn K (.ref fNumberedStep___init__)=true) (lNumberedStep___init__:K.lookup fNumberedStep___init__=some ⟨ocNumberedStep___init__,odNumberedStep___init__,.func (PySem.W.fnOf "__init__" "NumberedStep.__init__" (defArgs aV) (defBody aV) (defScope aV) .none kVNumberedStep___init__ dcNumberedStep___init__ pmNumberedStep___init__ anNumberedStep___init__ cdNumberedStep___init__ ctNumberedStep___init__),slNumberedStep___init__⟩) (cNumberedStep___init__:PySem.W.codeIn K cdNumberedStep___init__ "NumberedStep.__init__" = true) (kNumberedStep___init__:PySem.W.keepIn K (.ref fNumberedStep___init__)=true)
  (h_PARTS:PySem.W.nsIn K mainGlobals "PARTS" = some (some (.ref d_PARTS)))
  (ld_PARTS:K.lookup d_PARTS=some ⟨.type "dict", none,.dict #[⟨PyData.keyHash w.params "open", .str "open" k_PARTS_0,.ref a_PARTS_0⟩,⟨PyData.keyHash w.params "do", .str "do" k_PARTS_1,.ref a_PARTS_1⟩,⟨PyData.keyHash w.params "copy", .str "copy" k_PARTS_2,.ref a_PARTS_2⟩,⟨PyData.keyHash w.params "drop", .str "drop" k_PARTS_3,.ref a_PARTS_3⟩,⟨PyData.keyHash w.params "tie", .str "tie" k_PARTS_4,.ref a_PARTS_4⟩,⟨PyData.keyHash w.params "lend", .str "lend" k_PARTS_5,.ref a_PARTS_5⟩,⟨PyData.keyHash w.params "if", .str "if" k_PARTS_6,.ref a_PARTS_6⟩,⟨PyData.keyHash w.params "while", .str "while" k_PARTS_7,.ref a_PARTS_7⟩] n_PARTS,#[]⟩)
  (la_PARTS_0:K.lookup a_PARTS_0=some ⟨.type "tuple", od_PARTS_0,.seq #[.str "name" k_PARTS_0_0] m_PARTS_0,sl_PARTS_0⟩)
  (la_PARTS_1:K.lookup a_PARTS_1=some ⟨.type "tuple", od_PARTS_1,.seq #[.str "word" k_PARTS_1_0,.str "name" k_PARTS_1_1] m_PARTS_1,sl_PARTS_1⟩)
  (la_PARTS_2:K.lookup a_PARTS_2=some ⟨.type "tuple", od_PARTS_2,.seq #[.str "name" k_PARTS_2_0,.str "name" k_PARTS_2_1] m_PARTS_2,sl_PARTS_2⟩)
  (la_PARTS_3:K.lookup a_PARTS_3=some ⟨.type "tuple", od_PARTS_3,.seq #[.str "name" k_PARTS_3_0] m_PARTS_3,sl_PARTS_3⟩)
  (la_PARTS_4:K.lookup a_PARTS_4=some ⟨.type "tuple", od_PARTS_4,.seq #[.str "name" k_PARTS_4_0,.str "name" k_PARTS_4_1] m_PARTS_4,sl_PARTS_4⟩)
  (la_PARTS_5:K.lookup a_PARTS_5=some ⟨.type "tuple", od_PARTS_5,.seq #[.str "name" k_PARTS_5_0,.str "name" k_PARTS_5_1,.str "steps" k_PARTS_5_2] m_PARTS_5,sl_PARTS_5⟩)
  (la_PARTS_6:K.lookup a_PARTS_6=some ⟨.type "tuple", od_PARTS_6,.seq #[.str "bound" k_PARTS_6_0,.str "steps" k_PARTS_6_1,.str "steps" k_PARTS_6_2] m_PARTS_6,sl_PARTS_6⟩)
  (la_PARTS_7:K.lookup a_PARTS_7=some ⟨.type "tuple", od_PARTS_7,.seq #[.str "bound" k_PARTS_7_0,.str "steps" k_PARTS_7_1] m_PARTS_7,sl_PARTS_7⟩)
  (dz_PARTS:(d_PARTS == sysModules)=false)
  (h_CLOSERS:PySem.W.nsIn K mainGlobals "CLOSERS" = some (some (.ref d_CLOSERS)))
  (ld_CLOSERS:K.lookup d_CLOSERS=some ⟨.type "dict", none,.dict #[⟨PyData.keyHash w.params "lend", .str "lend" k_CLOSERS_0,.ref a_CLOSERS_0⟩,⟨PyData.keyHash w.params "if", .str "if" k_CLOSERS_1,.ref a_CLOSERS_1⟩,⟨PyData.keyHash w.params "while", .str "while" k_CLOSERS_2,.ref a_CLOSERS_2⟩] n_CLOSERS,#[]⟩)
  (la_CLOSERS_0:K.lookup a_CLOSERS_0=some ⟨.type "tuple", od_CLOSERS_0,.seq #[.str "back" k_CLOSERS_0_0] m_CLOSERS_0,sl_CLOSERS_0⟩)
  (la_CLOSERS_1:K.lookup a_CLOSERS_1=some ⟨.type "tuple", od_CLOSERS_1,.seq #[.str "else" k_CLOSERS_1_0,.str "fi" k_CLOSERS_1_1] m_CLOSERS_1,sl_CLOSERS_1⟩)
  (la_CLOSERS_2:K.lookup a_CLOSERS_2=some ⟨.type "tuple", od_CLOSERS_2,.seq #[.str "done" k_CLOSERS_2_0] m_CLOSERS_2,sl_CLOSERS_2⟩)
  (dz_CLOSERS:(d_CLOSERS == sysModules)=false) :
  ∃ fd:FuncData,(∀ (s:Shared) (v:Value),BindsTo s fd ⟨[v],[]⟩ [("_law_script", v)])∧∀ base:Heap,K.In base→base.Ns mainGlobals mg→FnOk l.prog w K mg base jh 36 fa fd ["_law_script"] (nP K):=by
 have e:=hfa.symm.trans (PySem.W.mg_of X G a32)
 cases e
 have D_closers_of:DefAt K mg "closers_of" cF:=⟨f0,_,bD (st:=cF) l0 c0 k0,PySem.W.mg_of X G a0⟩
 have D_head_of:DefAt K mg "head_of" c_:=⟨f1,_,bD (st:=c_) l1 c1 k1,PySem.W.mg_of X G a1⟩
 have D_blocks_of:DefAt K mg "blocks_of" cB:=⟨f2,_,bD (st:=cB) l2 c2 k2,PySem.W.mg_of X G a2⟩
 have D_steps_within:DefAt K mg "steps_within" bn:=⟨f3,_,bD (st:=bn) l3 c3 k3,PySem.W.mg_of X G a3⟩
 have D_names_in:DefAt K mg "names_in" bI:=⟨f4,_,bD (st:=bI) l4 c4 k4,PySem.W.mg_of X G a4⟩
 have D_names_of:DefAt K mg "names_of" cT:=⟨f5,_,bD (st:=cT) l5 c5 k5,PySem.W.mg_of X G a5⟩
 have D_lines_of:DefAt K mg "lines_of" aX:=⟨f6,_,bD (st:=aX) l6 c6 k6,PySem.W.mg_of X G a6⟩
 have D_line_behind:DefAt K mg "line_behind" b9:=⟨f7,_,bD (st:=b9) l7 c7 k7,PySem.W.mg_of X G a7⟩
 have D_numbered_step:DefAt K mg "numbered_step" aC:=⟨f8,_,bD (st:=aC) l8 c8 k8,PySem.W.mg_of X G a8⟩
 have D_numbered_steps:DefAt K mg "numbered_steps" bd:=⟨f9,_,bD (st:=bd) l9 c9 k9,PySem.W.mg_of X G a9⟩
 have D_lend_lines:DefAt K mg "lend_lines" bC:=⟨f10,_,bD (st:=bC) l10 c10 k10,PySem.W.mg_of X G a10⟩
 have D_slots_of:DefAt K mg "slots_of" bS:=⟨f11,_,bD (st:=bS) l11 c11 k11,PySem.W.mg_of X G a11⟩
 have D_simple_row:DefAt K mg "simple_row" bv:=⟨f12,_,bD (st:=bv) l12 c12 k12,PySem.W.mg_of X G a12⟩
 have D_lend_rows:DefAt K mg "lend_rows" aH:=⟨f13,_,bD (st:=aH) l13 c13 k13,PySem.W.mg_of X G a13⟩
 have D_if_rows:DefAt K mg "if_rows" bx:=⟨f14,_,bD (st:=bx) l14 c14 k14,PySem.W.mg_of X G a14⟩
 have D_loop_rows:DefAt K mg "loop_rows" bL:=⟨f15,_,bD (st:=bL) l15 c15 k15,PySem.W.mg_of X G a15⟩
 have D_while_rows:DefAt K mg "while_rows" ba:=⟨f16,_,bD (st:=ba) l16 c16 k16,PySem.W.mg_of X G a16⟩
 have D_rows_of:DefAt K mg "rows_of" bE:=⟨f17,_,bD (st:=bE) l17 c17 k17,PySem.W.mg_of X G a17⟩
 have D_rows_and_end:DefAt K mg "rows_and_end" bz:=⟨f18,_,bD (st:=bz) l18 c18 k18,PySem.W.mg_of X G a18⟩
 have D_turned_code:DefAt K mg "turned_code" cw:=⟨f19,_,bD (st:=cw) l19 c19 k19,PySem.W.mg_of X G a19⟩
 have D_law_cell_at:DefAt K mg "_law_cell_at" b_:=⟨f20,_,bD (st:=b_) l20 c20 k20,PySem.W.mg_of X G a20⟩
 have D_law_names:DefAt K mg "_law_names" aA:=⟨f21,_,bD (st:=aA) l21 c21 k21,PySem.W.mg_of X G a21⟩
 have D_law_bound:DefAt K mg "_law_bound" cC:=⟨f22,_,bD (st:=cC) l22 c22 k22,PySem.W.mg_of X G a22⟩
 have D_law_step:DefAt K mg "_law_step" bV:=⟨f23,_,bD (st:=bV) l23 c23 k23,PySem.W.mg_of X G a23⟩
 have D_law_begun:DefAt K mg "_law_begun" bh:=⟨f24,_,bD (st:=bh) l24 c24 k24,PySem.W.mg_of X G a24⟩
 have D_law_program:DefAt K mg "_law_program" am:=⟨f25,_,bD (st:=am) l25 c25 k25,PySem.W.mg_of X G a25⟩
 have D_law_partners:DefAt K mg "_law_partners" aO:=⟨f26,_,bD (st:=aO) l26 c26 k26,PySem.W.mg_of X G a26⟩
 have D_law_slots:DefAt K mg "_law_slots" bK:=⟨f27,_,bD (st:=bK) l27 c27 k27,PySem.W.mg_of X G a27⟩
 have D_law_plain:DefAt K mg "_law_plain" aR:=⟨f28,_,bD (st:=aR) l28 c28 k28,PySem.W.mg_of X G a28⟩
 have D_law_part:DefAt K mg "_law_part" aD:=⟨f29,_,bD (st:=aD) l29 c29 k29,PySem.W.mg_of X G a29⟩
 have D_law_due:DefAt K mg "_law_due" aB:=⟨f30,_,bD (st:=aB) l30 c30 k30,PySem.W.mg_of X G a30⟩
 have D_law_row:DefAt K mg "_law_row" bP:=⟨f31,_,bD (st:=bP) l31 c31 k31,PySem.W.mg_of X G a31⟩
 have z_isinstance:mg "isinstance" = none:=PySem.W.mg_none_of X G y_isinstance
 have z_str:mg "str" = none:=PySem.W.mg_none_of X G y_str
 have z_int:mg "int" = none:=PySem.W.mg_none_of X G y_int
 have z_bool:mg "bool" = none:=PySem.W.mg_none_of X G y_bool
 have z_tuple:mg "tuple" = none:=PySem.W.mg_none_of X G y_tuple
 have z_len:mg "len" = none:=PySem.W.mg_none_of X G y_len
 have z_range:mg "range" = none:=PySem.W.mg_none_of X G y_range
 have z_list:mg "list" = none:=PySem.W.mg_none_of X G y_list
 have z_reversed:mg "reversed" = none:=PySem.W.mg_none_of X G y_reversed
 have z_zip:mg "zip" = none:=PySem.W.mg_none_of X G y_zip
 have z_enumerate:mg "enumerate" = none:=PySem.W.mg_none_of X G y_enumerate
 have cl_NumberedStep:Cls K C_NumberedStep:=⟨pg_NumberedStep,hd_NumberedStep,po_NumberedStep,sa_NumberedStep⟩
 have a_kind:Fl K C_NumberedStep "kind" := ⟨cl_NumberedStep,nf_kind⟩
 have a_parts:Fl K C_NumberedStep "parts" := ⟨cl_NumberedStep,nf_parts⟩
 have a_lines:Fl K C_NumberedStep "lines" := ⟨cl_NumberedStep,nf_lines⟩
 have a_blocks:Fl K C_NumberedStep "blocks" := ⟨cl_NumberedStep,nf_blocks⟩
 have D_NumberedStep:MakeAt K mg "NumberedStep" C_NumberedStep "NumberedStep.__init__" aV:=⟨fNumberedStep___init__,_,bD (st:=aV) lNumberedStep___init__ cNumberedStep___init__ kNumberedStep___init__,⟨mk_NumberedStep,aNumberedStep___init__,iNumberedStep___init__,kc_NumberedStep⟩,PySem.W.mg_of X G n_NumberedStep⟩
 have g_PARTS:mg "PARTS" = some (.ref d_PARTS):=PySem.W.mg_of X G h_PARTS
 have m_PARTS:ModD w K d_PARTS [("open", .ref a_PARTS_0),("do", .ref a_PARTS_1),("copy", .ref a_PARTS_2),("drop", .ref a_PARTS_3),("tie", .ref a_PARTS_4),("lend", .ref a_PARTS_5),("if", .ref a_PARTS_6),("while", .ref a_PARTS_7)]:=⟨dz_PARTS,(show (["open", "do", "copy", "drop", "tie", "lend", "if", "while"]:List Str).Nodup from by decide),_,[⟨PyData.keyHash w.params "open", .str "open" k_PARTS_0,.ref a_PARTS_0⟩,⟨PyData.keyHash w.params "do", .str "do" k_PARTS_1,.ref a_PARTS_1⟩,⟨PyData.keyHash w.params "copy", .str "copy" k_PARTS_2,.ref a_PARTS_2⟩,⟨PyData.keyHash w.params "drop", .str "drop" k_PARTS_3,.ref a_PARTS_3⟩,⟨PyData.keyHash w.params "tie", .str "tie" k_PARTS_4,.ref a_PARTS_4⟩,⟨PyData.keyHash w.params "lend", .str "lend" k_PARTS_5,.ref a_PARTS_5⟩,⟨PyData.keyHash w.params "if", .str "if" k_PARTS_6,.ref a_PARTS_6⟩,⟨PyData.keyHash w.params "while", .str "while" k_PARTS_7,.ref a_PARTS_7⟩],n_PARTS,ld_PARTS,⟨rfl,rfl,rfl⟩,rfl,.cons rfl (.cons rfl (.cons rfl (.cons rfl (.cons rfl (.cons rfl (.cons rfl (.cons rfl (.nil))))))))⟩
 have q_PARTS_0:∀ H:Hp,SqT K H a_PARTS_0 [.str "name"]:=fun H=>.inr ⟨_,_,_,la_PARTS_0,rfl,rfl,aS (show 1≤1000000 from by decide),.cons ⟨_,rfl⟩ (.nil)⟩
 have q_PARTS_1:∀ H:Hp,SqT K H a_PARTS_1 [.str "word", .str "name"]:=fun H=>.inr ⟨_,_,_,la_PARTS_1,rfl,rfl,aS (show 2≤1000000 from by decide),.cons ⟨_,rfl⟩ (.cons ⟨_,rfl⟩ (.nil))⟩
 have q_PARTS_2:∀ H:Hp,SqT K H a_PARTS_2 [.str "name", .str "name"]:=fun H=>.inr ⟨_,_,_,la_PARTS_2,rfl,rfl,aS (show 2≤1000000 from by decide),.cons ⟨_,rfl⟩ (.cons ⟨_,rfl⟩ (.nil))⟩
 have q_PARTS_3:∀ H:Hp,SqT K H a_PARTS_3 [.str "name"]:=fun H=>.inr ⟨_,_,_,la_PARTS_3,rfl,rfl,aS (show 1≤1000000 from by decide),.cons ⟨_,rfl⟩ (.nil)⟩
 have q_PARTS_4:∀ H:Hp,SqT K H a_PARTS_4 [.str "name", .str "name"]:=fun H=>.inr ⟨_,_,_,la_PARTS_4,rfl,rfl,aS (show 2≤1000000 from by decide),.cons ⟨_,rfl⟩ (.cons ⟨_,rfl⟩ (.nil))⟩
 have q_PARTS_5:∀ H:Hp,SqT K H a_PARTS_5 [.str "name", .str "name", .str "steps"]:=fun H=>.inr ⟨_,_,_,la_PARTS_5,rfl,rfl,aS (show 3≤1000000 from by decide),.cons ⟨_,rfl⟩ (.cons ⟨_,rfl⟩ (.cons ⟨_,rfl⟩ (.nil)))⟩
 have q_PARTS_6:∀ H:Hp,SqT K H a_PARTS_6 [.str "bound", .str "steps", .str "steps"]:=fun H=>.inr ⟨_,_,_,la_PARTS_6,rfl,rfl,aS (show 3≤1000000 from by decide),.cons ⟨_,rfl⟩ (.cons ⟨_,rfl⟩ (.cons ⟨_,rfl⟩ (.nil)))⟩
 have q_PARTS_7:∀ H:Hp,SqT K H a_PARTS_7 [.str "bound", .str "steps"]:=fun H=>.inr ⟨_,_,_,la_PARTS_7,rfl,rfl,aS (show 2≤1000000 from by decide),.cons ⟨_,rfl⟩ (.cons ⟨_,rfl⟩ (.nil))⟩
 have g_CLOSERS:mg "CLOSERS" = some (.ref d_CLOSERS):=PySem.W.mg_of X G h_CLOSERS
 have m_CLOSERS:ModD w K d_CLOSERS [("lend", .ref a_CLOSERS_0),("if", .ref a_CLOSERS_1),("while", .ref a_CLOSERS_2)]:=⟨dz_CLOSERS,(show (["lend", "if", "while"]:List Str).Nodup from by decide),_,[⟨PyData.keyHash w.params "lend", .str "lend" k_CLOSERS_0,.ref a_CLOSERS_0⟩,⟨PyData.keyHash w.params "if", .str "if" k_CLOSERS_1,.ref a_CLOSERS_1⟩,⟨PyData.keyHash w.params "while", .str "while" k_CLOSERS_2,.ref a_CLOSERS_2⟩],n_CLOSERS,ld_CLOSERS,⟨rfl,rfl,rfl⟩,rfl,.cons rfl (.cons rfl (.cons rfl (.nil)))⟩
 have q_CLOSERS_0:∀ H:Hp,SqT K H a_CLOSERS_0 [.str "back"]:=fun H=>.inr ⟨_,_,_,la_CLOSERS_0,rfl,rfl,aS (show 1≤1000000 from by decide),.cons ⟨_,rfl⟩ (.nil)⟩
 have q_CLOSERS_1:∀ H:Hp,SqT K H a_CLOSERS_1 [.str "else", .str "fi"]:=fun H=>.inr ⟨_,_,_,la_CLOSERS_1,rfl,rfl,aS (show 2≤1000000 from by decide),.cons ⟨_,rfl⟩ (.cons ⟨_,rfl⟩ (.nil))⟩
 have q_CLOSERS_2:∀ H:Hp,SqT K H a_CLOSERS_2 [.str "done"]:=fun H=>.inr ⟨_,_,_,la_CLOSERS_2,rfl,rfl,aS (show 1≤1000000 from by decide),.cons ⟨_,rfl⟩ (.nil)⟩
 have F:=bD (st:=bX) l32 c32 k32
 refine⟨PySem.W.fnOf "law" "law" (defArgs bX) (defBody bX) (defScope bX) .none kV32 dc32 pm32 an32 cd32 ct32,fun s v=>.of_eq rfl,fun base _ _=>?_⟩
 have c1:=zL (P:=l.prog) (w:=w) (base:=base) D_law_cell_at z_len
 have d1:=tE (P:=l.prog) (w:=w) (base:=base) D_closers_of g_CLOSERS m_CLOSERS q_CLOSERS_0 q_CLOSERS_1 q_CLOSERS_2
 have d2:=zS D_head_of z_len d1
 have d3:=vh D_blocks_of z_len d2
 have d4:=mX D_steps_within d3 10
 have d5:=uP (P:=l.prog) (w:=w) (base:=base) D_names_in z_zip z_list g_PARTS m_PARTS (xo q_PARTS_0 q_PARTS_1 q_PARTS_2 q_PARTS_3 q_PARTS_4 q_PARTS_5 q_PARTS_6 q_PARTS_7)
 have d6:=xa (uC D_names_of d5 d4)
 have d7:=qw D_lines_of z_str z_zip d1 d2 d3 10
 have d8:=n6 D_lend_lines z_enumerate d7
 have d9:=xF (NO:=NOt) NOt.mono D_slots_of z_enumerate (vM d6 (k:=15) (by decide)) d8
 have k0:=ye (P:=l.prog) (w:=w) (base:=base) D_NumberedStep a_kind a_parts a_lines a_blocks
 have b0:=vo (P:=l.prog) (w:=w) (base:=base) D_line_behind z_len a_lines
 have n0:=rO D_numbered_step D_numbered_steps d2 d3 b0 k0 10
 have r0:=sj (P:=l.prog) (w:=w) (base:=base) D_rows_of D_lend_rows D_if_rows D_loop_rows D_while_rows D_simple_row z_len z_tuple a_kind a_parts a_lines a_blocks 10
 have r1:=uJ (NO:=NOt) (d:=10) (k:=33) NOt.mono D_rows_and_end (by decide) n0 r0 (vM d9 (by decide)) b0 (by decide) (by decide)
 have r2:=vV D_turned_code r1
 have pg:=tN D_law_program z_len z_int z_reversed (wL D_law_begun z_len z_str (w4 (P:=l.prog) (w:=w) (base:=base) D_law_bound)) (zW D_law_step z_len)
 have du:=Ap (P:=l.prog) (w:=w) (base:=base) D_law_due z_len z_range z_enumerate (xr D_law_partners z_len z_range) (vY D_law_slots z_len) (fun NM=>vD D_law_plain z_len z_tuple) (fun NM kv=>sn D_law_part z_len z_int 10)
 have rw0:=Ae (P:=l.prog) (w:=w) (base:=base) D_law_row z_isinstance z_tuple z_len z_zip z_str z_bool z_int
 exact By F c1 (xK D_law_names z_range) pg z_isinstance z_list z_len z_zip du r2 rw0
theorem walk{l:PySem.W.OpenLaw}{q:Program}{loose:List Str}{XP:(Str→Option Value)→Heap→Prop}{YP:World→Heap→Prop}{d:DefRec}{K:Params→PySem.W.Frag}(hn:l.most=some 63)(hdf:d.params.defaults=[])
  (hY:∀ (w:World) (h:Heap),YP w h→(K w.params).In h)
  (F:∀ (w:World) (mg:Str→Option Value) (fa:Addr) (h:Heap),(K w.params).In h→h.Ns mainGlobals mg→mg d.name=some (.ref fa)→
   ∃ fd:FuncData,(∀ (s:Shared) (u:Value),BindsTo s fd ⟨[u],[]⟩ [("_law_script", u)])∧∀ base:Heap,(K w.params).In base→base.Ns mainGlobals mg→FnOk l.prog w (K w.params) mg base jh 36 fa fd ["_law_script"] (nP (K w.params))) :
  PySem.W.WalkO q loose XP YP l.row.toRowW d [] (fun f vs=>PySem.call f vs):=
 L2.walk_of (n:=63) (k:=36) (x := "_law_script") (CX:=fun _=>jh) (sp:=fun w=>nP (K w.params)) hn (by decide) hdf ⟨rfl,by decide,by decide⟩ hY F (fun _ _ a ns hl _ hS=>⟨a,ns,rfl,hS,hl,fun _=>rfl⟩) fun _ _ _ _ _ z=>z
end K36
end
open PySem PySem.W PyProof.Rows
set_option maxRecDepth 100000 in
set_option maxHeartbeats 0 in
theorem PySem.Challenge.cw_usewarden_k36_rows_of_turned_code_holds : PySem.Challenge.rw_usewarden_k36_rows_of_turned_code.Holds := by
 w_on
 refine holds_law (by decide +kernel) fun said=>?_
 refine holds_open (q:=K36.qq) (loose:=K36.loo) (Xt:=K36.xt) (XP:=XL K36.qq []) (Yf:=Hook.obs (kHook K36.KK K36.kk K36.kk_eq)) (Ya:=Hook.val (kHook K36.KK K36.kk K36.kk_eq)) (YP:=Hook.says (kHook K36.KK K36.kk K36.kk_eq)) (N:=3160) K36.hl (Hook.of (kHook K36.KK K36.kk K36.kk_eq)) (Hook.keeps (kHook K36.KK K36.kk K36.kk_eq)) (fun s e=>xl_of s (Bool.and_eq_true_iff.mp e).1) XL.keeps (by rfl) (by rfl) (by rfl) (fun s e=>recFacts_of (Bool.and_eq_true_iff.mp e).2) (by rfl) said (by decide +kernel) ⟨rfl,rfl,rfl,rfl,rfl,by decide +kernel⟩ ?hw ?hc
 (case hw=>w_witness2)
 k_fill
 refine K36.walk (l:=PySem.Challenge.rw_usewarden_k36_rows_of_turned_code) rfl rfl (fun w h Y=>PySem.W.kIn_of Y) ?F
 case F=>
  intro w mg fa h KX G hmg
  refine' K36.all_mk KX G hmg ?a0 ?l0 ?c0 ?k0 ?a1 ?l1 ?c1 ?k1 ?a2 ?l2 ?c2 ?k2 ?a3 ?l3 ?c3 ?k3 ?a4 ?l4 ?c4 ?k4 ?a5 ?l5 ?c5 ?k5 ?a6 ?l6 ?c6 ?k6 ?a7 ?l7 ?c7 ?k7 ?a8 ?l8 ?c8 ?k8 ?a9 ?l9 ?c9 ?k9 ?a10 ?l10 ?c10 ?k10 ?a11 ?l11 ?c11 ?k11 ?a12 ?l12 ?c12 ?k12 ?a13 ?l13 ?c13 ?k13 ?a14 ?l14 ?c14 ?k14 ?a15 ?l15 ?c15 ?k15 ?a16 ?l16 ?c16 ?k16 ?a17 ?l17 ?c17 ?k17 ?a18 ?l18 ?c18 ?k18 ?a19 ?l19 ?c19 ?k19 ?a20 ?l20 ?c20 ?k20 ?a21 ?l21 ?c21 ?k21 ?a22 ?l22 ?c22 ?k22 ?a23 ?l23 ?c23 ?k23 ?a24 ?l24 ?c24 ?k24 ?a25 ?l25 ?c25 ?k25 ?a26 ?l26 ?c26 ?k26 ?a27 ?l27 ?c27 ?k27 ?a28 ?l28 ?c28 ?k28 ?a29 ?l29 ?c29 ?k29 ?a30 ?l30 ?c30 ?k30 ?a31 ?l31 ?c31 ?k31 ?a32 ?l32 ?c32 ?k32 ?y_isinstance ?y_str ?y_int ?y_bool ?y_tuple ?y_len ?y_range ?y_list ?y_reversed ?y_zip ?y_enumerate ?n_NumberedStep ?pg_NumberedStep ?hd_NumberedStep ?po_NumberedStep ?sa_NumberedStep ?mk_NumberedStep ?kc_NumberedStep ?nf_kind ?nf_parts ?nf_lines ?nf_blocks ?aNumberedStep___init__ ?iNumberedStep___init__ ?lNumberedStep___init__ ?cNumberedStep___init__ ?kNumberedStep___init__ ?h_PARTS ?ld_PARTS ?la_PARTS_0 ?la_PARTS_1 ?la_PARTS_2 ?la_PARTS_3 ?la_PARTS_4 ?la_PARTS_5 ?la_PARTS_6 ?la_PARTS_7 ?dz_PARTS ?h_CLOSERS ?ld_CLOSERS ?la_CLOSERS_0 ?la_CLOSERS_1 ?la_CLOSERS_2 ?dz_CLOSERS
  (case a0=>k_is)
  (case l0=>k_is)
  (case c0=>k_is)
  (case k0=>k_is)
  (case a1=>k_is)
  (case l1=>k_is)
  (case c1=>k_is)
  (case k1=>k_is)
  (case a2=>k_is)
  (case l2=>k_is)
  (case c2=>k_is)
  (case k2=>k_is)
  (case a3=>k_is)
  (case l3=>k_is)
  (case c3=>k_is)
  (case k3=>k_is)
  (case a4=>k_is)
  (case l4=>k_is)
  (case c4=>k_is)
  (case k4=>k_is)
  (case a5=>k_is)
  (case l5=>k_is)
  (case c5=>k_is)
  (case k5=>k_is)
  (case a6=>k_is)
  (case l6=>k_is)
  (case c6=>k_is)
  (case k6=>k_is)
  (case a7=>k_is)
  (case l7=>k_is)
  (case c7=>k_is)
  (case k7=>k_is)
  (case a8=>k_is)
  (case l8=>k_is)
  (case c8=>k_is)
  (case k8=>k_is)
  (case a9=>k_is)
  (case l9=>k_is)
  (case c9=>k_is)
  (case k9=>k_is)
  (case a10=>k_is)
  (case l10=>k_is)
  (case c10=>k_is)
  (case k10=>k_is)
  (case a11=>k_is)
  (case l11=>k_is)
  (case c11=>k_is)
  (case k11=>k_is)
  (case a12=>k_is)
  (case l12=>k_is)
  (case c12=>k_is)
  (case k12=>k_is)
  (case a13=>k_is)
  (case l13=>k_is)
  (case c13=>k_is)
  (case k13=>k_is)
  (case a14=>k_is)
  (case l14=>k_is)
  (case c14=>k_is)
  (case k14=>k_is)
  (case a15=>k_is)
  (case l15=>k_is)
  (case c15=>k_is)
  (case k15=>k_is)
  (case a16=>k_is)
  (case l16=>k_is)
  (case c16=>k_is)
  (case k16=>k_is)
  (case a17=>k_is)
  (case l17=>k_is)
  (case c17=>k_is)
  (case k17=>k_is)
  (case a18=>k_is)
  (case l18=>k_is)
  (case c18=>k_is)
  (case k18=>k_is)
  (case a19=>k_is)
  (case l19=>k_is)
  (case c19=>k_is)
  (case k19=>k_is)
  (case a20=>k_is)
  (case l20=>k_is)
  (case c20=>k_is)
  (case k20=>k_is)
  (case a21=>k_is)
  (case l21=>k_is)
  (case c21=>k_is)
  (case k21=>k_is)
  (case a22=>k_is)
  (case l22=>k_is)
  (case c22=>k_is)
  (case k22=>k_is)
  (case a23=>k_is)
  (case l23=>k_is)
  (case c23=>k_is)
  (case k23=>k_is)
  (case a24=>k_is)
  (case l24=>k_is)
  (case c24=>k_is)
  (case k24=>k_is)
  (case a25=>k_is)
  (case l25=>k_is)
  (case c25=>k_is)
  (case k25=>k_is)
  (case a26=>k_is)
  (case l26=>k_is)
  (case c26=>k_is)
  (case k26=>k_is)
  (case a27=>k_is)
  (case l27=>k_is)
  (case c27=>k_is)
  (case k27=>k_is)
  (case a28=>k_is)
  (case l28=>k_is)
  (case c28=>k_is)
  (case k28=>k_is)
  (case a29=>k_is)
  (case l29=>k_is)
  (case c29=>k_is)
  (case k29=>k_is)
  (case a30=>k_is)
  (case l30=>k_is)
  (case c30=>k_is)
  (case k30=>k_is)
  (case a31=>k_is)
  (case l31=>k_is)
  (case c31=>k_is)
  (case k31=>k_is)
  (case a32=>k_is)
  (case l32=>k_is)
  (case c32=>k_is)
  (case k32=>k_is)
  (case y_isinstance=>k_is)
  (case y_str=>k_is)
  (case y_int=>k_is)
  (case y_bool=>k_is)
  (case y_tuple=>k_is)
  (case y_len=>k_is)
  (case y_range=>k_is)
  (case y_list=>k_is)
  (case y_reversed=>k_is)
  (case y_zip=>k_is)
  (case y_enumerate=>k_is)
  (case n_NumberedStep=>k_is)
  (case pg_NumberedStep=>k_is)
  (case hd_NumberedStep=>k_is)
  (case po_NumberedStep=>k_is)
  (case sa_NumberedStep=>k_is)
  (case mk_NumberedStep=>k_is)
  (case kc_NumberedStep=>k_is)
  (case nf_kind=>k_is)
  (case nf_parts=>k_is)
  (case nf_lines=>k_is)
  (case nf_blocks=>k_is)
  (case aNumberedStep___init__=>k_is)
  (case iNumberedStep___init__=>k_is)
  (case lNumberedStep___init__=>k_is)
  (case cNumberedStep___init__=>k_is)
  (case kNumberedStep___init__=>k_is)
  (case h_PARTS=>k_is)
  (case ld_PARTS=>k_is)
  (case la_PARTS_0=>k_is)
  (case la_PARTS_1=>k_is)
  (case la_PARTS_2=>k_is)
  (case la_PARTS_3=>k_is)
  (case la_PARTS_4=>k_is)
  (case la_PARTS_5=>k_is)
  (case la_PARTS_6=>k_is)
  (case la_PARTS_7=>k_is)
  (case dz_PARTS=>decide)
  (case h_CLOSERS=>k_is)
  (case ld_CLOSERS=>k_is)
  (case la_CLOSERS_0=>k_is)
  (case la_CLOSERS_1=>k_is)
  (case la_CLOSERS_2=>k_is)
  (case dz_CLOSERS=>decide)
#print axioms PySem.Challenge.cw_usewarden_k36_rows_of_turned_code_holds
