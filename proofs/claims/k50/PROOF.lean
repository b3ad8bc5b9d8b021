import PyProof.Rows.All
import Wide.All
import OpenK.AllK
import Wide.FinOn
import Lean
import PyProof.EqAt
import PyProof.EqKinds
import PyProof.TupleCall
import PyProof.SetScanFacts
import PyProof.SetKind
import PyProof.SetRoads
import PyProof.Rows.SetFrom
import PyProof.FactsBase
import PyProof.TableTree
import PyProof.FactsTree
import PyProof.PlainAttrs
import PyProof.FactsAll.set_1
import PyProof.CollectIter
import PyProof.FactsAll.set
import PyProof.ZipIter
import PyProof.EnumIter
import PyProof.TupleIter
import KE.KRevIter
import KE.KDictList
import PyProof.Rows.SumAny
import KE.KIntText
import PyProof.StrLawsTight
import PyProof.StrLawsChain
import PyProof.Rows.SortStr
import PyProof.Rows.StrNews2
import PyProof.StrLawsFirst
import PyProof.AutoSeq1
import KE.KDictOf
import PyProof.DictItems
import PyProof.NeKinds
import KE.KPairComp
import PyProof.FactsAll.tuple_2
import PyProof.FactsAll.tuple_3
import KE.KDictLaws
import PyProof.FactsAll.dict_3
import PyProof.MinMaxWalk
import PyProof.WalkInts
import PySem.Challenge.RW_usewarden_k50_rows_behind
set_option Elab.async false
set_option linter.all false
set_option maxRecDepth 100000
set_option maxHeartbeats 4000000
namespace L2
open PySem
def inClass(s:Stmt)(j:Nat):Stmt:=match s with
 | .ClassDef _ _ _ body _ _ _ _ _ _ _=>body.getD j (.Pass ⟨0,0,0,0⟩)
 | _=>.Pass ⟨0,0,0,0⟩
def defArgs(s:Stmt):Arguments:=match s with
 | .FunctionDef _ a _ _ _ _ _ _ _ _=>a
 | _=>{ posonlyargs:=[],args:=[],vararg:=none,kwonlyargs:=[],kw_defaults:=[],kwarg:=none,defaults:=[] }
def defBody(s:Stmt):List Stmt:=match s with
 | .FunctionDef _ _ b _ _ _ _ _ _ _=>b
 | _=>[]
def defScope(s:Stmt):Scope:=match s with
 | .FunctionDef _ _ _ _ _ _ sc _ _ _=>sc
 | _=>{ kind:=.function,names:=[],isGenerator:=false,isCoroutine:=false }
end L2
namespace K50
open PySem PySem.W
def top (i:Nat):Stmt:=PySem.Challenge.pw_usewarden_k50_rows_behind.main.body.getD i (.Pass ⟨0,0,0,0⟩)
noncomputable def KK(P:Params):Frag:=
 (nat_lit 2,⟨.none,none,.dict #[] 0,#[]⟩) ::
 (nat_lit 3,⟨.type "dict", none,.dict #[⟨PyData.keyHash P "__name__", .str "__name__" 165,.str "law_usewarden_k50_rows_behind" 481⟩,⟨PyData.keyHash P "__doc__", .str "__doc__" 166,.none⟩,⟨PyData.keyHash P "__package__", .str "__package__" 167,.none⟩,⟨PyData.keyHash P "__loader__", .str "__loader__" 168,.builtin "__main__.__loader__#opaque"⟩,⟨PyData.keyHash P "__spec__", .str "__spec__" 169,.none⟩,⟨PyData.keyHash P "__annotations__", .str "__annotations__" 170,.ref 6⟩,⟨PyData.keyHash P "__builtins__", .str "__builtins__" 171,.ref 4⟩,⟨PyData.keyHash P "__file__", .str "__file__" 173,.str "/claim/cut.py" 172⟩,⟨PyData.keyHash P "__cached__", .str "__cached__" 174,.none⟩,⟨PyData.keyHash P "rows_behind", .str "rows_behind" 197,.ref 21⟩,⟨PyData.keyHash P "PARTS", .str "PARTS" 232,.ref 22⟩,⟨PyData.keyHash P "CLOSERS", .str "CLOSERS" 243,.ref 31⟩,⟨PyData.keyHash P "closers_of", .str "closers_of" 250,.ref 41⟩,⟨PyData.keyHash P "head_of", .str "head_of" 257,.ref 48⟩,⟨PyData.keyHash P "blocks_of", .str "blocks_of" 264,.ref 55⟩,⟨PyData.keyHash P "steps_within", .str "steps_within" 274,.ref 62⟩,⟨PyData.keyHash P "names_in", .str "names_in" 285,.ref 69⟩,⟨PyData.keyHash P "lines_of", .str "lines_of" 291,.ref 74⟩,⟨PyData.keyHash P "names_of", .str "names_of" 298,.ref 81⟩,⟨PyData.keyHash P "NumberedStep", .str "NumberedStep" 334,.ref 98⟩,⟨PyData.keyHash P "line_behind", .str "line_behind" 342,.ref 109⟩,⟨PyData.keyHash P "numbered_step", .str "numbered_step" 354,.ref 116⟩,⟨PyData.keyHash P "numbered_steps", .str "numbered_steps" 364,.ref 123⟩,⟨PyData.keyHash P "lend_lines", .str "lend_lines" 372,.ref 128⟩,⟨PyData.keyHash P "slots_of", .str "slots_of" 382,.ref 135⟩,⟨PyData.keyHash P "simple_row", .str "simple_row" 388,.ref 140⟩,⟨PyData.keyHash P "lend_rows", .str "lend_rows" 405,.ref 147⟩,⟨PyData.keyHash P "if_rows", .str "if_rows" 420,.ref 154⟩,⟨PyData.keyHash P "loop_rows", .str "loop_rows" 431,.ref 161⟩,⟨PyData.keyHash P "while_rows", .str "while_rows" 444,.ref 168⟩,⟨PyData.keyHash P "rows_of", .str "rows_of" 457,.ref 175⟩,⟨PyData.keyHash P "rows_and_end", .str "rows_and_end" 466,.ref 182⟩,⟨PyData.keyHash P "code_of", .str "code_of" 473,.ref 189⟩,⟨PyData.keyHash P "turned_code", .str "turned_code" 480,.ref 196⟩,⟨PyData.keyHash P "_law_whole", .str "_law_whole" 489,.ref 203⟩,⟨PyData.keyHash P "_law_cell_at", .str "_law_cell_at" 497,.ref 210⟩,⟨PyData.keyHash P "_law_words", .str "_law_words" 503,.ref 215⟩,⟨PyData.keyHash P "_law_step", .str "_law_step" 517,.ref 222⟩,⟨PyData.keyHash P "_law_put", .str "_law_put" 525,.ref 229⟩,⟨PyData.keyHash P "_law_close", .str "_law_close" 536,.ref 236⟩,⟨PyData.keyHash P "_law_program", .str "_law_program" 550,.ref 243⟩,⟨PyData.keyHash P "_law_due", .str "_law_due" 558,.ref 250⟩,⟨PyData.keyHash P "_law_right", .str "_law_right" 569,.ref 257⟩,⟨PyData.keyHash P "_law_all_come", .str "_law_all_come" 580,.ref 264⟩,⟨PyData.keyHash P "law", .str "law" 595,.ref 271⟩] 45,#[]⟩) ::
 (nat_lit 15,⟨.type "tuple", none,.seq #[] 0,#[]⟩) ::
 (nat_lit 17,⟨.type "tuple", none,.seq #[.str "code" 192,.str "at" 193,.str "row" 194] 0,#[]⟩) ::
 (nat_lit 18,⟨.type "tuple", none,.seq #[] 0,#[]⟩) ::
 (nat_lit 20,⟨.type "code", none,.fields #[.str "rows_behind" 189,.str "rows_behind" 190,.str "/claim/cut.py" 191,.int 2 0,.int 2 0,.int 0 0,.int 0 0,.int 3 0,.ref 15,.bool true,.int 181 0,.ref 16,.none,.ref 17,.ref 18,.ref 19,.int 195 0,.int 2 0,.str "/claim/cut.py" 196],#[]⟩) ::
 (nat_lit 21,⟨.type "function", none,.func ⟨"rows_behind", "rows_behind", L2.defArgs (top 1),.stmts (L2.defBody (top 1)),L2.defScope (top 1),3,[],.none,.none,.none,.str "usewarden.tokens" 187,none,.ref 20,.none,0⟩,#[]⟩) ::
 (nat_lit 22,⟨.type "dict", none,.dict #[⟨PyData.keyHash P "open", .str "open" 200,.ref 23⟩,⟨PyData.keyHash P "do", .str "do" 202,.ref 24⟩,⟨PyData.keyHash P "copy", .str "copy" 205,.ref 25⟩,⟨PyData.keyHash P "drop", .str "drop" 208,.ref 26⟩,⟨PyData.keyHash P "tie", .str "tie" 210,.ref 27⟩,⟨PyData.keyHash P "lend", .str "lend" 213,.ref 28⟩,⟨PyData.keyHash P "if", .str "if" 217,.ref 29⟩,⟨PyData.keyHash P "while", .str "while" 221,.ref 30⟩] 8,#[]⟩) ::
 (nat_lit 23,⟨.type "tuple", none,.seq #[.str "name" 201] 0,#[]⟩) ::
 (nat_lit 24,⟨.type "tuple", none,.seq #[.str "word" 203,.str "name" 204] 0,#[]⟩) ::
 (nat_lit 25,⟨.type "tuple", none,.seq #[.str "name" 206,.str "name" 207] 0,#[]⟩) ::
 (nat_lit 26,⟨.type "tuple", none,.seq #[.str "name" 209] 0,#[]⟩) ::
 (nat_lit 27,⟨.type "tuple", none,.seq #[.str "name" 211,.str "name" 212] 0,#[]⟩) ::
 (nat_lit 28,⟨.type "tuple", none,.seq #[.str "name" 214,.str "name" 215,.str "steps" 216] 0,#[]⟩) ::
 (nat_lit 29,⟨.type "tuple", none,.seq #[.str "bound" 218,.str "steps" 219,.str "steps" 220] 0,#[]⟩) ::
 (nat_lit 30,⟨.type "tuple", none,.seq #[.str "bound" 222,.str "steps" 223] 0,#[]⟩) ::
 (nat_lit 31,⟨.type "dict", none,.dict #[⟨PyData.keyHash P "lend", .str "lend" 233,.ref 32⟩,⟨PyData.keyHash P "if", .str "if" 235,.ref 33⟩,⟨PyData.keyHash P "while", .str "while" 238,.ref 34⟩] 3,#[]⟩) ::
 (nat_lit 32,⟨.type "tuple", none,.seq #[.str "back" 234] 0,#[]⟩) ::
 (nat_lit 33,⟨.type "tuple", none,.seq #[.str "else" 236,.str "fi" 237] 0,#[]⟩) ::
 (nat_lit 34,⟨.type "tuple", none,.seq #[.str "done" 239] 0,#[]⟩) ::
 (nat_lit 35,⟨.type "tuple", none,.seq #[] 0,#[]⟩) ::
 (nat_lit 37,⟨.type "tuple", none,.seq #[.str "kind" 247] 0,#[]⟩) ::
 (nat_lit 38,⟨.type "tuple", none,.seq #[] 0,#[]⟩) ::
 (nat_lit 40,⟨.type "code", none,.fields #[.str "closers_of" 244,.str "closers_of" 245,.str "/claim/cut.py" 246,.int 14 0,.int 1 0,.int 0 0,.int 0 0,.int 3 0,.ref 35,.bool true,.int 181 0,.ref 36,.none,.ref 37,.ref 38,.ref 39,.int 248 0,.int 14 0,.str "/claim/cut.py" 249],#[]⟩) ::
 (nat_lit 41,⟨.type "function", none,.func ⟨"closers_of", "closers_of", L2.defArgs (top 5),.stmts (L2.defBody (top 5)),L2.defScope (top 5),3,[],.none,.none,.none,.str "usewarden.programs" 198,none,.ref 40,.none,0⟩,#[]⟩) ::
 (nat_lit 42,⟨.type "tuple", none,.seq #[] 0,#[]⟩) ::
 (nat_lit 44,⟨.type "tuple", none,.seq #[.str "step" 254] 0,#[]⟩) ::
 (nat_lit 45,⟨.type "tuple", none,.seq #[] 0,#[]⟩) ::
 (nat_lit 47,⟨.type "code", none,.fields #[.str "head_of" 251,.str "head_of" 252,.str "/claim/cut.py" 253,.int 16 0,.int 1 0,.int 0 0,.int 0 0,.int 3 0,.ref 42,.bool true,.int 181 0,.ref 43,.none,.ref 44,.ref 45,.ref 46,.int 255 0,.int 16 0,.str "/claim/cut.py" 256],#[]⟩) ::
 (nat_lit 48,⟨.type "function", none,.func ⟨"head_of", "head_of", L2.defArgs (top 6),.stmts (L2.defBody (top 6)),L2.defScope (top 6),3,[],.none,.none,.none,.str "usewarden.programs" 198,none,.ref 47,.none,0⟩,#[]⟩) ::
 (nat_lit 49,⟨.type "tuple", none,.seq #[] 0,#[]⟩) ::
 (nat_lit 51,⟨.type "tuple", none,.seq #[.str "step" 261] 0,#[]⟩) ::
 (nat_lit 52,⟨.type "tuple", none,.seq #[] 0,#[]⟩) ::
 (nat_lit 54,⟨.type "code", none,.fields #[.str "blocks_of" 258,.str "blocks_of" 259,.str "/claim/cut.py" 260,.int 18 0,.int 1 0,.int 0 0,.int 0 0,.int 3 0,.ref 49,.bool true,.int 181 0,.ref 50,.none,.ref 51,.ref 52,.ref 53,.int 262 0,.int 18 0,.str "/claim/cut.py" 263],#[]⟩) ::
 (nat_lit 55,⟨.type "function", none,.func ⟨"blocks_of", "blocks_of", L2.defArgs (top 7),.stmts (L2.defBody (top 7)),L2.defScope (top 7),3,[],.none,.none,.none,.str "usewarden.programs" 198,none,.ref 54,.none,0⟩,#[]⟩) ::
 (nat_lit 56,⟨.type "tuple", none,.seq #[] 0,#[]⟩) ::
 (nat_lit 58,⟨.type "tuple", none,.seq #[.str "program" 268,.str "steps" 269,.str "step" 270,.str "block" 271] 0,#[]⟩) ::
 (nat_lit 59,⟨.type "tuple", none,.seq #[] 0,#[]⟩) ::
 (nat_lit 61,⟨.type "code", none,.fields #[.str "steps_within" 265,.str "steps_within" 266,.str "/claim/cut.py" 267,.int 20 0,.int 1 0,.int 0 0,.int 0 0,.int 3 0,.ref 56,.bool true,.int 181 0,.ref 57,.none,.ref 58,.ref 59,.ref 60,.int 272 0,.int 20 0,.str "/claim/cut.py" 273],#[]⟩) ::
 (nat_lit 62,⟨.type "function", none,.func ⟨"steps_within", "steps_within", L2.defArgs (top 8),.stmts (L2.defBody (top 8)),L2.defScope (top 8),3,[],.none,.none,.none,.str "usewarden.programs" 198,none,.ref 61,.none,0⟩,#[]⟩) ::
 (nat_lit 63,⟨.type "tuple", none,.seq #[] 0,#[]⟩) ::
 (nat_lit 65,⟨.type "tuple", none,.seq #[.str "steps" 278,.str "names" 279,.str "step" 280,.str "part" 281,.str "kind" 282] 0,#[]⟩) ::
 (nat_lit 66,⟨.type "tuple", none,.seq #[] 0,#[]⟩) ::
 (nat_lit 68,⟨.type "code", none,.fields #[.str "names_in" 275,.str "names_in" 276,.str "/claim/cut.py" 277,.int 27 0,.int 1 0,.int 0 0,.int 0 0,.int 3 0,.ref 63,.bool true,.int 181 0,.ref 64,.none,.ref 65,.ref 66,.ref 67,.int 283 0,.int 27 0,.str "/claim/cut.py" 284],#[]⟩) ::
 (nat_lit 69,⟨.type "function", none,.func ⟨"names_in", "names_in", L2.defArgs (top 9),.stmts (L2.defBody (top 9)),L2.defScope (top 9),3,[],.none,.none,.none,.str "usewarden.programs" 198,none,.ref 68,.none,0⟩,#[]⟩) ::
 (nat_lit 70,⟨.type "tuple", none,.seq #[] 0,#[]⟩) ::
 (nat_lit 73,⟨.type "code", none,.fields #[.str "lines_of" 286,.str "lines_of" 287,.str "/claim/cut.py" 288,.int 34 0,.int 1 0,.int 0 0,.int 0 0,.int 3 0,.ref 70,.bool true,.int 181 0,.ref 71,.none,.none,.none,.ref 72,.int 289 0,.int 34 0,.str "/claim/cut.py" 290],#[]⟩) ::
 (nat_lit 74,⟨.type "function", none,.func ⟨"lines_of", "lines_of", L2.defArgs (top 10),.stmts (L2.defBody (top 10)),L2.defScope (top 10),3,[],.none,.none,.none,.str "usewarden.programs" 198,none,.ref 73,.none,0⟩,#[]⟩) ::
 (nat_lit 75,⟨.type "tuple", none,.seq #[] 0,#[]⟩) ::
 (nat_lit 77,⟨.type "tuple", none,.seq #[.str "program" 295] 0,#[]⟩) ::
 (nat_lit 78,⟨.type "tuple", none,.seq #[] 0,#[]⟩) ::
 (nat_lit 80,⟨.type "code", none,.fields #[.str "names_of" 292,.str "names_of" 293,.str "/claim/cut.py" 294,.int 42 0,.int 1 0,.int 0 0,.int 0 0,.int 3 0,.ref 75,.bool true,.int 181 0,.ref 76,.none,.ref 77,.ref 78,.ref 79,.int 296 0,.int 42 0,.str "/claim/cut.py" 297],#[]⟩) ::
 (nat_lit 81,⟨.type "function", none,.func ⟨"names_of", "names_of", L2.defArgs (top 11),.stmts (L2.defBody (top 11)),L2.defScope (top 11),3,[],.none,.none,.none,.str "usewarden.programs" 198,none,.ref 80,.none,0⟩,#[]⟩) ::
 (nat_lit 89,⟨.type "tuple", none,.seq #[] 0,#[]⟩) ::
 (nat_lit 91,⟨.type "tuple", none,.seq #[.str "self" 316,.str "head" 317,.str "lines" 318,.str "blocks" 319] 0,#[]⟩) ::
 (nat_lit 92,⟨.type "tuple", none,.seq #[] 0,#[]⟩) ::
 (nat_lit 94,⟨.type "code", none,.fields #[.str "__init__" 313,.str "NumberedStep.__init__" 314,.str "/claim/cut.py" 315,.int 47 0,.int 4 0,.int 0 0,.int 0 0,.int 3 0,.ref 89,.bool true,.int 181 0,.ref 90,.none,.ref 91,.ref 92,.ref 93,.int 320 0,.int 47 0,.str "/claim/cut.py" 321],#[]⟩) ::
 (nat_lit 95,⟨.type "function", none,.func ⟨"__init__", "NumberedStep.__init__", L2.defArgs (L2.inClass (top 13) 0),.stmts (L2.defBody (L2.inClass (top 13) 0)),L2.defScope (L2.inClass (top 13) 0),3,[],.none,.none,.none,.str "usewarden.numbered" 299,none,.ref 94,.none,0⟩,#[]⟩) ::
 (nat_lit 96,⟨.type "tuple", none,.seq #[.str "blocks" 323,.str "kind" 324,.str "lines" 325,.str "parts" 326] 0,#[]⟩) ::
 (nat_lit 97,⟨.type "dict", none,.dict #[⟨PyData.keyHash P "__module__", .str "__module__" 308,.str "usewarden.numbered" 299⟩,⟨PyData.keyHash P "__firstlineno__", .str "__firstlineno__" 312,.int 45 311⟩,⟨PyData.keyHash P "__init__", .str "__init__" 322,.ref 95⟩,⟨PyData.keyHash P "__static_attributes__", .str "__static_attributes__" 327,.ref 96⟩,⟨PyData.keyHash P "__dict__", .str "__dict__" 329,.ref 99⟩,⟨PyData.keyHash P "__weakref__", .str "__weakref__" 331,.ref 100⟩,⟨PyData.keyHash P "__doc__", .str "__doc__" 332,.none⟩] 4,#[]⟩) ::
 (nat_lit 98,⟨.type "type", none,.cls ⟨"NumberedStep", [.type "object"],[.ref 98,.type "object"],97, "NumberedStep", true,[],[],false,none,false⟩,#[none,none,some (.str "NumberedStep" 301),some (.str "NumberedStep" 309),some (.builtin "object.__new__"),some (.bool true)]⟩) ::
 (nat_lit 99,⟨.type "getset_descriptor", none,.fields #[.str "__dict__" 328,.ref 98,.builtin "function.__dict__", .builtin "function.__dict__#set"],#[]⟩) ::
 (nat_lit 100,⟨.type "getset_descriptor", none,.fields #[.str "__weakref__" 330,.ref 98,.builtin "ExceptionGroup.__weakref__", .none],#[]⟩) ::
 (nat_lit 103,⟨.type "tuple", none,.seq #[] 0,#[]⟩) ::
 (nat_lit 105,⟨.type "tuple", none,.seq #[.str "steps" 338,.str "line" 339] 0,#[]⟩) ::
 (nat_lit 106,⟨.type "tuple", none,.seq #[] 0,#[]⟩) ::
 (nat_lit 108,⟨.type "code", none,.fields #[.str "line_behind" 335,.str "line_behind" 336,.str "/claim/cut.py" 337,.int 52 0,.int 2 0,.int 0 0,.int 0 0,.int 3 0,.ref 103,.bool true,.int 181 0,.ref 104,.none,.ref 105,.ref 106,.ref 107,.int 340 0,.int 52 0,.str "/claim/cut.py" 341],#[]⟩) ::
 (nat_lit 109,⟨.type "function", none,.func ⟨"line_behind", "line_behind", L2.defArgs (top 14),.stmts (L2.defBody (top 14)),L2.defScope (top 14),3,[],.none,.none,.none,.str "usewarden.numbered" 299,none,.ref 108,.none,0⟩,#[]⟩) ::
 (nat_lit 110,⟨.type "tuple", none,.seq #[] 0,#[]⟩) ::
 (nat_lit 112,⟨.type "tuple", none,.seq #[.str "step" 346,.str "line" 347,.str "lines" 348,.str "blocks" 349,.str "block" 350,.str "steps" 351] 0,#[]⟩) ::
 (nat_lit 113,⟨.type "tuple", none,.seq #[] 0,#[]⟩) ::
 (nat_lit 115,⟨.type "code", none,.fields #[.str "numbered_step" 343,.str "numbered_step" 344,.str "/claim/cut.py" 345,.int 54 0,.int 2 0,.int 0 0,.int 0 0,.int 3 0,.ref 110,.bool true,.int 181 0,.ref 111,.none,.ref 112,.ref 113,.ref 114,.int 352 0,.int 54 0,.str "/claim/cut.py" 353],#[]⟩) ::
 (nat_lit 116,⟨.type "function", none,.func ⟨"numbered_step", "numbered_step", L2.defArgs (top 15),.stmts (L2.defBody (top 15)),L2.defScope (top 15),3,[],.none,.none,.none,.str "usewarden.numbered" 299,none,.ref 115,.none,0⟩,#[]⟩) ::
 (nat_lit 117,⟨.type "tuple", none,.seq #[] 0,#[]⟩) ::
 (nat_lit 119,⟨.type "tuple", none,.seq #[.str "steps" 358,.str "line" 359,.str "numbered" 360,.str "step" 361] 0,#[]⟩) ::
 (nat_lit 120,⟨.type "tuple", none,.seq #[] 0,#[]⟩) ::
 (nat_lit 122,⟨.type "code", none,.fields #[.str "numbered_steps" 355,.str "numbered_steps" 356,.str "/claim/cut.py" 357,.int 62 0,.int 2 0,.int 0 0,.int 0 0,.int 3 0,.ref 117,.bool true,.int 181 0,.ref 118,.none,.ref 119,.ref 120,.ref 121,.int 362 0,.int 62 0,.str "/claim/cut.py" 363],#[]⟩) ::
 (nat_lit 123,⟨.type "function", none,.func ⟨"numbered_steps", "numbered_steps", L2.defArgs (top 16),.stmts (L2.defBody (top 16)),L2.defScope (top 16),3,[],.none,.none,.none,.str "usewarden.numbered" 299,none,.ref 122,.none,0⟩,#[]⟩) ::
 (nat_lit 124,⟨.type "tuple", none,.seq #[] 0,#[]⟩) ::
 (nat_lit 127,⟨.type "code", none,.fields #[.str "lend_lines" 367,.str "lend_lines" 368,.str "/claim/cut.py" 369,.int 68 0,.int 1 0,.int 0 0,.int 0 0,.int 3 0,.ref 124,.bool true,.int 181 0,.ref 125,.none,.none,.none,.ref 126,.int 370 0,.int 68 0,.str "/claim/cut.py" 371],#[]⟩) ::
 (nat_lit 128,⟨.type "function", none,.func ⟨"lend_lines", "lend_lines", L2.defArgs (top 18),.stmts (L2.defBody (top 18)),L2.defScope (top 18),3,[],.none,.none,.none,.str "usewarden.codes" 365,none,.ref 127,.none,0⟩,#[]⟩) ::
 (nat_lit 129,⟨.type "tuple", none,.seq #[] 0,#[]⟩) ::
 (nat_lit 131,⟨.type "tuple", none,.seq #[.str "program" 376,.str "slots" 377,.str "slot" 378,.str "holder" 379] 0,#[]⟩) ::
 (nat_lit 132,⟨.type "tuple", none,.seq #[] 0,#[]⟩) ::
 (nat_lit 134,⟨.type "code", none,.fields #[.str "slots_of" 373,.str "slots_of" 374,.str "/claim/cut.py" 375,.int 70 0,.int 1 0,.int 0 0,.int 0 0,.int 3 0,.ref 129,.bool true,.int 181 0,.ref 130,.none,.ref 131,.ref 132,.ref 133,.int 380 0,.int 70 0,.str "/claim/cut.py" 381],#[]⟩) ::
 (nat_lit 135,⟨.type "function", none,.func ⟨"slots_of", "slots_of", L2.defArgs (top 19),.stmts (L2.defBody (top 19)),L2.defScope (top 19),3,[],.none,.none,.none,.str "usewarden.codes" 365,none,.ref 134,.none,0⟩,#[]⟩) ::
 (nat_lit 136,⟨.type "tuple", none,.seq #[] 0,#[]⟩) ::
 (nat_lit 139,⟨.type "code", none,.fields #[.str "simple_row" 383,.str "simple_row" 384,.str "/claim/cut.py" 385,.int 75 0,.int 2 0,.int 0 0,.int 0 0,.int 3 0,.ref 136,.bool true,.int 181 0,.ref 137,.none,.none,.none,.ref 138,.int 386 0,.int 75 0,.str "/claim/cut.py" 387],#[]⟩) ::
 (nat_lit 140,⟨.type "function", none,.func ⟨"simple_row", "simple_row", L2.defArgs (top 20),.stmts (L2.defBody (top 20)),L2.defScope (top 20),3,[],.none,.none,.none,.str "usewarden.codes" 365,none,.ref 139,.none,0⟩,#[]⟩) ::
 (nat_lit 141,⟨.type "tuple", none,.seq #[] 0,#[]⟩) ::
 (nat_lit 143,⟨.type "tuple", none,.seq #[.str "step" 392,.str "at" 393,.str "slots" 394,.str "turned" 395,.str "line" 396,.str "back" 397,.str "giver" 398,.str "taker" 399,.str "lent" 400,.str "ahead" 401,.str "within" 402] 0,#[]⟩) ::
 (nat_lit 144,⟨.type "tuple", none,.seq #[] 0,#[]⟩) ::
 (nat_lit 146,⟨.type "code", none,.fields #[.str "lend_rows" 389,.str "lend_rows" 390,.str "/claim/cut.py" 391,.int 80 0,.int 4 0,.int 0 0,.int 0 0,.int 3 0,.ref 141,.bool true,.int 181 0,.ref 142,.none,.ref 143,.ref 144,.ref 145,.int 403 0,.int 80 0,.str "/claim/cut.py" 404],#[]⟩) ::
 (nat_lit 147,⟨.type "function", none,.func ⟨"lend_rows", "lend_rows", L2.defArgs (top 21),.stmts (L2.defBody (top 21)),L2.defScope (top 21),3,[],.none,.none,.none,.str "usewarden.codes" 365,none,.ref 146,.none,0⟩,#[]⟩) ::
 (nat_lit 148,⟨.type "tuple", none,.seq #[] 0,#[]⟩) ::
 (nat_lit 150,⟨.type "tuple", none,.seq #[.str "step" 409,.str "at" 410,.str "slots" 411,.str "turned" 412,.str "more" 413,.str "jump" 414,.str "rest" 415,.str "behind" 416,.str "test" 417] 0,#[]⟩) ::
 (nat_lit 151,⟨.type "tuple", none,.seq #[] 0,#[]⟩) ::
 (nat_lit 153,⟨.type "code", none,.fields #[.str "if_rows" 406,.str "if_rows" 407,.str "/claim/cut.py" 408,.int 89 0,.int 4 0,.int 0 0,.int 0 0,.int 3 0,.ref 148,.bool true,.int 181 0,.ref 149,.none,.ref 150,.ref 151,.ref 152,.int 418 0,.int 89 0,.str "/claim/cut.py" 419],#[]⟩) ::
 (nat_lit 154,⟨.type "function", none,.func ⟨"if_rows", "if_rows", L2.defArgs (top 22),.stmts (L2.defBody (top 22)),L2.defScope (top 22),3,[],.none,.none,.none,.str "usewarden.codes" 365,none,.ref 153,.none,0⟩,#[]⟩) ::
 (nat_lit 155,⟨.type "tuple", none,.seq #[] 0,#[]⟩) ::
 (nat_lit 157,⟨.type "tuple", none,.seq #[.str "step" 424,.str "at" 425,.str "slots" 426,.str "within" 427,.str "behind" 428] 0,#[]⟩) ::
 (nat_lit 158,⟨.type "tuple", none,.seq #[] 0,#[]⟩) ::
 (nat_lit 160,⟨.type "code", none,.fields #[.str "loop_rows" 421,.str "loop_rows" 422,.str "/claim/cut.py" 423,.int 96 0,.int 3 0,.int 0 0,.int 0 0,.int 3 0,.ref 155,.bool true,.int 181 0,.ref 156,.none,.ref 157,.ref 158,.ref 159,.int 429 0,.int 96 0,.str "/claim/cut.py" 430],#[]⟩) ::
 (nat_lit 161,⟨.type "function", none,.func ⟨"loop_rows", "loop_rows", L2.defArgs (top 23),.stmts (L2.defBody (top 23)),L2.defScope (top 23),3,[],.none,.none,.none,.str "usewarden.codes" 365,none,.ref 160,.none,0⟩,#[]⟩) ::
 (nat_lit 162,⟨.type "tuple", none,.seq #[] 0,#[]⟩) ::
 (nat_lit 164,⟨.type "tuple", none,.seq #[.str "step" 435,.str "at" 436,.str "slots" 437,.str "turned" 438,.str "first" 439,.str "loop" 440,.str "behind" 441] 0,#[]⟩) ::
 (nat_lit 165,⟨.type "tuple", none,.seq #[] 0,#[]⟩) ::
 (nat_lit 167,⟨.type "code", none,.fields #[.str "while_rows" 432,.str "while_rows" 433,.str "/claim/cut.py" 434,.int 100 0,.int 4 0,.int 0 0,.int 0 0,.int 3 0,.ref 162,.bool true,.int 181 0,.ref 163,.none,.ref 164,.ref 165,.ref 166,.int 442 0,.int 100 0,.str "/claim/cut.py" 443],#[]⟩) ::
 (nat_lit 168,⟨.type "function", none,.func ⟨"while_rows", "while_rows", L2.defArgs (top 24),.stmts (L2.defBody (top 24)),L2.defScope (top 24),3,[],.none,.none,.none,.str "usewarden.codes" 365,none,.ref 167,.none,0⟩,#[]⟩) ::
 (nat_lit 169,⟨.type "tuple", none,.seq #[] 0,#[]⟩) ::
 (nat_lit 171,⟨.type "tuple", none,.seq #[.str "steps" 448,.str "at" 449,.str "slots" 450,.str "turned" 451,.str "rows" 452,.str "step" 453,.str "place" 454] 0,#[]⟩) ::
 (nat_lit 172,⟨.type "tuple", none,.seq #[] 0,#[]⟩) ::
 (nat_lit 174,⟨.type "code", none,.fields #[.str "rows_of" 445,.str "rows_of" 446,.str "/claim/cut.py" 447,.int 107 0,.int 4 0,.int 0 0,.int 0 0,.int 3 0,.ref 169,.bool true,.int 181 0,.ref 170,.none,.ref 171,.ref 172,.ref 173,.int 455 0,.int 107 0,.str "/claim/cut.py" 456],#[]⟩) ::
 (nat_lit 175,⟨.type "function", none,.func ⟨"rows_of", "rows_of", L2.defArgs (top 25),.stmts (L2.defBody (top 25)),L2.defScope (top 25),3,[],.none,.none,.none,.str "usewarden.codes" 365,none,.ref 174,.none,0⟩,#[]⟩) ::
 (nat_lit 176,⟨.type "tuple", none,.seq #[] 0,#[]⟩) ::
 (nat_lit 178,⟨.type "tuple", none,.seq #[.str "program" 461,.str "turned" 462,.str "steps" 463] 0,#[]⟩) ::
 (nat_lit 179,⟨.type "tuple", none,.seq #[] 0,#[]⟩) ::
 (nat_lit 181,⟨.type "code", none,.fields #[.str "rows_and_end" 458,.str "rows_and_end" 459,.str "/claim/cut.py" 460,.int 120 0,.int 2 0,.int 0 0,.int 0 0,.int 3 0,.ref 176,.bool true,.int 181 0,.ref 177,.none,.ref 178,.ref 179,.ref 180,.int 464 0,.int 120 0,.str "/claim/cut.py" 465],#[]⟩) ::
 (nat_lit 182,⟨.type "function", none,.func ⟨"rows_and_end", "rows_and_end", L2.defArgs (top 26),.stmts (L2.defBody (top 26)),L2.defScope (top 26),3,[],.none,.none,.none,.str "usewarden.codes" 365,none,.ref 181,.none,0⟩,#[]⟩) ::
 (nat_lit 183,⟨.type "tuple", none,.seq #[] 0,#[]⟩) ::
 (nat_lit 185,⟨.type "tuple", none,.seq #[.str "program" 470] 0,#[]⟩) ::
 (nat_lit 186,⟨.type "tuple", none,.seq #[] 0,#[]⟩) ::
 (nat_lit 188,⟨.type "code", none,.fields #[.str "code_of" 467,.str "code_of" 468,.str "/claim/cut.py" 469,.int 123 0,.int 1 0,.int 0 0,.int 0 0,.int 3 0,.ref 183,.bool true,.int 181 0,.ref 184,.none,.ref 185,.ref 186,.ref 187,.int 471 0,.int 123 0,.str "/claim/cut.py" 472],#[]⟩) ::
 (nat_lit 189,⟨.type "function", none,.func ⟨"code_of", "code_of", L2.defArgs (top 27),.stmts (L2.defBody (top 27)),L2.defScope (top 27),3,[],.none,.none,.none,.str "usewarden.codes" 365,none,.ref 188,.none,0⟩,#[]⟩) ::
 (nat_lit 190,⟨.type "tuple", none,.seq #[] 0,#[]⟩) ::
 (nat_lit 192,⟨.type "tuple", none,.seq #[.str "program" 477] 0,#[]⟩) ::
 (nat_lit 193,⟨.type "tuple", none,.seq #[] 0,#[]⟩) ::
 (nat_lit 195,⟨.type "code", none,.fields #[.str "turned_code" 474,.str "turned_code" 475,.str "/claim/cut.py" 476,.int 125 0,.int 1 0,.int 0 0,.int 0 0,.int 3 0,.ref 190,.bool true,.int 181 0,.ref 191,.none,.ref 192,.ref 193,.ref 194,.int 478 0,.int 125 0,.str "/claim/cut.py" 479],#[]⟩) ::
 (nat_lit 196,⟨.type "function", none,.func ⟨"turned_code", "turned_code", L2.defArgs (top 28),.stmts (L2.defBody (top 28)),L2.defScope (top 28),3,[],.none,.none,.none,.str "usewarden.codes" 365,none,.ref 195,.none,0⟩,#[]⟩) ::
 (nat_lit 197,⟨.type "tuple", none,.seq #[] 0,#[]⟩) ::
 (nat_lit 199,⟨.type "tuple", none,.seq #[.str "_law_found" 486] 0,#[]⟩) ::
 (nat_lit 200,⟨.type "tuple", none,.seq #[] 0,#[]⟩) ::
 (nat_lit 202,⟨.type "code", none,.fields #[.str "_law_whole" 483,.str "_law_whole" 484,.str "/claim/cut.py" 485,.int 128 0,.int 1 0,.int 0 0,.int 0 0,.int 3 0,.ref 197,.bool true,.int 181 0,.ref 198,.none,.ref 199,.ref 200,.ref 201,.int 487 0,.int 128 0,.str "/claim/cut.py" 488],#[]⟩) ::
 (nat_lit 203,⟨.type "function", none,.func ⟨"_law_whole", "_law_whole", L2.defArgs (top 30),.stmts (L2.defBody (top 30)),L2.defScope (top 30),3,[],.none,.none,.none,.str "law_usewarden_k50_rows_behind" 481,none,.ref 202,.none,0⟩,#[]⟩) ::
 (nat_lit 204,⟨.type "tuple", none,.seq #[] 0,#[]⟩) ::
 (nat_lit 206,⟨.type "tuple", none,.seq #[.str "_law_script" 493,.str "_law_k" 494] 0,#[]⟩) ::
 (nat_lit 207,⟨.type "tuple", none,.seq #[] 0,#[]⟩) ::
 (nat_lit 209,⟨.type "code", none,.fields #[.str "_law_cell_at" 490,.str "_law_cell_at" 491,.str "/claim/cut.py" 492,.int 130 0,.int 2 0,.int 0 0,.int 0 0,.int 3 0,.ref 204,.bool true,.int 181 0,.ref 205,.none,.ref 206,.ref 207,.ref 208,.int 495 0,.int 130 0,.str "/claim/cut.py" 496],#[]⟩) ::
 (nat_lit 210,⟨.type "function", none,.func ⟨"_law_cell_at", "_law_cell_at", L2.defArgs (top 31),.stmts (L2.defBody (top 31)),L2.defScope (top 31),3,[],.none,.none,.none,.str "law_usewarden_k50_rows_behind" 481,none,.ref 209,.none,0⟩,#[]⟩) ::
 (nat_lit 211,⟨.type "tuple", none,.seq #[] 0,#[]⟩) ::
 (nat_lit 214,⟨.type "code", none,.fields #[.str "_law_words" 498,.str "_law_words" 499,.str "/claim/cut.py" 500,.int 134 0,.int 2 0,.int 0 0,.int 0 0,.int 3 0,.ref 211,.bool true,.int 181 0,.ref 212,.none,.none,.none,.ref 213,.int 501 0,.int 134 0,.str "/claim/cut.py" 502],#[]⟩) ::
 (nat_lit 215,⟨.type "function", none,.func ⟨"_law_words", "_law_words", L2.defArgs (top 32),.stmts (L2.defBody (top 32)),L2.defScope (top 32),3,[],.none,.none,.none,.str "law_usewarden_k50_rows_behind" 481,none,.ref 214,.none,0⟩,#[]⟩) ::
 (nat_lit 216,⟨.type "tuple", none,.seq #[] 0,#[]⟩) ::
 (nat_lit 218,⟨.type "tuple", none,.seq #[.str "_law_cell" 507,.str "_law_names" 508,.str "_law_words_here" 509,.str "_law_x" 510,.str "_law_y" 511,.str "_law_word" 512,.str "_law_bound" 513,.str "_law_some" 514] 0,#[]⟩) ::
 (nat_lit 219,⟨.type "tuple", none,.seq #[] 0,#[]⟩) ::
 (nat_lit 221,⟨.type "code", none,.fields #[.str "_law_step" 504,.str "_law_step" 505,.str "/claim/cut.py" 506,.int 147 0,.int 3 0,.int 0 0,.int 0 0,.int 3 0,.ref 216,.bool true,.int 181 0,.ref 217,.none,.ref 218,.ref 219,.ref 220,.int 515 0,.int 147 0,.str "/claim/cut.py" 516],#[]⟩) ::
 (nat_lit 222,⟨.type "function", none,.func ⟨"_law_step", "_law_step", L2.defArgs (top 33),.stmts (L2.defBody (top 33)),L2.defScope (top 33),3,[],.none,.none,.none,.str "law_usewarden_k50_rows_behind" 481,none,.ref 221,.none,0⟩,#[]⟩) ::
 (nat_lit 223,⟨.type "tuple", none,.seq #[] 0,#[]⟩) ::
 (nat_lit 225,⟨.type "tuple", none,.seq #[.str "_law_pile" 521,.str "_law_step_here" 522] 0,#[]⟩) ::
 (nat_lit 226,⟨.type "tuple", none,.seq #[] 0,#[]⟩) ::
 (nat_lit 228,⟨.type "code", none,.fields #[.str "_law_put" 518,.str "_law_put" 519,.str "/claim/cut.py" 520,.int 156 0,.int 2 0,.int 0 0,.int 0 0,.int 3 0,.ref 223,.bool true,.int 181 0,.ref 224,.none,.ref 225,.ref 226,.ref 227,.int 523 0,.int 156 0,.str "/claim/cut.py" 524],#[]⟩) ::
 (nat_lit 229,⟨.type "function", none,.func ⟨"_law_put", "_law_put", L2.defArgs (top 34),.stmts (L2.defBody (top 34)),L2.defScope (top 34),3,[],.none,.none,.none,.str "law_usewarden_k50_rows_behind" 481,none,.ref 228,.none,0⟩,#[]⟩) ::
 (nat_lit 230,⟨.type "tuple", none,.seq #[] 0,#[]⟩) ::
 (nat_lit 232,⟨.type "tuple", none,.seq #[.str "_law_pile" 529,.str "_law_head" 530,.str "_law_first" 531,.str "_law_second" 532,.str "_law_side" 533] 0,#[]⟩) ::
 (nat_lit 233,⟨.type "tuple", none,.seq #[] 0,#[]⟩) ::
 (nat_lit 235,⟨.type "code", none,.fields #[.str "_law_close" 526,.str "_law_close" 527,.str "/claim/cut.py" 528,.int 158 0,.int 1 0,.int 0 0,.int 0 0,.int 3 0,.ref 230,.bool true,.int 181 0,.ref 231,.none,.ref 232,.ref 233,.ref 234,.int 534 0,.int 158 0,.str "/claim/cut.py" 535],#[]⟩) ::
 (nat_lit 236,⟨.type "function", none,.func ⟨"_law_close", "_law_close", L2.defArgs (top 35),.stmts (L2.defBody (top 35)),L2.defScope (top 35),3,[],.none,.none,.none,.str "law_usewarden_k50_rows_behind" 481,none,.ref 235,.none,0⟩,#[]⟩) ::
 (nat_lit 237,⟨.type "tuple", none,.seq #[] 0,#[]⟩) ::
 (nat_lit 239,⟨.type "tuple", none,.seq #[.str "_law_cells" 540,.str "_law_names" 541,.str "_law_words_here" 542,.str "_law_lends" 543,.str "_law_deep" 544,.str "_law_pile" 545,.str "_law_cell" 546,.str "_law_step_here" 547] 0,#[]⟩) ::
 (nat_lit 240,⟨.type "tuple", none,.seq #[] 0,#[]⟩) ::
 (nat_lit 242,⟨.type "code", none,.fields #[.str "_law_program" 537,.str "_law_program" 538,.str "/claim/cut.py" 539,.int 164 0,.int 5 0,.int 0 0,.int 0 0,.int 3 0,.ref 237,.bool true,.int 181 0,.ref 238,.none,.ref 239,.ref 240,.ref 241,.int 548 0,.int 164 0,.str "/claim/cut.py" 549],#[]⟩) ::
 (nat_lit 243,⟨.type "function", none,.func ⟨"_law_program", "_law_program", L2.defArgs (top 36),.stmts (L2.defBody (top 36)),L2.defScope (top 36),3,[],.none,.none,.none,.str "law_usewarden_k50_rows_behind" 481,none,.ref 242,.none,0⟩,#[]⟩) ::
 (nat_lit 244,⟨.type "tuple", none,.seq #[] 0,#[]⟩) ::
 (nat_lit 246,⟨.type "tuple", none,.seq #[.str "_law_code" 554,.str "_law_at" 555] 0,#[]⟩) ::
 (nat_lit 247,⟨.type "tuple", none,.seq #[] 0,#[]⟩) ::
 (nat_lit 249,⟨.type "code", none,.fields #[.str "_law_due" 551,.str "_law_due" 552,.str "/claim/cut.py" 553,.int 181 0,.int 2 0,.int 0 0,.int 0 0,.int 3 0,.ref 244,.bool true,.int 181 0,.ref 245,.none,.ref 246,.ref 247,.ref 248,.int 556 0,.int 181 0,.str "/claim/cut.py" 557],#[]⟩) ::
 (nat_lit 250,⟨.type "function", none,.func ⟨"_law_due", "_law_due", L2.defArgs (top 37),.stmts (L2.defBody (top 37)),L2.defScope (top 37),3,[],.none,.none,.none,.str "law_usewarden_k50_rows_behind" 481,none,.ref 249,.none,0⟩,#[]⟩) ::
 (nat_lit 251,⟨.type "tuple", none,.seq #[] 0,#[]⟩) ::
 (nat_lit 253,⟨.type "tuple", none,.seq #[.str "_law_code" 562,.str "_law_at" 563,.str "_law_found" 564,.str "_law_due_here" 565,.str "_law_to" 566] 0,#[]⟩) ::
 (nat_lit 254,⟨.type "tuple", none,.seq #[] 0,#[]⟩) ::
 (nat_lit 256,⟨.type "code", none,.fields #[.str "_law_right" 559,.str "_law_right" 560,.str "/claim/cut.py" 561,.int 189 0,.int 2 0,.int 0 0,.int 0 0,.int 3 0,.ref 251,.bool true,.int 181 0,.ref 252,.none,.ref 253,.ref 254,.ref 255,.int 567 0,.int 189 0,.str "/claim/cut.py" 568],#[]⟩) ::
 (nat_lit 257,⟨.type "function", none,.func ⟨"_law_right", "_law_right", L2.defArgs (top 38),.stmts (L2.defBody (top 38)),L2.defScope (top 38),3,[],.none,.none,.none,.str "law_usewarden_k50_rows_behind" 481,none,.ref 256,.none,0⟩,#[]⟩) ::
 (nat_lit 258,⟨.type "tuple", none,.seq #[] 0,#[]⟩) ::
 (nat_lit 260,⟨.type "tuple", none,.seq #[.str "_law_code" 573,.str "_law_come" 574,.str "_law_known" 575,.str "_law_at" 576,.str "_law_to" 577] 0,#[]⟩) ::
 (nat_lit 261,⟨.type "tuple", none,.seq #[] 0,#[]⟩) ::
 (nat_lit 263,⟨.type "code", none,.fields #[.str "_law_all_come" 570,.str "_law_all_come" 571,.str "/claim/cut.py" 572,.int 199 0,.int 1 0,.int 0 0,.int 0 0,.int 3 0,.ref 258,.bool true,.int 181 0,.ref 259,.none,.ref 260,.ref 261,.ref 262,.int 578 0,.int 199 0,.str "/claim/cut.py" 579],#[]⟩) ::
 (nat_lit 264,⟨.type "function", none,.func ⟨"_law_all_come", "_law_all_come", L2.defArgs (top 39),.stmts (L2.defBody (top 39)),L2.defScope (top 39),3,[],.none,.none,.none,.str "law_usewarden_k50_rows_behind" 481,none,.ref 263,.none,0⟩,#[]⟩) ::
 (nat_lit 265,⟨.type "tuple", none,.seq #[] 0,#[]⟩) ::
 (nat_lit 267,⟨.type "tuple", none,.seq #[.str "_law_script" 584,.str "_law_first" 585,.str "_law_second" 586,.str "_law_names" 587,.str "_law_words_here" 588,.str "_law_program_here" 589,.str "_law_code" 590,.str "_law_kept" 591,.str "_law_at" 592] 0,#[]⟩) ::
 (nat_lit 268,⟨.type "tuple", none,.seq #[] 0,#[]⟩) ::
 (nat_lit 270,⟨.type "code", none,.fields #[.str "law" 581,.str "law" 582,.str "/claim/cut.py" 583,.int 210 0,.int 1 0,.int 0 0,.int 0 0,.int 3 0,.ref 265,.bool true,.int 181 0,.ref 266,.none,.ref 267,.ref 268,.ref 269,.int 593 0,.int 210 0,.str "/claim/cut.py" 594],#[]⟩) ::
 (nat_lit 271,⟨.type "function", none,.func ⟨"law", "law", L2.defArgs (top 40),.stmts (L2.defBody (top 40)),L2.defScope (top 40),3,[],.none,.none,.none,.str "law_usewarden_k50_rows_behind" 481,none,.ref 270,.none,0⟩,#[]⟩)::[]
def kk:List Addr:=[2,3,15,17,18,20,21,22,23,24,25,26,27,28,29,30,31,32,33,34,35,37,38,40,41,42,44,45,47,48,49,51,52,54,55,56,58,59,61,62,63,65,66,68,69,70,73,74,75,77,78,80,81,89,91,92,94,95,96,97,98,99,100,103,105,106,108,109,110,112,113,115,116,117,119,120,122,123,124,127,128,129,131,132,134,135,136,139,140,141,143,144,146,147,148,150,151,153,154,155,157,158,160,161,162,164,165,167,168,169,171,172,174,175,176,178,179,181,182,183,185,186,188,189,190,192,193,195,196,197,199,200,202,203,204,206,207,209,210,211,214,215,216,218,219,221,222,223,225,226,228,229,230,232,233,235,236,237,239,240,242,243,244,246,247,249,250,251,253,254,256,257,258,260,261,263,264,265,267,268,270,271]
theorem kk_eq:∀ P,kk=(KK P).map (·.1):=fun _=>by kernel_rfl
noncomputable abbrev HH:Hook:=kHook KK kk kk_eq
def qq:Program:=view PySem.Challenge.pw_usewarden_k50_rows_behind [1,3,4,5,6,7,8,9,10,11,13,14,15,16,18,19,20,21,22,23,24,25,26,27,28,30,31,32,33,34,35,36,37,38,39,40]
def loo:List Str:=["PARTS", "CLOSERS"]
noncomputable def xt(s:Shared):Bool:=xlAt qq [] s&&recOk (RowW.records (OpenRow.toRowW (OpenLaw.row PySem.Challenge.rw_usewarden_k50_rows_behind))) s
def p0(w:World):Prop:=(openEnds treeTable PySem.Challenge.pw_usewarden_k50_rows_behind w 3180).map (fun s=>openSeen qq loo (importedModules (Program.main PySem.Challenge.pw_usewarden_k50_rows_behind).body) xt true s)=some (openGood qq loo)
def pT(w:World):Prop:=(openEnds treeTable PySem.Challenge.pw_usewarden_k50_rows_behind w 3180).map (fun s=>Hook.obs HH s)=some (Hook.val HH w)
set_option maxRecDepth 1000000 in
theorem CL(w:World):p0 (w.withFollow "special-get-raises" false):=by unfold p0; kernel_rfl
set_option maxRecDepth 1000000 in
theorem BU(w:World):p0 (w.withFollow "special-get-raises" true):=by unfold p0; kernel_rfl
theorem BB(w:World):p0 w:=byRow2 "special-get-raises" (P:=p0) CL BU w
set_option maxRecDepth 1000000 in
theorem Do(w:World):pT (w.withFollow "special-get-raises" false):=by unfold pT; kernel_rfl
set_option maxRecDepth 1000000 in
theorem Cj(w:World):pT (w.withFollow "special-get-raises" true):=by unfold pT; kernel_rfl
theorem Cv(w:World):pT w:=byRow2 "special-get-raises" (P:=pT) Do Cj w
theorem uT{α β γ : Type}{o:Option α}{f:α→β}{g:α→γ}{a:β}{b:γ}(h1:o.map f=some a)(h2:o.map g=some b):o.map (fun s=>(f s,g s))=some (a,b):=by
 cases o with
 | none=>cases h1
 | some s=>cases h1; cases h2; rfl
theorem hl(w:World):(openEnds treeTable PySem.Challenge.pw_usewarden_k50_rows_behind w 3180).map (fun s=>(openSeen qq loo (importedModules (Program.main PySem.Challenge.pw_usewarden_k50_rows_behind).body) xt true s,Hook.obs HH s))=some (openGood qq loo,Hook.val HH w):=uT (BB w) (Cv w)
end K50
-- CHANGE: your row's module here, as the last of these rows
namespace L2
open PySem PySem.Spec PyProof.Rows
abbrev aA:=Sum Int Str
def hU:aA→Value→Bool
 | .inl k,v=>Value.isInt k v
 | .inr x,v=>Value.isStrOf x v
def BS(w:World):aA→Int
 | .inl k=>hashInt k
 | .inr x=>hashStr w x
theorem cr:∀ {k:aA} {v:Value},hU k v=true→(∃ i t,k=Sum.inl i∧v=Value.int i t)∨(∃ x t,k=Sum.inr x∧v=Value.str x t)
 | .inl i,v,h=>by
  obtain⟨t,e⟩:=Value.isInt_shape (k:=i) (v:=v) h
  exact .inl ⟨i,t,rfl,e⟩
 | .inr x,v,h=>by
  obtain⟨t,e⟩:=Value.isStrOf_shape (x:=x) (v:=v) h
  exact .inr ⟨x,t,rfl,e⟩
theorem sF(i:Int)(t:Tok):hU (.inl i) (.int i t)=true:=by simp[hU,Value.isInt]
theorem tF(x:Str)(t:Tok):hU (.inr x) (.str x t)=true:=by simp[hU,Value.isStrOf]
theorem zG(a b:Int):decide ((Sum.inl a:aA)=Sum.inl b)=(a == b):=by
 by_cases e:a=b
 ·subst e; simp
 ·have h:¬ (Sum.inl a:aA)=Sum.inl b:=fun q=>e (Sum.inl.inj q)
  rw[decide_eq_false h]
  exact(beq_eq_false_iff_ne.mpr e).symm
theorem zS(a b:Str):decide ((Sum.inr a:aA)=Sum.inr b)=decide (a=b):=by
 by_cases e:a=b
 ·subst e; simp
 ·have h:¬ (Sum.inr a:aA)=Sum.inr b:=fun q=>e (Sum.inr.inj q)
  rw[decide_eq_false h,decide_eq_false e]
theorem zw(a:Int)(b:Str):decide ((Sum.inl a:aA)=Sum.inr b)=false:=decide_eq_false (fun q=>nomatch q)
theorem yx(a:Str)(b:Int):decide ((Sum.inr a:aA)=Sum.inl b)=false:=decide_eq_false (fun q=>nomatch q)
def b4(prog:Program)(w:World):PySem.KeyKind prog w aA where
 is:=hU
 hash:=BS w
 inj:=fun v a b ha hb=>by
  rcases cr ha with ⟨i,t,rfl,rfl⟩ | ⟨x,t,rfl,rfl⟩
  ·rcases cr hb with ⟨j,u,rfl,e⟩ | ⟨y,u,rfl,e⟩
   ·injection e with e1 _; rw[e1]
   ·exact nomatch e
  ·rcases cr hb with ⟨j,u,rfl,e⟩ | ⟨y,u,rfl,e⟩
   ·exact nomatch e
   ·injection e with e1 _; rw[e1]
 byValue:=fun k v h=>by
  rcases cr h with ⟨i,t,rfl,rfl⟩ | ⟨x,t,rfl,rfl⟩ <;> rfl
 pyHash:=fun hv h=>by
  rcases cr hv with ⟨i,t,rfl,rfl⟩ | ⟨x,t,rfl,rfl⟩
  ·exact wpAny_pyHash_int h
  ·exact wpAny_pyHash_str h
 eqBool:=fun hu hv h=>by
  rcases cr hu with ⟨i,t,rfl,rfl⟩ | ⟨x,t,rfl,rfl⟩
  ·rcases cr hv with ⟨j,u,rfl,rfl⟩ | ⟨y,u,rfl,rfl⟩
   ·rw[zG]at h; exact wpAny_eqBool_int h
   ·rw[zw]at h; exact SeqAt.EqAt.int_str i t y u _ _ _ _ h
  ·rcases cr hv with ⟨j,u,rfl,rfl⟩ | ⟨y,u,rfl,rfl⟩
   ·rw[yx]at h; exact SeqAt.EqAt.str_int x t j u _ _ _ _ h
   ·rw[zS]at h; exact wpAny_eqBool_str h
 «strs»:=fun k x t v h=>by
  rcases cr h with ⟨i,u,rfl,e⟩ | ⟨y,u,rfl,e⟩
  ·exact nomatch e
  ·injection e with e1 _
   subst e1
   cases v <;> rfl
theorem ou(prog:Program)(w:World)(i:Int)(t:Tok):(b4 prog w).is (.inl i) (.int i t)=true:=sF i t
theorem oh(prog:Program)(w:World)(x:Str)(t:Tok):(b4 prog w).is (.inr x) (.str x t)=true:=tF x t
end L2
namespace L2
open PySem PySem.Spec PyProof.Rows
set_option genSizeOf false in
inductive V where
 | non | bl (b:Bool) | int (i:Int) | str (x:Str) | byt (b:Array UInt8) | flt (b:UInt64) | ref (a:Addr) | ty (n:String)
 deriving DecidableEq
def RelV:V→Value→Prop
 | .non,u=>u=Value.none
 | .bl b,u=>u=Value.bool b
 | .int i,u=>∃ t,u=Value.int i t
 | .str x,u=>∃ t,u=Value.str x t
 | .byt b,u=>∃ t,u=Value.bytes b t
 | .flt b,u=>∃ t,u=Value.float b t
 | .ref a,u=>u=Value.ref a
 | .ty n,u=>u=Value.type n
abbrev Vals:List V→List Value→Prop:=Paired RelV
theorem Vals.length{xs:List V}{us:List Value}(r:Vals xs us):xs.length=us.length:=Paired.length r
theorem Vals.get:∀ {xs:List V} {us:List Value} {i:Nat} {x:V},Vals xs us→xs[i]? = some x→∃ u,us[i]? = some u∧RelV x u
 | _,_,_,_,.nil,e=>by simp at e
 | _,_,0,_,.cons r _,e=>by simp at e; subst e; exact⟨_,rfl,r⟩
 | _,_,i+1,x,.cons _ t,e=>by
  obtain⟨u,h1,h2⟩:=Vals.get (i:=i) (x:=x) t (by simpa using e)
  exact⟨u,by simpa using h1,h2⟩
theorem Vals.set{x:V}{u:Value}(r:RelV x u):∀ {xs:List V} {us:List Value} (i:Nat),Vals xs us→Vals (xs.set i x) (us.set i u)
 | _,_,_,.nil=>.nil
 | _,_,0,.cons _ t=>.cons r t
 | _,_,i+1,.cons q t=>.cons q (Vals.set r i t)
theorem Vals.append:∀ {xs ys:List V} {us ws:List Value},Vals xs us→Vals ys ws→Vals (xs++ys) (us++ws)
 | _,_,_,_,.nil,s=>s
 | _,_,_,_,.cons r t,s=>.cons r (Vals.append t s)
theorem Vals.take:∀ {xs:List V} {us:List Value} (n:Nat),Vals xs us→Vals (xs.take n) (us.take n)
 | _,_,0,_=>.nil
 | _,_,_+1,.nil=>.nil
 | _,_,n+1,.cons r t=>.cons r (Vals.take n t)
theorem Vals.drop:∀ {xs:List V} {us:List Value} (n:Nat),Vals xs us→Vals (xs.drop n) (us.drop n)
 | _,_,0,r=>r
 | _,_,_+1,.nil=>.nil
 | _,_,n+1,.cons _ t=>Vals.drop n t
def RelO:Option V→Option Value→Prop
 | some v,some u=>RelV v u
 | none,none=>True
 | _,_=>False
def KV{κ : Type}:List (κ × V)→List (κ × Value)→Prop:=Paired fun (p:κ × V) (q:κ × Value)=>p.1=q.1∧RelV p.2 q.2
def kV:aA→V
 | .inl i=>.int i
 | .inr x=>.str x
set_option genSizeOf false in
inductive HO where
 /-- a list -/
 | lst (xs:List V)
 /-- a tuple (never changes) -/
 | tup (xs:List V)
 /-- a dict whose keys are ints and texts; one whose keys are tuples of ints and texts (the empty one is both) -/
 | dK (kvs:List (aA × V)) | dT (kvs:List (List aA × V))
 /-- a set of ints: its members, its size -/
 | set (S:Int→Bool) (n:Nat)
 /-- an instance of the class at C, its dict at dx, its attributes -/
 | ins (C dx:Addr) (fs:List (Str × V))
 /-- the dict of the instance at x -/
 | own (x:Addr)
 /-- the dict of an exception -/
 | xd (fs:List (Str × V))
 /-- a bound method, f of x -/
 | met (f x:Addr)
 /-- a range object lo, lo+1, .. below hi -/
 | rng (lo hi:Int)
 /-- a thing that is known to the object (the script; a dict while a loop walks it): read, never written while it is so -/
 | frz (o:Obj) (u:HO)
 /-- a code object's table -/
 | tbl (ps:Array Value)
 /-- any other thing, by what is true of its one object (a def of one's own: SetO a S n := HO.ext fun h => ..) -/
 | ext (φ : Heap→Prop)
abbrev Hp:=Addr→Option HO
def upd(H:Hp)(a:Addr)(o:HO):Hp:=fun b=>if b=a then some o else H b
theorem ae{H:Hp}{a:Addr}{o:HO}:upd H a o a=some o:=by unfold upd; rw[if_pos rfl]
theorem ap{H:Hp}{a b:Addr}{o:HO}(h:b≠a):upd H a o b=H b:=by unfold upd; rw[if_neg h]
theorem cm{H:Hp}{a b:Addr}{o u:HO}(h:H a=some o)(h':H b=some u)(d:o≠u):a≠b:=by
 intro e; subst e; rw[h]at h'; exact d (Option.some.inj h')
theorem au{H:Hp}{a b:Addr}{o:HO}(h:H a=some o)(h':H b=none):a≠b:=by
 intro e; subst e; rw[h]at h'; cases h'
def IsTupN(h:Heap)(a:Addr)(items:Array Value):Prop:=∃ o,h.get? a=some o∧o.cls = .type "tuple" ∧ o.dict=none∧∃ n,o.data = .seq items n
theorem IsTupN.tup{h:Heap}{a:Addr}{items:Array Value}(x:IsTupN h a items):IsTup h a items:=let ⟨o,e,c,_,d⟩:=x; ⟨o,e,c,d⟩
theorem IsTupN.lt{h:Heap}{a:Addr}{items:Array Value}(x:IsTupN h a items):a<h.objs.size:=let ⟨_,e,_⟩:=x; Heap.lt_size e
theorem IsTupN.new(h:Heap)(items:Array Value):IsTupN (h.push { cls:=.type "tuple", data:=.seq items }) h.objs.size items:=⟨_,Heap.get?_push_size _ rfl,rfl,rfl,_,rfl⟩
section
variable(P:Program)(w:World)
def ObjOk(H:Hp)(h:Heap)(a:Addr):HO→Prop
 | .lst xs=>xs.length≤sizeLine∧∃ (its:List Value) (n:Nat),Vals xs its∧h.get? a=some { cls:=.type "list", data:=.seq its.toArray n }
 | .tup xs=>xs.length≤sizeLine∧∃ its:List Value,Vals xs its∧IsTupN h a its.toArray
 | .dK kvs=>kvs.length≤sizeLine∧(a == sysModules)=false∧∃ vs,KV kvs vs∧h.DictOf (b4 P w) a vs
 | .dT kvs=>kvs.length≤sizeLine∧(a == sysModules)=false∧∃ xs:List (List aA × Addr × Value),
   Paired (fun (p:List aA × V) (q:List aA × Addr × Value)=>p.1=q.1∧H q.2.1=some (.tup (p.1.map kV))∧RelV p.2 q.2.2) kvs xs∧
   ∃ o es ep,h.get? a=some o∧o.ExactDict∧o.data = .dict es ep∧es.toList=xs.map (entryOfKey (tupleKind (b4 P w)))∧(xs.map (·.1)).Nodup
 | .set S n=>h.SetOf (intKind P w) a S n
 | .ins C dx fs=>H dx=some (.own a)∧fs.length≤1000∧dx≠a∧h.get? a=some (PySem.W.instObj C dx)∧
   ∃ mA,h.Ns1 dx mA∧(∀ f,RelO (fs.lookup f) (mA f))∧PySem.Within mA (fs.map (·.1))
 | .own _=>∃ o,h.get? a=some o
 | .xd fs=>∃ mA,h.Ns1 a mA∧∀ f,RelO (fs.lookup f) (mA f)
 | .rng lo hi=>∃ t u v,h.get? a=some { cls:=.type "range", data:=.fields #[.int lo t,.int hi u,.int 1 v] }
 | .frz o u=>h.get? a=some o∧ObjOk H h a u
 | .tbl ps=>h.get? a=some { cls:=.none,data:=.fields ps }
 | .met f x=>h.get? a=some (PySem.W.methodObj (.ref f) (.ref x))
 | .ext φ=>φ h∧(∃ o,h.get? a=some o)∧∀ h1 h2:Heap,φ h1→(∀ o,h1.get? a=some o→h2.get? a=some o)→φ h2
def HOk(H:Hp)(h:Heap):Prop:=∀ a o,H a=some o→ObjOk P w H h a o
end
section
variable{P:Program}{w:World}{H H':Hp}{h h':Heap}{a:Addr}{o:HO}
theorem ObjOk.lt(x:ObjOk P w H h a o):a<h.objs.size:=by
 cases o with
 | lst xs=>obtain⟨_,_,_,_,e⟩:=x; exact Heap.lt_size e
 | tup xs=>obtain⟨_,_,_,p⟩:=x; exact p.lt
 | dK kvs=>obtain⟨_,_,_,_,o,_,_,e,_⟩:=x; exact Heap.lt_size e
 | dT kvs=>obtain⟨_,_,_,_,o,_,_,e,_⟩:=x; exact Heap.lt_size e
 | set S n=>obtain⟨o,_,_,_,e,_⟩:=x; exact Heap.lt_size e
 | ins C dx fs=>obtain⟨_,_,_,e,_⟩:=x; exact Heap.lt_size e
 | own y=>obtain⟨_,e⟩:=x; exact Heap.lt_size e
 | xd fs=>obtain⟨_,⟨_,_,_,e,_⟩,_⟩:=x; exact Heap.lt_size e
 | rng lo hi=>obtain⟨_,_,_,e⟩:=x; exact Heap.lt_size e
 | frz ob u=>obtain⟨e,_⟩:=x; exact Heap.lt_size e
 | tbl ps=>exact Heap.lt_size (show h.get? a=some _ from x)
 | met f y=>exact Heap.lt_size (show h.get? a=some _ from x)
 | ext φ=>obtain⟨_,⟨_,e⟩,_⟩:=x; exact Heap.lt_size e
theorem Paired.mapP{α β : Type}{F G:α→β→Prop}:∀ {l₁:List α} {l₂:List β},Paired F l₁ l₂→(∀ a b,F a b→G a b)→Paired G l₁ l₂
 | _,_,.nil,_=>.nil
 | _,_,.cons r t,f=>.cons (f _ _ r) (Paired.mapP t f)
theorem Paired.imp'{α β : Type}{F G:α→β→Prop}(f:∀ a b,F a b→G a b){l₁:List α}{l₂:List β}(r:Paired F l₁ l₂):Paired G l₁ l₂:=Paired.mapP r f
theorem ObjOk.stay(x:ObjOk P w H h a o)(k:∀ b u,(b=a∨H b=some (.own a))→h.get? b=some u→h'.get? b=some u)
  (ho:∀ b,H b=some (.own a)→H' b=some (.own a)) (ht:∀ b xs,H b=some (.tup xs)→H' b=some (.tup xs)):ObjOk P w H' h' a o:=by
 induction o with
 | lst xs=>obtain⟨z,its,n,r,e⟩:=x; exact⟨z,its,n,r,k _ _ (.inl rfl) e⟩
 | tup xs=>obtain⟨z,its,r,ob,e,c⟩:=x; exact⟨z,its,r,ob,k _ _ (.inl rfl) e,c⟩
 | dK kvs=>obtain⟨z,y,vs,r,ob,es,ep,e,c⟩:=x; exact⟨z,y,vs,r,ob,es,ep,k _ _ (.inl rfl) e,c⟩
 | dT kvs=>
  obtain⟨z,y,xs,r,ob,es,ep,e,c⟩:=x
  exact⟨z,y,xs,Paired.mapP r fun p q z=>⟨z.1,ht _ _ z.2.1,z.2.2⟩,ob,es,ep,k _ _ (.inl rfl) e,c⟩
 | set S n=>obtain⟨ob,es,ep,t,e,c⟩:=x; exact⟨ob,es,ep,t,k _ _ (.inl rfl) e,c⟩
 | ins C dx fs=>
  obtain⟨d,z,ne,e,mA,⟨od,es,ep,e2,c⟩,r⟩:=x
  exact⟨ho _ d,z,ne,k _ _ (.inl rfl) e,mA,⟨od,es,ep,k _ _ (.inr d) e2,c⟩,r⟩
 | own y=>obtain⟨ob,e⟩:=x; exact⟨ob,k _ _ (.inl rfl) e⟩
 | xd fs=>obtain⟨mA,⟨od,es,ep,e,c⟩,r⟩:=x; exact⟨mA,⟨od,es,ep,k _ _ (.inl rfl) e,c⟩,r⟩
 | rng lo hi=>obtain⟨t,u,v,e⟩:=x; exact⟨t,u,v,k _ _ (.inl rfl) e⟩
 | frz ob u ih=>obtain⟨e,q⟩:=x; exact⟨k _ _ (.inl rfl) e,ih q⟩
 | tbl ps=>
  have e:h.get? a=some { cls:=.none,data:=.fields ps }:=x
  show h'.get? a=some { cls:=.none,data:=.fields ps }
  exact k a _ (.inl rfl) e
 | met f y=>
  have e:h.get? a=some (PySem.W.methodObj (.ref f) (.ref y)):=x
  show h'.get? a=some (PySem.W.methodObj (.ref f) (.ref y))
  exact k a _ (.inl rfl) e
 | ext φ=>obtain⟨p,⟨o,e⟩,st⟩:=x; exact⟨st _ _ p fun o q=>k _ _ (.inl rfl) q,⟨o,k _ _ (.inl rfl) e⟩,st⟩
theorem HOk.lt(x:HOk P w H h)(e:H a=some o):a<h.objs.size:=(x a o e).lt
theorem HOk.fresh(x:HOk P w H h)(e:h.objs.size≤a):H a=none:=by
 cases q:H a with
 | none=>rfl
 | some u=>exact absurd (Nat.lt_of_lt_of_le (x.lt q) e) (Nat.lt_irrefl _)
theorem HOk.kept(x:HOk P w H h)(k:∀ b u,h.get? b=some u→h'.get? b=some u):HOk P w H h':=fun a o e=>
 (x a o e).stay (fun b u _ q=>k b u q) (fun _ q=>q) fun _ _ q=>q
theorem HOk.laid(x:HOk P w H h)(k:∀ b u,h.get? b=some u→h'.get? b=some u)(hp:h.objs.size≤a)(new:ObjOk P w (upd H a o) h' a o):HOk P w (upd H a o) h':=fun b u e=>by
 have hn:=x.fresh hp
 by_cases hb:b=a
 ·subst hb; rw[ae]at e; cases e; exact new
 ·rw[ap hb]at e
  exact(x b u e).stay (fun c v _ q=>k c v q) (fun c q=>by rw[ap (au q hn)]; exact q) fun c xs q=>by rw[ap (au q hn)]; exact q
end
def Rd(H:Hp)(a:Addr)(u:HO):Prop:=H a=some u∨∃ o,H a=some (.frz o u)
theorem Rd.ok{P:Program}{w:World}{H:Hp}{h:Heap}{a:Addr}{u:HO}(r:Rd H a u)(x:HOk P w H h):ObjOk P w H h a u:=by
 rcases r with r | ⟨o,r⟩
 ·exact x a u r
 ·obtain⟨_,q⟩:=x a _ r
  exact q
def t_:Option HO→Prop
 | some (.lst _)=>True
 | some (.dK _)=>True
 | some (.dT _)=>True
 | some (.set _ _)=>True
 | some (.ins _ _ _)=>True
 | some (.ext _)=>True
 | _=>False
section
variable{P:Program}{w:World}{H:Hp}{h h':Heap}{x e:Addr}{o':HO}
theorem HOk.write(ok:HOk P w H h)(mu:t_ (H x))(he:e=x∨H e=some (.own x))(k:∀ b u,b≠e→h.get? b=some u→h'.get? b=some u)(heo:∃ u,h'.get? e=some u)
  (new:ObjOk P w (upd H x o') h' x o'):HOk P w (upd H x o') h':=fun b u q=>by
 have nown:∀ c y,H c=some (.own y)→c≠x:=fun c y r z=>by subst z; rw[r]at mu; exact mu
 have ntup:∀ c xs,H c=some (.tup xs)→c≠x:=fun c xs r z=>by subst z; rw[r]at mu; exact mu
 by_cases hb:b=x
 ·subst hb; rw[ae]at q; cases q; exact new
 ·rw[ap hb]at q
  by_cases hbe:b=e
  ·have q':H b=some (.own x):=by
    rcases he with z | z
    ·exact absurd (hbe.trans z) hb
    ·rw[hbe]; exact z
   rw[q]at q'; cases q'
   obtain⟨v,hv⟩:=heo
   exact⟨v,by rw[hbe]; exact hv⟩
  ·refine(ok b u q).stay (fun c v hc r=>k c v ?_ r) (fun c r=>by rw[ap (nown c b r)]; exact r) fun c xs r=>by rw[ap (ntup c xs r)]; exact r
   rcases hc with rfl | hc
   ·exact hbe
   ·rintro rfl
    rcases he with z | z
    ·exact nown c b hc z
    ·rw[hc]at z; cases z; exact hb rfl
end
structure Un (fs ex:List Addr) (H H':Hp) (h h':Heap):Prop where
 keep:∀ b o,h.get? b=some o→H b=none→b∉fs→b∉ex→h'.get? b=some o
 slot:∀ b o,h.get? b=some o→H b=none→b∈fs→b∉ex→∃ sl,h'.get? b=some { o with slots:=sl }
 free:∀ b o,h.get? b=some o→H b=none→b∉ex→H' b=none
 there:∀ b o,h.get? b=some o→b∉ex→∃ o',h'.get? b=some o'
 tups:∀ b xs,H b=some (.tup xs)→H' b=some (.tup xs)
 frzs:∀ b o u,H b=some (.frz o u)→H' b=some (.frz o u)
 tbls:∀ b ps,H b=some (.tbl ps)→∃ more,H' b=some (.tbl (ps++more))
section
variable{fs fs' ex ex':List Addr}{H H1 H2:Hp}{h h1 h2 h':Heap}{a x e:Addr}{o:HO}
theorem Un.any(u:Un fs ex H H1 h h1){b:Addr}{ob:Obj}(q:h.get? b=some ob)(n:H b=none)(hx:b∉ex):∃ sl,h1.get? b=some { ob with slots:=sl }:=by
 by_cases hb:b∈fs
 ·exact u.slot b ob q n hb hx
 ·exact⟨ob.slots,u.keep b ob q n hb hx⟩
theorem Un.kept(k:∀ b u,h.get? b=some u→h'.get? b=some u):Un fs ex H H h h':=
 ⟨fun b ob q _ _ _=>k b ob q,fun b ob q _ _ _=>⟨ob.slots,k b ob q⟩,fun _ _ _ n _=>n,fun b ob q _=>⟨ob,k b ob q⟩,fun _ _ q=>q,fun _ _ _ q=>q,fun _ ps q=>⟨#[],by rw[q]; simp⟩⟩
theorem Un.refl:Un fs ex H H h h:=Un.kept fun _ _ q=>q
theorem Un.laid(k:∀ b u,h.get? b=some u→h'.get? b=some u)(hp:h.objs.size≤a)(hn:H a=none):Un fs ex H (upd H a o) h h' where
 keep:=fun b u q _ _ _=>k b u q
 slot:=fun b u q _ _ _=>⟨u.slots,k b u q⟩
 free:=fun b u q n _=>by rw[ap (Nat.ne_of_lt (Nat.lt_of_lt_of_le (Heap.lt_size q) hp))]; exact n
 there:=fun b u q _=>⟨u,k b u q⟩
 tups:=fun b xs q=>by rw[ap (au q hn)]; exact q
 frzs:=fun b u xs q=>by rw[ap (au q hn)]; exact q
 tbls:=fun b ps q=>⟨#[],by rw[ap (au q hn),q]; simp⟩
theorem Un.write(mu:t_ (H x))(he:e=x∨H e=some (.own x))(k:∀ b u,b≠e→h.get? b=some u→h'.get? b=some u)(heo:∃ u,h'.get? e=some u):Un fs ex H (upd H x o) h h':=by
 have hx:∀ b,H b=none→b≠x:=fun b n z=>by subst z; rw[n]at mu; exact mu
 have hb:∀ b,H b=none→b≠e:=fun b n z=>by
  subst z
  rcases he with r | r
  ·exact hx b n r
  ·rw[n]at r; cases r
 have hm:∀ b u,H b=some u→¬ t_ (some u)→b≠x:=fun b u q nm z=>by subst z; rw[q]at mu; exact nm mu
 refine⟨fun b u q n _ _=>k b u (hb b n) q,fun b u q n _ _=>⟨u.slots,k b u (hb b n) q⟩,fun b u q n _=>by rw[ap (hx b n)]; exact n,fun b u q _=>?_,
  fun b xs q=>by rw[ap (hm b _ q fun z=>z)]; exact q,fun b u xs q=>by rw[ap (hm b _ q fun z=>z)]; exact q,fun b ps q=>⟨#[],by rw[ap (hm b _ q fun z=>z),q]; simp⟩⟩
 by_cases hbe:b=e
 ·subst hbe; exact heo
 ·exact⟨u,k b u hbe q⟩
end
def wx(h:Heap)(H:Hp):List Addr:=(List.range h.objs.size).filter fun a=>(H a).isSome
def fR(h:Heap)(H:Hp):Heap:=PySem.W.hideAll h (wx h H)
theorem ud(h:Heap)(H:Hp):(fR h H).objs.size=h.objs.size:=PySem.W.hideAll_size _ _
theorem vH{h:Heap}{H:Hp}{b:Addr}{o:Obj}(e:h.get? b=some o)(n:H b=none):(fR h H).get? b=some o:=
 PySem.W.hideAll_get _ e fun hm=>by
  have q:(H b).isSome=true:=(List.mem_filter.mp hm).2
  rw[n]at q; simp at q
theorem yh{h:Heap}{H:Hp}{b:Addr}{o:Obj}(e:(fR h H).get? b=some o):h.get? b=some o∧H b=none:=by
 have e':h.get? b=some o:=PySem.W.of_hideAll (wx h H) e
 refine⟨e',?_⟩
 cases q:H b with
 | none=>rfl
 | some x=>
  have hm:b∈wx h H:=List.mem_filter.mpr ⟨List.mem_range.mpr (Heap.lt_size e'),by simp[q]⟩
  have z:(fR h H).get? b=none:=PySem.W.hideAll_none (wx h H) hm
  rw[z]at e; cases e
def xG(g h:Heap)(L:Addr):List (Addr × Obj):=(List.range h.objs.size).filterMap fun a=>if a=L∨(g.get? a).isSome=true then none else (h.get? a).map fun o=>(a,o)
def rest(g h:Heap)(L d:Addr):List (Addr × Obj):=(xG g h L).filter fun p=>decide (p.1≠d)
end L2
namespace L2
open PySem PySem.Spec PyProof.Rows
structure Mod (K:PySem.W.Frag) (mg:Str→Option Value) (base:Heap):Prop where
 kin:K.In base
 glob:base.Ns mainGlobals mg
 blt:∃ mb,base.Ns builtinsNs mb∧∀ x:Str,x ≠ "__name__" → mb x=bootBuiltins x
 nolimit:base.NoLimit
set_option genInjectivity false in
set_option genSizeOf false in
structure Cx where
 prog:Program
 w:World
 K:PySem.W.Frag
 mg:Str→Option Value
 base:Heap
 A:Around
 N:List Str
 s₀ : Shared
 H₀ : Hp
 env:Env
 outer:List Env
 stack:List Env
 ex:List Addr
 fn:Str→Bool
 calm:Bool
 pn:List (Addr × Obj)
 xe:Value→Shared→Prop
def gn(l:List Env):List Addr:=l.filterMap (·.frame)
abbrev Cx.fs (X:Cx):List Addr:=gn X.outer
def aq(sc:Scope)(x:Str):Prop:=sc.names.lookup x=some .local∨sc.names.lookup x=some .cell∨sc.names.lookup x=some .free
def aO(sc:Scope)(x:Str):Prop:=sc.names.lookup x=some .local∨sc.names.lookup x=some .cell
def Cg(env:Env)(h:Heap)(m:Str→Option Value)(x:Str)(u:Value):Prop:=
 (env.kindOf x=some .local∧m x=some u)∨((env.kindOf x=some .cell∨env.kindOf x=some .free)∧∃ c,env.cells.lookup x=some c∧h.IsCell c (some u))
structure Cx.Ok (X:Cx):Prop where
 mod:Mod X.K X.mg X.base
 kind:X.env.scope.kind = .function
 glob:X.env.globals=mainGlobals
 blt:X.env.builtins=builtinsNs
 above:X.s₀.heap.objs.size≤X.env.locals
 inj:∀ x y c,X.env.cells.lookup x=some c→X.env.cells.lookup y=some c→x=y
 has:∀ x,(X.env.kindOf x=some .cell∨X.env.kindOf x=some .free)→∃ c,X.env.cells.lookup x=some c
 cab:∀ x c,X.fn x=true→X.env.cells.lookup x=some c→X.s₀.heap.objs.size≤c
 hd:X.calm=true→X.A.handled=none
 frames:X.A.frames=some X.stack
 stk:X.stack=X.outer∨(X.stack=X.env::X.outer∧X.env.frame=some X.env.locals)
 exf:∀ b∈X.ex,b≠X.env.locals∧∀ x c,X.env.cells.lookup x=some c→c≠b
 bs:∀ b o,X.base.get? b=some o→X.s₀.heap.get? b=some o∧X.H₀ b=none
 bsz:X.base.objs.size≤X.s₀.heap.objs.size
 noex:∀ b o,X.base.get? b=some o→b∉X.ex
 exfs:∀ b∈X.ex,b∉X.fs
 funs:X.s₀.heap.FunFrames X.base X.outer
 frf:∀ b∈X.fs,X.H₀ b=none
structure Inv (X:Cx) (pins:List (Addr × Obj)) (σ : List (Option V)) (H:Hp) (s:Shared):Prop where
 ok:X.Ok
 os:s.os=X.s₀.os
 bare:AllBare s.gens
 base:Un X.fs X.ex X.H₀ H X.s₀.heap s.heap
 loc:∃ m,s.heap.Ns X.env.locals m∧∀ (i:Nat) (x:Str) (v:V),X.N[i]? = some x→σ[i]? = some (some v)→aq X.env.scope x→∃ u,RelV v u∧Cg X.env s.heap m x u
 cell:∀ x c,X.env.cells.lookup x=some c→∃ v,s.heap.IsCell c v
 free:H X.env.locals=none
 freeC:∀ x c,X.env.cells.lookup x=some c→H c=none
 pin:∀ p∈X.pn++pins,s.heap.get? p.1=some p.2∧H p.1=none∧p.1≠X.env.locals∧p.1∉X.fs∧∀ v,p.2.data ≠ .cell v
 hok:HOk X.prog X.w H s.heap
 len:σ.length=X.N.length
section
variable{X:Cx}{pins:List (Addr × Obj)}{σ : List (Option V)}{H H':Hp}{s:Shared}{h':Heap}
theorem Cx.Ok.nofr(ok:X.Ok){b:Addr}{o:Obj}(e:X.base.get? b=some o):b∉X.fs:=fun hb=>by
 have:=(ok.funs.mem hb).1
 rw[e]at this; cases this
theorem Inv.bs(I:Inv X pins σ H s):∀ b o,X.base.get? b=some o→s.heap.get? b=some o∧H b=none:=fun b o e=>
 ⟨I.base.keep b o (I.ok.bs b o e).1 (I.ok.bs b o e).2 (I.ok.nofr e) (I.ok.noex b o e),I.base.free b o (I.ok.bs b o e).1 (I.ok.bs b o e).2 (I.ok.noex b o e)⟩
theorem Inv.bk(I:Inv X pins σ H s):∀ b o,X.base.get? b=some o→s.heap.get? b=some o:=fun b o e=>(I.bs b o e).1
theorem Inv.mod(I:Inv X pins σ H s):Mod X.K X.mg X.base:=I.ok.mod
theorem Inv.kIn(I:Inv X pins σ H s):X.K.In s.heap:=I.ok.mod.kin.keeps I.bk
theorem Inv.lt(I:Inv X pins σ H s):X.env.locals<s.heap.objs.size:=let ⟨_,hn,_⟩:=I.loc; hn.lt
theorem Inv.sz(I:Inv X pins σ H s):X.s₀.heap.objs.size≤s.heap.objs.size:=Nat.le_trans I.ok.above (Nat.le_of_lt I.lt)
theorem Inv.nofs(I:Inv X pins σ H s){a:Addr}(h:s.heap.objs.size≤a):a∉X.fs:=fun hb=>by
 obtain⟨_,o,ho,_⟩:=I.ok.funs.mem hb
 exact absurd (Nat.lt_of_lt_of_le (Heap.lt_size ho) (Nat.le_trans I.sz h)) (Nat.lt_irrefl _)
theorem Inv.cne(I:Inv X pins σ H s):∀ x c,X.env.cells.lookup x=some c→c≠X.env.locals:=fun x c e z=>by
 obtain⟨v,o,ho,hd⟩:=I.cell x c e
 obtain⟨m,⟨o',es,ep,ho',hd',_⟩,_⟩:=I.loc
 rw[z,ho']at ho; cases ho; rw[hd']at hd; cases hd
theorem Inv.funs(I:Inv X pins σ H s):s.heap.FunFrames X.base X.outer:=by
 have all:∀ (l:List Env),(∀ b∈gn l,b∈X.fs)→X.s₀.heap.FunFrames X.base l→s.heap.FunFrames X.base l:=by
  intro l
  induction l with
  | nil=>intro _ _; trivial
  | cons env r ih=>
   intro hs hl
   obtain⟨hk,⟨L,o,hf,hn,ho,hd⟩,hr⟩:=hl
   have hL:L∈X.fs:=hs L (by unfold gn; rw[List.filterMap_cons,hf]; exact List.mem_cons_self)
   obtain⟨sl,e⟩:=I.base.slot L o ho (I.ok.frf L hL) hL fun z=>I.ok.exfs L z hL
   exact⟨hk,⟨L,_,hf,hn,e,hd⟩,ih (fun b hb=>hs b (by unfold gn; rw[List.filterMap_cons,hf]; exact List.mem_cons_of_mem _ hb)) hr⟩
 exact all X.outer (fun _ hb=>hb) I.ok.funs
theorem Inv.stack(I:Inv X pins σ H s):s.heap.FunFrames X.base X.stack:=by
 rcases I.ok.stk with e | ⟨e,hf⟩
 ·rw[e]; exact I.funs
 ·rw[e]
  obtain⟨m,hn,_⟩:=I.loc
  refine .cons (by rw[I.ok.kind]; decide) hf hn ?_ I.funs
  exact Heap.get?_none_of_le (Nat.le_trans I.ok.bsz I.ok.above)
theorem Inv.stkSub(I:Inv X pins σ H s):∀ b∈gn X.stack,b∈X.env.locals::X.fs:=fun b hb=>by
 rcases I.ok.stk with e | ⟨e,hf⟩
 ·rw[e]at hb; exact List.mem_cons_of_mem _ hb
 ·rw[e]at hb
  unfold gn at hb
  rw[List.filterMap_cons,hf]at hb
  exact hb
theorem Inv.stkFree(I:Inv X pins σ H s):∀ b∈gn X.stack,H b=none:=fun b hb=>by
 rcases List.mem_cons.mp (I.stkSub b hb) with e | hb
 ·rw[e]; exact I.free
 ·obtain⟨_,o,ho,_⟩:=I.ok.funs.mem hb
  exact I.base.free b o ho (I.ok.frf b hb) fun z=>I.ok.exfs b z hb
theorem Inv.step{g':Array GenState}{t':Nat}{d':Drawn}{ch:List Addr}(I:Inv X pins σ H s)
  (hch:∀ b∈ch,(b∈X.ex∨X.s₀.heap.objs.size≤b)∧b≠X.env.locals∧(∀ x c,X.env.cells.lookup x=some c→c≠b)∧∀ p∈X.pn++pins,p.1≠b)
  (keep:∀ b o,b≠X.env.locals→b∉X.fs→b∉ch→s.heap.get? b=some o→H b=none→h'.get? b=some o)
  (slot:∀ b o,b≠X.env.locals→b∈X.fs→b∉ch→s.heap.get? b=some o→H b=none→∃ sl,h'.get? b=some { o with slots:=sl }) (free:∀ b o,b∉ch→s.heap.get? b=some o→H b=none→H' b=none)
  (there:∀ b o,b∉ch→s.heap.get? b=some o→∃ o',h'.get? b=some o')
  (tups:∀ b xs,H b=some (.tup xs)→H' b=some (.tup xs)) (frzs:∀ b o u,H b=some (.frz o u)→H' b=some (.frz o u)) (tbls:∀ b ps,H b=some (.tbl ps)→∃ more,H' b=some (.tbl (ps++more)))
  (ns:∀ m,s.heap.Ns X.env.locals m→h'.Ns X.env.locals m) (hok:HOk X.prog X.w H' h') (hg:AllBare g') :
  Inv X pins σ H' { s with heap:=h',gens:=g',drawn:=d',toks:=t' }:=by
 have neL:∀ b o,X.s₀.heap.get? b=some o→b≠X.env.locals:=fun b o e=>Nat.ne_of_lt (Nat.lt_of_lt_of_le (Heap.lt_size e) I.ok.above)
 have neC:∀ b o,X.s₀.heap.get? b=some o→b∉X.ex→b∉ch:=fun b o e hx hb=>by
  rcases(hch b hb).1 with z | z
  ·exact hx z
  ·exact absurd (Nat.lt_of_lt_of_le (Heap.lt_size e) z) (Nat.lt_irrefl _)
 have cellK:∀ x c,X.env.cells.lookup x=some c→∀ v,s.heap.IsCell c v→h'.IsCell c v:=fun x c e v ⟨o,ho,hd⟩=>by
  have nch:c∉ch:=fun z=>(hch c z).2.2.1 x c e rfl
  by_cases hc:c∈X.fs
  ·obtain⟨sl,q⟩:=slot c o (I.cne x c e) hc nch ho (I.freeC x c e)
   exact⟨_,q,hd⟩
  ·exact⟨o,keep c o (I.cne x c e) hc nch ho (I.freeC x c e),hd⟩
 refine⟨I.ok,I.os,hg,⟨fun b o e n hb hx=>?_,fun b o e n hb hx=>?_,fun b o e n hx=>?_,fun b o e hx=>?_,fun b xs e=>tups b xs (I.base.tups b xs e),fun b o xs e=>frzs b o xs (I.base.frzs b o xs e),fun b ps e=>?_⟩,?_,fun x c e=>?_,?_,fun x c e=>?_,fun p hp=>?_,hok,I.len⟩
 ·exact keep b o (neL b o e) hb (neC b o e hx) (I.base.keep b o e n hb hx) (I.base.free b o e n hx)
 ·obtain⟨sl,e1⟩:=I.base.slot b o e n hb hx
  obtain⟨sl',e2⟩:=slot b _ (neL b o e) hb (neC b o e hx) e1 (I.base.free b o e n hx)
  exact⟨sl',e2⟩
 ·obtain⟨o',e1⟩:=I.base.there b o e hx
  exact free b o' (neC b o e hx) e1 (I.base.free b o e n hx)
 ·obtain⟨o',e1⟩:=I.base.there b o e hx
  exact there b o' (neC b o e hx) e1
 ·obtain⟨m1,e1⟩:=I.base.tbls b ps e
  obtain⟨m2,e2⟩:=tbls b _ e1
  exact⟨m1++m2,by rw[e2,Array.append_assoc]⟩
 ·obtain⟨m,hn,hl⟩:=I.loc
  refine⟨m,ns m hn,fun i x v e1 e2 e3=>?_⟩
  obtain⟨u,r,l⟩:=hl i x v e1 e2 e3
  refine⟨u,r,?_⟩
  rcases l with l | ⟨k,c,e,z⟩
  ·exact .inl l
  ·exact .inr ⟨k,c,e,cellK x c e _ z⟩
 ·obtain⟨v,z⟩:=I.cell x c e
  exact⟨v,cellK x c e v z⟩
 ·obtain⟨m,⟨o,_,_,ho,_⟩,_⟩:=I.loc
  exact free _ o (fun z=>(hch _ z).2.1 rfl) ho I.free
 ·obtain⟨v,o,ho,hd⟩:=I.cell x c e
  exact free c o (fun z=>(hch c z).2.2.1 x c e rfl) ho (I.freeC x c e)
 ·obtain⟨e,n,ne,nf,d⟩:=I.pin p hp
  have nch:p.1∉ch:=fun z=>(hch p.1 z).2.2.2 p hp rfl
  exact⟨keep p.1 p.2 ne nf nch e n,free p.1 p.2 nch e n,ne,nf,d⟩
theorem Inv.un{t':Nat}(I:Inv X pins σ H s)(u:Un X.fs [] H H' s.heap h')(hok:HOk X.prog X.w H' h'):Inv X pins σ H' { s with heap:=h',toks:=t' }:=by
 obtain⟨m,⟨o,es,ep,ho,r⟩,_⟩:=id I.loc
 obtain⟨sl,hL⟩:=u.any ho I.free (by simp)
 exact I.step (g':=s.gens) (d':=s.drawn) (ch:=[]) (fun _ z=>nomatch z) (fun b o _ hb _ e n=>u.keep b o e n hb (by simp)) (fun b o _ hb _ e n=>u.slot b o e n hb (by simp)) (fun b o _ e n=>u.free b o e n (by simp)) (fun b o _ e=>u.there b o e (by simp)) u.tups u.frzs u.tbls (fun m' hm=>by
  obtain⟨o',es',ep',ho',r'⟩:=hm
  rw[ho]at ho'; cases ho'
  exact⟨_,es',ep',hL,r'⟩) hok I.bare
theorem Inv.call{g':Array GenState}{t':Nat}{d':Drawn}{ch:List Addr}(I:Inv X pins σ H s)(u:Un (gn X.stack) ch H H' s.heap h')(hok:HOk X.prog X.w H' h')(hg:AllBare g')
  (hch:∀ b∈ch,(b∈X.ex∨X.s₀.heap.objs.size≤b)∧b≠X.env.locals∧(∀ x c,X.env.cells.lookup x=some c→c≠b)∧∀ p∈X.pn++pins,p.1≠b) :
  Inv X pins σ H' { s with heap:=h',gens:=g',drawn:=d',toks:=t' }:=by
 obtain⟨m,⟨o,es,ep,ho,r⟩,_⟩:=id I.loc
 obtain⟨sl,hL⟩:=u.any ho I.free fun z=>(hch _ z).2.1 rfl
 exact I.step (ch:=ch) hch (fun b o hL hb hc e n=>u.keep b o e n (fun z=>(List.mem_cons.mp (I.stkSub b z)).elim hL hb) hc) (fun b o _ _ hc e n=>u.any e n hc) (fun b o hc e n=>u.free b o e n hc) (fun b o hc e=>u.there b o e hc) u.tups u.frzs u.tbls (fun m' hm=>by
  obtain⟨o',es',ep',ho',r'⟩:=hm
  rw[ho]at ho'; cases ho'
  exact⟨_,es',ep',hL,r'⟩) hok hg
theorem Inv.turned{t':Nat}{it:Addr}(I:Inv X pins σ H s)(k:∀ b o,b≠it→s.heap.get? b=some o→h'.get? b=some o)(hn:H it=none)(hL:it≠X.env.locals)
  (h1:it∈X.ex∨X.s₀.heap.objs.size≤it) (h2:∀ x c,X.env.cells.lookup x=some c→c≠it) (h3:∀ p∈X.pn++pins,p.1≠it):Inv X pins σ H { s with heap:=h',toks:=t' }:=by
 have nit:∀ b u,H b=some u→b≠it:=fun b u e z=>by rw[z,hn]at e; cases e
 refine I.step (g':=s.gens) (d':=s.drawn) (ch:=[it]) (fun b hb=>?_) (fun b o _ _ hc e _=>k b o (fun z=>hc (by simp[z])) e) (fun b o _ _ hc e _=>⟨o.slots,k b o (fun z=>hc (by simp[z])) e⟩) (fun _ _ _ _ n=>n)
  (fun b o hc e=>⟨o,k b o (fun z=>hc (by simp[z])) e⟩) (fun _ _ e=>e) (fun _ _ _ e=>e) (fun b ps e=>⟨#[],by rw[e]; simp⟩) (fun m hm=>?_) (fun b u e=>?_) I.bare
 ·have e:b=it:=by simpa using hb
  subst e
  exact⟨h1,hL,h2,h3⟩
 ·obtain⟨o,es,ep,ho,r⟩:=hm
  exact⟨o,es,ep,k _ o (Ne.symm hL) ho,r⟩
 ·refine(I.hok b u e).stay (fun c v hc q=>k c v ?_ q) (fun _ q=>q) fun _ _ q=>q
  rcases hc with z | z
  ·rw[z]; exact nit b u e
  ·exact nit c _ z
theorem Inv.tok(I:Inv X pins σ H s)(t:Nat):Inv X pins σ H { s with toks:=t }:=I.un (h':=s.heap) (t':=t) Un.refl I.hok
theorem Inv.kept{t':Nat}(I:Inv X pins σ H s)(k:∀ b u,s.heap.get? b=some u→h'.get? b=some u):Inv X pins σ H { s with heap:=h',toks:=t' }:=I.un (Un.kept k) (I.hok.kept k)
theorem Inv.laid{a:Addr}{o:HO}{t':Nat}(I:Inv X pins σ H s)(k:∀ b u,s.heap.get? b=some u→h'.get? b=some u)(hp:s.heap.objs.size≤a)(new:ObjOk X.prog X.w (upd H a o) h' a o) :
  Inv X pins σ (upd H a o) { s with heap:=h',toks:=t' }:=I.un (Un.laid k hp (I.hok.fresh hp)) (I.hok.laid k hp new)
theorem Inv.write{x e:Addr}{o:HO}{t':Nat}(I:Inv X pins σ H s)(mu:t_ (H x))(he:e=x∨H e=some (.own x))(k:∀ b u,b≠e→s.heap.get? b=some u→h'.get? b=some u)(heo:∃ u,h'.get? e=some u)
  (new:ObjOk X.prog X.w (upd H x o) h' x o):Inv X pins σ (upd H x o) { s with heap:=h',toks:=t' }:=I.un (Un.write mu he k heo) (I.hok.write mu he k heo new)
theorem Inv.weak{σ':List (Option V)}(I:Inv X pins σ H s)(hl:σ'.length=σ.length)(w:∀ (i:Nat) v,σ'[i]? = some (some v)→σ[i]? = some (some v)):Inv X pins σ' H s:=
 ⟨I.ok,I.os,I.bare,I.base,let ⟨m,hn,hl'⟩:=I.loc; ⟨m,hn,fun i x v e1 e2 e3=>hl' i x v e1 (w i v e2) e3⟩,I.cell,I.free,I.freeC,I.pin,I.hok,hl.trans I.len⟩
theorem Inv.pins_of{pins':List (Addr × Obj)}(I:Inv X pins σ H s)(h:∀ p∈pins',s.heap.get? p.1=some p.2∧H p.1=none∧p.1≠X.env.locals∧p.1∉X.fs∧∀ v,p.2.data ≠ .cell v):Inv X pins' σ H s:=
 ⟨I.ok,I.os,I.bare,I.base,I.loc,I.cell,I.free,I.freeC,fun p hp=>(List.mem_append.mp hp).elim (fun z=>I.pin p (List.mem_append_left _ z)) (h p),I.hok,I.len⟩
theorem ma{N:List Str}(hN:N.Nodup){i j:Nat}{x:Str}(a:N[i]? = some x)(b:N[j]? = some x):i=j:=by
 obtain⟨h1,e1⟩:=List.getElem?_eq_some_iff.mp a
 obtain⟨h2,e2⟩:=List.getElem?_eq_some_iff.mp b
 exact(List.getElem_inj hN).mp (e1.trans e2.symm)
theorem ut{M:Model}{A:Around}{E:Value→Shared→Prop}{i:Nat}{x:Str}{v:V}{u:Value}{Q:Unit→Shared→Prop}(I:Inv X pins σ H s)(hN:X.N.Nodup)(hi:X.N[i]? = some x)(hx:aO X.env.scope x)(r:RelV v u)
  (h:∀ s',Inv X pins (σ.set i (some v)) H s'→(∃ a,Heap.SameBut a s.heap s'.heap∧(a=X.env.locals∨X.env.cells.lookup x=some a))→Q () s') (hf:X.fn x=true∨X.env.scope.names.lookup x=some .local:=by first | exact .inl rfl | exact .inr rfl | assumption):wpAny M A (storeName X.env x u) Q E s:=by
 obtain⟨m,hn,hl⟩:=id I.loc
 have hcls:(X.env.scope.kind == .class||(X.env.scope.kind == .module&&X.env.locals != X.env.globals))=false:=by rw[I.ok.kind]; rfl
 have hiσ : i<σ.length:=by rw[I.len]; exact(List.getElem?_eq_some_iff.mp hi).1
 have cne:=I.cne
 have tracked:∀ {a:Addr} {h':Heap},(∃ o,s.heap.get? a=some o∧H a=none)→Heap.SameBut a s.heap h'→HOk X.prog X.w H h':=fun {a h'} ha hs b ob e=>by
  obtain⟨_,_,hfree⟩:=ha
  refine(I.hok b ob e).stay (fun c w' hc q=>(hs.2 c ?_).trans q) (fun _ q=>q) fun _ _ q=>q
  rintro rfl
  rcases hc with rfl | hc
  ·rw[hfree]at e; cases e
  ·rw[hfree]at hc; cases hc
 rcases hx with hk | hk
 ·refine wpAny_storeName_local hk hn (fun h' hn' hs=>?_) hcls
  obtain⟨oL,_,_,hoL,_⟩:=id hn
  refine h _ ⟨I.ok,I.os,I.bare,⟨fun b o e n hb hx=>?_,fun b o e n hb hx=>?_,I.base.free,fun b o e hx=>?_,I.base.tups,I.base.frzs,I.base.tbls⟩,⟨_,hn',fun j y v' e1 e2 e3=>?_⟩,fun y c e=>?_,I.free,I.freeC,fun p hp=>?_,tracked ⟨oL,hoL,I.free⟩ hs,by simpa using I.len⟩ ⟨_,hs,.inl rfl⟩
  ·exact(hs.2 b (Nat.ne_of_lt (Nat.lt_of_lt_of_le (Heap.lt_size e) I.ok.above))).trans (I.base.keep b o e n hb hx)
  ·obtain⟨sl,e1⟩:=I.base.slot b o e n hb hx
   exact⟨sl,(hs.2 b (Nat.ne_of_lt (Nat.lt_of_lt_of_le (Heap.lt_size e) I.ok.above))).trans e1⟩
  ·obtain⟨o',e1⟩:=I.base.there b o e hx
   exact⟨o',(hs.2 b (Nat.ne_of_lt (Nat.lt_of_lt_of_le (Heap.lt_size e) I.ok.above))).trans e1⟩
  ·by_cases hj:j=i
   ·subst hj
    rw[hi]at e1; cases e1
    rw[List.getElem?_set_self hiσ]at e2
    cases e2
    exact⟨u,r,.inl ⟨hk,by simp⟩⟩
   ·rw[List.getElem?_set_ne (Ne.symm hj)]at e2
    obtain⟨u',r',q⟩:=hl j y v' e1 e2 e3
    refine⟨u',r',?_⟩
    rcases q with ⟨k,e⟩ | ⟨k,c,e,z⟩
    ·refine .inl ⟨k,?_⟩
     have:y≠x:=fun e=>hj (ma hN e1 (e ▸ hi))
     simp[this,e]
    ·exact .inr ⟨k,c,e,z.sameBut hs (cne y c e)⟩
  ·obtain⟨w',z⟩:=I.cell y c e
   exact⟨w',z.sameBut hs (cne y c e)⟩
  ·obtain⟨e,n,ne,nf,d⟩:=I.pin p hp
   exact⟨(hs.2 p.1 ne).trans e,n,ne,nf,d⟩
 ·have hfn:X.fn x=true:=by
   rcases hf with z | z
   ·exact z
   ·rw[z]at hk; cases hk
  obtain⟨c,hc⟩:=I.ok.has x (.inl hk)
  obtain⟨w',z⟩:=I.cell x c hc
  refine wpAny_storeName_cell I.ok.kind hk hc z (fun h' hc' hs=>?_)
  obtain⟨oc,hoc,hocd⟩:=id z
  refine h { s with heap:=h' } ⟨I.ok,I.os,I.bare,⟨fun b o e n hb hx=>?_,fun b o e n hb hx=>?_,I.base.free,fun b o e hx=>?_,I.base.tups,I.base.frzs,I.base.tbls⟩,⟨m,hn.sameBut hs (Ne.symm (cne x c hc)),fun j y v' e1 e2 e3=>?_⟩,fun y c' e=>?_,I.free,I.freeC,fun p hp=>?_,tracked ⟨oc,hoc,I.freeC x c hc⟩ hs,by simpa using I.len⟩ ⟨c,hs,.inr hc⟩
  ·exact(hs.2 b (Nat.ne_of_lt (Nat.lt_of_lt_of_le (Heap.lt_size e) (I.ok.cab x c hfn hc)))).trans (I.base.keep b o e n hb hx)
  ·obtain⟨sl,e1⟩:=I.base.slot b o e n hb hx
   exact⟨sl,(hs.2 b (Nat.ne_of_lt (Nat.lt_of_lt_of_le (Heap.lt_size e) (I.ok.cab x c hfn hc)))).trans e1⟩
  ·obtain⟨o',e1⟩:=I.base.there b o e hx
   exact⟨o',(hs.2 b (Nat.ne_of_lt (Nat.lt_of_lt_of_le (Heap.lt_size e) (I.ok.cab x c hfn hc)))).trans e1⟩
  ·by_cases hj:j=i
   ·subst hj
    rw[hi]at e1; cases e1
    rw[List.getElem?_set_self hiσ]at e2
    cases e2
    exact⟨u,r,.inr ⟨.inl hk,c,hc,hc'⟩⟩
   ·rw[List.getElem?_set_ne (Ne.symm hj)]at e2
    obtain⟨u',r',q⟩:=hl j y v' e1 e2 e3
    refine⟨u',r',?_⟩
    rcases q with q | ⟨k,c',e,z'⟩
    ·exact .inl q
    ·refine .inr ⟨k,c',e,z'.sameBut hs ?_⟩
     rintro rfl
     exact hj (ma hN e1 (I.ok.inj _ _ _ e hc ▸ hi))
  ·by_cases hcc:c'=c
   ·subst hcc; exact⟨_,hc'⟩
   ·obtain⟨w2,z2⟩:=I.cell y c' e
    exact⟨w2,z2.sameBut hs hcc⟩
  ·obtain⟨e,n,ne,nf,d⟩:=I.pin p hp
   refine⟨(hs.2 p.1 ?_).trans e,n,ne,nf,d⟩
   intro q
   rw[q,hoc]at e
   have q':oc=p.2:=Option.some.inj e
   exact d w' (by rw[← q']; exact hocd)
theorem mn{M:Model}{A:Around}{E:Value→Shared→Prop}{i:Nat}{x:Str}{v:V}{u:Value}{Q:Unit→Shared→Prop}(I:Inv X pins σ H s)(hN:X.N.Nodup)(hi:X.N[i]? = some x)(hx:aO X.env.scope x)(r:RelV v u)
  (h:∀ s',Inv X pins (σ.set i (some v)) H s'→Q () s') (hf:X.fn x=true∨X.env.scope.names.lookup x=some .local:=by first | exact .inl rfl | exact .inr rfl | assumption):wpAny M A (storeName X.env x u) Q E s:=
 ut I hN hi hx r (fun s' I' _=>h s' I') hf
theorem Inv.call'{s':Shared}{ch:List Addr}(I:Inv X pins σ H s)(ho:s'.os=s.os)(u:Un (gn X.stack) ch H H' s.heap s'.heap)(hok:HOk X.prog X.w H' s'.heap)(hg:AllBare s'.gens)
  (hch:∀ b∈ch,(b∈X.ex∨X.s₀.heap.objs.size≤b)∧b≠X.env.locals∧(∀ x c,X.env.cells.lookup x=some c→c≠b)∧∀ p∈X.pn++pins,p.1≠b):Inv X pins σ H' s':=by
 obtain⟨h',g',d',t',o'⟩:=s'
 have e:o'=s.os:=ho
 subst e
 exact I.call (g':=g') (t':=t') (d':=d') u hok hg hch
end
abbrev XK:=Value→Option Addr→Hp→Prop
abbrev St:=List (Option V)
abbrev VK:=V→Hp→Prop
abbrev TE:=St→Hp→VK→Prop
abbrev TT:=St→Hp→(Bool→Hp→Prop)→Prop
abbrev TA:=St→Hp→(List V→Hp→Prop)→Prop
set_option genInjectivity false in
set_option genSizeOf false in
structure de where
 nx:St→Hp→Prop
 rt:VK
 bk:St→Hp→Prop:=fun _ _=>False
 ct:St→Hp→Prop:=fun _ _=>False
abbrev TS:=de→St→Hp→Prop
def EP(X:Cx)(pins:List (Addr × Obj))(σ : St)(Q:VK)(u:Value)(s':Shared):Prop:=∃ v H',Inv X pins σ H' s'∧RelV v u∧Q v H'
def TP(X:Cx)(pins:List (Addr × Obj))(σ : St)(Q:Bool→Hp→Prop)(b:Bool)(s':Shared):Prop:=∃ H',Inv X pins σ H' s'∧Q b H'
def AP(X:Cx)(pins:List (Addr × Obj))(σ : St)(Q:List V→Hp→Prop)(us:List Value)(s':Shared):Prop:=∃ vs H',Inv X pins σ H' s'∧Vals vs us∧Q vs H'
def SP(X:Cx)(pins:List (Addr × Obj))(D:de)(f:Flow)(s':Shared):Prop:=
 match f with
 | .next=>∃ σ' H',Inv X pins σ' H' s'∧D.nx σ' H'
 | .brk=>∃ σ' H',Inv X pins σ' H' s'∧D.bk σ' H'
 | .cont=>∃ σ' H',Inv X pins σ' H' s'∧D.ct σ' H'
 | .ret u=>∃ v σ' H',Inv X pins σ' H' s'∧RelV v u∧D.rt v H'
def PE(X:Cx)(e:Expr)(t:TE):Prop:=
 ∀ (pins:List (Addr × Obj)) (s:Shared) (σ : St) (H:Hp) (Q:VK),Inv X pins σ H s→t σ H Q→wpAny (model X.prog X.w) X.A (eval e X.env) (EP X pins σ Q) X.xe s
def PT(X:Cx)(e:Expr)(t:TT):Prop:=
 ∀ (pins:List (Addr × Obj)) (s:Shared) (σ : St) (H:Hp) (Q:Bool→Hp→Prop),Inv X pins σ H s→t σ H Q→wpAny (model X.prog X.w) X.A (isTrue e X.env (eval e X.env)) (TP X pins σ Q) X.xe s
def PW(X:Cx)(e:Expr)(t:TT):Prop:=
 ∀ (whole:Sem Value) (pins:List (Addr × Obj)) (s:Shared) (σ : St) (H:Hp) (Q:Bool→Hp→Prop),Inv X pins σ H s→t σ H Q→wpAny (model X.prog X.w) X.A (isTrue e X.env whole) (TP X pins σ Q) X.xe s
theorem PW.pt{X:Cx}{e:Expr}{t:TT}(h:PW X e t):PT X e t:=h _
def PA(X:Cx)(es:List Expr)(t:TA):Prop:=
 ∀ (pos:Pos) (pins:List (Addr × Obj)) (s:Shared) (σ : St) (H:Hp) (Q:List V→Hp→Prop),Inv X pins σ H s→t σ H Q→wpAny (model X.prog X.w) X.A (spliced (backTo pos (starEach es X.env))) (AP X pins σ Q) X.xe s
def PS(X:Cx)(st:Stmt)(t:TS):Prop:=
 ∀ (pins:List (Addr × Obj)) (s:Shared) (σ : St) (H:Hp) (D:de),Inv X pins σ H s→t D σ H→wpAny (model X.prog X.w) X.A (exec st X.env) (SP X pins D) X.xe s
def PSs(X:Cx)(st:List Stmt)(t:TS):Prop:=
 ∀ (pins:List (Addr × Obj)) (s:Shared) (σ : St) (H:Hp) (D:de),Inv X pins σ H s→t D σ H→wpAny (model X.prog X.w) X.A (execs st X.env) (SP X pins D) X.xe s
theorem aT{α : Type}{t:Sem α}{Q Q':α→Shared→Prop}{M:Model}{A:Around}{E:Value→Shared→Prop}{s:Shared}(h:wpAny M A t Q E s)(hQ:∀ a s,Q a s→Q' a s):wpAny M A t Q' E s:=wpAny_mono h hQ fun _ _ x=>x
end L2
namespace L2
open PySem PySem.Spec PyProof.Rows
section
variable{X:Cx}
def wj(i:Nat):TE:=fun σ H Q=>∃ v,σ[i]? = some (some v)∧Q v H
def tC(v:V):TE:=fun _ H Q=>Q v H
theorem yS{i:Nat}{x:Str}{pos:Pos}(hN:X.N[i]? = some x)(hv:aq X.env.scope x)(hd:(x == ("__debug__" : Str))=false:=by decide) (hcd:(x == ("__classdict__" : Str))=false:=by decide):PE X (.Name x pos) (wj i):=by
 intro pins s σ H Q I h
 obtain⟨v,e,h⟩:=h
 obtain⟨m,hn,hl⟩:=I.loc
 obtain⟨u,r,l⟩:=hl i x v hN e hv
 have fin:EP X pins σ Q u s:=⟨v,H,I,r,h⟩
 rcases l with ⟨hk,hm⟩ | ⟨hk,c,hc,hcell⟩
 ·exact wpAny_Name (wpAny_loadName_local I.ok.kind hk hn hm fin) hd
 ·rcases hk with hk | hk
  ·exact wpAny_Name (wpAny_loadName_cell I.ok.kind hk hc hcell fin) hd
  ·exact wpAny_Name (wpAny_loadName_free I.ok.kind hk hc hcell fin hcd) hd
theorem ai{i j pos}:PE X (.Constant (.int i) j pos) (tC (.int i)):=fun _ _ _ H _ I h=>wpAny_Constant_int ⟨.int i,H,I.tok _,⟨_,rfl⟩,h⟩
theorem ei{b j pos}:PE X (.Constant (.bool b) j pos) (tC (.bl b)):=fun _ _ _ H _ I h=>Constant_bool ⟨.bl b,H,I,rfl,h⟩
theorem ax{x j pos}:PE X (.Constant (.str x) j pos) (tC (.str x)):=fun _ _ _ H _ I h=>Calls.Constant_str ⟨.str x,H,I.tok _,⟨_,rfl⟩,h⟩
def Gl(X:Cx)(x:Str):Prop:=X.env.kindOf x=some .globalImplicit
theorem jS{E:Value→Shared→Prop}{pins:List (Addr × Obj)}{s:Shared}{σ : St}{H:Hp}{x:Str}{u:Value}{pos:Pos}{Q:Value→Shared→Prop}(I:Inv X pins σ H s)(hg:Gl X x)(hm:X.mg x=some u)(h:Q u s)
  (hd:(x == ("__debug__" : Str))=false:=by decide):wpAny (model X.prog X.w) X.A (eval (.Name x pos) X.env) Q E s:=
 Calls.Name_function_global I.ok.kind hg (Calls.loadGlobal_global (by rw[I.ok.glob]; exact I.mod.glob.keeps I.bk) hm h) hd
theorem fH{E:Value→Shared→Prop}{pins:List (Addr × Obj)}{s:Shared}{σ : St}{H:Hp}{x:Str}{u:Value}{pos:Pos}{Q:Value→Shared→Prop}(I:Inv X pins σ H s)(hg:Gl X x)(hm:X.mg x=none)(hv:bootBuiltins x=some u)(h:Q u s)
  (hn:x ≠ "__name__" := by decide) (hd:(x == ("__debug__" : Str))=false:=by decide):wpAny (model X.prog X.w) X.A (eval (.Name x pos) X.env) Q E s:=by
 obtain⟨mb,h1,h2⟩:=I.mod.blt
 exact Calls.Name_function_global I.ok.kind hg (Calls.loadGlobal_builtin (by rw[I.ok.glob]; exact I.mod.glob.keeps I.bk) hm (by rw[I.ok.blt]; exact h1.keeps I.bk) ((h2 x hn).trans hv) h) hd
theorem xS{x:Str}{v:V}{u:Value}{pos:Pos}(hg:Gl X x)(hm:X.mg x=some u)(r:RelV v u)(hd:(x == ("__debug__" : Str))=false:=by decide):PE X (.Name x pos) (tC v):=
 fun _ _ _ H _ I h=>jS I hg hm ⟨v,H,I,r,h⟩ hd
theorem xQ{x:Str}{v:V}{u:Value}{pos:Pos}(hg:Gl X x)(hm:X.mg x=none)(hv:bootBuiltins x=some u)(r:RelV v u)(hn:x ≠ "__name__" := by decide) (hd:(x == ("__debug__" : Str))=false:=by decide):PE X (.Name x pos) (tC v):=
 fun _ _ _ H _ I h=>fH I hg hm hv ⟨v,H,I,r,h⟩ hn hd
variable{a b:Expr}{ta tb:TE}{pos:Pos}
def tB(t:TE):TT:=fun σ H Q=>t σ H fun x H1=>∃ c,x = .bl c∧Q c H1
theorem gT{e:Expr}{t:TE}(h:PE X e t)(he:∀ whole,isTrue e X.env whole=(do let v ← whole; standAt e.pos; holding [v] (truthy v)):=by intro _; rfl):PT X e (tB t):=by
 intro pins s σ H Q I hw
 refine isTrue_plain (aT (h pins s σ H _ I hw) fun v s1 ⟨x,H1,I1,r1,q1⟩=>?_) (he _)
 obtain⟨d,rfl,q⟩:=q1
 cases r1
 exact wpAny_truthy_bool ⟨H1,I1,q⟩
variable{tA tB':TT}{rest:List Expr}
def yi(t u:TT):TT:=fun σ H Q=>t σ H fun c H1=>if c=true then u σ H1 Q else Q false H1
def AR(t u:TT):TT:=fun σ H Q=>t σ H fun c H1=>if c=true then Q true H1 else u σ H1 Q
def yW(t:TT):TT:=fun σ H Q=>t σ H fun c H1=>Q (!c) H1
theorem pD(ha:PT X a tA):PW X (.BoolOp .And [a] pos) tA:=by
 intro wh pins s σ H Q I h
 refine isTrue_and (aT (ha pins s σ H Q I h) fun c s1 e=>?_)
 cases c with
 | true=>exact isTrue_and_nil e
 | false=>exact e
theorem lP(ha:PT X a tA):PW X (.BoolOp .Or [a] pos) tA:=by
 intro wh pins s σ H Q I h
 refine isTrue_or (aT (ha pins s σ H Q I h) fun c s1 e=>?_)
 cases c with
 | false=>exact isTrue_or_nil e
 | true=>exact e
theorem jo(ha:PT X a tA)(hb:PW X (.BoolOp .And (b::rest) pos) tB'):PW X (.BoolOp .And (a::b::rest) pos) (yi tA tB'):=by
 intro wh pins s σ H Q I h
 refine isTrue_and (aT (ha pins s σ H _ I h) fun c s1 ⟨H1,I1,q1⟩=>?_)
 cases c with
 | true=>exact hb wh pins s1 σ H1 Q I1 q1
 | false=>exact⟨H1,I1,q1⟩
theorem qx(ha:PT X a tA)(hb:PW X (.BoolOp .Or (b::rest) pos) tB'):PW X (.BoolOp .Or (a::b::rest) pos) (AR tA tB'):=by
 intro wh pins s σ H Q I h
 refine isTrue_or (aT (ha pins s σ H _ I h) fun c s1 ⟨H1,I1,q1⟩=>?_)
 cases c with
 | true=>exact⟨H1,I1,q1⟩
 | false=>exact hb wh pins s1 σ H1 Q I1 q1
theorem gC(ha:PT X a tA):PT X (.UnaryOp .Not a pos) (yW tA):=by
 intro pins s σ H Q I h
 exact isTrue_not (ha pins s σ H (fun c H1=>Q (!c) H1) I h)
def xh(ta tb:TE):TE:=fun σ H Q=>ta σ H fun x H1=>∃ c,x = .bl c∧if c=true then tb σ H1 Q else Q (.bl false) H1
def w5(ta:TE):TE:=fun σ H Q=>ta σ H fun x H1=>∃ c,x = .bl c∧Q (.bl (!c)) H1
theorem sS{op}{t:TE}(h:PE X a t):PE X (.BoolOp op [a] pos) t:=fun pins s σ H Q I hw=>BoolOp_one (h pins s σ H Q I hw)
theorem uA(ha:PE X a ta)(hb:PE X (.BoolOp .And (b::rest) pos) tb):PE X (.BoolOp .And (a::b::rest) pos) (xh ta tb):=by
 intro pins s σ H Q I h
 refine BoolOp_and (aT (ha pins s σ H _ I h) fun v s1 ⟨x,H1,I1,r1,q1⟩=>?_)
 obtain⟨c,rfl,q1⟩:=q1
 cases r1
 refine wpAny_truthy_bool ?_
 cases c with
 | true=>exact hb pins s1 σ H1 Q I1 q1
 | false=>exact⟨.bl false,H1,I1,rfl,q1⟩
theorem zp(ha:PE X a ta):PE X (.UnaryOp .Not a pos) (w5 ta):=by
 intro pins s σ H Q I h
 refine UnaryOp_ (aT (ha pins s σ H _ I h) fun v s1 ⟨x,H1,I1,r1,q1⟩=>?_)
 obtain⟨c,rfl,q1⟩:=q1
 cases r1
 exact not_of (wpAny_truthy_bool ⟨.bl (!c),H1,I1,rfl,q1⟩)
def Bc(t:TT)(ta tb:TE):TE:=fun σ H Q=>t σ H fun c H1=>if c=true then ta σ H1 Q else tb σ H1 Q
theorem vU{c:Expr}(hc:PT X c tA)(ha:PE X a ta)(hb:PE X b tb):PE X (.IfExp c a b pos) (Bc tA ta tb):=by
 intro pins s σ H Q I h
 refine wpAny_IfExp (aT (hc pins s σ H _ I h) fun d s1 ⟨H1,I1,q1⟩=>?_)
 cases d with
 | true=>exact ha pins s1 σ H1 Q I1 q1
 | false=>exact hb pins s1 σ H1 Q I1 q1
end
end L2
namespace L2
open PySem PySem.Spec PyProof.Rows
def SqL(K:PySem.W.Frag)(H:Hp)(a:Addr)(xs:List V):Prop:=
 Rd H a (.lst xs)∨
  ∃ (o:Obj) (its:Array Value) (n:Nat),K.lookup a=some o∧o.cls = .type "list" ∧ o.dict=none∧o.data = .seq its n∧its.size≤sizeLine∧Vals xs its.toList
def SqT(K:PySem.W.Frag)(H:Hp)(a:Addr)(xs:List V):Prop:=
 Rd H a (.tup xs)∨
  ∃ (o:Obj) (its:Array Value) (n:Nat),K.lookup a=some o∧o.cls = .type "tuple" ∧ o.data = .seq its n∧its.size≤sizeLine∧Vals xs its.toList
def B1:Value→Option V
 | .none=>some .non
 | .bool b=>some (.bl b)
 | .int i _=>some (.int i)
 | .str x _=>some (.str x)
 | .bytes b _=>some (.byt b)
 | .float b _=>some (.flt b)
 | .ref a=>some (.ref a)
 | .type n=>some (.ty n)
 | _=>none
theorem RelV.abs{x:V}{u:Value}(r:RelV x u):B1 u=some x:=by
 cases x with
 | non=>cases r; rfl
 | bl _=>cases r; rfl
 | int _=>obtain⟨t,rfl⟩:=r; rfl
 | str _=>obtain⟨t,rfl⟩:=r; rfl
 | byt _=>obtain⟨t,rfl⟩:=r; rfl
 | flt _=>obtain⟨t,rfl⟩:=r; rfl
 | ref _=>cases r; rfl
 | ty _=>cases r; rfl
theorem RelV.inj{x y:V}{u:Value}(r:RelV x u)(q:RelV y u):x=y:=Option.some.inj (r.abs.symm.trans q.abs)
theorem Vals.inj:∀ {xs ys:List V} {us:List Value},Vals xs us→Vals ys us→xs=ys
 | _,_,_,.nil,.nil=>rfl
 | _,_,_,.cons r t,.cons r' t'=>by rw[r.inj r',Vals.inj t t']
section
variable{X:Cx}{pins:List (Addr × Obj)}{σ : St}{H:Hp}{s:Shared}{a:Addr}{xs ys:List V}
theorem SqL.of{K:PySem.W.Frag}(h:H a=some (.lst xs)):SqL K H a xs:=.inl (.inl h)
theorem SqT.of{K:PySem.W.Frag}(h:H a=some (.tup xs)):SqT K H a xs:=.inl (.inl h)
theorem Inv.list(I:Inv X pins σ H s)(h:SqL X.K H a xs):∃ its:List Value,Vals xs its∧PlainL s.heap a its.toArray∧xs.length≤sizeLine:=by
 rcases h with h | ⟨o,its,n,hk,hc,hd,hs,hz,r⟩
 ·obtain⟨z,its,n,r,e⟩:=h.ok I.hok
  exact⟨its,r,⟨_,n,e,rfl,rfl,rfl⟩,z⟩
 ·refine⟨its.toList,r,⟨o,n,I.kIn a o hk,hc,hd,by simpa using hs⟩,?_⟩
  have e:=r.length
  simp only[Array.length_toList]at e
  omega
theorem Inv.tuple(I:Inv X pins σ H s)(h:SqT X.K H a xs):∃ its:List Value,Vals xs its∧IsTup s.heap a its.toArray∧xs.length≤sizeLine:=by
 rcases h with h | ⟨o,its,n,hk,hc,hs,hz,r⟩
 ·obtain⟨z,its,r,p⟩:=h.ok I.hok
  exact⟨its,r,p.tup,z⟩
 ·refine⟨its.toList,r,⟨o,I.kIn a o hk,hc,n,by simpa using hs⟩,?_⟩
  have e:=r.length
  simp only[Array.length_toList]at e
  omega
theorem Inv.list_inj(I:Inv X pins σ H s)(h:SqL X.K H a xs)(h':SqL X.K H a ys):xs=ys:=by
 obtain⟨its,r,⟨o,n,e,_,_,d⟩,_⟩:=I.list h
 obtain⟨its',r',⟨o',n',e',_,_,d'⟩,_⟩:=I.list h'
 rw[e]at e'; cases e'
 rw[d]at d'
 injection d' with d1 _
 have:its=its':=by simpa using congrArg Array.toList d1
 subst this
 exact r.inj r'
theorem Inv.tuple_inj(I:Inv X pins σ H s)(h:SqT X.K H a xs)(h':SqT X.K H a ys):xs=ys:=by
 obtain⟨its,r,⟨o,e,_,n,d⟩,_⟩:=I.tuple h
 obtain⟨its',r',⟨o',e',_,n',d'⟩,_⟩:=I.tuple h'
 rw[e]at e'; cases e'
 rw[d]at d'
 injection d' with d1 _
 have:its=its':=by simpa using congrArg Array.toList d1
 subst this
 exact r.inj r'
end
abbrev Cx.wish (X:Cx) (E:Value→Shared→Prop):Cx:={ X with xe:=E }
abbrev Cx.nox (X:Cx):Cx:=X.wish fun _ _=>False
theorem Cx.Ok.wish{X:Cx}(ok:X.Ok)(E:Value→Shared→Prop):(X.wish E).Ok:=
 ⟨ok.mod,ok.kind,ok.glob,ok.blt,ok.above,ok.inj,ok.has,ok.cab,ok.hd,ok.frames,ok.stk,ok.exf,ok.bs,ok.bsz,ok.noex,ok.exfs,ok.funs,ok.frf⟩
theorem Cx.Ok.unwish{X:Cx}{E:Value→Shared→Prop}(ok:(X.wish E).Ok):X.Ok:=
 ⟨ok.mod,ok.kind,ok.glob,ok.blt,ok.above,ok.inj,ok.has,ok.cab,ok.hd,ok.frames,ok.stk,ok.exf,ok.bs,ok.bsz,ok.noex,ok.exfs,ok.funs,ok.frf⟩
section
variable{X:Cx}{pins:List (Addr × Obj)}{σ : St}{H:Hp}{s:Shared}{E:Value→Shared→Prop}
theorem Inv.wish(I:Inv X pins σ H s)(E:Value→Shared→Prop):Inv (X.wish E) pins σ H s:=⟨I.ok.wish E,I.os,I.bare,I.base,I.loc,I.cell,I.free,I.freeC,I.pin,I.hok,I.len⟩
theorem Inv.unwish(I:Inv (X.wish E) pins σ H s):Inv X pins σ H s:=⟨I.ok.unwish,I.os,I.bare,I.base,I.loc,I.cell,I.free,I.freeC,I.pin,I.hok,I.len⟩
theorem SP.unwish{D:de}{f:Flow}{s':Shared}(h:SP (X.wish E) pins D f s'):SP X pins D f s':=by
 cases f with
 | next=>obtain⟨σ',H',I,q⟩:=h; exact⟨σ',H',I.unwish,q⟩
 | brk=>obtain⟨σ',H',I,q⟩:=h; exact⟨σ',H',I.unwish,q⟩
 | cont=>obtain⟨σ',H',I,q⟩:=h; exact⟨σ',H',I.unwish,q⟩
 | ret u=>obtain⟨v,σ',H',I,r,q⟩:=h; exact⟨v,σ',H',I.unwish,r,q⟩
theorem PSs.nox{st:List Stmt}{t:TS}(h:PSs X.nox st t):PSs X st t:=fun pins s σ H D I hw=>
 wpAny_mono (h pins s σ H D (I.wish _) hw) (fun _ _ q=>q.unwish) fun _ _ z=>False.elim z
end
section
variable{X:Cx}{st:Stmt}{rest:List Stmt}{t u:TS}{e:Expr}{te:TE}{pos:Pos}
def ww:TS:=fun D σ H=>D.nx σ H
def yK(t u:TS):TS:=fun D σ H=>t { D with nx:=u D } σ H
theorem ci:PSs X [] ww:=fun _ _ σ H _ I h=>wpAny_execs_nil ⟨σ,H,I,h⟩
theorem aj(h1:PS X st t)(h2:PSs X rest u):PSs X (st::rest) (yK t u):=by
 intro pins s σ H D I h
 refine wpAny_execs_cons (aT (h1 pins s σ H { D with nx:=u D } I h) fun f s1 q=>?_)
 cases f with
 | next=>
  obtain⟨σ',H',I',q⟩:=q
  exact h2 pins s1 σ' H' D I' q
 | ret v=>exact q
 | brk=>exact q
 | cont=>exact q
theorem am(h1:PS X st t):PSs X [st] t:=by
 intro pins s σ H D I h
 refine wpAny_execs_cons (aT (h1 pins s σ H D I h) fun f s1 q=>?_)
 cases f with
 | next=>exact wpAny_execs_nil q
 | ret v=>exact q
 | brk=>exact q
 | cont=>exact q
theorem Inv.quiet{pins:List (Addr × Obj)}{σ : St}{H:Hp}{s:Shared}(I:Inv X pins σ H s):interactive X.env=false:=by simp[interactive,I.ok.kind]
def xk(te:TE):TS:=fun D σ H=>te σ H fun _ H1=>D.nx σ H1
theorem bD(he:PE X e te)(hs:swapsWith e none pos.line X.env=pure false:=by rfl):PS X (.Expr e pos) (xk te):=by
 intro pins s σ H D I h
 exact wpAny_Expr_any (aT (he pins s σ H _ I h) fun v s1 ⟨x,H1,I1,r1,q1⟩=>⟨σ,H1,I1,q1⟩) I.quiet hs
def Ak(te:TE):TS:=fun D σ H=>te σ H D.rt
theorem aN(he:PE X e te):PS X (.Return (some e) pos) (Ak te):=by
 intro pins s σ H D I h
 exact wpAny_Return_some (aT (he pins s σ H _ I h) fun v s1 ⟨x,H1,I1,r1,q1⟩=>⟨x,σ,H1,I1,r1,q1⟩)
def zl(c:TT)(t u:TS):TS:=fun D σ H=>c σ H fun b H1=>if b=true then t D σ H1 else u D σ H1
theorem b6{c:Expr}{a b:List Stmt}{tc:TT}(hc:PT X c tc)(ha:PSs X a t)(hb:PSs X b u):PS X (.If c a b pos) (zl tc t u):=by
 intro pins s σ H D I h
 refine wpAny_If (aT (hc pins s σ H _ I h) fun d s1 ⟨H1,I1,q1⟩=>?_)
 cases d with
 | true=>exact ha pins s1 σ H1 D I1 q1
 | false=>exact hb pins s1 σ H1 D I1 q1
end
abbrev TG:=V→St→Hp→(St→Hp→Prop)→Prop
abbrev dZ:=List V→St→Hp→(St→Hp→Prop)→Prop
def PG(X:Cx)(target:Expr)(t:TG):Prop:=
 ∀ (pins:List (Addr × Obj)) (s:Shared) (σ : St) (H:Hp) (v:V) (u:Value) (Q:St→Hp→Prop),Inv X pins σ H s→RelV v u→t v σ H Q→
  wpAny (model X.prog X.w) X.A (assign target X.env u) (fun _ s'=>∃ σ' H',Inv X pins σ' H' s'∧Q σ' H') X.xe s
def PGs(X:Cx)(ts:List Expr)(t:dZ):Prop:=
 ∀ (pins:List (Addr × Obj)) (s:Shared) (σ : St) (H:Hp) (vs:List V) (us:List Value) (Q:St→Hp→Prop),Inv X pins σ H s→Vals vs us→t vs σ H Q→
  wpAny (model X.prog X.w) X.A (assignInOrder ((assignEach ts X.env).map (·.2)) us) (fun _ s'=>∃ σ' H',Inv X pins σ' H' s'∧Q σ' H') X.xe s
abbrev mW:=V→V→V→Hp→(Hp→Prop)→Prop
def PSet(X:Cx)(t:mW):Prop:=
 ∀ (pins:List (Addr × Obj)) (s:Shared) (σ : St) (H:Hp) (o i v:V) (ov iv u:Value) (Q:Hp→Prop),Inv X pins σ H s→RelV o ov→RelV i iv→RelV v u→t o i v H Q→
  wpAny (model X.prog X.w) X.A (setItem ov iv u) (fun _ s'=>∃ H',Inv X pins σ H' s'∧Q H') X.xe s
section
variable{X:Cx}{pos:Pos}
def fU(i:Nat):TG:=fun v σ H Q=>Q (σ.set i (some v)) H
theorem x8{i:Nat}{x:Str}(hN:X.N.Nodup)(hi:X.N[i]? = some x)(hx:aO X.env.scope x)(hf:X.fn x=true∨X.env.scope.names.lookup x=some .local:=by first | exact .inl rfl | exact .inr rfl | assumption):PG X (.Name x pos) (fU i):=by
 intro pins s σ H v u Q I r h
 exact wpAny_assign_Name (mn I hN hi hx r (fun s' I'=>⟨_,H,I',h⟩) hf)
def qj:dZ:=fun vs σ H Q=>vs=[]∧Q σ H
def lz(t:TG)(u:dZ):dZ:=fun vs σ H Q=>∃ v r,vs=v::r∧t v σ H fun σ' H'=>u r σ' H' Q
theorem fM:PGs X [] qj:=by
 intro pins s σ H vs us Q I r h
 obtain⟨e,h⟩:=h
 subst e
 cases r
 exact assignInOrder_nil ⟨σ,H,I,h⟩
theorem cx{e:Expr}{es:List Expr}{t:TG}{u:dZ}(h1:PG X e t)(h2:PGs X es u)
  (hs:(assignEach (e::es) X.env).map (·.2)=assign e X.env::(assignEach es X.env).map (·.2):=by rfl):PGs X (e::es) (lz t u):=by
 intro pins s σ H vs us Q I r h
 obtain⟨v,vr,e1,h⟩:=h
 subst e1
 cases r with
 | cons r rr=>
  rw[hs]
  refine assignInOrder_cons (aT (h1 pins s σ H _ _ _ I r h) fun _ s1 ⟨σ1,H1,I1,q1⟩=>?_)
  exact h2 pins s1 σ1 H1 _ _ Q I1 rr q1
def qh(K:PySem.W.Frag)(n:Nat)(t:dZ):TG:=fun v σ H Q=>∃ a xs,v = .ref a∧SqT K H a xs∧xs.length=n∧t xs σ H Q
theorem zf{es:List Expr}{k:Nat}{t:dZ}{n:Nat}(hc:X.calm=true)(h:PGs X es t)
  (hn:(assignEach es X.env).length=n:=by rfl) (hst:(assignEach es X.env).findIdx? (·.1)=none:=by rfl):PG X (.Tuple es k pos) (qh X.K n t):=by
 intro pins s σ H v u Q I r hw
 obtain⟨a,xs,e1,hq,hl,hw⟩:=hw
 subst e1
 cases r
 obtain⟨its,rv,ht,hz⟩:=I.tuple hq
 refine assign_Tuple_tuple (I.ok.hd hc) ht (by simp[hn,← hl,rv.length]) hst fun h' hx=>?_
 have I1:Inv X pins σ H { s with heap:=h' }:=I.kept (t':=s.toks) fun b o e=>hx b o (Nat.ne_of_lt (Heap.lt_size e)) e
 exact h pins _ σ H xs _ Q I1 (by simpa using rv) hw
def yP(to ti:TE)(t:mW):TG:=fun v σ H Q=>to σ H fun o H1=>ti σ H1 fun i H2=>t o i v H2 fun H3=>Q σ H3
theorem i9{o i:Expr}{to ti:TE}{t:mW}(ho:PE X o to)(hi:PE X i ti)(hs:PSet X t)
  (ha:∀ v,assign (.Subscript o i pos) X.env v=(do
   let ov ← holding [v] (eval o X.env)
   let iv ← holding [v,ov] (eval i X.env)
   standAt pos
   holding [v,ov,iv] (setItem ov iv v)
   release [v,ov,iv] []):=by intro _; rfl):PG X (.Subscript o i pos) (yP to ti t):=by
 intro pins s σ H v u Q I r h
 rw[ha]
 refine wpAny_bind (wpAny_holding (aT (ho pins s σ H _ I h) fun ov s1 ⟨x,H1,I1,r1,q1⟩=>?_))
 refine wpAny_bind (wpAny_holding (aT (hi pins s1 σ H1 _ I1 q1) fun iv s2 ⟨y,H2,I2,r2,q2⟩=>?_))
 refine wpAny_bind (wpAny_standAt (wpAny_bind (wpAny_holding (aT (hs pins s2 σ H2 x y v ov iv u _ I2 r1 r2 r q2) fun _ s3 ⟨H3,I3,q3⟩=>?_))))
 exact wpAny_release ⟨σ,H3,I3,q3⟩
def rE(te:TE)(g:TG):TS:=fun D σ H=>te σ H fun x H1=>g x σ H1 D.nx
theorem gK{tg e:Expr}{te:TE}{g:TG}(he:PE X e te)(hg:PG X tg g)(hs:swapsWithSole [tg] e pos.line X.env=pure false:=by rfl)(hw:swappedStores [tg] e X.env=pure none:=by rfl)
  (h1:(assignEach [tg] X.env).map (·.2)=[assign tg X.env]:=by rfl):PS X (.Assign [tg] e pos) (rE te g):=by
 intro pins s σ H D I h
 refine wpAny_Assign_stores (aT (he pins s σ H _ I h) fun v s1 ⟨x,H1,I1,r1,q1⟩=>?_) hs hw
 rw[h1]
 exact aT (hg pins s1 σ H1 x v _ I1 r1 q1) fun _ s2 q=>q
theorem zN{i:Nat}{x:Str}{e:Expr}{te:TE}{pos':Pos}(hN:X.N.Nodup)(hi:X.N[i]? = some x)(hx:aO X.env.scope x)(he:PE X e te)(hs:swapsWith e (some (.Name x pos')) pos.line X.env=pure false:=by rfl)(hf:X.fn x=true∨X.env.scope.names.lookup x=some .local:=by first | exact .inl rfl | exact .inr rfl | assumption) :
  PS X (.Assign [.Name x pos'] e pos) (rE te (fU i)):=by
 intro pins s σ H D I h
 refine wpAny_Assign_Name (aT (he pins s σ H _ I h) fun v s1 ⟨y,H1,I1,r1,q1⟩=>?_) hs
 exact mn I1 hN hi hx r1 (fun s2 I2=>⟨_,H1,I2,q1⟩) hf
end
section
variable{X:Cx}{pos:Pos}
def yn(c:TT)(tb:TS):TS:=fun D σ H=>∃ W:Nat→St→Hp→Prop,(∃ m,W m σ H)∧∀ m σ H,W m σ H→
 c σ H fun b H1=>if b=true then ∃ N:St→Hp→Prop,(∀ σ' H',N σ' H'→∃ m',m'<m∧W m' σ' H')∧tb { D with nx:=N,ct:=N,bk:=D.nx } σ H1 else D.nx σ H1
theorem nK{c:Expr}{body:List Stmt}{tc:TT}{tb:TS}(hp:PassesOwn (model X.prog X.w) X.A X.env X.xe)(hc:PT X c tc)(hb:PSs X body tb):PS X (.While c body [] pos) (yn tc tb):=by
 intro pins s σ H D I h
 obtain⟨W,⟨m0,w0⟩,turn⟩:=h
 refine wpAny_While (codeAny_whileLoop (fun n s'=>∃ σ' H',Inv X pins σ' H' s'∧W n σ' H') ?_ m0 ⟨σ,H,I,w0⟩)
 rintro n s1 ⟨σ1,H1,I1,w1⟩
 refine wpAny_passesOwn hp (aT (hc pins s1 σ1 H1 _ I1 (turn n σ1 H1 w1)) fun b s2 ⟨H2,I2,q2⟩=>?_)
 cases b with
 | true=>
  obtain⟨N,hN,q2⟩:=q2
  rw[if_pos rfl]
  refine wpAny_passesOwn hp (aT (hb pins s2 σ1 H2 _ I2 q2) fun f s3 q3=>?_)
  cases f with
  | next=>
   obtain⟨σ3,H3,I3,n3⟩:=q3
   obtain⟨m',hm,w3⟩:=hN σ3 H3 n3
   exact⟨m',hm,σ3,H3,I3,w3⟩
  | cont=>
   obtain⟨σ3,H3,I3,n3⟩:=q3
   obtain⟨m',hm,w3⟩:=hN σ3 H3 n3
   exact⟨m',hm,σ3,H3,I3,w3⟩
  | brk=>exact q3
  | ret v=>exact q3
 | false=>
  rw[if_neg Bool.false_ne_true]
  exact wpAny_execs_nil ⟨σ1,H2,I2,q2⟩
end
set_option genInjectivity false in
set_option genSizeOf false in
structure It where
 go:Nat→Hp→Prop
 yld:Nat→Hp→V→Hp→Prop
 stop:Nat→Hp→Prop
def eX(X:Cx)(pins:List (Addr × Obj))(H:Hp)(b:Addr):Prop:=
 H b=none∧b≠X.env.locals∧b∉X.fs∧(b∈X.ex∨X.s₀.heap.objs.size≤b)∧(∀ x c,X.env.cells.lookup x=some c→c≠b)∧∀ p∈X.pn++pins,p.1≠b
theorem Inv.fpOk{X:Cx}{pins:List (Addr × Obj)}{σ : St}{H H':Hp}{s:Shared}{b:Addr}(I:Inv X pins σ H s)(hb:s.heap.objs.size≤b)(hn:H' b=none):eX X pins H' b:=by
 refine⟨hn,Nat.ne_of_gt (Nat.lt_of_lt_of_le I.lt hb),I.nofs hb,.inr (Nat.le_trans I.sz hb),fun x c e z=>?_,fun p hp z=>?_⟩
 ·obtain⟨v,q⟩:=I.cell x c e
  exact absurd (Nat.lt_of_lt_of_le q.lt (by rw[z]; exact hb)) (Nat.lt_irrefl _)
 ·exact absurd (Nat.lt_of_lt_of_le (Heap.lt_size (I.pin p hp).1) (by rw[z]; exact hb)) (Nat.lt_irrefl _)
structure iI (P:Program) (w:World) (K:PySem.W.Frag) (tg:Expr) (J:It) (fp:List Addr) (it:Addr) (tn:Nat→Heap→Prop):Prop where
 mem:it∈fp
 obj:∀ i h,tn i h→∀ b∈fp,∃ o,h.get? b=some o∧∀ v,o.data ≠ .cell v
 keep:∀ i h h',tn i h→(∀ b∈fp,∀ o,h.get? b=some o→h'.get? b=some o)→tn i h'
 item:∀ (X:Cx),X.prog=P→X.w=w→X.K=K→X.calm=true→∀ (i:Nat) (pins:List (Addr × Obj)) (s:Shared) (σ : St) (H:Hp) (E:Value→Shared→Prop),Inv X pins σ H s→(∀ b∈fp,eX X pins H b)→tn i s.heap→J.go i H→
  wpAny (model P w) X.A (pyNext (.ref it)) (fun r s1=>∃ u,r=some u∧
   wpAny (model P w) X.A (letOwnedTupleGo tg (.ref it) u) (fun _ s2=>∃ x H',Inv X pins σ H' s2∧RelV x u∧J.yld i H x H'∧tn (i+1) s2.heap∧∀ b∈fp,H' b=none) E s1) E s
 done:∀ (X:Cx),X.prog=P→X.w=w→X.K=K→X.calm=true→∀ (i:Nat) (pins:List (Addr × Obj)) (s:Shared) (σ : St) (H:Hp) (E:Value→Shared→Prop),Inv X pins σ H s→(∀ b∈fp,eX X pins H b)→tn i s.heap→J.stop i H→
  wpAny (model P w) X.A (pyNext (.ref it)) (fun r s1=>r=none∧Inv X pins σ H s1) E s
 self:∀ (A:Around) (i:Nat) (s:Shared) (Q:Value→Shared→Prop) (E:Value→Shared→Prop),tn i s.heap→Q (.ref it) s→wpAny (model P w) A (pyIter (.ref it)) Q E s
abbrev TI:=St→Hp→(It→Hp→Prop)→Prop
def Bb(X:Cx)(pins:List (Addr × Obj))(σ : St)(tg:Expr)(R:It→Hp→Prop)(itv:Value)(s2:Shared):Prop:=
 ∃ (it:Addr) (fp:List Addr) (tn:Nat→Heap→Prop) (J:It) (H':Hp),itv = .ref it∧Inv X pins σ H' s2∧iI X.prog X.w X.K tg J fp it tn∧tn 0 s2.heap∧(∀ b∈fp,eX X pins H' b)∧R J H'
def PI(X:Cx)(tg iter:Expr)(wi:TI):Prop:=
 ∀ (pins:List (Addr × Obj)) (s:Shared) (σ : St) (H:Hp) (R:It→Hp→Prop),Inv X pins σ H s→wi σ H R→
  wpAny (model X.prog X.w) X.A (eval iter X.env) (fun v s1=>wpAny (model X.prog X.w) X.A (pyIter v) (Bb X pins σ tg R) X.xe s1) X.xe s
theorem qt{M:Model}{A:Around}{E:Value→Shared→Prop}{s:Shared}{tg:Expr}{it:Addr}{u:Value}{o:Obj}{n:String}{vs:Array Value}{Q:Unit→Shared→Prop}(ho:s.heap.get? it=some o)(hc:o.cls = .type n)(hd:o.data = .fields vs)
    (hn:["enumerate", "zip", "dict_itemiterator", "dict_reverseitemiterator", "odict_iterator", "itertools.zip_longest", "itertools.pairwise"].contains n=false) (hQ:Q () s):wpAny M A (letOwnedTupleGo tg (.ref it) u) Q E s:=by
  unfold letOwnedTupleGo
  cases tg <;> first
    | exact wpAny_pure hQ
    | (cases u <;> first
        | exact wpAny_pure hQ
        | (refine wpAny_bind (wpAny_load ho ?_)
           rw[hc,hd]
           show wpAny M A (if (["enumerate", "zip", "dict_itemiterator", "dict_reverseitemiterator", "odict_iterator", "itertools.zip_longest", "itertools.pairwise"].contains n&&vs[0]? == some (rawInt _))=true then _ else _) Q E s
           rw[if_neg (by intro h; rw[hn,Bool.false_and]at h; cases h)]
           exact wpAny_pure hQ))
def og(K:PySem.W.Frag)(a:Addr):It:=
 ⟨fun i H=>∃ xs x,SqL K H a xs∧xs[i]? = some x,fun i H x H'=>H'=H∧∀ xs,SqL K H a xs→xs[i]? = some x,fun i H=>∃ xs,SqL K H a xs∧xs.length≤i⟩
def ur(K:PySem.W.Frag)(a:Addr):It:=
 ⟨fun i H=>∃ xs x,SqT K H a xs∧xs[i]? = some x,fun i H x H'=>H'=H∧∀ xs,SqT K H a xs→xs[i]? = some x,fun i H=>∃ xs,SqT K H a xs∧xs.length≤i⟩
def jc(lo:Int)(n:Nat):It:=⟨fun i _=>i<n,fun i H x H'=>H'=H∧x = .int (lo+i),fun i _=>n≤i⟩
theorem tu{P:Program}{w:World}{K:PySem.W.Frag}{tg:Expr}(a it:Addr):iI P w K tg (og K a) [it] it (fun i h=>h.IsListIter it a i) where
 mem:=by simp
 obj:=fun i h st b hb=>by
  have e:b=it:=by simpa using hb
  subst e
  obtain⟨o,e,c,d⟩:=st
  exact⟨o,e,fun v z=>by rw[d]at z; cases z⟩
 keep:=fun i h h' st k=>st.at fun o e=>k it (by simp) o e
 item:=by
  intro X hP hw hK hc i pins s σ H E I hf st hg
  subst hP hw hK
  obtain⟨xs,x,hq,hx⟩:=hg
  obtain⟨its,rv,p,hz⟩:=I.list hq
  obtain⟨u,hu,ru⟩:=rv.get hx
  obtain⟨f0,f1,f2,f3,f4,f5⟩:=hf it (by simp)
  refine wpAny_pyNext_list_item st p.isList (x:=u) (by simpa using hu) fun h' st' sb=>?_
  have I1:Inv X pins σ H { s with heap:=h' }:=I.turned (t':=s.toks) (fun b o hb e=>(sb.2 b hb).trans e) f0 f1 f3 f4 f5
  obtain⟨o,e,c,d⟩:=id st'
  exact⟨u,rfl,qt (s:={ s with heap:=h' }) e c d (by decide) ⟨x,H,I1,ru,⟨rfl,fun ys hy=>by rw[I.list_inj hy hq]; exact hx⟩,st',fun b hb=>(hf b hb).1⟩⟩
 done:=by
  intro X hP hw hK hc i pins s σ H E I hf st hg
  subst hP hw hK
  obtain⟨xs,hq,hx⟩:=hg
  obtain⟨its,rv,p,hz⟩:=I.list hq
  obtain⟨f0,f1,f2,f3,f4,f5⟩:=hf it (by simp)
  have hl:=rv.length
  exact wpAny_pyNext_list_end (I.ok.hd hc) st p.isList (by simp; omega) fun h' eb=>⟨rfl,I.turned (t':=s.toks) (fun b o hb e=>eb b o hb e) f0 f1 f3 f4 f5⟩
 self:=fun _ _ _ _ _ st h=>wpAny_pyIter_listiter st h
theorem rY{P:Program}{w:World}{K:PySem.W.Frag}{tg:Expr}(a it:Addr):iI P w K tg (ur K a) [it] it (fun i h=>h.IsTupleIter it a i) where
 mem:=by simp
 obj:=fun i h st b hb=>by
  have e:b=it:=by simpa using hb
  subst e
  obtain⟨o,e,c,d⟩:=st
  exact⟨o,e,fun v z=>by rw[d]at z; cases z⟩
 keep:=fun i h h' st k=>st.at fun o e=>k it (by simp) o e
 item:=by
  intro X hP hw hK hc i pins s σ H E I hf st hg
  subst hP hw hK
  obtain⟨xs,x,hq,hx⟩:=hg
  obtain⟨its,rv,p,hz⟩:=I.tuple hq
  obtain⟨u,hu,ru⟩:=rv.get hx
  obtain⟨f0,f1,f2,f3,f4,f5⟩:=hf it (by simp)
  refine wpAny_pyNext_tuple_item st (show s.heap.IsTuple a its.toArray from p) (x:=u) (by simpa using hu) fun h' st' sb=>?_
  have I1:Inv X pins σ H { s with heap:=h' }:=I.turned (t':=s.toks) (fun b o hb e=>(sb.2 b hb).trans e) f0 f1 f3 f4 f5
  obtain⟨o,e,c,d⟩:=id st'
  exact⟨u,rfl,qt (s:={ s with heap:=h' }) e c d (by decide) ⟨x,H,I1,ru,⟨rfl,fun ys hy=>by rw[I.tuple_inj hy hq]; exact hx⟩,st',fun b hb=>(hf b hb).1⟩⟩
 done:=by
  intro X hP hw hK hc i pins s σ H E I hf st hg
  subst hP hw hK
  obtain⟨xs,hq,hx⟩:=hg
  obtain⟨its,rv,p,hz⟩:=I.tuple hq
  obtain⟨f0,f1,f2,f3,f4,f5⟩:=hf it (by simp)
  have hl:=rv.length
  exact wpAny_pyNext_tuple_end (I.ok.hd hc) st (show s.heap.IsTuple a its.toArray from p) (by simp; omega) fun h' eb=>⟨rfl,I.turned (t':=s.toks) (fun b o hb e=>eb b o hb e) f0 f1 f3 f4 f5⟩
 self:=fun _ _ _ _ _ st h=>wpAny_pyIter_tupleiter st h
theorem r_{P:Program}{w:World}{K:PySem.W.Frag}{tg:Expr}(it:Addr)(lo:Int)(n:Nat):iI P w K tg (jc lo n) [it] it (fun i h=>IsRangeIter h it (lo+(i:Nat) * 1) ((n:Int) - (i:Nat)) 1) where
 mem:=by simp
 obj:=fun i h st b hb=>by
  have e:b=it:=by simpa using hb
  subst e
  exact⟨_,st,fun v z=>by
   have z':Data.fields _=Data.cell v:=z
   cases z'⟩
 keep:=fun i h h' st k=>k it (by simp) _ st
 item:=by
  intro X hP hw hK hc i pins s σ H E I hf st hg
  subst hP hw hK
  obtain⟨f0,f1,f2,f3,f4,f5⟩:=hf it (by simp)
  have W:=Walks.range (prog:=X.prog) (w:=X.w) (I.ok.hd hc) it lo 1 n
  refine W.item i s _ _ hg st fun v h' tk hv st' kk=>?_
  obtain⟨t,rfl⟩:=hv
  have I1:Inv X pins σ H { s with heap:=h',toks:=tk }:=I.turned (fun b o hb e=>kk b o (by simpa using hb) e) f0 f1 f3 f4 f5
  refine⟨_,rfl,qt (s:={ s with heap:=h',toks:=tk }) (n := "range_iterator") st' rfl rfl (by decide) ⟨.int (lo+i),H,I1,⟨t,?_⟩,⟨rfl,rfl⟩,st',fun b hb=>(hf b hb).1⟩⟩
  rw[Int.mul_one]
 done:=by
  intro X hP hw hK hc i pins s σ H E I hf st hg
  subst hP hw hK
  obtain⟨f0,f1,f2,f3,f4,f5⟩:=hf it (by simp)
  exact wpAny_pyNext_range_end (I.ok.hd hc) st (by have:n≤i:=hg; omega) fun h' eb=>⟨rfl,I.turned (t':=s.toks) (fun b o hb e=>eb b o hb e) f0 f1 f3 f4 f5⟩
 self:=fun _ _ _ _ _ st h=>wpAny_pyIter_rangeiter st h
end L2
namespace L2
open PySem PySem.Spec PyProof.Rows
section
variable{X:Cx}{tg:Expr}
def qT(K:PySem.W.Frag)(tl:TE):TI:=fun σ H R=>tl σ H fun x H1=>∃ a,x = .ref a∧(∃ xs,SqL K H1 a xs)∧R (og K a) H1
def u0(K:PySem.W.Frag)(tl:TE):TI:=fun σ H R=>tl σ H fun x H1=>∃ a,x = .ref a∧(∃ xs,SqT K H1 a xs)∧R (ur K a) H1
theorem xq{l:Expr}{tl:TE}(hl:PE X l tl):PI X tg l (qT X.K tl):=by
 intro pins s σ H R I h
 refine aT (hl pins s σ H _ I h) fun v s1 ⟨x,H1,I1,r1,q1⟩=>?_
 obtain⟨a,e,⟨xs,hq⟩,q⟩:=q1
 subst e
 cases r1
 obtain⟨its,rv,p,hz⟩:=I1.list hq
 refine wpAny_pyIter_list p.isList ?_
 refine⟨s1.heap.objs.size,[s1.heap.objs.size],_,_,H1,rfl,I1.kept (t':=s1.toks) fun b o e=>Heap.get?_push_of_some _ e,tu a _,⟨_,Heap.get?_push_size _ rfl,rfl,rfl⟩,fun b hb=>?_,q⟩
 have e:b=s1.heap.objs.size:=by simpa using hb
 subst e
 exact I1.fpOk (Nat.le_refl _) (I1.hok.fresh (Nat.le_refl _))
theorem zX{l:Expr}{tl:TE}(hl:PE X l tl):PI X tg l (u0 X.K tl):=by
 intro pins s σ H R I h
 refine aT (hl pins s σ H _ I h) fun v s1 ⟨x,H1,I1,r1,q1⟩=>?_
 obtain⟨a,e,⟨xs,hq⟩,q⟩:=q1
 subst e
 cases r1
 obtain⟨its,rv,p,hz⟩:=I1.tuple hq
 refine wpAny_pyIter_tuple (show s1.heap.IsTuple a its.toArray from p) ?_
 refine⟨s1.heap.objs.size,[s1.heap.objs.size],_,_,H1,rfl,I1.kept (t':=s1.toks) fun b o e=>Heap.get?_push_of_some _ e,rY a _,⟨_,Heap.get?_push_size _ rfl,rfl,rfl⟩,fun b hb=>?_,q⟩
 have e:b=s1.heap.objs.size:=by simpa using hb
 subst e
 exact I1.fpOk (Nat.le_refl _) (I1.hok.fresh (Nat.le_refl _))
theorem vY{pins:List (Addr × Obj)}{σ : St}{H:Hp}{s:Shared}{R:It→Hp→Prop}{E:Value→Shared→Prop}{lo hi:Int}{t u v:Tok}{tk:Nat}(I:Inv X pins σ H s)(h1:-(2 ^ 62)≤lo)(h2:lo<2 ^ 62)(h3:-(2 ^ 62)≤hi)(h4:hi<2 ^ 62)
  (q:R (jc lo (hi - lo).toNat) H):wpAny (model X.prog X.w) X.A (pyIter (.ref s.heap.objs.size)) (Bb X pins σ tg R) E { s with heap:=s.heap.push { cls:=.type "range", data:=.fields #[.int lo t,.int hi u,.int 1 v] },toks:=tk }:=by
 refine wpAny_pyIter_range (IsRange.new ..) (small_one h1 h2 h3 h4) ?_
 have I1:Inv X pins σ H { s with heap:=s.heap.push { cls:=.type "range", data:=.fields #[.int lo t,.int hi u,.int 1 v] },toks:=tk }:=I.kept fun b o e=>Heap.get?_push_of_some _ e
 refine⟨(s.heap.push { cls:=.type "range", data:=.fields #[.int lo t,.int hi u,.int 1 v] }).objs.size,[(s.heap.push { cls:=.type "range", data:=.fields #[.int lo t,.int hi u,.int 1 v] }).objs.size],_,_,H,rfl,
  I1.kept (t':=tk) fun b o e=>Heap.get?_push_of_some _ e,r_ _ lo (hi - lo).toNat,?_,fun b hb=>?_,q⟩
 ·have e1:lo+((0:Nat):Int) * 1=lo:=by simp
  have e2:(((hi - lo).toNat:Nat):Int) - ((0:Nat):Int)=Builtin.Range.rangeSize lo hi 1:=by rw[rangeSize_one]; split <;> omega
  show IsRangeIter _ _ (lo+((0:Nat):Int) * 1) ((((hi - lo).toNat:Nat):Int) - ((0:Nat):Int)) 1
  rw[e1,e2]
  exact Heap.get?_push_size _ rfl
 ·have e:b=(s.heap.push { cls:=.type "range", data:=.fields #[.int lo t,.int hi u,.int 1 v] }).objs.size:=by simpa using hb
  subst e
  exact I1.fpOk (Nat.le_refl _) (I1.hok.fresh (Nat.le_refl _))
def wK(ta:TA):TI:=fun σ H R=>ta σ H fun vs H1=>∃ j:Int,vs=[.int j]∧-(2 ^ 62)≤j∧j<2 ^ 62∧R (jc 0 j.toNat) H1
theorem fA{a:Expr}{ta:TA}{p pos:Pos}(hg:Gl X "range") (hm:X.mg "range" = none) (ha:PA X [a] ta) (hs:starEach [a] X.env=[(false,eval a X.env)]:=by rfl):PI X tg (.Call (.Name "range" p) [a] [] pos) (wK ta):=by
 intro pins s σ H R I h
 refine Call_ (fH I hg hm boot_range (PyProof.Rows.callWith_type1 (aT (ha pos pins s σ H _ I h) fun us s1 ⟨vs,H1,I1,r1,q1⟩=>?_) hs rfl))
 obtain⟨j,e,q1,q2,q⟩:=q1
 subst e
 cases r1 with
 | cons r rr=>
  cases rr
  obtain⟨t,rfl⟩:=r
  exact call_range_1 (vY I1 (by omega) (by omega) q1 q2 (by simpa using q))
def zT(wi:TI)(g:TG)(tb:TS):TS:=fun D σ H=>wi σ H fun J H1=>∃ W:Nat→Nat→St→Hp→Prop,(∃ m,W 0 m σ H1)∧∀ i m σ H,W i m σ H→
 (J.stop i H∧D.nx σ H)∨(J.go i H∧∃ N:St→Hp→Prop,(∀ σ' H',N σ' H'→∃ m',m'<m∧W (i+1) m' σ' H')∧∀ x H',J.yld i H x H'→g x σ H' fun σ2 H2=>tb { D with nx:=N,ct:=N,bk:=D.nx } σ2 H2)
def gB(fp:List Addr)(h:Heap):List (Addr × Obj):=fp.filterMap fun b=>(h.get? b).map fun o=>(b,o)
theorem eL{fp:List Addr}{h:Heap}{b:Addr}{o:Obj}(hb:b∈fp)(e:h.get? b=some o):(b,o)∈gB fp h:=List.mem_filterMap.mpr ⟨b,hb,by rw[e]; rfl⟩
theorem tq{fp:List Addr}{h:Heap}{p:Addr × Obj}(hp:p∈gB fp h):p.1∈fp∧h.get? p.1=some p.2:=by
 obtain⟨b,hb,e⟩:=List.mem_filterMap.mp hp
 cases q:h.get? b with
 | none=>rw[q]at e; cases e
 | some o=>
  rw[q]at e
  have e':(b,o)=p:=Option.some.inj e
  subst e'
  exact⟨hb,q⟩
theorem Inv.pinned{pins:List (Addr × Obj)}{σ : St}{H:Hp}{s:Shared}{fp:List Addr}(I:Inv X pins σ H s)(hf:∀ b∈fp,eX X pins H b)(ho:∀ b∈fp,∃ o,s.heap.get? b=some o∧∀ v,o.data ≠ .cell v):Inv X (pins++gB fp s.heap) σ H s:=
 I.pins_of fun p hp=>(List.mem_append.mp hp).elim (fun z=>I.pin p (List.mem_append_right _ z)) fun z=>by
  obtain⟨hb,e⟩:=tq z
  obtain⟨f0,f1,f2,_⟩:=hf p.1 hb
  obtain⟨o,e',d⟩:=ho p.1 hb
  rw[e]at e'; cases e'
  exact⟨e,f0,f1,f2,d⟩
theorem Inv.unpinned{pins pl:List (Addr × Obj)}{σ : St}{H:Hp}{s:Shared}(I:Inv X (pins++pl) σ H s):Inv X pins σ H s:=I.pins_of fun p hp=>I.pin p (List.mem_append_right _ (List.mem_append_left _ hp))
theorem cA{iter:Expr}{body:List Stmt}{wi:TI}{g:TG}{tb:TS}{pos:Pos}(hp:PassesOwn (model X.prog X.w) X.A X.env X.xe)(hc:X.calm=true)(hi:PI X tg iter wi)(hg:PG X tg g)(hb:PSs X body tb)
  (hs:∀ x,foldedSetIterable iter X.env x=pure x:=by intro _; rfl):PS X (.For tg iter body [] pos) (zT wi g tb):=by
 intro pins s σ H D I h
 refine wpAny_For (aT (hi pins s σ H _ I h) fun v s1 h1=>aT h1 fun itv s2 h2=>?_) hs
 obtain⟨it,fp,tn,J,H2,e,I2,T,st2,f2,W,⟨m0,w0⟩,turn⟩:=h2
 subst e
 -- what stays true of the iterator's objects through the loop
 have stat:∀ {H':Hp},(∀ b∈fp,H' b=none)→∀ b∈fp,eX X pins H' b:=fun hn b hb=>⟨hn b hb,(f2 b hb).2⟩
 refine codeAny_forLoop_any (fun n s'=>∃ i σ' H',Inv X pins σ' H' s'∧tn i s'.heap∧(∀ b∈fp,H' b=none)∧W i n σ' H') ?_ m0 ⟨0,σ,H2,I2,st2,fun b hb=>(f2 b hb).1,w0⟩
 rintro n s3 ⟨i,σ3,H3,I3,st3,fr3,w3⟩
 rcases turn i n σ3 H3 w3 with ⟨stop,qn⟩ | ⟨go,N,hN,step⟩
 ·refine wpAny_passesOwn hp (aT (T.done X rfl rfl rfl hc i pins s3 σ3 H3 X.xe I3 (stat fr3) st3 stop) fun r s4 ⟨hr,I4⟩=>?_)
  subst hr
  exact wpAny_execs_nil ⟨σ3,H3,I4,qn⟩
 ·refine wpAny_passesOwn hp (aT (T.item X rfl rfl rfl hc i pins s3 σ3 H3 X.xe I3 (stat fr3) st3 go) fun r s4 ⟨u,hr,h4⟩=>?_)
  subst hr
  refine wpAny_passesOwn hp (aT h4 fun _ s5 ⟨x,H5,I5,r5,y5,st5,fr5⟩=>?_)
  have I5':=I5.pinned (stat fr5) (T.obj _ _ st5)
  refine wpAny_passesOwn hp (aT (hg _ s5 σ3 H5 x u _ I5' r5 (step x H5 y5)) fun _ s6 ⟨σ6,H6,I6,q6⟩=>?_)
  refine wpAny_passesOwn hp (aT (hb _ s6 σ6 H6 _ I6 q6) fun f s7 q7=>?_)
  have again:∀ {σ7:St} {H7:Hp},Inv X (pins++gB fp s5.heap) σ7 H7 s7→N σ7 H7→∃ m,m<n∧∃ i σ' H',Inv X pins σ' H' s7∧tn i s7.heap∧(∀ b∈fp,H' b=none)∧W i m σ' H':=fun {σ7 H7} I7 n7=>by
   obtain⟨m',hm,w7⟩:=hN σ7 H7 n7
   refine⟨m',hm,i+1,σ7,H7,I7.unpinned,T.keep _ _ _ st5 fun b hb o e=>(I7.pin (b,o) (List.mem_append_right _ (List.mem_append_right _ (eL hb e)))).1,fun b hb=>?_,w7⟩
   obtain⟨o,e,d⟩:=T.obj _ _ st5 b hb
   exact(I7.pin (b,o) (List.mem_append_right _ (List.mem_append_right _ (eL hb e)))).2.1
  cases f with
  | next=>obtain⟨σ7,H7,I7,n7⟩:=q7; exact again I7 n7
  | cont=>obtain⟨σ7,H7,I7,n7⟩:=q7; exact again I7 n7
  | brk=>obtain⟨σ7,H7,I7,q7⟩:=q7; exact⟨σ7,H7,I7.unpinned,q7⟩
  | ret v=>obtain⟨x7,σ7,H7,I7,r7,q7⟩:=q7; exact⟨x7,σ7,H7,I7.unpinned,r7,q7⟩
end
theorem v4{K:PySem.W.Frag}{a:Addr}{xs:List V}{g:TG}{tb:TS}{D:de}{σ : St}{H:Hp}(Pv:Nat→St→Hp→Prop)(h0:Pv 0 σ H)(hl:∀ i σ H,i≤xs.length→Pv i σ H→SqL K H a xs)
  (hs:∀ i x σ H,xs[i]? = some x→Pv i σ H→g x σ H fun σ2 H2=>tb { D with nx:=Pv (i+1),ct:=Pv (i+1),bk:=D.nx } σ2 H2) (hd:∀ σ H,Pv xs.length σ H→D.nx σ H) :
  ∃ W:Nat→Nat→St→Hp→Prop,(∃ m,W 0 m σ H)∧∀ i m σ H,W i m σ H→
   ((og K a).stop i H∧D.nx σ H)∨((og K a).go i H∧∃ N:St→Hp→Prop,(∀ σ' H',N σ' H'→∃ m',m'<m∧W (i+1) m' σ' H')∧∀ x H',(og K a).yld i H x H'→g x σ H' fun σ2 H2=>tb { D with nx:=N,ct:=N,bk:=D.nx } σ2 H2):=by
 refine⟨fun i m σ H=>m=xs.length - i∧i≤xs.length∧Pv i σ H,⟨xs.length,by simp,Nat.zero_le _,h0⟩,?_⟩
 rintro i m σ H ⟨rfl,hi,p⟩
 have q:=hl i σ H hi p
 by_cases hlt:i<xs.length
 ·refine .inr ⟨⟨xs,xs[i],q,by simp[hlt]⟩,Pv (i+1),fun σ' H' p'=>⟨xs.length - (i+1),by omega,rfl,hlt,p'⟩,fun x H' y=>?_⟩
  obtain⟨e,y⟩:=y
  subst e
  exact hs i x σ _ (y xs q) p
 ·have e:i=xs.length:=by omega
  subst e
  exact .inl ⟨⟨xs,q,Nat.le_refl _⟩,hd σ H p⟩
theorem tZ{lo:Int}{n:Nat}{g:TG}{tb:TS}{D:de}{σ : St}{H:Hp}(Pv:Nat→St→Hp→Prop)(h0:Pv 0 σ H)
  (hs:∀ i σ H,i<n→Pv i σ H→g (.int (lo+i)) σ H fun σ2 H2=>tb { D with nx:=Pv (i+1),ct:=Pv (i+1),bk:=D.nx } σ2 H2) (hd:∀ σ H,Pv n σ H→D.nx σ H) :
  ∃ W:Nat→Nat→St→Hp→Prop,(∃ m,W 0 m σ H)∧∀ i m σ H,W i m σ H→
   ((jc lo n).stop i H∧D.nx σ H)∨((jc lo n).go i H∧∃ N:St→Hp→Prop,(∀ σ' H',N σ' H'→∃ m',m'<m∧W (i+1) m' σ' H')∧∀ x H',(jc lo n).yld i H x H'→g x σ H' fun σ2 H2=>tb { D with nx:=N,ct:=N,bk:=D.nx } σ2 H2):=by
 refine⟨fun i m σ H=>m=n - i∧i≤n∧Pv i σ H,⟨n,by simp,Nat.zero_le _,h0⟩,?_⟩
 rintro i m σ H ⟨rfl,hi,p⟩
 by_cases hlt:i<n
 ·refine .inr ⟨hlt,Pv (i+1),fun σ' H' p'=>⟨n - (i+1),by omega,rfl,hlt,p'⟩,fun x H' y=>?_⟩
  obtain⟨e,y⟩:=y
  subst e y
  exact hs i σ _ hlt p
 ·have e:i=n:=by omega
  subst e
  exact .inl ⟨Nat.le_refl _,hd σ H p⟩
end L2
namespace L2
open PySem PySem.Spec PyProof.Rows
abbrev R2:=V→V→Hp→VK→Prop
def OpR(X:Cx)(f:Value→Value→Sem Value)(r:R2):Prop:=
 ∀ (pins:List (Addr × Obj)) (s:Shared) (σ : St) (H:Hp) (x y:V) (v u:Value) (Q:VK),Inv X pins σ H s→RelV x v→RelV y u→r x y H Q→
  wpAny (model X.prog X.w) X.A (f v u) (EP X pins σ Q) X.xe s
def UnR(X:Cx)(f:Value→Sem Value)(r:V→Hp→VK→Prop):Prop:=
 ∀ (pins:List (Addr × Obj)) (s:Shared) (σ : St) (H:Hp) (x:V) (v:Value) (Q:VK),Inv X pins σ H s→RelV x v→r x H Q→
  wpAny (model X.prog X.w) X.A (f v) (EP X pins σ Q) X.xe s
def CallR(X:Cx)(f:Value)(r:List V→Hp→VK→Prop):Prop:=
 ∀ (pins:List (Addr × Obj)) (s:Shared) (σ : St) (H:Hp) (xs:List V) (us:List Value) (Q:VK),Inv X pins σ H s→Vals xs us→r xs H Q→
  wpAny (model X.prog X.w) X.A (call f us) (EP X pins σ Q) X.xe s
def uK(r:R2)(ta tb:TE):TE:=fun σ H Q=>ta σ H fun x H1=>tb σ H1 fun y H2=>r x y H2 Q
def AU(r:V→Hp→VK→Prop)(ta:TE):TE:=fun σ H Q=>ta σ H fun x H1=>r x H1 Q
def rI(C:Int→Int→Prop)(g:Int→Int→V):R2:=fun x y H Q=>∃ i j,x = .int i∧y = .int j∧C i j∧Q (g i j) H
def kK(g:Int→Int→V):R2:=fun x y H Q=>∃ i j,x = .int i∧y = .int j∧Q (g i j) H
def rU(g:Int→V):V→Hp→VK→Prop:=fun x H Q=>∃ i,x = .int i∧Q (g i) H
section
variable{X:Cx}{a b c:Expr}{ta tb tc:TE}{pos:Pos}
theorem u6(ha:PE X a ta)(hb:PE X b tb){pins:List (Addr × Obj)}{s:Shared}{σ : St}{H:Hp}{R:V→V→Hp→Prop}(I:Inv X pins σ H s)
  (h:ta σ H fun x H1=>tb σ H1 fun y H2=>R x y H2) {Q:Value→Shared→Prop} {f:Value→Value→Sem Value}
  (hf:∀ v u s2 x y H2,Inv X pins σ H2 s2→RelV x v→RelV y u→R x y H2→wpAny (model X.prog X.w) X.A (f v u) Q X.xe s2) :
  wpAny (model X.prog X.w) X.A (eval a X.env) (fun v s₁=>wpAny (model X.prog X.w) X.A (eval b X.env) (fun u s₂=>wpAny (model X.prog X.w) X.A (f v u) Q X.xe s₂) X.xe s₁) X.xe s:=by
 refine aT (ha pins s σ H _ I h) fun v s1 ⟨x,H1,I1,r1,q1⟩=>?_
 refine aT (hb pins s1 σ H1 _ I1 q1) fun u s2 ⟨y,H2,I2,r2,q2⟩=>?_
 exact hf v u s2 x y H2 I2 r1 r2 q2
theorem ar{op:Operator}{r:R2}(ho:OpR X (binaryOp op) r)(ha:PE X a ta)(hb:PE X b tb):PE X (.BinOp a op b pos) (uK r ta tb):=by
 intro pins s σ H Q I h
 exact wpAny_BinOp (u6 ha hb I h fun v u s2 x y H2 I2 rx ry q=>ho pins s2 σ H2 x y v u Q I2 rx ry q)
theorem eK{op:UnaryOp}{r:V→Hp→VK→Prop}(ho:UnR X (unaryOp op) r)(ha:PE X a ta):PE X (.UnaryOp op a pos) (AU r ta):=by
 intro pins s σ H Q I h
 exact UnaryOp_ (aT (ha pins s σ H _ I h) fun v s1 ⟨x,H1,I1,r1,q1⟩=>ho pins s1 σ H1 x v Q I1 r1 q1)
theorem xj{f:Value→Value→Sem Value}{C:Int→Int→Prop}{g:Int→Int→Int}
  (rule:∀ (i j:Int) (t u:Tok) (s:Shared) (Q:Value→Shared→Prop) (E:Value→Shared→Prop),C i j→Q (.int (g i j) s.toks) { s with toks:=s.toks+1 }→wpAny (model X.prog X.w) X.A (f (.int i t) (.int j u)) Q E s) :
  OpR X f (rI C fun i j=>.int (g i j)):=by
 intro pins s σ H x y v u Q I rx ry h
 obtain⟨i,j,rfl,rfl,hc,q⟩:=h
 obtain⟨t,rfl⟩:=rx
 obtain⟨t',rfl⟩:=ry
 exact rule i j t t' s _ _ hc ⟨.int (g i j),H,I.tok _,⟨_,rfl⟩,q⟩
theorem zc{f:Value→Value→Sem Value}{g:Int→Int→Int}
  (rule:∀ (i j:Int) (t u:Tok) (s:Shared) (Q:Value→Shared→Prop) (E:Value→Shared→Prop),Q (.int (g i j) s.toks) { s with toks:=s.toks+1 }→wpAny (model X.prog X.w) X.A (f (.int i t) (.int j u)) Q E s) :
  OpR X f (kK fun i j=>.int (g i j)):=by
 intro pins s σ H x y v u Q I rx ry h
 obtain⟨i,j,rfl,rfl,q⟩:=h
 obtain⟨t,rfl⟩:=rx
 obtain⟨t',rfl⟩:=ry
 exact rule i j t t' s _ _ ⟨.int (g i j),H,I.tok _,⟨_,rfl⟩,q⟩
theorem v_{f:Value→Value→Sem Value}{g:Int→Int→Bool}
  (rule:∀ (i j:Int) (t u:Tok) (s:Shared) (Q:Value→Shared→Prop) (E:Value→Shared→Prop),Q (.bool (g i j)) s→wpAny (model X.prog X.w) X.A (f (.int i t) (.int j u)) Q E s) :
  OpR X f (kK fun i j=>.bl (g i j)):=by
 intro pins s σ H x y v u Q I rx ry h
 obtain⟨i,j,rfl,rfl,q⟩:=h
 obtain⟨t,rfl⟩:=rx
 obtain⟨t',rfl⟩:=ry
 exact rule i j t t' s _ _ ⟨.bl (g i j),H,I,rfl,q⟩
def Df(i j:Int):Prop:=0<j∧j<1073741824
def BI(i j:Int):Prop:=0≤j∧j≤1000000∧i.natAbs<2 ^ 64
def CMul(i j:Int):Prop:=(-(2 ^ 64)<i∧i<2 ^ 64)∨(-(2 ^ 64)<j∧j<2 ^ 64)
theorem CMul.ok{i j:Int}(h:CMul i j):IntMulOk i j:=by
 rcases h with ⟨h1,h2⟩ | ⟨h1,h2⟩
 ·exact .of_left (intBits_le_64 h1 h2)
 ·exact .of_right (intBits_le_64 h1 h2)
theorem zI:OpR X (binaryOp .Add) (kK fun i j=>.int (i+j)):=zc fun _ _ _ _ _ _ _ q=>add_int q
theorem jp:OpR X (binaryOp .Sub) (kK fun i j=>.int (i - j)):=zc fun _ _ _ _ _ _ _ q=>sub_int q
theorem yr:OpR X (binaryOp .Mult) (rI CMul fun i j=>.int (i * j)):=xj fun _ _ _ _ _ _ _ hc q=>mul_int q hc.ok
theorem fQ:OpR X (binaryOp .FloorDiv) (rI Df fun i j=>.int (i / j)):=xj fun i j _ _ _ _ _ hc q=>by
 have h1:(0:Int)<j:=hc.1
 have h2:j<1073741824:=hc.2
 exact floordiv_int (by omega) (by rw[Int.fdiv_eq_ediv_of_nonneg i (by omega)]; exact q) (.inl (PyProof.noPylong_small (by omega)))
theorem cH:OpR X (binaryOp .Mod) (rI (fun _ j=>0<j) fun i j=>.int (i % j)):=xj fun i j _ _ _ _ _ hc q=>by
 have h1:(0:Int)<j:=hc
 exact mod_int' (by omega) (by rw[Int.fmod_eq_emod_of_nonneg i (by omega)]; exact q)
theorem nW:OpR X (binaryOp .Pow) (rI BI fun i j=>.int (i ^ j.toNat)):=xj fun _ _ _ _ _ _ _ hc q=>pow_int_small hc.1 hc.2.1 hc.2.2 q
theorem DX{f:Value→Sem Value}{g:Int→Int}
  (rule:∀ (i:Int) (t:Tok) (s:Shared) (Q:Value→Shared→Prop) (E:Value→Shared→Prop),Q (.int (g i) s.toks) { s with toks:=s.toks+1 }→wpAny (model X.prog X.w) X.A (f (.int i t)) Q E s) :
  UnR X f (rU fun i=>.int (g i)):=by
 intro pins s σ H x v Q I rx h
 obtain⟨i,rfl,q⟩:=h
 obtain⟨t,rfl⟩:=rx
 exact rule i t s _ _ ⟨.int (g i),H,I.tok _,⟨_,rfl⟩,q⟩
theorem dL:UnR X (unaryOp .USub) (rU fun i=>.int (-i)):=DX fun _ _ _ _ _ q=>neg_int q
end
def mB:V→V→Bool
 | .non,.non=>true | .non,.int _=>true | .int _,.non=>true | .non,.bl _=>true | .bl _,.non=>true | .non,.str _=>true | .str _,.non=>true
 | .int _,.int _=>true | .bl _,.bl _=>true | .str _,.str _=>true | .byt _,.byt _=>true
 | .int _,.str _=>true | .str _,.int _=>true | .bl _,.str _=>true | .str _,.bl _=>true
 | _,_=>false
def AY:R2:=fun x y H Q=>mB x y=true∧Q (.bl (decide (x=y))) H
def Bd:R2:=fun x y H Q=>mB x y=true∧Q (.bl (!decide (x=y))) H
theorem oC{i j:Int}:decide (V.int i=V.int j)=(i == j):=by
 rw[Bool.eq_iff_iff]
 simp
theorem tX{i j:Bool}:decide (V.bl i=V.bl j)=(i == j):=by
 rw[Bool.eq_iff_iff]
 simp
theorem pX{i j:Str}:decide (V.str i=V.str j)=(i == j):=by
 rw[Bool.eq_iff_iff]
 simp
theorem pI{i j:Array UInt8}:decide (V.byt i=V.byt j)=(i.toList == j.toList):=by
 rw[Bool.eq_iff_iff]
 cases i
 cases j
 simp
section
variable{X:Cx}{a b c:Expr}{ta tb tc:TE}{pos:Pos}
theorem bn{pins:List (Addr × Obj)}{σ : St}{H:Hp}{s:Shared}{Q:VK}{k k':Bool}(I:Inv X pins σ H s)(q:Q (.bl k) H)(e:k=k'):EP X pins σ Q (.bool k') s:=by
 subst e
 exact⟨.bl k,H,I,rfl,q⟩
theorem Ay:OpR X (compareOp .Eq) AY:=by
 intro pins s σ H x y v u Q I rx ry h
 obtain⟨hs,q⟩:=h
 cases x with
 | non=>
  cases rx
  cases y with
  | non=>cases ry; exact PySem.EqNone.eq_none_none (bn I q (by simp))
  | bl j=>cases ry; exact PySem.EqNone.eq_none_bool (bn I q (by simp))
  | int j=>obtain⟨t',rfl⟩:=ry; exact PySem.EqNone.eq_none_int (bn I q (by simp))
  | str j=>obtain⟨t',rfl⟩:=ry; exact PySem.EqNone.eq_none_str (bn I q (by simp))
  | _=>exact absurd (show false=true from hs) Bool.false_ne_true
 | bl i=>
  cases rx
  cases y with
  | non=>cases ry; exact PySem.EqNone.eq_bool_none (bn I q (by simp))
  | bl j=>cases ry; exact eq_bool (bn I q tX)
  | str j=>obtain⟨t',rfl⟩:=ry; exact PySem.EqMixed.eq_bool_str (bn I q (by simp))
  | _=>exact absurd (show false=true from hs) Bool.false_ne_true
 | int i=>
  obtain⟨t,rfl⟩:=rx
  cases y with
  | non=>cases ry; exact PySem.EqNone.eq_int_none (bn I q (by simp))
  | int j=>obtain⟨t',rfl⟩:=ry; exact eq_int (bn I q oC)
  | str j=>obtain⟨t',rfl⟩:=ry; exact PySem.EqMixed.eq_int_str (bn I q (by simp))
  | _=>exact absurd (show false=true from hs) Bool.false_ne_true
 | str i=>
  obtain⟨t,rfl⟩:=rx
  cases y with
  | non=>cases ry; exact PySem.EqNone.eq_str_none (bn I q (by simp))
  | bl j=>cases ry; exact PySem.EqMixed.eq_str_bool (bn I q (by simp))
  | int j=>obtain⟨t',rfl⟩:=ry; exact PySem.EqMixed.eq_str_int (bn I q (by simp))
  | str j=>obtain⟨t',rfl⟩:=ry; exact eq_str (bn I q pX)
  | _=>exact absurd (show false=true from hs) Bool.false_ne_true
 | byt i=>
  obtain⟨t,rfl⟩:=rx
  cases y with
  | byt j=>obtain⟨t',rfl⟩:=ry; exact PySem.W.eq_bytes (bn I q pI)
  | _=>exact absurd (show false=true from hs) Bool.false_ne_true
 | _=>cases y <;> exact absurd (show false=true from hs) Bool.false_ne_true
theorem Av:OpR X (compareOp .NotEq) Bd:=by
 intro pins s σ H x y v u Q I rx ry h
 obtain⟨hs,q⟩:=h
 cases x with
 | non=>
  cases rx
  cases y with
  | non=>cases ry; exact PySem.EqNone.ne_none_none (bn I q (by simp))
  | bl j=>cases ry; exact PySem.EqNone.ne_none_bool (bn I q (by simp))
  | int j=>obtain⟨t',rfl⟩:=ry; exact PySem.EqNone.ne_none_int (bn I q (by simp))
  | str j=>obtain⟨t',rfl⟩:=ry; exact PySem.EqNone.ne_none_str (bn I q (by simp))
  | _=>exact absurd (show false=true from hs) Bool.false_ne_true
 | bl i=>
  cases rx
  cases y with
  | non=>cases ry; exact PySem.EqNone.ne_bool_none (bn I q (by simp))
  | bl j=>cases ry; exact ne_bool (bn I q (congrArg not tX))
  | str j=>obtain⟨t',rfl⟩:=ry; exact PySem.EqMixed.ne_bool_str (bn I q (by simp))
  | _=>exact absurd (show false=true from hs) Bool.false_ne_true
 | int i=>
  obtain⟨t,rfl⟩:=rx
  cases y with
  | non=>cases ry; exact PySem.EqNone.ne_int_none (bn I q (by simp))
  | int j=>obtain⟨t',rfl⟩:=ry; exact ne_int (bn I q (congrArg not oC))
  | str j=>obtain⟨t',rfl⟩:=ry; exact PySem.EqMixed.ne_int_str (bn I q (by simp))
  | _=>exact absurd (show false=true from hs) Bool.false_ne_true
 | str i=>
  obtain⟨t,rfl⟩:=rx
  cases y with
  | non=>cases ry; exact PySem.EqNone.ne_str_none (bn I q (by simp))
  | bl j=>cases ry; exact PySem.EqMixed.ne_str_bool (bn I q (by simp))
  | int j=>obtain⟨t',rfl⟩:=ry; exact PySem.EqMixed.ne_str_int (bn I q (by simp))
  | str j=>obtain⟨t',rfl⟩:=ry; exact ne_str (bn I q (congrArg not pX))
  | _=>exact absurd (show false=true from hs) Bool.false_ne_true
 | byt i=>
  obtain⟨t,rfl⟩:=rx
  cases y with
  | byt j=>obtain⟨t',rfl⟩:=ry; exact PySem.W.ne_bytes (bn I q (congrArg not pI))
  | _=>exact absurd (show false=true from hs) Bool.false_ne_true
 | _=>cases y <;> exact absurd (show false=true from hs) Bool.false_ne_true
theorem As:OpR X (compareOp .Lt) (kK fun i j=>.bl (decide (i<j))):=v_ fun _ _ _ _ _ _ _ q=>lt_int q
theorem wH:OpR X (compareOp .LtE) (kK fun i j=>.bl (decide (i≤j))):=v_ fun _ _ _ _ _ _ _ q=>le_int q
theorem lw:OpR X (compareOp .Gt) (kK fun i j=>.bl (decide (j<i))):=v_ fun _ _ _ _ _ _ _ q=>gt_int q
theorem sT:OpR X (compareOp .Lt) (fun x y H Q=>∃ i j,x = .str i∧y = .str j∧Q (.bl (decide (i.cps.toList<j.cps.toList))) H):=by
 intro pins s σ H x y v u Q I rx ry h
 obtain⟨i,j,rfl,rfl,q⟩:=h
 obtain⟨t,rfl⟩:=rx
 obtain⟨t',rfl⟩:=ry
 exact lt_str (bn I q rfl)
theorem sY:OpR X (compareOp .In) (fun x y H Q=>∃ i j,x = .str i∧y = .str j∧Q (.bl (!(Builtin.Str.occurrences j i 0 j.length 1).isEmpty)) H):=by
 intro pins s σ H x y v u Q I rx ry h
 obtain⟨i,j,rfl,rfl,q⟩:=h
 obtain⟨t,rfl⟩:=rx
 obtain⟨t',rfl⟩:=ry
 exact in_str (bn I q rfl)
theorem n9:OpR X (compareOp .NotIn) (fun x y H Q=>∃ i j,x = .str i∧y = .str j∧Q (.bl (!(!(Builtin.Str.occurrences j i 0 j.length 1).isEmpty))) H):=by
 intro pins s σ H x y v u Q I rx ry h
 obtain⟨i,j,rfl,rfl,q⟩:=h
 obtain⟨t,rfl⟩:=rx
 obtain⟨t',rfl⟩:=ry
 exact notIn_str (bn I q rfl)
theorem bt(b:Expr){op:CmpOp}(h:op ≠ .In:=by decide)(h2:op ≠ .NotIn:=by decide):behindInMarks op b=false:=by
 have e1:(op == CmpOp.In)=false:=by cases op <;> first | rfl | exact absurd rfl h
 have e2:(op == CmpOp.NotIn)=false:=by cases op <;> first | rfl | exact absurd rfl h2
 cases b <;> simp[behindInMarks,e1,e2]
theorem fJ{op:CmpOp}{r:R2}(ho:OpR X (compareOp op) r)(ha:PE X a ta)(hb:PE X b tb)(hm:behindInMarks op b=false):PE X (.Compare a [op] [b] pos) (uK r ta tb):=by
 intro pins s σ H Q I h
 exact wpAny_Compare1 (u6 ha hb I h fun v u s2 x y H2 I2 rx ry q=>ho pins s2 σ H2 x y v u Q I2 rx ry q) hm
def rR(t:TE):TT:=fun σ H Q=>t σ H fun x H'=>∃ k,x = .bl k∧Q k H'
theorem bi{op:CmpOp}{r:R2}(ho:OpR X (compareOp op) r)(ha:PE X a ta)(hb:PE X b tb)(hm:behindInMarks op b=false):PT X (.Compare a [op] [b] pos) (rR (uK r ta tb)):=by
 intro pins s σ H Q I h
 refine wpAny_isTrue_Compare1 (aT (ha pins s σ H _ I h) fun v s1 ⟨x,H1,I1,r1,q1⟩=>aT (hb pins s1 σ H1 _ I1 q1) fun u s2 ⟨y,H2,I2,r2,q2⟩=>
  aT (ho pins s2 σ H2 x y v u _ I2 r1 r2 q2) fun c s3 ⟨z,H3,I3,r3,k,e,q3⟩=>?_) hm
 subst e
 cases r3
 exact wpAny_truthy_bool ⟨H3,I3,q3⟩
def uf(r r':R2)(ta tb tc:TE):TE:=fun σ H Q=>ta σ H fun x H1=>tb σ H1 fun y H2=>r x y H2 fun z H3=>∃ k,z = .bl k∧
 (if k=true then tc σ H3 fun w' H4=>r' y w' H4 Q else Q (.bl false) H3)
theorem uW{op op':CmpOp}{r r':R2}(ho:OpR X (compareOp op) r)(ho':OpR X (compareOp op') r')(ha:PE X a ta)(hb:PE X b tb)(hc:PE X c tc)
  (hm:lastMarks [op,op'] [b,c]=false:=by with_unfolding_all rfl):PT X (.Compare a [op,op'] [b,c] pos) (rR (uf r r' ta tb tc)):=by
 intro pins s σ H Q I h
 refine isTrue_chain (aT (ha pins s σ H _ I h) fun v s1 ⟨x,H1,I1,r1,q1⟩=>test_link (aT (hb pins s1 σ H1 _ I1 q1) fun u s2 ⟨y,H2,I2,r2,q2⟩=>
  aT (ho pins s2 σ H2 x y v u _ I2 r1 r2 q2) fun d s3 ⟨z,H3,I3,r3,k,e,q3⟩=>?_)) hm
 subst e
 cases r3
 refine wpAny_truthy_bool ?_
 cases k with
 | false=>
  obtain⟨k',e',q'⟩:=q3
  cases e'
  exact ite_ff ⟨H3,I3,q'⟩
 | true=>
  refine ite_tt (test_last (aT (hc pins s3 σ H3 _ I3 q3) fun w' s4 ⟨z',H4,I4,r4,q4⟩=>aT (ho' pins s4 σ H4 y z' u w' _ I4 r2 r4 q4) fun d' s5 ⟨z2,H5,I5,r5,k2,e2,q5⟩=>?_))
  subst e2
  cases r5
  exact wpAny_truthy_bool ⟨H5,I5,q5⟩
theorem fK:(sizeLine:Nat)<2 ^ 63:=by rw[sizeLine_eq]; decide
theorem rA:OpR X (binaryOp .Add) (fun x y H Q=>∃ i j,x = .str i∧y = .str j∧i.length+j.length≤sizeLine∧Q (.str (i++j)) H):=by
 intro pins s σ H x y v u Q I rx ry h
 obtain⟨i,j,rfl,rfl,hz,q⟩:=h
 obtain⟨t,rfl⟩:=rx
 obtain⟨t',rfl⟩:=ry
 exact add_str (fun t' tk=>⟨.str (i++j),H,I.tok _,⟨_,rfl⟩,q⟩) hz
theorem cU{x:V}{us:List Value}(r:Vals [x] us):∃ u,us=[u]∧RelV x u:=by
 cases r with
 | cons r1 r2=>cases r2; exact⟨_,rfl,r1⟩
theorem qy{x y:V}{us:List Value}(r:Vals [x,y] us):∃ u w',us=[u,w']∧RelV x u∧RelV y w':=by
 cases r with
 | cons r1 r2=>
  cases r2 with
  | cons r3 r4=>cases r4; exact⟨_,_,rfl,r1,r3⟩
theorem t0:CallR X (.type "int") (fun xs H Q=>(∃ i,xs=[.int i]∧Q (.int i) H)∨∃ k,xs=[.bl k]∧Q (.int (if k then 1 else 0)) H):=by
 intro pins s σ H xs us Q I r h
 rcases h with ⟨i,rfl,q⟩ | ⟨k,rfl,q⟩
 ·obtain⟨u,rfl,t,rfl⟩:=cU r
  exact call_int_int ⟨.int i,H,I,⟨_,rfl⟩,q⟩
 ·obtain⟨u,rfl,r1⟩:=cU r
  cases r1
  exact call_int_bool ⟨.int (if k then 1 else 0),H,I.tok _,⟨_,rfl⟩,q⟩
theorem mY:CallR X (.type "str") (fun xs H Q=>∃ i,xs=[.int i]∧i.natAbs.log2<1920∧Q (.str (toString i)) H):=by
 intro pins s σ H xs us Q I r h
 obtain⟨i,rfl,hz,q⟩:=h
 obtain⟨u,rfl,t,rfl⟩:=cU r
 exact PySem.P.str_of_int hz ⟨.str _,H,I.tok _,⟨_,rfl⟩,q⟩
end
end L2
namespace L2
open PySem PySem.Spec PyProof.Rows
structure ObjM (h:Heap) (x dx C:Addr) (mA:Str→Option Value):Prop where
 obj:h.get? x=some (PySem.W.instObj C dx)
 ns:h.Ns1 dx mA
 ne:dx≠x
theorem s_{h:Heap}{dx:Addr}{mA:Str→Option Value}(n:h.Ns1 dx mA):∃ od,h.get? dx=some od∧∀ name,PySem.W.lookIn name od=some (mA name):=by
 obtain⟨o,es,ep,ho,hd,hk,_,hm⟩:=n
 refine⟨o,ho,fun name=>?_⟩
 have e:=hm name
 unfold nsFind findBy at e
 rw[← Array.find?_toList]at e
 unfold PySem.W.lookIn
 rw[hd]
 dsimp only
 split
 ·rename_i y q
  rw[q]at e
  exact congrArg some e
 ·rename_i q
  rw[q]at e
  have a:es.toList.any (·.refKey)=false:=by
   rw[List.any_eq_false]
   intro y hy
   obtain⟨z,t,hkey⟩:=hk y (Array.mem_toList_iff.mp hy)
   simp[DictEntry.refKey,hkey]
  have a':¬ es.toList.any (·.refKey)=true:=by rw[a]; exact Bool.false_ne_true
  rw[if_neg a']
  exact congrArg some e
theorem ObjM.look{h:Heap}{x dx C:Addr}{mA:Str→Option Value}(I:ObjM h x dx C mA):∃ od,PySem.W.InstAt h x (PySem.W.instObj C dx) C (some od)∧∀ name,PySem.W.lookIn name od=some (mA name):=
 let ⟨od,ho,hl⟩:=s_ I.ns
 ⟨od,⟨I.obj,rfl,rfl,ho⟩,hl⟩
section
variable{prog:Program}{w:World}{A:Around}{E:Value→Shared→Prop}{s:Shared}{K:PySem.W.Frag}{x dx C f:Addr}{mA:Str→Option Value}{name:Str}{v:Value}
theorem x9{expr:Bool}{Q:Value→Shared→Prop}(X:K.In s.heap)(I:ObjM s.heap x dx C mA)(hg:PySem.W.plainGet K C name=true)(hh:PySem.W.hasDictIn K C=true)
  (ha:PySem.W.findIn K (.ref C) name=some none) (hv:mA name=some v) (hv':PySem.W.handedIn v=true) (h:Q v { s with toks:=s.toks+1 }) :
  wpAny (model prog w) A (getAttr (.ref x) name expr) Q E s:=by
 obtain⟨od,J,hl⟩:=I.look
 exact PySem.W.get_value X J (PySem.W.plainGet_of hg).1 (PySem.W.findObj_own hh ha rfl (by rw[hl,hv])) hv' h
theorem xy{ns:List Str}{Q:Unit→Shared→Prop}(X:K.In s.heap)(I:ObjM s.heap x dx C mA)
  (hs:PySem.W.findIn K (.ref C) "__setattr__" = some (some (.builtin "object.__setattr__"))) (hp:PySem.W.plainOver K C=true) (ht:PySem.W.takerIn K C name=some none) (hh:PySem.W.hasDictIn K C=true)
  (hw:PySem.Within mA ns) (hsz:ns.length≤sizeLine)
  (h:∀ h',ObjM h' x dx C (fun y=>if y=name then some v else mA y)→Heap.SameBut dx s.heap h'→Q () { s with heap:=h',toks:=s.toks+2 }) :
  wpAny (model prog w) A (setAttr (.ref x) name v) Q E s:=by
 obtain⟨od,J,hl⟩:=I.look
 refine PySem.W.set_plain X J hs (PySem.W.osa_open (s:={ s with toks:=s.toks+1 }) (r:=none) X J hp ht fun b=>?_)
 obtain⟨cd,hc,hd'⟩:=PySem.W.any_some hh
 have hx:s.heap.get? x=some ⟨.ref C,some dx,.plain,#[]⟩:=I.obj
 refine wpAny_bind (wpAny_pure (wpAny_bind (wpAny_bind (wpAny_loadPart hx (wpAny_bind (PySem.W.Looks.here (s:={ s with toks:=s.toks+1 }) (PySem.W.looks_clsIn X hc) ?_))))))
 rw[hd']
 refine wpAny_pure (a:=some dx) (wpAny_bind (wpAny_pure (wpAny_bind ?_)))
 refine wpAny_nsSet1 (s:={ s with toks:=s.toks+1 }) I.ns fun h' hn2 hs2=>?_
 obtain⟨oD,esD,epD,hoD,hdD,hcD⟩:=hn2.count (PySem.Within.cons name v hw)
 refine wpAny_bind (wpAny_lookBehind hoD (by rw[hdD]; exact pastItsLine_dict (Nat.le_trans hcD (by rw[List.length_cons]; omega))) ?_)
 exact wpAny_pure (h _ ⟨(hs2.2 _ (Ne.symm I.ne)).trans I.obj,hn2,I.ne⟩ hs2)
theorem wa{R:Result→Shared→Prop}{vs:List Value}{kw:List (Str × Value)}(X:K.In s.heap)(hm:PySem.W.makesIn K C=true)
  (hi:PySem.W.findIn K (.ref C) "__init__" = some (some (.ref f))) (hf:PySem.W.typeIn K (.ref f)=some (.type "function"))
  (h:codeAny (model prog w) (A.under (.builtin "type.__call__" ⟨.ref C::vs,kw⟩)) (.call (.ref f) ⟨.ref (s.heap.objs.size+1)::vs,kw⟩) (PySem.W.InitBack (s.heap.objs.size+1) R)
   { s with heap:=(s.heap.push PySem.W.emptyDict).push (PySem.W.instObj C s.heap.objs.size) }) :
  codeAny (model prog w) A (.call (.ref C) ⟨vs,kw⟩) R s:=by
 obtain⟨hh,g,d,t,os⟩:=s
 exact PySem.W.make_core (PySem.W.makes_of X hm) (PySem.W.looks_findIn X hi) (fun self=>PySem.W.bind_fn X self hf) (.inl rfl) h
end
def bu(f:Str)(v:V):List (Str × V)→List (Str × V)
 | []=>[(f,v)]
 | (g,x)::r=>if g=f then (g,v)::r else (g,x)::bu f v r
theorem ij(f g:Str)(v:V):∀ fs:List (Str × V),(bu f v fs).lookup g=if g=f then some v else fs.lookup g
 | []=>by
  show List.lookup g [(f,v)]=_
  by_cases h:g=f
  ·have hb:(g == f)=true:=beq_iff_eq.mpr h
   simp only[List.lookup,hb,if_pos h]
  ·have hb:(g == f)=false:=beq_eq_false_iff_ne.mpr h
   simp only[List.lookup,hb,if_neg h]
 | (k,x)::r=>by
  have ih:=ij f g v r
  rw[show bu f v ((k,x)::r)=(if k=f then (k,v)::r else (k,x)::bu f v r) from rfl]
  by_cases hk:k=f
  ·rw[if_pos hk]
   by_cases h:g=k
   ·have hb:(g == k)=true:=beq_iff_eq.mpr h
    simp only[List.lookup,hb,if_pos (h.trans hk)]
   ·have hb:(g == k)=false:=beq_eq_false_iff_ne.mpr h
    simp only[List.lookup,hb,if_neg (fun e:g=f=>h (e.trans hk.symm))]
  ·rw[if_neg hk]
   by_cases h:g=k
   ·have hb:(g == k)=true:=beq_iff_eq.mpr h
    simp only[List.lookup,hb,if_neg (fun e:g=f=>hk (h.symm.trans e))]
   ·have hb:(g == k)=false:=beq_eq_false_iff_ne.mpr h
    simp only[List.lookup,hb]
    exact ih
theorem gX(f:Str)(v:V):∀ fs:List (Str × V),f∈(bu f v fs).map (·.1)∧∀ g,g∈fs.map (·.1)→g∈(bu f v fs).map (·.1)
 | []=>⟨by simp[bu],fun g h=>by simp at h⟩
 | (k,x)::r=>by
  obtain⟨i1,i2⟩:=gX f v r
  rw[show bu f v ((k,x)::r)=(if k=f then (k,v)::r else (k,x)::bu f v r) from rfl]
  by_cases hk:k=f
  ·rw[if_pos hk]
   subst hk
   exact⟨by simp,fun g h=>by simpa using h⟩
  ·rw[if_neg hk]
   refine⟨?_,fun g h=>?_⟩
   ·rw[List.map_cons]
    exact List.mem_cons_of_mem _ i1
   ·rw[List.map_cons]at h ⊢
    rcases List.mem_cons.mp h with e | e
    ·exact List.mem_cons.mpr (.inl e)
    ·exact List.mem_cons_of_mem _ (i2 g e)
theorem iA(f:Str)(v:V):∀ fs:List (Str × V),(bu f v fs).length≤fs.length+1
 | []=>by simp[bu]
 | (k,x)::r=>by
  have ih:=iA f v r
  rw[show bu f v ((k,x)::r)=(if k=f then (k,v)::r else (k,x)::bu f v r) from rfl]
  by_cases hk:k=f
  ·rw[if_pos hk,List.length_cons,List.length_cons]; omega
  ·rw[if_neg hk,List.length_cons,List.length_cons]; omega
theorem RelO.some_of{v:V}{o:Option Value}(r:RelO (some v) o):∃ u,o=some u∧RelV v u:=by
 cases o with
 | none=>exact(show False from r).elim
 | some u=>exact⟨u,rfl,r⟩
theorem uh{v:V}{u:Value}(r:RelV v u):PySem.W.handedIn u=true:=by
 cases v with
 | non=>cases (show u=Value.none from r); rfl
 | bl b=>cases (show u=Value.bool b from r); rfl
 | int i=>obtain⟨t,e⟩:=(show ∃ t,u=Value.int i t from r); cases e; rfl
 | str x=>obtain⟨t,e⟩:=(show ∃ t,u=Value.str x t from r); cases e; rfl
 | byt b=>obtain⟨t,e⟩:=(show ∃ t,u=Value.bytes b t from r); cases e; rfl
 | flt b=>obtain⟨t,e⟩:=(show ∃ t,u=Value.float b t from r); cases e; rfl
 | ref a=>cases (show u=Value.ref a from r); rfl
 | ty n=>cases (show u=Value.type n from r); rfl
section
variable{P:Program}{w:World}{H H':Hp}{h h':Heap}{a C dx:Addr}{fs fs':List (Str × V)}
theorem jx(hok:HOk P w H h)(e:H a=some (.ins C dx fs)):∃ mA,ObjM h a dx C mA∧(∀ f,RelO (fs.lookup f) (mA f))∧PySem.Within mA (fs.map (·.1))∧fs.length≤1000∧H dx=some (.own a):=by
 obtain⟨d,z,ne,ob,mA,n,r,q⟩:=(show ObjOk P w H h a (.ins C dx fs) from hok a _ e)
 exact⟨mA,⟨ob,n,ne⟩,r,q,z,d⟩
end
structure Cls (K:PySem.W.Frag) (C:Addr):Prop where
 pg:PySem.W.plainGet K C Str.empty=true
 hd:PySem.W.hasDictIn K C=true
 po:PySem.W.plainOver K C=true
 sa:PySem.W.findIn K (.ref C) "__setattr__" = some (some (.builtin "object.__setattr__"))
theorem Cls.get{K:PySem.W.Frag}{C:Addr}(c:Cls K C)(f:Str):PySem.W.plainGet K C f=true:=c.pg
def NoAttr(K:PySem.W.Frag)(C:Addr)(f:Str):Prop:=PySem.W.findIn K (.ref C) f=some none
theorem NoAttr.taker{K:PySem.W.Frag}{C:Addr}{f:Str}(n:NoAttr K C f):PySem.W.takerIn K C f=some none:=by
 unfold PySem.W.takerIn
 rw[show PySem.W.findIn K (.ref C) f=some none from n]
 rfl
section
variable{X:Cx}{pins:List (Addr × Obj)}{σ : St}{H:Hp}{s:Shared}{a C dx:Addr}{fs:List (Str × V)}{f:Str}{v:V}{A:Around}{E:Value→Shared→Prop}
theorem qo{b:Bool}{Q:Value→Shared→Prop}(I:Inv X pins σ H s)(e:H a=some (.ins C dx fs))(c:Cls X.K C)(n:NoAttr X.K C f)(l:fs.lookup f=some v)
  (h:∀ u s',Inv X pins σ H s'→RelV v u→Q u s'):wpAny (model X.prog X.w) A (getAttr (.ref a) f b) Q E s:=by
 obtain⟨mA,O,r,_,_,_⟩:=jx I.hok e
 obtain⟨u,hu,ru⟩:=RelO.some_of (v:=v) (o:=mA f) (by rw[← l]; exact r f)
 exact x9 I.kIn O (c.get f) c.hd n hu (uh ru) (h u _ (I.tok _) ru)
theorem rZ{y:V}{u:Value}{Q:Unit→Shared→Prop}(I:Inv X pins σ H s)(e:H a=some (.ins C dx fs))(c:Cls X.K C)(n:NoAttr X.K C f)(hl:fs.length<1000)(ry:RelV y u)
  (h:∀ s',Inv X pins σ (upd H a (.ins C dx (bu f y fs))) s'→Q () s'):wpAny (model X.prog X.w) A (setAttr (.ref a) f u) Q E s:=by
 obtain⟨mA,O,r,wi,_,ho⟩:=jx I.hok e
 have hz:(fs.map (·.1)).length≤sizeLine:=by rw[List.length_map,sizeLine_eq]; omega
 refine xy I.kIn O c.sa c.po n.taker c.hd wi hz fun h' O' sb=>h _ ?_
 have hd:∃ o,h'.get? dx=some o:=let ⟨o,_,_,e',_⟩:=O'.ns; ⟨o,e'⟩
 refine I.write (x:=a) (e:=dx) (by rw[e]; exact True.intro) (.inr ho) (fun b q hb z=>(sb.2 b hb).trans z) hd ?_
 refine⟨by rw[ap O.ne]; exact ho,?_,O.ne,O'.obj,_,O'.ns,fun g=>?_,fun g hg=>?_⟩
 ·have:=iA f y fs; omega
 ·show RelO ((bu f y fs).lookup g) (if g=f then some u else mA g)
  rw[ij]
  by_cases q:g=f
  ·rw[if_pos q,if_pos q]; exact ry
  ·rw[if_neg q,if_neg q]; exact r g
 ·by_cases q:g=f
  ·rw[q]; exact(gX f y fs).1
  ·refine(gX f y fs).2 g (wi g fun z=>hg ?_)
   show (if g=f then some u else mA g)=none
   rw[if_neg q]; exact z
theorem Inv.made(I:Inv X pins σ H s):Inv X pins σ (upd (upd H s.heap.objs.size (.own (s.heap.objs.size+1))) (s.heap.objs.size+1) (.ins C s.heap.objs.size []))
  { s with heap:=(s.heap.push PySem.W.emptyDict).push (PySem.W.instObj C s.heap.objs.size) }:=by
 have e1:(s.heap.push PySem.W.emptyDict).get? s.heap.objs.size=some PySem.W.emptyDict:=Heap.get?_push_size s.heap rfl
 have e2:((s.heap.push PySem.W.emptyDict).push (PySem.W.instObj C s.heap.objs.size)).get? (s.heap.objs.size+1)=some (PySem.W.instObj C s.heap.objs.size):=by
  have:=Heap.get?_push_size (s.heap.push PySem.W.emptyDict) (o:=PySem.W.instObj C s.heap.objs.size) rfl
  rwa [Heap.size_push]at this
 have e3:(s.heap.push PySem.W.emptyDict).Ns s.heap.objs.size (fun _=>none):=⟨PySem.W.emptyDict,#[],_,e1,rfl,(fun e he=>absurd he (by simp)),fun _=>rfl⟩
 have I1:=I.laid (a:=s.heap.objs.size) (o:=.own (s.heap.objs.size+1)) (h':=s.heap.push PySem.W.emptyDict) (t':=s.toks) (fun b u q=>Heap.get?_push_of_some _ q) (Nat.le_refl _) ⟨_,e1⟩
 refine I1.laid (a:=s.heap.objs.size+1) (o:=.ins C s.heap.objs.size []) (t':=s.toks) (fun b u q=>Heap.get?_push_of_some _ q) (Nat.le_of_eq (Heap.size_push _ _)) ?_
 have ne:s.heap.objs.size≠s.heap.objs.size+1:=Nat.ne_of_lt (Nat.lt_succ_self _)
 refine⟨by rw[ap ne,ae],Nat.zero_le _,ne,e2,fun _=>none,(Heap.Ns1.of_empty e3).at fun o q=>Heap.get?_push_of_some _ q,fun _=>True.intro,fun y hy=>absurd rfl hy⟩
theorem ya{prog:Program}{w:World}{env:Env}{e:Expr}{f:Str}{pos:Pos}{s:Shared}{Q:Value→Shared→Prop}(hb:attributeBase e f env (eval e env)=eval e env)
  (h:wpAny (model prog w) A (eval e env) (fun o s₁=>wpAny (model prog w) A (getAttr o f true) Q E s₁) E s):wpAny (model prog w) A (eval (.Attribute e f pos) env) Q E s:=
 Attribute_any_ h (by rw[arm_eval_Attribute,hb])
end
section
variable{X:Cx}{o e value:Expr}{f:Str}{pos pos' tpos:Pos}{ta tv:TE}
end
section
variable{X:Cx}{pins:List (Addr × Obj)}{σ : St}{H:Hp}{s:Shared}{A:Around}{E:Value→Shared→Prop}{Q:Value→Shared→Prop}{c:Value}{b:Bool}
inductive d0 (K:PySem.W.Frag) (H:Hp):V→Value→Prop where
 | non:d0 K H .non (.type "NoneType")
 | bl (x:Bool):d0 K H (.bl x) (.type "bool")
 | int (i:Int):d0 K H (.int i) (.type "int")
 | str (x:Str):d0 K H (.str x) (.type "str")
 | flt (x:UInt64):d0 K H (.flt x) (.type "float")
 | lst {a:Addr} {xs:List V} (e:H a=some (.lst xs)):d0 K H (.ref a) (.type "list")
 | frz {a:Addr} {o:Obj} {xs:List V} (e:H a=some (.frz o (.lst xs))):d0 K H (.ref a) (.type "list")
 | tup {a:Addr} {xs:List V} (e:H a=some (.tup xs)):d0 K H (.ref a) (.type "tuple")
 | dK {a:Addr} {kvs:List (aA × V)} (e:H a=some (.dK kvs)):d0 K H (.ref a) (.type "dict")
 | dT {a:Addr} {kvs:List (List aA × V)} (e:H a=some (.dT kvs)):d0 K H (.ref a) (.type "dict")
 | ins {a C dx:Addr} {fs:List (Str × V)} (e:H a=some (.ins C dx fs)) (cl:Cls K C) (ha:PySem.W.findIn K (.ref C) "__class__" = some (some (.builtin "object.__class__")))
   (hn:PySem.W.specialIn K (.builtin "object.__class__") "__get__" = some (some (.builtin "getset_descriptor.__get__"))) (htk:PySem.W.takesIn K (.builtin "object.__class__")=some true)
   (hm:PySem.W.mroIn K C (.type "object")=some true):d0 K H (.ref a) (.ref C)
theorem tI{x:V}{u t:Value}(I:Inv X pins σ H s)(rx:RelV x u)(ty:d0 X.K H x t)(e:PySem.W.kitOne X.K t c=some b)(h:∀ tk,Q (.bool b) { s with toks:=tk }) :
  wpAny (model X.prog X.w) A (call (.builtin "isinstance") [u,c]) Q E s:=by
 cases ty with
 | non=>cases (show u=Value.none from rx); exact PySem.W.kia_one PySem.W.kitx_none I.kIn True.intro e (fun z=>nomatch z) h
 | bl y=>cases (show u=Value.bool y from rx); exact PySem.W.kia_one PySem.W.kitx_bool I.kIn True.intro e (fun z=>nomatch z) h
 | int i=>obtain⟨t,q⟩:=(show ∃ t,u=Value.int i t from rx); cases q; exact PySem.W.kia_one PySem.W.kitx_int I.kIn True.intro e (fun z=>nomatch z) h
 | str y=>obtain⟨t,q⟩:=(show ∃ t,u=Value.str y t from rx); cases q; exact PySem.W.kia_one PySem.W.kitx_str I.kIn True.intro e (fun z=>nomatch z) h
 | flt y=>obtain⟨t,q⟩:=(show ∃ t,u=Value.float y t from rx); cases q; exact PySem.W.kia_one PySem.W.kitx_float I.kIn True.intro e (fun z=>nomatch z) h
 | @lst a xs ea=>
  cases (show u=Value.ref a from rx)
  obtain⟨_,_,n,_,h1⟩:=(show ObjOk X.prog X.w H s.heap a (.lst xs) from I.hok a _ ea)
  exact PySem.W.kia_one PySem.W.kitx_list I.kIn ⟨_,h1,rfl⟩ e (fun z=>nomatch z) h
 | @frz a ob xs ea=>
  cases (show u=Value.ref a from rx)
  obtain⟨_,_,_,n,_,h1⟩:=(show ObjOk X.prog X.w H s.heap a (.frz ob (.lst xs)) from I.hok a _ ea)
  exact PySem.W.kia_one PySem.W.kitx_list I.kIn ⟨_,h1,rfl⟩ e (fun z=>nomatch z) h
 | @tup a xs ea=>
  cases (show u=Value.ref a from rx)
  obtain⟨_,_,_,p⟩:=(show ObjOk X.prog X.w H s.heap a (.tup xs) from I.hok a _ ea)
  obtain⟨o,h1,h2,_⟩:=p
  exact PySem.W.kia_one PySem.W.kitx_tuple I.kIn ⟨o,h1,h2⟩ e (fun z=>nomatch z) h
 | @dK a kvs ea=>
  cases (show u=Value.ref a from rx)
  obtain⟨_,_,vs,_,p⟩:=(show ObjOk X.prog X.w H s.heap a (.dK kvs) from I.hok a _ ea)
  obtain⟨o,es,ep,h1,h2,_⟩:=p
  exact PySem.W.kia_one PySem.W.kitx_dict I.kIn ⟨o,h1,h2.1⟩ e (fun z=>nomatch z) h
 | @dT a kvs ea=>
  cases (show u=Value.ref a from rx)
  obtain⟨_,_,xs,_,o,es,ep,h1,h2,_⟩:=(show ObjOk X.prog X.w H s.heap a (.dT kvs) from I.hok a _ ea)
  exact PySem.W.kia_one PySem.W.kitx_dict I.kIn ⟨o,h1,h2.1⟩ e (fun z=>nomatch z) h
 | @ins a C dx fs ea cl ha hn htk hm=>
  cases (show u=Value.ref a from rx)
  obtain⟨mA,O,_⟩:=jx I.hok ea
  obtain⟨od,J,_⟩:=O.look
  exact PySem.W.kia_one (PySem.W.kitx_own (cl.get _) cl.hd ha hn htk hm) I.kIn J e (fun z=>nomatch z) h
end
end L2
namespace L2
open PySem PySem.Spec PyProof.Rows
structure Room (k:Nat) (A:Around):Prop where
 hd:A.handled=none
 dp:A.depth+3 * k+5<recursionLimit
 un:A.units+16 * k+200<cLine
theorem Room.mono{j k:Nat}{A:Around}(r:Room k A)(h:j≤k):Room j A:=⟨r.hd,by have:=r.dp; omega,by have:=r.un; omega⟩
theorem Room.deeper{k:Nat}{A:Around}(r:Room (k+1) A)(env:Env):Room k (A.deeper env):=
 ⟨r.hd,by have:=r.dp; show A.depth+1+3 * k+5<_; omega,by have:=r.un; show A.units+3+16 * k+200<_; omega⟩
theorem qi{A:Around}{C:Addr}{us:List Value}{kw:List (Str × Value)}:(A.under (.builtin "type.__call__" ⟨.ref C::us,kw⟩)).depth=A.depth+1:=by
 first | rfl | simp[Around.under,Code.weight,Code.isCreation,Code.isGuard,Code.isCaller,Code.frames,Code.isFrame,guardIds]
theorem qB{A:Around}{C:Addr}{us:List Value}{kw:List (Str × Value)}:(A.under (.builtin "type.__call__" ⟨.ref C::us,kw⟩)).units=A.units+1:=by
 first | rfl | simp[Around.under,Code.cUnits,Code.frames,Code.isFrame]
theorem Room.make{k:Nat}{A:Around}(r:Room (k+1) A)(C:Addr)(us:List Value)(kw:List (Str × Value)):Room k (A.under (.builtin "type.__call__" ⟨.ref C::us,kw⟩)):=
 ⟨r.hd,by have:=r.dp; rw[qi]; omega,by have:=r.un; rw[qB]; omega⟩
theorem Room.depth{k:Nat}{A:Around}(r:Room k A):A.depth<recursionLimit:=by have:=r.dp; omega
def yL:TA:=fun _ H Q=>Q [] H
def wR(ta:TE)(tr:TA):TA:=fun σ H Q=>ta σ H fun x H1=>tr σ H1 fun xs H2=>Q (x::xs) H2
section
variable{X:Cx}{e:Expr}{es:List Expr}{te:TE}{t:TA}{pos:Pos}
theorem ac:PA X [] yL:=fun _ _ _ _ H Q I h=>Calls.spliced_nil ⟨[],H,I,.nil,h⟩
theorem aa(ha:PE X e te)(hr:PA X es t)(hs:starEach (e::es) X.env=(false,eval e X.env)::starEach es X.env:=by rfl):PA X (e::es) (wR te t):=by
 intro pos pins s σ H Q I h
 rw[hs]
 show wpAny _ _ (spliced ((false,eval e X.env)::backTo pos (starEach es X.env))) _ _ s
 refine Calls.spliced_cons (aT (ha pins s σ H _ I h) fun u s1 ⟨x,H1,I1,r1,q1⟩=>?_)
 exact aT (hr pos pins s1 σ H1 _ I1 q1) fun us s2 ⟨xs,H2,I2,r2,q2⟩=>⟨x::xs,H2,I2,.cons r1 r2,q2⟩
def yj(t:TA):TE:=fun σ H Q=>t σ H fun xs H1=>xs.length≤sizeLine∧∀ p,H1 p=none→Q (.ref p) (upd H1 p (.tup xs))
def yA(t:TA):TE:=fun σ H Q=>t σ H fun xs H1=>xs.length≤sizeLine∧∀ p,H1 p=none→Q (.ref p) (upd H1 p (.lst xs))
theorem bc{x1}(h:PA X es t):PE X (.Tuple es x1 pos) (yj t):=by
 intro pins s σ H Q I hq
 refine wpAny_Tuple_spliced (aT (h pos pins s σ H _ I hq) fun us s1 ⟨xs,H1,I1,r,z,q⟩=>⟨by rw[← r.length]; exact z,?_⟩)
 have hf:H1 s1.heap.objs.size=none:=I1.hok.fresh (Nat.le_refl _)
 refine⟨.ref s1.heap.objs.size,upd H1 s1.heap.objs.size (.tup xs),I1.laid (t':=s1.toks) (fun b u e=>Heap.get?_push_of_some _ e) (Nat.le_refl _) ?_,rfl,q _ hf⟩
 exact⟨z,us,r,⟨_,Heap.get?_push_size _ rfl,rfl,rfl,_,rfl⟩⟩
theorem bd(h:PA X es t):PE X (.List es pos) (yA t):=by
 intro pins s σ H Q I hq
 refine wpAny_List_spliced (aT (h pos pins s σ H _ I hq) fun us s1 ⟨xs,H1,I1,r,z,q⟩=>⟨by rw[← r.length]; exact z,?_⟩)
 have hf:H1 s1.heap.objs.size=none:=I1.hok.fresh (Nat.le_refl _)
 refine⟨.ref s1.heap.objs.size,upd H1 s1.heap.objs.size (.lst xs),I1.laid (t':=s1.toks) (fun b u e=>Heap.get?_push_of_some _ e) (Nat.le_refl _) ?_,rfl,q _ hf⟩
 exact⟨z,us,0,r,Heap.get?_push_size _ rfl⟩
end
abbrev Sp:=List V→Hp→VK→XK→Prop
abbrev fL:=List Env→Hp→Shared→XK→Value→Shared→Prop
structure Env0 (P:Program) (w:World) (K:PySem.W.Frag) (mg:Str→Option Value) (base:Heap) (A:Around) (outer:List Env) (s:Shared) (H:Hp):Prop where
 frames:A.frames=some outer
 mod:Mod K mg base
 bs:∀ b o,base.get? b=some o→s.heap.get? b=some o∧H b=none
 bsz:base.objs.size≤s.heap.objs.size
 funs:s.heap.FunFrames base outer
 frf:∀ b∈gn outer,H b=none
 hok:HOk P w H s.heap
 bare:AllBare s.gens
def CE(outer:List Env)(P:Program)(w:World)(H:Hp)(s:Shared)(Q:VK)(u:Value)(s':Shared):Prop:=
 ∃ v H',s'.os=s.os∧AllBare s'.gens∧Un (gn outer) [] H H' s.heap s'.heap∧HOk P w H' s'.heap∧RelV v u∧Q v H'
def CR(CX:fL)(outer:List Env)(P:Program)(w:World)(H:Hp)(s:Shared)(Q:VK)(E:XK)(r:Result)(s':Shared):Prop:=
 match r with
 | .ok (.ret u)=>CE outer P w H s Q u s'
 | .ok _=>False
 | .error e=>CX outer H s E e s'
structure FnOk (P:Program) (w:World) (K:PySem.W.Frag) (mg:Str→Option Value) (base:Heap) (CX:fL) (k:Nat) (f:Addr) (fd:FuncData) (ps:List Str) (sp:Sp):Prop where
 len:∀ vs H Q E,sp vs H Q E→vs.length=ps.length
 run:∀ (A:Around) (outer:List Env) (s:Shared) (H:Hp) (args:Args) (us:List Value) (vs:List V) (Q:VK) (E:XK),Room k A→Env0 P w K mg base A outer s H→BindsTo s fd args (ps.zip us)→Vals vs us→sp vs H Q E→
  codeAny (model P w) A (.call (.ref f) args) (CR CX outer P w H s Q E) s
theorem FnOk.mono{P:Program}{w:World}{K:PySem.W.Frag}{mg:Str→Option Value}{base:Heap}{CX:fL}{j k:Nat}{f:Addr}{fd:FuncData}{ps:List Str}{sp:Sp}(F:FnOk P w K mg base CX j f fd ps sp)(h:j≤k) :
  FnOk P w K mg base CX k f fd ps sp:=⟨F.len,fun A outer s H args us vs Q E hr=>F.run A outer s H args us vs Q E (hr.mono h)⟩
theorem FnOk.imp{P:Program}{w:World}{K:PySem.W.Frag}{mg:Str→Option Value}{base:Heap}{CX:fL}{k:Nat}{f:Addr}{fd:FuncData}{ps:List Str}{sp sp':Sp}(F:FnOk P w K mg base CX k f fd ps sp)
  (h:∀ vs H Q E,sp' vs H Q E→sp vs H Q E):FnOk P w K mg base CX k f fd ps sp':=
 ⟨fun vs H Q E q=>F.len vs H Q E (h _ _ _ _ q),fun A outer s H args us vs Q E hr he hb hv hs=>F.run A outer s H args us vs Q E hr he hb hv (h _ _ _ _ hs)⟩
theorem Env0.make{P:Program}{w:World}{K:PySem.W.Frag}{mg:Str→Option Value}{base:Heap}{A:Around}{outer:List Env}{s:Shared}{H:Hp}(e:Env0 P w K mg base A outer s H)(C:Addr)(us:List Value)(kw:List (Str × Value)) :
  Env0 P w K mg base (A.under (.builtin "type.__call__" ⟨.ref C::us,kw⟩)) outer s H:=⟨by first | exact e.frames | (simpa [Around.under,Code.envs,Code.isFrame,pushEnvs] using e.frames),e.mod,e.bs,e.bsz,e.funs,e.frf,e.hok,e.bare⟩
section
variable{X:Cx}{pins:List (Addr × Obj)}{σ : St}{H:Hp}{s s':Shared}
theorem Inv.env0(I:Inv X pins σ H s):Env0 X.prog X.w X.K X.mg X.base X.A X.stack s H:=
 ⟨I.ok.frames,I.ok.mod,I.bs,Nat.le_trans I.ok.bsz I.sz,I.stack,I.stkFree,I.hok,I.bare⟩
theorem Inv.after{Q:VK}{u:Value}(I:Inv X pins σ H s)(h:CE X.stack X.prog X.w H s Q u s'):EP X pins σ Q u s':=by
 obtain⟨v,H',os,bare,un,hok,r,q⟩:=h
 obtain⟨hh,g,d,t,os'⟩:=s'
 obtain rfl:os'=s.os:=os
 exact⟨v,H',I.call (h':=hh) (g':=g) (d':=d) (t':=t) (ch:=[]) un hok bare (fun b z=>absurd z (by simp)),r,q⟩
end
def qN(sp:Sp)(dvs:List V)(E:XK)(t:TA):TE:=fun σ H Q=>t σ H fun vs H1=>sp (vs++dvs) H1 Q E
def Binds(K:PySem.W.Frag)(fd:FuncData)(ps:List Str)(ds:List Value):Prop:=
 ∀ (s:Shared) (us:List Value),K.In s.heap→(us++ds).length=ps.length→BindsTo s fd ⟨us,[]⟩ (ps.zip (us++ds))
theorem Binds.all{K:PySem.W.Frag}{fd:FuncData}{ps:List Str}(h:∀ us:List Value,us.length=ps.length→bindArgs fd ⟨us,[]⟩=pure (ps.zip us)):Binds K fd ps []:=fun s us _ hl=>by
 rw[List.append_nil]at hl ⊢
 exact .of_eq (h us hl)
def jf(CX:fL)(X:Cx)(E:XK):Prop:=∀ (pins:List (Addr × Obj)) (σ : St) (H:Hp) (s:Shared) (e:Value) (s':Shared),Inv X pins σ H s→CX X.stack H s E e s'→X.xe e s'
section
variable{X:Cx}{CX:fL}{k:Nat}{f C:Addr}{fd:FuncData}{ps:List Str}{sp:Sp}{dvs:List V}{ds:List Value}{E:XK}{x m:Str}{p pos apos:Pos}{e o:Expr}{es:List Expr}{ta:TE}{t:TA}
theorem zb{pins:List (Addr × Obj)}{σ : St}{H:Hp}{s:Shared}{Q:VK}{us:List Value}{vs:List V}(F:FnOk X.prog X.w X.K X.mg X.base CX k f fd ps sp)(hr:Room k X.A)(hb:Binds X.K fd ps ds)(hd:Vals dvs ds)(hx:jf CX X E)
  (I:Inv X pins σ H s) (r:Vals vs us) (h:sp (vs++dvs) H Q E):wpAny (model X.prog X.w) X.A (call (.ref f) us) (EP X pins σ Q) X.xe s:=by
 have r2:Vals (vs++dvs) (us++ds):=r.append hd
 have hl:(us++ds).length=ps.length:=by rw[← r2.length]; exact F.len _ _ _ _ h
 refine wpAny_call (codeAny_mono (F.run X.A X.stack s H ⟨us,[]⟩ (us++ds) (vs++dvs) Q E hr I.env0 (hb s us I.kIn hl) r2 h) fun r s' hq=>?_)
 cases r with
 | error e=>exact hx pins σ H s e s' I hq
 | ok fl=>
  cases fl with
  | ret u=>exact I.after hq
  | next=>exact False.elim hq
  | brk=>exact False.elim hq
  | cont=>exact False.elim hq
theorem yd(F:FnOk X.prog X.w X.K X.mg X.base CX k f fd ps sp)(hr:Room k X.A)(hg:Gl X x)(hm:X.mg x=some (.ref f))(hk:PySem.W.keepIn X.K (.ref f)=true)(hb:Binds X.K fd ps ds)(hd:Vals dvs ds)(hx:jf CX X E)
  (ha:PA X (e::es) t) (hdb:(x == ("__debug__" : Str))=false:=by decide) (he:starEach (e::es) X.env=(false,eval e X.env)::starEach es X.env:=by rfl) (hpl:(backTo pos (starEach es X.env)).any (·.1)=false:=by rfl) :
  PE X (.Call (.Name x p) (e::es) [] pos) (qN sp dvs E t):=by
 intro pins s σ H Q I h
 refine wpAny_Call_Name_kw (jS I hg hm ?_ hdb)
 refine PySem.W.callWith_K (h₀:=X.base) I.ok.mod.kin hk (aT (ha pos pins s σ H _ I h) fun us s1 ⟨vs,H1,I1,r,q⟩=>⟨I1.kIn,?_⟩) he hpl
 exact zb F hr hb hd hx I1 r q
structure Mk (K:PySem.W.Frag) (C f:Addr):Prop where
 makes:PySem.W.makesIn K C=true
 init:PySem.W.findIn K (.ref C) "__init__" = some (some (.ref f))
 fn:PySem.W.isFn K (.ref f)=true
 kp:PySem.W.keepIn K (.ref C)=true
theorem vf{pins:List (Addr × Obj)}{σ : St}{H:Hp}{s:Shared}{Q:VK}{us:List Value}{vs:List V}(M:Mk X.K C f)(F:FnOk X.prog X.w X.K X.mg X.base CX k f fd ps sp)(hr:Room (k+1) X.A)(hb:Binds X.K fd ps ds)(hd:Vals dvs ds)
  (hx:jf CX X E) (I:Inv X pins σ H s) (r:Vals vs us)
  (h:∀ x dx,H x=none→H dx=none→dx≠x→sp (.ref x::(vs++dvs)) (upd (upd H dx (.own x)) x (.ins C dx [])) (fun v H2=>v = .non∧Q (.ref x) H2) E) :
  wpAny (model X.prog X.w) X.A (call (.ref C) us) (EP X pins σ Q) X.xe s:=by
 have hq:=h (s.heap.objs.size+1) s.heap.objs.size (I.hok.fresh (Nat.le_succ _)) (I.hok.fresh (Nat.le_refl _)) (Nat.ne_of_lt (Nat.lt_succ_self _))
 have I2:=Inv.made (C:=C) I
 have r2:Vals (V.ref (s.heap.objs.size+1)::(vs++dvs)) (Value.ref (s.heap.objs.size+1)::(us++ds)):=.cons rfl (r.append hd)
 have hl:(Value.ref (s.heap.objs.size+1)::us++ds).length=ps.length:=by
  have e:=r2.length
  rw[F.len _ _ _ _ hq]at e
  exact e.symm
 refine wpAny_call (wa (f:=f) I.kIn M.makes M.init (beq_iff_eq.mp M.fn) (codeAny_mono (F.run _ X.stack _ _ ⟨Value.ref (s.heap.objs.size+1)::us,[]⟩ (Value.ref (s.heap.objs.size+1)::(us++ds)) _ _ E (hr.make C us [])
  (I2.env0.make C us []) (hb _ (Value.ref (s.heap.objs.size+1)::us) I2.kIn hl) r2 hq) fun r s' hq'=>?_))
 cases r with
 | error e=>exact hx pins σ _ _ e s' I2 hq'
 | ok fl=>
  cases fl with
  | ret u=>
   obtain⟨v,H',I3,rv,ev,q3⟩:=I2.after hq'
   subst ev
   exact⟨rv,⟨V.ref (s.heap.objs.size+1),H',I3,rfl,q3⟩⟩
  | next=>exact False.elim hq'
  | brk=>exact False.elim hq'
  | cont=>exact False.elim hq'
end
section
variable{X:Cx}{CX:fL}{k:Nat}{f C:Addr}{fd:FuncData}{ps ks:List Str}{sp:Sp}{E:XK}{x m:Str}{p pos apos kpos:Pos}{e o:Expr}{es:List Expr}{kws:List Keyword}{te ta:TE}{t tk:TA}{nm:Option Str}
variable{g:List Value→List Value→List Value}{gV:List V→List V→List V}
end
structure aH (N P:List Str) (sc:Scope):Prop where
 kind:sc.kind = .function
 co:sc.isCoroutine=false
 gen:sc.isGenerator=false
 nd:N.Nodup
 pre:N.take P.length=P
 par:∀ x∈P,sc.names.lookup x=some .local∨sc.names.lookup x=some .cell
 nofree:∀ y∈sc.names,y.2 ≠ .free
theorem kM{kindOf:Str→Option NameKind}{x:Str}:∀ {binds:List (Str × Value)} {m:Str→Option Value},(∀ v,(x,v)∉binds)→bindL kindOf binds m x=m x
 | [],_,_=>rfl
 | (n,v)::r,m,h=>by
  unfold bindL
  rw[kM fun w hw=>h w (List.mem_cons_of_mem _ hw)]
  split
  ·have:x≠n:=by rintro rfl; exact h v List.mem_cons_self
   simp[this]
  ·rfl
theorem km{kindOf:Str→Option NameKind}{x:Str}:∀ {binds:List (Str × Value)} {m:Str→Option Value},(∀ v,(x,v)∉binds)→bindC kindOf binds m x=m x
 | [],_,_=>rfl
 | (n,v)::r,m,h=>by
  unfold bindC
  rw[km fun w hw=>h w (List.mem_cons_of_mem _ hw)]
  split
  ·rfl
  ·have:x≠n:=by rintro rfl; exact h v List.mem_cons_self
   simp[this]
theorem kZ{kindOf:Str→Option NameKind}{x:Str}{v:Value}:∀ {P:List Str} {vs:List Value} {i:Nat} {m:Str→Option Value},P.Nodup→P[i]? = some x→vs[i]? = some v→kindOf x=some .local→
  bindL kindOf (P.zip vs) m x=some v
 | [],_,_,_,_,h,_,_=>by simp at h
 | _::_,[],_,_,_,_,h,_=>by simp at h
 | p::P,w::vs,0,m,nd,h1,h2,hk=>by
  simp at h1 h2; subst h1; subst h2
  show bindL kindOf ((p,w)::P.zip vs) m p=_
  unfold bindL
  rw[kM fun v hv=>(List.nodup_cons.mp nd).1 (List.of_mem_zip hv).1,if_pos hk]
  simp
 | p::P,w::vs,i+1,m,nd,h1,h2,hk=>by
  show bindL kindOf ((p,w)::P.zip vs) m x=_
  unfold bindL
  exact kZ (i:=i) (List.nodup_cons.mp nd).2 (by simpa using h1) (by simpa using h2) hk
theorem kH{kindOf:Str→Option NameKind}{x:Str}{v:Value}:∀ {P:List Str} {vs:List Value} {i:Nat} {m:Str→Option Value},P.Nodup→P[i]? = some x→vs[i]? = some v→kindOf x≠some .local→
  bindC kindOf (P.zip vs) m x=some v
 | [],_,_,_,_,h,_,_=>by simp at h
 | _::_,[],_,_,_,_,h,_=>by simp at h
 | p::P,w::vs,0,m,nd,h1,h2,hk=>by
  simp at h1 h2; subst h1; subst h2
  show bindC kindOf ((p,w)::P.zip vs) m p=_
  unfold bindC
  rw[km fun v hv=>(List.nodup_cons.mp nd).1 (List.of_mem_zip hv).1,if_neg hk]
  simp
 | p::P,w::vs,i+1,m,nd,h1,h2,hk=>by
  show bindC kindOf ((p,w)::P.zip vs) m x=_
  unfold bindC
  exact kH (i:=i) (List.nodup_cons.mp nd).2 (by simpa using h1) (by simpa using h2) hk
def start(N:List Str)(vs:List V):St:=vs.map some++List.replicate (N.length - vs.length) none
def gD(CX:fL)(P:Program)(w:World)(K:PySem.W.Frag)(mg:Str→Option Value)(base:Heap)(N:List Str)(qual:Str)(scope:Scope)(f:Addr)(cd:Value)(A:Around)(outer:List Env)(s:Shared)(H:Hp)(E:XK):Cx where
 prog:=P
 w:=w
 K:=K
 mg:=mg
 base:=base
 A:=A.deeper (envOfC qual scope s.heap.objs.size f cd)
 N:=N
 s₀:=s
 H₀:=H
 env:=envOfC qual scope s.heap.objs.size f cd
 outer:=outer
 stack:=envOfC qual scope s.heap.objs.size f cd::outer
 ex:=[]
 calm:=true
 fn:=fun _=>true
 pn:=[]
 xe:=fun e s'=>wpAny (model P w) (A.deeper (envOfC qual scope s.heap.objs.size f cd)) (leaving (envOfC qual scope s.heap.objs.size f cd) e) (fun _ s''=>CX outer H s E e s'') (fun e' s''=>CX outer H s E e' s'') s'
theorem mH{sc:Scope}{n:Nat}{x:Str}(h:sc.names.lookup x=some .cell):∃ c,(cellsFrom n sc.names []).lookup x=some c:=by
 have q:=PySem.W.cellsFrom_some sc.names n [] (.inl h)
 exact Option.isSome_iff_exists.mp q
theorem sE{CX:fL}{P:Program}{w:World}{K:PySem.W.Frag}{mg:Str→Option Value}{base:Heap}{N ps:List Str}{qual:Str}{scope:Scope}{f:Addr}{cd:Value}{A:Around}{outer:List Env}{s s1:Shared}{H:Hp}{E:XK}{us:List Value}{vs:List V}
  (S:aH N ps scope) (hd:A.handled=none) (e0:Env0 P w K mg base A outer s H) (hl:vs.length=ps.length) (r:Vals vs us)
  (x:InCallC s s.heap.objs.size (bindL (envOfC qual scope s.heap.objs.size f cd).kindOf (ps.zip us) fun _=>none) (cellsFrom (s.heap.objs.size+1) scope.names []) (bindC (envOfC qual scope s.heap.objs.size f cd).kindOf (ps.zip us) fun _=>none) s1) :
  Inv (gD CX P w K mg base N qual scope f cd A outer s H E) [] (start N vs) H s1:=by
 have hpl:ps.length≤N.length:=by have:=congrArg List.length S.pre; rw[List.length_take]at this; omega
 obtain⟨h1,tk,rfl,hk⟩:=x.done
 have noA:∀ b:Addr,b∉(gD CX P w K mg base N qual scope f cd A outer s H E).ex:=fun b z=>absurd (show b∈([]:List Addr) from z) (by simp)
 refine⟨⟨e0.mod,S.kind,rfl,rfl,Nat.le_refl _,fun y z c h1 h2=>?_,fun y hy=>?_,fun y c _ h=>?_,fun _=>hd,Around.frames_deeper e0.frames,.inr ⟨rfl,rfl⟩,fun b z=>absurd z (noA b),e0.bs,e0.bsz,fun b _ _=>noA b,fun b z=>absurd z (noA b),e0.funs,e0.frf⟩,
  rfl,e0.bare,Un.kept hk,⟨_,x.toInCall.ns,fun i y v h1 h2 h3=>?_⟩,fun y c h=>⟨_,x.cell y c h⟩,e0.hok.fresh (Nat.le_refl _),fun y c h=>?_,fun p hp=>absurd (show p∈([]:List (Addr × Obj)) from hp) (by simp),e0.hok.kept hk,?_⟩
 ·exact name_of_addr x.apart (PySem.mem_of_lookup h1) (PySem.mem_of_lookup h2)
 ·have hy:scope.names.lookup y=some .cell∨scope.names.lookup y=some .free:=hy
  rcases hy with hy | hy
  ·exact mH hy
  ·exact absurd rfl (S.nofree _ (PySem.mem_of_lookup hy))
 ·exact Nat.le_of_lt (x.above y c (PySem.mem_of_lookup h))
 ·have hi:i<vs.length:=by
   unfold start at h2
   by_cases hi:i<vs.length
   ·exact hi
   ·rw[List.getElem?_append_right (by simpa using hi)]at h2
    rw[List.getElem?_replicate]at h2
    split at h2 <;> cases h2
  have ha:vs[i]? = some v:=by
   unfold start at h2
   rw[List.getElem?_append_left (by simpa using hi),List.getElem?_map]at h2
   cases e:vs[i]? with
   | none=>rw[e]at h2; cases h2
   | some a=>rw[e]at h2; cases h2; rfl
  obtain⟨u,hu,rv⟩:=r.get ha
  have hp:ps[i]? = some y:=by
   rw[← S.pre,List.getElem?_take_of_lt (by omega)]; exact h1
  have ndP:ps.Nodup:=by rw[← S.pre]; exact S.nd.sublist (List.take_sublist _ _)
  refine⟨u,rv,?_⟩
  rcases S.par y (List.mem_of_getElem? hp) with k | k
  ·exact .inl ⟨k,kZ ndP hp hu k⟩
  ·obtain⟨c,e⟩:=mH (n:=s.heap.objs.size+1) k
   refine .inr ⟨.inl k,c,e,?_⟩
   have q:=x.cell y c e
   rw[kH ndP hp hu (by show scope.names.lookup y≠_; rw[k]; decide)]at q
   exact q
 ·exact e0.hok.fresh (Nat.le_of_lt (x.above y c (PySem.mem_of_lookup h)))
 ·unfold start
  show _=N.length
  rw[List.length_append,List.length_map,List.length_replicate]
  omega
theorem AN{CX:fL}{P:Program}{w:World}{K:PySem.W.Frag}{mg:Str→Option Value}{base:Heap}{k:Nat}{f:Addr}{name qual:Str}{params:Arguments}{body:List Stmt}{scope:Scope}{dV kV doc pm cdv ct oc:Value}{an od:Option Addr}
  {osl:Array (Option Value)} {N ps:List Str} {sp:Sp} (lk:K.lookup f=some ⟨oc,od,.func (PySem.W.fnOf name qual params body scope dV kV doc pm an cdv ct),osl⟩) (hcd:PySem.W.codeIn K cdv qual=true) (S:aH N ps scope)
  (len:∀ vs H Q E,sp vs H Q E→vs.length=ps.length)
  (hbody:∀ (A:Around) (outer:List Env) (s:Shared) (H:Hp) (vs:List V) (Q:VK) (E:XK),Room k (A.deeper (envOfC qual scope s.heap.objs.size f cdv))→sp vs H Q E→
   ∃ t,PSs (gD CX P w K mg base N qual scope f cdv A outer s H E) body t∧t { nx:=fun _ H'=>Q .non H',rt:=Q } (start N vs) H) :
  FnOk P w K mg base CX (k+1) f (PySem.W.fnOf name qual params body scope dV kV doc pm an cdv ct) ps sp:=by
 refine⟨len,fun A outer s H args us vs Q E hr e0 hb r hsp=>?_⟩
 have hl:=len _ _ _ _ hsp
 have KX:K.In s.heap:=e0.mod.kin.keeps fun b o e=>(e0.bs b o e).1
 have lim:s.heap.NoLimit:=e0.mod.nolimit.keeps fun b o e=>(e0.bs b o e).1
 have hkind:∀ y∈ps.zip us,scope.names.lookup y.1=some .local∨(scope.names.lookup y.1=some .cell∧((cellsFrom (s.heap.objs.size+1) scope.names []).lookup y.1).isSome=true):=fun ⟨n,v⟩ hy=>by
  rcases S.par n (List.of_mem_zip hy).1 with q | q
  ·exact .inl q
  ·exact .inr ⟨q,PySem.W.cellsFrom_some _ _ _ (.inl q)⟩
 refine codeAny_call_function hr.depth (KX _ _ lk) rfl S.co S.gen rfl (PySem.W.codeRec_of KX hcd) (hb _ _ _ _ ?_)
 refine wpAny_newFunctionEnv_cells S.kind hkind fun env he s1 x=>?_
 subst he
 refine⟨lim.keeps x.toInCall.keep,codeAny_func ?_⟩
 obtain⟨t,ht,hq⟩:=hbody A outer s H vs Q E (hr.deeper _) hsp
 have I:Inv (gD CX P w K mg base N qual scope f cdv A outer s H E) [] (start N vs) H s1:=sE S hr.hd e0 hl r x
 refine wpAny_mono (ht [] s1 (start N vs) H _ I hq) (fun fl s' hs=>?_) fun e s' hs=>hs
 have fin:∀ {σ':St} {H':Hp} {v:V} {u:Value},Inv (gD CX P w K mg base N qual scope f cdv A outer s H E) [] σ' H' s'→RelV v u→Q v H'→CE outer P w H s Q u s':=
  fun {σ' H' v u} J rv q=>⟨v,H',J.os,J.bare,J.base,J.hok,rv,q⟩
 cases fl with
 | ret u=>
  obtain⟨v,σ',H',J,rv,q⟩:=hs
  exact fin J rv q
 | next=>
  obtain⟨σ',H',J,q⟩:=hs
  exact fin (v:=V.non) (u:=Value.none) J rfl q
 | brk=>
  obtain⟨_,_,_,q⟩:=hs
  exact False.elim q
 | cont=>
  obtain⟨_,_,_,q⟩:=hs
  exact False.elim q
end L2
namespace L2
open PySem PySem.Spec PyProof.Rows
section
variable{X:Cx}{x:Str}{p pos:Pos}{e:Expr}{es:List Expr}{t:TA}{id T:String}{r:List V→Hp→VK→Prop}
def tm(r:List V→Hp→VK→Prop)(t:TA):TE:=fun σ H Q=>t σ H fun vs H1=>r vs H1 Q
theorem wn(hc:CallR X (.builtin id) r)(hg:Gl X x)(hm:X.mg x=none)(hv:bootBuiltins x=some (.builtin id))(ha:PA X (e::es) t)(hn:x ≠ "__name__" := by decide) (hdb:(x == ("__debug__" : Str))=false:=by decide)
  (he:starEach (e::es) X.env=(false,eval e X.env)::starEach es X.env:=by rfl) (hpl:(backTo pos (starEach es X.env)).any (·.1)=false:=by rfl):PE X (.Call (.Name x p) (e::es) [] pos) (tm r t):=by
 intro pins s σ H Q I h
 refine wpAny_Call_Name_kw (fH I hg hm hv ?_ hn hdb)
 exact PyProof.Rows.callWith_builtin1 (aT (ha pos pins s σ H _ I h) fun us s1 ⟨vs,H1,I1,r1,q1⟩=>hc pins s1 σ H1 vs us Q I1 r1 q1) he hpl
theorem ua(hc:CallR X (.type T) r)(hg:Gl X x)(hm:X.mg x=none)(hv:bootBuiltins x=some (.type T))(ha:PA X (e::es) t)(hn:x ≠ "__name__" := by decide) (hdb:(x == ("__debug__" : Str))=false:=by decide)
  (he:starEach (e::es) X.env=(false,eval e X.env)::starEach es X.env:=by rfl) (hpl:(backTo pos (starEach es X.env)).any (·.1)=false:=by rfl):PE X (.Call (.Name x p) (e::es) [] pos) (tm r t):=by
 intro pins s σ H Q I h
 refine wpAny_Call_Name_kw (fH I hg hm hv ?_ hn hdb)
 exact PyProof.Rows.callWith_type1 (aT (ha pos pins s σ H _ I h) fun us s1 ⟨vs,H1,I1,r1,q1⟩=>hc pins s1 σ H1 vs us Q I1 r1 q1) he hpl
end
end L2
namespace HT
open PySem PyProof.Rows
section
open PySem.SeqAt
open PySem.AutoSeq1 (wpAny_loadPart')
open PySem.MeetsSeq PySem.MeetsSeq2 PySem.MeetsSeq3
end
section
variable{prog:Program}{w:World}{A:Around}{E:Value→Shared→Prop}{s:Shared}
theorem cat_tup{t b:Addr}{vs ws:List Value}{Q:Value→Shared→Prop}(ht:IsTup s.heap t vs.toArray)(hb:IsTup s.heap b ws.toArray)(hv:vs≠[])
  (h1:ws=[]→Q (.ref t) s) (h2:ws≠[]→Q (.ref s.heap.objs.size) { s with heap:=s.heap.push { cls:=.type "tuple", data:=.seq (vs++ws).toArray } })
  (hsz:vs.length+ws.length≤sizeLine):wpAny (model prog w) A (binaryOp .Add (.ref t) (.ref b)) Q E s:=by
 obtain⟨⟨cls,dd,data,sl⟩,ho,hc,n,hd⟩:=id ht
 obtain⟨⟨cls2,dd2,data2,sl2⟩,ho2,hc2,n2,hd2⟩:=id hb
 simp only at hc hd hc2 hd2
 subst hc hd hc2 hd2
 have e:vs.toArray++ws.toArray=(vs++ws).toArray:=by simp
 by_cases hw:ws=[]
 ·exact concat_meets ⟨_,ho,rfl⟩ ⟨_,ho2,rfl⟩ noFill_tuple_add seq_tuple_add PySem.F.slot_tuple_add PySem.F.entry_tuple_add (PySem.F.args_tuple_add_2 _ _)
   (tuple_addW1 t b vs.toArray ws.toArray n n2 dd dd2 sl sl2 (by simpa using hv) (by simp[hw])) ⟨ho,ho2,h1 hw⟩
 ·refine concat_meets ⟨_,ho,rfl⟩ ⟨_,ho2,rfl⟩ noFill_tuple_add seq_tuple_add PySem.F.slot_tuple_add PySem.F.entry_tuple_add (PySem.F.args_tuple_add_2 _ _)
   (tuple_addW2 t b vs.toArray ws.toArray n n2 dd dd2 sl sl2 (by simpa using hv) (by simpa using hw) (by rw[List.size_toArray,List.size_toArray]; exact hsz)) ⟨ho,ho2,?_⟩
  rw[e]
  exact h2 hw
def sIx(n d:Nat):Option Int→Nat
 | none=>d
 | some v=>if v<0 then (v+(n:Int)).toNat else min v.toNat n
theorem sIx_none(n d:Nat):sIx n d none=d:=rfl
theorem sIx_nat(n d k:Nat):sIx n d (some (k:Int))=min k n:=by
 show (if (k:Int)<0 then ((k:Int)+(n:Int)).toNat else min (k:Int).toNat n)=min k n
 rw[if_neg (by omega),Int.toNat_natCast]
theorem zP(n d:Nat)(hd:d≤n)(o:Option Int):sIx n d o≤n:=by
 cases o with
 | none=>exact hd
 | some v=>
  show (if v<0 then (v+(n:Int)).toNat else min v.toNat n)≤n
  by_cases hv:v<0
  ·rw[if_pos hv]; omega
  ·rw[if_neg hv]; exact Nat.min_le_right _ _
theorem pG(v:Int)(n d:Nat):(if v<0 then max (v+(n:Int)) 0 else min v (n:Int))=((sIx n d (some v):Nat):Int):=by
 show (if v<0 then max (v+(n:Int)) 0 else min v (n:Int))=(((if v<0 then (v+(n:Int)).toNat else min v.toNat n):Nat):Int)
 by_cases hv:v<0
 ·simp only[if_pos hv]; omega
 ·simp only[if_neg hv]; omega
theorem rm(lo hi:Option Int)(n:Nat):Builtin.Slice.sliceAdjust lo hi 1 (n:Int)=(((sIx n 0 lo:Nat):Int),((sIx n n hi:Nat):Int)):=by
 have h1:¬ ((1:Int)<0):=by omega
 unfold Builtin.Slice.sliceAdjust
 simp only[h1,if_false]
 refine Prod.ext ?_ ?_
 ·cases lo with
  | none=>rfl
  | some v=>exact pG v n 0
 ·cases hi with
  | none=>rfl
  | some v=>exact pG v n n
theorem qu(i j:Nat):Builtin.Slice.slicePlaces (i:Int) (j:Int) 1=j - i:=by
 unfold Builtin.Slice.slicePlaces
 have h1:(1:Int)>0:=by omega
 simp only[h1,if_true,Int.ediv_one]
 split <;> omega
theorem i0{v:Value}{o:Option Int}{Q:Option Int→Shared→Prop}(p:IsPart v o)(h:Q o s):wpAny (model prog w) A (Builtin.Slice.slicePartIndex v) Q E s:=by
 cases p with
 | none=>exact slicePart_none h
 | int i t=>exact slicePart_int h
theorem sliceApplied_gen{sl:Addr}{vl vu:Value}{lo hi:Option Int}{n:Nat}{Q:Int × Int × Nat→Shared→Prop}(hs:s.heap.IsSliceOf sl vl vu .none)(pl:IsPart vl lo)(pu:IsPart vu hi)
  (h:Q (((sIx n 0 lo:Nat):Int),1,sIx n n hi - sIx n 0 lo) s):wpAny (model prog w) A (Builtin.Slice.sliceApplied (.ref sl) (pure (n:Int))) Q E s:=by
 obtain⟨os,hos,hcs,hds⟩:=id hs
 unfold Builtin.Slice.sliceApplied Builtin.Slice.sliceFields
 refine wpAny_bind (wpAny_bind (wpAny_field hos hds (x:=vl) rfl (wpAny_bind (wpAny_field hos hds (x:=vu) rfl (wpAny_bind (wpAny_field hos hds (x:=.none) rfl (wpAny_pure ?_)))))))
 refine wpAny_bind (slicePart_none ?_)
 show wpAny _ _ (if ((1:Int) == 0)=true then _ else _) _ _ s
 rw[if_neg (by decide)]
 refine wpAny_bind (i0 pl (wpAny_bind (i0 pu (wpAny_bind (wpAny_pure ?_)))))
 show wpAny _ _ (match Builtin.Slice.sliceAdjust lo hi 1 (n:Int) with | (lo,hi)=>pure (lo,(1:Int),Builtin.Slice.slicePlaces lo hi 1)) _ _ s
 rw[rm lo hi n]
 show wpAny _ _ (pure (((sIx n 0 lo:Nat):Int),(1:Int),Builtin.Slice.slicePlaces ((sIx n 0 lo:Nat):Int) ((sIx n n hi:Nat):Int) 1)) _ _ s
 rw[qu]
 exact wpAny_pure h
theorem wg(xs:Array Value)(i k:Nat):((List.range k).filterMap fun (m:Nat)=>xs[((i:Int)+(m:Int) * 1).toNat]?).toArray=((xs.toList.drop i).take k).toArray:=by
 have e:(fun (m:Nat)=>xs[((i:Int)+(m:Int) * 1).toNat]?)=fun m=>xs[i+m]?:=by
  funext m
  have:((i:Int)+(m:Int) * 1).toNat=i+m:=by omega
  rw[this]
 rw[e]
 have:=pick_run xs i k
 rw[List.filterMap_map]at this
 have e2:((fun x=>xs[x]?) ∘ fun x=>i+x)=fun m=>xs[i+m]?:=rfl
 rw[e2]at this
 rw[this]
theorem getItem_tuple_cut{t sl:Addr}{items:Array Value}{vl vu:Value}{lo hi:Option Int}{Q:Value→Shared→Prop}(ht:IsTup s.heap t items)(hs:s.heap.IsSliceOf sl vl vu .none)(pl:IsPart vl lo)(pu:IsPart vu hi)
  (hw:¬ (sIx items.size 0 lo=0∧sIx items.size items.size hi=items.size))
  (h:Q (.ref s.heap.objs.size) { s with heap:=s.heap.push { cls:=.type "tuple", data:=.seq ((items.toList.drop (sIx items.size 0 lo)).take (sIx items.size items.size hi - sIx items.size 0 lo)).toArray } })
  (hsz:items.size≤sizeLine):wpAny (model prog w) A (getItem (.ref t) (.ref sl)) Q E s:=by
 have htake:sizeOk (.seq ((items.toList.drop (sIx items.size 0 lo)).take (sIx items.size items.size hi - sIx items.size 0 lo)).toArray):=by
  show ((items.toList.drop (sIx items.size 0 lo)).take (sIx items.size items.size hi - sIx items.size 0 lo)).toArray.size≤sizeLine
  rw[List.size_toArray,List.length_take,List.length_drop,Array.length_toList]
  omega
 have hj:sIx items.size items.size hi≤items.size:=zP _ _ (Nat.le_refl _) hi
 obtain⟨os,hos,hcs,hds⟩:=id hs
 have hTs:s.TypeIs (.ref sl) "slice" := ⟨os,hos,hcs⟩
 unfold getItem
 try with_reducible refine wpAny_holding ?_
 first | refine wpAny_bind (wpAny_pure ?_) | skip
 refine wpAny_bind (wpAny_sequenceKey ht.typeIs (by decide) ?_)
 refine wpAny_bind (wpAny_callSpecial?_slot (name:=Str.ofString "__getitem__") ht.typeIs PyProof.Rows.slot_tuple_getitem
  (wpAny_call_entry PyProof.Rows.slot_tuple_getitem ht.typeIs entry_tuple_getitem ?_ (args_tuple_getitem _ _)))
 show wpAny _ _ (Builtin.Tuple.tupleItemsOf (.ref t) >>= _) _ _ s
 refine wpAny_bind (tupleItemsOf_ ht ?_)
 refine wpAny_bind (wpAny_typeOf hTs ?_)
 rw[if_pos (by decide)]
 refine wpAny_bind (sliceApplied_gen hs pl pu ?_)
 have hno:¬ ((((sIx items.size 0 lo:Nat):Int) == 0&&(1:Int) == 1&&(sIx items.size items.size hi - sIx items.size 0 lo) == items.size)=true):=by
  intro q
  rw[Bool.and_eq_true,Bool.and_eq_true]at q
  have q1:((sIx items.size 0 lo:Nat):Int)=0:=eq_of_beq q.1.1
  have q2:sIx items.size items.size hi - sIx items.size 0 lo=items.size:=eq_of_beq q.2
  exact hw ⟨by omega,by omega⟩
 show wpAny _ _ (if (((sIx items.size 0 lo:Nat):Int) == 0&&(1:Int) == 1&&(sIx items.size items.size hi - sIx items.size 0 lo) == items.size)=true then _ else _) _ _ s
 rw[if_neg hno,wg]
 first
  | exact wpAny_bind (m:=Builtin.Tuple.tupleExact _) (wpAny_newObj_type (wpAny_pure ⟨_,rfl,wpAny_pure h⟩) htake)
  | exact wpAny_bind (m:=Builtin.Tuple.tupleExact _) (wpAny_newObj_type (wpAny_bind (wpAny_pure (wpAny_pure ⟨_,rfl,wpAny_pure h⟩))) htake)
  | exact wpAny_bind (wpAny_bind (m:=Builtin.Tuple.tupleExact _) (wpAny_newObj_type (wpAny_pure (wpAny_pure ⟨_,rfl,wpAny_pure h⟩)) htake))
  | exact wpAny_bind (wpAny_bind (m:=Builtin.Tuple.tupleExact _) (wpAny_newObj_type (wpAny_pure ⟨_,rfl,wpAny_pure h⟩) htake))
end
end HT
namespace L2
open PySem PySem.Spec PyProof.Rows
abbrev TO:=St→Hp→(Option Int→Hp→Prop)→Prop
def PO(X:Cx)(e:Option Expr)(t:TO):Prop:=
 ∀ (pins:List (Addr × Obj)) (s:Shared) (σ : St) (H:Hp) (Q:Option Int→Hp→Prop),Inv X pins σ H s→t σ H Q→
  wpAny (model X.prog X.w) X.A (evalPart e X.env) (fun u s'=>∃ o H',Inv X pins σ H' s'∧IsPart u o∧Q o H') X.xe s
def pQ:TO:=fun _ H Q=>Q none H
def xl(t:TE):TO:=fun σ H Q=>t σ H fun x H1=>∃ i,x = .int i∧Q (some i) H1
theorem jn{ns:List Int}:∀ {us:List Value},Vals (ns.map V.int) us→IntsAre us ns:=by
 induction ns with
 | nil=>intro us r; rw[List.map_nil]at r; cases r; exact .nil
 | cons n ns ih=>
  intro us r
  rw[List.map_cons]at r
  cases r with
  | cons r1 r2=>
   obtain⟨t,e⟩:=r1
   subst e
   exact .cons n t (ih r2)
section
variable{X:Cx}{e:Expr}{te:TE}{lo hi:Option Expr}{tl th:TO}{pos p2:Pos}
theorem h9:PO X none pQ:=by
 intro pins s σ H Q I h
 rw[evalPart_none]
 exact wpAny_pure ⟨none,H,I,.none,h⟩
theorem eP(h:PE X e te):PO X (some e) (xl te):=by
 intro pins s σ H Q I hw
 rw[evalPart_some]
 refine aT (h pins s σ H _ I hw) fun u s1 ⟨x,H1,I1,r1,q1⟩=>?_
 obtain⟨i,rfl,q⟩:=q1
 obtain⟨t,rfl⟩:=r1
 exact⟨some i,H1,I1,.int i t,q⟩
def SlR(X:Cx)(r:V→Option Int→Option Int→Hp→VK→Prop):Prop:=
 ∀ (pins:List (Addr × Obj)) (s:Shared) (σ : St) (H:Hp) (x:V) (v vl vu:Value) (lo hi:Option Int) (sl:Addr) (Q:VK),Inv X pins σ H s→RelV x v→s.heap.IsSliceOf sl vl vu .none→IsPart vl lo→IsPart vu hi→r x lo hi H Q→
  ∃ T id,typeLookup (.type T) "__getitem__" = pure (some (.builtin id))∧s.TypeIs v T∧wpAny (model X.prog X.w) X.A (getItem v (.ref sl)) (EP X pins σ Q) X.xe s
def AV(r:V→Option Int→Option Int→Hp→VK→Prop)(te:TE)(tl th:TO):TE:=fun σ H Q=>te σ H fun x H1=>tl σ H1 fun l H2=>th σ H2 fun u H3=>r x l u H3 Q
theorem fj{r:V→Option Int→Option Int→Hp→VK→Prop}(hr:SlR X r)(he:PE X e te)(hl:PO X lo tl)(hu:PO X hi th):PE X (.Subscript e (.Slice lo hi none p2) pos) (AV r te tl th):=by
 intro pins s σ H Q I h
 refine Subscript_ (aT (he pins s σ H _ I h) fun v s1 ⟨x,H1,I1,r1,q1⟩=>?_)
 refine wpAny_Slice (aT (hl pins s1 σ H1 _ I1 q1) fun vl s2 ⟨l,H2,I2,pl,q2⟩=>aT (hu pins s2 σ H2 _ I2 q2) fun vu s3 ⟨u,H3,I3,pu,q3⟩=>?_)
 rw[evalPart_none]
 refine wpAny_pure ?_
 have I4:Inv X pins σ H3 { s3 with heap:=s3.heap.push { cls:=.type "slice", data:=.fields #[vl,vu,.none] } }:=I3.kept (t':=s3.toks) fun b ob q=>Heap.get?_push_of_some _ q
 obtain⟨T,id,hT,ht,hg⟩:=hr pins { s3 with heap:=s3.heap.push { cls:=.type "slice", data:=.fields #[vl,vu,.none] } } σ H3 x v vl vu l u s3.heap.objs.size Q I4 r1 (Heap.IsSliceOf.new ..) pl pu q3
 show wpAny (model X.prog X.w) X.A (subscriptTail e (.Slice lo hi none p2) v (.ref s3.heap.objs.size)) (EP X pins σ Q) X.xe { s3 with heap:=s3.heap.push { cls:=.type "slice", data:=.fields #[vl,vu,.none] } }
 exact tail_any (ops:=[.ref s3.heap.objs.size,v]) ht hT hg (by with_unfolding_all rfl)
def cW(xs:List V)(lo hi:Option Int):List V:=(xs.drop (HT.sIx xs.length 0 lo)).take (HT.sIx xs.length xs.length hi - HT.sIx xs.length 0 lo)
theorem iw(xs:List V)(lo hi:Option Int):(cW xs lo hi).length≤xs.length:=by
 unfold cW
 rw[List.length_take,List.length_drop]
 omega
def B2(K:PySem.W.Frag):V→Option Int→Option Int→Hp→VK→Prop:=fun x lo hi H Q=>∃ a xs,x = .ref a∧SqT K H a xs∧
 ¬ (HT.sIx xs.length 0 lo=0∧HT.sIx xs.length xs.length hi=xs.length)∧∀ p,H p=none→Q (.ref p) (upd H p (.tup (cW xs lo hi)))
theorem yp:SlR X (B2 X.K):=by
 intro pins s σ H x v vl vu lo hi sl Q I rx hs pl pu h
 obtain⟨a,xs,rfl,hx,hw,q⟩:=h
 cases rx
 obtain⟨its,r,ht,hz⟩:=I.tuple hx
 have hlen:its.toArray.size=xs.length:=by rw[List.size_toArray]; exact r.length.symm
 refine⟨"tuple", _,PyProof.Rows.slot_tuple_getitem.lookup,ht.typeIs,?_⟩
 refine HT.getItem_tuple_cut ht hs pl pu (by rw[hlen]; exact hw) ?_ (by rw[hlen]; exact hz)
 rw[hlen]
 refine⟨.ref s.heap.objs.size,_,I.laid (t':=s.toks) (o:=.tup (cW xs lo hi)) (fun b ob q=>Heap.get?_push_of_some _ q) (Nat.le_refl _) ?_,rfl,q _ (I.hok.fresh (Nat.le_refl _))⟩
 exact⟨Nat.le_trans (iw xs lo hi) hz,_,(r.drop (HT.sIx xs.length 0 lo)).take (HT.sIx xs.length xs.length hi - HT.sIx xs.length 0 lo),IsTupN.new _ _⟩
def rp(K:PySem.W.Frag):R2:=fun x y H Q=>∃ a b xs ys,x = .ref a∧y = .ref b∧SqT K H a xs∧SqT K H b ys∧xs≠[]∧xs.length+ys.length≤sizeLine∧
 (ys=[]→Q (.ref a) H)∧(ys≠[]→∀ p,H p=none→Q (.ref p) (upd H p (.tup (xs++ys))))
theorem Vals.nil_iff{xs:List V}{us:List Value}(r:Vals xs us):us=[] ↔ xs=[]:=by
 cases r with
 | nil=>simp
 | cons _ _=>simp
theorem xo:OpR X (binaryOp .Add) (rp X.K):=by
 intro pins s σ H x y v u Q I rx ry h
 obtain⟨a,b,xs,ys,rfl,rfl,ha,hb,hx,hz,q1,q2⟩:=h
 cases rx
 cases ry
 obtain⟨its,r1,p1,_⟩:=I.tuple ha
 obtain⟨its2,r2,p2,_⟩:=I.tuple hb
 refine HT.cat_tup p1 p2 (fun z=>hx (r1.nil_iff.mp z)) (fun z=>⟨.ref a,H,I,rfl,q1 (r2.nil_iff.mp z)⟩) (fun z=>?_) (by rw[← r1.length,← r2.length]; exact hz)
 refine⟨.ref s.heap.objs.size,_,I.laid (t':=s.toks) (o:=.tup (xs++ys)) (fun b ob q=>Heap.get?_push_of_some _ q) (Nat.le_refl _) ?_,rfl,q2 (fun w=>z (r2.nil_iff.mpr w)) _ (I.hok.fresh (Nat.le_refl _))⟩
 exact⟨by rw[List.length_append]; exact hz,_,r1.append r2,IsTupN.new _ _⟩
end
end L2
namespace L2
open PySem PySem.Spec PyProof.Rows
def gv(n:Nat)(i:Int):Option Nat:=if 0≤i then (if i<n then some i.toNat else none) else if -(n:Int)≤i then some (i+n).toNat else none
def cu{α : Type}(xs:List α)(i:Int):Option α:=(gv xs.length i).bind fun j=>xs[j]?
theorem oT{n:Nat}{i:Int}{j:Nat}(h:gv n i=some j):seqIndex? i n=some j∧j<n∧-(n:Int)≤i∧i<n:=by
 unfold gv at h
 by_cases h0:0≤i
 ·rw[if_pos h0]at h
  by_cases h1:i<n
  ·rw[if_pos h1]at h
   have e:i.toNat=j:=Option.some.inj h
   exact⟨by rw[seqIndex_of h0 h1,e],by omega,by omega,h1⟩
  ·rw[if_neg h1]at h; cases h
 ·rw[if_neg h0]at h
  by_cases h1:-(n:Int)≤i
  ·rw[if_pos h1]at h
   have e:(i+n).toNat=j:=Option.some.inj h
   exact⟨by rw[seqIndex_neg (by omega) h1,e],by omega,h1,by omega⟩
  ·rw[if_neg h1]at h; cases h
theorem jN{α : Type}{xs:List α}{i:Int}{v:α}(h:cu xs i=some v):∃ j,seqIndex? i xs.length=some j∧xs[j]? = some v∧j<xs.length∧-(xs.length:Int)≤i∧i<xs.length:=by
 unfold cu at h
 cases e:gv xs.length i with
 | none=>rw[e]at h; cases h
 | some j=>
  rw[e]at h
  obtain⟨h1,h2,h3,h4⟩:=oT e
  exact⟨j,h1,h,h2,h3,h4⟩
theorem aX{α : Type}{xs:List α}{j:Nat}{v:α}(h:xs[j]? = some v):cu xs (j:Int)=some v:=by
 have hj:j<xs.length:=(List.getElem?_eq_some_iff.mp h).1
 have e:gv xs.length (j:Int)=some j:=by
  unfold gv
  rw[if_pos (by omega),if_pos (by omega)]; simp
 unfold cu; rw[e]; exact h
def xJ(b:Expr):Prop:=∀ o i,subscripted b false o i=operate [o,i] (getItem o i)
def IxR(X:Cx)(r:R2):Prop:=
 ∀ (value slice:Expr) (pins:List (Addr × Obj)) (s:Shared) (σ : St) (H:Hp) (x y:V) (v u:Value) (Q:VK),Inv X pins σ H s→RelV x v→RelV y u→r x y H Q→
  subscripted slice false v u=operate [v,u] (getItem v u)→wpAny (model X.prog X.w) X.A (subscriptTail value slice v u) (EP X pins σ Q) X.xe s
def MtR(X:Cx)(id:String)(r:V→List V→Hp→VK→Prop):Prop:=
 ∀ (pins:List (Addr × Obj)) (s:Shared) (σ : St) (H:Hp) (x:V) (xs:List V) (v:Value) (us:List Value) (Q:VK),Inv X pins σ H s→RelV x v→Vals xs us→r x xs H Q→
  wpAny (model X.prog X.w) X.A (call (.builtin id) (v::us)) (EP X pins σ Q) X.xe s
section
variable{X:Cx}{a b:Expr}{ta tb:TE}{pos:Pos}
theorem IxR.or{r r':R2}(h:IxR X r)(h':IxR X r'):IxR X (fun x y H Q=>r x y H Q∨r' x y H Q):=by
 intro value slice pins s σ H x y v u Q I rx ry q hs
 rcases q with q | q
 ·exact h value slice pins s σ H x y v u Q I rx ry q hs
 ·exact h' value slice pins s σ H x y v u Q I rx ry q hs
theorem av{r:R2}(hr:IxR X r)(ha:PE X a ta)(hb:PE X b tb)(hs:xJ b):PE X (.Subscript a b pos) (uK r ta tb):=by
 intro pins s σ H Q I h
 exact Subscript_ (u6 ha hb I h fun v u s2 x y H2 I2 rx ry q=>hr a b pins s2 σ H2 x y v u Q I2 rx ry q (hs _ _))
def yI(K:PySem.W.Frag):R2:=fun x y H Q=>∃ p xs i v,x = .ref p∧y = .int i∧SqL K H p xs∧cu xs i=some v∧Q v H
def yQ(K:PySem.W.Frag):R2:=fun x y H Q=>∃ p xs i v,x = .ref p∧y = .int i∧SqT K H p xs∧cu xs i=some v∧Q v H
def zY:R2:=fun x y H Q=>∃ z i c,x = .str z∧y = .int i∧z.length≤sizeLine∧cu z.cps.toList i=some c∧Q (.str ⟨#[c]⟩) H
theorem ix_list:IxR X (yI X.K):=by
 intro value slice pins s σ H x y v u Q I rx ry h hs
 obtain⟨p,xs,i,z,rfl,rfl,hq,he,q⟩:=h
 cases rx
 obtain⟨t,rfl⟩:=ry
 obtain⟨its,r,pl,hz⟩:=I.list hq
 obtain⟨j,h1,h2,h3,h4,h5⟩:=jN he
 obtain⟨w,ew,rw'⟩:=r.get h2
 have hl:=r.length
 have hn:=fK
 have fin:EP X pins σ Q w s:=⟨z,H,I,rw',q⟩
 by_cases h0:0≤i
 ·have hj:i.toNat=j:=by
   rw[seqIndex_of h0 h5]at h1
   exact Option.some.inj h1
  exact item_listR pl.isList h0 (by omega) (by rw[hj]; simpa using ew) fin hs
 ·have hj:(i+(its.toArray.size:Int)).toNat=j:=by
   rw[seqIndex_neg (by omega) h4]at h1
   rw[List.size_toArray,← hl]
   exact Option.some.inj h1
  exact subscriptTail_builtinR (x:=w) pl.isList.typeIs slot_list_getitem.lookup
   (wpAny_getItem_list_neg (Q:=fun r s'=>r=w∧EP X pins σ Q r s') pl.isList (by omega) (by rw[List.size_toArray] <;> omega) (by omega) (by rw[hj]; simpa using ew) ⟨rfl,fin⟩) hs
theorem ix_tup:IxR X (yQ X.K):=by
 intro value slice pins s σ H x y v u Q I rx ry h hs
 obtain⟨p,xs,i,z,rfl,rfl,hq,he,q⟩:=h
 cases rx
 obtain⟨t,rfl⟩:=ry
 obtain⟨its,r,pl,hz⟩:=I.tuple hq
 obtain⟨j,h1,h2,h3,h4,h5⟩:=jN he
 obtain⟨w,ew,rw'⟩:=r.get h2
 have hl:=r.length
 have hn:=fK
 have fin:EP X pins σ Q w s:=⟨z,H,I,rw',q⟩
 exact subscriptTail_builtinR (x:=w) pl.typeIs slot_tuple_getitem.lookup
  (getItem_tuple (j:=j) (Q:=fun r s'=>r=w∧EP X pins σ Q r s') pl (by omega) (by omega) (by rw[List.size_toArray,← hl]; exact h1) (by simpa using ew) ⟨rfl,fin⟩) hs
theorem yw:IxR X zY:=by
 intro value slice pins s σ H x y v u Q I rx ry h hs
 obtain⟨z,i,c,rfl,rfl,hz,he,q⟩:=h
 obtain⟨t,rfl⟩:=rx
 obtain⟨t',rfl⟩:=ry
 obtain⟨j,h1,h2,h3,h4,h5⟩:=jN he
 have hl:z.cps.toList.length=z.length:=by simp[Str.length]
 rw[hl]at h1 h4 h5
 have hn:=fK
 exact tail_any (typeIs_str s z t) slot_str_getitem.lookup (getItem_str (c:=c) (by
  have e1:decide (i < -(2 ^ 63:Int))=false:=decide_eq_false (by omega)
  have e2:decide (i≥2 ^ 63)=false:=decide_eq_false (by omega)
  rw[e1,e2,Bool.or_false]) (by rw[h1]; simpa using h2) ⟨.str ⟨#[c]⟩,H,I.tok _,⟨_,rfl⟩,q⟩) hs
def Dv(K:PySem.W.Frag):R2:=fun x y H Q=>yI K x y H Q∨yQ K x y H Q∨zY x y H Q
theorem Ad:IxR X (Dv X.K):=ix_list.or (ix_tup.or yw)
theorem se(its:List Value)(n j:Nat)(u:Value):Obj.mapSeq (·.setIfInBounds j u) { cls:=.type "list", data:=.seq its.toArray n }={ cls:=.type "list", data:=.seq (its.set j u).toArray n }:=by
 simp[Obj.mapSeq]
theorem Inv.lst{pins:List (Addr × Obj)}{σ : St}{H:Hp}{s:Shared}{p:Addr}{xs:List V}(I:Inv X pins σ H s)(h:H p=some (.lst xs)) :
  ∃ (its:List Value) (n:Nat),Vals xs its∧s.heap.get? p=some { cls:=.type "list", data:=.seq its.toArray n }∧xs.length≤sizeLine:=by
 obtain⟨z,its,n,r,e⟩:=I.hok p _ h
 exact⟨its,n,r,e,z⟩
theorem Inv.lstUpd{pins:List (Addr × Obj)}{σ : St}{H:Hp}{s:Shared}{p:Addr}{xs ys:List V}{its its':List Value}{n n':Nat}{f:Obj→Obj}(I:Inv X pins σ H s)(h:H p=some (.lst xs))
  (ho:s.heap.get? p=some { cls:=.type "list", data:=.seq its.toArray n }) (hf:f { cls:=.type "list", data:=.seq its.toArray n }={ cls:=.type "list", data:=.seq its'.toArray n' }) (r:Vals ys its') (hz:ys.length≤sizeLine) (t:Nat) :
  Inv X pins σ (upd H p (.lst ys)) { s with heap:=s.heap.update p f,toks:=t }:=by
 have e:(s.heap.update p f).get? p=some { cls:=.type "list", data:=.seq its'.toArray n' }:=by
  rw[Heap.get?_update_self f ho (by rw[hf] <;> rfl),hf]
 refine I.write (x:=p) (e:=p) (by rw[h]; trivial) (.inl rfl) (fun b u hb q=>(Heap.get?_update_other _ _ (Ne.symm hb)).trans q) ⟨_,e⟩ ?_
 exact⟨hz,its',n',r,e⟩
def qp:V→V→V→Hp→(Hp→Prop)→Prop:=fun o i v H Q=>∃ p xs k j,o = .ref p∧i = .int k∧H p=some (.lst xs)∧gv xs.length k=some j∧Q (upd H p (.lst (xs.set j v)))
theorem u9:PSet X qp:=by
 intro pins s σ H o i v ov iv u Q I ro ri rv h
 obtain⟨p,xs,k,j,rfl,rfl,hp,hj,q⟩:=h
 cases ro
 obtain⟨t,rfl⟩:=ri
 obtain⟨its,n,r,ho,hz⟩:=I.lst hp
 obtain⟨h1,h2,h3,h4⟩:=oT hj
 have hl:=r.length
 have hn:=fK
 have I':Inv X pins σ (upd H p (.lst (xs.set j v))) { s with heap:=s.heap.update p (Obj.mapSeq (·.setIfInBounds j u)) }:=
  I.lstUpd hp ho (se its n j u) (r.set rv j) (by rw[List.length_set]; exact hz) s.toks
 by_cases h0:0≤k
 ·have hk:k.toNat=j:=by
   rw[seqIndex_of h0 h4]at h1
   exact Option.some.inj h1
  exact PySem.W.ki_setAt ho h0 (by omega) (by rw[List.size_toArray,← hl]; exact h4) (by rw[hk]; exact⟨_,I',q⟩)
 ·have hk:(k+(its.toArray.size:Int)).toNat=j:=by
   rw[seqIndex_neg (by omega) h3]at h1
   rw[List.size_toArray,← hl]
   exact Option.some.inj h1
  exact PySem.W.ki_setBack ho (by omega) (by rw[List.size_toArray,← hl]; exact h3) (by omega) (by rw[hk]; exact⟨_,I',q⟩)
theorem lZ(lo hi:Option Int)(n:Nat):(sliceBounds lo hi none n).1=((HT.sIx n 0 lo:Nat):Int)∧(sliceBounds lo hi none n).2.1=((HT.sIx n n hi:Nat):Int)∧(sliceBounds lo hi none n).2.2=1:=by
 refine⟨?_,?_,rfl⟩
 ·cases lo with
  | none=>simp[sliceBounds,HT.sIx]
  | some i=>
   simp only[sliceBounds,HT.sIx,Option.getD_none,show (1:Int)>0 by decide,if_true]
   by_cases h:i<0
   ·simp only[h,if_true] <;> omega
   ·simp only[h,if_false] <;> omega
 ·cases hi with
  | none=>simp[sliceBounds,HT.sIx]
  | some i=>
   simp only[sliceBounds,HT.sIx,Option.getD_none,show (1:Int)>0 by decide,if_true]
   by_cases h:i<0
   ·simp only[h,if_true] <;> omega
   ·simp only[h,if_false] <;> omega
theorem lf(its:List Value)(lo hi:Option Int):slicePick its.toArray lo hi none=((its.drop (HT.sIx its.length 0 lo)).take (HT.sIx its.length its.length hi - HT.sIx its.length 0 lo)).toArray:=by
 obtain⟨h1,h2,h3⟩:=lZ lo hi its.toArray.size
 unfold slicePick
 rw[h1,h2,h3]
 simp only[sliceRange_one,pick_run,List.size_toArray] <;> rfl
def vF(K:PySem.W.Frag):V→Option Int→Option Int→Hp→VK→Prop:=fun x lo hi H Q=>∃ a xs,x = .ref a∧SqL K H a xs∧∀ p,H p=none→Q (.ref p) (upd H p (.lst (cW xs lo hi)))
theorem xE:SlR X (vF X.K):=by
 intro pins s σ H x v vl vu lo hi sl Q I rx hs pl pu h
 obtain⟨a,xs,rfl,hx,q⟩:=h
 cases rx
 obtain⟨its,r,ht,hz⟩:=I.list hx
 have hlen:=r.length
 refine⟨"list", _,slot_list_getitem.lookup,ht.isList.typeIs,?_⟩
 refine wpAny_getItem_list_slice ht.isList hs pl pu .none (by simp) ?_ (by rw[List.size_toArray] <;> omega)
 rw[lf,← hlen]
 refine⟨.ref s.heap.objs.size,_,I.laid (t':=s.toks) (o:=.lst (cW xs lo hi)) (fun b ob q=>Heap.get?_push_of_some _ q) (Nat.le_refl _) ?_,rfl,q _ (I.hok.fresh (Nat.le_refl _))⟩
 exact⟨Nat.le_trans (iw xs lo hi) hz,_,0,(r.drop (HT.sIx xs.length 0 lo)).take (HT.sIx xs.length xs.length hi - HT.sIx xs.length 0 lo),Heap.get?_push_size _ rfl⟩
def bG:V→Bool
 | .non=>true
 | .bl _=>true
 | .int _=>true
 | .str _=>true
 | _=>false
def dY:V→V→Bool
 | .non,.non=>true
 | .bl a,.bl b=>a == b
 | .bl a,.int b=>(if a then 1 else 0) == b
 | .int a,.bl b=>a == (if b then 1 else 0)
 | .int a,.int b=>a == b
 | .str a,.str b=>a == b
 | _,_=>false
theorem jw{A:Around}{s:Shared}{y x:V}{u v:Value}(ry:RelV y u)(rx:RelV x v)(fy:bG y=true)(fx:bG x=true):SeqAt.EqAt A s u v (dY y x):=by
 cases y with
 | non=>
  cases ry
  cases x with
  | non=>cases rx; exact SeqAt.EqAt.same _
  | bl b=>cases rx; exact SeqAt.EqAt.none_bool b
  | int b=>obtain⟨t,rfl⟩:=rx; exact SeqAt.EqAt.none_int b t
  | str b=>obtain⟨t,rfl⟩:=rx; exact SeqAt.EqAt.none_str b t
  | _=>exact absurd (show false=true from fx) Bool.false_ne_true
 | bl a=>
  cases ry
  cases x with
  | non=>cases rx; exact SeqAt.EqAt.bool_none a
  | bl b=>cases rx; exact SeqAt.EqAt.bool_bool a b
  | int b=>obtain⟨t,rfl⟩:=rx; exact SeqAt.EqAt.bool_int a b t
  | str b=>obtain⟨t,rfl⟩:=rx; exact SeqAt.EqAt.bool_str a b t
  | _=>exact absurd (show false=true from fx) Bool.false_ne_true
 | int a=>
  obtain⟨t',rfl⟩:=ry
  cases x with
  | non=>cases rx; exact SeqAt.EqAt.int_none a t'
  | bl b=>cases rx; exact SeqAt.EqAt.int_bool a t' b
  | int b=>obtain⟨t,rfl⟩:=rx; exact SeqAt.EqAt.int_int a t' b t
  | str b=>obtain⟨t,rfl⟩:=rx; exact SeqAt.EqAt.int_str a t' b t
  | _=>exact absurd (show false=true from fx) Bool.false_ne_true
 | str a=>
  obtain⟨t',rfl⟩:=ry
  cases x with
  | non=>cases rx; exact SeqAt.EqAt.str_none a t'
  | bl b=>cases rx; exact SeqAt.EqAt.str_bool a t' b
  | int b=>obtain⟨t,rfl⟩:=rx; exact SeqAt.EqAt.str_int a t' b t
  | str b=>obtain⟨t,rfl⟩:=rx; exact SeqAt.EqAt.str_str a t' b t
  | _=>exact absurd (show false=true from fx) Bool.false_ne_true
 | _=>exact absurd (show false=true from fy) Bool.false_ne_true
def eZ(x:V)(u:Value):Bool:=match u with
 | .none=>dY .non x
 | .bool b=>dY (.bl b) x
 | .int i _=>dY (.int i) x
 | .str z _=>dY (.str z) x
 | _=>false
theorem tz{x y:V}{u:Value}(r:RelV y u)(f:bG y=true):eZ x u=dY y x:=by
 cases y with
 | non=>cases r; rfl
 | bl b=>cases r; rfl
 | int i=>obtain⟨t,rfl⟩:=r; rfl
 | str z=>obtain⟨t,rfl⟩:=r; rfl
 | _=>exact absurd (show false=true from f) Bool.false_ne_true
theorem fP{x:V}:∀ {xs:List V} {us:List Value},Vals xs us→xs.all bG=true→us.any (eZ x)=xs.any fun y=>dY y x
 | _,_,.nil,_=>rfl
 | y::xs,u::us,.cons r t,f=>by
  rw[List.all_cons,Bool.and_eq_true]at f
  rw[List.any_cons,List.any_cons,tz r f.1,fP t f.2]
theorem fm{A:Around}{s:Shared}{x:V}{v:Value}(rx:RelV x v)(fx:bG x=true):∀ {xs:List V} {us:List Value},Vals xs us→xs.all bG=true→∀ u∈us,SeqAt.EqAt A s u v (eZ x u)
 | _,_,.nil,_=>fun u hu=>by cases hu
 | y::xs,u::us,.cons r t,f=>fun u' hu=>by
  rw[List.all_cons,Bool.and_eq_true]at f
  rcases List.mem_cons.mp hu with rfl | hu
  ·rw[tz r f.1]; exact jw r rx f.1 fx
  ·exact fm rx fx t f.2 u' hu
def ii(x:V)(xs:List V):Bool:=xs.any fun y=>dY y x
def AQ(K:PySem.W.Frag)(neg:Bool):R2:=fun x y H Q=>∃ p xs,y = .ref p∧(SqL K H p xs∨SqT K H p xs)∧bG x=true∧xs.all bG=true∧Q (.bl (if neg then !ii x xs else ii x xs)) H
theorem tU:OpR X (compareOp .In) (AQ X.K false):=by
 intro pins s σ H x y v u Q I rx ry h
 obtain⟨p,xs,rfl,hq,fx,fs,q⟩:=h
 cases ry
 rcases hq with hq | hq
 ·obtain⟨its,r,pl,hz⟩:=I.list hq
  refine SeqAt.in_listAt (eZ x) pl.isList (fun w hw=>fm rx fx r fs w (by simpa using hw)) ⟨.bl _,H,I,rfl,?_⟩
  rw[show its.toArray.any (eZ x)=its.any (eZ x) by simp,fP r fs]
  exact q
 ·obtain⟨its,r,pl,hz⟩:=I.tuple hq
  refine SeqAt.in_tupleAt (eZ x) pl (fun w hw=>fm rx fx r fs w (by simpa using hw)) ⟨.bl _,H,I,rfl,?_⟩
  rw[show its.toArray.any (eZ x)=its.any (eZ x) by simp,fP r fs]
  exact q
theorem mZ:OpR X (compareOp .NotIn) (AQ X.K true):=by
 intro pins s σ H x y v u Q I rx ry h
 obtain⟨p,xs,rfl,hq,fx,fs,q⟩:=h
 cases ry
 rcases hq with hq | hq
 ·obtain⟨its,r,pl,hz⟩:=I.list hq
  refine SeqAt.notIn_listAt (eZ x) pl.isList (fun w hw=>fm rx fx r fs w (by simpa using hw)) ⟨.bl _,H,I,rfl,?_⟩
  rw[show its.toArray.any (eZ x)=its.any (eZ x) by simp,fP r fs]
  exact q
 ·obtain⟨its,r,pl,hz⟩:=I.tuple hq
  refine SeqAt.notIn_tupleAt (eZ x) pl (fun w hw=>fm rx fx r fs w (by simpa using hw)) ⟨.bl _,H,I,rfl,?_⟩
  rw[show its.toArray.any (eZ x)=its.any (eZ x) by simp,fP r fs]
  exact q
theorem nQ:CallR X (.builtin "len") (fun xs H Q=>∃ p ys,xs=[.ref p]∧(SqL X.K H p ys∨SqT X.K H p ys)∧Q (.int ys.length) H):=by
 intro pins s σ H xs us Q I r h
 obtain⟨p,ys,rfl,hq,q⟩:=h
 obtain⟨u,rfl,rx⟩:=cU r
 cases rx
 have hn:=fK
 rcases hq with hq | hq
 ·obtain⟨its,r',pl,hz⟩:=I.list hq
  have hlen:=r'.length
  exact Calls.call_len_list pl.isList (by simp only[List.size_toArray] <;> omega) ⟨.int ys.length,H,I.tok _,⟨s.toks+1,by rw[List.size_toArray,hlen]⟩,q⟩
 ·obtain⟨its,r',pl,hz⟩:=I.tuple hq
  have hlen:=r'.length
  exact len_tuple pl (by simp only[List.size_toArray] <;> omega) ⟨.int ys.length,H,I.tok _,⟨s.toks+1,by rw[List.size_toArray,hlen]⟩,q⟩
theorem mR:CallR X (.builtin "len") (fun xs H Q=>∃ z,xs=[.str z]∧z.length≤sizeLine∧Q (.int z.length) H):=by
 intro pins s σ H xs us Q I r h
 obtain⟨z,rfl,hz,q⟩:=h
 obtain⟨u,rfl,t,rfl⟩:=cU r
 have hn:=fK
 exact len_str (by omega) ⟨.int z.length,H,I.tok _,⟨_,rfl⟩,q⟩
theorem nH:CallR X (.type "list") (fun xs H Q=>∃ p ys,xs=[.ref p]∧(SqL X.K H p ys∨SqT X.K H p ys)∧∀ l,H l=none→Q (.ref l) (upd H l (.lst ys))):=by
 intro pins s σ H xs us Q I r h
 obtain⟨p,ys,rfl,hq,q⟩:=h
 obtain⟨u,rfl,rx⟩:=cU r
 cases rx
 have fin:∀ (its:List Value),Vals ys its→ys.length≤sizeLine→∀ (h':Heap) (c':Nat),(∀ b o',s.heap.get? b=some o'→h'.get? b=some o')→
   h'.get? s.heap.objs.size=some { cls:=.type "list", dict:=none,data:=.seq its.toArray c',slots:=#[] }→EP X pins σ Q (.ref s.heap.objs.size) { s with heap:=h' }:=fun its r' hz h' c' kp e=>
  ⟨.ref s.heap.objs.size,_,I.laid (t':=s.toks) kp (Nat.le_refl _) (show ObjOk X.prog X.w _ h' _ (.lst ys) from ⟨hz,its,c',r',e⟩),rfl,q _ (I.hok.fresh (Nat.le_refl _))⟩
 rcases hq with hq | hq
 ·obtain⟨its,r',pl,hz⟩:=I.list hq
  have hlen:=r'.length
  obtain⟨o,ho,hc,n,hd⟩:=pl.isList
  exact call_list_seq p (.inl rfl) ho hc hd (fun h' c' kp e=>fin its r' hz h' c' kp e) (by simp only[List.size_toArray] <;> omega)
 ·obtain⟨its,r',pl,hz⟩:=I.tuple hq
  have hlen:=r'.length
  obtain⟨o,ho,hc,n,hd⟩:=pl
  exact call_list_seq p (.inr rfl) ho hc hd (fun h' c' kp e=>fin its r' hz h' c' kp e) (by simp only[List.size_toArray] <;> omega)
theorem lg:CallR X (.type "tuple") (fun xs H Q=>∃ p ys,xs=[.ref p]∧((SqL X.K H p ys∧∀ l,H l=none→Q (.ref l) (upd H l (.tup ys)))∨(SqT X.K H p ys∧Q (.ref p) H))):=by
 intro pins s σ H xs us Q I r h
 obtain⟨p,ys,rfl,h⟩:=h
 obtain⟨u,rfl,rx⟩:=cU r
 cases rx
 rcases h with ⟨hq,q⟩ | ⟨hq,q⟩
 ·obtain⟨its,r',pl,hz⟩:=I.list hq
  have hlen:=r'.length
  refine call_tuple_list pl.isList (fun h' kp=>?_) (by simp only[List.size_toArray] <;> omega)
  have I1:Inv X pins σ H { s with heap:=h' }:=I.kept (t':=s.toks) kp
  have I2:Inv X pins σ (upd H h'.objs.size (.tup ys)) { s with heap:=h'.push { cls:=.type "tuple", data:=.seq its.toArray } }:=
   I1.laid (t':=s.toks) (fun b o e=>Heap.get?_push_of_some _ e) (Nat.le_refl _) (show ObjOk X.prog X.w _ _ _ (.tup ys) from ⟨hz,its,r',IsTupN.new _ _⟩)
  exact⟨.ref h'.objs.size,_,I2,rfl,q _ (I1.hok.fresh (Nat.le_refl _))⟩
 ·obtain⟨its,r',pl,hz⟩:=I.tuple hq
  exact call_tuple_same pl ⟨.ref p,H,I,rfl,q⟩
def nZ(K:PySem.W.Frag)(T:String)(x:V)(H:Hp):Prop:=match x with
 | .str _=>T = "str"
 | .int _=>T = "int"
 | .ref p=>(T = "list" ∧ ∃ xs,SqL K H p xs)∨(T = "tuple" ∧ ∃ o,K.lookup p=some o∧o.cls = .type "tuple" ∧ o.dict=none)∨
   (T = "dict" ∧ ((∃ kvs,H p=some (.dK kvs))∨∃ kvs,H p=some (.dT kvs)))∨(T = "set" ∧ ∃ S n,H p=some (.set S n))
 | _=>False
theorem um{pins:List (Addr × Obj)}{σ : St}{H:Hp}{s:Shared}{T:String}{x:V}{v:Value}(I:Inv X pins σ H s)(r:RelV x v)(ty:nZ X.K T x H) :
  s.TypeIs v T∧∀ a,v = .ref a→∃ ob,s.heap.get? a=some ob∧ob.dict=none:=by
 cases x with
 | str z=>
  obtain⟨t,rfl⟩:=r
  cases (show T = "str" from ty)
  exact⟨typeIs_str s z t,fun _ e=>nomatch e⟩
 | int i=>
  obtain⟨t,rfl⟩:=r
  cases (show T = "int" from ty)
  exact⟨typeIs_int s i t,fun _ e=>nomatch e⟩
 | ref p=>
  cases r
  rcases ty with ⟨rfl,xs,hq⟩ | ⟨rfl,o,hk,hc,hd⟩ | ⟨rfl,hk⟩ | ⟨rfl,S,n,hk⟩
  ·obtain⟨its,_,pl,_⟩:=I.list hq
   refine⟨pl.isList.typeIs,fun a e=>?_⟩
   cases e
   obtain⟨o,n,e,c,hd,_⟩:=pl
   exact⟨o,e,hd⟩
  ·refine⟨⟨o,I.kIn p o hk,hc⟩,fun a e=>?_⟩
   cases e
   exact⟨o,I.kIn _ o hk,hd⟩
  ·have z:∃ o,s.heap.get? p=some o∧o.ExactDict:=by
    rcases hk with ⟨kvs,hk⟩ | ⟨kvs,hk⟩
    ·obtain⟨_,_,_,_,o,_,_,e,ex,_⟩:=I.hok p _ hk
     exact⟨o,e,ex⟩
    ·obtain⟨_,_,_,_,o,_,_,e,ex,_⟩:=I.hok p _ hk
     exact⟨o,e,ex⟩
   obtain⟨o,e,ex⟩:=z
   refine⟨⟨o,e,ex.1⟩,fun a e2=>?_⟩
   cases e2
   exact⟨o,e,ex.2.1⟩
  ·obtain⟨o,_,_,_,e,ex,_⟩:=I.hok p _ hk
   refine⟨⟨o,e,ex.1⟩,fun a e2=>?_⟩
   cases e2
   exact⟨o,e,ex.2.1⟩
 | _=>exact False.elim ty
def vN(K:PySem.W.Frag)(T:String)(r:V→List V→Hp→VK→Prop)(to:TE):TE:=fun σ H Q=>to σ H fun x H1=>nZ K T x H1∧r x [] H1 Q
def yY(K:PySem.W.Frag)(T:String)(r:V→List V→Hp→VK→Prop)(to:TE)(t:TA):TE:=fun σ H Q=>to σ H fun x H1=>nZ K T x H1∧t σ H1 fun xs H2=>r x xs H2 Q
variable{o e:Expr}{es:List Expr}{to:TE}{t:TA}{name:Str}{apos cpos:Pos}{T id:String}{r:V→List V→Hp→VK→Prop}
theorem zL(pa:PlainAttrs T)(slot:Slot T name id)(hty:typeOf (.builtin id)=pure (.type "method_descriptor")) (hm:MtR X id r) (ho:PE X o to)
  (hbase:attributeBase o name X.env (eval o X.env)=eval o X.env:=by rfl) (hline:(apos.endLine == cpos.line)=true:=by rfl):PE X (.Call (.Attribute o name apos) [] [] cpos) (vN X.K T r to):=by
 intro pins s σ H Q I h
 refine wpAny_Call_method0_late hbase hline (aT (ho pins s σ H _ I h) fun v s1 ⟨x,H1,I1,r1,ty,q1⟩=>?_)
 obtain⟨h1,h2⟩:=um I1 r1 ty
 exact⟨T,id,pa,slot,hty,h1,h2,Calls.callWith_builtin rfl (PySem.evalArgs_none (hm pins s1 σ H1 x [] v [] Q I1 r1 .nil q1))⟩
theorem AG(pa:PlainAttrs T)(slot:Slot T name id)(hty:typeOf (.builtin id)=pure (.type "method_descriptor")) (hm:MtR X id r) (ho:PE X o to) (ha:PA X (e::es) t)
  (hbase:attributeBase o name X.env (eval o X.env)=eval o X.env:=by rfl)
  (hfew:((backTo cpos (starEach (e::es) X.env)).all (fun x=>!x.1)&&(backToKw cpos (keywordEach [] X.env)).all (fun x=>x.1.isSome)
   && decide ((e::es).length+([]:List Keyword).length+(if ([]:List Keyword).isEmpty then 0 else 1)<30))=true:=by rfl)
  (hline:(apos.endLine == cpos.line)=true:=by rfl) (hs:starEach (e::es) X.env=(false,eval e X.env)::starEach es X.env:=by rfl) (hplain:(backTo cpos (starEach es X.env)).any (·.1)=false:=by rfl) :
  PE X (.Call (.Attribute o name apos) (e::es) [] cpos) (yY X.K T r to t):=by
 intro pins s σ H Q I h
 refine wpAny_Call_method_late hbase hfew hline rfl (aT (ho pins s σ H _ I h) fun v s1 ⟨x,H1,I1,r1,ty,q1⟩=>?_)
 obtain⟨h1,h2⟩:=um I1 r1 ty
 refine⟨T,id,pa,slot,hty,h1,h2,?_⟩
 have hA:=ha cpos pins s1 σ H1 _ I1 q1
 rw[hs]at hA ⊢
 refine Calls.callWith_builtin (by show (false||(backTo cpos (starEach es X.env)).any (·.1))=false; rw[hplain] <;> rfl) (Calls.evalArgs_plain ?_)
 exact aT hA fun us s2 ⟨vs,H2,I2,r2,q2⟩=>hm pins s2 σ H2 x vs v us Q I2 r1 r2 q2
/- xs.append(e), list.index on a module's tuple .. are MtR facts of 06m -/
end
end L2
namespace L2
open PySem PySem.Spec PyProof.Rows
def wX(X:Cx)(id:String)(r:V→List V→Hp→VK→Prop):Prop:=
 ∀ (pins:List (Addr × Obj)) (s:Shared) (σ : St) (H:Hp) (x:V) (xs:List V) (v:Value) (us:List Value) (Q:VK),Inv X pins σ H s→RelV x v→Vals xs us→r x xs H Q→
  wpAny (model X.prog X.w) X.A (call (.builtin id) (v::us)) (EP X pins σ Q) X.xe s
theorem Vals.one:∀ {x:V} {us:List Value},Vals [x] us→∃ u,us=[u]∧RelV x u
 | _,_,.cons r .nil=>⟨_,rfl,r⟩
theorem Vals.zero:∀ {us:List Value},Vals [] us→us=[]
 | _,.nil=>rfl
theorem Vals.dropLast{xs:List V}{us:List Value}(h:Vals xs us):Vals xs.dropLast us.dropLast:=by
 induction h with
 | nil=>exact .nil
 | cons r t ih=>
  cases t with
  | nil=>exact .nil
  | cons q t'=>exact .cons r ih
theorem rz{α : Type}(l:List α):l.eraseIdx (l.length - 1)=l.dropLast:=by
 induction l with
 | nil=>rfl
 | cons a r ih=>
  cases r with
  | nil=>rfl
  | cons b r=>
   have e:(a::b::r).length - 1=((b::r).length - 1)+1:=by
    have h1:(a::b::r).length=r.length+2:=rfl
    have h2:(b::r).length=r.length+1:=rfl
    omega
   rw[e,List.eraseIdx_cons_succ,ih]
   all_goals rfl
section
variable{X:Cx}{pins:List (Addr × Obj)}{σ : St}{H:Hp}{s:Shared}{l b:Addr}{xs ys zs:List V}
theorem Inv.lset{its its':List Value}{n:Nat}{f:Array Value→Array Value}{t':Nat}(I:Inv X pins σ H s)(hH:H l=some (.lst xs))
  (e:s.heap.get? l=some { cls:=.type "list", data:=.seq its.toArray n }) (hf:f its.toArray=its'.toArray) (hv:Vals ys its') (hz:ys.length≤sizeLine) :
  Inv X pins σ (upd H l (.lst ys)) { s with heap:=s.heap.update l (Obj.mapSeq f),toks:=t' }:=by
 have q:=PySem.IsL.update e f
 rw[hf]at q
 refine I.write (x:=l) (e:=l) (by rw[hH]; exact trivial) (.inl rfl) (fun b' u hb hu=>(Heap.get?_update_other s.heap (Obj.mapSeq f) (Ne.symm hb)).trans hu) ⟨_,q⟩ ?_
 exact⟨hz,its',_,hv,q⟩
theorem Inv.lnew{its:List Value}{t':Nat}(I:Inv X pins σ H s)(hv:Vals ys its)(hz:ys.length≤sizeLine) :
  Inv X pins σ (upd H s.heap.objs.size (.lst ys)) { s with heap:=s.heap.push { cls:=.type "list", data:=.seq its.toArray },toks:=t' }:=
 I.laid (fun _ _ q=>Heap.get?_push_of_some _ q) (Nat.le_refl _) ⟨hz,its,0,hv,Heap.get?_push_size _ rfl⟩
theorem Inv.fresh(I:Inv X pins σ H s):H s.heap.objs.size=none:=I.hok.fresh (Nat.le_refl _)
theorem Inv.lstM(I:Inv X pins σ H s)(hH:H l=some (.lst xs)):xs.length≤sizeLine∧∃ (its:List Value) (n:Nat),Vals xs its∧xs.length=its.length∧s.heap.get? l=some { cls:=.type "list", data:=.seq its.toArray n }:=by
 obtain⟨z,its,n,r,e⟩:=I.hok l _ hH
 exact⟨z,its,n,r,r.length,e⟩
theorem vZ{n:Nat}(h:n≤sizeLine):Builtin.List.listTooLong n=false:=by
 unfold Builtin.List.listTooLong
 exact decide_eq_false (by omega)
end
section
variable{X:Cx}
def jY:V→List V→Hp→VK→Prop:=fun x vs H Q=>∃ l xs y,x = .ref l∧vs=[y]∧H l=some (.lst xs)∧xs.length<sizeLine∧Q .non (upd H l (.lst (xs++[y])))
theorem kR:wX X "list.append" jY:=by
 intro pins s σ H x vs v us Q I rx rv h
 obtain⟨l,xs,y,rfl,rfl,hH,hz,q⟩:=h
 cases rx
 obtain⟨u,rfl,ru⟩:=rv.one
 obtain⟨z,its,n,r,hl,e⟩:=I.lstM hH
 refine call_meets F.slot_list_append ⟨_,e,rfl⟩ F.entry_list_append (F.args_list_append_2 _ _) (PySem.list_append l its.toArray n u (by rw[List.size_toArray]; omega)) ⟨e,?_⟩
 refine⟨.non,_,I.lset (its':=its++[u]) hH e (by simp) (r.append (.cons ru .nil)) ?_,rfl,q⟩
 rw[List.length_append,List.length_singleton]
 omega
def jO:V→List V→Hp→VK→Prop:=fun x vs H Q=>∃ l b xs zs,x = .ref l∧vs=[.ref b]∧H l=some (.lst xs)∧H b=some (.lst zs)∧xs.length+zs.length≤sizeLine∧Q .non (upd H l (.lst (xs++zs)))
theorem tQ:wX X "list.extend" jO:=by
 intro pins s σ H x vs v us Q I rx rv h
 obtain⟨l,b,xs,zs,rfl,rfl,hH,hB,hz,q⟩:=h
 cases rx
 obtain⟨u,rfl,ru⟩:=rv.one
 cases ru
 obtain⟨z,its,n,r,hl,e⟩:=I.lstM hH
 obtain⟨z2,its2,n2,r2,hl2,e2⟩:=I.lstM hB
 have hsz:its.toArray.size+its2.toArray.size≤sizeLine:=by rw[List.size_toArray,List.size_toArray]; omega
 have hlong:¬ (!its.toArray.isEmpty&&Builtin.List.listTooLong (its.toArray.size+its2.toArray.size))=true:=by
  rw[vZ hsz,Bool.and_false]
  exact Bool.false_ne_true
 refine call_meets F.slot_list_extend ⟨_,e,rfl⟩ F.entry_list_extend (F.args_list_extend_2 _ _)
  (AutoSeq1.list_extend_list_list_0 l its.toArray n b its2.toArray n2 hlong (by rw[List.size_toArray]; omega) (by omega)) ⟨e,e2,?_⟩
 refine⟨.non,_,I.lset (its':=its++its2) hH e (by simp) (r.append r2) ?_,rfl,q⟩
 rw[List.length_append]
 omega
def vo:V→List V→Hp→VK→Prop:=fun x vs H Q=>∃ l xs y,x = .ref l∧vs=[]∧H l=some (.lst xs)∧xs[xs.length - 1]? = some y∧Q y (upd H l (.lst xs.dropLast))
theorem zE:wX X "list.pop" vo:=by
 intro pins s σ H x vs v us Q I rx rv h
 obtain⟨l,xs,y,rfl,rfl,hH,hy,q⟩:=h
 cases rx
 have hus:=rv.zero
 subst hus
 obtain⟨z,its,n,r,hl,e⟩:=I.lstM hH
 obtain⟨u,hu,ru⟩:=r.get hy
 have hy':its.toArray[its.toArray.size - 1]? = some u:=by
  show its.toArray[its.length - 1]? = some u
  rw[← Array.getElem?_toList,← hl]
  exact hu
 refine call_meets F.slot_list_pop ⟨_,e,rfl⟩ F.entry_list_pop (F.args_list_pop_1 _) (MeetsSeq.list_pop_last l its.toArray n u hy' (by rw[List.size_toArray]; omega)) ⟨e,?_⟩
 refine⟨y,_,I.lset (its':=its.dropLast) hH e ?_ r.dropLast ?_,ru,q⟩
 ·show its.toArray.eraseIdxIfInBounds (its.toArray.size - 1)=its.dropLast.toArray
  rw[List.size_toArray,List.eraseIdxIfInBounds_toArray,rz]
 ·rw[List.length_dropLast]
  omega
def tO:V→List V→Hp→VK→Prop:=fun x vs H Q=>∃ l xs,x = .ref l∧vs=[]∧H l=some (.lst xs)∧Q .non (upd H l (.lst []))
theorem uV:wX X "list.clear" tO:=by
 intro pins s σ H x vs v us Q I rx rv h
 obtain⟨l,xs,rfl,rfl,hH,q⟩:=h
 cases rx
 have hus:=rv.zero
 subst hus
 obtain⟨z,its,n,r,hl,e⟩:=I.lstM hH
 refine call_meets F.slot_list_clear ⟨_,e,rfl⟩ F.entry_list_clear (F.args_list_clear_1 _) (AutoSeq1.list_clear_list_0 l its.toArray n (by rw[List.size_toArray]; omega)) ⟨e,?_⟩
 exact⟨.non,_,I.lset (its':=[]) (ys:=[]) hH e rfl .nil (Nat.zero_le _),rfl,q⟩
def Cy:R2:=fun x y H Q=>∃ l b xs zs,x = .ref l∧y = .ref b∧H l=some (.lst xs)∧H b=some (.lst zs)∧xs.length+zs.length≤sizeLine∧∀ p,H p=none→Q (.ref p) (upd H p (.lst (xs++zs)))
theorem Ag:OpR X (binaryOp .Add) Cy:=by
 intro pins s σ H x y v u Q I rx ry h
 obtain⟨l,b,xs,zs,rfl,rfl,hH,hB,hz,q⟩:=h
 cases rx
 cases ry
 obtain⟨z,its,n,r,hl,e⟩:=I.lstM hH
 obtain⟨z2,its2,n2,r2,hl2,e2⟩:=I.lstM hB
 refine PySem.P.add_list e e2 ?_ (by rw[List.size_toArray,List.size_toArray]; omega)
 have ea:its.toArray++its2.toArray=(its++its2).toArray:=by simp
 rw[ea]
 exact⟨.ref _,_,I.lnew (t':=s.toks) (r.append r2) (by rw[List.length_append]; omega),rfl,q _ I.fresh⟩
end
section
variable{prog:Program}{w:World}{A:Around}{E:Value→Shared→Prop}{s:Shared}
end
section
variable{X:Cx}
end
end L2
namespace L2
open PySem PySem.Spec PyProof.Rows
section
variable{κ : Type}[DecidableEq κ]
def bE(kvs:List (κ × V))(k:κ):Option V:=(kvs.find? fun kv=>decide (kv.1=k)).map (·.2)
def cj(kvs:List (κ × V))(k:κ)(v:V):List (κ × V):=
 if (kvs.any fun kv=>decide (kv.1=k))=true then kvs.map (fun kv=>if kv.1=k then (kv.1,v) else kv) else kvs++[(k,v)]
theorem cy{p:κ × V}{r:List (κ × V)}{k:κ}(e:p.1=k):bE (p::r) k=some p.2:=by simp[bE,List.find?_cons,e]
theorem cw{p:κ × V}{r:List (κ × V)}{k:κ}(e:¬ p.1=k):bE (p::r) k=bE r k:=by simp[bE,List.find?_cons,e]
theorem fo(k:κ):∀ kvs:List (κ × V),(kvs.any fun kv=>decide (kv.1=k))=(bE kvs k).isSome
 | []=>rfl
 | p::r=>by
  rw[List.any_cons]
  by_cases e:p.1=k
  ·simp only[cy e,decide_eq_true e,Bool.true_or,Option.isSome_some]
  ·rw[cw e,decide_eq_false e,Bool.false_or]; exact fo k r
theorem mE(k j:κ)(y:V):∀ kvs:List (κ × V),bE (kvs.map fun kv=>if kv.1=k then (kv.1,y) else kv) j=(bE kvs j).map fun x=>if j=k then y else x
 | []=>rfl
 | p::r=>by
  have ih:=mE k j y r
  rw[List.map_cons]
  by_cases h:p.1=k
  ·rw[if_pos h]
   by_cases e:p.1=j
   ·rw[cy (p:=(p.1,y)) e,cy e,Option.map_some,if_pos (e.symm.trans h)]
   ·rw[cw (p:=(p.1,y)) e,cw e,ih]
  ·rw[if_neg h]
   by_cases e:p.1=j
   ·rw[cy (p:=p) e,cy e,Option.map_some,if_neg (fun z=>h (e.trans z))]
   ·rw[cw (p:=p) e,cw e,ih]
theorem kz(k j:κ)(y:V):∀ kvs:List (κ × V),bE kvs k=none→bE (kvs++[(k,y)]) j=if j=k then some y else bE kvs j
 | [],_=>by
  by_cases e:k=j
  ·rw[if_pos e.symm]; exact cy (p:=(k,y)) e
  ·rw[if_neg (fun z=>e z.symm)]; exact cw (p:=(k,y)) e
 | p::r,hn=>by
  rw[List.cons_append]
  have hk:¬ p.1=k:=fun z=>by rw[cy z]at hn; cases hn
  rw[cw hk]at hn
  have ih:=kz k j y r hn
  by_cases e:p.1=j
  ·rw[cy e,cy e,if_neg (fun z=>hk (e.trans z))]
  ·rw[cw e,cw e,ih]
theorem iR(kvs:List (κ × V))(k j:κ)(y:V):bE (cj kvs k y) j=if j=k then some y else bE kvs j:=by
 unfold cj
 by_cases a:(kvs.any fun kv=>decide (kv.1=k))=true
 ·rw[if_pos a,mE]
  rw[fo]at a
  by_cases e:j=k
  ·obtain⟨x,hx⟩:=Option.isSome_iff_exists.mp a
   rw[if_pos e,e,hx,Option.map_some,if_pos rfl]
  ·rw[if_neg e]
   cases bE kvs j with
   | none=>rfl
   | some x=>rw[Option.map_some,if_neg e]
 ·rw[if_neg a]
  refine kz k j y kvs ?_
  rw[fo]at a
  cases q:bE kvs k with
  | none=>rfl
  | some x=>rw[q]at a; exact(a rfl).elim
theorem fC(kvs:List (κ × V))(k:κ)(v:V):(cj kvs k v).length≤kvs.length+1:=by
 unfold cj
 split
 ·rw[List.length_map]; omega
 ·rw[List.length_append,List.length_cons,List.length_nil]; omega
theorem uR{kvs:List (κ × V)}{k:κ}(v:V)(h:bE kvs k=none):cj kvs k v=kvs++[(k,v)]:=by
 unfold cj
 rw[fo,h]
 exact if_neg (by decide)
theorem RelO.isSome_eq{o:Option V}{u:Option Value}(r:RelO o u):o.isSome=u.isSome:=by
 cases o with
 | none=>cases u with
  | none=>rfl
  | some _=>exact(show False from r).elim
 | some _=>cases u with
  | none=>exact(show False from r).elim
  | some _=>rfl
theorem RelO.getD{o:Option V}{u:Option Value}{d:V}{d':Value}(r:RelO o u)(rd:RelV d d'):RelV (o.getD d) (u.getD d'):=by
 cases o with
 | none=>cases u with
  | none=>exact rd
  | some _=>exact(show False from r).elim
 | some _=>cases u with
  | none=>exact(show False from r).elim
  | some _=>exact r
theorem KV.val{kvs:List (κ × V)}{vs:List (κ × Value)}(r:KV kvs vs)(k:κ):RelO (bE kvs k) (valueAt vs k):=by
 unfold KV at r
 induction r with
 | nil=>exact True.intro
 | @cons p q ps qs h t ih=>
  obtain⟨h1,h2⟩:=h
  by_cases e:p.1=k
  ·have e':q.1=k:=h1.symm.trans e
   have b:valueAt (q::qs) k=some q.2:=by simp[valueAt,List.find?_cons,e']
   rw[cy e,b]; exact h2
  ·have e':¬ q.1=k:=fun z=>e (h1.trans z)
   have b:valueAt (q::qs) k=valueAt qs k:=by simp[valueAt,List.find?_cons,e']
   rw[cw e,b]; exact ih
theorem KV.any{kvs:List (κ × V)}{vs:List (κ × Value)}(r:KV kvs vs)(k:κ):(kvs.any fun kv=>decide (kv.1=k))=vs.any fun kv=>decide (kv.1=k):=by
 unfold KV at r
 induction r with
 | nil=>rfl
 | cons h t ih=>rw[List.any_cons,List.any_cons,ih,h.1]
theorem KV.repl{kvs:List (κ × V)}{vs:List (κ × Value)}(r:KV kvs vs)(k:κ){y:V}{u:Value}(ry:RelV y u) :
  KV (kvs.map fun kv=>if kv.1=k then (kv.1,y) else kv) (vs.map fun kv=>if kv.1=k then (kv.1,u) else kv):=by
 unfold KV at r ⊢
 induction r with
 | nil=>exact .nil
 | @cons p q ps qs h t ih=>
  rw[List.map_cons,List.map_cons]
  refine .cons ?_ ih
  obtain⟨h1,h2⟩:=h
  by_cases e:p.1=k
  ·rw[if_pos e,if_pos (h1.symm.trans e)]; exact⟨h1,ry⟩
  ·rw[if_neg e,if_neg (fun z=>e (h1.trans z))]; exact⟨h1,h2⟩
theorem KV.put{kvs:List (κ × V)}{vs:List (κ × Value)}(r:KV kvs vs)(k:κ){y:V}{u:Value}(ry:RelV y u):KV (cj kvs k y) (stored vs k u):=by
 unfold cj stored
 rw[r.any k]
 by_cases e:(vs.any fun kv=>decide (kv.1=k))=true
 ·rw[if_pos e,if_pos e]; exact r.repl k ry
 ·rw[if_neg e,if_neg e]; exact Paired.snoc r ⟨rfl,ry⟩
theorem KV.length{kvs:List (κ × V)}{vs:List (κ × Value)}(r:KV kvs vs):kvs.length=vs.length:=Paired.length r
end
theorem je{P:Program}{w:World}{k:aA}{u:Value}(r:RelV (kV k) u):(b4 P w).is k u=true:=by
 cases k with
 | inl i=>obtain⟨t,e⟩:=(show ∃ t,u=Value.int i t from r); subst e; exact ou P w i t
 | inr x=>obtain⟨t,e⟩:=(show ∃ t,u=Value.str x t from r); subst e; exact oh P w x t
theorem kF{P:Program}{w:World}:∀ {ks:List aA} {us:List Value},Vals (ks.map kV) us→ItemsAre (b4 P w) ks us
 | [],_,r=>by rw[List.map_nil]at r; cases r; exact .nil
 | k::ks,_,r=>by
  rw[List.map_cons]at r
  cases r with
  | cons h t=>exact .cons (je h) (kF t)
abbrev KT (H:Hp):List (List aA × V)→List (List aA × Addr × Value)→Prop:=Paired fun p q=>p.1=q.1∧H q.2.1=some (.tup (p.1.map kV))∧RelV p.2 q.2.2
theorem KT.val{H:Hp}{kvs:List (List aA × V)}{xs:List (List aA × Addr × Value)}(r:KT H kvs xs)(k:List aA):RelO (bE kvs k) ((atKey xs k).map (·.2)):=by
 induction r with
 | nil=>exact True.intro
 | @cons p q ps qs h t ih=>
  obtain⟨h1,_,h2⟩:=h
  by_cases e:p.1=k
  ·have e':q.1=k:=h1.symm.trans e
   have b:atKey (q::qs) k=some q.2:=by simp[atKey,List.find?_cons,e']
   rw[cy e,b]; exact h2
  ·have e':¬ q.1=k:=fun z=>e (h1.trans z)
   have b:atKey (q::qs) k=atKey qs k:=by simp[atKey,List.find?_cons,e']
   rw[cw e,b]; exact ih
theorem KT.repl{H:Hp}{kvs:List (List aA × V)}{xs:List (List aA × Addr × Value)}(r:KT H kvs xs)(k:List aA){y:V}{u:Value}(ry:RelV y u) :
  KT H (kvs.map fun kv=>if kv.1=k then (kv.1,y) else kv) (xs.map (putAt k u)):=by
 induction r with
 | nil=>exact .nil
 | @cons p q ps qs h t ih=>
  rw[List.map_cons,List.map_cons]
  refine .cons ?_ ih
  obtain⟨h1,h2,h3⟩:=h
  unfold putAt
  by_cases e:p.1=k
  ·rw[if_pos e,if_pos (h1.symm.trans e)]; exact⟨h1,h2,ry⟩
  ·rw[if_neg e,if_neg (fun z=>e (h1.trans z))]; exact⟨h1,h2,h3⟩
theorem KT.put{H:Hp}{kvs:List (List aA × V)}{xs:List (List aA × Addr × Value)}(r:KT H kvs xs)(k:List aA){b:Addr}{y:V}{u:Value}(hb:H b=some (.tup (k.map kV)))(ry:RelV y u) :
  KT H (cj kvs k y) (storedH xs k b u):=by
 have e:(kvs.any fun kv=>decide (kv.1=k))=(atKey xs k).isSome:=by
  rw[fo,(r.val k).isSome_eq,Option.isSome_map]
 unfold cj storedH
 rw[e]
 by_cases q:(atKey xs k).isSome=true
 ·rw[if_pos q,if_pos q]; exact r.repl k ry
 ·rw[if_neg q,if_neg q]; exact Paired.snoc r ⟨rfl,hb,ry⟩
theorem KT.keeps{H H':Hp}{kvs:List (List aA × V)}{xs:List (List aA × Addr × Value)}(r:KT H kvs xs)(ht:∀ b ys,H b=some (.tup ys)→H' b=some (.tup ys)):KT H' kvs xs:=
 Paired.mapP r fun _ _ z=>⟨z.1,ht _ _ z.2.1,z.2.2⟩
section
variable{P:Program}{w:World}{H:Hp}{h:Heap}{a:Addr}
theorem wO{u:HO}(ok:HOk P w H h)(e:Rd H a u):ObjOk P w H h a u:=e.ok ok
theorem lu{kvs:List (aA × V)}(ok:HOk P w H h)(e:Rd H a (.dK kvs)):kvs.length≤sizeLine∧(a == sysModules)=false∧∃ vs,KV kvs vs∧h.DictOf (b4 P w) a vs:=
 show ObjOk P w H h a (.dK kvs) from wO ok e
theorem xa{kvs:List (aA × V)}(ok:HOk P w H h)(e:H a=some (.dK kvs)):kvs.length≤sizeLine∧(a == sysModules)=false∧∃ vs,KV kvs vs∧h.DictOf (b4 P w) a vs:=lu ok (.inl e)
theorem mO{ks:List aA}(ok:HOk P w H h)(e:H a=some (.tup (ks.map kV))):(tupleKind (b4 P w)).is h ks a:=by
 obtain⟨_,its,r,o,h1,h2,_,n,h3⟩:=(show ObjOk P w H h a (.tup (ks.map kV)) from ok a _ e)
 exact⟨o,its.toArray,n,h1,h2,h3,by simpa using kF r⟩
theorem wZ{kvs:List (List aA × V)}(ok:HOk P w H h)(e:Rd H a (.dT kvs)):kvs.length≤sizeLine∧(a == sysModules)=false∧
  ∃ xs,KT H kvs xs∧h.DictOfH (tupleKind (b4 P w)) a xs:=by
 obtain⟨z,y,xs,r,o,es,ep,h1,h2,h3,h4,h5⟩:=(show ObjOk P w H h a (.dT kvs) from wO ok e)
 refine⟨z,y,xs,r,o,es,ep,h1,h2,h3,h4,fun x hx=>?_,h5⟩
 have all:∀ {l:List (List aA × V)} {m:List (List aA × Addr × Value)},KT H l m→∀ x∈m,(tupleKind (b4 P w)).is h x.1 x.2.1:=by
  intro l m q
  induction q with
  | nil=>intro x hx; exact nomatch hx
  | @cons p q ps qs hq t ih=>
   intro x hx
   rcases List.mem_cons.mp hx with e | hx
   ·subst e
    exact mO ok (by rw[← hq.1]; exact hq.2.1)
   ·exact ih x hx
 exact all r x hx
theorem Ao{kvs:List (List aA × V)}(ok:HOk P w H h)(e:H a=some (.dT kvs)):kvs.length≤sizeLine∧(a == sysModules)=false∧
  ∃ xs,KT H kvs xs∧h.DictOfH (tupleKind (b4 P w)) a xs:=wZ ok (.inl e)
end
def DGet(H:Hp)(a:Addr)(y:V)(r:Option V):Prop:=
 (∃ kvs k,Rd H a (.dK kvs)∧y=kV k∧r=bE kvs k)∨∃ kvs k b,Rd H a (.dT kvs)∧y = .ref b∧H b=some (.tup (k.map kV))∧r=bE kvs k
def DPut(H:Hp)(a:Addr)(y v:V)(H':Hp):Prop:=
 (∃ kvs k,H a=some (.dK kvs)∧y=kV k∧kvs.length<sizeLine∧H'=upd H a (.dK (cj kvs k v)))∨
 ∃ kvs k b,H a=some (.dT kvs)∧y = .ref b∧H b=some (.tup (k.map kV))∧kvs.length<sizeLine∧H'=upd H a (.dT (cj kvs k v))
theorem DGet.k{H:Hp}{a:Addr}{kvs:List (aA × V)}{k:aA}(e:H a=some (.dK kvs)):DGet H a (kV k) (bE kvs k):=.inl ⟨kvs,k,.inl e,rfl,rfl⟩
theorem DPut.k{H:Hp}{a:Addr}{kvs:List (aA × V)}{k:aA}{v:V}(e:H a=some (.dK kvs))(hl:kvs.length<sizeLine):DPut H a (kV k) v (upd H a (.dK (cj kvs k v))):=.inl ⟨kvs,k,e,rfl,hl,rfl⟩
section
variable{X:Cx}{pins:List (Addr × Obj)}{σ : St}{H:Hp}{s:Shared}{a:Addr}{y v:V}{u r:Value}{o:Option V}{A:Around}{E:Value→Shared→Prop}
theorem Inv.big(I:Inv X pins σ H s):sysModules<s.heap.objs.size:=by
 have h:mainGlobals<s.heap.objs.size:=(I.mod.glob.keeps I.bk).lt
 exact Nat.lt_trans (by decide) h
theorem xL{Q:Value→Shared→Prop}(hu:A.units+1<cLine)(I:Inv X pins σ H s)(g:DGet H a y o)(ry:RelV y u)(h:∀ s',Inv X pins σ H s'→Q (.bool (!o.isSome)) s') :
  wpAny (model X.prog X.w) A (compareOp .NotIn u (.ref a)) Q E s:=by
 rcases g with ⟨kvs,k,e,ey,l⟩ | ⟨kvs,k,b,e,ey,eb,l⟩
 ·subst ey
  obtain⟨z,hd,vs,rel,dd⟩:=lu I.hok e
  refine wpAny_notIn_of (je ry) hd dd.mapOf ?_
  rw[← (rel.val k).isSome_eq,← l]
  exact h _ (I.tok _)
 ·subst ey
  cases (show u=Value.ref b from ry)
  obtain⟨z,hd,xs,rel,dd⟩:=wZ I.hok e
  refine wpAny_notIn_heap (tupleKind_room_in1 hu) (mO I.hok eb) hd dd ?_
  have q:=(rel.val k).isSome_eq
  rw[Option.isSome_map]at q
  rw[← q,← l]
  exact h _ (I.tok _)
theorem jM{h':Heap}{t':Nat}{ob:HO}(I:Inv X pins σ H s)(mu:t_ (H a))(hs:Heap.SameBut a s.heap h')(he:∃ q,h'.get? a=some q)(new:ObjOk X.prog X.w (upd H a ob) h' a ob) :
  Inv X pins σ (upd H a ob) { s with heap:=h',toks:=t' }:=
 I.write (x:=a) (e:=a) mu (.inl rfl) (fun b q hb z=>(hs.2 b hb).trans z) he new
theorem sJ{P:Program}{w:World}{H':Hp}{h':Heap}{kvs:List (aA × V)}{vs:List (aA × Value)}(z:kvs.length≤sizeLine)(hd:(a == sysModules)=false)(rel:KV kvs vs)(dd:h'.DictOf (b4 P w) a vs) :
  ObjOk P w H' h' a (.dK kvs):=⟨z,hd,vs,rel,dd⟩
theorem uE{H':Hp}{Q:Unit→Shared→Prop}(hu:A.units+1<cLine)(I:Inv X pins σ H s)(g:DPut H a y v H')(ry:RelV y u)(rv:RelV v r)(h:∀ s',Inv X pins σ H' s'→Q () s') :
  wpAny (model X.prog X.w) A (setItem (.ref a) u r) Q E s:=by
 rcases g with ⟨kvs,k,e,ey,l,eH⟩ | ⟨kvs,k,b,e,ey,eb,l,eH⟩
 ·subst ey eH
  obtain⟨z,hd,vs,rel,dd⟩:=xa I.hok e
  have hz:vs.length≤sizeLine:=by rw[← rel.length]; exact z
  have hl:(cj kvs k v).length≤sizeLine:=by have:=fC kvs k v; omega
  refine wpAny_setItem_pairs (hsz:=hz) (je ry) dd fun h' dd' hs=>h _ ?_
  have he:∃ q,h'.get? a=some q:=let ⟨q,_,_,hq,_⟩:=dd'; ⟨q,hq⟩
  exact jM I (by rw[e]; exact True.intro) hs he (sJ hl hd (rel.put k rv) dd')
 ·subst ey eH
  cases (show u=Value.ref b from ry)
  obtain⟨z,hd,xs,rel,dd⟩:=Ao I.hok e
  have hz:xs.length≤sizeLine:=by rw[← Paired.length rel]; exact z
  have hl:(cj kvs k v).length≤sizeLine:=by have:=fC kvs k v; omega
  refine wpAny_setItem_heap (hsz:=hz) (tupleKind_room_in1 hu) (mO I.hok eb) dd fun h' dd' hs=>h _ ?_
  obtain⟨q,es,ep,hq,h2,h3,h4,_,h5⟩:=dd'
  refine jM I (by rw[e]; exact True.intro) hs ⟨q,hq⟩ ⟨hl,hd,_,(rel.put k eb rv).keeps fun c ys ec=>?_,q,es,ep,hq,h2,h3,h4,h5⟩
  rw[ap (cm ec e (fun z=>nomatch z))]
  exact ec
end
section
variable{X:Cx}{pins:List (Addr × Obj)}{σ : St}{H:Hp}{s:Shared}{a:Addr}{kvs:List (aA × V)}{k:aA}{u:Value}{A:Around}{E:Value→Shared→Prop}
end
section
variable{X:Cx}{o i e value:Expr}{pos pos' tpos:Pos}{td ty tv:TE}
end
theorem lL{P:Program}{w:World}{H:Hp}(h:Heap)(hb:sysModules<h.objs.size):ObjOk P w H (h.push { cls:=.type "dict", data:=.dict #[] }) h.objs.size (.dK []):=
 ⟨Nat.zero_le _,beq_eq_false_iff_ne.mpr (Ne.symm (Nat.ne_of_lt hb)),[],.nil,Heap.DictOf.new h⟩
def zH:TE:=fun _ H Q=>∀ p,H p=none→Q (.ref p) (upd H p (.dK []))
section
variable{X:Cx}{pos:Pos}
theorem lC:PE X (.Dict [] [] pos) zH:=fun pins s σ H Q I h=>
 wpAny_Dict_empty ⟨.ref s.heap.objs.size,_,I.laid (a:=s.heap.objs.size) (o:=.dK []) (t':=s.toks) (fun _ _ q=>Heap.get?_push_of_some _ q) (Nat.le_refl _) (lL s.heap I.big),rfl,h _ (I.hok.fresh (Nat.le_refl _))⟩
end
def fc:List (TE × TE)→St→Hp→(List (V × V)→Hp→Prop)→Prop
 | [],_,H,Q=>Q [] H
 | (tk,tv)::r,σ,H,Q=>tk σ H fun x H1=>tv σ H1 fun y H2=>fc r σ H2 fun ps H3=>Q ((x,y)::ps) H3
abbrev VV:List (V × V)→List (Value × Value)→Prop:=Paired fun p q=>RelV p.1 q.1∧RelV p.2 q.2
def PPs(X:Cx)(pos:Pos)(keys:List (Option Expr))(values:List Expr)(trs:List (TE × TE)):Prop:=
 ∀ (pins:List (Addr × Obj)) (s:Shared) (σ : St) (H:Hp) (Q:List (V × V)→Hp→Prop),Inv X pins σ H s→fc trs σ H Q→
  wpAny (model X.prog X.w) X.A (evalPairs (pairTrees keys values X.env pos)) (fun vs s'=>∃ ps H',Inv X pins σ H' s'∧VV ps vs∧Q ps H') X.xe s
theorem xV{X:Cx}{pos:Pos}:PPs X pos [] [] []:=fun pins s σ H Q I h=>pairTrees_nil_walk ⟨[],H,I,.nil,h⟩
theorem v3{X:Cx}{pos:Pos}{k v:Expr}{ks:List (Option Expr)}{vs:List Expr}{tk tv:TE}{trs:List (TE × TE)}(hk:PE X k tk)(hv:PE X v tv)(hr:PPs X pos ks vs trs) :
  PPs X pos (some k::ks) (v::vs) ((tk,tv)::trs):=fun pins s σ H Q I h=>
 pairTrees_cons_walk (aT (hk pins s σ H _ I h) fun u s1 ⟨x,H1,I1,rx,q1⟩=>aT (hv pins s1 σ H1 _ I1 q1) fun w2 s2 ⟨y,H2,I2,ry,q2⟩=>
  aT (hr pins s2 σ H2 _ I2 q2) fun ws s3 ⟨ps,H3,I3,rel,q3⟩=>⟨(x,y)::ps,H3,I3,.cons ⟨rx,ry⟩ rel,q3⟩)
def dS(kvs more:List (aA × V)):List (aA × V):=more.foldl (fun acc kv=>cj acc kv.1 kv.2) kvs
theorem KV.merge:∀ {more:List (aA × V)} {rs:List (aA × Value)} {kvs:List (aA × V)} {vs:List (aA × Value)},KV more rs→KV kvs vs→KV (dS kvs more) (merged vs rs):=by
 intro more rs kvs vs r
 unfold KV at r
 induction r generalizing kvs vs with
 | nil=>intro q; exact q
 | @cons p q ps qs h t ih=>
  intro r0
  have e:KV (cj kvs p.1 p.2) (stored vs q.1 q.2):=by
   have:=r0.put p.1 h.2
   rw[← h.1]; exact this
  exact ih e
theorem gq:∀ (more kvs:List (aA × V)),(dS kvs more).length≤kvs.length+more.length
 | [],kvs=>by show kvs.length≤kvs.length+0; omega
 | p::r,kvs=>by
  have h1:=gq r (cj kvs p.1 p.2)
  have h2:=fC kvs p.1 p.2
  show (dS (cj kvs p.1 p.2) r).length≤_
  rw[List.length_cons]; omega
theorem i7{P:Program}{w:World}:∀ {kvs:List (aA × V)} {ws:List (Value × Value)},VV (kvs.map fun kv=>(kV kv.1,kv.2)) ws→∃ rs,Carries (b4 P w) ws rs∧KV kvs rs
 | [],_,r=>by rw[List.map_nil]at r; cases r; exact⟨[],True.intro,.nil⟩
 | p::kvs,_,r=>by
  rw[List.map_cons]at r
  cases r with
  | @cons a b as bs h t=>
   obtain⟨rs,c,q⟩:=i7 (P:=P) (w:=w) t
   obtain⟨b1,b2⟩:=b
   exact⟨(p.1,b2)::rs,⟨je h.1,rfl,c⟩,.cons ⟨rfl,h.2⟩ q⟩
def wV(trs:List (TE × TE)):TE:=fun σ H Q=>∀ p,H p=none→fc trs σ (upd H p (.dK [])) fun ps H2=>H2 p=some (.dK [])∧∃ kvs:List (aA × V),ps=kvs.map (fun kv=>(kV kv.1,kv.2))∧kvs.length≤15∧Q (.ref p) (upd H2 p (.dK (dS [] kvs)))
theorem xu{X:Cx}{pos:Pos}{keys:List (Option Expr)}{values:List Expr}{trs:List (TE × TE)}(h:PPs X pos keys values trs)(hall:keys.all (·.isSome)=true)(hl:keys.length=values.length)(h0:keys≠[])
  (h15:keys.length≤15):PE X (.Dict keys values pos) (wV trs):=by
 intro pins s σ H Q I q
 have hn:=I.hok.fresh (Nat.le_refl s.heap.objs.size)
 have I1:=I.laid (a:=s.heap.objs.size) (o:=.dK []) (h':=s.heap.push { cls:=.type "dict", data:=.dict #[] }) (t':=s.toks) (fun _ _ q=>Heap.get?_push_of_some _ q) (Nat.le_refl _) (lL s.heap I.big)
 refine wpAny_Dict_walk (knd:=b4 X.prog X.w) hall hl h0 h15 (aT (h pins _ σ _ _ I1 (q _ hn)) fun ws s2 ⟨ps,H2,I2,rel,e,kvs,ep,lk,q2⟩=>?_)
 subst ep
 obtain⟨rs,c,rk⟩:=i7 (P:=X.prog) (w:=X.w) rel
 obtain⟨z,hd,vs0,r0,dd⟩:=xa I2.hok e
 cases r0
 refine⟨rs,c,dd,fun h' dd' hs=>⟨.ref s.heap.objs.size,_,?_,rfl,q2⟩⟩
 have hz:(dS [] kvs).length≤sizeLine:=by
  have h1:=gq kvs []
  rw[List.length_nil]at h1
  rw[sizeLine_eq]; omega
 have he:∃ q,h'.get? s.heap.objs.size=some q:=let ⟨q,_,_,hq,_⟩:=dd'; ⟨q,hq⟩
 exact jM I2 (by rw[e]; exact True.intro) hs he (sJ hz hd (rk.merge .nil) dd')
section
variable{X:Cx}{pins:List (Addr × Obj)}{σ : St}{H:Hp}{s:Shared}{a:Addr}{y d:V}{u r:Value}{o:Option V}{A:Around}{E:Value→Shared→Prop}
end
section
variable{X:Cx}{o e f:Expr}{apos cpos:Pos}{td ty tx:TE}
end
section
variable{X:Cx}{pins:List (Addr × Obj)}{σ : St}{H:Hp}{s:Shared}{a:Addr}{kvs:List (aA × V)}{A:Around}{E:Value→Shared→Prop}
end
section
variable{X:Cx}{pins:List (Addr × Obj)}{σ : St}{H:Hp}{s:Shared}{a:Addr}{y:V}{u:Value}{A:Around}{E:Value→Shared→Prop}
end
end L2
namespace Att
open PySem PySem.W PySem.Calls PyProof.Rows
theorem jq{P:Params}{h:Heap}:∀ (ns:List Int) (vs:List Value),WellAll P h vs (ns.map WData.int)→IntsAre vs ns:=by
 intro ns
 induction ns with
 | nil=>
  intro vs w
  rw[List.map_nil]at w
  cases w
  exact .nil
 | cons n ns ih=>
  intro vs w
  rw[List.map_cons]at w
  cases w with
  | cons a b=>
   cases a
   exact .cons _ _ (ih _ b)
theorem sx{l:OpenLaw}{n:Nat}(hn:l.most=some n){P:Params}{h:Heap}{args:List WData}{vals:List Value}
  (hpre:l.row.toRowW.claim.pre args=true) (hwl:WellAll P h vals args) :
  ∃ a vs ns,vals=[Value.ref a]∧args=[WData.list (ns.map WData.int)]∧h.get? a=some { cls:=.type "list", data:=.seq vs.toArray }∧IntsAre vs ns∧ns.length≤n:=by
 have hsh:WShape.hasAll [] args [.list .int]=true:=(pre_splitW hpre).1
 have hc:l.pre.holds [] { args:=args }=true:=(pre_splitW hpre).2
 obtain⟨d,r,rfl,h1,h2⟩:=hasAllW_cons hsh
 obtain rfl:=hasAllW_nil h2
 obtain⟨xs,rfl,h3⟩:=hasW_list h1
 obtain⟨ns,rfl⟩:=items_int h3
 have hlen:ns.length≤n:=by
  unfold OpenLaw.pre at hc
  have h4:(WTm.not (.lt (.lit (.int (n:Int))) (.len (.arg 0)))).holds [] { args:=[.list (ns.map .int)] }=true:=by
   have h4:=(holds_andW hc).1
   rw[hn]at h4
   exact h4
  have h5:=condW_of h4 (w_not (w_lt w_lit (w_len_list (w_arg rfl))))
  rw[List.length_map]at h5
  refine Nat.le_of_not_lt fun q=>?_
  have q':(n:Int)<((ns.length:Nat):Int):=by omega
  first
   | (rw[decide_eq_true q']at h5; exact absurd h5 (by decide))
   | (simp at h5; omega)
 cases hwl with
 | cons w1 w2=>
  cases w2
  cases w1 with
  | list ho hall=>exact⟨_,_,ns,rfl,rfl,ho,jq ns _ hall,hlen⟩
theorem uD(l:OpenLaw)(args:List WData):l.row.toRowW.claim.post args (.bool true) args=true:=
 postW_of (r:=l.row.toRowW) (X:=(true == true))
  (show WShape.has [] (.bool true) .bool=true by first | rfl | decide | simp[WShape.has,WShape.arms,WShape.armsAll])
  (show (WTm.eq .res (.lit (.bool true))).value [] { args:=args,res:=some (.bool true),after:=args }=some (.bool (true == true)) from w_eq_bool (w_res rfl) w_lit) rfl
theorem attach_call{l:OpenLaw}{n:Nat}{q:Program}{loose:List Str}{XP:(Str→Option Value)→Heap→Prop}{YP:World→Heap→Prop}{d:DefRec}
  (hn:l.most=some n) (hdf:d.params.defaults=[])
  (call:∀ (w:World) (s₀ s₁:Shared) (mg mb:Str→Option Value) (fa:Addr) (o:Obj) (pm cd doc:Value) (a:Addr) (vs:List Value) (ns:List Int),
   Ground q loose [] XP w s₀ mg mb s₁.heap→YP w s₁.heap→
   s₁.heap.get? fa=some o→o.data = .func (docDef d.name d.params d.body d.scope pm cd doc)→s₁.heap.CodeRec cd d.name→mg d.name=some (.ref fa)→
   s₁.heap.get? a=some { cls:=.type "list", data:=.seq vs.toArray }→IntsAre vs ns→ns.length≤n→s₁.gens = #[]→
   codeAny (model l.prog w) callerA (.call (.ref fa) ⟨[.ref a],[]⟩) (fun r s'=>r = .ok (.ret (.bool true))∧OldK s₁.heap s'.heap∧s'.os=s₁.os∧AllBare s'.gens) s₁) :
  WalkO q loose XP YP l.row.toRowW d [] (fun f vs=>PySem.call f vs):=by
 intro w s₀ s₁ mg mb G Y fa o pm cd doc dV kV ho hd hcd hD hmg hg args vals as hpre hlay hrd hwl hlo
 obtain rfl:dV = .none:=Dflts.none hD hdf
 obtain rfl:kV = .none:=Dflts.noKw hD
 obtain⟨a,vs,ns,rfl,rfl,hobj,hints,hlen⟩:=sx hn hpre hwl
 refine enter_call (codeAny_mono (call w s₀ s₁ mg mb fa o pm cd doc a vs ns G Y ho (fd_plain hd) hcd hmg hobj hints hlen hg) fun r s' hq=>?_)
 obtain⟨rfl,h2,h3,h4⟩:=hq
 exact⟨.inl ⟨.bool true,.bool true,[],rfl,fun _=>rfl,.bool true,uD l _,fun _=>⟨List.Pairwise.nil,fun _ hm=>(nomatch hm)⟩⟩,h2,h3,h4⟩
section
variable{prog:Program}{w:World}{A:Around}{E:Value→Shared→Prop}{s:Shared}{K:Frag}
end
end Att
namespace L2
open PySem PySem.Spec PyProof.Rows
theorem ft:∀ {vs:List Value} {ns:List Int},IntsAre vs ns→Vals (ns.map V.int) vs
 | _,_,.nil=>.nil
 | _,_,.cons n t h=>.cons ⟨t,rfl⟩ (ft h)
def vO(H:Hp):Prop:=∀ b,H b=none∨∃ o xs,H b=some (.frz o (.lst xs))
theorem uU{P:Program}{w:World}{K:PySem.W.Frag}{mg mb:Str→Option Value}{CX:fL}{k:Nat}{fa a:Addr}{fd:FuncData}{x:Str}{sp:Sp}{s₁:Shared}{vs:List Value}{ns:List Int}
  (KX:K.In s₁.heap) (hns:s₁.heap.Ns mainGlobals mg) (hb:s₁.heap.Ns builtinsNs mb) (hbb:∀ x:Str,x ≠ "__name__" → mb x=bootBuiltins x) (hlim:s₁.heap.NoLimit) (hg:s₁.gens = #[])
  (ha:s₁.heap.get? a=some { cls:=.type "list", data:=.seq vs.toArray }) (hi:IntsAre vs ns) (hl:ns.length≤sizeLine) (hr:Room k callerA)
  (F:∀ base:Heap,K.In base→base.Ns mainGlobals mg→FnOk P w K mg base CX k fa fd [x] sp) (hbind:∀ (s:Shared) (u:Value),BindsTo s fd ⟨[u],[]⟩ [(x,u)])
  (hsp:∀ H:Hp,vO H→SqL K H a (ns.map V.int)→sp [.ref a] H (fun v _=>v = .bl true) fun _ _ _=>False)
  (hCX:∀ H e s',CX [] H s₁ (fun _ _ _=>False) e s'→False) :
  codeAny (model P w) callerA (.call (.ref fa) ⟨[.ref a],[]⟩) (fun r s'=>r = .ok (.ret (.bool true))∧OldK s₁.heap s'.heap∧s'.os=s₁.os∧AllBare s'.gens) s₁:=by
 have rv:=ft hi
 have lenV:=hi.length
 -- from an abstract heap in which nothing but the script may be tracked
 have core:∀ H:Hp,vO H→SqL K H a (ns.map V.int)→HOk P w H s₁.heap→(∀ b,H b≠none→b=a)→(H a≠none→K.lookup a=none)→
   codeAny (model P w) callerA (.call (.ref fa) ⟨[.ref a],[]⟩) (fun r s'=>r = .ok (.ret (.bool true))∧OldK s₁.heap s'.heap∧s'.os=s₁.os∧AllBare s'.gens) s₁:=by
  intro H hO hS hok hA hK
  have base_of:∀ {b:Addr} {o:Obj},s₁.heap.get? b=some o→H b=none→(fR s₁.heap H).get? b=some o:=fun e n=>vH e n
  have noA:∀ {b:Addr} {o:Obj} {es:Array DictEntry} {ep:Nat},s₁.heap.get? b=some o→o.data = .dict es ep→H b=none:=fun {b o es ep} e d=>by
   cases q:H b with
   | none=>rfl
   | some u=>
    have e':b=a:=hA b (by rw[q]; simp)
    subst e'
    rw[ha]at e; cases e
    have d':Data.seq vs.toArray _=Data.dict es ep:=d
    cases d'
  have nsK:∀ {b:Addr} {m:Str→Option Value},s₁.heap.Ns b m→(fR s₁.heap H).Ns b m:=fun {b m} ⟨o,es,ep,e,d,r⟩=>⟨o,es,ep,base_of e (noA e d),d,r⟩
  have hKb:K.In (fR s₁.heap H):=fun b o e=>base_of (KX b o e) (by
   cases q:H b with
   | none=>rfl
   | some u=>
    have e':b=a:=hA b (by rw[q]; simp)
    subst e'
    rw[hK (by rw[q]; simp)]at e; cases e)
  have hM:Mod K mg (fR s₁.heap H):=⟨hKb,nsK hns,⟨mb,nsK hb,hbb⟩,let ⟨mc,h1,h2⟩:=hlim; ⟨mc,nsK h1,h2⟩⟩
  have e0:Env0 P w K mg (fR s₁.heap H) callerA [] s₁ H:=⟨rfl,hM,fun b o e=>yh e,Nat.le_of_eq (ud _ _),trivial,fun b hb=>absurd (show b∈([]:List Addr) from hb) (by simp),hok,.of_eq hg⟩
  refine codeAny_mono ((F _ hKb (nsK hns)).run callerA [] s₁ H ⟨[.ref a],[]⟩ [.ref a] [.ref a] _ _ hr e0 (hbind s₁ (.ref a)) (.cons rfl .nil) (hsp H hO hS)) fun r s' h=>?_
  cases r with
  | error e=>exact(hCX H e s' h).elim
  | ok fl=>
   cases fl with
   | next=>exact False.elim h
   | brk=>exact False.elim h
   | cont=>exact False.elim h
   | ret u=>
    obtain⟨v,H',os,bare,un,hok',r',q⟩:=h
    have q':v = .bl true:=q
    subst q'
    obtain rfl:u=Value.bool true:=r'
    refine⟨rfl,OldK.of_keep fun b o e=>?_,os,bare⟩
    cases q:H b with
    | none=>exact un.keep b o e q (by intro z; exact absurd (show b∈([]:List Addr) from z) (by simp)) (by simp)
    | some u=>
     rcases hO b with z | ⟨ob,xs,z⟩
     ·rw[q]at z; cases z
     ·have z2:=un.frzs b ob _ z
      obtain⟨e1,_⟩:=hok b _ z
      obtain⟨e2,_⟩:=hok' b _ z2
      rw[e]at e1; cases e1
      exact e2
 cases hk:K.lookup a with
 | some o=>
  -- the script is one of the module's own objects
  have e:=KX a o hk
  rw[ha]at e
  cases e
  refine core (fun _=>none) (fun _=>.inl rfl) (.inr ⟨_,vs.toArray,_,hk,rfl,rfl,rfl,by rw[List.size_toArray,lenV]; exact hl,by simpa using rv⟩) (fun b u z=>by have z':(none:Option HO)=some u:=z; cases z') (fun b z=>absurd rfl z) fun z=>absurd rfl z
 | none=>
  refine core (fun b=>if b=a then some (.frz { cls:=.type "list", data:=.seq vs.toArray } (.lst (ns.map V.int))) else none) (fun b=>?_) (.inl (.inr ⟨{ cls:=.type "list", data:=.seq vs.toArray },if_pos rfl⟩)) (fun b u z=>?_) (fun b z=>?_) fun _=>hk
  ·by_cases hb:b=a
   ·exact .inr ⟨_,_,if_pos hb⟩
   ·exact .inl (if_neg hb)
  ·by_cases hb:b=a
   ·have z':=(if_pos hb).symm.trans z
    cases z'
    subst hb
    exact⟨ha,by rw[List.length_map]; exact hl,vs,_,rv,ha⟩
   ·have z':=(if_neg hb).symm.trans z
    cases z'
  ·by_cases hb:b=a
   ·exact hb
   ·exact absurd (if_neg hb) z
end L2
namespace L2
open PySem PySem.Spec PyProof.Rows
abbrev KOf {K:PySem.W.Frag} {h:Heap} (_:K.In h):PySem.W.Frag:=K
theorem walk_of{l:PySem.W.OpenLaw}{n k:Nat}{q:Program}{loose:List Str}{XP:(Str→Option Value)→Heap→Prop}{YP:World→Heap→Prop}{d:DefRec}{K:Params→PySem.W.Frag}{CX:World→fL}{sp:World→Sp}{x:Str}
  (hn:l.most=some n) (hn2:n≤sizeLine) (hdf:d.params.defaults=[]) (hr:Room k callerA)
  (hY:∀ (w:World) (h:Heap),YP w h→(K w.params).In h)
  (F:∀ (w:World) (mg:Str→Option Value) (fa:Addr) (h:Heap),(K w.params).In h→h.Ns mainGlobals mg→mg d.name=some (.ref fa)→
   ∃ fd:FuncData,(∀ (s:Shared) (u:Value),BindsTo s fd ⟨[u],[]⟩ [(x,u)])∧
    ∀ base:Heap,(K w.params).In base→base.Ns mainGlobals mg→FnOk l.prog w (K w.params) mg base (CX w) k fa fd [x] (sp w))
  (hsp:∀ (w:World) (H:Hp) (a:Addr) (ns:List Int),ns.length≤n→vO H→SqL (K w.params) H a (ns.map V.int)→sp w [.ref a] H (fun v _=>v = .bl true) fun _ _ _=>False)
  (hCX:∀ (w:World) (H:Hp) (s:Shared) (e:Value) (s':Shared),CX w [] H s (fun _ _ _=>False) e s'→False) :
  PySem.W.WalkO q loose XP YP l.row.toRowW d [] (fun f vs=>PySem.call f vs):=by
 refine Att.attach_call hn hdf fun w s₀ s₁ mg mb fa o pm cd doc a vs ns G Y ho hd hcd hmg hobj hints hlen hg=>?_
 have KX:=hY w _ Y
 obtain⟨fd,hb,hF⟩:=F w mg fa _ KX G.T.g hmg
 exact uU KX G.T.g G.T.b G.T.builtins G.T.nolimit hg hobj hints (Nat.le_trans hlen hn2) hr hF hb (fun H hO hS=>hsp w H a ns hlen hO hS) fun H e s'=>hCX w H s₁ e s'
end L2
/- THE LAST THEOREM (shape; LID, My.* are yours):
   My.Adr: a structure of the addresses that your layer names (classes,functions); My.Txt K t: a structure (Prop) of the equations over K;
   My.txt_mk:{K} {implicit addresses ..} (e1:nsIn K mainGlobals "law" = some (some (.ref f))) (e2:K.lookup f=some ⟨oc,od,.func (fnOf "law" "law" params body scope dV kV doc pm an cdv ct),sl⟩) (e3:codeIn K cdv "law" = true) .. : ∃ t,My.Txt K t
set_option maxRecDepth 100000 in
set_option maxHeartbeats 0 in
theorem PySem.Challenge.cw_LID_holds : PySem.Challenge.rw_LID.Holds := by
 w_on; o_law; k_head; (case hw=>w_witness2)
 k_fill
 refine L2.walk_of (l:=PySem.Challenge.rw_LID) (n:=63) (k:=40) (x := "script") (CX:=fun w=>..) (sp:=fun _=>My.sp_law) rfl (by decide) rfl ⟨rfl,by decide,by decide⟩ (fun w h Y=>PySem.W.kIn_of Y) ?F ?S ?C
 case F=>
  intro w mg fa h KX G hmg
  have T:∃ t,My.Txt (L2.KOf KX) t:=by
   dsimp only[L2.KOf]                          -- K must stand as «<heap const> w.params» for k_is
   refine' My.txt_mk ?e1 ?e2 ?e3 ..
   (case e1=>PySem.W.k_is)                    -- in the order: a name -> its address -> its object -> its parts
   (case e2=>PySem.W.k_is)
   ..
  obtain⟨t,T⟩:=T
  have e0:=hmg.symm.trans (PySem.W.mg_of KX G T.law)
  cases e0                                       -- fa is the law's own address
  exact⟨_,fun s u=>.of_eq rfl,fun base kb nb=>My.law_fn T kb nb⟩     -- if «.of_eq rfl» comes too early: refine' ⟨_,?b,fun base kb nb=>My.law_fn T kb nb⟩; exact fun s u=>.of_eq rfl
 case S=>exact fun w H a ns hl hO hS=>..
 case C=>exact ..
(the tactic k_is has no namespace: write k_is) -/
namespace L2
open PySem PySem.Spec PyProof.Rows
abbrev gA:fL:=fun _ _ _ _ _ _=>False
abbrev E0:XK:=fun _ _ _=>False
theorem xb{X:Cx}:jf gA X E0:=fun _ _ _ _ _ _ _ h=>h.elim
structure Fun (K:PySem.W.Frag) (x qual:Str) (st:Stmt) (f:Addr) (fd:FuncData):Prop where
 ex:∃ (oc:Value) (od:Option Addr) (kV doc pm:Value) (an:Option Addr) (cdv ct:Value) (osl:Array (Option Value)),
  fd=PySem.W.fnOf x qual (defArgs st) (defBody st) (defScope st) .none kV doc pm an cdv ct∧K.lookup f=some ⟨oc,od,.func fd,osl⟩∧PySem.W.codeIn K cdv qual=true
 kp:PySem.W.keepIn K (.ref f)=true
section
variable{P:Program}{w:World}{K:PySem.W.Frag}{mg:Str→Option Value}{base:Heap}
theorem Fun.ok{x qual:Str}{st:Stmt}{f:Addr}{fd:FuncData}{N ps:List Str}{k:Nat}{sp:Sp}(F:Fun K x qual st f fd)(S:aH N ps (defScope st))(len:∀ vs H Q E,sp vs H Q E→vs.length=ps.length)
  (hbody:∀ (cdv:Value) (A:Around) (outer:List Env) (s:Shared) (H:Hp) (vs:List V) (Q:VK) (E:XK),Room k (A.deeper (envOfC qual (defScope st) s.heap.objs.size f cdv))→sp vs H Q E→
   ∃ t,PSs (gD gA P w K mg base N qual (defScope st) f cdv A outer s H E).nox (defBody st) t∧t { nx:=fun _ H'=>Q .non H',rt:=Q } (start N vs) H):FnOk P w K mg base gA (k+1) f fd ps sp:=by
 obtain⟨oc,od,kV,doc,pm,an,cdv,ct,osl,rfl,lk,hcd⟩:=F.ex
 refine AN lk hcd S len fun A outer s H vs Q E hr hsp=>?_
 obtain⟨t,h,q⟩:=hbody cdv A outer s H vs Q E hr hsp
 exact⟨t,h.nox,q⟩
theorem Fun.binds{x qual:Str}{st:Stmt}{f:Addr}{fd:FuncData}{ps:List Str}(F:Fun K x qual st f fd)
  (h:∀ (kV doc pm:Value) (an:Option Addr) (cdv ct:Value) (us:List Value),us.length=ps.length→bindArgs (PySem.W.fnOf x qual (defArgs st) (defBody st) (defScope st) .none kV doc pm an cdv ct) ⟨us,[]⟩=pure (ps.zip us)):Binds K fd ps []:=by
 obtain⟨oc,od,kV,doc,pm,an,cdv,ct,osl,rfl,lk,hcd⟩:=F.ex
 exact .all (h kV doc pm an cdv ct)
theorem bj{x qual:Str}{st:Stmt}{f:Addr}{oc:Value}{od an:Option Addr}{osl:Array (Option Value)}{kV doc pm cdv ct:Value}(l:K.lookup f=some ⟨oc,od,.func (PySem.W.fnOf x qual (defArgs st) (defBody st) (defScope st) .none kV doc pm an cdv ct),osl⟩)
  (c:PySem.W.codeIn K cdv qual=true) (k:PySem.W.keepIn K (.ref f)=true):Fun K x qual st f (PySem.W.fnOf x qual (defArgs st) (defBody st) (defScope st) .none kV doc pm an cdv ct):=⟨⟨oc,od,kV,doc,pm,an,cdv,ct,osl,rfl,l,c⟩,k⟩
end
section
variable{X:Cx}
theorem pv(i:Nat){x:Str}{pos:Pos}(hN:X.N[i]? = some x:=by rfl)(hv:aq X.env.scope x:=by first | exact Or.inl rfl | exact Or.inr (Or.inl rfl) | exact Or.inr (Or.inr rfl))(hd:(x == ("__debug__" : Str))=false:=by decide)
  (hcd:(x == ("__classdict__" : Str))=false:=by decide):PE X (.Name x pos) (wj i):=yS hN hv hd hcd
end
theorem ck{c A B:Prop}[Decidable c](h1:c→A)(h2:¬ c→B):if c then A else B:=by
 by_cases h:c
 ·rw[if_pos h]
  exact h1 h
 ·rw[if_neg h]
  exact h2 h
def Same(H H':Hp):Prop:=∀ b o,H b=some o→H' b=some o
theorem Same.refl(H:Hp):Same H H:=fun _ _ h=>h
theorem Same.trans{H H1 H2:Hp}(a:Same H H1)(b:Same H1 H2):Same H H2:=fun c o h=>b c o (a c o h)
theorem Same.free{H H':Hp}(e:Same H H'){l:Addr}(h:H' l=Option.none):H l=Option.none:=by
 cases q:H l with
 | none=>rfl
 | some o=>
  rw[e l o q]at h
  cases h
theorem Same.seq{K:PySem.W.Frag}{H H':Hp}{a:Addr}{xs:List V}(e:Same H H')(h:SqL K H a xs):SqL K H' a xs:=by
 rcases h with (h | ⟨o,h⟩) | h
 ·exact .inl (.inl (e _ _ h))
 ·exact .inl (.inr ⟨o,e _ _ h⟩)
 ·exact .inr h
section
variable{κ : Type}[DecidableEq κ]
end
end L2
namespace L2
open PySem PySem.Spec PyProof.Rows
def cZ(cells:List (Str × Addr)):List (Str × NameKind)→List (Str × Addr)→List (Str × Addr)
 | [],acc=>acc
 | (n,k)::r,acc=>cZ cells r (if k == .free then (n,(cells.lookup n).getD 0)::acc else acc)
theorem nO{env:Env}{f:(Str × NameKind)→List (Str × Addr)→Sem (ForInStep (List (Str × Addr)))}
  (hf:∀ n k cs,f (n,k) cs=if (k == NameKind.free)=true then (cellOf env n >>= fun c=>pure (ForInStep.yield ((n,c)::cs))) else pure (ForInStep.yield cs)) :
  ∀ (names:List (Str × NameKind)) (acc:List (Str × Addr)),(∀ x∈names,x.2 = .free→∃ c,env.cells.lookup x.1=some c)→
  forIn names acc f=(pure (cZ env.cells names acc):Sem _)
 | [],acc,_=>rfl
 | (n,k)::r,acc,h=>by
  rw[List.forIn_cons,hf]
  have ih:=fun acc=>nO hf r acc fun x hx=>h x (List.mem_cons_of_mem _ hx)
  by_cases hk:(k == NameKind.free)=true
  ·rw[if_pos hk]
   obtain⟨c,hc⟩:=h (n,k) List.mem_cons_self (by simpa using hk)
   have e:cellOf env n=pure c:=by unfold cellOf; rw[hc]
   rw[e,pure_bind,pure_bind]
   show forIn r ((n,c)::acc) f=_
   rw[ih]
   show _=pure (cZ env.cells r (if (k == NameKind.free)=true then (n,(env.cells.lookup n).getD 0)::acc else acc))
   rw[if_pos hk,hc]; rfl
  ·rw[if_neg hk,pure_bind]
   show forIn r acc f=_
   rw[ih]
   show _=pure (cZ env.cells r (if (k == NameKind.free)=true then (n,(env.cells.lookup n).getD 0)::acc else acc))
   rw[if_neg hk]
theorem lj{env:Env}{scope:Scope}(h:∀ x∈scope.names,x.2 = .free→∃ c,env.cells.lookup x.1=some c):closureFor scope env=pure (cZ env.cells scope.names []):=by
 unfold closureFor
 show (forIn scope.names ([]:List (Str × Addr)) _ >>= fun cs=>pure cs)=_
 rw[nO (env:=env) (fun n k cs=>?_) _ _ h]
 ·rfl
 ·rfl
theorem ir{cells:List (Str × Addr)}:∀ {names:List (Str × NameKind)} {acc:List (Str × Addr)} {x:Str} {c:Addr},(∀ y∈names,y.2 = .free→∃ c,cells.lookup y.1=some c)→
  (∀ y c,acc.lookup y=some c→cells.lookup y=some c)→(cZ cells names acc).lookup x=some c→cells.lookup x=some c
 | [],acc,x,c,_,ha,h=>ha x c h
 | (n,k)::r,acc,x,c,hn,ha,h=>by
  refine ir (names:=r) (fun y hy=>hn y (List.mem_cons_of_mem _ hy)) ?_ h
  intro y d hy
  by_cases hk:(k == NameKind.free)=true
  ·rw[if_pos hk]at hy
   obtain⟨e,he⟩:=hn (n,k) List.mem_cons_self (by simpa using hk)
   have he':cells.lookup n=some e:=he
   rw[List.lookup_cons]at hy
   by_cases hyn:(y == n)=true
   ·rw[hyn]at hy
    have hy':(cells.lookup n).getD 0=d:=Option.some.inj hy
    rw[he']at hy'
    have e1:y=n:=by simpa using hyn
    rw[e1,he',← hy']; rfl
   ·have hf:(y == n)=false:=by simpa using hyn
    rw[hf]at hy
    exact ha y d hy
  ·rw[if_neg hk]at hy
   exact ha y d hy
theorem ju{cells:List (Str × Addr)}:∀ {names:List (Str × NameKind)} {acc:List (Str × Addr)} {x:Str},(∃ c,acc.lookup x=some c)→∃ c,(cZ cells names acc).lookup x=some c
 | [],_,_,h=>h
 | (n,k)::r,acc,x,h=>by
  refine ju (names:=r) ?_
  by_cases hk:(k == NameKind.free)=true
  ·rw[if_pos hk,List.lookup_cons]
   cases hx:(x == n) with
   | true=>exact⟨_,rfl⟩
   | false=>exact h
  ·rw[if_neg hk]; exact h
theorem gg{cells:List (Str × Addr)}:∀ {names:List (Str × NameKind)} {acc:List (Str × Addr)} {x:Str},(x,NameKind.free)∈names→∃ c,(cZ cells names acc).lookup x=some c
 | (n,k)::r,acc,x,h=>by
  rcases List.mem_cons.mp h with e | h
  ·have e1:x=n:=congrArg (·.1) e
   have e2:NameKind.free=k:=congrArg (·.2) e
   subst e1 e2
   refine ju (names:=r) ?_
   rw[if_pos (by rfl),List.lookup_cons]
   rw[beq_self_eq_true]
   exact⟨_,rfl⟩
  ·exact gg (names:=r) h
theorem dj{env:Env}:∀ {names:List (Str × NameKind)} {x:Str} {k:NameKind},(∀ y∈names,y.2 ≠ .cell)→
  (names.map fun (n,k)=>if (k == NameKind.free&&env.scope.kind == .function&&env.kindOf n == some .cell) then (n,NameKind.cell) else (n,k)).lookup x=some k→(k = .cell∨k = .free)→(x,NameKind.free)∈names
 | [],_,_,_,h,_=>by simp at h
 | (n,k0)::r,x,k,hc,h,hk=>by
  have ih:=@dj env r x k (fun y hy=>hc y (List.mem_cons_of_mem _ hy))
  rw[List.map_cons]at h
  by_cases hf:(k0 == NameKind.free&&env.scope.kind == .function&&env.kindOf n == some .cell)=true
  ·have hk0:k0 = .free:=by
    have:(k0 == NameKind.free)=true:=by
     rw[Bool.and_eq_true,Bool.and_eq_true]at hf; exact hf.1.1
    simpa using this
   dsimp only at h
   rw[if_pos hf,List.lookup_cons]at h
   cases hx:(x == n) with
   | true=>
    have:x=n:=by simpa using hx
    rw[this,hk0]; exact List.mem_cons_self
   | false=>rw[hx]at h; exact List.mem_cons_of_mem _ (ih h hk)
  ·dsimp only at h
   rw[if_neg hf,List.lookup_cons]at h
   cases hx:(x == n) with
   | true=>
    rw[hx]at h
    have e:k0=k:=Option.some.inj h
    have:x=n:=by simpa using hx
    rcases hk with z | z
    ·exact absurd (e.trans z) (hc (n,k0) List.mem_cons_self)
    ·rw[this,e,z]; exact List.mem_cons_self
   | false=>rw[hx]at h; exact List.mem_cons_of_mem _ (ih h hk)
def bS(X:Cx)(N0 T:List Str)(scope:Scope)(C:Addr)(fp:List Addr)(s:Shared)(H:Hp):Cx:=
 { X with N:=N0++T,s₀:=s,H₀:=H,env:=compEnvC scope (cZ X.env.cells scope.names []) C X.env,outer:=X.stack,stack:=X.stack,ex:=fp,fn:=fun _=>false,pn:=[],xe:=fun _ _=>False }
structure gN (X:Cx) (N0 T:List Str) (scope:Scope):Prop where
 kind:scope.kind = .function
 nocell:∀ y∈scope.names,y.2 ≠ .cell
 names:∀ y∈scope.names,y.2 = .local→scope.names.lookup y.1=some .local
 free:∀ y∈scope.names,y.2 = .free→X.env.kindOf y.1=some .cell∨X.env.kindOf y.1=some .free
 apart:∀ y∈scope.names,y.2 = .local→y.1∉N0
 len0:N0.length=X.N.length
 same:∀ (i:Nat) (x:Str) (k:NameKind),N0[i]? = some x→(x,k)∈scope.names→X.N[i]? = some x
theorem gu{prog:Program}{w:World}{A:Around}{R:Result→Shared→Prop}{s:Shared}{elt target iter:Expr}{ifs:List Expr}{scope:Scope}{pos:Pos}{it acc:Value}{env:Env}(I:Nat→Shared→Prop)
  (turn:∀ n s,I n s→wpAny (model prog w) A (pyNext it) (fun r s₁=>match r with
   | none=>R (.ok .next) s₁
   | some v=>wpAny (model prog w) A (letOwnedTupleGo target it v) (fun _ s₀=>wpAny (model prog w) A (assign target env v) (fun _ s₂=>
     wpAny (model prog w) A (forIn ifs true fun c r=>if r=true then do let ok ← isTrue c env (eval c env); pure (ForInStep.yield ok) else pure (ForInStep.yield r)) (fun ok s₃=>
      if ok=true then wpAny (model prog w) A (eval elt env) (fun x s₄=>
       wpAny (model prog w) A (call (.builtin "list.append") [acc,x]) (fun _ s₅=>∃ m,m<n∧I m s₅) (fun _ _=>False) s₄) (fun _ _=>False) s₃
      else ∃ m,m<n∧I m s₃) (fun _ _=>False) s₂) (fun _ _=>False) s₀) (fun _ _=>False) s₁) (fun _ _=>False) s)
  (n:Nat) (h:I n s) :
  codeAny (model prog w) A (.compLoop (.ListComp elt [⟨target,iter,ifs,0⟩] scope pos) 0 it acc env) R s:=by
 refine codeAny_loop rfl I (fun n s hI=>?_) n h
 show wpAny _ A ((compTurn (.ListComp elt [⟨target,iter,ifs,0⟩] scope pos) 0 it acc env).onRaise (fun x=>do noteFrame x env; theTreesLotGoes x)) _ _ s
 refine wpAny_noted ?_
 rw[compTurn_list]
 refine wpAny_bind (wpAny_standAt (wpAny_bind (wpAny_mono (turn n s hI) (fun r s₁ h₁=>?_) fun _ _ h'=>h'.elim)))
 cases r with
 | none=>exact wpAny_pure h₁
 | some v=>
  refine wpAny_bind (wpAny_mono h₁ (fun _ s₀ h₀=>?_) fun _ _ h'=>h'.elim)
  refine wpAny_bind (wpAny_mono h₀ (fun _ s₂ h₂=>wpAny_bind (wpAny_mono h₂ (fun ok s₃ h₃=>?_) fun _ _ h'=>h'.elim)) fun _ _ h'=>h'.elim)
  cases ok with
  | false=>exact wpAny_pure ⟨rfl,h₃⟩
  | true=>
   exact wpAny_bind (wpAny_bind (wpAny_mono h₃ (fun x s₄ h₄=>wpAny_bind (wpAny_mono h₄ (fun _ s₅ h₅=>wpAny_pure (wpAny_pure ⟨rfl,h₅⟩)) fun _ _ h'=>h'.elim)) fun _ _ h'=>h'.elim))
def PIfs(X:Cx)(ifs:List Expr)(tc:TT):Prop:=
 ∀ (pins:List (Addr × Obj)) (s:Shared) (σ : St) (H:Hp) (Q:Bool→Hp→Prop),Inv X pins σ H s→tc σ H Q→
  wpAny (model X.prog X.w) X.A (forIn ifs true fun c r=>if r=true then do let ok ← isTrue c X.env (eval c X.env); pure (ForInStep.yield ok) else pure (ForInStep.yield r)) (TP X pins σ Q) X.xe s
def nX:TT:=fun _ H Q=>Q true H
theorem iC{X:Cx}:PIfs X [] nX:=fun _ _ _ H _ I h=>wpAny_tests_nil ⟨H,I,h⟩
theorem u_{X:Cx}{c:Expr}{tc:TT}(hc:PT X c tc):PIfs X [c] tc:=fun pins s σ H Q I h=>wpAny_tests_one (hc pins s σ H Q I h)
def tW(g:TG)(n:Nat):Prop:=∀ x σ H Q,g x σ H Q→g x σ H fun σ' H'=>Q σ' H'∧σ'.length=σ.length∧∀ k,k<n→σ'[k]? = σ[k]?
def si(g:dZ)(n:Nat):Prop:=∀ x σ H Q,g x σ H Q→g x σ H fun σ' H'=>Q σ' H'∧σ'.length=σ.length∧∀ k,k<n→σ'[k]? = σ[k]?
theorem eW{i n:Nat}(h:n≤i):tW (fU i) n:=fun x σ H Q q=>⟨q,by simp,fun k hk=>by rw[List.getElem?_set_ne (by omega)]⟩
theorem v1{n:Nat}:si qj n:=fun x σ H Q q=>⟨q.1,q.2,rfl,fun _ _=>rfl⟩
def rT(g:TG):Prop:=∀ x σ H Q Q',(∀ σ' H',Q σ' H'→Q' σ' H')→g x σ H Q→g x σ H Q'
def jv(g:dZ):Prop:=∀ x σ H Q Q',(∀ σ' H',Q σ' H'→Q' σ' H')→g x σ H Q→g x σ H Q'
theorem jV{i:Nat}:rT (fU i):=fun x σ H Q Q' h q=>h _ _ q
theorem pV:jv qj:=fun x σ H Q Q' h q=>⟨q.1,h _ _ q.2⟩
theorem ve{t:TG}{u:dZ}(h1:rT t)(h2:jv u):jv (lz t u):=fun x σ H Q Q' h ⟨v,r,e,q⟩=>⟨v,r,e,h1 _ _ _ _ _ (fun σ' H' z=>h2 _ _ _ _ _ h z) q⟩
theorem kA{t:TG}{u:dZ}{n:Nat}(h1:tW t n)(m1:rT t)(h2:si u n)(m2:jv u):si (lz t u) n:=fun x σ H Q ⟨v,r,e,q⟩=>by
 refine⟨v,r,e,?_⟩
 refine m1 _ _ _ _ _ (fun σ' H' z=>?_) (h1 _ _ _ _ q)
 obtain⟨z,l1,k1⟩:=z
 exact m2 _ _ _ _ _ (fun σ2 H2 y=>⟨y.1,y.2.1.trans l1,fun k hk=>(y.2.2 k hk).trans (k1 k hk)⟩) (h2 _ _ _ _ z)
theorem xm{K:PySem.W.Frag}{m n:Nat}{t:dZ}(h:si t n):tW (qh K m t) n:=fun x σ H Q ⟨a,xs,e,q,l,z⟩=>⟨a,xs,e,q,l,h _ _ _ _ z⟩
def fz(J:It)(g:TG)(tc:TT)(te:TE)(nT:Nat)(σ : St)(D:Addr)(Q:VK)(H:Hp):Prop:=
 ∃ W:Nat→Nat→List V→Hp→Prop,(∃ m,W 0 m [] H)∧∀ i m ys H2,W i m ys H2→
  (J.stop i H2∧Q (.ref D) H2)∨(J.go i H2∧∀ x H',J.yld i H2 x H'→g x (σ++List.replicate nT none) H' fun σ2 H3=>tc σ2 H3 fun b H4=>
   if b=true then te σ2 H4 fun y H5=>H5 D=some (.lst ys)∧ys.length<sizeLine∧∃ m',m'<m∧W (i+1) m' (ys++[y]) (upd H5 D (.lst (ys++[y]))) else ∃ m',m'<m∧W (i+1) m' ys H4)
def wy(wi:TI)(g:TG)(tc:TT)(te:TE)(nT:Nat):TE:=fun σ H Q=>wi σ H fun J H1=>∀ D,H1 D=none→fz J g tc te nT σ D Q (upd H1 D (.lst []))
theorem HOk.sameBut{P:Program}{w:World}{H:Hp}{h h':Heap}{C:Addr}(x:HOk P w H h)(hs:Heap.SameBut C h h')(hC:H C=none):HOk P w H h':=fun a o e=>
 (x a o e).stay (fun b u hb q=>(hs.2 b (by
  rintro rfl
  rcases hb with z | z
  ·rw[z]at hC; rw[hC]at e; cases e
  ·rw[hC]at z; cases z)).trans q) (fun _ q=>q) fun _ _ q=>q
section
variable{X:Cx}{N0 T:List Str}{scope:Scope}{tg elt iter:Expr}{ifs:List Expr}{pos:Pos}{wi:TI}{g:TG}{tc:TT}{te:TE}
theorem tS{pins:List (Addr × Obj)}{σ : St}{H:Hp}{s:Shared}{E:Value→Shared→Prop}{it:Addr}{fp:List Addr}{tn:Nat→Heap→Prop}{J:It}{Q:VK}{RR:Value→Addr→Result→Shared→Prop}
  (S:gN X N0 T scope) (hc:X.calm=true)
  (hg:∀ C fp s H,PG (bS X N0 T scope C fp s H) tg g) (hfr:tW g X.N.length) (hi:∀ C fp s H,PIfs (bS X N0 T scope C fp s H) ifs tc) (he:∀ C fp s H,PE (bS X N0 T scope C fp s H) elt te)
  (I:Inv X pins σ H s) (Tn:iI X.prog X.w X.K tg J fp it tn) (st:tn 0 s.heap) (hf:∀ b∈fp,eX X pins H b)
  (h:∀ D,H D=none→fz J g tc te T.length σ D Q (upd H D (.lst [])))
  (hRR:∀ D C s' H' m,s'.heap.Ns C m→H' C=none→C≠X.env.locals→(∀ x c,X.env.cells.lookup x=some c→c≠C)→(∀ p∈X.pn++pins,p.1≠C)→X.s₀.heap.objs.size≤C→Inv X pins σ H' s'→
   (∀ h',Heap.SameBut C s'.heap h'→Inv X pins σ H' { s' with heap:=h' })→Q (.ref D) H'→RR (.ref D) C (.ok .next) s') :
  wpAny (model X.prog X.w) X.A (newList []) (fun acc s₃=>wpAny (model X.prog X.w) X.A (newFunctionEnv scope X.env.globals (cZ X.env.cells scope.names []) [] X.env.qual none .none (some X.env)) (fun cenv s₄=>
   codeAny (model X.prog X.w) X.A (.compStart (.ListComp elt [⟨tg,iter,ifs,0⟩] scope pos) 0 (.ref it) acc { cenv with scope:=relabel scope X.env }) (RR acc cenv.locals) s₄) E s₃) E s:=by
 refine wpAny_newObj_type (wpAny_newFunctionEnv S.nocell (by intro y hy; simp at hy) (fun h₁ hns₁ hsb₁=>?_) S.kind)
 dsimp only at hns₁ hsb₁ ⊢
 generalize hH2:s.heap.push { cls:=.type "list", dict:=none,data:=.seq ([]:List Value).toArray }=P2 at hns₁ hsb₁ ⊢
 have hC:P2.objs.size=s.heap.objs.size+1:=by rw[← hH2,Heap.size_push]
 -- the new list D, the block's names C
 obtain⟨D,hD⟩ : ∃ D:Nat,D=s.heap.objs.size:=⟨_,rfl⟩
 obtain⟨C,hCC⟩ : ∃ C:Nat,C=P2.objs.size:=⟨_,rfl⟩
 rw[← hCC]at hns₁ hsb₁ hC ⊢
 rw[← hD]at hC ⊢
 have hDC:D≠C:=by omega
 have hDlt:D<C:=by omega
 have neD:∀ b o,s.heap.get? b=some o→b≠D:=fun b o e=>hD ▸ Nat.ne_of_lt (Heap.lt_size e)
 have neC:∀ b o,s.heap.get? b=some o→b≠C:=fun b o e=>Nat.ne_of_lt (Nat.lt_trans (hD ▸ Heap.lt_size e) hDlt)
 have old:∀ b o,s.heap.get? b=some o→h₁.get? b=some o:=fun b o e=>hsb₁.extBut b o (neC b o e) (Heap.get?_push_of_some _ (hH2 ▸ Heap.get?_push_of_some _ e))
 have hHD:H D=none:=I.hok.fresh (by omega)
 have hHC:H C=none:=I.hok.fresh (by omega)
 have dat:h₁.get? D=some { cls:=.type "list", data:=.seq ([]:List Value).toArray 0 }:=by
  refine hsb₁.extBut _ _ hDC (Heap.get?_push_of_some _ ?_)
  rw[← hH2,hD]
  exact Heap.get?_push_size _ rfl
 -- the block's context stands
 have hcl:∀ x c,(cZ X.env.cells scope.names []).lookup x=some c→X.env.cells.lookup x=some c:=fun x c e=>
  ir (fun y hy hk=>I.ok.has y.1 (S.free y hy hk)) (fun y c z=>by simp at z) e
 have okC:(bS X N0 T scope C fp s H).Ok:=by
  refine⟨I.ok.mod,?_,I.ok.glob,I.ok.blt,?_,fun x y c e1 e2=>I.ok.inj x y c (hcl x c e1) (hcl y c e2),fun x hx=>?_,fun x c z _=>(by cases z),I.ok.hd,I.ok.frames,.inl rfl,fun b hb=>⟨?_,fun x c e=>(hf b hb).2.2.2.2.1 x c (hcl x c e)⟩,
   I.bs,?_,fun b o e hb=>?_,fun b hb z=>?_,I.stack,I.stkFree⟩
  ·show (relabel scope X.env).kind = .function
   exact S.kind
  ·show s.heap.objs.size≤C
   omega
  ·have hx':(relabel scope X.env).names.lookup x=some .cell∨(relabel scope X.env).names.lookup x=some .free:=hx
   have m:(x,NameKind.free)∈scope.names:=by
    rcases hx' with z | z
    ·exact dj S.nocell z (.inl rfl)
    ·exact dj S.nocell z (.inr rfl)
   exact gg m
  ·show b≠C
   obtain⟨o,e,_⟩:=Tn.obj 0 _ st b hb
   exact neC b o e
  ·exact Nat.le_trans I.ok.bsz I.sz
  ·obtain⟨_,_,_,z,_⟩:=hf b hb
   rcases z with z | z
   ·exact I.ok.noex b o e z
   ·exact absurd (Nat.lt_of_lt_of_le (Nat.lt_of_lt_of_le (Heap.lt_size e) I.ok.bsz) z) (Nat.lt_irrefl _)
  ·obtain⟨_,z1,z2,_⟩:=hf b hb
   rcases List.mem_cons.mp (I.stkSub b z) with q | q
   ·exact z1 q
   ·exact z2 q
 have I1:Inv (bS X N0 T scope C fp s H) [] (σ++List.replicate T.length none) (upd H D (.lst [])) { s with heap:=h₁,toks:=s.toks+([]:List (Str × Value)).length }:=by
  refine⟨okC,rfl,I.bare,Un.laid (h:=s.heap) old (by omega) hHD,⟨_,hns₁,fun i x v e1 e2 e3=>?_⟩,fun x c e=>?_,?_,fun x c e=>?_,fun p hp=>(by simp[bS]at hp),I.hok.laid old (by omega) ?_,?_⟩
  ·have e1':(N0++T)[i]? = some x:=e1
   have hl:=I.len
   have hl0:=S.len0
   have hi:i<σ.length:=by
    rcases Nat.lt_or_ge i σ.length with z | z
    ·exact z
    ·rw[List.getElem?_append_right z]at e2
     rw[List.getElem?_replicate]at e2
     split at e2 <;> cases e2
   rw[List.getElem?_append_left hi]at e2
   rw[List.getElem?_append_left (by omega)]at e1'
   have hxN:x∈N0:=List.mem_of_getElem? e1'
   have e3':(relabel scope X.env).names.lookup x=some .local∨(relabel scope X.env).names.lookup x=some .cell∨(relabel scope X.env).names.lookup x=some .free:=e3
   have fr:(relabel scope X.env).names.lookup x=some .cell∨(relabel scope X.env).names.lookup x=some .free:=by
    rcases e3' with z | z | z
    ·exfalso
     -- a local of the block is no tracked name
     have key:∀ (names:List (Str × NameKind)),(names.map fun (n,k)=>if (k == NameKind.free&&X.env.scope.kind == .function&&X.env.kindOf n == some .cell) then (n,NameKind.cell) else (n,k)).lookup x=some .local→(x,NameKind.local)∈names:=by
      intro names
      induction names with
      | nil=>intro z; simp at z
      | cons y r ih=>
       obtain⟨n,k⟩:=y
       intro z
       rw[List.map_cons]at z
       dsimp only at z
       by_cases hfk:(k == NameKind.free&&X.env.scope.kind == .function&&X.env.kindOf n == some .cell)=true
       ·rw[if_pos hfk,List.lookup_cons]at z
        cases hx:(x == n) with
        | true=>rw[hx]at z; cases z
        | false=>rw[hx]at z; exact List.mem_cons_of_mem _ (ih z)
       ·rw[if_neg hfk,List.lookup_cons]at z
        cases hx:(x == n) with
        | true=>
         rw[hx]at z
         have ek:k = .local:=Option.some.inj z
         have en:x=n:=by simpa using hx
         rw[ek,en]; exact List.mem_cons_self
        | false=>rw[hx]at z; exact List.mem_cons_of_mem _ (ih z)
     exact S.apart (x,.local) (key _ z) rfl hxN
    ·exact .inl z
    ·exact .inr z
   have m:(x,NameKind.free)∈scope.names:=by
    rcases fr with z | z
    ·exact dj S.nocell z (.inl rfl)
    ·exact dj S.nocell z (.inr rfl)
   have kX:=S.free _ m rfl
   obtain⟨mm,hn,hl'⟩:=I.loc
   obtain⟨u,r,lk⟩:=hl' i x v (S.same i x _ e1' m) e2 (.inr kX)
   refine⟨u,r,.inr ⟨fr,?_⟩⟩
   rcases lk with ⟨z,_⟩ | ⟨_,c,ec,cc⟩
   ·rcases kX with q | q
    ·rw[q]at z; cases z
    ·rw[q]at z; cases z
   ·obtain⟨c',ec'⟩:=gg (cells:=X.env.cells) (acc:=[]) m
    have:=hcl x c' ec'
    rw[ec]at this; cases this
    exact⟨c,ec',cc.keeps old⟩
  ·obtain⟨v,z⟩:=I.cell x c (hcl x c e)
   exact⟨v,z.keeps old⟩
  ·show upd H D (.lst []) C=none
   rw[ap (Ne.symm hDC)]; exact hHC
  ·have q:=I.freeC x c (hcl x c e)
   obtain⟨v,o,z,_⟩:=I.cell x c (hcl x c e)
   rw[ap (neD c o z)]; exact q
  ·exact⟨Nat.zero_le _,[],0,.nil,dat⟩
  ·show (σ++List.replicate T.length none).length=(N0++T).length
   rw[List.length_append,List.length_append,List.length_replicate,I.len,S.len0]
 have st1:tn 0 h₁:=Tn.keep _ _ _ st fun b _ o e=>old b o e
 have fp1:∀ {H':Hp},(∀ b∈fp,H' b=none)→∀ b∈fp,eX (bS X N0 T scope C fp s H) [] H' b:=fun hn b hb=>
  ⟨hn b hb,(okC.exf b hb).1,okC.exfs b hb,.inl hb,(okC.exf b hb).2,fun p hp=>(by simp[bS]at hp)⟩
 have fp0:∀ b∈fp,upd H D (.lst []) b=none:=fun b hb=>by
  obtain⟨o,e,_⟩:=Tn.obj 0 _ st b hb
  rw[ap (neD b o e)]; exact(hf b hb).1
 obtain⟨W,⟨m0,w0⟩,turn⟩:=h D hHD
 have loop:∀ s₃ : Shared,s₃={ s with heap:=h₁,toks:=s.toks+([]:List (Str × Value)).length }→
   codeAny (model X.prog X.w) X.A (.compLoop (.ListComp elt [⟨tg,iter,ifs,0⟩] scope pos) 0 (.ref it) (.ref D) (compEnvC scope (cZ X.env.cells scope.names []) C X.env)) (RR (.ref D) C) s₃:=by
  rintro s₃ rfl
  refine gu (fun n s'=>∃ i H' ys,Inv (bS X N0 T scope C fp s H) [] (σ++List.replicate T.length none) H' s'∧tn i s'.heap∧(∀ b∈fp,H' b=none)∧W i n ys H') ?_ m0 ⟨0,_,[],I1,st1,fp0,w0⟩
  rintro n s3 ⟨i,H3,ys,I3,st3,fr3,w3⟩
  rcases turn i n ys H3 w3 with ⟨stop,qn⟩ | ⟨go,step⟩
  ·refine aT (Tn.done (bS X N0 T scope C fp s H) rfl rfl rfl hc i [] s3 _ H3 (fun _ _=>False) I3 (fp1 fr3) st3 stop) fun r s4 ⟨hr,I4⟩=>?_
   subst hr
   obtain⟨m,hm,_⟩:=I4.loc
   have hch:∀ b∈fp,(b∈X.ex∨X.s₀.heap.objs.size≤b)∧b≠X.env.locals∧(∀ x c,X.env.cells.lookup x=some c→c≠b)∧∀ p∈X.pn++pins,p.1≠b:=fun b hb=>
    ⟨(hf b hb).2.2.2.1,(hf b hb).2.1,(hf b hb).2.2.2.2.1,(hf b hb).2.2.2.2.2⟩
   have u4:Un (gn X.stack) fp H H3 s.heap s4.heap:=I4.base
   refine hRR D C s4 H3 m hm I4.free (Ne.symm (Nat.ne_of_lt (Nat.lt_trans (hD ▸ I.lt) hDlt))) (fun x c e=>?_) (fun p hp=>?_) (Nat.le_trans (hD ▸ I.sz) (Nat.le_of_lt hDlt)) (I.call' (ch:=fp) I4.os u4 I4.hok I4.bare hch) (fun h' hs'=>?_) qn
   ·obtain⟨v,o,q,_⟩:=I.cell x c e
    exact neC c o q
   ·exact neC _ _ (I.pin p hp).1
   ·refine I.call' (ch:=fp) (s':={ s4 with heap:=h' }) I4.os ⟨fun b o q n' hb hx=>(hs'.2 b (neC b o q)).trans (u4.keep b o q n' hb hx),fun b o q n' hb hx=>?_,u4.free,fun b o q hx=>?_,u4.tups,u4.frzs,u4.tbls⟩ (I4.hok.sameBut hs' I4.free) I4.bare hch
    ·obtain⟨sl,e⟩:=u4.slot b o q n' hb hx
     exact⟨sl,(hs'.2 b (neC b o q)).trans e⟩
    ·obtain⟨o',e⟩:=u4.there b o q hx
     exact⟨o',(hs'.2 b (neC b o q)).trans e⟩
  ·refine aT (Tn.item (bS X N0 T scope C fp s H) rfl rfl rfl hc i [] s3 _ H3 (fun _ _=>False) I3 (fp1 fr3) st3 go) fun r s4 ⟨u,hr,h4⟩=>?_
   subst hr
   refine aT h4 fun _ s5 ⟨x,H5,I5,r5,y5,st5,fr5⟩=>?_
   have I5':=I5.pinned (fp1 fr5) (Tn.obj _ _ st5)
   refine aT (hg C fp s H _ s5 _ H5 x u _ I5' r5 (hfr _ _ _ _ (step x H5 y5))) fun _ s6 ⟨σ6,H6,I6,q6,l6,k6⟩=>?_
   have back:∀ {H7:Hp} {s7:Shared},Inv (bS X N0 T scope C fp s H) ([]++gB fp s5.heap) σ6 H7 s7→(∀ {m':Nat} {zs:List V},m'<n→W (i+1) m' zs H7→∃ m,m<n∧∃ i H' ys,Inv (bS X N0 T scope C fp s H) [] (σ++List.replicate T.length none) H' s7∧tn i s7.heap∧(∀ b∈fp,H' b=none)∧W i m ys H'):=fun {H7 s7} I7 {m' zs} hm w7=>by
    refine⟨m',hm,i+1,H7,zs,I7.unpinned.weak (by rw[l6]) (fun j v e=>?_),Tn.keep _ _ _ st5 fun b hb o e=>(I7.pin (b,o) (List.mem_append_right _ (List.mem_append_right _ (eL hb e)))).1,fun b hb=>?_,w7⟩
    ·have hj:j<σ.length:=by
      rcases Nat.lt_or_ge j σ.length with z | z
      ·exact z
      ·rw[List.getElem?_append_right z,List.getElem?_replicate]at e
       split at e <;> cases e
     rw[k6 j (by rw[← I.len]; exact hj)]
     exact e
    ·obtain⟨o,e,d⟩:=Tn.obj _ _ st5 b hb
     exact(I7.pin (b,o) (List.mem_append_right _ (List.mem_append_right _ (eL hb e)))).2.1
   refine aT (hi C fp s H _ s6 σ6 H6 _ I6 q6) fun b s7 ⟨H7,I7,q7⟩=>?_
   cases b with
   | false=>
    obtain⟨m',hm,w7⟩:=(show ∃ m',m'<n∧W (i+1) m' ys H7 from by simpa using q7)
    exact back I7 hm w7
   | true=>
    rw[if_pos rfl]at q7
    refine aT (he C fp s H _ s7 σ6 H7 _ I7 q7) fun v s8 ⟨y,H8,I8,r8,hD8,hz,m',hm,w8⟩=>?_
    refine aT (kR (X:=bS X N0 T scope C fp s H) _ s8 σ6 H8 (.ref D) [y] (.ref D) [v] (fun _ H9=>H9=upd H8 D (.lst (ys++[y]))) I8 rfl (.cons r8 .nil) ⟨D,ys,y,rfl,rfl,hD8,hz,rfl⟩) fun v9 s9 ⟨y9,H9,I9,_,e9⟩=>?_
    subst e9
    exact back I9 hm w8
 exact codeAny_compStart_list (loop _ rfl) (Tn.self X.A 0 _ _ _ st1 (loop _ rfl))
theorem h8(S:gN X N0 T scope)(hc:X.calm=true)(hI:PI X tg iter wi)
  (hg:∀ C fp s H,PG (bS X N0 T scope C fp s H) tg g) (hfr:tW g X.N.length) (hi:∀ C fp s H,PIfs (bS X N0 T scope C fp s H) ifs tc) (he:∀ C fp s H,PE (bS X N0 T scope C fp s H) elt te)
  (hs:∀ x,foldedSetIterable iter X.env x=pure x:=by intro _; rfl):PE X (.ListComp elt [⟨tg,iter,ifs,0⟩] scope pos) (wy wi g tc te T.length):=by
 intro pins s σ H Q I h
 rw[eval_ListComp]
 refine wpAny_comprehension_free (use:=none) rfl hs (lj fun x hx hk=>I.ok.has x.1 (S.free x hx hk)) S.kind S.names (aT (hI pins s σ H _ I h) fun v s1 h1=>aT h1 fun itv s2 h2=>?_)
 obtain⟨it,fp,tn,J,H2,e,I2,Tn,st2,f2,q2⟩:=h2
 subst e
 refine tS (RR:=fun acc C=>compPost (model X.prog X.w) X.A X.xe none (EP X pins σ Q) acc C) S hc hg hfr hi he I2 Tn st2 f2 q2 ?_
 intro D C s' H' m hn hC hL hcells hpins hfresh I' hI' q
 exact⟨m,hn,fun h' hs'=>⟨.ref D,H',hI' h' hs',rfl,q⟩⟩
end
end L2
namespace L2
open PySem PySem.Spec PyProof.Rows
theorem Vals.of:∀ {xs:List V} {us:List Value} {i:Nat} {u:Value},Vals xs us→us[i]? = some u→∃ x,xs[i]? = some x∧RelV x u
 | _,_,0,u,.cons r _,e=>⟨_,rfl,by simp at e; subst e; exact r⟩
 | _,_,i+1,u,.cons _ rr,e=>by
  obtain⟨x,hx,r⟩:=Vals.of (i:=i) rr (by simpa using e)
  exact⟨x,by simpa using hx,r⟩
theorem ku:∀ {ss:List Str} {us:List Value},Vals (ss.map V.str) us→StrsAre us ss
 | [],_,.nil=>.nil
 | s::ss,_,.cons r rr=>by
  obtain⟨t,rfl⟩:=r
  exact .cons s t (ku rr)
section
variable{X:Cx}
def cz(H:Hp):V→Option String
 | .non=>some "NoneType"
 | .bl _=>some "bool"
 | .int _=>some "int"
 | .str _=>some "str"
 | .ref a=>match H a with
  | some (.lst _)=>some "list"
  | some (.frz _ (.lst _))=>some "list"
  | some (.tup _)=>some "tuple"
  | some (.dK _)=>some "dict"
  | some (.dT _)=>some "dict"
  | _=>none
 | _=>none
theorem uo{K:PySem.W.Frag}{H:Hp}:∀ {x:V} {T:String},cz H x=some T→d0 K H x (.type T)
 | .non,T,h=>by cases h; exact .non
 | .bl b,T,h=>by cases h; exact .bl b
 | .int i,T,h=>by cases h; exact .int i
 | .str y,T,h=>by cases h; exact .str y
 | .byt _,T,h=>by cases h
 | .flt _,T,h=>by cases h
 | .ty _,T,h=>by cases h
 | .ref a,T,h=>by
  cases e:H a with
  | none=>simp[cz,e]at h
  | some o=>
   cases o with
   | lst xs=>simp[cz,e]at h; subst h; exact .lst e
   | tup xs=>simp[cz,e]at h; subst h; exact .tup e
   | dK xs=>simp[cz,e]at h; subst h; exact .dK e
   | dT xs=>simp[cz,e]at h; subst h; exact .dT e
   | frz ob u=>
    cases u with
    | lst xs=>simp[cz,e]at h; subst h; exact .frz e
    | _=>simp[cz,e]at h
   | _=>simp[cz,e]at h
def wW(T C:String):Bool:=T == C||(T == "bool" && C == "int")
theorem uY(K:PySem.W.Frag){T C:String}(hT:T∈["NoneType", "bool", "int", "str", "list", "tuple", "dict"]) (hC:C∈["bool", "int", "str", "list", "tuple"]):PySem.W.kitOne K (.type T) (.type C)=some (wW T C):=by
 simp only[List.mem_cons,List.mem_nil_iff,or_false]at hT hC
 rcases hT with rfl | rfl | rfl | rfl | rfl | rfl | rfl <;> rcases hC with rfl | rfl | rfl | rfl | rfl <;> (with_unfolding_all rfl)
theorem qU{H:Hp}{x:V}{T:String}(h:cz H x=some T):T∈["NoneType", "bool", "int", "str", "list", "tuple", "dict"]:=by
 cases x with
 | ref a=>
  cases e:H a with
  | none=>simp[cz,e]at h
  | some o=>
   cases o with
   | frz ob u=>cases u <;> simp[cz,e]at h <;> subst h <;> decide
   | _=>simp[cz,e]at h <;> subst h <;> decide
 | _=>first | (cases h; decide) | cases h
def yt:List V→Hp→VK→Prop:=fun xs H Q=>∃ (x:V) (T C:String),xs=[x,.ty C]∧cz H x=some T∧C∈["bool", "int", "str", "list", "tuple"]∧Q (.bl (wW T C)) H
theorem pU{H:Hp}{Q:VK}(x:V)(C:String):yt [x,.ty C] H Q=∃ T,cz H x=some T∧C∈["bool", "int", "str", "list", "tuple"]∧Q (.bl (wW T C)) H:=
 propext ⟨fun ⟨_,T,_,e,q⟩=>by cases e; exact⟨T,q⟩,fun ⟨T,q⟩=>⟨x,T,C,rfl,q⟩⟩
theorem iP:CallR X (.builtin "isinstance") yt:=by
 intro pins s σ H xs us Q I r h
 obtain⟨x,T,C,rfl,hT,hC,q⟩:=h
 obtain⟨u,w',rfl,ru,rw'⟩:=qy r
 cases rw'
 exact tI I ru (uo hT) (uY X.K (qU hT) hC) fun tk=>⟨.bl (wW T C),H,I.tok tk,rfl,q⟩
def qS(K:PySem.W.Frag):V→List V→Hp→VK→Prop:=fun x vs H Q=>∃ (sep:Str) (p:Addr) (ss:List Str),x = .str sep∧vs=[.ref p]∧SqL K H p (ss.map V.str)∧(ss.map (·.length)).sum+ss.length * sep.length≤16777216∧Q (.str (Txt.join sep ss)) H
theorem xT:MtR X "str.join" (qS X.K):=by
 intro pins s σ H x xs v us Q I rx r h
 obtain⟨sep,p,ss,rfl,rfl,hq,hz,q⟩:=h
 obtain⟨t,rfl⟩:=rx
 obtain⟨u,rfl,ru⟩:=cU r
 cases ru
 obtain⟨its,rv,pl,_⟩:=I.list hq
 exact join_list pl.isList (by simpa using ku rv) hz fun t' k=>⟨.str (Txt.join sep ss),H,I.tok k,⟨t',rfl⟩,q⟩
end
def iE(J:It)(g:TG)(tb:TS)(D:de)(σ : St)(H:Hp):Prop:=∃ W:Nat→Nat→St→Hp→Prop,(∃ m,W 0 m σ H)∧∀ i m σ H,W i m σ H→
 (J.stop i H∧D.nx σ H)∨(J.go i H∧∃ N:St→Hp→Prop,(∀ σ' H',N σ' H'→∃ m',m'<m∧W (i+1) m' σ' H')∧∀ x H',J.yld i H x H'→g x σ H' fun σ2 H2=>tb { D with nx:=N,ct:=N,bk:=D.nx } σ2 H2)
theorem pW(wi:TI)(g:TG)(tb:TS)(D:de)(σ : St)(H:Hp):zT wi g tb D σ H=wi σ H fun J H1=>iE J g tb D σ H1:=rfl
theorem jA{J:It}{g:TG}{tb:TS}{D:de}{σ : St}{H:Hp}(n:Nat)(Pv:Nat→St→Hp→Prop)(h0:Pv 0 σ H)(hgo:∀ i σ H,i<n→Pv i σ H→J.go i H)(hst:∀ σ H,Pv n σ H→J.stop n H)
  (hs:∀ i σ H x H',i<n→Pv i σ H→J.yld i H x H'→g x σ H' fun σ2 H2=>tb { D with nx:=Pv (i+1),ct:=Pv (i+1),bk:=D.nx } σ2 H2) (hd:∀ σ H,Pv n σ H→D.nx σ H):iE J g tb D σ H:=by
 refine⟨fun i m σ H=>m=n - i∧i≤n∧Pv i σ H,⟨n,by simp,Nat.zero_le _,h0⟩,?_⟩
 rintro i m σ H ⟨rfl,hi,p⟩
 by_cases hlt:i<n
 ·exact .inr ⟨hgo i σ H hlt p,Pv (i+1),fun σ' H' p'=>⟨n - (i+1),by omega,rfl,hlt,p'⟩,fun x H' y=>hs i σ H x H' hlt p y⟩
 ·have e:i=n:=by omega
  subst e
  exact .inl ⟨hst σ H p,hd σ H p⟩
theorem cR{K:PySem.W.Frag}{a:Addr}{xs:List V}{g:TG}{tb:TS}{D:de}{σ : St}{H:Hp}(Pv:Nat→St→Hp→Prop)(h0:Pv 0 σ H)(hl:∀ i σ H,i≤xs.length→Pv i σ H→SqL K H a xs)
  (hs:∀ i x σ H,xs[i]? = some x→Pv i σ H→g x σ H fun σ2 H2=>tb { D with nx:=Pv (i+1),ct:=Pv (i+1),bk:=D.nx } σ2 H2) (hd:∀ σ H,Pv xs.length σ H→D.nx σ H):iE (og K a) g tb D σ H:=
 v4 Pv h0 hl hs hd
theorem eO{lo:Int}{n:Nat}{g:TG}{tb:TS}{D:de}{σ : St}{H:Hp}(Pv:Nat→St→Hp→Prop)(h0:Pv 0 σ H)
  (hs:∀ i σ H,i<n→Pv i σ H→g (.int (lo+i)) σ H fun σ2 H2=>tb { D with nx:=Pv (i+1),ct:=Pv (i+1),bk:=D.nx } σ2 H2) (hd:∀ σ H,Pv n σ H→D.nx σ H):iE (jc lo n) g tb D σ H:=
 tZ Pv h0 hs hd
def gf(n i:Nat)(Pv:Nat→List V→Hp→Prop)(D:Addr)(ys:List V)(y:V)(H:Hp):Prop:=
 H D=some (.lst ys)∧ys.length<sizeLine∧∃ m',m'<n - i∧(m'=n - (i+1)∧i+1≤n∧Pv (i+1) (ys++[y]) (upd H D (.lst (ys++[y]))))
theorem rH{n i:Nat}{Pv:Nat→List V→Hp→Prop}{D:Addr}{ys:List V}{y:V}{H:Hp}(hi:i<n)(hlen:ys.length=i)(hz:n≤sizeLine)(h1:H D=some (.lst ys))(h2:Pv (i+1) (ys++[y]) (upd H D (.lst (ys++[y])))):gf n i Pv D ys y H:=
 ⟨h1,by omega,n - (i+1),by omega,rfl,hi,h2⟩
def iX(n i:Nat)(Pv:Nat→List V→Hp→Prop)(D:Addr)(ys:List V)(te:TE)(σ : St)(H:Hp):Prop:=
 if true=true then te σ H (gf n i Pv D ys) else ∃ m',m'<n - i∧(m'=n - (i+1)∧i+1≤n∧Pv (i+1) ys H)
theorem my{n i:Nat}{Pv:Nat→List V→Hp→Prop}{D:Addr}{ys:List V}{te:TE}{σ : St}{H:Hp}:iX n i Pv D ys te σ H=te σ H (gf n i Pv D ys):=by
 unfold iX; rw[if_pos rfl]
theorem mV{J:It}{g:TG}{te:TE}{nT:Nat}{σ : St}{D:Addr}{Q:VK}{H:Hp}(n:Nat)(Pv:Nat→List V→Hp→Prop)(h0:Pv 0 [] H)(hgo:∀ i ys H,i<n→Pv i ys H→J.go i H)(hst:∀ ys H,Pv n ys H→J.stop n H)
  (hs:∀ i ys H x H',i<n→Pv i ys H→J.yld i H x H'→g x (σ++List.replicate nT none) H' (iX n i Pv D ys te))
  (hd:∀ ys H,Pv n ys H→Q (.ref D) H):fz J g nX te nT σ D Q H:=by
 refine⟨fun i m ys H=>m=n - i∧i≤n∧Pv i ys H,⟨n,by simp,Nat.zero_le _,h0⟩,?_⟩
 rintro i m ys H ⟨rfl,hi,p⟩
 by_cases hlt:i<n
 ·exact .inr ⟨hgo i ys H hlt p,fun x H' y=>hs i ys H x H' hlt p y⟩
 ·have e:i=n:=by omega
  subst e
  exact .inl ⟨hst ys H p,hd ys H p⟩
theorem oy{lo:Int}{n:Nat}{g:TG}{te:TE}{nT:Nat}{σ : St}{D:Addr}{Q:VK}{H:Hp}(Pv:Nat→List V→Hp→Prop)(h0:Pv 0 [] H)
  (hs:∀ i ys H,i<n→Pv i ys H→g (.int (lo+i)) (σ++List.replicate nT none) H (iX n i Pv D ys te))
  (hd:∀ ys H,Pv n ys H→Q (.ref D) H):fz (jc lo n) g nX te nT σ D Q H:=by
 refine mV n Pv h0 (fun i ys H hi p=>hi) (fun ys H p=>Nat.le_refl _) (fun i ys H x H' hi p yl=>?_) hd
 obtain⟨rfl,rfl⟩:=yl
 exact hs i ys _ hi p
end L2
namespace L2
open PySem PySem.Spec PyProof.Rows
def y_(u:TS)(D:de)(σ : St)(H:Hp):Prop:=u D σ H
section
variable{D:de}{σ : St}{H:Hp}{Q:VK}{B:Bool→Hp→Prop}{L:List V→Hp→Prop}{R:It→Hp→Prop}{G:St→Hp→Prop}
theorem p9(t u:TS):yK t u D σ H=t { D with nx:=y_ u D } σ H:=rfl
theorem jR(u:TS):y_ u D σ H=u D σ H:=rfl
theorem ny:ww D σ H=D.nx σ H:=rfl
theorem oP(c:TT)(t u:TS):zl c t u D σ H=c σ H fun b H1=>if b=true then t D σ H1 else u D σ H1:=rfl
theorem pj(t:TE):Ak t D σ H=t σ H D.rt:=rfl
theorem lG(t:TE):xk t D σ H=t σ H fun _ H1=>D.nx σ H1:=rfl
theorem p8(t:TE)(g:TG):rE t g D σ H=t σ H fun x H1=>g x σ H1 D.nx:=rfl
theorem mM(i:Nat)(v:V):fU i v σ H G=G (σ.set i (some v)) H:=rfl
theorem pY(vs:List V):qj vs σ H G=(vs=[]∧G σ H):=rfl
theorem mi(t:TG)(u:dZ)(vs:List V):lz t u vs σ H G=∃ v r,vs=v::r∧t v σ H fun σ' H'=>u r σ' H' G:=rfl
theorem o0(K:PySem.W.Frag)(n:Nat)(t:dZ)(v:V):qh K n t v σ H G=∃ a xs,v = .ref a∧SqT K H a xs∧xs.length=n∧t xs σ H G:=rfl
theorem pF(to ti:TE)(t:mW)(v:V):yP to ti t v σ H G=to σ H fun o H1=>ti σ H1 fun i H2=>t o i v H2 fun H3=>G σ H3:=rfl
theorem pd(i:Nat):wj i σ H Q=∃ v,σ[i]? = some (some v)∧Q v H:=rfl
theorem wB(v:V):tC v σ H Q=Q v H:=rfl
theorem tK(r:R2)(ta tb:TE):uK r ta tb σ H Q=ta σ H fun x H1=>tb σ H1 fun y H2=>r x y H2 Q:=rfl
theorem sR(r:V→Hp→VK→Prop)(ta:TE):AU r ta σ H Q=ta σ H fun x H1=>r x H1 Q:=rfl
theorem mK(t:TE):rR t σ H B=t σ H fun x H'=>∃ k,x = .bl k∧B k H':=rfl
theorem wJ(t:TE):tB t σ H B=t σ H fun x H'=>∃ k,x = .bl k∧B k H':=rfl
theorem qd(t u:TT):yi t u σ H B=t σ H fun c H1=>if c=true then u σ H1 B else B false H1:=rfl
theorem uw(t u:TT):AR t u σ H B=t σ H fun c H1=>if c=true then B true H1 else u σ H1 B:=rfl
theorem pL(t:TT):yW t σ H B=t σ H fun c H1=>B (!c) H1:=rfl
theorem lB(ta tb:TE):xh ta tb σ H Q=ta σ H fun x H1=>∃ c,x = .bl c∧if c=true then tb σ H1 Q else Q (.bl false) H1:=rfl
theorem lM(ta:TE):w5 ta σ H Q=ta σ H fun x H1=>∃ c,x = .bl c∧Q (.bl (!c)) H1:=rfl
theorem sO(t:TT)(ta tb:TE):Bc t ta tb σ H Q=t σ H fun c H1=>if c=true then ta σ H1 Q else tb σ H1 Q:=rfl
theorem tM(r:List V→Hp→VK→Prop)(t:TA):tm r t σ H Q=t σ H fun vs H1=>r vs H1 Q:=rfl
theorem nG(ta:TE)(tr:TA):wR ta tr σ H L=ta σ H fun x H1=>tr σ H1 fun xs H2=>L (x::xs) H2:=rfl
theorem o_:yL σ H L=L [] H:=rfl
theorem oX(t:TA):yj t σ H Q=t σ H fun xs H1=>xs.length≤sizeLine∧∀ p,H1 p=none→Q (.ref p) (upd H1 p (.tup xs)):=rfl
theorem oJ(t:TA):yA t σ H Q=t σ H fun xs H1=>xs.length≤sizeLine∧∀ p,H1 p=none→Q (.ref p) (upd H1 p (.lst xs)):=rfl
theorem mI(sp:Sp)(dvs:List V)(E:XK)(t:TA):qN sp dvs E t σ H Q=t σ H fun vs H1=>sp (vs++dvs) H1 Q E:=rfl
theorem tG(K:PySem.W.Frag)(T:String)(r:V→List V→Hp→VK→Prop)(to:TE)(t:TA):yY K T r to t σ H Q=to σ H fun x H1=>nZ K T x H1∧t σ H1 fun xs H2=>r x xs H2 Q:=rfl
theorem pC(K:PySem.W.Frag)(T:String)(r:V→List V→Hp→VK→Prop)(to:TE):vN K T r to σ H Q=to σ H fun x H1=>nZ K T x H1∧r x [] H1 Q:=rfl
theorem kg(r r':R2)(ta tb tc:TE):uf r r' ta tb tc σ H Q=ta σ H fun x H1=>tb σ H1 fun y H2=>r x y H2 fun z H3=>∃ k,z = .bl k∧(if k=true then tc σ H3 fun w' H4=>r' y w' H4 Q else Q (.bl false) H3):=rfl
theorem tE(r:V→Option Int→Option Int→Hp→VK→Prop)(te:TE)(tl th:TO):AV r te tl th σ H Q=te σ H fun x H1=>tl σ H1 fun l H2=>th σ H2 fun u H3=>r x l u H3 Q:=rfl
theorem lK(t:TE)(O:Option Int→Hp→Prop):xl t σ H O=t σ H fun x H1=>∃ i,x = .int i∧O (some i) H1:=rfl
theorem iY(O:Option Int→Hp→Prop):pQ σ H O=O none H:=rfl
theorem nt(wi:TI)(g:TG)(tc:TT)(te:TE)(nT:Nat):wy wi g tc te nT σ H Q=wi σ H fun J H1=>∀ D,H1 D=none→fz J g tc te nT σ D Q (upd H1 D (.lst [])):=rfl
theorem oI:nX σ H B=B true H:=rfl
theorem nn(K:PySem.W.Frag)(tl:TE):qT K tl σ H R=tl σ H fun x H1=>∃ a,x = .ref a∧(∃ xs,SqL K H1 a xs)∧R (og K a) H1:=rfl
theorem n6(ta:TA):wK ta σ H R=ta σ H fun vs H1=>∃ j:Int,vs=[.int j]∧-(2 ^ 62)≤j∧j<2 ^ 62∧R (jc 0 j.toNat) H1:=rfl
theorem sV(g:Int→Int→V)(i j:Int):kK g (.int i) (.int j) H Q=Q (g i j) H:=propext ⟨fun ⟨_,_,e1,e2,q⟩=>by cases e1; cases e2; exact q,fun q=>⟨i,j,rfl,rfl,q⟩⟩
theorem w9(C:Int→Int→Prop)(g:Int→Int→V)(i j:Int):rI C g (.int i) (.int j) H Q=(C i j∧Q (g i j) H):=propext ⟨fun ⟨_,_,e1,e2,q⟩=>by cases e1; cases e2; exact q,fun q=>⟨i,j,rfl,rfl,q⟩⟩
end
structure DefAt (K:PySem.W.Frag) (mg:Str→Option Value) (x:Str) (st:Stmt):Prop where
 ex:∃ f fd,Fun K x x st f fd∧mg x=some (.ref f)
structure aQ (P:Program) (w:World) (K:PySem.W.Frag) (mg:Str→Option Value) (base:Heap) (k:Nat) (x:Str) (ps:List Str) (sp:Sp):Prop where
 ex:∃ f fd,FnOk P w K mg base gA k f fd ps sp∧Binds K fd ps []∧PySem.W.keepIn K (.ref f)=true∧mg x=some (.ref f)
section
variable{P:Program}{w:World}{K:PySem.W.Frag}{mg:Str→Option Value}{base:Heap}
theorem DefAt.cal{x:Str}{st:Stmt}{N ps:List Str}{k:Nat}{sp:Sp}(D:DefAt K mg x st)(S:aH N ps (defScope st))
  (hb:∀ (kV doc pm:Value) (an:Option Addr) (cdv ct:Value) (us:List Value),us.length=ps.length→bindArgs (PySem.W.fnOf x x (defArgs st) (defBody st) (defScope st) .none kV doc pm an cdv ct) ⟨us,[]⟩=pure (ps.zip us))
  (len:∀ vs H Q E,sp vs H Q E→vs.length=ps.length)
  (hbody:∀ (f:Addr) (cdv:Value) (A:Around) (outer:List Env) (s:Shared) (H:Hp) (vs:List V) (Q:VK) (E:XK),Room k (A.deeper (envOfC x (defScope st) s.heap.objs.size f cdv))→sp vs H Q E→
   ∃ t,PSs (gD gA P w K mg base N x (defScope st) f cdv A outer s H E).nox (defBody st) t∧t { nx:=fun _ H'=>Q .non H',rt:=Q } (start N vs) H):aQ P w K mg base (k+1) x ps sp:=by
 obtain⟨f,fd,F,m⟩:=D.ex
 exact⟨f,fd,F.ok S len fun cdv A outer s H vs Q E hr h=>hbody f cdv A outer s H vs Q E hr h,F.binds hb,F.kp,m⟩
end
section
variable{X:Cx}
theorem aB{j k:Nat}{x:Str}{ps:List Str}{sp:Sp}{p pos:Pos}{e:Expr}{es:List Expr}{t:TA}(c:aQ X.prog X.w X.K X.mg X.base j x ps sp)(hr:Room k X.A)(ha:PA X (e::es) t)(hle:j≤k:=by decide)(hg:Gl X x:=by rfl)
  (hdb:(x == ("__debug__" : Str))=false:=by decide) (he:starEach (e::es) X.env=(false,eval e X.env)::starEach es X.env:=by rfl) (hpl:(backTo pos (starEach es X.env)).any (·.1)=false:=by rfl) :
  PE X (.Call (.Name x p) (e::es) [] pos) (qN sp [] E0 t):=by
 obtain⟨f,fd,F,b,kp,m⟩:=c.ex
 exact yd F (hr.mono hle) hg m kp b .nil xb ha hdb he hpl
theorem lY{x:Str}{T:String}{pos:Pos}(hm:X.mg x=none)(hv:bootBuiltins x=some (.type T))(hg:Gl X x:=by rfl)(hn:x ≠ "__name__" := by decide) (hd:(x == ("__debug__" : Str))=false:=by decide):PE X (.Name x pos) (tC (.ty T)):=
 xQ hg hm hv rfl hn hd
theorem bw{x:Str}{p pos:Pos}{e:Expr}{es:List Expr}{t:TA}{id:String}{r:List V→Hp→VK→Prop}(hc:CallR X (.builtin id) r)(hm:X.mg x=none)(hv:bootBuiltins x=some (.builtin id))(ha:PA X (e::es) t)(hg:Gl X x:=by rfl)
  (hn:x ≠ "__name__" := by decide) (hdb:(x == ("__debug__" : Str))=false:=by decide) (he:starEach (e::es) X.env=(false,eval e X.env)::starEach es X.env:=by rfl) (hpl:(backTo pos (starEach es X.env)).any (·.1)=false:=by rfl) :
  PE X (.Call (.Name x p) (e::es) [] pos) (tm r t):=wn hc hg hm hv ha hn hdb he hpl
theorem fg{x:Str}{p pos:Pos}{e:Expr}{es:List Expr}{t:TA}{T:String}{r:List V→Hp→VK→Prop}(hc:CallR X (.type T) r)(hm:X.mg x=none)(hv:bootBuiltins x=some (.type T))(ha:PA X (e::es) t)(hg:Gl X x:=by rfl)
  (hn:x ≠ "__name__" := by decide) (hdb:(x == ("__debug__" : Str))=false:=by decide) (he:starEach (e::es) X.env=(false,eval e X.env)::starEach es X.env:=by rfl) (hpl:(backTo pos (starEach es X.env)).any (·.1)=false:=by rfl) :
  PE X (.Call (.Name x p) (e::es) [] pos) (tm r t):=ua hc hg hm hv ha hn hdb he hpl
end
section
variable{X:Cx}
def lv:R2:=fun x y H Q=>match x,y with
 | .int i,.int j=>Q (.int (i+j)) H
 | .str a,.str b=>a.length+b.length≤sizeLine∧Q (.str (a++b)) H
 | .ref l,.ref b=>∃ xs zs,H l=some (.lst xs)∧H b=some (.lst zs)∧xs.length+zs.length≤sizeLine∧∀ p,H p=none→Q (.ref p) (upd H p (.lst (xs++zs)))
 | _,_=>False
theorem aD:OpR X (binaryOp .Add) lv:=by
 intro pins s σ H x y v u Q I rx ry h
 cases x <;> cases y <;> first
  | exact(show False from h).elim
  | exact zI pins s σ H _ _ v u Q I rx ry ⟨_,_,rfl,rfl,h⟩
  | exact rA pins s σ H _ _ v u Q I rx ry ⟨_,_,rfl,rfl,h⟩
  | (obtain⟨xs,zs,h1,h2,h3,h4⟩:=h; exact Ag pins s σ H _ _ v u Q I rx ry ⟨_,_,xs,zs,rfl,rfl,h1,h2,h3,h4⟩)
def vM:R2:=fun x y H Q=>match x,y with
 | .int i,.int j=>Q (.bl (decide (i<j))) H
 | .str i,.str j=>Q (.bl (decide (i.cps.toList<j.cps.toList))) H
 | _,_=>False
theorem nj:OpR X (compareOp .Lt) vM:=by
 intro pins s σ H x y v u Q I rx ry h
 cases x <;> cases y <;> first
  | exact(show False from h).elim
  | exact As pins s σ H _ _ v u Q I rx ry ⟨_,_,rfl,rfl,h⟩
  | exact sT pins s σ H _ _ v u Q I rx ry ⟨_,_,rfl,rfl,h⟩
def qH(K:PySem.W.Frag):R2:=fun x y H Q=>match x,y with
 | .str i,.str j=>Q (.bl (!(Builtin.Str.occurrences j i 0 j.length 1).isEmpty)) H
 | x,.ref p=>∃ xs,(SqL K H p xs∨SqT K H p xs)∧bG x=true∧xs.all bG=true∧Q (.bl (ii x xs)) H
 | _,_=>False
theorem zi:OpR X (compareOp .In) (qH X.K):=by
 intro pins s σ H x y v u Q I rx ry h
 cases y with
 | str j=>
  cases x with
  | str i=>exact sY pins s σ H _ _ v u Q I rx ry ⟨i,j,rfl,rfl,h⟩
  | _=>exact(show False from h).elim
 | ref p=>
  have h':∃ xs,(SqL X.K H p xs∨SqT X.K H p xs)∧bG x=true∧xs.all bG=true∧Q (.bl (ii x xs)) H:=by cases x <;> exact h
  obtain⟨xs,h1,h2,h3,h4⟩:=h'
  exact tU pins s σ H _ _ v u Q I rx ry ⟨p,xs,rfl,h1,h2,h3,h4⟩
 | _=>cases x <;> exact(show False from h).elim
def hG(K:PySem.W.Frag):R2:=fun x y H Q=>match x,y with
 | .str i,.str j=>Q (.bl (!(!(Builtin.Str.occurrences j i 0 j.length 1).isEmpty))) H
 | x,.ref p=>∃ xs,(SqL K H p xs∨SqT K H p xs)∧bG x=true∧xs.all bG=true∧Q (.bl (!ii x xs)) H
 | _,_=>False
theorem uG:OpR X (compareOp .NotIn) (hG X.K):=by
 intro pins s σ H x y v u Q I rx ry h
 cases y with
 | str j=>
  cases x with
  | str i=>exact n9 pins s σ H _ _ v u Q I rx ry ⟨i,j,rfl,rfl,h⟩
  | _=>exact(show False from h).elim
 | ref p=>
  have h':∃ xs,(SqL X.K H p xs∨SqT X.K H p xs)∧bG x=true∧xs.all bG=true∧Q (.bl (!ii x xs)) H:=by cases x <;> exact h
  obtain⟨xs,h1,h2,h3,h4⟩:=h'
  exact mZ pins s σ H _ _ v u Q I rx ry ⟨p,xs,rfl,h1,h2,h3,h4⟩
 | _=>cases x <;> exact(show False from h).elim
def ly(K:PySem.W.Frag):List V→Hp→VK→Prop:=fun xs H Q=>match xs with
 | [.str z]=>z.length≤sizeLine∧Q (.int z.length) H
 | [.ref p]=>∃ ys,(SqL K H p ys∨SqT K H p ys)∧Q (.int ys.length) H
 | _=>False
theorem uk:CallR X (.builtin "len") (ly X.K):=by
 intro pins s σ H xs us Q I r h
 match xs,h with
 | [.str z],h=>exact mR pins s σ H _ us Q I r ⟨z,rfl,h⟩
 | [.ref p],h=>obtain⟨ys,h1,h2⟩:=h; exact nQ pins s σ H _ us Q I r ⟨p,ys,rfl,h1,h2⟩
def jB(K:PySem.W.Frag):R2:=fun x y H Q=>match x,y with
 | .ref p,.int i=>∃ xs v,(SqL K H p xs∨SqT K H p xs)∧cu xs i=some v∧Q v H
 | .str z,.int i=>∃ c,z.length≤sizeLine∧cu z.cps.toList i=some c∧Q (.str ⟨#[c]⟩) H
 | _,_=>False
theorem Bu:IxR X (jB X.K):=by
 intro value slice pins s σ H x y v u Q I rx ry h hs
 refine Ad value slice pins s σ H x y v u Q I rx ry ?_ hs
 match x,y,h with
 | .ref p,.int i,h=>
  obtain⟨xs,v',h1,h2,h3⟩:=h
  rcases h1 with h1 | h1
  ·exact .inl ⟨p,xs,i,v',rfl,rfl,h1,h2,h3⟩
  ·exact .inr (.inl ⟨p,xs,i,v',rfl,rfl,h1,h2,h3⟩)
 | .str z,.int i,h=>
  obtain⟨c,h1,h2,h3⟩:=h
  exact .inr (.inr ⟨z,i,c,rfl,rfl,h1,h2,h3⟩)
end
section
variable{K:PySem.W.Frag}{H:Hp}{Q:VK}
theorem kc(i j:Int):lv (.int i) (.int j) H Q=Q (.int (i+j)) H:=rfl
theorem kT(a b:Str):lv (.str a) (.str b) H Q=(a.length+b.length≤sizeLine∧Q (.str (a++b)) H):=rfl
theorem gU(l b:Addr):lv (.ref l) (.ref b) H Q=∃ xs zs,H l=some (.lst xs)∧H b=some (.lst zs)∧xs.length+zs.length≤sizeLine∧∀ p,H p=none→Q (.ref p) (upd H p (.lst (xs++zs))):=rfl
theorem lW(i j:Int):vM (.int i) (.int j) H Q=Q (.bl (decide (i<j))) H:=rfl
theorem nI(i j:Str):vM (.str i) (.str j) H Q=Q (.bl (decide (i.cps.toList<j.cps.toList))) H:=rfl
theorem mw(i j:Str):qH K (.str i) (.str j) H Q=Q (.bl (!(Builtin.Str.occurrences j i 0 j.length 1).isEmpty)) H:=rfl
theorem lI(x:V)(p:Addr):qH K x (.ref p) H Q=∃ xs,(SqL K H p xs∨SqT K H p xs)∧bG x=true∧xs.all bG=true∧Q (.bl (ii x xs)) H:=by cases x <;> rfl
theorem ig(i j:Str):hG K (.str i) (.str j) H Q=Q (.bl (!(!(Builtin.Str.occurrences j i 0 j.length 1).isEmpty))) H:=rfl
theorem ik(x:V)(p:Addr):hG K x (.ref p) H Q=∃ xs,(SqL K H p xs∨SqT K H p xs)∧bG x=true∧xs.all bG=true∧Q (.bl (!ii x xs)) H:=by cases x <;> rfl
theorem kC(z:Str):ly K [.str z] H Q=(z.length≤sizeLine∧Q (.int z.length) H):=rfl
theorem kJ(p:Addr):ly K [.ref p] H Q=∃ ys,(SqL K H p ys∨SqT K H p ys)∧Q (.int ys.length) H:=rfl
theorem iL(p:Addr)(i:Int):jB K (.ref p) (.int i) H Q=∃ xs v,(SqL K H p xs∨SqT K H p xs)∧cu xs i=some v∧Q v H:=rfl
theorem mX(z:Str)(i:Int):jB K (.str z) (.int i) H Q=∃ c,z.length≤sizeLine∧cu z.cps.toList i=some c∧Q (.str ⟨#[c]⟩) H:=rfl
theorem nu(p:Addr)(k:Int)(v:V)(G:Hp→Prop):qp (.ref p) (.int k) v H G=∃ xs j,H p=some (.lst xs)∧gv xs.length k=some j∧G (upd H p (.lst (xs.set j v))):=
 propext ⟨fun ⟨_,xs,_,j,e1,e2,q⟩=>by cases e1; cases e2; exact⟨xs,j,q⟩,fun ⟨xs,j,q⟩=>⟨p,xs,k,j,rfl,rfl,q⟩⟩
theorem iV(p:Addr)(y:V):jY (.ref p) [y] H Q=∃ xs,H p=some (.lst xs)∧xs.length<sizeLine∧Q .non (upd H p (.lst (xs++[y]))):=
 propext ⟨fun ⟨_,xs,_,e1,e2,q⟩=>by cases e1; cases e2; exact⟨xs,q⟩,fun ⟨xs,q⟩=>⟨p,xs,y,rfl,rfl,q⟩⟩
theorem nC(sep:Str)(p:Addr):qS K (.str sep) [.ref p] H Q=∃ ss,SqL K H p (ss.map V.str)∧(ss.map (·.length)).sum+ss.length * sep.length≤16777216∧Q (.str (Txt.join sep ss)) H:=
 propext ⟨fun ⟨_,_,ss,e1,e2,q⟩=>by cases e1; cases e2; exact⟨ss,q⟩,fun ⟨ss,q⟩=>⟨sep,p,ss,rfl,rfl,q⟩⟩
theorem qb(y:Str):nZ K "str" (.str y) H=True:=eq_true rfl
theorem oZ(p:Addr):(nZ K "list" (.ref p) H)=∃ xs,SqL K H p xs:=by
 refine propext ⟨fun h=>?_,fun h=>.inl ⟨rfl,h⟩⟩
 rcases h with ⟨_,h⟩ | ⟨h,_⟩ | ⟨h,_⟩ | ⟨h,_⟩
 ·exact h
 ·exact absurd h (by decide)
 ·exact absurd h (by decide)
 ·exact absurd h (by decide)
end
theorem bH:bootBuiltins "len" = some (.builtin "len"):=by decide +kernel
theorem eF:bootBuiltins "isinstance" = some (.builtin "isinstance"):=by decide +kernel
theorem kE:bootBuiltins "sorted" = some (.builtin "sorted"):=by decide +kernel
theorem yV:bootBuiltins "str" = some (.type "str"):=by decide +kernel
theorem nB:bootBuiltins "int" = some (.type "int"):=by decide +kernel
theorem xX:bootBuiltins "bool" = some (.type "bool"):=by decide +kernel
theorem jX:bootBuiltins "list" = some (.type "list"):=by decide +kernel
theorem vq:bootBuiltins "tuple" = some (.type "tuple"):=by decide +kernel
theorem aw{X:Cx}(i:Nat){x:Str}{e:Expr}{te:TE}{pos pos':Pos}(hN:X.N.Nodup)(he:PE X e te)(hi:X.N[i]? = some x:=by rfl)(hx:aO X.env.scope x:=by first | exact Or.inl rfl | exact Or.inr rfl)(hs:swapsWith e (some (.Name x pos')) pos.line X.env=pure false:=by rfl)
  (hf:X.fn x=true∨X.env.scope.names.lookup x=some .local:=by first | exact .inl rfl | exact .inr rfl | assumption):PS X (.Assign [.Name x pos'] e pos) (rE te (fU i)):=zN hN hi hx he hs hf
theorem bC{X:Cx}(i:Nat){x:Str}{pos:Pos}(hN:X.N.Nodup)(hi:X.N[i]? = some x:=by rfl)(hx:aO X.env.scope x:=by first | exact Or.inl rfl | exact Or.inr rfl)
  (hf:X.fn x=true∨X.env.scope.names.lookup x=some .local:=by first | exact .inl rfl | exact .inr rfl | assumption):PG X (.Name x pos) (fU i):=x8 hN hi hx hf
structure CompSc (fsc:Scope) (N N0 T:List Str) (scope:Scope):Prop where
 kind:scope.kind = .function
 nocell:∀ y∈scope.names,y.2 ≠ .cell
 names:∀ y∈scope.names,y.2 = .local→scope.names.lookup y.1=some .local
 free:∀ y∈scope.names,y.2 = .free→fsc.names.lookup y.1=some .cell∨fsc.names.lookup y.1=some .free
 apart:∀ y∈scope.names,y.2 = .local→y.1∉N0
 len0:N0.length=N.length
 same:((N0.zip N).all fun p=>p.1 == p.2 || !(scope.names.any fun y=>y.1 == p.1))=true
theorem CompSc.to{X:Cx}{fsc:Scope}{N N0 T:List Str}{scope:Scope}(S:CompSc fsc N N0 T scope)(h1:X.env.scope=fsc)(h2:X.N=N):gN X N0 T scope:=by
 subst h1 h2
 refine⟨S.kind,S.nocell,S.names,S.free,S.apart,S.len0,fun i x k e m=>?_⟩
 have hl:=S.len0
 have hi:i<N0.length:=(List.getElem?_eq_some_iff.mp e).1
 have hN:X.N[i]? = some X.N[i]:=List.getElem?_eq_getElem (by omega)
 have hz:(x,X.N[i])∈N0.zip X.N:=List.mem_of_getElem? (i:=i) (by rw[List.getElem?_zip_eq_some]; exact⟨e,hN⟩)
 have q:=List.all_eq_true.mp S.same _ hz
 simp only[Bool.or_eq_true,beq_iff_eq,Bool.not_eq_true']at q
 rcases q with q | q
 ·rw[hN,← q]
 ·have:(scope.names.any fun y=>y.1 == x)=true:=List.any_eq_true.mpr ⟨_,m,by simp⟩
  rw[this]at q; cases q
def vX:R2:=AY
def zr:R2:=Bd
theorem bY{X:Cx}:OpR X (compareOp .Eq) vX:=Ay
theorem zq{X:Cx}:OpR X (compareOp .NotEq) zr:=Av
section
variable{K:PySem.W.Frag}{H:Hp}{Q:VK}
theorem mP(i j:Int):vX (.int i) (.int j) H Q=Q (.bl (decide (i=j))) H:=by
 have e:decide (V.int i=V.int j)=decide (i=j):=by by_cases h:i=j <;> simp[h]
 show (mB (.int i) (.int j)=true∧Q (.bl (decide (V.int i=V.int j))) H)=_
 rw[e]; exact propext ⟨fun h=>h.2,fun h=>⟨rfl,h⟩⟩
theorem lF(i j:Str):vX (.str i) (.str j) H Q=Q (.bl (decide (i=j))) H:=by
 have e:decide (V.str i=V.str j)=decide (i=j):=by by_cases h:i=j <;> simp[h]
 show (mB (.str i) (.str j)=true∧Q (.bl (decide (V.str i=V.str j))) H)=_
 rw[e]; exact propext ⟨fun h=>h.2,fun h=>⟨rfl,h⟩⟩
theorem lV(i j:Str):zr (.str i) (.str j) H Q=Q (.bl (!decide (i=j))) H:=by
 have e:decide (V.str i=V.str j)=decide (i=j):=by by_cases h:i=j <;> simp[h]
 show (mB (.str i) (.str j)=true∧Q (.bl (!decide (V.str i=V.str j))) H)=_
 rw[e]; exact propext ⟨fun h=>h.2,fun h=>⟨rfl,h⟩⟩
end
theorem Al{X:Cx}:PSet X qp:=u9
section
variable{X:Cx}(K:PySem.W.Frag)
theorem yH(hK:X.K=K:=by rfl):OpR X (compareOp .In) (qH K):=hK ▸ zi
theorem ub(hK:X.K=K:=by rfl):OpR X (compareOp .NotIn) (hG K):=hK ▸ uG
theorem aW(hK:X.K=K:=by rfl):CallR X (.builtin "len") (ly K):=hK ▸ uk
theorem aG(hK:X.K=K:=by rfl):IxR X (jB K):=hK ▸ Bu
theorem lO(hK:X.K=K:=by rfl):MtR X "str.join" (qS K):=hK ▸ xT
theorem vV(hK:X.K=K:=by rfl):SlR X (vF K):=hK ▸ xE
theorem dn{tg l:Expr}{tl:TE}(hl:PE X l tl)(hK:X.K=K:=by rfl):PI X tg l (qT K tl):=hK ▸ xq hl
theorem h_{es:List Expr}{k n:Nat}{t:dZ}{pos:Pos}(h:PGs X es t)(hn:(assignEach es X.env).length=n:=by rfl)(hst:(assignEach es X.env).findIdx? (·.1)=none:=by rfl)(hK:X.K=K:=by rfl)(hc:X.calm=true:=by rfl):PG X (.Tuple es k pos) (qh K n t):=hK ▸ zf hc h hn hst
theorem b5{o e:Expr}{es:List Expr}{to:TE}{t:TA}{name:Str}{apos cpos:Pos}{T id:String}{r:V→List V→Hp→VK→Prop}(pa:PlainAttrs T)(slot:Slot T name id)(hty:typeOf (.builtin id)=pure (.type "method_descriptor")) (hm:MtR X id r) (ho:PE X o to) (ha:PA X (e::es) t)
  (hbase:attributeBase o name X.env (eval o X.env)=eval o X.env:=by rfl)
  (hfew:((backTo cpos (starEach (e::es) X.env)).all (fun x=>!x.1)&&(backToKw cpos (keywordEach [] X.env)).all (fun x=>x.1.isSome)&&decide ((e::es).length+([]:List Keyword).length+(if ([]:List Keyword).isEmpty then 0 else 1)<30))=true:=by rfl)
  (hline:(apos.endLine == cpos.line)=true:=by rfl) (hs:starEach (e::es) X.env=(false,eval e X.env)::starEach es X.env:=by rfl) (hplain:(backTo cpos (starEach es X.env)).any (·.1)=false:=by rfl) (hK:X.K=K:=by rfl) :
  PE X (.Call (.Attribute o name apos) (e::es) [] cpos) (yY K T r to t):=hK ▸ AG pa slot hty hm ho ha hbase hfew hline hs hplain
theorem qJ(hK:X.K=K:=by rfl):CallR X (.type "list") (fun xs H Q=>∃ p ys,xs=[.ref p]∧(SqL K H p ys∨SqT K H p ys)∧∀ l,H l=none→Q (.ref l) (upd H l (.lst ys))):=hK ▸ nH
theorem ox(hK:X.K=K:=by rfl):CallR X (.type "tuple") (fun xs H Q=>∃ p ys,xs=[.ref p]∧((SqL K H p ys∧∀ l,H l=none→Q (.ref l) (upd H l (.tup ys)))∨(SqT K H p ys∧Q (.ref p) H))):=hK ▸ lg
end
theorem sZ(n:Int)(P:Int→Prop):(∃ j,[V.int n]=[V.int j]∧P j)=P n:=propext ⟨fun ⟨_,e,h⟩=>by cases e; exact h,fun h=>⟨n,rfl,h⟩⟩
theorem oN(x:V)(xs:List V)(P:V→List V→Prop):(∃ v r,x::xs=v::r∧P v r)=P x xs:=propext ⟨fun ⟨_,_,e,h⟩=>by cases e; exact h,fun h=>⟨x,xs,rfl,h⟩⟩
def d_(scope fsc:Scope):Scope:={ scope with names:=scope.names.map fun (n,k)=>if (k == .free&&fsc.kind == .function&&fsc.names.lookup n == some .cell) then (n,.cell) else (n,k) }
section
variable{X:Cx}{N0 T:List Str}{scope:Scope}{C:Addr}{fp:List Addr}{s:Shared}{H:Hp}{x:Str}
theorem AS(fsc:Scope)(h:(d_ scope fsc).names.lookup x=some .globalImplicit)(e:X.env.scope=fsc:=by rfl):Gl (bS X N0 T scope C fp s H) x:=by subst e; exact h
theorem eV(fsc:Scope)(h:((d_ scope fsc).names.lookup x=some .local||(d_ scope fsc).names.lookup x=some .cell||(d_ scope fsc).names.lookup x=some .free)=true)(e:X.env.scope=fsc:=by rfl):aq (bS X N0 T scope C fp s H).env.scope x:=by
 subst e
 simp only[Bool.or_eq_true,decide_eq_true_eq]at h
 rcases h with (h | h) | h
 ·exact .inl h
 ·exact .inr (.inl h)
 ·exact .inr (.inr h)
theorem lN(fsc:Scope)(h:(d_ scope fsc).names.lookup x=some .local)(e:X.env.scope=fsc:=by rfl):aO (bS X N0 T scope C fp s H).env.scope x:=by subst e; exact .inl h
theorem uB(fsc:Scope)(h:(d_ scope fsc).names.lookup x=some .local)(e:X.env.scope=fsc:=by rfl):(bS X N0 T scope C fp s H).fn x=true∨(bS X N0 T scope C fp s H).env.scope.names.lookup x=some .local:=by subst e; exact .inr h
end
theorem bX{X:Cx}:MtR X "list.append" jY:=kR
theorem PW.pt'{X:Cx}{e:Expr}{t:TT}(h:PW X e t):PT X e t:=h.pt
theorem mC{σ : St}{H:Hp}{Q:VK}(trs:List (TE × TE)):wV trs σ H Q=∀ p,H p=none→fc trs σ (upd H p (.dK [])) fun ps H2=>H2 p=some (.dK [])∧∃ kvs:List (aA × V),ps=kvs.map (fun kv=>(kV kv.1,kv.2))∧kvs.length≤15∧Q (.ref p) (upd H2 p (.dK (dS [] kvs))):=rfl
theorem jj{σ : St}{H:Hp}{Q:List (V × V)→Hp→Prop}:fc [] σ H Q=Q [] H:=rfl
theorem ie{σ : St}{H:Hp}{Q:List (V × V)→Hp→Prop}(tk tv:TE)(r:List (TE × TE)):fc ((tk,tv)::r) σ H Q=tk σ H fun x H1=>tv σ H1 fun y H2=>fc r σ H2 fun ps H3=>Q ((x,y)::ps) H3:=rfl
theorem Same.upd{H H':Hp}{p:Addr}(sm:Same H H')(h:H p=none)(o:HO):Same H (upd H' p o):=fun b u q=>by rw[ap (au q h)]; exact sm b u q
theorem af{H:Hp}{p:Addr}(h:H p=none)(o:HO):Same H (upd H p o):=fun b u q=>by rw[ap (au q h)]; exact q
end L2
namespace L2
open PySem PySem.Spec PyProof.Rows PySem.SeqAt
def EqN(K:PySem.W.Frag)(H:Hp):Nat→V→V→Bool→Prop
 | 0,x,y,b=>bG x=true∧bG y=true∧b=dY x y
 | n+1,x,y,b=>(bG x=true∧bG y=true∧b=dY x y)∨∃ a c xs ys,x = .ref a∧y = .ref c∧((SqL K H a xs∧SqL K H c ys)∨(SqT K H a xs∧SqT K H c ys))∧
   ((∃ e:Nat→Bool,xs.length=ys.length∧(∀ (i:Nat) x y,xs[i]? = some x→ys[i]? = some y→EqN K H n x y (e i))∧b=(List.range xs.length).all e)∨
    (SqL K H a xs∧SqL K H c ys∧xs.length≠ys.length∧b=false))
theorem iG:∀ {x:V},bG x=true→dY x x=true
 | .non,_=>rfl
 | .bl b,_=>by simp[dY]
 | .int i,_=>by simp[dY]
 | .str y,_=>by simp[dY]
section
variable{X:Cx}{pins:List (Addr × Obj)}{σ : St}{H:Hp}{s:Shared}
theorem EqN.self(I:Inv X pins σ H s):∀ {n:Nat} {x:V} {b:Bool},EqN X.K H n x x b→b=true
 | 0,x,b,h=>by obtain⟨h1,_,rfl⟩:=h; exact iG h1
 | n+1,x,b,h=>by
  rcases h with ⟨h1,_,rfl⟩ | ⟨a,c,xs,ys,rfl,e,hq,h⟩
  ·exact iG h1
  ·cases e
   have exy:xs=ys:=by
    rcases hq with ⟨q1,q2⟩ | ⟨q1,q2⟩
    ·exact I.list_inj q1 q2
    ·exact I.tuple_inj q1 q2
   subst exy
   rcases h with ⟨e,_,he,rfl⟩ | ⟨_,_,z,_⟩
   ·rw[List.all_eq_true]
    intro i hi
    have hi':=List.mem_range.mp hi
    have q:=he i xs[i] xs[i] (List.getElem?_eq_getElem hi') (List.getElem?_eq_getElem hi')
    exact EqN.self I q
   ·exact absurd rfl z
theorem EqN.rc(I:Inv X pins σ H s){n:Nat}(ih:∀ {A:Around} {x y:V} {b:Bool} {u v:Value},A.units+n<cLine→EqN X.K H n x y b→RelV x u→RelV y v→EqAt A s u v b)
  {A:Around} {a c:Addr} {xs ys:List V} {b:Bool} (hu:A.units+(n+1)<cLine) (hq:(SqL X.K H a xs∧SqL X.K H c ys)∨(SqT X.K H a xs∧SqT X.K H c ys))
  (h:(∃ e:Nat→Bool,xs.length=ys.length∧(∀ (i:Nat) x y,xs[i]? = some x→ys[i]? = some y→EqN X.K H n x y (e i))∧b=(List.range xs.length).all e)∨(SqL X.K H a xs∧SqL X.K H c ys∧xs.length≠ys.length∧b=false)) :
  RcAt A s (.ref a) (.ref c) b∧RcNeAt A s (.ref a) (.ref c) (!b):=by
 have hin:A.in1.units+n<cLine:=by
  have:A.in1.units=A.units+1:=rfl
  omega
 rcases h with ⟨e,hl,he,rfl⟩ | ⟨q1,q2,hl,rfl⟩
 ·rcases hq with ⟨q1,q2⟩ | ⟨q1,q2⟩
  ·obtain⟨i1,r1,p1,z1⟩:=I.list q1
   obtain⟨i2,r2,p2,z2⟩:=I.list q2
   have l1:=r1.length
   have l2:=r2.length
   have hit:∀ j (h1:j<i1.toArray.size) (h2:j<i2.toArray.size),EqAt A.in1 s i1.toArray[j] i2.toArray[j] (e j):=fun j h1 h2=>by
    obtain⟨x,hx,rx⟩:=r1.of (i:=j) (u:=i1.toArray[j]) (by simp at h1 ⊢)
    obtain⟨y,hy,ry⟩:=r2.of (i:=j) (u:=i2.toArray[j]) (by simp at h2 ⊢)
    exact ih hin (he j x y hx hy) rx ry
   have ez:xs.length=i1.toArray.size:=by simp; omega
   rw[ez]
   exact⟨RcAt.lists p1.isList p2.isList (by simp; omega) (by omega) hit,RcNeAt.lists p1.isList p2.isList (by simp; omega) (by omega) hit⟩
  ·obtain⟨i1,r1,p1,z1⟩:=I.tuple q1
   obtain⟨i2,r2,p2,z2⟩:=I.tuple q2
   have l1:=r1.length
   have l2:=r2.length
   have hit:∀ j (h1:j<i1.toArray.size) (h2:j<i2.toArray.size),EqAt A.in1 s i1.toArray[j] i2.toArray[j] (e j):=fun j h1 h2=>by
    obtain⟨x,hx,rx⟩:=r1.of (i:=j) (u:=i1.toArray[j]) (by simp at h1 ⊢)
    obtain⟨y,hy,ry⟩:=r2.of (i:=j) (u:=i2.toArray[j]) (by simp at h2 ⊢)
    exact ih hin (he j x y hx hy) rx ry
   have ez:(List.range xs.length).all e=((List.range (min i1.toArray.size i2.toArray.size)).all e&&i1.toArray.size == i2.toArray.size):=by
    have e1:i1.toArray.size=xs.length:=by simp; omega
    have e2:i2.toArray.size=xs.length:=by simp; omega
    rw[e1,e2,Nat.min_self]; simp
   rw[ez]
   exact⟨RcAt.tuples (show s.heap.IsTuple a i1.toArray from p1) (show s.heap.IsTuple c i2.toArray from p2) (by omega) hit,RcNeAt.tuples (show s.heap.IsTuple a i1.toArray from p1) (show s.heap.IsTuple c i2.toArray from p2) (by omega) hit⟩
 ·obtain⟨i1,r1,p1,z1⟩:=I.list q1
  obtain⟨i2,r2,p2,z2⟩:=I.list q2
  have l1:=r1.length
  have l2:=r2.length
  have hne:(i1.toArray.size != i2.toArray.size)=true:=by
   rw[bne_iff_ne]; simp; omega
  exact⟨RcAt.lists_lengths p1.isList p2.isList hne (by omega),RcNeAt.lists_lengths p1.isList p2.isList hne (by omega)⟩
theorem EqN.at(I:Inv X pins σ H s):∀ {n:Nat} {A:Around} {x y:V} {b:Bool} {u v:Value},A.units+n<cLine→EqN X.K H n x y b→RelV x u→RelV y v→EqAt A s u v b
 | 0,A,x,y,b,u,v,_,h,rx,ry=>by obtain⟨h1,h2,rfl⟩:=h; exact jw rx ry h1 h2
 | n+1,A,x,y,b,u,v,hu,h,rx,ry=>by
  have h0:=h
  rcases h with ⟨h1,h2,rfl⟩ | ⟨a,c,xs,ys,rfl,rfl,hq,h⟩
  ·exact jw rx ry h1 h2
  ·cases rx
   cases ry
   by_cases hac:a=c
   ·subst hac
    rw[EqN.self I h0]
    exact EqAt.same _
   ·exact EqAt.of_refs hac (EqN.rc I (fun hu' q rx ry=>EqN.at I hu' q rx ry) hu hq h).1
end
section
variable{X:Cx}
def vT(K:PySem.W.Frag):R2:=fun x y H Q=>∃ (a c:Addr) (n:Nat) (b:Bool),x = .ref a∧y = .ref c∧n≤100∧EqN K H (n+1) x y b∧Q (.bl b) H
def vK(K:PySem.W.Frag):R2:=fun x y H Q=>∃ (a c:Addr) (n:Nat) (b:Bool),x = .ref a∧y = .ref c∧n≤100∧EqN K H (n+1) x y b∧Q (.bl (!b)) H
theorem zO(hu:X.A.units+101<cLine):OpR X (compareOp .Eq) (vT X.K):=by
 intro pins s σ H x y v u Q I rx ry h
 obtain⟨a,c,n,b,rfl,rfl,hn,he,q⟩:=h
 cases rx
 cases ry
 rcases he with ⟨h1,_⟩ | ⟨a',c',xs,ys,e1,e2,hq,h⟩
 ·cases h1
 ·cases e1
  cases e2
  exact(EqN.rc I (fun hu' q rx ry=>EqN.at I hu' q rx ry) (by omega) hq h).1 _ _ _ _ ⟨.bl b,H,I,rfl,q⟩
theorem Aa(hu:X.A.units+101<cLine):OpR X (compareOp .NotEq) (vK X.K):=by
 intro pins s σ H x y v u Q I rx ry h
 obtain⟨a,c,n,b,rfl,rfl,hn,he,q⟩:=h
 cases rx
 cases ry
 rcases he with ⟨h1,_⟩ | ⟨a',c',xs,ys,e1,e2,hq,h⟩
 ·cases h1
 ·cases e1
  cases e2
  exact(EqN.rc I (fun hu' q rx ry=>EqN.at I hu' q rx ry) (by omega) hq h).2 _ _ _ _ ⟨.bl (!b),H,I,rfl,q⟩
theorem p_(K:PySem.W.Frag){k:Nat}(hr:Room k X.A)(hK:X.K=K:=by rfl):OpR X (compareOp .Eq) (vT K):=by subst hK; exact zO (by have:=hr.un; omega)
theorem x6(K:PySem.W.Frag){k:Nat}(hr:Room k X.A)(hK:X.K=K:=by rfl):OpR X (compareOp .NotEq) (vK K):=by subst hK; exact Aa (by have:=hr.un; omega)
end
section
variable{K:PySem.W.Frag}{H:Hp}{Q:VK}
theorem pB(a c:Addr):vT K (.ref a) (.ref c) H Q=∃ (n:Nat) (b:Bool),n≤100∧EqN K H (n+1) (.ref a) (.ref c) b∧Q (.bl b) H:=
 propext ⟨fun ⟨_,_,n,b,e1,e2,q⟩=>⟨n,b,q⟩,fun ⟨n,b,q⟩=>⟨a,c,n,b,rfl,rfl,q⟩⟩
theorem pq(a c:Addr):vK K (.ref a) (.ref c) H Q=∃ (n:Nat) (b:Bool),n≤100∧EqN K H (n+1) (.ref a) (.ref c) b∧Q (.bl (!b)) H:=
 propext ⟨fun ⟨_,_,n,b,e1,e2,q⟩=>⟨n,b,q⟩,fun ⟨n,b,q⟩=>⟨a,c,n,b,rfl,rfl,q⟩⟩
theorem EqN.flat{n:Nat}{x y:V}(hx:bG x=true)(hy:bG y=true):EqN K H n x y (dY x y):=by
 cases n with
 | zero=>exact⟨hx,hy,rfl⟩
 | succ n=>exact .inl ⟨hx,hy,rfl⟩
theorem EqN.refl{n:Nat}{x:V}(hx:bG x=true):EqN K H n x x true:=by
 have q:EqN K H n x x (dY x x):=EqN.flat hx hx
 rwa [iG hx]at q
theorem EqN.seq{n:Nat}{a c:Addr}{xs ys:List V}(hq:(SqL K H a xs∧SqL K H c ys)∨(SqT K H a xs∧SqT K H c ys))(hl:xs.length=ys.length)(he:∀ (i:Nat) x y,xs[i]? = some x→ys[i]? = some y→EqN K H n x y true):EqN K H (n+1) (.ref a) (.ref c) true:=
 .inr ⟨a,c,xs,ys,rfl,rfl,hq,.inl ⟨fun _=>true,hl,he,by simp⟩⟩
theorem EqN.seqFlat{n:Nat}{a c:Addr}{xs:List V}(hq:(SqL K H a xs∧SqL K H c xs)∨(SqT K H a xs∧SqT K H c xs))(hf:∀ x∈xs,bG x=true):EqN K H (n+1) (.ref a) (.ref c) true:=
 EqN.seq hq rfl fun i x y e1 e2=>by
  rw[e1]at e2; cases e2
  exact EqN.refl (hf x (List.mem_of_getElem? e1))
end
section
variable{X:Cx}
end
section
variable{X:Cx}
def xf:List V→Hp→VK→Prop:=fun xs H Q=>(∃ i,xs=[.int i]∧Q (.int i) H)∨∃ k,xs=[.bl k]∧Q (.int (if k then 1 else 0)) H
theorem kr:CallR X (.type "int") xf:=t0
def pc(K:PySem.W.Frag):List V→Hp→VK→Prop:=fun xs H Q=>∃ p ys,xs=[.ref p]∧(SqL K H p ys∨SqT K H p ys)∧∀ l,H l=none→Q (.ref l) (upd H l (.lst ys))
theorem qf(K:PySem.W.Frag)(hK:X.K=K:=by rfl):CallR X (.type "list") (pc K):=qJ K hK
def uH(K:PySem.W.Frag):List V→Hp→VK→Prop:=fun xs H Q=>∃ p ys,xs=[.ref p]∧((SqL K H p ys∧∀ l,H l=none→Q (.ref l) (upd H l (.tup ys)))∨(SqT K H p ys∧Q (.ref p) H))
theorem tL(K:PySem.W.Frag)(hK:X.K=K:=by rfl):CallR X (.type "tuple") (uH K):=ox K hK
def qD:R2:=fun x y H Q=>match x,y with
 | .int i,.int j=>CMul i j∧Q (.int (i * j)) H
 | .str z,.int n=>0≤n∧n≤4096∧z.length≤4096∧Q (.str (Txt.mul z n)) H
 | _,_=>False
theorem eU:OpR X (binaryOp .Mult) qD:=by
 intro pins s σ H x y v u Q I rx ry h
 match x,y,h with
 | .int i,.int j,h=>exact yr pins s σ H _ _ v u Q I rx ry ⟨_,_,rfl,rfl,h⟩
 | .str z,.int n,h=>
  obtain⟨t,rfl⟩:=rx
  obtain⟨t',rfl⟩:=ry
  obtain⟨h0,h1,h2,q⟩:=h
  exact SB.mul (mulOk_of 4096 4096 h2 (by omega) (by omega) (by decide) (by decide)) fun t' k=>⟨.str (Txt.mul z n),H,I.tok k,⟨t',rfl⟩,q⟩
end
section
variable{K:PySem.W.Frag}{H:Hp}{Q:VK}
theorem me(k:Bool):xf [.bl k] H Q=Q (.int (if k then 1 else 0)) H:=propext ⟨fun h=>by rcases h with ⟨_,e,q⟩ | ⟨_,e,q⟩ <;> cases e; exact q,fun q=>.inr ⟨k,rfl,q⟩⟩
theorem jk(p:Addr):pc K [.ref p] H Q=∃ ys,(SqL K H p ys∨SqT K H p ys)∧∀ l,H l=none→Q (.ref l) (upd H l (.lst ys)):=propext ⟨fun ⟨_,ys,e,q⟩=>by cases e; exact⟨ys,q⟩,fun ⟨ys,q⟩=>⟨p,ys,rfl,q⟩⟩
theorem kU(p:Addr):uH K [.ref p] H Q=∃ ys,((SqL K H p ys∧∀ l,H l=none→Q (.ref l) (upd H l (.tup ys)))∨(SqT K H p ys∧Q (.ref p) H)):=propext ⟨fun ⟨_,ys,e,q⟩=>by cases e; exact⟨ys,q⟩,fun ⟨ys,q⟩=>⟨p,ys,rfl,q⟩⟩
theorem kL(i j:Int):qD (.int i) (.int j) H Q=(CMul i j∧Q (.int (i * j)) H):=rfl
theorem j6(z:Str)(n:Int):qD (.str z) (.int n) H Q=(0≤n∧n≤4096∧z.length≤4096∧Q (.str (Txt.mul z n)) H):=rfl
theorem pE(a:Addr)(lo hi:Option Int):vF K (.ref a) lo hi H Q=∃ xs,SqL K H a xs∧∀ p,H p=none→Q (.ref p) (upd H p (.lst (cW xs lo hi))):=propext ⟨fun ⟨_,xs,e,q⟩=>by cases e; exact⟨xs,q⟩,fun ⟨xs,q⟩=>⟨a,xs,rfl,q⟩⟩
theorem wL(g:Int→V)(i:Int):rU g (.int i) H Q=Q (g i) H:=propext ⟨fun ⟨_,e,q⟩=>by cases e; exact q,fun q=>⟨i,rfl,q⟩⟩
end
theorem ce{n:Nat}(h:n≤1000000):n<sizeLine:=by
 have:sizeLine=16777216:=sizeLine_eq
 omega
theorem bF{n:Nat}(h:n≤1000000):n≤sizeLine:=Nat.le_of_lt (ce h)
theorem zM{α : Type}{f:α→V}{xs:List α}{i:Int}{x:α}(h0:0≤i)(h:xs[i.toNat]? = some x):cu (xs.map f) i=some (f x):=by
 have q:(xs.map f)[i.toNat]? = some (f x):=by rw[List.getElem?_map,h]; rfl
 have q':=aX q
 rwa [show ((i.toNat:Nat):Int)=i by omega]at q'
theorem eR{H H':Hp}{p:Addr}{o:HO}(h:upd H p o=H')(hp:H p=none):Same H H':=h ▸ af hp o
theorem hJ{H H':Hp}{p:Addr}{o:HO}(h:upd H p o=H'):H' p=some o:=h ▸ ae
theorem vc{α β : Type}{f:α→β}(xs:List α)(x:α):xs.map f++[f x]=(xs++[x]).map f:=by rw[List.map_append]; rfl
end L2
namespace L2
open PySem PySem.Spec PyProof.Rows
theorem Inv.turnedL{X:Cx}{pins:List (Addr × Obj)}{σ : St}{H:Hp}{s:Shared}{h':Heap}{t':Nat}{ch:List Addr}(I:Inv X pins σ H s)(k:∀ b o,b∉ch→s.heap.get? b=some o→h'.get? b=some o)
  (hf:∀ b∈ch,eX X pins H b):Inv X pins σ H { s with heap:=h',toks:=t' }:=by
 have nit:∀ b u,H b=some u→b∉ch:=fun b u e z=>by rw[(hf b z).1]at e; cases e
 refine I.step (g':=s.gens) (d':=s.drawn) (ch:=ch) (fun b hb=>?_) (fun b o _ _ hc e _=>k b o hc e) (fun b o _ _ hc e _=>⟨o.slots,k b o hc e⟩) (fun _ _ _ _ n=>n)
  (fun b o hc e=>⟨o,k b o hc e⟩) (fun _ _ e=>e) (fun _ _ _ e=>e) (fun b ps e=>⟨#[],by rw[e]; simp⟩) (fun m hm=>?_) (fun b u e=>?_) I.bare
 ·obtain⟨_,f1,_,f3,f4,f5⟩:=hf b hb
  exact⟨f3,f1,f4,f5⟩
 ·obtain⟨o,es,ep,ho,r⟩:=hm
  exact⟨o,es,ep,k _ o (fun z=>(hf _ z).2.1 rfl) ho,r⟩
 ·refine(I.hok b u e).stay (fun c v hc q=>k c v ?_ q) (fun _ q=>q) fun _ _ q=>q
  rcases hc with z | z
  ·rw[z]; exact nit b u e
  ·exact nit c _ z
theorem Inv.turnedLaid{X:Cx}{pins:List (Addr × Obj)}{σ : St}{H:Hp}{s:Shared}{h':Heap}{t':Nat}{ch:List Addr}{a:Addr}{o:HO}(I:Inv X pins σ H s)(k:∀ b o,b∉ch→s.heap.get? b=some o→h'.get? b=some o)
  (hf:∀ b∈ch,eX X pins H b) (hp:s.heap.objs.size≤a) (new:ObjOk X.prog X.w (upd H a o) h' a o):Inv X pins σ (upd H a o) { s with heap:=h',toks:=t' }:=by
 have hn:H a=none:=I.hok.fresh hp
 have nit:∀ b u,H b=some u→b∉ch:=fun b u e z=>by rw[(hf b z).1]at e; cases e
 refine I.step (g':=s.gens) (d':=s.drawn) (ch:=ch) (fun b hb=>?_) (fun b o _ _ hc e _=>k b o hc e) (fun b o _ _ hc e _=>⟨o.slots,k b o hc e⟩) (fun b u _ q n=>?_)
  (fun b o hc e=>⟨o,k b o hc e⟩) (fun b xs q=>?_) (fun b u xs q=>?_) (fun b ps q=>⟨#[],?_⟩) (fun m hm=>?_) (fun b u e=>?_) I.bare
 ·obtain⟨_,f1,_,f3,f4,f5⟩:=hf b hb
  exact⟨f3,f1,f4,f5⟩
 ·rw[ap (Nat.ne_of_lt (Nat.lt_of_lt_of_le (Heap.lt_size q) hp))]; exact n
 ·rw[ap (au q hn)]; exact q
 ·rw[ap (au q hn)]; exact q
 ·rw[ap (au q hn),q]; simp
 ·obtain⟨o,es,ep,ho,r⟩:=hm
  exact⟨o,es,ep,k _ o (fun z=>(hf _ z).2.1 rfl) ho,r⟩
 ·by_cases hb:b=a
  ·subst hb; rw[ae]at e; cases e; exact new
  ·rw[ap hb]at e
   refine(I.hok b u e).stay (fun c v hc q=>k c v ?_ q) (fun c q=>by rw[ap (au q hn)]; exact q) fun c xs q=>by rw[ap (au q hn)]; exact q
   rcases hc with z | z
   ·rw[z]; exact nit b u e
   ·exact nit c _ z
structure sX (z TI TO i1 i2:Addr):Prop where
 TIz:TI≠z
 TOz:TO≠z
 i1z:i1≠z
 i2z:i2≠z
 TITO:TI≠TO
 TIi1:TI≠i1
 TIi2:TI≠i2
 TOi1:TO≠i1
 TOi2:TO≠i2
 i12:i1≠i2
theorem ER(n:Nat):sX (n+4) (n+2) (n+3) n (n+1):=⟨(show (@Ne Nat (n+2) (n+4):Prop) by omega),(show (@Ne Nat (n+3) (n+4):Prop) by omega),(show (@Ne Nat (n) (n+4):Prop) by omega),(show (@Ne Nat (n+1) (n+4):Prop) by omega),(show (@Ne Nat (n+2) (n+3):Prop) by omega),(show (@Ne Nat (n+2) (n):Prop) by omega),(show (@Ne Nat (n+2) (n+1):Prop) by omega),(show (@Ne Nat (n+3) (n):Prop) by omega),(show (@Ne Nat (n+3) (n+1):Prop) by omega),(show (@Ne Nat (n) (n+1):Prop) by omega)⟩
theorem vk:bootBuiltins "zip" = some (.type "zip"):=by decide +kernel
theorem ng(n m:Addr)(P:Addr→Addr→Prop):(∃ i j,[V.ref n,V.ref m]=[V.ref i,V.ref j]∧P i j)=P n m:=propext ⟨fun ⟨_,_,e,h⟩=>by cases e; exact h,fun h=>⟨n,m,rfl,h⟩⟩
section
variable{X:Cx}
end
section
variable{σ : St}{H:Hp}{Q:VK}
end
end L2
namespace L2
open PySem PySem.Spec PyProof.Rows
def sy(K:PySem.W.Frag)(a:Addr):It:=
  ⟨fun i H=>∃ xs x,SqL K H a xs∧xs[i]? = some x,
   fun i H v H'=>∃ t x,H t=none∧v = .ref t∧H'=upd H t (.tup [.int i,x])∧∀ xs,SqL K H a xs→xs[i]? = some x,
   fun i H=>∃ xs,SqL K H a xs∧xs.length≤i⟩
def Et(e it l:Addr)(i:Nat)(h:Heap):Prop:=(∃ old,IsEnum h e it i old)∧h.IsListIter it l i
theorem uI{P:Program}{w:World}{K:PySem.W.Frag}{elts:List Expr}{k:Nat}{pos:Pos}{e it l:Addr}(hei:e≠it):iI P w K (.Tuple elts k pos) (sy K l) [e,it] e (Et e it l) where
 mem:=by simp
 obj:=fun i h st b hb=>by
  obtain⟨⟨old,s1⟩,⟨o4,s4,c4,d4⟩⟩:=st
  simp only[List.mem_cons,List.mem_nil_iff,or_false]at hb
  rcases hb with rfl | rfl
  ·exact⟨_,s1,fun v e=>by cases e⟩
  ·exact⟨_,s4,fun v e=>by rw[d4]at e; cases e⟩
 keep:=fun i h h' st kk=>by
  obtain⟨⟨old,s1⟩,s4⟩:=st
  exact⟨⟨old,kk e (by simp) _ s1⟩,s4.at fun o z=>kk it (by simp) o z⟩
 item:=by
  intro X hP hw hK hc i pins s σ H E I hf st hg
  subst hP hw hK
  obtain⟨xs,x,q1,hx⟩:=hg
  obtain⟨is1,rv1,p1,_⟩:=I.list q1
  obtain⟨u1,hu1,ru1⟩:=rv1.get hx
  obtain⟨⟨old,s1⟩,s4⟩:=st
  refine wpAny_pyNext_enum_item s1 s4 p1.isList (x:=u1) (by simpa using hu1) hei fun h' a1 a3 a5 a6 kk=>?_
  refine⟨_,rfl,wpAny_letOwnedTupleGo_enum a1 fun h'' hz' hs'=>?_⟩
  have lt:∀ {c o},s.heap.get? c=some o→s.heap.objs.size≠c:=fun z=>Nat.ne_of_gt (Heap.lt_size z)
  have zne:s.heap.objs.size≠e:=lt s1
  have keep2:∀ b o,b∉[e,it]→s.heap.get? b=some o→h''.get? b=some o:=fun b o hb z=>by
   simp only[List.mem_cons,List.mem_nil_iff,or_false,not_or]at hb
   exact hs'.extBut _ _ hb.1 (kk b o hb.1 hb.2 z)
  have hsz:H s.heap.objs.size=none:=I.hok.fresh (Nat.le_refl _)
  have tupN:=hs'.extBut _ _ zne a5
  have nlt:∀ c∈[e,it],c≠s.heap.objs.size:=fun c hc'=>by
   obtain⟨o4,e4,_⟩:=id s4
   simp only[List.mem_cons,List.mem_nil_iff,or_false]at hc'
   rcases hc' with rfl | rfl
   ·exact(lt s1).symm
   ·exact(lt e4).symm
  refine⟨.ref s.heap.objs.size,upd H s.heap.objs.size (.tup [.int i,x]),I.turnedLaid (t':=s.toks+1) keep2 hf (Nat.le_refl _) ⟨bF (by show 2≤1000000; decide),[.int i s.toks,u1],.cons ⟨_,rfl⟩ (.cons ru1 .nil),⟨_,tupN,rfl,rfl,0,rfl⟩⟩,rfl,⟨_,x,hsz,rfl,rfl,fun xs' q'=>?_⟩,
   ⟨⟨_,by simpa using hz'⟩,a3.extBut hs'.extBut hei.symm⟩,fun c hc'=>?_⟩
  ·rw[I.list_inj q' q1]; exact hx
  ·rw[ap (nlt c hc')]; exact(hf c hc').1
 done:=by
  intro X hP hw hK hc i pins s σ H E I hf st hg
  subst hP hw hK
  obtain⟨xs,q1,hlen⟩:=hg
  obtain⟨is1,rv1,p1,_⟩:=I.list q1
  have l1:=rv1.length
  obtain⟨⟨old,s1⟩,s4⟩:=st
  refine wpAny_pyNext_enum_end (I.ok.hd hc) s1 s4 p1.isList (by simp; omega) fun h' kk=>⟨rfl,I.turnedL (t':=s.toks) (fun b o hb z=>?_) hf⟩
  simp only[List.mem_cons,List.mem_nil_iff,or_false,not_or]at hb
  exact kk b o hb.2 z
 self:=fun A i s Q E st h=>by
  obtain⟨⟨old,s1⟩,_⟩:=st
  exact wpAny_pyIter_enum s1 h
theorem jP:bootBuiltins "enumerate" = some (.type "enumerate"):=by decide +kernel
def wC(K:PySem.W.Frag)(ta:TA):TI:=fun σ H R=>ta σ H fun vs H1=>∃ a:Addr,vs=[.ref a]∧(∃ xs,H1 a=some (.lst xs))∧R (sy K a) H1
theorem nE(K:PySem.W.Frag)(ta:TA){σ : St}{H:Hp}{R:It→Hp→Prop}:wC K ta σ H R=ta σ H fun vs H1=>∃ a:Addr,vs=[.ref a]∧(∃ xs,H1 a=some (.lst xs))∧R (sy K a) H1:=rfl
theorem oE(n:Addr)(P:Addr→Prop):(∃ i,[V.ref n]=[V.ref i]∧P i)=P n:=propext ⟨fun ⟨_,e,h⟩=>by cases e; exact h,fun h=>⟨n,rfl,h⟩⟩
theorem nM(K:PySem.W.Frag){X:Cx}{elts:List Expr}{k:Nat}{tpos:Pos}{a:Expr}{ta:TA}{p pos:Pos}(hg:Gl X "enumerate") (hm:X.mg "enumerate" = none) (ha:PA X [a] ta) (hs:starEach [a] X.env=[(false,eval a X.env)]:=by rfl) (hK:X.K=K:=by rfl) :
  PI X (.Tuple elts k tpos) (.Call (.Name "enumerate" p) [a] [] pos) (wC K ta):=by
 subst hK
 intro pins s σ H R I h
 refine Call_ (fH I hg hm jP (PyProof.Rows.callWith_type1 (aT (ha pos pins s σ H _ I h) fun us s1 ⟨vs,H1,I1,r1,q1⟩=>?_) hs rfl))
 obtain⟨l,e,⟨xs,h1⟩,q⟩:=q1
 subst e
 obtain⟨u1,rfl,r1'⟩:=cU r1
 obtain rfl:u1=Value.ref l:=r1'
 obtain⟨hz,its,n,rv,hl⟩ : xs.length≤sizeLine∧∃ (its:List Value) (n:Nat),Vals xs its∧s1.heap.get? l=some { cls:=.type "list", data:=.seq its.toArray n }:=I1.hok l _ h1
 refine call_enumerate_1 hl fun h' a1 a4 a6 kk=>?_
 refine wpAny_pyIter_enum a1 ⟨_,[s1.heap.objs.size+1,s1.heap.objs.size],_,_,H1,rfl,I1.kept (t':=s1.toks) kk,
  uI (e:=s1.heap.objs.size+1) (it:=s1.heap.objs.size) (Nat.ne_of_gt (Nat.lt_succ_self _)),⟨⟨_,a1⟩,a4⟩,fun b hb=>?_,q⟩
 have hb':s1.heap.objs.size≤b:=by
  simp only[List.mem_cons,List.mem_nil_iff,or_false]at hb
  rcases hb with rfl | rfl <;> first | exact Nat.le_refl _ | exact Nat.le_add_right _ _
 exact I1.fpOk hb' (I1.hok.fresh hb')
section
variable{K:PySem.W.Frag}{a b:Addr}{xs ys:List V}{g:TG}{te:TE}{nT:Nat}{σ : St}{D:Addr}{Q:VK}{H:Hp}
theorem sP{tb:TS}{D:de}(Pv:Nat→St→Hp→Prop)(h0:Pv 0 σ H)(hl:∀ i σ H,i≤xs.length→Pv i σ H→SqL K H a xs)
  (hs:∀ i x t σ H,xs[i]? = some x→Pv i σ H→H t=none→g (.ref t) σ (upd H t (.tup [.int i,x])) fun σ2 H2=>tb { D with nx:=Pv (i+1),ct:=Pv (i+1),bk:=D.nx } σ2 H2) (hd:∀ σ H,Pv xs.length σ H→D.nx σ H):iE (sy K a) g tb D σ H:=by
 refine jA xs.length Pv h0 (fun i σ H hi p=>⟨xs,xs[i],hl i σ H (Nat.le_of_lt hi) p,by simp[hi]⟩) (fun σ H p=>⟨xs,hl _ σ H (Nat.le_refl _) p,Nat.le_refl _⟩) (fun i σ H v H' hi p yl=>?_) hd
 obtain⟨t,x,ht,rfl,rfl,y1⟩:=yl
 exact hs i x t σ H (y1 xs (hl i σ H (Nat.le_of_lt hi) p)) p ht
def qW(n i:Nat)(Pv:Nat→List V→Hp→Prop)(ys:List V)(H:Hp):Prop:=∃ m',m'<n - i∧(m'=n - (i+1)∧i+1≤n∧Pv (i+1) ys H)
theorem AA{n i:Nat}{Pv:Nat→List V→Hp→Prop}{ys:List V}{H:Hp}(hi:i<n)(h:Pv (i+1) ys H):qW n i Pv ys H:=⟨n - (i+1),by omega,rfl,hi,h⟩
theorem yE{n i:Nat}{Pv:Nat→List V→Hp→Prop}{D:Addr}{ys:List V}{y:V}{H:Hp}(hi:i<n)(hlen:ys.length≤i)(hz:n≤sizeLine)(h1:H D=some (.lst ys))(h2:Pv (i+1) (ys++[y]) (upd H D (.lst (ys++[y])))):gf n i Pv D ys y H:=
 ⟨h1,by omega,n - (i+1),by omega,rfl,hi,h2⟩
def qA(n i:Nat)(Pv:Nat→List V→Hp→Prop)(D:Addr)(ys:List V)(tc:TT)(te:TE)(σ : St)(H:Hp):Prop:=
 tc σ H fun b H4=>if b=true then te σ H4 (gf n i Pv D ys) else qW n i Pv ys H4
theorem mx{n i:Nat}{Pv:Nat→List V→Hp→Prop}{D:Addr}{ys:List V}{tc:TT}{te:TE}{σ : St}{H:Hp}:qA n i Pv D ys tc te σ H=tc σ H fun b H4=>if b=true then te σ H4 (gf n i Pv D ys) else qW n i Pv ys H4:=rfl
theorem uS{J:It}{tc:TT}(n:Nat)(Pv:Nat→List V→Hp→Prop)(h0:Pv 0 [] H)(hgo:∀ i ys H,i<n→Pv i ys H→J.go i H)(hst:∀ ys H,Pv n ys H→J.stop n H)
  (hs:∀ i ys H x H',i<n→Pv i ys H→J.yld i H x H'→g x (σ++List.replicate nT none) H' (qA n i Pv D ys tc te))
  (hd:∀ ys H,Pv n ys H→Q (.ref D) H):fz J g tc te nT σ D Q H:=by
 refine⟨fun i m ys H=>m=n - i∧i≤n∧Pv i ys H,⟨n,by simp,Nat.zero_le _,h0⟩,?_⟩
 rintro i m ys H ⟨rfl,hi,p⟩
 by_cases hlt:i<n
 ·exact .inr ⟨hgo i ys H hlt p,fun x H' y=>hs i ys H x H' hlt p y⟩
 ·have e:i=n:=by omega
  subst e
  exact .inl ⟨hst ys H p,hd ys H p⟩
end
end L2
namespace L2
open PySem PySem.Spec PyProof.Rows
end L2
namespace L2
open PySem PySem.Spec PyProof.Rows
set_option genInjectivity false in
set_option genSizeOf false in
structure IK (prog:Program) (w:World) (κ : Type) [DecidableEq κ] where
 is:Heap→κ→Value→Prop
 hash:κ→Int
 draws:κ→Nat
 deep:Nat
 inj:∀ {h:Heap} {v:Value} {x y:κ},is h x v→is h y v→x=y
 keeps:∀ {h h':Heap} {k:κ} {v:Value} {d:Addr} {o:Obj} {es ep},is h k v→h.get? d=some o→o.data = .dict es ep→Heap.SameBut d h h'→is h' k v
 pyHash:∀ {A:Around} {E:Value→Shared→Prop} {s:Shared} {k:κ} {v:Value} {Q:Int→Shared→Prop},A.units+deep<cLine→is s.heap k v→Q (hash k) { s with toks:=s.toks+draws k }→
  wpAny (model prog w) A (PySem.pyHash v) Q E s
 eqBool:∀ {A:Around} {E:Value→Shared→Prop} {s:Shared} {x y:κ} {u v:Value} {Q:Bool→Shared→Prop},A.units+deep<cLine→is s.heap x u→is s.heap y v→Q (decide (x=y)) s→
  wpAny (model prog w) A (PySem.eqBool u v) Q E s
 quiet:∀ {A:Around} {E:Value→Shared→Prop} {s:Shared} {k:κ} {v:Value} {n:Nat} {Q:Bool→Shared→Prop},is s.heap k v→Q true s→wpAny (model prog w) A (eqIsQuiet (n+deep) v) Q E s
section
variable{prog:Program}{w:World}{κ : Type}[DecidableEq κ](K:IK prog w κ)
inductive IsItems (h:Heap):List κ→List Value→Prop
 | nil:IsItems h [] []
 | cons {k:κ} {v:Value} {ks:List κ} {vs:List Value}:K.is h k v→IsItems h ks vs→IsItems h (k::ks) (v::vs)
def IsTupK(h:Heap)(ks:List κ)(v:Value):Prop:=∃ a o items n,v = .ref a∧h.get? a=some o∧o.cls = .type "tuple" ∧ o.data = .seq items n∧IsItems K h ks items.toList
variable{K}
theorem IsItems.inj{h:Heap}:∀ {x y:List κ} {vs:List Value},IsItems K h x vs→IsItems K h y vs→x=y
 | _,_,_,.nil,.nil=>rfl
 | _,_,_,.cons a b,.cons c d=>by rw[K.inj a c,IsItems.inj b d]
theorem IsItems.keeps{h h':Heap}{d:Addr}{o:Obj}{es ep}(ho:h.get? d=some o)(hd:o.data = .dict es ep)(hs:Heap.SameBut d h h'):∀ {x:List κ} {vs:List Value},IsItems K h x vs→IsItems K h' x vs
 | _,_,.nil=>.nil
 | _,_,.cons a b=>.cons (K.keeps a ho hd hs) (b.keeps ho hd hs)
theorem IsItems.len{h:Heap}:∀ {x:List κ} {vs:List Value},IsItems K h x vs→x.length=vs.length
 | _,_,.nil=>rfl
 | _,_,.cons _ b=>by rw[List.length_cons,List.length_cons,b.len]
def fG(K:IK prog w κ)(ks:List κ):Nat:=(ks.map K.draws).sum
def nR(K:IK prog w κ)(ks:List κ):Int:=reduceHash (Builtin.Tuple.tupleHashOf (ks.map K.hash))
theorem gE{A:Around}{E:Value→Shared→Prop}{s:Shared}{ks:List κ}{v:Value}{Q:Int→Shared→Prop}(hu:A.units+(K.deep+1)<cLine)(hk:IsTupK K s.heap ks v)(h:Q (nR K ks) { s with toks:=s.toks+(fG K ks+1) }) :
  wpAny (model prog w) A (PySem.pyHash v) Q E s:=by
 obtain⟨a,o,items,n,rfl,ho,hc,hd,hi⟩:=hk
 have hT:s.TypeIs (.ref a) "tuple" := ⟨o,ho,hc⟩
 unfold PySem.pyHash
 first | unfold pyHashByItsType | skip
 first | refine wpAny_bind (wpAny_cRoomFor_or (.inr (by omega)) ?_) | skip
 refine wpAny_bind (wpAny_specialOf hT PySem.F.slot_tuple_hash.lookup ?_)
 rw[if_neg (by rw[beq_builtin_none]; exact Bool.false_ne_true)]
 refine wpAny_bind (wpAny_specialOf hT PySem.F.slot_tuple_hash.lookup ?_)
 show wpAny _ _ (callSpecialIfBoundUnlessNone? (.ref a) "__hash__" _ >>= _) Q E s
 refine wpAny_bind (wpAny_callSpecialIfBoundUnlessNone?_slot hT PySem.F.slot_tuple_hash (wpAny_call_entry PySem.F.slot_tuple_hash hT
  PySem.F.entry_tuple_hash ?_ (PySem.F.args_tuple_hash_1 _)))
 show wpAny _ _ (Builtin.Tuple.tupleItemsOf (.ref a) >>= _) _ _ s
 refine wpAny_bind (wpAny_tupleItemsOf ho hd (wpAny_bind ?_))
 rw[← Array.forIn_toList]
 refine wpAny_forIn_list _ (fun rest (b:Array Int) s'=>∃ done left,ks=done++left∧IsItems K s.heap left rest∧b.toList=done.map K.hash∧s'={ s with toks:=s.toks+fG K done }) _ ?_ ?_ _ _ ⟨[],ks,rfl,hi,rfl,rfl⟩
 ·rintro x rest b s' ⟨done,left,rfl,hl,hb,rfl⟩
  cases hl with
  | @cons k _ ks' _ h1 hl'=>
   have e:fG K (done++[k])=fG K done+K.draws k:=by simp[fG]
   refine wpAny_bind (K.pyHash (show A.in1.units+K.deep<cLine from by show A.units+1+K.deep<cLine; omega) h1 ?_)
   have fin:∃ done' left',done++k::ks'=done'++left'∧IsItems K s.heap left' rest∧(b.push (K.hash k)).toList=done'.map K.hash∧({ s with toks:=s.toks+fG K done+K.draws k }:Shared)={ s with toks:=s.toks+fG K done' }:=
    ⟨done++[k],ks',by simp,hl',by simp[hb],by rw[e,Nat.add_assoc]⟩
   first
    | exact wpAny_pure fin
    | exact wpAny_bind (wpAny_pure (wpAny_pure fin))
 ·rintro b s' ⟨done,left,rfl,hl,hb,rfl⟩
  cases hl
  rw[List.append_nil]at h
  show wpAny _ _ (retInt (Builtin.Tuple.tupleHashOf b.toList)) _ _ _
  rw[hb]
  refine wpAny_ret_mkInt ?_
  unfold nR reduceHash at h
  show wpAny _ _ (if (decide (-(2:Int) ^ 63≤Builtin.Tuple.tupleHashOf (done.map K.hash))&&decide (Builtin.Tuple.tupleHashOf (done.map K.hash)<2 ^ 63))=true then _ else _) Q E _
  by_cases hr:(decide (-(2:Int) ^ 63≤Builtin.Tuple.tupleHashOf (done.map K.hash))&&decide (Builtin.Tuple.tupleHashOf (done.map K.hash)<2 ^ 63))=true
  ·rw[if_pos hr]at h ⊢
   exact wpAny_pure (by simpa [Nat.add_assoc] using h)
  ·rw[if_neg hr]at h ⊢
   exact wpAny_bind (wpAny_rule (wpAny_pure (by simpa [Nat.add_assoc] using h)))
theorem qR{A:Around}{E:Value→Shared→Prop}{s:Shared}{x y:List κ}{a b:Addr}{P:Fin→Shared→Prop}(hu:A.units+K.deep<cLine)(hx:IsTupK K s.heap x (.ref a))(hy:IsTupK K s.heap y (.ref b))(h:P (.done (.ret (.bool (decide (x=y))))) s) :
  wpAny (model prog w) A (Builtin.«tuple.__eq__» ⟨[.ref a,.ref b],[]⟩) P E s:=by
 obtain⟨_,oa,xs,na,e1,hoa,ca,hda,hia⟩:=hx
 obtain⟨_,ob,ys,nb,e2,hob,cb,hdb,hib⟩:=hy
 cases e1
 cases e2
 show wpAny _ _ (isInstance (.ref b) (.type "tuple") >>= _) _ _ s
 refine wpAny_bind (wpAny_isInstance ⟨ob,hob,cb⟩ isSubtype_tuple_tuple ?_)
 simp only[Bool.not_true,Bool.false_eq_true,if_false]
 refine wpAny_bind (wpAny_tupleItemsOf hoa hda (wpAny_bind (wpAny_tupleItemsOf hob hdb (wpAny_bind ?_))))
 refine wpAny_forIn_list _ (fun rest r s'=>r.1=none∧s'=s∧∃ x' y' xs' ys',rest=List.zip xs' ys'∧IsItems K s.heap x' xs'∧IsItems K s.heap y' ys'∧decide (x'=y')=decide (x=y)∧(xs'.length == ys'.length)=(xs.size == ys.size)) _ ?_ ?_ _ _
  ⟨rfl,rfl,x,y,xs.toList,ys.toList,rfl,hia,hib,rfl,by simp⟩
 ·rintro⟨u,v⟩ rest r s' ⟨hr,rfl,x',y',xs',ys',hz,hx',hy',hdec,hlen⟩
  cases hx' with
  | nil=>simp at hz
  | @cons k1 u' x'' xs'' h1 hx''=>
   cases hy' with
   | nil=>simp at hz
   | @cons k2 v' y'' ys'' h2 hy''=>
    simp only[List.zip_cons_cons,List.cons.injEq,Prod.mk.injEq]at hz
    obtain⟨⟨rfl,rfl⟩,rfl⟩:=hz
    refine wpAny_bind (K.eqBool (x:=k1) (y:=k2) hu h1 h2 ?_)
    by_cases hk:k1=k2
    ·subst hk
     rw[decide_eq_true rfl]
     simp only[Bool.not_true,Bool.false_eq_true,if_false]
     refine wpAny_pure ⟨rfl,rfl,x'',y'',xs'',ys'',rfl,hx'',hy'',?_,by simpa using hlen⟩
     rw[← hdec]
     by_cases hxy:x''=y'' <;> simp[hxy]
    ·rw[decide_eq_false hk]
     simp only[Bool.not_false,if_true]
     have hf:decide (x=y)=false:=by rw[← hdec]; simp[hk]
     rw[hf]at h
     exact wpAny_bind (wpAny_pure (wpAny_pure (wpAny_pure h)))
 ·rintro⟨r1,r2⟩ s' ⟨hr,rfl,x',y',xs',ys',hz,hx',hy',hdec,hlen⟩
  simp only at hr
  subst hr
  refine wpAny_pure ?_
  have hfin:(xs.size == ys.size)=decide (x=y):=by
   rw[← hdec,← hlen]
   cases hx' with
   | nil=>cases hy' <;> simp
   | cons _ _=>
    cases hy' with
    | nil=>simp
    | cons _ _=>simp at hz
  show P (.done (.ret (.bool (xs.size == ys.size)))) s'
  rw[hfin]; exact h
theorem jF{A:Around}{E:Value→Shared→Prop}{s:Shared}{x y:List κ}{u v:Value}{Q:Bool→Shared→Prop}(hu:A.units+(K.deep+1)<cLine)(hx:IsTupK K s.heap x u)(hy:IsTupK K s.heap y v)(h:Q (decide (x=y)) s) :
  wpAny (model prog w) A (PySem.eqBool u v) Q E s:=by
 have hx0:=hx
 have hy0:=hy
 obtain⟨a,oa,xs,na,rfl,hoa,ca,hda,hia⟩:=hx
 obtain⟨b,ob,ys,nb,rfl,hob,cb,hdb,hib⟩:=hy
 unfold PySem.eqBool
 try with_reducible refine wpAny_holding ?_
 show wpAny _ _ (if (Value.ref a == Value.ref b)=true then _ else _) Q E s
 by_cases hab:(Value.ref a == Value.ref b)=true
 ·rw[if_pos hab]
  have e:a=b:=by have:=eq_of_beq hab; injection this
  subst e
  rw[hoa]at hob
  cases hob
  rw[hda]at hdb
  injection hdb with e1 _
  subst e1
  rw[decide_eq_true (hia.inj hib)]at h
  exact wpAny_bind (wpAny_rule (wpAny_pure h))
 ·rw[if_neg hab]
  have ta:s.TypeIs (.ref a) "tuple" := ⟨oa,hoa,ca⟩
  have tb:s.TypeIs (.ref b) "tuple" := ⟨ob,hob,cb⟩
  refine wpAny_bind (wpAny_richCompare_same_room (op:=.Eq) ta tb PySem.F.slot_tuple_eq (wpAny_call_entry PySem.F.slot_tuple_eq ta PySem.F.entry_tuple_eq ?_ (PySem.F.args_tuple_eq_2 _ _)) (by omega))
  refine qR (K:=K) ?_ hx0 hy0 ⟨_,rfl,(fun e=>nomatch e),wpAny_truthy_bool h⟩
  show A.units+1+K.deep<cLine
  omega
theorem f_{A:Around}{E:Value→Shared→Prop}{s:Shared}{ks:List κ}{v:Value}{n:Nat}{Q:Bool→Shared→Prop}(hk:IsTupK K s.heap ks v)(h:Q true s):wpAny (model prog w) A (eqIsQuiet (n+(K.deep+1)) v) Q E s:=by
 obtain⟨a,o,items,m,rfl,ho,hc,hd,hi⟩:=hk
 have hT:s.TypeIs (.ref a) "tuple" := ⟨o,ho,hc⟩
 rw[show n+(K.deep+1)=(n+K.deep)+1 from rfl]
 unfold eqIsQuiet
 refine wpAny_bind (wpAny_specialOf hT PySem.F.slot_tuple_eq.lookup ?_)
 show wpAny _ _ (isInstance (.ref a) (.type "tuple") >>= _) _ _ s
 refine wpAny_bind (wpAny_isInstance hT isSubtype_tuple_tuple ?_)
 simp only[Bool.not_true,Bool.false_eq_true,if_false]
 refine wpAny_bind (wpAny_seqItems ho hd (wpAny_bind ?_))
 show wpAny _ _ (forIn items _ _) _ _ s
 rw[← Array.forIn_toList]
 refine wpAny_forIn_list _ (fun rest r s'=>r.1=none∧s'=s∧∃ ks',IsItems K s.heap ks' rest) _ ?_ ?_ _ _ ⟨rfl,rfl,ks,hi⟩
 ·rintro v rest r s' ⟨hr,rfl,ks',hall⟩
  cases hall with
  | cons h1 h2=>
   refine wpAny_bind (K.quiet h1 ?_)
   simp only[Bool.not_true,Bool.false_eq_true,if_false]
   exact wpAny_pure ⟨rfl,rfl,_,h2⟩
 ·rintro⟨r1,r2⟩ s' ⟨hr,rfl,_⟩
  simp only at hr
  subst hr
  exact wpAny_pure h
def sg(K:IK prog w κ):IK prog w (List κ) where
 is:=IsTupK K
 hash:=nR K
 draws:=fun ks=>fG K ks+1
 deep:=K.deep+1
 inj:=by
  rintro h v x y ⟨a,oa,xs,na,rfl,hoa,ca,hda,hia⟩ ⟨b,ob,ys,nb,e,hob,cb,hdb,hib⟩
  cases e
  rw[hoa]at hob
  cases hob
  rw[hda]at hdb
  injection hdb with e1 _
  subst e1
  exact hia.inj hib
 keeps:=by
  rintro h h' k v d o es ep ⟨a,oa,xs,na,rfl,hoa,ca,hda,hia⟩ ho hd hs
  have hne:a≠d:=by
   rintro rfl
   rw[hoa]at ho
   cases ho
   rw[hd]at hda; cases hda
  exact⟨a,oa,xs,na,rfl,(hs.2 a hne).trans hoa,ca,hda,hia.keeps ho hd hs⟩
 pyHash:=fun hu hk h=>gE hu hk h
 eqBool:=fun hu hx hy h=>jF hu hx hy h
 quiet:=fun hk h=>f_ hk h
def wG(K:IK prog w κ)(hd:K.deep≤7):HeapKind prog w (List κ) where
 is:=fun h k a=>IsTupK K h k (.ref a)
 hash:=nR K
 draws:=fun ks=>fG K ks+1
 room:=fun A=>A.units+(K.deep+1)<cLine
 inj:=(sg K).inj
 keeps:=(sg K).keeps
 pyHash:=fun hu hk h=>gE hu hk h
 eqBool:=fun hu hx hy h=>jF hu hx hy h
 quiet:=fun {A E s k a Q} hk h=>by
  have q:=f_ (n:=7 - K.deep) (A:=A) (E:=E) hk h
  rwa [show 7 - K.deep+(K.deep+1)=8 by omega]at q
end
end L2
namespace L2
open PySem PySem.Spec PyProof.Rows
def fW:Option Int→V
 | none=>.non
 | some i=>.int i
theorem vi{x y:Option Int}{v:Value}(a:RelV (fW x) v)(b:RelV (fW y) v):x=y:=by
 have e:=a.inj b
 cases x <;> cases y <;> simp_all [fW]
theorem kD(x:Option Int):bG (fW x)=true:=by cases x <;> rfl
theorem x_(x y:Option Int):dY (fW x) (fW y)=decide (x=y):=by
 cases x with
 | none=>cases y <;> rfl
 | some i=>
  cases y with
  | none=>rfl
  | some j=>
   show (i == j)=_
   by_cases h:i=j <;> simp[h]
theorem uy{prog:Program}{w:World}{A:Around}{E:Value→Shared→Prop}{s:Shared}{Q:Int→Shared→Prop}(h:Q 0xFCA86420 { s with toks:=s.toks+1 }):wpAny (model prog w) A (PySem.pyHash .none) Q E s:=by
 have hT:s.TypeIs .none "NoneType" := rfl
 unfold PySem.pyHash
 first | unfold pyHashByItsType | skip
 refine wpAny_bind ?_
 rw[cRoomFor,if_neg (by decide)]
 refine wpAny_pure (wpAny_bind (wpAny_specialOf hT PySem.F.slot_NoneType_hash.lookup ?_))
 rw[if_neg (by rw[beq_builtin_none]; exact Bool.false_ne_true)]
 refine wpAny_bind (wpAny_specialOf hT PySem.F.slot_NoneType_hash.lookup ?_)
 show wpAny _ _ (callSpecialIfBoundUnlessNone? .none "__hash__" _ >>= _) Q E s
 refine wpAny_bind (wpAny_callSpecialIfBoundUnlessNone?_slot hT PySem.F.slot_NoneType_hash (wpAny_call_entry PySem.F.slot_NoneType_hash hT
  PySem.F.entry_NoneType_hash ?_ (PySem.F.args_NoneType_hash_1 _)))
 show wpAny _ _ (retInt 0xFCA86420) _ _ s
 refine wpAny_ret_mkInt ?_
 exact wpAny_pure h
def dq(prog:Program)(w:World):IK prog w (Option Int) where
 is:=fun _ k v=>RelV (fW k) v
 hash:=fun k=>match k with
  | none=>0xFCA86420
  | some i=>hashInt i
 draws:=fun _=>1
 deep:=0
 inj:=fun a b=>vi a b
 keeps:=fun a _ _ _=>a
 pyHash:=fun {A E s k v Q} _ hk h=>by
  cases k with
  | none=>
   obtain rfl:v=Value.none:=hk
   exact uy h
  | some i=>
   obtain⟨t,rfl⟩:=(show ∃ t,v=Value.int i t from hk)
   exact wpAny_pyHash_int h
 eqBool:=fun {A E s x y u v Q} _ hx hy h=>by
  have q:=jw (A:=A) (s:=s) hx hy (kD x) (kD y)
  rw[x_]at q
  exact q prog w E Q h
 quiet:=fun {A E s k v n Q} hk h=>by
  have e:carriedByValue v=true:=by
   cases k with
   | none=>obtain rfl:v=Value.none:=hk; rfl
   | some i=>obtain⟨t,rfl⟩:=(show ∃ t,v=Value.int i t from hk); rfl
  rw[eqIsQuiet_byValue _ e]
  exact wpAny_pure h
abbrev NI:=Sum Int (List (Option Int))
theorem IsTupK.tup{prog:Program}{w:World}{κ : Type}[DecidableEq κ]{K:IK prog w κ}{h:Heap}{l:List κ}{v:Value}(x:IsTupK K h l v):∃ a its,v = .ref a∧h.IsTuple a its:=by
 obtain⟨a,o,items,n,rfl,ho,hc,hd,hi⟩:=x
 exact⟨a,items,rfl,o,ho,hc,n,hd⟩
theorem oS{A:Around}{prog:Program}{w:World}(hu:A.units+1<cLine):A.units+((dq prog w).deep+1)<cLine:=hu
end L2
namespace L2
open PySem PySem.Spec PyProof.Rows
abbrev vt:=Int × List (Option Int)
def nk(k:vt):List NI:=[.inl k.1,.inr k.2]
section
variable{P:Program}{w:World}{H:Hp}
end
section
variable{X:Cx}{pins:List (Addr × Obj)}{σ : St}{H:Hp}{s:Shared}{a b:Addr}{k:vt}{kvs:List (vt × V)}
theorem Paired.snoc{α β : Type}{F:α→β→Prop}{x:α}{y:β}(h:F x y):∀ {l:List α} {m:List β},Paired F l m→Paired F (l++[x]) (m++[y])
 | _,_,.nil=>.cons h .nil
 | _,_,.cons r t=>.cons r (Paired.snoc h t)
end
end L2
namespace L2
open PySem PySem.Spec PyProof.Rows PySem.SeqAt
section
variable{X:Cx}
def CG(K:PySem.W.Frag):R2:=fun x y H Q=>jB K x y H Q∨∃ a kvs k v,x = .ref a∧y=kV k∧H a=some (.dK kvs)∧bE kvs k=some v∧Q v H
theorem mr(K:PySem.W.Frag)(hK:X.K=K:=by rfl):IxR X (CG K):=by
 intro value slice pins s σ H x y v u Q I rx ry h hs
 rcases h with h | ⟨a,kvs,k,z,rfl,rfl,e,l,q⟩
 ·exact aG K hK value slice pins s σ H x y v u Q I rx ry h hs
 ·cases rx
  obtain⟨_,hd,vs,rel,dd⟩:=lu I.hok (.inl e)
  obtain⟨w',hw,rw'⟩:=RelO.some_of (v:=z) (o:=valueAt vs k) (by rw[← l]; exact rel.val k)
  have hl:typeLookup (.type "dict") "__getitem__" = pure (some (.builtin "dict.__getitem__")):=PySem.F.slot_dict_getitem.lookup
  exact subscriptTail_builtinR (x:=w') dd.typeIs hl (wpAny_getItem_of (je ry) dd.mapOf hw ⟨rfl,z,H,I.tok _,rw',q⟩) hs
def x5:R2:=fun x y H Q=>∃ a kvs k,y = .ref a∧x=kV k∧H a=some (.dK kvs)∧Q (.bl (!(bE kvs k).isSome)) H
theorem ux{n:Nat}(hr:Room n X.A):OpR X (compareOp .NotIn) x5:=by
 intro pins s σ H x y v u Q I rx ry h
 obtain⟨a,kvs,k,rfl,rfl,e,q⟩:=h
 cases ry
 exact xL (by have:=hr.un; omega) I (DGet.k e) rx fun s' I'=>⟨.bl _,H,I',rfl,q⟩
def An:mW:=fun o i v H Q=>∃ a kvs k,o = .ref a∧i=kV k∧H a=some (.dK kvs)∧kvs.length<sizeLine∧Q (upd H a (.dK (cj kvs k v)))
theorem rj{n:Nat}(hr:Room n X.A):PSet X An:=by
 intro pins s σ H o i v ov iv u Q I ro ri rv h
 obtain⟨a,kvs,k,rfl,rfl,e,hl,q⟩:=h
 cases ro
 exact uE (by have:=hr.un; omega) I (DPut.k e hl) ri rv fun s' I'=>⟨_,I',q⟩
end
section
variable{K:PySem.W.Frag}{H:Hp}{Q:VK}
end
section
variable{X:Cx}
end
end L2
namespace L2
open PySem PySem.Spec PyProof.Rows PySem.SeqAt
theorem xY{X:Cx}:MtR X "list.pop" vo:=zE
section
variable{K:PySem.W.Frag}{H:Hp}{Q:VK}
theorem oR(p:Addr):vo (.ref p) [] H Q=∃ xs y,H p=some (.lst xs)∧xs[xs.length - 1]? = some y∧Q y (upd H p (.lst xs.dropLast)):=
 propext ⟨fun ⟨_,xs,y,e1,_,q⟩=>by cases e1; exact⟨xs,y,q⟩,fun ⟨xs,y,q⟩=>⟨p,xs,y,rfl,rfl,q⟩⟩
end
theorem pR{X:Cx}(K:PySem.W.Frag){o:Expr}{to:TE}{name:Str}{apos cpos:Pos}{T id:String}{r:V→List V→Hp→VK→Prop}(pa:PlainAttrs T)(slot:Slot T name id)(hty:typeOf (.builtin id)=pure (.type "method_descriptor")) (hm:MtR X id r) (ho:PE X o to)
  (hbase:attributeBase o name X.env (eval o X.env)=eval o X.env:=by rfl) (hline:(apos.endLine == cpos.line)=true:=by rfl) (hK:X.K=K:=by rfl):PE X (.Call (.Attribute o name apos) [] [] cpos) (vN K T r to):=hK ▸ zL pa slot hty hm ho hbase hline
end L2
namespace L2
open PySem PySem.Spec PyProof.Rows PySem.SeqAt
theorem oG:∀ (xs:List V) (us:List Value),xs.length=us.length→(∀ (j:Nat) x u,xs[j]? = some x→us[j]? = some u→RelV x u)→Vals xs us
 | [],[],_,_=>.nil
 | [],u::us,hl,_=>by simp at hl
 | x::xs,[],hl,_=>by simp at hl
 | x::xs,u::us,hl,h=>.cons (h 0 x u rfl rfl) (oG xs us (by simpa using hl) fun j a b e1 e2=>h (j+1) a b e1 e2)
section
variable{X:Cx}
end
section
variable{X:Cx}
end
section
variable{prog:Program}{w:World}{K:Type}[DecidableEq K]{knd:KeyKind prog w K}{A:Around}{E:Value→Shared→Prop}{s:Shared}
end
section
variable{X:Cx}
theorem ja{α β : Type}{F:α→β→Prop}:∀ {l:List α} {m:List β} {j:Nat} {a:α} {b:β},Paired F l m→l[j]? = some a→m[j]? = some b→F a b
 | _,_,0,_,_,.cons h _,e1,e2=>by
  cases e1; cases e2; exact h
 | _,_,j+1,_,_,.cons _ t,e1,e2=>ja (j:=j) t e1 e2
 | _,_,0,_,_,.nil,e1,_=>by cases e1
 | _,_,_+1,_,_,.nil,e1,_=>by cases e1
theorem yN:bootBuiltins "set" = some (.type "set"):=by decide +kernel
def w6(K:PySem.W.Frag)(SO:Addr→List Int→HO):List V→Hp→VK→Prop:=fun xs H Q=>∃ p,∃ ns:List Int,xs=[.ref p]∧SqL K H p (ns.map V.int)∧ns.length≤60∧∀ (l:Addr) (ds:List Int),H l=none→ds.Nodup→(∀ x,x∈ds ↔ x∈ns)→ds.length≤ns.length→Q (.ref l) (upd H l (SO l ds))
def nV(SO:Addr→List Int→HO):List V→Hp→VK→Prop:=fun xs H Q=>∃ p,∃ ds:List Int,xs=[.ref p]∧H p=some (SO p ds)∧ds.length≤60∧∀ (l:Addr) (ts:List Int),H l=none→ts.Perm ds→ts.Pairwise (· ≤ ·)→Q (.ref l) (upd H l (.lst (ts.map V.int)))
end
end L2
namespace L2
open PySem PySem.Spec PyProof.Rows PySem.SeqAt
def er(xs:Array Nat):Prop:=∀ (a b:Nat) (ha:a<xs.size) (hb:b<xs.size),a<b→xs[a]<xs[b]
theorem iD{xs:Array Nat}(h:er xs)(j:Nat):∀ (fuel lo hi:Nat),lo≤hi→hi≤xs.size→hi - lo≤fuel→(∀ k (hk:k<xs.size),k<lo→xs[k]<j)→(∀ k (hk:k<xs.size),hi≤k→j≤xs[k])→
  SetTable.below.go xs j fuel lo hi≤xs.size∧(∀ k (hk:k<xs.size),k<SetTable.below.go xs j fuel lo hi→xs[k]<j)∧(∀ k (hk:k<xs.size),SetTable.below.go xs j fuel lo hi≤k→j≤xs[k])
 | 0,lo,hi,h1,h2,h3,h4,h5=>by
  have e:lo=hi:=by omega
  subst e
  exact⟨h2,h4,h5⟩
 | fuel+1,lo,hi,h1,h2,h3,h4,h5=>by
  unfold SetTable.below.go
  split
  ·rename_i hlt
   have hm:(lo+hi) / 2<xs.size:=by omega
   have eg:xs.getD ((lo+hi) / 2) j=xs[(lo+hi) / 2]:=by simp[Array.getD,hm]
   dsimp only
   rw[eg]
   split
   ·rename_i hj
    refine iD h j fuel _ hi (by omega) h2 (by omega) (fun k hk hkm=>?_) h5
    rcases Nat.lt_or_ge k ((lo+hi) / 2) with z | z
    ·exact Nat.lt_trans (h k _ hk hm z) hj
    ·have:k=(lo+hi) / 2:=by omega
     subst this; exact hj
   ·rename_i hj
    refine iD h j fuel lo _ (by omega) (by omega) (by omega) h4 (fun k hk hkm=>?_)
    rcases Nat.lt_or_ge ((lo+hi) / 2) k with z | z
    ·exact Nat.le_trans (Nat.le_of_not_lt hj) (Nat.le_of_lt (h _ k hm hk z))
    ·have:k=(lo+hi) / 2:=by omega
     subst this; exact Nat.le_of_not_lt hj
  ·have e:lo=hi:=by omega
   subst e
   exact⟨h2,h4,h5⟩
theorem eJ{xs:Array Nat}(h:er xs)(j:Nat):SetTable.below xs j≤xs.size∧(∀ k (hk:k<xs.size),k<SetTable.below xs j→xs[k]<j)∧(∀ k (hk:k<xs.size),SetTable.below xs j≤k→j≤xs[k]):=
 iD h j xs.size 0 xs.size (Nat.zero_le _) (Nat.le_refl _) (by omega) (fun k _ z=>absurd z (Nat.not_lt_zero _)) (fun k hk z=>absurd hk (by omega))
theorem q_{xs:Array Nat}(h:er xs):SetTable.below xs 0=0:=by
 obtain⟨h1,h2,h3⟩:=eJ h 0
 refine Classical.byContradiction fun hn=>?_
 exact absurd (h2 0 (by omega) (by omega)) (Nat.not_lt_zero _)
theorem rX{xs:Array Nat}(h:er xs){i:Nat}(hi:i<xs.size):SetTable.below xs (xs[i]+1)=i+1:=by
 obtain⟨h1,h2,h3⟩:=eJ h (xs[i]+1)
 rcases Nat.lt_trichotomy (SetTable.below xs (xs[i]+1)) (i+1) with z | z | z
 ·have:=h3 i hi (by omega); omega
 ·exact z
 ·have h4:=h2 (i+1) (by omega) z
  have h5:=h i (i+1) hi (by omega) (by omega)
  omega
theorem kP{xs:Array Nat}{p x k:Nat}(hp:p≤xs.size)(hk:k<(SetTable.insertAt xs p x).size):(SetTable.insertAt xs p x)[k]=if h:k<p then xs[k]'(by omega) else if k=p then x else xs.getD (k - 1) 0:=by
 have hs:(SetTable.insertAt xs p x).size=xs.size+1:=by
  unfold SetTable.insertAt; simp; omega
 have e:(SetTable.insertAt xs p x)[k]? = some (if h:k<p then xs[k]'(by omega) else if k=p then x else xs.getD (k - 1) 0):=by
  unfold SetTable.insertAt
  rw[Array.getElem?_append]
  simp only[Array.size_push,Array.size_extract]
  split
  ·rename_i h
   rw[Array.getElem?_push]
   simp only[Array.size_extract]
   by_cases hkp:k<p
   ·rw[if_neg (by omega),dif_pos hkp,Array.getElem?_extract]
    simp; omega
   ·have:k=p:=by omega
    subst this
    rw[if_pos (by omega),dif_neg hkp,if_pos rfl]
  ·rename_i h
   rw[dif_neg (by omega),if_neg (by omega),Array.getElem?_extract]
   have hk':k - 1<xs.size:=by omega
   rw[if_pos (by omega),show p+(k - (min p xs.size - 0+1))=k - 1 by omega]
   simp[Array.getD,hk']
 rw[Array.getElem?_eq_getElem hk]at e
 exact Option.some.inj e
theorem lR{xs:Array Nat}(h:er xs){j:Nat}(hj:∀ k (hk:k<xs.size),xs[k]≠j):er (SetTable.insertAt xs (SetTable.below xs j) j):=by
 obtain⟨h1,h2,h3⟩:=eJ h j
 have hs:(SetTable.insertAt xs (SetTable.below xs j) j).size=xs.size+1:=by
  unfold SetTable.insertAt; simp; omega
 generalize SetTable.below xs j=p at h1 h2 h3 hs
 intro a b ha hb hab
 rw[kP h1 ha,kP h1 hb]
 have gd:∀ k,k<xs.size→∃ hk:k<xs.size,xs.getD k 0=xs[k]:=fun k hk=>⟨hk,by simp[Array.getD,hk]⟩
 by_cases a1:a<p
 ·rw[dif_pos a1]
  by_cases b1:b<p
  ·rw[dif_pos b1]; exact h a b _ _ hab
  ·rw[dif_neg b1]
   by_cases b2:b=p
   ·rw[if_pos b2]; exact h2 a (by omega) a1
   ·rw[if_neg b2]
    obtain⟨hk,e⟩:=gd (b - 1) (by omega)
    rw[e]; exact h a (b - 1) _ _ (by omega)
 ·rw[dif_neg a1,dif_neg (by omega)]
  by_cases a2:a=p
  ·rw[if_pos a2,if_neg (by omega)]
   obtain⟨hk,e⟩:=gd (b - 1) (by omega)
   rw[e]
   have:=h3 (b - 1) hk (by omega)
   have:=hj (b - 1) hk
   omega
  ·rw[if_neg a2,if_neg (by omega)]
   obtain⟨hk,e⟩:=gd (b - 1) (by omega)
   obtain⟨hk2,e2⟩:=gd (a - 1) (by omega)
   rw[e,e2]; exact h _ _ _ _ (by omega)
theorem tR{t:SetTable}{j:Nat}(h:er t.place)(e:∀ i,t.slot j ≠ .live i):∀ k (hk:k<t.place.size),t.place[k]≠j:=fun k hk ek=>by
 obtain⟨h1,h2,h3⟩:=eJ h j
 have hb:SetTable.below t.place j=k:=by
  rcases Nat.lt_trichotomy (SetTable.below t.place j) k with z | z | z
  ·have:=h3 (SetTable.below t.place j) (by omega) (Nat.le_refl _)
   have:=h (SetTable.below t.place j) k (by omega) hk z
   omega
  ·exact z
  ·have:=h2 k hk z; omega
 refine e k ?_
 unfold SetTable.slot
 rw[hb]
 dsimp only
 rw[Array.getElem?_eq_getElem hk,ek]
 simp
theorem iQ{t:SetTable}{hashAt:Nat→Int}{h:Int}:∀ (fuel:Nat) (p:SetTable.Probe),(∀ d,p.dummy=some d→t.slot d = .dummy)→∀ j dm,SetTable.probe.go t hashAt h fuel p=some (.empty j dm)→t.slot j = .empty∧∀ d,dm=some d→t.slot d = .dummy
 | 0,p,_,j,dm,e=>by unfold SetTable.probe.go at e; cases e
 | fuel+1,p,hp,j,dm,e=>by
  unfold SetTable.probe.go at e
  have adv:∀ q:SetTable.Probe,(t.advance q).dummy=q.dummy:=fun q=>by unfold SetTable.advance; split <;> rfl
  cases hs:t.slot p.j with
  | empty=>
   rw[hs]at e
   cases e
   exact⟨hs,hp⟩
  | dummy=>
   rw[hs]at e
   refine iQ fuel _ (fun d hd=>?_) j dm e
   rw[adv]at hd
   cases hd
   exact hs
  | live i=>
   rw[hs]at e
   dsimp only at e
   split at e
   ·cases e
   ·exact iQ fuel _ (fun d hd=>by rw[adv]at hd; exact hp d hd) j dm e
structure cv (L:Bool) (t:SetTable):Prop where
 led:t.led=L
 rise:er t.place
theorem oj(n:Nat):er (Array.range n):=fun a b ha hb hab=>by simpa using hab
theorem dU{L:Bool}{t:SetTable}(h:cv L t)(n:Nat):cv L (t.standIn n):=⟨h.led,oj n⟩
theorem uc{L:Bool}{t:SetTable}(h:cv L t){hh:Int}{j:Nat}{b:Bool}(e:t.freeSlot hh=some (j,b)):cv L (t.put j).1:=by
 refine⟨h.led,lR h.rise (tR h.rise ?_)⟩
 unfold SetTable.freeSlot at e
 split at e
 ·rename_i j' dm hpr
  have:=iQ (t:=t) _ (t.probeStart hh) (fun d hd=>by cases hd) j' dm hpr
  cases dm with
  | none=>
   cases e
   exact fun i z=>by have:=this.1; rw[show (none:Option Nat).getD j'=j' from rfl,this]at z; cases z
  | some d=>
   cases e
   exact fun i z=>by have:=this.2 d rfl; rw[show (some d:Option Nat).getD j'=d from rfl,this]at z; cases z
 ·cases e
theorem ow{L:Bool}{t:SetTable}(h:cv L t)(es:Array (Int × Value))(hh:Int)(x:Value):cv L (layNew t es hh x).2.1:=by
 unfold layNew
 cases e:t.freeSlot hh with
 | none=>exact dU h _
 | some q=>
  obtain⟨j,b⟩:=q
  have hg:=uc h e
  show cv L ((t.put j).1.orStandIn _)
  unfold SetTable.orStandIn
  split
  ·exact hg
  ·exact dU hg _
theorem ib{l:List Nat}(h:l.Pairwise (· < ·)):er l.toArray:=fun a b ha hb hab=>by
 have:=(List.pairwise_iff_getElem.mp h) a b (by simpa using ha) (by simpa using hb) hab
 simpa using this
theorem q8{L:Bool}{t:SetTable}(h:cv L t)(es:Array (Int × Value))(n:Nat):cv L (relayAll t es n).2.1:=by
 unfold relayAll
 split
 ·rename_i t' order e
  dsimp only
  split
  ·unfold SetTable.relaid SetTable.laid at e
   cases ho:SetTable.layClean (SetTable.sizeAbove n - 1) (es.map (·.1)) with
   | none=>rw[ho]at e; cases e
   | some owner=>
    rw[ho]at e
    cases e
    refine⟨h.led,ib ?_⟩
    refine List.pairwise_map.mpr ?_
    refine List.Pairwise.filterMap _ ?_ List.pairwise_lt_range
    intro a b hab x hx y hy
    obtain⟨k,_,rfl⟩:=Option.map_eq_some_iff.mp hx
    obtain⟨k',_,rfl⟩:=Option.map_eq_some_iff.mp hy
    exact hab
  ·exact dU h _
 ·exact dU h _
end L2
namespace L2
open PySem PySem.Spec PyProof.Rows PySem.SeqAt
section
variable{prog:Program}{w:World}{K:Type}[DecidableEq K]{knd:KeyKind prog w K}{A:Around}{E:Value→Shared→Prop}{s:Shared}{G:SetTable→Prop}
def Apart(knd:KeyKind prog w K)(l:List (Int × Value)):Prop:=l.Pairwise fun e e'=>∀ k,knd.is k e.2=true→knd.is k e'.2=false
theorem Apart.perm{l l':List (Int × Value)}(h:Apart knd l)(p:l'.Perm l):Apart knd l':=
 (p.pairwise_iff fun {x y} hxy k hk=>by
  cases e:knd.is k x.2 with
  | false=>rfl
  | true=>rw[hxy k e]at hk; cases hk).mpr h
theorem Apart.push{l:List (Int × Value)}{k:K}{x:Value}{hh:Int}(h:Apart knd l)(hn:∀ e∈l,knd.is k e.2=false)(hk:knd.is k x=true):Apart knd (l++[(hh,x)]):=by
 refine List.pairwise_append.mpr ⟨h,List.pairwise_singleton _ _,fun e he b hb k' hk'=>?_⟩
 rw[List.mem_singleton.mp hb]
 show knd.is k' x=false
 rw[KeyKind.is_eq_decide hk k']
 refine decide_eq_false fun e'=>?_
 subst e'
 rw[hn e he]at hk'; cases hk'
structure mL (knd:KeyKind prog w K) (G:SetTable→Prop) (o:Obj) (es:Array (Int × Value)) (ep:Nat) (t:SetTable) (S:K→Bool) (n:Nat):Prop where
 ex:o.ExactSet
 dat:o.data = .set es ep t
 el:ElemsOf knd es.toList
 mem:∀ k,S k=true ↔ ∃ e∈es.toList,knd.is k e.2=true
 few:es.size<scanBound
 fit:t.fits es.size=true
 num:es.size=n
 good:G t
 apart:Apart knd es.toList
def SetG(knd:KeyKind prog w K)(G:SetTable→Prop)(h:Heap)(a:Addr)(S:K→Bool)(n:Nat):Prop:=∃ o es ep t,h.get? a=some o∧mL knd G o es ep t S n
theorem stored{h:Heap}{a:Addr}{o:Obj}{es:Array (Int × Value)}{ep:Nat}{t:SetTable}{S:K→Bool}{n:Nat}{es':Array (Int × Value)}{t':SetTable}{S':K→Bool}{n':Nat}(ho:h.get? a=some o)(T:mL knd G o es ep t S n)
  (T':∀ o',o'.ExactSet→o'.data = .set es' (ep+1) t'→mL knd G o' es' (ep+1) t' S' n'):∃ o',(h.update a (Obj.putSet es' t')).get? a=some o'∧mL knd G o' es' (ep+1) t' S' n':=by
 have hp:=putSet_of es' t' T.dat
 have hg:=Heap.get?_update_self (Obj.putSet es' t') ho (by rw[hp]; rfl)
 rw[hp]at hg
 exact⟨_,hg,T' _ T.ex rfl⟩
theorem mN(gr:∀ t es n,G t→G (relayAll t es n).2.1){g:Bool→Sem Unit}(hg:∀ (b:Bool) (s₁:Shared) (Q':Unit→Shared→Prop),Q' () s₁→wpAny (model prog w) A (g b) Q' E s₁)
  {a:Addr} {o:Obj} {es:Array (Int × Value)} {ep:Nat} {t:SetTable} {S:K→Bool} {n:Nat} (ho:s.heap.get? a=some o) (T:mL knd G o es ep t S n)
  {es1:Array (Int × Value)} {t2:SetTable} {S':K→Bool} {n':Nat} (T1:∀ o',o'.ExactSet→o'.data = .set es1 (ep+1) t2→mL knd G o' es1 (ep+1) t2 S' n') {wasDummy:Bool} {R:Option Bool→Shared→Prop}
  (h:∀ h',Heap.SameBut a s.heap h'→SetG knd G h' a S' n'→R (some true) { s with heap:=h' }) :
  wpAny (model prog w) A (do
    storeSet a es1 t2
    if (!wasDummy&&t2.tooFull)=true then do
      g (relayAll t2 es1 (SetTable.grown es1.size)).2.2
      storeSet a (relayAll t2 es1 (SetTable.grown es1.size)).1 (relayAll t2 es1 (SetTable.grown es1.size)).2.1
      pure (some true)
     else pure (some true)) R E s:=by
 obtain⟨o1,ho1,U1⟩:=stored ho T T1
 refine wpAny_bind (wpAny_storeSet_of ho T.dat ?_ (fits_of_scanBound U1.few))
 have hsb1:=Heap.SameBut.update s.heap a (Obj.putSet es1 t2)
 split
 ·have hp:=relayAll_perm t2 es1 (SetTable.grown es1.size)
  have hfr:=relayAll_fits t2 es1 (SetTable.grown es1.size)
  have hgr:=gr t2 es1 (SetTable.grown es1.size) U1.good
  generalize relayAll t2 es1 (SetTable.grown es1.size)=Rl at hp hfr hgr ⊢
  obtain⟨es2,t3,gave2⟩:=Rl
  dsimp only at hp hfr hgr ⊢
  have hsz:es2.size=es1.size:=by rw[← Array.length_toList,hp.length_eq,Array.length_toList]
  obtain⟨o2,ho2,U2⟩:=stored (es':=es2) (t':=t3) (S':=S') (n':=n') ho1 U1 fun o' ex da=>⟨ex,da,U1.el.perm hp,fun k'=>(U1.mem k').trans ⟨fun ⟨e,he,q⟩=>⟨e,hp.mem_iff.mpr he,q⟩,fun ⟨e,he,q⟩=>⟨e,hp.mem_iff.mp he,q⟩⟩,by rw[hsz]; exact U1.few,hfr,by rw[hsz]; exact U1.num,hgr,U1.apart.perm hp⟩
  refine wpAny_bind (hg _ _ _ ?_)
  refine wpAny_bind (wpAny_storeSet_of ho1 U1.dat ?_ (fits_of_scanBound U2.few))
  exact wpAny_pure (h _ (hsb1.trans (Heap.SameBut.update _ a _)) ⟨_,_,_,_,ho2,U2⟩)
 ·exact wpAny_pure (h _ hsb1 ⟨_,_,_,_,ho1,U1⟩)
theorem Da(gl:∀ t es h x,G t→G (layNew t es h x).2.1)(gr:∀ t es n,G t→G (relayAll t es n).2.1)(gp:∀ t:SetTable,G t→G { t with plain:=false })
  {a:Addr} {S:K→Bool} {n:Nat} {k:K} {x:Value} {Q:Bool→Shared→Prop} (hkey:knd.is k x=true) (hsc:x.scannable=true) (hS:SetG knd G s.heap a S n) (hroom:n+1<scanBound)
  (h:∀ h',Heap.SameBut a s.heap h'→SetG knd G h' a (fun k'=>S k'||decide (k'=k)) (if S k then n else n+1)→Q (!S k) { s with heap:=h' }) :
  wpAny (model prog w) A (setAddHashed a x (knd.hash k)) Q E s:=by
 obtain⟨o,es,ep,t,ho,T⟩:=hS
 have hb1:es.size+1<scanBound:=by rw[T.num]; exact hroom
 unfold setAddHashed setAddHashedIn
 refine wpAny_holding (wpAny_bind (wpAny_setState_of ho T.dat T.fit ?_))
 dsimp only
 rw[byScan_of hsc T.few T.el]
 simp only[↓reduceIte]
 unfold setAddByScan
 refine wpAny_bind ?_
 refine wpAny_bind (wpAny_rule ?_)
 refine wpAny_bind (wpAny_setScan_of hkey ho T.dat T.fit T.el ?_)
 cases hr:List.findIdx? (fun e=>knd.is k e.2) es.toList with
 | some j=>
  dsimp only
  obtain⟨hj,hpj,_⟩:=List.findIdx?_eq_some_iff_getElem.mp hr
  have hSk:S k=true:=(T.mem k).mpr ⟨es.toList[j],List.getElem_mem hj,hpj⟩
  refine wpAny_pure (wpAny_pure ?_)
  have e:s={ s with heap:=s.heap }:=by cases s; rfl
  have q:=h s.heap (Heap.SameBut.refl a s.heap) ⟨o,es,ep,t,ho,T.ex,T.dat,T.el,fun k'=>by
   rw[Bool.or_eq_true,decide_eq_true_eq,← T.mem k']
   exact⟨fun hk=>hk.elim id (fun e=>e ▸ hSk),.inl⟩,T.few,T.fit,by rw[hSk]; exact T.num,T.good,T.apart⟩
  rw[hSk]at q; rw[e]; exact q
 | none=>
  dsimp only
  have hno:=List.findIdx?_eq_none_iff.mp hr
  have hSk:S k=false:=by
   cases hk:S k with
   | false=>rfl
   | true=>obtain⟨e,he,hp⟩:=(T.mem k).mp hk; rw[hno e he]at hp; cases hp
  have hgw:∀ (b:Bool) {s₁:Shared} {Q':Unit→Shared→Prop},Q' () s₁→wpAny (model prog w) A (match b with | true=>rule "set.scan.the-table-gave-way" | false=>pure ()) Q' E s₁:=fun b s₁ Q' hq=>by
   cases b <;> first | exact wpAny_pure hq | exact wpAny_rule hq
  have hperm:=layNew_perm t es (knd.hash k) x
  have hfits:=layNew_fits t es (knd.hash k) x
  have hgood:=gl t es (knd.hash k) x T.good
  generalize layNew t es (knd.hash k) x=Ly at hperm hfits hgood ⊢
  obtain⟨es1,t1,wasDummy,gave⟩:=Ly
  dsimp only at hperm hfits hgood ⊢
  rw[Array.toList_push]at hperm
  have hsz1:es1.size=n+1:=by rw[← Array.length_toList,hperm.length_eq,List.length_append,Array.length_toList,T.num]; rfl
  have mk:∀ t2:SetTable,t2.fits es1.size=true→G t2→∀ o',o'.ExactSet→o'.data = .set es1 (ep+1) t2→mL knd G o' es1 (ep+1) t2 (fun k'=>S k'||decide (k'=k)) (n+1):=fun t2 hf2 g2 o' ex da=>
   ⟨ex,da,(T.el.push hkey hsc).perm hperm,mem_push_iff hkey T.mem hperm,by rw[hsz1]; exact hroom,hf2,hsz1,g2,(T.apart.push (fun e he=>by have:=hno e he; simpa using this) hkey).perm hperm⟩
  refine wpAny_bind (hgw _ ?_)
  have hend:∀ h',Heap.SameBut a s.heap h'→SetG knd G h' a (fun k'=>S k'||decide (k'=k)) (n+1)→Q true { s with heap:=h' }:=by
   intro h' hsb hS'; have:=h h' hsb; rw[hSk]at this; exact this hS'
  split
  ·refine wpAny_bind ?_
   rw[hashByValue_scannable 8 hsc]
   refine wpAny_pure ?_
   refine mN gr ?_ ho T (mk _ ?_ ?_) ?_
   ·intro b s₁ Q' hq; cases b <;> first | exact wpAny_pure hq | exact wpAny_rule hq
   ·split
    ·exact hfits
    ·exact SetTable.fits_plain_off hfits
   ·split
    ·exact hgood
    ·exact gp _ hgood
   ·intro h' hsb hS'; dsimp only; exact wpAny_pure (hend h' hsb hS')
  ·refine wpAny_bind (wpAny_pure ?_)
   simp only[↓reduceIte]
   refine mN gr ?_ ho T (mk _ hfits hgood) ?_
   ·intro b s₁ Q' hq; cases b <;> first | exact wpAny_pure hq | exact wpAny_rule hq
   ·intro h' hsb hS'; dsimp only; exact wpAny_pure (hend h' hsb hS')
end
end L2
namespace L2
open PySem PySem.Spec PyProof.Rows PySem.SeqAt
section
variable{prog:Program}{w:World}{A:Around}{R:Result→Shared→Prop}{I:Addr}{fp wr:List Addr}{Gm:Array GenState→Array GenState→Prop}{n:Nat}{P:Nat→Value→Prop}{St:Nat→Shared→Prop}{L:Bool}
theorem jt{t:SetTable}(h:cv L t):cv L { t with plain:=false }:=⟨h.led,h.rise⟩
theorem SetG.at'{K:Type}[DecidableEq K]{knd:KeyKind prog w K}{G:SetTable→Prop}{h h':Heap}{a:Addr}{S S':K→Bool}{m m':Nat}(x:SetG knd G h a S m)(e:∀ o,h.get? a=some o→h'.get? a=some o)(eS:∀ k,S k=S' k)(em:m=m'):SetG knd G h' a S' m':=by
 obtain⟨o,es,ep,t,ho,T⟩:=x
 have:S=S':=funext eS
 subst this; subst em
 exact⟨o,es,ep,t,e o ho,T⟩
theorem vh(W:WalksS prog w A.in1 I fp wr Gm n P St)(S:Addr)(hSf:S∉fp)(val:Nat→Int)(hval:∀ i v,P i v→∃ t,v = .int (val i) t)(hb:n+1<scanBound) :
  ∀ (k i:Nat) (s:Shared),n - i=k→i≤n→St i s→SetG (intKind prog w) (cv L) s.heap S (fun k'=>(firstMet val i).any (· == k')) (firstMet val i).length→
   (∀ s',Moved (S::wr) Gm s s'→SetG (intKind prog w) (cv L) s'.heap S (fun k'=>(firstMet val n).any (· == k')) (firstMet val n).length→R (.ok (.ret .none)) s')→
   codeAny (model prog w) A (.builtin "set.update.loop" ⟨[.ref S,.ref I],[]⟩) R s:=by
 have hSw:S∉wr:=fun h=>hSf (W.sub _ h)
 have hsub:∀ b∈wr,b∈S::wr:=fun b hb=>List.mem_cons_of_mem _ hb
 intro k
 induction k with
 | zero=>
  intro i s hk hi hst hS hR
  have hin:i=n:=by omega
  subst hin
  refine codeAny_builtin F.entry_set_update_loop ?_
  rw[Around.under_plainId F.plain_set_update_loop _]
  show wpAny _ A.in1 (pyNext (.ref I) >>= _) _ _ s
  refine wpAny_bind (W.done s _ _ hst fun s' hm=>?_)
  show wpAny _ A.in1 (ret Value.none) _ _ s'
  exact wpAny_pure (hR s' (hm.mono hsub) (hS.at' (fun o e=>hm.heap S _ hSw e) (fun _=>rfl) rfl))
 | succ k ih=>
  intro i s hk hi hst hS hR
  have hlt:i<n:=by omega
  refine codeAny_builtin F.entry_set_update_loop ?_
  rw[Around.under_plainId F.plain_set_update_loop _]
  show wpAny _ A.in1 (pyNext (.ref I) >>= _) _ _ s
  refine wpAny_bind (W.item i s _ _ hlt hst fun v s' hP hst' hm=>?_)
  obtain⟨t,rfl⟩:=hval i v hP
  have hS':=hS.at' (h':=s'.heap) (fun o e=>hm.heap S _ hSw e) (fun _=>rfl) rfl
  show wpAny _ A.in1 (holding [Value.int (val i) t] (setAdd S (.int (val i) t)) >>= _) _ _ s'
  refine wpAny_bind (wpAny_holding ?_)
  unfold setAdd
  refine wpAny_holding ?_
  refine wpAny_bind ((intKind prog w).pyHash (k:=val i) (intKind_is _ _ _ _) ?_)
  have hroom:(firstMet val i).length+1<scanBound:=by have:=firstMet_length_le val i; omega
  refine Da (G:=cv L) (knd:=intKind prog w) (s:={ s' with toks:=s'.toks+1 }) (fun t es h x g=>ow g es h x) (fun t es m g=>q8 g es m) (fun t g=>jt g) (intKind_is _ _ _ _) rfl hS' hroom fun h' hsb hS2=>?_
  have hSi:=hS2.at' (h':=h') (fun o e=>e) (S':=fun k'=>(firstMet val (i+1)).any (· == k')) (m':=(firstMet val (i+1)).length) (fun k'=>by rw[firstMet_succ,step_any]) (by rw[firstMet_succ,step_length])
  refine wpAny_pure ⟨plainId_quiet F.plain_set_update_loop _,ih (i+1) _ (by omega) hlt (W.frame _ s' _ _ hst' (Nat.le_succ _) fun b hb o e=>?_) hSi fun s'' hm'' hS''=>?_⟩
  ·rw[hsb.2 b (fun h:b=S=>hSf (by rw[← h]; exact hb))]; exact e
  ·refine hR s'' (Moved.trans W.gtrans ((hm.mono hsub).then_heap (Nat.le_succ _) fun b o hb e=>?_) hm'') hS''
   rw[hsb.2 b (fun h:b=S=>hb (by rw[h]; exact List.mem_cons_self))]; exact e
end
section
variable{prog:Program}{w:World}{A:Around}{E:Value→Shared→Prop}{s:Shared}
def bV(w:World):Bool:=!(w.params.followText "set-order")
theorem vd(a:Value){Q₁:Value→Shared→Prop}
  (h:Q₁ (.ref s.heap.objs.size) { s with heap:=s.heap.push { cls:=.type "set", dict:=none,data:=.set #[] 0 (.fresh 0 0 (bV w)) } }) :
  codeAny (model prog w) A (.call (.builtin "set.__new__") ⟨[.type "set", a],[]⟩) (wants Q₁ E) s:=by
 refine codeAny_of_tree ?_
 show wpAny _ A.in1 (do checkBuiltinCall "set.__new__" ⟨[.type "set", a],[]⟩; again (.builtin "set.__new__" ⟨[.type "set", a],[]⟩)) _ _ s
 refine wpAny_bind (wpAny_of_eq (F.newCall_set_1 a) (wpAny_pure ⟨plainId_quiet F.plain_set_new _,codeAny_builtin F.entry_set_new ?_⟩))
 rw[Around.under_plainId F.plain_set_new _]
 unfold Builtin.«set.__new__» Builtin.Frozenset.newClass
 have hsub:=sub_set_self
 obtain⟨hp,g,d,tk,os⟩:=s
 dsimp only
 wp_walk
 refine wpAny_askSetting (wpAny_pure ?_)
 dsimp only
 simp only[newObj]
 refine wpAny_bind (wpAny_alloc (wpAny_pure ?_))
 exact wpAny_pure h
theorem tH{l:Addr}{items:Array Value}{ns:List Int}{Q:Value→Shared→Prop}(hh:A.handled=none)(hl:s.heap.IsList l items)(hi:IntsAre items.toList ns)(hb:items.size+1<scanBound)
  (h:∀ (h':Heap) (tk:Nat),SetG (intKind prog w) (cv (bV w)) h' s.heap.objs.size (fun k'=>(firstMet (fun i=>ns.getD i 0) items.size).any (· == k')) (firstMet (fun i=>ns.getD i 0) items.size).length→
   (∀ b o,b<s.heap.objs.size→s.heap.get? b=some o→h'.get? b=some o)→Q (.ref s.heap.objs.size) { s with heap:=h',toks:=tk }) :
  wpAny (model prog w) A (call (.type "set") [.ref l]) Q E s:=by
 obtain⟨c,tl,hmro⟩:=F.called_set.mro
 have hmade:=F.called_set.made
 have hsub:=F.called_set.sub
 refine wpAny_call (codeAny_of_tree ?_)
 show wpAny _ _ (callAny (.type "set") _) _ _ _
 refine wpAny_pure ⟨Code.quiet_builtin _ (by decide +kernel),codeAny_builtin F.entry_type_call ?_⟩
 rw[Around.under_plain (weight_type_call_type "set" [.ref l] []) rfl]
 have h1:=F.called_set.notType
 have h2:=F.called_set.canCreate
 have hct:=F.typeCall_set_1 (.ref l)
 repeat (any_goals (first | assumption | wp_step))
 refine codeAny_mono (vd (.ref l) (E:=E) (Q₁:=fun obj s₁=>obj = .ref s.heap.objs.size∧s₁={ s with heap:=s.heap.push { cls:=.type "set", dict:=none,data:=.set #[] 0 (.fresh 0 0 (bV w)) } }) ⟨rfl,rfl⟩) fun r s₁ hr=>?_
 cases r with
 | error e=>exact hr
 | ok fl=>
  cases fl with
  | ret obj=>
   obtain⟨rfl,rfl⟩:=hr
   have hS:(s.heap.push { cls:=.type "set", dict:=none,data:=.set #[] 0 (.fresh 0 0 (bV w)) }).get? s.heap.objs.size=some { cls:=.type "set", dict:=none,data:=.set #[] 0 (.fresh 0 0 (bV w)) }:=Heap.get?_push_size _ rfl
   have hT:Shared.TypeIs { s with heap:=s.heap.push { cls:=.type "set", dict:=none,data:=.set #[] 0 (.fresh 0 0 (bV w)) } } (.ref s.heap.objs.size) "set" := ⟨_,hS,rfl⟩
   have hli:=F.called_set.init.lookup
   have hbi:=F.called_set.init.bind (.ref s.heap.objs.size)
   repeat (any_goals (first | assumption | wp_step))
   refine codeAny_mono (codeAny_call_builtin (R:=wants (fun r s₂=>r = .none∧∃ h' tk,s₂={ s with heap:=h',toks:=tk }∧
     SetG (intKind prog w) (cv (bV w)) h' s.heap.objs.size (fun k'=>(firstMet (fun i=>ns.getD i 0) items.size).any (· == k')) (firstMet (fun i=>ns.getD i 0) items.size).length∧
     (∀ b o,b<s.heap.objs.size→s.heap.get? b=some o→h'.get? b=some o)) E) F.called_set.init.plain F.entry_set_init (check_set_init_1 hT ?_)) fun r₂ s₂ hr₂=>?_
   ·obtain⟨ol,hol,hcl,nl,hdl⟩:=hl
    obtain⟨ocls,odict,odata,oslots⟩:=ol
    simp only at hcl hdl
    subst hcl; subst hdl
    have hol':(s.heap.push { cls:=.type "set", dict:=none,data:=.set #[] 0 (.fresh 0 0 (bV w)) }).get? l=some { cls:=.type "list", dict:=odict,data:=.seq items nl,slots:=oslots }:=Heap.get?_push_of_some _ hol
    have hsls:=F.sub_list_set
    have hslf:=F.sub_list_frozenset
    have hne:(Value.type "list" == Value.type "dict")=false:=by decide
    have hl1:(s.heap.push { cls:=.type "set", dict:=none,data:=.set #[] 0 (.fresh 0 0 (bV w)) }).IsList l items:=⟨_,hol',rfl,nl,rfl⟩
    unfold Builtin.«set.__init__» noKeywords Builtin.Frozenset.updateFrom
    generalize hPI:pyIter=PI
    wp_walk
    subst hPI
    refine wpAny_pyIter_list hl1 ?_
    refine wpAny_bind (wpAny_runValue ?_)
    have hlS:l<s.heap.objs.size:=Heap.lt_size hol
    have hh3:A.in1.in1.in1.handled=none:=by simp[hh]
    have hneI:l≠(s.heap.push { cls:=.type "set", dict:=none,data:=.set #[] 0 (.fresh 0 0 (bV w)) }).objs.size:=by
     rw[Heap.size_push]; exact Nat.ne_of_lt (Nat.lt_succ_of_lt hlS)
    have hSf:s.heap.objs.size∉[(s.heap.push { cls:=.type "set", dict:=none,data:=.set #[] 0 (.fresh 0 0 (bV w)) }).objs.size,l]:=by
     rw[Heap.size_push]; simp only[List.mem_cons,List.mem_singleton,List.not_mem_nil,or_false,not_or]
     exact⟨Nat.ne_of_lt (Nat.lt_succ_self _),Nat.ne_of_gt hlS⟩
    have hval:∀ (i:Nat) (v:Value),items[i]? = some v→∃ t,v = .int ((fun i=>ns.getD i 0) i) t:=fun i v hv=>IntsAre.int_at hi i v (by rw[Array.getElem?_toList]; exact hv)
    refine vh (L:=bV w) ((Walks.list hh3 _ l hneI items).toS) s.heap.objs.size hSf (fun i=>ns.getD i 0) hval hb (items.size - 0) 0 _ (by omega) (Nat.zero_le _) ⟨⟨_,Heap.get?_push_size _ rfl,rfl,rfl⟩,(hl1.push _)⟩ ?hS0 ?hR
    case hS0=>
     refine⟨{ cls:=.type "set", dict:=none,data:=.set #[] 0 (.fresh 0 0 (bV w)) },#[],0,.fresh 0 0 (bV w),Heap.get?_push_of_some _ hS,?_⟩
     exact⟨⟨rfl,rfl,rfl⟩,rfl,fun e he=>by simp at he,fun k=>by simp[firstMet_zero],by decide,rfl,rfl,⟨rfl,fun a b ha=>absurd ha (Nat.not_lt_zero _)⟩,List.Pairwise.nil⟩
    case hR=>
     intro s' hm hS'
     obtain⟨h',g',d',tk',os'⟩:=s'
     have eg:g'=s.gens:=hm.gens
     have ed:d'=s.drawn:=hm.drawn
     have eo:os'=s.os:=hm.os
     subst eg; subst ed; subst eo
     show wpAny _ _ _ _ _ _
     refine wpAny_pure ?_
     show wpAny _ _ (ret Value.none) _ _ _
     refine wpAny_pure ⟨rfl,h',tk',rfl,hS',fun b o hb e=>?_⟩
     have hb1:b≠s.heap.objs.size:=Nat.ne_of_lt hb
     have hb2:b≠(s.heap.push { cls:=.type "set", dict:=none,data:=.set #[] 0 (.fresh 0 0 (bV w)) }).objs.size:=by
      rw[Heap.size_push]; exact Nat.ne_of_lt (Nat.lt_succ_of_lt hb)
     exact hm.heap b o (by simp only[List.mem_cons,List.mem_singleton,List.not_mem_nil,or_false,not_or]; exact⟨hb1,hb2⟩) (Heap.get?_push_of_some _ (Heap.get?_push_of_some _ e))
   ·cases r₂ with
    | error e=>exact hr₂
    | ok fl₂=>
     cases fl₂ with
     | ret r=>
      obtain⟨rfl,h',tk,rfl,hS',hk'⟩:=hr₂
      repeat (any_goals (first | assumption | wp_step))
      exact h _ _ hS' hk'
     | _=>exact hr₂.elim
  | _=>exact hr.elim
end
end L2
namespace L2
open PySem PySem.Spec PyProof.Rows PySem.SeqAt
def fE(e:Int × Value):Int:=match e.2 with
 | .int d _=>d
 | _=>0
def GS(w:World)(h:Heap)(a:Addr)(ds:List Int):Prop:=∃ o es ep t,h.get? a=some o∧o.ExactSet∧o.data = .set es ep t∧es.size<scanBound∧t.fits es.size=true∧cv (bV w) t∧(∀ e∈es.toList,∃ tk,e.2 = .int (fE e) tk)∧es.toList.map fE=ds
def fF(w:World)(a:Addr)(ds:List Int):HO:=.ext fun h=>GS w h a ds
theorem AF{prog:Program}{w:World}{h:Heap}{a:Addr}{S:Int→Bool}{n:Nat}(x:SetG (intKind prog w) (cv (bV w)) h a S n):∃ ds,GS w h a ds∧ds.Nodup∧(∀ k,k∈ds ↔ S k=true)∧ds.length=n:=by
 obtain⟨o,es,ep,t,ho,T⟩:=x
 have hk:∀ e∈es.toList,∃ tk,e.2 = .int (fE e) tk:=fun e he=>by
  obtain⟨⟨k,hk,_⟩,_⟩:=T.el e he
  obtain⟨tk,e2⟩:=Value.isInt_shape hk
  exact⟨tk,by unfold fE; rw[e2]⟩
 have his:∀ e∈es.toList,∀ k,(intKind prog w).is k e.2=true ↔ k=fE e:=fun e he k=>by
  obtain⟨tk,e2⟩:=hk e he
  constructor
  ·intro z
   obtain⟨tk',e3⟩:=Value.isInt_shape z
   rw[e3]at e2
   cases e2; rfl
  ·rintro rfl; rw[e2]; exact intKind_is _ _ _ _
 refine⟨es.toList.map fE,⟨o,es,ep,t,ho,T.ex,T.dat,T.few,T.fit,T.good,hk,rfl⟩,?_,fun k=>?_,by rw[List.length_map,Array.length_toList]; exact T.num⟩
 ·refine List.pairwise_map.mpr (List.Pairwise.imp_of_mem (fun {x y} hx hy hab e=>?_) T.apart)
  have h1:=hab (fE x) ((his x hx _).mpr rfl)
  rw[(his y hy _).mpr e]at h1; cases h1
 ·rw[T.mem,List.mem_map]
  constructor
  ·rintro⟨e,he,rfl⟩; exact⟨e,he,(his e he _).mpr rfl⟩
  ·rintro⟨e,he,z⟩; exact⟨e,he,((his e he _).mp z).symm⟩
section
variable{X:Cx}
theorem tP{m:Nat}(hr:Room m X.A){K:PySem.W.Frag}(hK:X.K=K):CallR X (.type "set") (w6 K (fF X.w)):=by
 subst hK
 intro pins s σ H xs us Q I r h
 obtain⟨p,ns,rfl,hq,h60,q⟩:=h
 obtain⟨u,rfl,ru⟩:=cU r
 cases ru
 obtain⟨its,rv,pl,hz⟩:=I.list hq
 have hlen:its.length=ns.length:=by rw[← rv.length,List.length_map]
 refine tH (ns:=ns) hr.hd pl.isList (by simpa using jn rv) (by simp only[List.size_toArray]; unfold scanBound; omega) fun h' tk hS hk=>?_
 obtain⟨ds,hg,hnd,hmem,hdl⟩:=AF hS
 obtain⟨o,es,ep,t,ho,hrest⟩:=id hg
 refine⟨.ref s.heap.objs.size,_,I.laid (fun b o e=>hk b o (Heap.lt_size e) e) (Nat.le_refl _) (show ObjOk X.prog X.w _ h' _ (fF X.w s.heap.objs.size ds) from ⟨hg,⟨o,ho⟩,fun h1 h2 g k=>?_⟩),rfl,q _ ds (I.hok.fresh (Nat.le_refl _)) hnd (fun x=>?_) ?_⟩
 ·obtain⟨o,es,ep,t,ho,rest⟩:=g
  exact⟨o,es,ep,t,k o ho,rest⟩
 ·rw[hmem,firstMet_any]
  simp only[List.size_toArray,List.any_map,List.any_eq_true,List.mem_range]
  constructor
  ·rintro⟨i,hi,e⟩
   have e':ns.getD i 0=x:=by simpa using e
   rw[← e',List.getD_eq_getElem?_getD,List.getElem?_eq_getElem (by omega)]
   exact List.getElem_mem _
  ·intro hx
   obtain⟨i,hi,e⟩:=List.mem_iff_getElem.mp hx
   exact⟨i,by omega,by simp[List.getD_eq_getElem?_getD,List.getElem?_eq_getElem hi,e]⟩
 ·rw[hdl]
  have:=firstMet_length_le (fun i=>ns.getD i 0) its.toArray.size
  simp only[List.size_toArray]at this ⊢
  omega
end
end L2
namespace L2
open PySem PySem.Spec PyProof.Rows PySem.SeqAt
theorem gk{α : Type}:∀ (l:List α) (i:Nat) (hi:i<l.length),(l[i]::l.eraseIdx i).Perm l
 | x::l,0,_=>.rfl
 | x::l,i+1,hi=>(List.Perm.swap x (l[i]'(by simpa using hi)) (l.eraseIdx i)).trans (List.Perm.cons x (gk l i (by simpa using hi)))
theorem o9{α : Type}(next:Nat→Nat):∀ (fuel k:Nat) (left:List α) (out:Array α),fuel=left.length→(pickOrder.go next fuel k left out).toList.Perm (out.toList++left)
 | 0,k,left,out,h=>by
  have:left=[]:=List.eq_nil_of_length_eq_zero h.symm
  subst this
  unfold pickOrder.go; simp
 | fuel+1,k,left,out,h=>by
  unfold pickOrder.go
  have hi:next k % left.length<left.length:=Nat.mod_lt _ (by omega)
  rw[List.getElem?_eq_getElem hi]
  dsimp only
  refine(o9 next fuel (k+1) _ _ (by rw[List.length_eraseIdx]; rw[if_pos hi]; omega)).trans ?_
  rw[Array.toList_push,List.append_assoc]
  refine List.Perm.append_left _ ?_
  exact gk _ _ hi
theorem uJ{α : Type}(next:Nat→Nat)(xs:Array α):(pickOrder next xs).toList.Perm xs.toList:=by
 unfold pickOrder
 have:=o9 next xs.size 0 xs.toList #[] (by simp)
 simpa using this
section
variable{M:Model}{A:Around}{E:Value→Shared→Prop}
theorem om{s:Shared}{n:Nat}{Q:Nat→Shared→Prop}(hn:n≠0)(h:∀ i d',i<n→Q i { s with drawn:=d' }):wpAny M A (choose .order n) Q E s:=fun Γ p hΓ=>by
 show Sem.wp M Γ (.choose .order n .pure) _ _ _ _
 rw[Sem.wp_choose]
 refine⟨hn,?_⟩
 rw[Sem.wp_pure]
 exact h _ _ (Nat.mod_lt _ (by omega))
theorem kB{α : Type}:∀ (n:Nat) (xs:List α) (s:Shared) (Q:List α→Shared→Prop),n=xs.length→(∀ ys d',ys.Perm xs→Q ys { s with drawn:=d' })→wpAny M A (drawOrder n xs) Q E s
 | 0,xs,s,Q,hn,h=>by
  have:xs=[]:=List.eq_nil_of_length_eq_zero hn.symm
  subst this
  unfold drawOrder
  exact wpAny_pure (by have:=h [] s.drawn .nil; cases s; exact this)
 | n+1,[],s,Q,hn,h=>by simp at hn
 | n+1,x::xs,s,Q,hn,h=>by
  unfold drawOrder
  refine wpAny_bind (om (by simp) fun i d' hi=>?_)
  rw[List.getElem?_eq_getElem hi]
  dsimp only
  refine wpAny_bind (kB n _ _ _ (by rw[List.length_eraseIdx,if_pos hi]; omega) fun ys d'' hp=>?_)
  refine wpAny_pure ?_
  exact h _ d'' ((List.Perm.cons _ hp).trans (gk _ _ hi))
end
end L2
namespace L2
open PySem PySem.Spec PyProof.Rows PySem.SeqAt
theorem slot_si_next:Slot "set_iterator" "__next__" "set_iterator.__next__" :=
 .of (owner := "set_iterator") (n := "__next__") (by rw[typeLookup_type,builtinLookup_eq_fast]; kernel_rfl) (by decide +kernel) (by decide +kernel) (by decide +kernel)
  (by first | exact .inl (by decide +kernel) | exact .inr (by decide +kernel)) (by rw[isSubtype_type]; kernel_rfl)
theorem dF:entryFor table "set_iterator.__next__" = some Builtin.«set_iterator.__next__»:=entryFor_of_tree (by kernel_rfl)
theorem jz:entryFor table "set.__iter__" = some Builtin.«frozenset.__iter__»:=
 entryFor_alias (id' := "frozenset.__iter__") (by kernel_rfl) rfl (by decide +kernel) (by kernel_rfl)
theorem m6 : Manifest.owners.lookup (String.ofList ['r', 'o', 't', 'a', 'r', 'e', 't', 'i', '_', 't', 'e', 's'].reverse) = some Manifest.sig_set_iterator := by kernel_rfl
theorem dN(a:Value):argsOk "set_iterator.__next__" ⟨[a],[]⟩:=by
 unfold argsOk; rw [signature?_of (id := "set_iterator.__next__") (n:=['_','_','t','x','e','n','_','_']) (o:=['r','o','t','a','r','e','t','i','_','t','e','s']) (by kernel_rfl) m6]; kernel_rfl
section
variable{prog:Program}{w:World}{A:Around}{E:Value→Shared→Prop}{s:Shared}
def ej(w:World)(a:Addr)(ep:Nat)(es:Array (Int × Value)):List Value:=((if w.params.followText "set-order" then pickOrder (w.params.setOrder a ep) es else es).toList.map (·.2))
def cQ(w:World)(t:SetTable)(i:Nat):Nat:=if w.params.followText "set-order" then 0 else if i=0 then 0 else t.place.getD (i - 1) 0+1
theorem fS(a:Addr)(ep:Nat)(es:Array (Int × Value)):(ej w a ep es).Perm (es.toList.map (·.2)):=by
 unfold ej
 split
 ·exact(uJ _ _).map _
 ·exact .rfl
theorem kO{a:Addr}{o:Obj}{es:Array (Int × Value)}{ep:Nat}{t:SetTable}{i:Nat}{Q:Option (Value × Nat)→Shared→Prop}(ho:s.heap.get? a=some o)(hd:o.data = .set es ep t)(hf:t.fits es.size=true)(hg:cv (bV w) t)(hi:i≤es.size)
  (hn:w.params.followText "set-order" = true∨(!t.plain&&decide (es.size>1))=false) (h:Q (((ej w a ep es)[i]?).map fun x=>(x,cQ w t (i+1))) s):wpAny (model prog w) A (setNext a (cQ w t i) i ep) Q E s:=by
 have hps:t.place.size=es.size:=by
  unfold SetTable.fits at hf
  simp only[Bool.and_eq_true,beq_iff_eq]at hf
  exact hf.1
 unfold setNext
 refine wpAny_bind (wpAny_setState_of ho hd hf ?_)
 refine wpAny_bind ?_
 unfold setsByText
 refine wpAny_bind (wpAny_askSetting (wpAny_pure ?_))
 show wpAny _ _ (if w.params.followText "set-order" = true then _ else _) _ _ _
 unfold ej cQ at h
 unfold cQ
 cases hb:w.params.followText "set-order" with
 | true=>
  rw[hb]at h
  simp only[if_true]at h ⊢
  rw[if_neg (by simp)]
  refine wpAny_bind ?_
  unfold setWalk
  refine wpAny_bind (wpAny_setState_of ho hd hf ?_)
  refine wpAny_bind ?_
  unfold setsByText
  refine wpAny_bind (wpAny_askSetting (wpAny_pure ?_))
  show wpAny _ _ (if w.params.followText "set-order" = true then _ else _) _ _ _
  rw[if_pos hb]
  refine wpAny_bind (wpAny_askSetting (wpAny_pure ?_))
  refine wpAny_pure ?_
  rw[List.getElem?_map,Option.map_map,Array.getElem?_toList]at h
  exact h
 | false=>
  rw[hb]at h
  simp only[Bool.false_eq_true,if_false]at h ⊢
  have hled:t.led=true:=by rw[hg.led]; unfold bV; rw[hb]; rfl
  refine wpAny_ite_split (fun hab=>?_) (fun _=>?_)
  ·rcases hn with z | z
   ·rw[hb]at z; cases z
   ·exact absurd (z.symm.trans hab) (by decide)
  refine wpAny_bind ?_
  show wpAny _ _ (if (!t.led && !es.isEmpty)=true then unsupported "set:maker-not-led" else pure ()) _ _ _
  rw[if_neg (by rw[hled]; simp)]
  refine wpAny_pure (wpAny_pure ?_)
  have hbel:SetTable.below t.place (if i=0 then 0 else t.place.getD (i - 1) 0+1)=i:=by
   by_cases h0:i=0
   ·rw[if_pos h0,q_ hg.rise,h0]
   ·have hi1:i - 1<t.place.size:=by omega
    rw[if_neg h0,show t.place.getD (i - 1) 0=t.place[i - 1] by simp[Array.getD,hi1],rX hg.rise hi1]
    omega
  rw[hbel]
  rw[List.getElem?_map,Array.getElem?_toList,if_neg (by omega),Nat.add_sub_cancel]at h
  by_cases hlt:i<es.size
  ·have hlp:i<t.place.size:=by omega
   rw[Array.getElem?_eq_getElem hlt,Array.getElem?_eq_getElem hlp]
   rw[Array.getElem?_eq_getElem hlt,show t.place.getD i 0=t.place[i] by simp[Array.getD,hlp]]at h
   exact h
  ·rw[Array.getElem?_eq_none (by omega)]
   rw[Array.getElem?_eq_none (by omega)]at h
   exact h
end
end L2
namespace L2
open PySem PySem.Spec PyProof.Rows PySem.SeqAt
section
variable{prog:Program}{w:World}{A:Around}{E:Value→Shared→Prop}{s:Shared}
def IsSI(h:Heap)(it:Addr)(first:Value)(i:Nat)(a:Addr)(n ep:Nat):Prop:=∃ o,h.get? it=some o∧o.cls = .type "set_iterator" ∧ o.data = .fields #[first,.int i 0,.ref a,.int n 0,.int ep 0]
theorem IsSI.typeIs{it a:Addr}{first:Value}{i n ep:Nat}(x:IsSI s.heap it first i a n ep):s.TypeIs (.ref it) "set_iterator" := let ⟨o,ho,hc,_⟩:=x; ⟨o,ho,hc⟩
theorem yg{it a:Addr}{o:Obj}{es:Array (Int × Value)}{ep:Nat}{t:SetTable}{i:Nat}{v:Value}{Q:Option Value→Shared→Prop}(hit:IsSI s.heap it (.int (cQ w t i) 0) i a es.size ep)(ho:s.heap.get? a=some o)(hd:o.data = .set es ep t)(hf:t.fits es.size=true)(hg:cv (bV w) t)
  (hn:w.params.followText "set-order" = true∨(!t.plain&&decide (es.size>1))=false) (hi:i<es.size) (hv:(ej w a ep es)[i]? = some v)
  (hQ:∀ h',IsSI h' it (.int (cQ w t (i+1)) 0) (i+1) a es.size ep→Heap.SameBut it s.heap h'→Q (some v) { s with heap:=h' }):wpAny (model prog w) A (pyNext (.ref it)) Q E s:=by
 obtain⟨oi,hoi,hci,hdi⟩:=id hit
 unfold pyNext
 refine wpAny_bind (wpAny_attempt (wpAny_callSpecial?_slot (name:=Str.ofString "__next__") hit.typeIs slot_si_next (wpAny_call_entry slot_si_next hit.typeIs dF ?_ (dN _))))
 unfold Builtin.«set_iterator.__next__»
 refine wpAny_bind (wpAny_pure ?_)
 refine wpAny_bind (wpAny_fieldsOf hoi hdi ?_)
 dsimp only
 refine wpAny_bind (wpAny_setEntries_of ho hd hf ?_)
 rw[if_neg (by simp)]
 simp only[Int.toNat_natCast]
 refine wpAny_bind (kO ho hd hf hg (by omega) hn ?_)
 rw[hv]
 show wpAny _ _ (setField (.ref it) 0 (rawInt (cQ w t (i+1):Nat)) >>= fun _=>setField (.ref it) 1 (rawInt ((i:Int)+1)) >>= fun _=>ret v) _ _ _
 refine wpAny_bind (wpAny_setField hoi hdi (by simp) ?_)
 have hdi1:=Obj.data_mapFields hdi (fun xs=>xs.setIfInBounds 0 (rawInt (cQ w t (i+1):Nat)))
 have hoi1:=Heap.get?_update_self (Obj.mapFields (fun xs=>xs.setIfInBounds 0 (rawInt (cQ w t (i+1):Nat)))) hoi (Obj.isFreed_of_fields hdi1)
 refine wpAny_bind (wpAny_setField hoi1 hdi1 (by simp) ?_)
 have hdi2:=Obj.data_mapFields hdi1 (fun xs=>xs.setIfInBounds 1 (rawInt ((i:Int)+1)))
 have hoi2:=Heap.get?_update_self (Obj.mapFields (fun xs=>xs.setIfInBounds 1 (rawInt ((i:Int)+1)))) hoi1 (Obj.isFreed_of_fields hdi2)
 refine wpAny_pure ⟨_,rfl,wpAny_pure (hQ _ ⟨_,hoi2,?_,?_⟩ ((Heap.SameBut.update ..).trans (Heap.SameBut.update ..)))⟩
 ·rw[Obj.cls_mapFields,Obj.cls_mapFields]; exact hci
 ·rw[hdi2]; simp[rawInt]
theorem yU{it a:Addr}{o:Obj}{es:Array (Int × Value)}{ep:Nat}{t:SetTable}{Q:Option Value→Shared→Prop}(hh:A.handled=none)(hit:IsSI s.heap it (.int (cQ w t es.size) 0) es.size a es.size ep)(ho:s.heap.get? a=some o)(hd:o.data = .set es ep t)(hf:t.fits es.size=true)(hg:cv (bV w) t)
  (hn:w.params.followText "set-order" = true∨(!t.plain&&decide (es.size>1))=false)
  (hQ:∀ h',Heap.ExtBut it s.heap h'→Q none { s with heap:=h' }):wpAny (model prog w) A (pyNext (.ref it)) Q E s:=by
 obtain⟨oi,hoi,hci,hdi⟩:=id hit
 have hv:(ej w a ep es)[es.size]? = none:=List.getElem?_eq_none (by rw[(fS (w:=w) a ep es).length_eq]; simp)
 unfold pyNext
 refine wpAny_bind (wpAny_attempt (wpAny_callSpecial?_slot (name:=Str.ofString "__next__") hit.typeIs slot_si_next (wpAny_call_entry slot_si_next hit.typeIs dF ?_ (dN _))))
 unfold Builtin.«set_iterator.__next__»
 refine wpAny_bind (wpAny_pure ?_)
 refine wpAny_bind (wpAny_fieldsOf hoi hdi ?_)
 dsimp only
 refine wpAny_bind (wpAny_setEntries_of ho hd hf ?_)
 rw[if_neg (by simp)]
 simp only[Int.toNat_natCast]
 refine wpAny_bind (kO ho hd hf hg (Nat.le_refl _) hn ?_)
 rw[hv]
 show wpAny _ _ (setField (.ref it) 2 .none >>= fun _=>newExc (.type "StopIteration") [] >>= fun e=>raiseNew e) _ _ _
 refine wpAny_bind (wpAny_setField hoi hdi (by simp) ?_)
 refine wpAny_bind ?_
 simp only[newExc,newTuple]
 refine wpAny_bind (wpAny_newObj_type ?_ (by size_fits))
 refine wpAny_bind (m:=firstArgMember _ _) (wpAny_of_eq (a:=Value.none) (by first | rfl | (simp only[firstArgMember]; rfl)) ?_)
 refine wpAny_newObj_type ?_ (by size_fits)
 simp only[raiseNew]
 refine wpAny_bind (wpAny_handled ?_)
 rw[show A.in1.handled=none from hh]
 refine wpAny_bind (wpAny_pure (wpAny_throw ?_))
 refine wpAny_bind (wpAny_isInstance (T := "StopIteration") (b:=true) ⟨_,Heap.get?_push_size _ rfl,rfl⟩ isSubtype_stop ?_)
 exact wpAny_pure (hQ _ (((Heap.SameBut.update ..).extBut.push _).push _))
end
end L2
namespace L2
open PySem PySem.Spec PyProof.Rows PySem.SeqAt
section
variable{prog:Program}{w:World}{A:Around}{E:Value→Shared→Prop}{s:Shared}
theorem q9{a:Addr}{o:Obj}{es:Array (Int × Value)}{ep:Nat}{t:SetTable}{Q:Bool→Shared→Prop}(ho:s.heap.get? a=some o)(hd:o.data = .set es ep t)(hf:t.fits es.size=true)
  (h:Q (!(w.params.followText "set-order")&&(!t.plain&&decide (es.size>1))) s):wpAny (model prog w) A (setDrawn a) Q E s:=by
 unfold setDrawn
 refine wpAny_bind (wpAny_setState_of ho hd hf ?_)
 refine wpAny_bind ?_
 unfold setsByText
 refine wpAny_bind (wpAny_askSetting (wpAny_pure ?_))
 exact wpAny_pure h
theorem xZ{a:Addr}{o:Obj}{es:Array (Int × Value)}{ep:Nat}{t:SetTable}{Q:Value→Shared→Prop}(ho:s.heap.get? a=some o)(hx:o.ExactSet)(hd:o.data = .set es ep t)(hf:t.fits es.size=true)(hfew:es.size<scanBound)
  (h1:(!(w.params.followText "set-order")&&(!t.plain&&decide (es.size>1)))=false→Q (.ref s.heap.objs.size) { s with heap:=s.heap.push { cls:=.type "set_iterator", data:=.fields #[.int 0 0,.int 0 0,.ref a,.int es.size 0,.int ep 0] } })
  (h2:∀ (ps:List Nat) d',ps.Perm (List.range es.size)→Q (.ref (s.heap.objs.size+1)) { s with heap:=(s.heap.push { cls:=.type "tuple", data:=.seq (ps.map fun i:Nat=>rawInt i).toArray }).push { cls:=.type "set_iterator", data:=.fields #[.ref s.heap.objs.size,.int 0 0,.ref a,.int es.size 0,.int ep 0] },drawn:=d' }) :
  wpAny (model prog w) A (pyIter (.ref a)) Q E s:=by
 have hT:s.TypeIs (.ref a) "set" := ⟨o,ho,hx.1⟩
 refine wpAny_pyIter_slot hT F.slot_set_iter (wpAny_call_entry F.slot_set_iter hT jz ?_ (F.args_set_iter_1 _))
 unfold Builtin.«frozenset.__iter__»
 refine wpAny_bind (wpAny_pure ?_)
 refine wpAny_bind ?_
 unfold Builtin.Frozenset.sizeOf
 refine wpAny_bind (wpAny_setEntries_of ho hd hf (wpAny_pure ?_))
 refine wpAny_bind (q9 ho hd hf ?_)
 dsimp only
 refine wpAny_ite_split (fun hab=>?_) (fun hab=>?_)
 ·refine wpAny_bind (kB _ _ _ _ (by simp) fun ps d' hp=>?_)
  have hlen:ps.length=es.size:=by rw[hp.length_eq]; simp
  refine wpAny_bind ?_
  unfold newTuple
  have hz:=fits_of_scanBound hfew
  refine wpAny_newObj_type ?_ (by show (List.map _ ps).toArray.size≤sizeLine; simp; omega)
  refine wpAny_bind ?_
  unfold setEpoch
  refine wpAny_bind (wpAny_setState_of (Heap.get?_push_of_some _ ho) hd hf (wpAny_pure ?_))
  refine wpAny_bind ?_
  unfold newFields
  refine wpAny_newObj_type (wpAny_pure ⟨_,rfl, "set_iterator", _,⟨_,Heap.get?_push_size _ rfl,rfl⟩,slot_si_next.lookup,?_⟩)
  rw[Heap.size_push]
  exact h2 ps d' hp
 ·refine wpAny_bind (wpAny_pure ?_)
  refine wpAny_bind ?_
  unfold setEpoch
  refine wpAny_bind (wpAny_setState_of ho hd hf (wpAny_pure ?_))
  refine wpAny_bind ?_
  unfold newFields
  refine wpAny_newObj_type (wpAny_pure ⟨_,rfl, "set_iterator", _,⟨_,Heap.get?_push_size _ rfl,rfl⟩,slot_si_next.lookup,?_⟩)
  exact h1 (by simpa using hab)
end
end L2
namespace L2
open PySem PySem.Spec PyProof.Rows PySem.SeqAt
section
variable{prog:Program}{w:World}{A:Around}{E:Value→Shared→Prop}{s:Shared}
theorem yc{it a tp:Addr}{o ot:Obj}{es:Array (Int × Value)}{ep ct:Nat}{t:SetTable}{i k:Nat}{ps:List Nat}{v:Value}{hh:Int}{Q:Option Value→Shared→Prop}(hit:IsSI s.heap it (.ref tp) i a es.size ep)(ho:s.heap.get? a=some o)(hd:o.data = .set es ep t)(hf:t.fits es.size=true)
  (hot:s.heap.get? tp=some ot) (hdt:ot.data = .seq (ps.map fun i:Nat=>rawInt i).toArray ct) (hk:ps[i]? = some k) (hv:es[k]? = some (hh,v))
  (hQ:∀ h',IsSI h' it (.ref tp) (i+1) a es.size ep→Heap.SameBut it s.heap h'→Q (some v) { s with heap:=h' }):wpAny (model prog w) A (pyNext (.ref it)) Q E s:=by
 obtain⟨oi,hoi,hci,hdi⟩:=id hit
 unfold pyNext
 refine wpAny_bind (wpAny_attempt (wpAny_callSpecial?_slot (name:=Str.ofString "__next__") hit.typeIs slot_si_next (wpAny_call_entry slot_si_next hit.typeIs dF ?_ (dN _))))
 unfold Builtin.«set_iterator.__next__»
 refine wpAny_bind (wpAny_pure ?_)
 refine wpAny_bind (wpAny_fieldsOf hoi hdi ?_)
 dsimp only
 refine wpAny_bind (wpAny_setEntries_of ho hd hf ?_)
 rw[if_neg (by simp)]
 refine wpAny_bind (wpAny_seqItems hot hdt ?_)
 simp only[Int.toNat_natCast]
 have e1:(List.map (fun i:Nat=>rawInt (i:Int)) ps).toArray[i]? = some (.int (k:Int) 0):=by
  rw[List.getElem?_toArray,List.getElem?_map,hk]; rfl
 rw[e1]
 dsimp only
 refine wpAny_bind ?_
 unfold setNextDrawn
 refine wpAny_bind (wpAny_setState_of ho hd hf ?_)
 dsimp only
 simp only[Int.toNat_natCast]
 rw[if_neg (by simp)]
 rw[hv]
 refine wpAny_pure ?_
 refine wpAny_bind (wpAny_setField hoi hdi (by simp) ?_)
 have hdi1:=Obj.data_mapFields hdi (fun xs=>xs.setIfInBounds 1 (rawInt ((i:Int)+1)))
 have hoi1:=Heap.get?_update_self (Obj.mapFields (fun xs=>xs.setIfInBounds 1 (rawInt ((i:Int)+1)))) hoi (Obj.isFreed_of_fields hdi1)
 refine wpAny_pure ⟨_,rfl,wpAny_pure (hQ _ ⟨_,hoi1,?_,?_⟩ (Heap.SameBut.update ..))⟩
 ·rw[Obj.cls_mapFields]; exact hci
 ·rw[hdi1]; simp[rawInt]
theorem Ae{it a tp:Addr}{o ot:Obj}{es:Array (Int × Value)}{ep ct:Nat}{t:SetTable}{ps:List Nat}{Q:Option Value→Shared→Prop}(hh:A.handled=none)(hit:IsSI s.heap it (.ref tp) es.size a es.size ep)(ho:s.heap.get? a=some o)(hd:o.data = .set es ep t)(hf:t.fits es.size=true)
  (hot:s.heap.get? tp=some ot) (hdt:ot.data = .seq (ps.map fun i:Nat=>rawInt i).toArray ct) (hp:ps.length=es.size)
  (hQ:∀ h',Heap.ExtBut it s.heap h'→Q none { s with heap:=h' }):wpAny (model prog w) A (pyNext (.ref it)) Q E s:=by
 obtain⟨oi,hoi,hci,hdi⟩:=id hit
 unfold pyNext
 refine wpAny_bind (wpAny_attempt (wpAny_callSpecial?_slot (name:=Str.ofString "__next__") hit.typeIs slot_si_next (wpAny_call_entry slot_si_next hit.typeIs dF ?_ (dN _))))
 unfold Builtin.«set_iterator.__next__»
 refine wpAny_bind (wpAny_pure ?_)
 refine wpAny_bind (wpAny_fieldsOf hoi hdi ?_)
 dsimp only
 refine wpAny_bind (wpAny_setEntries_of ho hd hf ?_)
 rw[if_neg (by simp)]
 refine wpAny_bind (wpAny_seqItems hot hdt ?_)
 simp only[Int.toNat_natCast]
 have e1:(List.map (fun i:Nat=>rawInt (i:Int)) ps).toArray[es.size]? = none:=by
  rw[List.getElem?_toArray,List.getElem?_eq_none (by simp; omega)]
 rw[e1]
 dsimp only
 refine wpAny_bind (wpAny_setField hoi hdi (by simp) ?_)
 have hdi1:=Obj.data_mapFields hdi (fun xs=>xs.setIfInBounds 0 (rawInt 0))
 have hoi1:=Heap.get?_update_self (Obj.mapFields (fun xs=>xs.setIfInBounds 0 (rawInt 0))) hoi (Obj.isFreed_of_fields hdi1)
 refine wpAny_bind (wpAny_setField hoi1 hdi1 (by simp) ?_)
 refine wpAny_bind ?_
 simp only[newExc,newTuple]
 refine wpAny_bind (wpAny_newObj_type ?_ (by size_fits))
 refine wpAny_bind (m:=firstArgMember _ _) (wpAny_of_eq (a:=Value.none) (by first | rfl | (simp only[firstArgMember]; rfl)) ?_)
 refine wpAny_newObj_type ?_ (by size_fits)
 simp only[raiseNew]
 refine wpAny_bind (wpAny_handled ?_)
 rw[show A.in1.handled=none from hh]
 refine wpAny_bind (wpAny_pure (wpAny_throw ?_))
 refine wpAny_bind (wpAny_isInstance (T := "StopIteration") (b:=true) ⟨_,Heap.get?_push_size _ rfl,rfl⟩ isSubtype_stop ?_)
 exact wpAny_pure (hQ _ ((((Heap.SameBut.update ..).trans (Heap.SameBut.update ..)).extBut.push _).push _))
end
end L2
namespace L2
open PySem PySem.Spec PyProof.Rows PySem.SeqAt
theorem gw:Slot "set_iterator" "__iter__" "set_iterator.__iter__" :=
 .of (owner := "set_iterator") (n := "__iter__") (by rw[typeLookup_type,builtinLookup_eq_fast]; kernel_rfl) (by decide +kernel) (by decide +kernel) (by decide +kernel)
  (by first | exact .inl (by decide +kernel) | exact .inr (by decide +kernel)) (by rw[isSubtype_type]; kernel_rfl)
theorem lb:entryFor table "set_iterator.__iter__" = some Builtin.«dict_keyiterator.__iter__»:=
 entryFor_alias (id' := "dict_keyiterator.__iter__") (by kernel_rfl) rfl (by decide +kernel) (by kernel_rfl)
theorem lQ(a:Value):argsOk "set_iterator.__iter__" ⟨[a],[]⟩:=by
 unfold argsOk; rw [signature?_of (id := "set_iterator.__iter__") (n:=['_','_','r','e','t','i','_','_']) (o:=['r','o','t','a','r','e','t','i','_','t','e','s']) (by kernel_rfl) m6]; kernel_rfl
section
variable{prog:Program}{w:World}{A:Around}{E:Value→Shared→Prop}{s:Shared}
theorem pS{it a:Addr}{first:Value}{i n ep:Nat}{Q:Value→Shared→Prop}(hit:IsSI s.heap it first i a n ep)(h:Q (.ref it) s):wpAny (model prog w) A (pyIter (.ref it)) Q E s:=
 wpAny_pyIter_slot hit.typeIs gw (wpAny_call_entry gw hit.typeIs lb (wpAny_bind (wpAny_pure (wpAny_pure ⟨_,rfl, "set_iterator", _,hit.typeIs,slot_si_next.lookup,h⟩))) (lQ _))
theorem IsSI.at'{h h':Heap}{it a:Addr}{first:Value}{i n ep:Nat}(x:IsSI h it first i a n ep)(e:∀ o,h.get? it=some o→h'.get? it=some o):IsSI h' it first i a n ep:=let ⟨o,ho,r⟩:=x; ⟨o,e _ ho,r⟩
theorem AK(hh:A.handled=none)(I a:Addr)(hne:a≠I){o:Obj}{es:Array (Int × Value)}{ep:Nat}{t:SetTable}(hd:o.data = .set es ep t)(hf:t.fits es.size=true)(hg:cv (bV w) t)(hn:w.params.followText "set-order" = true∨(!t.plain&&decide (es.size>1))=false) :
  Walks prog w A I [I,a] [I] es.size (fun i v=>(ej w a ep es)[i]? = some v) (fun i h=>IsSI h I (.int (cQ w t i) 0) i a es.size ep∧h.get? a=some o) where
 sub:=fun b hb=>by simp at hb; simp[hb]
 frame:=fun _ _ _ st hk=>⟨st.1.at' fun o e=>hk I (by simp) o e,hk a (by simp) o st.2⟩
 item:=fun i s Q E hi st hQ=>by
  have hl:(ej w a ep es).length=es.size:=by rw[(fS (w:=w) a ep es).length_eq]; simp
  have hv:(ej w a ep es)[i]? = some (ej w a ep es)[i]:=List.getElem?_eq_getElem (by omega)
  refine yg st.1 st.2 hd hf hg hn hi hv fun h' hit' hs'=>?_
  exact hQ _ h' s.toks hv ⟨hit',hs'.extBut a o hne st.2⟩ (fun b o hb e=>hs'.extBut b o (fun h=>hb (by simp[h])) e)
 done:=fun s Q E st hQ=>yU hh st.1 st.2 hd hf hg hn fun h' he'=>hQ h' s.toks fun b o hb e=>he' b o (fun h=>hb (by simp[h])) e
 self:=fun _ _ _ _ st hQ=>pS st.1 hQ
theorem AE(hh:A.handled=none)(I a tp:Addr)(hne:a≠I)(hnt:tp≠I){o ot:Obj}{es:Array (Int × Value)}{ep ct:Nat}{t:SetTable}{ps:List Nat}(hd:o.data = .set es ep t)(hf:t.fits es.size=true)(hdt:ot.data = .seq (ps.map fun i:Nat=>rawInt i).toArray ct)(hp:ps.Perm (List.range es.size)) :
  Walks prog w A I [I,a,tp] [I] es.size (fun i v=>(ps.map fun k=>(es.getD k (0,.none)).2)[i]? = some v) (fun i h=>IsSI h I (.ref tp) i a es.size ep∧h.get? a=some o∧h.get? tp=some ot) where
 sub:=fun b hb=>by simp at hb; simp[hb]
 frame:=fun _ _ _ st hk=>⟨st.1.at' fun o e=>hk I (by simp) o e,hk a (by simp) o st.2.1,hk tp (by simp) ot st.2.2⟩
 item:=fun i s Q E hi st hQ=>by
  have hl:ps.length=es.size:=by rw[hp.length_eq]; simp
  have hk:ps[i]? = some (ps[i]'(by omega)):=List.getElem?_eq_getElem (by omega)
  have hlt:ps[i]'(by omega)<es.size:=List.mem_range.mp (hp.mem_iff.mp (List.getElem_mem _))
  have hv:(ps.map fun k=>(es.getD k (0,.none)).2)[i]? = some (es[ps[i]'(by omega)]'hlt).2:=by
   rw[List.getElem?_map,hk]
   simp[Array.getD,hlt]
  refine yc st.1 st.2.1 hd hf st.2.2 hdt hk (hh:=(es[ps[i]'(by omega)]'hlt).1) (v:=(es[ps[i]'(by omega)]'hlt).2) (Array.getElem?_eq_getElem hlt) fun h' hit' hs'=>?_
  exact hQ _ h' s.toks hv ⟨hit',hs'.extBut a o hne st.2.1,hs'.extBut tp ot hnt st.2.2⟩ (fun b o hb e=>hs'.extBut b o (fun h=>hb (by simp[h])) e)
 done:=fun s Q E st hQ=>Ae hh st.1 st.2.1 hd hf st.2.2 hdt (by rw[hp.length_eq]; simp) fun h' he'=>hQ h' s.toks fun b o hb e=>he' b o (fun h=>hb (by simp[h])) e
 self:=fun _ _ _ _ st hQ=>pS st.1 hQ
end
end L2
namespace L2
open PySem PySem.Spec PyProof.Rows PySem.SeqAt
section
variable{prog:Program}{w:World}{A:Around}{E:Value→Shared→Prop}{s:Shared}
theorem n5{a:Addr}{Q:Bool→Shared→Prop}(hT:s.TypeIs (.ref a) "set") (h:Q false s):wpAny (model prog w) A (Builtin.List.listLengthHint (.ref a)) Q E s:=by
 unfold Builtin.List.listLengthHint
 refine wpAny_bind (wpAny_specialOf hT F.slot_set_len.lookup ?_)
 generalize hid:("set.__len__" : String)=id0
 wp_delta
 rw[show splitId id0=some ("set", "__len__") from by subst hid; decide +kernel]
 subst hid
 refine wpAny_bind (wpAny_isInstance (T := "set") (b:=true) hT (by rw[isSubtype_type]; kernel_rfl) ?_)
 refine wpAny_ite_split (fun hab=>absurd hab (by decide)) (fun _=>?_)
 refine wpAny_ite_split (fun _=>?_) (fun hab=>absurd (by decide +kernel) hab)
 refine wpAny_bind (wpAny_typeOf hT ?_)
 exact wpAny_pure h
theorem vR{l:List Value}{acc:Array Value}(h:ItemsOf (fun i v=>l[i]? = some v) acc l.length):acc.toList=l:=by
 refine List.ext_getElem? fun i=>?_
 rw[Array.getElem?_toList]
 cases e:acc[i]? with
 | some v=>exact(h.2 i v e).symm
 | none=>
  have:acc.size≤i:=by simpa using e
  exact(List.getElem?_eq_none (by have:=h.1; omega)).symm
theorem oz{es:Array (Int × Value)}{ps:List Nat}(hp:ps.Perm (List.range es.size)):(ps.map fun k=>(es.getD k (0,.none)).2).Perm (es.toList.map (·.2)):=by
 refine(hp.map _).trans ?_
 refine List.Perm.of_eq ?_
 refine List.ext_getElem (by simp) fun i h1 h2=>?_
 have hi:i<es.size:=by simpa using h1
 simp[Array.getD,hi]
theorem rB{R:Result→Shared→Prop}{a:Addr}{o:Obj}{es:Array (Int × Value)}{ep:Nat}{t:SetTable}(hh:A.handled=none)(ho:s.heap.get? a=some o)(hx:o.ExactSet)(hd:o.data = .set es ep t)(hf:t.fits es.size=true)(hfew:es.size<scanBound)(hg:cv (bV w) t)
  (S:Addr) (res:Value) (c₀ : Nat) (hS:s.heap.get? S=some { cls:=.type "list", data:=.seq #[] c₀ })
  (hR:∀ h' d' tk acc' c',(∀ b o,b≠S→s.heap.get? b=some o→h'.get? b=some o)→h'.get? S=some { cls:=.type "list", dict:=none,data:=.seq acc' c',slots:=#[] }→acc'.toList.Perm (es.toList.map (·.2))→R (.ok (.ret res)) { s with heap:=h',drawn:=d',toks:=tk }) :
  wpAny (model prog w) A.in1 (Builtin.List.listExtendWith (.ref S) (.ref a) res)
   (fun fin s'=>match fin with | .done f=>R (.ok f) s' | .again c'=>c'.quiet=true∧codeAny (model prog w) A c' R s') (fun e s'=>R (.error e) s') s:=by
 have hz:=fits_of_scanBound hfew
 have halt:a<s.heap.objs.size:=Heap.lt_size ho
 have hSlt:S<s.heap.objs.size:=Heap.lt_size hS
 have hSa:S≠a:=fun e=>by
  rw[e,ho]at hS
  cases hS
  cases hd
 have hT:s.TypeIs (.ref a) "set" := ⟨o,ho,hx.1⟩
 have e1:Builtin.List.listSameRef (.ref S) (.ref a)=false:=by simp[Builtin.List.listSameRef,hSa]
 have key:∀ (h2:Heap) (d2:Drawn) (c tk:Nat) (I:Addr) (fp:List Addr) (l:List Value) (St:Nat→Heap→Prop),l.length=es.size→l.Perm (es.toList.map (·.2))→Walks prog w A.in1 I fp [I] es.size (fun i v=>l[i]? = some v) St→S∉fp→s.heap.objs.size≤I→
   (∀ b o,b≠S→s.heap.get? b=some o→h2.get? b=some o)→h2.get? S=some { cls:=.type "list", data:=.seq #[] c }→St 0 h2→codeAny (model prog w) A (.builtin "list.extend.loop" ⟨[.ref S,.ref I,res],[]⟩) R { s with heap:=h2,drawn:=d2,toks:=tk }:=by
  intro h2 d2 c tk I fp l St hl hp W hSf hI hk hS2 hst
  refine codeAny_extend_loopS W.toS hz S hSf res es.size 0 _ #[] c rfl (Nat.zero_le _) hst hS2 (ItemsOf.nil _) fun s' acc' c' hm hS' hacc=>?_
  rw[Moved.eq_with hm]
  refine hR s'.heap d2 s'.toks acc' c' (fun b o hb e=>hm.heap b o (fun hmem=>?_) (hk b o hb e)) hS' (by rw[vR (by rw[hl]; exact hacc)]; exact hp)
  rcases List.mem_cons.mp hmem with e' | hmem
  ·exact hb e'
  ·have:=Heap.lt_size e
   rw[List.mem_singleton.mp hmem]at this
   exact absurd this (Nat.not_lt.mpr hI)
 unfold Builtin.List.listExtendWith
 refine wpAny_bind (wpAny_typeOf hT ?_)
 rw[if_neg (by rw[e1]; decide)]
 /- the list makes room, then the loop -/
 have touch:∀ (h2:Heap) (d2:Drawn) (I:Addr) (fp:List Addr) (l:List Value) (St:Nat→Heap→Prop),l.length=es.size→l.Perm (es.toList.map (·.2))→Walks prog w A.in1 I fp [I] es.size (fun i v=>l[i]? = some v) St→S∉fp→s.heap.objs.size≤I→
   (∀ b o,s.heap.get? b=some o→h2.get? b=some o)→St 0 h2→
   wpAny (model prog w) A.in1 (updateSeq S (·.push .none) >>= fun _=>updateSeq S (·.pop)) (fun _ s'=>codeAny (model prog w) A (.builtin "list.extend.loop" ⟨[.ref S,.ref I,res],[]⟩) R s') (fun e s'=>R (.error e) s') { s with heap:=h2,drawn:=d2 }:=by
  intro h2 d2 I fp l St hl hp W hSf hI hk hst
  have hS₁:=hk _ _ hS
  refine wpAny_bind (wpAny_updateSeq hS₁ rfl ?_)
  have hS₂:=Heap.get?_update_self (Obj.mapSeq (·.push Value.none)) hS₁ rfl
  refine wpAny_updateSeq (hz:=by seq_fits) hS₂ rfl ?_
  have hS₃:=Heap.get?_update_self (Obj.mapSeq (·.pop)) hS₂ rfl
  have oth:∀ b o,b≠S→h2.get? b=some o→((h2.update S (Obj.mapSeq (·.push Value.none))).update S (Obj.mapSeq (·.pop))).get? b=some o:=fun b o hb e=>
   (Heap.get?_update_other _ _ (Ne.symm hb)).trans ((Heap.get?_update_other _ _ (Ne.symm hb)).trans e)
  exact key _ d2 _ s.toks I fp l St hl hp W hSf hI (fun b o hb e=>oth b o hb (hk b o e)) hS₃ (W.frame 0 _ _ hst fun b hb o e=>oth b o (fun z=>hSf (z ▸ hb)) e)
 refine wpAny_bind (xZ ho hx hd hf hfew (fun hnd=>?_) fun ps d' hp=>?_)
 ·have hTi:Shared.TypeIs { s with heap:=s.heap.push { cls:=.type "set_iterator", data:=.fields #[.int 0 0,.int 0 0,.ref a,.int es.size 0,.int ep 0] } } (.ref a) "set" := ⟨o,Heap.get?_push_of_some _ ho,hx.1⟩
  refine wpAny_bind (wpAny_holding (n5 hTi ?_))
  have hn:w.params.followText "set-order" = true∨(!t.plain&&decide (es.size>1))=false:=by
   cases hb:w.params.followText "set-order" with
   | true=>exact .inl rfl
   | false=>rw[hb]at hnd; exact .inr (by simpa using hnd)
  have hst:IsSI (s.heap.push { cls:=.type "set_iterator", data:=.fields #[.int 0 0,.int 0 0,.ref a,.int es.size 0,.int ep 0] }) s.heap.objs.size (.int (cQ w t 0) 0) 0 a es.size ep:=by
   refine⟨_,Heap.get?_push_size _ rfl,rfl,?_⟩
   unfold cQ
   split <;> simp
  refine wpAny_ite_split (fun _=>?_) (fun hab=>absurd (by decide +kernel) hab)
  refine wpAny_bind (wpAny_rule ?_)
  refine wpAny_bind (wpAny_mono (touch _ s.drawn _ _ _ _ (by rw[(fS (w:=w) a ep es).length_eq]; simp) (fS a ep es) (AK (A:=A.in1) hh s.heap.objs.size a (Nat.ne_of_lt halt) hd hf hg hn) (fun hm=>?_) (Nat.le_refl _) (fun b o e=>Heap.get?_push_of_some _ e) ⟨hst,Heap.get?_push_of_some _ ho⟩) (fun _ s' hc=>wpAny_pure ⟨plainId_quiet F.plain_extend_loop _,hc⟩) (fun _ _ he=>he))
  rcases List.mem_cons.mp hm with z | z
  ·exact absurd z (Nat.ne_of_lt hSlt)
  ·exact hSa (List.mem_singleton.mp z)
 ·have hTi:Shared.TypeIs { s with heap:=(s.heap.push { cls:=.type "tuple", data:=.seq (ps.map fun i:Nat=>rawInt i).toArray }).push { cls:=.type "set_iterator", data:=.fields #[.ref s.heap.objs.size,.int 0 0,.ref a,.int es.size 0,.int ep 0] },drawn:=d' } (.ref a) "set" := ⟨o,Heap.get?_push_of_some _ (Heap.get?_push_of_some _ ho),hx.1⟩
  refine wpAny_bind (wpAny_holding (n5 hTi ?_))
  refine wpAny_ite_split (fun _=>?_) (fun hab=>absurd (by decide +kernel) hab)
  refine wpAny_bind (wpAny_rule ?_)
  have hst:IsSI ((s.heap.push { cls:=.type "tuple", data:=.seq (ps.map fun i:Nat=>rawInt i).toArray }).push { cls:=.type "set_iterator", data:=.fields #[.ref s.heap.objs.size,.int 0 0,.ref a,.int es.size 0,.int ep 0] }) (s.heap.objs.size+1) (.ref s.heap.objs.size) 0 a es.size ep:=by
   have:=Heap.get?_push_size (s.heap.push { cls:=.type "tuple", data:=.seq (ps.map fun i:Nat=>rawInt i).toArray }) (rfl:Obj.isFreed { cls:=.type "set_iterator", data:=.fields #[.ref s.heap.objs.size,.int 0 0,.ref a,.int es.size 0,.int ep 0] }=false)
   rw[Heap.size_push]at this
   exact⟨_,this,rfl,rfl⟩
  refine wpAny_bind (wpAny_mono (touch _ d' _ _ _ _ (by rw[List.length_map,hp.length_eq]; simp) (oz hp) (AE (A:=A.in1) hh (s.heap.objs.size+1) a s.heap.objs.size (Nat.ne_of_lt (Nat.lt_succ_of_lt halt)) (Nat.ne_of_lt (Nat.lt_succ_self _)) hd hf rfl hp) (fun hm=>?_) (Nat.le_succ _) (fun b o e=>Heap.get?_push_of_some _ (Heap.get?_push_of_some _ e)) ⟨hst,Heap.get?_push_of_some _ (Heap.get?_push_of_some _ ho),Heap.get?_push_of_some _ (Heap.get?_push_size _ rfl)⟩) (fun _ s' hc=>wpAny_pure ⟨plainId_quiet F.plain_extend_loop _,hc⟩) (fun _ _ he=>he))
  rcases List.mem_cons.mp hm with z | z
  ·exact absurd z (Nat.ne_of_lt (Nat.lt_succ_of_lt hSlt))
  ·rcases List.mem_cons.mp z with z | z
   ·exact hSa z
   ·exact absurd (List.mem_singleton.mp z) (Nat.ne_of_lt hSlt)
theorem sr{a:Addr}{o:Obj}{es:Array (Int × Value)}{ep:Nat}{t:SetTable}{Q:List Value→Shared→Prop}(hh:A.handled=none)(ho:s.heap.get? a=some o)(hx:o.ExactSet)(hd:o.data = .set es ep t)(hf:t.fits es.size=true)(hfew:es.size<scanBound)(hg:cv (bV w) t)
  (hQ:∀ h' d' tk acc,(∀ b o,s.heap.get? b=some o→h'.get? b=some o)→s.heap.objs.size<h'.objs.size→acc.Perm (es.toList.map (·.2))→Q acc { s with heap:=h',drawn:=d',toks:=tk }):wpAny (model prog w) A (collect (.ref a)) Q E s:=by
 have ext:∀ R:Result→Shared→Prop,(∀ h' d' tk acc' c',(∀ b o,s.heap.get? b=some o→h'.get? b=some o)→h'.get? s.heap.objs.size=some { cls:=.type "list", dict:=none,data:=.seq acc' c',slots:=#[] }→acc'.toList.Perm (es.toList.map (·.2))→R (.ok (.ret (.ref s.heap.objs.size))) { s with heap:=h',drawn:=d',toks:=tk })→
   codeAny (model prog w) A (.builtin "proto.collect" ⟨[.ref a],[]⟩) R s:=fun R hR=>by
  refine codeAny_builtin F.entry_proto_collect ?_
  rw[Around.under_plainId F.plain_proto_collect _]
  show wpAny _ A.in1 (newList [] >>= fun l=>again (.builtin "list.__iadd__" ⟨[l,.ref a],[]⟩)) _ _ s
  refine wpAny_bind (wpAny_newObj_type ?_)
  refine wpAny_pure ⟨plainId_quiet F.plain_list_iadd _,codeAny_builtin F.entry_list_iadd ?_⟩
  rw[Around.under_plainId F.plain_list_iadd _]
  show wpAny _ A.in1 (Builtin.List.listExtendWith (.ref s.heap.objs.size) (.ref a) (.ref s.heap.objs.size)) _ _ _
  refine rB (R:=R) (s:={ s with heap:=s.heap.push { cls:=.type "list", data:=.seq ([]:List Value).toArray } }) hh (Heap.get?_push_of_some _ ho) hx hd hf hfew hg s.heap.objs.size _ 0 (Heap.get?_push_size _ rfl) fun h' d' tk acc' c' hk hS' hp=>?_
  exact hR h' d' tk acc' c' (fun b o e=>hk b o (Nat.ne_of_lt (Heap.lt_size e)) (Heap.get?_push_of_some _ e)) hS' hp
 unfold collect
 refine wpAny_bind (wpAny_runValue (ext _ fun h' d' tk acc' c' hk hS' hp=>?_))
 show wpAny _ A (load s.heap.objs.size >>= _) _ _ _
 refine wpAny_bind (wpAny_load hS' ?_)
 exact wpAny_pure (hQ h' d' tk acc'.toList hk (Heap.lt_size hS') hp)
def jE(v:Value):Int:=match v with
 | .int d _=>d
 | _=>0
theorem pA:∀ (l:List Value),(∀ v∈l,∃ tk,v = .int (jE v) tk)→IntsAre l (l.map jE)
 | [],_=>.nil
 | v::l,h=>by
  obtain⟨tk,e⟩:=h v List.mem_cons_self
  have r:=pA l fun u hu=>h u (List.mem_cons_of_mem _ hu)
  rw[List.map_cons]
  generalize jE v=d at e ⊢
  subst e
  exact .cons d tk r
theorem tJ{a:Addr}{o:Obj}{es:Array (Int × Value)}{ep:Nat}{t:SetTable}{Q:Value→Shared→Prop}(hh:A.handled=none)(ho:s.heap.get? a=some o)(hx:o.ExactSet)(hd:o.data = .set es ep t)(hf:t.fits es.size=true)(h64:es.size<64)(hg:cv (bV w) t)
  (hint:∀ e∈es.toList,∃ tk,e.2 = .int (fE e) tk)
  (hQ:∀ h' d' tk q out c ns',(∀ b o,s.heap.get? b=some o→h'.get? b=some o)→s.heap.objs.size≤q→h'.get? q=some (seqObj "list" out c)→IntsAre out.toList ns'→ns'.Perm (es.toList.map fE)→ns'.Pairwise (· ≤ ·)→Q (.ref q) { s with heap:=h',drawn:=d',toks:=tk }) :
  wpAny (model prog w) A (call (.builtin "sorted") [.ref a]) Q E s:=by
 refine Calls.call_function_entry kind_sorted plain_sorted entry_sorted (args_sorted1 _) ?_
 unfold Builtin.«sorted»
 refine wpAny_bind (m:=checkCount "sorted" 1 1 _) (wpAny_pure ?_)
 refine wpAny_bind (sr hh ho hx hd hf (by unfold scanBound; omega) hg fun h' d' tk acc hk hlt hp=>?_)
 have hal:acc.length=es.size:=by rw[hp.length_eq]; simp
 have hI:IntsAre acc (acc.map jE):=pA acc fun v hv=>by
  obtain⟨e,he,rfl⟩:=List.mem_map.mp (hp.mem_iff.mp hv)
  exact hint e he
 have hperm:(acc.map jE).Perm (es.toList.map fE):=by
  have:=hp.map jE
  rw[List.map_map]at this
  exact this
 refine wpAny_bind (wpAny_newList ?_ (by rw[hal,sizeLine_eq]; omega))
 have hoL:(h'.push (seqObj "list" acc.toArray 0)).get? h'.objs.size=some (seqObj "list" acc.toArray 0):=Heap.get?_push_size _ rfl
 show wpAny _ _ _ _ _ { s with heap:=h'.push (seqObj "list" acc.toArray 0),drawn:=d',toks:=tk }
 refine wpAny_bind (wpAny_holding (wpAny_call_entry slot_list_sort ⟨_,hoL,rfl⟩ entry_list_sort (list_sort_tree hoL hI (by omega) fun out ns' a1 a2 a3=>⟨_,rfl,?_⟩) (args_list_sort _)))
 obtain⟨c,hc⟩:=sortedHeap_at (out:=out) hoL
 refine wpAny_pure ⟨_,rfl,hQ _ d' tk h'.objs.size out c ns' (fun b o e=>?_) (Nat.le_of_lt hlt) hc a1 (a2.trans hperm) a3⟩
 have hb:=Heap.lt_size (hk b o e)
 rw[sortedHeap_old (Nat.ne_of_lt hb) (by rw[Heap.size_push]; exact Nat.lt_succ_of_lt hb)]
 exact Heap.get?_push_of_some _ (hk b o e)
end
section
variable{X:Cx}
theorem mU{m:Nat}(hr:Room m X.A):CallR X (.builtin "sorted") (nV (fF X.w)):=by
 intro pins s σ H xs us Q I r h
 obtain⟨p,ds,rfl,e,h60,q⟩:=h
 obtain⟨u,rfl,ru⟩:=cU r
 cases ru
 obtain⟨o,es,ep,t,ho,hx,hd,hfew,hf,hg,hint,hds⟩:=(show ObjOk X.prog X.w H s.heap p (fF X.w p ds) from I.hok p _ e).1
 have hz:es.size≤60:=by rw[← hds,List.length_map,Array.length_toList]at h60; exact h60
 have hs:sizeLine=16777216:=sizeLine_eq
 refine tJ hr.hd ho hx hd hf (by omega) hg hint fun h' d' tk qa out c ns' hk hq hc a1 a2 a3=>?_
 have hl:ns'.length≤60:=by rw[a2.length_eq,List.length_map,Array.length_toList]; exact hz
 have I2:=I.laid (t':=tk) (a:=qa) (o:=.lst (ns'.map V.int)) hk hq (show ObjOk X.prog X.w _ h' _ (.lst (ns'.map V.int)) from ⟨by rw[List.length_map]; omega,out.toList,c,ft a1,by simpa using hc⟩)
 refine⟨.ref qa,_,?_,rfl,q _ ns' (I.hok.fresh hq) (by rw[← hds]; exact a2) a3⟩
 exact⟨I2.ok,I2.os,I2.bare,I2.base,I2.loc,I2.cell,I2.free,I2.freeC,I2.pin,I2.hok,I2.len⟩
theorem rO{m:Nat}(K:PySem.W.Frag)(w:World)(hr:Room m X.A)(hK:X.K=K:=by rfl)(hw:X.w=w:=by rfl):CallR X (.type "set") (w6 K (fF w)):=hw ▸ tP hr hK
theorem la{m:Nat}(w:World)(hr:Room m X.A)(hw:X.w=w:=by rfl):CallR X (.builtin "sorted") (nV (fF w)):=hw ▸ mU hr
end
end L2
namespace L2
open PySem PySem.Spec PyProof PyProof.Rows
section
variable{X:Cx}
end
end L2
namespace L2
open PySem PySem.Spec PyProof PyProof.Rows
inductive Ents (w:World):List DictEntry→List (Str × V)→Prop
 | nil:Ents w [] []
 | cons {x:Str} {t:Tok} {y:V} {v:Value} {es:List DictEntry} {kvs:List (Str × V)}:RelV y v→Ents w es kvs→Ents w (⟨PyData.keyHash w.params x,.str x t,v⟩::es) ((x,y)::kvs)
theorem Ents.vs{P:Program}{w:World}{es:List DictEntry}{kvs:List (Str × V)}(h:Ents w es kvs):∃ vs:List (Str × Value),KV kvs vs∧PySem.Pairs (PySem.strKind P w) es vs∧vs.map (·.1)=kvs.map (·.1)∧∀ e∈es,∃ k,(PySem.strKind P w).is k e.key=true∧e.hash=(PySem.strKind P w).hash k:=by
 induction h with
 | nil=>exact⟨[],.nil,.nil,rfl,fun _ h=>nomatch h⟩
 | @cons x t y v es kvs r _ ih=>
  obtain⟨vs,h1,h2,h3,h4⟩:=ih
  have hx:(PySem.strKind P w).is x (.str x t)=true:=by show Value.isStrOf x (.str x t)=true; simp[Value.isStrOf]
  refine⟨(x,v)::vs,.cons ⟨rfl,r⟩ h1,.cons hx rfl h2,by rw[List.map_cons,List.map_cons,h3],fun e he=>?_⟩
  rcases List.mem_cons.mp he with rfl | he
  ·exact⟨x,hx,rfl⟩
  ·exact h4 e he
structure ModD (w:World) (K:PySem.W.Frag) (d:Addr) (kvs:List (Str × V)):Prop where
 low:(d == sysModules)=false
 nd:(kvs.map (·.1)).Nodup
 at':∃ (o:Obj) (es:List DictEntry) (ep:Nat),K.lookup d=some o∧o.ExactDict∧o.data = .dict es.toArray ep∧Ents w es kvs
section
variable{X:Cx}{pins:List (Addr × Obj)}{σ : St}{H:Hp}{s:Shared}{d:Addr}{kvs:List (Str × V)}
theorem ModD.dict(h:ModD X.w X.K d kvs)(I:Inv X pins σ H s):∃ vs:List (Str × Value),KV kvs vs∧s.heap.DictOf (PySem.strKind X.prog X.w) d vs∧∃ ob,s.heap.get? d=some ob∧ob.dict=none:=by
 obtain⟨o,es,ep,h1,h2,h3,h4⟩:=h.at'
 obtain⟨vs,r1,r2,r3,r4⟩:=h4.vs (P:=X.prog)
 have e:=I.kIn d o h1
 exact⟨vs,r1,⟨o,es.toArray,ep,e,h2,h3,fun x hx=>r4 x (by simpa using hx),by simpa using r2,by rw[r3]; exact h.nd⟩,o,e,h2.2.1⟩
theorem ui{P:Program}{w:World}{k:Str}{u:Value}(r:RelV (.str k) u):(PySem.strKind P w).is k u=true:=by
 obtain⟨t,rfl⟩:=r
 show Value.isStrOf k (.str k t)=true
 simp[Value.isStrOf]
end
section
variable{X:Cx}
def C_(w:World)(K:PySem.W.Frag):R2:=fun x y H Q=>∃ d kvs k z,x = .ref d∧y = .str k∧ModD w K d kvs∧bE kvs k=some z∧Q z H
theorem B7(w:World)(K:PySem.W.Frag)(hw:X.w=w:=by rfl)(hK:X.K=K:=by rfl):IxR X (C_ w K):=by
 subst hw hK
 intro value slice pins s σ H x y v u Q I rx ry h hs
 obtain⟨d,kvs,k,z,rfl,rfl,m,l,q⟩:=h
 cases rx
 obtain⟨vs,rel,dd,_⟩:=m.dict I
 obtain⟨w',hw,rw'⟩:=RelO.some_of (v:=z) (o:=valueAt vs k) (by rw[← l]; exact rel.val k)
 have hl:typeLookup (.type "dict") "__getitem__" = pure (some (.builtin "dict.__getitem__")):=PySem.F.slot_dict_getitem.lookup
 exact subscriptTail_builtinR (x:=w') dd.typeIs hl (wpAny_getItem_of (ui ry) dd.mapOf hw ⟨rfl,z,H,I.tok _,rw',q⟩) hs
def Ap(w:World)(K:PySem.W.Frag):V→List V→Hp→VK→Prop:=fun x xs H Q=>∃ d kvs k z,x = .ref d∧xs=[.str k,z]∧ModD w K d kvs∧Q ((bE kvs k).getD z) H
theorem xI(w:World)(K:PySem.W.Frag)(hw:X.w=w:=by rfl)(hK:X.K=K:=by rfl):MtR X "dict.get" (Ap w K):=by
 subst hw hK
 intro pins s σ H x vs v us Q I rx rv h
 obtain⟨d,kvs,k,z,rfl,rfl,m,q⟩:=h
 cases rx
 obtain⟨u,r,rfl,ru,rr⟩:=qy rv
 obtain⟨vs,rel,dd,_⟩:=m.dict I
 refine call_meetsIn PySem.F.slot_dict_get dd.typeIs PySem.F.entry_dict_get (PySem.F.args_dict_get_3 _ _ _) (meets_dict_get_default (PySem.strKind X.prog X.w) d (ui ru) m.low r) ⟨_,dd.mapOf,_,H,I.tok _,?_,q⟩
 exact(rel.val k).getD rr
def y6(w:World)(K:PySem.W.Frag)(r:V→List V→Hp→VK→Prop)(to:TE)(t:TA):TE:=fun σ H Q=>to σ H fun x H1=>(∃ d kvs,x = .ref d∧ModD w K d kvs)∧t σ H1 fun xs H2=>r x xs H2 Q
theorem zQ{o e:Expr}{es:List Expr}{to:TE}{t:TA}{name:Str}{apos cpos:Pos}{id:String}{r:V→List V→Hp→VK→Prop}(w:World)(K:PySem.W.Frag)(pa:PlainAttrs "dict") (slot:Slot "dict" name id) (hty:typeOf (.builtin id)=pure (.type "method_descriptor")) (hm:MtR X id r) (ho:PE X o to) (ha:PA X (e::es) t)
  (hbase:attributeBase o name X.env (eval o X.env)=eval o X.env:=by rfl)
  (hfew:((backTo cpos (starEach (e::es) X.env)).all (fun x=>!x.1)&&(backToKw cpos (keywordEach [] X.env)).all (fun x=>x.1.isSome)&&decide ((e::es).length+([]:List Keyword).length+(if ([]:List Keyword).isEmpty then 0 else 1)<30))=true:=by rfl)
  (hline:(apos.endLine == cpos.line)=true:=by rfl) (hs:starEach (e::es) X.env=(false,eval e X.env)::starEach es X.env:=by rfl) (hplain:(backTo cpos (starEach es X.env)).any (·.1)=false:=by rfl) (hw:X.w=w:=by rfl) (hK:X.K=K:=by rfl) :
  PE X (.Call (.Attribute o name apos) (e::es) [] cpos) (y6 w K r to t):=by
 subst hw hK
 intro pins s σ H Q I h
 refine wpAny_Call_method_late hbase hfew hline rfl (aT (ho pins s σ H _ I h) fun v s1 ⟨x,H1,I1,r1,ty,q1⟩=>?_)
 obtain⟨d,kvs,rfl,m⟩:=ty
 have e1:v = .ref d:=r1
 subst e1
 obtain⟨vs,rel,dd,ob,eo,en⟩:=m.dict I1
 refine⟨"dict", id,pa,slot,hty,dd.typeIs,fun a ea=>⟨ob,by cases ea; exact eo,en⟩,?_⟩
 have hA:=ha cpos pins s1 σ H1 _ I1 q1
 rw[hs]at hA ⊢
 refine Calls.callWith_builtin (by show (false||(backTo cpos (starEach es X.env)).any (·.1))=false; rw[hplain] <;> rfl) (Calls.evalArgs_plain ?_)
 exact aT hA fun us s2 ⟨vs,H2,I2,r2,q2⟩=>hm pins s2 σ H2 _ vs _ us Q I2 r1 r2 q2
end
theorem pO{w:World}{K:PySem.W.Frag}{r:V→List V→Hp→VK→Prop}{to:TE}{t:TA}{σ : St}{H:Hp}{Q:VK}:y6 w K r to t σ H Q=to σ H fun x H1=>(∃ d kvs,x = .ref d∧ModD w K d kvs)∧t σ H1 fun xs H2=>r x xs H2 Q:=rfl
end L2
namespace L2
open PySem PySem.Spec PyProof PyProof.Rows
section
variable{prog:Program}{w:World}{A:Around}{E:Value→Shared→Prop}{s:Shared}
def TSt(i t:Addr)(zs:Array Value)(k:Nat)(h:Heap):Prop:=h.IsTupleIter i t k∧h.IsTuple t zs
theorem TSt.ext{i t b:Addr}{zs:Array Value}{k:Nat}{h h':Heap}(x:TSt i t zs k h)(hs:Heap.ExtBut b h h')(n1:i≠b)(n2:t≠b):TSt i t zs k h':=⟨x.1.extBut hs n1,x.2.extBut hs n2⟩
theorem iK{i t:Addr}{k:Nat}{zs:Array Value}{v:Value}{Q:Value→Shared→Prop}(st:TSt i t zs k s.heap)(nit:t≠i)(hv:zs[k]? = some v)
  (q:∀ h',TSt i t zs (k+1) h'→Heap.SameBut i s.heap h'→Q v { s with heap:=h' }):wpAny (model prog w) A (Builtin.SmallTypes.nextOf (.ref i)) Q E s:=by
 obtain⟨hi,ht⟩:=id st
 obtain⟨ob,e1,e2,e3⟩:=id hi
 obtain⟨ot,f1,_,m,f2⟩:=id ht
 unfold Builtin.SmallTypes.nextOf
 refine wpAny_bind (wpAny_callSpecial?_slot (name:=Str.ofString "__next__") hi.typeIs PySem.F.slot_tuple_iterator_next (wpAny_call_entry PySem.F.slot_tuple_iterator_next hi.typeIs PySem.F.entry_tuple_iterator_next ?_ (PySem.F.args_tuple_iterator_next_1 _)))
 show wpAny _ _ (field (.ref i) 0 >>= _) _ _ s
 refine wpAny_bind (wpAny_field e1 e3 (x:=.ref t) rfl ?_)
 show wpAny _ _ (if (Value.ref t == Value.none)=true then _ else _) _ _ s
 have hno:¬ ((Value.ref t == Value.none)=true):=Bool.false_ne_true
 rw[if_neg hno]
 show wpAny _ _ (field (.ref i) 1 >>= _) _ _ s
 refine wpAny_bind (wpAny_field e1 e3 (x:=.int k 0) rfl ?_)
 show wpAny _ _ (seqItems? (.ref t) >>= _) _ _ s
 refine wpAny_bind (wpAny_seqItems f1 f2 ?_)
 simp only[Int.toNat_natCast,hv]
 refine wpAny_bind (wpAny_setField e1 e3 (by simp) (wpAny_pure ⟨v,rfl,wpAny_pure (q _ ⟨?_,?_⟩ (Heap.SameBut.update ..))⟩))
 ·exact⟨_,Heap.get?_update_self _ e1 (Obj.isFreed_of_fields (Obj.data_mapFields e3 _)),(Obj.cls_mapFields ..).trans e2,by rw[Obj.data_mapFields e3]; simp[rawInt]⟩
 ·exact ht.extBut (Heap.SameBut.update ..).extBut nit
theorem pz{i t:Addr}{k:Nat}{zs:Array Value}{Q:Value→Shared→Prop}(hh:A.handled=none)(st:TSt i t zs k s.heap)(hv:zs[k]? = none)
  (q:∀ h' e,Heap.ExtBut i s.heap h'→(∃ o,h'.get? e=some o∧o.cls = .type "StopIteration")→E (.ref e) { s with heap:=h' }):wpAny (model prog w) A (Builtin.SmallTypes.nextOf (.ref i)) Q E s:=by
 obtain⟨hi,ht⟩:=id st
 obtain⟨ob,e1,e2,e3⟩:=id hi
 obtain⟨ot,f1,_,m,f2⟩:=id ht
 unfold Builtin.SmallTypes.nextOf
 refine wpAny_bind (wpAny_callSpecial?_slot (name:=Str.ofString "__next__") hi.typeIs PySem.F.slot_tuple_iterator_next (wpAny_call_entry PySem.F.slot_tuple_iterator_next hi.typeIs PySem.F.entry_tuple_iterator_next ?_ (PySem.F.args_tuple_iterator_next_1 _)))
 show wpAny _ _ (field (.ref i) 0 >>= _) _ _ s
 refine wpAny_bind (wpAny_field e1 e3 (x:=.ref t) rfl ?_)
 show wpAny _ _ (if (Value.ref t == Value.none)=true then _ else _) _ _ s
 have hno:¬ ((Value.ref t == Value.none)=true):=Bool.false_ne_true
 rw[if_neg hno]
 show wpAny _ _ (field (.ref i) 1 >>= _) _ _ s
 refine wpAny_bind (wpAny_field e1 e3 (x:=.int k 0) rfl ?_)
 show wpAny _ _ (seqItems? (.ref t) >>= _) _ _ s
 refine wpAny_bind (wpAny_seqItems f1 f2 ?_)
 simp only[Int.toNat_natCast,hv]
 refine wpAny_bind (wpAny_rule (wpAny_bind (wpAny_setField e1 e3 (by simp) ?_)))
 show wpAny _ _ (newExc (.type "StopIteration") [] >>= fun z=>_) _ _ _
 refine wpAny_bind ?_
 simp only[newTuple,newExc]
 refine wpAny_bind (wpAny_newObj_type (hd:=by size_fits) ?_)
 refine wpAny_bind (m:=firstArgMember _ _) (wpAny_of_eq (a:=Value.none) (by first | (simp only[firstArgMember]; rfl) | rfl) ?_)
 refine wpAny_newObj_type (hd:=by size_fits) ?_
 simp only[raiseNew]
 refine wpAny_bind (wpAny_handled ?_)
 have hn:A.in1.handled=none:=hh
 first | rw[hn] | rw[hh]
 refine wpAny_bind (wpAny_pure (wpAny_throw (q _ _ (((Heap.SameBut.update ..).extBut.push _).push _) ⟨_,Heap.get?_push_size _ rfl,rfl⟩)))
variable{z TI TO i1 i2 t1 t2:Addr}{xs ys:Array Value}{k1 k2:Nat}{a b:Value}
theorem uF{x y:Value}{Q:Value→Shared→Prop}(D:ZipApart z TI TO i1 i2 t1 t2)(gz:IsZip s.heap z TI TO .none)(gI:IsPair s.heap TI (.ref i1) (.ref i2))(gO:IsPair s.heap TO a b)
  (g1:TSt i1 t1 xs k1 s.heap) (g2:TSt i2 t2 ys k2 s.heap) (hx:xs[k1]? = some x) (hy:ys[k2]? = some y)
  (q:∀ h',IsZip h' z TI TO (rawInt s.heap.objs.size)→IsPair h' TO x y→TSt i1 t1 xs (k1+1) h'→TSt i2 t2 ys (k2+1) h'→IsPair h' s.heap.objs.size x y→h'.objs.size=s.heap.objs.size+1→
   (∀ c o,c≠z→c≠TO→c≠i1→c≠i2→s.heap.get? c=some o→h'.get? c=some o)→Q (.ref s.heap.objs.size) { s with heap:=h' }) :
  wpAny (model prog w) A (Builtin.«zip.__next__» ⟨[.ref z],[]⟩) (fun fin s'=>∃ v,fin = .done (.ret v)∧Q v s') E s:=by
 show wpAny _ _ (field (.ref z) 2 >>= fun _=>_) _ _ _
 refine wpAny_bind (wpAny_field gz rfl (x:=.bool false) rfl ?_)
 show wpAny _ _ (field (.ref z) 3 >>= fun _=>_) _ _ _
 refine wpAny_bind (wpAny_field gz rfl (x:=.ref TI) rfl (wpAny_bind (wpAny_seqItems gI rfl ?_)))
 show wpAny _ _ (Builtin.SmallTypes.ownedTupleIsFree (.ref z) >>= fun _=>_) _ _ _
 refine wpAny_bind ?_
 unfold Builtin.SmallTypes.ownedTupleIsFree
 refine wpAny_bind (wpAny_field gz rfl (x:=.none) rfl (wpAny_pure ?_))
 simp only[if_true]
 refine wpAny_bind (wpAny_rule (wpAny_bind (wpAny_field gz rfl (x:=.ref TO) rfl (wpAny_bind (wpAny_setField_rec gz (by simp) fun ha z1 m1=>?_)))))
 replace z1:IsZip ha z TI TO .ellipsis:=z1
 refine wpAny_bind ?_
 simp only[List.zipIdx_nil,List.zipIdx_cons,List.forIn_nil,List.forIn_cons]
 refine wpAny_bind (wpAny_bind (wpAny_onRaise ?_))
 show wpAny _ _ (Builtin.SmallTypes.nextOf (.ref i1) >>= fun _=>_) _ _ _
 refine wpAny_bind (iK (g1.ext m1.extBut D.i1z D.l1z) D.l1i1 hx fun hb r1 m2=>wpAny_pure ?_)
 have o2:IsPair hb TO a b:=m2.extBut _ _ D.TOi1 (m1.extBut _ _ D.TOz gO)
 refine wpAny_bind (wpAny_seqItems o2 rfl (wpAny_bind (wpAny_updateSeq_pair o2 fun hc o3 m3=>wpAny_bind (wpAny_letGo (wpAny_pure ?_)))))
 replace o3:IsPair hc TO x b:=o3
 refine wpAny_bind (wpAny_bind (wpAny_onRaise ?_))
 show wpAny _ _ (Builtin.SmallTypes.nextOf (.ref i2) >>= fun _=>_) _ _ _
 refine wpAny_bind (iK (((g2.ext m1.extBut D.i2z D.l2z).ext m2.extBut D.i12.symm D.l2i1).ext m3.extBut D.TOi2.symm D.l2TO) D.l2i2 hy fun hd r2 m4=>wpAny_pure ?_)
 have o4:IsPair hd TO x b:=m4.extBut _ _ D.TOi2 o3
 refine wpAny_bind (wpAny_seqItems o4 rfl (wpAny_bind (wpAny_updateSeq_pair o4 fun he o5 m5=>wpAny_bind (wpAny_letGo (wpAny_pure (wpAny_pure ?_))))))
 replace o5:IsPair he TO x y:=o5
 refine wpAny_bind (wpAny_seqItems o5 rfl (wpAny_bind (wpAny_newTuple ?_)))
 have hsz:he.objs.size=s.heap.objs.size:=by rw[m5.1,m4.1,m3.1,m2.1,m1.1]
 have z5:IsZip he z TI TO .ellipsis:=m5.extBut _ _ D.TOz.symm (m4.extBut _ _ D.i2z.symm (m3.extBut _ _ D.TOz.symm (m2.extBut _ _ D.i1z.symm z1)))
 have kp:∀ c o,c≠z→c≠TO→c≠i1→c≠i2→s.heap.get? c=some o→he.get? c=some o:=fun c o c1 c2 c3 c4 e=>m5.extBut _ _ c2 (m4.extBut _ _ c4 (m3.extBut _ _ c2 (m2.extBut _ _ c3 (m1.extBut _ _ c1 e))))
 have r1':TSt i1 t1 xs (k1+1) he:=((r1.ext m3.extBut D.TOi1.symm D.l1TO).ext m4.extBut D.i12 D.l1i2).ext m5.extBut D.TOi1.symm D.l1TO
 have r2':TSt i2 t2 ys (k2+1) he:=r2.ext m5.extBut D.TOi2.symm D.l2TO
 have zlt:z<he.objs.size:=Heap.lt_size z5
 show wpAny _ _ (Builtin.SmallTypes.ownedTupleHandOut (.ref z) (.ref he.objs.size) >>= fun _=>_) _ _ _
 refine wpAny_bind ?_
 unfold Builtin.SmallTypes.ownedTupleHandOut
 have z6:IsZip (he.push { cls:=.type "tuple", data:=.seq #[x,y] }) z TI TO .ellipsis:=Heap.get?_push_of_some _ z5
 refine wpAny_bind (wpAny_setField_rec z6 (by simp) fun hf z7 m7=>?_)
 replace z7:IsZip hf z TI TO (rawInt he.objs.size):=z7
 refine wpAny_setField_rec z7 (by simp) fun hg z8 m8=>?_
 replace z8:IsZip hg z TI TO (rawInt he.objs.size):=z8
 have up:∀ c o,c≠z→he.get? c=some o→hg.get? c=some o:=fun c o c1 e=>m8.extBut _ _ c1 (m7.extBut _ _ c1 (Heap.get?_push_of_some _ e))
 have t8:IsPair hg he.objs.size x y:=m8.extBut _ _ (Nat.ne_of_gt zlt) (m7.extBut _ _ (Nat.ne_of_gt zlt) (Heap.get?_push_size _ rfl))
 have s8:hg.objs.size=he.objs.size+1:=by rw[m8.1,m7.1,Heap.size_push]
 rw[hsz]at z8 t8 s8
 refine wpAny_pure ⟨_,rfl,?_⟩
 show Q (.ref he.objs.size) _
 rw[hsz]
 have ex:Heap.ExtBut z he hg:=fun c o c1 e=>up c o c1 e
 exact q hg z8 (up _ _ D.TOz o5) (r1'.ext ex D.i1z D.l1z) (r2'.ext ex D.i2z D.l2z) t8 s8 fun c o c1 c2 c3 c4 e=>up c o c1 (kp c o c1 c2 c3 c4 e)
theorem vb{Q:Fin→Shared→Prop}(hh:A.handled=none)(D:ZipApart z TI TO i1 i2 t1 t2)(gz:IsZip s.heap z TI TO .none)(gI:IsPair s.heap TI (.ref i1) (.ref i2))(gO:IsPair s.heap TO a b)
  (g1:TSt i1 t1 xs k1 s.heap) (g2:TSt i2 t2 ys k2 s.heap) (hend:xs[k1]? = none∨ys[k2]? = none)
  (q:∀ h' e,(∀ c o,c≠z→c≠TO→c≠i1→c≠i2→s.heap.get? c=some o→h'.get? c=some o)→(∃ o,h'.get? e=some o∧o.cls = .type "StopIteration")→E (.ref e) { s with heap:=h' }) :
  wpAny (model prog w) A (Builtin.«zip.__next__» ⟨[.ref z],[]⟩) Q E s:=by
 show wpAny _ _ (field (.ref z) 2 >>= fun _=>_) _ _ _
 refine wpAny_bind (wpAny_field gz rfl (x:=.bool false) rfl ?_)
 show wpAny _ _ (field (.ref z) 3 >>= fun _=>_) _ _ _
 refine wpAny_bind (wpAny_field gz rfl (x:=.ref TI) rfl (wpAny_bind (wpAny_seqItems gI rfl ?_)))
 show wpAny _ _ (Builtin.SmallTypes.ownedTupleIsFree (.ref z) >>= fun _=>_) _ _ _
 refine wpAny_bind ?_
 unfold Builtin.SmallTypes.ownedTupleIsFree
 refine wpAny_bind (wpAny_field gz rfl (x:=.none) rfl (wpAny_pure ?_))
 simp only[if_true]
 refine wpAny_bind (wpAny_rule (wpAny_bind (wpAny_field gz rfl (x:=.ref TO) rfl (wpAny_bind (wpAny_setField_rec gz (by simp) fun ha z1 m1=>?_)))))
 replace z1:IsZip ha z TI TO .ellipsis:=z1
 refine wpAny_bind ?_
 simp only[List.zipIdx_nil,List.zipIdx_cons,List.forIn_nil,List.forIn_cons]
 refine wpAny_bind (wpAny_bind (wpAny_onRaise ?_))
 show wpAny _ _ (Builtin.SmallTypes.nextOf (.ref i1) >>= fun _=>_) _ _ _
 have stop:∀ {h':Heap} {e:Addr},IsZip h' z TI TO .ellipsis→(∃ o,h'.get? e=some o∧o.cls = .type "StopIteration")→e≠z:=fun {h' e} hz ⟨o,ho,hc⟩ n=>by
  subst n; rw[hz]at ho; cases ho; simp at hc
 rcases hx:xs[k1]? with _ | x
 ·refine wpAny_bind (pz hh (g1.ext m1.extBut D.i1z D.l1z) hx fun hb e m2 he=>?_)
  have z2:IsZip hb z TI TO .ellipsis:=m2 _ _ D.i1z.symm z1
  have nz:=stop z2 he
  obtain⟨oe,p1,p2⟩:=he
  exact wpAny_setField_rec z2 (by simp) fun hc _ m3=>q hc e (fun c o c1 _ c3 _ x=>m3.extBut _ _ c1 (m2 _ _ c3 (m1.extBut _ _ c1 x))) ⟨oe,m3.extBut _ _ nz p1,p2⟩
 ·have hy:ys[k2]? = none:=by
   rcases hend with h | h
   ·rw[hx]at h; cases h
   ·exact h
  refine wpAny_bind (iK (g1.ext m1.extBut D.i1z D.l1z) D.l1i1 hx fun hb r1 m2=>wpAny_pure ?_)
  have o2:IsPair hb TO a b:=m2.extBut _ _ D.TOi1 (m1.extBut _ _ D.TOz gO)
  refine wpAny_bind (wpAny_seqItems o2 rfl (wpAny_bind (wpAny_updateSeq_pair o2 fun hc o3 m3=>wpAny_bind (wpAny_letGo (wpAny_pure ?_)))))
  refine wpAny_bind (wpAny_bind (wpAny_onRaise ?_))
  show wpAny _ _ (Builtin.SmallTypes.nextOf (.ref i2) >>= fun _=>_) _ _ _
  refine wpAny_bind (pz hh (((g2.ext m1.extBut D.i2z D.l2z).ext m2.extBut D.i12.symm D.l2i1).ext m3.extBut D.TOi2.symm D.l2TO) hy fun hd e m4 he=>?_)
  have z4:IsZip hd z TI TO .ellipsis:=m4 _ _ D.i2z.symm (m3.extBut _ _ D.TOz.symm (m2.extBut _ _ D.i1z.symm z1))
  have nz:=stop z4 he
  obtain⟨oe,p1,p2⟩:=he
  exact wpAny_setField_rec z4 (by simp) fun hg _ m5=>q hg e (fun c o c1 c2 c3 c4 x=>m5.extBut _ _ c1 (m4 _ _ c4 (m3.extBut _ _ c2 (m2.extBut _ _ c3 (m1.extBut _ _ c1 x))))) ⟨oe,m5.extBut _ _ nz p1,p2⟩
end
end L2
namespace L2
open PySem PySem.Spec PyProof PyProof.Rows
section
variable{prog:Program}{w:World}{A:Around}{E:Value→Shared→Prop}{s:Shared}{z TI TO i1 i2 t1 t2:Addr}{xs ys:Array Value}{k1 k2:Nat}{a b:Value}
theorem qK{x y:Value}{Q:Option Value→Shared→Prop}(D:ZipApart z TI TO i1 i2 t1 t2)(gz:IsZip s.heap z TI TO .none)(gI:IsPair s.heap TI (.ref i1) (.ref i2))(gO:IsPair s.heap TO a b)
  (g1:TSt i1 t1 xs k1 s.heap) (g2:TSt i2 t2 ys k2 s.heap) (hx:xs[k1]? = some x) (hy:ys[k2]? = some y)
  (q:∀ h',IsZip h' z TI TO (rawInt s.heap.objs.size)→IsPair h' TO x y→TSt i1 t1 xs (k1+1) h'→TSt i2 t2 ys (k2+1) h'→IsPair h' s.heap.objs.size x y→h'.objs.size=s.heap.objs.size+1→
   (∀ c o,c≠z→c≠TO→c≠i1→c≠i2→s.heap.get? c=some o→h'.get? c=some o)→Q (some (.ref s.heap.objs.size)) { s with heap:=h' }):wpAny (model prog w) A (pyNext (.ref z)) Q E s:=by
 have ty:s.TypeIs (.ref z) "zip" := ⟨_,gz,rfl⟩
 unfold pyNext
 exact wpAny_bind (wpAny_attempt (wpAny_callSpecial?_slot (name:=Str.ofString "__next__") ty PySem.F.slot_zip_next (wpAny_call_entry PySem.F.slot_zip_next ty PySem.F.entry_zip_next
  (uF D gz gI gO g1 g2 hx hy fun h' a1 a2 a3 a4 a5 a6 a7=>wpAny_pure (q h' a1 a2 a3 a4 a5 a6 a7)) (PySem.F.args_zip_next_1 _))))
theorem sU{Q:Option Value→Shared→Prop}(hh:A.handled=none)(D:ZipApart z TI TO i1 i2 t1 t2)(gz:IsZip s.heap z TI TO .none)(gI:IsPair s.heap TI (.ref i1) (.ref i2))(gO:IsPair s.heap TO a b)
  (g1:TSt i1 t1 xs k1 s.heap) (g2:TSt i2 t2 ys k2 s.heap) (hend:xs[k1]? = none∨ys[k2]? = none)
  (q:∀ h',(∀ c o,c≠z→c≠TO→c≠i1→c≠i2→s.heap.get? c=some o→h'.get? c=some o)→Q none { s with heap:=h' }):wpAny (model prog w) A (pyNext (.ref z)) Q E s:=by
 have ty:s.TypeIs (.ref z) "zip" := ⟨_,gz,rfl⟩
 unfold pyNext
 refine wpAny_bind (wpAny_attempt (wpAny_callSpecial?_slot (name:=Str.ofString "__next__") ty PySem.F.slot_zip_next (wpAny_call_entry PySem.F.slot_zip_next ty PySem.F.entry_zip_next
  (vb hh D gz gI gO g1 g2 hend fun h' e kk he=>?_) (PySem.F.args_zip_next_1 _))))
 obtain⟨o,ho,hc⟩:=he
 exact wpAny_bind (wpAny_isInstance (T := "StopIteration") (b:=true) ⟨o,ho,hc⟩ isSubtype_stop (wpAny_pure (q _ kk)))
abbrev xi (h:Heap) (t1:Addr):Heap:=h.push { cls:=.type "tuple_iterator", data:=.fields #[.ref t1,.int 0 0] }
abbrev wM (h:Heap) (t1 t2:Addr):Heap:=(xi h t1).push { cls:=.type "tuple_iterator", data:=.fields #[.ref t2,.int 0 0] }
abbrev wQ (h:Heap) (t1 t2:Addr):Heap:=(wM h t1 t2).push { cls:=.type "tuple", data:=.seq #[.ref h.objs.size,.ref (xi h t1).objs.size] }
abbrev wI (h:Heap) (t1 t2:Addr):Heap:=(wQ h t1 t2).push { cls:=.type "tuple", data:=.seq #[.none,.none] }
abbrev ki (h:Heap) (t1 t2:Addr):Heap:=(wI h t1 t2).push { cls:=.type "zip", data:=.fields #[.none,.bool false,.bool false,.ref (wM h t1 t2).objs.size,.ref (wQ h t1 t2).objs.size] }
theorem rQ(t1 t2:Addr)(xs ys:Array Value):Meets (Builtin.«zip.__new__» ⟨[.type "zip", .ref t1,.ref t2],[]⟩) (fun _ R s=>s.heap.IsTuple t1 xs∧s.heap.IsTuple t2 ys∧
   R (.ok (.ret (.ref (wI s.heap t1 t2).objs.size))) { s with heap:=ki s.heap t1 t2 }):=
 .of_wp fun prog w A R s q=>by
  obtain⟨hp,g,d,tk,os⟩:=s
  obtain⟨e1,e2,q⟩:=q
  have hsub:=sub_zip
  have f1:Heap.IsTuple (Shared.heap ⟨hp,g,d,tk,os⟩) t1 xs:=e1
  have f2:Heap.IsTuple (Shared.heap ⟨hp.push { cls:=.type "tuple_iterator", data:=.fields #[.ref t1,.int 0 0] },g,d,tk,os⟩) t2 ys:=Heap.IsTuple.push e2 _
  wp_walk using wpAny_pyIter_tuple f1,wpAny_pyIter_tuple f2
  exact⟨_,rfl,q⟩
theorem uq{Q:Value→Shared→Prop}(e1:s.heap.IsTuple t1 xs)(e2:s.heap.IsTuple t2 ys)
  (q:∀ h',IsZip h' (s.heap.objs.size+4) (s.heap.objs.size+2) (s.heap.objs.size+3) .none→IsPair h' (s.heap.objs.size+2) (.ref s.heap.objs.size) (.ref (s.heap.objs.size+1))→
   IsPair h' (s.heap.objs.size+3) .none .none→TSt s.heap.objs.size t1 xs 0 h'→TSt (s.heap.objs.size+1) t2 ys 0 h'→
   (∀ c o,s.heap.get? c=some o→h'.get? c=some o)→Q (.ref (s.heap.objs.size+4)) { s with heap:=h' }):wpAny (model prog w) A (call (.type "zip") [.ref t1,.ref t2]) Q E s:=by
 refine callType_new PySem.F.called_zip (by decide) (PySem.F.typeCall_zip_2 _ _) (PySem.F.newCall_zip_2 _ _) (fun obj=>PySem.F.args_object_init_3 obj _ _) PySem.F.entry_zip_new (rQ t1 t2 xs ys) ⟨e1,e2,?_⟩
 have z1:(xi s.heap t1).objs.size=s.heap.objs.size+1:=Heap.size_push ..
 have z2:(wM s.heap t1 t2).objs.size=s.heap.objs.size+2:=by rw[Heap.size_push,z1]
 have z3:(wQ s.heap t1 t2).objs.size=s.heap.objs.size+3:=by rw[Heap.size_push,z2]
 have z4:(wI s.heap t1 t2).objs.size=s.heap.objs.size+4:=by rw[Heap.size_push,z3]
 have p:∀ {h:Heap} {o:Obj} {c:Addr} {u:Obj},h.get? c=some u→(h.push o).get? c=some u:=fun e=>Heap.get?_push_of_some _ e
 have kk:∀ c o,s.heap.get? c=some o→(ki s.heap t1 t2).get? c=some o:=fun c o e=>p (p (p (p (p e))))
 have g5:(ki s.heap t1 t2).get? (wI s.heap t1 t2).objs.size=some _:=Heap.get?_push_size _ rfl
 have g4:(ki s.heap t1 t2).get? (wQ s.heap t1 t2).objs.size=some _:=p (Heap.get?_push_size _ rfl)
 have g3:(ki s.heap t1 t2).get? (wM s.heap t1 t2).objs.size=some _:=p (p (Heap.get?_push_size _ rfl))
 have g2:(ki s.heap t1 t2).get? (xi s.heap t1).objs.size=some _:=p (p (p (Heap.get?_push_size _ rfl)))
 have g1:(ki s.heap t1 t2).get? s.heap.objs.size=some _:=p (p (p (p (Heap.get?_push_size _ rfl))))
 show _∧_
 rw[z2,z3,z4]at g5
 rw[z1,z2]at g3
 rw[z3]at g4
 rw[z1]at g2
 rw[z4]
 have tt:∀ {t zs},s.heap.IsTuple t zs→(ki s.heap t1 t2).IsTuple t zs:=fun ⟨o,e,r⟩=>⟨o,kk _ _ e,r⟩
 exact⟨⟨_,g5,rfl⟩,q _ g5 g3 g4 ⟨⟨_,g1,rfl,rfl⟩,tt e1⟩ ⟨⟨_,g2,rfl,rfl⟩,tt e2⟩ kk⟩
end
def wN(K:PySem.W.Frag)(a b:Addr):It:=
  ⟨fun i H=>∃ xs ys x y,SqT K H a xs∧SqT K H b ys∧xs[i]? = some x∧ys[i]? = some y,
   fun i H v H'=>∃ t x y,H t=none∧v = .ref t∧H'=upd H t (.tup [x,y])∧(∀ xs,SqT K H a xs→xs[i]? = some x)∧∀ ys,SqT K H b ys→ys[i]? = some y,
   fun i H=>∃ xs ys,SqT K H a xs∧SqT K H b ys∧(xs.length≤i∨ys.length≤i)⟩
def UZ(z TI TO i1 i2 l1 l2:Addr)(i:Nat)(h:Heap):Prop:=
 IsZip h z TI TO .none∧IsPair h TI (.ref i1) (.ref i2)∧(∃ a b,IsPair h TO a b)∧h.IsTupleIter i1 l1 i∧h.IsTupleIter i2 l2 i
end L2
namespace L2
open PySem PySem.Spec PyProof PyProof.Rows
theorem SqT.apart{X:Cx}{pins:List (Addr × Obj)}{σ : St}{H:Hp}{s:Shared}{a c:Addr}{xs:List V}(I:Inv X pins σ H s)(hf:eX X pins H c)(h:SqT X.K H a xs):a≠c:=by
 rintro rfl
 rcases h with h | ⟨o,its,n,hk,_⟩
 ·rcases h with e | ⟨o,e⟩ <;> (rw[hf.1]at e; cases e)
 ·have e:=I.ok.mod.kin a o hk
  rcases hf.2.2.2.1 with z | z
  ·exact I.ok.noex a o e z
  ·exact absurd (Nat.lt_of_lt_of_le (Heap.lt_size (I.ok.bs a o e).1) z) (Nat.lt_irrefl _)
theorem ul{P:Program}{w:World}{K:PySem.W.Frag}{elts:List Expr}{k:Nat}{pos:Pos}{z TI TO i1 i2 l1 l2:Addr}(D:sX z TI TO i1 i2):iI P w K (.Tuple elts k pos) (wN K l1 l2) [z,TI,TO,i1,i2] z (UZ z TI TO i1 i2 l1 l2) where
 mem:=by simp
 obj:=fun i h st b hb=>by
  obtain⟨s1,s2,⟨_,_,s3⟩,⟨o4,s4,c4,d4⟩,⟨o5,s5,c5,d5⟩⟩:=st
  simp only[List.mem_cons,List.mem_nil_iff,or_false]at hb
  rcases hb with rfl | rfl | rfl | rfl | rfl
  ·exact⟨_,s1,fun v e=>by cases e⟩
  ·exact⟨_,s2,fun v e=>by cases e⟩
  ·exact⟨_,s3,fun v e=>by cases e⟩
  ·exact⟨_,s4,fun v e=>by rw[d4]at e; cases e⟩
  ·exact⟨_,s5,fun v e=>by rw[d5]at e; cases e⟩
 keep:=fun i h h' st kk=>by
  obtain⟨s1,s2,⟨a,b,s3⟩,s4,s5⟩:=st
  exact⟨kk z (by simp) _ s1,kk TI (by simp) _ s2,⟨a,b,kk TO (by simp) _ s3⟩,s4.at fun o e=>kk i1 (by simp) o e,s5.at fun o e=>kk i2 (by simp) o e⟩
 item:=by
  intro X hP hw hK hc i pins s σ H E I hf st hg
  subst hP hw hK
  obtain⟨xs,ys,x,y,q1,q2,hx,hy⟩:=hg
  obtain⟨is1,rv1,p1,_⟩:=I.tuple q1
  obtain⟨is2,rv2,p2,_⟩:=I.tuple q2
  obtain⟨u1,hu1,ru1⟩:=rv1.get hx
  obtain⟨u2,hu2,ru2⟩:=rv2.get hy
  have n1:∀ c∈[z,TI,TO,i1,i2],l1≠c:=fun c hc'=>SqT.apart I (hf c hc') q1
  have n2:∀ c∈[z,TI,TO,i1,i2],l2≠c:=fun c hc'=>SqT.apart I (hf c hc') q2
  have D':ZipApart z TI TO i1 i2 l1 l2:=⟨D.TIz,D.TOz,D.i1z,D.i2z,D.TITO,D.TIi1,D.TIi2,D.TOi1,D.TOi2,D.i12,n1 _ (by simp),n1 _ (by simp),n1 _ (by simp),n1 _ (by simp),n2 _ (by simp),n2 _ (by simp),n2 _ (by simp),n2 _ (by simp)⟩
  obtain⟨s1,s2,⟨a,b,s3⟩,s4,s5⟩:=st
  have e1:s.heap.IsTuple l1 is1.toArray:=p1
  have e2:s.heap.IsTuple l2 is2.toArray:=p2
  refine qK D' s1 s2 s3 ⟨s4,e1⟩ ⟨s5,e2⟩ (x:=u1) (y:=u2) (by simpa using hu1) (by simpa using hu2) fun h' a1 a2 a3 a4 a5 a6 kk=>?_
  refine⟨_,rfl,wpAny_letOwnedTupleGo_zip a1 fun h'' hz' hs'=>?_⟩
  have lt:∀ {c o},s.heap.get? c=some o→s.heap.objs.size≠c:=fun e=>Nat.ne_of_gt (Heap.lt_size e)
  have zne:s.heap.objs.size≠z:=lt s1
  have keep2:∀ b o,b∉[z,TI,TO,i1,i2]→s.heap.get? b=some o→h''.get? b=some o:=fun b o hb e=>by
   simp only[List.mem_cons,List.mem_nil_iff,or_false,not_or]at hb
   exact hs'.extBut _ _ hb.1 (kk b o hb.1 hb.2.2.1 hb.2.2.2.1 hb.2.2.2.2 e)
  have hsz:H s.heap.objs.size=none:=I.hok.fresh (Nat.le_refl _)
  have tupN:IsPair h'' s.heap.objs.size u1 u2:=hs'.extBut _ _ zne a5
  have nlt:∀ c∈[z,TI,TO,i1,i2],c≠s.heap.objs.size:=fun c hc'=>by
   obtain⟨o4,e4,_⟩:=id s4
   obtain⟨o5,e5,_⟩:=id s5
   simp only[List.mem_cons,List.mem_nil_iff,or_false]at hc'
   rcases hc' with rfl | rfl | rfl | rfl | rfl
   ·exact(lt s1).symm
   ·exact(lt s2).symm
   ·exact(lt s3).symm
   ·exact(lt e4).symm
   ·exact(lt e5).symm
  refine⟨.ref s.heap.objs.size,upd H s.heap.objs.size (.tup [x,y]),I.turnedLaid (t':=s.toks) keep2 hf (Nat.le_refl _) ⟨bF (by show 2≤1000000; decide),[u1,u2],.cons ru1 (.cons ru2 .nil),⟨_,tupN,rfl,rfl,0,rfl⟩⟩,rfl,⟨_,x,y,hsz,rfl,rfl,fun xs' q'=>?_,fun ys' q'=>?_⟩,
   ⟨hz',hs'.extBut _ _ D.TIz (kk _ _ D.TIz D.TITO D.TIi1 D.TIi2 s2),⟨_,_,hs'.extBut _ _ D.TOz a2⟩,a3.1.extBut hs'.extBut D.i1z,a4.1.extBut hs'.extBut D.i2z⟩,fun c hc'=>?_⟩
  ·rw[I.tuple_inj q' q1]; exact hx
  ·rw[I.tuple_inj q' q2]; exact hy
  ·rw[ap (nlt c hc')]; exact(hf c hc').1
 done:=by
  intro X hP hw hK hc i pins s σ H E I hf st hg
  subst hP hw hK
  obtain⟨xs,ys,q1,q2,hlen⟩:=hg
  obtain⟨is1,rv1,p1,_⟩:=I.tuple q1
  obtain⟨is2,rv2,p2,_⟩:=I.tuple q2
  have l1:=rv1.length
  have l2:=rv2.length
  have n1:∀ c∈[z,TI,TO,i1,i2],_≠c:=fun c hc'=>SqT.apart I (hf c hc') q1
  have n2:∀ c∈[z,TI,TO,i1,i2],_≠c:=fun c hc'=>SqT.apart I (hf c hc') q2
  have D':ZipApart z TI TO i1 i2 _ _:=⟨D.TIz,D.TOz,D.i1z,D.i2z,D.TITO,D.TIi1,D.TIi2,D.TOi1,D.TOi2,D.i12,n1 _ (by simp),n1 _ (by simp),n1 _ (by simp),n1 _ (by simp),n2 _ (by simp),n2 _ (by simp),n2 _ (by simp),n2 _ (by simp)⟩
  obtain⟨s1,s2,⟨a,b,s3⟩,s4,s5⟩:=st
  have e1:s.heap.IsTuple _ is1.toArray:=p1
  have e2:s.heap.IsTuple _ is2.toArray:=p2
  refine sU (I.ok.hd hc) D' s1 s2 s3 ⟨s4,e1⟩ ⟨s5,e2⟩ ?_ fun h' kk=>⟨rfl,I.turnedL (t':=s.toks) (fun b o hb e=>?_) hf⟩
  ·rcases hlen with z | z
   ·exact .inl (by simp; omega)
   ·exact .inr (by simp; omega)
  ·simp only[List.mem_cons,List.mem_nil_iff,or_false,not_or]at hb
   exact kk b o hb.1 hb.2.2.1 hb.2.2.2.1 hb.2.2.2.2 e
 self:=fun A i s Q E st h=>wpAny_pyIter_zip st.1 h
def wF(K:PySem.W.Frag)(ta:TA):TI:=fun σ H R=>ta σ H fun vs H1=>∃ a b:Addr,vs=[.ref a,.ref b]∧(∃ xs,SqT K H1 a xs)∧(∃ ys,SqT K H1 b ys)∧R (wN K a b) H1
theorem nv(K:PySem.W.Frag)(ta:TA){σ : St}{H:Hp}{R:It→Hp→Prop}:wF K ta σ H R=ta σ H fun vs H1=>∃ a b:Addr,vs=[.ref a,.ref b]∧(∃ xs,SqT K H1 a xs)∧(∃ ys,SqT K H1 b ys)∧R (wN K a b) H1:=rfl
theorem oY(K:PySem.W.Frag){X:Cx}{elts:List Expr}{k:Nat}{tpos:Pos}{a b:Expr}{ta:TA}{p pos:Pos}(hg:Gl X "zip") (hm:X.mg "zip" = none) (ha:PA X [a,b] ta) (hs:starEach [a,b] X.env=[(false,eval a X.env),(false,eval b X.env)]:=by rfl) (hs2:starEach [b] X.env=[(false,eval b X.env)]:=by rfl) (hK:X.K=K:=by rfl) :
  PI X (.Tuple elts k tpos) (.Call (.Name "zip" p) [a,b] [] pos) (wF K ta):=by
 subst hK
 intro pins s σ H R I h
 refine Call_ (fH I hg hm vk (PyProof.Rows.callWith_type1 (aT (ha pos pins s σ H _ I h) fun us s1 ⟨vs,H1,I1,r1,q1⟩=>?_) (by rw[hs,hs2]) (by rw[hs2]; rfl)))
 obtain⟨l1,l2,e,⟨xs,h1⟩,⟨ys,h2⟩,q⟩:=q1
 subst e
 obtain⟨u1,u2,rfl,r1,r2⟩:=qy r1
 cases r1
 cases r2
 obtain⟨is1,_,p1,_⟩:=I1.tuple h1
 obtain⟨is2,_,p2,_⟩:=I1.tuple h2
 refine uq (show s1.heap.IsTuple l1 is1.toArray from p1) (show s1.heap.IsTuple l2 is2.toArray from p2) fun h' a1 a2 a3 a4 a5 kk=>?_
 refine wpAny_pyIter_zip a1 ⟨_,[s1.heap.objs.size+4,s1.heap.objs.size+2,s1.heap.objs.size+3,s1.heap.objs.size,s1.heap.objs.size+1],_,_,H1,rfl,I1.kept (t':=s1.toks) kk,
  ul (z:=s1.heap.objs.size+4) (TI:=s1.heap.objs.size+2) (TO:=s1.heap.objs.size+3) (i1:=s1.heap.objs.size) (i2:=s1.heap.objs.size+1) (ER _),⟨a1,a2,⟨_,_,a3⟩,a4.1,a5.1⟩,fun b hb=>?_,q⟩
 have hb':s1.heap.objs.size≤b:=by
  simp only[List.mem_cons,List.mem_nil_iff,or_false]at hb
  rcases hb with rfl | rfl | rfl | rfl | rfl <;> first | exact Nat.le_refl _ | exact Nat.le_add_right _ _
 exact I1.fpOk hb' (I1.hok.fresh hb')
end L2
namespace L2
open PySem PySem.Spec PyProof PyProof.Rows
section
variable{prog:Program}{w:World}{A:Around}{E:Value→Shared→Prop}{s:Shared}
theorem li{t sl:Addr}{items:Array Value}{vl vu:Value}{lo hi:Option Int}{Q:Value→Shared→Prop}(ht:IsTup s.heap t items)(hs:s.heap.IsSliceOf sl vl vu .none)(pl:PySem.IsPart vl lo)(pu:PySem.IsPart vu hi)
  (hw:HT.sIx items.size 0 lo=0∧HT.sIx items.size items.size hi=items.size) (q:Q (.ref t) s):wpAny (model prog w) A (getItem (.ref t) (.ref sl)) Q E s:=by
 obtain⟨os,g1,g2,g3⟩:=id hs
 have ty:s.TypeIs (.ref sl) "slice" := ⟨os,g1,g2⟩
 unfold getItem
 try with_reducible refine wpAny_holding ?_
 first | refine wpAny_bind (wpAny_pure ?_) | skip
 refine wpAny_bind (wpAny_sequenceKey ht.typeIs (by decide) (wpAny_bind (wpAny_callSpecial?_slot (name:=Str.ofString "__getitem__") ht.typeIs PyProof.Rows.slot_tuple_getitem (wpAny_call_entry PyProof.Rows.slot_tuple_getitem ht.typeIs entry_tuple_getitem ?_ (args_tuple_getitem _ _)))))
 show wpAny _ _ (Builtin.Tuple.tupleItemsOf (.ref t) >>= fun _=>_) _ _ s
 refine wpAny_bind (tupleItemsOf_ ht (wpAny_bind (wpAny_typeOf ty ?_)))
 rw[if_pos (by decide)]
 refine wpAny_bind (HT.sliceApplied_gen hs pl pu ?_)
 have hyes:((((HT.sIx items.size 0 lo:Nat):Int) == 0&&(1:Int) == 1&&(HT.sIx items.size items.size hi - HT.sIx items.size 0 lo) == items.size)=true):=by
  rw[hw.1,hw.2]; simp
 show wpAny _ _ (if (((HT.sIx items.size 0 lo:Nat):Int) == 0&&(1:Int) == 1&&(HT.sIx items.size items.size hi - HT.sIx items.size 0 lo) == items.size)=true then _ else _) _ _ s
 rw[if_pos hyes]
 refine wpAny_bind (m:=Builtin.Tuple.tupleIsExact _) (wpAny_bind (wpAny_typeOf ht.typeIs (wpAny_pure ?_)))
 have hb:(Value.type "tuple" == Value.type "tuple")=true:=by decide
 rw[hb,if_pos rfl]
 exact wpAny_bind (wpAny_rule (wpAny_pure ⟨_,rfl,wpAny_pure q⟩))
end
section
variable{X:Cx}
def wD(K:PySem.W.Frag):V→Option Int→Option Int→Hp→VK→Prop:=fun x lo hi H Q=>∃ a xs,x = .ref a∧SqT K H a xs∧
 (HT.sIx xs.length 0 lo=0∧HT.sIx xs.length xs.length hi=xs.length→Q (.ref a) H)∧(¬ (HT.sIx xs.length 0 lo=0∧HT.sIx xs.length xs.length hi=xs.length)→∀ p,H p=none→Q (.ref p) (upd H p (.tup (cW xs lo hi))))
theorem ia(K:PySem.W.Frag)(hK:X.K=K:=by rfl):SlR X (wD K):=by
 subst hK
 intro pins s σ H x v vl vu lo hi sl Q I rx hs pl pu h
 obtain⟨a,xs,rfl,hx,q1,q2⟩:=h
 by_cases hw:HT.sIx xs.length 0 lo=0∧HT.sIx xs.length xs.length hi=xs.length
 ·have rx':=rx
  cases rx
  obtain⟨its,r,ht,hz⟩:=I.tuple hx
  have hlen:its.toArray.size=xs.length:=by rw[List.size_toArray]; exact r.length.symm
  exact⟨"tuple", _,PyProof.Rows.slot_tuple_getitem.lookup,ht.typeIs,li ht hs pl pu (by rw[hlen]; exact hw) ⟨.ref a,H,I,rx',q1 hw⟩⟩
 ·exact yp pins s σ H _ v vl vu lo hi sl Q I rx hs pl pu ⟨a,xs,rfl,hx,hw,q2 hw⟩
theorem fZ{K:PySem.W.Frag}{H:Hp}{Q:VK}{a:Addr}{lo hi:Option Int}{xs:List V}(h:SqT K H a xs)(q:∀ p H',Same H H'→SqT K H' p (cW xs lo hi)→Q (.ref p) H'):wD K (.ref a) lo hi H Q:=by
 refine⟨a,xs,rfl,h,fun hw=>?_,fun _ p hp=>q p _ (af hp _) (SqT.of ae)⟩
 have e:cW xs lo hi=xs:=by unfold cW; rw[hw.1,hw.2]; simp
 exact q a H (fun _ _ e=>e) (by rw[e]; exact h)
theorem xW(xs:List V)(k:Nat):cW xs none (some (k:Int))=xs.take k:=by
 unfold cW
 rw[HT.sIx_none,HT.sIx_nat,List.drop_zero,Nat.sub_zero]
 exact List.take_eq_take_min.symm
theorem gY(xs:List V)(k:Nat):cW xs (some (k:Int)) none=xs.drop k:=by
 unfold cW
 rw[HT.sIx_none,HT.sIx_nat]
 rcases Nat.le_total k xs.length with h | h
 ·rw[Nat.min_eq_left h,List.take_of_length_le (by rw[List.length_drop]; omega)]
 ·rw[Nat.min_eq_right h,Nat.sub_self,List.take_zero,List.drop_eq_nil_of_le h]
def rD:List V→Hp→VK→Prop:=fun xs H Q=>(∃ i,xs=[.int i]∧i.natAbs.log2<1920∧Q (.str (toString i)) H)∨∃ y,xs=[.str y]∧Q (.str y) H
theorem tj:CallR X (.type "str") rD:=by
 intro pins s σ H xs us Q I r h
 rcases h with h | ⟨y,rfl,q⟩
 ·exact mY pins s σ H xs us Q I r h
 ·obtain⟨u,rfl,t,rfl⟩:=cU r
  exact PySem.P.str_of_str ⟨.str y,H,I,⟨t,rfl⟩,q⟩
theorem j_{H:Hp}{Q:VK}(i:Int):rD [.int i] H Q=(i.natAbs.log2<1920∧Q (.str (toString i)) H):=
 propext ⟨fun h=>by rcases h with ⟨_,e,h⟩ | ⟨_,e,_⟩ <;> cases e; exact h,fun h=>.inl ⟨i,rfl,h⟩⟩
theorem kh{H:Hp}{Q:VK}(y:Str):rD [.str y] H Q=Q (.str y) H:=
 propext ⟨fun h=>by rcases h with ⟨_,e,h⟩ | ⟨_,e,h⟩ <;> cases e; exact h,fun h=>.inr ⟨y,rfl,h⟩⟩
theorem oQ{x:Str}{d:Addr}{pos:Pos}(h:X.mg x=some (.ref d))(hg:Gl X x:=by rfl)(hd:(x == ("__debug__" : Str))=false:=by decide):PE X (.Name x pos) (tC (.ref d)):=xS hg h rfl hd
theorem dX:MtR X "list.extend" jO:=tQ
theorem dW{H:Hp}{Q:VK}(l b:Addr):jO (.ref l) [.ref b] H Q=∃ xs zs,H l=some (.lst xs)∧H b=some (.lst zs)∧xs.length+zs.length≤sizeLine∧Q .non (upd H l (.lst (xs++zs))):=
 propext ⟨fun ⟨_,_,xs,zs,e1,e2,q⟩=>by cases e1; cases e2; exact⟨xs,zs,q⟩,fun ⟨xs,zs,q⟩=>⟨l,b,xs,zs,rfl,rfl,q⟩⟩
theorem g_(K:PySem.W.Frag){tg l:Expr}{tl:TE}(hl:PE X l tl)(hK:X.K=K:=by rfl):PI X tg l (u0 K tl):=hK ▸ zX hl
theorem oF(K:PySem.W.Frag)(tl:TE){σ : St}{H:Hp}{R:It→Hp→Prop}:u0 K tl σ H R=tl σ H fun x H1=>∃ a,x = .ref a∧(∃ xs,SqT K H1 a xs)∧R (ur K a) H1:=rfl
end
section
variable{K:PySem.W.Frag}{a b:Addr}{xs ys:List V}{g:TG}{te:TE}{nT:Nat}{σ : St}{D:Addr}{Q:VK}{H:Hp}
theorem nr{tb:TS}{D:de}(Pv:Nat→St→Hp→Prop)(h0:Pv 0 σ H)(hl:∀ i σ H,i≤xs.length→Pv i σ H→SqT K H a xs)
  (hs:∀ i x σ H,xs[i]? = some x→Pv i σ H→g x σ H fun σ2 H2=>tb { D with nx:=Pv (i+1),ct:=Pv (i+1),bk:=D.nx } σ2 H2) (hd:∀ σ H,Pv xs.length σ H→D.nx σ H):iE (ur K a) g tb D σ H:=by
 refine jA xs.length Pv h0 (fun i σ H hi p=>⟨xs,xs[i],hl i σ H (Nat.le_of_lt hi) p,by simp[hi]⟩) (fun σ H p=>⟨xs,hl _ σ H (Nat.le_refl _) p,Nat.le_refl _⟩) (fun i σ H x H' hi p yl=>?_) hd
 obtain⟨rfl,y⟩:=yl
 exact hs i x σ _ (y xs (hl i σ _ (Nat.le_of_lt hi) p)) p
theorem kI(Pv:Nat→List V→Hp→Prop)(h0:Pv 0 [] H)(hl:∀ i ys H,i≤xs.length→Pv i ys H→SqT K H a xs)
  (hs:∀ i ys H x,xs[i]? = some x→i<xs.length→Pv i ys H→g x (σ++List.replicate nT none) H (iX xs.length i Pv D ys te))
  (hd:∀ ys H,Pv xs.length ys H→Q (.ref D) H):fz (ur K a) g nX te nT σ D Q H:=by
 refine mV xs.length Pv h0 (fun i ys H hi p=>⟨xs,xs[i],hl i ys H (Nat.le_of_lt hi) p,by simp[hi]⟩) (fun ys H p=>⟨xs,hl _ ys H (Nat.le_refl _) p,Nat.le_refl _⟩) (fun i ys H x H' hi p yl=>?_) hd
 obtain⟨rfl,y⟩:=yl
 exact hs i ys _ x (y xs (hl i ys _ (Nat.le_of_lt hi) p)) hi p
theorem kf{tb:TS}{D:de}(Pv:Nat→St→Hp→Prop)(hn:xs.length=ys.length)(h0:Pv 0 σ H)(hl:∀ i σ H,i≤xs.length→Pv i σ H→SqT K H a xs∧SqT K H b ys)
  (hs:∀ i x y t σ H,xs[i]? = some x→ys[i]? = some y→Pv i σ H→H t=none→g (.ref t) σ (upd H t (.tup [x,y])) fun σ2 H2=>tb { D with nx:=Pv (i+1),ct:=Pv (i+1),bk:=D.nx } σ2 H2) (hd:∀ σ H,Pv xs.length σ H→D.nx σ H):iE (wN K a b) g tb D σ H:=by
 refine jA xs.length Pv h0 (fun i σ H hi p=>⟨xs,ys,xs[i],ys[i],(hl i σ H (Nat.le_of_lt hi) p).1,(hl i σ H (Nat.le_of_lt hi) p).2,by simp[hi],by simp[hn ▸ hi]⟩) (fun σ H p=>⟨xs,ys,(hl _ σ H (Nat.le_refl _) p).1,(hl _ σ H (Nat.le_refl _) p).2,.inl (Nat.le_refl _)⟩) (fun i σ H v H' hi p yl=>?_) hd
 obtain⟨t,x,y,ht,rfl,rfl,y1,y2⟩:=yl
 exact hs i x y t σ H (y1 xs (hl i σ H (Nat.le_of_lt hi) p).1) (y2 ys (hl i σ H (Nat.le_of_lt hi) p).2) p ht
end
theorem SqT.same{K:PySem.W.Frag}{H H':Hp}{a:Addr}{xs:List V}(h:SqT K H a xs)(sm:Same H H'):SqT K H' a xs:=by
 rcases h with (h | ⟨o,h⟩) | h
 ·exact .inl (.inl (sm _ _ h))
 ·exact .inl (.inr ⟨o,sm _ _ h⟩)
 ·exact .inr h
theorem cG{α : Type}{x:α}{xs:List α}:cu (x::xs) 0=some x:=aX (j:=0) rfl
theorem SqT.updL{K:PySem.W.Frag}{H:Hp}{a l:Addr}{xs ys:List V}{o:HO}(h:SqT K H a xs)(hl:H l=some (.lst ys)):SqT K (upd H l o) a xs:=by
 rcases h with (h | ⟨o',h⟩) | h
 ·exact .inl (.inl (by rw[ap (cm h hl (fun z=>nomatch z))]; exact h))
 ·exact .inl (.inr ⟨o',by rw[ap (cm h hl (fun z=>nomatch z))]; exact h⟩)
 ·exact .inr h
end L2
namespace L2
open PySem PySem.Spec PyProof PyProof.Rows
section
variable{X:Cx}
end
end L2
namespace L2
open PySem PySem.Spec PyProof PyProof.Rows
section
variable{K:PySem.W.Frag}{a:Addr}{xs:List V}{g:TG}{σ : St}{H:Hp}
end
end L2
namespace L2
open PySem PySem.Spec PyProof PyProof.Rows
theorem AL{P:Program}{w:World}{k:aA}{u:Value}(h:(b4 P w).is k u=true):RelV (kV k) u:=by
 cases k with
 | inl i=>
  obtain⟨t,rfl⟩:=Value.isInt_shape (show Value.isInt i u=true from h)
  exact⟨t,rfl⟩
 | inr x=>
  obtain⟨t,rfl⟩:=Value.isStrOf_shape (show Value.isStrOf x u=true from h)
  exact⟨t,rfl⟩
section
variable{X:Cx}
def uO:List V→Hp→VK→Prop:=fun xs H Q=>∃ d kvs,xs=[.ref d]∧H d=some (.dK kvs)∧kvs.length≤60000∧∀ l,H l=none→Q (.ref l) (upd H l (.lst (kvs.map fun kv=>kV kv.1)))
theorem kn{H:Hp}{Q:VK}(d:Addr):uO [.ref d] H Q=∃ kvs,H d=some (.dK kvs)∧kvs.length≤60000∧∀ l,H l=none→Q (.ref l) (upd H l (.lst (kvs.map fun kv=>kV kv.1))):=
 propext ⟨fun ⟨_,kvs,e,q⟩=>by cases e; exact⟨kvs,q⟩,fun ⟨kvs,q⟩=>⟨d,kvs,rfl,q⟩⟩
theorem qC{m:Nat}(hr:Room m X.A):CallR X (.type "list") uO:=by
 intro pins s σ H xs us Q I r h
 obtain⟨d,kvs,rfl,ed,hn,q⟩:=h
 obtain⟨u,rfl,ru⟩:=cU r
 cases ru
 obtain⟨_,hd,vs,rel,dd⟩:=lu I.hok (.inl ed)
 obtain⟨ep,hm⟩:=dd.dictAt
 have hs:sizeLine=16777216:=sizeLine_eq
 have hl:kvs.length=vs.length:=Paired.length rel
 refine PySem.W.kdl_call (PySem.W.kdl_dict (knd:=b4 X.prog X.w) (kvs:=vs) (ep:=ep) hd) hr.hd hm (by omega) fun h' tk acc' c' hk hS hacc=>?_
 refine⟨.ref s.heap.objs.size,_,I.laid hk (Nat.le_refl _) (show ObjOk X.prog X.w _ h' _ (.lst (kvs.map fun kv=>kV kv.1)) from ⟨by simp; omega,acc'.toList,c',?_,by simpa using hS⟩),rfl,q _ (I.hok.fresh (Nat.le_refl _))⟩
 refine oG _ _ (by simp[hacc.1,hl]) fun j x w' e1 e2=>?_
 obtain⟨k,y,hk',his⟩:=hacc.2 j w' (by rw[← Array.getElem?_toList]; exact e2)
 rw[List.getElem?_map]at e1
 cases hkv:kvs[j]? with
 | none=>rw[hkv]at e1; cases e1
 | some kv=>
  rw[hkv]at e1
  cases e1
  have:=(ja rel hkv hk').1
  show RelV (kV kv.1) w'
  rw[this]
  exact AL his
end
end L2
namespace L2
open PySem PySem.Spec PyProof PyProof.Rows PySem.SeqAt
section
variable{X:Cx}
end
end L2
namespace L2
open PySem PySem.Spec PyProof.Rows PySem.SeqAt
structure Fl (K:PySem.W.Frag) (C:Addr) (f:Str):Prop where
 c:Cls K C
 n:NoAttr K C f
structure MakeAt (K:PySem.W.Frag) (mg:Str→Option Value) (x:Str) (C:Addr) (qual:Str) (st:Stmt):Prop where
 ex:∃ f fd,Fun K "__init__" qual st f fd∧Mk K C f∧mg x=some (.ref C)
structure mT (P:Program) (w:World) (K:PySem.W.Frag) (mg:Str→Option Value) (base:Heap) (k:Nat) (x:Str) (C:Addr) (ps:List Str) (sp:Sp):Prop where
 ex:∃ f fd,FnOk P w K mg base gA k f fd ps sp∧Binds K fd ps []∧Mk K C f∧mg x=some (.ref C)
section
variable{P:Program}{w:World}{K:PySem.W.Frag}{mg:Str→Option Value}{base:Heap}
theorem MakeAt.mkal{x:Str}{C:Addr}{qual:Str}{st:Stmt}{N ps:List Str}{k:Nat}{sp:Sp}(D:MakeAt K mg x C qual st)(S:aH N ps (defScope st))
  (hb:∀ (kV doc pm:Value) (an:Option Addr) (cdv ct:Value) (us:List Value),us.length=ps.length→bindArgs (PySem.W.fnOf "__init__" qual (defArgs st) (defBody st) (defScope st) .none kV doc pm an cdv ct) ⟨us,[]⟩=pure (ps.zip us))
  (len:∀ vs H Q E,sp vs H Q E→vs.length=ps.length)
  (hbody:∀ (f:Addr) (cdv:Value) (A:Around) (outer:List Env) (s:Shared) (H:Hp) (vs:List V) (Q:VK) (E:XK),Room k (A.deeper (envOfC qual (defScope st) s.heap.objs.size f cdv))→sp vs H Q E→
   ∃ t,PSs (gD gA P w K mg base N qual (defScope st) f cdv A outer s H E).nox (defBody st) t∧t { nx:=fun _ H'=>Q .non H',rt:=Q } (start N vs) H):mT P w K mg base (k+1) x C ps sp:=by
 obtain⟨f,fd,F,m,g⟩:=D.ex
 exact⟨f,fd,F.ok S len fun cdv A outer s H vs Q E hr h=>hbody f cdv A outer s H vs Q E hr h,F.binds hb,m,g⟩
end
def xg(C:Addr)(f:Str)(ta:TE):TE:=fun σ H Q=>ta σ H fun x H1=>∃ a,x = .ref a∧∃ dx fs v,H1 a=some (.ins C dx fs)∧fs.lookup f=some v∧Q v H1
def xc(C:Addr)(f:Str)(ta tv:TE):TS:=fun D σ H=>tv σ H fun y H1=>ta σ H1 fun x H2=>∃ a,x = .ref a∧∃ dx fs,H2 a=some (.ins C dx fs)∧fs.length<1000∧D.nx σ (upd H2 a (.ins C dx (bu f y fs)))
def sI(C:Addr)(sp:Sp)(t:TA):TE:=fun σ H Q=>t σ H fun vs H1=>∀ x dx,H1 x=none→H1 dx=none→dx≠x→sp (.ref x::vs) (upd (upd H1 dx (.own x)) x (.ins C dx [])) (fun v H2=>v = .non∧Q (.ref x) H2) E0
section
variable{X:Cx}{o e value:Expr}{es:List Expr}{f m:Str}{pos pos' apos p:Pos}{ta tv:TE}{t:TA}{C:Addr}{x:Str}{ps:List Str}{sp:Sp}{j k:Nat}
theorem br(g:Fl X.K C f)(he:PE X e ta)(hb:attributeBase e f X.env (eval e X.env)=eval e X.env:=by rfl):PE X (.Attribute e f pos) (xg C f ta):=by
 intro pins s σ H Q I h
 refine ya hb (aT (he pins s σ H _ I h) fun u s1 ⟨x,H1,I1,rx,a,ex,dx,fs,v,ea,l,q⟩=>?_)
 subst ex
 obtain rfl:u=Value.ref a:=rx
 exact qo I1 ea g.c g.n l fun u' s2 I2 ru=>⟨v,H1,I2,ru,q⟩
theorem g0(g:Fl X.K C f)(ha:PE X o ta)(hv:PE X value tv)(hs:swapsWith value (some (.Attribute o f pos')) pos.line X.env=pure false:=by rfl):PS X (.Assign [.Attribute o f pos'] value pos) (xc C f ta tv):=by
 intro pins s σ H D I h
 refine plainObj_wpAny_Assign_Attribute (aT (hv pins s σ H _ I h) fun u s1 ⟨y,H1,I1,ry,q⟩=>aT (ha pins s1 σ H1 _ I1 q) fun ov s2 ⟨x,H2,I2,rx,a,ex,dx,fs,ea,l,q2⟩=>?_) hs
 subst ex
 obtain rfl:ov=Value.ref a:=rx
 exact rZ I2 ea g.c g.n l ry fun s3 I3=>⟨σ,_,I3,q2⟩
theorem Au(c:mT X.prog X.w X.K X.mg X.base j x C ps sp)(hr:Room k X.A)(ha:PA X (e::es) t)(hle:j+1≤k:=by decide)(hg:Gl X x:=by rfl)(hdb:(x == ("__debug__" : Str))=false:=by decide)
  (he:starEach (e::es) X.env=(false,eval e X.env)::starEach es X.env:=by rfl) (hpl:(backTo pos (starEach es X.env)).any (·.1)=false:=by rfl) :
  PE X (.Call (.Name x p) (e::es) [] pos) (sI C sp t):=by
 obtain⟨f,fd,F,b,M,hm⟩:=c.ex
 intro pins s σ H Q I h
 refine wpAny_Call_Name_kw (jS I hg hm ?_ hdb)
 refine PySem.W.callWith_K (h₀:=X.base) I.ok.mod.kin M.kp (aT (ha pos pins s σ H _ I h) fun us s1 ⟨vs,H1,I1,r,q⟩=>⟨I1.kIn,?_⟩) he hpl
 exact vf M F (hr.mono hle) b .nil xb I1 r (by simpa only[List.append_nil] using q)
end
section
variable{C:Addr}{f m:Str}{sp:Sp}{ta tv:TE}{t:TA}{σ : St}{H:Hp}{Q:VK}
theorem l_:xg C f ta σ H Q=ta σ H fun x H1=>∃ a,x = .ref a∧∃ dx fs v,H1 a=some (.ins C dx fs)∧fs.lookup f=some v∧Q v H1:=rfl
theorem lS{D:de}:xc C f ta tv D σ H=tv σ H fun y H1=>ta σ H1 fun x H2=>∃ a,x = .ref a∧∃ dx fs,H2 a=some (.ins C dx fs)∧fs.length<1000∧D.nx σ (upd H2 a (.ins C dx (bu f y fs))):=rfl
theorem k_:sI C sp t σ H Q=t σ H fun vs H1=>∀ x dx,H1 x=none→H1 dx=none→dx≠x→sp (.ref x::vs) (upd (upd H1 dx (.own x)) x (.ins C dx [])) (fun v H2=>v = .non∧Q (.ref x) H2) E0:=rfl
end
theorem zA{f:Str}{v:V}{fs:List (Str × V)}:List.lookup f ((f,v)::fs)=some v:=by simp[List.lookup]
theorem xO{f g:Str}{v:V}{fs:List (Str × V)}(h:(f == g)=false):List.lookup f ((g,v)::fs)=List.lookup f fs:=by simp[List.lookup,h]
theorem yv{f:Str}:List.lookup f ([]:List (Str × V))=none:=rfl
theorem sG{f g:Str}{v x:V}{r:List (Str × V)}(h:¬ g=f):bu f v ((g,x)::r)=(g,x)::bu f v r:=by simp[bu,h]
theorem v8{f:Str}{v:V}:bu f v []=[(f,v)]:=rfl
end L2
namespace L2
open PySem PySem.Spec PyProof.Rows PySem.SeqAt
section
variable{X:Cx}
end
theorem xH{x y:Str}(h:x.cps.toList=y.cps.toList):x=y:=by
 cases x; cases y
 exact congrArg _ (Array.toList_inj.mp h)
theorem hZ(x y:Str):(x++y).cps.toList=x.cps.toList++y.cps.toList:=Array.toList_append
end L2
namespace L2
open PySem PySem.Spec PyProof.Rows
section
variable{X:Cx}{tg e:Expr}
theorem uz:MtR X "list.clear" tO:=uV
end
end L2
namespace L2
open PySem PySem.Spec PyProof.Rows PySem.SeqAt
section
variable{prog:Program}{w:World}{A:Around}{R:Result→Shared→Prop}{I:Addr}{fp wr:List Addr}{Gm:Array GenState→Array GenState→Prop}{n:Nat}{P:Nat→Value→Prop}{St:Nat→Shared→Prop}{L:Bool}
end
section
variable{prog:Program}{w:World}{A:Around}{E:Value→Shared→Prop}{s:Shared}
end
section
variable{X:Cx}
end
section
variable{prog:Program}{w:World}{A:Around}{E:Value→Shared→Prop}{s:Shared}
end
section
variable{X:Cx}
end
section
variable{X:Cx}{c a b:Expr}{tA tB1 tB2:TT}{pos:Pos}
end
end L2
namespace L2
open PySem PySem.Spec PyProof.Rows PySem.SeqAt PySem.Builtin PySem.Builtin.Str PySem.StrLaws
section
variable{X:Cx}
end
end L2
namespace L2
open PySem PySem.Spec PyProof.Rows PySem.SeqAt PySem.Builtin PySem.Builtin.Str PySem.StrLaws
def mJ:V→List V→Hp→VK→Prop:=fun x xs H Q=>∃ s y,x = .str s∧xs=[.str y]∧Q (.bl (decide (0+y.length≤s.length)&&subAt s y 0)) H
theorem ix{H:Hp}{Q:VK}(s y:Str):mJ (.str s) [.str y] H Q=Q (.bl (decide (0+y.length≤s.length)&&subAt s y 0)) H:=
 propext ⟨fun ⟨_,_,e1,e2,q⟩=>by cases e1; cases e2; exact q,fun q=>⟨s,y,rfl,rfl,q⟩⟩
theorem lm{X:Cx}:MtR X "str.startswith" mJ:=by
 intro pins s σ H x xs v us Q I rx r h
 obtain⟨z,y,rfl,rfl,q⟩:=h
 obtain⟨t,rfl⟩:=rx
 obtain⟨u,rfl,ru⟩:=cU r
 obtain⟨u,rfl⟩:=ru
 exact call_gives F.slot_str_startswith (typeIs_str _ _ _) F.entry_str_startswith (F.args_str_startswith_2 _ _) (gives_str_startswith z y t u) ⟨.bl _,H,I,rfl,q⟩
theorem iH{X:Cx}(K:PySem.W.Frag)(hK:X.K=K:=by rfl):OpR X (binaryOp .Add) (rp K):=hK ▸ xo
theorem lH{K:PySem.W.Frag}{H:Hp}{Q:VK}(a b:Addr):rp K (.ref a) (.ref b) H Q=∃ xs ys,SqT K H a xs∧SqT K H b ys∧xs≠[]∧xs.length+ys.length≤sizeLine∧(ys=[]→Q (.ref a) H)∧(ys≠[]→∀ p,H p=none→Q (.ref p) (upd H p (.tup (xs++ys)))):=
 propext ⟨fun ⟨_,_,xs,ys,e1,e2,q⟩=>by cases e1; cases e2; exact⟨xs,ys,q⟩,fun ⟨xs,ys,q⟩=>⟨a,b,xs,ys,rfl,rfl,q⟩⟩
end L2
namespace L2
open PySem PySem.Spec PyProof.Rows
section
variable{X:Cx}
end
end L2
namespace L2
open PySem PySem.Spec PyProof.Rows
abbrev gJ:=List (Option Int)
def MO(P:Program)(w:World):HeapKind P w (gJ):=wG (dq P w) (show 0≤7 by decide)
def AD(P:Program)(w:World)(a:Addr)(xs:List (gJ × Addr × Value)):HO:=
 .ext fun h=>∃ o es ep,h.get? a=some o∧o.ExactDict∧o.data = .dict es ep∧es.toList=xs.map (entryOfKey (MO P w))∧(xs.map (·.1)).Nodup
def CV(H:Hp)(k:gJ)(b:Addr):Prop:=H b=some (.tup (k.map fW))
def BD(H:Hp)(p:gJ × V)(q:gJ × Addr × Value):Prop:=q.1=p.1∧CV H p.1 q.2.1∧RelV p.2 q.2.2
def DO(P:Program)(w:World)(H:Hp)(a:Addr)(kvs:List (gJ × V)):Prop:=
 ∃ xs,H a=some (AD P w a xs)∧(a == sysModules)=false∧xs.length≤sizeLine∧Paired (BD H) kvs xs
section
variable{P:Program}{w:World}{H:Hp}
end
section
variable{X:Cx}{pins:List (Addr × Obj)}{σ : St}{H:Hp}{s:Shared}{a b:Addr}{k:gJ}{kvs:List (gJ × V)}
end
end L2
namespace L2
open PySem PySem.Spec PyProof PyProof.Rows
section
variable{K:PySem.W.Frag}{a b:Addr}{xs ys:List V}{g:TG}{te:TE}{nT:Nat}{σ : St}{D:Addr}{Q:VK}{H:Hp}
theorem rn{tc:TT}(Pv:Nat→List V→Hp→Prop)(h0:Pv 0 [] H)(hl:∀ i zs H,i≤xs.length→Pv i zs H→SqL K H a xs)
  (hs:∀ i zs H x t,xs[i]? = some x→i<xs.length→Pv i zs H→H t=none→g (.ref t) (σ++List.replicate nT none) (upd H t (.tup [.int i,x])) (qA xs.length i Pv D zs tc te))
  (hd:∀ zs H,Pv xs.length zs H→Q (.ref D) H):fz (sy K a) g tc te nT σ D Q H:=by
 refine uS xs.length Pv h0 (fun i zs H hi p=>⟨xs,xs[i],hl i zs H (Nat.le_of_lt hi) p,by simp[hi]⟩) (fun zs H p=>⟨xs,hl _ zs H (Nat.le_refl _) p,Nat.le_refl _⟩) (fun i zs H v H' hi p yl=>?_) hd
 obtain⟨t,x,ht,rfl,rfl,y1⟩:=yl
 exact hs i zs H x t (y1 xs (hl i zs H (Nat.le_of_lt hi) p)) hi p ht
end
theorem xB{α : Type}{xs:List α}{v:α}(h:xs[xs.length - 1]? = some v):cu xs (-1)=some v:=by
 have hl:0<xs.length:=by
  refine Classical.byContradiction fun hn=>?_
  rw[List.getElem?_eq_none (by omega)]at h; cases h
 unfold cu gv
 rw[if_neg (by decide),if_pos (by omega)]
 show xs[(-1+(xs.length:Int)).toNat]? = some v
 rw[show (-1+(xs.length:Int)).toNat=xs.length - 1 by omega]; exact h
section
variable{prog:Program}{w:World}{A:Around}{E:Value→Shared→Prop}{s:Shared}
end
end L2
namespace L2
open PySem PySem.Spec PyProof PyProof.Rows
section
variable{X:Cx}
end
section
variable{X:Cx}
end
section
variable{d:Addr}{o:Obj}{kvs:List (aA × V)}{g:TG}{σ : St}{H:Hp}
end
end L2
namespace PySem.SeqAt
open AutoSeq1 (wpAny_loadPart')
open MeetsSeq MeetsSeq2 MeetsSeq3
end PySem.SeqAt
namespace L2
open PySem PySem.Spec PyProof PyProof.Rows
section
variable{X:Cx}
end
end L2
namespace L2
open PySem PySem.Spec PyProof PyProof.Rows
section
variable{X:Cx}
end
end L2
namespace L2
open PySem PySem.Spec PyProof.Rows
section
variable{X:Cx}{pins:List (Addr × Obj)}{σ : St}{H:Hp}{s:Shared}{a:Addr}{kvs:List (Option Int × V)}
end
section
variable{X:Cx}(P:Program)(w:World)
end
end L2
namespace L2
open PySem PySem.Spec PyProof PyProof.Rows
section
variable{prog:Program}{w:World}{A:Around}{E:Value→Shared→Prop}{s:Shared}
variable{z TI TO i1 i2 t1 t2:Addr}{xs ys:Array Value}{k1 k2:Nat}{a b:Value}
abbrev A_ (h:Heap) (t1:Addr):Heap:=h.push { cls:=.type "list_iterator", data:=.fields #[.ref t1,.int 0 0] }
abbrev Ef (h:Heap) (t1 t2:Addr):Heap:=(A_ h t1).push { cls:=.type "tuple_iterator", data:=.fields #[.ref t2,.int 0 0] }
end
section
variable{K:PySem.W.Frag}{a b:Addr}{xs ys:List V}{g:TG}{te:TE}{nT:Nat}{σ : St}{D:Addr}{Q:VK}{H:Hp}
end
end L2
namespace L2
open PySem PySem.Spec PyProof PyProof.Rows PySem.SeqAt
section
variable{X:Cx}
end
section
variable{X:Cx}
end
section
variable{X:Cx}
end
end L2
namespace L2
open PySem PySem.Spec PyProof PyProof.Rows
section
variable{X:Cx}
end
section
variable{prog:Program}{w:World}{κ : Type}[DecidableEq κ]{knd:HeapKind prog w κ}{A:Around}{E:Value→Shared→Prop}{s:Shared}
end
section
variable{X:Cx}
end
end L2
namespace L2
open PySem PySem.Spec PyProof PyProof.Rows
section
variable{X:Cx}{pins:List (Addr × Obj)}{σ : List (Option V)}{H:Hp}{s:Shared}
end
section
variable{X:Cx}
end
open PySem.SeqAt
section
variable{X:Cx}
end
end L2
namespace PySem.SeqAt
open AutoSeq1 (wpAny_loadPart')
open MeetsSeq MeetsSeq2 MeetsSeq3
open SeqRoads2
section
variable{A:Around}{s:Shared}
end
end PySem.SeqAt
namespace L2
open PySem PySem.Spec PyProof PyProof.Rows PySem.SeqAt
section
variable{X:Cx}{pins:List (Addr × Obj)}{σ : St}{H:Hp}{s:Shared}
end
end L2
namespace PySem
section
variable{M:Program}{w:World}{A:Around}{R:Result→Shared→Prop}{I:Addr}{fp wr:List Addr}{n:Nat}{Pv:Nat→Value→Prop}{St:Nat→Heap→Prop}
end
end PySem
namespace PySem
section
variable{M:Program}{w:World}{A:Around}{E:Value→Shared→Prop}{s:Shared}
end
end PySem
namespace L2
open PySem PySem.Spec PyProof PyProof.Rows PySem.SeqAt
section
variable{X:Cx}
end
end L2
namespace L2
open PySem PySem.Spec PyProof PyProof.Rows
section
variable{X:Cx}
end
end L2
namespace L2
open PySem PySem.Spec PyProof.Rows
abbrev fN:=Sum Str (List (Option Int))
def rF(prog:Program)(w:World)(h:Heap):fN→Value→Prop
 | .inl u,v=>∃ t,v=Value.str u t
 | .inr l,v=>IsTupK (dq prog w) h l v
theorem AJ(i j:Str):decide (i=j)=decide ((Sum.inl i:fN)=Sum.inl j):=by
 by_cases z:i=j
 ·subst z; simp
 ·have z':¬ ((Sum.inl i:fN)=Sum.inl j):=fun q=>z (Sum.inl.inj q)
  rw[decide_eq_false z',decide_eq_false z]
theorem AI(l l':List (Option Int)):decide (l=l')=decide ((Sum.inr l:fN)=Sum.inr l'):=by
 by_cases z:l=l'
 ·subst z; simp
 ·have z':¬ ((Sum.inr l:fN)=Sum.inr l'):=fun q=>z (Sum.inr.inj q)
  rw[decide_eq_false z',decide_eq_false z]
theorem Ar(i:Str)(l:List (Option Int)):decide ((Sum.inl i:fN)=Sum.inr l)=false:=decide_eq_false (fun q=>nomatch q)
theorem AH(i:Str)(l:List (Option Int)):decide ((Sum.inr l:fN)=Sum.inl i)=false:=decide_eq_false (fun q=>nomatch q)
theorem Aw{prog:Program}{w:World}{A:Around}{E:Value→Shared→Prop}{s:Shared}{u v:Value}{Q:Bool→Shared→Prop}(hu:A.units+1<cLine):∀ (x y:fN),rF prog w s.heap x u→rF prog w s.heap y v→Q (decide (x=y)) s→
  wpAny (model prog w) A (PySem.eqBool u v) Q E s
 | .inl i,.inl j,⟨t,e1⟩,⟨t',e2⟩,h=>by
  subst e1 e2
  rw[← AJ]at h
  exact wpAny_eqBool_str h
 | .inl i,.inr l,⟨t,e1⟩,hy,h=>by
  subst e1
  obtain⟨b,its,rfl,ht⟩:=IsTupK.tup (K:=dq prog w) hy
  rw[Ar]at h
  exact SeqAt.EqAt.str_tuple i t ht (Nat.lt_of_succ_lt hu) prog w E Q h
 | .inr l,.inl j,hx,⟨t,e1⟩,h=>by
  subst e1
  obtain⟨b,its,rfl,ht⟩:=IsTupK.tup (K:=dq prog w) hx
  rw[AH]at h
  exact SeqAt.EqAt.tuple_str j t ht (Nat.lt_of_succ_lt hu) prog w E Q h
 | .inr l,.inr l',hx,hy,h=>by
  rw[← AI]at h
  exact jF (K:=dq prog w) (oS hu) hx hy h
def CQ(prog:Program)(w:World):IK prog w fN where
 is:=rF prog w
 hash:=fun k=>match k with
  | .inl u=>hashStr w u
  | .inr l=>nR (dq prog w) l
 draws:=fun k=>match k with
  | .inl _=>1
  | .inr l=>fG (dq prog w) l+1
 deep:=1
 inj:=fun {h v x y} a b=>by
  cases x with
  | inl i=>
   obtain⟨t,rfl⟩:=(show ∃ t,v=Value.str i t from a)
   cases y with
   | inl j=>obtain⟨t',e⟩:=(show ∃ t',Value.str i t=Value.str j t' from b); injection e with e1 _; rw[e1]
   | inr l=>obtain⟨a,_,e,_⟩:=IsTupK.tup (show IsTupK (dq prog w) h l _ from b); cases e
  | inr l=>
   cases y with
   | inl j=>
    obtain⟨t,rfl⟩:=(show ∃ t,v=Value.str j t from b)
    obtain⟨a,_,e,_⟩:=IsTupK.tup (show IsTupK (dq prog w) h l _ from a); cases e
   | inr l'=>rw[(sg (dq prog w)).inj (show IsTupK (dq prog w) h l v from a) (show IsTupK (dq prog w) h l' v from b)]
 keeps:=fun {h h' k v d o es ep} a ho hd hs=>by
  cases k with
  | inl i=>exact a
  | inr l=>exact(sg (dq prog w)).keeps (show IsTupK (dq prog w) h l v from a) ho hd hs
 pyHash:=fun {A E s k v Q} hu hk h=>by
  cases k with
  | inl i=>
   obtain⟨t,rfl⟩:=(show ∃ t,v=Value.str i t from hk)
   exact wpAny_pyHash_str h
  | inr l=>exact gE (K:=dq prog w) (oS hu) hk h
 eqBool:=fun {A E s x y u v Q} hu hx hy h=>Aw hu x y hx hy h
 quiet:=fun {A E s k v n Q} hk h=>by
  cases k with
  | inl i=>
   obtain⟨t,rfl⟩:=(show ∃ t,v=Value.str i t from hk)
   rw[eqIsQuiet_byValue _ rfl]
   exact wpAny_pure h
  | inr l=>exact f_ (K:=dq prog w) hk h
abbrev j4:=Str × List (Option Int)
def sk(k:j4):List fN:=[.inl k.1,.inr k.2]
def MS(P:Program)(w:World):HeapKind P w (List fN):=wG (CQ P w) (show 1≤7 by decide)
def AM(P:Program)(w:World)(a:Addr)(xs:List (List fN × Addr × Value)):HO:=
 .ext fun h=>∃ o es ep,h.get? a=some o∧o.ExactDict∧o.data = .dict es ep∧es.toList=xs.map (entryOfKey (MS P w))∧(xs.map (·.1)).Nodup
def Ds(H:Hp)(k:j4)(b:Addr):Prop:=∃ t,H b=some (.tup [.str k.1,.ref t])∧H t=some (.tup (k.2.map fW))
def Dh(H:Hp)(p:j4 × V)(q:List fN × Addr × Value):Prop:=q.1=sk p.1∧Ds H p.1 q.2.1∧RelV p.2 q.2.2
def DS(P:Program)(w:World)(H:Hp)(a:Addr)(kvs:List (j4 × V)):Prop:=
 ∃ xs,H a=some (AM P w a xs)∧(a == sysModules)=false∧xs.length≤sizeLine∧Paired (Dh H) kvs xs
section
variable{P:Program}{w:World}{H:Hp}
end
section
variable{X:Cx}{pins:List (Addr × Obj)}{σ : St}{H:Hp}{s:Shared}{a b:Addr}{k:j4}{kvs:List (j4 × V)}
end
end L2
namespace L2
open PySem PySem.Spec PyProof.Rows
section
variable{prog:Program}{w:World}{A:Around}{E:Value→Shared→Prop}{s:Shared}
end
section
variable{X:Cx}{pins:List (Addr × Obj)}{σ : St}{H:Hp}{s:Shared}
end
section
variable{X:Cx}{pins:List (Addr × Obj)}{σ : St}{H H1:Hp}{s s1:Shared}
end
end L2
namespace L2
open PySem PySem.Spec PyProof.Rows
section
variable{prog:Program}{w:World}{A:Around}{E:Value→Shared→Prop}{s:Shared}
theorem j5{it t:Addr}{items:Array Value}(hne:t≠it):∀ (n i:Nat) (s:Shared) (Q:List Value→Shared→Prop),s.heap.IsListIter it t i→s.heap.IsList t items→i+n≤items.size→
  (∀ h',h'.IsListIter it t (i+n)→Heap.SameBut it s.heap h'→Q ((items.toList.drop i).take n) { s with heap:=h' })→wpAny (model prog w) A (draw (.ref it) n) Q E s
 | 0,i,s,Q,hit,_,_,hQ=>by
  show wpAny _ _ (pure []) Q E s
  exact wpAny_pure (by simpa using hQ s.heap hit (Heap.SameBut.refl ..))
 | n+1,i,s,Q,hit,ht,hle,hQ=>by
  have hlt:i<items.size:=by omega
  show wpAny _ _ (pyNext (.ref it) >>= _) Q E s
  refine wpAny_bind (wpAny_pyNext_list_item hit ht (x:=items[i]) (by simp[hlt]) fun h₁ hit₁ hs₁=>?_)
  refine wpAny_bind (wpAny_holding (j5 hne n (i+1) _ _ hit₁ (ht.extBut hs₁.extBut hne) (by omega) fun h₂ hit₂ hs₂=>wpAny_pure ?_))
  have hd:items.toList.drop i=items[i]::items.toList.drop (i+1):=by simp[List.drop_eq_getElem_cons,hlt]
  have:=hQ h₂ (by rw[show i+(n+1)=i+1+n by omega]; exact hit₂) (hs₁.trans hs₂)
  rw[hd,List.take_succ_cons]at this
  exact this
theorem iS{t:Addr}{items:Array Value}{Q:List Value→Shared→Prop}(hh:A.handled=none)(ht:s.heap.IsList t items)
  (hQ:∀ h',Heap.ExtBut s.heap.objs.size s.heap h'→Q items.toList { s with heap:=h' }):wpAny (model prog w) A (unpackItems (.ref t) items.size none) Q E s:=by
 obtain⟨o,ho,hc,hd⟩:=id ht
 have hlt:t≠s.heap.objs.size:=Nat.ne_of_lt (Heap.lt_size ho)
 unfold unpackItems
 refine wpAny_bind ?_
 ·unfold notIterableAtAll
  refine wpAny_bind (wpAny_specialOf (show s.TypeIs (.ref t) "list" from ⟨o,ho,hc⟩) F.slot_list_iter.lookup ?_)
  refine wpAny_pure ?_
  simp only[Bool.false_eq_true,if_false]
  refine wpAny_bind (wpAny_holding (wpAny_pyIter_list ht ?_))
  refine wpAny_bind (wpAny_holding (j5 hlt items.size 0 _ _ ⟨_,Heap.get?_push_size _ rfl,rfl,rfl⟩ (Heap.IsList.push ht _) (by omega) fun h₁ hit₁ hs₁=>?_))
  have hall:List.take items.size (List.drop 0 items.toList)=items.toList:=by
   rw[List.drop_zero]; exact List.take_of_length_le (by simp)
  rw[hall]
  rw[if_neg (by simp)]
  have ht₁:h₁.IsList t items:=(Heap.IsList.push ht _).extBut hs₁.extBut hlt
  refine wpAny_bind (wpAny_holding (wpAny_pyNext_list_end hh hit₁ ht₁ (by simp) fun h₂ he₂=>?_))
  simp only[Option.isSome_none,Bool.false_eq_true,if_false]
  refine wpAny_pure (hQ h₂ fun b o hb e=>he₂ b o hb (hs₁.extBut b o hb (Heap.get?_push_of_some _ e)))
theorem ic{env:Env}{elts:List Expr}{x1}{pos:Pos}{t:Addr}{items:Array Value}{Q:Unit→Shared→Prop}(hh:A.handled=none)(ht:s.heap.IsList t items)
  (hn:(assignEach elts env).length=items.size) (hstar:(assignEach elts env).findIdx? (·.1)=none)
  (h:∀ h',Heap.ExtBut s.heap.objs.size s.heap h'→wpAny (model prog w) A (assignInOrder ((assignEach elts env).map (·.2)) items.toList) Q E { s with heap:=h' }) :
  wpAny (model prog w) A (assign (.Tuple elts x1 pos) env (.ref t)) Q E s:=by
 rw[assign_Tuple]
 refine wpAny_bind (wpAny_standAt ?_)
 unfold unpack
 rw[hn,hstar]
 exact wpAny_bind (wpAny_holding (iS hh ht h))
end
section
variable{X:Cx}
def yM(K:PySem.W.Frag)(n:Nat)(t:dZ):TG:=fun v σ H Q=>∃ a xs,v = .ref a∧SqL K H a xs∧xs.length=n∧t xs σ H Q
theorem xK(K:PySem.W.Frag)(n:Nat)(t:dZ)(v:V){σ : St}{H:Hp}{G:St→Hp→Prop}:yM K n t v σ H G=∃ a xs,v = .ref a∧SqL K H a xs∧xs.length=n∧t xs σ H G:=rfl
theorem xr(K:PySem.W.Frag){es:List Expr}{k n:Nat}{t:dZ}{pos:Pos}(h:PGs X es t)(hn:(assignEach es X.env).length=n:=by rfl)(hst:(assignEach es X.env).findIdx? (·.1)=none:=by rfl)(hK:X.K=K:=by rfl)(hc:X.calm=true:=by rfl):PG X (.Tuple es k pos) (yM K n t):=by
 subst hK
 intro pins s σ H v u Q I r hw
 obtain⟨a,xs,e1,hq,hl,hw⟩:=hw
 subst e1
 cases r
 obtain⟨its,rv,pl,hz⟩:=I.list hq
 refine ic (I.ok.hd hc) pl.isList (by simp[hn,← hl,rv.length]) hst fun h' hx=>?_
 have I1:Inv X pins σ H { s with heap:=h' }:=I.kept (t':=s.toks) fun b o e=>hx b o (Nat.ne_of_lt (Heap.lt_size e)) e
 exact h pins _ σ H xs _ Q I1 (by simpa using rv) hw
def zm(K:PySem.W.Frag):List V→Hp→VK→Prop:=fun xs H Q=>∃ (p:Addr) (ss:List Int),xs=[.ref p]∧SqL K H p (ss.map V.int)∧ss.length<64∧∀ (l:Addr) (ts:List Int),H l=none→ts.Perm ss→ts.Pairwise (· ≤ ·)→Q (.ref l) (upd H l (.lst (ts.map V.int)))
theorem rb(K:PySem.W.Frag)(hK:X.K=K:=by rfl):CallR X (.builtin "sorted") (zm K):=by
 subst hK
 intro pins s σ H xs us Q I r h
 obtain⟨p,ss,rfl,hq,h64,q⟩:=h
 obtain⟨u,rfl,ru⟩:=cU r
 cases ru
 obtain⟨its,rv,pl,hz⟩:=I.list hq
 have hlen:its.length=ss.length:=by rw[← rv.length,List.length_map]
 refine sorted_ints pl.isList (jn rv) (by omega) fun out ts h1 h2 h3=>?_
 obtain⟨e,he⟩:=sortedAll_at s.heap its out
 have hl:ts.length=ss.length:=h2.length_eq
 have hs:sizeLine=16777216:=sizeLine_eq
 exact⟨.ref (s.heap.objs.size+1),_,I.laid (t':=s.toks) (fun b o e=>sortedAll_old e) (Nat.le_succ _) (show ObjOk X.prog X.w _ _ _ (.lst (ts.map V.int)) from ⟨by rw[List.length_map]; omega,out.toList,e,ft h1,by simpa using he⟩),rfl,
  q _ ts (I.hok.fresh (Nat.le_succ _)) h2 h3⟩
end
end L2
section
open PySem PySem.Spec PyProof.Rows L2
seal L2.PE L2.PT L2.PW L2.PA L2.PS L2.PSs L2.PG L2.PGs L2.PSet L2.PI L2.PIfs L2.OpR L2.UnR L2.CallR L2.IxR L2.MtR L2.SlR L2.PO L2.PPs
local macro_rules | `(tactic| walk_at "rd1")=>`(tactic| try simp only [p9,mC,jj,ie,ny,oP,pj,lG,p8,mM,pY,mi,o0,pF,pd,wB,tK,sR,mK,wJ,qd,uw,pL,lB,lM,sO,tM,nG,o_,oX,oJ,mI,tG,pC,l_,lS,k_,ix,lH,kg,tE,lK,iY,nt,oI,ng,nE,oE,mx,nn,n6,pW,my,sV,w9,kc,kT,gU,kL,j6,me,jk,kU,pE,wL,pB,pq,lW,nI,mw,lI,ig,ik,kC,kJ,iL,mX,nu,iV,nC,pU,pO,j_,kh,dW,oF,kn,nv,mP,lF,lV,oR,qb,oZ,L2.start,List.map_cons,List.map_nil,List.length_cons,List.length_nil,List.replicate,List.cons_append,List.nil_append,List.append_nil,List.getElem?_cons_zero,List.getElem?_cons_succ,List.set_cons_zero,List.set_cons_succ,Nat.reduceAdd,Nat.reduceSub,Option.some.injEq,exists_eq_left',exists_eq_left,V.int.injEq,V.ref.injEq,V.str.injEq,V.bl.injEq,sZ,oN,and_true,true_and,decide_eq_true_eq,Bool.not_true,Bool.not_false,if_true,Bool.false_eq_true,if_false,ite_true,ite_false])
local macro_rules | `(tactic| walk_at "nx")=>`(tactic| ((first | rw [jR] | (dsimp only; rw [jR])); walk_at "rd1"))
local macro_rules | `(tactic| walk_at "lk")=>`(tactic| repeat (first | exact zA | exact yv | rw [xO (by decide +kernel)]))
local macro_rules | `(tactic| walk_at "pf")=>`(tactic| repeat (first | rw [putF_hit] | rw [v8] | rw [sG (by decide +kernel)]))
namespace K50
open PySem L2
abbrev b9:Stmt:=top 5
theorem lr:aH ["kind"] ["kind"] (defScope b9):=⟨rfl,rfl,rfl,by decide +kernel,rfl,by decide +kernel,by decide +kernel⟩
theorem EA:aq (defScope b9) "kind" := Or.inl (by decide +kernel)
theorem EM:(defScope b9).names.lookup ("CLOSERS" : Str)=some .globalImplicit:=by decide +kernel
abbrev cE:Stmt:=top 6
theorem ra:aH ["step"] ["step"] (defScope cE):=⟨rfl,rfl,rfl,by decide +kernel,rfl,by decide +kernel,by decide +kernel⟩
theorem Aj:aq (defScope cE) "step" := Or.inl (by decide +kernel)
theorem Dx:(defScope cE).names.lookup ("closers_of" : Str)=some .globalImplicit:=by decide +kernel
theorem AT:(defScope cE).names.lookup ("len" : Str)=some .globalImplicit:=by decide +kernel
abbrev b8:Stmt:=top 7
theorem mQ:aH ["step"] ["step"] (defScope b8):=⟨rfl,rfl,rfl,by decide +kernel,rfl,by decide +kernel,by decide +kernel⟩
theorem AZ:aq (defScope b8) "step" := Or.inl (by decide +kernel)
theorem EG:(defScope b8).names.lookup ("head_of" : Str)=some .globalImplicit:=by decide +kernel
theorem Es:(defScope b8).names.lookup ("len" : Str)=some .globalImplicit:=by decide +kernel
abbrev aS:Stmt:=top 8
theorem sc_steps_within:aH ["program", "steps", "step", "block"] ["program"] (defScope aS):=⟨rfl,rfl,rfl,by decide +kernel,rfl,by decide +kernel,by decide +kernel⟩
theorem EC:aq (defScope aS) "program" := Or.inl (by decide +kernel)
theorem zR:aq (defScope aS) "steps" := Or.inl (by decide +kernel)
theorem EJ:aO (defScope aS) "steps" := Or.inl (by decide +kernel)
theorem A5:aq (defScope aS) "step" := Or.inl (by decide +kernel)
theorem D1:aO (defScope aS) "step" := Or.inl (by decide +kernel)
theorem Ek:aq (defScope aS) "block" := Or.inl (by decide +kernel)
theorem EF:aO (defScope aS) "block" := Or.inl (by decide +kernel)
theorem E2:(defScope aS).names.lookup ("blocks_of" : Str)=some .globalImplicit:=by decide +kernel
theorem DM:(defScope aS).names.lookup ("steps_within" : Str)=some .globalImplicit:=by decide +kernel
abbrev bo:Stmt:=top 9
theorem sc_names_in:aH ["steps", "names", "step", "part", "kind"] ["steps"] (defScope bo):=⟨rfl,rfl,rfl,by decide +kernel,rfl,by decide +kernel,by decide +kernel⟩
theorem D3:aq (defScope bo) "steps" := Or.inl (by decide +kernel)
theorem AW:aq (defScope bo) "names" := Or.inl (by decide +kernel)
theorem EH:aO (defScope bo) "names" := Or.inl (by decide +kernel)
theorem A9:aq (defScope bo) "step" := Or.inl (by decide +kernel)
theorem DD:aO (defScope bo) "step" := Or.inl (by decide +kernel)
theorem Ej:aq (defScope bo) "part" := Or.inl (by decide +kernel)
theorem EW:aO (defScope bo) "part" := Or.inl (by decide +kernel)
theorem DA:aq (defScope bo) "kind" := Or.inl (by decide +kernel)
theorem EI:aO (defScope bo) "kind" := Or.inl (by decide +kernel)
theorem EZ:(defScope bo).names.lookup ("PARTS" : Str)=some .globalImplicit:=by decide +kernel
theorem D2:(defScope bo).names.lookup ("list" : Str)=some .globalImplicit:=by decide +kernel
theorem DQ:(defScope bo).names.lookup ("zip" : Str)=some .globalImplicit:=by decide +kernel
abbrev aJ:Stmt:=top 10
theorem sc_lines_of:aH ["program", "lines", "step", "block", "closer"] ["program"] (defScope aJ):=⟨rfl,rfl,rfl,by decide +kernel,rfl,by decide +kernel,by decide +kernel⟩
theorem EO:aq (defScope aJ) "program" := Or.inl (by decide +kernel)
theorem wY:aq (defScope aJ) "lines" := Or.inl (by decide +kernel)
theorem Dy:aO (defScope aJ) "lines" := Or.inl (by decide +kernel)
theorem zn:aq (defScope aJ) "step" := Or.inl (by decide +kernel)
theorem EU:aO (defScope aJ) "step" := Or.inl (by decide +kernel)
theorem DV:aq (defScope aJ) "block" := Or.inl (by decide +kernel)
theorem Ea:aO (defScope aJ) "block" := Or.inl (by decide +kernel)
theorem Ec:aq (defScope aJ) "closer" := Or.inl (by decide +kernel)
theorem EE:aO (defScope aJ) "closer" := Or.inl (by decide +kernel)
theorem DC:(defScope aJ).names.lookup ("blocks_of" : Str)=some .globalImplicit:=by decide +kernel
theorem ES:(defScope aJ).names.lookup ("closers_of" : Str)=some .globalImplicit:=by decide +kernel
theorem Dw:(defScope aJ).names.lookup ("head_of" : Str)=some .globalImplicit:=by decide +kernel
theorem DZ:(defScope aJ).names.lookup ("lines_of" : Str)=some .globalImplicit:=by decide +kernel
theorem EX:(defScope aJ).names.lookup ("zip" : Str)=some .globalImplicit:=by decide +kernel
abbrev cn:Stmt:=top 11
theorem oo:aH ["program"] ["program"] (defScope cn):=⟨rfl,rfl,rfl,by decide +kernel,rfl,by decide +kernel,by decide +kernel⟩
theorem DN:aq (defScope cn) "program" := Or.inl (by decide +kernel)
theorem Eo:(defScope cn).names.lookup ("names_in" : Str)=some .globalImplicit:=by decide +kernel
theorem Ex:(defScope cn).names.lookup ("steps_within" : Str)=some .globalImplicit:=by decide +kernel
abbrev aI:Stmt:=inClass (top 13) 0
theorem e_:aH ["self", "head", "lines", "blocks"] ["self", "head", "lines", "blocks"] (defScope aI):=⟨rfl,rfl,rfl,by decide +kernel,rfl,by decide +kernel,by decide +kernel⟩
theorem wz:aq (defScope aI) "self" := Or.inl (by decide +kernel)
theorem A6:aq (defScope aI) "head" := Or.inl (by decide +kernel)
theorem Er:aq (defScope aI) "lines" := Or.inl (by decide +kernel)
theorem EB:aq (defScope aI) "blocks" := Or.inl (by decide +kernel)
abbrev bQ:Stmt:=top 14
theorem jH:aH ["steps", "line"] ["steps", "line"] (defScope bQ):=⟨rfl,rfl,rfl,by decide +kernel,rfl,by decide +kernel,by decide +kernel⟩
theorem A8:aq (defScope bQ) "steps" := Or.inl (by decide +kernel)
theorem ED:aq (defScope bQ) "line" := Or.inl (by decide +kernel)
theorem DJ:(defScope bQ).names.lookup ("len" : Str)=some .globalImplicit:=by decide +kernel
abbrev ay:Stmt:=top 15
theorem sc_numbered_step:aH ["step", "line", "lines", "blocks", "block", "steps"] ["step", "line"] (defScope ay):=⟨rfl,rfl,rfl,by decide +kernel,rfl,by decide +kernel,by decide +kernel⟩
theorem AX:aq (defScope ay) "step" := Or.inl (by decide +kernel)
theorem DP:aq (defScope ay) "line" := Or.inl (by decide +kernel)
theorem w_:aq (defScope ay) "lines" := Or.inl (by decide +kernel)
theorem EN:aO (defScope ay) "lines" := Or.inl (by decide +kernel)
theorem A4:aq (defScope ay) "blocks" := Or.inl (by decide +kernel)
theorem D4:aO (defScope ay) "blocks" := Or.inl (by decide +kernel)
theorem D6:aq (defScope ay) "block" := Or.inl (by decide +kernel)
theorem Ez:aO (defScope ay) "block" := Or.inl (by decide +kernel)
theorem Be:aq (defScope ay) "steps" := Or.inl (by decide +kernel)
theorem ET:aO (defScope ay) "steps" := Or.inl (by decide +kernel)
theorem EL:(defScope ay).names.lookup ("NumberedStep" : Str)=some .globalImplicit:=by decide +kernel
theorem Eg:(defScope ay).names.lookup ("blocks_of" : Str)=some .globalImplicit:=by decide +kernel
theorem E3:(defScope ay).names.lookup ("head_of" : Str)=some .globalImplicit:=by decide +kernel
theorem Du:(defScope ay).names.lookup ("line_behind" : Str)=some .globalImplicit:=by decide +kernel
theorem E5:(defScope ay).names.lookup ("numbered_steps" : Str)=some .globalImplicit:=by decide +kernel
abbrev aP:Stmt:=top 16
theorem sc_numbered_steps:aH ["steps", "line", "numbered", "step"] ["steps", "line"] (defScope aP):=⟨rfl,rfl,rfl,by decide +kernel,rfl,by decide +kernel,by decide +kernel⟩
theorem Ew:aq (defScope aP) "steps" := Or.inl (by decide +kernel)
theorem DR:aq (defScope aP) "line" := Or.inl (by decide +kernel)
theorem ym:aq (defScope aP) "numbered" := Or.inl (by decide +kernel)
theorem DH:aO (defScope aP) "numbered" := Or.inl (by decide +kernel)
theorem D_:aq (defScope aP) "step" := Or.inl (by decide +kernel)
theorem En:aO (defScope aP) "step" := Or.inl (by decide +kernel)
theorem E1:(defScope aP).names.lookup ("line_behind" : Str)=some .globalImplicit:=by decide +kernel
theorem Dz:(defScope aP).names.lookup ("numbered_step" : Str)=some .globalImplicit:=by decide +kernel
abbrev bg:Stmt:=top 18
theorem lh:aH ["program"] ["program"] (defScope bg):=⟨rfl,rfl,rfl,by decide +kernel,rfl,by decide +kernel,by decide +kernel⟩
theorem E4:aq (defScope bg) "program" := Or.inl (by decide +kernel)
theorem DE:(defScope bg).names.lookup ("enumerate" : Str)=some .globalImplicit:=by decide +kernel
theorem DT:(defScope bg).names.lookup ("lines_of" : Str)=some .globalImplicit:=by decide +kernel
abbrev bA:Stmt:=top 19
theorem sc_slots_of:aH ["program", "slots", "slot", "holder"] ["program"] (defScope bA):=⟨rfl,rfl,rfl,by decide +kernel,rfl,by decide +kernel,by decide +kernel⟩
theorem Bf:aq (defScope bA) "program" := Or.inl (by decide +kernel)
theorem zg:aq (defScope bA) "slots" := Or.inl (by decide +kernel)
theorem El:aO (defScope bA) "slots" := Or.inl (by decide +kernel)
theorem Bz:aq (defScope bA) "slot" := Or.inl (by decide +kernel)
theorem D9:aO (defScope bA) "slot" := Or.inl (by decide +kernel)
theorem Dd:aq (defScope bA) "holder" := Or.inl (by decide +kernel)
theorem DG:aO (defScope bA) "holder" := Or.inl (by decide +kernel)
theorem Ee:(defScope bA).names.lookup ("enumerate" : Str)=some .globalImplicit:=by decide +kernel
theorem D8:(defScope bA).names.lookup ("lend_lines" : Str)=some .globalImplicit:=by decide +kernel
theorem Ed:(defScope bA).names.lookup ("names_of" : Str)=some .globalImplicit:=by decide +kernel
abbrev aY:Stmt:=top 20
theorem sc_simple_row:aH ["step", "slots", "line"] ["step", "slots"] (defScope aY):=⟨rfl,rfl,rfl,by decide +kernel,rfl,by decide +kernel,by decide +kernel⟩
theorem jT:aq (defScope aY) "step" := Or.inl (by decide +kernel)
theorem CA:aq (defScope aY) "slots" := Or.inr (Or.inl (by decide +kernel))
theorem yJ:aq (defScope aY) "line" := Or.inl (by decide +kernel)
theorem Ey:aO (defScope aY) "line" := Or.inl (by decide +kernel)
theorem E7:(defScope aY).names.lookup ("tuple" : Str)=some .globalImplicit:=by decide +kernel
abbrev aF:Stmt:=top 21
theorem sc_lend_rows:aH ["step", "at", "slots", "turned", "line", "back", "giver", "taker", "lent", "ahead", "within"] ["step", "at", "slots", "turned"] (defScope aF):=⟨rfl,rfl,rfl,by decide +kernel,rfl,by decide +kernel,by decide +kernel⟩
theorem nD:aq (defScope aF) "step" := Or.inl (by decide +kernel)
theorem B3:aq (defScope aF) "at" := Or.inl (by decide +kernel)
theorem qV:aq (defScope aF) "slots" := Or.inl (by decide +kernel)
theorem Bk:aq (defScope aF) "turned" := Or.inl (by decide +kernel)
theorem qr:aq (defScope aF) "line" := Or.inl (by decide +kernel)
theorem E6:aO (defScope aF) "line" := Or.inl (by decide +kernel)
theorem vg:aq (defScope aF) "back" := Or.inl (by decide +kernel)
theorem DU:aO (defScope aF) "back" := Or.inl (by decide +kernel)
theorem BC:aq (defScope aF) "giver" := Or.inl (by decide +kernel)
theorem Ep:aO (defScope aF) "giver" := Or.inl (by decide +kernel)
theorem yT:aq (defScope aF) "taker" := Or.inl (by decide +kernel)
theorem DB:aO (defScope aF) "taker" := Or.inl (by decide +kernel)
theorem n_:aq (defScope aF) "lent" := Or.inl (by decide +kernel)
theorem Ei:aO (defScope aF) "lent" := Or.inl (by decide +kernel)
theorem zZ:aq (defScope aF) "ahead" := Or.inl (by decide +kernel)
theorem EV:aO (defScope aF) "ahead" := Or.inl (by decide +kernel)
theorem BF:aq (defScope aF) "within" := Or.inl (by decide +kernel)
theorem D5:aO (defScope aF) "within" := Or.inl (by decide +kernel)
theorem EY:(defScope aF).names.lookup ("len" : Str)=some .globalImplicit:=by decide +kernel
theorem Eb:(defScope aF).names.lookup ("rows_of" : Str)=some .globalImplicit:=by decide +kernel
abbrev a_:Stmt:=top 22
theorem sc_if_rows:aH ["step", "at", "slots", "turned", "more", "jump", "rest", "behind", "test"] ["step", "at", "slots", "turned"] (defScope a_):=⟨rfl,rfl,rfl,by decide +kernel,rfl,by decide +kernel,by decide +kernel⟩
theorem lD:aq (defScope a_) "step" := Or.inl (by decide +kernel)
theorem zV:aq (defScope a_) "at" := Or.inl (by decide +kernel)
theorem yy:aq (defScope a_) "slots" := Or.inl (by decide +kernel)
theorem ze:aq (defScope a_) "turned" := Or.inl (by decide +kernel)
theorem yX:aq (defScope a_) "more" := Or.inl (by decide +kernel)
theorem Em:aO (defScope a_) "more" := Or.inl (by decide +kernel)
theorem vI:aq (defScope a_) "jump" := Or.inl (by decide +kernel)
theorem Eu:aO (defScope a_) "jump" := Or.inl (by decide +kernel)
theorem yD:aq (defScope a_) "rest" := Or.inl (by decide +kernel)
theorem Eh:aO (defScope a_) "rest" := Or.inl (by decide +kernel)
theorem C4:aq (defScope a_) "behind" := Or.inl (by decide +kernel)
theorem D7:aO (defScope a_) "behind" := Or.inl (by decide +kernel)
theorem B8:aq (defScope a_) "test" := Or.inl (by decide +kernel)
theorem E8:aO (defScope a_) "test" := Or.inl (by decide +kernel)
theorem A0:(defScope a_).names.lookup ("len" : Str)=some .globalImplicit:=by decide +kernel
theorem A7:(defScope a_).names.lookup ("rows_of" : Str)=some .globalImplicit:=by decide +kernel
abbrev bq:Stmt:=top 23
theorem sc_loop_rows:aH ["step", "at", "slots", "within", "behind"] ["step", "at", "slots"] (defScope bq):=⟨rfl,rfl,rfl,by decide +kernel,rfl,by decide +kernel,by decide +kernel⟩
theorem rK:aq (defScope bq) "step" := Or.inl (by decide +kernel)
theorem vv:aq (defScope bq) "at" := Or.inl (by decide +kernel)
theorem CT:aq (defScope bq) "slots" := Or.inl (by decide +kernel)
theorem yR:aq (defScope bq) "within" := Or.inl (by decide +kernel)
theorem DF:aO (defScope bq) "within" := Or.inl (by decide +kernel)
theorem BJ:aq (defScope bq) "behind" := Or.inl (by decide +kernel)
theorem DY:aO (defScope bq) "behind" := Or.inl (by decide +kernel)
theorem DK:(defScope bq).names.lookup ("len" : Str)=some .globalImplicit:=by decide +kernel
theorem C3:(defScope bq).names.lookup ("rows_of" : Str)=some .globalImplicit:=by decide +kernel
abbrev aM:Stmt:=top 24
theorem sc_while_rows:aH ["step", "at", "slots", "turned", "first", "loop", "behind"] ["step", "at", "slots", "turned"] (defScope aM):=⟨rfl,rfl,rfl,by decide +kernel,rfl,by decide +kernel,by decide +kernel⟩
theorem lU:aq (defScope aM) "step" := Or.inl (by decide +kernel)
theorem rW:aq (defScope aM) "at" := Or.inl (by decide +kernel)
theorem vx:aq (defScope aM) "slots" := Or.inl (by decide +kernel)
theorem BE:aq (defScope aM) "turned" := Or.inl (by decide +kernel)
theorem vp:aq (defScope aM) "first" := Or.inl (by decide +kernel)
theorem EQ:aO (defScope aM) "first" := Or.inl (by decide +kernel)
theorem yk:aq (defScope aM) "loop" := Or.inl (by decide +kernel)
theorem Bw:aO (defScope aM) "loop" := Or.inl (by decide +kernel)
theorem B_:aq (defScope aM) "behind" := Or.inl (by decide +kernel)
theorem B6:aO (defScope aM) "behind" := Or.inl (by decide +kernel)
theorem vC:(defScope aM).names.lookup ("len" : Str)=some .globalImplicit:=by decide +kernel
theorem y7:(defScope aM).names.lookup ("loop_rows" : Str)=some .globalImplicit:=by decide +kernel
theorem CK:(defScope aM).names.lookup ("rows_of" : Str)=some .globalImplicit:=by decide +kernel
abbrev bm:Stmt:=top 25
theorem sc_rows_of:aH ["steps", "at", "slots", "turned", "rows", "step", "place"] ["steps", "at", "slots", "turned"] (defScope bm):=⟨rfl,rfl,rfl,by decide +kernel,rfl,by decide +kernel,by decide +kernel⟩
theorem B0:aq (defScope bm) "steps" := Or.inl (by decide +kernel)
theorem Bs:aq (defScope bm) "at" := Or.inl (by decide +kernel)
theorem rL:aq (defScope bm) "slots" := Or.inl (by decide +kernel)
theorem we:aq (defScope bm) "turned" := Or.inl (by decide +kernel)
theorem jI:aq (defScope bm) "rows" := Or.inl (by decide +kernel)
theorem BY:aO (defScope bm) "rows" := Or.inl (by decide +kernel)
theorem iF:aq (defScope bm) "step" := Or.inl (by decide +kernel)
theorem B9:aO (defScope bm) "step" := Or.inl (by decide +kernel)
theorem wt:aq (defScope bm) "place" := Or.inl (by decide +kernel)
theorem BH:aO (defScope bm) "place" := Or.inl (by decide +kernel)
theorem CB:(defScope bm).names.lookup ("if_rows" : Str)=some .globalImplicit:=by decide +kernel
theorem CJ:(defScope bm).names.lookup ("len" : Str)=some .globalImplicit:=by decide +kernel
theorem Dm:(defScope bm).names.lookup ("lend_rows" : Str)=some .globalImplicit:=by decide +kernel
theorem C9:(defScope bm).names.lookup ("simple_row" : Str)=some .globalImplicit:=by decide +kernel
theorem Cu:(defScope bm).names.lookup ("while_rows" : Str)=some .globalImplicit:=by decide +kernel
abbrev ba:Stmt:=top 26
theorem sc_rows_and_end:aH ["program", "turned", "steps"] ["program", "turned"] (defScope ba):=⟨rfl,rfl,rfl,by decide +kernel,rfl,by decide +kernel,by decide +kernel⟩
theorem yz:aq (defScope ba) "program" := Or.inl (by decide +kernel)
theorem CP:aq (defScope ba) "turned" := Or.inl (by decide +kernel)
theorem yG:aq (defScope ba) "steps" := Or.inl (by decide +kernel)
theorem Bn:aO (defScope ba) "steps" := Or.inl (by decide +kernel)
theorem Cs:(defScope ba).names.lookup ("line_behind" : Str)=some .globalImplicit:=by decide +kernel
theorem BV:(defScope ba).names.lookup ("numbered_steps" : Str)=some .globalImplicit:=by decide +kernel
theorem B5:(defScope ba).names.lookup ("rows_of" : Str)=some .globalImplicit:=by decide +kernel
theorem CC:(defScope ba).names.lookup ("slots_of" : Str)=some .globalImplicit:=by decide +kernel
abbrev cL:Stmt:=top 27
theorem ql:aH ["program"] ["program"] (defScope cL):=⟨rfl,rfl,rfl,by decide +kernel,rfl,by decide +kernel,by decide +kernel⟩
theorem Ck:aq (defScope cL) "program" := Or.inl (by decide +kernel)
theorem Bv:(defScope cL).names.lookup ("rows_and_end" : Str)=some .globalImplicit:=by decide +kernel
abbrev bW:Stmt:=top 28
theorem jD:aH ["program"] ["program"] (defScope bW):=⟨rfl,rfl,rfl,by decide +kernel,rfl,by decide +kernel,by decide +kernel⟩
theorem BG:aq (defScope bW) "program" := Or.inl (by decide +kernel)
theorem Dg:(defScope bW).names.lookup ("rows_and_end" : Str)=some .globalImplicit:=by decide +kernel
abbrev bz:Stmt:=top 1
theorem sc_rows_behind:aH ["code", "at", "row"] ["code", "at"] (defScope bz):=⟨rfl,rfl,rfl,by decide +kernel,rfl,by decide +kernel,by decide +kernel⟩
theorem Dc:aq (defScope bz) "code" := Or.inl (by decide +kernel)
theorem v2:aq (defScope bz) "at" := Or.inl (by decide +kernel)
theorem nc:aq (defScope bz) "row" := Or.inl (by decide +kernel)
theorem CS:aO (defScope bz) "row" := Or.inl (by decide +kernel)
theorem Bq:(defScope bz).names.lookup ("set" : Str)=some .globalImplicit:=by decide +kernel
theorem Cz:(defScope bz).names.lookup ("sorted" : Str)=some .globalImplicit:=by decide +kernel
abbrev bU:Stmt:=top 30
theorem m9:aH ["_law_found"] ["_law_found"] (defScope bU):=⟨rfl,rfl,rfl,by decide +kernel,rfl,by decide +kernel,by decide +kernel⟩
theorem zF:aq (defScope bU) "_law_found" := Or.inl (by decide +kernel)
theorem BA:(defScope bU).names.lookup ("bool" : Str)=some .globalImplicit:=by decide +kernel
theorem BR:(defScope bU).names.lookup ("int" : Str)=some .globalImplicit:=by decide +kernel
theorem yq:(defScope bU).names.lookup ("isinstance" : Str)=some .globalImplicit:=by decide +kernel
abbrev bR:Stmt:=top 31
theorem jW:aH ["_law_script", "_law_k"] ["_law_script", "_law_k"] (defScope bR):=⟨rfl,rfl,rfl,by decide +kernel,rfl,by decide +kernel,by decide +kernel⟩
theorem zC:aq (defScope bR) "_law_script" := Or.inl (by decide +kernel)
theorem Ab:aq (defScope bR) "_law_k" := Or.inl (by decide +kernel)
theorem Bm:(defScope bR).names.lookup ("len" : Str)=some .globalImplicit:=by decide +kernel
abbrev az:Stmt:=top 32
theorem sc_law_words:aH ["_law_cell", "_law_many", "_law_letters", "_law_size", "_law_at", "_law_rest", "_law_base", "_law_k", "_law_words_here"] ["_law_cell", "_law_many"] (defScope az):=⟨rfl,rfl,rfl,by decide +kernel,rfl,by decide +kernel,by decide +kernel⟩
theorem wu:aq (defScope az) "_law_cell" := Or.inl (by decide +kernel)
theorem Bt:aq (defScope az) "_law_many" := Or.inl (by decide +kernel)
theorem BZ:aO (defScope az) "_law_letters" := Or.inr (by decide +kernel)
theorem vn:aq (defScope az) "_law_size" := Or.inl (by decide +kernel)
theorem Ct:aO (defScope az) "_law_size" := Or.inl (by decide +kernel)
theorem BL:aO (defScope az) "_law_at" := Or.inr (by decide +kernel)
theorem Ai:aq (defScope az) "_law_rest" := Or.inl (by decide +kernel)
theorem y4:aO (defScope az) "_law_rest" := Or.inl (by decide +kernel)
theorem Cf:aq (defScope az) "_law_base" := Or.inr (Or.inl (by decide +kernel))
theorem C7:aO (defScope az) "_law_base" := Or.inr (by decide +kernel)
theorem y8:aO (defScope az) "_law_k" := Or.inr (by decide +kernel)
theorem zk:aq (defScope az) "_law_words_here" := Or.inl (by decide +kernel)
theorem C6:aO (defScope az) "_law_words_here" := Or.inl (by decide +kernel)
theorem uZ:(defScope az).names.lookup ("range" : Str)=some .globalImplicit:=by decide +kernel
abbrev bf:Stmt:=top 33
theorem sc_law_step:aH ["_law_cell", "_law_names", "_law_words_here", "_law_x", "_law_y", "_law_word", "_law_bound", "_law_some"] ["_law_cell", "_law_names", "_law_words_here"] (defScope bf):=⟨rfl,rfl,rfl,by decide +kernel,rfl,by decide +kernel,by decide +kernel⟩
theorem mS:aq (defScope bf) "_law_cell" := Or.inl (by decide +kernel)
theorem su:aq (defScope bf) "_law_names" := Or.inl (by decide +kernel)
theorem z0:aq (defScope bf) "_law_words_here" := Or.inl (by decide +kernel)
theorem fk:aq (defScope bf) "_law_x" := Or.inl (by decide +kernel)
theorem Dl:aO (defScope bf) "_law_x" := Or.inl (by decide +kernel)
theorem qw:aq (defScope bf) "_law_y" := Or.inl (by decide +kernel)
theorem Cm:aO (defScope bf) "_law_y" := Or.inl (by decide +kernel)
theorem qm:aq (defScope bf) "_law_word" := Or.inl (by decide +kernel)
theorem CH:aO (defScope bf) "_law_word" := Or.inl (by decide +kernel)
theorem wc:aq (defScope bf) "_law_bound" := Or.inl (by decide +kernel)
theorem BO:aO (defScope bf) "_law_bound" := Or.inl (by decide +kernel)
theorem uQ:aq (defScope bf) "_law_some" := Or.inl (by decide +kernel)
theorem u7:aO (defScope bf) "_law_some" := Or.inl (by decide +kernel)
theorem wf:(defScope bf).names.lookup ("len" : Str)=some .globalImplicit:=by decide +kernel
abbrev cM:Stmt:=top 34
theorem qE:aH ["_law_pile", "_law_step_here"] ["_law_pile", "_law_step_here"] (defScope cM):=⟨rfl,rfl,rfl,by decide +kernel,rfl,by decide +kernel,by decide +kernel⟩
theorem yF:aq (defScope cM) "_law_pile" := Or.inl (by decide +kernel)
theorem Bg:aq (defScope cM) "_law_step_here" := Or.inl (by decide +kernel)
abbrev bv:Stmt:=top 35
theorem sc_law_close:aH ["_law_pile", "_law_head", "_law_first", "_law_second", "_law_side"] ["_law_pile"] (defScope bv):=⟨rfl,rfl,rfl,by decide +kernel,rfl,by decide +kernel,by decide +kernel⟩
theorem wb:aq (defScope bv) "_law_pile" := Or.inl (by decide +kernel)
theorem v5:aq (defScope bv) "_law_head" := Or.inl (by decide +kernel)
theorem Cq:aO (defScope bv) "_law_head" := Or.inl (by decide +kernel)
theorem yZ:aq (defScope bv) "_law_first" := Or.inl (by decide +kernel)
theorem Br:aO (defScope bv) "_law_first" := Or.inl (by decide +kernel)
theorem Bi:aq (defScope bv) "_law_second" := Or.inl (by decide +kernel)
theorem Dj:aO (defScope bv) "_law_second" := Or.inl (by decide +kernel)
theorem BQ:aO (defScope bv) "_law_side" := Or.inl (by decide +kernel)
theorem zy:(defScope bv).names.lookup ("_law_put" : Str)=some .globalImplicit:=by decide +kernel
abbrev aE:Stmt:=top 36
theorem sc_law_program:aH ["_law_cells", "_law_names", "_law_words_here", "_law_lends", "_law_deep", "_law_pile", "_law_cell", "_law_step_here"] ["_law_cells", "_law_names", "_law_words_here", "_law_lends", "_law_deep"] (defScope aE):=⟨rfl,rfl,rfl,by decide +kernel,rfl,by decide +kernel,by decide +kernel⟩
theorem Cw:aq (defScope aE) "_law_cells" := Or.inl (by decide +kernel)
theorem CF:aq (defScope aE) "_law_names" := Or.inl (by decide +kernel)
theorem Dp:aq (defScope aE) "_law_words_here" := Or.inl (by decide +kernel)
theorem Ah:aq (defScope aE) "_law_lends" := Or.inl (by decide +kernel)
theorem Ca:aO (defScope aE) "_law_lends" := Or.inl (by decide +kernel)
theorem Bx:aq (defScope aE) "_law_deep" := Or.inl (by decide +kernel)
theorem eG:aq (defScope aE) "_law_pile" := Or.inl (by decide +kernel)
theorem Cb:aO (defScope aE) "_law_pile" := Or.inl (by decide +kernel)
theorem Ce:aq (defScope aE) "_law_cell" := Or.inl (by decide +kernel)
theorem CY:aO (defScope aE) "_law_cell" := Or.inl (by decide +kernel)
theorem iJ:aq (defScope aE) "_law_step_here" := Or.inl (by decide +kernel)
theorem CM:aO (defScope aE) "_law_step_here" := Or.inl (by decide +kernel)
theorem zu:(defScope aE).names.lookup ("_law_close" : Str)=some .globalImplicit:=by decide +kernel
theorem BK:(defScope aE).names.lookup ("_law_put" : Str)=some .globalImplicit:=by decide +kernel
theorem Dn:(defScope aE).names.lookup ("_law_step" : Str)=some .globalImplicit:=by decide +kernel
theorem Bj:(defScope aE).names.lookup ("int" : Str)=some .globalImplicit:=by decide +kernel
theorem qv:(defScope aE).names.lookup ("len" : Str)=some .globalImplicit:=by decide +kernel
abbrev cD:Stmt:=top 37
theorem qX:aH ["_law_code", "_law_at"] ["_law_code", "_law_at"] (defScope cD):=⟨rfl,rfl,rfl,by decide +kernel,rfl,by decide +kernel,by decide +kernel⟩
theorem mh:aq (defScope cD) "_law_code" := Or.inl (by decide +kernel)
theorem iT:aq (defScope cD) "_law_at" := Or.inl (by decide +kernel)
theorem Dk:(defScope cD).names.lookup ("sorted" : Str)=some .globalImplicit:=by decide +kernel
abbrev aR:Stmt:=top 38
theorem sc_law_right:aH ["_law_code", "_law_at", "_law_found", "_law_due_here", "_law_to"] ["_law_code", "_law_at"] (defScope aR):=⟨rfl,rfl,rfl,by decide +kernel,rfl,by decide +kernel,by decide +kernel⟩
theorem sv:aq (defScope aR) "_law_code" := Or.inl (by decide +kernel)
theorem u3:aq (defScope aR) "_law_at" := Or.inl (by decide +kernel)
theorem rf:aq (defScope aR) "_law_found" := Or.inl (by decide +kernel)
theorem CZ:aO (defScope aR) "_law_found" := Or.inl (by decide +kernel)
theorem zU:aq (defScope aR) "_law_due_here" := Or.inl (by decide +kernel)
theorem Cd:aO (defScope aR) "_law_due_here" := Or.inl (by decide +kernel)
theorem yC:aq (defScope aR) "_law_to" := Or.inl (by decide +kernel)
theorem Dr:aO (defScope aR) "_law_to" := Or.inl (by decide +kernel)
theorem Bh:(defScope aR).names.lookup ("_law_due" : Str)=some .globalImplicit:=by decide +kernel
theorem Bp:(defScope aR).names.lookup ("_law_whole" : Str)=some .globalImplicit:=by decide +kernel
theorem CW:(defScope aR).names.lookup ("isinstance" : Str)=some .globalImplicit:=by decide +kernel
theorem C5:(defScope aR).names.lookup ("len" : Str)=some .globalImplicit:=by decide +kernel
theorem BM:(defScope aR).names.lookup ("list" : Str)=some .globalImplicit:=by decide +kernel
theorem zD:(defScope aR).names.lookup ("rows_behind" : Str)=some .globalImplicit:=by decide +kernel
abbrev aL:Stmt:=top 39
theorem sc_law_all_come:aH ["_law_code", "_law_come", "_law_known", "_law_at", "_law_to"] ["_law_code"] (defScope aL):=⟨rfl,rfl,rfl,by decide +kernel,rfl,by decide +kernel,by decide +kernel⟩
theorem yO:aq (defScope aL) "_law_code" := Or.inl (by decide +kernel)
theorem rh:aq (defScope aL) "_law_come" := Or.inl (by decide +kernel)
theorem Co:aO (defScope aL) "_law_come" := Or.inl (by decide +kernel)
theorem zd:aq (defScope aL) "_law_known" := Or.inl (by decide +kernel)
theorem BP:aO (defScope aL) "_law_known" := Or.inl (by decide +kernel)
theorem wm:aq (defScope aL) "_law_at" := Or.inl (by decide +kernel)
theorem Af:aO (defScope aL) "_law_at" := Or.inl (by decide +kernel)
theorem vL:aq (defScope aL) "_law_to" := Or.inl (by decide +kernel)
theorem BW:aO (defScope aL) "_law_to" := Or.inl (by decide +kernel)
theorem C8:(defScope aL).names.lookup ("_law_due" : Str)=some .globalImplicit:=by decide +kernel
theorem vS:(defScope aL).names.lookup ("len" : Str)=some .globalImplicit:=by decide +kernel
abbrev bx:Stmt:=top 40
theorem sc_law:aH ["_law_script", "_law_first", "_law_second", "_law_names", "_law_words_here", "_law_program_here", "_law_code", "_law_kept", "_law_at"] ["_law_script"] (defScope bx):=⟨rfl,rfl,rfl,by decide +kernel,rfl,by decide +kernel,by decide +kernel⟩
theorem vB:aq (defScope bx) "_law_script" := Or.inl (by decide +kernel)
theorem zJ:aq (defScope bx) "_law_first" := Or.inl (by decide +kernel)
theorem De:aO (defScope bx) "_law_first" := Or.inl (by decide +kernel)
theorem zh:aq (defScope bx) "_law_second" := Or.inl (by decide +kernel)
theorem BN:aO (defScope bx) "_law_second" := Or.inl (by decide +kernel)
theorem Dt:aq (defScope bx) "_law_names" := Or.inl (by decide +kernel)
theorem B4:aO (defScope bx) "_law_names" := Or.inl (by decide +kernel)
theorem BX:aq (defScope bx) "_law_words_here" := Or.inl (by decide +kernel)
theorem Cp:aO (defScope bx) "_law_words_here" := Or.inl (by decide +kernel)
theorem zj:aq (defScope bx) "_law_program_here" := Or.inl (by decide +kernel)
theorem Cr:aO (defScope bx) "_law_program_here" := Or.inl (by decide +kernel)
theorem wo:aq (defScope bx) "_law_code" := Or.inl (by decide +kernel)
theorem z_:aO (defScope bx) "_law_code" := Or.inl (by decide +kernel)
theorem vz:aq (defScope bx) "_law_kept" := Or.inl (by decide +kernel)
theorem Bo:aO (defScope bx) "_law_kept" := Or.inl (by decide +kernel)
theorem Di:aq (defScope bx) "_law_at" := Or.inl (by decide +kernel)
theorem Ci:aO (defScope bx) "_law_at" := Or.inl (by decide +kernel)
theorem CD:(defScope bx).names.lookup ("_law_all_come" : Str)=some .globalImplicit:=by decide +kernel
theorem zz:(defScope bx).names.lookup ("_law_cell_at" : Str)=some .globalImplicit:=by decide +kernel
theorem By:(defScope bx).names.lookup ("_law_program" : Str)=some .globalImplicit:=by decide +kernel
theorem Dq:(defScope bx).names.lookup ("_law_right" : Str)=some .globalImplicit:=by decide +kernel
theorem zB:(defScope bx).names.lookup ("_law_words" : Str)=some .globalImplicit:=by decide +kernel
theorem CO:(defScope bx).names.lookup ("code_of" : Str)=some .globalImplicit:=by decide +kernel
theorem CU:(defScope bx).names.lookup ("len" : Str)=some .globalImplicit:=by decide +kernel
theorem CI:(defScope bx).names.lookup ("list" : Str)=some .globalImplicit:=by decide +kernel
theorem Bl:(defScope bx).names.lookup ("range" : Str)=some .globalImplicit:=by decide +kernel
theorem Cc:(defScope bx).names.lookup ("turned_code" : Str)=some .globalImplicit:=by decide +kernel
def aV(k:Str):List Str:=if k = "lend" then ["back"] else if k = "if" then ["else", "fi"] else if k = "while" then ["done"] else []
def gH:V→Str→Prop
 | .str y,x=>x=y
 | .int i,x=>i.natAbs.log2<1920∧x=Str.ofString (toString i)
 | _,_=>False
def bI:List (List Str)→List Str→List Str
 | i::is,c::cs=>(i++[c])++bI is cs
 | _,_=>[]
structure za (LA:Addr→List Str→Prop) (H:Hp) (a:Addr) (kind:Str) (hs:List V) (ws:List Str) (bs:List Addr) (ins:List (List Str)):Prop where
 at':H a=some (.tup (.str kind::hs++bs.map V.ref))
 parts:Paired gH hs ws
 size:((kind::ws).map (·.length)).sum+(kind::ws).length≤10000
 bl:bs.length=(aV kind).length
 inn:Paired LA bs ins
def jb(LA:Addr→List Str→Prop)(H:Hp)(a:Addr)(ls:List Str):Prop:=∃ kind hs ws bs ins,za LA H a kind hs ws bs ins∧ls=Txt.join " " (kind::ws)::bI ins (aV kind)
def LinesAt:Nat→Hp→Addr→List Str→Prop
 | 0=>fun _ _ _=>False
 | d+1=>fun H p L=>∃ (as:List Addr) (Ls:List (List Str)),H p=some (.lst (as.map V.ref))∧Paired (jb (LinesAt d H) H) as Ls∧L=Ls.flatten
theorem LinesAt.mono:∀ (d:Nat) {H H':Hp} {p:Addr} {L:List Str},LinesAt d H p L→Same H H'→LinesAt d H' p L
 | 0,_,_,_,_,h,_=>h.elim
 | d+1,H,H',p,L,⟨as,Ls,h1,h2,h3⟩,sm=>by
  refine⟨as,Ls,sm _ _ h1,Paired.imp' (fun a ls z=>?_) h2,h3⟩
  obtain⟨kind,hs,ws,bs,ins,z1,z2⟩:=z
  exact⟨kind,hs,ws,bs,ins,⟨sm _ _ z1.at',z1.parts,z1.size,z1.bl,Paired.imp' (fun b i y=>LinesAt.mono d y sm) z1.inn⟩,z2⟩
theorem bP{α β : Type}{R:α→β→Prop}:∀ {xs:List α} {ys:List β} {i:Nat} {x:α},Paired R xs ys→xs[i]? = some x→∃ y,ys[i]? = some y∧R x y
 | _,_,_,_,.nil,e=>by simp at e
 | _,_,0,_,.cons (b:=b) h _,e=>⟨b,rfl,by have:=Option.some.inj e; subst this; exact h⟩
 | _,_,i+1,_,.cons _ t,e=>by
  rw[List.getElem?_cons_succ]at e
  obtain⟨y,h1,h2⟩:=bP t e
  exact⟨y,by rw[List.getElem?_cons_succ]; exact h1,h2⟩
theorem aC{α β : Type}{R:α→β→Prop}:∀ {xs:List α} {ys:List β},Paired R xs ys→xs.length=ys.length
 | _,_,.nil=>rfl
 | _,_,.cons _ t=>by rw[List.length_cons,List.length_cons,aC t]
theorem ip:∀ {ins:List (List Str)} {cs:List Str} {j:Nat} {i:List Str} {c:Str},ins[j]? = some i→cs[j]? = some c→bI (ins.take (j+1)) (cs.take (j+1))=bI (ins.take j) (cs.take j)++(i++[c])
 | [],_,_,_,_,h,_=>by simp at h
 | _::_,[],_,_,_,_,h=>by simp at h
 | a::ins,b::cs,0,i,c,h,h'=>by
  have e1:a=i:=by simpa using h
  have e2:b=c:=by simpa using h'
  subst e1 e2
  show (a++[b])++bI [] []=bI [] []++(a++[b])
  simp[bI]
 | a::ins,b::cs,j+1,i,c,h,h'=>by
  have ih:=ip (ins:=ins) (cs:=cs) (j:=j) (i:=i) (c:=c) (by simpa using h) (by simpa using h')
  show (a++[b])++bI (ins.take (j+1)) (cs.take (j+1))=((a++[b])++bI (ins.take j) (cs.take j))++(i++[c])
  rw[ih,List.append_assoc (a++[b])]
theorem jl:∀ {ins:List (List Str)} {cs:List Str} (j:Nat),(bI (ins.take j) (cs.take j)).length≤(bI ins cs).length
 | [],_,j=>by simp[bI]
 | _::_,[],j=>by cases j <;> simp[bI]
 | a::ins,b::cs,0=>by simp[bI]
 | a::ins,b::cs,j+1=>by
  have ih:=jl (ins:=ins) (cs:=cs) j
  show ((a++[b])++bI (ins.take j) (cs.take j)).length≤((a++[b])++bI ins cs).length
  simp only[List.length_append]; omega
theorem jJ{α : Type}:∀ (Ls:List (List α)) (i:Nat),(Ls.take i).flatten.length≤Ls.flatten.length
 | [],i=>by simp
 | a::Ls,0=>by simp
 | a::Ls,i+1=>by
  have ih:=jJ Ls i
  rw[List.take_succ_cons,List.flatten_cons,List.flatten_cons,List.length_append,List.length_append]; omega
theorem tY{α : Type}{Ls:List (List α)}{i:Nat}{l:List α}(h:Ls[i]? = some l):(Ls.take (i+1)).flatten=(Ls.take i).flatten++l:=by
 rw[List.take_add_one,h,List.flatten_append]; simp
def gG(K:PySem.W.Frag):Sp:=fun vs H Q _=>∃ k:Str,vs=[.str k]∧∀ (p:Addr) (H':Hp),Same H H'→SqT K H' p ((aV k).map V.str)→Q (.ref p) H'
def gF(K:PySem.W.Frag):Sp:=fun vs H Q _=>∃ (a:Addr) (k:Str) (xs:List V),vs=[.ref a]∧SqT K H a (.str k::xs)∧(aV k).length≤xs.length+1∧
 ∀ (p:Addr) (H':Hp),Same H H'→SqT K H' p ((V.str k::xs).take (xs.length+1 - (aV k).length))→Q (.ref p) H'
def fe(K:PySem.W.Frag):Sp:=fun vs H Q _=>∃ (a:Addr) (k:Str) (xs:List V),vs=[.ref a]∧SqT K H a (.str k::xs)∧(aV k).length≤xs.length+1∧
 ∀ (p:Addr) (H':Hp),Same H H'→SqT K H' p ((V.str k::xs).drop (xs.length+1 - (aV k).length))→Q (.ref p) H'
def oW(d:Nat):Sp:=fun vs H Q _=>∃ (p:Addr) (L:List Str),vs=[.ref p]∧LinesAt d H p L∧L.length≤10000∧∀ (q:Addr) (H':Hp),Same H H'→H q=none→H' q=some (.lst (L.map V.str))→Q (.ref q) H'
section
variable{P:Program}{w:World}{K:PySem.W.Frag}{mg:Str→Option Value}{base:Heap}
theorem qZ(D:DefAt K mg "closers_of" b9) {d a0 a1 a2:Addr} (g_CLOSERS:mg "CLOSERS" = some (.ref d)) (m:ModD w K d [("lend", .ref a0),("if", .ref a1),("while", .ref a2)])
  (q0:∀ H:Hp,SqT K H a0 [.str "back"]) (q1:∀ H:Hp,SqT K H a1 [.str "else", .str "fi"]) (q2:∀ H:Hp,SqT K H a2 [.str "done"]):aQ P w K mg base 1 "closers_of" ["kind"] (gG K):=by
 refine D.cal lr (fun _ _ _ _ _ _ us hl=>match us,hl with | [_],_=>rfl) (fun vs H Q E h=>by obtain⟨k,rfl,_⟩:=h; rfl) (fun f cdv A outer s H vs Q E hr h=>?_)
 obtain⟨k,rfl,q⟩:=h
 refine⟨_,(am (aN (zQ w K PySem.F.plainAttrs_dict PySem.F.slot_dict_get PySem.F.type_dict_get (xI w K) (oQ g_CLOSERS (hg:=EM)) (aa (pv 0 (hv:=EA)) (aa (bc ac) ac))))),?_⟩
 walk_at "rd1"
 refine⟨⟨d,_,rfl,m⟩,by decide,fun p hp=>?_⟩
 refine⟨d,_,k,.ref p,rfl,rfl,m,?_⟩
 have sm:=af hp (.tup [])
 unfold aV at q
 by_cases h0:k = "lend"
 ·subst h0; exact q _ _ sm (q0 _)
 rw[if_neg h0]at q
 by_cases h1:k = "if"
 ·subst h1; exact q _ _ sm (q1 _)
 rw[if_neg h1]at q
 by_cases h2:k = "while"
 ·subst h2; exact q _ _ sm (q2 _)
 rw[if_neg h2]at q
 have e:bE [(("lend" : Str),V.ref a0),("if", .ref a1),("while", .ref a2)] k=none:=by simp[bE,Ne.symm h0,Ne.symm h1,Ne.symm h2]
 rw[e]
 exact q _ _ sm (SqT.of ae)
theorem xF(D:DefAt K mg "head_of" cE) (z_len:mg "len" = none) (c_closers_of:aQ P w K mg base 1 "closers_of" ["kind"] (gG K)):aQ P w K mg base 2 "head_of" ["step"] (gF K):=by
 refine D.cal ra (fun _ _ _ _ _ _ us hl=>match us,hl with | [_],_=>rfl) (fun vs H Q E h=>by obtain⟨a,k,xs,rfl,_⟩:=h; rfl) (fun f cdv A outer s H vs Q E hr h=>?_)
 obtain⟨a,k,xs,rfl,ha,hl,q⟩:=h
 refine⟨_,(am (aN (fj (ia K) (pv 0 (hv:=Aj)) h9 (eP (ar jp (bw (aW K) z_len bH (aa (pv 0 (hv:=Aj)) ac) (hg:=AT)) (bw (aW K) z_len bH (aa (aB c_closers_of hr (aa (av (aG K) (pv 0 (hv:=Aj)) ai (fun _ _=>rfl)) ac) (hg:=Dx)) ac) (hg:=AT))))))),?_⟩
 walk_at "rd1"
 refine⟨_,.inr ha,?_⟩
 refine⟨_,_,.inr ha,cG,?_⟩
 refine⟨k,rfl,fun p H1 sm1 hp=>?_⟩
 walk_at "rd1"
 refine⟨_,.inr hp,?_⟩
 walk_at "rd1"
 have e:((xs.length+1:Nat):Int) - ((((aV k).map V.str).length:Nat):Int)=((xs.length+1 - (aV k).length:Nat):Int):=by
  rw[List.length_map]; omega
 rw[e]
 refine fZ (ha.same sm1) fun p2 H2 sm2 h2=>q p2 H2 (sm1.trans sm2) ?_
 rw[xW]at h2
 exact h2
theorem uM(D:DefAt K mg "blocks_of" b8) (z_len:mg "len" = none) (c_head_of:aQ P w K mg base 2 "head_of" ["step"] (gF K)):aQ P w K mg base 3 "blocks_of" ["step"] (fe K):=by
 refine D.cal mQ (fun _ _ _ _ _ _ us hl=>match us,hl with | [_],_=>rfl) (fun vs H Q E h=>by obtain⟨a,k,xs,rfl,_⟩:=h; rfl) (fun f cdv A outer s H vs Q E hr h=>?_)
 obtain⟨a,k,xs,rfl,ha,hl,q⟩:=h
 refine⟨_,(am (aN (fj (ia K) (pv 0 (hv:=AZ)) (eP (bw (aW K) z_len bH (aa (aB c_head_of hr (aa (pv 0 (hv:=AZ)) ac) (hg:=EG)) ac) (hg:=Es))) h9))),?_⟩
 walk_at "rd1"
 refine⟨a,k,xs,rfl,ha,hl,fun p H1 sm1 hp=>?_⟩
 walk_at "rd1"
 refine⟨_,.inr hp,?_⟩
 have e:(((V.str k::xs).take (xs.length+1 - (aV k).length)).length:Int)=((xs.length+1 - (aV k).length:Nat):Int):=by
  rw[List.length_take,List.length_cons]; omega
 rw[e]
 refine fZ (ha.same sm1) fun p2 H2 sm2 h2=>q p2 H2 (sm1.trans sm2) ?_
 rw[gY]at h2
 exact h2
theorem nP(D:DefAt K mg "lines_of" aJ) (z_str:mg "str" = none) (z_zip:mg "zip" = none) (c_closers_of:aQ P w K mg base 1 "closers_of" ["kind"] (gG K)) (c_head_of:aQ P w K mg base 2 "head_of" ["step"] (gF K)) (c_blocks_of:aQ P w K mg base 3 "blocks_of" ["step"] (fe K)) :
  ∀ d:Nat,aQ P w K mg base (d+4) "lines_of" ["program"] (oW d)
 | 0=>D.cal (k:=3) sc_lines_of (fun _ _ _ _ _ _ us hl=>match us,hl with | [_],_=>rfl) (fun vs H Q E h=>by obtain⟨p,L,rfl,_⟩:=h; rfl) (fun f cdv A outer s H vs Q E hr h=>by obtain⟨p,L,rfl,z,_⟩:=h; exact z.elim)
 | d+1=>by
  have c_lines_of:=nP D z_str z_zip c_closers_of c_head_of c_blocks_of d
  refine D.cal (k:=d+4) sc_lines_of (fun _ _ _ _ _ _ us hl=>match us,hl with | [_],_=>rfl) (fun vs H Q E h=>by obtain⟨p,L,rfl,_⟩:=h; rfl) (fun f cdv A outer s H vs Q E hr h=>?_)
  obtain⟨p,L,rfl,⟨as,Ls,h1,h2,rfl⟩,hL,q⟩:=h
  have hlen:=aC h2
  refine⟨_,(aj (aw 1 sc_lines_of.nd (bd ac) (hx:=Dy))
   (aj (cA PassesOwn.never rfl (dn K (pv 0 (hv:=EO))) (bC 2 sc_lines_of.nd (hx:=EU)) (aj (bD (b5 K PySem.F.plainAttrs_list PySem.F.slot_list_append PySem.F.type_list_append bX (pv 1 (hv:=wY)) (aa (b5 K PySem.F.plainAttrs_str PySem.F.slot_str_join PySem.F.type_str_join (lO K) ax (aa (h8 (CompSc.to (fsc:=(defScope aJ)) (N:=["program", "lines", "step", "block", "closer"]) (N0:=["program", "lines", "step", "block", "closer"]) (T:=["part"]) ⟨by decide +kernel,by decide +kernel,by decide +kernel,by decide +kernel,by decide +kernel,by decide +kernel,by decide +kernel⟩ rfl rfl) rfl (g_ K (aB c_head_of hr (aa (pv 2 (hv:=zn)) ac) (hg:=Dw) (hle:=by omega))) (fun _ _ _ _=>(bC 5 (show (["program", "lines", "step", "block", "closer", "part"]:List Str).Nodup from by decide +kernel) (hx:=(lN (defScope aJ) (by decide +kernel))) (hf:=uB (defScope aJ) (by decide +kernel)))) (eW (show (["program", "lines", "step", "block", "closer"]:List Str).length≤5 from by decide)) (fun _ _ _ _=>iC) (fun _ _ _ _=>(fg tj z_str yV (aa (pv 5 (hv:=(eV (defScope aJ) (by decide +kernel)))) ac) (hg:=(AS (defScope aJ) (by decide +kernel)))))) ac)) ac)))
   (am (cA PassesOwn.never rfl (oY K EX z_zip (aa (aB c_blocks_of hr (aa (pv 2 (hv:=zn)) ac) (hg:=DC) (hle:=by omega)) (aa (aB c_closers_of hr (aa (av (aG K) (pv 2 (hv:=zn)) ai (fun _ _=>rfl)) ac) (hg:=ES) (hle:=by omega)) ac))) (h_ K (n:=2) (cx (bC 3 sc_lines_of.nd (hx:=Ea)) (cx (bC 4 sc_lines_of.nd (hx:=EE)) fM))) (aj (bD (b5 K PySem.F.plainAttrs_list PySem.F.slot_list_extend PySem.F.type_list_extend dX (pv 1 (hv:=wY)) (aa (aB c_lines_of hr (aa (pv 3 (hv:=DV)) ac) (hg:=DZ) (hle:=by omega)) ac)))
   (am (bD (b5 K PySem.F.plainAttrs_list PySem.F.slot_list_append PySem.F.type_list_append bX (pv 1 (hv:=wY)) (aa (pv 4 (hv:=Ec)) ac)))))))))
   (am (aN (pv 1 (hv:=wY)))))),?_⟩
  walk_at "rd1"
  refine⟨by decide,fun lp hlp=>?_⟩
  generalize hH1:upd H lp _=H1
  have sm1:=eR hH1 hlp
  have e1:=hJ hH1
  walk_at "nx"
  refine⟨⟨_,SqL.of (sm1 _ _ h1)⟩,?_⟩
  refine cR (xs:=as.map V.ref) (fun i σ H'=>∃ o2 o3 o4:Option V,σ=[some (.ref p),some (.ref lp),o2,o3,o4]∧Same H H'∧H' lp=some (.lst ((Ls.take i).flatten.map V.str)))
   ⟨none,none,none,rfl,sm1,e1⟩ (fun i σ H' _ h=>by obtain⟨_,_,_,_,sm,_⟩:=h; exact SqL.of (sm _ _ h1)) ?_ ?_
  ·rintro i v σ H' hv ⟨o2,o3,o4,rfl,sm,hl⟩
   have hi:i<as.length:=by have:=(List.getElem?_eq_some_iff.mp hv).1; simpa using this
   rw[List.getElem?_map,List.getElem?_eq_getElem hi]at hv
   cases hv
   obtain⟨ls,hls,kind,hs,ws,bs,ins,st,rfl⟩:=bP h2 (List.getElem?_eq_getElem hi)
   have hflat:=tY hls
   have hfl:=jJ Ls (i+1)
   rw[hflat]at hfl ⊢
   generalize (Ls.take i).flatten=pre at hl hfl hflat ⊢
   rw[List.length_append,List.length_cons]at hfl
   have hat:SqT K H' as[i] (.str kind::(hs++bs.map V.ref)):=SqT.of (sm _ _ st.at')
   have hcl:(aV kind).length≤(hs++bs.map V.ref).length+1:=by rw[List.length_append,List.length_map,st.bl]; omega
   have hcut:(hs++bs.map V.ref).length+1 - (aV kind).length=hs.length+1:=by rw[List.length_append,List.length_map,st.bl]; omega
   have hpl:=aC st.parts
   have hsz:=st.size
   walk_at "rd1"
   refine⟨⟨_,SqL.of hl⟩,as[i],kind,hs++bs.map V.ref,rfl,hat,hcl,fun hp H2 sm2 hhp=>?_⟩
   rw[hcut]at hhp
   have etk:(V.str kind::(hs++bs.map V.ref)).take (hs.length+1)=V.str kind::hs:=by rw[List.take_succ_cons,List.take_left']; rfl
   rw[etk]at hhp
   walk_at "rd1"
   refine⟨⟨_,hhp⟩,fun C hC=>?_⟩
   refine kI (xs:=V.str kind::hs) (fun j ys H3=>Same H2 H3∧H3 C=some (.lst ys)∧ys=((kind::ws).take j).map V.str) ⟨af hC _,ae,rfl⟩ (fun j ys H3 _ h=>hhp.same h.1) ?_ ?_
   ·rintro j ys H3 x hx hj ⟨sm3,hl3,rfl⟩
    obtain⟨y,hy,hr'⟩:=bP (R:=gH) (.cons (show gH (.str kind) kind from rfl) st.parts) hx
    have hjl:j<(kind::ws).length:=(List.getElem?_eq_some_iff.mp hy).1
    have fin:gf (V.str kind::hs).length j (fun j ys H3=>Same H2 H3∧H3 C=some (.lst ys)∧ys=((kind::ws).take j).map V.str) C (((kind::ws).take j).map V.str) (.str y) H3:=by
     refine rH hj (by rw[List.length_map,List.length_take]; omega) (bF (by simp only[List.length_cons]at hsz hjl ⊢; omega)) hl3 ⟨sm3.upd hC _,ae,?_⟩
     rw[List.take_add_one,hy,List.map_append]; rfl
    match x,hr' with
    | .str z,hr'=>
     have e:y=z:=hr'
     subst e
     walk_at "rd1"
     exact fin
    | .int z,hr'=>
     obtain⟨g1,rfl⟩:=hr'
     walk_at "rd1"
     exact⟨g1,fin⟩
   rintro ys H3 ⟨sm3,hl3,rfl⟩
   have hl3':H3 C=some (.lst ((kind::ws).map V.str)):=by
    rw[hl3,List.length_cons,hpl,List.take_of_length_le (by simp)]
   have smA:=sm2.trans sm3
   have h1l:(Str.ofString " ").length=1:=by decide
   walk_at "rd1"
   refine⟨kind::ws,SqL.of hl3',by rw[h1l]; omega,?_⟩
   refine⟨_,smA _ _ hl,by rw[List.length_map]; exact ce (by omega),?_⟩
   generalize hH4:upd H3 lp _=H4
   have smH:Same H H4:=fun b o e=>by
    have nb:b≠lp:=fun z=>by subst z; rw[hlp]at e; cases e
    rw[← hH4,ap nb]; exact smA _ _ (sm _ _ e)
   have e4:H4 lp=some (.lst ((pre++[Txt.join " " (kind::ws)]).map V.str)):=by rw[← hH4,ae,List.map_append]; rfl
   have hat4:SqT K H4 as[i] (.str kind::(hs++bs.map V.ref)):=SqT.of (smH _ _ st.at')
   walk_at "nx"
   refine⟨as[i],kind,hs++bs.map V.ref,rfl,hat4,hcl,fun bp H5 sm5 hbp=>?_⟩
   rw[hcut]at hbp
   have edr:(V.str kind::(hs++bs.map V.ref)).drop (hs.length+1)=bs.map V.ref:=by rw[List.drop_succ_cons,List.drop_left']; rfl
   rw[edr]at hbp
   walk_at "rd1"
   refine⟨_,_,.inr (hat4.same sm5),cG,kind,rfl,fun cp H6 sm6 hcp=>?_⟩
   walk_at "rd1"
   refine⟨⟨_,hbp.same sm6⟩,⟨_,hcp⟩,?_⟩
   have sm46:=sm5.trans sm6
   have hil:=aC st.inn
   have hbl:=st.bl
   refine kf (xs:=bs.map V.ref) (ys:=(aV kind).map V.str) (fun j σ H'=>∃ o3 o4:Option V,σ=[some (.ref p),some (.ref lp),some (.ref as[i]),o3,o4]∧Same H H'∧SqT K H' bp (bs.map V.ref)∧SqT K H' cp ((aV kind).map V.str)∧
     H' lp=some (.lst ((pre++([Txt.join " " (kind::ws)]++bI (ins.take j) ((aV kind).take j))).map V.str)))
    (by rw[List.length_map,List.length_map]; exact hbl) ⟨o3,o4,rfl,smH.trans sm46,hbp.same sm6,hcp,by rw[sm46 _ _ e4]; simp[bI]⟩ (fun j σ H' _ h=>by obtain⟨_,_,_,_,z1,z2,_⟩:=h; exact⟨z1,z2⟩) ?_ ?_
   ·rintro j x y t σ H7 hx hy ⟨o3,o4,rfl,sm7,hb7,hc7,hl7⟩ ht
    have hj:j<bs.length:=by have:=(List.getElem?_eq_some_iff.mp hx).1; simpa using this
    have hjc:j<(aV kind).length:=by omega
    rw[List.getElem?_map,List.getElem?_eq_getElem hj]at hx
    cases hx
    rw[List.getElem?_map,List.getElem?_eq_getElem hjc]at hy
    cases hy
    obtain⟨il,hil',hla⟩:=bP st.inn (List.getElem?_eq_getElem hj)
    have hsn:=ip hil' (List.getElem?_eq_getElem hjc)
    have hcl1:=jl (ins:=ins) (cs:=aV kind) (j+1)
    rw[hsn]at hcl1 ⊢
    rw[List.length_append,List.length_append]at hcl1
    generalize bI (ins.take j) ((aV kind).take j)=mid at hl7 hsn hcl1 ⊢
    have st7:=af ht (.tup [V.ref bs[j],.str (aV kind)[j]])
    have et7:upd H7 t (.tup [V.ref bs[j],.str (aV kind)[j]]) t=some (.tup [V.ref bs[j],.str (aV kind)[j]]):=ae
    generalize upd H7 t (.tup [V.ref bs[j],.str (aV kind)[j]])=H8 at st7 et7 ⊢
    have hl8:=st7 _ _ hl7
    walk_at "rd1"
    refine⟨t,_,rfl,SqT.of et7,rfl,?_⟩
    walk_at "rd1"
    refine⟨⟨_,SqL.of hl8⟩,bs[j],il,rfl,LinesAt.mono d hla (sm7.trans st7),by omega,fun r H9 sm9 hr9 hl9=>?_⟩
    walk_at "rd1"
    refine⟨_,_,sm9 _ _ hl8,hl9,bF (by simp only[List.length_map,List.length_append,List.length_cons,List.length_nil]; omega),?_⟩
    have hb9:=((hb7.same st7).same sm9).updL (sm9 _ _ hl8) (o:=.lst ((pre++([Txt.join " " (kind::ws)]++mid)).map V.str++il.map V.str))
    have hc9:=((hc7.same st7).same sm9).updL (sm9 _ _ hl8) (o:=.lst ((pre++([Txt.join " " (kind::ws)]++mid)).map V.str++il.map V.str))
    have sm10:Same H (upd H9 lp (.lst ((pre++([Txt.join " " (kind::ws)]++mid)).map V.str++il.map V.str))):=((sm7.trans st7).trans sm9).upd hlp _
    have e10:upd H9 lp (.lst ((pre++([Txt.join " " (kind::ws)]++mid)).map V.str++il.map V.str)) lp=some (.lst ((pre++([Txt.join " " (kind::ws)]++mid)).map V.str++il.map V.str)):=ae
    generalize upd H9 lp (.lst ((pre++([Txt.join " " (kind::ws)]++mid)).map V.str++il.map V.str))=H10 at hb9 hc9 sm10 e10 ⊢
    walk_at "nx"
    refine⟨⟨_,SqL.of e10⟩,_,e10,ce (by simp only[List.length_map,List.length_append,List.length_cons,List.length_nil]; omega),?_⟩
    refine⟨_,_,rfl,sm10.upd hlp _,hb9.updL e10,hc9.updL e10,?_⟩
    rw[ae]
    simp only[List.map_append,List.map_cons,List.map_nil,List.append_assoc,List.cons_append,List.nil_append]
   ·rintro σ H7 ⟨o3,o4,rfl,sm7,_,_,hl7⟩
    refine⟨_,_,_,rfl,sm7,?_⟩
    rw[hl7,List.length_map,List.take_of_length_le (by omega),List.take_of_length_le (by omega)]; rfl
  ·rintro σ H' ⟨o2,o3,o4,rfl,sm,hl⟩
   walk_at "nx"
   rw[List.length_map,List.take_of_length_le (by omega)]at hl
   exact q lp H' sm hlp hl
end
abbrev letters:Str := "abcdefghijklmnopqrstuvwxyz"
def lx(K:PySem.W.Frag):Sp:=fun vs H Q _=>∃ (a:Addr) (ns:List Int),vs=[.ref a]∧SqL K H a (ns.map V.int)∧ns.length≤63∧∀ H',Q (.bl true) H'
def uu(K:PySem.W.Frag):Sp:=fun vs H Q _=>∃ (a:Addr) (ns:List Int) (k:Int),vs=[.ref a,.int k]∧SqL K H a (ns.map V.int)∧0≤k∧Q (.int (ns.getD k.toNat 0)) H
theorem mv:∀ (cs:List Nat) (acc:Array Nat),((cs.map fun c=>(⟨#[c]⟩ : Str)).foldl (fun acc p=>acc++(Str.ofString "").cps++p.cps) acc).toList=acc.toList++cs
 | [],acc=>by simp
 | c::cs,acc=>by
  rw[List.map_cons,List.foldl_cons,mv cs]
  have e:(Str.ofString "").cps = #[]:=by decide +kernel
  rw[e]; simp
theorem mG(cs:List Nat):(Txt.join "" (cs.map fun c=>(⟨#[c]⟩ : Str))).cps.toList=cs:=by
 cases cs with
 | nil=>rfl
 | cons c cs=>
  show (((c::cs).map fun c=>(⟨#[c]⟩ : Str)).drop 1 |>.foldl (fun acc p=>acc++(Str.ofString "").cps++p.cps) (((c::cs).map fun c=>(⟨#[c]⟩ : Str)).headD Str.empty).cps).toList=c::cs
  rw[List.map_cons,List.drop_one,List.tail_cons,mv]; rfl
theorem vE(cs:List Nat):(Txt.join "" (cs.map fun c=>(⟨#[c]⟩ : Str))).length=cs.length:=by
 have e:=congrArg List.length (mG cs)
 simpa [Str.length] using e
theorem fY(b:Nat):∀ (ss:List Str),(∀ s∈ss,s.length≤b)→(ss.map (·.length)).sum≤ss.length * b
 | [],_=>by simp
 | s::ss,h=>by
  have h1:=fY b ss fun x hx=>h x (List.mem_cons_of_mem _ hx)
  have h2:=h s List.mem_cons_self
  rw[List.map_cons,List.sum_cons,List.length_cons,Nat.succ_mul]
  omega
theorem uj(z:Int):∃ c,letters.length≤sizeLine∧cu letters.cps.toList (z % 26)=some c∧c∈letters.cps.toList:=by
 have hz:(z % 26).toNat<letters.cps.toList.length:=by
  show (z % 26).toNat<26
  omega
 refine⟨letters.cps.toList[(z % 26).toNat],by decide,?_,List.getElem_mem hz⟩
 have q:=aX (List.getElem?_eq_getElem hz)
 rwa [show (((z % 26).toNat:Nat):Int)=z % 26 by omega]at q
section
variable{P:Program}{w:World}{K:PySem.W.Frag}{mg:Str→Option Value}{base:Heap}
theorem ye(D:DefAt K mg "_law_cell_at" bR) (z_len:mg "len" = none):aQ P w K mg base 1 "_law_cell_at" ["_law_script", "_law_k"] (uu K):=by
 refine D.cal jW (fun _ _ _ _ _ _ us hl=>match us,hl with | [_,_],_=>rfl) (fun vs H Q E h=>by obtain⟨a,ns,k,rfl,_⟩:=h; rfl) (fun f cdv A outer s H vs Q E hr h=>?_)
 obtain⟨a,ns,k,rfl,hS,h0,q⟩:=h
 refine⟨_,(aj (b6 (bi nj (pv 1 (hv:=Ab)) (bw (aW K) z_len bH (aa (pv 0 (hv:=zC)) ac) (hg:=Bm)) (bt _)) (am (aN (av (aG K) (pv 0 (hv:=zC)) (pv 1 (hv:=Ab)) (fun _ _=>rfl)))) ci)
   (am (aN ai))),?_⟩
 try simp only[jR,p9,mC,jj,ie,ny,oP,pj,lG,p8,mM,pY,mi,o0,pF,pd,wB,tK,sR,mK,wJ,qd,uw,pL,lB,lM,sO,tM,nG,o_,oX,oJ,mI,tG,pC,l_,lS,k_,ix,lH,kg,tE,lK,iY,nt,oI,ng,nE,oE,mx,nn,n6,pW,my,sV,w9,kc,kT,gU,kL,j6,me,jk,kU,pE,wL,pB,pq,lW,nI,mw,lI,ig,ik,kC,kJ,iL,mX,nu,iV,nC,pU,pO,j_,kh,dW,oF,kn,nv,mP,lF,lV,oR,qb,oZ,L2.start,List.map_cons,List.map_nil,List.length_cons,List.length_nil,List.replicate,List.cons_append,List.nil_append,List.append_nil,List.getElem?_cons_zero,List.getElem?_cons_succ,List.set_cons_zero,List.set_cons_succ,Nat.reduceAdd,Nat.reduceSub,Option.some.injEq,exists_eq_left',exists_eq_left,V.int.injEq,V.ref.injEq,V.str.injEq,V.bl.injEq,sZ,oN,and_true,true_and,decide_eq_true_eq,Bool.not_true,Bool.not_false,if_true,Bool.false_eq_true,if_false,ite_true,ite_false]
 refine⟨_,.inl hS,ck (fun c=>?_) (fun c=>?_)⟩
 ·rw[List.length_map]at c
  refine⟨_,.int (ns.getD k.toNat 0),.inl hS,zM h0 ?_,q⟩
  rw[List.getD_eq_getElem?_getD,List.getElem?_eq_getElem (by omega)]; rfl
 ·rw[List.length_map]at c
  have e:ns.getD k.toNat 0=0:=by
   rw[List.getD_eq_getElem?_getD,List.getElem?_eq_none (by omega)]; rfl
  rw[e]at q; exact q
end
def cB:List Str:=["open", "copy", "drop", "tie", "do"]
structure fI (ws:List Str):Prop where
 two:2≤ws.length
 three:ws.length≤3
 kind:ws.headD "" ∈ cB
 len:∀ x∈ws,x.length≤20
def AB(H:Hp)(a:Addr)(ws:List Str):Prop:=H a=some (.tup (ws.map V.str))∧fI ws
def gW{α : Type}(xs:List α)(lo hi:Option Int):List α:=(xs.drop (HT.sIx xs.length 0 lo)).take (HT.sIx xs.length xs.length hi - HT.sIx xs.length 0 lo)
theorem xR{α : Type}(f:α→V)(xs:List α)(lo hi:Option Int):cW (xs.map f) lo hi=(gW xs lo hi).map f:=by
 unfold cW gW
 rw[List.length_map,List.map_take,List.map_drop]
theorem rV{H:Hp}{a:Addr}{ws:List Str}{LA:Addr→List Str→Prop}(h:AB H a ws):jb LA H a [Txt.join " " ws]:=by
 obtain⟨h1,two,three,kd,len⟩:=h
 cases ws with
 | nil=>simp at two
 | cons k ws=>
  have hk:k∈cB:=kd
  have hc:aV k=[]:=by
   simp only[cB,List.mem_cons,List.mem_nil_iff,or_false]at hk
   rcases hk with rfl | rfl | rfl | rfl | rfl <;> decide
  have hp:∀ ws:List Str,Paired gH (ws.map V.str) ws:=fun ws=>by
   induction ws with
   | nil=>exact .nil
   | cons x ws ih=>exact .cons (show gH (.str x) x from rfl) ih
  refine⟨k,ws.map V.str,ws,[],[],⟨by rw[List.map_nil,List.append_nil]; exact h1,hp ws,?_,by rw[hc]; rfl,.nil⟩,by rw[hc]; rfl⟩
  have:=fY 20 (k::ws) len
  simp only[List.length_cons]at this two three ⊢
  omega
theorem eh{α β : Type}{R:α→β→Prop}{x:α}{y:β}(hxy:R x y):∀ {xs:List α} {ys:List β},Paired R xs ys→Paired R (xs++[x]) (ys++[y])
 | _,_,.nil=>.cons hxy .nil
 | _,_,.cons h t=>.cons h (eh hxy t)
set_option genSizeOf false in
inductive ak where
 | plain (ws:List Str)
 | lend (x y:Str) (b:List ak)
 | ite (n:Int) (b c:List ak)
 | whl (n:Int) (b:List ak)
def gP(n:Int):Str:=Str.ofString (toString n)
def cN(f:List ak→List Str):ak→List Str
 | .plain ws=>[Txt.join " " ws]
 | .lend x y b=>Txt.join " " ["lend", x,y]::(f b++[("back" : Str)])
 | .ite n b c=>Txt.join " " ["if", gP n]::(f b++[("else" : Str)]++(f c++[("fi" : Str)]))
 | .whl n b=>Txt.join " " ["while", gP n]::(f b++[("done" : Str)])
def cJ:Nat→List ak→List Str
 | 0,_=>[]
 | d+1,T=>T.flatMap (cN (cJ d))
def nh(f:List ak→Prop):ak→Prop
 | .plain ws=>fI ws
 | .lend x y b=>x.length≤20∧y.length≤20∧f b
 | .ite n b c=>n.natAbs.log2<1920∧f b∧f c
 | .whl n b=>n.natAbs.log2<1920∧f b
def dA:Nat→List ak→Prop
 | 0,_=>False
 | d+1,T=>∀ s∈T,nh (dA d) s
def stpAt(PA:Addr→List ak→Prop)(H:Hp)(a:Addr):ak→Prop
 | .plain ws=>H a=some (.tup (ws.map V.str))
 | .lend x y b=>∃ q,H a=some (.tup [.str "lend", .str x,.str y,.ref q])∧PA q b
 | .ite n b c=>∃ q r,H a=some (.tup [.str "if", .int n,.ref q,.ref r])∧PA q b∧PA r c
 | .whl n b=>∃ q,H a=some (.tup [.str "while", .int n,.ref q])∧PA q b
def ProgAt(S:Addr→Prop):Nat→Hp→Addr→List ak→Prop
 | 0=>fun _ _ _=>False
 | d+1=>fun H p T=>S p∧∃ as:List Addr,H p=some (.lst (as.map V.ref))∧Paired (stpAt (ProgAt S d H) H) as T
theorem stpAt.imp{PA PA':Addr→List ak→Prop}{H H':Hp}{a:Addr}(ht:∀ b xs,H b=some (.tup xs)→H' b=some (.tup xs))(hp:∀ q b,PA q b→PA' q b):∀ {s:ak},stpAt PA H a s→stpAt PA' H' a s
 | .plain _,h=>ht _ _ h
 | .lend _ _ _,⟨q,h,z⟩=>⟨q,ht _ _ h,hp _ _ z⟩
 | .ite _ _ _,⟨q,r,h,z,y⟩=>⟨q,r,ht _ _ h,hp _ _ z,hp _ _ y⟩
 | .whl _ _,⟨q,h,z⟩=>⟨q,ht _ _ h,hp _ _ z⟩
theorem ProgAt.imp{S S':Addr→Prop}{H H':Hp}(ht:∀ b xs,H b=some (.tup xs)→H' b=some (.tup xs))(hl:∀ b xs,S b→H b=some (.lst xs)→H' b=some (.lst xs))(hS:∀ b,S b→S' b) :
  ∀ (d:Nat) {p:Addr} {T:List ak},ProgAt S d H p T→ProgAt S' d H' p T
 | 0,_,_,h=>h.elim
 | d+1,p,T,⟨h0,as,h1,h2⟩=>⟨hS _ h0,as,hl _ _ h0 h1,Paired.imp' (fun a s z=>z.imp ht fun q b y=>ProgAt.imp ht hl hS d y) h2⟩
theorem ProgAt.mono{S:Addr→Prop}{H H':Hp}{d:Nat}{p:Addr}{T:List ak}(h:ProgAt S d H p T)(sm:Same H H'):ProgAt S d H' p T:=h.imp (fun b xs e=>sm _ _ e) (fun b xs _ e=>sm _ _ e) (fun _ z=>z) d
theorem pK{n:Int}(h:n.natAbs.log2<1920):(gP n).length≤1921:=by
 have e:=int_text_length_le (k:=1920) (by decide) h
 unfold gP
 rw[PySem.ofString_length]; exact e
theorem rP{PA:Addr→List ak→Prop}{LA:Addr→List Str→Prop}{H:Hp}{a:Addr}{f:List ak→List Str}{g:List ak→Prop}(hp:∀ q b,PA q b→g b→LA q (f b)):∀ {s:ak},stpAt PA H a s→nh g s→jb LA H a (cN f s)
 | .plain ws,h,ok=>rV ⟨h,ok⟩
 | .lend x y b,⟨q,h,z⟩,⟨o1,o2,o3⟩=>by
  refine⟨"lend", [.str x,.str y],[x,y],[q],[f b],⟨h,.cons rfl (.cons rfl .nil),?_,by show 1=(aV "lend").length; decide,.cons (hp _ _ z o3) .nil⟩,by show _=_::bI [f b] ["back"]; simp[cN,bI]⟩
  have:(Str.ofString "lend").length=4:=by decide
  simp only[List.map_cons,List.map_nil,List.sum_cons,List.sum_nil,List.length_cons,List.length_nil,this]; omega
 | .ite n b c,⟨q,r,h,z,y⟩,⟨o1,o2,o3⟩=>by
  refine⟨"if", [.int n],[gP n],[q,r],[f b,f c],⟨h,.cons ⟨o1,rfl⟩ .nil,?_,by show 2=(aV "if").length; decide,.cons (hp _ _ z o2) (.cons (hp _ _ y o3) .nil)⟩,?_⟩
  ·have:(Str.ofString "if").length=2:=by decide
   have:=pK o1
   simp only[List.map_cons,List.map_nil,List.sum_cons,List.sum_nil,List.length_cons,List.length_nil]; omega
  ·show _=_::bI [f b,f c] ["else", "fi"]
   simp[cN,bI]
 | .whl n b,⟨q,h,z⟩,⟨o1,o2⟩=>by
  refine⟨"while", [.int n],[gP n],[q],[f b],⟨h,.cons ⟨o1,rfl⟩ .nil,?_,by show 1=(aV "while").length; decide,.cons (hp _ _ z o2) .nil⟩,by show _=_::bI [f b] ["done"]; simp[cN,bI]⟩
  have:(Str.ofString "while").length=5:=by decide
  have:=pK o1
  simp only[List.map_cons,List.map_nil,List.sum_cons,List.sum_nil,List.length_cons,List.length_nil]; omega
theorem iq{PA:Addr→List ak→Prop}{LA:Addr→List Str→Prop}{H:Hp}{f:List ak→List Str}{g:List ak→Prop}(hp:∀ q b,PA q b→g b→LA q (f b)) :
  ∀ {as:List Addr} {T:List ak},Paired (stpAt PA H) as T→(∀ s∈T,nh g s)→Paired (jb LA H) as (T.map (cN f))
 | _,_,.nil,_=>.nil
 | _,_,.cons h t,ok=>.cons (rP hp h (ok _ List.mem_cons_self)) (iq hp t fun s hs=>ok s (List.mem_cons_of_mem _ hs))
theorem jg{S:Addr→Prop}{H:Hp}:∀ (d:Nat) {p:Addr} {T:List ak},ProgAt S d H p T→dA d T→LinesAt d H p (cJ d T)
 | 0,_,_,h,_=>h.elim
 | d+1,p,T,⟨_,as,h1,h2⟩,ok=>⟨as,T.map (cN (cJ d)),h1,iq (fun q b z o=>jg d z o) h2 ok,List.flatMap_def⟩
def aU(f:List ak→Nat):ak→Nat
 | .plain _=>1
 | .lend _ _ b=>f b+2
 | .ite _ b c=>f b+f c+3
 | .whl _ b=>f b+2
def ah:Nat→List ak→Nat
 | 0,_=>0
 | d+1,T=>(T.map (aU (ah d))).sum
def dC(f:ak→Nat):Nat→List ak→List (Nat × ak)
 | _,[]=>[]
 | l,s::T=>(l,s)::dC f (l+f s) T
theorem gS(f:ak→Nat)(s:ak):∀ (l:Nat) (T:List ak),dC f l (T++[s])=dC f l T++[(l+(T.map f).sum,s)]
 | l,[]=>by simp[dC]
 | l,t::T=>by
  show (l,t)::dC f (l+f t) (T++[s])=(l,t)::dC f (l+f t) T++[(l+(f t+(T.map f).sum),s)]
  rw[gS f s (l+f t) T,Nat.add_assoc]; rfl
theorem ef(f:ak→Nat):∀ (l:Nat) (T:List ak),(dC f l T).length=T.length
 | _,[]=>rfl
 | l,s::T=>by show (dC f (l+f s) T).length+1=T.length+1; rw[ef f _ T]
theorem oH(f:ak→Nat):∀ (l:Nat) (T:List ak) (i:Nat) (s:ak),T[i]? = some s→(dC f l T)[i]? = some (l+((T.take i).map f).sum,s)
 | _,[],_,_,h=>by simp at h
 | l,t::T,0,s,h=>by
  have e:t=s:=by simpa using h
  subst e; simp[dC]
 | l,t::T,i+1,s,h=>by
  have h':T[i]? = some s:=by simpa using h
  have ih:=oH f (l+f t) T i s h'
  show (dC f (l+f t) T)[i]? = _
  rw[ih,List.take_succ_cons,List.map_cons,List.sum_cons,Nat.add_assoc]
def kindOf:ak→Str
 | .plain ws=>ws.headD ""
 | .lend _ _ _ => "lend"
 | .ite _ _ _ => "if"
 | .whl _ _ => "while"
def cP:ak→List V
 | .plain ws=>(ws.drop 1).map V.str
 | .lend x y _=>[.str x,.str y]
 | .ite n _ _=>[.int n]
 | .whl n _=>[.int n]
def cf(f:List ak→Nat)(l:Nat):ak→List (Nat × List ak)
 | .plain _=>[]
 | .lend _ _ b=>[(l+1,b)]
 | .ite _ b c=>[(l+1,b),(l+1+f b+1,c)]
 | .whl _ b=>[(l+1,b)]
def cg(f:List ak→Nat)(l:Nat)(s:ak):List Nat:=l::(cf f l s).map fun z=>z.1+f z.2
theorem vw{f:List ak→Nat}{l:Nat}:∀ {s:ak} {j:Nat} {z:Nat × List ak},(cf f l s)[j]? = some z→∃ y,(cg f l s)[j]? = some y∧z.1=y+1
 | .plain _,j,z,h=>by simp[cf]at h
 | .lend _ _ b,0,z,h=>by cases h; exact⟨l,rfl,rfl⟩
 | .lend _ _ b,j+1,z,h=>by simp[cf]at h
 | .ite _ b c,0,z,h=>by cases h; exact⟨l,rfl,rfl⟩
 | .ite _ b c,1,z,h=>by cases h; exact⟨l+1+f b,rfl,rfl⟩
 | .ite _ b c,j+2,z,h=>by simp[cf]at h
 | .whl _ b,0,z,h=>by cases h; exact⟨l,rfl,rfl⟩
 | .whl _ b,j+1,z,h=>by simp[cf]at h
theorem i_{f:List ak→Nat}{l:Nat}:∀ {s:ak},(cg f l s).getLast? = some (l+aU f s - 1)∧1≤aU f s
 | .plain _=>by simp[cg,cf,aU]
 | .lend _ _ b=>by simp[cg,cf,aU]; omega
 | .ite _ b c=>by simp[cg,cf,aU]; omega
 | .whl _ b=>by simp[cg,cf,aU]; omega
def hV:Option Nat→V
 | none=>.non
 | some n=>.int n
set_option genInjectivity false in
set_option genSizeOf false in
structure RS where
 taken:Nat
 last:Int
 opened:Nat
 held:List (aA × V)
 log:List (List V)
def rG(st:RS)(k:aA):Option Nat:=match bE st.held k with
 | some (.int n)=>some n.toNat
 | _=>none
def lA(k:aA)(h:Option Nat)(st:RS):RS:={ st with held:=cj st.held k (hV h) }
def qF(l:Nat)(h:Option Nat)(w:Str)(st:RS):RS:=match h with
 | none=>st
 | some n=>{ st with log:=st.log++[[.int l,.int n,.str w,.int st.last]] }
def Am(l:Nat)(k:aA)(st:RS):RS:=lA k (some st.opened) (qF l (some st.opened) "open" { st with opened:=st.opened+1 })
def vy(l:Nat)(a b:Option Nat)(st:RS):RS:=match a,b with
 | some n,some m=>if n=m then st else { st with log:=st.log++[[.int l,.int n,.int m]] }
 | _,_=>st
def tT(l:Nat)(ws:List Str)(st:RS):RS:=match ws with
 | [k,x]=>if k = "open" then Am l (.inr x) st else lA (.inr x) none st
 | [k,x,y]=>if k = "do" then qF l (rG st (.inr y)) x st else if k = "copy" then lA (.inr x) (rG st (.inr y)) st else vy l (rG st (.inr x)) (rG st (.inr y)) st
 | _=>st
inductive dg:List Str→Prop
 | op (x:Str):dg ["open", x]
 | dr (x:Str):dg ["drop", x]
 | dd (u x:Str):dg ["do", u,x]
 | cp (x y:Str):dg ["copy", x,y]
 | ti (x y:Str):dg ["tie", x,y]
def GoodR(st:RS):Prop:=∀ k v,bE st.held k=some v→∃ h,v=hV h
theorem GoodR.hold{st:RS}(g:GoodR st)(k:aA)(h:Option Nat):GoodR (lA k h st):=fun j v e=>by
 have e':(if j=k then some (hV h) else bE st.held j)=some v:=by rw[← iR]; exact e
 by_cases hj:j=k
 ·rw[if_pos hj]at e'; exact⟨h,(Option.some.inj e').symm⟩
 ·rw[if_neg hj]at e'; exact g j v e'
theorem jr(l:Nat)(h:Option Nat)(w:Str)(st:RS):(qF l h w st).held=st.held:=by cases h <;> rfl
theorem tN(l:Nat)(a b:Option Nat)(st:RS):(vy l a b st).held=st.held:=by
 unfold vy; split
 ·split <;> rfl
 ·rfl
theorem GoodR.of{st st':RS}(g:GoodR st)(e:st'.held=st.held):GoodR st':=fun k v h=>g k v (by rw[← e]; exact h)
theorem jt{st:RS}(g:GoodR st)(l:Nat)(ws:List Str):GoodR (tT l ws st):=by
 unfold tT; split
 ·split
  ·exact GoodR.hold (GoodR.of g (by rw[jr])) _ _
  ·exact g.hold _ _
 ·split
  ·exact g.of (jr _ _ _ _)
  ·split
   ·exact g.hold _ _
   ·exact g.of (tN _ _ _ _)
 ·exact g
def nF(k:Str)(pp lp bp:Addr):List (Str × V):=[("kind", .str k),("parts", .ref pp),("lines", .ref lp),("blocks", .ref bp)]
theorem dJ(k:Str)(pp lp bp:Addr):(nF k pp lp bp).lookup ("kind" : Str)=some (.str k):=by unfold nF; walk_at "lk"
theorem dk(k:Str)(pp lp bp:Addr):(nF k pp lp bp).lookup ("parts" : Str)=some (.ref pp):=by unfold nF; walk_at "lk"
theorem cV(k:Str)(pp lp bp:Addr):(nF k pp lp bp).lookup ("lines" : Str)=some (.ref lp):=by unfold nF; walk_at "lk"
theorem eu(k:Str)(pp lp bp:Addr):(nF k pp lp bp).lookup ("blocks" : Str)=some (.ref bp):=by unfold nF; walk_at "lk"
def dG(ns:List Nat):List V:=ns.map fun (n:Nat)=>V.int (n:Int)
def nstpAt(K:PySem.W.Frag)(C:Addr)(f:List ak→Nat)(S:Addr→Prop)(PA:Addr→Nat→List ak→Prop)(H:Hp)(a:Addr)(l:Nat)(s:ak):Prop:=
 ∃ (dx pp lp bp:Addr) (bs:List Addr),H a=some (.ins C dx (nF (kindOf s) pp lp bp))∧SqT K H pp (cP s)∧S lp∧H lp=some (.lst (dG (cg f l s)))∧S bp∧H bp=some (.lst (bs.map V.ref))∧Paired (fun q (z:Nat × List ak)=>PA q z.1 z.2) bs (cf f l s)
def NumAt(K:PySem.W.Frag)(C:Addr)(S:Addr→Prop):Nat→Hp→Addr→Nat→List ak→Prop
 | 0=>fun _ _ _ _=>False
 | d+1=>fun H p l T=>S p∧∃ as:List Addr,H p=some (.lst (as.map V.ref))∧Paired (fun a (z:Nat × ak)=>nstpAt K C (ah d) S (NumAt K C S d H) H a z.1 z.2) as (dC (aU (ah d)) l T)
structure Stays (S:Addr→Prop) (H H':Hp):Prop where
 t:∀ b xs,H b=some (.tup xs)→H' b=some (.tup xs)
 z:∀ b o u,H b=some (.frz o u)→H' b=some (.frz o u)
 i:∀ b C dx fs,H b=some (.ins C dx fs)→H' b=some (.ins C dx fs)
 l:∀ b xs,S b→H b=some (.lst xs)→H' b=some (.lst xs)
theorem Stays.of{S:Addr→Prop}{H H':Hp}(sm:Same H H'):Stays S H H':=⟨fun b xs h=>sm _ _ h,fun b o u h=>sm _ _ h,fun b C dx fs h=>sm _ _ h,fun b xs _ h=>sm _ _ h⟩
theorem Stays.upd{S:Addr→Prop}{H:Hp}{p:Addr}{xs:List V}{o:HO}(h:H p=some (.lst xs))(hS:¬ S p):Stays S H (upd H p o):=
  ⟨fun b xs e=>by rw[ap (cm e h (fun z=>nomatch z))]; exact e,fun b o u e=>by rw[ap (cm e h (fun z=>nomatch z))]; exact e,fun b C dx fs e=>by rw[ap (cm e h (fun z=>nomatch z))]; exact e,
   fun b xs hb e=>by rw[ap (show b≠p from fun z=>hS (z ▸ hb))]; exact e⟩
theorem SqT.stays{K:PySem.W.Frag}{S:Addr→Prop}{H H':Hp}{a:Addr}{xs:List V}(h:SqT K H a xs)(st:Stays S H H'):SqT K H' a xs:=by
 rcases h with (h | ⟨o,h⟩) | h
 ·exact .inl (.inl (st.t _ _ h))
 ·exact .inl (.inr ⟨o,st.z _ _ _ h⟩)
 ·exact .inr h
theorem SqT.updI{K:PySem.W.Frag}{H:Hp}{a x C dx:Addr}{xs:List V}{fs:List (Str × V)}{o:HO}(h:SqT K H a xs)(hx:H x=some (.ins C dx fs)):SqT K (upd H x o) a xs:=by
 rcases h with (h | ⟨o',h⟩) | h
 ·exact .inl (.inl (by rw[ap (cm h hx (fun z=>nomatch z))]; exact h))
 ·exact .inl (.inr ⟨o',by rw[ap (cm h hx (fun z=>nomatch z))]; exact h⟩)
 ·exact .inr h
theorem nstpAt.imp{K:PySem.W.Frag}{C:Addr}{f:List ak→Nat}{S S':Addr→Prop}{PA PA':Addr→Nat→List ak→Prop}{H H':Hp}{a:Addr}{l:Nat}{s:ak}(h:nstpAt K C f S PA H a l s)(st:Stays S H H')(hS:∀ b,S b→S' b)(hp:∀ q l b,PA q l b→PA' q l b):nstpAt K C f S' PA' H' a l s:=by
 obtain⟨dx,pp,lp,bp,bs,h1,h2,h3,h4,h5,h6,h7⟩:=h
 exact⟨dx,pp,lp,bp,bs,st.i _ _ _ _ h1,SqT.stays h2 st,hS _ h3,st.l _ _ h3 h4,hS _ h5,st.l _ _ h5 h6,Paired.imp' (fun q z y=>hp _ _ _ y) h7⟩
theorem NumAt.imp{K:PySem.W.Frag}{C:Addr}{S S':Addr→Prop}{H H':Hp}(st:Stays S H H')(hS:∀ b,S b→S' b):∀ (d:Nat) {p:Addr} {l:Nat} {T:List ak},NumAt K C S d H p l T→NumAt K C S' d H' p l T
 | 0,_,_,_,h=>h.elim
 | d+1,p,l,T,⟨h0,as,h1,h2⟩=>⟨hS _ h0,as,st.l _ _ h0 h1,Paired.imp' (fun a z y=>y.imp st hS fun q l b y'=>NumAt.imp st hS d y') h2⟩
theorem NumAt.mono{K:PySem.W.Frag}{C:Addr}{S:Addr→Prop}{H H':Hp}{d:Nat}{p:Addr}{l:Nat}{T:List ak}(h:NumAt K C S d H p l T)(sm:Same H H'):NumAt K C S d H' p l T:=h.imp (Stays.of sm) (fun _ z=>z) d
theorem nstpAt.mono{K:PySem.W.Frag}{C:Addr}{S:Addr→Prop}{H H':Hp}{d:Nat}{a:Addr}{l:Nat}{s:ak}(h:nstpAt K C (ah d) S (NumAt K C S d H) H a l s)(sm:Same H H'):nstpAt K C (ah d) S (NumAt K C S d H') H' a l s:=
 h.imp (Stays.of sm) (fun _ z=>z) fun q l b y=>y.mono sm
theorem oU{α : Type}{xs:List α}{x:α}(h:xs.getLast? = some x):cu xs (-1)=some x:=by
 rcases List.eq_nil_or_concat xs with rfl | ⟨ys,y,rfl⟩
 ·simp at h
 ·have e:y=x:=by simpa using h
  subst e
  have e:gv (ys++[y]).length (-1)=some ys.length:=by
   unfold gv
   simp only[List.length_append,List.length_cons,List.length_nil]
   split <;> simp_all <;> omega
  unfold cu
  rw[List.concat_eq_append,e]
  simp
theorem fX{ns:List Nat}{n:Nat}(h:ns.getLast? = some n):cu (dG ns) (-1)=some (.int n):=oU (by unfold dG; rw[List.getLast?_map,h]; rfl)
theorem dv{ns:List Nat}{i n:Nat}(h:ns[i]? = some n):cu (dG ns) i=some (.int n):=aX (by unfold dG; rw[List.getElem?_map,h]; rfl)
theorem oV(d:Nat):∀ T:List ak,T.length≤ah (d+1) T
 | []=>Nat.zero_le _
 | s::T=>by
  have:=oV d T
  have h1:=(i_ (f:=ah d) (l:=0) (s:=s)).2
  show T.length+1≤aU (ah d) s+ah (d+1) T
  omega
theorem jQ{d:Nat}:∀ {T:List ak} {s:ak},s∈T→aU (ah d) s≤ah (d+1) T
 | [],_,h=>by cases h
 | t::T,s,h=>by
  show aU (ah d) s≤aU (ah d) t+ah (d+1) T
  rcases List.mem_cons.mp h with rfl | h
  ·omega
  ·have:=jQ (d:=d) h; omega
theorem mq{d i:Nat}{T:List ak}:ah (d+1) (T.take i)≤ah (d+1) T:=by
 have e:ah (d+1) T=ah (d+1) (T.take i)+ah (d+1) (T.drop i):=by
  show (T.map _).sum=((T.take i).map _).sum+((T.drop i).map _).sum
  rw[← List.sum_append,← List.map_append,List.take_append_drop]
 omega
theorem xD{f:List ak→Nat}{l:Nat}:∀ {s:ak} {z:Nat × List ak},z∈cf f l s→f z.2≤aU f s
 | .plain _,z,h=>by cases h
 | .lend _ _ b,z,h=>by simp[cf]at h; subst h; simp[aU]
 | .ite _ b c,z,h=>by
  simp[cf]at h
  rcases h with rfl | rfl <;> simp[aU] <;> omega
 | .whl _ b,z,h=>by simp[cf]at h; subst h; simp[aU]
theorem vJ(f:List ak→Nat)(l:Nat)(s:ak):(cf f l s).length≤2:=by cases s <;> simp[cf]
theorem yf{PA:Addr→List ak→Prop}{H:Hp}{a:Addr}{f:List ak→Nat}{g:List ak→Prop}{l:Nat}:∀ {s:ak},stpAt PA H a s→nh g s→∃ bs:List Addr,H a=some (.tup (.str (kindOf s)::(cP s++bs.map V.ref)))∧bs.length=(aV (kindOf s)).length∧Paired (fun q (z:Nat × List ak)=>PA q z.2∧g z.2) bs (cf f l s)
 | .plain ws,h,ok=>by
  have hw:ws≠[]:=fun e=>by have:=ok.two; rw[e]at this; simp at this
  obtain⟨k,r,rfl⟩:=List.exists_cons_of_ne_nil hw
  have hk:k∈cB:=ok.kind
  refine⟨[],?_,?_,.nil⟩
  ·show H a=some (.tup (.str k::(r.map V.str++[])))
   rw[List.append_nil]; exact h
  ·show 0=(aV k).length
   revert hk; unfold cB
   intro hk
   simp only[List.mem_cons,List.not_mem_nil,or_false]at hk
   rcases hk with rfl | rfl | rfl | rfl | rfl <;> decide
 | .lend x y b,⟨q,h,z⟩,⟨_,_,o⟩=>⟨[q],h,by show 1=(aV "lend").length; decide,.cons ⟨z,o⟩ .nil⟩
 | .ite n b c,⟨q,r,h,z,y⟩,⟨_,o,o'⟩=>⟨[q,r],h,by show 2=(aV "if").length; decide,.cons ⟨z,o⟩ (.cons ⟨y,o'⟩ .nil)⟩
 | .whl n b,⟨q,h,z⟩,⟨_,o⟩=>⟨[q],h,by show 1=(aV "while").length; decide,.cons ⟨z,o⟩ .nil⟩
def jC(K:PySem.W.Frag)(C:Addr):Sp:=fun vs H Q _=>∃ (x dx hp:Addr) (k:Str) (ps:List V) (lp bp:Addr),vs=[.ref x,.ref hp,.ref lp,.ref bp]∧H x=some (.ins C dx [])∧SqT K H hp (.str k::ps)∧
 ∀ (pp:Addr) (H':Hp),(∀ b o,H b=some o→b≠x→H' b=some o)→H' x=some (.ins C dx (nF k pp lp bp))→SqT K H' pp ps→Q .non H'
def ga(K:PySem.W.Frag)(C:Addr):Sp:=fun vs H Q _=>∃ (p:Addr) (l d:Nat) (T:List ak) (S:Addr→Prop),vs=[.ref p,.int (l:Int)]∧NumAt K C S (d+1) H p l T∧ah (d+1) T≤10000∧Q (.int ((l+ah (d+1) T:Nat):Int)) H
def Aq(K:PySem.W.Frag)(C:Addr)(d:Nat):Sp:=fun vs H Q _=>∃ (a:Addr) (l:Nat) (s:ak) (S:Addr→Prop),vs=[.ref a,.int (l:Int)]∧stpAt (ProgAt S d H) H a s∧nh (dA d) s∧aU (ah d) s≤10000∧
 ∀ (q:Addr) (H':Hp),Same H H'→nstpAt K C (ah d) (fun b=>H b=none) (NumAt K C (fun b=>H b=none) d H') H' q l s→Q (.ref q) H'
def mf(K:PySem.W.Frag)(C:Addr)(d:Nat):Sp:=fun vs H Q _=>∃ (p:Addr) (l:Nat) (T:List ak) (S:Addr→Prop),vs=[.ref p,.int (l:Int)]∧ProgAt S d H p T∧dA d T∧ah d T≤10000∧
 ∀ (q:Addr) (H':Hp),Same H H'→NumAt K C (fun b=>H b=none) d H' q l T→Q (.ref q) H'
section
variable{P:Program}{w:World}{K:PySem.W.Frag}{mg:Str→Option Value}{base:Heap}{CN:Addr}
theorem u5(D:MakeAt K mg "NumberedStep" CN "NumberedStep.__init__" aI) (a_kind:Fl K CN "kind") (a_parts:Fl K CN "parts") (a_lines:Fl K CN "lines") (a_blocks:Fl K CN "blocks") :
  mT P w K mg base 1 "NumberedStep" CN ["self", "head", "lines", "blocks"] (jC K CN):=by
 refine D.mkal (k:=0) e_ (fun _ _ _ _ _ _ us hl=>match us,hl with | [_,_,_,_],_=>rfl) (fun vs H Q E h=>by obtain⟨x,dx,hp,k,ps,lp,bp,rfl,_⟩:=h; rfl) (fun f cdv A outer s H vs Q E hr h=>?_)
 obtain⟨x,dx,hp,k,ps,lp,bp,rfl,hx,hh,q⟩:=h
 refine⟨_,(aj (g0 a_kind (pv 0 (hv:=wz)) (av (aG K) (pv 1 (hv:=A6)) ai (fun _ _=>rfl)))
   (aj (g0 a_parts (pv 0 (hv:=wz)) (fj (ia K) (pv 1 (hv:=A6)) (eP ai) h9))
   (aj (g0 a_lines (pv 0 (hv:=wz)) (pv 2 (hv:=Er)))
   (am (g0 a_blocks (pv 0 (hv:=wz)) (pv 3 (hv:=EB))))))),?_⟩
 walk_at "rd1"
 refine⟨_,_,.inr hh,cG,dx,_,hx,by decide,?_⟩
 generalize hH1:upd H x _=H1
 have e1:H1 x=some (.ins CN dx [("kind", .str k)]):=by rw[← hH1,ae]; walk_at "pf"
 have k1:∀ b o,H b=some o→b≠x→H1 b=some o:=fun b o e n=>by rw[← hH1,ap n]; exact e
 have hh1:SqT K H1 hp (.str k::ps):=by rw[← hH1]; exact SqT.updI hh hx
 walk_at "nx"
 refine fZ hh1 fun pp H2 sm2 hpp=>?_
 have ec:cW (V.str k::ps) (some 1) none=ps:=gY _ 1
 rw[ec]at hpp
 refine⟨dx,_,sm2 _ _ e1,by simp,?_⟩
 generalize hH3:upd H2 x _=H3
 have e3:H3 x=some (.ins CN dx [("kind", .str k),("parts", .ref pp)]):=by rw[← hH3,ae]; walk_at "pf"
 have k3:∀ b o,H2 b=some o→b≠x→H3 b=some o:=fun b o e n=>by rw[← hH3,ap n]; exact e
 have hp3:SqT K H3 pp ps:=by rw[← hH3]; exact SqT.updI hpp (sm2 _ _ e1)
 walk_at "nx"
 refine⟨dx,_,e3,by simp,?_⟩
 generalize hH4:upd H3 x _=H4
 have e4:H4 x=some (.ins CN dx [("kind", .str k),("parts", .ref pp),("lines", .ref lp)]):=by rw[← hH4,ae]; walk_at "pf"
 have k4:∀ b o,H3 b=some o→b≠x→H4 b=some o:=fun b o e n=>by rw[← hH4,ap n]; exact e
 have hp4:SqT K H4 pp ps:=by rw[← hH4]; exact SqT.updI hp3 e3
 walk_at "nx"
 refine⟨dx,_,e4,by simp,?_⟩
 refine q pp _ (fun b o e n=>?_) ?_ (SqT.updI hp4 e4)
 ·rw[ap n]; exact k4 _ _ (k3 _ _ (sm2 _ _ (k1 _ _ e n)) n) n
 ·rw[ae]; unfold nF; walk_at "pf"
theorem sQ(D:DefAt K mg "line_behind" bQ) (z_len:mg "len" = none) (a_lines:Fl K CN "lines"):aQ P w K mg base 1 "line_behind" ["steps", "line"] (ga K CN):=by
 refine D.cal (k:=0) jH (fun _ _ _ _ _ _ us hl=>match us,hl with | [_,_],_=>rfl) (fun vs H Q E h=>by obtain⟨p,l,d,T,S,rfl,_⟩:=h; rfl) (fun f cdv A outer s H vs Q E hr h=>?_)
 obtain⟨p,l,d,T,S,rfl,⟨h0,as,h1,h2⟩,hz,q⟩:=h
 have hlen:=aC h2
 rw[ef]at hlen
 refine⟨_,(am (aN (vU (bi bY (bw (aW K) z_len bH (aa (pv 0 (hv:=A8)) ac) (hg:=DJ)) ai (bt _)) (pv 1 (hv:=ED)) (ar aD (av (aG K) (br a_lines (av (aG K) (pv 0 (hv:=A8)) (eK dL ai) (fun _ _=>rfl))) (eK dL ai) (fun _ _=>rfl)) ai)))),?_⟩
 walk_at "rd1"
 refine⟨_,.inl (SqL.of h1),?_⟩
 rw[List.length_map,hlen]
 rcases List.eq_nil_or_concat T with rfl | ⟨T',t,rfl⟩
 ·refine ck (fun c=>?_) (fun c=>absurd rfl c)
  exact q
 ·rw[List.concat_eq_append]at *
  refine ck (fun c=>absurd c (by rw[List.length_append]; simp; omega)) (fun c=>?_)
  rw[gS]at h2
  rcases List.eq_nil_or_concat as with rfl | ⟨as',a,rfl⟩
  ·have:=aC h2; simp at this
  rw[List.concat_eq_append]at *
  have hl':as'.length=T'.length:=by simpa using hlen
  have h3:nstpAt K CN (ah d) S (NumAt K CN S d H) H a (l+(T'.map (aU (ah d))).sum) t:=by
   obtain⟨z,hz1,hz2⟩:=bP h2 (i:=as'.length) (x:=a) (by simp)
   rw[List.getElem?_append_right (by rw[ef]; omega),ef,hl']at hz1
   simp at hz1
   subst hz1; exact hz2
  obtain⟨dx,pp,lp,bp,bs,g1,g2,g3,g4,g5,g6,g7⟩:=h3
  obtain⟨g8,g9⟩:=i_ (f:=ah d) (l:=l+(T'.map (aU (ah d))).sum) (s:=t)
  walk_at "rd1"
  refine⟨_,_,.inl (SqL.of h1),oU (x:=V.ref a) (by simp),?_⟩
  refine⟨a,rfl,dx,_,_,g1,cV _ _ _ _,?_⟩
  walk_at "rd1"
  refine⟨_,_,.inl (SqL.of g4),fX g8,?_⟩
  walk_at "rd1"
  have e:((l+(T'.map (aU (ah d))).sum+aU (ah d) t - 1:Nat):Int)+1=((l+ah (d+1) (T'++[t]):Nat):Int):=by
   have:ah (d+1) (T'++[t])=(T'.map (aU (ah d))).sum+aU (ah d) t:=by show ((T'++[t]).map _).sum=_; simp
   omega
  rw[e]; exact q
theorem y3(D:DefAt K mg "numbered_step" ay) (c_head_of:aQ P w K mg base 2 "head_of" ["step"] (gF K)) (c_blocks_of:aQ P w K mg base 3 "blocks_of" ["step"] (fe K)) (c_line_behind:aQ P w K mg base 1 "line_behind" ["steps", "line"] (ga K CN))
  (k_NumberedStep:mT P w K mg base 1 "NumberedStep" CN ["self", "head", "lines", "blocks"] (jC K CN)) {d:Nat} (c_numbered_steps:aQ P w K mg base (2 * d+4) "numbered_steps" ["steps", "line"] (mf K CN d)) :
  aQ P w K mg base (2 * d+5) "numbered_step" ["step", "line"] (Aq K CN d):=by
 refine D.cal (k:=2 * d+4) sc_numbered_step (fun _ _ _ _ _ _ us hl=>match us,hl with | [_,_],_=>rfl) (fun vs H Q E h=>by obtain⟨a,l,s,S,rfl,_⟩:=h; rfl) (fun f cdv A outer sh H vs Q E hr h=>?_)
 obtain⟨a,l,s,S,rfl,h1,ok,hz,q⟩:=h
 obtain⟨bs,b1,b2,b3⟩:=yf (f:=ah d) (l:=l) h1 ok
 refine⟨_,(aj (aw 2 sc_numbered_step.nd (bd (aa (pv 1 (hv:=DP)) ac)) (hx:=EN))
   (aj (aw 3 sc_numbered_step.nd (bd ac) (hx:=D4))
   (aj (cA PassesOwn.never rfl (g_ K (aB c_blocks_of hr (aa (pv 0 (hv:=AX)) ac) (hg:=Eg) (hle:=by omega))) (bC 4 sc_numbered_step.nd (hx:=Ez)) (aj (aw 5 sc_numbered_step.nd (aB c_numbered_steps hr (aa (pv 4 (hv:=D6)) (aa (ar aD (av (aG K) (pv 2 (hv:=w_)) (eK dL ai) (fun _ _=>rfl)) ai) ac)) (hg:=E5) (hle:=by omega)) (hx:=ET))
   (aj (bD (b5 K PySem.F.plainAttrs_list PySem.F.slot_list_append PySem.F.type_list_append bX (pv 3 (hv:=A4)) (aa (pv 5 (hv:=Be)) ac)))
   (am (bD (b5 K PySem.F.plainAttrs_list PySem.F.slot_list_append PySem.F.type_list_append bX (pv 2 (hv:=w_)) (aa (aB c_line_behind hr (aa (pv 5 (hv:=Be)) (aa (ar aD (av (aG K) (pv 2 (hv:=w_)) (eK dL ai) (fun _ _=>rfl)) ai) ac)) (hg:=Du) (hle:=by omega)) ac)))))))
   (am (aN (Au k_NumberedStep hr (aa (aB c_head_of hr (aa (pv 0 (hv:=AX)) ac) (hg:=E3) (hle:=by omega)) (aa (pv 2 (hv:=w_)) (aa (pv 3 (hv:=A4)) ac))) (hg:=EL) (hle:=by omega))))))),?_⟩
 walk_at "rd1"
 refine⟨by decide,fun lp hlp=>?_⟩
 generalize hA:upd H lp _=HA
 have sA:=eR hA hlp
 have eA:=hJ hA
 walk_at "nx"
 refine⟨by decide,fun bp hbp=>?_⟩
 generalize hB:upd HA bp _=HB
 have sB:=eR hB hbp
 have eB:=hJ hB
 have sAB:=sA.trans sB
 have hcl:(aV (kindOf s)).length≤(cP s++bs.map V.ref).length+1:=by rw[List.length_append,List.length_map,b2]; omega
 have hcut:(cP s++bs.map V.ref).length+1 - (aV (kindOf s)).length=(cP s).length+1:=by rw[List.length_append,List.length_map,b2]; omega
 walk_at "nx"
 refine⟨a,kindOf s,_,rfl,SqT.of (sAB _ _ b1),hcl,fun tp HC sC htp=>?_⟩
 rw[hcut]at htp
 have etk:(V.str (kindOf s)::(cP s++bs.map V.ref)).drop ((cP s).length+1)=bs.map V.ref:=by rw[List.drop_succ_cons,List.drop_left']; rfl
 rw[etk]at htp
 walk_at "rd1"
 refine⟨⟨_,htp⟩,?_⟩
 have hbl:=aC b3
 have hb2:=vJ (ah d) l s
 have nlb:lp≠bp:=fun z=>by rw[← z]at hbp; rw[hbp]at eA; cases eA
 refine nr (xs:=bs.map V.ref) (fun j σ H'=>∃ (o4 o5:Option V) (qs:List Addr),σ=[some (.ref a),some (.int (l:Int)),some (.ref lp),some (.ref bp),o4,o5]∧Same H H'∧SqT K H' tp (bs.map V.ref)∧H' lp=some (.lst (dG ((cg (ah d) l s).take (j+1))))∧H' bp=some (.lst (qs.map V.ref))∧
   (∀ b,H' b=none→HC b=none)∧Paired (fun q (z:Nat × List ak)=>NumAt K CN (fun b=>HC b=none) d H' q z.1 z.2) qs ((cf (ah d) l s).take j))
  ⟨none,none,[],rfl,sAB.trans sC,htp,by rw[sC _ _ (sB _ _ eA)]; simp[dG,cg],by rw[sC _ _ eB]; rfl,fun b h=>h,.nil⟩ (fun j σ H' _ h=>by obtain⟨_,_,_,_,_,z,_⟩:=h; exact z) ?_ ?_
 ·rintro j v σ H' hv ⟨o4,o5,qs,rfl,sm,ht',hl',hb',hfr,hp'⟩
  have hj:j<bs.length:=by have:=(List.getElem?_eq_some_iff.mp hv).1; simpa using this
  rw[List.getElem?_map,List.getElem?_eq_getElem hj]at hv
  cases hv
  obtain⟨z,hz1,hz2,hz3⟩:=bP b3 (List.getElem?_eq_getElem hj)
  obtain⟨y,hy1,hy2⟩:=vw hz1
  have hylast:((cg (ah d) l s).take (j+1)).getLast? = some y:=by
   rw[List.take_add_one,hy1]; simp
  have hcnt:=xD (List.mem_of_getElem? hz1)
  walk_at "rd1"
  refine⟨_,_,.inl (SqL.of hl'),fX hylast,?_⟩
  walk_at "rd1"
  have ey:(y:Int)+1=((z.1:Nat):Int):=by omega
  rw[ey]
  refine⟨bs[j],z.1,z.2,S,rfl,hz2.mono sm,hz3,by omega,fun q' HD sD hq'=>?_⟩
  have qlen:=aC hp'
  rw[List.length_take]at qlen
  walk_at "nx"
  refine⟨⟨_,SqL.of (sD _ _ hb')⟩,_,sD _ _ hb',ce (by rw[List.length_map]; omega),?_⟩
  generalize hE:upd HD bp _=HE
  have stE:Stays (fun b=>H' b=none) HD HE:=by rw[← hE]; exact Stays.upd (sD _ _ hb') (fun z=>by rw[hb']at z; cases z)
  have hqE:=NumAt.imp (S':=fun b=>H' b=none) stE (fun _ z=>z) d hq'
  have eE:HE bp=some (.lst (qs.map V.ref++[V.ref q'])):=by rw[← hE,ae]
  have lE:HE lp=some (.lst (dG ((cg (ah d) l s).take (j+1)))):=by rw[← hE,ap nlb]; exact sD _ _ hl'
  walk_at "nx"
  refine⟨⟨_,SqL.of lE⟩,_,_,.inl (SqL.of lE),fX hylast,?_⟩
  walk_at "rd1"
  rw[ey]
  have hC1:∀ b,H' b=none→HC b=none:=hfr
  have hqC:=NumAt.imp (S':=fun b=>HC b=none) (Stays.of (Same.refl HE)) hC1 d hqE
  cases d with
  | zero=>exact hqE.elim
  | succ d=>
  refine⟨q',z.1,d,z.2,_,rfl,hqE,by omega,?_⟩
  refine⟨_,lE,ce (by unfold dG; rw[List.length_map,List.length_take]; omega),?_⟩
  generalize hF:upd HE lp _=HF
  have lpC:HC lp=some (.lst (dG [l])):=by rw[sC _ _ (sB _ _ eA)]; simp[dG]
  have bpC:HC bp=some (.lst []):=sC _ _ eB
  have stF:Stays (fun b=>HC b=none) HE HF:=by rw[← hF]; exact Stays.upd lE (fun z=>by rw[lpC]at z; cases z)
  have stE':Stays (fun b=>HC b=none) HD HE:=by rw[← hE]; exact Stays.upd (sD _ _ hb') (fun z=>by rw[bpC]at z; cases z)
  have up:∀ {p:Addr} {l:Nat} {T:List ak},NumAt K CN (fun b=>HC b=none) (d+1) H' p l T→NumAt K CN (fun b=>HC b=none) (d+1) HF p l T:=fun z=>NumAt.imp stF (fun _ y=>y) _ (NumAt.imp stE' (fun _ y=>y) _ (z.mono sD))
  refine⟨_,_,qs++[q'],rfl,?_,?_,?_,?_,?_,?_⟩
  ·rw[← hF,← hE]; exact((sm.trans sD).upd (sA.free hbp) _).upd hlp _
  ·exact SqT.stays (SqT.stays (ht'.same sD) stE') stF
  ·rw[← hF,ae]
   have:(cg (ah (d+1)) l s)[j+1]? = some (z.1+ah (d+1) z.2):=by
    unfold cg
    rw[List.getElem?_cons_succ,List.getElem?_map,hz1]; rfl
   unfold dG
   rw[List.take_add_one (i:=j+1),this,List.map_append]; rfl
  ·rw[← hF,ap nlb.symm,eE,List.map_append]; rfl
  ·intro b hb
   refine hfr b (sD.free ?_)
   rw[← hF,← hE]at hb
   by_cases e1:b=lp
   ·rw[e1,ae]at hb; cases hb
   ·rw[ap e1]at hb
    by_cases e2:b=bp
    ·rw[e2,ae]at hb; cases hb
    ·rw[ap e2]at hb; exact hb
  ·rw[List.take_add_one,hz1]
   exact eh (R:=fun q (z:Nat × List ak)=>NumAt K CN (fun b=>HC b=none) (d+1) HF q z.1 z.2) (NumAt.imp stF (fun _ y=>y) _ hqC) (Paired.imp' (fun q z y=>up y) hp')
 ·rintro σ H' ⟨o4,o5,qs,rfl,sm,ht',hl',hb',hfr,hp'⟩
  rw[List.length_map,hbl,List.take_length]at hp'
  have hll:(cg (ah d) l s).take ((bs.map V.ref).length+1)=cg (ah d) l s:=by
   rw[List.take_of_length_le]; unfold cg; rw[List.length_cons,List.length_map,List.length_map,hbl]; exact Nat.le_refl _
  rw[hll]at hl'
  walk_at "nx"
  refine⟨a,kindOf s,_,rfl,SqT.of (sm _ _ b1),hcl,fun hp HD sD hhp=>?_⟩
  rw[hcut]at hhp
  have etk2:(V.str (kindOf s)::(cP s++bs.map V.ref)).take ((cP s).length+1)=V.str (kindOf s)::cP s:=by rw[List.take_succ_cons,List.take_left']; rfl
  rw[etk2]at hhp
  walk_at "rd1"
  intro x dx hx hdx ndx
  generalize hM:upd (upd HD dx (.own x)) x (.ins CN dx [])=HM
  have sM:Same HD HM:=by rw[← hM]; exact(af hdx (.own x)).upd hx _
  have eM:HM x=some (.ins CN dx []):=by rw[← hM,ae]
  refine⟨x,dx,hp,kindOf s,cP s,lp,bp,rfl,eM,hhp.same sM,fun pp HN kN eN hpp=>⟨rfl,?_⟩⟩
  have sN:Same HD HN:=fun b o e=>kN b o (sM _ _ e) (au e hx)
  have sHN:Same H HN:=(sm.trans sD).trans sN
  have hCH:∀ b,HC b=none→H b=none:=fun b z=>(sAB.trans sC).free z
  refine q x HN sHN ⟨dx,pp,lp,bp,qs,eN,hpp,hlp,sN _ _ (sD _ _ hl'),sA.free hbp,sN _ _ (sD _ _ hb'),?_⟩
  exact Paired.imp' (fun q z y=>NumAt.imp (Stays.of (sD.trans sN)) hCH d y) hp'
theorem pJ(D0:DefAt K mg "numbered_step" ay) (D:DefAt K mg "numbered_steps" aP) (c_head_of:aQ P w K mg base 2 "head_of" ["step"] (gF K)) (c_blocks_of:aQ P w K mg base 3 "blocks_of" ["step"] (fe K)) (c_line_behind:aQ P w K mg base 1 "line_behind" ["steps", "line"] (ga K CN))
  (k_NumberedStep:mT P w K mg base 1 "NumberedStep" CN ["self", "head", "lines", "blocks"] (jC K CN)):∀ d:Nat,aQ P w K mg base (2 * d+4) "numbered_steps" ["steps", "line"] (mf K CN d)
 | 0=>D.cal (k:=3) sc_numbered_steps (fun _ _ _ _ _ _ us hl=>match us,hl with | [_,_],_=>rfl) (fun vs H Q E h=>by obtain⟨p,l,T,S,rfl,_⟩:=h; rfl) (fun f cdv A outer s H vs Q E hr h=>by obtain⟨p,l,T,S,rfl,z,_⟩:=h; exact z.elim)
 | d+1=>by
  have c_numbered_step:=y3 D0 c_head_of c_blocks_of c_line_behind k_NumberedStep (pJ D0 D c_head_of c_blocks_of c_line_behind k_NumberedStep d)
  refine D.cal (k:=2 * d+5) sc_numbered_steps (fun _ _ _ _ _ _ us hl=>match us,hl with | [_,_],_=>rfl) (fun vs H Q E h=>by obtain⟨p,l,T,S,rfl,_⟩:=h; rfl) (fun f cdv A outer s H vs Q E hr h=>?_)
  obtain⟨p,l,T,S,rfl,⟨h0,as,h1,h2⟩,ok,hz,q⟩:=h
  have hlen:=aC h2
  have hTl:=oV d T
  refine⟨_,(aj (aw 2 sc_numbered_steps.nd (bd ac) (hx:=DH))
   (aj (cA PassesOwn.never rfl (dn K (pv 0 (hv:=Ew))) (bC 3 sc_numbered_steps.nd (hx:=En)) (am (bD (b5 K PySem.F.plainAttrs_list PySem.F.slot_list_append PySem.F.type_list_append bX (pv 2 (hv:=ym)) (aa (aB c_numbered_step hr (aa (pv 3 (hv:=D_)) (aa (aB c_line_behind hr (aa (pv 2 (hv:=ym)) (aa (pv 1 (hv:=DR)) ac)) (hg:=E1) (hle:=by omega)) ac)) (hg:=Dz) (hle:=by omega)) ac)))))
   (am (aN (pv 2 (hv:=ym)))))),?_⟩
  walk_at "rd1"
  refine⟨by decide,fun lp hlp=>?_⟩
  generalize hA:upd H lp _=HA
  have sA:=eR hA hlp
  have eA:=hJ hA
  walk_at "nx"
  refine⟨⟨_,SqL.of (sA _ _ h1)⟩,?_⟩
  have lpA:¬ HA lp=none:=fun z=>by rw[eA]at z; cases z
  refine cR (xs:=as.map V.ref) (fun i σ H'=>∃ (o3:Option V) (ns:List Addr),σ=[some (.ref p),some (.int (l:Int)),some (.ref lp),o3]∧Same H H'∧H' lp=some (.lst (ns.map V.ref))∧(∀ b,H' b=none→HA b=none)∧
    Paired (fun a (z:Nat × ak)=>nstpAt K CN (ah d) (fun b=>HA b=none) (NumAt K CN (fun b=>HA b=none) d H') H' a z.1 z.2) ns (dC (aU (ah d)) l (T.take i)))
   ⟨none,[],rfl,sA,eA,fun _ z=>z,.nil⟩ (fun i σ H' _ h=>by obtain⟨_,_,_,sm,_⟩:=h; exact SqL.of (sm _ _ h1)) ?_ ?_
  ·rintro i v σ H' hv ⟨o3,ns,rfl,sm,n1,nf,n2⟩
   have hi:i<as.length:=by have:=(List.getElem?_eq_some_iff.mp hv).1; simpa using this
   rw[List.getElem?_map,List.getElem?_eq_getElem hi]at hv
   cases hv
   obtain⟨s,hs,hsa⟩:=bP h2 (List.getElem?_eq_getElem hi)
   have hmem:=List.mem_of_getElem? hs
   have hct:=jQ (d:=d) hmem
   have hctk:=mq (d:=d) (i:=i) (T:=T)
   have nlen:=aC n2
   rw[ef,List.length_take]at nlen
   walk_at "rd1"
   refine⟨⟨_,SqL.of n1⟩,?_⟩
   refine⟨lp,l,d,T.take i,fun _=>True,rfl,⟨trivial,ns,n1,Paired.imp' (fun a z y=>y.imp (Stays.of (Same.refl H')) (fun _ _=>trivial) fun q l b y'=>NumAt.imp (Stays.of (Same.refl H')) (fun _ _=>trivial) d y') n2⟩,by omega,?_⟩
   refine⟨as[i],l+ah (d+1) (T.take i),s,S,rfl,?_,ok s hmem,by omega,fun q' HD sD hq'=>?_⟩
   ·exact stpAt.imp (fun b xs e=>sm _ _ e) (fun q b y=>y.mono sm) hsa
   refine⟨_,sD _ _ n1,ce (by rw[List.length_map]; omega),?_⟩
   generalize hE:upd HD lp _=HE
   have eE:HE lp=some (.lst ((ns++[q']).map V.ref)):=by rw[← hE,ae,List.map_append]; rfl
   have stE:Stays (fun b=>HA b=none) HD HE:=by rw[← hE]; exact Stays.upd (sD _ _ n1) lpA
   have hq2:nstpAt K CN (ah d) (fun b=>HA b=none) (NumAt K CN (fun b=>HA b=none) d HD) HD q' (l+ah (d+1) (T.take i)) s:=hq'.imp (Stays.of (Same.refl HD)) nf fun q l b y'=>NumAt.imp (Stays.of (Same.refl HD)) nf d y'
   have up:∀ {a:Addr} {l:Nat} {s:ak},nstpAt K CN (ah d) (fun b=>HA b=none) (NumAt K CN (fun b=>HA b=none) d HD) HD a l s→nstpAt K CN (ah d) (fun b=>HA b=none) (NumAt K CN (fun b=>HA b=none) d HE) HE a l s:=fun z=>z.imp stE (fun _ y=>y) fun q l b y'=>NumAt.imp stE (fun _ y=>y) d y'
   refine⟨_,ns++[q'],rfl,?_,eE,?_,?_⟩
   ·rw[← hE]; exact(sm.trans sD).upd hlp _
   ·intro b hb
    refine nf b (sD.free ?_)
    rw[← hE]at hb
    by_cases e1:b=lp
    ·rw[e1,ae]at hb; cases hb
    ·rw[ap e1]at hb; exact hb
   ·have et:T.take (i+1)=T.take i++[s]:=by rw[List.take_add_one,hs]; rfl
    rw[et,gS]
    exact eh (R:=fun a (z:Nat × ak)=>nstpAt K CN (ah d) (fun b=>HA b=none) (NumAt K CN (fun b=>HA b=none) d HE) HE a z.1 z.2) (up hq2) (Paired.imp' (fun a z y=>up (nstpAt.mono y sD)) n2)
  ·rintro σ H' ⟨o3,ns,rfl,sm,n1,nf,n2⟩
   rw[List.length_map,hlen,List.take_length]at n2
   walk_at "nx"
   have hAH:∀ b,HA b=none→H b=none:=fun b z=>sA.free z
   exact q lp H' sm ⟨hlp,ns,n1,Paired.imp' (fun a z y=>y.imp (Stays.of (Same.refl H')) hAH fun q l b y'=>NumAt.imp (Stays.of (Same.refl H')) hAH d y') n2⟩
end
section
variable{P:Program}{w:World}{K:PySem.W.Frag}{mg:Str→Option Value}{base:Heap}
abbrev aK:=List V
def b7(kv:List (aA × V))(k:aA):V:=(bE kv k).getD .non
def iN(n:Nat):V:=.int (n:Int)
def dy(kv:List (aA × V))(l:Nat)(ws:List Str):aK:=
 if ws.headD "" = "do" then [.str "do", iN l,b7 kv (.inr (ws.getD 2 "")),.str (ws.getD 1 "")] else .str (ws.headD "")::iN l::(ws.drop 1).map fun n=>b7 kv (.inr n)
section
variable(kv:List (aA × V))(f:Bool→Nat→Nat→List ak→List aK)(cnt:List ak→Nat)
def df(t:Bool)(a l:Nat)(x y:Str)(b:List ak):List aK:=
 [[.str "copy", iN l,b7 kv (.inl l),b7 kv (.inr x)],[.str "do", iN l,b7 kv (.inl l),.str "lend"],[.str "copy", iN l,b7 kv (.inr y),b7 kv (.inl l)]]++f t (a+3) (l+1) b ++
 [[.str "do", iN (l+1+cnt b),b7 kv (.inl l),.str "back"],[.str "drop", iN (l+1+cnt b),b7 kv (.inr y)],[.str "drop", iN (l+1+cnt b),b7 kv (.inl l)]]
def eC(t:Bool)(a l:Nat)(n:Int)(b c:List ak):List aK:=
 [[.str "test", iN l,.int n,iN (a+1+(f t (a+1) (l+1) b).length+1)]]++f t (a+1) (l+1) b ++
 [[.str "jump", iN (l+1+cnt b),iN (a+1+(f t (a+1) (l+1) b).length+1+(f t (a+1+(f t (a+1) (l+1) b).length+1) (l+1+cnt b+1) c).length)]]++f t (a+1+(f t (a+1) (l+1) b).length+1) (l+1+cnt b+1) c
def cC(a l:Nat)(n:Int)(b:List ak):List aK:=
 [[.str "test", iN l,.int n,iN (a+1+(f false (a+1) (l+1) b).length+1)]]++f false (a+1) (l+1) b++[[.str "jump", iN (l+1+cnt b),iN a]]
def bZ(t:Bool)(a l:Nat)(n:Int)(b:List ak):List aK:=
 if t=true then [[.str "test", iN l,.int n,iN (a+1+(f true (a+1) (l+1) b).length+(cC f cnt (a+1+(f true (a+1) (l+1) b).length) l n b).length)]]++f true (a+1) (l+1) b++cC f cnt (a+1+(f true (a+1) (l+1) b).length) l n b
 else cC f cnt a l n b
def bO(t:Bool)(a l:Nat):ak→List aK
 | .plain ws=>[dy kv l ws]
 | .lend x y b=>df kv f cnt t a l x y b
 | .ite n b c=>eC f cnt t a l n b c
 | .whl n b=>bZ f cnt t a l n b
end
def bK(g:Nat→Nat→ak→List aK)(c:ak→Nat):Nat→Nat→List ak→List aK
 | _,_,[]=>[]
 | a,l,s::T=>g a l s++bK g c (a+(g a l s).length) (l+c s) T
theorem iz(g:Nat→Nat→ak→List aK)(c:ak→Nat)(s:ak):∀ (T:List ak) (a l:Nat),bK g c a l (T++[s])=bK g c a l T++g (a+(bK g c a l T).length) (l+(T.map c).sum) s
 | [],a,l=>by simp[bK]
 | t::T,a,l=>by
  show g a l t++bK g c _ _ (T++[s])=(g a l t++bK g c _ _ T)++_
  have e:(bK g c a l (t::T)).length=(g a l t).length+(bK g c (a+(g a l t).length) (l+c t) T).length:=List.length_append
  rw[iz g c s T,List.append_assoc,e,List.map_cons,List.sum_cons,Nat.add_assoc,Nat.add_assoc]
def ao(kv:List (aA × V)):Nat→Bool→Nat→Nat→List ak→List aK
 | 0,_,_,_,_=>[]
 | d+1,t,a,l,T=>bK (bO kv (ao kv d) (ah d) t) (aU (ah d)) a l T
theorem fT{f:Bool→Nat→Nat→List ak→List aK}{cnt:List ak→Nat}{a l:Nat}{n:Int}{b:List ak}:(cC f cnt a l n b).length=(f false (a+1) (l+1) b).length+2:=by
 unfold cC; simp
theorem vP{kv:List (aA × V)}{f:Bool→Nat→Nat→List ak→List aK}{cnt:List ak→Nat}{m:Nat}(h0:∀ a l T,(f false a l T).length≤6 * cnt T)(h1:∀ a l T,(f true a l T).length≤6 * m * cnt T)(hm:1≤m):∀ (s:ak) (t:Bool) (a l:Nat),(bO kv f cnt t a l s).length≤(if t=true then 6 * (m+1) else 6) * aU cnt s
 | .plain ws,t,a,l=>by
  show 1≤_ * 1
  split <;> omega
 | .lend x y b,t,a,l=>by
  cases t with
  | false=>
   have:=h0 (a+3) (l+1) b
   show (df kv f cnt false a l x y b).length≤6 * (cnt b+2)
   unfold df
   simp only[List.length_append,List.length_cons,List.length_nil]
   omega
  | true=>
   have:=h1 (a+3) (l+1) b
   show (df kv f cnt true a l x y b).length≤6 * (m+1) * (cnt b+2)
   unfold df
   simp only[List.length_append,List.length_cons,List.length_nil]
   have e:6 * (m+1) * (cnt b+2)=6 * m * cnt b+6 * cnt b+12 * m+12:=by rw[Nat.mul_add 6 m 1,Nat.add_mul,Nat.mul_add,Nat.mul_add]; omega
   omega
 | .ite n b c,t,a,l=>by
  cases t with
  | false=>
   have:=h0 (a+1) (l+1) b
   have:=h0 (a+1+(f false (a+1) (l+1) b).length+1) (l+1+cnt b+1) c
   show (eC f cnt false a l n b c).length≤6 * (cnt b+cnt c+3)
   unfold eC
   simp only[List.length_append,List.length_cons,List.length_nil]
   omega
  | true=>
   have:=h1 (a+1) (l+1) b
   have:=h1 (a+1+(f true (a+1) (l+1) b).length+1) (l+1+cnt b+1) c
   show (eC f cnt true a l n b c).length≤6 * (m+1) * (cnt b+cnt c+3)
   unfold eC
   simp only[List.length_append,List.length_cons,List.length_nil]
   have e:6 * (m+1) * (cnt b+cnt c+3)=6 * m * cnt b+6 * m * cnt c+18 * m+6 * cnt b+6 * cnt c+18:=by rw[Nat.mul_add 6 m 1,Nat.add_mul,Nat.mul_add,Nat.mul_add,Nat.mul_add,Nat.mul_add]; omega
   omega
 | .whl n b,t,a,l=>by
  cases t with
  | false=>
   have:=h0 (a+1) (l+1) b
   show (bZ f cnt false a l n b).length≤6 * (cnt b+2)
   unfold bZ
   rw[if_neg (by decide),fT]
   omega
  | true=>
   have:=h1 (a+1) (l+1) b
   have:=h0 (a+1+(f true (a+1) (l+1) b).length+1) (l+1) b
   show (bZ f cnt true a l n b).length≤6 * (m+1) * (cnt b+2)
   unfold bZ
   rw[if_pos rfl]
   simp only[List.length_append,List.length_cons,List.length_nil,fT]
   have e:6 * (m+1) * (cnt b+2)=6 * m * cnt b+6 * cnt b+12 * m+12:=by rw[Nat.mul_add 6 m 1,Nat.add_mul,Nat.mul_add,Nat.mul_add]; omega
   omega
theorem nL{g:Nat→Nat→ak→List aK}{c:ak→Nat}{k:Nat}(h:∀ s a l,(g a l s).length≤k * c s):∀ (T:List ak) (a l:Nat),(bK g c a l T).length≤k * (T.map c).sum
 | [],_,_=>Nat.zero_le _
 | s::T,a,l=>by
  have:=h s a l
  have:=nL h T (a+(g a l s).length) (l+c s)
  show (g a l s++bK g c (a+(g a l s).length) (l+c s) T).length≤k * (c s+(T.map c).sum)
  rw[List.length_append,Nat.mul_add]; omega
theorem nA(kv:List (aA × V)):∀ (d:Nat) (a l:Nat) (T:List ak),(ao kv d false a l T).length≤6 * ah d T∧(ao kv d true a l T).length≤6 * (d+1) * ah d T
 | 0,_,_,_=>⟨Nat.zero_le _,Nat.zero_le _⟩
 | d+1,a,l,T=>by
  have ih:=nA kv d
  have st:=vP (kv:=kv) (f:=ao kv d) (cnt:=ah d) (m:=d+1) (fun a l T=>(ih a l T).1) (fun a l T=>(ih a l T).2) (by omega)
  exact⟨nL (k:=6) (fun s a l=>by have:=st s false a l; simpa using this) T a l,nL (k:=6 * (d+1+1)) (fun s a l=>by have:=st s true a l; simpa using this) T a l⟩
def aZ(H:Hp)(c:Addr)(r:aK):Prop:=H c=some (.tup r)
def db(ws:List Str):List Str:=if ws.headD "" = "do" then [ws.getD 2 ""] else ws.drop 1
def eY(kv:List (aA × V))(k:aA):Prop:=bE kv k=some (b7 kv k)
def j0(kv:List (aA × V))(f:Nat→List ak→Prop)(cnt:List ak→Nat)(l:Nat):ak→Prop
 | .plain ws=>(ws.headD "" = "do" → ws.length=3)∧∀ n∈db ws,eY kv (.inr n)
 | .lend x y b=>eY kv (.inr x)∧eY kv (.inr y)∧eY kv (.inl (l:Int))∧f (l+1) b
 | .ite _ b c=>f (l+1) b∧f (l+1+cnt b+1) c
 | .whl _ b=>f (l+1) b
def di(kv:List (aA × V)):Nat→Nat→List ak→Prop
 | 0,_,_=>False
 | d+1,l,T=>∀ z∈dC (aU (ah d)) l T,j0 kv (di kv d) (ah d) z.1 z.2
section
variable{CN:Addr}
def vG(K:PySem.W.Frag)(C:Addr):Sp:=fun vs H Q _=>∃ (a sp:Addr) (l:Nat) (ws:List Str) (kv:List (aA × V)) (S:Addr→Prop) (PA:Addr→Nat→List ak→Prop) (g:List ak→Nat) (f:Nat→List ak→Prop),vs=[.ref a,.ref sp]∧nstpAt K C g S PA H a l (.plain ws)∧fI ws∧H sp=some (.dK kv)∧j0 kv f g l (.plain ws)∧
 ∀ (t:Addr) (H':Hp),Same H H'→aZ H' t (dy kv l ws)→Q (.ref t) H'
theorem uv(D:DefAt K mg "simple_row" aY) (z_tuple:mg "tuple" = none) (a_kind:Fl K CN "kind") (a_parts:Fl K CN "parts") (a_lines:Fl K CN "lines"):aQ P w K mg base 1 "simple_row" ["step", "slots"] (vG K CN):=by
 refine D.cal (k:=0) sc_simple_row (fun _ _ _ _ _ _ us hl=>match us,hl with | [_,_],_=>rfl) (fun vs H Q E h=>by obtain⟨_,_,_,_,_,_,_,_,_,rfl,_⟩:=h; rfl) (fun f cdv A outer s H vs Q E hr h=>?_)
 obtain⟨a,sp,l,ws,kv,S,PA,g,ff,rfl,⟨dx,pp,lp,bp,bs,g1,g2,g3,g4,g5,g6,g7⟩,ok,esp,⟨hk3,hks⟩,q⟩:=h
 refine⟨_,(aj (aw 2 sc_simple_row.nd (av (aG K) (br a_lines (pv 0 (hv:=jT))) ai (fun _ _=>rfl)) (hx:=Ey))
   (aj (b6 (bi bY (br a_kind (pv 0 (hv:=jT))) ax (bt _)) (am (aN (bc (aa ax (aa (pv 2 (hv:=yJ)) (aa (av (mr K) (pv 1 (hv:=CA)) (av (aG K) (br a_parts (pv 0 (hv:=jT))) ai (fun _ _=>rfl)) (fun _ _=>rfl)) (aa (av (aG K) (br a_parts (pv 0 (hv:=jT))) ai (fun _ _=>rfl)) ac))))))) ci)
   (am (aN (ar (iH K) (bc (aa (br a_kind (pv 0 (hv:=jT))) (aa (pv 2 (hv:=yJ)) ac))) (fg (tL K) z_tuple vq (aa (h8 (CompSc.to (fsc:=(defScope aY)) (N:=["step", "slots", "line"]) (N0:=["step", "slots", "line"]) (T:=["name"]) ⟨by decide +kernel,by decide +kernel,by decide +kernel,by decide +kernel,by decide +kernel,by decide +kernel,by decide +kernel⟩ rfl rfl) rfl ((g_ K) (br a_parts (pv 0 (hv:=jT)))) (fun _ _ _ _=>(bC 3 (show (["step", "slots", "line", "name"]:List Str).Nodup from by decide +kernel) (hx:=(lN (defScope aY) (by decide +kernel))) (hf:=uB (defScope aY) (by decide +kernel)))) (eW (show (["step", "slots", "line"]:List Str).length≤3 from by decide)) (fun _ _ _ _=>iC) (fun _ _ _ _=>(av (mr K) (pv 1 (hv:=(eV (defScope aY) (by decide +kernel)))) (pv 3 (hv:=(eV (defScope aY) (by decide +kernel)))) (fun _ _=>rfl)))) ac) (hg:=E7))))))),?_⟩
 walk_at "rd1"
 refine⟨dx,_,_,g1,cV _ _ _ _,?_⟩
 walk_at "rd1"
 refine⟨_,_,.inl (SqL.of g4),dv (i:=0) (n:=l) rfl,?_⟩
 walk_at "nx"
 refine⟨dx,_,_,g1,dJ _ _ _ _,?_⟩
 walk_at "rd1"
 unfold dy at q
 unfold db at hks
 refine ck (fun c=>?_) (fun c=>?_)
 ·have hdo:ws.headD "" = "do" := c
  rw[if_pos hdo]at q hks
  obtain⟨k0,w0,x0,rfl⟩ : ∃ k w x,ws=[k,w,x]:=by
   have:=hk3 hdo
   match ws,this with
   | [k,w,x],_=>exact⟨k,w,x,rfl⟩
  have hx:=hks x0 (by simp)
  refine⟨dx,_,_,g1,dk _ _ _ _,?_⟩
  walk_at "rd1"
  refine⟨_,_,.inr g2,aX (j:=1) (v:=.str x0) rfl,?_⟩
  refine .inr ⟨sp,kv,.inr x0,_,rfl,rfl,esp,hx,?_⟩
  refine⟨dx,_,_,g1,dk _ _ _ _,?_⟩
  walk_at "rd1"
  refine⟨_,_,.inr g2,aX (j:=0) (v:=.str w0) rfl,by decide,fun t ht=>?_⟩
  exact q t _ (af ht _) ae
 ·have hdo:¬ ws.headD "" = "do" := c
  rw[if_neg hdo]at q hks
  walk_at "nx"
  refine⟨dx,_,_,g1,dJ _ _ _ _,by decide,fun t1 ht1=>?_⟩
  generalize hH1:upd H t1 _=H1
  have s1:Same H H1:=by rw[← hH1]; exact af ht1 _
  have et1:H1 t1=some (.tup [.str (kindOf (.plain ws)),iN l]):=by rw[← hH1]; exact ae
  refine⟨dx,_,_,s1 _ _ g1,dk _ _ _ _,?_⟩
  refine⟨pp,rfl,⟨_,g2.same s1⟩,fun L hL=>?_⟩
  have g2':SqT K H1 pp ((ws.drop 1).map V.str):=g2.same s1
  have esp1:=s1 _ _ esp
  refine kI (xs:=(ws.drop 1).map V.str) (fun i ys H'=>Same H1 H'∧H' L=some (.lst ys)∧ys=((ws.drop 1).take i).map fun n=>b7 kv (.inr n)) ⟨af hL _,ae,rfl⟩ (fun i ys H' _ hh=>g2'.same hh.1) ?_ ?_
  ·rintro i ys H' v hv hi ⟨sm,hl,rfl⟩
   rw[List.length_map]at hi
   rw[List.getElem?_map,List.getElem?_eq_getElem hi]at hv
   cases hv
   have hn:=hks _ (List.getElem_mem hi)
   have h3:=ok.three
   have hdl:(ws.drop 1).length≤3:=by rw[List.length_drop]; omega
   walk_at "rd1"
   refine .inr ⟨sp,kv,.inr (ws.drop 1)[i],_,rfl,rfl,sm _ _ esp1,hn,?_⟩
   refine rH (by rw[List.length_map]; exact hi) (by rw[List.length_map,List.length_take]; omega) (by rw[List.length_map]; exact bF (by omega)) hl ⟨sm.upd hL _,ae,?_⟩
   rw[List.take_add_one,List.getElem?_eq_getElem hi,List.map_append]; rfl
  ·rintro ys H2 ⟨s2,e2,rfl⟩
   rw[List.length_map,List.take_length]at e2
   have h2:=ok.two
   have h3:=ok.three
   have hdl:(ws.drop 1).length≤3∧1≤(ws.drop 1).length:=by rw[List.length_drop]; omega
   walk_at "rd1"
   refine⟨_,.inl ⟨SqL.of e2,fun t2 ht2=>?_⟩⟩
   have s3:=af ht2 (.tup ((ws.drop 1).map fun n=>b7 kv (.inr n)))
   have et2:upd H2 t2 (.tup ((ws.drop 1).map fun n=>b7 kv (.inr n))) t2=some (.tup ((ws.drop 1).map fun n=>b7 kv (.inr n))):=ae
   generalize upd H2 t2 (.tup ((ws.drop 1).map fun n=>b7 kv (.inr n)))=H3 at s3 et2 ⊢
   refine⟨_,_,SqT.of (s3 _ _ (s2 _ _ et1)),SqT.of et2,by simp,by rw[List.length_map]; exact bF (by simp only[List.length_cons,List.length_nil]; omega),fun hz=>?_,fun _ t3 ht3=>?_⟩
   ·have:=congrArg List.length hz
    rw[List.length_map]at this
    simp only[List.length_nil]at this
    omega
   ·exact q t3 _ (((s1.trans s2).trans s3).trans (af ht3 _)) ae
end
def ListR(H:Hp)(q:Addr)(rows:List aK):Prop:=∃ as:List Addr,H q=some (.lst (as.map V.ref))∧Paired (aZ H) as rows
theorem ListR.mono{H H':Hp}{q:Addr}{rows:List aK}(h:ListR H q rows)(s:Same H H'):ListR H' q rows:=let ⟨as,h1,h2⟩:=h; ⟨as,s _ _ h1,Paired.imp' (fun _ _ z=>s _ _ z) h2⟩
theorem dc{α β : Type}{R:α→β→Prop}:∀ {xs zs:List α} {ys us:List β},Paired R xs ys→Paired R zs us→Paired R (xs++zs) (ys++us)
 | _,_,_,_,.nil,h=>h
 | _,_,_,_,.cons a t,h=>.cons a (dc t h)
theorem cY{H:Hp}{x:Addr}{as bs:List Addr}{r1 r2:List aK}(a2:Paired (aZ H) as r1)(b2:Paired (aZ H) bs r2)(hx:H x=none):ListR (upd H x (.lst (as.map V.ref++bs.map V.ref))) x (r1++r2):=by
 have s:=af hx (.lst (as.map V.ref++bs.map V.ref))
 exact⟨as++bs,by rw[ae,List.map_append],dc (Paired.imp' (fun _ _ z=>s _ _ z) a2) (Paired.imp' (fun _ _ z=>s _ _ z) b2)⟩
theorem cK{H:Hp}{as bs:List Addr}{r1 r2:List aK}(a2:Paired (aZ H) as r1)(b2:Paired (aZ H) bs r2)(hl:r1.length+r2.length≤1000000):(as.map V.ref).length+(bs.map V.ref).length≤sizeLine:=by
 rw[List.length_map,List.length_map,aC a2,aC b2]; exact bF hl
theorem eT{H:Hp}{c x:Addr}{r:aK}(hc:aZ H c r)(hx:H x=none):ListR (upd H x (.lst [.ref c])) x [r]:=⟨[c],ae,.cons (af hx _ _ _ hc) .nil⟩
section
variable{CN:Addr}
def eQ(K:PySem.W.Frag)(C:Addr)(d:Nat):Sp:=fun vs H Q _=>∃ (p sp:Addr) (a l:Nat) (t:Bool) (T:List ak) (kv:List (aA × V)) (S:Addr→Prop),vs=[.ref p,.int (a:Int),.ref sp,.bl t]∧NumAt K C S d H p l T∧dA d T∧H sp=some (.dK kv)∧di kv d l T∧ah d T≤200∧d≤20∧
 ∀ (q:Addr) (H':Hp),Same H H'→H q=none→ListR H' q (ao kv d t a l T)→Q (.ref q) H'
def tf(K:PySem.W.Frag)(C:Addr)(d:Nat):Sp:=fun vs H Q _=>∃ (x sp:Addr) (a l:Nat) (n:Int) (b:List ak) (kv:List (aA × V)) (S:Addr→Prop),vs=[.ref x,.int (a:Int),.ref sp]∧nstpAt K C (ah d) S (NumAt K C S d H) H x l (.whl n b)∧dA d b∧H sp=some (.dK kv)∧di kv d (l+1) b∧ah d b≤200∧d≤20∧
 ∀ (q:Addr) (H':Hp),Same H H'→H q=none→ListR H' q (cC (ao kv d) (ah d) a l n b)→Q (.ref q) H'
theorem cO{kv:List (aA × V)}{d a l:Nat}{t:Bool}{T:List ak}(h:ah d T≤200)(hd:d≤20):(ao kv d t a l T).length≤30000:=by
 have h1:=nA kv d a l T
 have h2:6 * (d+1) * ah d T≤6 * 21 * 200:=Nat.mul_le_mul (by omega) h
 cases t with
 | false=>omega
 | true=>omega
theorem xA(D:DefAt K mg "loop_rows" bq) (z_len:mg "len" = none) (a_parts:Fl K CN "parts") (a_lines:Fl K CN "lines") (a_blocks:Fl K CN "blocks") {d:Nat} (c_rows_of:aQ P w K mg base (3 * d+2) "rows_of" ["steps", "at", "slots", "turned"] (eQ K CN d)):aQ P w K mg base (3 * d+3) "loop_rows" ["step", "at", "slots"] (tf K CN d):=by
 refine D.cal (k:=3 * d+2) sc_loop_rows (fun _ _ _ _ _ _ us hl=>match us,hl with | [_,_,_],_=>rfl) (fun vs H Q E h=>by obtain⟨_,_,_,_,_,_,_,_,rfl,_⟩:=h; rfl) (fun f cdv A outer s H vs Q E hr h=>?_)
 obtain⟨x,sp,a,l,n,b,kv,S,rfl,⟨dx,pp,lp,bp,bs,g1,g2,g3,g4,g5,g6,g7⟩,ok,esp,hk,hc,hd,q⟩:=h
 obtain⟨q0,rfl⟩ : ∃ q0,bs=[q0]:=by
  cases g7 with
  | cons _ t=>cases t; exact⟨_,rfl⟩
 have hb:NumAt K CN S d H q0 (l+1) b:=by
  cases g7 with
  | cons h _=>exact h
 refine⟨_,(aj (aw 3 sc_loop_rows.nd (aB c_rows_of hr (aa (av (aG K) (br a_blocks (pv 0 (hv:=rK))) ai (fun _ _=>rfl)) (aa (ar aD (pv 1 (hv:=vv)) ai) (aa (pv 2 (hv:=CT)) (aa ei ac)))) (hg:=C3) (hle:=by omega)) (hx:=DF))
   (aj (aw 4 sc_loop_rows.nd (ar aD (ar aD (ar aD (pv 1 (hv:=vv)) ai) (bw (aW K) z_len bH (aa (pv 3 (hv:=yR)) ac) (hg:=DK))) ai) (hx:=DY))
   (am (aN (ar aD (ar aD (bd (aa (bc (aa ax (aa (av (aG K) (br a_lines (pv 0 (hv:=rK))) ai (fun _ _=>rfl)) (aa (av (aG K) (br a_parts (pv 0 (hv:=rK))) ai (fun _ _=>rfl)) (aa (pv 4 (hv:=BJ)) ac))))) ac)) (pv 3 (hv:=yR))) (bd (aa (bc (aa ax (aa (av (aG K) (br a_lines (pv 0 (hv:=rK))) ai (fun _ _=>rfl)) (aa (pv 1 (hv:=vv)) ac)))) ac))))))),?_⟩
 walk_at "rd1"
 refine⟨dx,_,_,g1,eu _ _ _ _,?_⟩
 walk_at "rd1"
 refine⟨_,_,.inl (SqL.of g6),aX (j:=0) (v:=V.ref q0) rfl,?_⟩
 refine⟨q0,sp,a+1,l+1,false,b,kv,S,by simp,hb,ok,esp,hk,hc,hd,fun wq H1 s1 hwq hW=>?_⟩
 have hWl:=cO (kv:=kv) (a:=a+1) (l:=l+1) (t:=false) hc hd
 generalize hWW:ao kv d false (a+1) (l+1) b=W at hW hWl
 obtain⟨was,w1,w2⟩:=id hW
 have wl:=aC w2
 walk_at "nx"
 refine⟨_,.inl (SqL.of w1),?_⟩
 rw[List.length_map,wl]
 walk_at "nx"
 refine⟨dx,_,_,s1 _ _ g1,cV _ _ _ _,?_⟩
 walk_at "rd1"
 refine⟨_,_,.inl (SqL.of (s1 _ _ g4)),dv (i:=0) (n:=l) rfl,?_⟩
 refine⟨dx,_,_,s1 _ _ g1,dk _ _ _ _,?_⟩
 walk_at "rd1"
 refine⟨_,_,.inr (g2.same s1),aX (j:=0) (v:=V.int n) rfl,by decide,fun t1 ht1=>?_⟩
 generalize hH2:upd H1 t1 _=H2
 have s2:Same H1 H2:=by rw[← hH2]; exact af ht1 _
 have et1:aZ H2 t1 [.str "test", iN l,.int n,iN (a+1+W.length+1)]:=by
  show H2 t1=_
  rw[← hH2,ae]
  simp[iN]
 refine⟨by decide,fun l1 hl1=>?_⟩
 have s3:=af hl1 (.lst [.ref t1])
 have L1:=eT et1 hl1
 generalize upd H2 l1 (.lst [.ref t1])=H3 at s3 L1 ⊢
 have s13:=s2.trans s3
 obtain⟨as1,a1,a2⟩:=L1
 obtain⟨bs1,b1,b2⟩:=hW.mono s13
 refine⟨_,_,a1,b1,cK a2 b2 (by simp only[List.length_cons,List.length_nil]; omega),fun l2 hl2=>?_⟩
 have s4:=af hl2 (.lst (as1.map V.ref++bs1.map V.ref))
 have L2:=cY a2 b2 hl2
 generalize upd H3 l2 (.lst (as1.map V.ref++bs1.map V.ref))=H4 at s4 L2 ⊢
 have s04:=(s1.trans s13).trans s4
 refine⟨dx,_,_,s04 _ _ g1,cV _ _ _ _,?_⟩
 walk_at "rd1"
 refine⟨_,_,.inl (SqL.of (s04 _ _ g4)),dv (i:=1) (n:=l+1+ah d b) rfl,by decide,fun t2 ht2=>?_⟩
 generalize hH5:upd H4 t2 _=H5
 have s5:Same H4 H5:=by rw[← hH5]; exact af ht2 _
 have et2:aZ H5 t2 [.str "jump", iN (l+1+ah d b),iN a]:=by
  show H5 t2=_
  rw[← hH5,ae]
  simp[iN]
 refine⟨by decide,fun l3 hl3=>?_⟩
 have s6:=af hl3 (.lst [.ref t2])
 have L3:=eT et2 hl3
 generalize upd H5 l3 (.lst [.ref t2])=H6 at s6 L3 ⊢
 obtain⟨as2,c1,c2⟩:=L2.mono (s5.trans s6)
 obtain⟨bs2,d1,d2⟩:=L3
 refine⟨_,_,c1,d1,cK c2 d2 (by simp only[List.length_append,List.length_cons,List.length_nil]; omega),fun l4 hl4=>?_⟩
 have s7:=af hl4 (.lst (as2.map V.ref++bs2.map V.ref))
 have L4:=cY c2 d2 hl4
 generalize upd H6 l4 (.lst (as2.map V.ref++bs2.map V.ref))=H7 at s7 L4 ⊢
 refine q l4 H7 (((s04.trans s5).trans s6).trans s7) (((s04.trans s5).trans s6).free hl4) ?_
 unfold cC
 rw[hWW]
 exact L4
end
section
variable{CN:Addr}
def vD(K:PySem.W.Frag)(C:Addr)(d:Nat):Sp:=fun vs H Q _=>∃ (x sp:Addr) (a l:Nat) (t:Bool) (n:Int) (b:List ak) (kv:List (aA × V)) (S:Addr→Prop),vs=[.ref x,.int (a:Int),.ref sp,.bl t]∧nstpAt K C (ah d) S (NumAt K C S d H) H x l (.whl n b)∧dA d b∧H sp=some (.dK kv)∧di kv d (l+1) b∧ah d b≤200∧d≤20∧
 ∀ (q:Addr) (H':Hp),Same H H'→H q=none→ListR H' q (bZ (ao kv d) (ah d) t a l n b)→Q (.ref q) H'
theorem v7(D:DefAt K mg "while_rows" aM) (z_len:mg "len" = none) (a_parts:Fl K CN "parts") (a_lines:Fl K CN "lines") (a_blocks:Fl K CN "blocks") {d:Nat} (c_rows_of:aQ P w K mg base (3 * d+2) "rows_of" ["steps", "at", "slots", "turned"] (eQ K CN d)) (c_loop_rows:aQ P w K mg base (3 * d+3) "loop_rows" ["step", "at", "slots"] (tf K CN d)):aQ P w K mg base (3 * d+4) "while_rows" ["step", "at", "slots", "turned"] (vD K CN d):=by
 refine D.cal (k:=3 * d+3) sc_while_rows (fun _ _ _ _ _ _ us hl=>match us,hl with | [_,_,_,_],_=>rfl) (fun vs H Q E h=>by obtain⟨_,_,_,_,_,_,_,_,_,rfl,_⟩:=h; rfl) (fun f cdv A outer s H vs Q E hr h=>?_)
 obtain⟨x,sp,a,l,t,n,b,kv,S,rfl,hN,ok,esp,hk,hc,hd,q⟩:=h
 obtain⟨dx,pp,lp,bp,bs,g1,g2,g3,g4,g5,g6,g7⟩:=id hN
 obtain⟨q0,rfl⟩ : ∃ q0,bs=[q0]:=by
  cases g7 with
  | cons _ t=>cases t; exact⟨_,rfl⟩
 have hb:NumAt K CN S d H q0 (l+1) b:=by
  cases g7 with
  | cons h _=>exact h
 refine⟨_,(aj (b6 (gC (gT (pv 3 (hv:=BE)))) (am (aN (aB c_loop_rows hr (aa (pv 0 (hv:=lU)) (aa (pv 1 (hv:=rW)) (aa (pv 2 (hv:=vx)) ac))) (hg:=y7) (hle:=by omega)))) ci)
   (aj (aw 4 sc_while_rows.nd (aB c_rows_of hr (aa (av (aG K) (br a_blocks (pv 0 (hv:=lU))) ai (fun _ _=>rfl)) (aa (ar aD (pv 1 (hv:=rW)) ai) (aa (pv 2 (hv:=vx)) (aa ei ac)))) (hg:=CK) (hle:=by omega)) (hx:=EQ))
   (aj (aw 5 sc_while_rows.nd (aB c_loop_rows hr (aa (pv 0 (hv:=lU)) (aa (ar aD (ar aD (pv 1 (hv:=rW)) ai) (bw (aW K) z_len bH (aa (pv 4 (hv:=vp)) ac) (hg:=vC))) (aa (pv 2 (hv:=vx)) ac))) (hg:=y7) (hle:=by omega)) (hx:=Bw))
   (aj (aw 6 sc_while_rows.nd (ar aD (ar aD (ar aD (pv 1 (hv:=rW)) ai) (bw (aW K) z_len bH (aa (pv 4 (hv:=vp)) ac) (hg:=vC))) (bw (aW K) z_len bH (aa (pv 5 (hv:=yk)) ac) (hg:=vC))) (hx:=B6))
   (am (aN (ar aD (ar aD (bd (aa (bc (aa ax (aa (av (aG K) (br a_lines (pv 0 (hv:=lU))) ai (fun _ _=>rfl)) (aa (av (aG K) (br a_parts (pv 0 (hv:=lU))) ai (fun _ _=>rfl)) (aa (pv 6 (hv:=B_)) ac))))) ac)) (pv 4 (hv:=vp))) (pv 5 (hv:=yk))))))))),?_⟩
 walk_at "rd1"
 cases t with
 | false=>
  refine ck (fun _=>?_) (fun c=>absurd rfl c)
  exact⟨x,sp,a,l,n,b,kv,S,rfl,hN,ok,esp,hk,hc,hd,fun q' H' s' hq' L'=>q q' H' s' hq' (by unfold bZ; rw[if_neg (by decide)]; exact L')⟩
 | true=>
  refine ck (fun c=>absurd c (by decide)) (fun _=>?_)
  walk_at "nx"
  refine⟨dx,_,_,g1,eu _ _ _ _,?_⟩
  walk_at "rd1"
  refine⟨_,_,.inl (SqL.of g6),aX (j:=0) (v:=V.ref q0) rfl,?_⟩
  refine⟨q0,sp,a+1,l+1,true,b,kv,S,by simp,hb,ok,esp,hk,hc,hd,fun wq H1 s1 hwq hW=>?_⟩
  have hWl:=cO (kv:=kv) (a:=a+1) (l:=l+1) (t:=true) hc hd
  generalize hWW:ao kv d true (a+1) (l+1) b=W at hW hWl
  obtain⟨was,w1,w2⟩:=id hW
  have wl:=aC w2
  walk_at "nx"
  refine⟨_,.inl (SqL.of w1),?_⟩
  rw[List.length_map,wl]
  walk_at "rd1"
  refine⟨x,sp,a+1+W.length,l,n,b,kv,S,by simp,hN.mono s1,ok,s1 _ _ esp,hk,hc,hd,fun lq H2 s2 hlq hLp=>?_⟩
  have hLl:(cC (ao kv d) (ah d) (a+1+W.length) l n b).length≤30002:=by
   rw[fT]
   have:=cO (kv:=kv) (a:=a+1+W.length+1) (l:=l+1) (t:=false) hc hd
   omega
  generalize hLL:cC (ao kv d) (ah d) (a+1+W.length) l n b=LP at hLp hLl
  obtain⟨las,l1,l2⟩:=id hLp
  have ll:=aC l2
  have s12:=s1.trans s2
  walk_at "nx"
  refine⟨_,.inl (SqL.of (s2 _ _ w1)),?_⟩
  rw[List.length_map,wl]
  walk_at "rd1"
  refine⟨_,.inl (SqL.of l1),?_⟩
  rw[List.length_map,ll]
  walk_at "nx"
  refine⟨dx,_,_,s12 _ _ g1,cV _ _ _ _,?_⟩
  walk_at "rd1"
  refine⟨_,_,.inl (SqL.of (s12 _ _ g4)),dv (i:=0) (n:=l) rfl,?_⟩
  refine⟨dx,_,_,s12 _ _ g1,dk _ _ _ _,?_⟩
  walk_at "rd1"
  refine⟨_,_,.inr (g2.same s12),aX (j:=0) (v:=V.int n) rfl,by decide,fun t1 ht1=>?_⟩
  generalize hH3:upd H2 t1 _=H3
  have s3:Same H2 H3:=by rw[← hH3]; exact af ht1 _
  have et1:aZ H3 t1 [.str "test", iN l,.int n,iN (a+1+W.length+LP.length)]:=by
   show H3 t1=_
   rw[← hH3,ae]
   simp[iN]
  refine⟨by decide,fun m1 hm1=>?_⟩
  have s4:=af hm1 (.lst [.ref t1])
  have L1:=eT et1 hm1
  generalize upd H3 m1 (.lst [.ref t1])=H4 at s4 L1 ⊢
  obtain⟨as1,a1,a2⟩:=L1
  obtain⟨bs1,b1,b2⟩:=hW.mono ((s2.trans s3).trans s4)
  refine⟨_,_,a1,b1,cK a2 b2 (by simp only[List.length_cons,List.length_nil]; omega),fun m2 hm2=>?_⟩
  have s5:=af hm2 (.lst (as1.map V.ref++bs1.map V.ref))
  have L2:=cY a2 b2 hm2
  generalize upd H4 m2 (.lst (as1.map V.ref++bs1.map V.ref))=H5 at s5 L2 ⊢
  obtain⟨as2,c1,c2⟩:=L2
  obtain⟨bs2,d1,d2⟩:=hLp.mono ((s3.trans s4).trans s5)
  refine⟨_,_,c1,d1,cK c2 d2 (by simp only[List.length_append,List.length_cons,List.length_nil]; omega),fun m3 hm3=>?_⟩
  have s6:=af hm3 (.lst (as2.map V.ref++bs2.map V.ref))
  have L4:=cY c2 d2 hm3
  generalize upd H5 m3 (.lst (as2.map V.ref++bs2.map V.ref))=H6 at s6 L4 ⊢
  have s05:=((s12.trans s3).trans s4).trans s5
  refine q m3 H6 (s05.trans s6) (s05.free hm3) ?_
  unfold bZ
  rw[if_pos rfl,hWW,hLL]
  exact L4
def AC(K:PySem.W.Frag)(C:Addr)(d:Nat):Sp:=fun vs H Q _=>∃ (x sp:Addr) (a l:Nat) (t:Bool) (n:Int) (b c:List ak) (kv:List (aA × V)) (S:Addr→Prop),vs=[.ref x,.int (a:Int),.ref sp,.bl t]∧nstpAt K C (ah d) S (NumAt K C S d H) H x l (.ite n b c)∧dA d b∧dA d c∧H sp=some (.dK kv)∧di kv d (l+1) b∧di kv d (l+1+ah d b+1) c∧ah d b≤200∧ah d c≤200∧d≤20∧
 ∀ (q:Addr) (H':Hp),Same H H'→H q=none→ListR H' q (eC (ao kv d) (ah d) t a l n b c)→Q (.ref q) H'
theorem Az(D:DefAt K mg "if_rows" a_) (z_len:mg "len" = none) (a_parts:Fl K CN "parts") (a_lines:Fl K CN "lines") (a_blocks:Fl K CN "blocks") {d:Nat} (c_rows_of:aQ P w K mg base (3 * d+2) "rows_of" ["steps", "at", "slots", "turned"] (eQ K CN d)):aQ P w K mg base (3 * d+3) "if_rows" ["step", "at", "slots", "turned"] (AC K CN d):=by
 refine D.cal (k:=3 * d+2) sc_if_rows (fun _ _ _ _ _ _ us hl=>match us,hl with | [_,_,_,_],_=>rfl) (fun vs H Q E h=>by obtain⟨_,_,_,_,_,_,_,_,_,_,rfl,_⟩:=h; rfl) (fun f cdv A outer s H vs Q E hr h=>?_)
 obtain⟨x,sp,a,l,t,n,b,c,kv,S,rfl,hN,ok,ok',esp,hk,hk',hc,hc',hd,q⟩:=h
 obtain⟨dx,pp,lp,bp,bs,g1,g2,g3,g4,g5,g6,g7⟩:=id hN
 obtain⟨q0,q1,rfl⟩ : ∃ q0 q1,bs=[q0,q1]:=by
  cases g7 with
  | cons _ t=>cases t with
   | cons _ t=>cases t; exact⟨_,_,rfl⟩
 have hb:NumAt K CN S d H q0 (l+1) b∧NumAt K CN S d H q1 (l+1+ah d b+1) c:=by
  cases g7 with
  | cons h t=>cases t with
   | cons h' _=>exact⟨h,h'⟩
 refine⟨_,(aj (aw 4 sc_if_rows.nd (aB c_rows_of hr (aa (av (aG K) (br a_blocks (pv 0 (hv:=lD))) ai (fun _ _=>rfl)) (aa (ar aD (pv 1 (hv:=zV)) ai) (aa (pv 2 (hv:=yy)) (aa (pv 3 (hv:=ze)) ac)))) (hg:=A7) (hle:=by omega)) (hx:=Em))
   (aj (aw 5 sc_if_rows.nd (ar aD (ar aD (pv 1 (hv:=zV)) ai) (bw (aW K) z_len bH (aa (pv 4 (hv:=yX)) ac) (hg:=A0))) (hx:=Eu))
   (aj (aw 6 sc_if_rows.nd (aB c_rows_of hr (aa (av (aG K) (br a_blocks (pv 0 (hv:=lD))) ai (fun _ _=>rfl)) (aa (ar aD (pv 5 (hv:=vI)) ai) (aa (pv 2 (hv:=yy)) (aa (pv 3 (hv:=ze)) ac)))) (hg:=A7) (hle:=by omega)) (hx:=Eh))
   (aj (aw 7 sc_if_rows.nd (ar aD (ar aD (pv 5 (hv:=vI)) ai) (bw (aW K) z_len bH (aa (pv 6 (hv:=yD)) ac) (hg:=A0))) (hx:=D7))
   (aj (aw 8 sc_if_rows.nd (bc (aa ax (aa (av (aG K) (br a_lines (pv 0 (hv:=lD))) ai (fun _ _=>rfl)) (aa (av (aG K) (br a_parts (pv 0 (hv:=lD))) ai (fun _ _=>rfl)) (aa (ar aD (pv 5 (hv:=vI)) ai) ac))))) (hx:=E8))
   (am (aN (ar aD (ar aD (ar aD (bd (aa (pv 8 (hv:=B8)) ac)) (pv 4 (hv:=yX))) (bd (aa (bc (aa ax (aa (av (aG K) (br a_lines (pv 0 (hv:=lD))) ai (fun _ _=>rfl)) (aa (pv 7 (hv:=C4)) ac)))) ac))) (pv 6 (hv:=yD)))))))))),?_⟩
 walk_at "rd1"
 refine⟨dx,_,_,g1,eu _ _ _ _,?_⟩
 walk_at "rd1"
 refine⟨_,_,.inl (SqL.of g6),aX (j:=0) (v:=V.ref q0) rfl,?_⟩
 refine⟨q0,sp,a+1,l+1,t,b,kv,S,by simp,hb.1,ok,esp,hk,hc,hd,fun wq H1 s1 hwq hW=>?_⟩
 have hWl:=cO (kv:=kv) (a:=a+1) (l:=l+1) (t:=t) hc hd
 generalize hWW:ao kv d t (a+1) (l+1) b=W at hW hWl
 obtain⟨was,w1,w2⟩:=id hW
 have wl:=aC w2
 walk_at "nx"
 refine⟨_,.inl (SqL.of w1),?_⟩
 rw[List.length_map,wl]
 walk_at "nx"
 refine⟨dx,_,_,s1 _ _ g1,eu _ _ _ _,?_⟩
 walk_at "rd1"
 refine⟨_,_,.inl (SqL.of (s1 _ _ g6)),aX (j:=1) (v:=V.ref q1) rfl,?_⟩
 refine⟨q1,sp,a+1+W.length+1,l+1+ah d b+1,t,c,kv,S,by simp,hb.2.mono s1,ok',s1 _ _ esp,hk',hc',hd,fun rq H2 s2 hrq hR=>?_⟩
 have hRl:=cO (kv:=kv) (a:=a+1+W.length+1) (l:=l+1+ah d b+1) (t:=t) hc' hd
 generalize hRR:ao kv d t (a+1+W.length+1) (l+1+ah d b+1) c=R at hR hRl
 obtain⟨ras,r1,r2⟩:=id hR
 have rl:=aC r2
 have s12:=s1.trans s2
 walk_at "nx"
 refine⟨_,.inl (SqL.of r1),?_⟩
 rw[List.length_map,rl]
 walk_at "nx"
 refine⟨dx,_,_,s12 _ _ g1,cV _ _ _ _,?_⟩
 walk_at "rd1"
 refine⟨_,_,.inl (SqL.of (s12 _ _ g4)),dv (i:=0) (n:=l) rfl,?_⟩
 refine⟨dx,_,_,s12 _ _ g1,dk _ _ _ _,?_⟩
 walk_at "rd1"
 refine⟨_,_,.inr (g2.same s12),aX (j:=0) (v:=V.int n) rfl,by decide,fun t1 ht1=>?_⟩
 generalize hH3:upd H2 t1 _=H3
 have s3:Same H2 H3:=by rw[← hH3]; exact af ht1 _
 have et1:aZ H3 t1 [.str "test", iN l,.int n,iN (a+1+W.length+1)]:=by
  show H3 t1=_
  rw[← hH3,ae]
  simp[iN]
 walk_at "nx"
 refine⟨by decide,fun m1 hm1=>?_⟩
 have s4:=af hm1 (.lst [.ref t1])
 have L1:=eT et1 hm1
 generalize upd H3 m1 (.lst [.ref t1])=H4 at s4 L1 ⊢
 obtain⟨as1,a1,a2⟩:=L1
 obtain⟨bs1,b1,b2⟩:=hW.mono ((s2.trans s3).trans s4)
 refine⟨_,_,a1,b1,cK a2 b2 (by simp only[List.length_cons,List.length_nil]; omega),fun m2 hm2=>?_⟩
 have s5:=af hm2 (.lst (as1.map V.ref++bs1.map V.ref))
 have L2:=cY a2 b2 hm2
 generalize upd H4 m2 (.lst (as1.map V.ref++bs1.map V.ref))=H5 at s5 L2 ⊢
 have s05:=((s12.trans s3).trans s4).trans s5
 refine⟨dx,_,_,s05 _ _ g1,cV _ _ _ _,?_⟩
 walk_at "rd1"
 refine⟨_,_,.inl (SqL.of (s05 _ _ g4)),dv (i:=1) (n:=l+1+ah d b) rfl,by decide,fun t2 ht2=>?_⟩
 generalize hH6:upd H5 t2 _=H6
 have s6:Same H5 H6:=by rw[← hH6]; exact af ht2 _
 have et2:aZ H6 t2 [.str "jump", iN (l+1+ah d b),iN (a+1+W.length+1+R.length)]:=by
  show H6 t2=_
  rw[← hH6,ae]
  simp[iN]
 refine⟨by decide,fun m3 hm3=>?_⟩
 have s7:=af hm3 (.lst [.ref t2])
 have L3:=eT et2 hm3
 generalize upd H6 m3 (.lst [.ref t2])=H7 at s7 L3 ⊢
 obtain⟨as2,c1,c2⟩:=L2.mono (s6.trans s7)
 obtain⟨bs2,d1,d2⟩:=L3
 refine⟨_,_,c1,d1,cK c2 d2 (by simp only[List.length_append,List.length_cons,List.length_nil]; omega),fun m4 hm4=>?_⟩
 have s8:=af hm4 (.lst (as2.map V.ref++bs2.map V.ref))
 have L4:=cY c2 d2 hm4
 generalize upd H7 m4 (.lst (as2.map V.ref++bs2.map V.ref))=H8 at s8 L4 ⊢
 obtain⟨as3,e1,e2⟩:=L4
 obtain⟨bs3,f1,f2⟩:=hR.mono (((((s3.trans s4).trans s5).trans s6).trans s7).trans s8)
 refine⟨_,_,e1,f1,cK e2 f2 (by simp only[List.length_append,List.length_cons,List.length_nil]; omega),fun m5 hm5=>?_⟩
 have s9:=af hm5 (.lst (as3.map V.ref++bs3.map V.ref))
 have L5:=cY e2 f2 hm5
 generalize upd H8 m5 (.lst (as3.map V.ref++bs3.map V.ref))=H9 at s9 L5 ⊢
 have s08:=((s05.trans s6).trans s7).trans s8
 refine q m5 H9 (s08.trans s9) (s08.free hm5) ?_
 unfold eC
 rw[hWW,hRR]
 exact L5
end
section
variable{CN:Addr}
def xN(K:PySem.W.Frag)(C:Addr)(d:Nat):Sp:=fun vs H Q _=>∃ (z sp:Addr) (a l:Nat) (t:Bool) (x y:Str) (b:List ak) (kv:List (aA × V)) (S:Addr→Prop),vs=[.ref z,.int (a:Int),.ref sp,.bl t]∧nstpAt K C (ah d) S (NumAt K C S d H) H z l (.lend x y b)∧dA d b∧H sp=some (.dK kv)∧eY kv (.inr x)∧eY kv (.inr y)∧eY kv (.inl (l:Int))∧di kv d (l+1) b∧ah d b≤200∧d≤20∧
 ∀ (q:Addr) (H':Hp),Same H H'→H q=none→ListR H' q (df kv (ao kv d) (ah d) t a l x y b)→Q (.ref q) H'
theorem iZ{H:Hp}{c1 c2 c3 x:Addr}{r1 r2 r3:aK}(h1:aZ H c1 r1)(h2:aZ H c2 r2)(h3:aZ H c3 r3)(hx:H x=none):ListR (upd H x (.lst [.ref c1,.ref c2,.ref c3])) x [r1,r2,r3]:=⟨[c1,c2,c3],ae,.cons (af hx _ _ _ h1) (.cons (af hx _ _ _ h2) (.cons (af hx _ _ _ h3) .nil))⟩
theorem xP(D:DefAt K mg "lend_rows" aF) (z_len:mg "len" = none) (a_parts:Fl K CN "parts") (a_lines:Fl K CN "lines") (a_blocks:Fl K CN "blocks") {d:Nat} (c_rows_of:aQ P w K mg base (3 * d+2) "rows_of" ["steps", "at", "slots", "turned"] (eQ K CN d)):aQ P w K mg base (3 * d+3) "lend_rows" ["step", "at", "slots", "turned"] (xN K CN d):=by
 refine D.cal (k:=3 * d+2) sc_lend_rows (fun _ _ _ _ _ _ us hl=>match us,hl with | [_,_,_,_],_=>rfl) (fun vs H Q E h=>by obtain⟨_,_,_,_,_,_,_,_,_,_,rfl,_⟩:=h; rfl) (fun f cdv A outer s H vs Q E hr h=>?_)
 obtain⟨z,sp,a,l,t,x,y,b,kv,S,rfl,hN,ok,esp,kx,ky,kl,hk,hc,hd,q⟩:=h
 obtain⟨dx,pp,lp,bp,bs,g1,g2,g3,g4,g5,g6,g7⟩:=id hN
 obtain⟨q0,rfl⟩ : ∃ q0,bs=[q0]:=by
  cases g7 with
  | cons _ t=>cases t; exact⟨_,rfl⟩
 have hb:NumAt K CN S d H q0 (l+1) b:=by
  cases g7 with
  | cons h _=>exact h
 refine⟨_,(aj (aw 4 sc_lend_rows.nd (av (aG K) (br a_lines (pv 0 (hv:=nD))) ai (fun _ _=>rfl)) (hx:=E6))
   (aj (aw 5 sc_lend_rows.nd (av (aG K) (br a_lines (pv 0 (hv:=nD))) ai (fun _ _=>rfl)) (hx:=DU))
   (aj (aw 6 sc_lend_rows.nd (av (mr K) (pv 2 (hv:=qV)) (av (aG K) (br a_parts (pv 0 (hv:=nD))) ai (fun _ _=>rfl)) (fun _ _=>rfl)) (hx:=Ep))
   (aj (aw 7 sc_lend_rows.nd (av (mr K) (pv 2 (hv:=qV)) (av (aG K) (br a_parts (pv 0 (hv:=nD))) ai (fun _ _=>rfl)) (fun _ _=>rfl)) (hx:=DB))
   (aj (aw 8 sc_lend_rows.nd (av (mr K) (pv 2 (hv:=qV)) (pv 4 (hv:=qr)) (fun _ _=>rfl)) (hx:=Ei))
   (aj (aw 9 sc_lend_rows.nd (bd (aa (bc (aa ax (aa (pv 4 (hv:=qr)) (aa (pv 8 (hv:=n_)) (aa (pv 6 (hv:=BC)) ac))))) (aa (bc (aa ax (aa (pv 4 (hv:=qr)) (aa (pv 8 (hv:=n_)) (aa ax ac))))) (aa (bc (aa ax (aa (pv 4 (hv:=qr)) (aa (pv 7 (hv:=yT)) (aa (pv 8 (hv:=n_)) ac))))) ac)))) (hx:=EV))
   (aj (aw 10 sc_lend_rows.nd (aB c_rows_of hr (aa (av (aG K) (br a_blocks (pv 0 (hv:=nD))) ai (fun _ _=>rfl)) (aa (ar aD (pv 1 (hv:=B3)) (bw (aW K) z_len bH (aa (pv 9 (hv:=zZ)) ac) (hg:=EY))) (aa (pv 2 (hv:=qV)) (aa (pv 3 (hv:=Bk)) ac)))) (hg:=Eb) (hle:=by omega)) (hx:=D5))
   (am (aN (ar aD (ar aD (pv 9 (hv:=zZ)) (pv 10 (hv:=BF))) (bd (aa (bc (aa ax (aa (pv 5 (hv:=vg)) (aa (pv 8 (hv:=n_)) (aa ax ac))))) (aa (bc (aa ax (aa (pv 5 (hv:=vg)) (aa (pv 7 (hv:=yT)) ac)))) (aa (bc (aa ax (aa (pv 5 (hv:=vg)) (aa (pv 8 (hv:=n_)) ac)))) ac)))))))))))))),?_⟩
 walk_at "rd1"
 refine⟨dx,_,_,g1,cV _ _ _ _,?_⟩
 walk_at "rd1"
 refine⟨_,_,.inl (SqL.of g4),dv (i:=0) (n:=l) rfl,?_⟩
 walk_at "nx"
 refine⟨dx,_,_,g1,cV _ _ _ _,?_⟩
 walk_at "rd1"
 refine⟨_,_,.inl (SqL.of g4),dv (i:=1) (n:=l+1+ah d b) rfl,?_⟩
 walk_at "nx"
 refine⟨dx,_,_,g1,dk _ _ _ _,?_⟩
 walk_at "rd1"
 refine⟨_,_,.inr g2,aX (j:=0) (v:=V.str x) rfl,.inr ⟨sp,kv,.inr x,_,rfl,rfl,esp,kx,?_⟩⟩
 walk_at "nx"
 refine⟨dx,_,_,g1,dk _ _ _ _,?_⟩
 walk_at "rd1"
 refine⟨_,_,.inr g2,aX (j:=1) (v:=V.str y) rfl,.inr ⟨sp,kv,.inr y,_,rfl,rfl,esp,ky,?_⟩⟩
 walk_at "nx"
 refine .inr ⟨sp,kv,.inl (l:Int),_,rfl,rfl,esp,kl,?_⟩
 generalize hgx:b7 kv (.inr x)=gx
 generalize hgy:b7 kv (.inr y)=gy
 generalize hgl:b7 kv (.inl (l:Int))=gl
 walk_at "nx"
 refine⟨by decide,fun t1 ht1=>?_⟩
 generalize hH1:upd H t1 _=H1
 have s1:Same H H1:=by rw[← hH1]; exact af ht1 _
 have r1:aZ H1 t1 [.str "copy", iN l,gl,gx]:=by show H1 t1=_; rw[← hH1]; exact ae
 refine⟨by decide,fun t2 ht2=>?_⟩
 generalize hH2:upd H1 t2 _=H2
 have s2:Same H1 H2:=by rw[← hH2]; exact af ht2 _
 have r2:aZ H2 t2 [.str "do", iN l,gl,.str "lend"]:=by show H2 t2=_; rw[← hH2]; exact ae
 refine⟨by decide,fun t3 ht3=>?_⟩
 generalize hH3:upd H2 t3 _=H3
 have s3:Same H2 H3:=by rw[← hH3]; exact af ht3 _
 have r3:aZ H3 t3 [.str "copy", iN l,gy,gl]:=by show H3 t3=_; rw[← hH3]; exact ae
 refine⟨by decide,fun m1 hm1=>?_⟩
 have s4:=af hm1 (.lst [.ref t1,.ref t2,.ref t3])
 have L1:=iZ (s3 _ _ (s2 _ _ r1)) (s3 _ _ r2) r3 hm1
 have em1:upd H3 m1 (.lst [.ref t1,.ref t2,.ref t3]) m1=some (.lst [.ref t1,.ref t2,.ref t3]):=ae
 generalize upd H3 m1 (.lst [.ref t1,.ref t2,.ref t3])=H4 at s4 L1 em1 ⊢
 have s04:=((s1.trans s2).trans s3).trans s4
 walk_at "nx"
 refine⟨dx,_,_,s04 _ _ g1,eu _ _ _ _,?_⟩
 walk_at "rd1"
 refine⟨_,_,.inl (SqL.of (s04 _ _ g6)),aX (j:=0) (v:=V.ref q0) rfl,?_⟩
 walk_at "rd1"
 refine⟨_,.inl (SqL.of em1),?_⟩
 refine⟨q0,sp,a+3,l+1,t,b,kv,S,by simp,hb.mono s04,ok,s04 _ _ esp,hk,hc,hd,fun wq H5 s5 hwq hW=>?_⟩
 have hWl:=cO (kv:=kv) (a:=a+3) (l:=l+1) (t:=t) hc hd
 generalize hWW:ao kv d t (a+3) (l+1) b=W at hW hWl
 have s05:=s04.trans s5
 walk_at "nx"
 obtain⟨as1,a1,a2⟩:=L1.mono s5
 obtain⟨bs1,b1,b2⟩:=id hW
 refine⟨_,_,a1,b1,cK a2 b2 (by simp only[List.length_cons,List.length_nil]; omega),fun m2 hm2=>?_⟩
 have s6:=af hm2 (.lst (as1.map V.ref++bs1.map V.ref))
 have L2:=cY a2 b2 hm2
 generalize upd H5 m2 (.lst (as1.map V.ref++bs1.map V.ref))=H6 at s6 L2 ⊢
 refine⟨by decide,fun t4 ht4=>?_⟩
 generalize hH7:upd H6 t4 _=H7
 have s7:Same H6 H7:=by rw[← hH7]; exact af ht4 _
 have r4:aZ H7 t4 [.str "do", iN (l+1+ah d b),gl,.str "back"]:=by show H7 t4=_; rw[← hH7]; exact ae
 refine⟨by decide,fun t5 ht5=>?_⟩
 generalize hH8:upd H7 t5 _=H8
 have s8:Same H7 H8:=by rw[← hH8]; exact af ht5 _
 have r5:aZ H8 t5 [.str "drop", iN (l+1+ah d b),gy]:=by show H8 t5=_; rw[← hH8]; exact ae
 refine⟨by decide,fun t6 ht6=>?_⟩
 generalize hH9:upd H8 t6 _=H9
 have s9:Same H8 H9:=by rw[← hH9]; exact af ht6 _
 have r6:aZ H9 t6 [.str "drop", iN (l+1+ah d b),gl]:=by show H9 t6=_; rw[← hH9]; exact ae
 refine⟨by decide,fun m3 hm3=>?_⟩
 have s10:=af hm3 (.lst [.ref t4,.ref t5,.ref t6])
 have L3:=iZ (s9 _ _ (s8 _ _ r4)) (s9 _ _ r5) r6 hm3
 generalize upd H9 m3 (.lst [.ref t4,.ref t5,.ref t6])=H10 at s10 L3 ⊢
 obtain⟨as2,c1,c2⟩:=L2.mono (((s7.trans s8).trans s9).trans s10)
 obtain⟨bs2,d1,d2⟩:=L3
 refine⟨_,_,c1,d1,cK c2 d2 (by simp only[List.length_append,List.length_cons,List.length_nil]; omega),fun m4 hm4=>?_⟩
 have s11:=af hm4 (.lst (as2.map V.ref++bs2.map V.ref))
 have L4:=cY c2 d2 hm4
 generalize upd H10 m4 (.lst (as2.map V.ref++bs2.map V.ref))=H11 at s11 L4 ⊢
 have s010:=((((s05.trans s6).trans s7).trans s8).trans s9).trans s10
 refine q m4 H11 (s010.trans s11) (s010.free hm4) ?_
 unfold df
 rw[hWW,hgx,hgy,hgl]
 exact L4
theorem oK(D:DefAt K mg "rows_of" bm) (DL:DefAt K mg "lend_rows" aF) (DI:DefAt K mg "if_rows" a_) (DO:DefAt K mg "loop_rows" bq) (DW:DefAt K mg "while_rows" aM) (DS:DefAt K mg "simple_row" aY) (z_len:mg "len" = none) (z_tuple:mg "tuple" = none) (a_kind:Fl K CN "kind") (a_parts:Fl K CN "parts") (a_lines:Fl K CN "lines") (a_blocks:Fl K CN "blocks"):∀ d:Nat,aQ P w K mg base (3 * d+2) "rows_of" ["steps", "at", "slots", "turned"] (eQ K CN d)
 | 0=>D.cal (k:=1) sc_rows_of (fun _ _ _ _ _ _ us hl=>match us,hl with | [_,_,_,_],_=>rfl) (fun vs H Q E h=>by obtain⟨_,_,_,_,_,_,_,_,rfl,_⟩:=h; rfl) (fun f cdv A outer s H vs Q E hr h=>by obtain⟨_,_,_,_,_,_,_,_,rfl,z,_⟩:=h; exact z.elim)
 | d+1=>by
  have ih:=oK D DL DI DO DW DS z_len z_tuple a_kind a_parts a_lines a_blocks d
  have c_lend_rows:=xP DL z_len a_parts a_lines a_blocks ih
  have c_if_rows:=Az DI z_len a_parts a_lines a_blocks ih
  have c_while_rows:=v7 DW z_len a_parts a_lines a_blocks ih (xA DO z_len a_parts a_lines a_blocks ih)
  have c_simple_row:=uv (P:=P) (w:=w) (base:=base) DS z_tuple a_kind a_parts a_lines
  refine D.cal (k:=3 * d+4) sc_rows_of (fun _ _ _ _ _ _ us hl=>match us,hl with | [_,_,_,_],_=>rfl) (fun vs H Q E h=>by obtain⟨_,_,_,_,_,_,_,_,rfl,_⟩:=h; rfl) (fun f cdv A outer s H vs Q E hr h=>?_)
  obtain⟨p,sp,a,l,t,T,kv,S,rfl,⟨h0,as,h1,h2⟩,ok,esp,hk,hc,hd,q⟩:=h
  have hlen:=aC h2
  rw[ef]at hlen
  refine⟨_,(aj (aw 4 sc_rows_of.nd (bd ac) (hx:=BY))
   (aj (cA PassesOwn.never rfl (dn K (pv 0 (hv:=B0))) (bC 5 sc_rows_of.nd (hx:=B9)) (aj (aw 6 sc_rows_of.nd (ar aD (pv 1 (hv:=Bs)) (bw (aW K) z_len bH (aa (pv 4 (hv:=jI)) ac) (hg:=CJ))) (hx:=BH))
   (am (b6 (bi bY (br a_kind (pv 5 (hv:=iF))) ax (bt _)) (am (bD (b5 K PySem.F.plainAttrs_list PySem.F.slot_list_extend PySem.F.type_list_extend dX (pv 4 (hv:=jI)) (aa (aB c_lend_rows hr (aa (pv 5 (hv:=iF)) (aa (pv 6 (hv:=wt)) (aa (pv 2 (hv:=rL)) (aa (pv 3 (hv:=we)) ac)))) (hg:=Dm) (hle:=by omega)) ac)))) (am (b6 (bi bY (br a_kind (pv 5 (hv:=iF))) ax (bt _)) (am (bD (b5 K PySem.F.plainAttrs_list PySem.F.slot_list_extend PySem.F.type_list_extend dX (pv 4 (hv:=jI)) (aa (aB c_if_rows hr (aa (pv 5 (hv:=iF)) (aa (pv 6 (hv:=wt)) (aa (pv 2 (hv:=rL)) (aa (pv 3 (hv:=we)) ac)))) (hg:=CB) (hle:=by omega)) ac)))) (am (b6 (bi bY (br a_kind (pv 5 (hv:=iF))) ax (bt _)) (am (bD (b5 K PySem.F.plainAttrs_list PySem.F.slot_list_extend PySem.F.type_list_extend dX (pv 4 (hv:=jI)) (aa (aB c_while_rows hr (aa (pv 5 (hv:=iF)) (aa (pv 6 (hv:=wt)) (aa (pv 2 (hv:=rL)) (aa (pv 3 (hv:=we)) ac)))) (hg:=Cu) (hle:=by omega)) ac)))) (am (bD (b5 K PySem.F.plainAttrs_list PySem.F.slot_list_append PySem.F.type_list_append bX (pv 4 (hv:=jI)) (aa (aB c_simple_row hr (aa (pv 5 (hv:=iF)) (aa (pv 2 (hv:=rL)) ac)) (hg:=C9) (hle:=by omega)) ac))))))))))))
   (am (aN (pv 4 (hv:=jI)))))),?_⟩
  walk_at "rd1"
  refine⟨by decide,fun R hR=>?_⟩
  have s1:=af hR (.lst [])
  have eR0:upd H R (.lst []) R=some (.lst (([]:List Addr).map V.ref)):=ae
  generalize upd H R (.lst [])=H1 at s1 eR0 ⊢
  walk_at "nx"
  refine⟨⟨_,SqL.of (s1 _ _ h1)⟩,?_⟩
  have hnR:∀ {z:Addr} {o:HO},H z=some o→z≠R:=fun e=>au e hR
  refine cR (xs:=as.map V.ref) (fun i σ H'=>∃ (o5 o6:Option V),σ=[some (.ref p),some (.int (a:Int)),some (.ref sp),some (.bl t),some (.ref R),o5,o6]∧Same H H'∧ListR H' R (ao kv (d+1) t a l (T.take i)))
   ⟨_,_,rfl,s1,[],eR0,.nil⟩ (fun i σ H' _ hh=>by obtain⟨_,_,_,sm,_⟩:=hh; exact SqL.of (sm _ _ h1)) (fun i v σ H2 hv hh=>?_) (fun σ H2 hh=>?_)
  ·obtain⟨o5,o6,rfl,sm,ras,r1,r2⟩:=hh
   rw[List.getElem?_map]at hv
   cases hi:as[i]? with
   | none=>rw[hi]at hv; cases hv
   | some x=>
    rw[hi]at hv; cases hv
    have hiT:i<T.length:=by have:=(List.getElem?_eq_some_iff.mp hi).1; omega
    have hs:=List.getElem?_eq_getElem hiT
    have hz:=oH (aU (ah d)) l T i _ hs
    obtain⟨z,hz1,hz2⟩:=bP h2 hi
    rw[hz]at hz1
    have hz1:=Option.some.inj hz1
    subst hz1
    have hkz:=hk _ (List.mem_of_getElem? hz)
    have hmem:=List.getElem_mem hiT
    generalize T[i]=st at hs hz hz2 hkz hmem
    have oks:=ok st hmem
    have hcs:=jQ (d:=d) hmem
    generalize hl':l+((T.take i).map (aU (ah d))).sum=l' at hz hz2 hkz
    have etk:T.take (i+1)=T.take i++[st]:=by rw[List.take_add_one,hs]; rfl
    have erow:ao kv (d+1) t a l (T.take (i+1))=ao kv (d+1) t a l (T.take i)++bO kv (ao kv d) (ah d) t (a+(ao kv (d+1) t a l (T.take i)).length) l' st:=by
     rw[etk]
     show bK _ _ a l (T.take i++[st])=_
     rw[iz,hl']; rfl
    have hcnt:=mq (d:=d) (i:=i) (T:=T)
    have hpre:=cO (kv:=kv) (d:=d+1) (a:=a) (l:=l) (t:=t) (T:=T.take i) (by omega) hd
    rw[erow]
    generalize ao kv (d+1) t a l (T.take i)=pre at r2 hpre
    have rl:=aC r2
    have hx2:=hz2.mono sm
    obtain⟨dx,pp,lp,bp,bs,g1,g2,g3,g4,g5,g6,g7⟩:=id hx2
    have put:∀ {b:Addr} {H3:Hp} {rows:List aK},Same H2 H3→ListR H3 b rows→b≠R→rows.length≤100000→∃ xs zs,H3 R=some (.lst xs)∧H3 b=some (.lst zs)∧xs.length+zs.length≤sizeLine∧(Same H (upd H3 R (.lst (xs++zs)))∧ListR (upd H3 R (.lst (xs++zs))) R (pre++rows)):=fun {b H3 rows} s3 hL hne hl3=>by
     obtain⟨bas,e1,e2⟩:=hL
     have bl:=aC e2
     have eR3:=s3 _ _ r1
     have tp:∀ {c:Addr} {r:aK},aZ H3 c r→aZ (upd H3 R (.lst (ras.map V.ref++bas.map V.ref))) c r:=fun {c r} z=>by
      show upd H3 R _ c=_
      rw[ap (cm z eR3 (fun y=>nomatch y))]; exact z
     refine⟨_,_,eR3,e1,by rw[List.length_map,List.length_map,rl,bl]; exact bF (by omega),fun c o y=>?_,ras++bas,by rw[ae,List.map_append],dc (Paired.imp' (fun _ _ y=>tp (s3 _ _ y)) r2) (Paired.imp' (fun _ _ y=>tp y) e2)⟩
     rw[ap (hnR y)]; exact s3 _ _ (sm _ _ y)
    walk_at "rd1"
    refine⟨_,.inl (SqL.of r1),?_⟩
    rw[List.length_map,rl]
    walk_at "nx"
    refine⟨dx,_,_,g1,dJ _ _ _ _,?_⟩
    walk_at "rd1"
    have hst200:aU (ah d) st≤200:=by omega
    have hsl:(bO kv (ao kv d) (ah d) t (a+pre.length) l' st).length≤30000:=by
     have:=cO (kv:=kv) (d:=d+1) (a:=a+pre.length) (l:=l') (t:=t) (T:=[st]) (by show aU (ah d) st+0≤200; omega) hd
     have e:ao kv (d+1) t (a+pre.length) l' [st]=bO kv (ao kv d) (ah d) t (a+pre.length) l' st++[]:=rfl
     rw[e,List.append_nil]at this
     exact this
    cases st with
    | lend x0 y0 b0=>
     obtain⟨k1,k2,k3,k4⟩ : eY kv (.inr x0)∧eY kv (.inr y0)∧eY kv (.inl (l':Int))∧di kv d (l'+1) b0:=hkz
     have hcb:ah d b0+2≤200:=hst200
     refine ck (fun _=>?_) (fun c=>absurd rfl c)
     refine⟨⟨_,SqL.of r1⟩,x,sp,a+pre.length,l',t,x0,y0,b0,kv,S,by simp,hx2,oks.2.2,sm _ _ esp,k1,k2,k3,k4,by omega,by omega,fun q' H3 s3 hq' L3=>?_⟩
     dsimp only
     rw[dW]
     obtain⟨xs,zs,p1,p2,p3,p4,p5⟩:=put s3 L3 (au r1 hq').symm (by have:(df kv (ao kv d) (ah d) t (a+pre.length) l' x0 y0 b0).length≤30000:=hsl; omega)
     exact⟨xs,zs,p1,p2,p3,_,_,rfl,p4,p5⟩
    | ite n0 b0 c0=>
     obtain⟨k1,k2⟩ : di kv d (l'+1) b0∧di kv d (l'+1+ah d b0+1) c0:=hkz
     have hcb:ah d b0+ah d c0+3≤200:=hst200
     refine ck (fun c=>absurd c (by show ¬ (Str.ofString "if" = Str.ofString "lend"); decide +kernel)) (fun _=>?_)
     refine⟨dx,_,_,g1,dJ _ _ _ _,?_⟩
     walk_at "rd1"
     refine ck (fun _=>?_) (fun c=>absurd rfl c)
     refine⟨⟨_,SqL.of r1⟩,x,sp,a+pre.length,l',t,n0,b0,c0,kv,S,by simp,hx2,oks.2.1,oks.2.2,sm _ _ esp,k1,k2,by omega,by omega,by omega,fun q' H3 s3 hq' L3=>?_⟩
     dsimp only
     rw[dW]
     obtain⟨xs,zs,p1,p2,p3,p4,p5⟩:=put s3 L3 (au r1 hq').symm (by have:(eC (ao kv d) (ah d) t (a+pre.length) l' n0 b0 c0).length≤30000:=hsl; omega)
     exact⟨xs,zs,p1,p2,p3,_,_,rfl,p4,p5⟩
    | whl n0 b0=>
     have k1:di kv d (l'+1) b0:=hkz
     have hcb:ah d b0+2≤200:=hst200
     refine ck (fun c=>absurd c (by show ¬ (Str.ofString "while" = Str.ofString "lend"); decide +kernel)) (fun _=>?_)
     refine⟨dx,_,_,g1,dJ _ _ _ _,?_⟩
     walk_at "rd1"
     refine ck (fun c=>absurd c (by show ¬ (Str.ofString "while" = Str.ofString "if"); decide +kernel)) (fun _=>?_)
     refine⟨dx,_,_,g1,dJ _ _ _ _,?_⟩
     walk_at "rd1"
     refine ck (fun _=>?_) (fun c=>absurd rfl c)
     refine⟨⟨_,SqL.of r1⟩,x,sp,a+pre.length,l',t,n0,b0,kv,S,by simp,hx2,oks.2,sm _ _ esp,k1,by omega,by omega,fun q' H3 s3 hq' L3=>?_⟩
     dsimp only
     rw[dW]
     obtain⟨xs,zs,p1,p2,p3,p4,p5⟩:=put s3 L3 (au r1 hq').symm (by have:(bZ (ao kv d) (ah d) t (a+pre.length) l' n0 b0).length≤30000:=hsl; omega)
     exact⟨xs,zs,p1,p2,p3,_,_,rfl,p4,p5⟩
    | plain ws=>
     have hkd:ws.headD "" ∈ cB:=oks.kind
     have nk:∀ {u:Str},u∉cB→¬ kindOf (.plain ws)=u:=fun hu c=>hu (by have c':ws.headD "" = _:=c; rw[← c']; exact hkd)
     refine ck (fun c=>absurd c (nk (by decide +kernel))) (fun _=>?_)
     refine⟨dx,_,_,g1,dJ _ _ _ _,?_⟩
     walk_at "rd1"
     refine ck (fun c=>absurd c (nk (by decide +kernel))) (fun _=>?_)
     refine⟨dx,_,_,g1,dJ _ _ _ _,?_⟩
     walk_at "rd1"
     refine ck (fun c=>absurd c (nk (by decide +kernel))) (fun _=>?_)
     refine⟨⟨_,SqL.of r1⟩,x,sp,l',ws,kv,S,_,ah d,di kv d,rfl,hx2,oks,sm _ _ esp,hkz,fun c H3 s3 hc3=>?_⟩
     have eR3:=s3 _ _ r1
     have tp:∀ {c:Addr} {r:aK},aZ H3 c r→∀ zs,aZ (upd H3 R (.lst zs)) c r:=fun {c r} z zs=>by
      show upd H3 R _ c=_
      rw[ap (cm z eR3 (fun y=>nomatch y))]; exact z
     walk_at "rd1"
     refine⟨_,eR3,ce (by rw[List.length_map]; omega),_,_,rfl,fun c' o y=>?_,ras++[c],by rw[ae,List.map_append]; rfl,dc (Paired.imp' (fun _ _ y=>tp (s3 _ _ y) _) r2) (.cons (tp hc3 _) .nil)⟩
     rw[ap (hnR y)]; exact s3 _ _ (sm _ _ y)
  ·obtain⟨o5,o6,rfl,sm,hL⟩:=hh
   rw[List.length_map,hlen,List.take_length]at hL
   walk_at "nx"
   exact q R H2 sm hR hL
end
def gb(s:Str):Bool:=decide (0+("lend " : Str).length≤s.length)&&PySem.Builtin.Str.subAt s "lend " 0
def fh(L:List Str):List Nat:=(List.range L.length).filter fun i=>gb (L.getD i "")
def iu(d:Nat):Sp:=fun vs H Q _=>∃ (p:Addr) (L:List Str),vs=[.ref p]∧LinesAt d H p L∧L.length≤1000∧∀ (q:Addr) (H':Hp),Same H H'→H q=none→H' q=some (.lst ((fh L).map iN))→Q (.ref q) H'
theorem im(f:Nat→Bool)(i:Nat):(List.range (i+1)).filter f=(List.range i).filter f++(if f i=true then [i] else []):=by
 rw[List.range_succ,List.filter_append]
 congr 1
 rw[List.filter_cons]
 split <;> rfl
theorem lJ(D:DefAt K mg "lend_lines" bg) (z_enumerate:mg "enumerate" = none) {d k:Nat} (c_lines_of:aQ P w K mg base k "lines_of" ["program"] (oW d)):aQ P w K mg base (k+1) "lend_lines" ["program"] (iu d):=by
 refine D.cal (k:=k) lh (fun _ _ _ _ _ _ us hl=>match us,hl with | [_],_=>rfl) (fun vs H Q E h=>by obtain⟨_,_,rfl,_⟩:=h; rfl) (fun f cdv A outer s H vs Q E hr h=>?_)
 obtain⟨p,L,rfl,hL,hl,q⟩:=h
 refine⟨_,(am (aN (h8 (CompSc.to (fsc:=(defScope bg)) (N:=["program"]) (N0:=["program"]) (T:=["at", "line"]) ⟨by decide +kernel,by decide +kernel,by decide +kernel,by decide +kernel,by decide +kernel,by decide +kernel,by decide +kernel⟩ rfl rfl) rfl (nM K DE z_enumerate (aa (aB c_lines_of hr (aa (pv 0 (hv:=E4)) ac) (hg:=DT) (hle:=by omega)) ac)) (fun _ _ _ _=>(h_ K (n:=2) (cx (bC 1 (show (["program", "at", "line"]:List Str).Nodup from by decide +kernel) (hx:=(lN (defScope bg) (by decide +kernel))) (hf:=uB (defScope bg) (by decide +kernel))) (cx (bC 2 (show (["program", "at", "line"]:List Str).Nodup from by decide +kernel) (hx:=(lN (defScope bg) (by decide +kernel))) (hf:=uB (defScope bg) (by decide +kernel))) fM)))) (xm (kA (eW (show (["program"]:List Str).length≤1 from by decide)) jV (kA (eW (show (["program"]:List Str).length≤2 from by decide)) jV v1 pV) (ve jV pV))) (fun _ _ _ _=>(u_ (gT (b5 K PySem.F.plainAttrs_str PySem.F.slot_str_startswith PySem.F.type_str_startswith lm (pv 2 (hv:=(eV (defScope bg) (by decide +kernel)))) (aa ax ac))))) (fun _ _ _ _=>(pv 1 (hv:=(eV (defScope bg) (by decide +kernel)))))))),?_⟩
 walk_at "rd1"
 refine⟨p,L,rfl,hL,by omega,fun lq H1 s1 hlq e1=>?_⟩
 refine⟨lq,rfl,⟨_,e1⟩,fun R hR=>?_⟩
 refine rn (xs:=L.map V.str) (fun i ys H'=>∃ ns:List Nat,Same H1 H'∧H' R=some (.lst ys)∧ys=ns.map iN∧ns.length≤i∧ns=(List.range i).filter fun j=>gb (L.getD j "")) ⟨[],af hR _,ae,rfl,Nat.le_refl _,rfl⟩ (fun i ys H' _ hh=>by obtain⟨_,sm,_⟩:=hh; exact SqL.of (sm _ _ e1)) ?_ ?_
 ·rintro i ys H' v t hv hi ⟨ns,sm,hl',rfl,hnl,hns⟩ ht
  rw[List.length_map]at hi
  rw[List.getElem?_map,List.getElem?_eq_getElem hi]at hv
  cases hv
  have s2:=af ht (.tup [.int (i:Int),.str L[i]])
  have et:upd H' t (.tup [.int (i:Int),.str L[i]]) t=some (.tup [.int (i:Int),.str L[i]]):=ae
  generalize upd H' t (.tup [.int (i:Int),.str L[i]])=H2 at s2 et ⊢
  have sm2:=sm.trans s2
  have eR2:=s2 _ _ hl'
  have hg:gb (L.getD i "")=(decide (0+("lend " : Str).length≤L[i].length)&&PySem.Builtin.Str.subAt L[i] "lend " 0):=by
   unfold gb
   rw[List.getD_eq_getElem?_getD,List.getElem?_eq_getElem hi]; rfl
  walk_at "rd1"
  refine⟨t,_,rfl,SqT.of et,rfl,?_⟩
  walk_at "rd1"
  rw[← hg]
  refine ck (fun c=>?_) (fun c=>?_)
  ·refine yE (by rw[List.length_map]; exact hi) (by rw[List.length_map]; exact hnl) (by rw[List.length_map]; exact bF (by omega)) eR2 ⟨ns++[i],sm2.upd hR _,ae,vc _ _,by simp; omega,?_⟩
   rw[im,if_pos c,← hns]
  ·refine AA (by rw[List.length_map]; exact hi) ⟨ns,sm2,eR2,rfl,by omega,?_⟩
   rw[im,if_neg c,← hns,List.append_nil]
 ·rintro ys H2 ⟨ns,s2,e2,rfl,_,hns⟩
  rw[List.length_map]at hns
  refine q R H2 (s1.trans s2) (s1.free hR) ?_
  rw[hns]at e2
  exact e2
def dh(ks:List aA):List (aA × V):=(List.range ks.length).foldl (fun acc i=>cj acc (ks.getD i (.inl 0)) (iN i)) []
def e6(ks:List aA)(i:Nat):List (aA × V):=(List.range i).foldl (fun acc i=>cj acc (ks.getD i (.inl 0)) (iN i)) []
theorem fw(ks:List aA)(i:Nat):e6 ks (i+1)=cj (e6 ks i) (ks.getD i (.inl 0)) (iN i):=by
 unfold e6; rw[List.range_succ,List.foldl_append]; rfl
theorem lT(ks:List aA):∀ i,(e6 ks i).length≤i
 | 0=>Nat.le_refl _
 | i+1=>by
  have:=lT ks i
  rw[fw]
  unfold cj
  split
  ·rw[List.length_map]; omega
  ·rw[List.length_append]; simp; omega
theorem mo(ks:List aA):∀ (i j:Nat) k,j<i→ks[j]? = some k→(bE (e6 ks i) k).isSome=true
 | 0,j,_,h,_=>absurd h (Nat.not_lt_zero _)
 | i+1,j,k,h,hk=>by
  rw[fw,iR]
  split
  ·rfl
  ·rename_i c
   rcases Nat.lt_or_ge j i with z | z
   ·exact mo ks i j k z hk
   ·have:j=i:=by omega
    subst this
    exact absurd (by rw[List.getD_eq_getElem?_getD,hk]; rfl) c
theorem hX{ks:List aA}{k:aA}(h:k∈ks):eY (dh ks) k:=by
 obtain⟨j,hj⟩:=List.mem_iff_getElem?.mp h
 have:=mo ks ks.length j k (List.getElem?_eq_some_iff.mp hj).1 hj
 show bE (e6 ks ks.length) k=some (b7 (e6 ks ks.length) k)
 unfold b7
 cases e:bE (e6 ks ks.length) k with
 | none=>rw[e]at this; cases this
 | some v=>rfl
section
variable{NO:Hp→Addr→List Str→Prop}
def zx(NO:Hp→Addr→List Str→Prop):Sp:=fun vs H Q _=>∃ (p:Addr) (NM:List Str),vs=[.ref p]∧NO H p NM∧∀ (q:Addr) (H':Hp),Same H H'→H q=none→H' q=some (.lst (NM.map V.str))→Q (.ref q) H'
def bM(NM:List Str)(L:List Str):List aA:=NM.map Sum.inr++(fh L).map fun (n:Nat)=>Sum.inl (n:Int)
def oM(NO:Hp→Addr→List Str→Prop)(d:Nat):Sp:=fun vs H Q _=>∃ (p:Addr) (NM L:List Str),vs=[.ref p]∧NO H p NM∧LinesAt d H p L∧L.length≤1000∧NM.length≤1000∧∀ (q:Addr) (H':Hp),Same H H'→H q=none→H' q=some (.dK (dh (bM NM L)))→Q (.ref q) H'
theorem vm(noM:∀ {H H':Hp} {p:Addr} {NM:List Str},NO H p NM→Same H H'→NO H' p NM)(D:DefAt K mg "slots_of" bA) (z_enumerate:mg "enumerate" = none) {d k:Nat} (c_names_of:aQ P w K mg base k "names_of" ["program"] (zx NO)) (c_lend_lines:aQ P w K mg base k "lend_lines" ["program"] (iu d)):aQ P w K mg base (k+1) "slots_of" ["program"] (oM NO d):=by
 refine D.cal (k:=k) sc_slots_of (fun _ _ _ _ _ _ us hl=>match us,hl with | [_],_=>rfl) (fun vs H Q E h=>by obtain⟨_,_,_,rfl,_⟩:=h; rfl) (fun f cdv A outer s H vs Q E hr h=>?_)
 obtain⟨p,NM,L,rfl,hN,hL,hl,hnl,q⟩:=h
 refine⟨_,(aj (aw 1 sc_slots_of.nd lC (hx:=El))
   (aj (cA PassesOwn.never rfl (nM K Ee z_enumerate (aa (ar aD (aB c_names_of hr (aa (pv 0 (hv:=Bf)) ac) (hg:=Ed) (hle:=by omega)) (aB c_lend_lines hr (aa (pv 0 (hv:=Bf)) ac) (hg:=D8) (hle:=by omega))) ac)) (h_ K (n:=2) (cx (bC 2 sc_slots_of.nd (hx:=D9)) (cx (bC 3 sc_slots_of.nd (hx:=DG)) fM))) (am (gK (pv 2 (hv:=Bz)) (i9 (pv 1 (hv:=zg)) (pv 3 (hv:=Dd)) (rj hr)))))
   (am (aN (pv 1 (hv:=zg)))))),?_⟩
 walk_at "rd1"
 intro RD hRD
 have s1:=af hRD (.dK [])
 have eRD:upd H RD (.dK []) RD=some (.dK (e6 (bM NM L) 0)):=ae
 generalize upd H RD (.dK [])=H1 at s1 eRD ⊢
 walk_at "nx"
 refine⟨p,NM,rfl,noM hN s1,fun nq H2 s2 hnq e2=>?_⟩
 have s12:=s1.trans s2
 refine⟨p,L,rfl,hL.mono _ s12,hl,fun lq H3 s3 hlq e3=>?_⟩
 have hll:(fh L).length≤1000:=by
  unfold fh
  refine Nat.le_trans (List.length_filter_le _ _) ?_
  rw[List.length_range]; exact hl
 dsimp only
 rw[gU]
 refine⟨_,_,s3 _ _ e2,e3,by rw[List.length_map,List.length_map]; exact bF (by omega),fun cq hcq=>?_⟩
 have ecat:NM.map V.str++(fh L).map iN=(bM NM L).map kV:=by
  unfold bM
  rw[List.map_append,List.map_map,List.map_map]; rfl
 rw[ecat]
 have hkl:(bM NM L).length≤2000:=by unfold bM; rw[List.length_append,List.length_map,List.length_map]; omega
 generalize hks:bM NM L=ks at eRD hkl q ⊢
 have s4:=af hcq (.lst (ks.map kV))
 have ecq:upd H3 cq (.lst (ks.map kV)) cq=some (.lst (ks.map kV)):=ae
 generalize upd H3 cq (.lst (ks.map kV))=H4 at s4 ecq ⊢
 have s24:=(s2.trans s3).trans s4
 have eRD4:=s24 _ _ eRD
 have ncR:cq≠RD:=cm ecq eRD4 (fun z=>nomatch z)
 walk_at "rd1"
 refine⟨⟨_,ecq⟩,?_⟩
 refine sP (xs:=ks.map kV) (fun i σ H'=>∃ (o2 o3:Option V),σ=[some (.ref p),some (.ref RD),o2,o3]∧(∀ b o,b≠RD→H4 b=some o→H' b=some o)∧H' RD=some (.dK (e6 ks i)))
  ⟨_,_,rfl,fun _ _ _ z=>z,eRD4⟩ (fun i σ H' _ hh=>by obtain⟨_,_,_,sb,_⟩:=hh; exact SqL.of (sb _ _ ncR ecq)) (fun i v t σ H5 hv hh ht=>?_) (fun σ H5 hh=>?_)
 ·obtain⟨o2,o3,rfl,sb,e5⟩:=hh
  rw[List.getElem?_map]at hv
  cases hi:ks[i]? with
  | none=>rw[hi]at hv; cases hv
  | some k0=>
   rw[hi]at hv; cases hv
   have hil:=(List.getElem?_eq_some_iff.mp hi).1
   have s6:=af ht (.tup [.int (i:Int),kV k0])
   have et:upd H5 t (.tup [.int (i:Int),kV k0]) t=some (.tup [.int (i:Int),kV k0]):=ae
   generalize upd H5 t (.tup [.int (i:Int),kV k0])=H6 at s6 et ⊢
   have hkt:=lT ks i
   walk_at "rd1"
   refine⟨t,_,rfl,SqT.of et,rfl,?_⟩
   walk_at "rd1"
   refine⟨RD,_,k0,rfl,rfl,s6 _ _ e5,ce (by omega),_,_,rfl,fun b o hb z=>by rw[ap hb]; exact s6 _ _ (sb b o hb z),?_⟩
   rw[ae,fw,List.getD_eq_getElem?_getD,hi]; rfl
 ·obtain⟨o2,o3,rfl,sb,e5⟩:=hh
  rw[List.length_map]at e5
  walk_at "nx"
  refine q RD H5 (fun b o z=>sb b o (au z hRD) (s4 _ _ (s3 _ _ (s12 _ _ z)))) hRD e5
end
theorem md{f:List ak→List Str}{g:List ak→Nat}(h:∀ T,(f T).length=g T):∀ s:ak,(cN f s).length=aU g s
 | .plain _=>rfl
 | .lend _ _ b=>by simp[cN,aU,h]
 | .ite _ b c=>by simp[cN,aU,h]; omega
 | .whl _ b=>by simp[cN,aU,h]
theorem iW:∀ (d:Nat) (T:List ak),(cJ d T).length=ah d T
 | 0,_=>rfl
 | d+1,T=>by
  show (T.flatMap (cN (cJ d))).length=(T.map (aU (ah d))).sum
  induction T with
  | nil=>rfl
  | cons s T ih=>rw[List.flatMap_cons,List.length_append,List.map_cons,List.sum_cons,ih,md (iW d)]
def Sub(L:List Str)(l:Nat)(X:List Str):Prop:=∀ (i:Nat) s,X[i]? = some s→L[l+i]? = some s
theorem Sub.left{L X Y:List Str}{l:Nat}(h:Sub L l (X++Y)):Sub L l X:=fun i s e=>h i s (by rw[List.getElem?_append_left (List.getElem?_eq_some_iff.mp e).1]; exact e)
theorem Sub.right{L X Y:List Str}{l:Nat}(h:Sub L l (X++Y)):Sub L (l+X.length) Y:=fun i s e=>by
 have:=h (X.length+i) s (by rw[List.getElem?_append_right (by omega),Nat.add_sub_cancel_left]; exact e)
 rw[← Nat.add_assoc]at this; exact this
def wU(f:List ak→Prop)(N:Str→Prop):ak→Prop
 | .plain ws=>(ws.headD "" = "do" → ws.length=3)∧∀ n∈db ws,N n
 | .lend x y b=>N x∧N y∧f b
 | .ite _ b c=>f b∧f c
 | .whl _ b=>f b
def oB(N:Str→Prop):Nat→List ak→Prop
 | 0,_=>False
 | d+1,T=>∀ s∈T,wU (oB N d) N s
theorem tw(x y:Str):gb (Txt.join " " ["lend", x,y])=true:=by
 have e:Txt.join " " ["lend", x,y]=("lend " : Str)++(x++((" " : Str)++y)):=by
  apply xH
  have h1:("lend " : Str).cps.toList=("lend" : Str).cps.toList++(" " : Str).cps.toList:=by decide +kernel
  rw[hZ,hZ,hZ,h1]
  show ((("lend" : Str).cps++(" " : Str).cps++x.cps)++(" " : Str).cps++y.cps).toList=_
  simp only[Array.toList_append,List.append_assoc]
 rw[e]
 unfold gb
 have hl:("lend " : Str).length=5:=by decide +kernel
 rw[Str.length_append,hl,decide_eq_true (by omega),Bool.true_and]
 unfold PySem.Builtin.Str.subAt
 rw[hl,beq_iff_eq]
 apply Array.ext'
 rw[Array.toList_extract,hZ]
 have h5:("lend " : Str).cps.toList.length=5:=by decide +kernel
 simp[List.extract_eq_drop_take,List.take_append,h5]
theorem uN{L:List Str}{i:Nat}{s:Str}(h:L[i]? = some s)(hs:gb s=true):i∈fh L:=by
 unfold fh
 rw[List.mem_filter]
 refine⟨List.mem_range.mpr (List.getElem?_eq_some_iff.mp h).1,?_⟩
 rw[List.getD_eq_getElem?_getD,h]; exact hs
section
variable{NM L:List Str}
theorem vQ{f:Nat→List ak→Prop}{g:List ak→Prop}{d l:Nat}(hf:∀ l b,Sub L l (cJ d b)→g b→f l b):∀ (s:ak),Sub L l (cN (cJ d) s)→wU g (fun n=>n∈NM) s→j0 (dh (bM NM L)) f (ah d) l s
 | .plain ws,_,⟨h1,h2⟩=>⟨h1,fun n hn=>hX (by unfold bM; exact List.mem_append_left _ (List.mem_map.mpr ⟨n,h2 n hn,rfl⟩))⟩
 | .lend x y b,hS,⟨hx,hy,hb⟩=>by
  have hh:L[l]? = some (Txt.join " " ["lend", x,y]):=hS 0 _ rfl
  refine⟨hX (by unfold bM; exact List.mem_append_left _ (List.mem_map.mpr ⟨x,hx,rfl⟩)),hX (by unfold bM; exact List.mem_append_left _ (List.mem_map.mpr ⟨y,hy,rfl⟩)),hX (by unfold bM; exact List.mem_append_right _ (List.mem_map.mpr ⟨l,uN hh (tw x y),rfl⟩)),hf _ _ ?_ hb⟩
  have:Sub L l ([Txt.join " " ["lend", x,y]]++(cJ d b++[("back" : Str)])):=hS
  exact this.right.left
 | .ite n b c,hS,⟨hb,hc⟩=>by
  have:Sub L l ([Txt.join " " ["if", gP n]]++((cJ d b++[("else" : Str)])++(cJ d c++[("fi" : Str)]))):=hS
  refine⟨hf _ _ this.right.left.left hb,hf _ _ ?_ hc⟩
  have h2:=this.right.right.left
  rw[List.length_append,iW,List.length_singleton,List.length_singleton]at h2
  rw[show l+1+ah d b+1=l+1+(ah d b+1) by omega]; exact h2
 | .whl n b,hS,hb=>by
  have:Sub L l ([Txt.join " " ["while", gP n]]++(cJ d b++[("done" : Str)])):=hS
  exact hf _ _ this.right.left hb
theorem jL:∀ (d l:Nat) (T:List ak),Sub L l (cJ d T)→oB (fun n=>n∈NM) d T→di (dh (bM NM L)) d l T
 | 0,_,_,_,h=>h
 | d+1,l,T,hS,hN=>by
  have go:∀ (T:List ak) (l:Nat),Sub L l (T.flatMap (cN (cJ d)))→(∀ s∈T,wU (oB (fun n=>n∈NM) d) (fun n=>n∈NM) s)→∀ z∈dC (aU (ah d)) l T,j0 (dh (bM NM L)) (di (dh (bM NM L)) d) (ah d) z.1 z.2:=fun T=>by
   induction T with
   | nil=>intro l _ _ z hz; cases hz
   | cons s T ih=>
    intro l hS hN z hz
    rw[List.flatMap_cons]at hS
    rcases List.mem_cons.mp hz with rfl | hz
    ·exact vQ (fun l b h1 h2=>jL d l b h1 h2) s hS.left (hN s List.mem_cons_self)
    ·have h2:=hS.right
     rw[md (iW d)]at h2
     exact ih (l+aU (ah d) s) h2 (fun s hs=>hN s (List.mem_cons_of_mem _ hs)) z hz
  exact go T l hS hN
end
section
variable{CN:Addr}{NO:Hp→Addr→List Str→Prop}
def bN(NM:List Str)(d:Nat)(t:Bool)(T:List ak):List aK:=ao (dh (bM NM (cJ d T))) d t 0 0 T++[[.str "end", iN (ah d T)]]
structure jd (NO:Hp→Addr→List Str→Prop) (H:Hp) (p:Addr) (d:Nat) (T:List ak) (NM:List Str):Prop where
 prog:∃ S,ProgAt S d H p T
 ok:dA d T
 no:NO H p NM
 ln:LinesAt d H p (cJ d T)
 nm:oB (fun n=>n∈NM) d T
 cnt:ah d T≤200
 nl:NM.length≤1000
 d20:d≤20
def jK(NO:Hp→Addr→List Str→Prop)(d:Nat):Sp:=fun vs H Q _=>∃ (p:Addr) (t:Bool) (T:List ak) (NM:List Str),vs=[.ref p,.bl t]∧jd NO H p d T NM∧∀ (q:Addr) (H':Hp),Same H H'→H q=none→ListR H' q (bN NM d t T)→Q (.ref q) H'
theorem qM(noM:∀ {H H':Hp} {p:Addr} {NM:List Str},NO H p NM→Same H H'→NO H' p NM)(D:DefAt K mg "rows_and_end" ba) {d k:Nat} (hk1:1≤k) (c_numbered_steps:aQ P w K mg base (2 * d+4) "numbered_steps" ["steps", "line"] (mf K CN d)) (c_rows_of:aQ P w K mg base (3 * d+2) "rows_of" ["steps", "at", "slots", "turned"] (eQ K CN d)) (c_slots_of:aQ P w K mg base k "slots_of" ["program"] (oM NO d)) (c_line_behind:aQ P w K mg base 1 "line_behind" ["steps", "line"] (ga K CN)) (h1:2 * d+4≤k) (h2:3 * d+2≤k):aQ P w K mg base (k+1) "rows_and_end" ["program", "turned"] (jK NO d):=by
 refine D.cal (k:=k) sc_rows_and_end (fun _ _ _ _ _ _ us hl=>match us,hl with | [_,_],_=>rfl) (fun vs H Q E h=>by obtain⟨_,_,_,_,rfl,_⟩:=h; rfl) (fun f cdv A outer s H vs Q E hr h=>?_)
 obtain⟨p,t,T,NM,rfl,I,q⟩:=h
 obtain⟨S,hP⟩:=I.prog
 have hcnt:=I.cnt
 refine⟨_,(aj (aw 2 sc_rows_and_end.nd (aB c_numbered_steps hr (aa (pv 0 (hv:=yz)) (aa ai ac)) (hg:=BV) (hle:=by omega)) (hx:=Bn))
   (am (aN (ar aD (aB c_rows_of hr (aa (pv 2 (hv:=yG)) (aa ai (aa (aB c_slots_of hr (aa (pv 0 (hv:=yz)) ac) (hg:=CC) (hle:=by omega)) (aa (pv 1 (hv:=CP)) ac)))) (hg:=B5) (hle:=by omega)) (bd (aa (bc (aa ax (aa (aB c_line_behind hr (aa (pv 2 (hv:=yG)) (aa ai ac)) (hg:=Cs) (hle:=by omega)) ac))) ac)))))),?_⟩
 walk_at "rd1"
 refine⟨p,0,T,S,rfl,hP,I.ok,by omega,fun nq H1 s1 hN=>?_⟩
 walk_at "nx"
 refine⟨p,NM,cJ d T,rfl,noM I.no s1,I.ln.mono _ s1,by rw[iW]; omega,I.nl,fun sq H2 s2 hsq e2=>?_⟩
 refine⟨nq,sq,0,0,t,T,_,_,rfl,hN.mono s2,I.ok,e2,jL d 0 T (fun i s e=>by rw[Nat.zero_add]; exact e) I.nm,I.cnt,I.d20,fun rq H3 s3 hrq hR=>?_⟩
 have hRl:=cO (kv:=dh (bM NM (cJ d T))) (a:=0) (l:=0) (t:=t) I.cnt I.d20
 generalize hRR:ao (dh (bM NM (cJ d T))) d t 0 0 T=R at hR hRl
 have s23:=s2.trans s3
 cases d with
 | zero=>exact hN.elim
 | succ d=>
  refine⟨nq,0,d,T,_,rfl,hN.mono s23,by omega,?_⟩
  walk_at "rd1"
  refine⟨by decide,fun t1 ht1=>?_⟩
  generalize hH4:upd H3 t1 _=H4
  have s4:Same H3 H4:=by rw[← hH4]; exact af ht1 _
  have et1:aZ H4 t1 [.str "end", iN (ah (d+1) T)]:=by
   show H4 t1=_
   rw[← hH4,ae,Nat.zero_add]; rfl
  refine⟨by decide,fun m1 hm1=>?_⟩
  have s5:=af hm1 (.lst [.ref t1])
  have L1:=eT et1 hm1
  generalize upd H4 m1 (.lst [.ref t1])=H5 at s5 L1 ⊢
  obtain⟨as1,a1,a2⟩:=hR.mono (s4.trans s5)
  obtain⟨bs1,b1,b2⟩:=L1
  refine⟨_,_,a1,b1,cK a2 b2 (by simp only[List.length_cons,List.length_nil]; omega),fun m2 hm2=>?_⟩
  have s6:=af hm2 (.lst (as1.map V.ref++bs1.map V.ref))
  have L2:=cY a2 b2 hm2
  generalize upd H5 m2 (.lst (as1.map V.ref++bs1.map V.ref))=H6 at s6 L2 ⊢
  have s05:=((s1.trans s23).trans s4).trans s5
  refine q m2 H6 (s05.trans s6) (s05.free hm2) ?_
  unfold bN
  rw[hRR]
  exact L2
def uP(NO:Hp→Addr→List Str→Prop)(d:Nat):Sp:=fun vs H Q _=>∃ (p:Addr) (T:List ak) (NM:List Str),vs=[.ref p]∧jd NO H p d T NM∧∀ (q:Addr) (H':Hp),Same H H'→H q=none→ListR H' q (bN NM d false T)→Q (.ref q) H'
theorem xM(D:DefAt K mg "code_of" cL) {d k:Nat} (c_rows_and_end:aQ P w K mg base k "rows_and_end" ["program", "turned"] (jK NO d)):aQ P w K mg base (k+1) "code_of" ["program"] (uP NO d):=by
 refine D.cal (k:=k) ql (fun _ _ _ _ _ _ us hl=>match us,hl with | [_],_=>rfl) (fun vs H Q E h=>by obtain⟨_,_,_,rfl,_⟩:=h; rfl) (fun f cdv A outer s H vs Q E hr h=>?_)
 obtain⟨p,T,NM,rfl,I,q⟩:=h
 refine⟨_,(am (aN (aB c_rows_and_end hr (aa (pv 0 (hv:=Ck)) (aa ei ac)) (hg:=Bv) (hle:=by omega)))),?_⟩
 walk_at "rd1"
 exact⟨p,false,T,NM,rfl,I,q⟩
def nS(NO:Hp→Addr→List Str→Prop)(d:Nat):Sp:=fun vs H Q _=>∃ (p:Addr) (T:List ak) (NM:List Str),vs=[.ref p]∧jd NO H p d T NM∧∀ (q:Addr) (H':Hp),Same H H'→H q=none→ListR H' q (bN NM d true T)→Q (.ref q) H'
theorem uL(D:DefAt K mg "turned_code" bW) {d k:Nat} (c_rows_and_end:aQ P w K mg base k "rows_and_end" ["program", "turned"] (jK NO d)):aQ P w K mg base (k+1) "turned_code" ["program"] (nS NO d):=by
 refine D.cal (k:=k) jD (fun _ _ _ _ _ _ us hl=>match us,hl with | [_],_=>rfl) (fun vs H Q E h=>by obtain⟨_,_,_,rfl,_⟩:=h; rfl) (fun f cdv A outer s H vs Q E hr h=>?_)
 obtain⟨p,T,NM,rfl,I,q⟩:=h
 refine⟨_,(am (aN (aB c_rows_and_end hr (aa (pv 0 (hv:=BG)) (aa ei ac)) (hg:=Dg) (hle:=by omega)))),?_⟩
 walk_at "rd1"
 exact⟨p,true,T,NM,rfl,I,q⟩
end
end
def cT:ak→List (List ak)
 | .plain _=>[]
 | .lend _ _ b=>[b]
 | .ite _ b c=>[b,c]
 | .whl _ b=>[b]
def dR(f:List ak→List ak)(s:ak):List ak:=s::(cT s).flatMap f
def bJ:Nat→List ak→List ak
 | 0,_=>[]
 | d+1,T=>T.flatMap (dR (bJ d))
inductive dO:List Str→Prop
 | opn (x:Str):dO ["open", x]
 | drp (x:Str):dO ["drop", x]
 | cpy (x y:Str):dO ["copy", x,y]
 | tie (x y:Str):dO ["tie", x,y]
 | doo (u x:Str):dO ["do", u,x]
def bB:ak→List Str
 | .plain ws=>if ws.headD "" = "do" then ws.drop 2 else ws.drop 1
 | .lend x y _=>[x,y]
 | .ite _ _ _=>[]
 | .whl _ _=>[]
def dM(f:List ak→Prop):ak→Prop
 | .plain ws=>dO ws
 | .lend _ _ b=>f b
 | .ite _ b c=>f b∧f c
 | .whl _ b=>f b
def gQ:Nat→List ak→Prop
 | 0,_=>False
 | d+1,T=>∀ s∈T,dM (gQ d) s
def headAt(H:Hp)(a:Addr)(s:ak):Prop:=stpAt (fun _ _=>True) H a s
theorem headAt.mono{H H':Hp}{a:Addr}{s:ak}(h:headAt H a s)(sm:Same H H'):headAt H' a s:=stpAt.imp (fun b xs e=>sm _ _ e) (fun _ _ _=>trivial) h
theorem sf{PA:Addr→List ak→Prop}{H:Hp}{a:Addr}{g:List ak→Prop}:∀ {s:ak},stpAt PA H a s→dM g s→∃ (kind:Str) (hs:List V) (bs:List Addr),H a=some (.tup (.str kind::hs++bs.map V.ref))∧bs.length=(aV kind).length∧Paired PA bs (cT s)∧∀ b∈cT s,g b
 | .plain ws,h,ok=>by
  cases ok with
  | opn x=>exact⟨"open", [.str x],[],h,by show 0=(aV "open").length; decide,.nil,by simp[cT]⟩
  | drp x=>exact⟨"drop", [.str x],[],h,by show 0=(aV "drop").length; decide,.nil,by simp[cT]⟩
  | cpy x y=>exact⟨"copy", [.str x,.str y],[],h,by show 0=(aV "copy").length; decide,.nil,by simp[cT]⟩
  | tie x y=>exact⟨"tie", [.str x,.str y],[],h,by show 0=(aV "tie").length; decide,.nil,by simp[cT]⟩
  | doo u x=>exact⟨"do", [.str u,.str x],[],h,by show 0=(aV "do").length; decide,.nil,by simp[cT]⟩
 | .lend x y b,⟨q,h,z⟩,ok=>⟨"lend", [.str x,.str y],[q],h,by show 1=(aV "lend").length; decide,.cons z .nil,by simpa [cT,dM] using ok⟩
 | .ite n b c,⟨q,r,h,z,y⟩,ok=>⟨"if", [.int n],[q,r],h,by show 2=(aV "if").length; decide,.cons z (.cons y .nil),by simpa [cT,dM] using ok⟩
 | .whl n b,⟨q,h,z⟩,ok=>⟨"while", [.int n],[q],h,by show 1=(aV "while").length; decide,.cons z .nil,by simpa [cT,dM] using ok⟩
def nY(d:Nat):Sp:=fun vs H Q _=>∃ (p:Addr) (T:List ak) (S:Addr→Prop),vs=[.ref p]∧ProgAt S d H p T∧gQ d T∧(bJ d T).length≤5000∧
 ∀ (q:Addr) (H':Hp) (ads:List Addr),Same H H'→H q=none→H' q=some (.lst (ads.map V.ref))→Paired (headAt H') ads (bJ d T)→Q (.ref q) H'
theorem qg{α β : Type}(f:α→List β)(T:List α)(i:Nat):((T.take i).flatMap f).length≤(T.flatMap f).length:=by
 rw[List.flatMap_def,List.flatMap_def,List.map_take]; exact jJ _ _
theorem jy{α β : Type}(f:α→List β){T:List α}{i:Nat}{x:α}(h:T[i]? = some x):(T.take (i+1)).flatMap f=(T.take i).flatMap f++f x:=by
 rw[List.take_add_one,h,List.flatMap_append]; simp
theorem jm{α β : Type}{R:α→β→Prop}:∀ {xs zs:List α} {ys us:List β},Paired R xs ys→Paired R zs us→Paired R (xs++zs) (ys++us)
 | _,_,_,_,.nil,h=>h
 | _,_,_,_,.cons h t,h'=>.cons h (jm t h')
section
variable{P:Program}{w:World}{K:PySem.W.Frag}{mg:Str→Option Value}{base:Heap}
theorem kY(D:DefAt K mg "steps_within" aS) (c_blocks_of:aQ P w K mg base 3 "blocks_of" ["step"] (fe K)):∀ d:Nat,aQ P w K mg base (d+4) "steps_within" ["program"] (nY d)
 | 0=>D.cal (k:=3) sc_steps_within (fun _ _ _ _ _ _ us hl=>match us,hl with | [_],_=>rfl) (fun vs H Q E h=>by obtain⟨p,T,S,rfl,_⟩:=h; rfl) (fun f cdv A outer s H vs Q E hr h=>by obtain⟨p,T,S,rfl,z,_⟩:=h; exact z.elim)
 | d+1=>by
  have c_steps_within:=kY D c_blocks_of d
  refine D.cal (k:=d+4) sc_steps_within (fun _ _ _ _ _ _ us hl=>match us,hl with | [_],_=>rfl) (fun vs H Q E h=>by obtain⟨p,T,S,rfl,_⟩:=h; rfl) (fun f cdv A outer s H vs Q E hr h=>?_)
  obtain⟨p,T,S,rfl,⟨hS,as,h1,h2⟩,ok,hL,q⟩:=h
  have hlen:=aC h2
  refine⟨_,(aj (aw 1 sc_steps_within.nd (bd ac) (hx:=EJ))
   (aj (cA PassesOwn.never rfl (dn K (pv 0 (hv:=EC))) (bC 2 sc_steps_within.nd (hx:=D1)) (aj (bD (b5 K PySem.F.plainAttrs_list PySem.F.slot_list_append PySem.F.type_list_append bX (pv 1 (hv:=zR)) (aa (pv 2 (hv:=A5)) ac)))
   (am (cA PassesOwn.never rfl (g_ K (aB c_blocks_of hr (aa (pv 2 (hv:=A5)) ac) (hg:=E2) (hle:=by omega))) (bC 3 sc_steps_within.nd (hx:=EF)) (am (bD (b5 K PySem.F.plainAttrs_list PySem.F.slot_list_extend PySem.F.type_list_extend dX (pv 1 (hv:=zR)) (aa (aB c_steps_within hr (aa (pv 3 (hv:=Ek)) ac) (hg:=DM) (hle:=by omega)) ac))))))))
   (am (aN (pv 1 (hv:=zR)))))),?_⟩
  walk_at "rd1"
  refine⟨by decide,fun lp hlp=>?_⟩
  generalize hH1:upd H lp _=H1
  have sm1:=eR hH1 hlp
  have e1:=hJ hH1
  walk_at "nx"
  refine⟨⟨_,SqL.of (sm1 _ _ h1)⟩,?_⟩
  refine cR (xs:=as.map V.ref) (fun i σ H'=>∃ (ads:List Addr) (o2 o3:Option V),σ=[some (.ref p),some (.ref lp),o2,o3]∧Same H H'∧H' lp=some (.lst (ads.map V.ref))∧Paired (headAt H') ads ((T.take i).flatMap (dR (bJ d))))
   ⟨[],none,none,rfl,sm1,e1,.nil⟩ (fun i σ H' _ h=>by obtain⟨_,_,_,_,sm,_⟩:=h; exact SqL.of (sm _ _ h1)) ?_ ?_
  ·rintro i v σ H' hv ⟨ads,o2,o3,rfl,sm,hl,hp⟩
   have hi:i<as.length:=by have:=(List.getElem?_eq_some_iff.mp hv).1; simpa using this
   rw[List.getElem?_map,List.getElem?_eq_getElem hi]at hv
   cases hv
   obtain⟨s,hs,st⟩:=bP h2 (List.getElem?_eq_getElem hi)
   have oks:=ok s (List.mem_of_getElem? hs)
   obtain⟨kind,hds,bs,ha,hbl,hbp,hbo⟩:=sf st oks
   have hflat:=jy (dR (bJ d)) hs
   have hfl:=qg (dR (bJ d)) T (i+1)
   have hL':(T.flatMap (dR (bJ d))).length≤5000:=hL
   rw[hflat]at hfl ⊢
   have hpl:=aC hp
   generalize (T.take i).flatMap (dR (bJ d))=pre at hp hfl hpl ⊢
   have hps:(dR (bJ d) s).length=1+((cT s).flatMap (bJ d)).length:=by show (s::_).length=_; rw[List.length_cons]; omega
   rw[List.length_append,hps]at hfl
   have hhd:headAt H as[i] s:=stpAt.imp (fun b xs e=>e) (fun _ _ _=>trivial) st
   walk_at "rd1"
   refine⟨⟨_,SqL.of hl⟩,_,hl,by rw[List.length_map]; exact ce (by omega),?_⟩
   have upl:∀ {X:Hp} {o:HO} {l:List Addr} {us:List ak} {ys:List V},X lp=some (.lst ys)→Paired (headAt X) l us→Paired (headAt (upd X lp o)) l us:=fun {X o l us ys} e h=>Paired.imp' (fun a s z=>stpAt.imp (fun b xs e'=>by rw[ap (cm e' e (fun z=>nomatch z))]; exact e') (fun _ _ _=>trivial) z) h
   have hp2:=upl (o:=.lst (ads.map V.ref++[.ref as[i]])) hl hp
   have sm2:Same H (upd H' lp (.lst (ads.map V.ref++[.ref as[i]]))):=sm.upd hlp _
   have e2:upd H' lp (.lst (ads.map V.ref++[.ref as[i]])) lp=some (.lst ((ads++[as[i]]).map V.ref)):=by rw[ae,List.map_append]; rfl
   generalize upd H' lp (.lst (ads.map V.ref++[.ref as[i]]))=H2 at hp2 sm2 e2 ⊢
   have hat:SqT K H2 as[i] (.str kind::(hds++bs.map V.ref)):=SqT.of (sm2 _ _ ha)
   have hcl:(aV kind).length≤(hds++bs.map V.ref).length+1:=by rw[List.length_append,List.length_map,hbl]; omega
   have hcut:(hds++bs.map V.ref).length+1 - (aV kind).length=hds.length+1:=by rw[List.length_append,List.length_map,hbl]; omega
   walk_at "nx"
   refine⟨as[i],kind,hds++bs.map V.ref,rfl,hat,hcl,fun bp H3 sm3 hbp3=>?_⟩
   rw[hcut]at hbp3
   have edr:(V.str kind::(hds++bs.map V.ref)).drop (hds.length+1)=bs.map V.ref:=by rw[List.drop_succ_cons,List.drop_left']; rfl
   rw[edr]at hbp3
   walk_at "rd1"
   refine⟨⟨_,hbp3⟩,?_⟩
   have hil:=aC hbp
   refine nr (xs:=bs.map V.ref) (fun j σ H'=>∃ (ads':List Addr) (o3:Option V),σ=[some (.ref p),some (.ref lp),some (.ref as[i]),o3]∧Same H H'∧SqT K H' bp (bs.map V.ref)∧H' lp=some (.lst (ads'.map V.ref))∧Paired (headAt H') ads' (pre++(s::((cT s).take j).flatMap (bJ d))))
    ⟨ads++[as[i]],o3,rfl,sm2.trans sm3,hbp3,sm3 _ _ e2,?_⟩ (fun j σ H' _ h=>by obtain⟨_,_,_,_,z1,_⟩:=h; exact z1) ?_ ?_
   ·exact eh (R:=headAt H3) (hhd.mono (sm2.trans sm3)) (Paired.imp' (fun a s z=>headAt.mono z sm3) hp2)
   ·rintro j x σ H4 hx ⟨ads',o3,rfl,sm4,hb4,hl4,hp4⟩
    have hj:j<bs.length:=by have:=(List.getElem?_eq_some_iff.mp hx).1; simpa using this
    rw[List.getElem?_map,List.getElem?_eq_getElem hj]at hx
    cases hx
    obtain⟨b,hb,hpb⟩:=bP hbp (List.getElem?_eq_getElem hj)
    have hsn:=jy (bJ d) hb
    have hle:=qg (bJ d) (cT s) (j+1)
    rw[hsn]at hle ⊢
    rw[List.length_append]at hle
    have hpl4:=aC hp4
    rw[List.length_append,List.length_cons]at hpl4
    walk_at "rd1"
    refine⟨⟨_,SqL.of hl4⟩,bs[j],b,S,rfl,hpb.mono sm4,hbo b (List.mem_of_getElem? hb),by omega,fun r H5 ads5 sm5 hr5 hl5 hp5=>?_⟩
    have hpl5:=aC hp5
    walk_at "rd1"
    refine⟨_,_,sm5 _ _ hl4,hl5,bF (by rw[List.length_map,List.length_map]; omega),?_⟩
    refine⟨ads'++ads5,_,rfl,(sm4.trans sm5).upd hlp _,(hb4.same sm5).updL (sm5 _ _ hl4),by rw[ae,List.map_append],?_⟩
    rw[← List.cons_append,← List.append_assoc]
    exact jm (upl (sm5 _ _ hl4) (Paired.imp' (fun a s z=>headAt.mono z sm5) hp4)) (upl (sm5 _ _ hl4) hp5)
   ·rintro σ H4 ⟨ads',o3,rfl,sm4,hb4,hl4,hp4⟩
    rw[List.length_map,List.take_of_length_le (by omega)]at hp4
    exact⟨ads',_,_,rfl,sm4,hl4,hp4⟩
  ·rintro σ H' ⟨ads,o2,o3,rfl,sm,hl,hp⟩
   walk_at "nx"
   rw[List.length_map,List.take_of_length_le (by omega)]at hp
   exact q lp H' ads sm hlp hl hp
def fq(acc:List Str)(x:Str):List Str:=if x∈acc then acc else acc++[x]
def cS(l:List Str):List Str:=l.foldl fq []
def gR(l:List Str):List (aA × V):=l.map fun x=>(Sum.inr x,V.bl true)
theorem xx(acc:List Str)(x:Str):cj (gR acc) (.inr x) (.bl true)=gR (fq acc x):=by
 unfold cj fq
 by_cases h:x∈acc
 ·rw[if_pos h]
  have ha:((gR acc).any fun kv=>decide (kv.1=(Sum.inr x:aA)))=true:=by
   rw[List.any_eq_true]
   exact⟨(.inr x,.bl true),List.mem_map.mpr ⟨x,h,rfl⟩,by simp⟩
  rw[if_pos ha]
  unfold gR
  rw[List.map_map]
  refine List.map_congr_left fun y _=>?_
  by_cases e:y=x
  ·subst e; simp
  ·have:¬ ((Sum.inr y:aA)=Sum.inr x):=fun z=>e (Sum.inr.inj z)
   simp[this]
 ·rw[if_neg h]
  have ha:((gR acc).any fun kv=>decide (kv.1=(Sum.inr x:aA)))=false:=by
   rw[List.any_eq_false]
   intro kv hkv
   obtain⟨y,hy,rfl⟩:=List.mem_map.mp hkv
   have:¬ ((Sum.inr y:aA)=Sum.inr x):=fun z=>h (Sum.inr.inj z ▸ hy)
   simp[this]
  rw[if_neg (by rw[ha]; exact Bool.false_ne_true)]
  unfold gR
  rw[List.map_append]; rfl
theorem fO:∀ (l acc:List Str),(l.foldl fq acc).length≤acc.length+l.length
 | [],acc=>by simp
 | x::l,acc=>by
  have:=fO l (fq acc x)
  have h2:(fq acc x).length≤acc.length+1:=by unfold fq; split <;> simp
  rw[List.foldl_cons,List.length_cons]; omega
def bT:List V→List Str→List Str
 | .str x::xs,k::ks=>if k = "name" then x::bT xs ks else bT xs ks
 | _::xs,_::ks=>bT xs ks
 | _,_=>[]
def c_:List (Str × List Str):=[("open", ["name"]),("do", ["word", "name"]),("copy", ["name", "name"]),("drop", ["name"]),("tie", ["name", "name"]),("lend", ["name", "name", "steps"]),("if", ["bound", "steps", "steps"]),("while", ["bound", "steps"])]
structure EK (H:Hp) (a:Addr) (s:ak) (kind:Str) (xs:List V) (ks:List Str):Prop where
 at':H a=some (.tup (.str kind::xs))
 kd:(kind,ks)∈c_
 len:xs.length=ks.length
 txt:∀ (i:Nat) (x:V),xs[i]? = some x→ks[i]? = some "name" → ∃ y,x = .str y
 names:bT xs ks=bB s
theorem mF{α : Type}{a b x:α}{i:Nat}(h:[a,b][i]? = some x):(i=0∧x=a)∨(i=1∧x=b):=by
 match i,h with
 | 0,h=>exact .inl ⟨rfl,by simpa using h.symm⟩
 | 1,h=>exact .inr ⟨rfl,by simpa using h.symm⟩
 | i+2,h=>simp at h
theorem rS{H:Hp}{a:Addr}{g:List ak→Prop}:∀ {s:ak},headAt H a s→dM g s→∃ kind xs ks,EK H a s kind xs ks
 | .plain ws,h,ok=>by
  cases ok with
  | opn x=>exact⟨"open", [.str x],["name"],h,by simp[c_],rfl,fun i y e _=>by match i,e with | 0,e=>exact⟨x,by simpa using e.symm⟩ | i+1,e=>simp at e,by simp[bT,bB]; decide⟩
  | drp x=>exact⟨"drop", [.str x],["name"],h,by simp[c_],rfl,fun i y e _=>by match i,e with | 0,e=>exact⟨x,by simpa using e.symm⟩ | i+1,e=>simp at e,by simp[bT,bB]; decide⟩
  | cpy x y=>exact⟨"copy", [.str x,.str y],["name", "name"],h,by simp[c_],rfl,fun i z e _=>by rcases mF e with ⟨_,rfl⟩ | ⟨_,rfl⟩ <;> exact⟨_,rfl⟩,by simp[bT,bB]; decide⟩
  | tie x y=>exact⟨"tie", [.str x,.str y],["name", "name"],h,by simp[c_],rfl,fun i z e _=>by rcases mF e with ⟨_,rfl⟩ | ⟨_,rfl⟩ <;> exact⟨_,rfl⟩,by simp[bT,bB]; decide⟩
  | doo u x=>exact⟨"do", [.str u,.str x],["word", "name"],h,by simp[c_],rfl,fun i z e _=>by rcases mF e with ⟨_,rfl⟩ | ⟨_,rfl⟩ <;> exact⟨_,rfl⟩,by simp[bT,bB]; decide⟩
 | .lend x y b,⟨q,h,_⟩,ok=>⟨"lend", [.str x,.str y,.ref q],["name", "name", "steps"],h,by simp[c_],rfl,fun i z e e2=>by match i,e,e2 with | 0,e,e2=>exact⟨_,by simpa using e.symm⟩ | 1,e,e2=>exact⟨_,by simpa using e.symm⟩ | 2,e,e2=>exact absurd (by simpa using e2) (show ¬ (("steps" : Str) = "name") from by decide) | i+3,e,e2=>simp at e,by simp[bT,bB]⟩
 | .ite n b c,⟨q,r,h,_,_⟩,ok=>⟨"if", [.int n,.ref q,.ref r],["bound", "steps", "steps"],h,by simp[c_],rfl,fun i z e e2=>by match i,e,e2 with | 0,e,e2=>exact absurd (by simpa using e2) (show ¬ (("bound" : Str) = "name") from by decide) | 1,e,e2=>exact absurd (by simpa using e2) (show ¬ (("steps" : Str) = "name") from by decide) | 2,e,e2=>exact absurd (by simpa using e2) (show ¬ (("steps" : Str) = "name") from by decide) | i+3,e,e2=>simp at e,by simp[bT,bB]⟩
 | .whl n b,⟨q,h,_⟩,ok=>⟨"while", [.int n,.ref q],["bound", "steps"],h,by simp[c_],rfl,fun i z e e2=>by match i,e,e2 with | 0,e,e2=>exact absurd (by simpa using e2) (show ¬ (("bound" : Str) = "name") from by decide) | 1,e,e2=>exact absurd (by simpa using e2) (show ¬ (("steps" : Str) = "name") from by decide) | i+2,e,e2=>simp at e,by simp[bT,bB]⟩
theorem mD:∀ {xs:List V} {ks:List Str} (x:V) (k:Str),xs.length=ks.length→bT (xs++[x]) (ks++[k])=bT xs ks++bT [x] [k]
 | [],[],x,k,_=>rfl
 | [],_::_,_,_,h=>by simp at h
 | _::_,[],_,_,h=>by simp at h
 | y::xs,c::ks,x,k,h=>by
  have ih:=mD (xs:=xs) (ks:=ks) x k (by simpa using h)
  cases y <;> simp only[List.cons_append,bT,ih]
  split <;> simp
theorem lc(xs:List V)(ks:List Str)(j:Nat)(h:xs.length=ks.length):(bT (xs.take j) (ks.take j)).length≤(bT xs ks).length:=by
 induction xs generalizing ks j with
 | nil=>simp[bT]
 | cons y xs ih=>
  cases ks with
  | nil=>simp at h
  | cons c ks=>
   cases j with
   | zero=>simp[bT]
   | succ j=>
    have:=ih ks j (by simpa using h)
    rw[List.take_succ_cons,List.take_succ_cons]
    cases y <;> simp only[bT] <;> (try split) <;> (try simp only[List.length_cons]) <;> omega
theorem vj{K:PySem.W.Frag}{H:Hp}{a l:Addr}{xs:List V}{kvs:List (aA × V)}{o:HO}(h:SqT K H a xs)(hl:H l=some (.dK kvs)):SqT K (upd H l o) a xs:=by
 rcases h with (h | ⟨o',h⟩) | h
 ·exact .inl (.inl (by rw[ap (cm h hl (fun z=>nomatch z))]; exact h))
 ·exact .inl (.inr ⟨o',by rw[ap (cm h hl (fun z=>nomatch z))]; exact h⟩)
 ·exact .inr h
def kQ:Sp:=fun vs H Q _=>∃ (sp:Addr) (ads:List Addr) (Ps:List ak) (g:List ak→Prop),vs=[.ref sp]∧H sp=some (.lst (ads.map V.ref))∧Paired (headAt H) ads Ps∧(∀ s∈Ps,dM g s)∧(Ps.flatMap bB).length≤5000∧
 ∀ (q:Addr) (H':Hp),Same H H'→H q=none→H' q=some (.lst ((cS (Ps.flatMap bB)).map V.str))→Q (.ref q) H'
theorem rC(D:DefAt K mg "names_in" bo) (z_zip:mg "zip" = none) (z_list:mg "list" = none) {dP:Addr} {kvs:List (Str × V)} (g_PARTS:mg "PARTS" = some (.ref dP)) (m:ModD w K dP kvs)
  (qk:∀ kind ks,(kind,ks)∈c_→∃ a,bE kvs kind=some (.ref a)∧∀ H:Hp,SqT K H a (ks.map V.str)):aQ P w K mg base 1 "names_in" ["steps"] kQ:=by
 refine D.cal sc_names_in (fun _ _ _ _ _ _ us hl=>match us,hl with | [_],_=>rfl) (fun vs H Q E h=>by obtain⟨_,_,_,_,rfl,_⟩:=h; rfl) (fun f cdv A outer s H vs Q E hr h=>?_)
 obtain⟨sp,ads,Ps,g,rfl,hsp,hp,hok,hL,q⟩:=h
 have hlen:=aC hp
 refine⟨_,(aj (aw 1 sc_names_in.nd lC (hx:=EH))
   (aj (cA PassesOwn.never rfl (dn K (pv 0 (hv:=D3))) (bC 2 sc_names_in.nd (hx:=DD)) (am (cA PassesOwn.never rfl (oY K DQ z_zip (aa (fj (ia K) (pv 2 (hv:=A9)) (eP ai) h9) (aa (av (B7 w K) (oQ g_PARTS (hg:=EZ)) (av (aG K) (pv 2 (hv:=A9)) ai (fun _ _=>rfl)) (fun _ _=>rfl)) ac))) (h_ K (n:=2) (cx (bC 3 sc_names_in.nd (hx:=EW)) (cx (bC 4 sc_names_in.nd (hx:=EI)) fM))) (am (b6 (bi bY (pv 4 (hv:=DA)) ax (bt _)) (am (gK ei (i9 (pv 1 (hv:=AW)) (pv 3 (hv:=Ej)) (rj hr)))) ci)))))
   (am (aN (fg (qC hr) z_list jX (aa (pv 1 (hv:=AW)) ac) (hg:=D2)))))),?_⟩
 walk_at "rd1"
 refine fun dp hdp=>?_
 generalize hH1:upd H dp _=H1
 have sm1:=eR hH1 hdp
 have e1:=hJ hH1
 walk_at "nx"
 refine⟨⟨_,SqL.of (sm1 _ _ hsp)⟩,?_⟩
 refine cR (xs:=ads.map V.ref) (fun i σ H'=>∃ o2 o3 o4:Option V,σ=[some (.ref sp),some (.ref dp),o2,o3,o4]∧Same H H'∧H' dp=some (.dK (gR (cS ((Ps.take i).flatMap bB)))))
  ⟨none,none,none,rfl,sm1,e1⟩ (fun i σ H' _ h=>by obtain⟨_,_,_,_,sm,_⟩:=h; exact SqL.of (sm _ _ hsp)) ?_ ?_
 ·rintro i v σ H' hv ⟨o2,o3,o4,rfl,sm,hd⟩
  have hi:i<ads.length:=by have:=(List.getElem?_eq_some_iff.mp hv).1; simpa using this
  rw[List.getElem?_map,List.getElem?_eq_getElem hi]at hv
  cases hv
  obtain⟨s,hs,st⟩:=bP hp (List.getElem?_eq_getElem hi)
  obtain⟨kind,xs,ks,hd1,hd2,hd3,hd4,hd5⟩:=rS st (hok s (List.mem_of_getElem? hs))
  obtain⟨ka,hka,hks⟩:=qk kind ks hd2
  have hsn:=jy bB hs
  have hfl:=qg bB Ps (i+1)
  rw[hsn]at hfl ⊢
  have hded:cS ((Ps.take i).flatMap bB++bB s)=(bB s).foldl fq (cS ((Ps.take i).flatMap bB)):=by unfold cS; rw[List.foldl_append]
  rw[hded]
  have hac:=fO ((Ps.take i).flatMap bB) []
  rw[List.length_append]at hfl
  rw[List.length_nil]at hac
  have hac':(cS ((Ps.take i).flatMap bB)).length≤((Ps.take i).flatMap bB).length:=by unfold cS; omega
  generalize cS ((Ps.take i).flatMap bB)=acc at hd hac' ⊢
  have hat:SqT K H' ads[i] (.str kind::xs):=SqT.of (sm _ _ hd1)
  walk_at "rd1"
  refine fZ hat fun p2 H2 sm2 h2=>?_
  have e1:cW (V.str kind::xs) (some 1) none=xs:=gY _ 1
  rw[e1]at h2
  walk_at "rd1"
  refine⟨_,_,.inr (hat.same sm2),cG,dP,kvs,kind,.ref ka,rfl,rfl,m,hka,?_⟩
  refine⟨p2,ka,rfl,⟨_,h2⟩,⟨_,hks _⟩,?_⟩
  refine kf (xs:=xs) (ys:=ks.map V.str) (fun j σ H'=>∃ o3 o4:Option V,σ=[some (.ref sp),some (.ref dp),some (.ref ads[i]),o3,o4]∧Same H H'∧SqT K H' p2 xs∧H' dp=some (.dK (gR ((bT (xs.take j) (ks.take j)).foldl fq acc))))
   (by rw[List.length_map]; exact hd3) ⟨o3,o4,rfl,sm.trans sm2,h2,sm2 _ _ hd⟩ (fun j σ H' _ h=>by obtain⟨_,_,_,_,z1,_⟩:=h; exact⟨z1,hks _⟩) ?_ ?_
  ·rintro j x y t σ H3 hx hy ⟨o3,o4,rfl,sm3,h3,hd3'⟩ ht
   have hjx:j<xs.length:=(List.getElem?_eq_some_iff.mp hx).1
   have hjk:j<ks.length:=by omega
   have hkj:ks[j]? = some ks[j]:=List.getElem?_eq_getElem hjk
   rw[List.getElem?_map,hkj]at hy
   cases hy
   have ht1:xs.take (j+1)=xs.take j++[x]:=by rw[List.take_add_one,hx]; rfl
   have ht2:ks.take (j+1)=ks.take j++[ks[j]]:=by rw[List.take_add_one,hkj]; rfl
   have hpa:=mD (xs:=xs.take j) (ks:=ks.take j) x ks[j] (by rw[List.length_take,List.length_take,hd3])
   have hpl:=lc xs ks j hd3
   rw[hd5]at hpl
   have hfl2:=fO (bT (xs.take j) (ks.take j)) acc
   rw[ht1,ht2,hpa]
   have htx:=hd4 j x hx
   rw[hkj]at htx
   generalize ks[j]=kj at hpa htx ⊢
   generalize bT (xs.take j) (ks.take j)=pk at hd3' hpl hfl2 ⊢
   have st:=af ht (.tup [x,V.str kj])
   have et:upd H3 t (.tup [x,V.str kj]) t=some (.tup [x,V.str kj]):=ae
   generalize upd H3 t (.tup [x,V.str kj])=H4 at st et ⊢
   walk_at "rd1"
   refine⟨t,_,rfl,SqT.of et,rfl,?_⟩
   walk_at "rd1"
   refine ck (fun c=>?_) (fun c=>?_)
   ·subst c
    obtain⟨z,rfl⟩:=htx rfl
    have hd4':=st _ _ hd3'
    refine⟨dp,_,.inr z,rfl,rfl,hd4',by unfold gR; rw[List.length_map]; exact ce (by omega),?_⟩
    rw[xx]
    refine⟨_,_,rfl,(sm3.trans st).upd hdp _,vj (h3.same st) hd4',?_⟩
    rw[ae,List.foldl_append]; rfl
   ·have hno:bT [x] [kj]=[]:=by
     cases x <;> simp[bT,c]
    rw[hno,List.append_nil]
    exact⟨_,_,rfl,sm3.trans st,h3.same st,st _ _ hd3'⟩
  ·rintro σ H3 ⟨o3,o4,rfl,sm3,h3,hd3'⟩
   rw[List.take_length,List.take_of_length_le (by omega),hd5]at hd3'
   exact⟨_,_,_,rfl,sm3,hd3'⟩
 ·rintro σ H' ⟨o2,o3,o4,rfl,sm,hd⟩
  walk_at "nx"
  rw[List.length_map,List.take_of_length_le (by omega)]at hd
  have hac:=fO (Ps.flatMap bB) []
  rw[List.length_nil]at hac
  refine⟨_,hd,by unfold gR cS; rw[List.length_map]; omega,fun l hl=>q l _ (sm.trans (af hl _)) (sm.free hl) ?_⟩
  rw[ae]
  unfold gR
  rw[List.map_map]; rfl
def ke:Sp:=fun vs H Q _=>∃ (p:Addr) (T:List ak) (S:Addr→Prop),vs=[.ref p]∧ProgAt S 10 H p T∧gQ 10 T∧(bJ 10 T).length≤1000∧((bJ 10 T).flatMap bB).length≤5000∧
 ∀ (q:Addr) (H':Hp),Same H H'→H q=none→H' q=some (.lst ((cS ((bJ 10 T).flatMap bB)).map V.str))→Q (.ref q) H'
theorem nN:∀ (d:Nat) {T:List ak},gQ d T→∀ s∈bJ d T,∃ g:List ak→Prop,dM g s
 | 0,_,h,_,_=>h.elim
 | d+1,T,ok,s,hs=>by
  obtain⟨u,hu,hs⟩:=List.mem_flatMap.mp hs
  have o:=ok u hu
  rcases List.mem_cons.mp hs with rfl | hs
  ·exact⟨_,o⟩
  obtain⟨b,hb,hs⟩:=List.mem_flatMap.mp hs
  refine nN d (T:=b) ?_ s hs
  cases u with
  | plain ws=>simp[cT]at hb
  | lend x y c=>
   have:b=c:=by simpa [cT] using hb
   subst this; exact o
  | ite n c e=>
   obtain⟨o1,o2⟩:=o
   have:b=c∨b=e:=by simpa [cT] using hb
   rcases this with rfl | rfl
   ·exact o1
   ·exact o2
  | whl n c=>
   have:b=c:=by simpa [cT] using hb
   subst this; exact o
theorem vW:∀ {s:ak} {g:List ak→Prop},dM g s→dM (fun _=>True) s
 | .plain _,_,h=>h
 | .lend _ _ _,_,_=>trivial
 | .ite _ _ _,_,_=>⟨trivial,trivial⟩
 | .whl _ _,_,_=>trivial
theorem rN(D:DefAt K mg "names_of" cn) (c_names_in:aQ P w K mg base 1 "names_in" ["steps"] kQ) (c_steps_within:aQ P w K mg base 14 "steps_within" ["program"] (nY 10)):aQ P w K mg base 15 "names_of" ["program"] ke:=by
 refine D.cal oo (fun _ _ _ _ _ _ us hl=>match us,hl with | [_],_=>rfl) (fun vs H Q E h=>by obtain⟨_,_,_,rfl,_⟩:=h; rfl) (fun f cdv A outer s H vs Q E hr h=>?_)
 obtain⟨p,T,S,rfl,hp,ok,h1,h2,q⟩:=h
 refine⟨_,(am (aN (aB c_names_in hr (aa (aB c_steps_within hr (aa (pv 0 (hv:=DN)) ac) (hg:=Ex) (hle:=by omega)) ac) (hg:=Eo) (hle:=by omega)))),?_⟩
 walk_at "rd1"
 refine⟨p,T,S,rfl,hp,ok,by omega,fun sp H1 ads sm1 hsp hl1 hp1=>?_⟩
 walk_at "rd1"
 refine⟨sp,ads,bJ 10 T,fun _=>True,rfl,hl1,hp1,fun s hs=>let ⟨g,z⟩:=nN 10 ok s hs; vW z,h2,fun r H2 sm2 hr2 hl2=>?_⟩
 exact q r H2 (sm1.trans sm2) (sm1.free hr2) hl2
theorem n8{ws:List Str}(h:dO ws):(ws.headD "" = "do" → ws.length=3)∧db ws=bB (.plain ws):=by
 cases h with
 | opn x=>exact⟨fun c=>absurd c (by show ¬ (Str.ofString "open" = Str.ofString "do"); decide +kernel),by unfold db; simp only[bB]; rw[if_neg (by show ¬ (Str.ofString "open" = Str.ofString "do"); decide +kernel),if_neg (by show ¬ (Str.ofString "open" = Str.ofString "do"); decide +kernel)]⟩
 | drp x=>exact⟨fun c=>absurd c (by show ¬ (Str.ofString "drop" = Str.ofString "do"); decide +kernel),by unfold db; simp only[bB]; rw[if_neg (by show ¬ (Str.ofString "drop" = Str.ofString "do"); decide +kernel),if_neg (by show ¬ (Str.ofString "drop" = Str.ofString "do"); decide +kernel)]⟩
 | cpy x y=>exact⟨fun c=>absurd c (by show ¬ (Str.ofString "copy" = Str.ofString "do"); decide +kernel),by unfold db; simp only[bB]; rw[if_neg (by show ¬ (Str.ofString "copy" = Str.ofString "do"); decide +kernel),if_neg (by show ¬ (Str.ofString "copy" = Str.ofString "do"); decide +kernel)]⟩
 | tie x y=>exact⟨fun c=>absurd c (by show ¬ (Str.ofString "tie" = Str.ofString "do"); decide +kernel),by unfold db; simp only[bB]; rw[if_neg (by show ¬ (Str.ofString "tie" = Str.ofString "do"); decide +kernel),if_neg (by show ¬ (Str.ofString "tie" = Str.ofString "do"); decide +kernel)]⟩
 | doo u x=>exact⟨fun _=>rfl,by unfold db; simp only[bB]; rw[if_pos (by rfl),if_pos (by rfl)]; rfl⟩
theorem xp{f g:List ak→Prop}{N:Str→Prop}{pr:List ak→List ak}(hf:∀ b,g b→(∀ n∈(pr b).flatMap bB,N n)→f b):∀ (s:ak),dM g s→(∀ n∈(dR pr s).flatMap bB,N n)→wU f N s
 | .plain ws,ok,h=>by
  obtain⟨h1,h2⟩:=n8 ok
  refine⟨h1,fun n hn=>h n ?_⟩
  rw[h2]at hn
  exact List.mem_flatMap.mpr ⟨.plain ws,List.mem_cons_self,hn⟩
 | .lend x y b,ok,h=>by
  refine⟨h x (List.mem_flatMap.mpr ⟨.lend x y b,List.mem_cons_self,by simp[bB]⟩),h y (List.mem_flatMap.mpr ⟨.lend x y b,List.mem_cons_self,by simp[bB]⟩),hf b ok fun n hn=>h n ?_⟩
  obtain⟨s,hs,hn⟩:=List.mem_flatMap.mp hn
  exact List.mem_flatMap.mpr ⟨s,List.mem_cons_of_mem _ (List.mem_flatMap.mpr ⟨b,by simp[cT],hs⟩),hn⟩
 | .ite m b c,ok,h=>by
  refine⟨hf b ok.1 fun n hn=>h n ?_,hf c ok.2 fun n hn=>h n ?_⟩
  ·obtain⟨s,hs,hn⟩:=List.mem_flatMap.mp hn
   exact List.mem_flatMap.mpr ⟨s,List.mem_cons_of_mem _ (List.mem_flatMap.mpr ⟨b,by simp[cT],hs⟩),hn⟩
  ·obtain⟨s,hs,hn⟩:=List.mem_flatMap.mp hn
   exact List.mem_flatMap.mpr ⟨s,List.mem_cons_of_mem _ (List.mem_flatMap.mpr ⟨c,by simp[cT],hs⟩),hn⟩
 | .whl m b,ok,h=>hf b ok fun n hn=>h n (by
   obtain⟨s,hs,hn⟩:=List.mem_flatMap.mp hn
   exact List.mem_flatMap.mpr ⟨s,List.mem_cons_of_mem _ (List.mem_flatMap.mpr ⟨b,by simp[cT],hs⟩),hn⟩)
theorem ml{N:Str→Prop}:∀ (d:Nat) (T:List ak),gQ d T→(∀ n∈(bJ d T).flatMap bB,N n)→oB N d T
 | 0,_,h,_=>h
 | d+1,T,ok,h=>fun s hs=>xp (fun b hb hn=>ml d b hb hn) s (ok s hs) fun n hn=>h n (by
   obtain⟨s',hs',hn⟩:=List.mem_flatMap.mp hn
   exact List.mem_flatMap.mpr ⟨s',List.mem_flatMap.mpr ⟨s,hs,hs'⟩,hn⟩)
end
def dH(x:Str):Prop:=32∉x.cps.toList
def dz(f:List ak→Prop):ak→Prop
 | .plain ws=>dg ws∧∀ x∈ws,dH x
 | .lend x y b=>dH x∧dH y∧f b
 | .ite n b c=>n.natAbs<10 ^ 61∧f b∧f c
 | .whl n b=>n.natAbs<10 ^ 61∧f b
def bL:Nat→List ak→Prop
 | 0,_=>False
 | d+1,T=>∀ s∈T,dz (bL d) s
theorem m_{d:Nat}{T:List ak}{s:ak}(h:bL (d+1) T)(hs:dz (bL d) s):bL (d+1) (T++[s]):=fun u hu=>(List.mem_append.mp hu).elim (h u) (fun z=>by rw[List.mem_singleton.mp z]; exact hs)
theorem iM(d:Nat):bL (d+1) []:=fun s hs=>by cases hs
section
variable(W:List (List Str))(pt:Nat→Nat)(fs:Nat→Nat)(sl:Str→V)(lent:Nat→V)
end
theorem sK{f g:List ak→Prop}(h:∀ b,f b→g b):∀ {s:ak},dz f s→dM g s
 | .plain ws,⟨px,_⟩=>by
  show dO ws
  cases px with
  | op x=>exact .opn x
  | dr x=>exact .drp x
  | dd u x=>exact .doo u x
  | cp x y=>exact .cpy x y
  | ti x y=>exact .tie x y
 | .lend _ _ _,z=>h _ z.2.2
 | .ite _ _ _,z=>⟨h _ z.2.1,h _ z.2.2⟩
 | .whl _ _,z=>h _ z.2
theorem iB:∀ {d:Nat} {T:List ak},bL d T→gQ d T
 | 0,_,h=>h
 | _+1,_,h=>fun s hs=>sK (fun _ z=>iB z) (h s hs)
theorem qe{l:List Str}{n:Str}(h:n∈l):n∈cS l:=by
 unfold cS
 have go:∀ (l acc:List Str),n∈acc∨n∈l→n∈l.foldl fq acc:=fun l=>by
  induction l with
  | nil=>intro acc h; exact h.elim id (fun z=>by cases z)
  | cons x l ih=>
   intro acc h
   refine ih _ ?_
   unfold fq
   rcases h with h | h
   ·left; split
    ·exact h
    ·exact List.mem_append_left _ h
   ·rcases List.mem_cons.mp h with rfl | h
    ·left; split
     ·assumption
     ·exact List.mem_append_right _ List.mem_cons_self
    ·exact .inr h
 exact go l [] (.inr h)
theorem fD{ws:List Str}(px:dg ws):ws.headD "" = "open" ∨ ws.headD "" = "drop" ∨ ws.headD "" = "do" ∨ ws.headD "" = "copy" ∨ ws.headD "" = "tie" := by
 cases px
 ·exact .inl rfl
 ·exact .inr (.inl rfl)
 ·exact .inr (.inr (.inl rfl))
 ·exact .inr (.inr (.inr (.inl rfl)))
 ·exact .inr (.inr (.inr (.inr rfl)))
def SitsR{α : Type}(R X:List α)(a:Nat):Prop:=∀ i r,X[i]? = some r→R[a+i]? = some r
theorem SitsR.left{α : Type}{R X Y:List α}{a:Nat}(h:SitsR R (X++Y) a):SitsR R X a:=fun i r e=>h i r (by rw[List.getElem?_append_left (List.getElem?_eq_some_iff.mp e).1]; exact e)
theorem SitsR.right{α : Type}{R X Y:List α}{a:Nat}(h:SitsR R (X++Y) a):SitsR R Y (a+X.length):=fun i r e=>by
 have:=h (X.length+i) r (by rw[List.getElem?_append_right (by omega)]; rw[show X.length+i - X.length=i by omega]; exact e)
 rw[Nat.add_assoc]; exact this
theorem SitsR.one{α : Type}{R:List α}{x:α}{a:Nat}(h:SitsR R [x] a):R[a]? = some x:=h 0 x rfl
theorem SitsR.c0{α : Type}{R Y:List α}{x:α}{a:Nat}(h:SitsR R (x::Y) a):R[a]? = some x:=h 0 x rfl
theorem SitsR.cs{α : Type}{R Y:List α}{x:α}{a:Nat}(h:SitsR R (x::Y) a):SitsR R Y (a+1):=fun i r e=>by
 have:=h (i+1) r (by rw[List.getElem?_cons_succ]; exact e)
 rw[show a+1+i=a+(i+1) by omega]; exact this
def ji(r:aK):Bool:=match r with
 | .str h::_=>decide (h = "jump")
 | _=>false
def pN(i:Nat):aK→List Nat
 | [.str h,_,_,.int j]=>if h = "test" then [i+1,j.toNat] else [i+1]
 | .str h::_=>if h = "end" then [] else [i+1]
 | _=>[i+1]
def dB(i:Nat)(r:aK):List Nat:=if ji r=true then (match r.getD 2 .non with
 | .int j=>[j.toNat]
 | _=>[i+1]) else pN i r
inductive Rch (R:List aK):Nat→Prop
 | zero:Rch R 0
 | step {i j:Nat} {r:aK}:Rch R i→R[i]? = some r→j∈dB i r→Rch R j
def gM(r:aK):Prop:=ji r=false∧(∀ i,pN i r=[i+1])∧∀ i,dB i r=[i+1]
theorem gZ{h:Str}{u:List V}(hh:h∉(["jump"]:List Str)):ji (.str h::u)=false:=by
 show decide _=false
 exact decide_eq_false fun z=>hh (by rw[z]; exact List.mem_cons_self)
theorem cI{h:Str}{u:List V}(hh:h∉(["test", "jump", "end"]:List Str)):gM (.str h::u):=by
 simp only[List.mem_cons,List.not_mem_nil,or_false,not_or]at hh
 obtain⟨h1,h2,h3⟩:=hh
 have a:∀ i,pN i (.str h::u)=[i+1]:=fun i=>by
  unfold pN
  split
  ·rename_i e; cases e; rw[if_neg h1]
  ·rename_i e; cases e; rw[if_neg h3]
  ·rfl
 have hj:ji (.str h::u)=false:=gZ (by simp only[List.mem_cons,List.not_mem_nil,or_false]; exact h2)
 refine⟨hj,a,fun i=>?_⟩
 unfold dB
 rw[hj,if_neg (by decide)]; exact a i
theorem i8{kv:List (aA × V)}{l:Nat}{ws:List Str}(px:dg ws):gM (dy kv l ws):=by
 unfold dy
 split
 ·exact cI (by decide +kernel)
 ·refine cI ?_
  rcases fD px with h | h | h | h | h <;> rw[h] <;> decide +kernel
theorem oA{i m:Nat}{l n:V}:pN i [.str "test", l,n,iN m]=[i+1,m]:=by
 show (if ("test" : Str) = "test" then [i+1,((m:Int)).toNat] else [i+1])=_
 rw[if_pos rfl,Int.toNat_natCast]
theorem dI{i m:Nat}{l n:V}:dB i [.str "test", l,n,iN m]=[i+1,m]:=by
 unfold dB
 rw[gZ (by decide +kernel),if_neg (by decide)]; exact oA
theorem jU{i m:Nat}{l:V}:dB i [.str "jump", l,iN m]=[m]:=by
 unfold dB
 rw[if_pos (by exact decide_eq_true (p:=("jump" : Str) = "jump") rfl)]
 show [((m:Int)).toNat]=_
 rw[Int.toNat_natCast]
theorem mj{i:Nat}{l:V}:pN i [.str "end", l]=[]:=by
 show (if ("end" : Str) = "end" then [] else [i+1])=_
 rw[if_pos rfl]
theorem Rch.next{R:List aK}{i:Nat}{r:aK}(h:Rch R i)(e:R[i]? = some r)(p:gM r):Rch R (i+1):=h.step e (by rw[p.2.2]; exact List.mem_cons_self)
def AllR(R:List aK)(a n:Nat):Prop:=∀ i,a≤i→i≤a+n→Rch R i
theorem AllR.app{R:List aK}{a n m:Nat}(h:AllR R a n)(k:AllR R (a+n) m):AllR R a (n+m):=fun i h1 h2=>by
 by_cases c:i≤a+n
 ·exact h i h1 c
 ·exact k i (by omega) (by omega)
theorem AllR.nil{R:List aK}{a:Nat}(h:Rch R a):AllR R a 0:=fun i h1 h2=>by rw[show i=a by omega]; exact h
theorem AllR.one{R:List aK}{a:Nat}(h:Rch R a)(k:Rch R (a+1)):AllR R a 1:=fun i h1 h2=>by
 by_cases c:i=a
 ·rw[c]; exact h
 ·rw[show i=a+1 by omega]; exact k
theorem AllR.last{R:List aK}{a n:Nat}(h:AllR R a n):Rch R (a+n):=h _ (by omega) (Nat.le_refl _)
theorem AllR.three{R:List aK}{a:Nat}{r1 r2 r3:aK}(h:Rch R a)(s:SitsR R [r1,r2,r3] a)(p1:gM r1)(p2:gM r2)(p3:gM r3):AllR R a 3:=by
 have b1:=h.next s.c0 p1
 have b2:=b1.next s.cs.c0 p2
 have b3:=b2.next s.cs.cs.c0 p3
 exact((AllR.one h b1).app (AllR.one b1 b2)).app (AllR.one b2 b3)
theorem kW(kv:List (aA × V))(R:List aK):∀ (d:Nat) (t:Bool) (a l:Nat) (T:List ak),bL d T→SitsR R (ao kv d t a l T) a→Rch R a→AllR R a (ao kv d t a l T).length
 | 0,_,_,_,_,h,_,_=>h.elim
 | d+1,t,a,l,T,hf,hs,hr=>by
  have ih:=kW kv R d
  have st:∀ (s:ak) (a l:Nat),dz (bL d) s→SitsR R (bO kv (ao kv d) (ah d) t a l s) a→Rch R a→AllR R a (bO kv (ao kv d) (ah d) t a l s).length:=fun s a l hq hS hr=>by
   cases s with
   | plain ws=>exact AllR.one hr (hr.next (SitsR.one hS) (i8 hq.1))
   | lend x y b=>
    have hS':SitsR R (_++_++_) a:=hS
    have A1:AllR R a 3:=AllR.three hr hS'.left.left (cI (by decide +kernel)) (cI (by decide +kernel)) (cI (by decide +kernel))
    have A2:=ih t (a+3) (l+1) b hq.2.2 hS'.left.right A1.last
    have hS3:=hS'.right
    rw[List.length_append,← Nat.add_assoc]at hS3
    have A3:AllR R (a+3+(ao kv d t (a+3) (l+1) b).length) 3:=AllR.three A2.last hS3 (cI (by decide +kernel)) (cI (by decide +kernel)) (cI (by decide +kernel))
    have:=A1.app (A2.app A3)
    have e:(bO kv (ao kv d) (ah d) t a l (.lend x y b)).length=3+((ao kv d t (a+3) (l+1) b).length+3):=by
     show (df kv (ao kv d) (ah d) t a l x y b).length=_
     unfold df; simp only[List.length_append,List.length_cons,List.length_nil]; omega
    rw[e]; exact this
   | ite n b c=>
    have hS':SitsR R (eC (ao kv d) (ah d) t a l n b c) a:=hS
    have e:(bO kv (ao kv d) (ah d) t a l (.ite n b c)).length=(eC (ao kv d) (ah d) t a l n b c).length:=rfl
    rw[e]
    unfold eC at hS' ⊢
    generalize hb:ao kv d t (a+1) (l+1) b=B at hS' ⊢
    generalize hc:ao kv d t (a+1+B.length+1) (l+1+ah d b+1) c=C at hS' ⊢
    have s0:=hS'.left.left.left.one
    have r1:Rch R (a+1):=hr.step s0 (by rw[dI]; simp)
    have r2:Rch R (a+1+B.length+1):=hr.step s0 (by rw[dI]; simp)
    have A1:=ih t (a+1) (l+1) b hq.2.1 (by rw[hb]; exact hS'.left.left.right) r1
    rw[hb]at A1
    have sj:=hS'.left.right.one
    simp only[List.length_append,List.length_cons,List.length_nil,Nat.zero_add]at sj
    rw[← Nat.add_assoc]at sj
    have sC:=hS'.right
    simp only[List.length_append,List.length_cons,List.length_nil,Nat.zero_add]at sC
    rw[show a+(1+B.length+1)=a+1+B.length+1 by omega]at sC
    have A2:=ih t _ _ c hq.2.2 (by rw[hc]; exact sC) r2
    rw[hc]at A2
    have:=(AllR.one hr r1).app (A1.app ((AllR.one A1.last r2).app A2))
    simp only[List.length_append,List.length_cons,List.length_nil]
    rw[show 0+1+B.length+(0+1)+C.length=1+(B.length+(1+C.length)) by omega]; exact this
   | whl n b=>
    have lp:∀ a:Nat,SitsR R (cC (ao kv d) (ah d) a l n b) a→Rch R a→AllR R a (cC (ao kv d) (ah d) a l n b).length:=fun a hS hr=>by
     unfold cC at hS ⊢
     generalize hb:ao kv d false (a+1) (l+1) b=B at hS ⊢
     have s0:=hS.left.left.one
     have r1:Rch R (a+1):=hr.step s0 (by rw[dI]; simp)
     have r2:Rch R (a+1+B.length+1):=hr.step s0 (by rw[dI]; simp)
     have A1:=ih false (a+1) (l+1) b hq.2 (by rw[hb]; exact hS.left.right) r1
     rw[hb]at A1
     have:=(AllR.one hr r1).app (A1.app (AllR.one A1.last r2))
     simp only[List.length_append,List.length_cons,List.length_nil]
     rw[show 0+1+B.length+(0+1)=1+(B.length+1) by omega]; exact this
    have e:(bO kv (ao kv d) (ah d) t a l (.whl n b)).length=(bZ (ao kv d) (ah d) t a l n b).length:=rfl
    have hS':SitsR R (bZ (ao kv d) (ah d) t a l n b) a:=hS
    rw[e]
    unfold bZ at hS' ⊢
    cases t with
    | false=>rw[if_neg (by decide)]at hS' ⊢; exact lp a hS' hr
    | true=>
     rw[if_pos rfl]at hS' ⊢
     generalize hb:ao kv d true (a+1) (l+1) b=B at hS' ⊢
     have s0:=hS'.left.left.one
     have r1:Rch R (a+1):=hr.step s0 (by rw[dI]; simp)
     have A1:=ih true (a+1) (l+1) b hq.2 (by rw[hb]; exact hS'.left.right) r1
     rw[hb]at A1
     have sL:=hS'.right
     simp only[List.length_append,List.length_cons,List.length_nil,Nat.zero_add]at sL
     rw[← Nat.add_assoc]at sL
     have A2:=lp _ sL A1.last
     have:=(AllR.one hr r1).app (A1.app A2)
     rw[List.length_append,List.length_append,Nat.add_assoc]; exact this
  have go:∀ (T:List ak) (a l:Nat),(∀ s∈T,dz (bL d) s)→SitsR R (bK (bO kv (ao kv d) (ah d) t) (aU (ah d)) a l T) a→Rch R a→AllR R a (bK (bO kv (ao kv d) (ah d) t) (aU (ah d)) a l T).length:=fun T=>by
   induction T with
   | nil=>intro a l _ _ hr; exact AllR.nil hr
   | cons s T ihT=>
    intro a l hf hs hr
    have hs':SitsR R (bO kv (ao kv d) (ah d) t a l s++bK _ _ _ _ T) a:=hs
    have A1:=st s a l (hf s List.mem_cons_self) hs'.left hr
    have A2:=ihT _ _ (fun s hs=>hf s (List.mem_cons_of_mem _ hs)) hs'.right A1.last
    show AllR R a (bO kv (ao kv d) (ah d) t a l s++bK _ _ _ _ T).length
    rw[List.length_append]; exact A1.app A2
  exact go T a l hf hs hr
theorem qP{NM:List Str}{d:Nat}{t:Bool}{T:List ak}(hf:bL d T):∀ i,i<(bN NM d t T).length→Rch (bN NM d t T) i:=fun i hi=>by
 have h:=kW (dh (bM NM (cJ d T))) (bN NM d t T) d t 0 0 T hf (fun i r e=>by
  rw[Nat.zero_add]
  unfold bN
  rw[List.getElem?_append_left (List.getElem?_eq_some_iff.mp e).1]; exact e) .zero
 refine h i (Nat.zero_le _) ?_
 unfold bN at hi
 rw[List.length_append]at hi
 simp only[List.length_cons,List.length_nil]at hi
 omega
def ShpR(N:Nat)(r:aK):Prop:=(gM r∧∃ h u,r = .str h::u∧h∉(["test", "jump", "end"]:List Str))∨(∃ (l:Nat) (n:Int) (j:Nat),r=[.str "test", iN l,.int n,iN j]∧j≤N)∨∃ l j:Nat,r=[.str "jump", iN l,iN j]∧j≤N
theorem ShpR.up{N N':Nat}{r:aK}(h:ShpR N r)(hn:N≤N'):ShpR N' r:=by
 rcases h with h | ⟨l,n,j,h1,h2⟩ | ⟨l,j,h1,h2⟩
 ·exact .inl h
 ·exact .inr (.inl ⟨l,n,j,h1,by omega⟩)
 ·exact .inr (.inr ⟨l,j,h1,by omega⟩)
theorem jh{N:Nat}{h:Str}{u:List V}(hh:h∉(["test", "jump", "end"]:List Str)):ShpR N (.str h::u):=.inl ⟨cI hh,h,u,rfl,hh⟩
theorem qQ{N:Nat}{kv:List (aA × V)}{l:Nat}{ws:List Str}(px:dg ws):ShpR N (dy kv l ws):=by
 unfold dy
 split
 ·exact jh (by decide +kernel)
 ·refine jh ?_
  rcases fD px with h | h | h | h | h <;> rw[h] <;> decide +kernel
theorem gL(kv:List (aA × V)):∀ (d:Nat) (t:Bool) (a l:Nat) (T:List ak),bL d T→∀ r∈ao kv d t a l T,ShpR (a+(ao kv d t a l T).length) r
 | 0,_,_,_,_,h=>h.elim
 | d+1,t,a,l,T,hf=>by
  have ih:=gL kv d
  have st:∀ (s:ak) (a l:Nat),dz (bL d) s→∀ r∈bO kv (ao kv d) (ah d) t a l s,ShpR (a+(bO kv (ao kv d) (ah d) t a l s).length) r:=fun s a l hs r hr=>by
   cases s with
   | plain ws=>rw[List.mem_singleton.mp hr]; exact qQ hs.1
   | lend x y b=>
    have e:(bO kv (ao kv d) (ah d) t a l (.lend x y b)).length=3+((ao kv d t (a+3) (l+1) b).length+3):=by
     show (df kv (ao kv d) (ah d) t a l x y b).length=_
     unfold df; simp only[List.length_append,List.length_cons,List.length_nil]; omega
    rw[e]
    rcases List.mem_append.mp hr with hr | hr
    ·rcases List.mem_append.mp hr with hr | hr
     ·simp only[List.mem_cons,List.not_mem_nil,or_false]at hr
      rcases hr with rfl | rfl | rfl <;> exact jh (by decide +kernel)
     ·exact(ih t _ _ b hs.2.2 r hr).up (by omega)
    ·simp only[List.mem_cons,List.not_mem_nil,or_false]at hr
     rcases hr with rfl | rfl | rfl <;> exact jh (by decide +kernel)
   | ite n b c=>
    have hr':r∈eC (ao kv d) (ah d) t a l n b c:=hr
    show ShpR (a+(eC (ao kv d) (ah d) t a l n b c).length) r
    have ihb:=ih t (a+1) (l+1) b hs.2.1
    unfold eC at hr' ⊢
    generalize ao kv d t (a+1) (l+1) b=B at *
    have ihc:=ih t (a+1+B.length+1) (l+1+ah d b+1) c hs.2.2
    generalize ao kv d t (a+1+B.length+1) (l+1+ah d b+1) c=C at *
    simp only[List.length_append,List.length_cons,List.length_nil]
    rcases List.mem_append.mp hr' with hr | hr
    ·rcases List.mem_append.mp hr with hr | hr
     ·rcases List.mem_append.mp hr with hr | hr
      ·exact .inr (.inl ⟨_,_,_,List.mem_singleton.mp hr,by omega⟩)
      ·exact(ihb r hr).up (by omega)
     ·exact .inr (.inr ⟨_,_,List.mem_singleton.mp hr,by omega⟩)
    ·exact(ihc r hr).up (by omega)
   | whl n b=>
    have lp:∀ a,r∈cC (ao kv d) (ah d) a l n b→ShpR (a+(cC (ao kv d) (ah d) a l n b).length) r:=fun a hr=>by
     have ihb:=ih false (a+1) (l+1) b hs.2
     unfold cC at hr ⊢
     generalize ao kv d false (a+1) (l+1) b=B at *
     simp only[List.length_append,List.length_cons,List.length_nil]
     rcases List.mem_append.mp hr with hr | hr
     ·rcases List.mem_append.mp hr with hr | hr
      ·exact .inr (.inl ⟨_,_,_,List.mem_singleton.mp hr,by omega⟩)
      ·exact(ihb r hr).up (by omega)
     ·exact .inr (.inr ⟨_,_,List.mem_singleton.mp hr,by omega⟩)
    have hr':r∈bZ (ao kv d) (ah d) t a l n b:=hr
    show ShpR (a+(bZ (ao kv d) (ah d) t a l n b).length) r
    have ihb:=ih true (a+1) (l+1) b hs.2
    unfold bZ at hr' ⊢
    split at hr'
    ·rename_i ht
     rw[if_pos ht]
     generalize ao kv d true (a+1) (l+1) b=B at *
     simp only[List.length_append,List.length_cons,List.length_nil]
     rcases List.mem_append.mp hr' with hr | hr
     ·rcases List.mem_append.mp hr with hr | hr
      ·exact .inr (.inl ⟨_,_,_,List.mem_singleton.mp hr,by omega⟩)
      ·exact(ihb r hr).up (by omega)
     ·exact(lp _ hr).up (by omega)
    ·rename_i ht
     rw[if_neg ht]
     exact lp a hr'
  have go:∀ (T:List ak) (a l:Nat),(∀ s∈T,dz (bL d) s)→∀ r∈bK (bO kv (ao kv d) (ah d) t) (aU (ah d)) a l T,ShpR (a+(bK (bO kv (ao kv d) (ah d) t) (aU (ah d)) a l T).length) r:=fun T=>by
   induction T with
   | nil=>intro a l _ r hr; cases hr
   | cons s T ihT=>
    intro a l hf r hr
    show ShpR (a+(bO kv (ao kv d) (ah d) t a l s++bK _ _ _ _ T).length) r
    rw[List.length_append]
    rcases List.mem_append.mp hr with hr | hr
    ·exact(st s a l (hf s List.mem_cons_self) r hr).up (by omega)
    ·exact(ihT _ _ (fun s hs=>hf s (List.mem_cons_of_mem _ hs)) r hr).up (by omega)
  exact go T a l hf
def zW(R:List aK)(r:aK):Prop:=ShpR (R.length - 1) r∨∃ l:Nat,r=[.str "end", iN l]
theorem qG{NM:List Str}{d:Nat}{t:Bool}{T:List ak}(hf:bL d T):∀ r∈bN NM d t T,zW (bN NM d t T) r:=fun r hr=>by
 have e:(bN NM d t T).length - 1=0+(ao (dh (bM NM (cJ d T))) d t 0 0 T).length:=by
  unfold bN; rw[List.length_append]; simp
 rcases List.mem_append.mp hr with hr | hr
 ·left; rw[e]; exact gL _ d t 0 0 T hf r hr
 ·exact .inr ⟨_,List.mem_singleton.mp hr⟩
set_option genSizeOf false in
inductive w4 where
 | top
 | lend (x y:Str)
 | ite (n:Int)
 | whl (n:Int)
set_option genInjectivity false in
set_option genSizeOf false in
structure pe where
 hd:w4
 a:List ak
 b:List ak
 s:Bool
def cX:w4→List V
 | .top=>[.str "top"]
 | .lend x y=>[.str "lend", .str x,.str y]
 | .ite n=>[.str "if", .int n]
 | .whl n=>[.str "while", .int n]
def fv(f:pe):ak:=match f.hd with
 | .top=>.plain []
 | .lend x y=>.lend x y f.a
 | .ite n=>.ite n f.a f.b
 | .whl n=>.whl n f.a
def bu(f:pe)(s:ak):pe:=if f.s=true then { f with b:=f.b++[s] } else { f with a:=f.a++[s] }
set_option genInjectivity false in
set_option genSizeOf false in
structure FrX where
 fa:Addr
 a1:Addr
 a2:Addr
 f:pe
def dE(fs:List FrX):List Addr:=fs.flatMap fun x=>[x.fa,x.a1,x.a2]
def gm(b:Bool):V:=.int (if b=true then 1 else 0)
def FrAt(S:Addr→Prop)(H:Hp)(d:Nat)(x:FrX):Prop:=∃ (ha:Addr) (as1 as2:List Addr),H x.fa=some (.lst [.ref ha,.ref x.a1,.ref x.a2,gm x.f.s])∧H ha=some (.tup (cX x.f.hd))∧H x.a1=some (.lst (as1.map V.ref))∧H x.a2=some (.lst (as2.map V.ref))∧Paired (stpAt (ProgAt S d H) H) as1 x.f.a∧Paired (stpAt (ProgAt S d H) H) as2 x.f.b
structure PInv (H0 H:Hp) (pp:Addr) (fs:List FrX) (S:Addr→Prop):Prop where
 sm:Same H0 H
 pile:H pp=some (.lst (fs.map fun x=>V.ref x.fa))
 fr:∀ k x,fs[k]? = some x→FrAt S H (9 - k) x
 nd:(pp::dE fs).Nodup
 ns:∀ b∈pp::dE fs,¬ S b
 nw:∀ b∈pp::dE fs,H0 b=none
 sn:∀ b,S b→H0 b=none∧∃ xs,H b=some (.lst xs)
theorem pZ{S:Addr→Prop}{b q:Addr}(hb:S b)(hq:¬ S q):b≠q:=fun e=>hq (e ▸ hb)
theorem AO{L:List Addr}{q p:Addr}(hq:q∈L)(hp:p∉L):p≠q:=fun e=>hp (e ▸ hq)
theorem b_{S S':Addr→Prop}{H H':Hp}{d:Nat}(ht:∀ b xs,H b=some (.tup xs)→H' b=some (.tup xs))(hl:∀ b xs,S b→H b=some (.lst xs)→H' b=some (.lst xs))(hS:∀ b,S b→S' b){as:List Addr}{T:List ak}(h:Paired (stpAt (ProgAt S d H) H) as T):Paired (stpAt (ProgAt S' d H') H') as T:=
 Paired.imp' (fun a s z=>stpAt.imp ht (fun q b y=>ProgAt.imp ht hl hS d y) z) h
theorem FrAt.imp{S S':Addr→Prop}{H H':Hp}{d:Nat}{x:FrX}(h:FrAt S H d x)(ht:∀ b xs,H b=some (.tup xs)→H' b=some (.tup xs))(hl:∀ b xs,S b→H b=some (.lst xs)→H' b=some (.lst xs))(hS:∀ b,S b→S' b)(ho:∀ b o,(b=x.fa∨b=x.a1∨b=x.a2)→H b=some o→H' b=some o):FrAt S' H' d x:=by
 obtain⟨ha,as1,as2,h1,h2,h3,h4,h5,h6⟩:=h
 exact⟨ha,as1,as2,ho _ _ (.inl rfl) h1,ht _ _ h2,ho _ _ (.inr (.inl rfl)) h3,ho _ _ (.inr (.inr rfl)) h4,b_ ht hl hS h5,b_ ht hl hS h6⟩
theorem dD{fs:List FrX}{x:FrX}(h:x∈fs):x.fa∈dE fs∧x.a1∈dE fs∧x.a2∈dE fs:=by
 unfold dE
 refine⟨?_,?_,?_⟩ <;> exact List.mem_flatMap.mpr ⟨x,h,by simp⟩
theorem dw(fs gs:List FrX):dE (fs++gs)=dE fs++dE gs:=List.flatMap_append
theorem PInv.alloc{H0 H H':Hp}{pp:Addr}{fs:List FrX}{S:Addr→Prop}(I:PInv H0 H pp fs S)(s:Same H H'):PInv H0 H' pp fs S:=
 ⟨I.sm.trans s,s _ _ I.pile,fun k x e=>(I.fr k x e).imp (fun b xs z=>s _ _ z) (fun b xs _ z=>s _ _ z) (fun _ z=>z) (fun b o _ z=>s _ _ z),I.nd,I.ns,I.nw,fun b hb=>⟨(I.sn b hb).1,by obtain⟨xs,z⟩:=(I.sn b hb).2; exact⟨xs,s _ _ z⟩⟩⟩
theorem PInv.free{H0 H:Hp}{pp:Addr}{fs:List FrX}{S:Addr→Prop}(I:PInv H0 H pp fs S){t:Addr}(h:H t=none):H0 t=none∧¬ S t:=by
 refine⟨I.sm.free h,fun z=>?_⟩
 obtain⟨_,xs,e⟩:=I.sn t z
 rw[h]at e; cases e
theorem PInv.notop{H0 H:Hp}{pp:Addr}{fs:List FrX}{S:Addr→Prop}(I:PInv H0 H pp fs S){t:Addr}(h:H t=none):t∉pp::dE fs:=fun z=>by
 rcases List.mem_cons.mp z with rfl | z
 ·rw[I.pile]at h; cases h
 ·obtain⟨x,hx,hm⟩:=List.mem_flatMap.mp z
  obtain⟨k,hk,rfl⟩:=List.mem_iff_getElem.mp hx
  obtain⟨ha,as1,as2,h1,h2,h3,h4,_⟩:=I.fr k _ (List.getElem?_eq_getElem hk)
  simp only[List.mem_cons,List.not_mem_nil,or_false]at hm
  rcases hm with e | e | e <;> rw[e]at h
  ·rw[h1]at h; cases h
  ·rw[h3]at h; cases h
  ·rw[h4]at h; cases h
theorem PInv.write{H0 H:Hp}{pp:Addr}{gs:List FrX}{x x':FrX}{S:Addr→Prop}(I:PInv H0 H pp (gs++[x]) S){q:Addr}{ys:List V}(hq:q=x.fa∨q=x.a1∨q=x.a2)(e1:x'.fa=x.fa)(e2:x'.a1=x.a1)(e3:x'.a2=x.a2)(hx:FrAt S (upd H q (.lst ys)) (9 - gs.length) x'):PInv H0 (upd H q (.lst ys)) pp (gs++[x']) S:=by
 have hop:dE (gs++[x'])=dE (gs++[x]):=by
  rw[dw,dw]
  show _++[x'.fa,x'.a1,x'.a2]=_++[x.fa,x.a1,x.a2]
  rw[e1,e2,e3]
 have hxm:x∈gs++[x]:=List.mem_append_right _ List.mem_cons_self
 have hqm:q∈dE (gs++[x]):=by
  obtain⟨m1,m2,m3⟩:=dD hxm
  rcases hq with rfl | rfl | rfl <;> assumption
 have hqS:¬ S q:=I.ns q (List.mem_cons_of_mem _ hqm)
 have hq0:H0 q=none:=I.nw q (List.mem_cons_of_mem _ hqm)
 obtain⟨ha,as1,as2,h1,h2,h3,h4,_⟩:=I.fr gs.length x (by rw[List.getElem?_append_right (Nat.le_refl _),Nat.sub_self]; rfl)
 have hql:∃ zs,H q=some (.lst zs):=by
  rcases hq with rfl | rfl | rfl
  ·exact⟨_,h1⟩
  ·exact⟨_,h3⟩
  ·exact⟨_,h4⟩
 obtain⟨zs,hqz⟩:=hql
 have ht:∀ b xs,H b=some (.tup xs)→upd H q (.lst ys) b=some (.tup xs):=fun b xs z=>by rw[ap (cm z hqz (fun y=>nomatch y))]; exact z
 have hl:∀ b xs,S b→H b=some (.lst xs)→upd H q (.lst ys) b=some (.lst xs):=fun b xs hb z=>by rw[ap (pZ hb hqS)]; exact z
 have hnd:=I.nd
 rw[List.nodup_cons]at hnd
 refine⟨I.sm.upd hq0 _,?_,fun k y hy=>?_,by rw[hop]; exact I.nd,by rw[hop]; exact I.ns,by rw[hop]; exact I.nw,fun b hb=>⟨(I.sn b hb).1,?_⟩⟩
 ·rw[ap (AO hqm hnd.1),I.pile,List.map_append,List.map_append]
  show some (HO.lst (_++[V.ref x.fa]))=some (HO.lst (_++[V.ref x'.fa]))
  rw[e1]
 ·by_cases hk:k<gs.length
  ·rw[List.getElem?_append_left hk]at hy
   refine(I.fr k y (by rw[List.getElem?_append_left hk]; exact hy)).imp ht hl (fun _ z=>z) (fun b o hb z=>?_)
   have hbm:b∈dE gs:=by
    obtain⟨m1,m2,m3⟩:=dD (List.mem_of_getElem? hy)
    rcases hb with rfl | rfl | rfl <;> assumption
   have hqx:q∈dE [x]:=by
    obtain⟨m1,m2,m3⟩:=dD (fs:=[x]) (x:=x) List.mem_cons_self
    rcases hq with rfl | rfl | rfl <;> assumption
   have:=hnd.2
   rw[dw,List.nodup_append]at this
   rw[ap (this.2.2 b hbm q hqx)]; exact z
  ·rw[List.getElem?_append_right (by omega)]at hy
   have hk0:k - gs.length=0:=by have:=(List.getElem?_eq_some_iff.mp hy).1; simp at this; omega
   rw[hk0]at hy
   cases hy
   rw[show k=gs.length by omega]
   exact hx
 ·obtain⟨xs,z⟩:=(I.sn b hb).2
  exact⟨xs,hl b xs hb z⟩
theorem cF{α : Type}(gs:List α)(x:α):(gs++[x])[gs.length]? = some x:=by rw[List.getElem?_append_right (Nat.le_refl _),Nat.sub_self]; rfl
theorem PInv.put{H0 H:Hp}{pp:Addr}{gs:List FrX}{x:FrX}{S:Addr→Prop}(I:PInv H0 H pp (gs++[x]) S){t:Addr}{st:ak}(ht:stpAt (ProgAt S (9 - gs.length) H) H t st) :
  ∃ (q:Addr) (as:List Addr),q=(if x.f.s=true then x.a2 else x.a1)∧H q=some (.lst (as.map V.ref))∧as.length=(if x.f.s=true then x.f.b else x.f.a).length∧PInv H0 (upd H q (.lst (as.map V.ref++[.ref t]))) pp (gs++[{ x with f:=bu x.f st }]) S:=by
 obtain⟨ha,as1,as2,h1,h2,h3,h4,h5,h6⟩:=I.fr gs.length x (cF gs x)
 have hxm:x∈gs++[x]:=List.mem_append_right _ List.mem_cons_self
 have hnd:=I.nd
 rw[List.nodup_cons,dw,List.nodup_append]at hnd
 have h3n:[x.fa,x.a1,x.a2].Nodup:=hnd.2.2.1
 simp only[List.nodup_cons,List.mem_cons,List.not_mem_nil,or_false,not_or,not_false_eq_true,List.nodup_nil,and_true]at h3n
 obtain⟨⟨n1,n2⟩,n3⟩:=h3n
 obtain⟨m1,m2,m3⟩:=dD hxm
 cases hs:x.f.s with
 | true=>
  refine⟨x.a2,as2,rfl,h4,aC h6,I.write (.inr (.inr rfl)) rfl rfl rfl ?_⟩
  have hqS:¬ S x.a2:=I.ns _ (List.mem_cons_of_mem _ m3)
  have kt:∀ b xs,H b=some (.tup xs)→upd H x.a2 (.lst (as2.map V.ref++[.ref t])) b=some (.tup xs):=fun b xs z=>by rw[ap (cm z h4 (fun y=>nomatch y))]; exact z
  have kl:∀ b xs,S b→H b=some (.lst xs)→upd H x.a2 (.lst (as2.map V.ref++[.ref t])) b=some (.lst xs):=fun b xs hb z=>by rw[ap (pZ hb hqS)]; exact z
  refine⟨ha,as1,as2++[t],?_,kt _ _ ?_,?_,by rw[ae,List.map_append]; rfl,?_,?_⟩
  ·show upd H x.a2 _ x.fa=some (.lst [.ref ha,.ref x.a1,.ref x.a2,gm (bu x.f st).s])
   rw[ap n2,h1]; unfold bu; rw[if_pos hs]
  ·show H ha=some (.tup (cX (bu x.f st).hd))
   rw[h2]; unfold bu; rw[if_pos hs]
  ·show upd H x.a2 _ x.a1=_
   rw[ap n3]; exact h3
  ·show Paired _ as1 (bu x.f st).a
   unfold bu; rw[if_pos hs]
   exact b_ kt kl (fun _ z=>z) h5
  ·show Paired _ (as2++[t]) (bu x.f st).b
   unfold bu; rw[if_pos hs]
   exact b_ kt kl (fun _ z=>z) (dc h6 (.cons ht .nil))
 | false=>
  refine⟨x.a1,as1,rfl,h3,aC h5,I.write (.inr (.inl rfl)) rfl rfl rfl ?_⟩
  have hqS:¬ S x.a1:=I.ns _ (List.mem_cons_of_mem _ m2)
  have kt:∀ b xs,H b=some (.tup xs)→upd H x.a1 (.lst (as1.map V.ref++[.ref t])) b=some (.tup xs):=fun b xs z=>by rw[ap (cm z h3 (fun y=>nomatch y))]; exact z
  have kl:∀ b xs,S b→H b=some (.lst xs)→upd H x.a1 (.lst (as1.map V.ref++[.ref t])) b=some (.lst xs):=fun b xs hb z=>by rw[ap (pZ hb hqS)]; exact z
  have hs':¬ x.f.s=true:=by rw[hs]; decide
  refine⟨ha,as1++[t],as2,?_,kt _ _ ?_,by rw[ae,List.map_append]; rfl,?_,?_,?_⟩
  ·show upd H x.a1 _ x.fa=some (.lst [.ref ha,.ref x.a1,.ref x.a2,gm (bu x.f st).s])
   rw[ap n1,h1]; unfold bu; rw[if_neg hs']
  ·show H ha=some (.tup (cX (bu x.f st).hd))
   rw[h2]; unfold bu; rw[if_neg hs']
  ·show upd H x.a1 _ x.a2=_
   rw[ap (Ne.symm n3)]; exact h4
  ·show Paired _ (as1++[t]) (bu x.f st).a
   unfold bu; rw[if_neg hs']
   exact b_ kt kl (fun _ z=>z) (dc h5 (.cons ht .nil))
  ·show Paired _ as2 (bu x.f st).b
   unfold bu; rw[if_neg hs']
   exact b_ kt kl (fun _ z=>z) h6
theorem PInv.push{H0 H:Hp}{pp:Addr}{fs:List FrX}{S:Addr→Prop}(I:PInv H0 H pp fs S){x:FrX}(hx:FrAt S H (9 - fs.length) x)(n1:[x.fa,x.a1,x.a2].Nodup)(hf:∀ b∈[x.fa,x.a1,x.a2],b∉pp::dE fs∧¬ S b∧H0 b=none):PInv H0 (upd H pp (.lst (fs.map (fun x=>V.ref x.fa)++[.ref x.fa]))) pp (fs++[x]) S:=by
 have hpS:¬ S pp:=I.ns pp List.mem_cons_self
 have hp0:H0 pp=none:=I.nw pp List.mem_cons_self
 have hnd:=I.nd
 rw[List.nodup_cons]at hnd
 have kt:∀ b xs,H b=some (.tup xs)→upd H pp (.lst (fs.map (fun x=>V.ref x.fa)++[.ref x.fa])) b=some (.tup xs):=fun b xs z=>by rw[ap (cm z I.pile (fun y=>nomatch y))]; exact z
 have kl:∀ b xs,S b→H b=some (.lst xs)→upd H pp (.lst (fs.map (fun x=>V.ref x.fa)++[.ref x.fa])) b=some (.lst xs):=fun b xs hb z=>by rw[ap (pZ hb hpS)]; exact z
 have ko:∀ b o,b≠pp→H b=some o→upd H pp (.lst (fs.map (fun x=>V.ref x.fa)++[.ref x.fa])) b=some o:=fun b o hb z=>by rw[ap hb]; exact z
 have hop:dE (fs++[x])=dE fs++[x.fa,x.a1,x.a2]:=by rw[dw]; rfl
 refine⟨I.sm.upd hp0 _,by rw[ae,List.map_append]; rfl,fun k y hy=>?_,?_,fun b hb=>?_,fun b hb=>?_,fun b hb=>⟨(I.sn b hb).1,by obtain⟨xs,z⟩:=(I.sn b hb).2; exact⟨xs,kl b xs hb z⟩⟩⟩
 ·by_cases hk:k<fs.length
  ·rw[List.getElem?_append_left hk]at hy
   refine(I.fr k y hy).imp kt kl (fun _ z=>z) (fun b o hb z=>ko b o (fun e=>?_) z)
   obtain⟨m1,m2,m3⟩:=dD (List.mem_of_getElem? hy)
   rcases hb with h | h | h
   ·exact hnd.1 (by rw[← e,h]; exact m1)
   ·exact hnd.1 (by rw[← e,h]; exact m2)
   ·exact hnd.1 (by rw[← e,h]; exact m3)
  ·rw[List.getElem?_append_right (by omega)]at hy
   have hk0:k - fs.length=0:=by have:=(List.getElem?_eq_some_iff.mp hy).1; simp at this; omega
   rw[hk0]at hy
   cases hy
   rw[show k=fs.length by omega]
   refine hx.imp kt kl (fun _ z=>z) (fun b o hb z=>ko b o (fun e=>?_) z)
   have hb':b∈[x.fa,x.a1,x.a2]:=by rcases hb with h | h | h <;> rw[h] <;> simp
   exact(hf b hb').1 (by rw[e]; exact List.mem_cons_self)
 ·rw[hop,← List.cons_append,List.nodup_append]
  exact⟨I.nd,n1,fun a ha b hb e=>(hf b hb).1 (e ▸ ha)⟩
 ·rw[hop,← List.cons_append]at hb
  rcases List.mem_append.mp hb with h | h
  ·exact I.ns b h
  ·exact(hf b h).2.1
 ·rw[hop,← List.cons_append]at hb
  rcases List.mem_append.mp hb with h | h
  ·exact I.nw b h
  ·exact(hf b h).2.2
theorem PInv.pop{H0 H:Hp}{pp:Addr}{gs:List FrX}{x:FrX}{S:Addr→Prop}(I:PInv H0 H pp (gs++[x]) S)(hg:gs.length≤8) :
  PInv H0 (upd H pp (.lst (gs.map fun x=>V.ref x.fa))) pp gs (fun b=>S b∨b=x.a1∨b=x.a2)∧ProgAt (fun b=>S b∨b=x.a1∨b=x.a2) (10 - gs.length) (upd H pp (.lst (gs.map fun x=>V.ref x.fa))) x.a1 x.f.a∧ProgAt (fun b=>S b∨b=x.a1∨b=x.a2) (10 - gs.length) (upd H pp (.lst (gs.map fun x=>V.ref x.fa))) x.a2 x.f.b:=by
 obtain⟨ha,as1,as2,h1,h2,h3,h4,h5,h6⟩:=I.fr gs.length x (cF gs x)
 have hpS:¬ S pp:=I.ns pp List.mem_cons_self
 have hp0:H0 pp=none:=I.nw pp List.mem_cons_self
 have hnd:=I.nd
 rw[dw,← List.cons_append,List.nodup_append]at hnd
 obtain⟨d1,d2,d3⟩:=hnd
 have dx:∀ b∈pp::dE gs,b≠x.a1∧b≠x.a2:=fun b hb=>⟨fun e=>d3 b hb x.a1 (by show _∈[x.fa,x.a1,x.a2]; simp) e,fun e=>d3 b hb x.a2 (by show _∈[x.fa,x.a1,x.a2]; simp) e⟩
 have kt:∀ b xs,H b=some (.tup xs)→upd H pp (.lst (gs.map fun x=>V.ref x.fa)) b=some (.tup xs):=fun b xs z=>by rw[ap (cm z I.pile (fun y=>nomatch y))]; exact z
 have kl:∀ b xs,S b→H b=some (.lst xs)→upd H pp (.lst (gs.map fun x=>V.ref x.fa)) b=some (.lst xs):=fun b xs hb z=>by rw[ap (pZ hb hpS)]; exact z
 have p1:=(dx pp List.mem_cons_self).1
 have p2:=(dx pp List.mem_cons_self).2
 have k3:upd H pp (.lst (gs.map fun x=>V.ref x.fa)) x.a1=some (.lst (as1.map V.ref)):=by rw[ap p1.symm]; exact h3
 have k4:upd H pp (.lst (gs.map fun x=>V.ref x.fa)) x.a2=some (.lst (as2.map V.ref)):=by rw[ap p2.symm]; exact h4
 have hxm:x∈gs++[x]:=List.mem_append_right _ List.mem_cons_self
 obtain⟨m1,m2,m3⟩:=dD hxm
 have e9:10 - gs.length=9 - gs.length+1:=by omega
 refine⟨⟨I.sm.upd hp0 _,ae,fun k y hy=>?_,d1,fun b hb z=>?_,fun b hb=>?_,fun b hb=>?_⟩,?_,?_⟩
 ·have hk:=(List.getElem?_eq_some_iff.mp hy).1
  refine(I.fr k y (by rw[List.getElem?_append_left hk]; exact hy)).imp kt kl (fun _ z=>.inl z) (fun b o hb z=>?_)
  have hbm:b∈dE gs:=by
   obtain⟨m1,m2,m3⟩:=dD (List.mem_of_getElem? hy)
   rcases hb with rfl | rfl | rfl <;> assumption
  rw[List.nodup_cons]at d1
  rw[ap (AO hbm d1.1).symm]; exact z
 ·rcases z with z | z | z
  ·exact I.ns b (by rw[dw,← List.cons_append]; exact List.mem_append_left _ hb) z
  ·exact(dx b hb).1 z
  ·exact(dx b hb).2 z
 ·exact I.nw b (by rw[dw,← List.cons_append]; exact List.mem_append_left _ hb)
 ·rcases hb with hb | rfl | rfl
  ·exact⟨(I.sn b hb).1,by obtain⟨xs,z⟩:=(I.sn b hb).2; exact⟨xs,kl b xs hb z⟩⟩
  ·exact⟨I.nw _ (List.mem_cons_of_mem _ m2),_,k3⟩
  ·exact⟨I.nw _ (List.mem_cons_of_mem _ m3),_,k4⟩
 ·rw[e9]
  exact⟨.inr (.inl rfl),as1,k3,b_ kt kl (fun _ z=>.inl z) h5⟩
 ·rw[e9]
  exact⟨.inr (.inr rfl),as2,k4,b_ kt kl (fun _ z=>.inl z) h6⟩
section
variable{P:Program}{w:World}{K:PySem.W.Frag}{mg:Str→Option Value}{base:Heap}
def rJ:Sp:=fun vs H Q _=>∃ (pp t:Addr) (H0:Hp) (gs:List FrX) (x:FrX) (S:Addr→Prop) (st:ak),vs=[.ref pp,.ref t]∧PInv H0 H pp (gs++[x]) S∧stpAt (ProgAt S (9 - gs.length) H) H t st∧x.f.a.length≤1000∧x.f.b.length≤1000∧gs.length≤100∧
 ∀ H':Hp,PInv H0 H' pp (gs++[{ x with f:=bu x.f st }]) S→Q .non H'
theorem eD{gs:List FrX}{x:FrX}:cu ((gs++[x]).map fun x=>V.ref x.fa) (-1)=some (.ref x.fa):=xB (by rw[List.length_map,List.getElem?_map,List.length_append]; simp)
theorem zv(D:DefAt K mg "_law_put" cM):aQ P w K mg base 1 "_law_put" ["_law_pile", "_law_step_here"] rJ:=by
 refine D.cal (k:=0) qE (fun _ _ _ _ _ _ us hl=>match us,hl with | [_,_],_=>rfl) (fun vs H Q E h=>by obtain⟨_,_,_,_,_,_,_,rfl,_⟩:=h; rfl) (fun f cdv A outer s0 H vs Q E hr h=>?_)
 obtain⟨pp,t,H0,gs,x,S,st,rfl,I,ht,hl1,hl2,hgl,q⟩:=h
 refine⟨_,(am (bD (b5 K PySem.F.plainAttrs_list PySem.F.slot_list_append PySem.F.type_list_append bX (av (aG K) (av (aG K) (pv 0 (hv:=yF)) (eK dL ai) (fun _ _=>rfl)) (ar aD ai (av (aG K) (av (aG K) (pv 0 (hv:=yF)) (eK dL ai) (fun _ _=>rfl)) ai (fun _ _=>rfl))) (fun _ _=>rfl)) (aa (pv 1 (hv:=Bg)) ac)))),?_⟩
 obtain⟨ha,as1,as2,h1,h2,h3,h4,h5,h6⟩:=I.fr gs.length x (cF gs x)
 obtain⟨q0,as,hq,hqa,hal,I2⟩:=I.put ht
 walk_at "rd1"
 refine⟨_,_,.inl (SqL.of I.pile),eD,?_⟩
 walk_at "rd1"
 refine⟨_,_,.inl (SqL.of I.pile),eD,?_⟩
 walk_at "rd1"
 refine⟨_,_,.inl (SqL.of h1),aX (j:=3) rfl,?_⟩
 cases hs:x.f.s with
 | true=>
  rw[hs,if_pos rfl]at hq hal
  subst hq
  rw[show gm true=V.int 1 from rfl]
  walk_at "rd1"
  refine⟨_,_,.inl (SqL.of h1),aX (j:=2) rfl,?_⟩
  walk_at "rd1"
  refine⟨⟨_,SqL.of hqa⟩,_,hqa,by rw[List.length_map,hal]; exact ce (by omega),?_⟩
  exact q _ I2
 | false=>
  rw[hs,if_neg (by decide)]at hq hal
  subst hq
  rw[show gm false=V.int 0 from rfl]
  walk_at "rd1"
  refine⟨_,_,.inl (SqL.of h1),aX (j:=1) rfl,?_⟩
  walk_at "rd1"
  refine⟨⟨_,SqL.of hqa⟩,_,hqa,by rw[List.length_map,hal]; exact ce (by omega),?_⟩
  exact q _ I2
def pM:Sp:=fun vs H Q _=>∃ (pp:Addr) (H0:Hp) (gs:List FrX) (g x:FrX) (S:Addr→Prop),vs=[.ref pp]∧PInv H0 H pp (gs++[g]++[x]) S∧x.f.hd ≠ .top∧g.f.a.length≤1000∧g.f.b.length≤1000∧gs.length≤7∧
 ∀ (H':Hp) (S':Addr→Prop),PInv H0 H' pp (gs++[{ g with f:=bu g.f (fv x.f) }]) S'→Q .non H'
theorem wk(D:DefAt K mg "_law_close" bv) (c_law_put:aQ P w K mg base 1 "_law_put" ["_law_pile", "_law_step_here"] rJ):aQ P w K mg base 2 "_law_close" ["_law_pile"] pM:=by
 refine D.cal (k:=1) sc_law_close (fun _ _ _ _ _ _ us hl=>match us,hl with | [_],_=>rfl) (fun vs H Q E h=>by obtain⟨_,_,_,_,_,_,rfl,_⟩:=h; rfl) (fun f cdv A outer s0 H vs Q E hr h=>?_)
 obtain⟨pp,H0,gs,g,x,S,rfl,I,hx,hl1,hl2,hgl,q⟩:=h
 refine⟨_,(aj (gK (pR K PySem.F.plainAttrs_list PySem.F.slot_list_pop PySem.F.type_list_pop xY (pv 0 (hv:=wb))) (xr K (n:=4) (cx (bC 1 sc_law_close.nd (hx:=Cq)) (cx (bC 2 sc_law_close.nd (hx:=Br)) (cx (bC 3 sc_law_close.nd (hx:=Dj)) (cx (bC 4 sc_law_close.nd (hx:=BQ)) fM))))))
   (am (b6 (bi bY (av (aG K) (pv 1 (hv:=v5)) ai (fun _ _=>rfl)) ax (bt _)) (am (bD (aB c_law_put hr (aa (pv 0 (hv:=wb)) (aa (ar (iH K) (pv 1 (hv:=v5)) (bc (aa (pv 2 (hv:=yZ)) (aa (pv 3 (hv:=Bi)) ac)))) ac)) (hg:=zy)))) (am (bD (aB c_law_put hr (aa (pv 0 (hv:=wb)) (aa (ar (iH K) (pv 1 (hv:=v5)) (bc (aa (pv 2 (hv:=yZ)) ac))) ac)) (hg:=zy))))))),?_⟩
 obtain⟨ha,as1,as2,h1,h2,h3,h4,h5,h6⟩:=I.fr (gs++[g]).length x (cF (gs++[g]) x)
 obtain⟨I2,pa,pb⟩:=I.pop (by rw[List.length_append]; simp; omega)
 have hlen:(gs++[g]).length=gs.length+1:=by simp
 rw[hlen,show 10 - (gs.length+1)=9 - gs.length by omega]at pa pb
 walk_at "rd1"
 refine⟨⟨_,SqL.of I.pile⟩,_,_,I.pile,(by rw[List.map_append,List.length_append,List.getElem?_append_right (by simp)]; simp:_=some (V.ref x.fa)),?_⟩
 rw[List.map_append,List.map_cons,List.map_nil,List.dropLast_concat]
 have nxp:x.fa≠pp:=fun e=>by
  have:=I.nd
  rw[List.nodup_cons]at this
  exact this.1 (by rw[← e]; exact(dD (List.mem_append_right _ List.mem_cons_self)).1)
 have h1':upd H pp (.lst ((gs++[g]).map fun x=>V.ref x.fa)) x.fa=some (.lst [.ref ha,.ref x.a1,.ref x.a2,gm x.f.s]):=by rw[ap nxp]; exact h1
 have h2':upd H pp (.lst ((gs++[g]).map fun x=>V.ref x.fa)) ha=some (.tup (cX x.f.hd)):=by rw[ap (cm h2 I.pile (fun y=>nomatch y))]; exact h2
 generalize upd H pp (.lst ((gs++[g]).map fun x=>V.ref x.fa))=H1 at I2 pa pb h1' h2' ⊢
 rw[xK]
 refine⟨x.fa,_,rfl,SqL.of h1',rfl,?_⟩
 have hgg:FrX.mk g.fa g.a1 g.a2 (bu g.f (fv x.f))={ g with f:=bu g.f (fv x.f) }:=rfl
 cases hh:x.f.hd with
 | top=>exact absurd hh hx
 | ite n=>
  rw[hh]at h2'
  walk_at "rd1"
  walk_at "nx"
  refine⟨_,_,.inr (SqT.of h2'),(show cu (cX (.ite n)) 0=some (.str "if") from cG),?_⟩
  walk_at "rd1"
  refine⟨by decide,fun t1 ht1=>?_⟩
  have s2:=af ht1 (.tup [.ref x.a1,.ref x.a2])
  have e2:upd H1 t1 (.tup [.ref x.a1,.ref x.a2]) t1=some (.tup [.ref x.a1,.ref x.a2]):=ae
  generalize upd H1 t1 (.tup [.ref x.a1,.ref x.a2])=H2 at s2 e2 ⊢
  refine⟨_,_,SqT.of (s2 _ _ h2'),SqT.of e2,by simp[cX],bF (by simp[cX]),fun z=>by simp at z,fun _ t2 ht2=>?_⟩
  have s3:=af ht2 (.tup (cX (.ite n)++[.ref x.a1,.ref x.a2]))
  have e3:upd H2 t2 (.tup (cX (.ite n)++[.ref x.a1,.ref x.a2])) t2=some (.tup [.str "if", .int n,.ref x.a1,.ref x.a2]):=ae
  generalize upd H2 t2 (.tup (cX (.ite n)++[.ref x.a1,.ref x.a2]))=H3 at s3 e3 ⊢
  have s13:=s2.trans s3
  refine⟨pp,t2,H0,gs,g,_,fv x.f,rfl,I2.alloc s13,?_,hl1,hl2,by omega,fun H' I3=>q H' _ I3⟩
  unfold fv
  rw[hh]
  exact⟨x.a1,x.a2,e3,pa.mono s13,pb.mono s13⟩
 | lend u v=>
  rw[hh]at h2'
  walk_at "rd1"
  walk_at "nx"
  refine⟨_,_,.inr (SqT.of h2'),(show cu (cX (.lend u v)) 0=some (.str "lend") from cG),?_⟩
  walk_at "rd1"
  rw[if_neg (by decide +kernel)]
  refine⟨by decide,fun t1 ht1=>?_⟩
  have s2:=af ht1 (.tup [.ref x.a1])
  have e2:upd H1 t1 (.tup [.ref x.a1]) t1=some (.tup [.ref x.a1]):=ae
  generalize upd H1 t1 (.tup [.ref x.a1])=H2 at s2 e2 ⊢
  refine⟨_,_,SqT.of (s2 _ _ h2'),SqT.of e2,by simp[cX],bF (by simp[cX]),fun z=>by simp at z,fun _ t2 ht2=>?_⟩
  have s3:=af ht2 (.tup (cX (.lend u v)++[.ref x.a1]))
  have e3:upd H2 t2 (.tup (cX (.lend u v)++[.ref x.a1])) t2=some (.tup [.str "lend", .str u,.str v,.ref x.a1]):=ae
  generalize upd H2 t2 (.tup (cX (.lend u v)++[.ref x.a1]))=H3 at s3 e3 ⊢
  have s13:=s2.trans s3
  refine⟨pp,t2,H0,gs,g,_,fv x.f,rfl,I2.alloc s13,?_,hl1,hl2,by omega,fun H' I3=>q H' _ I3⟩
  unfold fv
  rw[hh]
  exact⟨x.a1,e3,pa.mono s13⟩
 | whl n=>
  rw[hh]at h2'
  walk_at "rd1"
  walk_at "nx"
  refine⟨_,_,.inr (SqT.of h2'),(show cu (cX (.whl n)) 0=some (.str "while") from cG),?_⟩
  walk_at "rd1"
  rw[if_neg (by decide +kernel)]
  refine⟨by decide,fun t1 ht1=>?_⟩
  have s2:=af ht1 (.tup [.ref x.a1])
  have e2:upd H1 t1 (.tup [.ref x.a1]) t1=some (.tup [.ref x.a1]):=ae
  generalize upd H1 t1 (.tup [.ref x.a1])=H2 at s2 e2 ⊢
  refine⟨_,_,SqT.of (s2 _ _ h2'),SqT.of e2,by simp[cX],bF (by simp[cX]),fun z=>by simp at z,fun _ t2 ht2=>?_⟩
  have s3:=af ht2 (.tup (cX (.whl n)++[.ref x.a1]))
  have e3:upd H2 t2 (.tup (cX (.whl n)++[.ref x.a1])) t2=some (.tup [.str "while", .int n,.ref x.a1]):=ae
  generalize upd H2 t2 (.tup (cX (.whl n)++[.ref x.a1]))=H3 at s3 e3 ⊢
  have s13:=s2.trans s3
  refine⟨pp,t2,H0,gs,g,_,fv x.f,rfl,I2.alloc s13,?_,hl1,hl2,by omega,fun H' I3=>q H' _ I3⟩
  unfold fv
  rw[hh]
  exact⟨x.a1,e3,pa.mono s13⟩
theorem xU{x:Str}(h:∀ c∈x.cps.toList,c∈letters.cps.toList):32∉x.cps.toList:=fun z=>absurd (h 32 z) (by decide)
def dQ(x:Str):Prop:=x.length≤20∧dH x
def ph:Sp:=fun vs H Q _=>∃ (c:Int) (n:Nat),vs=[.int c,.int (n:Int)]∧n≤10∧∀ (L:Addr) (ss:List Str) (H':Hp),Same H H'→H L=none→H' L=some (.lst (ss.map V.str))→ss.length=n→(∀ x∈ss,dQ x)→Q (.ref L) H'
theorem v0(D:DefAt K mg "_law_words" az) (z_range:mg "range" = none) (z_int:mg "int" = none):aQ P w K mg base 1 "_law_words" ["_law_cell", "_law_many"] ph:=by
 refine D.cal (k:=0) sc_law_words (fun _ _ _ _ _ _ us hl=>match us,hl with | [_,_],_=>rfl) (fun vs H Q E h=>by obtain⟨_,_,rfl,_⟩:=h; rfl) (fun f cdv A outer s0 H vs Q E hr h=>?_)
 obtain⟨c,n,rfl,hn,q⟩:=h
 refine⟨_,(aj (aw 2 sc_law_words.nd ax (hx:=BZ))
   (aj (aw 3 sc_law_words.nd (ar aD ai (ar cH (pv 0 (hv:=wu)) ai)) (hx:=Ct))
   (aj (aw 4 sc_law_words.nd (ar cH (ar fQ (pv 0 (hv:=wu)) ai) (pv 3 (hv:=vn))) (hx:=BL))
   (aj (aw 5 sc_law_words.nd (ar cH (ar fQ (pv 0 (hv:=wu)) ai) (ar nW ai ai)) (hx:=y4))
   (aj (aw 6 sc_law_words.nd (bd ac) (hx:=C7))
   (aj (cA PassesOwn.never rfl (fA uZ z_range (aa (pv 3 (hv:=vn)) ac)) (bC 7 sc_law_words.nd (hx:=y8)) (aj (bD (b5 K PySem.F.plainAttrs_list PySem.F.slot_list_append PySem.F.type_list_append bX (pv 6 (hv:=Cf)) (aa (ar cH (pv 5 (hv:=Ai)) ai) ac)))
   (am (aw 5 sc_law_words.nd (ar fQ (pv 5 (hv:=Ai)) ai) (hx:=y4)))))
   (aj (aw 8 sc_law_words.nd (bd ac) (hx:=C6))
   (aj (cA PassesOwn.never rfl (fA uZ z_range (aa (pv 1 (hv:=Bt)) ac)) (bC 7 sc_law_words.nd (hx:=y8)) (am (bD (b5 K PySem.F.plainAttrs_list PySem.F.slot_list_append PySem.F.type_list_append bX (pv 8 (hv:=zk)) (aa (b5 K PySem.F.plainAttrs_str PySem.F.slot_str_join PySem.F.type_str_join (lO K) ax (aa (h8 (CompSc.to (fsc:=(defScope az)) (N:=["_law_cell", "_law_many", "_law_letters", "_law_size", "_law_at", "_law_rest", "_law_base", "_law_k", "_law_words_here"]) (N0:=["_law_cell", "_law_many", "_law_letters", "_law_size", "_law_at", "_law_rest", "_law_base", "_law_k", "_law_words_here"]) (T:=["_law_j"]) ⟨by decide +kernel,by decide +kernel,by decide +kernel,by decide +kernel,by decide +kernel,by decide +kernel,by decide +kernel⟩ rfl rfl) rfl (fA uZ z_range (aa (pv 3 (hv:=vn)) ac)) (fun _ _ _ _=>(bC 9 (show (["_law_cell", "_law_many", "_law_letters", "_law_size", "_law_at", "_law_rest", "_law_base", "_law_k", "_law_words_here", "_law_j"]:List Str).Nodup from by decide +kernel) (hx:=(lN (defScope az) (by decide +kernel))) (hf:=uB (defScope az) (by decide +kernel)))) (eW (show (["_law_cell", "_law_many", "_law_letters", "_law_size", "_law_at", "_law_rest", "_law_base", "_law_k", "_law_words_here"]:List Str).length≤9 from by decide)) (fun _ _ _ _=>iC) (fun _ _ _ _=>(av (aG K) (pv 2 (hv:=(eV (defScope az) (by decide +kernel)))) (ar cH (ar aD (av (aG K) (pv 6 (hv:=(eV (defScope az) (by decide +kernel)))) (pv 9 (hv:=(eV (defScope az) (by decide +kernel)))) (fun _ _=>rfl)) (ar eU (pv 7 (hv:=(eV (defScope az) (by decide +kernel)))) (fg kr z_int nB (aa (fJ bY (pv 9 (hv:=(eV (defScope az) (by decide +kernel)))) (pv 4 (hv:=(eV (defScope az) (by decide +kernel)))) (bt _)) ac) (hg:=(AS (defScope az) (by decide +kernel)))))) ai) (fun _ _=>rfl)))) ac)) ac)))))
   (am (aN (pv 8 (hv:=zk)))))))))))),?_⟩
 walk_at "rd1"
 walk_at "nx"
 refine⟨by decide,?_⟩
 have hsz0:∃ z:Nat,1+c % 8=(z:Int)∧1≤z∧z≤8:=⟨(1+c % 8).toNat,by omega,by omega,by omega⟩
 obtain⟨sz,esz,sz0,sz1⟩:=hsz0
 rw[esz]
 walk_at "nx"
 refine⟨⟨by decide,by decide⟩,by omega,?_⟩
 generalize c / 8 % (sz:Int)=at'
 walk_at "nx"
 refine⟨⟨by decide,by decide⟩,⟨by decide,by decide,by decide⟩,by decide,?_⟩
 generalize hrest:c / 64 % 26 ^ Int.toNat 8=rest
 walk_at "nx"
 refine⟨by decide,fun p hp=>?_⟩
 have s1:=af hp (.lst [])
 have e1:upd H p (.lst []) p=some (.lst (([]:List Int).map V.int)):=ae
 generalize upd H p (.lst [])=H1 at s1 e1 ⊢
 walk_at "nx"
 refine⟨by omega,by omega,?_⟩
 rw[Int.toNat_natCast]
 refine eO (fun i σ H'=>∃ (ns:List Int) (r0:Int) (o7:Option V),σ=[some (.int c),some (.int (n:Int)),some (.str "abcdefghijklmnopqrstuvwxyz"),some (.int (sz:Int)),some (.int at'),some (.int r0),some (.ref p),o7,none]∧Same H H'∧H' p=some (.lst (ns.map V.int))∧ns.length=i)
  ⟨[],rest,none,rfl,s1,e1,rfl⟩ ?_ ?_
 ·rintro i σ H' hi ⟨ns,r0,o7,rfl,sm,hl,hnl⟩
  walk_at "rd1"
  refine⟨⟨_,SqL.of hl⟩,by decide,?_⟩
  walk_at "rd1"
  refine⟨_,hl,by rw[List.length_map]; exact ce (by omega),?_⟩
  walk_at "nx"
  exact⟨⟨by decide,by decide⟩,ns++[r0 % 26],_,_,rfl,sm.upd hp _,by rw[ae,List.map_append]; rfl,by simp[hnl]⟩
 rintro σ H2 ⟨ns,r0,o7,rfl,s2,e2,hnl⟩
 walk_at "nx"
 refine⟨by decide,fun L hL=>?_⟩
 have s3:=af hL (.lst [])
 have e3:upd H2 L (.lst []) L=some (.lst (([]:List Str).map V.str)):=ae
 have hLH:H L=none:=s2.free hL
 have npL:p≠L:=au e2 hL
 have e2':=s3 _ _ e2
 generalize upd H2 L (.lst [])=H3 at s3 e3 e2' ⊢
 walk_at "nx"
 refine⟨by omega,by omega,?_⟩
 rw[Int.toNat_natCast]
 refine eO (fun i σ H'=>∃ (ss:List Str) (o7:Option V),σ=[some (.int c),some (.int (n:Int)),some (.str "abcdefghijklmnopqrstuvwxyz"),some (.int (sz:Int)),some (.int at'),some (.int r0),some (.ref p),o7,some (.ref L)]∧Same H H'∧H' p=some (.lst (ns.map V.int))∧H' L=some (.lst (ss.map V.str))∧ss.length=i∧∀ x∈ss,dQ x)
  ⟨[],_,rfl,s2.trans s3,e2',e3,rfl,by simp⟩ ?_ ?_
 ·rintro i σ H' hi ⟨ss,o7,rfl,sm,hl,hL',hsl,hsw⟩
  walk_at "rd1"
  refine⟨⟨_,SqL.of hL'⟩,by omega,by omega,fun C hC=>?_⟩
  rw[Int.toNat_natCast]
  refine oy (fun j ys H2=>Same H' H2∧H2 C=some (.lst ys)∧∃ ds:List Nat,ys=ds.map (fun d=>V.str ⟨#[d]⟩)∧ds.length=j∧∀ d∈ds,d∈letters.cps.toList) ⟨af hC _,ae,[],rfl,rfl,by simp⟩ ?_ ?_
  ·rintro j ys H4 hj ⟨sm4,hl4,ds,rfl,hdl,hdm⟩
   walk_at "rd1"
   have hjn:j<ns.length:=by omega
   refine⟨_,_,.inl (SqL.of (sm4 _ _ hl)),(show cu (ns.map V.int) (0+(j:Int))=some (.int ns[j]) by rw[Int.zero_add]; exact aX (by rw[List.getElem?_map,List.getElem?_eq_getElem hjn]; rfl)),?_⟩
   walk_at "rd1"
   obtain⟨ch,z1,z2,z3⟩:=uj (ns[j]+(0+(i:Int)) * if 0+(j:Int)=at' then 1 else 0)
   refine⟨.inl ⟨by omega,by omega⟩,by decide,ch,z1,z2,?_⟩
   refine rH hj (by rw[List.length_map]; omega) (bF (by omega)) hl4 ⟨sm4.upd hC _,ae,ds++[ch],by rw[List.map_append]; rfl,by simp[hdl],fun d hd=>?_⟩
   rcases List.mem_append.mp hd with hd | hd
   ·exact hdm d hd
   ·rw[List.mem_singleton.mp hd]; exact z3
  ·rintro ys H4 ⟨sm4,hl4,ds,rfl,hdl,hdm⟩
   walk_at "rd1"
   have hmm:ds.map (fun c=>V.str ⟨#[c]⟩)=(ds.map fun c=>(⟨#[c]⟩ : Str)).map V.str:=by rw[List.map_map]; rfl
   rw[hmm]at hl4
   have h1l:(Str.ofString "").length=0:=by decide
   refine⟨_,SqL.of hl4,?_,?_⟩
   ·rw[h1l]
    have:=fY 1 (ds.map fun c=>(⟨#[c]⟩ : Str)) (fun s hs=>by obtain⟨c,_,rfl⟩:=List.mem_map.mp hs; exact Nat.le_refl _)
    rw[List.length_map]at this ⊢
    omega
   have hbl:(Txt.join "" (ds.map fun c=>(⟨#[c]⟩ : Str))).length=sz:=by rw[vE]; exact hdl
   have hbm:∀ c∈(Txt.join "" (ds.map fun c=>(⟨#[c]⟩ : Str))).cps.toList,c∈letters.cps.toList:=by rw[mG]; exact hdm
   generalize Txt.join "" (ds.map fun c=>(⟨#[c]⟩ : Str))=bs at hbl hbm ⊢
   have hL4:=sm4 _ _ hL'
   walk_at "rd1"
   refine⟨_,hL4,by rw[List.length_map]; exact ce (by omega),ss++[bs],_,rfl,(sm.trans sm4).upd hLH _,?_,by rw[ae,List.map_append]; rfl,by simp[hsl],fun x hx=>?_⟩
   ·rw[ap npL]; exact sm4 _ _ hl
   ·rcases List.mem_append.mp hx with hx | hx
    ·exact hsw x hx
    ·rw[List.mem_singleton.mp hx]; exact⟨by omega,xU hbm⟩
 ·rintro σ H4 ⟨ss,o7,rfl,sm,hl,hL',hsl,hsw⟩
  walk_at "nx"
  exact q L ss H4 sm hLH hL' hsl hsw
def j7(nm:List Str)(z:Int):Str:=nm.getD (z % (nm.length:Int)).toNat ""
theorem ni{nm:List Str}(h:1≤nm.length)(z:Int):j7 nm z∈nm∧cu (nm.map V.str) (z % (nm.length:Int))=some (.str (j7 nm z)):=by
 have h0:=Int.emod_nonneg z (show (nm.length:Int)≠0 by omega)
 have h1:=Int.emod_lt_of_pos z (show (0:Int)<nm.length by omega)
 have hl:(z % (nm.length:Int)).toNat<nm.length:=by omega
 have e:j7 nm z=nm[(z % (nm.length:Int)).toNat]:=by unfold j7; rw[List.getD_eq_getElem?_getD,List.getElem?_eq_getElem hl]; rfl
 refine⟨by rw[e]; exact List.getElem_mem hl,?_⟩
 have:=aX (xs:=nm.map V.str) (j:=(z % (nm.length:Int)).toNat) (v:=.str (j7 nm z)) (by rw[List.getElem?_map,List.getElem?_eq_getElem hl,e]; rfl)
 rwa [show (((z % (nm.length:Int)).toNat:Nat):Int)=z % (nm.length:Int) by omega]at this
def qI(c:Int):Int:=c * 40692 % (2 * 10 ^ 60 - 1) - 10 ^ 60+1
theorem xn(c:Int):(qI c).natAbs<10 ^ 61:=by
 unfold qI
 have h0:=Int.emod_nonneg (c * 40692) (show (2 * 10 ^ 60 - 1:Int)≠0 by decide)
 have h1:=Int.emod_lt_of_pos (c * 40692) (show (0:Int)<2 * 10 ^ 60 - 1 by decide)
 omega
def qY(x y wd:Str)(b:Int):List (List V):=[[.str "open", .str x],[.str "do", .str wd,.str x],[.str "do", .str wd,.str x],[.str "do", .str wd,.str x],[.str "copy", .str x,.str y],[.str "drop", .str x],[.str "tie", .str x,.str y],[.str "lend", .str x,.str y],[.str "if", .int b],[.str "while", .int b],[.str "while", .int b],[.str "do", .str wd,.str x],[.str "tie", .str x,.str y],[.str "open", .str x],[.str "other"],[.str "close"]]
inductive eI:List V→Prop
 | plain (ws:List Str):dg ws→fI ws→(∀ x∈ws,dH x)→eI (ws.map V.str)
 | lend (x y:Str):dQ x→dQ y→eI [.str "lend", .str x,.str y]
 | ite (n:Int):n.natAbs<10 ^ 61→eI [.str "if", .int n]
 | whl (n:Int):n.natAbs<10 ^ 61→eI [.str "while", .int n]
 | other:eI [.str "other"]
 | close:eI [.str "close"]
theorem pH{h x:Str}(hh:h∈cB)(hl:h.length≤20)(hx:x.length≤20):fI [h,x]:=⟨by simp,by simp,hh,fun z hz=>by
 simp only[List.mem_cons,List.not_mem_nil,or_false]at hz
 rcases hz with rfl | rfl <;> assumption⟩
theorem jG{h x y:Str}(hh:h∈cB)(hl:h.length≤20)(hx:x.length≤20)(hy:y.length≤20):fI [h,x,y]:=⟨by simp,by simp,hh,fun z hz=>by
 simp only[List.mem_cons,List.not_mem_nil,or_false]at hz
 rcases hz with rfl | rfl | rfl <;> assumption⟩
theorem qz{x y wd:Str}{b:Int}(hx:dQ x)(hy:dQ y)(hw:dQ wd)(hb:b.natAbs<10 ^ 61):∀ r∈qY x y wd b,eI r:=by
 have kk:∀ {u:Str},u∈(["open", "do", "copy", "drop", "tie"]:List Str)→dH u:=fun {u} hu=>by
  simp only[List.mem_cons,List.not_mem_nil,or_false]at hu
  rcases hu with rfl | rfl | rfl | rfl | rfl <;> (unfold dH; decide)
 have f2:∀ {a c:Str},dH a→dH c→∀ z∈[a,c],dH z:=fun ha hc z hz=>by
  simp only[List.mem_cons,List.not_mem_nil,or_false]at hz
  rcases hz with rfl | rfl <;> assumption
 have f3:∀ {a c e:Str},dH a→dH c→dH e→∀ z∈[a,c,e],dH z:=fun ha hc he z hz=>by
  simp only[List.mem_cons,List.not_mem_nil,or_false]at hz
  rcases hz with rfl | rfl | rfl <;> assumption
 have op:eI [.str "open", .str x]:=.plain ["open", x] (.op x) (pH (by decide +kernel) (by decide) hx.1) (f2 (kk (by decide +kernel)) hx.2)
 have dr:eI [.str "drop", .str x]:=.plain ["drop", x] (.dr x) (pH (by decide +kernel) (by decide) hx.1) (f2 (kk (by decide +kernel)) hx.2)
 have dd:eI [.str "do", .str wd,.str x]:=.plain ["do", wd,x] (.dd wd x) (jG (by decide +kernel) (by decide) hw.1 hx.1) (f3 (kk (by decide +kernel)) hw.2 hx.2)
 have cp:eI [.str "copy", .str x,.str y]:=.plain ["copy", x,y] (.cp x y) (jG (by decide +kernel) (by decide) hx.1 hy.1) (f3 (kk (by decide +kernel)) hx.2 hy.2)
 have ti:eI [.str "tie", .str x,.str y]:=.plain ["tie", x,y] (.ti x y) (jG (by decide +kernel) (by decide) hx.1 hy.1) (f3 (kk (by decide +kernel)) hx.2 hy.2)
 have le:eI [.str "lend", .str x,.str y]:=.lend x y hx hy
 have it:eI [.str "if", .int b]:=.ite b hb
 have wh:eI [.str "while", .int b]:=.whl b hb
 intro r hr
 unfold qY at hr
 simp only[List.mem_cons,List.not_mem_nil,or_false]at hr
 rcases hr with rfl | rfl | rfl | rfl | rfl | rfl | rfl | rfl | rfl | rfl | rfl | rfl | rfl | rfl | rfl | rfl
 ·exact op
 ·exact dd
 ·exact dd
 ·exact dd
 ·exact cp
 ·exact dr
 ·exact ti
 ·exact le
 ·exact it
 ·exact wh
 ·exact wh
 ·exact dd
 ·exact ti
 ·exact op
 ·exact .other
 ·exact .close
def uC:Sp:=fun vs H Q _=>∃ (c:Int) (np wp:Addr) (nm ws:List Str),vs=[.int c,.ref np,.ref wp]∧H np=some (.lst (nm.map V.str))∧H wp=some (.lst (ws.map V.str))∧1≤nm.length∧nm.length≤20∧1≤ws.length∧ws.length≤20∧(∀ x∈nm,dQ x)∧(∀ x∈ws,dQ x)∧
 ∀ (t:Addr) (H':Hp) (v:List V),Same H H'→H' t=some (.tup v)→eI v→Q (.ref t) H'
theorem x3(D:DefAt K mg "_law_step" bf) (z_len:mg "len" = none):aQ P w K mg base 1 "_law_step" ["_law_cell", "_law_names", "_law_words_here"] uC:=by
 refine D.cal (k:=0) sc_law_step (fun _ _ _ _ _ _ us hl=>match us,hl with | [_,_,_],_=>rfl) (fun vs H Q E h=>by obtain⟨_,_,_,_,_,rfl,_⟩:=h; rfl) (fun f cdv A outer s0 H vs Q E hr h=>?_)
 obtain⟨c,np,wp,nm,ws,rfl,hnp,hwp,n1,n2,w1,w2,hnm,hws,q⟩:=h
 refine⟨_,(aj (aw 3 sc_law_step.nd (av (aG K) (pv 1 (hv:=su)) (ar cH (ar cH (ar eU (pv 0 (hv:=mS)) ai) ai) (bw (aW K) z_len bH (aa (pv 1 (hv:=su)) ac) (hg:=wf))) (fun _ _=>rfl)) (hx:=Dl))
   (aj (aw 4 sc_law_step.nd (av (aG K) (pv 1 (hv:=su)) (ar cH (ar cH (ar eU (pv 0 (hv:=mS)) ai) ai) (bw (aW K) z_len bH (aa (pv 1 (hv:=su)) ac) (hg:=wf))) (fun _ _=>rfl)) (hx:=Cm))
   (aj (aw 5 sc_law_step.nd (av (aG K) (pv 2 (hv:=z0)) (ar cH (ar cH (ar eU (pv 0 (hv:=mS)) ai) ai) (bw (aW K) z_len bH (aa (pv 2 (hv:=z0)) ac) (hg:=wf))) (fun _ _=>rfl)) (hx:=CH))
   (aj (aw 6 sc_law_step.nd (ar aD (ar jp (ar cH (ar eU (pv 0 (hv:=mS)) ai) (ar jp (ar eU ai (ar nW ai ai)) ai)) (ar nW ai ai)) ai) (hx:=BO))
   (aj (aw 7 sc_law_step.nd (bd (aa (bc (aa ax (aa (pv 3 (hv:=fk)) ac))) (aa (bc (aa ax (aa (pv 5 (hv:=qm)) (aa (pv 3 (hv:=fk)) ac)))) (aa (bc (aa ax (aa (pv 5 (hv:=qm)) (aa (pv 3 (hv:=fk)) ac)))) (aa (bc (aa ax (aa (pv 5 (hv:=qm)) (aa (pv 3 (hv:=fk)) ac)))) (aa (bc (aa ax (aa (pv 3 (hv:=fk)) (aa (pv 4 (hv:=qw)) ac)))) (aa (bc (aa ax (aa (pv 3 (hv:=fk)) ac))) ac))))))) (hx:=u7))
   (aj (aw 7 sc_law_step.nd (ar aD (pv 7 (hv:=uQ)) (bd (aa (bc (aa ax (aa (pv 3 (hv:=fk)) (aa (pv 4 (hv:=qw)) ac)))) (aa (bc (aa ax (aa (pv 3 (hv:=fk)) (aa (pv 4 (hv:=qw)) ac)))) (aa (bc (aa ax (aa (pv 6 (hv:=wc)) ac))) (aa (bc (aa ax (aa (pv 6 (hv:=wc)) ac))) (aa (bc (aa ax (aa (pv 6 (hv:=wc)) ac))) ac))))))) (hx:=u7))
   (aj (aw 7 sc_law_step.nd (ar aD (pv 7 (hv:=uQ)) (bd (aa (bc (aa ax (aa (pv 5 (hv:=qm)) (aa (pv 3 (hv:=fk)) ac)))) (aa (bc (aa ax (aa (pv 3 (hv:=fk)) (aa (pv 4 (hv:=qw)) ac)))) (aa (bc (aa ax (aa (pv 3 (hv:=fk)) ac))) (aa (bc (aa ax ac)) (aa (bc (aa ax ac)) ac))))))) (hx:=u7))
   (am (aN (av (aG K) (pv 7 (hv:=uQ)) (ar cH (pv 0 (hv:=mS)) ai) (fun _ _=>rfl))))))))))),?_⟩
 obtain⟨x1,x2⟩:=ni n1 (c * 48271 % 99991)
 obtain⟨y1,y2⟩:=ni n1 (c * 69621 % 99989)
 obtain⟨u1,u2⟩:=ni w1 (c * 16807 % 99971)
 walk_at "rd1"
 refine⟨.inr ⟨by decide,by decide⟩,by decide,_,.inl (SqL.of hnp),?_⟩
 rw[List.length_map]
 refine⟨by omega,_,_,.inl (SqL.of hnp),x2,?_⟩
 generalize j7 nm (c * 48271 % 99991)=x at x1 ⊢
 walk_at "nx"
 refine⟨.inr ⟨by decide,by decide⟩,by decide,_,.inl (SqL.of hnp),?_⟩
 rw[List.length_map]
 refine⟨by omega,_,_,.inl (SqL.of hnp),y2,?_⟩
 generalize j7 nm (c * 69621 % 99989)=y at y1 ⊢
 walk_at "nx"
 refine⟨.inr ⟨by decide,by decide⟩,by decide,_,.inl (SqL.of hwp),?_⟩
 rw[List.length_map]
 refine⟨by omega,_,_,.inl (SqL.of hwp),u2,?_⟩
 generalize j7 ws (c * 16807 % 99971)=wd at u1 ⊢
 walk_at "nx"
 refine⟨.inr ⟨by decide,by decide⟩,⟨by decide,by decide,by decide⟩,.inl ⟨by decide,by decide⟩,by decide,⟨by decide,by decide,by decide⟩,?_⟩
 have hb:=xn c
 rw[show c * 40692 % (2 * 10 ^ Int.toNat 60 - 1) - 10 ^ Int.toNat 60+1=qI c from rfl]
 generalize qI c=b at hb ⊢
 walk_at "nx"
 refine⟨by decide,fun t1 ht1=>?_⟩
 generalize hT1:upd H t1 _=H1
 have s1:Same H H1:=by rw[← hT1]; exact af ht1 _
 have r1:aZ H1 t1 [.str "open", .str x]:=by show H1 t1=_; rw[← hT1]; exact ae
 refine⟨by decide,fun t2 ht2=>?_⟩
 generalize hT2:upd H1 t2 _=H2
 have s2:Same H1 H2:=by rw[← hT2]; exact af ht2 _
 have r2:aZ H2 t2 [.str "do", .str wd,.str x]:=by show H2 t2=_; rw[← hT2]; exact ae
 refine⟨by decide,fun t3 ht3=>?_⟩
 generalize hT3:upd H2 t3 _=H3
 have s3:Same H2 H3:=by rw[← hT3]; exact af ht3 _
 have r3:aZ H3 t3 [.str "do", .str wd,.str x]:=by show H3 t3=_; rw[← hT3]; exact ae
 refine⟨by decide,fun t4 ht4=>?_⟩
 generalize hT4:upd H3 t4 _=H4
 have s4:Same H3 H4:=by rw[← hT4]; exact af ht4 _
 have r4:aZ H4 t4 [.str "do", .str wd,.str x]:=by show H4 t4=_; rw[← hT4]; exact ae
 refine⟨by decide,fun t5 ht5=>?_⟩
 generalize hT5:upd H4 t5 _=H5
 have s5:Same H4 H5:=by rw[← hT5]; exact af ht5 _
 have r5:aZ H5 t5 [.str "copy", .str x,.str y]:=by show H5 t5=_; rw[← hT5]; exact ae
 refine⟨by decide,fun t6 ht6=>?_⟩
 generalize hT6:upd H5 t6 _=H6
 have s6:Same H5 H6:=by rw[← hT6]; exact af ht6 _
 have r6:aZ H6 t6 [.str "drop", .str x]:=by show H6 t6=_; rw[← hT6]; exact ae
 refine⟨by decide,fun l0 hl0=>?_⟩
 have sl0:=af hl0 (.lst [.ref t1,.ref t2,.ref t3,.ref t4,.ref t5,.ref t6])
 have L0:ListR (upd H6 l0 (.lst [.ref t1,.ref t2,.ref t3,.ref t4,.ref t5,.ref t6])) l0 [[.str "open", .str x],[.str "do", .str wd,.str x],[.str "do", .str wd,.str x],[.str "do", .str wd,.str x],[.str "copy", .str x,.str y],[.str "drop", .str x]]:=⟨[t1,t2,t3,t4,t5,t6],ae,.cons (sl0 _ _ (s6 _ _ (s5 _ _ (s4 _ _ (s3 _ _ (s2 _ _ (r1))))))) (.cons (sl0 _ _ (s6 _ _ (s5 _ _ (s4 _ _ (s3 _ _ (r2)))))) (.cons (sl0 _ _ (s6 _ _ (s5 _ _ (s4 _ _ (r3))))) (.cons (sl0 _ _ (s6 _ _ (s5 _ _ (r4)))) (.cons (sl0 _ _ (s6 _ _ (r5))) (.cons (sl0 _ _ (r6)) .nil)))))⟩
 have sg0:Same H (upd H6 l0 (.lst [.ref t1,.ref t2,.ref t3,.ref t4,.ref t5,.ref t6])):=((((((s1.trans s2).trans s3).trans s4).trans s5).trans s6).trans sl0)
 generalize upd H6 l0 (.lst [.ref t1,.ref t2,.ref t3,.ref t4,.ref t5,.ref t6])=HL0 at L0 sg0 ⊢
 have C0:=L0
 have S0:=sg0
 clear hT1 hT2 hT3 hT4 hT5 hT6
 walk_at "nx"
 refine⟨by decide,fun t7 ht7=>?_⟩
 generalize hT7:upd HL0 t7 _=H7
 have s7:Same HL0 H7:=by rw[← hT7]; exact af ht7 _
 have r7:aZ H7 t7 [.str "tie", .str x,.str y]:=by show H7 t7=_; rw[← hT7]; exact ae
 refine⟨by decide,fun t8 ht8=>?_⟩
 generalize hT8:upd H7 t8 _=H8
 have s8:Same H7 H8:=by rw[← hT8]; exact af ht8 _
 have r8:aZ H8 t8 [.str "lend", .str x,.str y]:=by show H8 t8=_; rw[← hT8]; exact ae
 refine⟨by decide,fun t9 ht9=>?_⟩
 generalize hT9:upd H8 t9 _=H9
 have s9:Same H8 H9:=by rw[← hT9]; exact af ht9 _
 have r9:aZ H9 t9 [.str "if", .int b]:=by show H9 t9=_; rw[← hT9]; exact ae
 refine⟨by decide,fun t10 ht10=>?_⟩
 generalize hT10:upd H9 t10 _=H10
 have s10:Same H9 H10:=by rw[← hT10]; exact af ht10 _
 have r10:aZ H10 t10 [.str "while", .int b]:=by show H10 t10=_; rw[← hT10]; exact ae
 refine⟨by decide,fun t11 ht11=>?_⟩
 generalize hT11:upd H10 t11 _=H11
 have s11:Same H10 H11:=by rw[← hT11]; exact af ht11 _
 have r11:aZ H11 t11 [.str "while", .int b]:=by show H11 t11=_; rw[← hT11]; exact ae
 refine⟨by decide,fun l1 hl1=>?_⟩
 have sl1:=af hl1 (.lst [.ref t7,.ref t8,.ref t9,.ref t10,.ref t11])
 have L1:ListR (upd H11 l1 (.lst [.ref t7,.ref t8,.ref t9,.ref t10,.ref t11])) l1 [[.str "tie", .str x,.str y],[.str "lend", .str x,.str y],[.str "if", .int b],[.str "while", .int b],[.str "while", .int b]]:=⟨[t7,t8,t9,t10,t11],ae,.cons (sl1 _ _ (s11 _ _ (s10 _ _ (s9 _ _ (s8 _ _ (r7)))))) (.cons (sl1 _ _ (s11 _ _ (s10 _ _ (s9 _ _ (r8))))) (.cons (sl1 _ _ (s11 _ _ (s10 _ _ (r9)))) (.cons (sl1 _ _ (s11 _ _ (r10))) (.cons (sl1 _ _ (r11)) .nil))))⟩
 have sg1:Same HL0 (upd H11 l1 (.lst [.ref t7,.ref t8,.ref t9,.ref t10,.ref t11])):=(((((s7.trans s8).trans s9).trans s10).trans s11).trans sl1)
 generalize upd H11 l1 (.lst [.ref t7,.ref t8,.ref t9,.ref t10,.ref t11])=HL1 at L1 sg1 ⊢
 obtain⟨as1,a1,b1⟩:=C0.mono sg1
 obtain⟨cs1,c1,d1⟩:=L1
 refine⟨_,_,a1,c1,cK b1 d1 (by simp),fun m1 hm1=>?_⟩
 have C1:=cY b1 d1 hm1
 have S1:=(S0.trans sg1).trans (af hm1 (.lst (as1.map V.ref++cs1.map V.ref)))
 generalize upd HL1 m1 (.lst (as1.map V.ref++cs1.map V.ref))=HC1 at C1 S1 ⊢
 walk_at "nx"
 refine⟨by decide,fun t12 ht12=>?_⟩
 generalize hT12:upd HC1 t12 _=H12
 have s12:Same HC1 H12:=by rw[← hT12]; exact af ht12 _
 have r12:aZ H12 t12 [.str "do", .str wd,.str x]:=by show H12 t12=_; rw[← hT12]; exact ae
 refine⟨by decide,fun t13 ht13=>?_⟩
 generalize hT13:upd H12 t13 _=H13
 have s13:Same H12 H13:=by rw[← hT13]; exact af ht13 _
 have r13:aZ H13 t13 [.str "tie", .str x,.str y]:=by show H13 t13=_; rw[← hT13]; exact ae
 refine⟨by decide,fun t14 ht14=>?_⟩
 generalize hT14:upd H13 t14 _=H14
 have s14:Same H13 H14:=by rw[← hT14]; exact af ht14 _
 have r14:aZ H14 t14 [.str "open", .str x]:=by show H14 t14=_; rw[← hT14]; exact ae
 refine⟨by decide,fun t15 ht15=>?_⟩
 generalize hT15:upd H14 t15 _=H15
 have s15:Same H14 H15:=by rw[← hT15]; exact af ht15 _
 have r15:aZ H15 t15 [.str "other"]:=by show H15 t15=_; rw[← hT15]; exact ae
 refine⟨by decide,fun t16 ht16=>?_⟩
 generalize hT16:upd H15 t16 _=H16
 have s16:Same H15 H16:=by rw[← hT16]; exact af ht16 _
 have r16:aZ H16 t16 [.str "close"]:=by show H16 t16=_; rw[← hT16]; exact ae
 refine⟨by decide,fun l2 hl2=>?_⟩
 have sl2:=af hl2 (.lst [.ref t12,.ref t13,.ref t14,.ref t15,.ref t16])
 have L2:ListR (upd H16 l2 (.lst [.ref t12,.ref t13,.ref t14,.ref t15,.ref t16])) l2 [[.str "do", .str wd,.str x],[.str "tie", .str x,.str y],[.str "open", .str x],[.str "other"],[.str "close"]]:=⟨[t12,t13,t14,t15,t16],ae,.cons (sl2 _ _ (s16 _ _ (s15 _ _ (s14 _ _ (s13 _ _ (r12)))))) (.cons (sl2 _ _ (s16 _ _ (s15 _ _ (s14 _ _ (r13))))) (.cons (sl2 _ _ (s16 _ _ (s15 _ _ (r14)))) (.cons (sl2 _ _ (s16 _ _ (r15))) (.cons (sl2 _ _ (r16)) .nil))))⟩
 have sg2:Same HC1 (upd H16 l2 (.lst [.ref t12,.ref t13,.ref t14,.ref t15,.ref t16])):=(((((s12.trans s13).trans s14).trans s15).trans s16).trans sl2)
 generalize upd H16 l2 (.lst [.ref t12,.ref t13,.ref t14,.ref t15,.ref t16])=HL2 at L2 sg2 ⊢
 obtain⟨as2,a2,b2⟩:=C1.mono sg2
 obtain⟨cs2,c2,d2⟩:=L2
 refine⟨_,_,a2,c2,cK b2 d2 (by simp),fun m2 hm2=>?_⟩
 have C2:=cY b2 d2 hm2
 have S2:=(S1.trans sg2).trans (af hm2 (.lst (as2.map V.ref++cs2.map V.ref)))
 generalize upd HL2 m2 (.lst (as2.map V.ref++cs2.map V.ref))=HC2 at C2 S2 ⊢
 walk_at "nx"
 have C2':ListR HC2 m2 (qY x y wd b):=C2
 refine⟨by decide,?_⟩
 obtain⟨as,a1',b1'⟩:=C2'
 have hal:=aC b1'
 have hi0:=Int.emod_nonneg c (show (16:Int)≠0 by decide)
 have hi1:=Int.emod_lt_of_pos c (show (0:Int)<16 by decide)
 have hal16:as.length=16:=hal
 have hil:(c % 16).toNat<as.length:=by omega
 obtain⟨r,e1,e2⟩:=bP b1' (List.getElem?_eq_getElem hil)
 refine⟨_,_,.inl (SqL.of a1'),(show cu (as.map V.ref) (c % 16)=some (.ref as[(c % 16).toNat]) from ?_),q _ HC2 r S2 e2 (qz (hnm x x1) (hnm y y1) (hws wd u1) hb r (List.mem_of_getElem? e1))⟩
 have:=aX (xs:=as.map V.ref) (j:=(c % 16).toNat) (v:=.ref as[(c % 16).toNat]) (by rw[List.getElem?_map,List.getElem?_eq_getElem hil]; rfl)
 rwa [show (((c % 16).toNat:Nat):Int)=c % 16 by omega]at this
end
def zt:w4→Prop
 | .top=>False
 | .lend x y=>dQ x∧dQ y
 | .ite n=>n.natAbs<10 ^ 61
 | .whl n=>n.natAbs<10 ^ 61
def fu(k:Nat)(x:FrX):Nat:=ah (10 - k) x.f.a+ah (10 - k) x.f.b+(if k=0 then 0 else 3)
def fB:Nat→List FrX→Nat
 | _,[]=>0
 | k,x::r=>fu k x+fB (k+1) r
theorem ee(x:FrX):∀ (gs:List FrX) (k:Nat),fB k (gs++[x])=fB k gs+fu (k+gs.length) x
 | [],k=>by simp[fB]
 | g::gs,k=>by
  show fu k g+fB (k+1) (gs++[x])=fu k g+fB (k+1) gs+_
  rw[ee x gs (k+1),List.length_cons,show k+1+gs.length=k+(gs.length+1) by omega]; omega
structure yu (k:Nat) (f:pe):Prop where
 top:k=0→f.hd = .top
 hd:0<k→zt f.hd
 a:bL (10 - k) f.a∧dA (10 - k) f.a
 b:bL (10 - k) f.b∧dA (10 - k) f.b
 sd:(∃ n,f.hd = .ite n)∨(f.s=false∧f.b=[])
structure POk (fs:List FrX) (m:Nat):Prop where
 ok:∀ k x,fs[k]? = some x→yu k x.f
 cnt:fB 0 fs≤m
 len:fs.length≤5
 pos:1≤fs.length
theorem gj{α : Type}{gs:List α}{x y:α}{k:Nat}(h:(gs++[x])[k]? = some y):(k<gs.length∧gs[k]? = some y)∨(k=gs.length∧y=x):=by
 by_cases hk:k<gs.length
 ·rw[List.getElem?_append_left hk]at h; exact .inl ⟨hk,h⟩
 ·rw[List.getElem?_append_right (by omega)]at h
  have hk0:k - gs.length=0:=by have:=(List.getElem?_eq_some_iff.mp h).1; simp at this; omega
  rw[hk0]at h
  cases h
  exact .inr ⟨by omega,rfl⟩
theorem yb(d:Nat)(T U:List ak):ah (d+1) (T++U)=ah (d+1) T+ah (d+1) U:=by
 show ((T++U).map _).sum=_
 rw[List.map_append,List.sum_append]; rfl
theorem sH{d:Nat}{T U:List ak}(h:dA (d+1) T)(h':dA (d+1) U):dA (d+1) (T++U):=fun s hs=>(List.mem_append.mp hs).elim (h s) (h' s)
theorem POk.put{gs:List FrX}{x:FrX}{m c:Nat}{st:ak}(I:POk (gs++[x]) m)(h1:dz (bL (9 - gs.length)) st)(h2:nh (dA (9 - gs.length)) st)(h3:aU (ah (9 - gs.length)) st≤c):POk (gs++[{ x with f:=bu x.f st }]) (m+c):=by
 have hl:gs.length≤4:=by have:=I.len; simp at this; omega
 have e10:10 - gs.length=9 - gs.length+1:=by omega
 have hx:=I.ok gs.length x (cF gs x)
 obtain⟨a1,a2⟩:=hx.a
 obtain⟨b1,b2⟩:=hx.b
 have hc:=I.cnt
 rw[ee,Nat.zero_add]at hc
 refine⟨fun k y hy=>?_,?_,by have:=I.len; simpa using this,by simp⟩
 ·rcases gj hy with ⟨hk,hy⟩ | ⟨rfl,rfl⟩
  ·exact I.ok k y (by rw[List.getElem?_append_left hk]; exact hy)
  ·unfold bu
   rw[e10]at a1 a2 b1 b2
   have n1:bL (9 - gs.length+1) (x.f.a++[st]):=m_ a1 h1
   have n2:dA (9 - gs.length+1) (x.f.a++[st]):=sH a2 fun u hu=>by rw[List.mem_singleton.mp hu]; exact h2
   have n3:bL (9 - gs.length+1) (x.f.b++[st]):=m_ b1 h1
   have n4:dA (9 - gs.length+1) (x.f.b++[st]):=sH b2 fun u hu=>by rw[List.mem_singleton.mp hu]; exact h2
   split
   ·rename_i hs
    refine⟨hx.top,hx.hd,by rw[e10]; exact⟨a1,a2⟩,by rw[e10]; exact⟨n3,n4⟩,?_⟩
    rcases hx.sd with z | ⟨z,_⟩
    ·exact .inl z
    ·rw[hs]at z; cases z
   ·refine⟨hx.top,hx.hd,by rw[e10]; exact⟨n1,n2⟩,by rw[e10]; exact⟨b1,b2⟩,?_⟩
    rcases hx.sd with z | ⟨z,z2⟩
    ·exact .inl z
    ·exact .inr ⟨z,z2⟩
 ·rw[ee,Nat.zero_add]
  unfold fu at hc ⊢
  unfold bu
  rw[e10]at hc ⊢
  have hst:ah (9 - gs.length+1) [st]≤c:=by show aU (ah (9 - gs.length)) st+0≤c; omega
  split <;> simp only[yb] <;> omega
theorem POk.drop{gs:List FrX}{x:FrX}{m:Nat}(I:POk (gs++[x]) m)(hg:1≤gs.length):POk gs (m - (ah (10 - gs.length) x.f.a+ah (10 - gs.length) x.f.b+3))∧ah (10 - gs.length) x.f.a+ah (10 - gs.length) x.f.b+3≤m:=by
 have hc:=I.cnt
 rw[ee,Nat.zero_add]at hc
 unfold fu at hc
 rw[if_neg (by omega)]at hc
 exact⟨⟨fun k y hy=>I.ok k y (by rw[List.getElem?_append_left (List.getElem?_eq_some_iff.mp hy).1]; exact hy),by omega,by have:=I.len; simp at this; omega,hg⟩,by omega⟩
theorem xC{k:Nat}{f:pe}(hk:0<k)(hk5:k≤5)(h:yu k f):dz (bL (10 - k)) (fv f)∧nh (dA (10 - k)) (fv f)∧aU (ah (10 - k)) (fv f)≤ah (10 - k) f.a+ah (10 - k) f.b+3:=by
 have hh:=h.hd hk
 have e61:∀ n:Int,n.natAbs<10 ^ 61→n.natAbs.log2<1920:=fun n hn=>by
  by_cases z:n.natAbs=0
  ·rw[z]; decide
  ·have:=(Nat.log2_lt z (k:=1920)).mpr (Nat.lt_trans hn (by decide))
   exact this
 unfold fv
 cases hhd:f.hd with
 | top=>rw[hhd]at hh; exact hh.elim
 | lend x y=>
  rw[hhd]at hh
  exact⟨⟨hh.1.2,hh.2.2,h.a.1⟩,⟨hh.1.1,hh.2.1,h.a.2⟩,by show ah _ f.a+2≤_; omega⟩
 | ite n=>
  rw[hhd]at hh
  exact⟨⟨hh,h.a.1,h.b.1⟩,⟨e61 n hh,h.a.2,h.b.2⟩,Nat.le_refl _⟩
 | whl n=>
  rw[hhd]at hh
  exact⟨⟨hh,h.a.1⟩,⟨e61 n hh,h.a.2⟩,by show ah _ f.a+2≤_; omega⟩
theorem POk.close{gs:List FrX}{g x:FrX}{m:Nat}(I:POk (gs++[g]++[x]) m):POk (gs++[{ g with f:=bu g.f (fv x.f) }]) m:=by
 have hlen:(gs++[g]).length=gs.length+1:=by simp
 have hl5:=I.len
 rw[List.length_append,hlen]at hl5
 simp at hl5
 have hx:=I.ok (gs++[g]).length x (cF _ x)
 rw[hlen]at hx
 obtain⟨m1,m2,m3⟩:=xC (by omega) (by omega) hx
 obtain⟨I2,hle⟩:=I.drop (by rw[hlen]; omega)
 rw[hlen]at I2 hle
 rw[show 10 - (gs.length+1)=9 - gs.length by omega]at m1 m2 m3 I2 hle
 have:=I2.put m1 m2 m3
 rwa [Nat.sub_add_cancel hle]at this
theorem POk.side{gs:List FrX}{x:FrX}{m:Nat}{n:Int}(I:POk (gs++[x]) m)(h:x.f.hd = .ite n):POk (gs++[{ x with f:={ x.f with s:=true } }]) m:=by
 have hx:=I.ok gs.length x (cF gs x)
 refine⟨fun k y hy=>?_,?_,by have:=I.len; simpa using this,by simp⟩
 ·rcases gj hy with ⟨hk,hy⟩ | ⟨rfl,rfl⟩
  ·exact I.ok k y (by rw[List.getElem?_append_left hk]; exact hy)
  ·exact⟨hx.top,hx.hd,hx.a,hx.b,.inl ⟨n,h⟩⟩
 ·have hc:=I.cnt
  rw[ee]at hc ⊢
  exact hc
theorem POk.open{fs:List FrX}{m:Nat}(I:POk fs m)(hl:fs.length≤4){h:w4}(hh:zt h)(fa a1 a2:Addr):POk (fs++[⟨fa,a1,a2,⟨h,[],[],false⟩⟩]) (m+3):=by
 have hp:=I.pos
 have e10:10 - fs.length=9 - fs.length+1:=by omega
 have nl:bL (10 - fs.length) []∧dA (10 - fs.length) []:=by rw[e10]; exact⟨iM _,fun s hs=>by cases hs⟩
 refine⟨fun k y hy=>?_,?_,by simp; omega,by simp⟩
 ·rcases gj hy with ⟨hk,hy⟩ | ⟨rfl,rfl⟩
  ·exact I.ok k y hy
  ·exact⟨fun z=>by omega,fun _=>hh,nl,nl,.inr ⟨rfl,rfl⟩⟩
 ·rw[ee,Nat.zero_add]
  unfold fu
  rw[if_neg (by omega),e10]
  have:=I.cnt
  show fB 0 fs+(0+0+3)≤m+3
  omega
theorem POk.small{fs:List FrX}{m k:Nat}{x:FrX}(I:POk fs m)(e:fs[k]? = some x):x.f.a.length≤m∧x.f.b.length≤m:=by
 have hk:=(List.getElem?_eq_some_iff.mp e).1
 have hl:=I.len
 have w:∀ (fs:List FrX) (j k:Nat) (x:FrX),fs[k]? = some x→fu (j+k) x≤fB j fs:=fun fs=>by
  induction fs with
  | nil=>intro j k x e; simp at e
  | cons y r ih=>
   intro j k x e
   cases k with
   | zero=>cases e; show fu j _≤fu j _+_; omega
   | succ k=>
    have:=ih (j+1) k x (by simpa using e)
    show _≤fu j y+fB (j+1) r
    rw[show j+(k+1)=j+1+k by omega]; omega
 have h:=w fs 0 k x e
 have hc:=I.cnt
 rw[Nat.zero_add]at h
 unfold fu at h
 have ln:∀ (d:Nat) (T:List ak),T.length≤ah (d+1) T:=fun d T=>by
  show T.length≤(T.map (aU (ah d))).sum
  induction T with
  | nil=>exact Nat.le_refl _
  | cons s T ih=>
   rw[List.map_cons,List.sum_cons,List.length_cons]
   have:1≤aU (ah d) s:=by cases s <;> simp[aU]
   omega
 rw[show 10 - k=9 - k+1 by omega]at h
 have:=ln (9 - k) x.f.a
 have:=ln (9 - k) x.f.b
 omega
section
variable{P:Program}{w:World}{K:PySem.W.Frag}{mg:Str→Option Value}{base:Heap}
theorem iO(x:Str):∀ ss:List Str,ii (.str x) (ss.map V.str)=decide (x∈ss)
 | []=>rfl
 | y::ss=>by
  have ih:=iO x ss
  show (dY (.str y) (.str x)||ii (.str x) (ss.map V.str))=_
  rw[ih]
  show ((y == x)||decide (x∈ss))=_
  by_cases h:y=x
  ·subst h; simp
  ·have h2:¬ x=y:=fun z=>h z.symm
   rw[beq_eq_false_iff_ne.mpr h]
   simp[h2]
theorem POk.mono{fs:List FrX}{m n:Nat}(I:POk fs m)(h:m≤n):POk fs n:=⟨I.ok,Nat.le_trans I.cnt h,I.len,I.pos⟩
def Root(a1:Addr)(fs:List FrX):Prop:=∃ x,fs[0]? = some x∧x.a1=a1
theorem Root.set{a1:Addr}{gs:List FrX}{x x':FrX}(h:Root a1 (gs++[x]))(e:x'.a1=x.a1):Root a1 (gs++[x']):=by
 cases gs with
 | nil=>obtain⟨y,hy,ha⟩:=h; cases hy; exact⟨x',rfl,by rw[e]; exact ha⟩
 | cons g gs=>obtain⟨y,hy,ha⟩:=h; exact⟨y,hy,ha⟩
theorem Root.cut{a1:Addr}{gs:List FrX}{x:FrX}(h:Root a1 (gs++[x]))(hg:1≤gs.length):Root a1 gs:=by
 cases gs with
 | nil=>simp at hg
 | cons g gs=>obtain⟨y,hy,ha⟩:=h; exact⟨y,hy,ha⟩
theorem Root.add{a1:Addr}{fs:List FrX}{x:FrX}(h:Root a1 fs):Root a1 (fs++[x]):=by
 cases fs with
 | nil=>obtain⟨y,hy,_⟩:=h; cases hy
 | cons g gs=>obtain⟨y,hy,ha⟩:=h; exact⟨y,hy,ha⟩
theorem PInv.side{H0 H:Hp}{pp:Addr}{gs:List FrX}{x:FrX}{S:Addr→Prop}(I:PInv H0 H pp (gs++[x]) S){ha:Addr}{z:V}(h1:H x.fa=some (.lst [.ref ha,.ref x.a1,.ref x.a2,z])):PInv H0 (upd H x.fa (.lst [.ref ha,.ref x.a1,.ref x.a2,.int 1])) pp (gs++[{ x with f:={ x.f with s:=true } }]) S:=by
 obtain⟨ha',as1,as2,h1',h2,h3,h4,h5,h6⟩:=I.fr gs.length x (cF gs x)
 have eha:ha'=ha:=by rw[h1]at h1'; simp at h1'; exact h1'.1.symm
 subst eha
 have hxm:x∈gs++[x]:=List.mem_append_right _ List.mem_cons_self
 have hnd:=I.nd
 rw[List.nodup_cons,dw,List.nodup_append]at hnd
 have h3n:[x.fa,x.a1,x.a2].Nodup:=hnd.2.2.1
 simp only[List.nodup_cons,List.mem_cons,List.not_mem_nil,or_false,not_or,not_false_eq_true,List.nodup_nil,and_true]at h3n
 obtain⟨⟨n1,n2⟩,n3⟩:=h3n
 have hqS:¬ S x.fa:=I.ns _ (List.mem_cons_of_mem _ (dD hxm).1)
 have kt:∀ b xs,H b=some (.tup xs)→upd H x.fa (.lst [.ref ha',.ref x.a1,.ref x.a2,.int 1]) b=some (.tup xs):=fun b xs y=>by rw[ap (cm y h1 (fun y=>nomatch y))]; exact y
 have kl:∀ b xs,S b→H b=some (.lst xs)→upd H x.fa (.lst [.ref ha',.ref x.a1,.ref x.a2,.int 1]) b=some (.lst xs):=fun b xs hb y=>by rw[ap (pZ hb hqS)]; exact y
 refine I.write (.inl rfl) rfl rfl rfl ⟨ha',as1,as2,ae,kt _ _ h2,?_,?_,b_ kt kl (fun _ z=>z) h5,b_ kt kl (fun _ z=>z) h6⟩
 ·rw[ap (Ne.symm n1)]; exact h3
 ·rw[ap (Ne.symm n2)]; exact h4
def kS:Sp:=fun vs H Q _=>∃ (cp np wp:Addr) (cs:List Int) (nm ws:List Str),vs=[.ref cp,.ref np,.ref wp,.int 3,.int 4]∧H cp=some (.lst (cs.map V.int))∧H np=some (.lst (nm.map V.str))∧H wp=some (.lst (ws.map V.str))∧cs.length≤20∧1≤nm.length∧nm.length≤20∧1≤ws.length∧ws.length≤20∧(∀ x∈nm,dQ x)∧(∀ x∈ws,dQ x)∧
 ∀ (root:Addr) (H':Hp) (S:Addr→Prop) (T:List ak),Same H H'→H root=none→ProgAt S 10 H' root T→bL 10 T→dA 10 T→ah 10 T≤60→Q (.ref root) H'
theorem qL(D:DefAt K mg "_law_program" aE) (z_len:mg "len" = none) (z_int:mg "int" = none) (c_law_step:aQ P w K mg base 1 "_law_step" ["_law_cell", "_law_names", "_law_words_here"] uC) (c_law_put:aQ P w K mg base 1 "_law_put" ["_law_pile", "_law_step_here"] rJ) (c_law_close:aQ P w K mg base 2 "_law_close" ["_law_pile"] pM):aQ P w K mg base 3 "_law_program" ["_law_cells", "_law_names", "_law_words_here", "_law_lends", "_law_deep"] kS:=by
 refine D.cal (k:=2) sc_law_program (fun _ _ _ _ _ _ us hl=>match us,hl with | [_,_,_,_,_],_=>rfl) (fun vs H Q E h=>by obtain⟨_,_,_,_,_,_,rfl,_⟩:=h; rfl) (fun f cdv A outer s0 H vs Q E hr h=>?_)
 obtain⟨cp,np,wp,cs,nm,ws,rfl,hcp,hnp,hwp,hcl,n1,n2,w1,w2,hnm,hws,q⟩:=h
 refine⟨_,(aj (aw 5 sc_law_program.nd (bd (aa (bd (aa (bc (aa ax ac)) (aa (bd ac) (aa (bd ac) (aa ai ac))))) ac)) (hx:=Cb))
   (aj (cA PassesOwn.never rfl (dn K (pv 0 (hv:=Cw))) (bC 6 sc_law_program.nd (hx:=CY)) (aj (aw 7 sc_law_program.nd (aB c_law_step hr (aa (pv 6 (hv:=Ce)) (aa (pv 1 (hv:=CF)) (aa (pv 2 (hv:=Dp)) ac))) (hg:=Dn)) (hx:=CM))
   (am (b6 (bi (yH K) (av (aG K) (pv 7 (hv:=iJ)) ai (fun _ _=>rfl)) (bc (aa ax (aa ax ac))) (by with_unfolding_all rfl)) (am (b6 (PW.pt' (jo (bi lw (bw (aW K) z_len bH (aa (pv 5 (hv:=eG)) ac) (hg:=qv)) ai (bt _)) (jo (bi bY (av (aG K) (pv 7 (hv:=iJ)) ai (fun _ _=>rfl)) ax (bt _)) (jo (bi bY (av (aG K) (av (aG K) (av (aG K) (pv 5 (hv:=eG)) (eK dL ai) (fun _ _=>rfl)) ai (fun _ _=>rfl)) ai (fun _ _=>rfl)) ax (bt _)) (pD (bi bY (av (aG K) (av (aG K) (pv 5 (hv:=eG)) (eK dL ai) (fun _ _=>rfl)) ai (fun _ _=>rfl)) ai (bt _))))))) (am (gK ai (i9 (av (aG K) (pv 5 (hv:=eG)) (eK dL ai) (fun _ _=>rfl)) ai Al))) (am (b6 (bi lw (bw (aW K) z_len bH (aa (pv 5 (hv:=eG)) ac) (hg:=qv)) ai (bt _)) (am (bD (aB c_law_close hr (aa (pv 5 (hv:=eG)) ac) (hg:=zu)))) ci)))) (am (b6 (bi (ub K) (av (aG K) (pv 7 (hv:=iJ)) ai (fun _ _=>rfl)) (bc (aa ax (aa ax (aa ax ac)))) (by with_unfolding_all rfl)) (am (bD (aB c_law_put hr (aa (pv 5 (hv:=eG)) (aa (pv 7 (hv:=iJ)) ac)) (hg:=BK)))) (am (b6 (PW.pt' (jo (bi wH (bw (aW K) z_len bH (aa (pv 5 (hv:=eG)) ac) (hg:=qv)) (pv 4 (hv:=Bx)) (bt _)) (pD (PW.pt' (qx (bi zq (av (aG K) (pv 7 (hv:=iJ)) ai (fun _ _=>rfl)) ax (bt _)) (lP (bi lw (pv 3 (hv:=Ah)) ai (bt _)))))))) (aj (aw 3 sc_law_program.nd (ar jp (pv 3 (hv:=Ah)) (fg kr z_int nB (aa (fJ bY (av (aG K) (pv 7 (hv:=iJ)) ai (fun _ _=>rfl)) ax (bt _)) ac) (hg:=Bj))) (hx:=Ca))
   (am (bD (b5 K PySem.F.plainAttrs_list PySem.F.slot_list_append PySem.F.type_list_append bX (pv 5 (hv:=eG)) (aa (bd (aa (pv 7 (hv:=iJ)) (aa (bd ac) (aa (bd ac) (aa ai ac))))) ac))))) ci))))))))
   (aj (nK PassesOwn.never (bi lw (bw (aW K) z_len bH (aa (pv 5 (hv:=eG)) ac) (hg:=qv)) ai (bt _)) (am (bD (aB c_law_close hr (aa (pv 5 (hv:=eG)) ac) (hg:=zu)))))
   (am (aN (av (aG K) (av (aG K) (pv 5 (hv:=eG)) ai (fun _ _=>rfl)) ai (fun _ _=>rfl))))))),?_⟩
 walk_at "rd1"
 refine⟨by decide,fun th hth=>?_⟩
 have s1:=af hth (.tup [V.str "top"])
 have e1:upd H th (.tup [V.str "top"]) th=some (.tup [V.str "top"]):=ae
 generalize upd H th (.tup [V.str "top"])=H1 at s1 e1 ⊢
 refine⟨by decide,fun a1 ha1=>?_⟩
 have s2:=af ha1 (.lst [])
 have e2:upd H1 a1 (.lst []) a1=some (.lst (([]:List Addr).map V.ref)):=ae
 generalize upd H1 a1 (.lst [])=H2 at s2 e2 ⊢
 refine⟨by decide,fun a2 ha2=>?_⟩
 have s3:=af ha2 (.lst [])
 have e3:upd H2 a2 (.lst []) a2=some (.lst (([]:List Addr).map V.ref)):=ae
 generalize upd H2 a2 (.lst [])=H3 at s3 e3 ⊢
 refine⟨by decide,fun fa hfa=>?_⟩
 have s4:=af hfa (.lst [.ref th,.ref a1,.ref a2,.int 0])
 have e4:upd H3 fa (.lst [.ref th,.ref a1,.ref a2,.int 0]) fa=some (.lst [.ref th,.ref a1,.ref a2,gm false]):=ae
 generalize upd H3 fa (.lst [.ref th,.ref a1,.ref a2,.int 0])=H4 at s4 e4 ⊢
 refine⟨by decide,fun pp hpp=>?_⟩
 have s5:=af hpp (.lst [.ref fa])
 have e5:upd H4 pp (.lst [.ref fa]) pp=some (.lst [.ref fa]):=ae
 generalize upd H4 pp (.lst [.ref fa])=H5 at s5 e5 ⊢
 have s12:=s1.trans s2
 have s13:=s12.trans s3
 have s14:=s13.trans s4
 have s15:=s14.trans s5
 have i1:a1≠a2:=au e2 ha2
 have i2:a1≠fa:=au (s3 _ _ e2) hfa
 have i3:a2≠fa:=au e3 hfa
 have i4:a1≠pp:=au (s4 _ _ (s3 _ _ e2)) hpp
 have i5:a2≠pp:=au (s4 _ _ e3) hpp
 have i6:fa≠pp:=au e4 hpp
 have I0:PInv H H5 pp [⟨fa,a1,a2,⟨.top,[],[],false⟩⟩] (fun _=>False):=by
  refine⟨s15,e5,fun k x hx=>?_,?_,fun b _ z=>z,fun b hb=>?_,fun b z=>z.elim⟩
  ·have hk:k=0:=by have:=(List.getElem?_eq_some_iff.mp hx).1; simp at this; omega
   subst hk
   cases hx
   exact⟨th,[],[],s5 _ _ e4,s5 _ _ (s4 _ _ (s3 _ _ (s2 _ _ e1))),s5 _ _ (s4 _ _ (s3 _ _ e2)),s5 _ _ (s4 _ _ e3),.nil,.nil⟩
  ·show [pp,fa,a1,a2].Nodup
   simp only[List.nodup_cons,List.mem_cons,List.not_mem_nil,or_false,not_or,not_false_eq_true,List.nodup_nil,and_true]
   exact⟨⟨fun e=>i6 e.symm,fun e=>i4 e.symm,fun e=>i5 e.symm⟩,⟨fun e=>i2 e.symm,fun e=>i3 e.symm⟩,i1⟩
  ·have hb':b∈[pp,fa,a1,a2]:=hb
   simp only[List.mem_cons,List.not_mem_nil,or_false]at hb'
   rcases hb' with rfl | rfl | rfl | rfl
   ·exact s14.free hpp
   ·exact s13.free hfa
   ·exact s1.free ha1
   ·exact s12.free ha2
 have O0:POk [⟨fa,a1,a2,⟨.top,[],[],false⟩⟩] (3 * 0):=by
  refine⟨fun k x hx=>?_,Nat.le_refl _,by simp,by simp⟩
  have hk:k=0:=by have:=(List.getElem?_eq_some_iff.mp hx).1; simp at this; omega
  subst hk
  cases hx
  exact⟨fun _=>rfl,fun z=>absurd z (by decide),⟨iM 9,fun s hs=>by cases hs⟩,⟨iM 9,fun s hs=>by cases hs⟩,.inr ⟨rfl,rfl⟩⟩
 walk_at "nx"
 refine⟨⟨_,SqL.of (s15 _ _ hcp)⟩,?_⟩
 refine cR (xs:=cs.map V.int) (fun i σ H'=>∃ (le:Int) (o6 o7:Option V) (fs:List FrX) (S:Addr→Prop),σ=[some (.ref cp),some (.ref np),some (.ref wp),some (.int le),some (.int 4),some (.ref pp),o6,o7]∧PInv H H' pp fs S∧POk fs (3 * i)∧Root a1 fs)
  ⟨3,none,none,_,_,rfl,I0,O0,_,rfl,rfl⟩ (fun i σ H' _ hh=>by obtain⟨_,_,_,_,_,_,I,_⟩:=hh; exact SqL.of (I.sm _ _ hcp)) ?_ ?_
 ·rintro i v σ H6 hv ⟨le,o6,o7,fs,S,rfl,I,O,hroot⟩
  have hi:i<cs.length:=by have:=(List.getElem?_eq_some_iff.mp hv).1; simpa using this
  rw[List.getElem?_map,List.getElem?_eq_getElem hi]at hv
  cases hv
  walk_at "rd1"
  refine⟨cs[i],np,wp,nm,ws,rfl,I.sm _ _ hnp,I.sm _ _ hwp,n1,n2,w1,w2,hnm,hws,fun t H7 v s7 et hk=>?_⟩
  have I7:=I.alloc s7
  walk_at "nx"
  have fin:∀ {H':Hp} {le:Int} {o6 o7:Option V} {fs':List FrX} {S':Addr→Prop},PInv H H' pp fs' S'→POk fs' (3 * i+3)→Root a1 fs'→∃ (le':Int) (p6 p7:Option V) (fs:List FrX) (S:Addr→Prop),[some (V.ref cp),some (.ref np),some (.ref wp),some (.int le),some (.int 4),some (.ref pp),o6,o7]=[some (.ref cp),some (.ref np),some (.ref wp),some (.int le'),some (.int 4),some (.ref pp),p6,p7]∧PInv H H' pp fs S∧POk fs (3 * (i+1))∧Root a1 fs:=fun I' O' R'=>⟨_,_,_,_,_,rfl,I',O',R'⟩
  have hfne:fs≠[]:=fun z=>by have:=O.pos; rw[z]at this; simp at this
  obtain⟨gs,x,rfl⟩ : ∃ gs x,fs=gs++[x]:=⟨fs.dropLast,fs.getLast hfne,(List.dropLast_concat_getLast hfne).symm⟩
  have hxk:=O.ok gs.length x (cF gs x)
  have hxs:=O.small (cF gs x)
  have hglen:=O.len
  rw[List.length_append,List.length_cons,List.length_nil]at hglen
  have hvh:∃ (g:Str) (u:List V),v = .str g::u:=by cases hk <;> first | exact⟨_,_,rfl⟩ | (rename_i px _ _; cases px <;> exact⟨_,_,rfl⟩)
  obtain⟨gh,u,hv⟩:=hvh
  have hat:cu v 0=some (.str gh):=by rw[hv]; exact cG
  refine⟨_,_,.inr (SqT.of et),hat,by decide,fun p1 hp1=>?_⟩
  have s8:=af hp1 (.tup [V.str "other", V.str "close"])
  have e8:upd H7 p1 (.tup [V.str "other", V.str "close"]) p1=some (.tup ((["other", "close"]:List Str).map V.str)):=ae
  generalize upd H7 p1 (.tup [V.str "other", V.str "close"])=H8 at s8 e8 ⊢
  have I8:=I7.alloc s8
  have et8:=s8 _ _ et
  refine⟨_,.inr (SqT.of e8),rfl,rfl,?_⟩
  rw[iO]
  have plen:(((gs++[x]).map fun x=>V.ref x.fa).length:Int)=(gs.length:Int)+1:=by simp
  refine ck (fun c1=>?_) (fun c1=>?_)
  ·have hoc:gh = "other" ∨ gh = "close" := by have:=of_decide_eq_true c1; simpa only[List.mem_cons,List.not_mem_nil,or_false] using this
   refine⟨_,.inl (SqL.of I8.pile),?_⟩
   rw[plen]
   refine ck (fun c2=>?_) (fun c2=>?_)
   ·have hgne:gs≠[]:=fun z=>by rw[z]at c2; simp at c2
    refine⟨_,_,.inr (SqT.of et8),hat,?_⟩
    walk_at "rd1"
    obtain⟨ha,as1,as2,h1,h2,h3,h4,h5,h6⟩:=I8.fr gs.length x (cF gs x)
    rcases hoc with rfl | rfl
    ·rw[if_pos rfl]
     refine⟨_,_,.inl (SqL.of I8.pile),eD,?_⟩
     walk_at "rd1"
     refine⟨_,_,.inl (SqL.of h1),cG,?_⟩
     walk_at "rd1"
     cases hhd:x.f.hd with
     | top=>
      have:=hxk.hd (by cases gs with | nil=>exact absurd rfl hgne | cons _ _=>simp)
      rw[hhd]at this; exact this.elim
     | lend y1 y2=>
      rw[hhd]at h2
      refine⟨_,_,.inr (SqT.of h2),(show cu (cX (.lend y1 y2)) 0=some (.str "lend") from cG),?_⟩
      walk_at "rd1"
      rw[if_neg (by decide +kernel)]
      refine⟨_,.inl (SqL.of I8.pile),?_⟩
      rw[plen,if_pos c2]
      obtain⟨hs2,g,rfl⟩ : ∃ hs2 g,gs=hs2++[g]:=⟨gs.dropLast,gs.getLast hgne,(List.dropLast_concat_getLast hgne).symm⟩
      have hgs:=O.small (k:=hs2.length) (x:=g) (by rw[List.append_assoc,List.getElem?_append_right (Nat.le_refl _),Nat.sub_self]; rfl)
      have hl5:=O.len
      simp at hl5
      refine⟨pp,H,hs2,g,x,S,rfl,I8,fun z=>by
       have:=hxk.hd (by simp)
       rw[z]at this; exact this,by omega,by omega,by omega,fun H9 S9 I9=>?_⟩
      exact fin I9 (O.close.mono (by omega)) ((hroot.cut (by simp)).set rfl)
     | whl n=>
      rw[hhd]at h2
      refine⟨_,_,.inr (SqT.of h2),(show cu (cX (.whl n)) 0=some (.str "while") from cG),?_⟩
      walk_at "rd1"
      rw[if_neg (by decide +kernel)]
      refine⟨_,.inl (SqL.of I8.pile),?_⟩
      rw[plen,if_pos c2]
      obtain⟨hs2,g,rfl⟩ : ∃ hs2 g,gs=hs2++[g]:=⟨gs.dropLast,gs.getLast hgne,(List.dropLast_concat_getLast hgne).symm⟩
      have hgs:=O.small (k:=hs2.length) (x:=g) (by rw[List.append_assoc,List.getElem?_append_right (Nat.le_refl _),Nat.sub_self]; rfl)
      have hl5:=O.len
      simp at hl5
      refine⟨pp,H,hs2,g,x,S,rfl,I8,fun z=>by
       have:=hxk.hd (by simp)
       rw[z]at this; exact this,by omega,by omega,by omega,fun H9 S9 I9=>?_⟩
      exact fin I9 (O.close.mono (by omega)) ((hroot.cut (by simp)).set rfl)
     | ite n=>
      rw[hhd]at h2
      refine⟨_,_,.inr (SqT.of h2),(show cu (cX (.ite n)) 0=some (.str "if") from cG),?_⟩
      walk_at "rd1"
      refine⟨_,_,.inl (SqL.of I8.pile),eD,?_⟩
      walk_at "rd1"
      refine⟨_,_,.inl (SqL.of h1),aX (j:=3) rfl,?_⟩
      cases hs:x.f.s with
      | true=>
       rw[show gm true=V.int 1 from rfl]
       walk_at "rd1"
       rw[if_neg (by decide)]
       refine⟨_,.inl (SqL.of I8.pile),?_⟩
       rw[plen,if_pos c2]
       obtain⟨hs2,g,rfl⟩ : ∃ hs2 g,gs=hs2++[g]:=⟨gs.dropLast,gs.getLast hgne,(List.dropLast_concat_getLast hgne).symm⟩
       have hgs:=O.small (k:=hs2.length) (x:=g) (by rw[List.append_assoc,List.getElem?_append_right (Nat.le_refl _),Nat.sub_self]; rfl)
       have hl5:=O.len
       simp at hl5
       refine⟨pp,H,hs2,g,x,S,rfl,I8,fun z=>by
        have:=hxk.hd (by simp)
        rw[z]at this; exact this,by omega,by omega,by omega,fun H9 S9 I9=>?_⟩
       exact fin I9 (O.close.mono (by omega)) ((hroot.cut (by simp)).set rfl)
      | false=>
       rw[show gm false=V.int 0 from rfl]
       walk_at "rd1"
       refine⟨_,_,.inl (SqL.of I8.pile),eD,?_⟩
       walk_at "rd1"
       refine⟨_,3,h1,rfl,?_⟩
       exact fin (I8.side h1) ((O.side hhd).mono (by omega)) (hroot.set rfl)
    ·rw[if_neg (by decide +kernel)]
     refine⟨_,.inl (SqL.of I8.pile),?_⟩
     rw[plen,if_pos c2]
     obtain⟨hs2,g,rfl⟩ : ∃ hs2 g,gs=hs2++[g]:=⟨gs.dropLast,gs.getLast hgne,(List.dropLast_concat_getLast hgne).symm⟩
     have hgs:=O.small (k:=hs2.length) (x:=g) (by rw[List.append_assoc,List.getElem?_append_right (Nat.le_refl _),Nat.sub_self]; rfl)
     have hl5:=O.len
     simp at hl5
     refine⟨pp,H,hs2,g,x,S,rfl,I8,fun z=>by
      have:=hxk.hd (by simp)
      rw[z]at this; exact this,by omega,by omega,by omega,fun H9 S9 I9=>?_⟩
     exact fin I9 (O.close.mono (by omega)) ((hroot.cut (by simp)).set rfl)
   ·refine⟨_,.inl (SqL.of I8.pile),?_⟩
    rw[plen,if_neg c2]
    exact fin I8 (O.mono (by omega)) hroot
  ·have hoc:gh∉(["other", "close"]:List Str):=fun z=>c1 (decide_eq_true z)
   walk_at "rd1"
   refine⟨_,_,.inr (SqT.of et8),hat,by decide,fun p2 hp2=>?_⟩
   have s9:=af hp2 (.tup [V.str "lend", V.str "if", V.str "while"])
   have e9:upd H8 p2 (.tup [V.str "lend", V.str "if", V.str "while"]) p2=some (.tup ((["lend", "if", "while"]:List Str).map V.str)):=ae
   generalize upd H8 p2 (.tup [V.str "lend", V.str "if", V.str "while"])=H9 at s9 e9 ⊢
   have I9:=I8.alloc s9
   have et9:=s9 _ _ et8
   refine⟨_,.inr (SqT.of e9),rfl,rfl,?_⟩
   rw[iO]
   cases hk with
   | plain ws' px pw hfr=>
    have hgh:ws'.headD "" = gh:=by cases px <;> (cases hv; rfl)
    have hni:gh∉(["lend", "if", "while"]:List Str):=by
     rw[← hgh]
     rcases fD px with h | h | h | h | h <;> rw[h] <;> decide +kernel
    rw[decide_eq_false hni,if_pos (by decide)]
    refine⟨pp,t,H,gs,x,S,.plain ws',rfl,I9,et9,by omega,by omega,by omega,fun H10 I10=>?_⟩
    exact fin I10 ((O.put (st:=.plain ws') (c:=1) ⟨px,hfr⟩ pw (Nat.le_refl _)).mono (by omega)) (hroot.set rfl)
   | lend y1 y2 k1 k2=>
    cases hv
    rw[decide_eq_true (by decide +kernel),if_neg (by decide)]
    refine⟨_,.inl (SqL.of I9.pile),?_⟩
    rw[plen]
    refine ck (fun c3=>?_) (fun c3=>?_)
    ·refine⟨_,_,.inr (SqT.of et9),hat,?_⟩
     walk_at "rd1"
     rw[if_neg (by simp)]
     refine ck (fun c4=>?_) (fun c4=>?_)
     ·refine⟨_,_,.inr (SqT.of et9),hat,?_⟩
      walk_at "rd1"
      walk_at "nx"
      refine⟨⟨_,SqL.of I9.pile⟩,by decide,fun b1 hb1=>?_⟩
      have s10:=af hb1 (.lst [])
      have f1:upd H9 b1 (.lst []) b1=some (.lst (([]:List Addr).map V.ref)):=ae
      generalize upd H9 b1 (.lst [])=H10 at s10 f1 ⊢
      refine⟨by decide,fun b2 hb2=>?_⟩
      have s11:=af hb2 (.lst [])
      have f2:upd H10 b2 (.lst []) b2=some (.lst (([]:List Addr).map V.ref)):=ae
      generalize upd H10 b2 (.lst [])=H11 at s11 f2 ⊢
      refine⟨by decide,fun fb hfb=>?_⟩
      have s12:=af hfb (.lst [.ref t,.ref b1,.ref b2,.int 0])
      have f3:upd H11 fb (.lst [.ref t,.ref b1,.ref b2,.int 0]) fb=some (.lst [.ref t,.ref b1,.ref b2,gm false]):=ae
      generalize upd H11 fb (.lst [.ref t,.ref b1,.ref b2,.int 0])=H12 at s12 f3 ⊢
      have I10:=I9.alloc s10
      have I11:=I10.alloc s11
      have I12:=I11.alloc s12
      have j1:b1≠b2:=au f1 hb2
      have j2:b1≠fb:=au (s11 _ _ f1) hfb
      have j3:b2≠fb:=au f2 hfb
      refine⟨_,I12.pile,by rw[List.length_map,List.length_append]; exact ce (by simp; omega),?_⟩
      refine fin (I12.push (x:=⟨fb,b1,b2,⟨.lend y1 y2,[],[],false⟩⟩) ⟨t,[],[],f3,(s10.trans (s11.trans s12)) _ _ et9,(s11.trans s12) _ _ f1,s12 _ _ f2,.nil,.nil⟩ ?_ ?_) (O.open (h:=.lend y1 y2) (by simp; omega) ⟨k1,k2⟩ fb b1 b2) hroot.add
      ·show [fb,b1,b2].Nodup
       simp only[List.nodup_cons,List.mem_cons,List.not_mem_nil,or_false,not_or,not_false_eq_true,List.nodup_nil,and_true]
       exact⟨⟨fun e=>j2 e.symm,fun e=>j3 e.symm⟩,j1⟩
      ·intro b hb
       have hb':b∈[fb,b1,b2]:=hb
       simp only[List.mem_cons,List.not_mem_nil,or_false]at hb'
       rcases hb' with rfl | rfl | rfl
       ·exact⟨I11.notop hfb,(I11.free hfb).2,(I11.free hfb).1⟩
       ·exact⟨I9.notop hb1,(I9.free hb1).2,(I9.free hb1).1⟩
       ·exact⟨I10.notop hb2,(I10.free hb2).2,(I10.free hb2).1⟩
     ·exact fin I9 (O.mono (by omega)) hroot
    ·exact fin I9 (O.mono (by omega)) hroot
   | ite n k1=>
    cases hv
    rw[decide_eq_true (by decide +kernel),if_neg (by decide)]
    refine⟨_,.inl (SqL.of I9.pile),?_⟩
    rw[plen]
    refine ck (fun c3=>?_) (fun c3=>?_)
    ·refine⟨_,_,.inr (SqT.of et9),hat,?_⟩
     walk_at "rd1"
     rw[if_pos (by decide +kernel)]
     refine⟨_,_,.inr (SqT.of et9),hat,?_⟩
     walk_at "rd1"
     walk_at "nx"
     refine⟨⟨_,SqL.of I9.pile⟩,by decide,fun b1 hb1=>?_⟩
     have s10:=af hb1 (.lst [])
     have f1:upd H9 b1 (.lst []) b1=some (.lst (([]:List Addr).map V.ref)):=ae
     generalize upd H9 b1 (.lst [])=H10 at s10 f1 ⊢
     refine⟨by decide,fun b2 hb2=>?_⟩
     have s11:=af hb2 (.lst [])
     have f2:upd H10 b2 (.lst []) b2=some (.lst (([]:List Addr).map V.ref)):=ae
     generalize upd H10 b2 (.lst [])=H11 at s11 f2 ⊢
     refine⟨by decide,fun fb hfb=>?_⟩
     have s12:=af hfb (.lst [.ref t,.ref b1,.ref b2,.int 0])
     have f3:upd H11 fb (.lst [.ref t,.ref b1,.ref b2,.int 0]) fb=some (.lst [.ref t,.ref b1,.ref b2,gm false]):=ae
     generalize upd H11 fb (.lst [.ref t,.ref b1,.ref b2,.int 0])=H12 at s12 f3 ⊢
     have I10:=I9.alloc s10
     have I11:=I10.alloc s11
     have I12:=I11.alloc s12
     have j1:b1≠b2:=au f1 hb2
     have j2:b1≠fb:=au (s11 _ _ f1) hfb
     have j3:b2≠fb:=au f2 hfb
     refine⟨_,I12.pile,by rw[List.length_map,List.length_append]; exact ce (by simp; omega),?_⟩
     refine fin (I12.push (x:=⟨fb,b1,b2,⟨.ite n,[],[],false⟩⟩) ⟨t,[],[],f3,(s10.trans (s11.trans s12)) _ _ et9,(s11.trans s12) _ _ f1,s12 _ _ f2,.nil,.nil⟩ ?_ ?_) (O.open (h:=.ite n) (by simp; omega) k1 fb b1 b2) hroot.add
     ·show [fb,b1,b2].Nodup
      simp only[List.nodup_cons,List.mem_cons,List.not_mem_nil,or_false,not_or,not_false_eq_true,List.nodup_nil,and_true]
      exact⟨⟨fun e=>j2 e.symm,fun e=>j3 e.symm⟩,j1⟩
     ·intro b hb
      have hb':b∈[fb,b1,b2]:=hb
      simp only[List.mem_cons,List.not_mem_nil,or_false]at hb'
      rcases hb' with rfl | rfl | rfl
      ·exact⟨I11.notop hfb,(I11.free hfb).2,(I11.free hfb).1⟩
      ·exact⟨I9.notop hb1,(I9.free hb1).2,(I9.free hb1).1⟩
      ·exact⟨I10.notop hb2,(I10.free hb2).2,(I10.free hb2).1⟩
    ·exact fin I9 (O.mono (by omega)) hroot
   | whl n k1=>
    cases hv
    rw[decide_eq_true (by decide +kernel),if_neg (by decide)]
    refine⟨_,.inl (SqL.of I9.pile),?_⟩
    rw[plen]
    refine ck (fun c3=>?_) (fun c3=>?_)
    ·refine⟨_,_,.inr (SqT.of et9),hat,?_⟩
     walk_at "rd1"
     rw[if_pos (by decide +kernel)]
     refine⟨_,_,.inr (SqT.of et9),hat,?_⟩
     walk_at "rd1"
     walk_at "nx"
     refine⟨⟨_,SqL.of I9.pile⟩,by decide,fun b1 hb1=>?_⟩
     have s10:=af hb1 (.lst [])
     have f1:upd H9 b1 (.lst []) b1=some (.lst (([]:List Addr).map V.ref)):=ae
     generalize upd H9 b1 (.lst [])=H10 at s10 f1 ⊢
     refine⟨by decide,fun b2 hb2=>?_⟩
     have s11:=af hb2 (.lst [])
     have f2:upd H10 b2 (.lst []) b2=some (.lst (([]:List Addr).map V.ref)):=ae
     generalize upd H10 b2 (.lst [])=H11 at s11 f2 ⊢
     refine⟨by decide,fun fb hfb=>?_⟩
     have s12:=af hfb (.lst [.ref t,.ref b1,.ref b2,.int 0])
     have f3:upd H11 fb (.lst [.ref t,.ref b1,.ref b2,.int 0]) fb=some (.lst [.ref t,.ref b1,.ref b2,gm false]):=ae
     generalize upd H11 fb (.lst [.ref t,.ref b1,.ref b2,.int 0])=H12 at s12 f3 ⊢
     have I10:=I9.alloc s10
     have I11:=I10.alloc s11
     have I12:=I11.alloc s12
     have j1:b1≠b2:=au f1 hb2
     have j2:b1≠fb:=au (s11 _ _ f1) hfb
     have j3:b2≠fb:=au f2 hfb
     refine⟨_,I12.pile,by rw[List.length_map,List.length_append]; exact ce (by simp; omega),?_⟩
     refine fin (I12.push (x:=⟨fb,b1,b2,⟨.whl n,[],[],false⟩⟩) ⟨t,[],[],f3,(s10.trans (s11.trans s12)) _ _ et9,(s11.trans s12) _ _ f1,s12 _ _ f2,.nil,.nil⟩ ?_ ?_) (O.open (h:=.whl n) (by simp; omega) k1 fb b1 b2) hroot.add
     ·show [fb,b1,b2].Nodup
      simp only[List.nodup_cons,List.mem_cons,List.not_mem_nil,or_false,not_or,not_false_eq_true,List.nodup_nil,and_true]
      exact⟨⟨fun e=>j2 e.symm,fun e=>j3 e.symm⟩,j1⟩
     ·intro b hb
      have hb':b∈[fb,b1,b2]:=hb
      simp only[List.mem_cons,List.not_mem_nil,or_false]at hb'
      rcases hb' with rfl | rfl | rfl
      ·exact⟨I11.notop hfb,(I11.free hfb).2,(I11.free hfb).1⟩
      ·exact⟨I9.notop hb1,(I9.free hb1).2,(I9.free hb1).1⟩
      ·exact⟨I10.notop hb2,(I10.free hb2).2,(I10.free hb2).1⟩
    ·exact fin I9 (O.mono (by omega)) hroot
   | other=>cases hv; exact absurd (by decide +kernel) hoc
   | close=>cases hv; exact absurd (by decide +kernel) hoc
 ·rintro σ H6 ⟨le,o6,o7,fs,S,rfl,I,O,hroot⟩
  rw[List.length_map]at O
  walk_at "nx"
  refine⟨fun m σ H'=>∃ (fs:List FrX) (S:Addr→Prop),σ=[some (.ref cp),some (.ref np),some (.ref wp),some (.int le),some (.int 4),some (.ref pp),o6,o7]∧PInv H H' pp fs S∧POk fs (3 * cs.length)∧Root a1 fs∧fs.length=m,⟨_,fs,S,rfl,I,O,hroot,rfl⟩,?_⟩
  clear I O hroot
  rintro m σ H7 ⟨fs,S,rfl,I,O,hroot,hm⟩
  have hfne:fs≠[]:=fun z=>by have:=O.pos; rw[z]at this; simp at this
  obtain⟨gs,x,rfl⟩ : ∃ gs x,fs=gs++[x]:=⟨fs.dropLast,fs.getLast hfne,(List.dropLast_concat_getLast hfne).symm⟩
  have hxk:=O.ok gs.length x (cF gs x)
  have hxs:=O.small (cF gs x)
  have plen:(((gs++[x]).map fun x=>V.ref x.fa).length:Int)=(gs.length:Int)+1:=by simp
  walk_at "rd1"
  refine⟨_,.inl (SqL.of I.pile),?_⟩
  rw[plen]
  refine ck (fun c2=>?_) (fun c2=>?_)
  ·have hgne:gs≠[]:=fun z=>by rw[z]at c2; simp at c2
   obtain⟨hs2,g,rfl⟩ : ∃ hs2 g,gs=hs2++[g]:=⟨gs.dropLast,gs.getLast hgne,(List.dropLast_concat_getLast hgne).symm⟩
   have hgs:=O.small (k:=hs2.length) (x:=g) (by rw[List.append_assoc,List.getElem?_append_right (Nat.le_refl _),Nat.sub_self]; rfl)
   have hl5:=O.len
   simp at hl5 hm
   refine⟨fun σ' H'=>∃ (fs:List FrX) (S:Addr→Prop),σ'=[some (.ref cp),some (.ref np),some (.ref wp),some (.int le),some (.int 4),some (.ref pp),o6,o7]∧PInv H H' pp fs S∧POk fs (3 * cs.length)∧Root a1 fs∧fs.length=hs2.length+1,fun σ' H' z=>⟨hs2.length+1,by omega,z⟩,?_⟩
   refine⟨pp,H,hs2,g,x,S,rfl,I,fun z=>by
    have:=hxk.hd (by simp)
    rw[z]at this; exact this,by omega,by omega,by omega,fun H9 S9 I9=>?_⟩
   exact⟨_,S9,rfl,I9,O.close,(hroot.cut (by simp)).set rfl,by simp⟩
  ·have hg0:gs=[]:=List.eq_nil_of_length_eq_zero (by omega)
   subst hg0
   obtain⟨ha,as1,as2,h1,h2,h3,h4,h5,h6⟩:=I.fr 0 x rfl
   obtain⟨y,hy,hya⟩:=hroot
   cases hy
   walk_at "nx"
   refine⟨_,_,.inl (SqL.of I.pile),cG,?_⟩
   walk_at "rd1"
   refine⟨_,_,.inl (SqL.of h1),aX (j:=1) rfl,?_⟩
   have hc:=O.cnt
   have hw:fu 0 x+0≤3 * cs.length:=hc
   unfold fu at hw
   refine q x.a1 H7 (fun b=>S b∨b=x.a1) x.f.a I.sm (I.nw _ (List.mem_cons_of_mem _ (dD (fs:=[]++[x]) (x:=x) (by simp)).2.1)) ⟨.inr rfl,as1,h3,b_ (fun _ _ z=>z) (fun _ _ _ z=>z) (fun _ z=>.inl z) h5⟩ hxk.a.1 hxk.a.2 (by simp at hw; omega)
end
def Far(R:List aK)(a n:Nat):Prop:=∀ i,a≤i→i<a+n→∀ (l m:V) (j:Nat),R[i]? = some [.str "test", l,m,iN j]→i+1<j
theorem Far.nil{R:List aK}{a:Nat}:Far R a 0:=fun i h1 h2=>by omega
theorem Far.app{R:List aK}{a n m:Nat}(h:Far R a n)(k:Far R (a+n) m):Far R a (n+m):=fun i h1 h2=>by
 by_cases c:i<a+n
 ·exact h i h1 c
 ·exact k i (by omega) (by omega)
theorem Far.pln{R:List aK}{a:Nat}{r:aK}(e:R[a]? = some r)(p:gM r):Far R a 1:=fun i h1 h2 l m j e2=>by
 rw[show i=a by omega,e]at e2
 cases e2
 have:=p.2.1 0
 rw[oA]at this
 simp at this
theorem Far.jmp{R:List aK}{a:Nat}{v w:V}(e:R[a]? = some [.str "jump", v,w]):Far R a 1:=fun i h1 h2 l m j e2=>by
 rw[show i=a by omega,e]at e2
 simp at e2
theorem Far.tst{R:List aK}{a k:Nat}{v w:V}(e:R[a]? = some [.str "test", v,w,iN k]) (h:a+1<k):Far R a 1:=fun i h1 h2 l m j e2=>by
 have hi:i=a:=by omega
 subst hi
 rw[e]at e2
 have e3:=Option.some.inj e2
 simp only[List.cons.injEq,and_true,true_and]at e3
 have:=Int.ofNat.inj (V.int.inj e3.2.2)
 omega
theorem Far.three{R:List aK}{a:Nat}{r1 r2 r3:aK}(s:SitsR R [r1,r2,r3] a)(p1:gM r1)(p2:gM r2)(p3:gM r3):Far R a 3:=((Far.pln s.c0 p1).app (Far.pln s.cs.c0 p2)).app (Far.pln s.cs.cs.c0 p3)
theorem pP(kv:List (aA × V))(R:List aK):∀ (d:Nat) (t:Bool) (a l:Nat) (T:List ak),bL d T→SitsR R (ao kv d t a l T) a→Far R a (ao kv d t a l T).length
 | 0,_,_,_,_,h,_=>h.elim
 | d+1,t,a,l,T,hf,hs=>by
  have ih:=pP kv R d
  have st:∀ (s:ak) (a l:Nat),dz (bL d) s→SitsR R (bO kv (ao kv d) (ah d) t a l s) a→Far R a (bO kv (ao kv d) (ah d) t a l s).length:=fun s a l hq hS=>by
   cases s with
   | plain ws=>exact Far.pln (SitsR.one hS) (i8 hq.1)
   | lend x y b=>
    have hS':SitsR R (_++_++_) a:=hS
    have A1:Far R a 3:=Far.three hS'.left.left (cI (by decide +kernel)) (cI (by decide +kernel)) (cI (by decide +kernel))
    have A2:=ih t (a+3) (l+1) b hq.2.2 hS'.left.right
    have hS3:=hS'.right
    rw[List.length_append,← Nat.add_assoc]at hS3
    have A3:Far R (a+3+(ao kv d t (a+3) (l+1) b).length) 3:=Far.three hS3 (cI (by decide +kernel)) (cI (by decide +kernel)) (cI (by decide +kernel))
    have e:(bO kv (ao kv d) (ah d) t a l (.lend x y b)).length=3+((ao kv d t (a+3) (l+1) b).length+3):=by
     show (df kv (ao kv d) (ah d) t a l x y b).length=_
     unfold df; simp only[List.length_append,List.length_cons,List.length_nil]; omega
    rw[e]; exact A1.app (A2.app A3)
   | ite n b c=>
    have hS':SitsR R (eC (ao kv d) (ah d) t a l n b c) a:=hS
    show Far R a (eC (ao kv d) (ah d) t a l n b c).length
    unfold eC at hS' ⊢
    generalize hb:ao kv d t (a+1) (l+1) b=B at hS' ⊢
    generalize hc:ao kv d t (a+1+B.length+1) (l+1+ah d b+1) c=C at hS' ⊢
    have s0:=hS'.left.left.left.one
    have A1:=ih t (a+1) (l+1) b hq.2.1 (by rw[hb]; exact hS'.left.left.right)
    rw[hb]at A1
    have sj:=hS'.left.right.one
    simp only[List.length_append,List.length_cons,List.length_nil,Nat.zero_add]at sj
    rw[← Nat.add_assoc]at sj
    have sC:=hS'.right
    simp only[List.length_append,List.length_cons,List.length_nil,Nat.zero_add]at sC
    rw[show a+(1+B.length+1)=a+1+B.length+1 by omega]at sC
    have A2:=ih t _ _ c hq.2.2 (by rw[hc]; exact sC)
    rw[hc]at A2
    have:=(Far.tst s0 (by omega)).app (A1.app ((Far.jmp sj).app A2))
    simp only[List.length_append,List.length_cons,List.length_nil]
    rw[show 0+1+B.length+(0+1)+C.length=1+(B.length+(1+C.length)) by omega]; exact this
   | whl n b=>
    have lp:∀ a:Nat,SitsR R (cC (ao kv d) (ah d) a l n b) a→Far R a (cC (ao kv d) (ah d) a l n b).length:=fun a hS=>by
     unfold cC at hS ⊢
     generalize hb:ao kv d false (a+1) (l+1) b=B at hS ⊢
     have s0:=hS.left.left.one
     have A1:=ih false (a+1) (l+1) b hq.2 (by rw[hb]; exact hS.left.right)
     rw[hb]at A1
     have sj:=hS.right.one
     simp only[List.length_append,List.length_cons,List.length_nil,Nat.zero_add]at sj
     rw[← Nat.add_assoc]at sj
     have:=(Far.tst s0 (by omega)).app (A1.app (Far.jmp sj))
     simp only[List.length_append,List.length_cons,List.length_nil]
     rw[show 0+1+B.length+(0+1)=1+(B.length+1) by omega]; exact this
    have hS':SitsR R (bZ (ao kv d) (ah d) t a l n b) a:=hS
    show Far R a (bZ (ao kv d) (ah d) t a l n b).length
    unfold bZ at hS' ⊢
    cases t with
    | false=>rw[if_neg (by decide)]at hS' ⊢; exact lp a hS'
    | true=>
     rw[if_pos rfl]at hS' ⊢
     have hll:=fT (f:=ao kv d) (cnt:=ah d) (a:=a+1+(ao kv d true (a+1) (l+1) b).length) (l:=l) (n:=n) (b:=b)
     generalize hb:ao kv d true (a+1) (l+1) b=B at hS' hll ⊢
     have s0:=hS'.left.left.one
     have A1:=ih true (a+1) (l+1) b hq.2 (by rw[hb]; exact hS'.left.right)
     rw[hb]at A1
     have sL:=hS'.right
     simp only[List.length_append,List.length_cons,List.length_nil,Nat.zero_add]at sL
     rw[← Nat.add_assoc]at sL
     have A2:=lp _ sL
     have:=(Far.tst s0 (by omega)).app (A1.app A2)
     rw[List.length_append,List.length_append,Nat.add_assoc]; exact this
  have go:∀ (T:List ak) (a l:Nat),(∀ s∈T,dz (bL d) s)→SitsR R (bK (bO kv (ao kv d) (ah d) t) (aU (ah d)) a l T) a→Far R a (bK (bO kv (ao kv d) (ah d) t) (aU (ah d)) a l T).length:=fun T=>by
   induction T with
   | nil=>intro a l _ _; exact Far.nil
   | cons s T ihT=>
    intro a l hf hs
    have hs':SitsR R (bO kv (ao kv d) (ah d) t a l s++bK _ _ _ _ T) a:=hs
    have A1:=st s a l (hf s List.mem_cons_self) hs'.left
    have A2:=ihT _ _ (fun s hs=>hf s (List.mem_cons_of_mem _ hs)) hs'.right
    show Far R a (bO kv (ao kv d) (ah d) t a l s++bK _ _ _ _ T).length
    rw[List.length_append]; exact A1.app A2
  exact go T a l hf hs
structure qO (R:List aK):Prop where
 sh:∀ r∈R,zW R r
 far:∀ i (l m:V) (j:Nat),R[i]? = some [.str "test", l,m,iN j]→i+1<j
 rch:∀ i,i<R.length→Rch R i
 nx:∀ i r,R[i]? = some r→∀ j∈dB i r,j<R.length
 len:R.length≤40000
theorem wv{NM:List Str}{d:Nat}{t:Bool}{T:List ak}(hf:bL d T)(hc:ah d T≤200)(hd:d≤20):qO (bN NM d t T):=by
 have sit:SitsR (bN NM d t T) (ao (dh (bM NM (cJ d T))) d t 0 0 T) 0:=fun i r e=>by
  rw[Nat.zero_add]; unfold bN
  rw[List.getElem?_append_left (List.getElem?_eq_some_iff.mp e).1]; exact e
 have hlen:(bN NM d t T).length=(ao (dh (bM NM (cJ d T))) d t 0 0 T).length+1:=by unfold bN; rw[List.length_append]; rfl
 have hl3:=cO (kv:=dh (bM NM (cJ d T))) (a:=0) (l:=0) (t:=t) hc hd
 have fa:=pP (dh (bM NM (cJ d T))) (bN NM d t T) d t 0 0 T hf sit
 have el:(bN NM d t T)[(ao (dh (bM NM (cJ d T))) d t 0 0 T).length]? = some [.str "end", iN (ah d T)]:=by
  unfold bN
  rw[List.getElem?_append_right (Nat.le_refl _),Nat.sub_self]; rfl
 refine⟨qG hf,fun i l m j e=>?_,qP hf,fun i r e j hj=>?_,by omega⟩
 ·have hi:=(List.getElem?_eq_some_iff.mp e).1
  by_cases c:i<(ao (dh (bM NM (cJ d T))) d t 0 0 T).length
  ·exact fa i (Nat.zero_le _) (by omega) l m j e
  ·rw[show i=(ao (dh (bM NM (cJ d T))) d t 0 0 T).length by omega,el]at e
   simp at e
 ·have hi:=(List.getElem?_eq_some_iff.mp e).1
  by_cases c:i<(ao (dh (bM NM (cJ d T))) d t 0 0 T).length
  ·have hr:r∈ao (dh (bM NM (cJ d T))) d t 0 0 T:=by
    have:=sit i _ (List.getElem?_eq_getElem c)
    rw[Nat.zero_add,e]at this
    rw[Option.some.inj this]; exact List.getElem_mem c
   rcases gL _ d t 0 0 T hf r hr with ⟨p,_⟩ | ⟨l,n,k,rfl,hk⟩ | ⟨l,k,rfl,hk⟩
   ·rw[p.2.2]at hj
    rw[List.mem_singleton.mp hj]; omega
   ·rw[dI]at hj
    simp only[List.mem_cons,List.not_mem_nil,or_false]at hj
    rcases hj with rfl | rfl <;> omega
   ·rw[jU]at hj
    rw[List.mem_singleton.mp hj]; omega
  ·rw[show i=(ao (dh (bM NM (cJ d T))) d t 0 0 T).length by omega,el]at e
   cases e
   unfold dB at hj
   rw[gZ (by decide +kernel),if_neg (by decide),mj]at hj
   cases hj
theorem nJ{H:Hp}{c:Addr}{R:List aK}{i:Nat}{r:aK}(h:ListR H c R)(e:R[i]? = some r):∃ (as:List Addr) (b:Addr),H c=some (.lst (as.map V.ref))∧as.length=R.length∧as[i]? = some b∧H b=some (.tup r):=by
 obtain⟨as,a1,a2⟩:=h
 have hl:=aC a2
 have hi:=(List.getElem?_eq_some_iff.mp e).1
 have hai:i<as.length:=by omega
 obtain⟨r',e1,e2⟩:=bP a2 (List.getElem?_eq_getElem hai)
 rw[e]at e1
 cases e1
 exact⟨as,_,a1,hl,List.getElem?_eq_getElem hai,e2⟩
section
variable{P:Program}{w:World}{K:PySem.W.Frag}{mg:Str→Option Value}{base:Heap}
theorem iU{a b:Int}{ds ts:List Int}(hab:a<b)(hd:∀ x,x∈ds ↔ x∈[a,b])(hl:ds.length≤2)(hp:ts.Perm ds)(hs:ts.Pairwise (· ≤ ·)):ts=[a,b]:=by
 have ha:a∈ts:=hp.mem_iff.mpr ((hd a).mpr (by simp))
 have hb:b∈ts:=hp.mem_iff.mpr ((hd b).mpr (by simp))
 have hlen:ts.length≤2:=by rw[hp.length_eq]; exact hl
 match ts,ha,hb,hlen,hs with
 | [x],ha,hb,_,_=>
  have e1:=List.mem_singleton.mp ha
  have e2:=List.mem_singleton.mp hb
  omega
 | [x,y],ha,hb,_,hs=>
  simp only[List.mem_cons,List.not_mem_nil,or_false]at ha hb
  have hxy:x≤y:=by simp at hs; exact hs
  have h1:x=a:=by omega
  have h2:y=b:=by omega
  rw[h1,h2]
 | _::_::_::_,_,_,hl,_=>simp at hl
def nU:Sp:=fun vs H Q _=>∃ (c:Addr) (R:List aK) (i:Nat) (r:aK),vs=[.ref c,.int (i:Int)]∧ListR H c R∧qO R∧R[i]? = some r∧∀ (q:Addr) (H':Hp),Same H H'→H q=none→H' q=some (.lst ((dB i r).map iN))→Q (.ref q) H'
theorem oq(D:DefAt K mg "rows_behind" bz) (z_sorted:mg "sorted" = none) (z_set:mg "set" = none):aQ P w K mg base 1 "rows_behind" ["code", "at"] nU:=by
 refine D.cal (k:=0) sc_rows_behind (fun _ _ _ _ _ _ us hl=>match us,hl with | [_,_],_=>rfl) (fun vs H Q E h=>by obtain⟨_,_,_,_,rfl,_⟩:=h; rfl) (fun f cdv A outer s0 H vs Q E hr h=>?_)
 obtain⟨c,R,i,r,rfl,hL,hC,hri,q⟩:=h
 refine⟨_,(aj (aw 2 sc_rows_behind.nd (av (aG K) (pv 0 (hv:=Dc)) (pv 1 (hv:=v2)) (fun _ _=>rfl)) (hx:=CS))
   (aj (b6 (bi bY (av (aG K) (pv 2 (hv:=nc)) ai (fun _ _=>rfl)) ax (bt _)) (am (aN (bd ac))) ci)
   (aj (b6 (bi bY (av (aG K) (pv 2 (hv:=nc)) ai (fun _ _=>rfl)) ax (bt _)) (am (aN (bd (aa (av (aG K) (pv 2 (hv:=nc)) ai (fun _ _=>rfl)) ac)))) ci)
   (aj (b6 (bi bY (av (aG K) (pv 2 (hv:=nc)) ai (fun _ _=>rfl)) ax (bt _)) (am (aN (bw (la w hr) z_sorted kE (aa (fg (rO K w hr) z_set yN (aa (bd (aa (ar aD (pv 1 (hv:=v2)) ai) (aa (av (aG K) (pv 2 (hv:=nc)) ai (fun _ _=>rfl)) ac))) ac) (hg:=Bq)) ac) (hg:=Cz)))) ci)
   (am (aN (bd (aa (ar aD (pv 1 (hv:=v2)) ai) ac)))))))),?_⟩
 obtain⟨as,b,a1,al,ab,eb⟩:=nJ hL hri
 have hat:cu (as.map V.ref) (i:Int)=some (.ref b):=aX (by rw[List.getElem?_map,ab]; rfl)
 walk_at "rd1"
 refine⟨_,_,.inl (SqL.of a1),hat,?_⟩
 walk_at "nx"
 rcases hC.sh r (List.mem_of_getElem? hri) with (⟨p,g,u,rfl,hg⟩ | ⟨l,n,j,rfl,_⟩ | ⟨l,j,rfl,_⟩) | ⟨l,rfl⟩
 ·simp only[List.mem_cons,List.not_mem_nil,or_false,not_or]at hg
  obtain⟨g1,g2,g3⟩:=hg
  rw[p.2.2]at q
  refine⟨_,_,.inr (SqT.of eb),cG,?_⟩
  walk_at "rd1"
  rw[if_neg g3]
  walk_at "nx"
  refine⟨_,_,.inr (SqT.of eb),cG,?_⟩
  walk_at "rd1"
  rw[if_neg g2]
  walk_at "nx"
  refine⟨_,_,.inr (SqT.of eb),cG,?_⟩
  walk_at "rd1"
  rw[if_neg g1]
  walk_at "nx"
  exact⟨by decide,fun m1 hm1=>q m1 _ (af hm1 _) hm1 ae⟩
 ·have hfar:=hC.far i _ _ j hri
  rw[dI]at q
  refine⟨_,_,.inr (SqT.of eb),cG,?_⟩
  walk_at "rd1"
  rw[if_neg (by decide +kernel)]
  walk_at "nx"
  refine⟨_,_,.inr (SqT.of eb),cG,?_⟩
  walk_at "rd1"
  rw[if_neg (by decide +kernel)]
  walk_at "nx"
  refine⟨_,_,.inr (SqT.of eb),cG,?_⟩
  walk_at "rd1"
  refine⟨_,_,.inr (SqT.of eb),aX (j:=3) rfl,?_⟩
  refine⟨by decide,fun m1 hm1=>?_⟩
  have s1:=af hm1 (.lst [.int ((i:Int)+1),iN j])
  have e1:upd H m1 (.lst [.int ((i:Int)+1),iN j]) m1=some (.lst ([(i:Int)+1,(j:Int)].map V.int)):=ae
  generalize upd H m1 (.lst [.int ((i:Int)+1),iN j])=H1 at s1 e1 ⊢
  refine⟨m1,_,rfl,SqL.of e1,by simp,fun sl ds hsl hnd hmem hdl=>?_⟩
  have s2:=af hsl (fF w sl ds)
  have e2:upd H1 sl (fF w sl ds) sl=some (fF w sl ds):=ae
  generalize upd H1 sl (fF w sl ds)=H2 at s2 e2 ⊢
  refine⟨sl,ds,rfl,e2,by simp at hdl; omega,fun rl ts hrl hp hs=>?_⟩
  have:=iU (a:=(i:Int)+1) (b:=(j:Int)) (by omega) hmem (by simpa using hdl) hp hs
  subst this
  exact q rl _ ((s1.trans s2).trans (af hrl _)) ((s1.trans s2).free hrl) ae
 ·rw[jU]at q
  refine⟨_,_,.inr (SqT.of eb),cG,?_⟩
  walk_at "rd1"
  rw[if_neg (by decide +kernel)]
  walk_at "nx"
  refine⟨_,_,.inr (SqT.of eb),cG,?_⟩
  walk_at "rd1"
  refine⟨_,_,.inr (SqT.of eb),aX (j:=2) rfl,?_⟩
  exact⟨by decide,fun m1 hm1=>q m1 _ (af hm1 _) hm1 ae⟩
 ·have he:dB i [.str "end", iN l]=[]:=by
   unfold dB
   rw[gZ (by decide +kernel),if_neg (by decide),mj]
  rw[he]at q
  refine⟨_,_,.inr (SqT.of eb),cG,?_⟩
  walk_at "rd1"
  exact⟨by decide,fun m1 hm1=>q m1 _ (af hm1 _) hm1 ae⟩
theorem vA(D:DefAt K mg "_law_due" cD) (z_sorted:mg "sorted" = none):aQ P w K mg base 1 "_law_due" ["_law_code", "_law_at"] nU:=by
 refine D.cal (k:=0) qX (fun _ _ _ _ _ _ us hl=>match us,hl with | [_,_],_=>rfl) (fun vs H Q E h=>by obtain⟨_,_,_,_,rfl,_⟩:=h; rfl) (fun f cdv A outer s0 H vs Q E hr h=>?_)
 obtain⟨c,R,i,r,rfl,hL,hC,hri,q⟩:=h
 refine⟨_,(aj (b6 (bi bY (av (aG K) (av (aG K) (pv 0 (hv:=mh)) (pv 1 (hv:=iT)) (fun _ _=>rfl)) ai (fun _ _=>rfl)) ax (bt _)) (am (aN (bd ac))) ci)
   (aj (b6 (bi bY (av (aG K) (av (aG K) (pv 0 (hv:=mh)) (pv 1 (hv:=iT)) (fun _ _=>rfl)) ai (fun _ _=>rfl)) ax (bt _)) (am (aN (bd (aa (av (aG K) (av (aG K) (pv 0 (hv:=mh)) (pv 1 (hv:=iT)) (fun _ _=>rfl)) ai (fun _ _=>rfl)) ac)))) ci)
   (aj (b6 (bi bY (av (aG K) (av (aG K) (pv 0 (hv:=mh)) (pv 1 (hv:=iT)) (fun _ _=>rfl)) ai (fun _ _=>rfl)) ax (bt _)) (am (aN (bw (rb K) z_sorted kE (aa (bd (aa (ar aD (pv 1 (hv:=iT)) ai) (aa (av (aG K) (av (aG K) (pv 0 (hv:=mh)) (pv 1 (hv:=iT)) (fun _ _=>rfl)) ai (fun _ _=>rfl)) ac))) ac) (hg:=Dk)))) ci)
   (am (aN (bd (aa (ar aD (pv 1 (hv:=iT)) ai) ac))))))),?_⟩
 obtain⟨as,b,a1,al,ab,eb⟩:=nJ hL hri
 have hat:cu (as.map V.ref) (i:Int)=some (.ref b):=aX (by rw[List.getElem?_map,ab]; rfl)
 have rd:∀ {u:List V} {k:Nat} {v:V} {Q':VK},r=u→u[k]? = some v→Q' v H→jB K (.ref b) (.int (k:Int)) H Q':=fun {u k v Q'} e1 e2 h=>by
  subst e1
  rw[iL]
  exact⟨_,_,.inr (SqT.of eb),aX e2,h⟩
 walk_at "rd1"
 refine⟨_,_,.inl (SqL.of a1),hat,?_⟩
 walk_at "rd1"
 rcases hC.sh r (List.mem_of_getElem? hri) with (⟨p,g,u,rfl,hg⟩ | ⟨l,n,j,rfl,_⟩ | ⟨l,j,rfl,_⟩) | ⟨l,rfl⟩
 ·simp only[List.mem_cons,List.not_mem_nil,or_false,not_or]at hg
  obtain⟨g1,g2,g3⟩:=hg
  rw[p.2.2]at q
  refine⟨_,_,.inr (SqT.of eb),cG,?_⟩
  walk_at "rd1"
  rw[if_neg g3]
  walk_at "nx"
  refine⟨_,_,.inl (SqL.of a1),hat,?_⟩
  walk_at "rd1"
  refine⟨_,_,.inr (SqT.of eb),cG,?_⟩
  walk_at "rd1"
  rw[if_neg g2]
  walk_at "nx"
  refine⟨_,_,.inl (SqL.of a1),hat,?_⟩
  walk_at "rd1"
  refine⟨_,_,.inr (SqT.of eb),cG,?_⟩
  walk_at "rd1"
  rw[if_neg g1]
  walk_at "nx"
  exact⟨by decide,fun m1 hm1=>q m1 _ (af hm1 _) hm1 ae⟩
 ·have hfar:=hC.far i _ _ j hri
  rw[dI]at q
  refine⟨_,_,.inr (SqT.of eb),cG,?_⟩
  walk_at "rd1"
  rw[if_neg (by decide +kernel)]
  walk_at "nx"
  refine⟨_,_,.inl (SqL.of a1),hat,?_⟩
  walk_at "rd1"
  refine⟨_,_,.inr (SqT.of eb),cG,?_⟩
  walk_at "rd1"
  rw[if_neg (by decide +kernel)]
  walk_at "nx"
  refine⟨_,_,.inl (SqL.of a1),hat,?_⟩
  walk_at "rd1"
  refine⟨_,_,.inr (SqT.of eb),cG,?_⟩
  walk_at "rd1"
  refine⟨_,_,.inl (SqL.of a1),hat,?_⟩
  walk_at "rd1"
  refine⟨_,_,.inr (SqT.of eb),aX (j:=3) rfl,?_⟩
  refine⟨by decide,fun m1 hm1=>?_⟩
  have s1:=af hm1 (.lst [.int ((i:Int)+1),iN j])
  have e1:upd H m1 (.lst [.int ((i:Int)+1),iN j]) m1=some (.lst ([(i:Int)+1,(j:Int)].map V.int)):=ae
  generalize upd H m1 (.lst [.int ((i:Int)+1),iN j])=H1 at s1 e1 ⊢
  refine⟨m1,_,rfl,SqL.of e1,by simp,fun rl ts hrl hp hs=>?_⟩
  have:=iU (a:=(i:Int)+1) (b:=(j:Int)) (by omega) (fun x=>Iff.rfl) (by simp) hp hs
  subst this
  exact q rl _ (s1.trans (af hrl _)) (s1.free hrl) ae
 ·rw[jU]at q
  refine⟨_,_,.inr (SqT.of eb),cG,?_⟩
  walk_at "rd1"
  rw[if_neg (by decide +kernel)]
  walk_at "nx"
  refine⟨_,_,.inl (SqL.of a1),hat,?_⟩
  walk_at "rd1"
  refine⟨_,_,.inr (SqT.of eb),cG,?_⟩
  walk_at "rd1"
  refine⟨_,_,.inl (SqL.of a1),hat,?_⟩
  walk_at "rd1"
  refine⟨_,_,.inr (SqT.of eb),aX (j:=2) rfl,?_⟩
  exact⟨by decide,fun m1 hm1=>q m1 _ (af hm1 _) hm1 ae⟩
 ·have he:dB i [.str "end", iN l]=[]:=by
   unfold dB
   rw[gZ (by decide +kernel),if_neg (by decide),mj]
  rw[he]at q
  refine⟨_,_,.inr (SqT.of eb),cG,?_⟩
  walk_at "rd1"
  exact⟨by decide,fun m1 hm1=>q m1 _ (af hm1 _) hm1 ae⟩
def yo:Sp:=fun vs H Q _=>∃ i:Int,vs=[.int i]∧Q (.bl true) H
theorem Ax(D:DefAt K mg "_law_whole" bU) (z_isinstance:mg "isinstance" = none) (z_int:mg "int" = none) (z_bool:mg "bool" = none):aQ P w K mg base 1 "_law_whole" ["_law_found"] yo:=by
 refine D.cal (k:=0) m9 (fun _ _ _ _ _ _ us hl=>match us,hl with | [_],_=>rfl) (fun vs H Q E h=>by obtain⟨i,rfl,_⟩:=h; rfl) (fun f cdv A outer s H vs Q E hr h=>?_)
 obtain⟨i,rfl,q⟩:=h
 refine⟨_,(am (aN (uA (bw iP z_isinstance eF (aa (pv 0 (hv:=zF)) (aa (lY z_int nB (hg:=BR)) ac)) (hg:=yq)) (sS (zp (bw iP z_isinstance eF (aa (pv 0 (hv:=zF)) (aa (lY z_bool xX (hg:=BA)) ac)) (hg:=yq))))))),?_⟩
 walk_at "rd1"
 refine⟨"int", rfl,by decide,ck (fun _=>?_) (fun c=>absurd (by decide) c)⟩
 exact⟨"int", rfl,by decide,q⟩
def j9:Sp:=fun vs H Q _=>∃ (c:Addr) (R:List aK) (i:Nat) (r:aK),vs=[.ref c,.int (i:Int)]∧ListR H c R∧qO R∧R[i]? = some r∧∀ H':Hp,Same H H'→Q (.bl true) H'
theorem iy(ns:List Nat):∀ x∈ns.map iN,bG x=true:=fun x hx=>by obtain⟨n,_,rfl⟩:=List.mem_map.mp hx; rfl
theorem sw(D:DefAt K mg "_law_right" aR) (z_isinstance:mg "isinstance" = none) (z_list:mg "list" = none) (z_len:mg "len" = none) (c_rows_behind:aQ P w K mg base 1 "rows_behind" ["code", "at"] nU) (c_law_due:aQ P w K mg base 1 "_law_due" ["_law_code", "_law_at"] nU) (c_law_whole:aQ P w K mg base 1 "_law_whole" ["_law_found"] yo):aQ P w K mg base 2 "_law_right" ["_law_code", "_law_at"] j9:=by
 refine D.cal (k:=1) sc_law_right (fun _ _ _ _ _ _ us hl=>match us,hl with | [_,_],_=>rfl) (fun vs H Q E h=>by obtain⟨_,_,_,_,rfl,_⟩:=h; rfl) (fun f cdv A outer s0 H vs Q E hr h=>?_)
 obtain⟨c,R,i,r,rfl,hL,hC,hri,q⟩:=h
 refine⟨_,(aj (aw 2 sc_law_right.nd (aB c_rows_behind hr (aa (pv 0 (hv:=sv)) (aa (pv 1 (hv:=u3)) ac)) (hg:=zD)) (hx:=CZ))
   (aj (aw 3 sc_law_right.nd (aB c_law_due hr (aa (pv 0 (hv:=sv)) (aa (pv 1 (hv:=u3)) ac)) (hg:=Bh)) (hx:=Cd))
   (aj (b6 (PW.pt' (qx (gC (gT (bw iP z_isinstance eF (aa (pv 2 (hv:=rf)) (aa (lY z_list jX (hg:=BM)) ac)) (hg:=CW)))) (lP (bi (x6 K hr) (pv 2 (hv:=rf)) (pv 3 (hv:=zU)) (bt _))))) (am (aN ei)) ci)
   (aj (cA PassesOwn.never rfl (dn K (pv 2 (hv:=rf))) (bC 4 sc_law_right.nd (hx:=Dr)) (am (b6 (PW.pt' (qx (gC (gT (aB c_law_whole hr (aa (pv 4 (hv:=yC)) ac) (hg:=Bp)))) (lP (gC (uW wH nj ai (pv 4 (hv:=yC)) (bw (aW K) z_len bH (aa (pv 0 (hv:=sv)) ac) (hg:=C5))))))) (am (aN ei)) ci)))
   (aj (bD (pR K PySem.F.plainAttrs_list PySem.F.slot_list_clear PySem.F.type_list_clear uz (pv 2 (hv:=rf))))
   (am (aN (fJ (p_ K hr) (aB c_rows_behind hr (aa (pv 0 (hv:=sv)) (aa (pv 1 (hv:=u3)) ac)) (hg:=zD)) (pv 3 (hv:=zU)) (bt _))))))))),?_⟩
 have hnx:=hC.nx i r hri
 obtain⟨as,bb,a1,al,ab,eb⟩:=nJ hL hri
 walk_at "rd1"
 refine⟨c,R,i,r,rfl,hL,hC,hri,fun q1 H1 s1 hq1 e1=>?_⟩
 walk_at "nx"
 refine⟨c,R,i,r,rfl,hL.mono s1,hC,hri,fun q2 H2 s2 hq2 e2=>?_⟩
 have e1':=s2 _ _ e1
 have s12:=s1.trans s2
 walk_at "nx"
 refine⟨"list", by simp[cz,e1'],by decide,?_⟩
 rw[if_neg (by decide)]
 refine⟨0,true,by decide,EqN.seqFlat (.inl ⟨SqL.of e1',SqL.of e2⟩) (iy _),?_⟩
 rw[if_neg (by decide)]
 walk_at "nx"
 refine⟨⟨_,SqL.of e1'⟩,?_⟩
 refine cR (xs:=(dB i r).map iN) (fun k σ H'=>∃ o4:Option V,σ=[some (.ref c),some (.int (i:Int)),some (.ref q1),some (.ref q2),o4]∧H'=H2) ⟨none,rfl,rfl⟩ (fun k σ H' _ hh=>by obtain⟨_,_,rfl⟩:=hh; exact SqL.of e1') ?_ ?_
 ·rintro k v σ H' hv ⟨o4,rfl,rfl⟩
  have hk:k<(dB i r).length:=by have:=(List.getElem?_eq_some_iff.mp hv).1; simpa using this
  rw[List.getElem?_map,List.getElem?_eq_getElem hk]at hv
  cases hv
  have hlt:=hnx _ (List.getElem_mem hk)
  generalize (dB i r)[k]=j at hlt ⊢
  rw[show iN j=V.int (j:Int) from rfl]
  walk_at "rd1"
  refine⟨(j:Int),rfl,?_⟩
  refine⟨true,rfl,?_⟩
  rw[if_neg (by decide)]
  walk_at "rd1"
  rw[if_pos (by omega)]
  refine⟨_,.inl (SqL.of (s12 _ _ a1)),?_⟩
  rw[List.length_map,al]
  walk_at "rd1"
  have hd:decide ((j:Int)<(R.length:Int))=true:=decide_eq_true (by omega)
  try rw[hd]
  rw[if_neg (by decide)]
  exact⟨_,rfl⟩
 ·rintro σ H' ⟨o4,rfl,rfl⟩
  walk_at "nx"
  refine⟨⟨_,SqL.of e1'⟩,q1,_,rfl,rfl,e1',?_⟩
  have n21:q2≠q1:=(au e1 hq2).symm
  have s3:Same H (upd H' q1 (.lst [])):=s12.upd hq1 _
  have e3:upd H' q1 (.lst []) q2=some (.lst ((dB i r).map iN)):=by rw[ap n21]; exact e2
  generalize upd H' q1 (.lst [])=H3 at s3 e3 ⊢
  walk_at "nx"
  refine⟨c,R,i,r,rfl,hL.mono s3,hC,hri,fun q3 H4 s4 hq3 e4=>?_⟩
  walk_at "rd1"
  exact⟨0,true,by decide,EqN.seqFlat (.inl ⟨SqL.of e4,SqL.of (s4 _ _ e3)⟩) (iy _),q H4 (s3.trans s4)⟩
theorem gi:∀ {D F:List Nat},D.Nodup→(∀ x∈D,x∈F)→D.length≤F.length
 | [],_,_,_=>Nat.zero_le _
 | x::D,F,hn,hs=>by
  rw[List.nodup_cons]at hn
  have hx:=hs x List.mem_cons_self
  have:=gi (D:=D) (F:=F.erase x) hn.2 (fun y hy=>by
   have hne:y≠x:=fun e=>hn.1 (e ▸ hy)
   exact(List.mem_erase_of_ne hne).mpr (hs y (List.mem_cons_of_mem _ hy)))
  rw[List.length_erase_of_mem hx]at this
  have:0<F.length:=List.length_pos_of_mem hx
  rw[List.length_cons]; omega
def tD(D:List Nat):List (aA × V):=D.map fun (x:Nat)=>(.inl (x:Int),V.bl true)
theorem ms(x:Nat):∀ D:List Nat,bE (tD D) (.inl (x:Int))=if x∈D then some (.bl true) else none
 | []=>by simp[tD,bE]
 | y::D=>by
  have ih:=ms x D
  show bE ((.inl (y:Int),V.bl true)::tD D) _=_
  by_cases c:y=x
  ·subst c
   rw[cy rfl,if_pos List.mem_cons_self]
  ·rw[cw (by intro e; have:=Sum.inl.inj e; omega),ih]
   by_cases d:x∈D
   ·rw[if_pos d,if_pos (List.mem_cons_of_mem _ d)]
   ·rw[if_neg d,if_neg (by simp only[List.mem_cons,not_or]; exact⟨fun z=>c z.symm,d⟩)]
theorem yB{x:Nat}{D:List Nat}(h:x∉D):cj (tD D) (.inl (x:Int)) (.bl true)=tD (D++[x]):=by
 rw[uR _ (by rw[ms,if_neg h])]
 unfold tD; rw[List.map_append]; rfl
theorem rM{R:List aK}{D:List Nat}(h0:0∈D)(hc:∀ x∈D,∀ r,R[x]? = some r→∀ j∈dB x r,j∈D):∀ i,Rch R i→i∈D:=fun i h=>by
 induction h with
 | zero=>exact h0
 | step _ e hj ih=>exact hc _ ih _ e _ hj
def ue:Sp:=fun vs H Q _=>∃ (c:Addr) (R:List aK),vs=[.ref c]∧ListR H c R∧qO R∧1≤R.length∧∀ H':Hp,Same H H'→Q (.bl true) H'
theorem xv(D:DefAt K mg "_law_all_come" aL) (z_len:mg "len" = none) (c_law_due:aQ P w K mg base 1 "_law_due" ["_law_code", "_law_at"] nU):aQ P w K mg base 2 "_law_all_come" ["_law_code"] ue:=by
 refine D.cal (k:=1) sc_law_all_come (fun _ _ _ _ _ _ us hl=>match us,hl with | [_],_=>rfl) (fun vs H Q E h=>by obtain⟨_,_,rfl,_⟩:=h; rfl) (fun f cdv A outer s0 H vs Q E hr h=>?_)
 obtain⟨c,R,rfl,hL,hC,hR1,q⟩:=h
 refine⟨_,(aj (aw 1 sc_law_all_come.nd (bd (aa ai ac)) (hx:=Co))
   (aj (aw 2 sc_law_all_come.nd (xu (v3 ai ei xV) rfl rfl (by decide) (by decide)) (hx:=BP))
   (aj (aw 3 sc_law_all_come.nd ai (hx:=Af))
   (aj (nK PassesOwn.never (bi nj (pv 3 (hv:=wm)) (bw (aW K) z_len bH (aa (pv 1 (hv:=rh)) ac) (hg:=vS)) (bt _)) (aj (cA PassesOwn.never rfl (dn K (aB c_law_due hr (aa (pv 0 (hv:=yO)) (aa (av (aG K) (pv 1 (hv:=rh)) (pv 3 (hv:=wm)) (fun _ _=>rfl)) ac)) (hg:=C8))) (bC 4 sc_law_all_come.nd (hx:=BW)) (am (b6 (bi (ux hr) (pv 4 (hv:=vL)) (pv 2 (hv:=zd)) (by with_unfolding_all rfl)) (aj (gK ei (i9 (pv 2 (hv:=zd)) (pv 4 (hv:=vL)) (rj hr)))
   (am (bD (b5 K PySem.F.plainAttrs_list PySem.F.slot_list_append PySem.F.type_list_append bX (pv 1 (hv:=rh)) (aa (pv 4 (hv:=vL)) ac))))) ci)))
   (am (aw 3 sc_law_all_come.nd (ar aD (pv 3 (hv:=wm)) ai) (hx:=Af)))))
   (am (aN (fJ bY (bw (aW K) z_len bH (aa (pv 1 (hv:=rh)) ac) (hg:=vS)) (bw (aW K) z_len bH (aa (pv 0 (hv:=yO)) ac) (hg:=vS)) (bt _)))))))),?_⟩
 have hRl:=hC.len
 walk_at "rd1"
 refine⟨by decide,fun cp hcp=>?_⟩
 have s1:=af hcp (.lst [.int 0])
 have e1:upd H cp (.lst [.int 0]) cp=some (.lst ([0].map iN)):=ae
 generalize upd H cp (.lst [.int 0])=H1 at s1 e1 ⊢
 walk_at "nx"
 intro kp hkp
 refine⟨ae,[(.inl 0,.bl true)],rfl,by simp,?_⟩
 have s2:Same H1 (upd (upd H1 kp (.dK [])) kp (.dK (dS [] [((.inl 0:aA),V.bl true)]))):=(af hkp _).upd hkp _
 have e2:upd (upd H1 kp (.dK [])) kp (.dK (dS [] [((.inl 0:aA),V.bl true)])) kp=some (.dK (tD [0])):=ae
 generalize upd (upd H1 kp (.dK [])) kp (.dK (dS [] [((.inl 0:aA),V.bl true)]))=H2 at s2 e2 ⊢
 have nck:cp≠kp:=au e1 hkp
 have hkH:H kp=none:=s1.free hkp
 walk_at "nx"
 walk_at "nx"
 refine⟨fun m σ H'=>∃ (D:List Nat) (at':Nat) (o4:Option V),σ=[some (.ref c),some (.ref cp),some (.ref kp),some (.int (at':Int)),o4]∧Same H H'∧H' cp=some (.lst (D.map iN))∧H' kp=some (.dK (tD D))∧D.Nodup∧0∈D∧(∀ x∈D,x<R.length)∧at'≤D.length∧(∀ k x,k<at'→D[k]? = some x→∀ r,R[x]? = some r→∀ j∈dB x r,j∈D)∧R.length - at'=m,
  ⟨_,[0],0,none,rfl,s1.trans s2,s2 _ _ e1,e2,by simp,by simp,fun x hx=>by rw[List.mem_singleton.mp hx]; omega,Nat.zero_le _,fun k x hk=>absurd hk (Nat.not_lt_zero _),rfl⟩,?_⟩
 rintro m σ H3 ⟨D,at',o4,rfl,sm,hcp3,hkp3,hnd,h0,hlt,hal,hcl,hm⟩
 have hDR:D.length≤R.length:=by
  have:=gi (D:=D) (F:=List.range R.length) hnd (fun x hx=>List.mem_range.mpr (hlt x hx))
  rwa [List.length_range]at this
 walk_at "rd1"
 refine⟨_,.inl (SqL.of hcp3),?_⟩
 rw[List.length_map]
 walk_at "rd1"
 refine ck (fun c1=>?_) (fun c1=>?_)
 ·have hat:at'<D.length:=by omega
  refine⟨fun σ' H'=>∃ (D:List Nat) (o4:Option V),σ'=[some (.ref c),some (.ref cp),some (.ref kp),some (.int ((at'+1:Nat):Int)),o4]∧Same H H'∧H' cp=some (.lst (D.map iN))∧H' kp=some (.dK (tD D))∧D.Nodup∧0∈D∧(∀ x∈D,x<R.length)∧at'+1≤D.length∧(∀ k x,k<at'+1→D[k]? = some x→∀ r,R[x]? = some r→∀ j∈dB x r,j∈D),fun σ' H' ⟨D',p4,z1,z2,z3,z4,z5,z6,z7,z8,z9⟩=>⟨R.length - (at'+1),by omega,D',at'+1,p4,z1,z2,z3,z4,z5,z6,z7,z8,z9,rfl⟩,?_⟩
  have hDat:=List.getElem?_eq_getElem hat
  have hxl:=hlt _ (List.getElem_mem hat)
  generalize D[at']=x at hDat hxl
  have hrx:=List.getElem?_eq_getElem hxl
  have hnx:=hC.nx x _ hrx
  refine⟨_,_,.inl (SqL.of hcp3),(show cu (D.map iN) (at':Int)=some (.int (x:Int)) from aX (by rw[List.getElem?_map,hDat]; rfl)),?_⟩
  refine⟨c,R,x,R[x],rfl,hL.mono sm,hC,hrx,fun q1 H4 s4 hq1 e4=>?_⟩
  walk_at "rd1"
  refine⟨⟨_,SqL.of e4⟩,?_⟩
  have nq1:q1≠cp:=(au hcp3 hq1).symm
  have nq2:q1≠kp:=(au hkp3 hq1).symm
  generalize hjs:dB x R[x]=js at e4 hnx
  refine cR (xs:=js.map iN) (fun i σ H'=>∃ (E:List Nat) (o4:Option V),σ=[some (.ref c),some (.ref cp),some (.ref kp),some (.int (at':Int)),o4]∧Same H H'∧H' q1=some (.lst (js.map iN))∧H' cp=some (.lst ((D++E).map iN))∧H' kp=some (.dK (tD (D++E)))∧(D++E).Nodup∧(∀ y∈D++E,y<R.length)∧∀ j∈js.take i,j∈D++E)
   ⟨[],_,rfl,sm.trans s4,e4,by rw[List.append_nil]; exact s4 _ _ hcp3,by rw[List.append_nil]; exact s4 _ _ hkp3,by rw[List.append_nil]; exact hnd,by rw[List.append_nil]; exact hlt,by simp⟩ (fun i σ H' _ hh=>by obtain⟨_,_,_,_,z,_⟩:=hh; exact SqL.of z) ?_ ?_
  ·rintro i v σ H5 hv ⟨E,o5,rfl,sm5,hq5,hc5,hk5,hnd5,hlt5,hin5⟩
   have hi:i<js.length:=by have:=(List.getElem?_eq_some_iff.mp hv).1; simpa using this
   have hji:=List.getElem?_eq_getElem hi
   rw[List.getElem?_map,hji]at hv
   cases hv
   have hjl:=hnx _ (List.getElem_mem hi)
   have htk:js.take (i+1)=js.take i++[js[i]]:=by rw[List.take_add_one,hji]; rfl
   generalize js[i]=j at hjl htk ⊢
   have hDE:(D++E).length≤R.length:=by
    have:=gi (D:=D++E) (F:=List.range R.length) hnd5 (fun x hx=>List.mem_range.mpr (hlt5 x hx))
    rwa [List.length_range]at this
   rw[show iN j=V.int (j:Int) from rfl]
   walk_at "rd1"
   refine⟨kp,_,.inl (j:Int),rfl,rfl,hk5,?_⟩
   rw[ms]
   by_cases hj:j∈D++E
   ·rw[if_pos hj]
    refine⟨_,rfl,?_⟩
    rw[if_neg (by simp)]
    refine⟨E,_,rfl,sm5,hq5,hc5,hk5,hnd5,hlt5,fun y hy=>?_⟩
    rw[htk]at hy
    rcases List.mem_append.mp hy with hy | hy
    ·exact hin5 y hy
    ·rw[List.mem_singleton.mp hy]; exact hj
   ·rw[if_neg hj]
    refine⟨_,rfl,?_⟩
    rw[if_pos (by simp)]
    refine⟨kp,_,.inl (j:Int),rfl,rfl,hk5,ce (by unfold tD; rw[List.length_map]; omega),?_⟩
    rw[yB hj]
    have c6:upd H5 kp (.dK (tD (D++E++[j]))) cp=some (.lst ((D++E).map iN)):=by rw[ap nck]; exact hc5
    have q6:upd H5 kp (.dK (tD (D++E++[j]))) q1=some (.lst (js.map iN)):=by rw[ap nq2]; exact hq5
    have k6:upd H5 kp (.dK (tD (D++E++[j]))) kp=some (.dK (tD (D++E++[j]))):=ae
    have s6:Same H (upd H5 kp (.dK (tD (D++E++[j])))):=sm5.upd hkH _
    generalize upd H5 kp (.dK (tD (D++E++[j])))=H6 at c6 q6 k6 s6 ⊢
    walk_at "nx"
    refine⟨⟨_,SqL.of c6⟩,_,c6,by rw[List.length_map]; exact ce (by omega),?_⟩
    refine⟨E++[j],_,rfl,s6.upd hcp _,by rw[ap nq1]; exact q6,by rw[ae,← List.append_assoc,List.map_append (l₁:=D++E)]; rfl,by rw[ap nck.symm,← List.append_assoc]; exact k6,?_,fun y hy=>?_,fun y hy=>?_⟩
    ·rw[← List.append_assoc,List.nodup_append]
     refine⟨hnd5,by simp,fun a ha b hb=>?_⟩
     rw[List.mem_singleton.mp hb]
     exact fun z=>hj (z ▸ ha)
    ·rw[← List.append_assoc]at hy
     rcases List.mem_append.mp hy with hy | hy
     ·exact hlt5 y hy
     ·rw[List.mem_singleton.mp hy]; exact hjl
    ·rw[← List.append_assoc]
     rw[htk]at hy
     rcases List.mem_append.mp hy with hy | hy
     ·exact List.mem_append_left _ (hin5 y hy)
     ·exact List.mem_append_right _ hy
  ·rintro σ H5 ⟨E,o5,rfl,sm5,hq5,hc5,hk5,hnd5,hlt5,hin5⟩
   rw[List.length_map,List.take_length]at hin5
   walk_at "nx"
   refine⟨D++E,_,rfl,sm5,hc5,hk5,hnd5,List.mem_append_left _ h0,hlt5,by rw[List.length_append]; omega,fun k y hk hy r hr j hj=>?_⟩
   rw[List.getElem?_append_left (by omega)]at hy
   by_cases hka:k<at'
   ·exact List.mem_append_left _ (hcl k y hka hy r hr j hj)
   ·have hke:k=at':=by omega
    subst hke
    rw[hDat]at hy
    cases hy
    rw[hrx]at hr
    cases hr
    exact hin5 j (by rw[← hjs]; exact hj)
 ·have hat:at'=D.length:=by omega
  walk_at "nx"
  obtain⟨as,ea,_⟩:=hL.mono sm
  have hall:∀ i,i<R.length→i∈D:=fun i hi=>rM h0 (fun x hx r hr j hj=>by
   obtain⟨k,hk,rfl⟩:=List.mem_iff_getElem.mp hx
   exact hcl k _ (by omega) (List.getElem?_eq_getElem hk) r hr j hj) i (hC.rch i hi)
  have hge:=gi (D:=List.range R.length) (F:=D) List.nodup_range (fun x hx=>hall x (List.mem_range.mp hx))
  rw[List.length_range]at hge
  obtain⟨as,ea,eb⟩:=hL.mono sm
  refine⟨_,.inl (SqL.of hcp3),_,.inl (SqL.of ea),?_⟩
  rw[List.length_map,List.length_map,aC eb,show D.length=R.length by omega]
  have hd:decide ((R.length:Int)=(R.length:Int))=true:=decide_eq_true rfl
  rw[hd]
  exact q H3 sm
theorem ug{j k:Nat}{x:Str}{ps:List Str}{sp:Sp}(c:aQ P w K mg base j x ps sp)(h:j≤k):aQ P w K mg base k x ps sp:=by
 obtain⟨f,fd,F,r⟩:=c.ex
 exact⟨f,fd,F.mono h,r⟩
theorem xw{k:Nat}{x:Str}{ps:List Str}{sp sp':Sp}(c:aQ P w K mg base k x ps sp)(h:∀ vs H Q E,sp' vs H Q E→sp vs H Q E):aQ P w K mg base k x ps sp':=by
 obtain⟨f,fd,F,r⟩:=c.ex
 exact⟨f,fd,F.imp h,r⟩
def NOt(H:Hp)(p:Addr)(NM:List Str):Prop:=∃ (T:List ak) (S:Addr→Prop),ProgAt S 10 H p T∧gQ 10 T∧(bJ 10 T).length≤1000∧((bJ 10 T).flatMap bB).length≤5000∧NM=cS ((bJ 10 T).flatMap bB)
theorem NOt.mono{H H':Hp}{p:Addr}{NM:List Str}(h:NOt H p NM)(s:Same H H'):NOt H' p NM:=by
 obtain⟨T,S,h1,h2⟩:=h
 exact⟨T,S,h1.mono s,h2⟩
theorem uX{k:Nat}(c:aQ P w K mg base k "names_of" ["program"] ke):aQ P w K mg base k "names_of" ["program"] (zx NOt):=xw c fun vs H Q E h=>by
 obtain⟨p,NM,rfl,⟨T,S,h1,h2,h3,h4,rfl⟩,q⟩:=h
 exact⟨p,T,S,rfl,h1,h2,h3,h4,q⟩
theorem va{f:List ak→List ak}{g:List ak→Nat}(h:∀ b,(f b).length≤g b):∀ s:ak,(dR f s).length≤aU g s
 | .plain _=>by simp[dR,cT,aU]
 | .lend _ _ b=>by have:=h b; simp[dR,cT,aU]; omega
 | .ite _ b c=>by have:=h b; have:=h c; simp[dR,cT,aU]; omega
 | .whl _ b=>by have:=h b; simp[dR,cT,aU]; omega
theorem jZ:∀ (d:Nat) (T:List ak),(bJ d T).length≤ah d T
 | 0,_=>Nat.le_refl _
 | d+1,T=>by
  show (T.flatMap (dR (bJ d))).length≤(T.map (aU (ah d))).sum
  induction T with
  | nil=>exact Nat.le_refl _
  | cons s T ih=>
   have:=va (jZ d) s
   rw[List.flatMap_cons,List.length_append,List.map_cons,List.sum_cons]; omega
theorem zo{g:List ak→Prop}:∀ {s:ak},dM g s→(bB s).length≤2
 | .plain ws,h=>by cases (show dO ws from h) <;> simp[bB] <;> split <;> simp
 | .lend _ _ _,_=>by simp[bB]
 | .ite _ _ _,_=>by simp[bB]
 | .whl _ _,_=>by simp[bB]
theorem tV{d:Nat}{T:List ak}(h:gQ d T):((bJ d T).flatMap bB).length≤2 * ah d T:=by
 have h1:=jZ d T
 have h2:=nN d h
 have go:∀ X:List ak,(∀ s∈X,∃ g:List ak→Prop,dM g s)→(X.flatMap bB).length≤2 * X.length:=fun X=>by
  induction X with
  | nil=>intro _; exact Nat.le_refl _
  | cons s X ih=>
   intro hx
   obtain⟨g,hg⟩:=hx s List.mem_cons_self
   have:=zo hg
   have:=ih fun u hu=>hx u (List.mem_cons_of_mem _ hu)
   rw[List.flatMap_cons,List.length_append,List.length_cons]; omega
 have:=go _ h2
 omega
def fV:V→Bool
 | .str _=>true
 | .int _=>true
 | _=>false
def kG(r:aK):Prop:=(∀ v∈r,fV v=true)∧r.length≤100
theorem lX(ks:List aA):∀ (i:Nat) (k:aA) (v:V),bE (e6 ks i) k=some v→∃ n:Nat,v=iN n
 | 0,_,_,h=>by cases h
 | i+1,k,v,h=>by
  rw[fw,iR]at h
  split at h
  ·exact⟨i,(Option.some.inj h).symm⟩
  ·exact lX ks i k v h
theorem Ac{ks:List aA}{k:aA}(h:eY (dh ks) k):fV (b7 (dh ks) k)=true:=by
 obtain⟨n,e⟩:=lX ks ks.length k _ h
 rw[e]; rfl
theorem wA{h:Str}{x y:V}(hx:fV x=true)(hy:fV y=true):kG [.str h,x,y]:=⟨fun v hv=>by
 simp only[List.mem_cons,List.not_mem_nil,or_false]at hv
 rcases hv with rfl | rfl | rfl
 ·rfl
 ·exact hx
 ·exact hy,by simp⟩
theorem j8{h:Str}{x y z:V}(hx:fV x=true)(hy:fV y=true)(hz:fV z=true):kG [.str h,x,y,z]:=⟨fun v hv=>by
 simp only[List.mem_cons,List.not_mem_nil,or_false]at hv
 rcases hv with rfl | rfl | rfl | rfl
 ·rfl
 ·exact hx
 ·exact hy
 ·exact hz,by simp⟩
section
variable{kv:List (aA × V)}
theorem sW(hk:∀ k,eY kv k→fV (b7 kv k)=true){l:Nat}{ws:List Str}(px:dg ws)(hn:∀ n∈db ws,eY kv (.inr n)):kG (dy kv l ws):=by
 unfold dy
 by_cases c:ws.headD "" = "do"
 ·rw[if_pos c]
  unfold db at hn
  rw[if_pos c]at hn
  cases px with
  | dd u x=>exact j8 rfl (hk _ (hn x (by simp))) rfl
  | op x=>exact absurd c (show ¬ ("open" : Str) = "do" by decide +kernel)
  | dr x=>exact absurd c (show ¬ ("drop" : Str) = "do" by decide +kernel)
  | cp x y=>exact absurd c (show ¬ ("copy" : Str) = "do" by decide +kernel)
  | ti x y=>exact absurd c (show ¬ ("tie" : Str) = "do" by decide +kernel)
 ·rw[if_neg c]
  unfold db at hn
  rw[if_neg c]at hn
  refine⟨fun v hv=>?_,?_⟩
  ·rcases List.mem_cons.mp hv with rfl | hv
   ·rfl
   rcases List.mem_cons.mp hv with rfl | hv
   ·rfl
   obtain⟨n,h1,rfl⟩:=List.mem_map.mp hv
   exact hk _ (hn n h1)
  ·cases px <;> simp
theorem qc(hk:∀ k,eY kv k→fV (b7 kv k)=true):∀ (d:Nat) (t:Bool) (a l:Nat) (T:List ak),bL d T→di kv d l T→∀ r∈ao kv d t a l T,kG r
 | 0,_,_,_,_,h,_=>h.elim
 | d+1,t,a,l,T,hf,hkl=>by
  have ih:=qc hk d
  have st:∀ (s:ak) (a l:Nat),dz (bL d) s→j0 kv (di kv d) (ah d) l s→∀ r∈bO kv (ao kv d) (ah d) t a l s,kG r:=fun s a l hs hk' r hr=>by
   cases s with
   | plain ws=>rw[List.mem_singleton.mp hr]; exact sW hk hs.1 hk'.2
   | lend x y b=>
    obtain⟨k1,k2,k3,k4⟩:=hk'
    have f1:=hk _ k1
    have f2:=hk _ k2
    have f3:=hk _ k3
    rcases List.mem_append.mp hr with hr | hr
    ·rcases List.mem_append.mp hr with hr | hr
     ·simp only[List.mem_cons,List.not_mem_nil,or_false]at hr
      rcases hr with rfl | rfl | rfl
      ·exact j8 rfl f3 f1
      ·exact j8 rfl f3 rfl
      ·exact j8 rfl f2 f3
     ·exact ih t _ _ b hs.2.2 k4 r hr
    ·simp only[List.mem_cons,List.not_mem_nil,or_false]at hr
     rcases hr with rfl | rfl | rfl
     ·exact j8 rfl f3 rfl
     ·exact wA rfl f2
     ·exact wA rfl f3
   | ite n b c=>
    rcases List.mem_append.mp hr with hr | hr
    ·rcases List.mem_append.mp hr with hr | hr
     ·rcases List.mem_append.mp hr with hr | hr
      ·rw[List.mem_singleton.mp hr]; exact j8 rfl rfl rfl
      ·exact ih t _ _ b hs.2.1 hk'.1 r hr
     ·rw[List.mem_singleton.mp hr]; exact wA rfl rfl
    ·exact ih t _ _ c hs.2.2 hk'.2 r hr
   | whl n b=>
    have lp:∀ a,r∈cC (ao kv d) (ah d) a l n b→kG r:=fun a hr=>by
     rcases List.mem_append.mp hr with hr | hr
     ·rcases List.mem_append.mp hr with hr | hr
      ·rw[List.mem_singleton.mp hr]; exact j8 rfl rfl rfl
      ·exact ih false _ _ b hs.2 hk' r hr
     ·rw[List.mem_singleton.mp hr]; exact wA rfl rfl
    have hr':r∈bZ (ao kv d) (ah d) t a l n b:=hr
    unfold bZ at hr'
    split at hr'
    ·rcases List.mem_append.mp hr' with hr | hr
     ·rcases List.mem_append.mp hr with hr | hr
      ·rw[List.mem_singleton.mp hr]; exact j8 rfl rfl rfl
      ·exact ih true _ _ b hs.2 hk' r hr
     ·exact lp _ hr
    ·exact lp _ hr'
  have go:∀ (T:List ak) (a l:Nat),(∀ s∈T,dz (bL d) s)→(∀ z∈dC (aU (ah d)) l T,j0 kv (di kv d) (ah d) z.1 z.2)→∀ r∈bK (bO kv (ao kv d) (ah d) t) (aU (ah d)) a l T,kG r:=fun T=>by
   induction T with
   | nil=>intro a l _ _ r hr; cases hr
   | cons s T ihT=>
    intro a l hf hz r hr
    rcases List.mem_append.mp hr with hr | hr
    ·exact st s a l (hf s List.mem_cons_self) (hz _ List.mem_cons_self) r hr
    ·exact ihT _ _ (fun s hs=>hf s (List.mem_cons_of_mem _ hs)) (fun z h=>hz z (List.mem_cons_of_mem _ h)) r hr
  exact go T a l hf hkl
end
theorem oO{d:Nat}{t:Bool}{T:List ak}(hf:bL d T):∀ r∈bN (cS ((bJ d T).flatMap bB)) d t T,kG r:=by
 have hnm:oB (fun n=>n∈cS ((bJ d T).flatMap bB)) d T:=ml d T (iB hf) fun n hn=>qe hn
 intro r hr
 rcases List.mem_append.mp hr with hr | hr
 ·exact qc (fun k=>Ac) d t 0 0 T hf (jL d 0 T (fun i s e=>by rw[Nat.zero_add]; exact e) hnm) r hr
 ·rw[List.mem_singleton.mp hr]
  refine⟨fun v hv=>?_,by simp⟩
  simp only[List.mem_cons,List.not_mem_nil,or_false]at hv
  rcases hv with rfl | rfl <;> rfl
def Ba(r:aK):Prop:=∀ v∈r,bG v=true
theorem zK{f:Addr}{fd:FuncData}(F:Fun K "law" "law" bx f fd) (z_len:mg "len" = none) (z_range:mg "range" = none) (z_list:mg "list" = none) (c_law_cell_at:aQ P w K mg base 1 "_law_cell_at" ["_law_script", "_law_k"] (uu K)) (c_law_words:aQ P w K mg base 1 "_law_words" ["_law_cell", "_law_many"] ph) (c_law_program:aQ P w K mg base 3 "_law_program" ["_law_cells", "_law_names", "_law_words_here", "_law_lends", "_law_deep"] kS) (c_code_of:aQ P w K mg base 35 "code_of" ["program"] (uP NOt 10)) (c_turned_code:aQ P w K mg base 35 "turned_code" ["program"] (nS NOt 10)) (c_law_right:aQ P w K mg base 2 "_law_right" ["_law_code", "_law_at"] j9) (c_law_all_come:aQ P w K mg base 2 "_law_all_come" ["_law_code"] ue):FnOk P w K mg base gA 36 f fd ["_law_script"] (lx K):=by
 refine F.ok sc_law (fun vs H Q E h=>by obtain⟨a,ns,rfl,_⟩:=h; rfl) (fun cdv A outer s H vs Q E hr h=>?_)
 obtain⟨a,ns,rfl,hS,hn,q⟩:=h
 refine⟨_,(aj (aw 1 sc_law.nd (aB c_law_cell_at hr (aa (pv 0 (hv:=vB)) (aa ai ac)) (hg:=zz)) (hx:=De))
   (aj (aw 2 sc_law.nd (aB c_law_cell_at hr (aa (pv 0 (hv:=vB)) (aa ai ac)) (hg:=zz)) (hx:=BN))
   (aj (aw 3 sc_law.nd (aB c_law_words hr (aa (ar fQ (pv 1 (hv:=zJ)) ai) (aa (ar aD ai (ar cH (pv 1 (hv:=zJ)) ai)) ac)) (hg:=zB)) (hx:=B4))
   (aj (aw 4 sc_law.nd (ar aD (aB c_law_words hr (aa (ar fQ (pv 2 (hv:=zh)) ai) (aa ai ac)) (hg:=zB)) (bd (aa ax (aa ax (aa ax (aa ax ac)))))) (hx:=Cp))
   (aj (aw 5 sc_law.nd (aB c_law_program hr (aa (fj (vV K) (pv 0 (hv:=vB)) (eP ai) (eP ai)) (aa (pv 3 (hv:=Dt)) (aa (pv 4 (hv:=BX)) (aa ai (aa ai ac))))) (hg:=By)) (hx:=Cr))
   (aj (b6 (bi bY (ar cH (pv 2 (hv:=zh)) ai) ai (bt _)) (am (aw 6 sc_law.nd (aB c_turned_code hr (aa (pv 5 (hv:=zj)) ac) (hg:=Cc)) (hx:=z_))) (am (aw 6 sc_law.nd (aB c_code_of hr (aa (pv 5 (hv:=zj)) ac) (hg:=CO)) (hx:=z_))))
   (aj (aw 7 sc_law.nd (fg (qf K) z_list jX (aa (pv 6 (hv:=wo)) ac) (hg:=CI)) (hx:=Bo))
   (aj (cA PassesOwn.never rfl (fA Bl z_range (aa (bw (aW K) z_len bH (aa (pv 7 (hv:=vz)) ac) (hg:=CU)) ac)) (bC 8 sc_law.nd (hx:=Ci)) (am (b6 (gC (gT (aB c_law_right hr (aa (pv 6 (hv:=wo)) (aa (pv 8 (hv:=Di)) ac)) (hg:=Dq)))) (am (aN ei)) ci)))
   (am (aN (uA (fJ (p_ K hr) (pv 6 (hv:=wo)) (pv 7 (hv:=vz)) (bt _)) (sS (aB c_law_all_come hr (aa (pv 7 (hv:=vz)) ac) (hg:=CD)))))))))))))),?_⟩
 walk_at "rd1"
 refine⟨a,ns,0,rfl,hS,by decide,?_⟩
 generalize ns.getD (Int.toNat 0) 0=c0
 walk_at "nx"
 refine⟨a,ns,1,rfl,hS,by decide,?_⟩
 generalize ns.getD (Int.toNat 1) 0=c1
 walk_at "nx"
 refine⟨⟨by decide,by decide⟩,by decide,?_⟩
 have hmz:∃ z:Nat,2+c0 % 3=(z:Int)∧2≤z∧z≤4:=⟨(2+c0 % 3).toNat,by omega,by omega,by omega⟩
 obtain⟨mz,emz,A_,Ef⟩:=hmz
 rw[emz]
 refine⟨c0 / 8,mz,rfl,by omega,fun np nm H1 s1 hnp e1 hnl hnw=>?_⟩
 walk_at "nx"
 refine⟨⟨by decide,by decide⟩,?_⟩
 refine⟨c1 / 2,2,rfl,by decide,fun wp ws H2 s2 hwp e2 hwl hww=>?_⟩
 walk_at "rd1"
 refine⟨by decide,fun x4 hx4=>?_⟩
 have s3:=af hx4 (.lst [V.str "open", .str "lend", .str "back", .str "end"])
 have e3:upd H2 x4 (.lst [V.str "open", .str "lend", .str "back", .str "end"]) x4=some (.lst ((["open", "lend", "back", "end"]:List Str).map V.str)):=ae
 generalize upd H2 x4 (.lst [V.str "open", .str "lend", .str "back", .str "end"])=H3 at s3 e3 ⊢
 refine⟨_,_,s3 _ _ e2,e3,by rw[List.length_map,List.length_map,hwl]; exact bF (by simp),fun wq hwq=>?_⟩
 have s4:=af hwq (.lst (ws.map V.str++(["open", "lend", "back", "end"]:List Str).map V.str))
 have e4:upd H3 wq (.lst (ws.map V.str++(["open", "lend", "back", "end"]:List Str).map V.str)) wq=some (.lst ((ws++(["open", "lend", "back", "end"]:List Str)).map V.str)):=by rw[ae,List.map_append]
 generalize upd H3 wq (.lst (ws.map V.str++(["open", "lend", "back", "end"]:List Str).map V.str))=H4 at s4 e4 ⊢
 have hws':∀ x∈ws++(["open", "lend", "back", "end"]:List Str),dQ x:=fun x hx=>by
  rcases List.mem_append.mp hx with hx | hx
  ·exact hww x hx
  ·simp only[List.mem_cons,List.not_mem_nil,or_false]at hx
   rcases hx with rfl | rfl | rfl | rfl <;> exact⟨by decide,by unfold dH; decide⟩
 have hwl':(ws++(["open", "lend", "back", "end"]:List Str)).length=6:=by rw[List.length_append,hwl]; rfl
 generalize ws++(["open", "lend", "back", "end"]:List Str)=ws' at e4 hws' hwl'
 have s14:=s1.trans ((s2.trans s3).trans s4)
 walk_at "nx"
 refine⟨_,s14.seq hS,fun cp hcp=>?_⟩
 rw[xR]
 have hcl:(gW ns (some 2) (some 22)).length≤20:=by
  unfold gW
  rw[List.length_take,List.length_drop]
  have h1:HT.sIx ns.length 0 (some ((2:Nat):Int))=min 2 ns.length:=HT.sIx_nat _ _ 2
  have h2:HT.sIx ns.length ns.length (some ((22:Nat):Int))=min 22 ns.length:=HT.sIx_nat _ _ 22
  rw[show (some (2:Int))=some ((2:Nat):Int) from rfl,show (some (22:Int))=some ((22:Nat):Int) from rfl,h1,h2]
  omega
 have s5:=af hcp (.lst ((gW ns (some 2) (some 22)).map V.int))
 have e5:upd H4 cp (.lst ((gW ns (some 2) (some 22)).map V.int)) cp=some (.lst ((gW ns (some 2) (some 22)).map V.int)):=ae
 generalize gW ns (some 2) (some 22)=cs at hcl s5 e5 ⊢
 generalize upd H4 cp (.lst (cs.map V.int))=H5 at s5 e5 ⊢
 refine⟨cp,np,wq,cs,nm,ws',rfl,e5,s5 _ _ ((s2.trans (s3.trans s4)) _ _ e1),s5 _ _ e4,hcl,by omega,by omega,by omega,by omega,hnw,hws',fun root H6 S T s6 hroot hP hfi hok hcnt=>?_⟩
 have okn:=iB hfi
 have hpc:=jZ 10 T
 have hnf:=tV okn
 have hnl':(cS ((bJ 10 T).flatMap bB)).length≤1000:=by
  have:=fO ((bJ 10 T).flatMap bB) []
  rw[List.length_nil]at this
  unfold cS; omega
 have cin:jd NOt H6 root 10 T (cS ((bJ 10 T).flatMap bB)):=
  ⟨⟨_,hP⟩,hok,⟨_,_,hP,okn,by omega,by omega,rfl⟩,jg 10 hP hok,ml 10 _ okn (fun n hn=>qe hn),by omega,hnl',by decide⟩
 clear s1 s2 s3 s4 e1 e2 e3 e4 hws' hnw hww s14 hS
 walk_at "nx"
 refine⟨by decide,ck (fun cc=>?_) (fun cc=>?_)⟩
 ·refine⟨root,T,_,rfl,cin,fun cq H6 s6' hcq hCq=>?_⟩
  have hcd:=wv (NM:=cS ((bJ 10 T).flatMap bB)) (t:=true) hfi (by omega) (by decide)
  have hpos:1≤(bN (cS ((bJ 10 T).flatMap bB)) 10 true T).length:=by unfold bN; rw[List.length_append]; simp
  have hfl:∀ r∈bN (cS ((bJ 10 T).flatMap bB)) 10 true T,Ba r:=fun r hr v hv=>by
   have:=(oO hfi r hr).1 v hv
   cases v <;> first | rfl | cases this
  generalize bN (cS ((bJ 10 T).flatMap bB)) 10 true T=R at *
  obtain⟨as,ea,eb⟩:=id hCq
  have hl:=aC eb
  have hRl:=hcd.len
  walk_at "nx"
  refine⟨_,.inl (SqL.of ea),fun kq hkq=>?_⟩
  have s7:=af hkq (.lst (as.map V.ref))
  have e7:upd H6 kq (.lst (as.map V.ref)) kq=some (.lst (as.map V.ref)):=ae
  generalize upd H6 kq (.lst (as.map V.ref))=H7 at s7 e7 ⊢
  have hC7:=hCq.mono s7
  have hK7:ListR H7 kq R:=⟨as,e7,Paired.imp' (fun _ _ z=>s7 _ _ z) eb⟩
  walk_at "nx"
  refine⟨_,.inl (SqL.of e7),?_⟩
  rw[List.length_map,hl]
  refine⟨by omega,by omega,?_⟩
  rw[Int.toNat_natCast]
  refine eO (fun i σ H'=>∃ o8:Option V,σ=[some (.ref a),some (.int c0),some (.int c1),some (.ref np),some (.ref wq),some (.ref root),some (.ref cq),some (.ref kq),o8]∧Same H7 H') ⟨none,rfl,fun _ _ z=>z⟩ ?_ ?_
  ·rintro i σ H' hi ⟨o8,rfl,sm⟩
   have hri:=List.getElem?_eq_getElem hi
   rw[Int.zero_add]
   walk_at "rd1"
   refine⟨cq,R,i,R[i],rfl,hC7.mono sm,hcd,hri,fun H8 s8=>?_⟩
   walk_at "rd1"
   exact⟨_,rfl,sm.trans s8⟩
  ·rintro σ H8 ⟨o8,rfl,s8⟩
   have hC8:=hC7.mono s8
   have hK8:=hK7.mono s8
   have ea8:=s8 _ _ (s7 _ _ ea)
   have ek8:=s8 _ _ e7
   have eb8:Paired (aZ H8) as R:=Paired.imp' (fun _ _ z=>s8 _ _ (s7 _ _ z)) eb
   walk_at "nx"
   refine⟨1,true,by decide,EqN.seq (.inl ⟨SqL.of ea8,SqL.of ek8⟩) rfl (fun i x y e1 e2=>?_),?_⟩
   ·rw[e1]at e2
    cases e2
    have hi:i<as.length:=by have:=(List.getElem?_eq_some_iff.mp e1).1; simpa using this
    rw[List.getElem?_map,List.getElem?_eq_getElem hi]at e1
    cases e1
    obtain⟨r,hr1,hr2⟩:=bP eb8 (List.getElem?_eq_getElem hi)
    exact EqN.seqFlat (.inr ⟨SqT.of hr2,SqT.of hr2⟩) (hfl r (List.mem_of_getElem? hr1))
   ·exact⟨kq,R,rfl,hK8,hcd,hpos,fun H9 s9=>q H9⟩
 ·refine⟨root,T,_,rfl,cin,fun cq H6 s6' hcq hCq=>?_⟩
  have hcd:=wv (NM:=cS ((bJ 10 T).flatMap bB)) (t:=false) hfi (by omega) (by decide)
  have hpos:1≤(bN (cS ((bJ 10 T).flatMap bB)) 10 false T).length:=by unfold bN; rw[List.length_append]; simp
  have hfl:∀ r∈bN (cS ((bJ 10 T).flatMap bB)) 10 false T,Ba r:=fun r hr v hv=>by
   have:=(oO hfi r hr).1 v hv
   cases v <;> first | rfl | cases this
  generalize bN (cS ((bJ 10 T).flatMap bB)) 10 false T=R at *
  obtain⟨as,ea,eb⟩:=id hCq
  have hl:=aC eb
  have hRl:=hcd.len
  walk_at "nx"
  refine⟨_,.inl (SqL.of ea),fun kq hkq=>?_⟩
  have s7:=af hkq (.lst (as.map V.ref))
  have e7:upd H6 kq (.lst (as.map V.ref)) kq=some (.lst (as.map V.ref)):=ae
  generalize upd H6 kq (.lst (as.map V.ref))=H7 at s7 e7 ⊢
  have hC7:=hCq.mono s7
  have hK7:ListR H7 kq R:=⟨as,e7,Paired.imp' (fun _ _ z=>s7 _ _ z) eb⟩
  walk_at "nx"
  refine⟨_,.inl (SqL.of e7),?_⟩
  rw[List.length_map,hl]
  refine⟨by omega,by omega,?_⟩
  rw[Int.toNat_natCast]
  refine eO (fun i σ H'=>∃ o8:Option V,σ=[some (.ref a),some (.int c0),some (.int c1),some (.ref np),some (.ref wq),some (.ref root),some (.ref cq),some (.ref kq),o8]∧Same H7 H') ⟨none,rfl,fun _ _ z=>z⟩ ?_ ?_
  ·rintro i σ H' hi ⟨o8,rfl,sm⟩
   have hri:=List.getElem?_eq_getElem hi
   rw[Int.zero_add]
   walk_at "rd1"
   refine⟨cq,R,i,R[i],rfl,hC7.mono sm,hcd,hri,fun H8 s8=>?_⟩
   walk_at "rd1"
   exact⟨_,rfl,sm.trans s8⟩
  ·rintro σ H8 ⟨o8,rfl,s8⟩
   have hC8:=hC7.mono s8
   have hK8:=hK7.mono s8
   have ea8:=s8 _ _ (s7 _ _ ea)
   have ek8:=s8 _ _ e7
   have eb8:Paired (aZ H8) as R:=Paired.imp' (fun _ _ z=>s8 _ _ (s7 _ _ z)) eb
   walk_at "nx"
   refine⟨1,true,by decide,EqN.seq (.inl ⟨SqL.of ea8,SqL.of ek8⟩) rfl (fun i x y e1 e2=>?_),?_⟩
   ·rw[e1]at e2
    cases e2
    have hi:i<as.length:=by have:=(List.getElem?_eq_some_iff.mp e1).1; simpa using this
    rw[List.getElem?_map,List.getElem?_eq_getElem hi]at e1
    cases e1
    obtain⟨r,hr1,hr2⟩:=bP eb8 (List.getElem?_eq_getElem hi)
    exact EqN.seqFlat (.inr ⟨SqT.of hr2,SqT.of hr2⟩) (hfl r (List.mem_of_getElem? hr1))
   ·exact⟨kq,R,rfl,hK8,hcd,hpos,fun H9 s9=>q H9⟩
end
theorem v6{K:PySem.W.Frag}{a0 a1 a2 a3 a4 a5 a6 a7:Addr}(q0:∀ H:Hp,SqT K H a0 [.str "name"]) (q1:∀ H:Hp,SqT K H a1 [.str "word", .str "name"]) (q2:∀ H:Hp,SqT K H a2 [.str "name", .str "name"]) (q3:∀ H:Hp,SqT K H a3 [.str "name"]) (q4:∀ H:Hp,SqT K H a4 [.str "name", .str "name"]) (q5:∀ H:Hp,SqT K H a5 [.str "name", .str "name", .str "steps"]) (q6:∀ H:Hp,SqT K H a6 [.str "bound", .str "steps", .str "steps"]) (q7:∀ H:Hp,SqT K H a7 [.str "bound", .str "steps"]) :
  ∀ kind ks,(kind,ks)∈c_→∃ a,bE [(("open" : Str),V.ref a0),(("do" : Str),V.ref a1),(("copy" : Str),V.ref a2),(("drop" : Str),V.ref a3),(("tie" : Str),V.ref a4),(("lend" : Str),V.ref a5),(("if" : Str),V.ref a6),(("while" : Str),V.ref a7)] kind=some (.ref a)∧∀ H:Hp,SqT K H a (ks.map V.str):=by
 intro kind ks h
 simp only[c_,List.mem_cons,Prod.mk.injEq,List.mem_nil_iff,or_false]at h
 rcases h with ⟨rfl,rfl⟩ | ⟨rfl,rfl⟩ | ⟨rfl,rfl⟩ | ⟨rfl,rfl⟩ | ⟨rfl,rfl⟩ | ⟨rfl,rfl⟩ | ⟨rfl,rfl⟩ | ⟨rfl,rfl⟩
 ·exact⟨a0,rfl,q0⟩
 ·exact⟨a1,rfl,q1⟩
 ·exact⟨a2,rfl,q2⟩
 ·exact⟨a3,rfl,q3⟩
 ·exact⟨a4,rfl,q4⟩
 ·exact⟨a5,rfl,q5⟩
 ·exact⟨a6,rfl,q6⟩
 ·exact⟨a7,rfl,q7⟩
theorem all_mk{l:PySem.W.OpenLaw}{w:World}{K:PySem.W.Frag}{h:Heap}{mg:Str→Option Value}{fa:Addr}(X:K.In h)(G:h.Ns mainGlobals mg)(hfa:mg "law" = some (.ref fa))
  {f0:Addr} {od0 an0:Option Addr} {sl0:Array (Option Value)} {oc0 kV0 dc0 pm0 cd0 ct0:Value} {f1:Addr} {od1 an1:Option Addr} {sl1:Array (Option Value)} {oc1 kV1 dc1 pm1 cd1 ct1:Value} {f2:Addr} {od2 an2:Option Addr} {sl2:Array (Option Value)} {oc2 kV2 dc2 pm2 cd2 ct2:Value} {f3:Addr} {od3 an3:Option Addr} {sl3:Array (Option Value)} {oc3 kV3 dc3 pm3 cd3 ct3:Value} {f4:Addr} {od4 an4:Option Addr} {sl4:Array (Option Value)} {oc4 kV4 dc4 pm4 cd4 ct4:Value} {f5:Addr} {od5 an5:Option Addr} {sl5:Array (Option Value)} {oc5 kV5 dc5 pm5 cd5 ct5:Value} {f6:Addr} {od6 an6:Option Addr} {sl6:Array (Option Value)} {oc6 kV6 dc6 pm6 cd6 ct6:Value} {f7:Addr} {od7 an7:Option Addr} {sl7:Array (Option Value)} {oc7 kV7 dc7 pm7 cd7 ct7:Value} {f8:Addr} {od8 an8:Option Addr} {sl8:Array (Option Value)} {oc8 kV8 dc8 pm8 cd8 ct8:Value} {f9:Addr} {od9 an9:Option Addr} {sl9:Array (Option Value)} {oc9 kV9 dc9 pm9 cd9 ct9:Value} {f10:Addr} {od10 an10:Option Addr} {sl10:Array (Option Value)} {oc10 kV10 dc10 pm10 cd10 ct10:Value} {f11:Addr} {od11 an11:Option Addr} {sl11:Array (Option Value)} {oc11 kV11 dc11 pm11 cd11 ct11:Value} {f12:Addr} {od12 an12:Option Addr} {sl12:Array (Option Value)} {oc12 kV12 dc12 pm12 cd12 ct12:Value} {f13:Addr} {od13 an13:Option Addr} {sl13:Array (Option Value)} {oc13 kV13 dc13 pm13 cd13 ct13:Value} {f14:Addr} {od14 an14:Option Addr} {sl14:Array (Option Value)} {oc14 kV14 dc14 pm14 cd14 ct14:Value} {f15:Addr} {od15 an15:Option Addr} {sl15:Array (Option Value)} {oc15 kV15 dc15 pm15 cd15 ct15:Value} {f16:Addr} {od16 an16:Option Addr} {sl16:Array (Option Value)} {oc16 kV16 dc16 pm16 cd16 ct16:Value} {f17:Addr} {od17 an17:Option Addr} {sl17:Array (Option Value)} {oc17 kV17 dc17 pm17 cd17 ct17:Value} {f18:Addr} {od18 an18:Option Addr} {sl18:Array (Option Value)} {oc18 kV18 dc18 pm18 cd18 ct18:Value} {f19:Addr} {od19 an19:Option Addr} {sl19:Array (Option Value)} {oc19 kV19 dc19 pm19 cd19 ct19:Value} {f20:Addr} {od20 an20:Option Addr} {sl20:Array (Option Value)} {oc20 kV20 dc20 pm20 cd20 ct20:Value} {f21:Addr} {od21 an21:Option Addr} {sl21:Array (Option Value)} {oc21 kV21 dc21 pm21 cd21 ct21:Value} {f22:Addr} {od22 an22:Option Addr} {sl22:Array (Option Value)} {oc22 kV22 dc22 pm22 cd22 ct22:Value} {f23:Addr} {od23 an23:Option Addr} {sl23:Array (Option Value)} {oc23 kV23 dc23 pm23 cd23 ct23:Value} {f24:Addr} {od24 an24:Option Addr} {sl24:Array (Option Value)} {oc24 kV24 dc24 pm24 cd24 ct24:Value} {f25:Addr} {od25 an25:Option Addr} {sl25:Array (Option Value)} {oc25 kV25 dc25 pm25 cd25 ct25:Value} {f26:Addr} {od26 an26:Option Addr} {sl26:Array (Option Value)} {oc26 kV26 dc26 pm26 cd26 ct26:Value} {f27:Addr} {od27 an27:Option Addr} {sl27:Array (Option Value)} {oc27 kV27 dc27 pm27 cd27 ct27:Value} {f28:Addr} {od28 an28:Option Addr} {sl28:Array (Option Value)} {oc28 kV28 dc28 pm28 cd28 ct28:Value} {f29:Addr} {od29 an29:Option Addr} {sl29:Array (Option Value)} {oc29 kV29 dc29 pm29 cd29 ct29:Value} {f30:Addr} {od30 an30:Option Addr} {sl30:Array (Option Value)} {oc30 kV30 dc30 pm30 cd30 ct30:Value} {f31:Addr} {od31 an31:Option Addr} {sl31:Array (Option Value)} {oc31 kV31 dc31 pm31 cd31 ct31:Value} {f32:Addr} {od32 an32:Option Addr} {sl32:Array (Option Value)} {oc32 kV32 dc32 pm32 cd32 ct32:Value} {C_NumberedStep:Addr} {fNumberedStep___init__:Addr} {odNumberedStep___init__ anNumberedStep___init__:Option Addr} {slNumberedStep___init__:Array (Option Value)} {ocNumberedStep___init__ kVNumberedStep___init__ dcNumberedStep___init__ pmNumberedStep___init__ cdNumberedStep___init__ ctNumberedStep___init__:Value} {d_PARTS:Addr} {n_PARTS:Nat} {k_PARTS_0:Tok} {a_PARTS_0:Addr} {od_PARTS_0:Option Addr} {m_PARTS_0:Nat} {sl_PARTS_0:Array (Option Value)} {k_PARTS_0_0:Tok} {k_PARTS_1:Tok} {a_PARTS_1:Addr} {od_PARTS_1:Option Addr} {m_PARTS_1:Nat} {sl_PARTS_1:Array (Option Value)} {k_PARTS_1_0:Tok} {k_PARTS_1_1:Tok} {k_PARTS_2:Tok} {a_PARTS_2:Addr} {od_PARTS_2:Option Addr} {m_PARTS_2:Nat} {sl_PARTS_2:Array (Option Value)} {k_PARTS_2_0:Tok} {k_PARTS_2_1:Tok} {k_PARTS_3:Tok} {a_PARTS_3:Addr} {od_PARTS_3:Option Addr} {m_PARTS_3:Nat} {sl_PARTS_3:Array (Option Value)} {k_PARTS_3_0:Tok} {k_PARTS_4:Tok} {a_PARTS_4:Addr} {od_PARTS_4:Option Addr} {m_PARTS_4:Nat} {sl_PARTS_4:Array (Option Value)} {k_PARTS_4_0:Tok} {k_PARTS_4_1:Tok} {k_PARTS_5:Tok} {a_PARTS_5:Addr} {od_PARTS_5:Option Addr} {m_PARTS_5:Nat} {sl_PARTS_5:Array (Option Value)} {k_PARTS_5_0:Tok} {k_PARTS_5_1:Tok} {k_PARTS_5_2:Tok} {k_PARTS_6:Tok} {a_PARTS_6:Addr} {od_PARTS_6:Option Addr} {m_PARTS_6:Nat} {sl_PARTS_6:Array (Option Value)} {k_PARTS_6_0:Tok} {k_PARTS_6_1:Tok} {k_PARTS_6_2:Tok} {k_PARTS_7:Tok} {a_PARTS_7:Addr} {od_PARTS_7:Option Addr} {m_PARTS_7:Nat} {sl_PARTS_7:Array (Option Value)} {k_PARTS_7_0:Tok} {k_PARTS_7_1:Tok} {d_CLOSERS:Addr} {n_CLOSERS:Nat} {k_CLOSERS_0:Tok} {a_CLOSERS_0:Addr} {od_CLOSERS_0:Option Addr} {m_CLOSERS_0:Nat} {sl_CLOSERS_0:Array (Option Value)} {k_CLOSERS_0_0:Tok} {k_CLOSERS_1:Tok} {a_CLOSERS_1:Addr} {od_CLOSERS_1:Option Addr} {m_CLOSERS_1:Nat} {sl_CLOSERS_1:Array (Option Value)} {k_CLOSERS_1_0:Tok} {k_CLOSERS_1_1:Tok} {k_CLOSERS_2:Tok} {a_CLOSERS_2:Addr} {od_CLOSERS_2:Option Addr} {m_CLOSERS_2:Nat} {sl_CLOSERS_2:Array (Option Value)} {k_CLOSERS_2_0:Tok}
  (a0:PySem.W.nsIn K mainGlobals "closers_of" = some (some (.ref f0))) (l0:K.lookup f0=some ⟨oc0,od0,.func (PySem.W.fnOf "closers_of" "closers_of" (defArgs b9) (defBody b9) (defScope b9) .none kV0 dc0 pm0 an0 cd0 ct0),sl0⟩) (c0:PySem.W.codeIn K cd0 "closers_of" = true) (k0:PySem.W.keepIn K (.ref f0)=true)
  (a1:PySem.W.nsIn K mainGlobals "head_of" = some (some (.ref f1))) (l1:K.lookup f1=some ⟨oc1,od1,.func (PySem.W.fnOf "head_of" "head_of" (defArgs cE) (defBody cE) (defScope cE) .none kV1 dc1 pm1 an1 cd1 ct1),sl1⟩) (c1:PySem.W.codeIn K cd1 "head_of" = true) (k1:PySem.W.keepIn K (.ref f1)=true)
  (a2:PySem.W.nsIn K mainGlobals "blocks_of" = some (some (.ref f2))) (l2:K.lookup f2=some ⟨oc2,od2,.func (PySem.W.fnOf "blocks_of" "blocks_of" (defArgs b8) (defBody b8) (defScope b8) .none kV2 dc2 pm2 an2 cd2 ct2),sl2⟩) (c2:PySem.W.codeIn K cd2 "blocks_of" = true) (k2:PySem.W.keepIn K (.ref f2)=true)
  (a3:PySem.W.nsIn K mainGlobals "steps_within" = some (some (.ref f3))) (l3:K.lookup f3=some ⟨oc3,od3,.func (PySem.W.fnOf "steps_within" "steps_within" (defArgs aS) (defBody aS) (defScope aS) .none kV3 dc3 pm3 an3 cd3 ct3),sl3⟩) (c3:PySem.W.codeIn K cd3 "steps_within" = true) (k3:PySem.W.keepIn K (.ref f3)=true)
  (a4:PySem.W.nsIn K mainGlobals "names_in" = some (some (.ref f4))) (l4:K.lookup f4=some ⟨oc4,od4,.func (PySem.W.fnOf "names_in" "names_in" (defArgs bo) (defBody bo) (defScope bo) .none kV4 dc4 pm4 an4 cd4 ct4),sl4⟩) (c4:PySem.W.codeIn K cd4 "names_in" = true) (k4:PySem.W.keepIn K (.ref f4)=true)
  (a5:PySem.W.nsIn K mainGlobals "names_of" = some (some (.ref f5))) (l5:K.lookup f5=some ⟨oc5,od5,.func (PySem.W.fnOf "names_of" "names_of" (defArgs cn) (defBody cn) (defScope cn) .none kV5 dc5 pm5 an5 cd5 ct5),sl5⟩) (c5:PySem.W.codeIn K cd5 "names_of" = true) (k5:PySem.W.keepIn K (.ref f5)=true)
  (a6:PySem.W.nsIn K mainGlobals "lines_of" = some (some (.ref f6))) (l6:K.lookup f6=some ⟨oc6,od6,.func (PySem.W.fnOf "lines_of" "lines_of" (defArgs aJ) (defBody aJ) (defScope aJ) .none kV6 dc6 pm6 an6 cd6 ct6),sl6⟩) (c6:PySem.W.codeIn K cd6 "lines_of" = true) (k6:PySem.W.keepIn K (.ref f6)=true)
  (a7:PySem.W.nsIn K mainGlobals "line_behind" = some (some (.ref f7))) (l7:K.lookup f7=some ⟨oc7,od7,.func (PySem.W.fnOf "line_behind" "line_behind" (defArgs bQ) (defBody bQ) (defScope bQ) .none kV7 dc7 pm7 an7 cd7 ct7),sl7⟩) (c7:PySem.W.codeIn K cd7 "line_behind" = true) (k7:PySem.W.keepIn K (.ref f7)=true)
  (a8:PySem.W.nsIn K mainGlobals "numbered_step" = some (some (.ref f8))) (l8:K.lookup f8=some ⟨oc8,od8,.func (PySem.W.fnOf "numbered_step" "numbered_step" (defArgs ay) (defBody ay) (defScope ay) .none kV8 dc8 pm8 an8 cd8 ct8),sl8⟩) (c8:PySem.W.codeIn K cd8 "numbered_step" = true) (k8:PySem.W.keepIn K (.ref f8)=true)
  (a9:PySem.W.nsIn K mainGlobals "numbered_steps" = some (some (.ref f9))) (l9:K.lookup f9=some ⟨oc9,od9,.func (PySem.W.fnOf "numbered_steps" "numbered_steps" (defArgs aP) (defBody aP) (defScope aP) .none kV9 dc9 pm9 an9 cd9 ct9),sl9⟩) (c9:PySem.W.codeIn K cd9 "numbered_steps" = true) (k9:PySem.W.keepIn K (.ref f9)=true)
  (a10:PySem.W.nsIn K mainGlobals "lend_lines" = some (some (.ref f10))) (l10:K.lookup f10=some ⟨oc10,od10,.func (PySem.W.fnOf "lend_lines" "lend_lines" (defArgs bg) (defBody bg) (defScope bg) .none kV10 dc10 pm10 an10 cd10 ct10),sl10⟩) (c10:PySem.W.codeIn K cd10 "lend_lines" = true) (k10:PySem.W.keepIn K (.ref f10)=true)
  (a11:PySem.W.nsIn K mainGlobals "slots_of" = some (some (.ref f11))) (l11:K.lookup f11=some ⟨oc11,od11,.func (PySem.W.fnOf "slots_of" "slots_of" (defArgs bA) (defBody bA) (defScope bA) .none kV11 dc11 pm11 an11 cd11 ct11),sl11⟩) (c11:PySem.W.codeIn K cd11 "slots_of" = true) (k11:PySem.W.keepIn K (.ref f11)=true)
  (a12:PySem.W.nsIn K mainGlobals "simple_row" = some (some (.ref f12))) (l12:K.lookup f12=some ⟨oc12,od12,.func (PySem.W.fnOf "simple_row" "simple_row" (defArgs aY) (defBody aY) (defScope aY) .none kV12 dc12 pm12 an12 cd12 ct12),sl12⟩) (c12:PySem.W.codeIn K cd12 "simple_row" = true) (k12:PySem.W.keepIn K (.ref f12)=true)
  (a13:PySem.W.nsIn K mainGlobals "lend_rows" = some (some (.ref f13))) (l13:K.lookup f13=some ⟨oc13,od13,.func (PySem.W.fnOf "lend_rows" "lend_rows" (defArgs aF) (defBody aF) (defScope aF) .none kV13 dc13 pm13 an13 cd13 ct13),sl13⟩) (c13:PySem.W.codeIn K cd13 "lend_rows" = true) (k13:PySem.W.keepIn K (.ref f13)=true)
  (a14:PySem.W.nsIn K mainGlobals "if_rows" = some (some (.ref f14))) (l14:K.lookup f14=some ⟨oc14,od14,.func (PySem.W.fnOf "if_rows" "if_rows" (defArgs a_) (defBody a_) (defScope a_) .none kV14 dc14 pm14 an14 cd14 ct14),sl14⟩) (c14:PySem.W.codeIn K cd14 "if_rows" = true) (k14:PySem.W.keepIn K (.ref f14)=true)
  (a15:PySem.W.nsIn K mainGlobals "loop_rows" = some (some (.ref f15))) (l15:K.lookup f15=some ⟨oc15,od15,.func (PySem.W.fnOf "loop_rows" "loop_rows" (defArgs bq) (defBody bq) (defScope bq) .none kV15 dc15 pm15 an15 cd15 ct15),sl15⟩) (c15:PySem.W.codeIn K cd15 "loop_rows" = true) (k15:PySem.W.keepIn K (.ref f15)=true)
  (a16:PySem.W.nsIn K mainGlobals "while_rows" = some (some (.ref f16))) (l16:K.lookup f16=some ⟨oc16,od16,.func (PySem.W.fnOf "while_rows" "while_rows" (defArgs aM) (defBody aM) (defScope aM) .none kV16 dc16 pm16 an16 cd16 ct16),sl16⟩) (c16:PySem.W.codeIn K cd16 "while_rows" = true) (k16:PySem.W.keepIn K (.ref f16)=true)
  (a17:PySem.W.nsIn K mainGlobals "rows_of" = some (some (.ref f17))) (l17:K.lookup f17=some ⟨oc17,od17,.func (PySem.W.fnOf "rows_of" "rows_of" (defArgs bm) (defBody bm) (defScope bm) .none kV17 dc17 pm17 an17 cd17 ct17),sl17⟩) (c17:PySem.W.codeIn K cd17 "rows_of" = true) (k17:PySem.W.keepIn K (.ref f17)=true)
  (a18:PySem.W.nsIn K mainGlobals "rows_and_end" = some (some (.ref f18))) (l18:K.lookup f18=some ⟨oc18,od18,.func (PySem.W.fnOf "rows_and_end" "rows_and_end" (defArgs ba) (defBody ba) (defScope ba) .none kV18 dc18 pm18 an18 cd18 ct18),sl18⟩) (c18:PySem.W.codeIn K cd18 "rows_and_end" = true) (k18:PySem.W.keepIn K (.ref f18)=true)
  (a19:PySem.W.nsIn K mainGlobals "code_of" = some (some (.ref f19))) (l19:K.lookup f19=some ⟨oc19,od19,.func (PySem.W.fnOf "code_of" "code_of" (defArgs cL) (defBody cL) (defScope cL) .none kV19 dc19 pm19 an19 cd19 ct19),sl19⟩) (c19:PySem.W.codeIn K cd19 "code_of" = true) (k19:PySem.W.keepIn K (.ref f19)=true)
  (a20:PySem.W.nsIn K mainGlobals "turned_code" = some (some (.ref f20))) (l20:K.lookup f20=some ⟨oc20,od20,.func (PySem.W.fnOf "turned_code" "turned_code" (defArgs bW) (defBody bW) (defScope bW) .none kV20 dc20 pm20 an20 cd20 ct20),sl20⟩) (c20:PySem.W.codeIn K cd20 "turned_code" = true) (k20:PySem.W.keepIn K (.ref f20)=true)
  (a21:PySem.W.nsIn K mainGlobals "rows_behind" = some (some (.ref f21))) (l21:K.lookup f21=some ⟨oc21,od21,.func (PySem.W.fnOf "rows_behind" "rows_behind" (defArgs bz) (defBody bz) (defScope bz) .none kV21 dc21 pm21 an21 cd21 ct21),sl21⟩) (c21:PySem.W.codeIn K cd21 "rows_behind" = true) (k21:PySem.W.keepIn K (.ref f21)=true)
  (a22:PySem.W.nsIn K mainGlobals "_law_whole" = some (some (.ref f22))) (l22:K.lookup f22=some ⟨oc22,od22,.func (PySem.W.fnOf "_law_whole" "_law_whole" (defArgs bU) (defBody bU) (defScope bU) .none kV22 dc22 pm22 an22 cd22 ct22),sl22⟩) (c22:PySem.W.codeIn K cd22 "_law_whole" = true) (k22:PySem.W.keepIn K (.ref f22)=true)
  (a23:PySem.W.nsIn K mainGlobals "_law_cell_at" = some (some (.ref f23))) (l23:K.lookup f23=some ⟨oc23,od23,.func (PySem.W.fnOf "_law_cell_at" "_law_cell_at" (defArgs bR) (defBody bR) (defScope bR) .none kV23 dc23 pm23 an23 cd23 ct23),sl23⟩) (c23:PySem.W.codeIn K cd23 "_law_cell_at" = true) (k23:PySem.W.keepIn K (.ref f23)=true)
  (a24:PySem.W.nsIn K mainGlobals "_law_words" = some (some (.ref f24))) (l24:K.lookup f24=some ⟨oc24,od24,.func (PySem.W.fnOf "_law_words" "_law_words" (defArgs az) (defBody az) (defScope az) .none kV24 dc24 pm24 an24 cd24 ct24),sl24⟩) (c24:PySem.W.codeIn K cd24 "_law_words" = true) (k24:PySem.W.keepIn K (.ref f24)=true)
  (a25:PySem.W.nsIn K mainGlobals "_law_step" = some (some (.ref f25))) (l25:K.lookup f25=some ⟨oc25,od25,.func (PySem.W.fnOf "_law_step" "_law_step" (defArgs bf) (defBody bf) (defScope bf) .none kV25 dc25 pm25 an25 cd25 ct25),sl25⟩) (c25:PySem.W.codeIn K cd25 "_law_step" = true) (k25:PySem.W.keepIn K (.ref f25)=true)
  (a26:PySem.W.nsIn K mainGlobals "_law_put" = some (some (.ref f26))) (l26:K.lookup f26=some ⟨oc26,od26,.func (PySem.W.fnOf "_law_put" "_law_put" (defArgs cM) (defBody cM) (defScope cM) .none kV26 dc26 pm26 an26 cd26 ct26),sl26⟩) (c26:PySem.W.codeIn K cd26 "_law_put" = true) (k26:PySem.W.keepIn K (.ref f26)=true)
  (a27:PySem.W.nsIn K mainGlobals "_law_close" = some (some (.ref f27))) (l27:K.lookup f27=some ⟨oc27,od27,.func (PySem.W.fnOf "_law_close" "_law_close" (defArgs bv) (defBody bv) (defScope bv) .none kV27 dc27 pm27 an27 cd27 ct27),sl27⟩) (c27:PySem.W.codeIn K cd27 "_law_close" = true) (k27:PySem.W.keepIn K (.ref f27)=true)
  (a28:PySem.W.nsIn K mainGlobals "_law_program" = some (some (.ref f28))) (l28:K.lookup f28=some ⟨oc28,od28,.func (PySem.W.fnOf "_law_program" "_law_program" (defArgs aE) (defBody aE) (defScope aE) .none kV28 dc28 pm28 an28 cd28 ct28),sl28⟩) (c28:PySem.W.codeIn K cd28 "_law_program" = true) (k28:PySem.W.keepIn K (.ref f28)=true)
  (a29:PySem.W.nsIn K mainGlobals "_law_due" = some (some (.ref f29))) (l29:K.lookup f29=some ⟨oc29,od29,.func (PySem.W.fnOf "_law_due" "_law_due" (defArgs cD) (defBody cD) (defScope cD) .none kV29 dc29 pm29 an29 cd29 ct29),sl29⟩) (c29:PySem.W.codeIn K cd29 "_law_due" = true) (k29:PySem.W.keepIn K (.ref f29)=true)
  (a30:PySem.W.nsIn K mainGlobals "_law_right" = some (some (.ref f30))) (l30:K.lookup f30=some ⟨oc30,od30,.func (PySem.W.fnOf "_law_right" "_law_right" (defArgs aR) (defBody aR) (defScope aR) .none kV30 dc30 pm30 an30 cd30 ct30),sl30⟩) (c30:PySem.W.codeIn K cd30 "_law_right" = true) (k30:PySem.W.keepIn K (.ref f30)=true)
  (a31:PySem.W.nsIn K mainGlobals "_law_all_come" = some (some (.ref f31))) (l31:K.lookup f31=some ⟨oc31,od31,.func (PySem.W.fnOf "_law_all_come" "_law_all_come" (defArgs aL) (defBody aL) (defScope aL) .none kV31 dc31 pm31 an31 cd31 ct31),sl31⟩) (c31:PySem.W.codeIn K cd31 "_law_all_come" = true) (k31:PySem.W.keepIn K (.ref f31)=true)
  (a32:PySem.W.nsIn K mainGlobals "law" = some (some (.ref f32))) (l32:K.lookup f32=some ⟨oc32,od32,.func (PySem.W.fnOf "law" "law" (defArgs bx) (defBody bx) (defScope bx) .none kV32 dc32 pm32 an32 cd32 ct32),sl32⟩) (c32:PySem.W.codeIn K cd32 "law" = true) (k32:PySem.W.keepIn K (.ref f32)=true)
  (y_isinstance:PySem.W.nsIn K mainGlobals "isinstance" = some none)
  (y_str:PySem.W.nsIn K mainGlobals "str" = some none)
  (y_int:PySem.W.nsIn K mainGlobals "int" = some none)
  (y_bool:PySem.W.nsIn K mainGlobals "bool" = some none)
  (y_tuple:PySem.W.nsIn K mainGlobals "tuple" = some none)
  (y_len:PySem.W.nsIn K mainGlobals "len" = some none)
  (y_range:PySem.W.nsIn K mainGlobals "range" = some none)
  (y_list:PySem.W.nsIn K mainGlobals "list" = some none)
  (y_zip:PySem.W.nsIn K mainGlobals "zip" = some none)
  (y_enumerate:PySem.W.nsIn K mainGlobals "enumerate" = some none)
  (y_sorted:PySem.W.nsIn K mainGlobals "sorted" = some none)
  (y_set:PySem.W.nsIn K mainGlobals "set" = some none)
  (n_NumberedStep:PySem.W.nsIn K mainGlobals "NumberedStep" = some (some (.ref C_NumberedStep))) (pg_NumberedStep:PySem.W.plainGet K C_NumberedStep Str.empty=true) (hd_NumberedStep:PySem.W.hasDictIn K C_NumberedStep=true) (po_NumberedStep:PySem.W.plainOver K C_NumberedStep=true) (sa_NumberedStep:PySem.W.findIn K (.ref C_NumberedStep) "__setattr__" = some (some (.builtin "object.__setattr__"))) (mk_NumberedStep:PySem.W.makesIn K C_NumberedStep=true) (kc_NumberedStep:PySem.W.keepIn K (.ref C_NumberedStep)=true)
  (nf_kind:PySem.W.findIn K (.ref C_NumberedStep) "kind" = some none)
  (nf_parts:PySem.W.findIn K (.ref C_NumberedStep) "parts" = some none)
  (nf_lines:PySem.W.findIn K (.ref C_NumberedStep) "lines" = some none)
  (nf_blocks:PySem.W.findIn K (.ref C_NumberedStep) "blocks" = some none)
  (aNumberedStep___init__:PySem.W.findIn K (.ref C_NumberedStep) "__init__" = some (some (.ref fNumberedStep___init__))) (iNumberedStep___init__:PySem.W.isFn K (.ref fNumberedStep___init__)=true) (lNumberedStep___init__:K.lookup fNumberedStep___init__=some ⟨ocNumberedStep___init__,odNumberedStep___init__,.func (PySem.W.fnOf "__init__" "NumberedStep.__init__" (defArgs aI) (defBody aI) (defScope aI) .none kVNumberedStep___init__ dcNumberedStep___init__ pmNumberedStep___init__ anNumberedStep___init__ cdNumberedStep___init__ ctNumberedStep___init__),slNumberedStep___init__⟩) (cNumberedStep___init__:PySem.W.codeIn K cdNumberedStep___init__ "NumberedStep.__init__" = true) (kNumberedStep___init__:PySem.W.keepIn K (.ref fNumberedStep___init__)=true)
  (h_PARTS:PySem.W.nsIn K mainGlobals "PARTS" = some (some (.ref d_PARTS)))
  (ld_PARTS:K.lookup d_PARTS=some ⟨.type "dict", none,.dict #[⟨PyData.keyHash w.params "open", .str "open" k_PARTS_0,.ref a_PARTS_0⟩,⟨PyData.keyHash w.params "do", .str "do" k_PARTS_1,.ref a_PARTS_1⟩,⟨PyData.keyHash w.params "copy", .str "copy" k_PARTS_2,.ref a_PARTS_2⟩,⟨PyData.keyHash w.params "drop", .str "drop" k_PARTS_3,.ref a_PARTS_3⟩,⟨PyData.keyHash w.params "tie", .str "tie" k_PARTS_4,.ref a_PARTS_4⟩,⟨PyData.keyHash w.params "lend", .str "lend" k_PARTS_5,.ref a_PARTS_5⟩,⟨PyData.keyHash w.params "if", .str "if" k_PARTS_6,.ref a_PARTS_6⟩,⟨PyData.keyHash w.params "while", .str "while" k_PARTS_7,.ref a_PARTS_7⟩] n_PARTS,#[]⟩)
  (la_PARTS_0:K.lookup a_PARTS_0=some ⟨.type "tuple", od_PARTS_0,.seq #[.str "name" k_PARTS_0_0] m_PARTS_0,sl_PARTS_0⟩)
  (la_PARTS_1:K.lookup a_PARTS_1=some ⟨.type "tuple", od_PARTS_1,.seq #[.str "word" k_PARTS_1_0,.str "name" k_PARTS_1_1] m_PARTS_1,sl_PARTS_1⟩)
  (la_PARTS_2:K.lookup a_PARTS_2=some ⟨.type "tuple", od_PARTS_2,.seq #[.str "name" k_PARTS_2_0,.str "name" k_PARTS_2_1] m_PARTS_2,sl_PARTS_2⟩)
  (la_PARTS_3:K.lookup a_PARTS_3=some ⟨.type "tuple", od_PARTS_3,.seq #[.str "name" k_PARTS_3_0] m_PARTS_3,sl_PARTS_3⟩)
  (la_PARTS_4:K.lookup a_PARTS_4=some ⟨.type "tuple", od_PARTS_4,.seq #[.str "name" k_PARTS_4_0,.str "name" k_PARTS_4_1] m_PARTS_4,sl_PARTS_4⟩)
  (la_PARTS_5:K.lookup a_PARTS_5=some ⟨.type "tuple", od_PARTS_5,.seq #[.str "name" k_PARTS_5_0,.str "name" k_PARTS_5_1,.str "steps" k_PARTS_5_2] m_PARTS_5,sl_PARTS_5⟩)
  (la_PARTS_6:K.lookup a_PARTS_6=some ⟨.type "tuple", od_PARTS_6,.seq #[.str "bound" k_PARTS_6_0,.str "steps" k_PARTS_6_1,.str "steps" k_PARTS_6_2] m_PARTS_6,sl_PARTS_6⟩)
  (la_PARTS_7:K.lookup a_PARTS_7=some ⟨.type "tuple", od_PARTS_7,.seq #[.str "bound" k_PARTS_7_0,.str "steps" k_PARTS_7_1] m_PARTS_7,sl_PARTS_7⟩)
  (dz_PARTS:(d_PARTS == sysModules)=false)
  (h_CLOSERS:PySem.W.nsIn K mainGlobals "CLOSERS" = some (some (.ref d_CLOSERS)))
  (ld_CLOSERS:K.lookup d_CLOSERS=some ⟨.type "dict", none,.dict #[⟨PyData.keyHash w.params "lend", .str "lend" k_CLOSERS_0,.ref a_CLOSERS_0⟩,⟨PyData.keyHash w.params "if", .str "if" k_CLOSERS_1,.ref a_CLOSERS_1⟩,⟨PyData.keyHash w.params "while", .str "while" k_CLOSERS_2,.ref a_CLOSERS_2⟩] n_CLOSERS,#[]⟩)
  (la_CLOSERS_0:K.lookup a_CLOSERS_0=some ⟨.type "tuple", od_CLOSERS_0,.seq #[.str "back" k_CLOSERS_0_0] m_CLOSERS_0,sl_CLOSERS_0⟩)
  (la_CLOSERS_1:K.lookup a_CLOSERS_1=some ⟨.type "tuple", od_CLOSERS_1,.seq #[.str "else" k_CLOSERS_1_0,.str "fi" k_CLOSERS_1_1] m_CLOSERS_1,sl_CLOSERS_1⟩)
  (la_CLOSERS_2:K.lookup a_CLOSERS_2=some ⟨.type "tuple", od_CLOSERS_2,.seq #[.str "done" k_CLOSERS_2_0] m_CLOSERS_2,sl_CLOSERS_2⟩)
  (dz_CLOSERS:(d_CLOSERS == sysModules)=false) :
  ∃ fd:FuncData,(∀ (s:Shared) (v:Value),BindsTo s fd ⟨[v],[]⟩ [("_law_script", v)])∧∀ base:Heap,K.In base→base.Ns mainGlobals mg→FnOk l.prog w K mg base gA 36 fa fd ["_law_script"] (lx K):=by
 have e:=hfa.symm.trans (PySem.W.mg_of X G a32)
 cases e
 have D_closers_of:DefAt K mg "closers_of" b9:=⟨f0,_,bj (st:=b9) l0 c0 k0,PySem.W.mg_of X G a0⟩
 have D_head_of:DefAt K mg "head_of" cE:=⟨f1,_,bj (st:=cE) l1 c1 k1,PySem.W.mg_of X G a1⟩
 have D_blocks_of:DefAt K mg "blocks_of" b8:=⟨f2,_,bj (st:=b8) l2 c2 k2,PySem.W.mg_of X G a2⟩
 have D_steps_within:DefAt K mg "steps_within" aS:=⟨f3,_,bj (st:=aS) l3 c3 k3,PySem.W.mg_of X G a3⟩
 have D_names_in:DefAt K mg "names_in" bo:=⟨f4,_,bj (st:=bo) l4 c4 k4,PySem.W.mg_of X G a4⟩
 have D_names_of:DefAt K mg "names_of" cn:=⟨f5,_,bj (st:=cn) l5 c5 k5,PySem.W.mg_of X G a5⟩
 have D_lines_of:DefAt K mg "lines_of" aJ:=⟨f6,_,bj (st:=aJ) l6 c6 k6,PySem.W.mg_of X G a6⟩
 have D_line_behind:DefAt K mg "line_behind" bQ:=⟨f7,_,bj (st:=bQ) l7 c7 k7,PySem.W.mg_of X G a7⟩
 have D_numbered_step:DefAt K mg "numbered_step" ay:=⟨f8,_,bj (st:=ay) l8 c8 k8,PySem.W.mg_of X G a8⟩
 have D_numbered_steps:DefAt K mg "numbered_steps" aP:=⟨f9,_,bj (st:=aP) l9 c9 k9,PySem.W.mg_of X G a9⟩
 have D_lend_lines:DefAt K mg "lend_lines" bg:=⟨f10,_,bj (st:=bg) l10 c10 k10,PySem.W.mg_of X G a10⟩
 have D_slots_of:DefAt K mg "slots_of" bA:=⟨f11,_,bj (st:=bA) l11 c11 k11,PySem.W.mg_of X G a11⟩
 have D_simple_row:DefAt K mg "simple_row" aY:=⟨f12,_,bj (st:=aY) l12 c12 k12,PySem.W.mg_of X G a12⟩
 have D_lend_rows:DefAt K mg "lend_rows" aF:=⟨f13,_,bj (st:=aF) l13 c13 k13,PySem.W.mg_of X G a13⟩
 have D_if_rows:DefAt K mg "if_rows" a_:=⟨f14,_,bj (st:=a_) l14 c14 k14,PySem.W.mg_of X G a14⟩
 have D_loop_rows:DefAt K mg "loop_rows" bq:=⟨f15,_,bj (st:=bq) l15 c15 k15,PySem.W.mg_of X G a15⟩
 have D_while_rows:DefAt K mg "while_rows" aM:=⟨f16,_,bj (st:=aM) l16 c16 k16,PySem.W.mg_of X G a16⟩
 have D_rows_of:DefAt K mg "rows_of" bm:=⟨f17,_,bj (st:=bm) l17 c17 k17,PySem.W.mg_of X G a17⟩
 have D_rows_and_end:DefAt K mg "rows_and_end" ba:=⟨f18,_,bj (st:=ba) l18 c18 k18,PySem.W.mg_of X G a18⟩
 have D_code_of:DefAt K mg "code_of" cL:=⟨f19,_,bj (st:=cL) l19 c19 k19,PySem.W.mg_of X G a19⟩
 have D_turned_code:DefAt K mg "turned_code" bW:=⟨f20,_,bj (st:=bW) l20 c20 k20,PySem.W.mg_of X G a20⟩
 have D_rows_behind:DefAt K mg "rows_behind" bz:=⟨f21,_,bj (st:=bz) l21 c21 k21,PySem.W.mg_of X G a21⟩
 have D_law_whole:DefAt K mg "_law_whole" bU:=⟨f22,_,bj (st:=bU) l22 c22 k22,PySem.W.mg_of X G a22⟩
 have D_law_cell_at:DefAt K mg "_law_cell_at" bR:=⟨f23,_,bj (st:=bR) l23 c23 k23,PySem.W.mg_of X G a23⟩
 have D_law_words:DefAt K mg "_law_words" az:=⟨f24,_,bj (st:=az) l24 c24 k24,PySem.W.mg_of X G a24⟩
 have D_law_step:DefAt K mg "_law_step" bf:=⟨f25,_,bj (st:=bf) l25 c25 k25,PySem.W.mg_of X G a25⟩
 have D_law_put:DefAt K mg "_law_put" cM:=⟨f26,_,bj (st:=cM) l26 c26 k26,PySem.W.mg_of X G a26⟩
 have D_law_close:DefAt K mg "_law_close" bv:=⟨f27,_,bj (st:=bv) l27 c27 k27,PySem.W.mg_of X G a27⟩
 have D_law_program:DefAt K mg "_law_program" aE:=⟨f28,_,bj (st:=aE) l28 c28 k28,PySem.W.mg_of X G a28⟩
 have D_law_due:DefAt K mg "_law_due" cD:=⟨f29,_,bj (st:=cD) l29 c29 k29,PySem.W.mg_of X G a29⟩
 have D_law_right:DefAt K mg "_law_right" aR:=⟨f30,_,bj (st:=aR) l30 c30 k30,PySem.W.mg_of X G a30⟩
 have D_law_all_come:DefAt K mg "_law_all_come" aL:=⟨f31,_,bj (st:=aL) l31 c31 k31,PySem.W.mg_of X G a31⟩
 have z_isinstance:mg "isinstance" = none:=PySem.W.mg_none_of X G y_isinstance
 have z_str:mg "str" = none:=PySem.W.mg_none_of X G y_str
 have z_int:mg "int" = none:=PySem.W.mg_none_of X G y_int
 have z_bool:mg "bool" = none:=PySem.W.mg_none_of X G y_bool
 have z_tuple:mg "tuple" = none:=PySem.W.mg_none_of X G y_tuple
 have z_len:mg "len" = none:=PySem.W.mg_none_of X G y_len
 have z_range:mg "range" = none:=PySem.W.mg_none_of X G y_range
 have z_list:mg "list" = none:=PySem.W.mg_none_of X G y_list
 have z_zip:mg "zip" = none:=PySem.W.mg_none_of X G y_zip
 have z_enumerate:mg "enumerate" = none:=PySem.W.mg_none_of X G y_enumerate
 have z_sorted:mg "sorted" = none:=PySem.W.mg_none_of X G y_sorted
 have z_set:mg "set" = none:=PySem.W.mg_none_of X G y_set
 have cl_NumberedStep:Cls K C_NumberedStep:=⟨pg_NumberedStep,hd_NumberedStep,po_NumberedStep,sa_NumberedStep⟩
 have a_kind:Fl K C_NumberedStep "kind" := ⟨cl_NumberedStep,nf_kind⟩
 have a_parts:Fl K C_NumberedStep "parts" := ⟨cl_NumberedStep,nf_parts⟩
 have a_lines:Fl K C_NumberedStep "lines" := ⟨cl_NumberedStep,nf_lines⟩
 have a_blocks:Fl K C_NumberedStep "blocks" := ⟨cl_NumberedStep,nf_blocks⟩
 have D_NumberedStep:MakeAt K mg "NumberedStep" C_NumberedStep "NumberedStep.__init__" aI:=⟨fNumberedStep___init__,_,bj (st:=aI) lNumberedStep___init__ cNumberedStep___init__ kNumberedStep___init__,⟨mk_NumberedStep,aNumberedStep___init__,iNumberedStep___init__,kc_NumberedStep⟩,PySem.W.mg_of X G n_NumberedStep⟩
 have g_PARTS:mg "PARTS" = some (.ref d_PARTS):=PySem.W.mg_of X G h_PARTS
 have m_PARTS:ModD w K d_PARTS [("open", .ref a_PARTS_0),("do", .ref a_PARTS_1),("copy", .ref a_PARTS_2),("drop", .ref a_PARTS_3),("tie", .ref a_PARTS_4),("lend", .ref a_PARTS_5),("if", .ref a_PARTS_6),("while", .ref a_PARTS_7)]:=⟨dz_PARTS,(show (["open", "do", "copy", "drop", "tie", "lend", "if", "while"]:List Str).Nodup from by decide),_,[⟨PyData.keyHash w.params "open", .str "open" k_PARTS_0,.ref a_PARTS_0⟩,⟨PyData.keyHash w.params "do", .str "do" k_PARTS_1,.ref a_PARTS_1⟩,⟨PyData.keyHash w.params "copy", .str "copy" k_PARTS_2,.ref a_PARTS_2⟩,⟨PyData.keyHash w.params "drop", .str "drop" k_PARTS_3,.ref a_PARTS_3⟩,⟨PyData.keyHash w.params "tie", .str "tie" k_PARTS_4,.ref a_PARTS_4⟩,⟨PyData.keyHash w.params "lend", .str "lend" k_PARTS_5,.ref a_PARTS_5⟩,⟨PyData.keyHash w.params "if", .str "if" k_PARTS_6,.ref a_PARTS_6⟩,⟨PyData.keyHash w.params "while", .str "while" k_PARTS_7,.ref a_PARTS_7⟩],n_PARTS,ld_PARTS,⟨rfl,rfl,rfl⟩,rfl,.cons rfl (.cons rfl (.cons rfl (.cons rfl (.cons rfl (.cons rfl (.cons rfl (.cons rfl (.nil))))))))⟩
 have q_PARTS_0:∀ H:Hp,SqT K H a_PARTS_0 [.str "name"]:=fun H=>.inr ⟨_,_,_,la_PARTS_0,rfl,rfl,bF (show 1≤1000000 from by decide),.cons ⟨_,rfl⟩ (.nil)⟩
 have q_PARTS_1:∀ H:Hp,SqT K H a_PARTS_1 [.str "word", .str "name"]:=fun H=>.inr ⟨_,_,_,la_PARTS_1,rfl,rfl,bF (show 2≤1000000 from by decide),.cons ⟨_,rfl⟩ (.cons ⟨_,rfl⟩ (.nil))⟩
 have q_PARTS_2:∀ H:Hp,SqT K H a_PARTS_2 [.str "name", .str "name"]:=fun H=>.inr ⟨_,_,_,la_PARTS_2,rfl,rfl,bF (show 2≤1000000 from by decide),.cons ⟨_,rfl⟩ (.cons ⟨_,rfl⟩ (.nil))⟩
 have q_PARTS_3:∀ H:Hp,SqT K H a_PARTS_3 [.str "name"]:=fun H=>.inr ⟨_,_,_,la_PARTS_3,rfl,rfl,bF (show 1≤1000000 from by decide),.cons ⟨_,rfl⟩ (.nil)⟩
 have q_PARTS_4:∀ H:Hp,SqT K H a_PARTS_4 [.str "name", .str "name"]:=fun H=>.inr ⟨_,_,_,la_PARTS_4,rfl,rfl,bF (show 2≤1000000 from by decide),.cons ⟨_,rfl⟩ (.cons ⟨_,rfl⟩ (.nil))⟩
 have q_PARTS_5:∀ H:Hp,SqT K H a_PARTS_5 [.str "name", .str "name", .str "steps"]:=fun H=>.inr ⟨_,_,_,la_PARTS_5,rfl,rfl,bF (show 3≤1000000 from by decide),.cons ⟨_,rfl⟩ (.cons ⟨_,rfl⟩ (.cons ⟨_,rfl⟩ (.nil)))⟩
 have q_PARTS_6:∀ H:Hp,SqT K H a_PARTS_6 [.str "bound", .str "steps", .str "steps"]:=fun H=>.inr ⟨_,_,_,la_PARTS_6,rfl,rfl,bF (show 3≤1000000 from by decide),.cons ⟨_,rfl⟩ (.cons ⟨_,rfl⟩ (.cons ⟨_,rfl⟩ (.nil)))⟩
 have q_PARTS_7:∀ H:Hp,SqT K H a_PARTS_7 [.str "bound", .str "steps"]:=fun H=>.inr ⟨_,_,_,la_PARTS_7,rfl,rfl,bF (show 2≤1000000 from by decide),.cons ⟨_,rfl⟩ (.cons ⟨_,rfl⟩ (.nil))⟩
 have g_CLOSERS:mg "CLOSERS" = some (.ref d_CLOSERS):=PySem.W.mg_of X G h_CLOSERS
 have m_CLOSERS:ModD w K d_CLOSERS [("lend", .ref a_CLOSERS_0),("if", .ref a_CLOSERS_1),("while", .ref a_CLOSERS_2)]:=⟨dz_CLOSERS,(show (["lend", "if", "while"]:List Str).Nodup from by decide),_,[⟨PyData.keyHash w.params "lend", .str "lend" k_CLOSERS_0,.ref a_CLOSERS_0⟩,⟨PyData.keyHash w.params "if", .str "if" k_CLOSERS_1,.ref a_CLOSERS_1⟩,⟨PyData.keyHash w.params "while", .str "while" k_CLOSERS_2,.ref a_CLOSERS_2⟩],n_CLOSERS,ld_CLOSERS,⟨rfl,rfl,rfl⟩,rfl,.cons rfl (.cons rfl (.cons rfl (.nil)))⟩
 have q_CLOSERS_0:∀ H:Hp,SqT K H a_CLOSERS_0 [.str "back"]:=fun H=>.inr ⟨_,_,_,la_CLOSERS_0,rfl,rfl,bF (show 1≤1000000 from by decide),.cons ⟨_,rfl⟩ (.nil)⟩
 have q_CLOSERS_1:∀ H:Hp,SqT K H a_CLOSERS_1 [.str "else", .str "fi"]:=fun H=>.inr ⟨_,_,_,la_CLOSERS_1,rfl,rfl,bF (show 2≤1000000 from by decide),.cons ⟨_,rfl⟩ (.cons ⟨_,rfl⟩ (.nil))⟩
 have q_CLOSERS_2:∀ H:Hp,SqT K H a_CLOSERS_2 [.str "done"]:=fun H=>.inr ⟨_,_,_,la_CLOSERS_2,rfl,rfl,bF (show 1≤1000000 from by decide),.cons ⟨_,rfl⟩ (.nil)⟩
 have F:=bj (st:=bx) l32 c32 k32
 refine⟨PySem.W.fnOf "law" "law" (defArgs bx) (defBody bx) (defScope bx) .none kV32 dc32 pm32 an32 cd32 ct32,fun s v=>.of_eq rfl,fun base _ _=>?_⟩
 have c1:=ye (P:=l.prog) (w:=w) (base:=base) D_law_cell_at z_len
 have d1:=qZ (P:=l.prog) (w:=w) (base:=base) D_closers_of g_CLOSERS m_CLOSERS q_CLOSERS_0 q_CLOSERS_1 q_CLOSERS_2
 have d2:=xF D_head_of z_len d1
 have d3:=uM D_blocks_of z_len d2
 have d4:=kY D_steps_within d3 10
 have d5:=rC (P:=l.prog) (w:=w) (base:=base) D_names_in z_zip z_list g_PARTS m_PARTS (v6 q_PARTS_0 q_PARTS_1 q_PARTS_2 q_PARTS_3 q_PARTS_4 q_PARTS_5 q_PARTS_6 q_PARTS_7)
 have d6:=uX (rN D_names_of d5 d4)
 have d7:=nP D_lines_of z_str z_zip d1 d2 d3 10
 have d8:=lJ D_lend_lines z_enumerate d7
 have d9:=vm (NO:=NOt) NOt.mono D_slots_of z_enumerate (ug d6 (k:=15) (by decide)) d8
 have k0:=u5 (P:=l.prog) (w:=w) (base:=base) D_NumberedStep a_kind a_parts a_lines a_blocks
 have b0:=sQ (P:=l.prog) (w:=w) (base:=base) D_line_behind z_len a_lines
 have n0:=pJ D_numbered_step D_numbered_steps d2 d3 b0 k0 10
 have r0:=oK (P:=l.prog) (w:=w) (base:=base) D_rows_of D_lend_rows D_if_rows D_loop_rows D_while_rows D_simple_row z_len z_tuple a_kind a_parts a_lines a_blocks 10
 have r1:=qM (NO:=NOt) (d:=10) (k:=33) NOt.mono D_rows_and_end (by decide) n0 r0 (ug d9 (by decide)) b0 (by decide) (by decide)
 have r2:=uL D_turned_code r1
 have r3:=xM D_code_of r1
 have pu:=zv (P:=l.prog) (w:=w) (base:=base) D_law_put
 have pg:=qL D_law_program z_len z_int (x3 D_law_step z_len) pu (wk D_law_close pu)
 have du:=vA (P:=l.prog) (w:=w) (base:=base) D_law_due z_sorted
 have bh:=oq (P:=l.prog) (w:=w) (base:=base) D_rows_behind z_sorted z_set
 have rg:=sw D_law_right z_isinstance z_list z_len bh du (Ax D_law_whole z_isinstance z_int z_bool)
 exact zK F z_len z_range z_list c1 (v0 D_law_words z_range z_int) pg r3 r2 rg (xv D_law_all_come z_len du)
theorem walk{l:PySem.W.OpenLaw}{q:Program}{loose:List Str}{XP:(Str→Option Value)→Heap→Prop}{YP:World→Heap→Prop}{d:DefRec}{K:Params→PySem.W.Frag}(hn:l.most=some 63)(hdf:d.params.defaults=[])
  (hY:∀ (w:World) (h:Heap),YP w h→(K w.params).In h)
  (F:∀ (w:World) (mg:Str→Option Value) (fa:Addr) (h:Heap),(K w.params).In h→h.Ns mainGlobals mg→mg d.name=some (.ref fa)→
   ∃ fd:FuncData,(∀ (s:Shared) (u:Value),BindsTo s fd ⟨[u],[]⟩ [("_law_script", u)])∧∀ base:Heap,(K w.params).In base→base.Ns mainGlobals mg→FnOk l.prog w (K w.params) mg base gA 36 fa fd ["_law_script"] (lx (K w.params))) :
  PySem.W.WalkO q loose XP YP l.row.toRowW d [] (fun f vs=>PySem.call f vs):=
 L2.walk_of (n:=63) (k:=36) (x := "_law_script") (CX:=fun _=>gA) (sp:=fun w=>lx (K w.params)) hn (by decide) hdf ⟨rfl,by decide,by decide⟩ hY F (fun _ _ a ns hl _ hS=>⟨a,ns,rfl,hS,hl,fun _=>rfl⟩) fun _ _ _ _ _ z=>z
end K50
end
open PySem PySem.W PyProof.Rows
set_option maxRecDepth 100000 in
set_option maxHeartbeats 0 in
theorem PySem.Challenge.cw_usewarden_k50_rows_behind_holds : PySem.Challenge.rw_usewarden_k50_rows_behind.Holds := by
 w_on
 refine holds_law (by decide +kernel) fun said=>?_
 refine holds_open (q:=K50.qq) (loose:=K50.loo) (Xt:=K50.xt) (XP:=XL K50.qq []) (Yf:=Hook.obs (kHook K50.KK K50.kk K50.kk_eq)) (Ya:=Hook.val (kHook K50.KK K50.kk K50.kk_eq)) (YP:=Hook.says (kHook K50.KK K50.kk K50.kk_eq)) (N:=3180) K50.hl (Hook.of (kHook K50.KK K50.kk K50.kk_eq)) (Hook.keeps (kHook K50.KK K50.kk K50.kk_eq)) (fun s e=>xl_of s (Bool.and_eq_true_iff.mp e).1) XL.keeps (by rfl) (by rfl) (by rfl) (fun s e=>recFacts_of (Bool.and_eq_true_iff.mp e).2) (by rfl) said (by decide +kernel) ⟨rfl,rfl,rfl,rfl,rfl,by decide +kernel⟩ ?hw ?hc
 (case hw=>w_witness2)
 k_fill
 refine K50.walk (l:=PySem.Challenge.rw_usewarden_k50_rows_behind) rfl rfl (fun w h Y=>PySem.W.kIn_of Y) ?F
 case F=>
  intro w mg fa h KX G hmg
  refine' K50.all_mk KX G hmg ?a0 ?l0 ?c0 ?k0 ?a1 ?l1 ?c1 ?k1 ?a2 ?l2 ?c2 ?k2 ?a3 ?l3 ?c3 ?k3 ?a4 ?l4 ?c4 ?k4 ?a5 ?l5 ?c5 ?k5 ?a6 ?l6 ?c6 ?k6 ?a7 ?l7 ?c7 ?k7 ?a8 ?l8 ?c8 ?k8 ?a9 ?l9 ?c9 ?k9 ?a10 ?l10 ?c10 ?k10 ?a11 ?l11 ?c11 ?k11 ?a12 ?l12 ?c12 ?k12 ?a13 ?l13 ?c13 ?k13 ?a14 ?l14 ?c14 ?k14 ?a15 ?l15 ?c15 ?k15 ?a16 ?l16 ?c16 ?k16 ?a17 ?l17 ?c17 ?k17 ?a18 ?l18 ?c18 ?k18 ?a19 ?l19 ?c19 ?k19 ?a20 ?l20 ?c20 ?k20 ?a21 ?l21 ?c21 ?k21 ?a22 ?l22 ?c22 ?k22 ?a23 ?l23 ?c23 ?k23 ?a24 ?l24 ?c24 ?k24 ?a25 ?l25 ?c25 ?k25 ?a26 ?l26 ?c26 ?k26 ?a27 ?l27 ?c27 ?k27 ?a28 ?l28 ?c28 ?k28 ?a29 ?l29 ?c29 ?k29 ?a30 ?l30 ?c30 ?k30 ?a31 ?l31 ?c31 ?k31 ?a32 ?l32 ?c32 ?k32 ?y_isinstance ?y_str ?y_int ?y_bool ?y_tuple ?y_len ?y_range ?y_list ?y_zip ?y_enumerate ?y_sorted ?y_set ?n_NumberedStep ?pg_NumberedStep ?hd_NumberedStep ?po_NumberedStep ?sa_NumberedStep ?mk_NumberedStep ?kc_NumberedStep ?nf_kind ?nf_parts ?nf_lines ?nf_blocks ?aNumberedStep___init__ ?iNumberedStep___init__ ?lNumberedStep___init__ ?cNumberedStep___init__ ?kNumberedStep___init__ ?h_PARTS ?ld_PARTS ?la_PARTS_0 ?la_PARTS_1 ?la_PARTS_2 ?la_PARTS_3 ?la_PARTS_4 ?la_PARTS_5 ?la_PARTS_6 ?la_PARTS_7 ?dz_PARTS ?h_CLOSERS ?ld_CLOSERS ?la_CLOSERS_0 ?la_CLOSERS_1 ?la_CLOSERS_2 ?dz_CLOSERS
  (case a0=>k_is)
  (case l0=>k_is)
  (case c0=>k_is)
  (case k0=>k_is)
  (case a1=>k_is)
  (case l1=>k_is)
  (case c1=>k_is)
  (case k1=>k_is)
  (case a2=>k_is)
  (case l2=>k_is)
  (case c2=>k_is)
  (case k2=>k_is)
  (case a3=>k_is)
  (case l3=>k_is)
  (case c3=>k_is)
  (case k3=>k_is)
  (case a4=>k_is)
  (case l4=>k_is)
  (case c4=>k_is)
  (case k4=>k_is)
  (case a5=>k_is)
  (case l5=>k_is)
  (case c5=>k_is)
  (case k5=>k_is)
  (case a6=>k_is)
  (case l6=>k_is)
  (case c6=>k_is)
  (case k6=>k_is)
  (case a7=>k_is)
  (case l7=>k_is)
  (case c7=>k_is)
  (case k7=>k_is)
  (case a8=>k_is)
  (case l8=>k_is)
  (case c8=>k_is)
  (case k8=>k_is)
  (case a9=>k_is)
  (case l9=>k_is)
  (case c9=>k_is)
  (case k9=>k_is)
  (case a10=>k_is)
  (case l10=>k_is)
  (case c10=>k_is)
  (case k10=>k_is)
  (case a11=>k_is)
  (case l11=>k_is)
  (case c11=>k_is)
  (case k11=>k_is)
  (case a12=>k_is)
  (case l12=>k_is)
  (case c12=>k_is)
  (case k12=>k_is)
  (case a13=>k_is)
  (case l13=>k_is)
  (case c13=>k_is)
  (case k13=>k_is)
  (case a14=>k_is)
  (case l14=>k_is)
  (case c14=>k_is)
  (case k14=>k_is)
  (case a15=>k_is)
  (case l15=>k_is)
  (case c15=>k_is)
  (case k15=>k_is)
  (case a16=>k_is)
  (case l16=>k_is)
  (case c16=>k_is)
  (case k16=>k_is)
  (case a17=>k_is)
  (case l17=>k_is)
  (case c17=>k_is)
  (case k17=>k_is)
  (case a18=>k_is)
  (case l18=>k_is)
  (case c18=>k_is)
  (case k18=>k_is)
  (case a19=>k_is)
  (case l19=>k_is)
  (case c19=>k_is)
  (case k19=>k_is)
  (case a20=>k_is)
  (case l20=>k_is)
  (case c20=>k_is)
  (case k20=>k_is)
  (case a21=>k_is)
  (case l21=>k_is)
  (case c21=>k_is)
  (case k21=>k_is)
  (case a22=>k_is)
  (case l22=>k_is)
  (case c22=>k_is)
  (case k22=>k_is)
  (case a23=>k_is)
  (case l23=>k_is)
  (case c23=>k_is)
  (case k23=>k_is)
  (case a24=>k_is)
  (case l24=>k_is)
  (case c24=>k_is)
  (case k24=>k_is)
  (case a25=>k_is)
  (case l25=>k_is)
  (case c25=>k_is)
  (case k25=>k_is)
  (case a26=>k_is)
  (case l26=>k_is)
  (case c26=>k_is)
  (case k26=>k_is)
  (case a27=>k_is)
  (case l27=>k_is)
  (case c27=>k_is)
  (case k27=>k_is)
  (case a28=>k_is)
  (case l28=>k_is)
  (case c28=>k_is)
  (case k28=>k_is)
  (case a29=>k_is)
  (case l29=>k_is)
  (case c29=>k_is)
  (case k29=>k_is)
  (case a30=>k_is)
  (case l30=>k_is)
  (case c30=>k_is)
  (case k30=>k_is)
  (case a31=>k_is)
  (case l31=>k_is)
  (case c31=>k_is)
  (case k31=>k_is)
  (case a32=>k_is)
  (case l32=>k_is)
  (case c32=>k_is)
  (case k32=>k_is)
  (case y_isinstance=>k_is)
  (case y_str=>k_is)
  (case y_int=>k_is)
  (case y_bool=>k_is)
  (case y_tuple=>k_is)
  (case y_len=>k_is)
  (case y_range=>k_is)
  (case y_list=>k_is)
  (case y_zip=>k_is)
  (case y_enumerate=>k_is)
  (case y_sorted=>k_is)
  (case y_set=>k_is)
  (case n_NumberedStep=>k_is)
  (case pg_NumberedStep=>k_is)
  (case hd_NumberedStep=>k_is)
  (case po_NumberedStep=>k_is)
  (case sa_NumberedStep=>k_is)
  (case mk_NumberedStep=>k_is)
  (case kc_NumberedStep=>k_is)
  (case nf_kind=>k_is)
  (case nf_parts=>k_is)
  (case nf_lines=>k_is)
  (case nf_blocks=>k_is)
  (case aNumberedStep___init__=>k_is)
  (case iNumberedStep___init__=>k_is)
  (case lNumberedStep___init__=>k_is)
  (case cNumberedStep___init__=>k_is)
  (case kNumberedStep___init__=>k_is)
  (case h_PARTS=>k_is)
  (case ld_PARTS=>k_is)
  (case la_PARTS_0=>k_is)
  (case la_PARTS_1=>k_is)
  (case la_PARTS_2=>k_is)
  (case la_PARTS_3=>k_is)
  (case la_PARTS_4=>k_is)
  (case la_PARTS_5=>k_is)
  (case la_PARTS_6=>k_is)
  (case la_PARTS_7=>k_is)
  (case dz_PARTS=>decide)
  (case h_CLOSERS=>k_is)
  (case ld_CLOSERS=>k_is)
  (case la_CLOSERS_0=>k_is)
  (case la_CLOSERS_1=>k_is)
  (case la_CLOSERS_2=>k_is)
  (case dz_CLOSERS=>decide)
#print axioms PySem.Challenge.cw_usewarden_k50_rows_behind_holds
