import PyProof.Rows.All
import Wide.All
import OpenK.AllK
import Wide.FinOn
import Lean
import PyProof.EqAt
import PyProof.EqKinds
import PyProof.TupleCall
import PyProof.SetScanFacts
import PyProof.SetKind
import PyProof.SetRoads
import PyProof.Rows.SetFrom
import PyProof.FactsBase
import PyProof.TableTree
import PyProof.FactsTree
import PyProof.PlainAttrs
import PyProof.FactsAll.set_1
import PyProof.CollectIter
import PyProof.FactsAll.set
import PyProof.ZipIter
import PyProof.EnumIter
import PyProof.TupleIter
import KE.KRevIter
import KE.KDictList
import PyProof.Rows.SumAny
import KE.KIntText
import PyProof.StrLawsTight
import PyProof.StrLawsChain
import PyProof.Rows.SortStr
import PyProof.Rows.StrNews2
import PyProof.StrLawsFirst
import PyProof.AutoSeq1
import KE.KDictOf
import PyProof.DictItems
import PyProof.NeKinds
import KE.KPairComp
import PyProof.FactsAll.tuple_2
import PyProof.FactsAll.tuple_3
import KE.KDictLaws
import PyProof.FactsAll.dict_3
import PyProof.MinMaxWalk
import PyProof.WalkInts
import PySem.Challenge.RW_usewarden_k35_rows_of_code
set_option Elab.async false
set_option linter.all false
set_option maxRecDepth 100000
set_option maxHeartbeats 4000000
namespace L2
open PySem
def inClass(s:Stmt)(j:Nat):Stmt:=match s with
 | .ClassDef _ _ _ body _ _ _ _ _ _ _=>body.getD j (.Pass ⟨0,0,0,0⟩)
 | _=>.Pass ⟨0,0,0,0⟩
def defArgs(s:Stmt):Arguments:=match s with
 | .FunctionDef _ a _ _ _ _ _ _ _ _=>a
 | _=>{ posonlyargs:=[],args:=[],vararg:=none,kwonlyargs:=[],kw_defaults:=[],kwarg:=none,defaults:=[] }
def defBody(s:Stmt):List Stmt:=match s with
 | .FunctionDef _ _ b _ _ _ _ _ _ _=>b
 | _=>[]
def defScope(s:Stmt):Scope:=match s with
 | .FunctionDef _ _ _ _ _ _ sc _ _ _=>sc
 | _=>{ kind:=.function,names:=[],isGenerator:=false,isCoroutine:=false }
end L2
namespace K35
open PySem PySem.W
def ax (i:Nat):Stmt:=PySem.Challenge.pw_usewarden_k35_rows_of_code.main.body.getD i (.Pass ⟨0,0,0,0⟩)
noncomputable def KK(P:Params):Frag:=
 (nat_lit 2,⟨.none,none,.dict #[] 0,#[]⟩) ::
 (nat_lit 3,⟨.type "dict", none,.dict #[⟨PyData.keyHash P "__name__", .str "__name__" 165,.str "law_usewarden_k35_rows_of_code" 463⟩,⟨PyData.keyHash P "__doc__", .str "__doc__" 166,.none⟩,⟨PyData.keyHash P "__package__", .str "__package__" 167,.none⟩,⟨PyData.keyHash P "__loader__", .str "__loader__" 168,.builtin "__main__.__loader__#opaque"⟩,⟨PyData.keyHash P "__spec__", .str "__spec__" 169,.none⟩,⟨PyData.keyHash P "__annotations__", .str "__annotations__" 170,.ref 6⟩,⟨PyData.keyHash P "__builtins__", .str "__builtins__" 171,.ref 4⟩,⟨PyData.keyHash P "__file__", .str "__file__" 173,.str "/claim/cut.py" 172⟩,⟨PyData.keyHash P "__cached__", .str "__cached__" 174,.none⟩,⟨PyData.keyHash P "PARTS", .str "PARTS" 221,.ref 15⟩,⟨PyData.keyHash P "CLOSERS", .str "CLOSERS" 232,.ref 24⟩,⟨PyData.keyHash P "closers_of", .str "closers_of" 239,.ref 34⟩,⟨PyData.keyHash P "head_of", .str "head_of" 246,.ref 41⟩,⟨PyData.keyHash P "blocks_of", .str "blocks_of" 253,.ref 48⟩,⟨PyData.keyHash P "steps_within", .str "steps_within" 263,.ref 55⟩,⟨PyData.keyHash P "names_in", .str "names_in" 274,.ref 62⟩,⟨PyData.keyHash P "lines_of", .str "lines_of" 280,.ref 67⟩,⟨PyData.keyHash P "names_of", .str "names_of" 287,.ref 74⟩,⟨PyData.keyHash P "NumberedStep", .str "NumberedStep" 323,.ref 91⟩,⟨PyData.keyHash P "line_behind", .str "line_behind" 331,.ref 102⟩,⟨PyData.keyHash P "numbered_step", .str "numbered_step" 343,.ref 109⟩,⟨PyData.keyHash P "numbered_steps", .str "numbered_steps" 353,.ref 116⟩,⟨PyData.keyHash P "lend_lines", .str "lend_lines" 361,.ref 121⟩,⟨PyData.keyHash P "slots_of", .str "slots_of" 371,.ref 128⟩,⟨PyData.keyHash P "simple_row", .str "simple_row" 377,.ref 133⟩,⟨PyData.keyHash P "lend_rows", .str "lend_rows" 394,.ref 140⟩,⟨PyData.keyHash P "if_rows", .str "if_rows" 409,.ref 147⟩,⟨PyData.keyHash P "loop_rows", .str "loop_rows" 420,.ref 154⟩,⟨PyData.keyHash P "while_rows", .str "while_rows" 433,.ref 161⟩,⟨PyData.keyHash P "rows_of", .str "rows_of" 446,.ref 168⟩,⟨PyData.keyHash P "rows_and_end", .str "rows_and_end" 455,.ref 175⟩,⟨PyData.keyHash P "code_of", .str "code_of" 462,.ref 182⟩,⟨PyData.keyHash P "_law_cell_at", .str "_law_cell_at" 472,.ref 189⟩,⟨PyData.keyHash P "_law_names", .str "_law_names" 478,.ref 194⟩,⟨PyData.keyHash P "_law_bound", .str "_law_bound" 486,.ref 201⟩,⟨PyData.keyHash P "_law_step", .str "_law_step" 498,.ref 208⟩,⟨PyData.keyHash P "_law_begun", .str "_law_begun" 513,.ref 215⟩,⟨PyData.keyHash P "_law_program", .str "_law_program" 519,.ref 220⟩,⟨PyData.keyHash P "_law_partners", .str "_law_partners" 531,.ref 227⟩,⟨PyData.keyHash P "_law_slots", .str "_law_slots" 542,.ref 234⟩,⟨PyData.keyHash P "_law_firsts", .str "_law_firsts" 552,.ref 241⟩,⟨PyData.keyHash P "_law_rows", .str "_law_rows" 558,.ref 246⟩,⟨PyData.keyHash P "_law_due", .str "_law_due" 564,.ref 251⟩,⟨PyData.keyHash P "_law_row", .str "_law_row" 574,.ref 258⟩,⟨PyData.keyHash P "_law_right", .str "_law_right" 584,.ref 265⟩,⟨PyData.keyHash P "law", .str "law" 596,.ref 272⟩] 46,#[]⟩) ::
 (nat_lit 15,⟨.type "dict", none,.dict #[⟨PyData.keyHash P "open", .str "open" 189,.ref 16⟩,⟨PyData.keyHash P "do", .str "do" 191,.ref 17⟩,⟨PyData.keyHash P "copy", .str "copy" 194,.ref 18⟩,⟨PyData.keyHash P "drop", .str "drop" 197,.ref 19⟩,⟨PyData.keyHash P "tie", .str "tie" 199,.ref 20⟩,⟨PyData.keyHash P "lend", .str "lend" 202,.ref 21⟩,⟨PyData.keyHash P "if", .str "if" 206,.ref 22⟩,⟨PyData.keyHash P "while", .str "while" 210,.ref 23⟩] 8,#[]⟩) ::
 (nat_lit 16,⟨.type "tuple", none,.seq #[.str "name" 190] 0,#[]⟩) ::
 (nat_lit 17,⟨.type "tuple", none,.seq #[.str "word" 192,.str "name" 193] 0,#[]⟩) ::
 (nat_lit 18,⟨.type "tuple", none,.seq #[.str "name" 195,.str "name" 196] 0,#[]⟩) ::
 (nat_lit 19,⟨.type "tuple", none,.seq #[.str "name" 198] 0,#[]⟩) ::
 (nat_lit 20,⟨.type "tuple", none,.seq #[.str "name" 200,.str "name" 201] 0,#[]⟩) ::
 (nat_lit 21,⟨.type "tuple", none,.seq #[.str "name" 203,.str "name" 204,.str "steps" 205] 0,#[]⟩) ::
 (nat_lit 22,⟨.type "tuple", none,.seq #[.str "bound" 207,.str "steps" 208,.str "steps" 209] 0,#[]⟩) ::
 (nat_lit 23,⟨.type "tuple", none,.seq #[.str "bound" 211,.str "steps" 212] 0,#[]⟩) ::
 (nat_lit 24,⟨.type "dict", none,.dict #[⟨PyData.keyHash P "lend", .str "lend" 222,.ref 25⟩,⟨PyData.keyHash P "if", .str "if" 224,.ref 26⟩,⟨PyData.keyHash P "while", .str "while" 227,.ref 27⟩] 3,#[]⟩) ::
 (nat_lit 25,⟨.type "tuple", none,.seq #[.str "back" 223] 0,#[]⟩) ::
 (nat_lit 26,⟨.type "tuple", none,.seq #[.str "else" 225,.str "fi" 226] 0,#[]⟩) ::
 (nat_lit 27,⟨.type "tuple", none,.seq #[.str "done" 228] 0,#[]⟩) ::
 (nat_lit 28,⟨.type "tuple", none,.seq #[] 0,#[]⟩) ::
 (nat_lit 30,⟨.type "tuple", none,.seq #[.str "kind" 236] 0,#[]⟩) ::
 (nat_lit 31,⟨.type "tuple", none,.seq #[] 0,#[]⟩) ::
 (nat_lit 33,⟨.type "code", none,.fields #[.str "closers_of" 233,.str "closers_of" 234,.str "/claim/cut.py" 235,.int 4 0,.int 1 0,.int 0 0,.int 0 0,.int 3 0,.ref 28,.bool true,.int 181 0,.ref 29,.none,.ref 30,.ref 31,.ref 32,.int 237 0,.int 4 0,.str "/claim/cut.py" 238],#[]⟩) ::
 (nat_lit 34,⟨.type "function", none,.func ⟨"closers_of", "closers_of", L2.defArgs (ax 3),.stmts (L2.defBody (ax 3)),L2.defScope (ax 3),3,[],.none,.none,.none,.str "usewarden.programs" 187,none,.ref 33,.none,0⟩,#[]⟩) ::
 (nat_lit 35,⟨.type "tuple", none,.seq #[] 0,#[]⟩) ::
 (nat_lit 37,⟨.type "tuple", none,.seq #[.str "step" 243] 0,#[]⟩) ::
 (nat_lit 38,⟨.type "tuple", none,.seq #[] 0,#[]⟩) ::
 (nat_lit 40,⟨.type "code", none,.fields #[.str "head_of" 240,.str "head_of" 241,.str "/claim/cut.py" 242,.int 6 0,.int 1 0,.int 0 0,.int 0 0,.int 3 0,.ref 35,.bool true,.int 181 0,.ref 36,.none,.ref 37,.ref 38,.ref 39,.int 244 0,.int 6 0,.str "/claim/cut.py" 245],#[]⟩) ::
 (nat_lit 41,⟨.type "function", none,.func ⟨"head_of", "head_of", L2.defArgs (ax 4),.stmts (L2.defBody (ax 4)),L2.defScope (ax 4),3,[],.none,.none,.none,.str "usewarden.programs" 187,none,.ref 40,.none,0⟩,#[]⟩) ::
 (nat_lit 42,⟨.type "tuple", none,.seq #[] 0,#[]⟩) ::
 (nat_lit 44,⟨.type "tuple", none,.seq #[.str "step" 250] 0,#[]⟩) ::
 (nat_lit 45,⟨.type "tuple", none,.seq #[] 0,#[]⟩) ::
 (nat_lit 47,⟨.type "code", none,.fields #[.str "blocks_of" 247,.str "blocks_of" 248,.str "/claim/cut.py" 249,.int 8 0,.int 1 0,.int 0 0,.int 0 0,.int 3 0,.ref 42,.bool true,.int 181 0,.ref 43,.none,.ref 44,.ref 45,.ref 46,.int 251 0,.int 8 0,.str "/claim/cut.py" 252],#[]⟩) ::
 (nat_lit 48,⟨.type "function", none,.func ⟨"blocks_of", "blocks_of", L2.defArgs (ax 5),.stmts (L2.defBody (ax 5)),L2.defScope (ax 5),3,[],.none,.none,.none,.str "usewarden.programs" 187,none,.ref 47,.none,0⟩,#[]⟩) ::
 (nat_lit 49,⟨.type "tuple", none,.seq #[] 0,#[]⟩) ::
 (nat_lit 51,⟨.type "tuple", none,.seq #[.str "program" 257,.str "steps" 258,.str "step" 259,.str "block" 260] 0,#[]⟩) ::
 (nat_lit 52,⟨.type "tuple", none,.seq #[] 0,#[]⟩) ::
 (nat_lit 54,⟨.type "code", none,.fields #[.str "steps_within" 254,.str "steps_within" 255,.str "/claim/cut.py" 256,.int 10 0,.int 1 0,.int 0 0,.int 0 0,.int 3 0,.ref 49,.bool true,.int 181 0,.ref 50,.none,.ref 51,.ref 52,.ref 53,.int 261 0,.int 10 0,.str "/claim/cut.py" 262],#[]⟩) ::
 (nat_lit 55,⟨.type "function", none,.func ⟨"steps_within", "steps_within", L2.defArgs (ax 6),.stmts (L2.defBody (ax 6)),L2.defScope (ax 6),3,[],.none,.none,.none,.str "usewarden.programs" 187,none,.ref 54,.none,0⟩,#[]⟩) ::
 (nat_lit 56,⟨.type "tuple", none,.seq #[] 0,#[]⟩) ::
 (nat_lit 58,⟨.type "tuple", none,.seq #[.str "steps" 267,.str "names" 268,.str "step" 269,.str "part" 270,.str "kind" 271] 0,#[]⟩) ::
 (nat_lit 59,⟨.type "tuple", none,.seq #[] 0,#[]⟩) ::
 (nat_lit 61,⟨.type "code", none,.fields #[.str "names_in" 264,.str "names_in" 265,.str "/claim/cut.py" 266,.int 17 0,.int 1 0,.int 0 0,.int 0 0,.int 3 0,.ref 56,.bool true,.int 181 0,.ref 57,.none,.ref 58,.ref 59,.ref 60,.int 272 0,.int 17 0,.str "/claim/cut.py" 273],#[]⟩) ::
 (nat_lit 62,⟨.type "function", none,.func ⟨"names_in", "names_in", L2.defArgs (ax 7),.stmts (L2.defBody (ax 7)),L2.defScope (ax 7),3,[],.none,.none,.none,.str "usewarden.programs" 187,none,.ref 61,.none,0⟩,#[]⟩) ::
 (nat_lit 63,⟨.type "tuple", none,.seq #[] 0,#[]⟩) ::
 (nat_lit 66,⟨.type "code", none,.fields #[.str "lines_of" 275,.str "lines_of" 276,.str "/claim/cut.py" 277,.int 24 0,.int 1 0,.int 0 0,.int 0 0,.int 3 0,.ref 63,.bool true,.int 181 0,.ref 64,.none,.none,.none,.ref 65,.int 278 0,.int 24 0,.str "/claim/cut.py" 279],#[]⟩) ::
 (nat_lit 67,⟨.type "function", none,.func ⟨"lines_of", "lines_of", L2.defArgs (ax 8),.stmts (L2.defBody (ax 8)),L2.defScope (ax 8),3,[],.none,.none,.none,.str "usewarden.programs" 187,none,.ref 66,.none,0⟩,#[]⟩) ::
 (nat_lit 68,⟨.type "tuple", none,.seq #[] 0,#[]⟩) ::
 (nat_lit 70,⟨.type "tuple", none,.seq #[.str "program" 284] 0,#[]⟩) ::
 (nat_lit 71,⟨.type "tuple", none,.seq #[] 0,#[]⟩) ::
 (nat_lit 73,⟨.type "code", none,.fields #[.str "names_of" 281,.str "names_of" 282,.str "/claim/cut.py" 283,.int 32 0,.int 1 0,.int 0 0,.int 0 0,.int 3 0,.ref 68,.bool true,.int 181 0,.ref 69,.none,.ref 70,.ref 71,.ref 72,.int 285 0,.int 32 0,.str "/claim/cut.py" 286],#[]⟩) ::
 (nat_lit 74,⟨.type "function", none,.func ⟨"names_of", "names_of", L2.defArgs (ax 9),.stmts (L2.defBody (ax 9)),L2.defScope (ax 9),3,[],.none,.none,.none,.str "usewarden.programs" 187,none,.ref 73,.none,0⟩,#[]⟩) ::
 (nat_lit 82,⟨.type "tuple", none,.seq #[] 0,#[]⟩) ::
 (nat_lit 84,⟨.type "tuple", none,.seq #[.str "self" 305,.str "head" 306,.str "lines" 307,.str "blocks" 308] 0,#[]⟩) ::
 (nat_lit 85,⟨.type "tuple", none,.seq #[] 0,#[]⟩) ::
 (nat_lit 87,⟨.type "code", none,.fields #[.str "__init__" 302,.str "NumberedStep.__init__" 303,.str "/claim/cut.py" 304,.int 37 0,.int 4 0,.int 0 0,.int 0 0,.int 3 0,.ref 82,.bool true,.int 181 0,.ref 83,.none,.ref 84,.ref 85,.ref 86,.int 309 0,.int 37 0,.str "/claim/cut.py" 310],#[]⟩) ::
 (nat_lit 88,⟨.type "function", none,.func ⟨"__init__", "NumberedStep.__init__", L2.defArgs (L2.inClass (ax 11) 0),.stmts (L2.defBody (L2.inClass (ax 11) 0)),L2.defScope (L2.inClass (ax 11) 0),3,[],.none,.none,.none,.str "usewarden.numbered" 288,none,.ref 87,.none,0⟩,#[]⟩) ::
 (nat_lit 89,⟨.type "tuple", none,.seq #[.str "blocks" 312,.str "kind" 313,.str "lines" 314,.str "parts" 315] 0,#[]⟩) ::
 (nat_lit 90,⟨.type "dict", none,.dict #[⟨PyData.keyHash P "__module__", .str "__module__" 297,.str "usewarden.numbered" 288⟩,⟨PyData.keyHash P "__firstlineno__", .str "__firstlineno__" 301,.int 35 300⟩,⟨PyData.keyHash P "__init__", .str "__init__" 311,.ref 88⟩,⟨PyData.keyHash P "__static_attributes__", .str "__static_attributes__" 316,.ref 89⟩,⟨PyData.keyHash P "__dict__", .str "__dict__" 318,.ref 92⟩,⟨PyData.keyHash P "__weakref__", .str "__weakref__" 320,.ref 93⟩,⟨PyData.keyHash P "__doc__", .str "__doc__" 321,.none⟩] 4,#[]⟩) ::
 (nat_lit 91,⟨.type "type", none,.cls ⟨"NumberedStep", [.type "object"],[.ref 91,.type "object"],90, "NumberedStep", true,[],[],false,none,false⟩,#[none,none,some (.str "NumberedStep" 290),some (.str "NumberedStep" 298),some (.builtin "object.__new__"),some (.bool true)]⟩) ::
 (nat_lit 92,⟨.type "getset_descriptor", none,.fields #[.str "__dict__" 317,.ref 91,.builtin "function.__dict__", .builtin "function.__dict__#set"],#[]⟩) ::
 (nat_lit 93,⟨.type "getset_descriptor", none,.fields #[.str "__weakref__" 319,.ref 91,.builtin "ExceptionGroup.__weakref__", .none],#[]⟩) ::
 (nat_lit 96,⟨.type "tuple", none,.seq #[] 0,#[]⟩) ::
 (nat_lit 98,⟨.type "tuple", none,.seq #[.str "steps" 327,.str "line" 328] 0,#[]⟩) ::
 (nat_lit 99,⟨.type "tuple", none,.seq #[] 0,#[]⟩) ::
 (nat_lit 101,⟨.type "code", none,.fields #[.str "line_behind" 324,.str "line_behind" 325,.str "/claim/cut.py" 326,.int 42 0,.int 2 0,.int 0 0,.int 0 0,.int 3 0,.ref 96,.bool true,.int 181 0,.ref 97,.none,.ref 98,.ref 99,.ref 100,.int 329 0,.int 42 0,.str "/claim/cut.py" 330],#[]⟩) ::
 (nat_lit 102,⟨.type "function", none,.func ⟨"line_behind", "line_behind", L2.defArgs (ax 12),.stmts (L2.defBody (ax 12)),L2.defScope (ax 12),3,[],.none,.none,.none,.str "usewarden.numbered" 288,none,.ref 101,.none,0⟩,#[]⟩) ::
 (nat_lit 103,⟨.type "tuple", none,.seq #[] 0,#[]⟩) ::
 (nat_lit 105,⟨.type "tuple", none,.seq #[.str "step" 335,.str "line" 336,.str "lines" 337,.str "blocks" 338,.str "block" 339,.str "steps" 340] 0,#[]⟩) ::
 (nat_lit 106,⟨.type "tuple", none,.seq #[] 0,#[]⟩) ::
 (nat_lit 108,⟨.type "code", none,.fields #[.str "numbered_step" 332,.str "numbered_step" 333,.str "/claim/cut.py" 334,.int 44 0,.int 2 0,.int 0 0,.int 0 0,.int 3 0,.ref 103,.bool true,.int 181 0,.ref 104,.none,.ref 105,.ref 106,.ref 107,.int 341 0,.int 44 0,.str "/claim/cut.py" 342],#[]⟩) ::
 (nat_lit 109,⟨.type "function", none,.func ⟨"numbered_step", "numbered_step", L2.defArgs (ax 13),.stmts (L2.defBody (ax 13)),L2.defScope (ax 13),3,[],.none,.none,.none,.str "usewarden.numbered" 288,none,.ref 108,.none,0⟩,#[]⟩) ::
 (nat_lit 110,⟨.type "tuple", none,.seq #[] 0,#[]⟩) ::
 (nat_lit 112,⟨.type "tuple", none,.seq #[.str "steps" 347,.str "line" 348,.str "numbered" 349,.str "step" 350] 0,#[]⟩) ::
 (nat_lit 113,⟨.type "tuple", none,.seq #[] 0,#[]⟩) ::
 (nat_lit 115,⟨.type "code", none,.fields #[.str "numbered_steps" 344,.str "numbered_steps" 345,.str "/claim/cut.py" 346,.int 52 0,.int 2 0,.int 0 0,.int 0 0,.int 3 0,.ref 110,.bool true,.int 181 0,.ref 111,.none,.ref 112,.ref 113,.ref 114,.int 351 0,.int 52 0,.str "/claim/cut.py" 352],#[]⟩) ::
 (nat_lit 116,⟨.type "function", none,.func ⟨"numbered_steps", "numbered_steps", L2.defArgs (ax 14),.stmts (L2.defBody (ax 14)),L2.defScope (ax 14),3,[],.none,.none,.none,.str "usewarden.numbered" 288,none,.ref 115,.none,0⟩,#[]⟩) ::
 (nat_lit 117,⟨.type "tuple", none,.seq #[] 0,#[]⟩) ::
 (nat_lit 120,⟨.type "code", none,.fields #[.str "lend_lines" 356,.str "lend_lines" 357,.str "/claim/cut.py" 358,.int 58 0,.int 1 0,.int 0 0,.int 0 0,.int 3 0,.ref 117,.bool true,.int 181 0,.ref 118,.none,.none,.none,.ref 119,.int 359 0,.int 58 0,.str "/claim/cut.py" 360],#[]⟩) ::
 (nat_lit 121,⟨.type "function", none,.func ⟨"lend_lines", "lend_lines", L2.defArgs (ax 16),.stmts (L2.defBody (ax 16)),L2.defScope (ax 16),3,[],.none,.none,.none,.str "usewarden.codes" 354,none,.ref 120,.none,0⟩,#[]⟩) ::
 (nat_lit 122,⟨.type "tuple", none,.seq #[] 0,#[]⟩) ::
 (nat_lit 124,⟨.type "tuple", none,.seq #[.str "program" 365,.str "slots" 366,.str "slot" 367,.str "holder" 368] 0,#[]⟩) ::
 (nat_lit 125,⟨.type "tuple", none,.seq #[] 0,#[]⟩) ::
 (nat_lit 127,⟨.type "code", none,.fields #[.str "slots_of" 362,.str "slots_of" 363,.str "/claim/cut.py" 364,.int 60 0,.int 1 0,.int 0 0,.int 0 0,.int 3 0,.ref 122,.bool true,.int 181 0,.ref 123,.none,.ref 124,.ref 125,.ref 126,.int 369 0,.int 60 0,.str "/claim/cut.py" 370],#[]⟩) ::
 (nat_lit 128,⟨.type "function", none,.func ⟨"slots_of", "slots_of", L2.defArgs (ax 17),.stmts (L2.defBody (ax 17)),L2.defScope (ax 17),3,[],.none,.none,.none,.str "usewarden.codes" 354,none,.ref 127,.none,0⟩,#[]⟩) ::
 (nat_lit 129,⟨.type "tuple", none,.seq #[] 0,#[]⟩) ::
 (nat_lit 132,⟨.type "code", none,.fields #[.str "simple_row" 372,.str "simple_row" 373,.str "/claim/cut.py" 374,.int 65 0,.int 2 0,.int 0 0,.int 0 0,.int 3 0,.ref 129,.bool true,.int 181 0,.ref 130,.none,.none,.none,.ref 131,.int 375 0,.int 65 0,.str "/claim/cut.py" 376],#[]⟩) ::
 (nat_lit 133,⟨.type "function", none,.func ⟨"simple_row", "simple_row", L2.defArgs (ax 18),.stmts (L2.defBody (ax 18)),L2.defScope (ax 18),3,[],.none,.none,.none,.str "usewarden.codes" 354,none,.ref 132,.none,0⟩,#[]⟩) ::
 (nat_lit 134,⟨.type "tuple", none,.seq #[] 0,#[]⟩) ::
 (nat_lit 136,⟨.type "tuple", none,.seq #[.str "step" 381,.str "at" 382,.str "slots" 383,.str "turned" 384,.str "line" 385,.str "back" 386,.str "giver" 387,.str "taker" 388,.str "lent" 389,.str "ahead" 390,.str "within" 391] 0,#[]⟩) ::
 (nat_lit 137,⟨.type "tuple", none,.seq #[] 0,#[]⟩) ::
 (nat_lit 139,⟨.type "code", none,.fields #[.str "lend_rows" 378,.str "lend_rows" 379,.str "/claim/cut.py" 380,.int 70 0,.int 4 0,.int 0 0,.int 0 0,.int 3 0,.ref 134,.bool true,.int 181 0,.ref 135,.none,.ref 136,.ref 137,.ref 138,.int 392 0,.int 70 0,.str "/claim/cut.py" 393],#[]⟩) ::
 (nat_lit 140,⟨.type "function", none,.func ⟨"lend_rows", "lend_rows", L2.defArgs (ax 19),.stmts (L2.defBody (ax 19)),L2.defScope (ax 19),3,[],.none,.none,.none,.str "usewarden.codes" 354,none,.ref 139,.none,0⟩,#[]⟩) ::
 (nat_lit 141,⟨.type "tuple", none,.seq #[] 0,#[]⟩) ::
 (nat_lit 143,⟨.type "tuple", none,.seq #[.str "step" 398,.str "at" 399,.str "slots" 400,.str "turned" 401,.str "more" 402,.str "jump" 403,.str "rest" 404,.str "behind" 405,.str "test" 406] 0,#[]⟩) ::
 (nat_lit 144,⟨.type "tuple", none,.seq #[] 0,#[]⟩) ::
 (nat_lit 146,⟨.type "code", none,.fields #[.str "if_rows" 395,.str "if_rows" 396,.str "/claim/cut.py" 397,.int 79 0,.int 4 0,.int 0 0,.int 0 0,.int 3 0,.ref 141,.bool true,.int 181 0,.ref 142,.none,.ref 143,.ref 144,.ref 145,.int 407 0,.int 79 0,.str "/claim/cut.py" 408],#[]⟩) ::
 (nat_lit 147,⟨.type "function", none,.func ⟨"if_rows", "if_rows", L2.defArgs (ax 20),.stmts (L2.defBody (ax 20)),L2.defScope (ax 20),3,[],.none,.none,.none,.str "usewarden.codes" 354,none,.ref 146,.none,0⟩,#[]⟩) ::
 (nat_lit 148,⟨.type "tuple", none,.seq #[] 0,#[]⟩) ::
 (nat_lit 150,⟨.type "tuple", none,.seq #[.str "step" 413,.str "at" 414,.str "slots" 415,.str "within" 416,.str "behind" 417] 0,#[]⟩) ::
 (nat_lit 151,⟨.type "tuple", none,.seq #[] 0,#[]⟩) ::
 (nat_lit 153,⟨.type "code", none,.fields #[.str "loop_rows" 410,.str "loop_rows" 411,.str "/claim/cut.py" 412,.int 86 0,.int 3 0,.int 0 0,.int 0 0,.int 3 0,.ref 148,.bool true,.int 181 0,.ref 149,.none,.ref 150,.ref 151,.ref 152,.int 418 0,.int 86 0,.str "/claim/cut.py" 419],#[]⟩) ::
 (nat_lit 154,⟨.type "function", none,.func ⟨"loop_rows", "loop_rows", L2.defArgs (ax 21),.stmts (L2.defBody (ax 21)),L2.defScope (ax 21),3,[],.none,.none,.none,.str "usewarden.codes" 354,none,.ref 153,.none,0⟩,#[]⟩) ::
 (nat_lit 155,⟨.type "tuple", none,.seq #[] 0,#[]⟩) ::
 (nat_lit 157,⟨.type "tuple", none,.seq #[.str "step" 424,.str "at" 425,.str "slots" 426,.str "turned" 427,.str "first" 428,.str "loop" 429,.str "behind" 430] 0,#[]⟩) ::
 (nat_lit 158,⟨.type "tuple", none,.seq #[] 0,#[]⟩) ::
 (nat_lit 160,⟨.type "code", none,.fields #[.str "while_rows" 421,.str "while_rows" 422,.str "/claim/cut.py" 423,.int 90 0,.int 4 0,.int 0 0,.int 0 0,.int 3 0,.ref 155,.bool true,.int 181 0,.ref 156,.none,.ref 157,.ref 158,.ref 159,.int 431 0,.int 90 0,.str "/claim/cut.py" 432],#[]⟩) ::
 (nat_lit 161,⟨.type "function", none,.func ⟨"while_rows", "while_rows", L2.defArgs (ax 22),.stmts (L2.defBody (ax 22)),L2.defScope (ax 22),3,[],.none,.none,.none,.str "usewarden.codes" 354,none,.ref 160,.none,0⟩,#[]⟩) ::
 (nat_lit 162,⟨.type "tuple", none,.seq #[] 0,#[]⟩) ::
 (nat_lit 164,⟨.type "tuple", none,.seq #[.str "steps" 437,.str "at" 438,.str "slots" 439,.str "turned" 440,.str "rows" 441,.str "step" 442,.str "place" 443] 0,#[]⟩) ::
 (nat_lit 165,⟨.type "tuple", none,.seq #[] 0,#[]⟩) ::
 (nat_lit 167,⟨.type "code", none,.fields #[.str "rows_of" 434,.str "rows_of" 435,.str "/claim/cut.py" 436,.int 97 0,.int 4 0,.int 0 0,.int 0 0,.int 3 0,.ref 162,.bool true,.int 181 0,.ref 163,.none,.ref 164,.ref 165,.ref 166,.int 444 0,.int 97 0,.str "/claim/cut.py" 445],#[]⟩) ::
 (nat_lit 168,⟨.type "function", none,.func ⟨"rows_of", "rows_of", L2.defArgs (ax 23),.stmts (L2.defBody (ax 23)),L2.defScope (ax 23),3,[],.none,.none,.none,.str "usewarden.codes" 354,none,.ref 167,.none,0⟩,#[]⟩) ::
 (nat_lit 169,⟨.type "tuple", none,.seq #[] 0,#[]⟩) ::
 (nat_lit 171,⟨.type "tuple", none,.seq #[.str "program" 450,.str "turned" 451,.str "steps" 452] 0,#[]⟩) ::
 (nat_lit 172,⟨.type "tuple", none,.seq #[] 0,#[]⟩) ::
 (nat_lit 174,⟨.type "code", none,.fields #[.str "rows_and_end" 447,.str "rows_and_end" 448,.str "/claim/cut.py" 449,.int 110 0,.int 2 0,.int 0 0,.int 0 0,.int 3 0,.ref 169,.bool true,.int 181 0,.ref 170,.none,.ref 171,.ref 172,.ref 173,.int 453 0,.int 110 0,.str "/claim/cut.py" 454],#[]⟩) ::
 (nat_lit 175,⟨.type "function", none,.func ⟨"rows_and_end", "rows_and_end", L2.defArgs (ax 24),.stmts (L2.defBody (ax 24)),L2.defScope (ax 24),3,[],.none,.none,.none,.str "usewarden.codes" 354,none,.ref 174,.none,0⟩,#[]⟩) ::
 (nat_lit 176,⟨.type "tuple", none,.seq #[] 0,#[]⟩) ::
 (nat_lit 178,⟨.type "tuple", none,.seq #[.str "program" 459] 0,#[]⟩) ::
 (nat_lit 179,⟨.type "tuple", none,.seq #[] 0,#[]⟩) ::
 (nat_lit 181,⟨.type "code", none,.fields #[.str "code_of" 456,.str "code_of" 457,.str "/claim/cut.py" 458,.int 113 0,.int 1 0,.int 0 0,.int 0 0,.int 3 0,.ref 176,.bool true,.int 181 0,.ref 177,.none,.ref 178,.ref 179,.ref 180,.int 460 0,.int 113 0,.str "/claim/cut.py" 461],#[]⟩) ::
 (nat_lit 182,⟨.type "function", none,.func ⟨"code_of", "code_of", L2.defArgs (ax 25),.stmts (L2.defBody (ax 25)),L2.defScope (ax 25),3,[],.none,.none,.none,.str "usewarden.codes" 354,none,.ref 181,.none,0⟩,#[]⟩) ::
 (nat_lit 183,⟨.type "tuple", none,.seq #[] 0,#[]⟩) ::
 (nat_lit 185,⟨.type "tuple", none,.seq #[.str "_law_script" 468,.str "_law_k" 469] 0,#[]⟩) ::
 (nat_lit 186,⟨.type "tuple", none,.seq #[] 0,#[]⟩) ::
 (nat_lit 188,⟨.type "code", none,.fields #[.str "_law_cell_at" 465,.str "_law_cell_at" 466,.str "/claim/cut.py" 467,.int 116 0,.int 2 0,.int 0 0,.int 0 0,.int 3 0,.ref 183,.bool true,.int 181 0,.ref 184,.none,.ref 185,.ref 186,.ref 187,.int 470 0,.int 116 0,.str "/claim/cut.py" 471],#[]⟩) ::
 (nat_lit 189,⟨.type "function", none,.func ⟨"_law_cell_at", "_law_cell_at", L2.defArgs (ax 27),.stmts (L2.defBody (ax 27)),L2.defScope (ax 27),3,[],.none,.none,.none,.str "law_usewarden_k35_rows_of_code" 463,none,.ref 188,.none,0⟩,#[]⟩) ::
 (nat_lit 190,⟨.type "tuple", none,.seq #[] 0,#[]⟩) ::
 (nat_lit 193,⟨.type "code", none,.fields #[.str "_law_names" 473,.str "_law_names" 474,.str "/claim/cut.py" 475,.int 120 0,.int 1 0,.int 0 0,.int 0 0,.int 3 0,.ref 190,.bool true,.int 181 0,.ref 191,.none,.none,.none,.ref 192,.int 476 0,.int 120 0,.str "/claim/cut.py" 477],#[]⟩) ::
 (nat_lit 194,⟨.type "function", none,.func ⟨"_law_names", "_law_names", L2.defArgs (ax 28),.stmts (L2.defBody (ax 28)),L2.defScope (ax 28),3,[],.none,.none,.none,.str "law_usewarden_k35_rows_of_code" 463,none,.ref 193,.none,0⟩,#[]⟩) ::
 (nat_lit 195,⟨.type "tuple", none,.seq #[] 0,#[]⟩) ::
 (nat_lit 197,⟨.type "tuple", none,.seq #[.str "_law_cell" 482,.str "_law_way" 483] 0,#[]⟩) ::
 (nat_lit 198,⟨.type "tuple", none,.seq #[] 0,#[]⟩) ::
 (nat_lit 200,⟨.type "code", none,.fields #[.str "_law_bound" 479,.str "_law_bound" 480,.str "/claim/cut.py" 481,.int 135 0,.int 1 0,.int 0 0,.int 0 0,.int 3 0,.ref 195,.bool true,.int 181 0,.ref 196,.none,.ref 197,.ref 198,.ref 199,.int 484 0,.int 135 0,.str "/claim/cut.py" 485],#[]⟩) ::
 (nat_lit 201,⟨.type "function", none,.func ⟨"_law_bound", "_law_bound", L2.defArgs (ax 29),.stmts (L2.defBody (ax 29)),L2.defScope (ax 29),3,[],.none,.none,.none,.str "law_usewarden_k35_rows_of_code" 463,none,.ref 200,.none,0⟩,#[]⟩) ::
 (nat_lit 202,⟨.type "tuple", none,.seq #[] 0,#[]⟩) ::
 (nat_lit 204,⟨.type "tuple", none,.seq #[.str "_law_cell" 490,.str "_law_x" 491,.str "_law_y" 492,.str "_law_names_here" 493,.str "_law_kind" 494,.str "_law_words" 495] 0,#[]⟩) ::
 (nat_lit 205,⟨.type "tuple", none,.seq #[] 0,#[]⟩) ::
 (nat_lit 207,⟨.type "code", none,.fields #[.str "_law_step" 487,.str "_law_step" 488,.str "/claim/cut.py" 489,.int 142 0,.int 4 0,.int 0 0,.int 0 0,.int 3 0,.ref 202,.bool true,.int 181 0,.ref 203,.none,.ref 204,.ref 205,.ref 206,.int 496 0,.int 142 0,.str "/claim/cut.py" 497],#[]⟩) ::
 (nat_lit 208,⟨.type "function", none,.func ⟨"_law_step", "_law_step", L2.defArgs (ax 30),.stmts (L2.defBody (ax 30)),L2.defScope (ax 30),3,[],.none,.none,.none,.str "law_usewarden_k35_rows_of_code" 463,none,.ref 207,.none,0⟩,#[]⟩) ::
 (nat_lit 209,⟨.type "tuple", none,.seq #[] 0,#[]⟩) ::
 (nat_lit 211,⟨.type "tuple", none,.seq #[.str "_law_here" 502,.str "_law_pile" 503,.str "_law_lines" 504,.str "_law_cell" 505,.str "_law_x" 506,.str "_law_y" 507,.str "_law_inner" 508,.str "_law_bound_here" 509,.str "_law_others" 510] 0,#[]⟩) ::
 (nat_lit 212,⟨.type "tuple", none,.seq #[] 0,#[]⟩) ::
 (nat_lit 214,⟨.type "code", none,.fields #[.str "_law_begun" 499,.str "_law_begun" 500,.str "/claim/cut.py" 501,.int 154 0,.int 6 0,.int 0 0,.int 0 0,.int 3 0,.ref 209,.bool true,.int 181 0,.ref 210,.none,.ref 211,.ref 212,.ref 213,.int 511 0,.int 154 0,.str "/claim/cut.py" 512],#[]⟩) ::
 (nat_lit 215,⟨.type "function", none,.func ⟨"_law_begun", "_law_begun", L2.defArgs (ax 31),.stmts (L2.defBody (ax 31)),L2.defScope (ax 31),3,[],.none,.none,.none,.str "law_usewarden_k35_rows_of_code" 463,none,.ref 214,.none,0⟩,#[]⟩) ::
 (nat_lit 216,⟨.type "tuple", none,.seq #[] 0,#[]⟩) ::
 (nat_lit 219,⟨.type "code", none,.fields #[.str "_law_program" 514,.str "_law_program" 515,.str "/claim/cut.py" 516,.int 173 0,.int 2 0,.int 0 0,.int 0 0,.int 3 0,.ref 216,.bool true,.int 181 0,.ref 217,.none,.none,.none,.ref 218,.int 517 0,.int 173 0,.str "/claim/cut.py" 518],#[]⟩) ::
 (nat_lit 220,⟨.type "function", none,.func ⟨"_law_program", "_law_program", L2.defArgs (ax 32),.stmts (L2.defBody (ax 32)),L2.defScope (ax 32),3,[],.none,.none,.none,.str "law_usewarden_k35_rows_of_code" 463,none,.ref 219,.none,0⟩,#[]⟩) ::
 (nat_lit 221,⟨.type "tuple", none,.seq #[] 0,#[]⟩) ::
 (nat_lit 223,⟨.type "tuple", none,.seq #[.str "_law_lines" 523,.str "_law_found" 524,.str "_law_pile" 525,.str "_law_at" 526,.str "_law_word" 527,.str "_law_head" 528] 0,#[]⟩) ::
 (nat_lit 224,⟨.type "tuple", none,.seq #[] 0,#[]⟩) ::
 (nat_lit 226,⟨.type "code", none,.fields #[.str "_law_partners" 520,.str "_law_partners" 521,.str "/claim/cut.py" 522,.int 199 0,.int 1 0,.int 0 0,.int 0 0,.int 3 0,.ref 221,.bool true,.int 181 0,.ref 222,.none,.ref 223,.ref 224,.ref 225,.int 529 0,.int 199 0,.str "/claim/cut.py" 530],#[]⟩) ::
 (nat_lit 227,⟨.type "function", none,.func ⟨"_law_partners", "_law_partners", L2.defArgs (ax 33),.stmts (L2.defBody (ax 33)),L2.defScope (ax 33),3,[],.none,.none,.none,.str "law_usewarden_k35_rows_of_code" 463,none,.ref 226,.none,0⟩,#[]⟩) ::
 (nat_lit 228,⟨.type "tuple", none,.seq #[] 0,#[]⟩) ::
 (nat_lit 230,⟨.type "tuple", none,.seq #[.str "_law_lines" 535,.str "_law_slots_here" 536,.str "_law_line" 537,.str "_law_words" 538,.str "_law_name" 539] 0,#[]⟩) ::
 (nat_lit 231,⟨.type "tuple", none,.seq #[] 0,#[]⟩) ::
 (nat_lit 233,⟨.type "code", none,.fields #[.str "_law_slots" 532,.str "_law_slots" 533,.str "/claim/cut.py" 534,.int 211 0,.int 1 0,.int 0 0,.int 0 0,.int 3 0,.ref 228,.bool true,.int 181 0,.ref 229,.none,.ref 230,.ref 231,.ref 232,.int 540 0,.int 211 0,.str "/claim/cut.py" 541],#[]⟩) ::
 (nat_lit 234,⟨.type "function", none,.func ⟨"_law_slots", "_law_slots", L2.defArgs (ax 34),.stmts (L2.defBody (ax 34)),L2.defScope (ax 34),3,[],.none,.none,.none,.str "law_usewarden_k35_rows_of_code" 463,none,.ref 233,.none,0⟩,#[]⟩) ::
 (nat_lit 235,⟨.type "tuple", none,.seq #[] 0,#[]⟩) ::
 (nat_lit 237,⟨.type "tuple", none,.seq #[.str "_law_lines" 546,.str "_law_firsts_here" 547,.str "_law_line" 548,.str "_law_many" 549] 0,#[]⟩) ::
 (nat_lit 238,⟨.type "tuple", none,.seq #[] 0,#[]⟩) ::
 (nat_lit 240,⟨.type "code", none,.fields #[.str "_law_firsts" 543,.str "_law_firsts" 544,.str "/claim/cut.py" 545,.int 221 0,.int 1 0,.int 0 0,.int 0 0,.int 3 0,.ref 235,.bool true,.int 181 0,.ref 236,.none,.ref 237,.ref 238,.ref 239,.int 550 0,.int 221 0,.str "/claim/cut.py" 551],#[]⟩) ::
 (nat_lit 241,⟨.type "function", none,.func ⟨"_law_firsts", "_law_firsts", L2.defArgs (ax 35),.stmts (L2.defBody (ax 35)),L2.defScope (ax 35),3,[],.none,.none,.none,.str "law_usewarden_k35_rows_of_code" 463,none,.ref 240,.none,0⟩,#[]⟩) ::
 (nat_lit 242,⟨.type "tuple", none,.seq #[] 0,#[]⟩) ::
 (nat_lit 245,⟨.type "code", none,.fields #[.str "_law_rows" 553,.str "_law_rows" 554,.str "/claim/cut.py" 555,.int 231 0,.int 6 0,.int 0 0,.int 0 0,.int 3 0,.ref 242,.bool true,.int 181 0,.ref 243,.none,.none,.none,.ref 244,.int 556 0,.int 231 0,.str "/claim/cut.py" 557],#[]⟩) ::
 (nat_lit 246,⟨.type "function", none,.func ⟨"_law_rows", "_law_rows", L2.defArgs (ax 36),.stmts (L2.defBody (ax 36)),L2.defScope (ax 36),3,[],.none,.none,.none,.str "law_usewarden_k35_rows_of_code" 463,none,.ref 245,.none,0⟩,#[]⟩) ::
 (nat_lit 247,⟨.type "tuple", none,.seq #[] 0,#[]⟩) ::
 (nat_lit 250,⟨.type "code", none,.fields #[.str "_law_due" 559,.str "_law_due" 560,.str "/claim/cut.py" 561,.int 250 0,.int 1 0,.int 0 0,.int 0 0,.int 3 0,.ref 247,.bool true,.int 181 0,.ref 248,.none,.none,.none,.ref 249,.int 562 0,.int 250 0,.str "/claim/cut.py" 563],#[]⟩) ::
 (nat_lit 251,⟨.type "function", none,.func ⟨"_law_due", "_law_due", L2.defArgs (ax 37),.stmts (L2.defBody (ax 37)),L2.defScope (ax 37),3,[],.none,.none,.none,.str "law_usewarden_k35_rows_of_code" 463,none,.ref 250,.none,0⟩,#[]⟩) ::
 (nat_lit 252,⟨.type "tuple", none,.seq #[] 0,#[]⟩) ::
 (nat_lit 254,⟨.type "tuple", none,.seq #[.str "_law_found" 568,.str "_law_due_here" 569,.str "_law_one" 570,.str "_law_other" 571] 0,#[]⟩) ::
 (nat_lit 255,⟨.type "tuple", none,.seq #[] 0,#[]⟩) ::
 (nat_lit 257,⟨.type "code", none,.fields #[.str "_law_row" 565,.str "_law_row" 566,.str "/claim/cut.py" 567,.int 264 0,.int 2 0,.int 0 0,.int 0 0,.int 3 0,.ref 252,.bool true,.int 181 0,.ref 253,.none,.ref 254,.ref 255,.ref 256,.int 572 0,.int 264 0,.str "/claim/cut.py" 573],#[]⟩) ::
 (nat_lit 258,⟨.type "function", none,.func ⟨"_law_row", "_law_row", L2.defArgs (ax 38),.stmts (L2.defBody (ax 38)),L2.defScope (ax 38),3,[],.none,.none,.none,.str "law_usewarden_k35_rows_of_code" 463,none,.ref 257,.none,0⟩,#[]⟩) ::
 (nat_lit 259,⟨.type "tuple", none,.seq #[] 0,#[]⟩) ::
 (nat_lit 261,⟨.type "tuple", none,.seq #[.str "_law_found" 578,.str "_law_due_here" 579,.str "_law_one" 580,.str "_law_other" 581] 0,#[]⟩) ::
 (nat_lit 262,⟨.type "tuple", none,.seq #[] 0,#[]⟩) ::
 (nat_lit 264,⟨.type "code", none,.fields #[.str "_law_right" 575,.str "_law_right" 576,.str "/claim/cut.py" 577,.int 273 0,.int 2 0,.int 0 0,.int 0 0,.int 3 0,.ref 259,.bool true,.int 181 0,.ref 260,.none,.ref 261,.ref 262,.ref 263,.int 582 0,.int 273 0,.str "/claim/cut.py" 583],#[]⟩) ::
 (nat_lit 265,⟨.type "function", none,.func ⟨"_law_right", "_law_right", L2.defArgs (ax 39),.stmts (L2.defBody (ax 39)),L2.defScope (ax 39),3,[],.none,.none,.none,.str "law_usewarden_k35_rows_of_code" 463,none,.ref 264,.none,0⟩,#[]⟩) ::
 (nat_lit 266,⟨.type "tuple", none,.seq #[] 0,#[]⟩) ::
 (nat_lit 268,⟨.type "tuple", none,.seq #[.str "_law_script" 588,.str "_law_names_here" 589,.str "_law_program_here" 590,.str "_law_lines" 591,.str "_law_due_here" 592,.str "_law_found" 593] 0,#[]⟩) ::
 (nat_lit 269,⟨.type "tuple", none,.seq #[] 0,#[]⟩) ::
 (nat_lit 271,⟨.type "code", none,.fields #[.str "law" 585,.str "law" 586,.str "/claim/cut.py" 587,.int 280 0,.int 1 0,.int 0 0,.int 0 0,.int 3 0,.ref 266,.bool true,.int 181 0,.ref 267,.none,.ref 268,.ref 269,.ref 270,.int 594 0,.int 280 0,.str "/claim/cut.py" 595],#[]⟩) ::
 (nat_lit 272,⟨.type "function", none,.func ⟨"law", "law", L2.defArgs (ax 40),.stmts (L2.defBody (ax 40)),L2.defScope (ax 40),3,[],.none,.none,.none,.str "law_usewarden_k35_rows_of_code" 463,none,.ref 271,.none,0⟩,#[]⟩)::[]
def kk:List Addr:=[2,3,15,16,17,18,19,20,21,22,23,24,25,26,27,28,30,31,33,34,35,37,38,40,41,42,44,45,47,48,49,51,52,54,55,56,58,59,61,62,63,66,67,68,70,71,73,74,82,84,85,87,88,89,90,91,92,93,96,98,99,101,102,103,105,106,108,109,110,112,113,115,116,117,120,121,122,124,125,127,128,129,132,133,134,136,137,139,140,141,143,144,146,147,148,150,151,153,154,155,157,158,160,161,162,164,165,167,168,169,171,172,174,175,176,178,179,181,182,183,185,186,188,189,190,193,194,195,197,198,200,201,202,204,205,207,208,209,211,212,214,215,216,219,220,221,223,224,226,227,228,230,231,233,234,235,237,238,240,241,242,245,246,247,250,251,252,254,255,257,258,259,261,262,264,265,266,268,269,271,272]
theorem kk_eq:∀ P,kk=(KK P).map (·.1):=fun _=>by kernel_rfl
noncomputable abbrev HH:Hook:=kHook KK kk kk_eq
def qq:Program:=view PySem.Challenge.pw_usewarden_k35_rows_of_code [1,2,3,4,5,6,7,8,9,11,12,13,14,16,17,18,19,20,21,22,23,24,25,27,28,29,30,31,32,33,34,35,36,37,38,39,40]
def loo:List Str:=["PARTS", "CLOSERS"]
noncomputable def xt(s:Shared):Bool:=xlAt qq [] s&&recOk (RowW.records (OpenRow.toRowW (OpenLaw.row PySem.Challenge.rw_usewarden_k35_rows_of_code))) s
def qC(w:World):Prop:=(openEnds treeTable PySem.Challenge.pw_usewarden_k35_rows_of_code w 3200).map (fun s=>openSeen qq loo (importedModules (Program.main PySem.Challenge.pw_usewarden_k35_rows_of_code).body) xt true s)=some (openGood qq loo)
def qO(w:World):Prop:=(openEnds treeTable PySem.Challenge.pw_usewarden_k35_rows_of_code w 3200).map (fun s=>Hook.obs HH s)=some (Hook.val HH w)
set_option maxRecDepth 1000000 in
theorem Ek(w:World):qC (w.withFollow "special-get-raises" false):=by unfold qC; kernel_rfl
set_option maxRecDepth 1000000 in
theorem Ea(w:World):qC (w.withFollow "special-get-raises" true):=by unfold qC; kernel_rfl
theorem C_(w:World):qC w:=byRow2 "special-get-raises" (P:=qC) Ek Ea w
set_option maxRecDepth 1000000 in
theorem Dy(w:World):qO (w.withFollow "special-get-raises" false):=by unfold qO; kernel_rfl
set_option maxRecDepth 1000000 in
theorem C0(w:World):qO (w.withFollow "special-get-raises" true):=by unfold qO; kernel_rfl
theorem DX(w:World):qO w:=byRow2 "special-get-raises" (P:=qO) Dy C0 w
theorem xg{α β γ : Type}{o:Option α}{f:α→β}{g:α→γ}{a:β}{b:γ}(h1:o.map f=some a)(h2:o.map g=some b):o.map (fun s=>(f s,g s))=some (a,b):=by
 cases o with
 | none=>cases h1
 | some s=>cases h1; cases h2; rfl
theorem hl(w:World):(openEnds treeTable PySem.Challenge.pw_usewarden_k35_rows_of_code w 3200).map (fun s=>(openSeen qq loo (importedModules (Program.main PySem.Challenge.pw_usewarden_k35_rows_of_code).body) xt true s,Hook.obs HH s))=some (openGood qq loo,Hook.val HH w):=xg (C_ w) (DX w)
end K35
-- CHANGE: your row's module here, as the last of these rows
namespace L2
open PySem PySem.Spec PyProof.Rows
abbrev aB:=Sum Int Str
def jx:aB→Value→Bool
 | .inl k,v=>Value.isInt k v
 | .inr x,v=>Value.isStrOf x v
def DY(w:World):aB→Int
 | .inl k=>hashInt k
 | .inr x=>hashStr w x
theorem cU:∀ {k:aB} {v:Value},jx k v=true→(∃ i t,k=Sum.inl i∧v=Value.int i t)∨(∃ x t,k=Sum.inr x∧v=Value.str x t)
 | .inl i,v,h=>by
  obtain⟨t,e⟩:=Value.isInt_shape (k:=i) (v:=v) h
  exact .inl ⟨i,t,rfl,e⟩
 | .inr x,v,h=>by
  obtain⟨t,e⟩:=Value.isStrOf_shape (x:=x) (v:=v) h
  exact .inr ⟨x,t,rfl,e⟩
theorem uC(i:Int)(t:Tok):jx (.inl i) (.int i t)=true:=by simp[jx,Value.isInt]
theorem v7(x:Str)(t:Tok):jx (.inr x) (.str x t)=true:=by simp[jx,Value.isStrOf]
theorem AW(a b:Int):decide ((Sum.inl a:aB)=Sum.inl b)=(a == b):=by
 by_cases e:a=b
 ·subst e; simp
 ·have h:¬ (Sum.inl a:aB)=Sum.inl b:=fun q=>e (Sum.inl.inj q)
  rw[decide_eq_false h]
  exact(beq_eq_false_iff_ne.mpr e).symm
theorem z0(a b:Str):decide ((Sum.inr a:aB)=Sum.inr b)=decide (a=b):=by
 by_cases e:a=b
 ·subst e; simp
 ·have h:¬ (Sum.inr a:aB)=Sum.inr b:=fun q=>e (Sum.inr.inj q)
  rw[decide_eq_false h,decide_eq_false e]
theorem AA(a:Int)(b:Str):decide ((Sum.inl a:aB)=Sum.inr b)=false:=decide_eq_false (fun q=>nomatch q)
theorem Ad(a:Str)(b:Int):decide ((Sum.inr a:aB)=Sum.inl b)=false:=decide_eq_false (fun q=>nomatch q)
def cP(prog:Program)(w:World):PySem.KeyKind prog w aB where
 is:=jx
 hash:=DY w
 inj:=fun v a b ha hb=>by
  rcases cU ha with ⟨i,t,rfl,rfl⟩ | ⟨x,t,rfl,rfl⟩
  ·rcases cU hb with ⟨j,u,rfl,e⟩ | ⟨y,u,rfl,e⟩
   ·injection e with e1 _; rw[e1]
   ·exact nomatch e
  ·rcases cU hb with ⟨j,u,rfl,e⟩ | ⟨y,u,rfl,e⟩
   ·exact nomatch e
   ·injection e with e1 _; rw[e1]
 byValue:=fun k v h=>by
  rcases cU h with ⟨i,t,rfl,rfl⟩ | ⟨x,t,rfl,rfl⟩ <;> rfl
 pyHash:=fun hv h=>by
  rcases cU hv with ⟨i,t,rfl,rfl⟩ | ⟨x,t,rfl,rfl⟩
  ·exact wpAny_pyHash_int h
  ·exact wpAny_pyHash_str h
 eqBool:=fun hu hv h=>by
  rcases cU hu with ⟨i,t,rfl,rfl⟩ | ⟨x,t,rfl,rfl⟩
  ·rcases cU hv with ⟨j,u,rfl,rfl⟩ | ⟨y,u,rfl,rfl⟩
   ·rw[AW]at h; exact wpAny_eqBool_int h
   ·rw[AA]at h; exact SeqAt.EqAt.int_str i t y u _ _ _ _ h
  ·rcases cU hv with ⟨j,u,rfl,rfl⟩ | ⟨y,u,rfl,rfl⟩
   ·rw[Ad]at h; exact SeqAt.EqAt.str_int x t j u _ _ _ _ h
   ·rw[z0]at h; exact wpAny_eqBool_str h
 «strs»:=fun k x t v h=>by
  rcases cU h with ⟨i,u,rfl,e⟩ | ⟨y,u,rfl,e⟩
  ·exact nomatch e
  ·injection e with e1 _
   subst e1
   cases v <;> rfl
theorem qr(prog:Program)(w:World)(i:Int)(t:Tok):(cP prog w).is (.inl i) (.int i t)=true:=uC i t
theorem qt(prog:Program)(w:World)(x:Str)(t:Tok):(cP prog w).is (.inr x) (.str x t)=true:=v7 x t
end L2
namespace L2
open PySem PySem.Spec PyProof.Rows
set_option genSizeOf false in
inductive V where
 | non | bl (b:Bool) | int (i:Int) | str (x:Str) | byt (b:Array UInt8) | flt (b:UInt64) | ref (a:Addr) | ty (n:String)
 deriving DecidableEq
def RelV:V→Value→Prop
 | .non,u=>u=Value.none
 | .bl b,u=>u=Value.bool b
 | .int i,u=>∃ t,u=Value.int i t
 | .str x,u=>∃ t,u=Value.str x t
 | .byt b,u=>∃ t,u=Value.bytes b t
 | .flt b,u=>∃ t,u=Value.float b t
 | .ref a,u=>u=Value.ref a
 | .ty n,u=>u=Value.type n
abbrev Vals:List V→List Value→Prop:=Paired RelV
theorem Vals.length{xs:List V}{us:List Value}(r:Vals xs us):xs.length=us.length:=Paired.length r
theorem Vals.get:∀ {xs:List V} {us:List Value} {i:Nat} {x:V},Vals xs us→xs[i]? = some x→∃ u,us[i]? = some u∧RelV x u
 | _,_,_,_,.nil,e=>by simp at e
 | _,_,0,_,.cons r _,e=>by simp at e; subst e; exact⟨_,rfl,r⟩
 | _,_,i+1,x,.cons _ t,e=>by
  obtain⟨u,h1,h2⟩:=Vals.get (i:=i) (x:=x) t (by simpa using e)
  exact⟨u,by simpa using h1,h2⟩
theorem Vals.append:∀ {xs ys:List V} {us ws:List Value},Vals xs us→Vals ys ws→Vals (xs++ys) (us++ws)
 | _,_,_,_,.nil,s=>s
 | _,_,_,_,.cons r t,s=>.cons r (Vals.append t s)
theorem Vals.take:∀ {xs:List V} {us:List Value} (n:Nat),Vals xs us→Vals (xs.take n) (us.take n)
 | _,_,0,_=>.nil
 | _,_,_+1,.nil=>.nil
 | _,_,n+1,.cons r t=>.cons r (Vals.take n t)
theorem Vals.drop:∀ {xs:List V} {us:List Value} (n:Nat),Vals xs us→Vals (xs.drop n) (us.drop n)
 | _,_,0,r=>r
 | _,_,_+1,.nil=>.nil
 | _,_,n+1,.cons _ t=>Vals.drop n t
def RelO:Option V→Option Value→Prop
 | some v,some u=>RelV v u
 | none,none=>True
 | _,_=>False
def KV{κ : Type}:List (κ × V)→List (κ × Value)→Prop:=Paired fun (p:κ × V) (q:κ × Value)=>p.1=q.1∧RelV p.2 q.2
def kV:aB→V
 | .inl i=>.int i
 | .inr x=>.str x
set_option genSizeOf false in
inductive HO where
 /-- a list -/
 | lst (xs:List V)
 /-- a tuple (never changes) -/
 | tup (xs:List V)
 /-- a dict whose keys are ints and texts; one whose keys are tuples of ints and texts (the empty one is both) -/
 | dK (kvs:List (aB × V)) | dT (kvs:List (List aB × V))
 /-- a set of ints: its members, its size -/
 | set (S:Int→Bool) (n:Nat)
 /-- an instance of the class at C, its dict at dx, its attributes -/
 | ins (C dx:Addr) (fs:List (Str × V))
 /-- the dict of the instance at x -/
 | own (x:Addr)
 /-- the dict of an exception -/
 | xd (fs:List (Str × V))
 /-- a bound method, f of x -/
 | met (f x:Addr)
 /-- a range object lo, lo+1, .. below hi -/
 | rng (lo hi:Int)
 /-- a thing that is known to the object (the script; a dict while a loop walks it): read, never written while it is so -/
 | frz (o:Obj) (u:HO)
 /-- a code object's table -/
 | tbl (ps:Array Value)
 /-- any other thing, by what is true of its one object (a def of one's own: SetO a S n := HO.ext fun h => ..) -/
 | ext (φ : Heap→Prop)
abbrev Hp:=Addr→Option HO
def upd(H:Hp)(a:Addr)(o:HO):Hp:=fun b=>if b=a then some o else H b
theorem ac{H:Hp}{a:Addr}{o:HO}:upd H a o a=some o:=by unfold upd; rw[if_pos rfl]
theorem ah{H:Hp}{a b:Addr}{o:HO}(h:b≠a):upd H a o b=H b:=by unfold upd; rw[if_neg h]
theorem ci{H:Hp}{a b:Addr}{o u:HO}(h:H a=some o)(h':H b=some u)(d:o≠u):a≠b:=by
 intro e; subst e; rw[h]at h'; exact d (Option.some.inj h')
theorem au{H:Hp}{a b:Addr}{o:HO}(h:H a=some o)(h':H b=none):a≠b:=by
 intro e; subst e; rw[h]at h'; cases h'
def IsTupN(h:Heap)(a:Addr)(items:Array Value):Prop:=∃ o,h.get? a=some o∧o.cls = .type "tuple" ∧ o.dict=none∧∃ n,o.data = .seq items n
theorem IsTupN.tup{h:Heap}{a:Addr}{items:Array Value}(x:IsTupN h a items):IsTup h a items:=let ⟨o,e,c,_,d⟩:=x; ⟨o,e,c,d⟩
theorem IsTupN.lt{h:Heap}{a:Addr}{items:Array Value}(x:IsTupN h a items):a<h.objs.size:=let ⟨_,e,_⟩:=x; Heap.lt_size e
theorem IsTupN.new(h:Heap)(items:Array Value):IsTupN (h.push { cls:=.type "tuple", data:=.seq items }) h.objs.size items:=⟨_,Heap.get?_push_size _ rfl,rfl,rfl,_,rfl⟩
section
variable(P:Program)(w:World)
def ObjOk(H:Hp)(h:Heap)(a:Addr):HO→Prop
 | .lst xs=>xs.length≤sizeLine∧∃ (its:List Value) (n:Nat),Vals xs its∧h.get? a=some { cls:=.type "list", data:=.seq its.toArray n }
 | .tup xs=>xs.length≤sizeLine∧∃ its:List Value,Vals xs its∧IsTupN h a its.toArray
 | .dK kvs=>kvs.length≤sizeLine∧(a == sysModules)=false∧∃ vs,KV kvs vs∧h.DictOf (cP P w) a vs
 | .dT kvs=>kvs.length≤sizeLine∧(a == sysModules)=false∧∃ xs:List (List aB × Addr × Value),
   Paired (fun (p:List aB × V) (q:List aB × Addr × Value)=>p.1=q.1∧H q.2.1=some (.tup (p.1.map kV))∧RelV p.2 q.2.2) kvs xs∧
   ∃ o es ep,h.get? a=some o∧o.ExactDict∧o.data = .dict es ep∧es.toList=xs.map (entryOfKey (tupleKind (cP P w)))∧(xs.map (·.1)).Nodup
 | .set S n=>h.SetOf (intKind P w) a S n
 | .ins C dx fs=>H dx=some (.own a)∧fs.length≤1000∧dx≠a∧h.get? a=some (PySem.W.instObj C dx)∧
   ∃ mA,h.Ns1 dx mA∧(∀ f,RelO (fs.lookup f) (mA f))∧PySem.Within mA (fs.map (·.1))
 | .own _=>∃ o,h.get? a=some o
 | .xd fs=>∃ mA,h.Ns1 a mA∧∀ f,RelO (fs.lookup f) (mA f)
 | .rng lo hi=>∃ t u v,h.get? a=some { cls:=.type "range", data:=.fields #[.int lo t,.int hi u,.int 1 v] }
 | .frz o u=>h.get? a=some o∧ObjOk H h a u
 | .tbl ps=>h.get? a=some { cls:=.none,data:=.fields ps }
 | .met f x=>h.get? a=some (PySem.W.methodObj (.ref f) (.ref x))
 | .ext φ=>φ h∧(∃ o,h.get? a=some o)∧∀ h1 h2:Heap,φ h1→(∀ o,h1.get? a=some o→h2.get? a=some o)→φ h2
def HOk(H:Hp)(h:Heap):Prop:=∀ a o,H a=some o→ObjOk P w H h a o
end
section
variable{P:Program}{w:World}{H H':Hp}{h h':Heap}{a:Addr}{o:HO}
theorem ObjOk.lt(x:ObjOk P w H h a o):a<h.objs.size:=by
 cases o with
 | lst xs=>obtain⟨_,_,_,_,e⟩:=x; exact Heap.lt_size e
 | tup xs=>obtain⟨_,_,_,p⟩:=x; exact p.lt
 | dK kvs=>obtain⟨_,_,_,_,o,_,_,e,_⟩:=x; exact Heap.lt_size e
 | dT kvs=>obtain⟨_,_,_,_,o,_,_,e,_⟩:=x; exact Heap.lt_size e
 | set S n=>obtain⟨o,_,_,_,e,_⟩:=x; exact Heap.lt_size e
 | ins C dx fs=>obtain⟨_,_,_,e,_⟩:=x; exact Heap.lt_size e
 | own y=>obtain⟨_,e⟩:=x; exact Heap.lt_size e
 | xd fs=>obtain⟨_,⟨_,_,_,e,_⟩,_⟩:=x; exact Heap.lt_size e
 | rng lo hi=>obtain⟨_,_,_,e⟩:=x; exact Heap.lt_size e
 | frz ob u=>obtain⟨e,_⟩:=x; exact Heap.lt_size e
 | tbl ps=>exact Heap.lt_size (show h.get? a=some _ from x)
 | met f y=>exact Heap.lt_size (show h.get? a=some _ from x)
 | ext φ=>obtain⟨_,⟨_,e⟩,_⟩:=x; exact Heap.lt_size e
theorem Paired.mapP{α β : Type}{F G:α→β→Prop}:∀ {l₁:List α} {l₂:List β},Paired F l₁ l₂→(∀ a b,F a b→G a b)→Paired G l₁ l₂
 | _,_,.nil,_=>.nil
 | _,_,.cons r t,f=>.cons (f _ _ r) (Paired.mapP t f)
theorem Paired.imp'{α β : Type}{F G:α→β→Prop}(f:∀ a b,F a b→G a b){l₁:List α}{l₂:List β}(r:Paired F l₁ l₂):Paired G l₁ l₂:=Paired.mapP r f
theorem ObjOk.stay(x:ObjOk P w H h a o)(k:∀ b u,(b=a∨H b=some (.own a))→h.get? b=some u→h'.get? b=some u)
  (ho:∀ b,H b=some (.own a)→H' b=some (.own a)) (ht:∀ b xs,H b=some (.tup xs)→H' b=some (.tup xs)):ObjOk P w H' h' a o:=by
 induction o with
 | lst xs=>obtain⟨z,its,n,r,e⟩:=x; exact⟨z,its,n,r,k _ _ (.inl rfl) e⟩
 | tup xs=>obtain⟨z,its,r,ob,e,c⟩:=x; exact⟨z,its,r,ob,k _ _ (.inl rfl) e,c⟩
 | dK kvs=>obtain⟨z,y,vs,r,ob,es,ep,e,c⟩:=x; exact⟨z,y,vs,r,ob,es,ep,k _ _ (.inl rfl) e,c⟩
 | dT kvs=>
  obtain⟨z,y,xs,r,ob,es,ep,e,c⟩:=x
  exact⟨z,y,xs,Paired.mapP r fun p q z=>⟨z.1,ht _ _ z.2.1,z.2.2⟩,ob,es,ep,k _ _ (.inl rfl) e,c⟩
 | set S n=>obtain⟨ob,es,ep,t,e,c⟩:=x; exact⟨ob,es,ep,t,k _ _ (.inl rfl) e,c⟩
 | ins C dx fs=>
  obtain⟨d,z,ne,e,mA,⟨od,es,ep,e2,c⟩,r⟩:=x
  exact⟨ho _ d,z,ne,k _ _ (.inl rfl) e,mA,⟨od,es,ep,k _ _ (.inr d) e2,c⟩,r⟩
 | own y=>obtain⟨ob,e⟩:=x; exact⟨ob,k _ _ (.inl rfl) e⟩
 | xd fs=>obtain⟨mA,⟨od,es,ep,e,c⟩,r⟩:=x; exact⟨mA,⟨od,es,ep,k _ _ (.inl rfl) e,c⟩,r⟩
 | rng lo hi=>obtain⟨t,u,v,e⟩:=x; exact⟨t,u,v,k _ _ (.inl rfl) e⟩
 | frz ob u ih=>obtain⟨e,q⟩:=x; exact⟨k _ _ (.inl rfl) e,ih q⟩
 | tbl ps=>
  have e:h.get? a=some { cls:=.none,data:=.fields ps }:=x
  show h'.get? a=some { cls:=.none,data:=.fields ps }
  exact k a _ (.inl rfl) e
 | met f y=>
  have e:h.get? a=some (PySem.W.methodObj (.ref f) (.ref y)):=x
  show h'.get? a=some (PySem.W.methodObj (.ref f) (.ref y))
  exact k a _ (.inl rfl) e
 | ext φ=>obtain⟨p,⟨o,e⟩,st⟩:=x; exact⟨st _ _ p fun o q=>k _ _ (.inl rfl) q,⟨o,k _ _ (.inl rfl) e⟩,st⟩
theorem HOk.lt(x:HOk P w H h)(e:H a=some o):a<h.objs.size:=(x a o e).lt
theorem HOk.fresh(x:HOk P w H h)(e:h.objs.size≤a):H a=none:=by
 cases q:H a with
 | none=>rfl
 | some u=>exact absurd (Nat.lt_of_lt_of_le (x.lt q) e) (Nat.lt_irrefl _)
theorem HOk.kept(x:HOk P w H h)(k:∀ b u,h.get? b=some u→h'.get? b=some u):HOk P w H h':=fun a o e=>
 (x a o e).stay (fun b u _ q=>k b u q) (fun _ q=>q) fun _ _ q=>q
theorem HOk.laid(x:HOk P w H h)(k:∀ b u,h.get? b=some u→h'.get? b=some u)(hp:h.objs.size≤a)(new:ObjOk P w (upd H a o) h' a o):HOk P w (upd H a o) h':=fun b u e=>by
 have hn:=x.fresh hp
 by_cases hb:b=a
 ·subst hb; rw[ac]at e; cases e; exact new
 ·rw[ah hb]at e
  exact(x b u e).stay (fun c v _ q=>k c v q) (fun c q=>by rw[ah (au q hn)]; exact q) fun c xs q=>by rw[ah (au q hn)]; exact q
end
def Rd(H:Hp)(a:Addr)(u:HO):Prop:=H a=some u∨∃ o,H a=some (.frz o u)
theorem Rd.ok{P:Program}{w:World}{H:Hp}{h:Heap}{a:Addr}{u:HO}(r:Rd H a u)(x:HOk P w H h):ObjOk P w H h a u:=by
 rcases r with r | ⟨o,r⟩
 ·exact x a u r
 ·obtain⟨_,q⟩:=x a _ r
  exact q
def ve:Option HO→Prop
 | some (.lst _)=>True
 | some (.dK _)=>True
 | some (.dT _)=>True
 | some (.set _ _)=>True
 | some (.ins _ _ _)=>True
 | some (.ext _)=>True
 | _=>False
section
variable{P:Program}{w:World}{H:Hp}{h h':Heap}{x e:Addr}{o':HO}
theorem HOk.write(ok:HOk P w H h)(mu:ve (H x))(he:e=x∨H e=some (.own x))(k:∀ b u,b≠e→h.get? b=some u→h'.get? b=some u)(heo:∃ u,h'.get? e=some u)
  (new:ObjOk P w (upd H x o') h' x o'):HOk P w (upd H x o') h':=fun b u q=>by
 have nown:∀ c y,H c=some (.own y)→c≠x:=fun c y r z=>by subst z; rw[r]at mu; exact mu
 have ntup:∀ c xs,H c=some (.tup xs)→c≠x:=fun c xs r z=>by subst z; rw[r]at mu; exact mu
 by_cases hb:b=x
 ·subst hb; rw[ac]at q; cases q; exact new
 ·rw[ah hb]at q
  by_cases hbe:b=e
  ·have q':H b=some (.own x):=by
    rcases he with z | z
    ·exact absurd (hbe.trans z) hb
    ·rw[hbe]; exact z
   rw[q]at q'; cases q'
   obtain⟨v,hv⟩:=heo
   exact⟨v,by rw[hbe]; exact hv⟩
  ·refine(ok b u q).stay (fun c v hc r=>k c v ?_ r) (fun c r=>by rw[ah (nown c b r)]; exact r) fun c xs r=>by rw[ah (ntup c xs r)]; exact r
   rcases hc with rfl | hc
   ·exact hbe
   ·rintro rfl
    rcases he with z | z
    ·exact nown c b hc z
    ·rw[hc]at z; cases z; exact hb rfl
end
structure Un (fs ex:List Addr) (H H':Hp) (h h':Heap):Prop where
 keep:∀ b o,h.get? b=some o→H b=none→b∉fs→b∉ex→h'.get? b=some o
 slot:∀ b o,h.get? b=some o→H b=none→b∈fs→b∉ex→∃ sl,h'.get? b=some { o with slots:=sl }
 free:∀ b o,h.get? b=some o→H b=none→b∉ex→H' b=none
 there:∀ b o,h.get? b=some o→b∉ex→∃ o',h'.get? b=some o'
 tups:∀ b xs,H b=some (.tup xs)→H' b=some (.tup xs)
 frzs:∀ b o u,H b=some (.frz o u)→H' b=some (.frz o u)
 tbls:∀ b ps,H b=some (.tbl ps)→∃ more,H' b=some (.tbl (ps++more))
section
variable{fs fs' ex ex':List Addr}{H H1 H2:Hp}{h h1 h2 h':Heap}{a x e:Addr}{o:HO}
theorem Un.any(u:Un fs ex H H1 h h1){b:Addr}{ob:Obj}(q:h.get? b=some ob)(n:H b=none)(hx:b∉ex):∃ sl,h1.get? b=some { ob with slots:=sl }:=by
 by_cases hb:b∈fs
 ·exact u.slot b ob q n hb hx
 ·exact⟨ob.slots,u.keep b ob q n hb hx⟩
theorem Un.kept(k:∀ b u,h.get? b=some u→h'.get? b=some u):Un fs ex H H h h':=
 ⟨fun b ob q _ _ _=>k b ob q,fun b ob q _ _ _=>⟨ob.slots,k b ob q⟩,fun _ _ _ n _=>n,fun b ob q _=>⟨ob,k b ob q⟩,fun _ _ q=>q,fun _ _ _ q=>q,fun _ ps q=>⟨#[],by rw[q]; simp⟩⟩
theorem Un.refl:Un fs ex H H h h:=Un.kept fun _ _ q=>q
theorem Un.laid(k:∀ b u,h.get? b=some u→h'.get? b=some u)(hp:h.objs.size≤a)(hn:H a=none):Un fs ex H (upd H a o) h h' where
 keep:=fun b u q _ _ _=>k b u q
 slot:=fun b u q _ _ _=>⟨u.slots,k b u q⟩
 free:=fun b u q n _=>by rw[ah (Nat.ne_of_lt (Nat.lt_of_lt_of_le (Heap.lt_size q) hp))]; exact n
 there:=fun b u q _=>⟨u,k b u q⟩
 tups:=fun b xs q=>by rw[ah (au q hn)]; exact q
 frzs:=fun b u xs q=>by rw[ah (au q hn)]; exact q
 tbls:=fun b ps q=>⟨#[],by rw[ah (au q hn),q]; simp⟩
theorem Un.write(mu:ve (H x))(he:e=x∨H e=some (.own x))(k:∀ b u,b≠e→h.get? b=some u→h'.get? b=some u)(heo:∃ u,h'.get? e=some u):Un fs ex H (upd H x o) h h':=by
 have hx:∀ b,H b=none→b≠x:=fun b n z=>by subst z; rw[n]at mu; exact mu
 have hb:∀ b,H b=none→b≠e:=fun b n z=>by
  subst z
  rcases he with r | r
  ·exact hx b n r
  ·rw[n]at r; cases r
 have hm:∀ b u,H b=some u→¬ ve (some u)→b≠x:=fun b u q nm z=>by subst z; rw[q]at mu; exact nm mu
 refine⟨fun b u q n _ _=>k b u (hb b n) q,fun b u q n _ _=>⟨u.slots,k b u (hb b n) q⟩,fun b u q n _=>by rw[ah (hx b n)]; exact n,fun b u q _=>?_,
  fun b xs q=>by rw[ah (hm b _ q fun z=>z)]; exact q,fun b u xs q=>by rw[ah (hm b _ q fun z=>z)]; exact q,fun b ps q=>⟨#[],by rw[ah (hm b _ q fun z=>z),q]; simp⟩⟩
 by_cases hbe:b=e
 ·subst hbe; exact heo
 ·exact⟨u,k b u hbe q⟩
end
def yc(h:Heap)(H:Hp):List Addr:=(List.range h.objs.size).filter fun a=>(H a).isSome
def iA(h:Heap)(H:Hp):Heap:=PySem.W.hideAll h (yc h H)
theorem uX(h:Heap)(H:Hp):(iA h H).objs.size=h.objs.size:=PySem.W.hideAll_size _ _
theorem wN{h:Heap}{H:Hp}{b:Addr}{o:Obj}(e:h.get? b=some o)(n:H b=none):(iA h H).get? b=some o:=
 PySem.W.hideAll_get _ e fun hm=>by
  have q:(H b).isSome=true:=(List.mem_filter.mp hm).2
  rw[n]at q; simp at q
theorem zd{h:Heap}{H:Hp}{b:Addr}{o:Obj}(e:(iA h H).get? b=some o):h.get? b=some o∧H b=none:=by
 have e':h.get? b=some o:=PySem.W.of_hideAll (yc h H) e
 refine⟨e',?_⟩
 cases q:H b with
 | none=>rfl
 | some x=>
  have hm:b∈yc h H:=List.mem_filter.mpr ⟨List.mem_range.mpr (Heap.lt_size e'),by simp[q]⟩
  have z:(iA h H).get? b=none:=PySem.W.hideAll_none (yc h H) hm
  rw[z]at e; cases e
def zA(g h:Heap)(L:Addr):List (Addr × Obj):=(List.range h.objs.size).filterMap fun a=>if a=L∨(g.get? a).isSome=true then none else (h.get? a).map fun o=>(a,o)
def rest(g h:Heap)(L d:Addr):List (Addr × Obj):=(zA g h L).filter fun p=>decide (p.1≠d)
end L2
namespace L2
open PySem PySem.Spec PyProof.Rows
structure Mod (K:PySem.W.Frag) (mg:Str→Option Value) (base:Heap):Prop where
 kin:K.In base
 glob:base.Ns mainGlobals mg
 blt:∃ mb,base.Ns builtinsNs mb∧∀ x:Str,x ≠ "__name__" → mb x=bootBuiltins x
 nolimit:base.NoLimit
set_option genInjectivity false in
set_option genSizeOf false in
structure Cx where
 prog:Program
 w:World
 K:PySem.W.Frag
 mg:Str→Option Value
 base:Heap
 A:Around
 N:List Str
 s₀ : Shared
 H₀ : Hp
 env:Env
 outer:List Env
 stack:List Env
 ex:List Addr
 fn:Str→Bool
 calm:Bool
 pn:List (Addr × Obj)
 xe:Value→Shared→Prop
def iO(l:List Env):List Addr:=l.filterMap (·.frame)
abbrev Cx.fs (X:Cx):List Addr:=iO X.outer
def ao(sc:Scope)(x:Str):Prop:=sc.names.lookup x=some .local∨sc.names.lookup x=some .cell∨sc.names.lookup x=some .free
def aE(sc:Scope)(x:Str):Prop:=sc.names.lookup x=some .local∨sc.names.lookup x=some .cell
def ED(env:Env)(h:Heap)(m:Str→Option Value)(x:Str)(u:Value):Prop:=
 (env.kindOf x=some .local∧m x=some u)∨((env.kindOf x=some .cell∨env.kindOf x=some .free)∧∃ c,env.cells.lookup x=some c∧h.IsCell c (some u))
structure Cx.Ok (X:Cx):Prop where
 mod:Mod X.K X.mg X.base
 kind:X.env.scope.kind = .function
 glob:X.env.globals=mainGlobals
 blt:X.env.builtins=builtinsNs
 above:X.s₀.heap.objs.size≤X.env.locals
 inj:∀ x y c,X.env.cells.lookup x=some c→X.env.cells.lookup y=some c→x=y
 has:∀ x,(X.env.kindOf x=some .cell∨X.env.kindOf x=some .free)→∃ c,X.env.cells.lookup x=some c
 cab:∀ x c,X.fn x=true→X.env.cells.lookup x=some c→X.s₀.heap.objs.size≤c
 hd:X.calm=true→X.A.handled=none
 frames:X.A.frames=some X.stack
 stk:X.stack=X.outer∨(X.stack=X.env::X.outer∧X.env.frame=some X.env.locals)
 exf:∀ b∈X.ex,b≠X.env.locals∧∀ x c,X.env.cells.lookup x=some c→c≠b
 bs:∀ b o,X.base.get? b=some o→X.s₀.heap.get? b=some o∧X.H₀ b=none
 bsz:X.base.objs.size≤X.s₀.heap.objs.size
 noex:∀ b o,X.base.get? b=some o→b∉X.ex
 exfs:∀ b∈X.ex,b∉X.fs
 funs:X.s₀.heap.FunFrames X.base X.outer
 frf:∀ b∈X.fs,X.H₀ b=none
structure Inv (X:Cx) (pins:List (Addr × Obj)) (σ : List (Option V)) (H:Hp) (s:Shared):Prop where
 ok:X.Ok
 os:s.os=X.s₀.os
 bare:AllBare s.gens
 base:Un X.fs X.ex X.H₀ H X.s₀.heap s.heap
 loc:∃ m,s.heap.Ns X.env.locals m∧∀ (i:Nat) (x:Str) (v:V),X.N[i]? = some x→σ[i]? = some (some v)→ao X.env.scope x→∃ u,RelV v u∧ED X.env s.heap m x u
 cell:∀ x c,X.env.cells.lookup x=some c→∃ v,s.heap.IsCell c v
 free:H X.env.locals=none
 freeC:∀ x c,X.env.cells.lookup x=some c→H c=none
 pin:∀ p∈X.pn++pins,s.heap.get? p.1=some p.2∧H p.1=none∧p.1≠X.env.locals∧p.1∉X.fs∧∀ v,p.2.data ≠ .cell v
 hok:HOk X.prog X.w H s.heap
 len:σ.length=X.N.length
section
variable{X:Cx}{pins:List (Addr × Obj)}{σ : List (Option V)}{H H':Hp}{s:Shared}{h':Heap}
theorem Cx.Ok.nofr(ok:X.Ok){b:Addr}{o:Obj}(e:X.base.get? b=some o):b∉X.fs:=fun hb=>by
 have:=(ok.funs.mem hb).1
 rw[e]at this; cases this
theorem Inv.bs(I:Inv X pins σ H s):∀ b o,X.base.get? b=some o→s.heap.get? b=some o∧H b=none:=fun b o e=>
 ⟨I.base.keep b o (I.ok.bs b o e).1 (I.ok.bs b o e).2 (I.ok.nofr e) (I.ok.noex b o e),I.base.free b o (I.ok.bs b o e).1 (I.ok.bs b o e).2 (I.ok.noex b o e)⟩
theorem Inv.bk(I:Inv X pins σ H s):∀ b o,X.base.get? b=some o→s.heap.get? b=some o:=fun b o e=>(I.bs b o e).1
theorem Inv.mod(I:Inv X pins σ H s):Mod X.K X.mg X.base:=I.ok.mod
theorem Inv.kIn(I:Inv X pins σ H s):X.K.In s.heap:=I.ok.mod.kin.keeps I.bk
theorem Inv.lt(I:Inv X pins σ H s):X.env.locals<s.heap.objs.size:=let ⟨_,hn,_⟩:=I.loc; hn.lt
theorem Inv.sz(I:Inv X pins σ H s):X.s₀.heap.objs.size≤s.heap.objs.size:=Nat.le_trans I.ok.above (Nat.le_of_lt I.lt)
theorem Inv.nofs(I:Inv X pins σ H s){a:Addr}(h:s.heap.objs.size≤a):a∉X.fs:=fun hb=>by
 obtain⟨_,o,ho,_⟩:=I.ok.funs.mem hb
 exact absurd (Nat.lt_of_lt_of_le (Heap.lt_size ho) (Nat.le_trans I.sz h)) (Nat.lt_irrefl _)
theorem Inv.cne(I:Inv X pins σ H s):∀ x c,X.env.cells.lookup x=some c→c≠X.env.locals:=fun x c e z=>by
 obtain⟨v,o,ho,hd⟩:=I.cell x c e
 obtain⟨m,⟨o',es,ep,ho',hd',_⟩,_⟩:=I.loc
 rw[z,ho']at ho; cases ho; rw[hd']at hd; cases hd
theorem Inv.funs(I:Inv X pins σ H s):s.heap.FunFrames X.base X.outer:=by
 have all:∀ (l:List Env),(∀ b∈iO l,b∈X.fs)→X.s₀.heap.FunFrames X.base l→s.heap.FunFrames X.base l:=by
  intro l
  induction l with
  | nil=>intro _ _; trivial
  | cons env r ih=>
   intro hs hl
   obtain⟨hk,⟨L,o,hf,hn,ho,hd⟩,hr⟩:=hl
   have hL:L∈X.fs:=hs L (by unfold iO; rw[List.filterMap_cons,hf]; exact List.mem_cons_self)
   obtain⟨sl,e⟩:=I.base.slot L o ho (I.ok.frf L hL) hL fun z=>I.ok.exfs L z hL
   exact⟨hk,⟨L,_,hf,hn,e,hd⟩,ih (fun b hb=>hs b (by unfold iO; rw[List.filterMap_cons,hf]; exact List.mem_cons_of_mem _ hb)) hr⟩
 exact all X.outer (fun _ hb=>hb) I.ok.funs
theorem Inv.stack(I:Inv X pins σ H s):s.heap.FunFrames X.base X.stack:=by
 rcases I.ok.stk with e | ⟨e,hf⟩
 ·rw[e]; exact I.funs
 ·rw[e]
  obtain⟨m,hn,_⟩:=I.loc
  refine .cons (by rw[I.ok.kind]; decide) hf hn ?_ I.funs
  exact Heap.get?_none_of_le (Nat.le_trans I.ok.bsz I.ok.above)
theorem Inv.stkSub(I:Inv X pins σ H s):∀ b∈iO X.stack,b∈X.env.locals::X.fs:=fun b hb=>by
 rcases I.ok.stk with e | ⟨e,hf⟩
 ·rw[e]at hb; exact List.mem_cons_of_mem _ hb
 ·rw[e]at hb
  unfold iO at hb
  rw[List.filterMap_cons,hf]at hb
  exact hb
theorem Inv.stkFree(I:Inv X pins σ H s):∀ b∈iO X.stack,H b=none:=fun b hb=>by
 rcases List.mem_cons.mp (I.stkSub b hb) with e | hb
 ·rw[e]; exact I.free
 ·obtain⟨_,o,ho,_⟩:=I.ok.funs.mem hb
  exact I.base.free b o ho (I.ok.frf b hb) fun z=>I.ok.exfs b z hb
theorem Inv.step{g':Array GenState}{t':Nat}{d':Drawn}{ch:List Addr}(I:Inv X pins σ H s)
  (hch:∀ b∈ch,(b∈X.ex∨X.s₀.heap.objs.size≤b)∧b≠X.env.locals∧(∀ x c,X.env.cells.lookup x=some c→c≠b)∧∀ p∈X.pn++pins,p.1≠b)
  (keep:∀ b o,b≠X.env.locals→b∉X.fs→b∉ch→s.heap.get? b=some o→H b=none→h'.get? b=some o)
  (slot:∀ b o,b≠X.env.locals→b∈X.fs→b∉ch→s.heap.get? b=some o→H b=none→∃ sl,h'.get? b=some { o with slots:=sl }) (free:∀ b o,b∉ch→s.heap.get? b=some o→H b=none→H' b=none)
  (there:∀ b o,b∉ch→s.heap.get? b=some o→∃ o',h'.get? b=some o')
  (tups:∀ b xs,H b=some (.tup xs)→H' b=some (.tup xs)) (frzs:∀ b o u,H b=some (.frz o u)→H' b=some (.frz o u)) (tbls:∀ b ps,H b=some (.tbl ps)→∃ more,H' b=some (.tbl (ps++more)))
  (ns:∀ m,s.heap.Ns X.env.locals m→h'.Ns X.env.locals m) (hok:HOk X.prog X.w H' h') (hg:AllBare g') :
  Inv X pins σ H' { s with heap:=h',gens:=g',drawn:=d',toks:=t' }:=by
 have neL:∀ b o,X.s₀.heap.get? b=some o→b≠X.env.locals:=fun b o e=>Nat.ne_of_lt (Nat.lt_of_lt_of_le (Heap.lt_size e) I.ok.above)
 have neC:∀ b o,X.s₀.heap.get? b=some o→b∉X.ex→b∉ch:=fun b o e hx hb=>by
  rcases(hch b hb).1 with z | z
  ·exact hx z
  ·exact absurd (Nat.lt_of_lt_of_le (Heap.lt_size e) z) (Nat.lt_irrefl _)
 have cellK:∀ x c,X.env.cells.lookup x=some c→∀ v,s.heap.IsCell c v→h'.IsCell c v:=fun x c e v ⟨o,ho,hd⟩=>by
  have nch:c∉ch:=fun z=>(hch c z).2.2.1 x c e rfl
  by_cases hc:c∈X.fs
  ·obtain⟨sl,q⟩:=slot c o (I.cne x c e) hc nch ho (I.freeC x c e)
   exact⟨_,q,hd⟩
  ·exact⟨o,keep c o (I.cne x c e) hc nch ho (I.freeC x c e),hd⟩
 refine⟨I.ok,I.os,hg,⟨fun b o e n hb hx=>?_,fun b o e n hb hx=>?_,fun b o e n hx=>?_,fun b o e hx=>?_,fun b xs e=>tups b xs (I.base.tups b xs e),fun b o xs e=>frzs b o xs (I.base.frzs b o xs e),fun b ps e=>?_⟩,?_,fun x c e=>?_,?_,fun x c e=>?_,fun p hp=>?_,hok,I.len⟩
 ·exact keep b o (neL b o e) hb (neC b o e hx) (I.base.keep b o e n hb hx) (I.base.free b o e n hx)
 ·obtain⟨sl,e1⟩:=I.base.slot b o e n hb hx
  obtain⟨sl',e2⟩:=slot b _ (neL b o e) hb (neC b o e hx) e1 (I.base.free b o e n hx)
  exact⟨sl',e2⟩
 ·obtain⟨o',e1⟩:=I.base.there b o e hx
  exact free b o' (neC b o e hx) e1 (I.base.free b o e n hx)
 ·obtain⟨o',e1⟩:=I.base.there b o e hx
  exact there b o' (neC b o e hx) e1
 ·obtain⟨m1,e1⟩:=I.base.tbls b ps e
  obtain⟨m2,e2⟩:=tbls b _ e1
  exact⟨m1++m2,by rw[e2,Array.append_assoc]⟩
 ·obtain⟨m,hn,hl⟩:=I.loc
  refine⟨m,ns m hn,fun i x v e1 e2 e3=>?_⟩
  obtain⟨u,r,l⟩:=hl i x v e1 e2 e3
  refine⟨u,r,?_⟩
  rcases l with l | ⟨k,c,e,z⟩
  ·exact .inl l
  ·exact .inr ⟨k,c,e,cellK x c e _ z⟩
 ·obtain⟨v,z⟩:=I.cell x c e
  exact⟨v,cellK x c e v z⟩
 ·obtain⟨m,⟨o,_,_,ho,_⟩,_⟩:=I.loc
  exact free _ o (fun z=>(hch _ z).2.1 rfl) ho I.free
 ·obtain⟨v,o,ho,hd⟩:=I.cell x c e
  exact free c o (fun z=>(hch c z).2.2.1 x c e rfl) ho (I.freeC x c e)
 ·obtain⟨e,n,ne,nf,d⟩:=I.pin p hp
  have nch:p.1∉ch:=fun z=>(hch p.1 z).2.2.2 p hp rfl
  exact⟨keep p.1 p.2 ne nf nch e n,free p.1 p.2 nch e n,ne,nf,d⟩
theorem Inv.un{t':Nat}(I:Inv X pins σ H s)(u:Un X.fs [] H H' s.heap h')(hok:HOk X.prog X.w H' h'):Inv X pins σ H' { s with heap:=h',toks:=t' }:=by
 obtain⟨m,⟨o,es,ep,ho,r⟩,_⟩:=id I.loc
 obtain⟨sl,hL⟩:=u.any ho I.free (by simp)
 exact I.step (g':=s.gens) (d':=s.drawn) (ch:=[]) (fun _ z=>nomatch z) (fun b o _ hb _ e n=>u.keep b o e n hb (by simp)) (fun b o _ hb _ e n=>u.slot b o e n hb (by simp)) (fun b o _ e n=>u.free b o e n (by simp)) (fun b o _ e=>u.there b o e (by simp)) u.tups u.frzs u.tbls (fun m' hm=>by
  obtain⟨o',es',ep',ho',r'⟩:=hm
  rw[ho]at ho'; cases ho'
  exact⟨_,es',ep',hL,r'⟩) hok I.bare
theorem Inv.call{g':Array GenState}{t':Nat}{d':Drawn}{ch:List Addr}(I:Inv X pins σ H s)(u:Un (iO X.stack) ch H H' s.heap h')(hok:HOk X.prog X.w H' h')(hg:AllBare g')
  (hch:∀ b∈ch,(b∈X.ex∨X.s₀.heap.objs.size≤b)∧b≠X.env.locals∧(∀ x c,X.env.cells.lookup x=some c→c≠b)∧∀ p∈X.pn++pins,p.1≠b) :
  Inv X pins σ H' { s with heap:=h',gens:=g',drawn:=d',toks:=t' }:=by
 obtain⟨m,⟨o,es,ep,ho,r⟩,_⟩:=id I.loc
 obtain⟨sl,hL⟩:=u.any ho I.free fun z=>(hch _ z).2.1 rfl
 exact I.step (ch:=ch) hch (fun b o hL hb hc e n=>u.keep b o e n (fun z=>(List.mem_cons.mp (I.stkSub b z)).elim hL hb) hc) (fun b o _ _ hc e n=>u.any e n hc) (fun b o hc e n=>u.free b o e n hc) (fun b o hc e=>u.there b o e hc) u.tups u.frzs u.tbls (fun m' hm=>by
  obtain⟨o',es',ep',ho',r'⟩:=hm
  rw[ho]at ho'; cases ho'
  exact⟨_,es',ep',hL,r'⟩) hok hg
theorem Inv.turned{t':Nat}{it:Addr}(I:Inv X pins σ H s)(k:∀ b o,b≠it→s.heap.get? b=some o→h'.get? b=some o)(hn:H it=none)(hL:it≠X.env.locals)
  (h1:it∈X.ex∨X.s₀.heap.objs.size≤it) (h2:∀ x c,X.env.cells.lookup x=some c→c≠it) (h3:∀ p∈X.pn++pins,p.1≠it):Inv X pins σ H { s with heap:=h',toks:=t' }:=by
 have nit:∀ b u,H b=some u→b≠it:=fun b u e z=>by rw[z,hn]at e; cases e
 refine I.step (g':=s.gens) (d':=s.drawn) (ch:=[it]) (fun b hb=>?_) (fun b o _ _ hc e _=>k b o (fun z=>hc (by simp[z])) e) (fun b o _ _ hc e _=>⟨o.slots,k b o (fun z=>hc (by simp[z])) e⟩) (fun _ _ _ _ n=>n)
  (fun b o hc e=>⟨o,k b o (fun z=>hc (by simp[z])) e⟩) (fun _ _ e=>e) (fun _ _ _ e=>e) (fun b ps e=>⟨#[],by rw[e]; simp⟩) (fun m hm=>?_) (fun b u e=>?_) I.bare
 ·have e:b=it:=by simpa using hb
  subst e
  exact⟨h1,hL,h2,h3⟩
 ·obtain⟨o,es,ep,ho,r⟩:=hm
  exact⟨o,es,ep,k _ o (Ne.symm hL) ho,r⟩
 ·refine(I.hok b u e).stay (fun c v hc q=>k c v ?_ q) (fun _ q=>q) fun _ _ q=>q
  rcases hc with z | z
  ·rw[z]; exact nit b u e
  ·exact nit c _ z
theorem Inv.tok(I:Inv X pins σ H s)(t:Nat):Inv X pins σ H { s with toks:=t }:=I.un (h':=s.heap) (t':=t) Un.refl I.hok
theorem Inv.kept{t':Nat}(I:Inv X pins σ H s)(k:∀ b u,s.heap.get? b=some u→h'.get? b=some u):Inv X pins σ H { s with heap:=h',toks:=t' }:=I.un (Un.kept k) (I.hok.kept k)
theorem Inv.laid{a:Addr}{o:HO}{t':Nat}(I:Inv X pins σ H s)(k:∀ b u,s.heap.get? b=some u→h'.get? b=some u)(hp:s.heap.objs.size≤a)(new:ObjOk X.prog X.w (upd H a o) h' a o) :
  Inv X pins σ (upd H a o) { s with heap:=h',toks:=t' }:=I.un (Un.laid k hp (I.hok.fresh hp)) (I.hok.laid k hp new)
theorem Inv.write{x e:Addr}{o:HO}{t':Nat}(I:Inv X pins σ H s)(mu:ve (H x))(he:e=x∨H e=some (.own x))(k:∀ b u,b≠e→s.heap.get? b=some u→h'.get? b=some u)(heo:∃ u,h'.get? e=some u)
  (new:ObjOk X.prog X.w (upd H x o) h' x o):Inv X pins σ (upd H x o) { s with heap:=h',toks:=t' }:=I.un (Un.write mu he k heo) (I.hok.write mu he k heo new)
theorem Inv.weak{σ':List (Option V)}(I:Inv X pins σ H s)(hl:σ'.length=σ.length)(w:∀ (i:Nat) v,σ'[i]? = some (some v)→σ[i]? = some (some v)):Inv X pins σ' H s:=
 ⟨I.ok,I.os,I.bare,I.base,let ⟨m,hn,hl'⟩:=I.loc; ⟨m,hn,fun i x v e1 e2 e3=>hl' i x v e1 (w i v e2) e3⟩,I.cell,I.free,I.freeC,I.pin,I.hok,hl.trans I.len⟩
theorem Inv.pins_of{pins':List (Addr × Obj)}(I:Inv X pins σ H s)(h:∀ p∈pins',s.heap.get? p.1=some p.2∧H p.1=none∧p.1≠X.env.locals∧p.1∉X.fs∧∀ v,p.2.data ≠ .cell v):Inv X pins' σ H s:=
 ⟨I.ok,I.os,I.bare,I.base,I.loc,I.cell,I.free,I.freeC,fun p hp=>(List.mem_append.mp hp).elim (fun z=>I.pin p (List.mem_append_left _ z)) (h p),I.hok,I.len⟩
theorem nR{N:List Str}(hN:N.Nodup){i j:Nat}{x:Str}(a:N[i]? = some x)(b:N[j]? = some x):i=j:=by
 obtain⟨h1,e1⟩:=List.getElem?_eq_some_iff.mp a
 obtain⟨h2,e2⟩:=List.getElem?_eq_some_iff.mp b
 exact(List.getElem_inj hN).mp (e1.trans e2.symm)
theorem mF{M:Model}{A:Around}{E:Value→Shared→Prop}{i:Nat}{x:Str}{v:V}{u:Value}{Q:Unit→Shared→Prop}(I:Inv X pins σ H s)(hN:X.N.Nodup)(hi:X.N[i]? = some x)(hx:aE X.env.scope x)(r:RelV v u)
  (h:∀ s',Inv X pins (σ.set i (some v)) H s'→(∃ a,Heap.SameBut a s.heap s'.heap∧(a=X.env.locals∨X.env.cells.lookup x=some a))→Q () s') (hf:X.fn x=true∨X.env.scope.names.lookup x=some .local:=by first | exact .inl rfl | exact .inr rfl | assumption):wpAny M A (storeName X.env x u) Q E s:=by
 obtain⟨m,hn,hl⟩:=id I.loc
 have hcls:(X.env.scope.kind == .class||(X.env.scope.kind == .module&&X.env.locals != X.env.globals))=false:=by rw[I.ok.kind]; rfl
 have hiσ : i<σ.length:=by rw[I.len]; exact(List.getElem?_eq_some_iff.mp hi).1
 have cne:=I.cne
 have tracked:∀ {a:Addr} {h':Heap},(∃ o,s.heap.get? a=some o∧H a=none)→Heap.SameBut a s.heap h'→HOk X.prog X.w H h':=fun {a h'} ha hs b ob e=>by
  obtain⟨_,_,hfree⟩:=ha
  refine(I.hok b ob e).stay (fun c w' hc q=>(hs.2 c ?_).trans q) (fun _ q=>q) fun _ _ q=>q
  rintro rfl
  rcases hc with rfl | hc
  ·rw[hfree]at e; cases e
  ·rw[hfree]at hc; cases hc
 rcases hx with hk | hk
 ·refine wpAny_storeName_local hk hn (fun h' hn' hs=>?_) hcls
  obtain⟨oL,_,_,hoL,_⟩:=id hn
  refine h _ ⟨I.ok,I.os,I.bare,⟨fun b o e n hb hx=>?_,fun b o e n hb hx=>?_,I.base.free,fun b o e hx=>?_,I.base.tups,I.base.frzs,I.base.tbls⟩,⟨_,hn',fun j y v' e1 e2 e3=>?_⟩,fun y c e=>?_,I.free,I.freeC,fun p hp=>?_,tracked ⟨oL,hoL,I.free⟩ hs,by simpa using I.len⟩ ⟨_,hs,.inl rfl⟩
  ·exact(hs.2 b (Nat.ne_of_lt (Nat.lt_of_lt_of_le (Heap.lt_size e) I.ok.above))).trans (I.base.keep b o e n hb hx)
  ·obtain⟨sl,e1⟩:=I.base.slot b o e n hb hx
   exact⟨sl,(hs.2 b (Nat.ne_of_lt (Nat.lt_of_lt_of_le (Heap.lt_size e) I.ok.above))).trans e1⟩
  ·obtain⟨o',e1⟩:=I.base.there b o e hx
   exact⟨o',(hs.2 b (Nat.ne_of_lt (Nat.lt_of_lt_of_le (Heap.lt_size e) I.ok.above))).trans e1⟩
  ·by_cases hj:j=i
   ·subst hj
    rw[hi]at e1; cases e1
    rw[List.getElem?_set_self hiσ]at e2
    cases e2
    exact⟨u,r,.inl ⟨hk,by simp⟩⟩
   ·rw[List.getElem?_set_ne (Ne.symm hj)]at e2
    obtain⟨u',r',q⟩:=hl j y v' e1 e2 e3
    refine⟨u',r',?_⟩
    rcases q with ⟨k,e⟩ | ⟨k,c,e,z⟩
    ·refine .inl ⟨k,?_⟩
     have:y≠x:=fun e=>hj (nR hN e1 (e ▸ hi))
     simp[this,e]
    ·exact .inr ⟨k,c,e,z.sameBut hs (cne y c e)⟩
  ·obtain⟨w',z⟩:=I.cell y c e
   exact⟨w',z.sameBut hs (cne y c e)⟩
  ·obtain⟨e,n,ne,nf,d⟩:=I.pin p hp
   exact⟨(hs.2 p.1 ne).trans e,n,ne,nf,d⟩
 ·have hfn:X.fn x=true:=by
   rcases hf with z | z
   ·exact z
   ·rw[z]at hk; cases hk
  obtain⟨c,hc⟩:=I.ok.has x (.inl hk)
  obtain⟨w',z⟩:=I.cell x c hc
  refine wpAny_storeName_cell I.ok.kind hk hc z (fun h' hc' hs=>?_)
  obtain⟨oc,hoc,hocd⟩:=id z
  refine h { s with heap:=h' } ⟨I.ok,I.os,I.bare,⟨fun b o e n hb hx=>?_,fun b o e n hb hx=>?_,I.base.free,fun b o e hx=>?_,I.base.tups,I.base.frzs,I.base.tbls⟩,⟨m,hn.sameBut hs (Ne.symm (cne x c hc)),fun j y v' e1 e2 e3=>?_⟩,fun y c' e=>?_,I.free,I.freeC,fun p hp=>?_,tracked ⟨oc,hoc,I.freeC x c hc⟩ hs,by simpa using I.len⟩ ⟨c,hs,.inr hc⟩
  ·exact(hs.2 b (Nat.ne_of_lt (Nat.lt_of_lt_of_le (Heap.lt_size e) (I.ok.cab x c hfn hc)))).trans (I.base.keep b o e n hb hx)
  ·obtain⟨sl,e1⟩:=I.base.slot b o e n hb hx
   exact⟨sl,(hs.2 b (Nat.ne_of_lt (Nat.lt_of_lt_of_le (Heap.lt_size e) (I.ok.cab x c hfn hc)))).trans e1⟩
  ·obtain⟨o',e1⟩:=I.base.there b o e hx
   exact⟨o',(hs.2 b (Nat.ne_of_lt (Nat.lt_of_lt_of_le (Heap.lt_size e) (I.ok.cab x c hfn hc)))).trans e1⟩
  ·by_cases hj:j=i
   ·subst hj
    rw[hi]at e1; cases e1
    rw[List.getElem?_set_self hiσ]at e2
    cases e2
    exact⟨u,r,.inr ⟨.inl hk,c,hc,hc'⟩⟩
   ·rw[List.getElem?_set_ne (Ne.symm hj)]at e2
    obtain⟨u',r',q⟩:=hl j y v' e1 e2 e3
    refine⟨u',r',?_⟩
    rcases q with q | ⟨k,c',e,z'⟩
    ·exact .inl q
    ·refine .inr ⟨k,c',e,z'.sameBut hs ?_⟩
     rintro rfl
     exact hj (nR hN e1 (I.ok.inj _ _ _ e hc ▸ hi))
  ·by_cases hcc:c'=c
   ·subst hcc; exact⟨_,hc'⟩
   ·obtain⟨w2,z2⟩:=I.cell y c' e
    exact⟨w2,z2.sameBut hs hcc⟩
  ·obtain⟨e,n,ne,nf,d⟩:=I.pin p hp
   refine⟨(hs.2 p.1 ?_).trans e,n,ne,nf,d⟩
   intro q
   rw[q,hoc]at e
   have q':oc=p.2:=Option.some.inj e
   exact d w' (by rw[← q']; exact hocd)
theorem pU{M:Model}{A:Around}{E:Value→Shared→Prop}{i:Nat}{x:Str}{v:V}{u:Value}{Q:Unit→Shared→Prop}(I:Inv X pins σ H s)(hN:X.N.Nodup)(hi:X.N[i]? = some x)(hx:aE X.env.scope x)(r:RelV v u)
  (h:∀ s',Inv X pins (σ.set i (some v)) H s'→Q () s') (hf:X.fn x=true∨X.env.scope.names.lookup x=some .local:=by first | exact .inl rfl | exact .inr rfl | assumption):wpAny M A (storeName X.env x u) Q E s:=
 mF I hN hi hx r (fun s' I' _=>h s' I') hf
theorem Inv.call'{s':Shared}{ch:List Addr}(I:Inv X pins σ H s)(ho:s'.os=s.os)(u:Un (iO X.stack) ch H H' s.heap s'.heap)(hok:HOk X.prog X.w H' s'.heap)(hg:AllBare s'.gens)
  (hch:∀ b∈ch,(b∈X.ex∨X.s₀.heap.objs.size≤b)∧b≠X.env.locals∧(∀ x c,X.env.cells.lookup x=some c→c≠b)∧∀ p∈X.pn++pins,p.1≠b):Inv X pins σ H' s':=by
 obtain⟨h',g',d',t',o'⟩:=s'
 have e:o'=s.os:=ho
 subst e
 exact I.call (g':=g') (t':=t') (d':=d') u hok hg hch
end
abbrev XK:=Value→Option Addr→Hp→Prop
abbrev St:=List (Option V)
abbrev VK:=V→Hp→Prop
abbrev TE:=St→Hp→VK→Prop
abbrev TT:=St→Hp→(Bool→Hp→Prop)→Prop
abbrev TA:=St→Hp→(List V→Hp→Prop)→Prop
set_option genInjectivity false in
set_option genSizeOf false in
structure dO where
 nx:St→Hp→Prop
 rt:VK
 bk:St→Hp→Prop:=fun _ _=>False
 ct:St→Hp→Prop:=fun _ _=>False
abbrev TS:=dO→St→Hp→Prop
def EP(X:Cx)(pins:List (Addr × Obj))(σ : St)(Q:VK)(u:Value)(s':Shared):Prop:=∃ v H',Inv X pins σ H' s'∧RelV v u∧Q v H'
def TP(X:Cx)(pins:List (Addr × Obj))(σ : St)(Q:Bool→Hp→Prop)(b:Bool)(s':Shared):Prop:=∃ H',Inv X pins σ H' s'∧Q b H'
def AP(X:Cx)(pins:List (Addr × Obj))(σ : St)(Q:List V→Hp→Prop)(us:List Value)(s':Shared):Prop:=∃ vs H',Inv X pins σ H' s'∧Vals vs us∧Q vs H'
def SP(X:Cx)(pins:List (Addr × Obj))(D:dO)(f:Flow)(s':Shared):Prop:=
 match f with
 | .next=>∃ σ' H',Inv X pins σ' H' s'∧D.nx σ' H'
 | .brk=>∃ σ' H',Inv X pins σ' H' s'∧D.bk σ' H'
 | .cont=>∃ σ' H',Inv X pins σ' H' s'∧D.ct σ' H'
 | .ret u=>∃ v σ' H',Inv X pins σ' H' s'∧RelV v u∧D.rt v H'
def PE(X:Cx)(e:Expr)(t:TE):Prop:=
 ∀ (pins:List (Addr × Obj)) (s:Shared) (σ : St) (H:Hp) (Q:VK),Inv X pins σ H s→t σ H Q→wpAny (model X.prog X.w) X.A (eval e X.env) (EP X pins σ Q) X.xe s
def PT(X:Cx)(e:Expr)(t:TT):Prop:=
 ∀ (pins:List (Addr × Obj)) (s:Shared) (σ : St) (H:Hp) (Q:Bool→Hp→Prop),Inv X pins σ H s→t σ H Q→wpAny (model X.prog X.w) X.A (isTrue e X.env (eval e X.env)) (TP X pins σ Q) X.xe s
def PW(X:Cx)(e:Expr)(t:TT):Prop:=
 ∀ (whole:Sem Value) (pins:List (Addr × Obj)) (s:Shared) (σ : St) (H:Hp) (Q:Bool→Hp→Prop),Inv X pins σ H s→t σ H Q→wpAny (model X.prog X.w) X.A (isTrue e X.env whole) (TP X pins σ Q) X.xe s
theorem PW.pt{X:Cx}{e:Expr}{t:TT}(h:PW X e t):PT X e t:=h _
def PA(X:Cx)(es:List Expr)(t:TA):Prop:=
 ∀ (pos:Pos) (pins:List (Addr × Obj)) (s:Shared) (σ : St) (H:Hp) (Q:List V→Hp→Prop),Inv X pins σ H s→t σ H Q→wpAny (model X.prog X.w) X.A (spliced (backTo pos (starEach es X.env))) (AP X pins σ Q) X.xe s
def PS(X:Cx)(st:Stmt)(t:TS):Prop:=
 ∀ (pins:List (Addr × Obj)) (s:Shared) (σ : St) (H:Hp) (D:dO),Inv X pins σ H s→t D σ H→wpAny (model X.prog X.w) X.A (exec st X.env) (SP X pins D) X.xe s
def PSs(X:Cx)(st:List Stmt)(t:TS):Prop:=
 ∀ (pins:List (Addr × Obj)) (s:Shared) (σ : St) (H:Hp) (D:dO),Inv X pins σ H s→t D σ H→wpAny (model X.prog X.w) X.A (execs st X.env) (SP X pins D) X.xe s
theorem bz{α : Type}{t:Sem α}{Q Q':α→Shared→Prop}{M:Model}{A:Around}{E:Value→Shared→Prop}{s:Shared}(h:wpAny M A t Q E s)(hQ:∀ a s,Q a s→Q' a s):wpAny M A t Q' E s:=wpAny_mono h hQ fun _ _ x=>x
end L2
namespace L2
open PySem PySem.Spec PyProof.Rows
section
variable{X:Cx}
def xS(i:Nat):TE:=fun σ H Q=>∃ v,σ[i]? = some (some v)∧Q v H
def tC(v:V):TE:=fun _ H Q=>Q v H
theorem Aq{i:Nat}{x:Str}{pos:Pos}(hN:X.N[i]? = some x)(hv:ao X.env.scope x)(hd:(x == ("__debug__" : Str))=false:=by decide) (hcd:(x == ("__classdict__" : Str))=false:=by decide):PE X (.Name x pos) (xS i):=by
 intro pins s σ H Q I h
 obtain⟨v,e,h⟩:=h
 obtain⟨m,hn,hl⟩:=I.loc
 obtain⟨u,r,l⟩:=hl i x v hN e hv
 have fin:EP X pins σ Q u s:=⟨v,H,I,r,h⟩
 rcases l with ⟨hk,hm⟩ | ⟨hk,c,hc,hcell⟩
 ·exact wpAny_Name (wpAny_loadName_local I.ok.kind hk hn hm fin) hd
 ·rcases hk with hk | hk
  ·exact wpAny_Name (wpAny_loadName_cell I.ok.kind hk hc hcell fin) hd
  ·exact wpAny_Name (wpAny_loadName_free I.ok.kind hk hc hcell fin hcd) hd
theorem ai{i j pos}:PE X (.Constant (.int i) j pos) (tC (.int i)):=fun _ _ _ H _ I h=>wpAny_Constant_int ⟨.int i,H,I.tok _,⟨_,rfl⟩,h⟩
theorem fg{b j pos}:PE X (.Constant (.bool b) j pos) (tC (.bl b)):=fun _ _ _ H _ I h=>Constant_bool ⟨.bl b,H,I,rfl,h⟩
theorem al{x j pos}:PE X (.Constant (.str x) j pos) (tC (.str x)):=fun _ _ _ H _ I h=>Calls.Constant_str ⟨.str x,H,I.tok _,⟨_,rfl⟩,h⟩
def Gl(X:Cx)(x:Str):Prop:=X.env.kindOf x=some .globalImplicit
theorem lQ{E:Value→Shared→Prop}{pins:List (Addr × Obj)}{s:Shared}{σ : St}{H:Hp}{x:Str}{u:Value}{pos:Pos}{Q:Value→Shared→Prop}(I:Inv X pins σ H s)(hg:Gl X x)(hm:X.mg x=some u)(h:Q u s)
  (hd:(x == ("__debug__" : Str))=false:=by decide):wpAny (model X.prog X.w) X.A (eval (.Name x pos) X.env) Q E s:=
 Calls.Name_function_global I.ok.kind hg (Calls.loadGlobal_global (by rw[I.ok.glob]; exact I.mod.glob.keeps I.bk) hm h) hd
theorem ga{E:Value→Shared→Prop}{pins:List (Addr × Obj)}{s:Shared}{σ : St}{H:Hp}{x:Str}{u:Value}{pos:Pos}{Q:Value→Shared→Prop}(I:Inv X pins σ H s)(hg:Gl X x)(hm:X.mg x=none)(hv:bootBuiltins x=some u)(h:Q u s)
  (hn:x ≠ "__name__" := by decide) (hd:(x == ("__debug__" : Str))=false:=by decide):wpAny (model X.prog X.w) X.A (eval (.Name x pos) X.env) Q E s:=by
 obtain⟨mb,h1,h2⟩:=I.mod.blt
 exact Calls.Name_function_global I.ok.kind hg (Calls.loadGlobal_builtin (by rw[I.ok.glob]; exact I.mod.glob.keeps I.bk) hm (by rw[I.ok.blt]; exact h1.keeps I.bk) ((h2 x hn).trans hv) h) hd
theorem zk{x:Str}{v:V}{u:Value}{pos:Pos}(hg:Gl X x)(hm:X.mg x=some u)(r:RelV v u)(hd:(x == ("__debug__" : Str))=false:=by decide):PE X (.Name x pos) (tC v):=
 fun _ _ _ H _ I h=>lQ I hg hm ⟨v,H,I,r,h⟩ hd
theorem zw{x:Str}{v:V}{u:Value}{pos:Pos}(hg:Gl X x)(hm:X.mg x=none)(hv:bootBuiltins x=some u)(r:RelV v u)(hn:x ≠ "__name__" := by decide) (hd:(x == ("__debug__" : Str))=false:=by decide):PE X (.Name x pos) (tC v):=
 fun _ _ _ H _ I h=>ga I hg hm hv ⟨v,H,I,r,h⟩ hn hd
variable{a b:Expr}{ta tb:TE}{pos:Pos}
def tB(t:TE):TT:=fun σ H Q=>t σ H fun x H1=>∃ c,x = .bl c∧Q c H1
theorem fG{e:Expr}{t:TE}(h:PE X e t)(he:∀ whole,isTrue e X.env whole=(do let v ← whole; standAt e.pos; holding [v] (truthy v)):=by intro _; rfl):PT X e (tB t):=by
 intro pins s σ H Q I hw
 refine isTrue_plain (bz (h pins s σ H _ I hw) fun v s1 ⟨x,H1,I1,r1,q1⟩=>?_) (he _)
 obtain⟨d,rfl,q⟩:=q1
 cases r1
 exact wpAny_truthy_bool ⟨H1,I1,q⟩
variable{tA tB':TT}{rest:List Expr}
def Bz(t u:TT):TT:=fun σ H Q=>t σ H fun c H1=>if c=true then u σ H1 Q else Q false H1
def Cm(t u:TT):TT:=fun σ H Q=>t σ H fun c H1=>if c=true then Q true H1 else u σ H1 Q
def AL(t:TT):TT:=fun σ H Q=>t σ H fun c H1=>Q (!c) H1
theorem ia(ha:PT X a tA):PW X (.BoolOp .And [a] pos) tA:=by
 intro wh pins s σ H Q I h
 refine isTrue_and (bz (ha pins s σ H Q I h) fun c s1 e=>?_)
 cases c with
 | true=>exact isTrue_and_nil e
 | false=>exact e
theorem gD(ha:PT X a tA):PW X (.BoolOp .Or [a] pos) tA:=by
 intro wh pins s σ H Q I h
 refine isTrue_or (bz (ha pins s σ H Q I h) fun c s1 e=>?_)
 cases c with
 | false=>exact isTrue_or_nil e
 | true=>exact e
theorem gL(ha:PT X a tA)(hb:PW X (.BoolOp .And (b::rest) pos) tB'):PW X (.BoolOp .And (a::b::rest) pos) (Bz tA tB'):=by
 intro wh pins s σ H Q I h
 refine isTrue_and (bz (ha pins s σ H _ I h) fun c s1 ⟨H1,I1,q1⟩=>?_)
 cases c with
 | true=>exact hb wh pins s1 σ H1 Q I1 q1
 | false=>exact⟨H1,I1,q1⟩
theorem gS(ha:PT X a tA)(hb:PW X (.BoolOp .Or (b::rest) pos) tB'):PW X (.BoolOp .Or (a::b::rest) pos) (Cm tA tB'):=by
 intro wh pins s σ H Q I h
 refine isTrue_or (bz (ha pins s σ H _ I h) fun c s1 ⟨H1,I1,q1⟩=>?_)
 cases c with
 | true=>exact⟨H1,I1,q1⟩
 | false=>exact hb wh pins s1 σ H1 Q I1 q1
theorem gF(ha:PT X a tA):PT X (.UnaryOp .Not a pos) (AL tA):=by
 intro pins s σ H Q I h
 exact isTrue_not (ha pins s σ H (fun c H1=>Q (!c) H1) I h)
def Cy(t:TT)(ta tb:TE):TE:=fun σ H Q=>t σ H fun c H1=>if c=true then ta σ H1 Q else tb σ H1 Q
theorem xh{c:Expr}(hc:PT X c tA)(ha:PE X a ta)(hb:PE X b tb):PE X (.IfExp c a b pos) (Cy tA ta tb):=by
 intro pins s σ H Q I h
 refine wpAny_IfExp (bz (hc pins s σ H _ I h) fun d s1 ⟨H1,I1,q1⟩=>?_)
 cases d with
 | true=>exact ha pins s1 σ H1 Q I1 q1
 | false=>exact hb pins s1 σ H1 Q I1 q1
end
end L2
namespace L2
open PySem PySem.Spec PyProof.Rows
def SqL(K:PySem.W.Frag)(H:Hp)(a:Addr)(xs:List V):Prop:=
 Rd H a (.lst xs)∨
  ∃ (o:Obj) (its:Array Value) (n:Nat),K.lookup a=some o∧o.cls = .type "list" ∧ o.dict=none∧o.data = .seq its n∧its.size≤sizeLine∧Vals xs its.toList
def SqT(K:PySem.W.Frag)(H:Hp)(a:Addr)(xs:List V):Prop:=
 Rd H a (.tup xs)∨
  ∃ (o:Obj) (its:Array Value) (n:Nat),K.lookup a=some o∧o.cls = .type "tuple" ∧ o.data = .seq its n∧its.size≤sizeLine∧Vals xs its.toList
def Fc:Value→Option V
 | .none=>some .non
 | .bool b=>some (.bl b)
 | .int i _=>some (.int i)
 | .str x _=>some (.str x)
 | .bytes b _=>some (.byt b)
 | .float b _=>some (.flt b)
 | .ref a=>some (.ref a)
 | .type n=>some (.ty n)
 | _=>none
theorem RelV.abs{x:V}{u:Value}(r:RelV x u):Fc u=some x:=by
 cases x with
 | non=>cases r; rfl
 | bl _=>cases r; rfl
 | int _=>obtain⟨t,rfl⟩:=r; rfl
 | str _=>obtain⟨t,rfl⟩:=r; rfl
 | byt _=>obtain⟨t,rfl⟩:=r; rfl
 | flt _=>obtain⟨t,rfl⟩:=r; rfl
 | ref _=>cases r; rfl
 | ty _=>cases r; rfl
theorem RelV.inj{x y:V}{u:Value}(r:RelV x u)(q:RelV y u):x=y:=Option.some.inj (r.abs.symm.trans q.abs)
theorem Vals.inj:∀ {xs ys:List V} {us:List Value},Vals xs us→Vals ys us→xs=ys
 | _,_,_,.nil,.nil=>rfl
 | _,_,_,.cons r t,.cons r' t'=>by rw[r.inj r',Vals.inj t t']
section
variable{X:Cx}{pins:List (Addr × Obj)}{σ : St}{H:Hp}{s:Shared}{a:Addr}{xs ys:List V}
theorem SqL.of{K:PySem.W.Frag}(h:H a=some (.lst xs)):SqL K H a xs:=.inl (.inl h)
theorem SqT.of{K:PySem.W.Frag}(h:H a=some (.tup xs)):SqT K H a xs:=.inl (.inl h)
theorem Inv.list(I:Inv X pins σ H s)(h:SqL X.K H a xs):∃ its:List Value,Vals xs its∧PlainL s.heap a its.toArray∧xs.length≤sizeLine:=by
 rcases h with h | ⟨o,its,n,hk,hc,hd,hs,hz,r⟩
 ·obtain⟨z,its,n,r,e⟩:=h.ok I.hok
  exact⟨its,r,⟨_,n,e,rfl,rfl,rfl⟩,z⟩
 ·refine⟨its.toList,r,⟨o,n,I.kIn a o hk,hc,hd,by simpa using hs⟩,?_⟩
  have e:=r.length
  simp only[Array.length_toList]at e
  omega
theorem Inv.tuple(I:Inv X pins σ H s)(h:SqT X.K H a xs):∃ its:List Value,Vals xs its∧IsTup s.heap a its.toArray∧xs.length≤sizeLine:=by
 rcases h with h | ⟨o,its,n,hk,hc,hs,hz,r⟩
 ·obtain⟨z,its,r,p⟩:=h.ok I.hok
  exact⟨its,r,p.tup,z⟩
 ·refine⟨its.toList,r,⟨o,I.kIn a o hk,hc,n,by simpa using hs⟩,?_⟩
  have e:=r.length
  simp only[Array.length_toList]at e
  omega
theorem Inv.list_inj(I:Inv X pins σ H s)(h:SqL X.K H a xs)(h':SqL X.K H a ys):xs=ys:=by
 obtain⟨its,r,⟨o,n,e,_,_,d⟩,_⟩:=I.list h
 obtain⟨its',r',⟨o',n',e',_,_,d'⟩,_⟩:=I.list h'
 rw[e]at e'; cases e'
 rw[d]at d'
 injection d' with d1 _
 have:its=its':=by simpa using congrArg Array.toList d1
 subst this
 exact r.inj r'
theorem Inv.tuple_inj(I:Inv X pins σ H s)(h:SqT X.K H a xs)(h':SqT X.K H a ys):xs=ys:=by
 obtain⟨its,r,⟨o,e,_,n,d⟩,_⟩:=I.tuple h
 obtain⟨its',r',⟨o',e',_,n',d'⟩,_⟩:=I.tuple h'
 rw[e]at e'; cases e'
 rw[d]at d'
 injection d' with d1 _
 have:its=its':=by simpa using congrArg Array.toList d1
 subst this
 exact r.inj r'
end
abbrev Cx.wish (X:Cx) (E:Value→Shared→Prop):Cx:={ X with xe:=E }
abbrev Cx.nox (X:Cx):Cx:=X.wish fun _ _=>False
theorem Cx.Ok.wish{X:Cx}(ok:X.Ok)(E:Value→Shared→Prop):(X.wish E).Ok:=
 ⟨ok.mod,ok.kind,ok.glob,ok.blt,ok.above,ok.inj,ok.has,ok.cab,ok.hd,ok.frames,ok.stk,ok.exf,ok.bs,ok.bsz,ok.noex,ok.exfs,ok.funs,ok.frf⟩
theorem Cx.Ok.unwish{X:Cx}{E:Value→Shared→Prop}(ok:(X.wish E).Ok):X.Ok:=
 ⟨ok.mod,ok.kind,ok.glob,ok.blt,ok.above,ok.inj,ok.has,ok.cab,ok.hd,ok.frames,ok.stk,ok.exf,ok.bs,ok.bsz,ok.noex,ok.exfs,ok.funs,ok.frf⟩
section
variable{X:Cx}{pins:List (Addr × Obj)}{σ : St}{H:Hp}{s:Shared}{E:Value→Shared→Prop}
theorem Inv.wish(I:Inv X pins σ H s)(E:Value→Shared→Prop):Inv (X.wish E) pins σ H s:=⟨I.ok.wish E,I.os,I.bare,I.base,I.loc,I.cell,I.free,I.freeC,I.pin,I.hok,I.len⟩
theorem Inv.unwish(I:Inv (X.wish E) pins σ H s):Inv X pins σ H s:=⟨I.ok.unwish,I.os,I.bare,I.base,I.loc,I.cell,I.free,I.freeC,I.pin,I.hok,I.len⟩
theorem SP.unwish{D:dO}{f:Flow}{s':Shared}(h:SP (X.wish E) pins D f s'):SP X pins D f s':=by
 cases f with
 | next=>obtain⟨σ',H',I,q⟩:=h; exact⟨σ',H',I.unwish,q⟩
 | brk=>obtain⟨σ',H',I,q⟩:=h; exact⟨σ',H',I.unwish,q⟩
 | cont=>obtain⟨σ',H',I,q⟩:=h; exact⟨σ',H',I.unwish,q⟩
 | ret u=>obtain⟨v,σ',H',I,r,q⟩:=h; exact⟨v,σ',H',I.unwish,r,q⟩
theorem PSs.nox{st:List Stmt}{t:TS}(h:PSs X.nox st t):PSs X st t:=fun pins s σ H D I hw=>
 wpAny_mono (h pins s σ H D (I.wish _) hw) (fun _ _ q=>q.unwish) fun _ _ z=>False.elim z
end
section
variable{X:Cx}{st:Stmt}{rest:List Stmt}{t u:TS}{e:Expr}{te:TE}{pos:Pos}
def yr:TS:=fun D σ H=>D.nx σ H
def Au(t u:TS):TS:=fun D σ H=>t { D with nx:=u D } σ H
theorem aY:PSs X [] yr:=fun _ _ σ H _ I h=>wpAny_execs_nil ⟨σ,H,I,h⟩
theorem ae(h1:PS X st t)(h2:PSs X rest u):PSs X (st::rest) (Au t u):=by
 intro pins s σ H D I h
 refine wpAny_execs_cons (bz (h1 pins s σ H { D with nx:=u D } I h) fun f s1 q=>?_)
 cases f with
 | next=>
  obtain⟨σ',H',I',q⟩:=q
  exact h2 pins s1 σ' H' D I' q
 | ret v=>exact q
 | brk=>exact q
 | cont=>exact q
theorem aj(h1:PS X st t):PSs X [st] t:=by
 intro pins s σ H D I h
 refine wpAny_execs_cons (bz (h1 pins s σ H D I h) fun f s1 q=>?_)
 cases f with
 | next=>exact wpAny_execs_nil q
 | ret v=>exact q
 | brk=>exact q
 | cont=>exact q
theorem Inv.quiet{pins:List (Addr × Obj)}{σ : St}{H:Hp}{s:Shared}(I:Inv X pins σ H s):interactive X.env=false:=by simp[interactive,I.ok.kind]
def yp(te:TE):TS:=fun D σ H=>te σ H fun _ H1=>D.nx σ H1
theorem bu(he:PE X e te)(hs:swapsWith e none pos.line X.env=pure false:=by rfl):PS X (.Expr e pos) (yp te):=by
 intro pins s σ H D I h
 exact wpAny_Expr_any (bz (he pins s σ H _ I h) fun v s1 ⟨x,H1,I1,r1,q1⟩=>⟨σ,H1,I1,q1⟩) I.quiet hs
def Bi(te:TE):TS:=fun D σ H=>te σ H D.rt
theorem aA(he:PE X e te):PS X (.Return (some e) pos) (Bi te):=by
 intro pins s σ H D I h
 exact wpAny_Return_some (bz (he pins s σ H _ I h) fun v s1 ⟨x,H1,I1,r1,q1⟩=>⟨x,σ,H1,I1,r1,q1⟩)
def zR(c:TT)(t u:TS):TS:=fun D σ H=>c σ H fun b H1=>if b=true then t D σ H1 else u D σ H1
theorem bG{c:Expr}{a b:List Stmt}{tc:TT}(hc:PT X c tc)(ha:PSs X a t)(hb:PSs X b u):PS X (.If c a b pos) (zR tc t u):=by
 intro pins s σ H D I h
 refine wpAny_If (bz (hc pins s σ H _ I h) fun d s1 ⟨H1,I1,q1⟩=>?_)
 cases d with
 | true=>exact ha pins s1 σ H1 D I1 q1
 | false=>exact hb pins s1 σ H1 D I1 q1
end
abbrev TG:=V→St→Hp→(St→Hp→Prop)→Prop
abbrev gE:=List V→St→Hp→(St→Hp→Prop)→Prop
def PG(X:Cx)(target:Expr)(t:TG):Prop:=
 ∀ (pins:List (Addr × Obj)) (s:Shared) (σ : St) (H:Hp) (v:V) (u:Value) (Q:St→Hp→Prop),Inv X pins σ H s→RelV v u→t v σ H Q→
  wpAny (model X.prog X.w) X.A (assign target X.env u) (fun _ s'=>∃ σ' H',Inv X pins σ' H' s'∧Q σ' H') X.xe s
def PGs(X:Cx)(ts:List Expr)(t:gE):Prop:=
 ∀ (pins:List (Addr × Obj)) (s:Shared) (σ : St) (H:Hp) (vs:List V) (us:List Value) (Q:St→Hp→Prop),Inv X pins σ H s→Vals vs us→t vs σ H Q→
  wpAny (model X.prog X.w) X.A (assignInOrder ((assignEach ts X.env).map (·.2)) us) (fun _ s'=>∃ σ' H',Inv X pins σ' H' s'∧Q σ' H') X.xe s
abbrev oP:=V→V→V→Hp→(Hp→Prop)→Prop
def PSet(X:Cx)(t:oP):Prop:=
 ∀ (pins:List (Addr × Obj)) (s:Shared) (σ : St) (H:Hp) (o i v:V) (ov iv u:Value) (Q:Hp→Prop),Inv X pins σ H s→RelV o ov→RelV i iv→RelV v u→t o i v H Q→
  wpAny (model X.prog X.w) X.A (setItem ov iv u) (fun _ s'=>∃ H',Inv X pins σ H' s'∧Q H') X.xe s
section
variable{X:Cx}{pos:Pos}
def gT(i:Nat):TG:=fun v σ H Q=>Q (σ.set i (some v)) H
theorem zD{i:Nat}{x:Str}(hN:X.N.Nodup)(hi:X.N[i]? = some x)(hx:aE X.env.scope x)(hf:X.fn x=true∨X.env.scope.names.lookup x=some .local:=by first | exact .inl rfl | exact .inr rfl | assumption):PG X (.Name x pos) (gT i):=by
 intro pins s σ H v u Q I r h
 exact wpAny_assign_Name (pU I hN hi hx r (fun s' I'=>⟨_,H,I',h⟩) hf)
def uj:gE:=fun vs σ H Q=>vs=[]∧Q σ H
def nD(t:TG)(u:gE):gE:=fun vs σ H Q=>∃ v r,vs=v::r∧t v σ H fun σ' H'=>u r σ' H' Q
theorem eQ:PGs X [] uj:=by
 intro pins s σ H vs us Q I r h
 obtain⟨e,h⟩:=h
 subst e
 cases r
 exact assignInOrder_nil ⟨σ,H,I,h⟩
theorem b6{e:Expr}{es:List Expr}{t:TG}{u:gE}(h1:PG X e t)(h2:PGs X es u)
  (hs:(assignEach (e::es) X.env).map (·.2)=assign e X.env::(assignEach es X.env).map (·.2):=by rfl):PGs X (e::es) (nD t u):=by
 intro pins s σ H vs us Q I r h
 obtain⟨v,vr,e1,h⟩:=h
 subst e1
 cases r with
 | cons r rr=>
  rw[hs]
  refine assignInOrder_cons (bz (h1 pins s σ H _ _ _ I r h) fun _ s1 ⟨σ1,H1,I1,q1⟩=>?_)
  exact h2 pins s1 σ1 H1 _ _ Q I1 rr q1
def ud(K:PySem.W.Frag)(n:Nat)(t:gE):TG:=fun v σ H Q=>∃ a xs,v = .ref a∧SqT K H a xs∧xs.length=n∧t xs σ H Q
theorem Bn{es:List Expr}{k:Nat}{t:gE}{n:Nat}(hc:X.calm=true)(h:PGs X es t)
  (hn:(assignEach es X.env).length=n:=by rfl) (hst:(assignEach es X.env).findIdx? (·.1)=none:=by rfl):PG X (.Tuple es k pos) (ud X.K n t):=by
 intro pins s σ H v u Q I r hw
 obtain⟨a,xs,e1,hq,hl,hw⟩:=hw
 subst e1
 cases r
 obtain⟨its,rv,ht,hz⟩:=I.tuple hq
 refine assign_Tuple_tuple (I.ok.hd hc) ht (by simp[hn,← hl,rv.length]) hst fun h' hx=>?_
 have I1:Inv X pins σ H { s with heap:=h' }:=I.kept (t':=s.toks) fun b o e=>hx b o (Nat.ne_of_lt (Heap.lt_size e)) e
 exact h pins _ σ H xs _ Q I1 (by simpa using rv) hw
def zH(to ti:TE)(t:oP):TG:=fun v σ H Q=>to σ H fun o H1=>ti σ H1 fun i H2=>t o i v H2 fun H3=>Q σ H3
theorem kH{o i:Expr}{to ti:TE}{t:oP}(ho:PE X o to)(hi:PE X i ti)(hs:PSet X t)
  (ha:∀ v,assign (.Subscript o i pos) X.env v=(do
   let ov ← holding [v] (eval o X.env)
   let iv ← holding [v,ov] (eval i X.env)
   standAt pos
   holding [v,ov,iv] (setItem ov iv v)
   release [v,ov,iv] []):=by intro _; rfl):PG X (.Subscript o i pos) (zH to ti t):=by
 intro pins s σ H v u Q I r h
 rw[ha]
 refine wpAny_bind (wpAny_holding (bz (ho pins s σ H _ I h) fun ov s1 ⟨x,H1,I1,r1,q1⟩=>?_))
 refine wpAny_bind (wpAny_holding (bz (hi pins s1 σ H1 _ I1 q1) fun iv s2 ⟨y,H2,I2,r2,q2⟩=>?_))
 refine wpAny_bind (wpAny_standAt (wpAny_bind (wpAny_holding (bz (hs pins s2 σ H2 x y v ov iv u _ I2 r1 r2 r q2) fun _ s3 ⟨H3,I3,q3⟩=>?_))))
 exact wpAny_release ⟨σ,H3,I3,q3⟩
def pL(te:TE)(g:TG):TS:=fun D σ H=>te σ H fun x H1=>g x σ H1 D.nx
theorem hJ{tg e:Expr}{te:TE}{g:TG}(he:PE X e te)(hg:PG X tg g)(hs:swapsWithSole [tg] e pos.line X.env=pure false:=by rfl)(hw:swappedStores [tg] e X.env=pure none:=by rfl)
  (h1:(assignEach [tg] X.env).map (·.2)=[assign tg X.env]:=by rfl):PS X (.Assign [tg] e pos) (pL te g):=by
 intro pins s σ H D I h
 refine wpAny_Assign_stores (bz (he pins s σ H _ I h) fun v s1 ⟨x,H1,I1,r1,q1⟩=>?_) hs hw
 rw[h1]
 exact bz (hg pins s1 σ H1 x v _ I1 r1 q1) fun _ s2 q=>q
theorem Bt{i:Nat}{x:Str}{e:Expr}{te:TE}{pos':Pos}(hN:X.N.Nodup)(hi:X.N[i]? = some x)(hx:aE X.env.scope x)(he:PE X e te)(hs:swapsWith e (some (.Name x pos')) pos.line X.env=pure false:=by rfl)(hf:X.fn x=true∨X.env.scope.names.lookup x=some .local:=by first | exact .inl rfl | exact .inr rfl | assumption) :
  PS X (.Assign [.Name x pos'] e pos) (pL te (gT i)):=by
 intro pins s σ H D I h
 refine wpAny_Assign_Name (bz (he pins s σ H _ I h) fun v s1 ⟨y,H1,I1,r1,q1⟩=>?_) hs
 exact pU I1 hN hi hx r1 (fun s2 I2=>⟨_,H1,I2,q1⟩) hf
end
section
variable{X:Cx}{pos:Pos}
end
set_option genInjectivity false in
set_option genSizeOf false in
structure It where
 go:Nat→Hp→Prop
 yld:Nat→Hp→V→Hp→Prop
 stop:Nat→Hp→Prop
def gP(X:Cx)(pins:List (Addr × Obj))(H:Hp)(b:Addr):Prop:=
 H b=none∧b≠X.env.locals∧b∉X.fs∧(b∈X.ex∨X.s₀.heap.objs.size≤b)∧(∀ x c,X.env.cells.lookup x=some c→c≠b)∧∀ p∈X.pn++pins,p.1≠b
theorem Inv.fpOk{X:Cx}{pins:List (Addr × Obj)}{σ : St}{H H':Hp}{s:Shared}{b:Addr}(I:Inv X pins σ H s)(hb:s.heap.objs.size≤b)(hn:H' b=none):gP X pins H' b:=by
 refine⟨hn,Nat.ne_of_gt (Nat.lt_of_lt_of_le I.lt hb),I.nofs hb,.inr (Nat.le_trans I.sz hb),fun x c e z=>?_,fun p hp z=>?_⟩
 ·obtain⟨v,q⟩:=I.cell x c e
  exact absurd (Nat.lt_of_lt_of_le q.lt (by rw[z]; exact hb)) (Nat.lt_irrefl _)
 ·exact absurd (Nat.lt_of_lt_of_le (Heap.lt_size (I.pin p hp).1) (by rw[z]; exact hb)) (Nat.lt_irrefl _)
structure iy (P:Program) (w:World) (K:PySem.W.Frag) (tg:Expr) (J:It) (fp:List Addr) (it:Addr) (tn:Nat→Heap→Prop):Prop where
 mem:it∈fp
 obj:∀ i h,tn i h→∀ b∈fp,∃ o,h.get? b=some o∧∀ v,o.data ≠ .cell v
 keep:∀ i h h',tn i h→(∀ b∈fp,∀ o,h.get? b=some o→h'.get? b=some o)→tn i h'
 item:∀ (X:Cx),X.prog=P→X.w=w→X.K=K→X.calm=true→∀ (i:Nat) (pins:List (Addr × Obj)) (s:Shared) (σ : St) (H:Hp) (E:Value→Shared→Prop),Inv X pins σ H s→(∀ b∈fp,gP X pins H b)→tn i s.heap→J.go i H→
  wpAny (model P w) X.A (pyNext (.ref it)) (fun r s1=>∃ u,r=some u∧
   wpAny (model P w) X.A (letOwnedTupleGo tg (.ref it) u) (fun _ s2=>∃ x H',Inv X pins σ H' s2∧RelV x u∧J.yld i H x H'∧tn (i+1) s2.heap∧∀ b∈fp,H' b=none) E s1) E s
 done:∀ (X:Cx),X.prog=P→X.w=w→X.K=K→X.calm=true→∀ (i:Nat) (pins:List (Addr × Obj)) (s:Shared) (σ : St) (H:Hp) (E:Value→Shared→Prop),Inv X pins σ H s→(∀ b∈fp,gP X pins H b)→tn i s.heap→J.stop i H→
  wpAny (model P w) X.A (pyNext (.ref it)) (fun r s1=>r=none∧Inv X pins σ H s1) E s
 self:∀ (A:Around) (i:Nat) (s:Shared) (Q:Value→Shared→Prop) (E:Value→Shared→Prop),tn i s.heap→Q (.ref it) s→wpAny (model P w) A (pyIter (.ref it)) Q E s
abbrev TI:=St→Hp→(It→Hp→Prop)→Prop
def CB(X:Cx)(pins:List (Addr × Obj))(σ : St)(tg:Expr)(R:It→Hp→Prop)(itv:Value)(s2:Shared):Prop:=
 ∃ (it:Addr) (fp:List Addr) (tn:Nat→Heap→Prop) (J:It) (H':Hp),itv = .ref it∧Inv X pins σ H' s2∧iy X.prog X.w X.K tg J fp it tn∧tn 0 s2.heap∧(∀ b∈fp,gP X pins H' b)∧R J H'
def PI(X:Cx)(tg iter:Expr)(wi:TI):Prop:=
 ∀ (pins:List (Addr × Obj)) (s:Shared) (σ : St) (H:Hp) (R:It→Hp→Prop),Inv X pins σ H s→wi σ H R→
  wpAny (model X.prog X.w) X.A (eval iter X.env) (fun v s1=>wpAny (model X.prog X.w) X.A (pyIter v) (CB X pins σ tg R) X.xe s1) X.xe s
theorem nH{M:Model}{A:Around}{E:Value→Shared→Prop}{s:Shared}{tg:Expr}{it:Addr}{u:Value}{o:Obj}{n:String}{vs:Array Value}{Q:Unit→Shared→Prop}(ho:s.heap.get? it=some o)(hc:o.cls = .type n)(hd:o.data = .fields vs)
    (hn:["enumerate", "zip", "dict_itemiterator", "dict_reverseitemiterator", "odict_iterator", "itertools.zip_longest", "itertools.pairwise"].contains n=false) (hQ:Q () s):wpAny M A (letOwnedTupleGo tg (.ref it) u) Q E s:=by
  unfold letOwnedTupleGo
  cases tg <;> first
    | exact wpAny_pure hQ
    | (cases u <;> first
        | exact wpAny_pure hQ
        | (refine wpAny_bind (wpAny_load ho ?_)
           rw[hc,hd]
           show wpAny M A (if (["enumerate", "zip", "dict_itemiterator", "dict_reverseitemiterator", "odict_iterator", "itertools.zip_longest", "itertools.pairwise"].contains n&&vs[0]? == some (rawInt _))=true then _ else _) Q E s
           rw[if_neg (by intro h; rw[hn,Bool.false_and]at h; cases h)]
           exact wpAny_pure hQ))
def kz(K:PySem.W.Frag)(a:Addr):It:=
 ⟨fun i H=>∃ xs x,SqL K H a xs∧xs[i]? = some x,fun i H x H'=>H'=H∧∀ xs,SqL K H a xs→xs[i]? = some x,fun i H=>∃ xs,SqL K H a xs∧xs.length≤i⟩
def vh(K:PySem.W.Frag)(a:Addr):It:=
 ⟨fun i H=>∃ xs x,SqT K H a xs∧xs[i]? = some x,fun i H x H'=>H'=H∧∀ xs,SqT K H a xs→xs[i]? = some x,fun i H=>∃ xs,SqT K H a xs∧xs.length≤i⟩
def jW(lo:Int)(n:Nat):It:=⟨fun i _=>i<n,fun i H x H'=>H'=H∧x = .int (lo+i),fun i _=>n≤i⟩
theorem vg{P:Program}{w:World}{K:PySem.W.Frag}{tg:Expr}(a it:Addr):iy P w K tg (kz K a) [it] it (fun i h=>h.IsListIter it a i) where
 mem:=by simp
 obj:=fun i h st b hb=>by
  have e:b=it:=by simpa using hb
  subst e
  obtain⟨o,e,c,d⟩:=st
  exact⟨o,e,fun v z=>by rw[d]at z; cases z⟩
 keep:=fun i h h' st k=>st.at fun o e=>k it (by simp) o e
 item:=by
  intro X hP hw hK hc i pins s σ H E I hf st hg
  subst hP hw hK
  obtain⟨xs,x,hq,hx⟩:=hg
  obtain⟨its,rv,p,hz⟩:=I.list hq
  obtain⟨u,hu,ru⟩:=rv.get hx
  obtain⟨f0,f1,f2,f3,f4,f5⟩:=hf it (by simp)
  refine wpAny_pyNext_list_item st p.isList (x:=u) (by simpa using hu) fun h' st' sb=>?_
  have I1:Inv X pins σ H { s with heap:=h' }:=I.turned (t':=s.toks) (fun b o hb e=>(sb.2 b hb).trans e) f0 f1 f3 f4 f5
  obtain⟨o,e,c,d⟩:=id st'
  exact⟨u,rfl,nH (s:={ s with heap:=h' }) e c d (by decide) ⟨x,H,I1,ru,⟨rfl,fun ys hy=>by rw[I.list_inj hy hq]; exact hx⟩,st',fun b hb=>(hf b hb).1⟩⟩
 done:=by
  intro X hP hw hK hc i pins s σ H E I hf st hg
  subst hP hw hK
  obtain⟨xs,hq,hx⟩:=hg
  obtain⟨its,rv,p,hz⟩:=I.list hq
  obtain⟨f0,f1,f2,f3,f4,f5⟩:=hf it (by simp)
  have hl:=rv.length
  exact wpAny_pyNext_list_end (I.ok.hd hc) st p.isList (by simp; omega) fun h' eb=>⟨rfl,I.turned (t':=s.toks) (fun b o hb e=>eb b o hb e) f0 f1 f3 f4 f5⟩
 self:=fun _ _ _ _ _ st h=>wpAny_pyIter_listiter st h
theorem sY{P:Program}{w:World}{K:PySem.W.Frag}{tg:Expr}(a it:Addr):iy P w K tg (vh K a) [it] it (fun i h=>h.IsTupleIter it a i) where
 mem:=by simp
 obj:=fun i h st b hb=>by
  have e:b=it:=by simpa using hb
  subst e
  obtain⟨o,e,c,d⟩:=st
  exact⟨o,e,fun v z=>by rw[d]at z; cases z⟩
 keep:=fun i h h' st k=>st.at fun o e=>k it (by simp) o e
 item:=by
  intro X hP hw hK hc i pins s σ H E I hf st hg
  subst hP hw hK
  obtain⟨xs,x,hq,hx⟩:=hg
  obtain⟨its,rv,p,hz⟩:=I.tuple hq
  obtain⟨u,hu,ru⟩:=rv.get hx
  obtain⟨f0,f1,f2,f3,f4,f5⟩:=hf it (by simp)
  refine wpAny_pyNext_tuple_item st (show s.heap.IsTuple a its.toArray from p) (x:=u) (by simpa using hu) fun h' st' sb=>?_
  have I1:Inv X pins σ H { s with heap:=h' }:=I.turned (t':=s.toks) (fun b o hb e=>(sb.2 b hb).trans e) f0 f1 f3 f4 f5
  obtain⟨o,e,c,d⟩:=id st'
  exact⟨u,rfl,nH (s:={ s with heap:=h' }) e c d (by decide) ⟨x,H,I1,ru,⟨rfl,fun ys hy=>by rw[I.tuple_inj hy hq]; exact hx⟩,st',fun b hb=>(hf b hb).1⟩⟩
 done:=by
  intro X hP hw hK hc i pins s σ H E I hf st hg
  subst hP hw hK
  obtain⟨xs,hq,hx⟩:=hg
  obtain⟨its,rv,p,hz⟩:=I.tuple hq
  obtain⟨f0,f1,f2,f3,f4,f5⟩:=hf it (by simp)
  have hl:=rv.length
  exact wpAny_pyNext_tuple_end (I.ok.hd hc) st (show s.heap.IsTuple a its.toArray from p) (by simp; omega) fun h' eb=>⟨rfl,I.turned (t':=s.toks) (fun b o hb e=>eb b o hb e) f0 f1 f3 f4 f5⟩
 self:=fun _ _ _ _ _ st h=>wpAny_pyIter_tupleiter st h
theorem sK{P:Program}{w:World}{K:PySem.W.Frag}{tg:Expr}(it:Addr)(lo:Int)(n:Nat):iy P w K tg (jW lo n) [it] it (fun i h=>IsRangeIter h it (lo+(i:Nat) * 1) ((n:Int) - (i:Nat)) 1) where
 mem:=by simp
 obj:=fun i h st b hb=>by
  have e:b=it:=by simpa using hb
  subst e
  exact⟨_,st,fun v z=>by
   have z':Data.fields _=Data.cell v:=z
   cases z'⟩
 keep:=fun i h h' st k=>k it (by simp) _ st
 item:=by
  intro X hP hw hK hc i pins s σ H E I hf st hg
  subst hP hw hK
  obtain⟨f0,f1,f2,f3,f4,f5⟩:=hf it (by simp)
  have W:=Walks.range (prog:=X.prog) (w:=X.w) (I.ok.hd hc) it lo 1 n
  refine W.item i s _ _ hg st fun v h' tk hv st' kk=>?_
  obtain⟨t,rfl⟩:=hv
  have I1:Inv X pins σ H { s with heap:=h',toks:=tk }:=I.turned (fun b o hb e=>kk b o (by simpa using hb) e) f0 f1 f3 f4 f5
  refine⟨_,rfl,nH (s:={ s with heap:=h',toks:=tk }) (n := "range_iterator") st' rfl rfl (by decide) ⟨.int (lo+i),H,I1,⟨t,?_⟩,⟨rfl,rfl⟩,st',fun b hb=>(hf b hb).1⟩⟩
  rw[Int.mul_one]
 done:=by
  intro X hP hw hK hc i pins s σ H E I hf st hg
  subst hP hw hK
  obtain⟨f0,f1,f2,f3,f4,f5⟩:=hf it (by simp)
  exact wpAny_pyNext_range_end (I.ok.hd hc) st (by have:n≤i:=hg; omega) fun h' eb=>⟨rfl,I.turned (t':=s.toks) (fun b o hb e=>eb b o hb e) f0 f1 f3 f4 f5⟩
 self:=fun _ _ _ _ _ st h=>wpAny_pyIter_rangeiter st h
end L2
namespace L2
open PySem PySem.Spec PyProof.Rows
section
variable{X:Cx}{tg:Expr}
def ul(K:PySem.W.Frag)(tl:TE):TI:=fun σ H R=>tl σ H fun x H1=>∃ a,x = .ref a∧(∃ xs,SqL K H1 a xs)∧R (kz K a) H1
def xp(K:PySem.W.Frag)(tl:TE):TI:=fun σ H R=>tl σ H fun x H1=>∃ a,x = .ref a∧(∃ xs,SqT K H1 a xs)∧R (vh K a) H1
theorem zi{l:Expr}{tl:TE}(hl:PE X l tl):PI X tg l (ul X.K tl):=by
 intro pins s σ H R I h
 refine bz (hl pins s σ H _ I h) fun v s1 ⟨x,H1,I1,r1,q1⟩=>?_
 obtain⟨a,e,⟨xs,hq⟩,q⟩:=q1
 subst e
 cases r1
 obtain⟨its,rv,p,hz⟩:=I1.list hq
 refine wpAny_pyIter_list p.isList ?_
 refine⟨s1.heap.objs.size,[s1.heap.objs.size],_,_,H1,rfl,I1.kept (t':=s1.toks) fun b o e=>Heap.get?_push_of_some _ e,vg a _,⟨_,Heap.get?_push_size _ rfl,rfl,rfl⟩,fun b hb=>?_,q⟩
 have e:b=s1.heap.objs.size:=by simpa using hb
 subst e
 exact I1.fpOk (Nat.le_refl _) (I1.hok.fresh (Nat.le_refl _))
theorem By{l:Expr}{tl:TE}(hl:PE X l tl):PI X tg l (xp X.K tl):=by
 intro pins s σ H R I h
 refine bz (hl pins s σ H _ I h) fun v s1 ⟨x,H1,I1,r1,q1⟩=>?_
 obtain⟨a,e,⟨xs,hq⟩,q⟩:=q1
 subst e
 cases r1
 obtain⟨its,rv,p,hz⟩:=I1.tuple hq
 refine wpAny_pyIter_tuple (show s1.heap.IsTuple a its.toArray from p) ?_
 refine⟨s1.heap.objs.size,[s1.heap.objs.size],_,_,H1,rfl,I1.kept (t':=s1.toks) fun b o e=>Heap.get?_push_of_some _ e,sY a _,⟨_,Heap.get?_push_size _ rfl,rfl,rfl⟩,fun b hb=>?_,q⟩
 have e:b=s1.heap.objs.size:=by simpa using hb
 subst e
 exact I1.fpOk (Nat.le_refl _) (I1.hok.fresh (Nat.le_refl _))
theorem xE{pins:List (Addr × Obj)}{σ : St}{H:Hp}{s:Shared}{R:It→Hp→Prop}{E:Value→Shared→Prop}{lo hi:Int}{t u v:Tok}{tk:Nat}(I:Inv X pins σ H s)(h1:-(2 ^ 62)≤lo)(h2:lo<2 ^ 62)(h3:-(2 ^ 62)≤hi)(h4:hi<2 ^ 62)
  (q:R (jW lo (hi - lo).toNat) H):wpAny (model X.prog X.w) X.A (pyIter (.ref s.heap.objs.size)) (CB X pins σ tg R) E { s with heap:=s.heap.push { cls:=.type "range", data:=.fields #[.int lo t,.int hi u,.int 1 v] },toks:=tk }:=by
 refine wpAny_pyIter_range (IsRange.new ..) (small_one h1 h2 h3 h4) ?_
 have I1:Inv X pins σ H { s with heap:=s.heap.push { cls:=.type "range", data:=.fields #[.int lo t,.int hi u,.int 1 v] },toks:=tk }:=I.kept fun b o e=>Heap.get?_push_of_some _ e
 refine⟨(s.heap.push { cls:=.type "range", data:=.fields #[.int lo t,.int hi u,.int 1 v] }).objs.size,[(s.heap.push { cls:=.type "range", data:=.fields #[.int lo t,.int hi u,.int 1 v] }).objs.size],_,_,H,rfl,
  I1.kept (t':=tk) fun b o e=>Heap.get?_push_of_some _ e,sK _ lo (hi - lo).toNat,?_,fun b hb=>?_,q⟩
 ·have e1:lo+((0:Nat):Int) * 1=lo:=by simp
  have e2:(((hi - lo).toNat:Nat):Int) - ((0:Nat):Int)=Builtin.Range.rangeSize lo hi 1:=by rw[rangeSize_one]; split <;> omega
  show IsRangeIter _ _ (lo+((0:Nat):Int) * 1) ((((hi - lo).toNat:Nat):Int) - ((0:Nat):Int)) 1
  rw[e1,e2]
  exact Heap.get?_push_size _ rfl
 ·have e:b=(s.heap.push { cls:=.type "range", data:=.fields #[.int lo t,.int hi u,.int 1 v] }).objs.size:=by simpa using hb
  subst e
  exact I1.fpOk (Nat.le_refl _) (I1.hok.fresh (Nat.le_refl _))
def yo(ta:TA):TI:=fun σ H R=>ta σ H fun vs H1=>∃ j:Int,vs=[.int j]∧-(2 ^ 62)≤j∧j<2 ^ 62∧R (jW 0 j.toNat) H1
theorem gd{a:Expr}{ta:TA}{p pos:Pos}(hg:Gl X "range") (hm:X.mg "range" = none) (ha:PA X [a] ta) (hs:starEach [a] X.env=[(false,eval a X.env)]:=by rfl):PI X tg (.Call (.Name "range" p) [a] [] pos) (yo ta):=by
 intro pins s σ H R I h
 refine Call_ (ga I hg hm boot_range (PyProof.Rows.callWith_type1 (bz (ha pos pins s σ H _ I h) fun us s1 ⟨vs,H1,I1,r1,q1⟩=>?_) hs rfl))
 obtain⟨j,e,q1,q2,q⟩:=q1
 subst e
 cases r1 with
 | cons r rr=>
  cases rr
  obtain⟨t,rfl⟩:=r
  exact call_range_1 (xE I1 (by omega) (by omega) q1 q2 (by simpa using q))
def Bd(wi:TI)(g:TG)(tb:TS):TS:=fun D σ H=>wi σ H fun J H1=>∃ W:Nat→Nat→St→Hp→Prop,(∃ m,W 0 m σ H1)∧∀ i m σ H,W i m σ H→
 (J.stop i H∧D.nx σ H)∨(J.go i H∧∃ N:St→Hp→Prop,(∀ σ' H',N σ' H'→∃ m',m'<m∧W (i+1) m' σ' H')∧∀ x H',J.yld i H x H'→g x σ H' fun σ2 H2=>tb { D with nx:=N,ct:=N,bk:=D.nx } σ2 H2)
def i_(fp:List Addr)(h:Heap):List (Addr × Obj):=fp.filterMap fun b=>(h.get? b).map fun o=>(b,o)
theorem gp{fp:List Addr}{h:Heap}{b:Addr}{o:Obj}(hb:b∈fp)(e:h.get? b=some o):(b,o)∈i_ fp h:=List.mem_filterMap.mpr ⟨b,hb,by rw[e]; rfl⟩
theorem uy{fp:List Addr}{h:Heap}{p:Addr × Obj}(hp:p∈i_ fp h):p.1∈fp∧h.get? p.1=some p.2:=by
 obtain⟨b,hb,e⟩:=List.mem_filterMap.mp hp
 cases q:h.get? b with
 | none=>rw[q]at e; cases e
 | some o=>
  rw[q]at e
  have e':(b,o)=p:=Option.some.inj e
  subst e'
  exact⟨hb,q⟩
theorem Inv.pinned{pins:List (Addr × Obj)}{σ : St}{H:Hp}{s:Shared}{fp:List Addr}(I:Inv X pins σ H s)(hf:∀ b∈fp,gP X pins H b)(ho:∀ b∈fp,∃ o,s.heap.get? b=some o∧∀ v,o.data ≠ .cell v):Inv X (pins++i_ fp s.heap) σ H s:=
 I.pins_of fun p hp=>(List.mem_append.mp hp).elim (fun z=>I.pin p (List.mem_append_right _ z)) fun z=>by
  obtain⟨hb,e⟩:=uy z
  obtain⟨f0,f1,f2,_⟩:=hf p.1 hb
  obtain⟨o,e',d⟩:=ho p.1 hb
  rw[e]at e'; cases e'
  exact⟨e,f0,f1,f2,d⟩
theorem Inv.unpinned{pins pl:List (Addr × Obj)}{σ : St}{H:Hp}{s:Shared}(I:Inv X (pins++pl) σ H s):Inv X pins σ H s:=I.pins_of fun p hp=>I.pin p (List.mem_append_right _ (List.mem_append_left _ hp))
theorem cE{iter:Expr}{body:List Stmt}{wi:TI}{g:TG}{tb:TS}{pos:Pos}(hp:PassesOwn (model X.prog X.w) X.A X.env X.xe)(hc:X.calm=true)(hi:PI X tg iter wi)(hg:PG X tg g)(hb:PSs X body tb)
  (hs:∀ x,foldedSetIterable iter X.env x=pure x:=by intro _; rfl):PS X (.For tg iter body [] pos) (Bd wi g tb):=by
 intro pins s σ H D I h
 refine wpAny_For (bz (hi pins s σ H _ I h) fun v s1 h1=>bz h1 fun itv s2 h2=>?_) hs
 obtain⟨it,fp,tn,J,H2,e,I2,T,st2,f2,W,⟨m0,w0⟩,turn⟩:=h2
 subst e
 -- what stays true of the iterator's objects through the loop
 have stat:∀ {H':Hp},(∀ b∈fp,H' b=none)→∀ b∈fp,gP X pins H' b:=fun hn b hb=>⟨hn b hb,(f2 b hb).2⟩
 refine codeAny_forLoop_any (fun n s'=>∃ i σ' H',Inv X pins σ' H' s'∧tn i s'.heap∧(∀ b∈fp,H' b=none)∧W i n σ' H') ?_ m0 ⟨0,σ,H2,I2,st2,fun b hb=>(f2 b hb).1,w0⟩
 rintro n s3 ⟨i,σ3,H3,I3,st3,fr3,w3⟩
 rcases turn i n σ3 H3 w3 with ⟨stop,qn⟩ | ⟨go,N,hN,step⟩
 ·refine wpAny_passesOwn hp (bz (T.done X rfl rfl rfl hc i pins s3 σ3 H3 X.xe I3 (stat fr3) st3 stop) fun r s4 ⟨hr,I4⟩=>?_)
  subst hr
  exact wpAny_execs_nil ⟨σ3,H3,I4,qn⟩
 ·refine wpAny_passesOwn hp (bz (T.item X rfl rfl rfl hc i pins s3 σ3 H3 X.xe I3 (stat fr3) st3 go) fun r s4 ⟨u,hr,h4⟩=>?_)
  subst hr
  refine wpAny_passesOwn hp (bz h4 fun _ s5 ⟨x,H5,I5,r5,y5,st5,fr5⟩=>?_)
  have I5':=I5.pinned (stat fr5) (T.obj _ _ st5)
  refine wpAny_passesOwn hp (bz (hg _ s5 σ3 H5 x u _ I5' r5 (step x H5 y5)) fun _ s6 ⟨σ6,H6,I6,q6⟩=>?_)
  refine wpAny_passesOwn hp (bz (hb _ s6 σ6 H6 _ I6 q6) fun f s7 q7=>?_)
  have again:∀ {σ7:St} {H7:Hp},Inv X (pins++i_ fp s5.heap) σ7 H7 s7→N σ7 H7→∃ m,m<n∧∃ i σ' H',Inv X pins σ' H' s7∧tn i s7.heap∧(∀ b∈fp,H' b=none)∧W i m σ' H':=fun {σ7 H7} I7 n7=>by
   obtain⟨m',hm,w7⟩:=hN σ7 H7 n7
   refine⟨m',hm,i+1,σ7,H7,I7.unpinned,T.keep _ _ _ st5 fun b hb o e=>(I7.pin (b,o) (List.mem_append_right _ (List.mem_append_right _ (gp hb e)))).1,fun b hb=>?_,w7⟩
   obtain⟨o,e,d⟩:=T.obj _ _ st5 b hb
   exact(I7.pin (b,o) (List.mem_append_right _ (List.mem_append_right _ (gp hb e)))).2.1
  cases f with
  | next=>obtain⟨σ7,H7,I7,n7⟩:=q7; exact again I7 n7
  | cont=>obtain⟨σ7,H7,I7,n7⟩:=q7; exact again I7 n7
  | brk=>obtain⟨σ7,H7,I7,q7⟩:=q7; exact⟨σ7,H7,I7.unpinned,q7⟩
  | ret v=>obtain⟨x7,σ7,H7,I7,r7,q7⟩:=q7; exact⟨x7,σ7,H7,I7.unpinned,r7,q7⟩
end
theorem wH{K:PySem.W.Frag}{a:Addr}{xs:List V}{g:TG}{tb:TS}{D:dO}{σ : St}{H:Hp}(Pv:Nat→St→Hp→Prop)(h0:Pv 0 σ H)(hl:∀ i σ H,i≤xs.length→Pv i σ H→SqL K H a xs)
  (hs:∀ i x σ H,xs[i]? = some x→Pv i σ H→g x σ H fun σ2 H2=>tb { D with nx:=Pv (i+1),ct:=Pv (i+1),bk:=D.nx } σ2 H2) (hd:∀ σ H,Pv xs.length σ H→D.nx σ H) :
  ∃ W:Nat→Nat→St→Hp→Prop,(∃ m,W 0 m σ H)∧∀ i m σ H,W i m σ H→
   ((kz K a).stop i H∧D.nx σ H)∨((kz K a).go i H∧∃ N:St→Hp→Prop,(∀ σ' H',N σ' H'→∃ m',m'<m∧W (i+1) m' σ' H')∧∀ x H',(kz K a).yld i H x H'→g x σ H' fun σ2 H2=>tb { D with nx:=N,ct:=N,bk:=D.nx } σ2 H2):=by
 refine⟨fun i m σ H=>m=xs.length - i∧i≤xs.length∧Pv i σ H,⟨xs.length,by simp,Nat.zero_le _,h0⟩,?_⟩
 rintro i m σ H ⟨rfl,hi,p⟩
 have q:=hl i σ H hi p
 by_cases hlt:i<xs.length
 ·refine .inr ⟨⟨xs,xs[i],q,by simp[hlt]⟩,Pv (i+1),fun σ' H' p'=>⟨xs.length - (i+1),by omega,rfl,hlt,p'⟩,fun x H' y=>?_⟩
  obtain⟨e,y⟩:=y
  subst e
  exact hs i x σ _ (y xs q) p
 ·have e:i=xs.length:=by omega
  subst e
  exact .inl ⟨⟨xs,q,Nat.le_refl _⟩,hd σ H p⟩
theorem v0{lo:Int}{n:Nat}{g:TG}{tb:TS}{D:dO}{σ : St}{H:Hp}(Pv:Nat→St→Hp→Prop)(h0:Pv 0 σ H)
  (hs:∀ i σ H,i<n→Pv i σ H→g (.int (lo+i)) σ H fun σ2 H2=>tb { D with nx:=Pv (i+1),ct:=Pv (i+1),bk:=D.nx } σ2 H2) (hd:∀ σ H,Pv n σ H→D.nx σ H) :
  ∃ W:Nat→Nat→St→Hp→Prop,(∃ m,W 0 m σ H)∧∀ i m σ H,W i m σ H→
   ((jW lo n).stop i H∧D.nx σ H)∨((jW lo n).go i H∧∃ N:St→Hp→Prop,(∀ σ' H',N σ' H'→∃ m',m'<m∧W (i+1) m' σ' H')∧∀ x H',(jW lo n).yld i H x H'→g x σ H' fun σ2 H2=>tb { D with nx:=N,ct:=N,bk:=D.nx } σ2 H2):=by
 refine⟨fun i m σ H=>m=n - i∧i≤n∧Pv i σ H,⟨n,by simp,Nat.zero_le _,h0⟩,?_⟩
 rintro i m σ H ⟨rfl,hi,p⟩
 by_cases hlt:i<n
 ·refine .inr ⟨hlt,Pv (i+1),fun σ' H' p'=>⟨n - (i+1),by omega,rfl,hlt,p'⟩,fun x H' y=>?_⟩
  obtain⟨e,y⟩:=y
  subst e y
  exact hs i σ _ hlt p
 ·have e:i=n:=by omega
  subst e
  exact .inl ⟨Nat.le_refl _,hd σ H p⟩
end L2
namespace L2
open PySem PySem.Spec PyProof.Rows
abbrev R2:=V→V→Hp→VK→Prop
def OpR(X:Cx)(f:Value→Value→Sem Value)(r:R2):Prop:=
 ∀ (pins:List (Addr × Obj)) (s:Shared) (σ : St) (H:Hp) (x y:V) (v u:Value) (Q:VK),Inv X pins σ H s→RelV x v→RelV y u→r x y H Q→
  wpAny (model X.prog X.w) X.A (f v u) (EP X pins σ Q) X.xe s
def UnR(X:Cx)(f:Value→Sem Value)(r:V→Hp→VK→Prop):Prop:=
 ∀ (pins:List (Addr × Obj)) (s:Shared) (σ : St) (H:Hp) (x:V) (v:Value) (Q:VK),Inv X pins σ H s→RelV x v→r x H Q→
  wpAny (model X.prog X.w) X.A (f v) (EP X pins σ Q) X.xe s
def CallR(X:Cx)(f:Value)(r:List V→Hp→VK→Prop):Prop:=
 ∀ (pins:List (Addr × Obj)) (s:Shared) (σ : St) (H:Hp) (xs:List V) (us:List Value) (Q:VK),Inv X pins σ H s→Vals xs us→r xs H Q→
  wpAny (model X.prog X.w) X.A (call f us) (EP X pins σ Q) X.xe s
def uK(r:R2)(ta tb:TE):TE:=fun σ H Q=>ta σ H fun x H1=>tb σ H1 fun y H2=>r x y H2 Q
def Cf(r:V→Hp→VK→Prop)(ta:TE):TE:=fun σ H Q=>ta σ H fun x H1=>r x H1 Q
def rI(C:Int→Int→Prop)(g:Int→Int→V):R2:=fun x y H Q=>∃ i j,x = .int i∧y = .int j∧C i j∧Q (g i j) H
def mr(g:Int→Int→V):R2:=fun x y H Q=>∃ i j,x = .int i∧y = .int j∧Q (g i j) H
def rU(g:Int→V):V→Hp→VK→Prop:=fun x H Q=>∃ i,x = .int i∧Q (g i) H
section
variable{X:Cx}{a b c:Expr}{ta tb tc:TE}{pos:Pos}
theorem w6(ha:PE X a ta)(hb:PE X b tb){pins:List (Addr × Obj)}{s:Shared}{σ : St}{H:Hp}{R:V→V→Hp→Prop}(I:Inv X pins σ H s)
  (h:ta σ H fun x H1=>tb σ H1 fun y H2=>R x y H2) {Q:Value→Shared→Prop} {f:Value→Value→Sem Value}
  (hf:∀ v u s2 x y H2,Inv X pins σ H2 s2→RelV x v→RelV y u→R x y H2→wpAny (model X.prog X.w) X.A (f v u) Q X.xe s2) :
  wpAny (model X.prog X.w) X.A (eval a X.env) (fun v s₁=>wpAny (model X.prog X.w) X.A (eval b X.env) (fun u s₂=>wpAny (model X.prog X.w) X.A (f v u) Q X.xe s₂) X.xe s₁) X.xe s:=by
 refine bz (ha pins s σ H _ I h) fun v s1 ⟨x,H1,I1,r1,q1⟩=>?_
 refine bz (hb pins s1 σ H1 _ I1 q1) fun u s2 ⟨y,H2,I2,r2,q2⟩=>?_
 exact hf v u s2 x y H2 I2 r1 r2 q2
theorem ap{op:Operator}{r:R2}(ho:OpR X (binaryOp op) r)(ha:PE X a ta)(hb:PE X b tb):PE X (.BinOp a op b pos) (uK r ta tb):=by
 intro pins s σ H Q I h
 exact wpAny_BinOp (w6 ha hb I h fun v u s2 x y H2 I2 rx ry q=>ho pins s2 σ H2 x y v u Q I2 rx ry q)
theorem jB{op:UnaryOp}{r:V→Hp→VK→Prop}(ho:UnR X (unaryOp op) r)(ha:PE X a ta):PE X (.UnaryOp op a pos) (Cf r ta):=by
 intro pins s σ H Q I h
 exact UnaryOp_ (bz (ha pins s σ H _ I h) fun v s1 ⟨x,H1,I1,r1,q1⟩=>ho pins s1 σ H1 x v Q I1 r1 q1)
theorem yt{f:Value→Value→Sem Value}{C:Int→Int→Prop}{g:Int→Int→Int}
  (rule:∀ (i j:Int) (t u:Tok) (s:Shared) (Q:Value→Shared→Prop) (E:Value→Shared→Prop),C i j→Q (.int (g i j) s.toks) { s with toks:=s.toks+1 }→wpAny (model X.prog X.w) X.A (f (.int i t) (.int j u)) Q E s) :
  OpR X f (rI C fun i j=>.int (g i j)):=by
 intro pins s σ H x y v u Q I rx ry h
 obtain⟨i,j,rfl,rfl,hc,q⟩:=h
 obtain⟨t,rfl⟩:=rx
 obtain⟨t',rfl⟩:=ry
 exact rule i j t t' s _ _ hc ⟨.int (g i j),H,I.tok _,⟨_,rfl⟩,q⟩
theorem AK{f:Value→Value→Sem Value}{g:Int→Int→Int}
  (rule:∀ (i j:Int) (t u:Tok) (s:Shared) (Q:Value→Shared→Prop) (E:Value→Shared→Prop),Q (.int (g i j) s.toks) { s with toks:=s.toks+1 }→wpAny (model X.prog X.w) X.A (f (.int i t) (.int j u)) Q E s) :
  OpR X f (mr fun i j=>.int (g i j)):=by
 intro pins s σ H x y v u Q I rx ry h
 obtain⟨i,j,rfl,rfl,q⟩:=h
 obtain⟨t,rfl⟩:=rx
 obtain⟨t',rfl⟩:=ry
 exact rule i j t t' s _ _ ⟨.int (g i j),H,I.tok _,⟨_,rfl⟩,q⟩
theorem xF{f:Value→Value→Sem Value}{g:Int→Int→Bool}
  (rule:∀ (i j:Int) (t u:Tok) (s:Shared) (Q:Value→Shared→Prop) (E:Value→Shared→Prop),Q (.bool (g i j)) s→wpAny (model X.prog X.w) X.A (f (.int i t) (.int j u)) Q E s) :
  OpR X f (mr fun i j=>.bl (g i j)):=by
 intro pins s σ H x y v u Q I rx ry h
 obtain⟨i,j,rfl,rfl,q⟩:=h
 obtain⟨t,rfl⟩:=rx
 obtain⟨t',rfl⟩:=ry
 exact rule i j t t' s _ _ ⟨.bl (g i j),H,I,rfl,q⟩
def EW(i j:Int):Prop:=0<j∧j<1073741824
def C4(i j:Int):Prop:=0≤j∧j≤1000000∧i.natAbs<2 ^ 64
def CMul(i j:Int):Prop:=(-(2 ^ 64)<i∧i<2 ^ 64)∨(-(2 ^ 64)<j∧j<2 ^ 64)
theorem CMul.ok{i j:Int}(h:CMul i j):IntMulOk i j:=by
 rcases h with ⟨h1,h2⟩ | ⟨h1,h2⟩
 ·exact .of_left (intBits_le_64 h1 h2)
 ·exact .of_right (intBits_le_64 h1 h2)
theorem Bj:OpR X (binaryOp .Add) (mr fun i j=>.int (i+j)):=AK fun _ _ _ _ _ _ _ q=>add_int q
theorem ij:OpR X (binaryOp .Sub) (mr fun i j=>.int (i - j)):=AK fun _ _ _ _ _ _ _ q=>sub_int q
theorem zJ:OpR X (binaryOp .Mult) (rI CMul fun i j=>.int (i * j)):=yt fun _ _ _ _ _ _ _ hc q=>mul_int q hc.ok
theorem gs:OpR X (binaryOp .FloorDiv) (rI EW fun i j=>.int (i / j)):=yt fun i j _ _ _ _ _ hc q=>by
 have h1:(0:Int)<j:=hc.1
 have h2:j<1073741824:=hc.2
 exact floordiv_int (by omega) (by rw[Int.fdiv_eq_ediv_of_nonneg i (by omega)]; exact q) (.inl (PyProof.noPylong_small (by omega)))
theorem ck:OpR X (binaryOp .Mod) (rI (fun _ j=>0<j) fun i j=>.int (i % j)):=yt fun i j _ _ _ _ _ hc q=>by
 have h1:(0:Int)<j:=hc
 exact mod_int' (by omega) (by rw[Int.fmod_eq_emod_of_nonneg i (by omega)]; exact q)
theorem vc:OpR X (binaryOp .Pow) (rI C4 fun i j=>.int (i ^ j.toNat)):=yt fun _ _ _ _ _ _ _ hc q=>pow_int_small hc.1 hc.2.1 hc.2.2 q
theorem FO{f:Value→Sem Value}{g:Int→Int}
  (rule:∀ (i:Int) (t:Tok) (s:Shared) (Q:Value→Shared→Prop) (E:Value→Shared→Prop),Q (.int (g i) s.toks) { s with toks:=s.toks+1 }→wpAny (model X.prog X.w) X.A (f (.int i t)) Q E s) :
  UnR X f (rU fun i=>.int (g i)):=by
 intro pins s σ H x v Q I rx h
 obtain⟨i,rfl,q⟩:=h
 obtain⟨t,rfl⟩:=rx
 exact rule i t s _ _ ⟨.int (g i),H,I.tok _,⟨_,rfl⟩,q⟩
theorem hZ:UnR X (unaryOp .USub) (rU fun i=>.int (-i)):=FO fun _ _ _ _ _ q=>neg_int q
end
def j9:V→V→Bool
 | .non,.non=>true | .non,.int _=>true | .int _,.non=>true | .non,.bl _=>true | .bl _,.non=>true | .non,.str _=>true | .str _,.non=>true
 | .int _,.int _=>true | .bl _,.bl _=>true | .str _,.str _=>true | .byt _,.byt _=>true
 | .int _,.str _=>true | .str _,.int _=>true | .bl _,.str _=>true | .str _,.bl _=>true
 | _,_=>false
def Cg:R2:=fun x y H Q=>j9 x y=true∧Q (.bl (decide (x=y))) H
def Cp:R2:=fun x y H Q=>j9 x y=true∧Q (.bl (!decide (x=y))) H
theorem ra{i j:Int}:decide (V.int i=V.int j)=(i == j):=by
 rw[Bool.eq_iff_iff]
 simp
theorem ow{i j:Bool}:decide (V.bl i=V.bl j)=(i == j):=by
 rw[Bool.eq_iff_iff]
 simp
theorem qI{i j:Str}:decide (V.str i=V.str j)=(i == j):=by
 rw[Bool.eq_iff_iff]
 simp
theorem q_{i j:Array UInt8}:decide (V.byt i=V.byt j)=(i.toList == j.toList):=by
 rw[Bool.eq_iff_iff]
 cases i
 cases j
 simp
section
variable{X:Cx}{a b c:Expr}{ta tb tc:TE}{pos:Pos}
theorem bM{pins:List (Addr × Obj)}{σ : St}{H:Hp}{s:Shared}{Q:VK}{k k':Bool}(I:Inv X pins σ H s)(q:Q (.bl k) H)(e:k=k'):EP X pins σ Q (.bool k') s:=by
 subst e
 exact⟨.bl k,H,I,rfl,q⟩
theorem B6:OpR X (compareOp .Eq) Cg:=by
 intro pins s σ H x y v u Q I rx ry h
 obtain⟨hs,q⟩:=h
 cases x with
 | non=>
  cases rx
  cases y with
  | non=>cases ry; exact PySem.EqNone.eq_none_none (bM I q (by simp))
  | bl j=>cases ry; exact PySem.EqNone.eq_none_bool (bM I q (by simp))
  | int j=>obtain⟨t',rfl⟩:=ry; exact PySem.EqNone.eq_none_int (bM I q (by simp))
  | str j=>obtain⟨t',rfl⟩:=ry; exact PySem.EqNone.eq_none_str (bM I q (by simp))
  | _=>exact absurd (show false=true from hs) Bool.false_ne_true
 | bl i=>
  cases rx
  cases y with
  | non=>cases ry; exact PySem.EqNone.eq_bool_none (bM I q (by simp))
  | bl j=>cases ry; exact eq_bool (bM I q ow)
  | str j=>obtain⟨t',rfl⟩:=ry; exact PySem.EqMixed.eq_bool_str (bM I q (by simp))
  | _=>exact absurd (show false=true from hs) Bool.false_ne_true
 | int i=>
  obtain⟨t,rfl⟩:=rx
  cases y with
  | non=>cases ry; exact PySem.EqNone.eq_int_none (bM I q (by simp))
  | int j=>obtain⟨t',rfl⟩:=ry; exact eq_int (bM I q ra)
  | str j=>obtain⟨t',rfl⟩:=ry; exact PySem.EqMixed.eq_int_str (bM I q (by simp))
  | _=>exact absurd (show false=true from hs) Bool.false_ne_true
 | str i=>
  obtain⟨t,rfl⟩:=rx
  cases y with
  | non=>cases ry; exact PySem.EqNone.eq_str_none (bM I q (by simp))
  | bl j=>cases ry; exact PySem.EqMixed.eq_str_bool (bM I q (by simp))
  | int j=>obtain⟨t',rfl⟩:=ry; exact PySem.EqMixed.eq_str_int (bM I q (by simp))
  | str j=>obtain⟨t',rfl⟩:=ry; exact eq_str (bM I q qI)
  | _=>exact absurd (show false=true from hs) Bool.false_ne_true
 | byt i=>
  obtain⟨t,rfl⟩:=rx
  cases y with
  | byt j=>obtain⟨t',rfl⟩:=ry; exact PySem.W.eq_bytes (bM I q q_)
  | _=>exact absurd (show false=true from hs) Bool.false_ne_true
 | _=>cases y <;> exact absurd (show false=true from hs) Bool.false_ne_true
theorem BN:OpR X (compareOp .NotEq) Cp:=by
 intro pins s σ H x y v u Q I rx ry h
 obtain⟨hs,q⟩:=h
 cases x with
 | non=>
  cases rx
  cases y with
  | non=>cases ry; exact PySem.EqNone.ne_none_none (bM I q (by simp))
  | bl j=>cases ry; exact PySem.EqNone.ne_none_bool (bM I q (by simp))
  | int j=>obtain⟨t',rfl⟩:=ry; exact PySem.EqNone.ne_none_int (bM I q (by simp))
  | str j=>obtain⟨t',rfl⟩:=ry; exact PySem.EqNone.ne_none_str (bM I q (by simp))
  | _=>exact absurd (show false=true from hs) Bool.false_ne_true
 | bl i=>
  cases rx
  cases y with
  | non=>cases ry; exact PySem.EqNone.ne_bool_none (bM I q (by simp))
  | bl j=>cases ry; exact ne_bool (bM I q (congrArg not ow))
  | str j=>obtain⟨t',rfl⟩:=ry; exact PySem.EqMixed.ne_bool_str (bM I q (by simp))
  | _=>exact absurd (show false=true from hs) Bool.false_ne_true
 | int i=>
  obtain⟨t,rfl⟩:=rx
  cases y with
  | non=>cases ry; exact PySem.EqNone.ne_int_none (bM I q (by simp))
  | int j=>obtain⟨t',rfl⟩:=ry; exact ne_int (bM I q (congrArg not ra))
  | str j=>obtain⟨t',rfl⟩:=ry; exact PySem.EqMixed.ne_int_str (bM I q (by simp))
  | _=>exact absurd (show false=true from hs) Bool.false_ne_true
 | str i=>
  obtain⟨t,rfl⟩:=rx
  cases y with
  | non=>cases ry; exact PySem.EqNone.ne_str_none (bM I q (by simp))
  | bl j=>cases ry; exact PySem.EqMixed.ne_str_bool (bM I q (by simp))
  | int j=>obtain⟨t',rfl⟩:=ry; exact PySem.EqMixed.ne_str_int (bM I q (by simp))
  | str j=>obtain⟨t',rfl⟩:=ry; exact ne_str (bM I q (congrArg not qI))
  | _=>exact absurd (show false=true from hs) Bool.false_ne_true
 | byt i=>
  obtain⟨t,rfl⟩:=rx
  cases y with
  | byt j=>obtain⟨t',rfl⟩:=ry; exact PySem.W.ne_bytes (bM I q (congrArg not q_))
  | _=>exact absurd (show false=true from hs) Bool.false_ne_true
 | _=>cases y <;> exact absurd (show false=true from hs) Bool.false_ne_true
theorem BM:OpR X (compareOp .Lt) (mr fun i j=>.bl (decide (i<j))):=xF fun _ _ _ _ _ _ _ q=>lt_int q
theorem yQ:OpR X (compareOp .LtE) (mr fun i j=>.bl (decide (i≤j))):=xF fun _ _ _ _ _ _ _ q=>le_int q
theorem lj:OpR X (compareOp .Gt) (mr fun i j=>.bl (decide (j<i))):=xF fun _ _ _ _ _ _ _ q=>gt_int q
theorem uI:OpR X (compareOp .Lt) (fun x y H Q=>∃ i j,x = .str i∧y = .str j∧Q (.bl (decide (i.cps.toList<j.cps.toList))) H):=by
 intro pins s σ H x y v u Q I rx ry h
 obtain⟨i,j,rfl,rfl,q⟩:=h
 obtain⟨t,rfl⟩:=rx
 obtain⟨t',rfl⟩:=ry
 exact lt_str (bM I q rfl)
theorem vY:OpR X (compareOp .In) (fun x y H Q=>∃ i j,x = .str i∧y = .str j∧Q (.bl (!(Builtin.Str.occurrences j i 0 j.length 1).isEmpty)) H):=by
 intro pins s σ H x y v u Q I rx ry h
 obtain⟨i,j,rfl,rfl,q⟩:=h
 obtain⟨t,rfl⟩:=rx
 obtain⟨t',rfl⟩:=ry
 exact in_str (bM I q rfl)
theorem aL(b:Expr){op:CmpOp}(h:op ≠ .In:=by decide)(h2:op ≠ .NotIn:=by decide):behindInMarks op b=false:=by
 have e1:(op == CmpOp.In)=false:=by cases op <;> first | rfl | exact absurd rfl h
 have e2:(op == CmpOp.NotIn)=false:=by cases op <;> first | rfl | exact absurd rfl h2
 cases b <;> simp[behindInMarks,e1,e2]
theorem sj{op:CmpOp}{r:R2}(ho:OpR X (compareOp op) r)(ha:PE X a ta)(hb:PE X b tb)(hm:behindInMarks op b=false):PE X (.Compare a [op] [b] pos) (uK r ta tb):=by
 intro pins s σ H Q I h
 exact wpAny_Compare1 (w6 ha hb I h fun v u s2 x y H2 I2 rx ry q=>ho pins s2 σ H2 x y v u Q I2 rx ry q) hm
def sJ(t:TE):TT:=fun σ H Q=>t σ H fun x H'=>∃ k,x = .bl k∧Q k H'
theorem aD{op:CmpOp}{r:R2}(ho:OpR X (compareOp op) r)(ha:PE X a ta)(hb:PE X b tb)(hm:behindInMarks op b=false):PT X (.Compare a [op] [b] pos) (sJ (uK r ta tb)):=by
 intro pins s σ H Q I h
 refine wpAny_isTrue_Compare1 (bz (ha pins s σ H _ I h) fun v s1 ⟨x,H1,I1,r1,q1⟩=>bz (hb pins s1 σ H1 _ I1 q1) fun u s2 ⟨y,H2,I2,r2,q2⟩=>
  bz (ho pins s2 σ H2 x y v u _ I2 r1 r2 q2) fun c s3 ⟨z,H3,I3,r3,k,e,q3⟩=>?_) hm
 subst e
 cases r3
 exact wpAny_truthy_bool ⟨H3,I3,q3⟩
def uT(r r':R2)(ta tb tc:TE):TE:=fun σ H Q=>ta σ H fun x H1=>tb σ H1 fun y H2=>r x y H2 fun z H3=>∃ k,z = .bl k∧
 (if k=true then tc σ H3 fun w' H4=>r' y w' H4 Q else Q (.bl false) H3)
theorem wm{op op':CmpOp}{r r':R2}(ho:OpR X (compareOp op) r)(ho':OpR X (compareOp op') r')(ha:PE X a ta)(hb:PE X b tb)(hc:PE X c tc)
  (hm:lastMarks [op,op'] [b,c]=false:=by with_unfolding_all rfl):PT X (.Compare a [op,op'] [b,c] pos) (sJ (uT r r' ta tb tc)):=by
 intro pins s σ H Q I h
 refine isTrue_chain (bz (ha pins s σ H _ I h) fun v s1 ⟨x,H1,I1,r1,q1⟩=>test_link (bz (hb pins s1 σ H1 _ I1 q1) fun u s2 ⟨y,H2,I2,r2,q2⟩=>
  bz (ho pins s2 σ H2 x y v u _ I2 r1 r2 q2) fun d s3 ⟨z,H3,I3,r3,k,e,q3⟩=>?_)) hm
 subst e
 cases r3
 refine wpAny_truthy_bool ?_
 cases k with
 | false=>
  obtain⟨k',e',q'⟩:=q3
  cases e'
  exact ite_ff ⟨H3,I3,q'⟩
 | true=>
  refine ite_tt (test_last (bz (hc pins s3 σ H3 _ I3 q3) fun w' s4 ⟨z',H4,I4,r4,q4⟩=>bz (ho' pins s4 σ H4 y z' u w' _ I4 r2 r4 q4) fun d' s5 ⟨z2,H5,I5,r5,k2,e2,q5⟩=>?_))
  subst e2
  cases r5
  exact wpAny_truthy_bool ⟨H5,I5,q5⟩
theorem jr:(sizeLine:Nat)<2 ^ 63:=by rw[sizeLine_eq]; decide
theorem sZ:OpR X (binaryOp .Add) (fun x y H Q=>∃ i j,x = .str i∧y = .str j∧i.length+j.length≤sizeLine∧Q (.str (i++j)) H):=by
 intro pins s σ H x y v u Q I rx ry h
 obtain⟨i,j,rfl,rfl,hz,q⟩:=h
 obtain⟨t,rfl⟩:=rx
 obtain⟨t',rfl⟩:=ry
 exact add_str (fun t' tk=>⟨.str (i++j),H,I.tok _,⟨_,rfl⟩,q⟩) hz
theorem dz{x:V}{us:List Value}(r:Vals [x] us):∃ u,us=[u]∧RelV x u:=by
 cases r with
 | cons r1 r2=>cases r2; exact⟨_,rfl,r1⟩
theorem kT{x y:V}{us:List Value}(r:Vals [x,y] us):∃ u w',us=[u,w']∧RelV x u∧RelV y w':=by
 cases r with
 | cons r1 r2=>
  cases r2 with
  | cons r3 r4=>cases r4; exact⟨_,_,rfl,r1,r3⟩
theorem vL:CallR X (.type "int") (fun xs H Q=>(∃ i,xs=[.int i]∧Q (.int i) H)∨∃ k,xs=[.bl k]∧Q (.int (if k then 1 else 0)) H):=by
 intro pins s σ H xs us Q I r h
 rcases h with ⟨i,rfl,q⟩ | ⟨k,rfl,q⟩
 ·obtain⟨u,rfl,t,rfl⟩:=dz r
  exact call_int_int ⟨.int i,H,I,⟨_,rfl⟩,q⟩
 ·obtain⟨u,rfl,r1⟩:=dz r
  cases r1
  exact call_int_bool ⟨.int (if k then 1 else 0),H,I.tok _,⟨_,rfl⟩,q⟩
theorem i0:CallR X (.type "str") (fun xs H Q=>∃ i,xs=[.int i]∧i.natAbs.log2<1920∧Q (.str (toString i)) H):=by
 intro pins s σ H xs us Q I r h
 obtain⟨i,rfl,hz,q⟩:=h
 obtain⟨u,rfl,t,rfl⟩:=dz r
 exact PySem.P.str_of_int hz ⟨.str _,H,I.tok _,⟨_,rfl⟩,q⟩
end
end L2
namespace L2
open PySem PySem.Spec PyProof.Rows
structure ObjM (h:Heap) (x dx C:Addr) (mA:Str→Option Value):Prop where
 obj:h.get? x=some (PySem.W.instObj C dx)
 ns:h.Ns1 dx mA
 ne:dx≠x
theorem vn{h:Heap}{dx:Addr}{mA:Str→Option Value}(n:h.Ns1 dx mA):∃ od,h.get? dx=some od∧∀ name,PySem.W.lookIn name od=some (mA name):=by
 obtain⟨o,es,ep,ho,hd,hk,_,hm⟩:=n
 refine⟨o,ho,fun name=>?_⟩
 have e:=hm name
 unfold nsFind findBy at e
 rw[← Array.find?_toList]at e
 unfold PySem.W.lookIn
 rw[hd]
 dsimp only
 split
 ·rename_i y q
  rw[q]at e
  exact congrArg some e
 ·rename_i q
  rw[q]at e
  have a:es.toList.any (·.refKey)=false:=by
   rw[List.any_eq_false]
   intro y hy
   obtain⟨z,t,hkey⟩:=hk y (Array.mem_toList_iff.mp hy)
   simp[DictEntry.refKey,hkey]
  have a':¬ es.toList.any (·.refKey)=true:=by rw[a]; exact Bool.false_ne_true
  rw[if_neg a']
  exact congrArg some e
theorem ObjM.look{h:Heap}{x dx C:Addr}{mA:Str→Option Value}(I:ObjM h x dx C mA):∃ od,PySem.W.InstAt h x (PySem.W.instObj C dx) C (some od)∧∀ name,PySem.W.lookIn name od=some (mA name):=
 let ⟨od,ho,hl⟩:=vn I.ns
 ⟨od,⟨I.obj,rfl,rfl,ho⟩,hl⟩
section
variable{prog:Program}{w:World}{A:Around}{E:Value→Shared→Prop}{s:Shared}{K:PySem.W.Frag}{x dx C f:Addr}{mA:Str→Option Value}{name:Str}{v:Value}
theorem yT{expr:Bool}{Q:Value→Shared→Prop}(X:K.In s.heap)(I:ObjM s.heap x dx C mA)(hg:PySem.W.plainGet K C name=true)(hh:PySem.W.hasDictIn K C=true)
  (ha:PySem.W.findIn K (.ref C) name=some none) (hv:mA name=some v) (hv':PySem.W.handedIn v=true) (h:Q v { s with toks:=s.toks+1 }) :
  wpAny (model prog w) A (getAttr (.ref x) name expr) Q E s:=by
 obtain⟨od,J,hl⟩:=I.look
 exact PySem.W.get_value X J (PySem.W.plainGet_of hg).1 (PySem.W.findObj_own hh ha rfl (by rw[hl,hv])) hv' h
theorem zm{ns:List Str}{Q:Unit→Shared→Prop}(X:K.In s.heap)(I:ObjM s.heap x dx C mA)
  (hs:PySem.W.findIn K (.ref C) "__setattr__" = some (some (.builtin "object.__setattr__"))) (hp:PySem.W.plainOver K C=true) (ht:PySem.W.takerIn K C name=some none) (hh:PySem.W.hasDictIn K C=true)
  (hw:PySem.Within mA ns) (hsz:ns.length≤sizeLine)
  (h:∀ h',ObjM h' x dx C (fun y=>if y=name then some v else mA y)→Heap.SameBut dx s.heap h'→Q () { s with heap:=h',toks:=s.toks+2 }) :
  wpAny (model prog w) A (setAttr (.ref x) name v) Q E s:=by
 obtain⟨od,J,hl⟩:=I.look
 refine PySem.W.set_plain X J hs (PySem.W.osa_open (s:={ s with toks:=s.toks+1 }) (r:=none) X J hp ht fun b=>?_)
 obtain⟨cd,hc,hd'⟩:=PySem.W.any_some hh
 have hx:s.heap.get? x=some ⟨.ref C,some dx,.plain,#[]⟩:=I.obj
 refine wpAny_bind (wpAny_pure (wpAny_bind (wpAny_bind (wpAny_loadPart hx (wpAny_bind (PySem.W.Looks.here (s:={ s with toks:=s.toks+1 }) (PySem.W.looks_clsIn X hc) ?_))))))
 rw[hd']
 refine wpAny_pure (a:=some dx) (wpAny_bind (wpAny_pure (wpAny_bind ?_)))
 refine wpAny_nsSet1 (s:={ s with toks:=s.toks+1 }) I.ns fun h' hn2 hs2=>?_
 obtain⟨oD,esD,epD,hoD,hdD,hcD⟩:=hn2.count (PySem.Within.cons name v hw)
 refine wpAny_bind (wpAny_lookBehind hoD (by rw[hdD]; exact pastItsLine_dict (Nat.le_trans hcD (by rw[List.length_cons]; omega))) ?_)
 exact wpAny_pure (h _ ⟨(hs2.2 _ (Ne.symm I.ne)).trans I.obj,hn2,I.ne⟩ hs2)
theorem xA{R:Result→Shared→Prop}{vs:List Value}{kw:List (Str × Value)}(X:K.In s.heap)(hm:PySem.W.makesIn K C=true)
  (hi:PySem.W.findIn K (.ref C) "__init__" = some (some (.ref f))) (hf:PySem.W.typeIn K (.ref f)=some (.type "function"))
  (h:codeAny (model prog w) (A.under (.builtin "type.__call__" ⟨.ref C::vs,kw⟩)) (.call (.ref f) ⟨.ref (s.heap.objs.size+1)::vs,kw⟩) (PySem.W.InitBack (s.heap.objs.size+1) R)
   { s with heap:=(s.heap.push PySem.W.emptyDict).push (PySem.W.instObj C s.heap.objs.size) }) :
  codeAny (model prog w) A (.call (.ref C) ⟨vs,kw⟩) R s:=by
 obtain⟨hh,g,d,t,os⟩:=s
 exact PySem.W.make_core (PySem.W.makes_of X hm) (PySem.W.looks_findIn X hi) (fun self=>PySem.W.bind_fn X self hf) (.inl rfl) h
end
def dE(f:Str)(v:V):List (Str × V)→List (Str × V)
 | []=>[(f,v)]
 | (g,x)::r=>if g=f then (g,v)::r else (g,x)::dE f v r
theorem jU(f g:Str)(v:V):∀ fs:List (Str × V),(dE f v fs).lookup g=if g=f then some v else fs.lookup g
 | []=>by
  show List.lookup g [(f,v)]=_
  by_cases h:g=f
  ·have hb:(g == f)=true:=beq_iff_eq.mpr h
   simp only[List.lookup,hb,if_pos h]
  ·have hb:(g == f)=false:=beq_eq_false_iff_ne.mpr h
   simp only[List.lookup,hb,if_neg h]
 | (k,x)::r=>by
  have ih:=jU f g v r
  rw[show dE f v ((k,x)::r)=(if k=f then (k,v)::r else (k,x)::dE f v r) from rfl]
  by_cases hk:k=f
  ·rw[if_pos hk]
   by_cases h:g=k
   ·have hb:(g == k)=true:=beq_iff_eq.mpr h
    simp only[List.lookup,hb,if_pos (h.trans hk)]
   ·have hb:(g == k)=false:=beq_eq_false_iff_ne.mpr h
    simp only[List.lookup,hb,if_neg (fun e:g=f=>h (e.trans hk.symm))]
  ·rw[if_neg hk]
   by_cases h:g=k
   ·have hb:(g == k)=true:=beq_iff_eq.mpr h
    simp only[List.lookup,hb,if_neg (fun e:g=f=>hk (h.symm.trans e))]
   ·have hb:(g == k)=false:=beq_eq_false_iff_ne.mpr h
    simp only[List.lookup,hb]
    exact ih
theorem jd(f:Str)(v:V):∀ fs:List (Str × V),f∈(dE f v fs).map (·.1)∧∀ g,g∈fs.map (·.1)→g∈(dE f v fs).map (·.1)
 | []=>⟨by simp[dE],fun g h=>by simp at h⟩
 | (k,x)::r=>by
  obtain⟨i1,i2⟩:=jd f v r
  rw[show dE f v ((k,x)::r)=(if k=f then (k,v)::r else (k,x)::dE f v r) from rfl]
  by_cases hk:k=f
  ·rw[if_pos hk]
   subst hk
   exact⟨by simp,fun g h=>by simpa using h⟩
  ·rw[if_neg hk]
   refine⟨?_,fun g h=>?_⟩
   ·rw[List.map_cons]
    exact List.mem_cons_of_mem _ i1
   ·rw[List.map_cons]at h ⊢
    rcases List.mem_cons.mp h with e | e
    ·exact List.mem_cons.mpr (.inl e)
    ·exact List.mem_cons_of_mem _ (i2 g e)
theorem jK(f:Str)(v:V):∀ fs:List (Str × V),(dE f v fs).length≤fs.length+1
 | []=>by simp[dE]
 | (k,x)::r=>by
  have ih:=jK f v r
  rw[show dE f v ((k,x)::r)=(if k=f then (k,v)::r else (k,x)::dE f v r) from rfl]
  by_cases hk:k=f
  ·rw[if_pos hk,List.length_cons,List.length_cons]; omega
  ·rw[if_neg hk,List.length_cons,List.length_cons]; omega
theorem RelO.some_of{v:V}{o:Option Value}(r:RelO (some v) o):∃ u,o=some u∧RelV v u:=by
 cases o with
 | none=>exact(show False from r).elim
 | some u=>exact⟨u,rfl,r⟩
theorem uv{v:V}{u:Value}(r:RelV v u):PySem.W.handedIn u=true:=by
 cases v with
 | non=>cases (show u=Value.none from r); rfl
 | bl b=>cases (show u=Value.bool b from r); rfl
 | int i=>obtain⟨t,e⟩:=(show ∃ t,u=Value.int i t from r); cases e; rfl
 | str x=>obtain⟨t,e⟩:=(show ∃ t,u=Value.str x t from r); cases e; rfl
 | byt b=>obtain⟨t,e⟩:=(show ∃ t,u=Value.bytes b t from r); cases e; rfl
 | flt b=>obtain⟨t,e⟩:=(show ∃ t,u=Value.float b t from r); cases e; rfl
 | ref a=>cases (show u=Value.ref a from r); rfl
 | ty n=>cases (show u=Value.type n from r); rfl
section
variable{P:Program}{w:World}{H H':Hp}{h h':Heap}{a C dx:Addr}{fs fs':List (Str × V)}
theorem l_(hok:HOk P w H h)(e:H a=some (.ins C dx fs)):∃ mA,ObjM h a dx C mA∧(∀ f,RelO (fs.lookup f) (mA f))∧PySem.Within mA (fs.map (·.1))∧fs.length≤1000∧H dx=some (.own a):=by
 obtain⟨d,z,ne,ob,mA,n,r,q⟩:=(show ObjOk P w H h a (.ins C dx fs) from hok a _ e)
 exact⟨mA,⟨ob,n,ne⟩,r,q,z,d⟩
end
structure Cls (K:PySem.W.Frag) (C:Addr):Prop where
 pg:PySem.W.plainGet K C Str.empty=true
 hd:PySem.W.hasDictIn K C=true
 po:PySem.W.plainOver K C=true
 sa:PySem.W.findIn K (.ref C) "__setattr__" = some (some (.builtin "object.__setattr__"))
theorem Cls.get{K:PySem.W.Frag}{C:Addr}(c:Cls K C)(f:Str):PySem.W.plainGet K C f=true:=c.pg
def NoAttr(K:PySem.W.Frag)(C:Addr)(f:Str):Prop:=PySem.W.findIn K (.ref C) f=some none
theorem NoAttr.taker{K:PySem.W.Frag}{C:Addr}{f:Str}(n:NoAttr K C f):PySem.W.takerIn K C f=some none:=by
 unfold PySem.W.takerIn
 rw[show PySem.W.findIn K (.ref C) f=some none from n]
 rfl
section
variable{X:Cx}{pins:List (Addr × Obj)}{σ : St}{H:Hp}{s:Shared}{a C dx:Addr}{fs:List (Str × V)}{f:Str}{v:V}{A:Around}{E:Value→Shared→Prop}
theorem tL{b:Bool}{Q:Value→Shared→Prop}(I:Inv X pins σ H s)(e:H a=some (.ins C dx fs))(c:Cls X.K C)(n:NoAttr X.K C f)(l:fs.lookup f=some v)
  (h:∀ u s',Inv X pins σ H s'→RelV v u→Q u s'):wpAny (model X.prog X.w) A (getAttr (.ref a) f b) Q E s:=by
 obtain⟨mA,O,r,_,_,_⟩:=l_ I.hok e
 obtain⟨u,hu,ru⟩:=RelO.some_of (v:=v) (o:=mA f) (by rw[← l]; exact r f)
 exact yT I.kIn O (c.get f) c.hd n hu (uv ru) (h u _ (I.tok _) ru)
theorem tJ{y:V}{u:Value}{Q:Unit→Shared→Prop}(I:Inv X pins σ H s)(e:H a=some (.ins C dx fs))(c:Cls X.K C)(n:NoAttr X.K C f)(hl:fs.length<1000)(ry:RelV y u)
  (h:∀ s',Inv X pins σ (upd H a (.ins C dx (dE f y fs))) s'→Q () s'):wpAny (model X.prog X.w) A (setAttr (.ref a) f u) Q E s:=by
 obtain⟨mA,O,r,wi,_,ho⟩:=l_ I.hok e
 have hz:(fs.map (·.1)).length≤sizeLine:=by rw[List.length_map,sizeLine_eq]; omega
 refine zm I.kIn O c.sa c.po n.taker c.hd wi hz fun h' O' sb=>h _ ?_
 have hd:∃ o,h'.get? dx=some o:=let ⟨o,_,_,e',_⟩:=O'.ns; ⟨o,e'⟩
 refine I.write (x:=a) (e:=dx) (by rw[e]; exact True.intro) (.inr ho) (fun b q hb z=>(sb.2 b hb).trans z) hd ?_
 refine⟨by rw[ah O.ne]; exact ho,?_,O.ne,O'.obj,_,O'.ns,fun g=>?_,fun g hg=>?_⟩
 ·have:=jK f y fs; omega
 ·show RelO ((dE f y fs).lookup g) (if g=f then some u else mA g)
  rw[jU]
  by_cases q:g=f
  ·rw[if_pos q,if_pos q]; exact ry
  ·rw[if_neg q,if_neg q]; exact r g
 ·by_cases q:g=f
  ·rw[q]; exact(jd f y fs).1
  ·refine(jd f y fs).2 g (wi g fun z=>hg ?_)
   show (if g=f then some u else mA g)=none
   rw[if_neg q]; exact z
theorem Inv.made(I:Inv X pins σ H s):Inv X pins σ (upd (upd H s.heap.objs.size (.own (s.heap.objs.size+1))) (s.heap.objs.size+1) (.ins C s.heap.objs.size []))
  { s with heap:=(s.heap.push PySem.W.emptyDict).push (PySem.W.instObj C s.heap.objs.size) }:=by
 have e1:(s.heap.push PySem.W.emptyDict).get? s.heap.objs.size=some PySem.W.emptyDict:=Heap.get?_push_size s.heap rfl
 have e2:((s.heap.push PySem.W.emptyDict).push (PySem.W.instObj C s.heap.objs.size)).get? (s.heap.objs.size+1)=some (PySem.W.instObj C s.heap.objs.size):=by
  have:=Heap.get?_push_size (s.heap.push PySem.W.emptyDict) (o:=PySem.W.instObj C s.heap.objs.size) rfl
  rwa [Heap.size_push]at this
 have e3:(s.heap.push PySem.W.emptyDict).Ns s.heap.objs.size (fun _=>none):=⟨PySem.W.emptyDict,#[],_,e1,rfl,(fun e he=>absurd he (by simp)),fun _=>rfl⟩
 have I1:=I.laid (a:=s.heap.objs.size) (o:=.own (s.heap.objs.size+1)) (h':=s.heap.push PySem.W.emptyDict) (t':=s.toks) (fun b u q=>Heap.get?_push_of_some _ q) (Nat.le_refl _) ⟨_,e1⟩
 refine I1.laid (a:=s.heap.objs.size+1) (o:=.ins C s.heap.objs.size []) (t':=s.toks) (fun b u q=>Heap.get?_push_of_some _ q) (Nat.le_of_eq (Heap.size_push _ _)) ?_
 have ne:s.heap.objs.size≠s.heap.objs.size+1:=Nat.ne_of_lt (Nat.lt_succ_self _)
 refine⟨by rw[ah ne,ac],Nat.zero_le _,ne,e2,fun _=>none,(Heap.Ns1.of_empty e3).at fun o q=>Heap.get?_push_of_some _ q,fun _=>True.intro,fun y hy=>absurd rfl hy⟩
theorem zb{prog:Program}{w:World}{env:Env}{e:Expr}{f:Str}{pos:Pos}{s:Shared}{Q:Value→Shared→Prop}(hb:attributeBase e f env (eval e env)=eval e env)
  (h:wpAny (model prog w) A (eval e env) (fun o s₁=>wpAny (model prog w) A (getAttr o f true) Q E s₁) E s):wpAny (model prog w) A (eval (.Attribute e f pos) env) Q E s:=
 Attribute_any_ h (by rw[arm_eval_Attribute,hb])
end
section
variable{X:Cx}{o e value:Expr}{f:Str}{pos pos' tpos:Pos}{ta tv:TE}
end
section
variable{X:Cx}{pins:List (Addr × Obj)}{σ : St}{H:Hp}{s:Shared}{A:Around}{E:Value→Shared→Prop}{Q:Value→Shared→Prop}{c:Value}{b:Bool}
inductive fO (K:PySem.W.Frag) (H:Hp):V→Value→Prop where
 | non:fO K H .non (.type "NoneType")
 | bl (x:Bool):fO K H (.bl x) (.type "bool")
 | int (i:Int):fO K H (.int i) (.type "int")
 | str (x:Str):fO K H (.str x) (.type "str")
 | flt (x:UInt64):fO K H (.flt x) (.type "float")
 | lst {a:Addr} {xs:List V} (e:H a=some (.lst xs)):fO K H (.ref a) (.type "list")
 | frz {a:Addr} {o:Obj} {xs:List V} (e:H a=some (.frz o (.lst xs))):fO K H (.ref a) (.type "list")
 | tup {a:Addr} {xs:List V} (e:H a=some (.tup xs)):fO K H (.ref a) (.type "tuple")
 | dK {a:Addr} {kvs:List (aB × V)} (e:H a=some (.dK kvs)):fO K H (.ref a) (.type "dict")
 | dT {a:Addr} {kvs:List (List aB × V)} (e:H a=some (.dT kvs)):fO K H (.ref a) (.type "dict")
 | ins {a C dx:Addr} {fs:List (Str × V)} (e:H a=some (.ins C dx fs)) (cl:Cls K C) (ha:PySem.W.findIn K (.ref C) "__class__" = some (some (.builtin "object.__class__")))
   (hn:PySem.W.specialIn K (.builtin "object.__class__") "__get__" = some (some (.builtin "getset_descriptor.__get__"))) (htk:PySem.W.takesIn K (.builtin "object.__class__")=some true)
   (hm:PySem.W.mroIn K C (.type "object")=some true):fO K H (.ref a) (.ref C)
theorem vG{x:V}{u t:Value}(I:Inv X pins σ H s)(rx:RelV x u)(ty:fO X.K H x t)(e:PySem.W.kitOne X.K t c=some b)(h:∀ tk,Q (.bool b) { s with toks:=tk }) :
  wpAny (model X.prog X.w) A (call (.builtin "isinstance") [u,c]) Q E s:=by
 cases ty with
 | non=>cases (show u=Value.none from rx); exact PySem.W.kia_one PySem.W.kitx_none I.kIn True.intro e (fun z=>nomatch z) h
 | bl y=>cases (show u=Value.bool y from rx); exact PySem.W.kia_one PySem.W.kitx_bool I.kIn True.intro e (fun z=>nomatch z) h
 | int i=>obtain⟨t,q⟩:=(show ∃ t,u=Value.int i t from rx); cases q; exact PySem.W.kia_one PySem.W.kitx_int I.kIn True.intro e (fun z=>nomatch z) h
 | str y=>obtain⟨t,q⟩:=(show ∃ t,u=Value.str y t from rx); cases q; exact PySem.W.kia_one PySem.W.kitx_str I.kIn True.intro e (fun z=>nomatch z) h
 | flt y=>obtain⟨t,q⟩:=(show ∃ t,u=Value.float y t from rx); cases q; exact PySem.W.kia_one PySem.W.kitx_float I.kIn True.intro e (fun z=>nomatch z) h
 | @lst a xs ea=>
  cases (show u=Value.ref a from rx)
  obtain⟨_,_,n,_,h1⟩:=(show ObjOk X.prog X.w H s.heap a (.lst xs) from I.hok a _ ea)
  exact PySem.W.kia_one PySem.W.kitx_list I.kIn ⟨_,h1,rfl⟩ e (fun z=>nomatch z) h
 | @frz a ob xs ea=>
  cases (show u=Value.ref a from rx)
  obtain⟨_,_,_,n,_,h1⟩:=(show ObjOk X.prog X.w H s.heap a (.frz ob (.lst xs)) from I.hok a _ ea)
  exact PySem.W.kia_one PySem.W.kitx_list I.kIn ⟨_,h1,rfl⟩ e (fun z=>nomatch z) h
 | @tup a xs ea=>
  cases (show u=Value.ref a from rx)
  obtain⟨_,_,_,p⟩:=(show ObjOk X.prog X.w H s.heap a (.tup xs) from I.hok a _ ea)
  obtain⟨o,h1,h2,_⟩:=p
  exact PySem.W.kia_one PySem.W.kitx_tuple I.kIn ⟨o,h1,h2⟩ e (fun z=>nomatch z) h
 | @dK a kvs ea=>
  cases (show u=Value.ref a from rx)
  obtain⟨_,_,vs,_,p⟩:=(show ObjOk X.prog X.w H s.heap a (.dK kvs) from I.hok a _ ea)
  obtain⟨o,es,ep,h1,h2,_⟩:=p
  exact PySem.W.kia_one PySem.W.kitx_dict I.kIn ⟨o,h1,h2.1⟩ e (fun z=>nomatch z) h
 | @dT a kvs ea=>
  cases (show u=Value.ref a from rx)
  obtain⟨_,_,xs,_,o,es,ep,h1,h2,_⟩:=(show ObjOk X.prog X.w H s.heap a (.dT kvs) from I.hok a _ ea)
  exact PySem.W.kia_one PySem.W.kitx_dict I.kIn ⟨o,h1,h2.1⟩ e (fun z=>nomatch z) h
 | @ins a C dx fs ea cl ha hn htk hm=>
  cases (show u=Value.ref a from rx)
  obtain⟨mA,O,_⟩:=l_ I.hok ea
  obtain⟨od,J,_⟩:=O.look
  exact PySem.W.kia_one (PySem.W.kitx_own (cl.get _) cl.hd ha hn htk hm) I.kIn J e (fun z=>nomatch z) h
end
end L2
namespace L2
open PySem PySem.Spec PyProof.Rows
structure Room (k:Nat) (A:Around):Prop where
 hd:A.handled=none
 dp:A.depth+3 * k+5<recursionLimit
 un:A.units+16 * k+200<cLine
theorem Room.mono{j k:Nat}{A:Around}(r:Room k A)(h:j≤k):Room j A:=⟨r.hd,by have:=r.dp; omega,by have:=r.un; omega⟩
theorem Room.deeper{k:Nat}{A:Around}(r:Room (k+1) A)(env:Env):Room k (A.deeper env):=
 ⟨r.hd,by have:=r.dp; show A.depth+1+3 * k+5<_; omega,by have:=r.un; show A.units+3+16 * k+200<_; omega⟩
theorem sX{A:Around}{C:Addr}{us:List Value}{kw:List (Str × Value)}:(A.under (.builtin "type.__call__" ⟨.ref C::us,kw⟩)).depth=A.depth+1:=by
 first | rfl | simp[Around.under,Code.weight,Code.isCreation,Code.isGuard,Code.isCaller,Code.frames,Code.isFrame,guardIds]
theorem tF{A:Around}{C:Addr}{us:List Value}{kw:List (Str × Value)}:(A.under (.builtin "type.__call__" ⟨.ref C::us,kw⟩)).units=A.units+1:=by
 first | rfl | simp[Around.under,Code.cUnits,Code.frames,Code.isFrame]
theorem Room.make{k:Nat}{A:Around}(r:Room (k+1) A)(C:Addr)(us:List Value)(kw:List (Str × Value)):Room k (A.under (.builtin "type.__call__" ⟨.ref C::us,kw⟩)):=
 ⟨r.hd,by have:=r.dp; rw[sX]; omega,by have:=r.un; rw[tF]; omega⟩
theorem Room.depth{k:Nat}{A:Around}(r:Room k A):A.depth<recursionLimit:=by have:=r.dp; omega
def Bm:TA:=fun _ H Q=>Q [] H
def yi(ta:TE)(tr:TA):TA:=fun σ H Q=>ta σ H fun x H1=>tr σ H1 fun xs H2=>Q (x::xs) H2
section
variable{X:Cx}{e:Expr}{es:List Expr}{te:TE}{t:TA}{pos:Pos}
theorem ab:PA X [] Bm:=fun _ _ _ _ H Q I h=>Calls.spliced_nil ⟨[],H,I,.nil,h⟩
theorem aa(ha:PE X e te)(hr:PA X es t)(hs:starEach (e::es) X.env=(false,eval e X.env)::starEach es X.env:=by rfl):PA X (e::es) (yi te t):=by
 intro pos pins s σ H Q I h
 rw[hs]
 show wpAny _ _ (spliced ((false,eval e X.env)::backTo pos (starEach es X.env))) _ _ s
 refine Calls.spliced_cons (bz (ha pins s σ H _ I h) fun u s1 ⟨x,H1,I1,r1,q1⟩=>?_)
 exact bz (hr pos pins s1 σ H1 _ I1 q1) fun us s2 ⟨xs,H2,I2,r2,q2⟩=>⟨x::xs,H2,I2,.cons r1 r2,q2⟩
def zO(t:TA):TE:=fun σ H Q=>t σ H fun xs H1=>xs.length≤sizeLine∧∀ p,H1 p=none→Q (.ref p) (upd H1 p (.tup xs))
def AY(t:TA):TE:=fun σ H Q=>t σ H fun xs H1=>xs.length≤sizeLine∧∀ p,H1 p=none→Q (.ref p) (upd H1 p (.lst xs))
theorem bd{x1}(h:PA X es t):PE X (.Tuple es x1 pos) (zO t):=by
 intro pins s σ H Q I hq
 refine wpAny_Tuple_spliced (bz (h pos pins s σ H _ I hq) fun us s1 ⟨xs,H1,I1,r,z,q⟩=>⟨by rw[← r.length]; exact z,?_⟩)
 have hf:H1 s1.heap.objs.size=none:=I1.hok.fresh (Nat.le_refl _)
 refine⟨.ref s1.heap.objs.size,upd H1 s1.heap.objs.size (.tup xs),I1.laid (t':=s1.toks) (fun b u e=>Heap.get?_push_of_some _ e) (Nat.le_refl _) ?_,rfl,q _ hf⟩
 exact⟨z,us,r,⟨_,Heap.get?_push_size _ rfl,rfl,rfl,_,rfl⟩⟩
theorem a_(h:PA X es t):PE X (.List es pos) (AY t):=by
 intro pins s σ H Q I hq
 refine wpAny_List_spliced (bz (h pos pins s σ H _ I hq) fun us s1 ⟨xs,H1,I1,r,z,q⟩=>⟨by rw[← r.length]; exact z,?_⟩)
 have hf:H1 s1.heap.objs.size=none:=I1.hok.fresh (Nat.le_refl _)
 refine⟨.ref s1.heap.objs.size,upd H1 s1.heap.objs.size (.lst xs),I1.laid (t':=s1.toks) (fun b u e=>Heap.get?_push_of_some _ e) (Nat.le_refl _) ?_,rfl,q _ hf⟩
 exact⟨z,us,0,r,Heap.get?_push_size _ rfl⟩
end
abbrev Sp:=List V→Hp→VK→XK→Prop
abbrev h_:=List Env→Hp→Shared→XK→Value→Shared→Prop
structure Env0 (P:Program) (w:World) (K:PySem.W.Frag) (mg:Str→Option Value) (base:Heap) (A:Around) (outer:List Env) (s:Shared) (H:Hp):Prop where
 frames:A.frames=some outer
 mod:Mod K mg base
 bs:∀ b o,base.get? b=some o→s.heap.get? b=some o∧H b=none
 bsz:base.objs.size≤s.heap.objs.size
 funs:s.heap.FunFrames base outer
 frf:∀ b∈iO outer,H b=none
 hok:HOk P w H s.heap
 bare:AllBare s.gens
def CE(outer:List Env)(P:Program)(w:World)(H:Hp)(s:Shared)(Q:VK)(u:Value)(s':Shared):Prop:=
 ∃ v H',s'.os=s.os∧AllBare s'.gens∧Un (iO outer) [] H H' s.heap s'.heap∧HOk P w H' s'.heap∧RelV v u∧Q v H'
def CR(CX:h_)(outer:List Env)(P:Program)(w:World)(H:Hp)(s:Shared)(Q:VK)(E:XK)(r:Result)(s':Shared):Prop:=
 match r with
 | .ok (.ret u)=>CE outer P w H s Q u s'
 | .ok _=>False
 | .error e=>CX outer H s E e s'
structure FnOk (P:Program) (w:World) (K:PySem.W.Frag) (mg:Str→Option Value) (base:Heap) (CX:h_) (k:Nat) (f:Addr) (fd:FuncData) (ps:List Str) (sp:Sp):Prop where
 len:∀ vs H Q E,sp vs H Q E→vs.length=ps.length
 run:∀ (A:Around) (outer:List Env) (s:Shared) (H:Hp) (args:Args) (us:List Value) (vs:List V) (Q:VK) (E:XK),Room k A→Env0 P w K mg base A outer s H→BindsTo s fd args (ps.zip us)→Vals vs us→sp vs H Q E→
  codeAny (model P w) A (.call (.ref f) args) (CR CX outer P w H s Q E) s
theorem FnOk.mono{P:Program}{w:World}{K:PySem.W.Frag}{mg:Str→Option Value}{base:Heap}{CX:h_}{j k:Nat}{f:Addr}{fd:FuncData}{ps:List Str}{sp:Sp}(F:FnOk P w K mg base CX j f fd ps sp)(h:j≤k) :
  FnOk P w K mg base CX k f fd ps sp:=⟨F.len,fun A outer s H args us vs Q E hr=>F.run A outer s H args us vs Q E (hr.mono h)⟩
theorem FnOk.imp{P:Program}{w:World}{K:PySem.W.Frag}{mg:Str→Option Value}{base:Heap}{CX:h_}{k:Nat}{f:Addr}{fd:FuncData}{ps:List Str}{sp sp':Sp}(F:FnOk P w K mg base CX k f fd ps sp)
  (h:∀ vs H Q E,sp' vs H Q E→sp vs H Q E):FnOk P w K mg base CX k f fd ps sp':=
 ⟨fun vs H Q E q=>F.len vs H Q E (h _ _ _ _ q),fun A outer s H args us vs Q E hr he hb hv hs=>F.run A outer s H args us vs Q E hr he hb hv (h _ _ _ _ hs)⟩
theorem Env0.make{P:Program}{w:World}{K:PySem.W.Frag}{mg:Str→Option Value}{base:Heap}{A:Around}{outer:List Env}{s:Shared}{H:Hp}(e:Env0 P w K mg base A outer s H)(C:Addr)(us:List Value)(kw:List (Str × Value)) :
  Env0 P w K mg base (A.under (.builtin "type.__call__" ⟨.ref C::us,kw⟩)) outer s H:=⟨by first | exact e.frames | (simpa [Around.under,Code.envs,Code.isFrame,pushEnvs] using e.frames),e.mod,e.bs,e.bsz,e.funs,e.frf,e.hok,e.bare⟩
section
variable{X:Cx}{pins:List (Addr × Obj)}{σ : St}{H:Hp}{s s':Shared}
theorem Inv.env0(I:Inv X pins σ H s):Env0 X.prog X.w X.K X.mg X.base X.A X.stack s H:=
 ⟨I.ok.frames,I.ok.mod,I.bs,Nat.le_trans I.ok.bsz I.sz,I.stack,I.stkFree,I.hok,I.bare⟩
theorem Inv.after{Q:VK}{u:Value}(I:Inv X pins σ H s)(h:CE X.stack X.prog X.w H s Q u s'):EP X pins σ Q u s':=by
 obtain⟨v,H',os,bare,un,hok,r,q⟩:=h
 obtain⟨hh,g,d,t,os'⟩:=s'
 obtain rfl:os'=s.os:=os
 exact⟨v,H',I.call (h':=hh) (g':=g) (d':=d) (t':=t) (ch:=[]) un hok bare (fun b z=>absurd z (by simp)),r,q⟩
end
def ut(sp:Sp)(dvs:List V)(E:XK)(t:TA):TE:=fun σ H Q=>t σ H fun vs H1=>sp (vs++dvs) H1 Q E
def Binds(K:PySem.W.Frag)(fd:FuncData)(ps:List Str)(ds:List Value):Prop:=
 ∀ (s:Shared) (us:List Value),K.In s.heap→(us++ds).length=ps.length→BindsTo s fd ⟨us,[]⟩ (ps.zip (us++ds))
theorem Binds.all{K:PySem.W.Frag}{fd:FuncData}{ps:List Str}(h:∀ us:List Value,us.length=ps.length→bindArgs fd ⟨us,[]⟩=pure (ps.zip us)):Binds K fd ps []:=fun s us _ hl=>by
 rw[List.append_nil]at hl ⊢
 exact .of_eq (h us hl)
def kQ(CX:h_)(X:Cx)(E:XK):Prop:=∀ (pins:List (Addr × Obj)) (σ : St) (H:Hp) (s:Shared) (e:Value) (s':Shared),Inv X pins σ H s→CX X.stack H s E e s'→X.xe e s'
section
variable{X:Cx}{CX:h_}{k:Nat}{f C:Addr}{fd:FuncData}{ps:List Str}{sp:Sp}{dvs:List V}{ds:List Value}{E:XK}{x m:Str}{p pos apos:Pos}{e o:Expr}{es:List Expr}{ta:TE}{t:TA}
theorem BI{pins:List (Addr × Obj)}{σ : St}{H:Hp}{s:Shared}{Q:VK}{us:List Value}{vs:List V}(F:FnOk X.prog X.w X.K X.mg X.base CX k f fd ps sp)(hr:Room k X.A)(hb:Binds X.K fd ps ds)(hd:Vals dvs ds)(hx:kQ CX X E)
  (I:Inv X pins σ H s) (r:Vals vs us) (h:sp (vs++dvs) H Q E):wpAny (model X.prog X.w) X.A (call (.ref f) us) (EP X pins σ Q) X.xe s:=by
 have r2:Vals (vs++dvs) (us++ds):=r.append hd
 have hl:(us++ds).length=ps.length:=by rw[← r2.length]; exact F.len _ _ _ _ h
 refine wpAny_call (codeAny_mono (F.run X.A X.stack s H ⟨us,[]⟩ (us++ds) (vs++dvs) Q E hr I.env0 (hb s us I.kIn hl) r2 h) fun r s' hq=>?_)
 cases r with
 | error e=>exact hx pins σ H s e s' I hq
 | ok fl=>
  cases fl with
  | ret u=>exact I.after hq
  | next=>exact False.elim hq
  | brk=>exact False.elim hq
  | cont=>exact False.elim hq
theorem za(F:FnOk X.prog X.w X.K X.mg X.base CX k f fd ps sp)(hr:Room k X.A)(hg:Gl X x)(hm:X.mg x=some (.ref f))(hk:PySem.W.keepIn X.K (.ref f)=true)(hb:Binds X.K fd ps ds)(hd:Vals dvs ds)(hx:kQ CX X E)
  (ha:PA X (e::es) t) (hdb:(x == ("__debug__" : Str))=false:=by decide) (he:starEach (e::es) X.env=(false,eval e X.env)::starEach es X.env:=by rfl) (hpl:(backTo pos (starEach es X.env)).any (·.1)=false:=by rfl) :
  PE X (.Call (.Name x p) (e::es) [] pos) (ut sp dvs E t):=by
 intro pins s σ H Q I h
 refine wpAny_Call_Name_kw (lQ I hg hm ?_ hdb)
 refine PySem.W.callWith_K (h₀:=X.base) I.ok.mod.kin hk (bz (ha pos pins s σ H _ I h) fun us s1 ⟨vs,H1,I1,r,q⟩=>⟨I1.kIn,?_⟩) he hpl
 exact BI F hr hb hd hx I1 r q
structure Mk (K:PySem.W.Frag) (C f:Addr):Prop where
 makes:PySem.W.makesIn K C=true
 init:PySem.W.findIn K (.ref C) "__init__" = some (some (.ref f))
 fn:PySem.W.isFn K (.ref f)=true
 kp:PySem.W.keepIn K (.ref C)=true
theorem xM{pins:List (Addr × Obj)}{σ : St}{H:Hp}{s:Shared}{Q:VK}{us:List Value}{vs:List V}(M:Mk X.K C f)(F:FnOk X.prog X.w X.K X.mg X.base CX k f fd ps sp)(hr:Room (k+1) X.A)(hb:Binds X.K fd ps ds)(hd:Vals dvs ds)
  (hx:kQ CX X E) (I:Inv X pins σ H s) (r:Vals vs us)
  (h:∀ x dx,H x=none→H dx=none→dx≠x→sp (.ref x::(vs++dvs)) (upd (upd H dx (.own x)) x (.ins C dx [])) (fun v H2=>v = .non∧Q (.ref x) H2) E) :
  wpAny (model X.prog X.w) X.A (call (.ref C) us) (EP X pins σ Q) X.xe s:=by
 have hq:=h (s.heap.objs.size+1) s.heap.objs.size (I.hok.fresh (Nat.le_succ _)) (I.hok.fresh (Nat.le_refl _)) (Nat.ne_of_lt (Nat.lt_succ_self _))
 have I2:=Inv.made (C:=C) I
 have r2:Vals (V.ref (s.heap.objs.size+1)::(vs++dvs)) (Value.ref (s.heap.objs.size+1)::(us++ds)):=.cons rfl (r.append hd)
 have hl:(Value.ref (s.heap.objs.size+1)::us++ds).length=ps.length:=by
  have e:=r2.length
  rw[F.len _ _ _ _ hq]at e
  exact e.symm
 refine wpAny_call (xA (f:=f) I.kIn M.makes M.init (beq_iff_eq.mp M.fn) (codeAny_mono (F.run _ X.stack _ _ ⟨Value.ref (s.heap.objs.size+1)::us,[]⟩ (Value.ref (s.heap.objs.size+1)::(us++ds)) _ _ E (hr.make C us [])
  (I2.env0.make C us []) (hb _ (Value.ref (s.heap.objs.size+1)::us) I2.kIn hl) r2 hq) fun r s' hq'=>?_))
 cases r with
 | error e=>exact hx pins σ _ _ e s' I2 hq'
 | ok fl=>
  cases fl with
  | ret u=>
   obtain⟨v,H',I3,rv,ev,q3⟩:=I2.after hq'
   subst ev
   exact⟨rv,⟨V.ref (s.heap.objs.size+1),H',I3,rfl,q3⟩⟩
  | next=>exact False.elim hq'
  | brk=>exact False.elim hq'
  | cont=>exact False.elim hq'
end
section
variable{X:Cx}{CX:h_}{k:Nat}{f C:Addr}{fd:FuncData}{ps ks:List Str}{sp:Sp}{E:XK}{x m:Str}{p pos apos kpos:Pos}{e o:Expr}{es:List Expr}{kws:List Keyword}{te ta:TE}{t tk:TA}{nm:Option Str}
variable{g:List Value→List Value→List Value}{gV:List V→List V→List V}
end
structure aN (N P:List Str) (sc:Scope):Prop where
 kind:sc.kind = .function
 co:sc.isCoroutine=false
 gen:sc.isGenerator=false
 nd:N.Nodup
 pre:N.take P.length=P
 par:∀ x∈P,sc.names.lookup x=some .local∨sc.names.lookup x=some .cell
 nofree:∀ y∈sc.names,y.2 ≠ .free
theorem mZ{kindOf:Str→Option NameKind}{x:Str}:∀ {binds:List (Str × Value)} {m:Str→Option Value},(∀ v,(x,v)∉binds)→bindL kindOf binds m x=m x
 | [],_,_=>rfl
 | (n,v)::r,m,h=>by
  unfold bindL
  rw[mZ fun w hw=>h w (List.mem_cons_of_mem _ hw)]
  split
  ·have:x≠n:=by rintro rfl; exact h v List.mem_cons_self
   simp[this]
  ·rfl
theorem mq{kindOf:Str→Option NameKind}{x:Str}:∀ {binds:List (Str × Value)} {m:Str→Option Value},(∀ v,(x,v)∉binds)→bindC kindOf binds m x=m x
 | [],_,_=>rfl
 | (n,v)::r,m,h=>by
  unfold bindC
  rw[mq fun w hw=>h w (List.mem_cons_of_mem _ hw)]
  split
  ·rfl
  ·have:x≠n:=by rintro rfl; exact h v List.mem_cons_self
   simp[this]
theorem mU{kindOf:Str→Option NameKind}{x:Str}{v:Value}:∀ {P:List Str} {vs:List Value} {i:Nat} {m:Str→Option Value},P.Nodup→P[i]? = some x→vs[i]? = some v→kindOf x=some .local→
  bindL kindOf (P.zip vs) m x=some v
 | [],_,_,_,_,h,_,_=>by simp at h
 | _::_,[],_,_,_,_,h,_=>by simp at h
 | p::P,w::vs,0,m,nd,h1,h2,hk=>by
  simp at h1 h2; subst h1; subst h2
  show bindL kindOf ((p,w)::P.zip vs) m p=_
  unfold bindL
  rw[mZ fun v hv=>(List.nodup_cons.mp nd).1 (List.of_mem_zip hv).1,if_pos hk]
  simp
 | p::P,w::vs,i+1,m,nd,h1,h2,hk=>by
  show bindL kindOf ((p,w)::P.zip vs) m x=_
  unfold bindL
  exact mU (i:=i) (List.nodup_cons.mp nd).2 (by simpa using h1) (by simpa using h2) hk
theorem mv{kindOf:Str→Option NameKind}{x:Str}{v:Value}:∀ {P:List Str} {vs:List Value} {i:Nat} {m:Str→Option Value},P.Nodup→P[i]? = some x→vs[i]? = some v→kindOf x≠some .local→
  bindC kindOf (P.zip vs) m x=some v
 | [],_,_,_,_,h,_,_=>by simp at h
 | _::_,[],_,_,_,_,h,_=>by simp at h
 | p::P,w::vs,0,m,nd,h1,h2,hk=>by
  simp at h1 h2; subst h1; subst h2
  show bindC kindOf ((p,w)::P.zip vs) m p=_
  unfold bindC
  rw[mq fun v hv=>(List.nodup_cons.mp nd).1 (List.of_mem_zip hv).1,if_neg hk]
  simp
 | p::P,w::vs,i+1,m,nd,h1,h2,hk=>by
  show bindC kindOf ((p,w)::P.zip vs) m x=_
  unfold bindC
  exact mv (i:=i) (List.nodup_cons.mp nd).2 (by simpa using h1) (by simpa using h2) hk
def start(N:List Str)(vs:List V):St:=vs.map some++List.replicate (N.length - vs.length) none
def jc(CX:h_)(P:Program)(w:World)(K:PySem.W.Frag)(mg:Str→Option Value)(base:Heap)(N:List Str)(qual:Str)(scope:Scope)(f:Addr)(cd:Value)(A:Around)(outer:List Env)(s:Shared)(H:Hp)(E:XK):Cx where
 prog:=P
 w:=w
 K:=K
 mg:=mg
 base:=base
 A:=A.deeper (envOfC qual scope s.heap.objs.size f cd)
 N:=N
 s₀:=s
 H₀:=H
 env:=envOfC qual scope s.heap.objs.size f cd
 outer:=outer
 stack:=envOfC qual scope s.heap.objs.size f cd::outer
 ex:=[]
 calm:=true
 fn:=fun _=>true
 pn:=[]
 xe:=fun e s'=>wpAny (model P w) (A.deeper (envOfC qual scope s.heap.objs.size f cd)) (leaving (envOfC qual scope s.heap.objs.size f cd) e) (fun _ s''=>CX outer H s E e s'') (fun e' s''=>CX outer H s E e' s'') s'
theorem pj{sc:Scope}{n:Nat}{x:Str}(h:sc.names.lookup x=some .cell):∃ c,(cellsFrom n sc.names []).lookup x=some c:=by
 have q:=PySem.W.cellsFrom_some sc.names n [] (.inl h)
 exact Option.isSome_iff_exists.mp q
theorem vF{CX:h_}{P:Program}{w:World}{K:PySem.W.Frag}{mg:Str→Option Value}{base:Heap}{N ps:List Str}{qual:Str}{scope:Scope}{f:Addr}{cd:Value}{A:Around}{outer:List Env}{s s1:Shared}{H:Hp}{E:XK}{us:List Value}{vs:List V}
  (S:aN N ps scope) (hd:A.handled=none) (e0:Env0 P w K mg base A outer s H) (hl:vs.length=ps.length) (r:Vals vs us)
  (x:InCallC s s.heap.objs.size (bindL (envOfC qual scope s.heap.objs.size f cd).kindOf (ps.zip us) fun _=>none) (cellsFrom (s.heap.objs.size+1) scope.names []) (bindC (envOfC qual scope s.heap.objs.size f cd).kindOf (ps.zip us) fun _=>none) s1) :
  Inv (jc CX P w K mg base N qual scope f cd A outer s H E) [] (start N vs) H s1:=by
 have hpl:ps.length≤N.length:=by have:=congrArg List.length S.pre; rw[List.length_take]at this; omega
 obtain⟨h1,tk,rfl,hk⟩:=x.done
 have noA:∀ b:Addr,b∉(jc CX P w K mg base N qual scope f cd A outer s H E).ex:=fun b z=>absurd (show b∈([]:List Addr) from z) (by simp)
 refine⟨⟨e0.mod,S.kind,rfl,rfl,Nat.le_refl _,fun y z c h1 h2=>?_,fun y hy=>?_,fun y c _ h=>?_,fun _=>hd,Around.frames_deeper e0.frames,.inr ⟨rfl,rfl⟩,fun b z=>absurd z (noA b),e0.bs,e0.bsz,fun b _ _=>noA b,fun b z=>absurd z (noA b),e0.funs,e0.frf⟩,
  rfl,e0.bare,Un.kept hk,⟨_,x.toInCall.ns,fun i y v h1 h2 h3=>?_⟩,fun y c h=>⟨_,x.cell y c h⟩,e0.hok.fresh (Nat.le_refl _),fun y c h=>?_,fun p hp=>absurd (show p∈([]:List (Addr × Obj)) from hp) (by simp),e0.hok.kept hk,?_⟩
 ·exact name_of_addr x.apart (PySem.mem_of_lookup h1) (PySem.mem_of_lookup h2)
 ·have hy:scope.names.lookup y=some .cell∨scope.names.lookup y=some .free:=hy
  rcases hy with hy | hy
  ·exact pj hy
  ·exact absurd rfl (S.nofree _ (PySem.mem_of_lookup hy))
 ·exact Nat.le_of_lt (x.above y c (PySem.mem_of_lookup h))
 ·have hi:i<vs.length:=by
   unfold start at h2
   by_cases hi:i<vs.length
   ·exact hi
   ·rw[List.getElem?_append_right (by simpa using hi)]at h2
    rw[List.getElem?_replicate]at h2
    split at h2 <;> cases h2
  have ha:vs[i]? = some v:=by
   unfold start at h2
   rw[List.getElem?_append_left (by simpa using hi),List.getElem?_map]at h2
   cases e:vs[i]? with
   | none=>rw[e]at h2; cases h2
   | some a=>rw[e]at h2; cases h2; rfl
  obtain⟨u,hu,rv⟩:=r.get ha
  have hp:ps[i]? = some y:=by
   rw[← S.pre,List.getElem?_take_of_lt (by omega)]; exact h1
  have ndP:ps.Nodup:=by rw[← S.pre]; exact S.nd.sublist (List.take_sublist _ _)
  refine⟨u,rv,?_⟩
  rcases S.par y (List.mem_of_getElem? hp) with k | k
  ·exact .inl ⟨k,mU ndP hp hu k⟩
  ·obtain⟨c,e⟩:=pj (n:=s.heap.objs.size+1) k
   refine .inr ⟨.inl k,c,e,?_⟩
   have q:=x.cell y c e
   rw[mv ndP hp hu (by show scope.names.lookup y≠_; rw[k]; decide)]at q
   exact q
 ·exact e0.hok.fresh (Nat.le_of_lt (x.above y c (PySem.mem_of_lookup h)))
 ·unfold start
  show _=N.length
  rw[List.length_append,List.length_map,List.length_replicate]
  omega
theorem BR{CX:h_}{P:Program}{w:World}{K:PySem.W.Frag}{mg:Str→Option Value}{base:Heap}{k:Nat}{f:Addr}{name qual:Str}{params:Arguments}{body:List Stmt}{scope:Scope}{dV kV doc pm cdv ct oc:Value}{an od:Option Addr}
  {osl:Array (Option Value)} {N ps:List Str} {sp:Sp} (lk:K.lookup f=some ⟨oc,od,.func (PySem.W.fnOf name qual params body scope dV kV doc pm an cdv ct),osl⟩) (hcd:PySem.W.codeIn K cdv qual=true) (S:aN N ps scope)
  (len:∀ vs H Q E,sp vs H Q E→vs.length=ps.length)
  (hbody:∀ (A:Around) (outer:List Env) (s:Shared) (H:Hp) (vs:List V) (Q:VK) (E:XK),Room k (A.deeper (envOfC qual scope s.heap.objs.size f cdv))→sp vs H Q E→
   ∃ t,PSs (jc CX P w K mg base N qual scope f cdv A outer s H E) body t∧t { nx:=fun _ H'=>Q .non H',rt:=Q } (start N vs) H) :
  FnOk P w K mg base CX (k+1) f (PySem.W.fnOf name qual params body scope dV kV doc pm an cdv ct) ps sp:=by
 refine⟨len,fun A outer s H args us vs Q E hr e0 hb r hsp=>?_⟩
 have hl:=len _ _ _ _ hsp
 have KX:K.In s.heap:=e0.mod.kin.keeps fun b o e=>(e0.bs b o e).1
 have lim:s.heap.NoLimit:=e0.mod.nolimit.keeps fun b o e=>(e0.bs b o e).1
 have hkind:∀ y∈ps.zip us,scope.names.lookup y.1=some .local∨(scope.names.lookup y.1=some .cell∧((cellsFrom (s.heap.objs.size+1) scope.names []).lookup y.1).isSome=true):=fun ⟨n,v⟩ hy=>by
  rcases S.par n (List.of_mem_zip hy).1 with q | q
  ·exact .inl q
  ·exact .inr ⟨q,PySem.W.cellsFrom_some _ _ _ (.inl q)⟩
 refine codeAny_call_function hr.depth (KX _ _ lk) rfl S.co S.gen rfl (PySem.W.codeRec_of KX hcd) (hb _ _ _ _ ?_)
 refine wpAny_newFunctionEnv_cells S.kind hkind fun env he s1 x=>?_
 subst he
 refine⟨lim.keeps x.toInCall.keep,codeAny_func ?_⟩
 obtain⟨t,ht,hq⟩:=hbody A outer s H vs Q E (hr.deeper _) hsp
 have I:Inv (jc CX P w K mg base N qual scope f cdv A outer s H E) [] (start N vs) H s1:=vF S hr.hd e0 hl r x
 refine wpAny_mono (ht [] s1 (start N vs) H _ I hq) (fun fl s' hs=>?_) fun e s' hs=>hs
 have fin:∀ {σ':St} {H':Hp} {v:V} {u:Value},Inv (jc CX P w K mg base N qual scope f cdv A outer s H E) [] σ' H' s'→RelV v u→Q v H'→CE outer P w H s Q u s':=
  fun {σ' H' v u} J rv q=>⟨v,H',J.os,J.bare,J.base,J.hok,rv,q⟩
 cases fl with
 | ret u=>
  obtain⟨v,σ',H',J,rv,q⟩:=hs
  exact fin J rv q
 | next=>
  obtain⟨σ',H',J,q⟩:=hs
  exact fin (v:=V.non) (u:=Value.none) J rfl q
 | brk=>
  obtain⟨_,_,_,q⟩:=hs
  exact False.elim q
 | cont=>
  obtain⟨_,_,_,q⟩:=hs
  exact False.elim q
end L2
namespace L2
open PySem PySem.Spec PyProof.Rows
section
variable{X:Cx}{x:Str}{p pos:Pos}{e:Expr}{es:List Expr}{t:TA}{id T:String}{r:List V→Hp→VK→Prop}
def vJ(r:List V→Hp→VK→Prop)(t:TA):TE:=fun σ H Q=>t σ H fun vs H1=>r vs H1 Q
theorem xH(hc:CallR X (.builtin id) r)(hg:Gl X x)(hm:X.mg x=none)(hv:bootBuiltins x=some (.builtin id))(ha:PA X (e::es) t)(hn:x ≠ "__name__" := by decide) (hdb:(x == ("__debug__" : Str))=false:=by decide)
  (he:starEach (e::es) X.env=(false,eval e X.env)::starEach es X.env:=by rfl) (hpl:(backTo pos (starEach es X.env)).any (·.1)=false:=by rfl):PE X (.Call (.Name x p) (e::es) [] pos) (vJ r t):=by
 intro pins s σ H Q I h
 refine wpAny_Call_Name_kw (ga I hg hm hv ?_ hn hdb)
 exact PyProof.Rows.callWith_builtin1 (bz (ha pos pins s σ H _ I h) fun us s1 ⟨vs,H1,I1,r1,q1⟩=>hc pins s1 σ H1 vs us Q I1 r1 q1) he hpl
theorem vP(hc:CallR X (.type T) r)(hg:Gl X x)(hm:X.mg x=none)(hv:bootBuiltins x=some (.type T))(ha:PA X (e::es) t)(hn:x ≠ "__name__" := by decide) (hdb:(x == ("__debug__" : Str))=false:=by decide)
  (he:starEach (e::es) X.env=(false,eval e X.env)::starEach es X.env:=by rfl) (hpl:(backTo pos (starEach es X.env)).any (·.1)=false:=by rfl):PE X (.Call (.Name x p) (e::es) [] pos) (vJ r t):=by
 intro pins s σ H Q I h
 refine wpAny_Call_Name_kw (ga I hg hm hv ?_ hn hdb)
 exact PyProof.Rows.callWith_type1 (bz (ha pos pins s σ H _ I h) fun us s1 ⟨vs,H1,I1,r1,q1⟩=>hc pins s1 σ H1 vs us Q I1 r1 q1) he hpl
end
end L2
namespace HT
open PySem PyProof.Rows
section
open PySem.SeqAt
open PySem.AutoSeq1 (wpAny_loadPart')
open PySem.MeetsSeq PySem.MeetsSeq2 PySem.MeetsSeq3
end
section
variable{prog:Program}{w:World}{A:Around}{E:Value→Shared→Prop}{s:Shared}
theorem cat_tup{t b:Addr}{vs ws:List Value}{Q:Value→Shared→Prop}(ht:IsTup s.heap t vs.toArray)(hb:IsTup s.heap b ws.toArray)(hv:vs≠[])
  (h1:ws=[]→Q (.ref t) s) (h2:ws≠[]→Q (.ref s.heap.objs.size) { s with heap:=s.heap.push { cls:=.type "tuple", data:=.seq (vs++ws).toArray } })
  (hsz:vs.length+ws.length≤sizeLine):wpAny (model prog w) A (binaryOp .Add (.ref t) (.ref b)) Q E s:=by
 obtain⟨⟨cls,dd,data,sl⟩,ho,hc,n,hd⟩:=id ht
 obtain⟨⟨cls2,dd2,data2,sl2⟩,ho2,hc2,n2,hd2⟩:=id hb
 simp only at hc hd hc2 hd2
 subst hc hd hc2 hd2
 have e:vs.toArray++ws.toArray=(vs++ws).toArray:=by simp
 by_cases hw:ws=[]
 ·exact concat_meets ⟨_,ho,rfl⟩ ⟨_,ho2,rfl⟩ noFill_tuple_add seq_tuple_add PySem.F.slot_tuple_add PySem.F.entry_tuple_add (PySem.F.args_tuple_add_2 _ _)
   (tuple_addW1 t b vs.toArray ws.toArray n n2 dd dd2 sl sl2 (by simpa using hv) (by simp[hw])) ⟨ho,ho2,h1 hw⟩
 ·refine concat_meets ⟨_,ho,rfl⟩ ⟨_,ho2,rfl⟩ noFill_tuple_add seq_tuple_add PySem.F.slot_tuple_add PySem.F.entry_tuple_add (PySem.F.args_tuple_add_2 _ _)
   (tuple_addW2 t b vs.toArray ws.toArray n n2 dd dd2 sl sl2 (by simpa using hv) (by simpa using hw) (by rw[List.size_toArray,List.size_toArray]; exact hsz)) ⟨ho,ho2,?_⟩
  rw[e]
  exact h2 hw
def sIx(n d:Nat):Option Int→Nat
 | none=>d
 | some v=>if v<0 then (v+(n:Int)).toNat else min v.toNat n
theorem sIx_none(n d:Nat):sIx n d none=d:=rfl
theorem sIx_nat(n d k:Nat):sIx n d (some (k:Int))=min k n:=by
 show (if (k:Int)<0 then ((k:Int)+(n:Int)).toNat else min (k:Int).toNat n)=min k n
 rw[if_neg (by omega),Int.toNat_natCast]
theorem sIx_le(n d:Nat)(hd:d≤n)(o:Option Int):sIx n d o≤n:=by
 cases o with
 | none=>exact hd
 | some v=>
  show (if v<0 then (v+(n:Int)).toNat else min v.toNat n)≤n
  by_cases hv:v<0
  ·rw[if_pos hv]; omega
  ·rw[if_neg hv]; exact Nat.min_le_right _ _
theorem r_(v:Int)(n d:Nat):(if v<0 then max (v+(n:Int)) 0 else min v (n:Int))=((sIx n d (some v):Nat):Int):=by
 show (if v<0 then max (v+(n:Int)) 0 else min v (n:Int))=(((if v<0 then (v+(n:Int)).toNat else min v.toNat n):Nat):Int)
 by_cases hv:v<0
 ·simp only[if_pos hv]; omega
 ·simp only[if_neg hv]; omega
theorem tN(lo hi:Option Int)(n:Nat):Builtin.Slice.sliceAdjust lo hi 1 (n:Int)=(((sIx n 0 lo:Nat):Int),((sIx n n hi:Nat):Int)):=by
 have h1:¬ ((1:Int)<0):=by omega
 unfold Builtin.Slice.sliceAdjust
 simp only[h1,if_false]
 refine Prod.ext ?_ ?_
 ·cases lo with
  | none=>rfl
  | some v=>exact r_ v n 0
 ·cases hi with
  | none=>rfl
  | some v=>exact r_ v n n
theorem sI(i j:Nat):Builtin.Slice.slicePlaces (i:Int) (j:Int) 1=j - i:=by
 unfold Builtin.Slice.slicePlaces
 have h1:(1:Int)>0:=by omega
 simp only[h1,if_true,Int.ediv_one]
 split <;> omega
theorem ku{v:Value}{o:Option Int}{Q:Option Int→Shared→Prop}(p:IsPart v o)(h:Q o s):wpAny (model prog w) A (Builtin.Slice.slicePartIndex v) Q E s:=by
 cases p with
 | none=>exact slicePart_none h
 | int i t=>exact slicePart_int h
theorem sliceApplied_gen{sl:Addr}{vl vu:Value}{lo hi:Option Int}{n:Nat}{Q:Int × Int × Nat→Shared→Prop}(hs:s.heap.IsSliceOf sl vl vu .none)(pl:IsPart vl lo)(pu:IsPart vu hi)
  (h:Q (((sIx n 0 lo:Nat):Int),1,sIx n n hi - sIx n 0 lo) s):wpAny (model prog w) A (Builtin.Slice.sliceApplied (.ref sl) (pure (n:Int))) Q E s:=by
 obtain⟨os,hos,hcs,hds⟩:=id hs
 unfold Builtin.Slice.sliceApplied Builtin.Slice.sliceFields
 refine wpAny_bind (wpAny_bind (wpAny_field hos hds (x:=vl) rfl (wpAny_bind (wpAny_field hos hds (x:=vu) rfl (wpAny_bind (wpAny_field hos hds (x:=.none) rfl (wpAny_pure ?_)))))))
 refine wpAny_bind (slicePart_none ?_)
 show wpAny _ _ (if ((1:Int) == 0)=true then _ else _) _ _ s
 rw[if_neg (by decide)]
 refine wpAny_bind (ku pl (wpAny_bind (ku pu (wpAny_bind (wpAny_pure ?_)))))
 show wpAny _ _ (match Builtin.Slice.sliceAdjust lo hi 1 (n:Int) with | (lo,hi)=>pure (lo,(1:Int),Builtin.Slice.slicePlaces lo hi 1)) _ _ s
 rw[tN lo hi n]
 show wpAny _ _ (pure (((sIx n 0 lo:Nat):Int),(1:Int),Builtin.Slice.slicePlaces ((sIx n 0 lo:Nat):Int) ((sIx n n hi:Nat):Int) 1)) _ _ s
 rw[sI]
 exact wpAny_pure h
theorem w5(xs:Array Value)(i k:Nat):((List.range k).filterMap fun (m:Nat)=>xs[((i:Int)+(m:Int) * 1).toNat]?).toArray=((xs.toList.drop i).take k).toArray:=by
 have e:(fun (m:Nat)=>xs[((i:Int)+(m:Int) * 1).toNat]?)=fun m=>xs[i+m]?:=by
  funext m
  have:((i:Int)+(m:Int) * 1).toNat=i+m:=by omega
  rw[this]
 rw[e]
 have:=pick_run xs i k
 rw[List.filterMap_map]at this
 have e2:((fun x=>xs[x]?) ∘ fun x=>i+x)=fun m=>xs[i+m]?:=rfl
 rw[e2]at this
 rw[this]
theorem getItem_tuple_cut{t sl:Addr}{items:Array Value}{vl vu:Value}{lo hi:Option Int}{Q:Value→Shared→Prop}(ht:IsTup s.heap t items)(hs:s.heap.IsSliceOf sl vl vu .none)(pl:IsPart vl lo)(pu:IsPart vu hi)
  (hw:¬ (sIx items.size 0 lo=0∧sIx items.size items.size hi=items.size))
  (h:Q (.ref s.heap.objs.size) { s with heap:=s.heap.push { cls:=.type "tuple", data:=.seq ((items.toList.drop (sIx items.size 0 lo)).take (sIx items.size items.size hi - sIx items.size 0 lo)).toArray } })
  (hsz:items.size≤sizeLine):wpAny (model prog w) A (getItem (.ref t) (.ref sl)) Q E s:=by
 have htake:sizeOk (.seq ((items.toList.drop (sIx items.size 0 lo)).take (sIx items.size items.size hi - sIx items.size 0 lo)).toArray):=by
  show ((items.toList.drop (sIx items.size 0 lo)).take (sIx items.size items.size hi - sIx items.size 0 lo)).toArray.size≤sizeLine
  rw[List.size_toArray,List.length_take,List.length_drop,Array.length_toList]
  omega
 have hj:sIx items.size items.size hi≤items.size:=sIx_le _ _ (Nat.le_refl _) hi
 obtain⟨os,hos,hcs,hds⟩:=id hs
 have hTs:s.TypeIs (.ref sl) "slice" := ⟨os,hos,hcs⟩
 unfold getItem
 try with_reducible refine wpAny_holding ?_
 first | refine wpAny_bind (wpAny_pure ?_) | skip
 refine wpAny_bind (wpAny_sequenceKey ht.typeIs (by decide) ?_)
 refine wpAny_bind (wpAny_callSpecial?_slot (name:=Str.ofString "__getitem__") ht.typeIs PyProof.Rows.slot_tuple_getitem
  (wpAny_call_entry PyProof.Rows.slot_tuple_getitem ht.typeIs entry_tuple_getitem ?_ (args_tuple_getitem _ _)))
 show wpAny _ _ (Builtin.Tuple.tupleItemsOf (.ref t) >>= _) _ _ s
 refine wpAny_bind (tupleItemsOf_ ht ?_)
 refine wpAny_bind (wpAny_typeOf hTs ?_)
 rw[if_pos (by decide)]
 refine wpAny_bind (sliceApplied_gen hs pl pu ?_)
 have hno:¬ ((((sIx items.size 0 lo:Nat):Int) == 0&&(1:Int) == 1&&(sIx items.size items.size hi - sIx items.size 0 lo) == items.size)=true):=by
  intro q
  rw[Bool.and_eq_true,Bool.and_eq_true]at q
  have q1:((sIx items.size 0 lo:Nat):Int)=0:=eq_of_beq q.1.1
  have q2:sIx items.size items.size hi - sIx items.size 0 lo=items.size:=eq_of_beq q.2
  exact hw ⟨by omega,by omega⟩
 show wpAny _ _ (if (((sIx items.size 0 lo:Nat):Int) == 0&&(1:Int) == 1&&(sIx items.size items.size hi - sIx items.size 0 lo) == items.size)=true then _ else _) _ _ s
 rw[if_neg hno,w5]
 first
  | exact wpAny_bind (m:=Builtin.Tuple.tupleExact _) (wpAny_newObj_type (wpAny_pure ⟨_,rfl,wpAny_pure h⟩) htake)
  | exact wpAny_bind (m:=Builtin.Tuple.tupleExact _) (wpAny_newObj_type (wpAny_bind (wpAny_pure (wpAny_pure ⟨_,rfl,wpAny_pure h⟩))) htake)
  | exact wpAny_bind (wpAny_bind (m:=Builtin.Tuple.tupleExact _) (wpAny_newObj_type (wpAny_pure (wpAny_pure ⟨_,rfl,wpAny_pure h⟩)) htake))
  | exact wpAny_bind (wpAny_bind (m:=Builtin.Tuple.tupleExact _) (wpAny_newObj_type (wpAny_pure ⟨_,rfl,wpAny_pure h⟩) htake))
end
end HT
namespace L2
open PySem PySem.Spec PyProof.Rows
abbrev TO:=St→Hp→(Option Int→Hp→Prop)→Prop
def PO(X:Cx)(e:Option Expr)(t:TO):Prop:=
 ∀ (pins:List (Addr × Obj)) (s:Shared) (σ : St) (H:Hp) (Q:Option Int→Hp→Prop),Inv X pins σ H s→t σ H Q→
  wpAny (model X.prog X.w) X.A (evalPart e X.env) (fun u s'=>∃ o H',Inv X pins σ H' s'∧IsPart u o∧Q o H') X.xe s
def qE:TO:=fun _ H Q=>Q none H
def yI(t:TE):TO:=fun σ H Q=>t σ H fun x H1=>∃ i,x = .int i∧Q (some i) H1
section
variable{X:Cx}{e:Expr}{te:TE}{lo hi:Option Expr}{tl th:TO}{pos p2:Pos}
theorem df:PO X none qE:=by
 intro pins s σ H Q I h
 rw[evalPart_none]
 exact wpAny_pure ⟨none,H,I,.none,h⟩
theorem cg(h:PE X e te):PO X (some e) (yI te):=by
 intro pins s σ H Q I hw
 rw[evalPart_some]
 refine bz (h pins s σ H _ I hw) fun u s1 ⟨x,H1,I1,r1,q1⟩=>?_
 obtain⟨i,rfl,q⟩:=q1
 obtain⟨t,rfl⟩:=r1
 exact⟨some i,H1,I1,.int i t,q⟩
def SlR(X:Cx)(r:V→Option Int→Option Int→Hp→VK→Prop):Prop:=
 ∀ (pins:List (Addr × Obj)) (s:Shared) (σ : St) (H:Hp) (x:V) (v vl vu:Value) (lo hi:Option Int) (sl:Addr) (Q:VK),Inv X pins σ H s→RelV x v→s.heap.IsSliceOf sl vl vu .none→IsPart vl lo→IsPart vu hi→r x lo hi H Q→
  ∃ T id,typeLookup (.type T) "__getitem__" = pure (some (.builtin id))∧s.TypeIs v T∧wpAny (model X.prog X.w) X.A (getItem v (.ref sl)) (EP X pins σ Q) X.xe s
def Cj(r:V→Option Int→Option Int→Hp→VK→Prop)(te:TE)(tl th:TO):TE:=fun σ H Q=>te σ H fun x H1=>tl σ H1 fun l H2=>th σ H2 fun u H3=>r x l u H3 Q
theorem cu{r:V→Option Int→Option Int→Hp→VK→Prop}(hr:SlR X r)(he:PE X e te)(hl:PO X lo tl)(hu:PO X hi th):PE X (.Subscript e (.Slice lo hi none p2) pos) (Cj r te tl th):=by
 intro pins s σ H Q I h
 refine Subscript_ (bz (he pins s σ H _ I h) fun v s1 ⟨x,H1,I1,r1,q1⟩=>?_)
 refine wpAny_Slice (bz (hl pins s1 σ H1 _ I1 q1) fun vl s2 ⟨l,H2,I2,pl,q2⟩=>bz (hu pins s2 σ H2 _ I2 q2) fun vu s3 ⟨u,H3,I3,pu,q3⟩=>?_)
 rw[evalPart_none]
 refine wpAny_pure ?_
 have I4:Inv X pins σ H3 { s3 with heap:=s3.heap.push { cls:=.type "slice", data:=.fields #[vl,vu,.none] } }:=I3.kept (t':=s3.toks) fun b ob q=>Heap.get?_push_of_some _ q
 obtain⟨T,id,hT,ht,hg⟩:=hr pins { s3 with heap:=s3.heap.push { cls:=.type "slice", data:=.fields #[vl,vu,.none] } } σ H3 x v vl vu l u s3.heap.objs.size Q I4 r1 (Heap.IsSliceOf.new ..) pl pu q3
 show wpAny (model X.prog X.w) X.A (subscriptTail e (.Slice lo hi none p2) v (.ref s3.heap.objs.size)) (EP X pins σ Q) X.xe { s3 with heap:=s3.heap.push { cls:=.type "slice", data:=.fields #[vl,vu,.none] } }
 exact tail_any (ops:=[.ref s3.heap.objs.size,v]) ht hT hg (by with_unfolding_all rfl)
def dI(xs:List V)(lo hi:Option Int):List V:=(xs.drop (HT.sIx xs.length 0 lo)).take (HT.sIx xs.length xs.length hi - HT.sIx xs.length 0 lo)
theorem jY(xs:List V)(lo hi:Option Int):(dI xs lo hi).length≤xs.length:=by
 unfold dI
 rw[List.length_take,List.length_drop]
 omega
def EN(K:PySem.W.Frag):V→Option Int→Option Int→Hp→VK→Prop:=fun x lo hi H Q=>∃ a xs,x = .ref a∧SqT K H a xs∧
 ¬ (HT.sIx xs.length 0 lo=0∧HT.sIx xs.length xs.length hi=xs.length)∧∀ p,H p=none→Q (.ref p) (upd H p (.tup (dI xs lo hi)))
theorem Bk:SlR X (EN X.K):=by
 intro pins s σ H x v vl vu lo hi sl Q I rx hs pl pu h
 obtain⟨a,xs,rfl,hx,hw,q⟩:=h
 cases rx
 obtain⟨its,r,ht,hz⟩:=I.tuple hx
 have hlen:its.toArray.size=xs.length:=by rw[List.size_toArray]; exact r.length.symm
 refine⟨"tuple", _,PyProof.Rows.slot_tuple_getitem.lookup,ht.typeIs,?_⟩
 refine HT.getItem_tuple_cut ht hs pl pu (by rw[hlen]; exact hw) ?_ (by rw[hlen]; exact hz)
 rw[hlen]
 refine⟨.ref s.heap.objs.size,_,I.laid (t':=s.toks) (o:=.tup (dI xs lo hi)) (fun b ob q=>Heap.get?_push_of_some _ q) (Nat.le_refl _) ?_,rfl,q _ (I.hok.fresh (Nat.le_refl _))⟩
 exact⟨Nat.le_trans (jY xs lo hi) hz,_,(r.drop (HT.sIx xs.length 0 lo)).take (HT.sIx xs.length xs.length hi - HT.sIx xs.length 0 lo),IsTupN.new _ _⟩
def s_(K:PySem.W.Frag):R2:=fun x y H Q=>∃ a b xs ys,x = .ref a∧y = .ref b∧SqT K H a xs∧SqT K H b ys∧xs≠[]∧xs.length+ys.length≤sizeLine∧
 (ys=[]→Q (.ref a) H)∧(ys≠[]→∀ p,H p=none→Q (.ref p) (upd H p (.tup (xs++ys))))
theorem Vals.nil_iff{xs:List V}{us:List Value}(r:Vals xs us):us=[] ↔ xs=[]:=by
 cases r with
 | nil=>simp
 | cons _ _=>simp
theorem zC:OpR X (binaryOp .Add) (s_ X.K):=by
 intro pins s σ H x y v u Q I rx ry h
 obtain⟨a,b,xs,ys,rfl,rfl,ha,hb,hx,hz,q1,q2⟩:=h
 cases rx
 cases ry
 obtain⟨its,r1,p1,_⟩:=I.tuple ha
 obtain⟨its2,r2,p2,_⟩:=I.tuple hb
 refine HT.cat_tup p1 p2 (fun z=>hx (r1.nil_iff.mp z)) (fun z=>⟨.ref a,H,I,rfl,q1 (r2.nil_iff.mp z)⟩) (fun z=>?_) (by rw[← r1.length,← r2.length]; exact hz)
 refine⟨.ref s.heap.objs.size,_,I.laid (t':=s.toks) (o:=.tup (xs++ys)) (fun b ob q=>Heap.get?_push_of_some _ q) (Nat.le_refl _) ?_,rfl,q2 (fun w=>z (r2.nil_iff.mpr w)) _ (I.hok.fresh (Nat.le_refl _))⟩
 exact⟨by rw[List.length_append]; exact hz,_,r1.append r2,IsTupN.new _ _⟩
end
end L2
namespace L2
open PySem PySem.Spec PyProof.Rows
def jX(n:Nat)(i:Int):Option Nat:=if 0≤i then (if i<n then some i.toNat else none) else if -(n:Int)≤i then some (i+n).toNat else none
def dw{α : Type}(xs:List α)(i:Int):Option α:=(jX xs.length i).bind fun j=>xs[j]?
theorem zf{n:Nat}{i:Int}{j:Nat}(h:jX n i=some j):seqIndex? i n=some j∧j<n∧-(n:Int)≤i∧i<n:=by
 unfold jX at h
 by_cases h0:0≤i
 ·rw[if_pos h0]at h
  by_cases h1:i<n
  ·rw[if_pos h1]at h
   have e:i.toNat=j:=Option.some.inj h
   exact⟨by rw[seqIndex_of h0 h1,e],by omega,by omega,h1⟩
  ·rw[if_neg h1]at h; cases h
 ·rw[if_neg h0]at h
  by_cases h1:-(n:Int)≤i
  ·rw[if_pos h1]at h
   have e:(i+n).toNat=j:=Option.some.inj h
   exact⟨by rw[seqIndex_neg (by omega) h1,e],by omega,h1,by omega⟩
  ·rw[if_neg h1]at h; cases h
theorem lJ{α : Type}{xs:List α}{i:Int}{v:α}(h:dw xs i=some v):∃ j,seqIndex? i xs.length=some j∧xs[j]? = some v∧j<xs.length∧-(xs.length:Int)≤i∧i<xs.length:=by
 unfold dw at h
 cases e:jX xs.length i with
 | none=>rw[e]at h; cases h
 | some j=>
  rw[e]at h
  obtain⟨h1,h2,h3,h4⟩:=zf e
  exact⟨j,h1,h,h2,h3,h4⟩
theorem bC{α : Type}{xs:List α}{j:Nat}{v:α}(h:xs[j]? = some v):dw xs (j:Int)=some v:=by
 have hj:j<xs.length:=(List.getElem?_eq_some_iff.mp h).1
 have e:jX xs.length (j:Int)=some j:=by
  unfold jX
  rw[if_pos (by omega),if_pos (by omega)]; simp
 unfold dw; rw[e]; exact h
def y7(b:Expr):Prop:=∀ o i,subscripted b false o i=operate [o,i] (getItem o i)
def IxR(X:Cx)(r:R2):Prop:=
 ∀ (value slice:Expr) (pins:List (Addr × Obj)) (s:Shared) (σ : St) (H:Hp) (x y:V) (v u:Value) (Q:VK),Inv X pins σ H s→RelV x v→RelV y u→r x y H Q→
  subscripted slice false v u=operate [v,u] (getItem v u)→wpAny (model X.prog X.w) X.A (subscriptTail value slice v u) (EP X pins σ Q) X.xe s
def MtR(X:Cx)(id:String)(r:V→List V→Hp→VK→Prop):Prop:=
 ∀ (pins:List (Addr × Obj)) (s:Shared) (σ : St) (H:Hp) (x:V) (xs:List V) (v:Value) (us:List Value) (Q:VK),Inv X pins σ H s→RelV x v→Vals xs us→r x xs H Q→
  wpAny (model X.prog X.w) X.A (call (.builtin id) (v::us)) (EP X pins σ Q) X.xe s
section
variable{X:Cx}{a b:Expr}{ta tb:TE}{pos:Pos}
theorem IxR.or{r r':R2}(h:IxR X r)(h':IxR X r'):IxR X (fun x y H Q=>r x y H Q∨r' x y H Q):=by
 intro value slice pins s σ H x y v u Q I rx ry q hs
 rcases q with q | q
 ·exact h value slice pins s σ H x y v u Q I rx ry q hs
 ·exact h' value slice pins s σ H x y v u Q I rx ry q hs
theorem aw{r:R2}(hr:IxR X r)(ha:PE X a ta)(hb:PE X b tb)(hs:y7 b):PE X (.Subscript a b pos) (uK r ta tb):=by
 intro pins s σ H Q I h
 exact Subscript_ (w6 ha hb I h fun v u s2 x y H2 I2 rx ry q=>hr a b pins s2 σ H2 x y v u Q I2 rx ry q (hs _ _))
def AR(K:PySem.W.Frag):R2:=fun x y H Q=>∃ p xs i v,x = .ref p∧y = .int i∧SqL K H p xs∧dw xs i=some v∧Q v H
def zZ(K:PySem.W.Frag):R2:=fun x y H Q=>∃ p xs i v,x = .ref p∧y = .int i∧SqT K H p xs∧dw xs i=some v∧Q v H
def AD:R2:=fun x y H Q=>∃ z i c,x = .str z∧y = .int i∧z.length≤sizeLine∧dw z.cps.toList i=some c∧Q (.str ⟨#[c]⟩) H
theorem ix_list:IxR X (AR X.K):=by
 intro value slice pins s σ H x y v u Q I rx ry h hs
 obtain⟨p,xs,i,z,rfl,rfl,hq,he,q⟩:=h
 cases rx
 obtain⟨t,rfl⟩:=ry
 obtain⟨its,r,pl,hz⟩:=I.list hq
 obtain⟨j,h1,h2,h3,h4,h5⟩:=lJ he
 obtain⟨w,ew,rw'⟩:=r.get h2
 have hl:=r.length
 have hn:=jr
 have fin:EP X pins σ Q w s:=⟨z,H,I,rw',q⟩
 by_cases h0:0≤i
 ·have hj:i.toNat=j:=by
   rw[seqIndex_of h0 h5]at h1
   exact Option.some.inj h1
  exact item_listR pl.isList h0 (by omega) (by rw[hj]; simpa using ew) fin hs
 ·have hj:(i+(its.toArray.size:Int)).toNat=j:=by
   rw[seqIndex_neg (by omega) h4]at h1
   rw[List.size_toArray,← hl]
   exact Option.some.inj h1
  exact subscriptTail_builtinR (x:=w) pl.isList.typeIs slot_list_getitem.lookup
   (wpAny_getItem_list_neg (Q:=fun r s'=>r=w∧EP X pins σ Q r s') pl.isList (by omega) (by rw[List.size_toArray] <;> omega) (by omega) (by rw[hj]; simpa using ew) ⟨rfl,fin⟩) hs
theorem ix_tup:IxR X (zZ X.K):=by
 intro value slice pins s σ H x y v u Q I rx ry h hs
 obtain⟨p,xs,i,z,rfl,rfl,hq,he,q⟩:=h
 cases rx
 obtain⟨t,rfl⟩:=ry
 obtain⟨its,r,pl,hz⟩:=I.tuple hq
 obtain⟨j,h1,h2,h3,h4,h5⟩:=lJ he
 obtain⟨w,ew,rw'⟩:=r.get h2
 have hl:=r.length
 have hn:=jr
 have fin:EP X pins σ Q w s:=⟨z,H,I,rw',q⟩
 exact subscriptTail_builtinR (x:=w) pl.typeIs slot_tuple_getitem.lookup
  (getItem_tuple (j:=j) (Q:=fun r s'=>r=w∧EP X pins σ Q r s') pl (by omega) (by omega) (by rw[List.size_toArray,← hl]; exact h1) (by simpa using ew) ⟨rfl,fin⟩) hs
theorem AE:IxR X AD:=by
 intro value slice pins s σ H x y v u Q I rx ry h hs
 obtain⟨z,i,c,rfl,rfl,hz,he,q⟩:=h
 obtain⟨t,rfl⟩:=rx
 obtain⟨t',rfl⟩:=ry
 obtain⟨j,h1,h2,h3,h4,h5⟩:=lJ he
 have hl:z.cps.toList.length=z.length:=by simp[Str.length]
 rw[hl]at h1 h4 h5
 have hn:=jr
 exact tail_any (typeIs_str s z t) slot_str_getitem.lookup (getItem_str (c:=c) (by
  have e1:decide (i < -(2 ^ 63:Int))=false:=decide_eq_false (by omega)
  have e2:decide (i≥2 ^ 63)=false:=decide_eq_false (by omega)
  rw[e1,e2,Bool.or_false]) (by rw[h1]; simpa using h2) ⟨.str ⟨#[c]⟩,H,I.tok _,⟨_,rfl⟩,q⟩) hs
def Fw(K:PySem.W.Frag):R2:=fun x y H Q=>AR K x y H Q∨zZ K x y H Q∨AD x y H Q
theorem Aa:IxR X (Fw X.K):=ix_list.or (ix_tup.or AE)
theorem jj(lo hi:Option Int)(n:Nat):(sliceBounds lo hi none n).1=((HT.sIx n 0 lo:Nat):Int)∧(sliceBounds lo hi none n).2.1=((HT.sIx n n hi:Nat):Int)∧(sliceBounds lo hi none n).2.2=1:=by
 refine⟨?_,?_,rfl⟩
 ·cases lo with
  | none=>simp[sliceBounds,HT.sIx]
  | some i=>
   simp only[sliceBounds,HT.sIx,Option.getD_none,show (1:Int)>0 by decide,if_true]
   by_cases h:i<0
   ·simp only[h,if_true] <;> omega
   ·simp only[h,if_false] <;> omega
 ·cases hi with
  | none=>simp[sliceBounds,HT.sIx]
  | some i=>
   simp only[sliceBounds,HT.sIx,Option.getD_none,show (1:Int)>0 by decide,if_true]
   by_cases h:i<0
   ·simp only[h,if_true] <;> omega
   ·simp only[h,if_false] <;> omega
theorem nv(its:List Value)(lo hi:Option Int):slicePick its.toArray lo hi none=((its.drop (HT.sIx its.length 0 lo)).take (HT.sIx its.length its.length hi - HT.sIx its.length 0 lo)).toArray:=by
 obtain⟨h1,h2,h3⟩:=jj lo hi its.toArray.size
 unfold slicePick
 rw[h1,h2,h3]
 simp only[sliceRange_one,pick_run,List.size_toArray] <;> rfl
def wC(K:PySem.W.Frag):V→Option Int→Option Int→Hp→VK→Prop:=fun x lo hi H Q=>∃ a xs,x = .ref a∧SqL K H a xs∧∀ p,H p=none→Q (.ref p) (upd H p (.lst (dI xs lo hi)))
theorem zq:SlR X (wC X.K):=by
 intro pins s σ H x v vl vu lo hi sl Q I rx hs pl pu h
 obtain⟨a,xs,rfl,hx,q⟩:=h
 cases rx
 obtain⟨its,r,ht,hz⟩:=I.list hx
 have hlen:=r.length
 refine⟨"list", _,slot_list_getitem.lookup,ht.isList.typeIs,?_⟩
 refine wpAny_getItem_list_slice ht.isList hs pl pu .none (by simp) ?_ (by rw[List.size_toArray] <;> omega)
 rw[nv,← hlen]
 refine⟨.ref s.heap.objs.size,_,I.laid (t':=s.toks) (o:=.lst (dI xs lo hi)) (fun b ob q=>Heap.get?_push_of_some _ q) (Nat.le_refl _) ?_,rfl,q _ (I.hok.fresh (Nat.le_refl _))⟩
 exact⟨Nat.le_trans (jY xs lo hi) hz,_,0,(r.drop (HT.sIx xs.length 0 lo)).take (HT.sIx xs.length xs.length hi - HT.sIx xs.length 0 lo),Heap.get?_push_size _ rfl⟩
def cx:V→Bool
 | .non=>true
 | .bl _=>true
 | .int _=>true
 | .str _=>true
 | _=>false
def ej:V→V→Bool
 | .non,.non=>true
 | .bl a,.bl b=>a == b
 | .bl a,.int b=>(if a then 1 else 0) == b
 | .int a,.bl b=>a == (if b then 1 else 0)
 | .int a,.int b=>a == b
 | .str a,.str b=>a == b
 | _,_=>false
theorem iQ{A:Around}{s:Shared}{y x:V}{u v:Value}(ry:RelV y u)(rx:RelV x v)(fy:cx y=true)(fx:cx x=true):SeqAt.EqAt A s u v (ej y x):=by
 cases y with
 | non=>
  cases ry
  cases x with
  | non=>cases rx; exact SeqAt.EqAt.same _
  | bl b=>cases rx; exact SeqAt.EqAt.none_bool b
  | int b=>obtain⟨t,rfl⟩:=rx; exact SeqAt.EqAt.none_int b t
  | str b=>obtain⟨t,rfl⟩:=rx; exact SeqAt.EqAt.none_str b t
  | _=>exact absurd (show false=true from fx) Bool.false_ne_true
 | bl a=>
  cases ry
  cases x with
  | non=>cases rx; exact SeqAt.EqAt.bool_none a
  | bl b=>cases rx; exact SeqAt.EqAt.bool_bool a b
  | int b=>obtain⟨t,rfl⟩:=rx; exact SeqAt.EqAt.bool_int a b t
  | str b=>obtain⟨t,rfl⟩:=rx; exact SeqAt.EqAt.bool_str a b t
  | _=>exact absurd (show false=true from fx) Bool.false_ne_true
 | int a=>
  obtain⟨t',rfl⟩:=ry
  cases x with
  | non=>cases rx; exact SeqAt.EqAt.int_none a t'
  | bl b=>cases rx; exact SeqAt.EqAt.int_bool a t' b
  | int b=>obtain⟨t,rfl⟩:=rx; exact SeqAt.EqAt.int_int a t' b t
  | str b=>obtain⟨t,rfl⟩:=rx; exact SeqAt.EqAt.int_str a t' b t
  | _=>exact absurd (show false=true from fx) Bool.false_ne_true
 | str a=>
  obtain⟨t',rfl⟩:=ry
  cases x with
  | non=>cases rx; exact SeqAt.EqAt.str_none a t'
  | bl b=>cases rx; exact SeqAt.EqAt.str_bool a t' b
  | int b=>obtain⟨t,rfl⟩:=rx; exact SeqAt.EqAt.str_int a t' b t
  | str b=>obtain⟨t,rfl⟩:=rx; exact SeqAt.EqAt.str_str a t' b t
  | _=>exact absurd (show false=true from fx) Bool.false_ne_true
 | _=>exact absurd (show false=true from fy) Bool.false_ne_true
def ik(x:V)(u:Value):Bool:=match u with
 | .none=>ej .non x
 | .bool b=>ej (.bl b) x
 | .int i _=>ej (.int i) x
 | .str z _=>ej (.str z) x
 | _=>false
theorem kR{x y:V}{u:Value}(r:RelV y u)(f:cx y=true):ik x u=ej y x:=by
 cases y with
 | non=>cases r; rfl
 | bl b=>cases r; rfl
 | int i=>obtain⟨t,rfl⟩:=r; rfl
 | str z=>obtain⟨t,rfl⟩:=r; rfl
 | _=>exact absurd (show false=true from f) Bool.false_ne_true
theorem lN{x:V}:∀ {xs:List V} {us:List Value},Vals xs us→xs.all cx=true→us.any (ik x)=xs.any fun y=>ej y x
 | _,_,.nil,_=>rfl
 | y::xs,u::us,.cons r t,f=>by
  rw[List.all_cons,Bool.and_eq_true]at f
  rw[List.any_cons,List.any_cons,kR r f.1,lN t f.2]
theorem j6{A:Around}{s:Shared}{x:V}{v:Value}(rx:RelV x v)(fx:cx x=true):∀ {xs:List V} {us:List Value},Vals xs us→xs.all cx=true→∀ u∈us,SeqAt.EqAt A s u v (ik x u)
 | _,_,.nil,_=>fun u hu=>by cases hu
 | y::xs,u::us,.cons r t,f=>fun u' hu=>by
  rw[List.all_cons,Bool.and_eq_true]at f
  rcases List.mem_cons.mp hu with rfl | hu
  ·rw[kR r f.1]; exact iQ r rx f.1 fx
  ·exact j6 rx fx t f.2 u' hu
def fC(x:V)(xs:List V):Bool:=xs.any fun y=>ej y x
def GJ(K:PySem.W.Frag)(neg:Bool):R2:=fun x y H Q=>∃ p xs,y = .ref p∧(SqL K H p xs∨SqT K H p xs)∧cx x=true∧xs.all cx=true∧Q (.bl (if neg then !fC x xs else fC x xs)) H
theorem uV:OpR X (compareOp .In) (GJ X.K false):=by
 intro pins s σ H x y v u Q I rx ry h
 obtain⟨p,xs,rfl,hq,fx,fs,q⟩:=h
 cases ry
 rcases hq with hq | hq
 ·obtain⟨its,r,pl,hz⟩:=I.list hq
  refine SeqAt.in_listAt (ik x) pl.isList (fun w hw=>j6 rx fx r fs w (by simpa using hw)) ⟨.bl _,H,I,rfl,?_⟩
  rw[show its.toArray.any (ik x)=its.any (ik x) by simp,lN r fs]
  exact q
 ·obtain⟨its,r,pl,hz⟩:=I.tuple hq
  refine SeqAt.in_tupleAt (ik x) pl (fun w hw=>j6 rx fx r fs w (by simpa using hw)) ⟨.bl _,H,I,rfl,?_⟩
  rw[show its.toArray.any (ik x)=its.any (ik x) by simp,lN r fs]
  exact q
theorem oz:CallR X (.builtin "len") (fun xs H Q=>∃ p ys,xs=[.ref p]∧(SqL X.K H p ys∨SqT X.K H p ys)∧Q (.int ys.length) H):=by
 intro pins s σ H xs us Q I r h
 obtain⟨p,ys,rfl,hq,q⟩:=h
 obtain⟨u,rfl,rx⟩:=dz r
 cases rx
 have hn:=jr
 rcases hq with hq | hq
 ·obtain⟨its,r',pl,hz⟩:=I.list hq
  have hlen:=r'.length
  exact Calls.call_len_list pl.isList (by simp only[List.size_toArray] <;> omega) ⟨.int ys.length,H,I.tok _,⟨s.toks+1,by rw[List.size_toArray,hlen]⟩,q⟩
 ·obtain⟨its,r',pl,hz⟩:=I.tuple hq
  have hlen:=r'.length
  exact len_tuple pl (by simp only[List.size_toArray] <;> omega) ⟨.int ys.length,H,I.tok _,⟨s.toks+1,by rw[List.size_toArray,hlen]⟩,q⟩
theorem nP:CallR X (.builtin "len") (fun xs H Q=>∃ z,xs=[.str z]∧z.length≤sizeLine∧Q (.int z.length) H):=by
 intro pins s σ H xs us Q I r h
 obtain⟨z,rfl,hz,q⟩:=h
 obtain⟨u,rfl,t,rfl⟩:=dz r
 have hn:=jr
 exact len_str (by omega) ⟨.int z.length,H,I.tok _,⟨_,rfl⟩,q⟩
theorem nn:CallR X (.type "tuple") (fun xs H Q=>∃ p ys,xs=[.ref p]∧((SqL X.K H p ys∧∀ l,H l=none→Q (.ref l) (upd H l (.tup ys)))∨(SqT X.K H p ys∧Q (.ref p) H))):=by
 intro pins s σ H xs us Q I r h
 obtain⟨p,ys,rfl,h⟩:=h
 obtain⟨u,rfl,rx⟩:=dz r
 cases rx
 rcases h with ⟨hq,q⟩ | ⟨hq,q⟩
 ·obtain⟨its,r',pl,hz⟩:=I.list hq
  have hlen:=r'.length
  refine call_tuple_list pl.isList (fun h' kp=>?_) (by simp only[List.size_toArray] <;> omega)
  have I1:Inv X pins σ H { s with heap:=h' }:=I.kept (t':=s.toks) kp
  have I2:Inv X pins σ (upd H h'.objs.size (.tup ys)) { s with heap:=h'.push { cls:=.type "tuple", data:=.seq its.toArray } }:=
   I1.laid (t':=s.toks) (fun b o e=>Heap.get?_push_of_some _ e) (Nat.le_refl _) (show ObjOk X.prog X.w _ _ _ (.tup ys) from ⟨hz,its,r',IsTupN.new _ _⟩)
  exact⟨.ref h'.objs.size,_,I2,rfl,q _ (I1.hok.fresh (Nat.le_refl _))⟩
 ·obtain⟨its,r',pl,hz⟩:=I.tuple hq
  exact call_tuple_same pl ⟨.ref p,H,I,rfl,q⟩
def ol(K:PySem.W.Frag)(T:String)(x:V)(H:Hp):Prop:=match x with
 | .str _=>T = "str"
 | .int _=>T = "int"
 | .ref p=>(T = "list" ∧ ∃ xs,SqL K H p xs)∨(T = "tuple" ∧ ∃ o,K.lookup p=some o∧o.cls = .type "tuple" ∧ o.dict=none)∨
   (T = "dict" ∧ ((∃ kvs,H p=some (.dK kvs))∨∃ kvs,H p=some (.dT kvs)))∨(T = "set" ∧ ∃ S n,H p=some (.set S n))
 | _=>False
theorem vE{pins:List (Addr × Obj)}{σ : St}{H:Hp}{s:Shared}{T:String}{x:V}{v:Value}(I:Inv X pins σ H s)(r:RelV x v)(ty:ol X.K T x H) :
  s.TypeIs v T∧∀ a,v = .ref a→∃ ob,s.heap.get? a=some ob∧ob.dict=none:=by
 cases x with
 | str z=>
  obtain⟨t,rfl⟩:=r
  cases (show T = "str" from ty)
  exact⟨typeIs_str s z t,fun _ e=>nomatch e⟩
 | int i=>
  obtain⟨t,rfl⟩:=r
  cases (show T = "int" from ty)
  exact⟨typeIs_int s i t,fun _ e=>nomatch e⟩
 | ref p=>
  cases r
  rcases ty with ⟨rfl,xs,hq⟩ | ⟨rfl,o,hk,hc,hd⟩ | ⟨rfl,hk⟩ | ⟨rfl,S,n,hk⟩
  ·obtain⟨its,_,pl,_⟩:=I.list hq
   refine⟨pl.isList.typeIs,fun a e=>?_⟩
   cases e
   obtain⟨o,n,e,c,hd,_⟩:=pl
   exact⟨o,e,hd⟩
  ·refine⟨⟨o,I.kIn p o hk,hc⟩,fun a e=>?_⟩
   cases e
   exact⟨o,I.kIn _ o hk,hd⟩
  ·have z:∃ o,s.heap.get? p=some o∧o.ExactDict:=by
    rcases hk with ⟨kvs,hk⟩ | ⟨kvs,hk⟩
    ·obtain⟨_,_,_,_,o,_,_,e,ex,_⟩:=I.hok p _ hk
     exact⟨o,e,ex⟩
    ·obtain⟨_,_,_,_,o,_,_,e,ex,_⟩:=I.hok p _ hk
     exact⟨o,e,ex⟩
   obtain⟨o,e,ex⟩:=z
   refine⟨⟨o,e,ex.1⟩,fun a e2=>?_⟩
   cases e2
   exact⟨o,e,ex.2.1⟩
  ·obtain⟨o,_,_,_,e,ex,_⟩:=I.hok p _ hk
   refine⟨⟨o,e,ex.1⟩,fun a e2=>?_⟩
   cases e2
   exact⟨o,e,ex.2.1⟩
 | _=>exact False.elim ty
def xZ(K:PySem.W.Frag)(T:String)(r:V→List V→Hp→VK→Prop)(to:TE):TE:=fun σ H Q=>to σ H fun x H1=>ol K T x H1∧r x [] H1 Q
def Ag(K:PySem.W.Frag)(T:String)(r:V→List V→Hp→VK→Prop)(to:TE)(t:TA):TE:=fun σ H Q=>to σ H fun x H1=>ol K T x H1∧t σ H1 fun xs H2=>r x xs H2 Q
variable{o e:Expr}{es:List Expr}{to:TE}{t:TA}{name:Str}{apos cpos:Pos}{T id:String}{r:V→List V→Hp→VK→Prop}
theorem Ax(pa:PlainAttrs T)(slot:Slot T name id)(hty:typeOf (.builtin id)=pure (.type "method_descriptor")) (hm:MtR X id r) (ho:PE X o to)
  (hbase:attributeBase o name X.env (eval o X.env)=eval o X.env:=by rfl) (hline:(apos.endLine == cpos.line)=true:=by rfl):PE X (.Call (.Attribute o name apos) [] [] cpos) (xZ X.K T r to):=by
 intro pins s σ H Q I h
 refine wpAny_Call_method0_late hbase hline (bz (ho pins s σ H _ I h) fun v s1 ⟨x,H1,I1,r1,ty,q1⟩=>?_)
 obtain⟨h1,h2⟩:=vE I1 r1 ty
 exact⟨T,id,pa,slot,hty,h1,h2,Calls.callWith_builtin rfl (PySem.evalArgs_none (hm pins s1 σ H1 x [] v [] Q I1 r1 .nil q1))⟩
theorem B_(pa:PlainAttrs T)(slot:Slot T name id)(hty:typeOf (.builtin id)=pure (.type "method_descriptor")) (hm:MtR X id r) (ho:PE X o to) (ha:PA X (e::es) t)
  (hbase:attributeBase o name X.env (eval o X.env)=eval o X.env:=by rfl)
  (hfew:((backTo cpos (starEach (e::es) X.env)).all (fun x=>!x.1)&&(backToKw cpos (keywordEach [] X.env)).all (fun x=>x.1.isSome)
   && decide ((e::es).length+([]:List Keyword).length+(if ([]:List Keyword).isEmpty then 0 else 1)<30))=true:=by rfl)
  (hline:(apos.endLine == cpos.line)=true:=by rfl) (hs:starEach (e::es) X.env=(false,eval e X.env)::starEach es X.env:=by rfl) (hplain:(backTo cpos (starEach es X.env)).any (·.1)=false:=by rfl) :
  PE X (.Call (.Attribute o name apos) (e::es) [] cpos) (Ag X.K T r to t):=by
 intro pins s σ H Q I h
 refine wpAny_Call_method_late hbase hfew hline rfl (bz (ho pins s σ H _ I h) fun v s1 ⟨x,H1,I1,r1,ty,q1⟩=>?_)
 obtain⟨h1,h2⟩:=vE I1 r1 ty
 refine⟨T,id,pa,slot,hty,h1,h2,?_⟩
 have hA:=ha cpos pins s1 σ H1 _ I1 q1
 rw[hs]at hA ⊢
 refine Calls.callWith_builtin (by show (false||(backTo cpos (starEach es X.env)).any (·.1))=false; rw[hplain] <;> rfl) (Calls.evalArgs_plain ?_)
 exact bz hA fun us s2 ⟨vs,H2,I2,r2,q2⟩=>hm pins s2 σ H2 x vs v us Q I2 r1 r2 q2
/- xs.append(e), list.index on a module's tuple .. are MtR facts of 06m -/
end
end L2
namespace L2
open PySem PySem.Spec PyProof.Rows
def yj(X:Cx)(id:String)(r:V→List V→Hp→VK→Prop):Prop:=
 ∀ (pins:List (Addr × Obj)) (s:Shared) (σ : St) (H:Hp) (x:V) (xs:List V) (v:Value) (us:List Value) (Q:VK),Inv X pins σ H s→RelV x v→Vals xs us→r x xs H Q→
  wpAny (model X.prog X.w) X.A (call (.builtin id) (v::us)) (EP X pins σ Q) X.xe s
theorem Vals.one:∀ {x:V} {us:List Value},Vals [x] us→∃ u,us=[u]∧RelV x u
 | _,_,.cons r .nil=>⟨_,rfl,r⟩
theorem Vals.zero:∀ {us:List Value},Vals [] us→us=[]
 | _,.nil=>rfl
theorem Vals.dropLast{xs:List V}{us:List Value}(h:Vals xs us):Vals xs.dropLast us.dropLast:=by
 induction h with
 | nil=>exact .nil
 | cons r t ih=>
  cases t with
  | nil=>exact .nil
  | cons q t'=>exact .cons r ih
theorem t7{α : Type}(l:List α):l.eraseIdx (l.length - 1)=l.dropLast:=by
 induction l with
 | nil=>rfl
 | cons a r ih=>
  cases r with
  | nil=>rfl
  | cons b r=>
   have e:(a::b::r).length - 1=((b::r).length - 1)+1:=by
    have h1:(a::b::r).length=r.length+2:=rfl
    have h2:(b::r).length=r.length+1:=rfl
    omega
   rw[e,List.eraseIdx_cons_succ,ih]
   all_goals rfl
section
variable{X:Cx}{pins:List (Addr × Obj)}{σ : St}{H:Hp}{s:Shared}{l b:Addr}{xs ys zs:List V}
theorem Inv.lset{its its':List Value}{n:Nat}{f:Array Value→Array Value}{t':Nat}(I:Inv X pins σ H s)(hH:H l=some (.lst xs))
  (e:s.heap.get? l=some { cls:=.type "list", data:=.seq its.toArray n }) (hf:f its.toArray=its'.toArray) (hv:Vals ys its') (hz:ys.length≤sizeLine) :
  Inv X pins σ (upd H l (.lst ys)) { s with heap:=s.heap.update l (Obj.mapSeq f),toks:=t' }:=by
 have q:=PySem.IsL.update e f
 rw[hf]at q
 refine I.write (x:=l) (e:=l) (by rw[hH]; exact trivial) (.inl rfl) (fun b' u hb hu=>(Heap.get?_update_other s.heap (Obj.mapSeq f) (Ne.symm hb)).trans hu) ⟨_,q⟩ ?_
 exact⟨hz,its',_,hv,q⟩
theorem Inv.lnew{its:List Value}{t':Nat}(I:Inv X pins σ H s)(hv:Vals ys its)(hz:ys.length≤sizeLine) :
  Inv X pins σ (upd H s.heap.objs.size (.lst ys)) { s with heap:=s.heap.push { cls:=.type "list", data:=.seq its.toArray },toks:=t' }:=
 I.laid (fun _ _ q=>Heap.get?_push_of_some _ q) (Nat.le_refl _) ⟨hz,its,0,hv,Heap.get?_push_size _ rfl⟩
theorem Inv.fresh(I:Inv X pins σ H s):H s.heap.objs.size=none:=I.hok.fresh (Nat.le_refl _)
theorem Inv.lstM(I:Inv X pins σ H s)(hH:H l=some (.lst xs)):xs.length≤sizeLine∧∃ (its:List Value) (n:Nat),Vals xs its∧xs.length=its.length∧s.heap.get? l=some { cls:=.type "list", data:=.seq its.toArray n }:=by
 obtain⟨z,its,n,r,e⟩:=I.hok l _ hH
 exact⟨z,its,n,r,r.length,e⟩
theorem wD{n:Nat}(h:n≤sizeLine):Builtin.List.listTooLong n=false:=by
 unfold Builtin.List.listTooLong
 exact decide_eq_false (by omega)
end
section
variable{X:Cx}
def lT:V→List V→Hp→VK→Prop:=fun x vs H Q=>∃ l xs y,x = .ref l∧vs=[y]∧H l=some (.lst xs)∧xs.length<sizeLine∧Q .non (upd H l (.lst (xs++[y])))
theorem mD:yj X "list.append" lT:=by
 intro pins s σ H x vs v us Q I rx rv h
 obtain⟨l,xs,y,rfl,rfl,hH,hz,q⟩:=h
 cases rx
 obtain⟨u,rfl,ru⟩:=rv.one
 obtain⟨z,its,n,r,hl,e⟩:=I.lstM hH
 refine call_meets F.slot_list_append ⟨_,e,rfl⟩ F.entry_list_append (F.args_list_append_2 _ _) (PySem.list_append l its.toArray n u (by rw[List.size_toArray]; omega)) ⟨e,?_⟩
 refine⟨.non,_,I.lset (its':=its++[u]) hH e (by simp) (r.append (.cons ru .nil)) ?_,rfl,q⟩
 rw[List.length_append,List.length_singleton]
 omega
def lF:V→List V→Hp→VK→Prop:=fun x vs H Q=>∃ l b xs zs,x = .ref l∧vs=[.ref b]∧H l=some (.lst xs)∧H b=some (.lst zs)∧xs.length+zs.length≤sizeLine∧Q .non (upd H l (.lst (xs++zs)))
theorem u3:yj X "list.extend" lF:=by
 intro pins s σ H x vs v us Q I rx rv h
 obtain⟨l,b,xs,zs,rfl,rfl,hH,hB,hz,q⟩:=h
 cases rx
 obtain⟨u,rfl,ru⟩:=rv.one
 cases ru
 obtain⟨z,its,n,r,hl,e⟩:=I.lstM hH
 obtain⟨z2,its2,n2,r2,hl2,e2⟩:=I.lstM hB
 have hsz:its.toArray.size+its2.toArray.size≤sizeLine:=by rw[List.size_toArray,List.size_toArray]; omega
 have hlong:¬ (!its.toArray.isEmpty&&Builtin.List.listTooLong (its.toArray.size+its2.toArray.size))=true:=by
  rw[wD hsz,Bool.and_false]
  exact Bool.false_ne_true
 refine call_meets F.slot_list_extend ⟨_,e,rfl⟩ F.entry_list_extend (F.args_list_extend_2 _ _)
  (AutoSeq1.list_extend_list_list_0 l its.toArray n b its2.toArray n2 hlong (by rw[List.size_toArray]; omega) (by omega)) ⟨e,e2,?_⟩
 refine⟨.non,_,I.lset (its':=its++its2) hH e (by simp) (r.append r2) ?_,rfl,q⟩
 rw[List.length_append]
 omega
def ww:V→List V→Hp→VK→Prop:=fun x vs H Q=>∃ l xs y,x = .ref l∧vs=[]∧H l=some (.lst xs)∧xs[xs.length - 1]? = some y∧Q y (upd H l (.lst xs.dropLast))
theorem BD:yj X "list.pop" ww:=by
 intro pins s σ H x vs v us Q I rx rv h
 obtain⟨l,xs,y,rfl,rfl,hH,hy,q⟩:=h
 cases rx
 have hus:=rv.zero
 subst hus
 obtain⟨z,its,n,r,hl,e⟩:=I.lstM hH
 obtain⟨u,hu,ru⟩:=r.get hy
 have hy':its.toArray[its.toArray.size - 1]? = some u:=by
  show its.toArray[its.length - 1]? = some u
  rw[← Array.getElem?_toList,← hl]
  exact hu
 refine call_meets F.slot_list_pop ⟨_,e,rfl⟩ F.entry_list_pop (F.args_list_pop_1 _) (MeetsSeq.list_pop_last l its.toArray n u hy' (by rw[List.size_toArray]; omega)) ⟨e,?_⟩
 refine⟨y,_,I.lset (its':=its.dropLast) hH e ?_ r.dropLast ?_,ru,q⟩
 ·show its.toArray.eraseIdxIfInBounds (its.toArray.size - 1)=its.dropLast.toArray
  rw[List.size_toArray,List.eraseIdxIfInBounds_toArray,t7]
 ·rw[List.length_dropLast]
  omega
def uw:V→List V→Hp→VK→Prop:=fun x vs H Q=>∃ l xs,x = .ref l∧vs=[]∧H l=some (.lst xs)∧Q .non (upd H l (.lst []))
theorem xc:yj X "list.clear" uw:=by
 intro pins s σ H x vs v us Q I rx rv h
 obtain⟨l,xs,rfl,rfl,hH,q⟩:=h
 cases rx
 have hus:=rv.zero
 subst hus
 obtain⟨z,its,n,r,hl,e⟩:=I.lstM hH
 refine call_meets F.slot_list_clear ⟨_,e,rfl⟩ F.entry_list_clear (F.args_list_clear_1 _) (AutoSeq1.list_clear_list_0 l its.toArray n (by rw[List.size_toArray]; omega)) ⟨e,?_⟩
 exact⟨.non,_,I.lset (its':=[]) (ys:=[]) hH e rfl .nil (Nat.zero_le _),rfl,q⟩
def EC:R2:=fun x y H Q=>∃ l b xs zs,x = .ref l∧y = .ref b∧H l=some (.lst xs)∧H b=some (.lst zs)∧xs.length+zs.length≤sizeLine∧∀ p,H p=none→Q (.ref p) (upd H p (.lst (xs++zs)))
theorem zT:OpR X (binaryOp .Add) EC:=by
 intro pins s σ H x y v u Q I rx ry h
 obtain⟨l,b,xs,zs,rfl,rfl,hH,hB,hz,q⟩:=h
 cases rx
 cases ry
 obtain⟨z,its,n,r,hl,e⟩:=I.lstM hH
 obtain⟨z2,its2,n2,r2,hl2,e2⟩:=I.lstM hB
 refine PySem.P.add_list e e2 ?_ (by rw[List.size_toArray,List.size_toArray]; omega)
 have ea:its.toArray++its2.toArray=(its++its2).toArray:=by simp
 rw[ea]
 exact⟨.ref _,_,I.lnew (t':=s.toks) (r.append r2) (by rw[List.length_append]; omega),rfl,q _ I.fresh⟩
end
section
variable{prog:Program}{w:World}{A:Around}{E:Value→Shared→Prop}{s:Shared}
end
section
variable{X:Cx}
end
end L2
namespace L2
open PySem PySem.Spec PyProof.Rows
section
variable{κ : Type}[DecidableEq κ]
def aK(kvs:List (κ × V))(k:κ):Option V:=(kvs.find? fun kv=>decide (kv.1=k)).map (·.2)
def aT(kvs:List (κ × V))(k:κ)(v:V):List (κ × V):=
 if (kvs.any fun kv=>decide (kv.1=k))=true then kvs.map (fun kv=>if kv.1=k then (kv.1,v) else kv) else kvs++[(k,v)]
theorem dg{p:κ × V}{r:List (κ × V)}{k:κ}(e:p.1=k):aK (p::r) k=some p.2:=by simp[aK,List.find?_cons,e]
theorem dh{p:κ × V}{r:List (κ × V)}{k:κ}(e:¬ p.1=k):aK (p::r) k=aK r k:=by simp[aK,List.find?_cons,e]
theorem gB(k:κ):∀ kvs:List (κ × V),(kvs.any fun kv=>decide (kv.1=k))=(aK kvs k).isSome
 | []=>rfl
 | p::r=>by
  rw[List.any_cons]
  by_cases e:p.1=k
  ·simp only[dg e,decide_eq_true e,Bool.true_or,Option.isSome_some]
  ·rw[dh e,decide_eq_false e,Bool.false_or]; exact gB k r
theorem pC(k j:κ)(y:V):∀ kvs:List (κ × V),aK (kvs.map fun kv=>if kv.1=k then (kv.1,y) else kv) j=(aK kvs j).map fun x=>if j=k then y else x
 | []=>rfl
 | p::r=>by
  have ih:=pC k j y r
  rw[List.map_cons]
  by_cases h:p.1=k
  ·rw[if_pos h]
   by_cases e:p.1=j
   ·rw[dg (p:=(p.1,y)) e,dg e,Option.map_some,if_pos (e.symm.trans h)]
   ·rw[dh (p:=(p.1,y)) e,dh e,ih]
  ·rw[if_neg h]
   by_cases e:p.1=j
   ·rw[dg (p:=p) e,dg e,Option.map_some,if_neg (fun z=>h (e.trans z))]
   ·rw[dh (p:=p) e,dh e,ih]
theorem mB(k j:κ)(y:V):∀ kvs:List (κ × V),aK kvs k=none→aK (kvs++[(k,y)]) j=if j=k then some y else aK kvs j
 | [],_=>by
  by_cases e:k=j
  ·rw[if_pos e.symm]; exact dg (p:=(k,y)) e
  ·rw[if_neg (fun z=>e z.symm)]; exact dh (p:=(k,y)) e
 | p::r,hn=>by
  rw[List.cons_append]
  have hk:¬ p.1=k:=fun z=>by rw[dg z]at hn; cases hn
  rw[dh hk]at hn
  have ih:=mB k j y r hn
  by_cases e:p.1=j
  ·rw[dg e,dg e,if_neg (fun z=>hk (e.trans z))]
  ·rw[dh e,dh e,ih]
theorem dC(kvs:List (κ × V))(k j:κ)(y:V):aK (aT kvs k y) j=if j=k then some y else aK kvs j:=by
 unfold aT
 by_cases a:(kvs.any fun kv=>decide (kv.1=k))=true
 ·rw[if_pos a,pC]
  rw[gB]at a
  by_cases e:j=k
  ·obtain⟨x,hx⟩:=Option.isSome_iff_exists.mp a
   rw[if_pos e,e,hx,Option.map_some,if_pos rfl]
  ·rw[if_neg e]
   cases aK kvs j with
   | none=>rfl
   | some x=>rw[Option.map_some,if_neg e]
 ·rw[if_neg a]
  refine mB k j y kvs ?_
  rw[gB]at a
  cases q:aK kvs k with
  | none=>rfl
  | some x=>rw[q]at a; exact(a rfl).elim
theorem eY(kvs:List (κ × V))(k:κ)(v:V):(aT kvs k v).length≤kvs.length+1:=by
 unfold aT
 split
 ·rw[List.length_map]; omega
 ·rw[List.length_append,List.length_cons,List.length_nil]; omega
theorem xm{kvs:List (κ × V)}{k:κ}(v:V)(h:aK kvs k=none):aT kvs k v=kvs++[(k,v)]:=by
 unfold aT
 rw[gB,h]
 exact if_neg (by decide)
theorem RelO.isSome_eq{o:Option V}{u:Option Value}(r:RelO o u):o.isSome=u.isSome:=by
 cases o with
 | none=>cases u with
  | none=>rfl
  | some _=>exact(show False from r).elim
 | some _=>cases u with
  | none=>exact(show False from r).elim
  | some _=>rfl
theorem RelO.getD{o:Option V}{u:Option Value}{d:V}{d':Value}(r:RelO o u)(rd:RelV d d'):RelV (o.getD d) (u.getD d'):=by
 cases o with
 | none=>cases u with
  | none=>exact rd
  | some _=>exact(show False from r).elim
 | some _=>cases u with
  | none=>exact(show False from r).elim
  | some _=>exact r
theorem KV.val{kvs:List (κ × V)}{vs:List (κ × Value)}(r:KV kvs vs)(k:κ):RelO (aK kvs k) (valueAt vs k):=by
 unfold KV at r
 induction r with
 | nil=>exact True.intro
 | @cons p q ps qs h t ih=>
  obtain⟨h1,h2⟩:=h
  by_cases e:p.1=k
  ·have e':q.1=k:=h1.symm.trans e
   have b:valueAt (q::qs) k=some q.2:=by simp[valueAt,List.find?_cons,e']
   rw[dg e,b]; exact h2
  ·have e':¬ q.1=k:=fun z=>e (h1.trans z)
   have b:valueAt (q::qs) k=valueAt qs k:=by simp[valueAt,List.find?_cons,e']
   rw[dh e,b]; exact ih
theorem KV.any{kvs:List (κ × V)}{vs:List (κ × Value)}(r:KV kvs vs)(k:κ):(kvs.any fun kv=>decide (kv.1=k))=vs.any fun kv=>decide (kv.1=k):=by
 unfold KV at r
 induction r with
 | nil=>rfl
 | cons h t ih=>rw[List.any_cons,List.any_cons,ih,h.1]
theorem KV.repl{kvs:List (κ × V)}{vs:List (κ × Value)}(r:KV kvs vs)(k:κ){y:V}{u:Value}(ry:RelV y u) :
  KV (kvs.map fun kv=>if kv.1=k then (kv.1,y) else kv) (vs.map fun kv=>if kv.1=k then (kv.1,u) else kv):=by
 unfold KV at r ⊢
 induction r with
 | nil=>exact .nil
 | @cons p q ps qs h t ih=>
  rw[List.map_cons,List.map_cons]
  refine .cons ?_ ih
  obtain⟨h1,h2⟩:=h
  by_cases e:p.1=k
  ·rw[if_pos e,if_pos (h1.symm.trans e)]; exact⟨h1,ry⟩
  ·rw[if_neg e,if_neg (fun z=>e (h1.trans z))]; exact⟨h1,h2⟩
theorem KV.put{kvs:List (κ × V)}{vs:List (κ × Value)}(r:KV kvs vs)(k:κ){y:V}{u:Value}(ry:RelV y u):KV (aT kvs k y) (stored vs k u):=by
 unfold aT stored
 rw[r.any k]
 by_cases e:(vs.any fun kv=>decide (kv.1=k))=true
 ·rw[if_pos e,if_pos e]; exact r.repl k ry
 ·rw[if_neg e,if_neg e]; exact Paired.snoc r ⟨rfl,ry⟩
theorem KV.length{kvs:List (κ × V)}{vs:List (κ × Value)}(r:KV kvs vs):kvs.length=vs.length:=Paired.length r
end
theorem nJ{P:Program}{w:World}{k:aB}{u:Value}(r:RelV (kV k) u):(cP P w).is k u=true:=by
 cases k with
 | inl i=>obtain⟨t,e⟩:=(show ∃ t,u=Value.int i t from r); subst e; exact qr P w i t
 | inr x=>obtain⟨t,e⟩:=(show ∃ t,u=Value.str x t from r); subst e; exact qt P w x t
theorem m6{P:Program}{w:World}:∀ {ks:List aB} {us:List Value},Vals (ks.map kV) us→ItemsAre (cP P w) ks us
 | [],_,r=>by rw[List.map_nil]at r; cases r; exact .nil
 | k::ks,_,r=>by
  rw[List.map_cons]at r
  cases r with
  | cons h t=>exact .cons (nJ h) (m6 t)
abbrev KT (H:Hp):List (List aB × V)→List (List aB × Addr × Value)→Prop:=Paired fun p q=>p.1=q.1∧H q.2.1=some (.tup (p.1.map kV))∧RelV p.2 q.2.2
theorem KT.val{H:Hp}{kvs:List (List aB × V)}{xs:List (List aB × Addr × Value)}(r:KT H kvs xs)(k:List aB):RelO (aK kvs k) ((atKey xs k).map (·.2)):=by
 induction r with
 | nil=>exact True.intro
 | @cons p q ps qs h t ih=>
  obtain⟨h1,_,h2⟩:=h
  by_cases e:p.1=k
  ·have e':q.1=k:=h1.symm.trans e
   have b:atKey (q::qs) k=some q.2:=by simp[atKey,List.find?_cons,e']
   rw[dg e,b]; exact h2
  ·have e':¬ q.1=k:=fun z=>e (h1.trans z)
   have b:atKey (q::qs) k=atKey qs k:=by simp[atKey,List.find?_cons,e']
   rw[dh e,b]; exact ih
theorem KT.repl{H:Hp}{kvs:List (List aB × V)}{xs:List (List aB × Addr × Value)}(r:KT H kvs xs)(k:List aB){y:V}{u:Value}(ry:RelV y u) :
  KT H (kvs.map fun kv=>if kv.1=k then (kv.1,y) else kv) (xs.map (putAt k u)):=by
 induction r with
 | nil=>exact .nil
 | @cons p q ps qs h t ih=>
  rw[List.map_cons,List.map_cons]
  refine .cons ?_ ih
  obtain⟨h1,h2,h3⟩:=h
  unfold putAt
  by_cases e:p.1=k
  ·rw[if_pos e,if_pos (h1.symm.trans e)]; exact⟨h1,h2,ry⟩
  ·rw[if_neg e,if_neg (fun z=>e (h1.trans z))]; exact⟨h1,h2,h3⟩
theorem KT.put{H:Hp}{kvs:List (List aB × V)}{xs:List (List aB × Addr × Value)}(r:KT H kvs xs)(k:List aB){b:Addr}{y:V}{u:Value}(hb:H b=some (.tup (k.map kV)))(ry:RelV y u) :
  KT H (aT kvs k y) (storedH xs k b u):=by
 have e:(kvs.any fun kv=>decide (kv.1=k))=(atKey xs k).isSome:=by
  rw[gB,(r.val k).isSome_eq,Option.isSome_map]
 unfold aT storedH
 rw[e]
 by_cases q:(atKey xs k).isSome=true
 ·rw[if_pos q,if_pos q]; exact r.repl k ry
 ·rw[if_neg q,if_neg q]; exact Paired.snoc r ⟨rfl,hb,ry⟩
theorem KT.keeps{H H':Hp}{kvs:List (List aB × V)}{xs:List (List aB × Addr × Value)}(r:KT H kvs xs)(ht:∀ b ys,H b=some (.tup ys)→H' b=some (.tup ys)):KT H' kvs xs:=
 Paired.mapP r fun _ _ z=>⟨z.1,ht _ _ z.2.1,z.2.2⟩
section
variable{P:Program}{w:World}{H:Hp}{h:Heap}{a:Addr}
theorem yG{u:HO}(ok:HOk P w H h)(e:Rd H a u):ObjOk P w H h a u:=e.ok ok
theorem nE{kvs:List (aB × V)}(ok:HOk P w H h)(e:Rd H a (.dK kvs)):kvs.length≤sizeLine∧(a == sysModules)=false∧∃ vs,KV kvs vs∧h.DictOf (cP P w) a vs:=
 show ObjOk P w H h a (.dK kvs) from yG ok e
theorem yL{kvs:List (aB × V)}(ok:HOk P w H h)(e:H a=some (.dK kvs)):kvs.length≤sizeLine∧(a == sysModules)=false∧∃ vs,KV kvs vs∧h.DictOf (cP P w) a vs:=nE ok (.inl e)
theorem v3{ks:List aB}(ok:HOk P w H h)(e:H a=some (.tup (ks.map kV))):(tupleKind (cP P w)).is h ks a:=by
 obtain⟨_,its,r,o,h1,h2,_,n,h3⟩:=(show ObjOk P w H h a (.tup (ks.map kV)) from ok a _ e)
 exact⟨o,its.toArray,n,h1,h2,h3,by simpa using m6 r⟩
theorem BO{kvs:List (List aB × V)}(ok:HOk P w H h)(e:Rd H a (.dT kvs)):kvs.length≤sizeLine∧(a == sysModules)=false∧
  ∃ xs,KT H kvs xs∧h.DictOfH (tupleKind (cP P w)) a xs:=by
 obtain⟨z,y,xs,r,o,es,ep,h1,h2,h3,h4,h5⟩:=(show ObjOk P w H h a (.dT kvs) from yG ok e)
 refine⟨z,y,xs,r,o,es,ep,h1,h2,h3,h4,fun x hx=>?_,h5⟩
 have all:∀ {l:List (List aB × V)} {m:List (List aB × Addr × Value)},KT H l m→∀ x∈m,(tupleKind (cP P w)).is h x.1 x.2.1:=by
  intro l m q
  induction q with
  | nil=>intro x hx; exact nomatch hx
  | @cons p q ps qs hq t ih=>
   intro x hx
   rcases List.mem_cons.mp hx with e | hx
   ·subst e
    exact v3 ok (by rw[← hq.1]; exact hq.2.1)
   ·exact ih x hx
 exact all r x hx
theorem BZ{kvs:List (List aB × V)}(ok:HOk P w H h)(e:H a=some (.dT kvs)):kvs.length≤sizeLine∧(a == sysModules)=false∧
  ∃ xs,KT H kvs xs∧h.DictOfH (tupleKind (cP P w)) a xs:=BO ok (.inl e)
end
def DPut(H:Hp)(a:Addr)(y v:V)(H':Hp):Prop:=
 (∃ kvs k,H a=some (.dK kvs)∧y=kV k∧kvs.length<sizeLine∧H'=upd H a (.dK (aT kvs k v)))∨
 ∃ kvs k b,H a=some (.dT kvs)∧y = .ref b∧H b=some (.tup (k.map kV))∧kvs.length<sizeLine∧H'=upd H a (.dT (aT kvs k v))
theorem DPut.k{H:Hp}{a:Addr}{kvs:List (aB × V)}{k:aB}{v:V}(e:H a=some (.dK kvs))(hl:kvs.length<sizeLine):DPut H a (kV k) v (upd H a (.dK (aT kvs k v))):=.inl ⟨kvs,k,e,rfl,hl,rfl⟩
section
variable{X:Cx}{pins:List (Addr × Obj)}{σ : St}{H:Hp}{s:Shared}{a:Addr}{y v:V}{u r:Value}{o:Option V}{A:Around}{E:Value→Shared→Prop}
theorem Inv.big(I:Inv X pins σ H s):sysModules<s.heap.objs.size:=by
 have h:mainGlobals<s.heap.objs.size:=(I.mod.glob.keeps I.bk).lt
 exact Nat.lt_trans (by decide) h
theorem lW{h':Heap}{t':Nat}{ob:HO}(I:Inv X pins σ H s)(mu:ve (H a))(hs:Heap.SameBut a s.heap h')(he:∃ q,h'.get? a=some q)(new:ObjOk X.prog X.w (upd H a ob) h' a ob) :
  Inv X pins σ (upd H a ob) { s with heap:=h',toks:=t' }:=
 I.write (x:=a) (e:=a) mu (.inl rfl) (fun b q hb z=>(hs.2 b hb).trans z) he new
theorem vm{P:Program}{w:World}{H':Hp}{h':Heap}{kvs:List (aB × V)}{vs:List (aB × Value)}(z:kvs.length≤sizeLine)(hd:(a == sysModules)=false)(rel:KV kvs vs)(dd:h'.DictOf (cP P w) a vs) :
  ObjOk P w H' h' a (.dK kvs):=⟨z,hd,vs,rel,dd⟩
theorem ux{H':Hp}{Q:Unit→Shared→Prop}(hu:A.units+1<cLine)(I:Inv X pins σ H s)(g:DPut H a y v H')(ry:RelV y u)(rv:RelV v r)(h:∀ s',Inv X pins σ H' s'→Q () s') :
  wpAny (model X.prog X.w) A (setItem (.ref a) u r) Q E s:=by
 rcases g with ⟨kvs,k,e,ey,l,eH⟩ | ⟨kvs,k,b,e,ey,eb,l,eH⟩
 ·subst ey eH
  obtain⟨z,hd,vs,rel,dd⟩:=yL I.hok e
  have hz:vs.length≤sizeLine:=by rw[← rel.length]; exact z
  have hl:(aT kvs k v).length≤sizeLine:=by have:=eY kvs k v; omega
  refine wpAny_setItem_pairs (hsz:=hz) (nJ ry) dd fun h' dd' hs=>h _ ?_
  have he:∃ q,h'.get? a=some q:=let ⟨q,_,_,hq,_⟩:=dd'; ⟨q,hq⟩
  exact lW I (by rw[e]; exact True.intro) hs he (vm hl hd (rel.put k rv) dd')
 ·subst ey eH
  cases (show u=Value.ref b from ry)
  obtain⟨z,hd,xs,rel,dd⟩:=BZ I.hok e
  have hz:xs.length≤sizeLine:=by rw[← Paired.length rel]; exact z
  have hl:(aT kvs k v).length≤sizeLine:=by have:=eY kvs k v; omega
  refine wpAny_setItem_heap (hsz:=hz) (tupleKind_room_in1 hu) (v3 I.hok eb) dd fun h' dd' hs=>h _ ?_
  obtain⟨q,es,ep,hq,h2,h3,h4,_,h5⟩:=dd'
  refine lW I (by rw[e]; exact True.intro) hs ⟨q,hq⟩ ⟨hl,hd,_,(rel.put k eb rv).keeps fun c ys ec=>?_,q,es,ep,hq,h2,h3,h4,h5⟩
  rw[ah (ci ec e (fun z=>nomatch z))]
  exact ec
end
section
variable{X:Cx}{pins:List (Addr × Obj)}{σ : St}{H:Hp}{s:Shared}{a:Addr}{kvs:List (aB × V)}{k:aB}{u:Value}{A:Around}{E:Value→Shared→Prop}
theorem BL{Q:Value→Shared→Prop}(I:Inv X pins σ H s)(e:Rd H a (.dK kvs))(h:∀ t s',Inv X pins σ H s'→Q (.int kvs.length t) s'):wpAny (model X.prog X.w) A (call (.builtin "len") [.ref a]) Q E s:=by
 obtain⟨z,hd,vs,rel,dd⟩:=nE I.hok e
 refine call_len_dict hd dd (by rw[← rel.length]; rw[sizeLine_eq]at z; omega) ?_
 rw[← rel.length]
 exact h _ _ (I.tok _)
end
section
variable{X:Cx}{o i e value:Expr}{pos pos' tpos:Pos}{td ty tv:TE}
end
theorem ya{P:Program}{w:World}{H:Hp}(h:Heap)(hb:sysModules<h.objs.size):ObjOk P w H (h.push { cls:=.type "dict", data:=.dict #[] }) h.objs.size (.dK []):=
 ⟨Nat.zero_le _,beq_eq_false_iff_ne.mpr (Ne.symm (Nat.ne_of_lt hb)),[],.nil,Heap.DictOf.new h⟩
def AO:TE:=fun _ H Q=>∀ p,H p=none→Q (.ref p) (upd H p (.dK []))
section
variable{X:Cx}{pos:Pos}
theorem iz:PE X (.Dict [] [] pos) AO:=fun pins s σ H Q I h=>
 wpAny_Dict_empty ⟨.ref s.heap.objs.size,_,I.laid (a:=s.heap.objs.size) (o:=.dK []) (t':=s.toks) (fun _ _ q=>Heap.get?_push_of_some _ q) (Nat.le_refl _) (ya s.heap I.big),rfl,h _ (I.hok.fresh (Nat.le_refl _))⟩
end
def jk:List (TE × TE)→St→Hp→(List (V × V)→Hp→Prop)→Prop
 | [],_,H,Q=>Q [] H
 | (tk,tv)::r,σ,H,Q=>tk σ H fun x H1=>tv σ H1 fun y H2=>jk r σ H2 fun ps H3=>Q ((x,y)::ps) H3
abbrev VV:List (V × V)→List (Value × Value)→Prop:=Paired fun p q=>RelV p.1 q.1∧RelV p.2 q.2
def PPs(X:Cx)(pos:Pos)(keys:List (Option Expr))(values:List Expr)(trs:List (TE × TE)):Prop:=
 ∀ (pins:List (Addr × Obj)) (s:Shared) (σ : St) (H:Hp) (Q:List (V × V)→Hp→Prop),Inv X pins σ H s→jk trs σ H Q→
  wpAny (model X.prog X.w) X.A (evalPairs (pairTrees keys values X.env pos)) (fun vs s'=>∃ ps H',Inv X pins σ H' s'∧VV ps vs∧Q ps H') X.xe s
section
variable{X:Cx}{pins:List (Addr × Obj)}{σ : St}{H:Hp}{s:Shared}{a:Addr}{y d:V}{u r:Value}{o:Option V}{A:Around}{E:Value→Shared→Prop}
end
section
variable{X:Cx}{o e f:Expr}{apos cpos:Pos}{td ty tx:TE}
end
section
variable{X:Cx}{pins:List (Addr × Obj)}{σ : St}{H:Hp}{s:Shared}{a:Addr}{kvs:List (aB × V)}{A:Around}{E:Value→Shared→Prop}
end
section
variable{X:Cx}{pins:List (Addr × Obj)}{σ : St}{H:Hp}{s:Shared}{a:Addr}{y:V}{u:Value}{A:Around}{E:Value→Shared→Prop}
end
end L2
namespace Att
open PySem PySem.W PySem.Calls PyProof.Rows
theorem kC{P:Params}{h:Heap}:∀ (ns:List Int) (vs:List Value),WellAll P h vs (ns.map WData.int)→IntsAre vs ns:=by
 intro ns
 induction ns with
 | nil=>
  intro vs w
  rw[List.map_nil]at w
  cases w
  exact .nil
 | cons n ns ih=>
  intro vs w
  rw[List.map_cons]at w
  cases w with
  | cons a b=>
   cases a
   exact .cons _ _ (ih _ b)
theorem uM{l:OpenLaw}{n:Nat}(hn:l.most=some n){P:Params}{h:Heap}{args:List WData}{vals:List Value}
  (hpre:l.row.toRowW.claim.pre args=true) (hwl:WellAll P h vals args) :
  ∃ a vs ns,vals=[Value.ref a]∧args=[WData.list (ns.map WData.int)]∧h.get? a=some { cls:=.type "list", data:=.seq vs.toArray }∧IntsAre vs ns∧ns.length≤n:=by
 have hsh:WShape.hasAll [] args [.list .int]=true:=(pre_splitW hpre).1
 have hc:l.pre.holds [] { args:=args }=true:=(pre_splitW hpre).2
 obtain⟨d,r,rfl,h1,h2⟩:=hasAllW_cons hsh
 obtain rfl:=hasAllW_nil h2
 obtain⟨xs,rfl,h3⟩:=hasW_list h1
 obtain⟨ns,rfl⟩:=items_int h3
 have hlen:ns.length≤n:=by
  unfold OpenLaw.pre at hc
  have h4:(WTm.not (.lt (.lit (.int (n:Int))) (.len (.arg 0)))).holds [] { args:=[.list (ns.map .int)] }=true:=by
   have h4:=(holds_andW hc).1
   rw[hn]at h4
   exact h4
  have h5:=condW_of h4 (w_not (w_lt w_lit (w_len_list (w_arg rfl))))
  rw[List.length_map]at h5
  refine Nat.le_of_not_lt fun q=>?_
  have q':(n:Int)<((ns.length:Nat):Int):=by omega
  first
   | (rw[decide_eq_true q']at h5; exact absurd h5 (by decide))
   | (simp at h5; omega)
 cases hwl with
 | cons w1 w2=>
  cases w2
  cases w1 with
  | list ho hall=>exact⟨_,_,ns,rfl,rfl,ho,kC ns _ hall,hlen⟩
theorem uB(l:OpenLaw)(args:List WData):l.row.toRowW.claim.post args (.bool true) args=true:=
 postW_of (r:=l.row.toRowW) (X:=(true == true))
  (show WShape.has [] (.bool true) .bool=true by first | rfl | decide | simp[WShape.has,WShape.arms,WShape.armsAll])
  (show (WTm.eq .res (.lit (.bool true))).value [] { args:=args,res:=some (.bool true),after:=args }=some (.bool (true == true)) from w_eq_bool (w_res rfl) w_lit) rfl
theorem attach_call{l:OpenLaw}{n:Nat}{q:Program}{loose:List Str}{XP:(Str→Option Value)→Heap→Prop}{YP:World→Heap→Prop}{d:DefRec}
  (hn:l.most=some n) (hdf:d.params.defaults=[])
  (call:∀ (w:World) (s₀ s₁:Shared) (mg mb:Str→Option Value) (fa:Addr) (o:Obj) (pm cd doc:Value) (a:Addr) (vs:List Value) (ns:List Int),
   Ground q loose [] XP w s₀ mg mb s₁.heap→YP w s₁.heap→
   s₁.heap.get? fa=some o→o.data = .func (docDef d.name d.params d.body d.scope pm cd doc)→s₁.heap.CodeRec cd d.name→mg d.name=some (.ref fa)→
   s₁.heap.get? a=some { cls:=.type "list", data:=.seq vs.toArray }→IntsAre vs ns→ns.length≤n→s₁.gens = #[]→
   codeAny (model l.prog w) callerA (.call (.ref fa) ⟨[.ref a],[]⟩) (fun r s'=>r = .ok (.ret (.bool true))∧OldK s₁.heap s'.heap∧s'.os=s₁.os∧AllBare s'.gens) s₁) :
  WalkO q loose XP YP l.row.toRowW d [] (fun f vs=>PySem.call f vs):=by
 intro w s₀ s₁ mg mb G Y fa o pm cd doc dV kV ho hd hcd hD hmg hg args vals as hpre hlay hrd hwl hlo
 obtain rfl:dV = .none:=Dflts.none hD hdf
 obtain rfl:kV = .none:=Dflts.noKw hD
 obtain⟨a,vs,ns,rfl,rfl,hobj,hints,hlen⟩:=uM hn hpre hwl
 refine enter_call (codeAny_mono (call w s₀ s₁ mg mb fa o pm cd doc a vs ns G Y ho (fd_plain hd) hcd hmg hobj hints hlen hg) fun r s' hq=>?_)
 obtain⟨rfl,h2,h3,h4⟩:=hq
 exact⟨.inl ⟨.bool true,.bool true,[],rfl,fun _=>rfl,.bool true,uB l _,fun _=>⟨List.Pairwise.nil,fun _ hm=>(nomatch hm)⟩⟩,h2,h3,h4⟩
section
variable{prog:Program}{w:World}{A:Around}{E:Value→Shared→Prop}{s:Shared}{K:Frag}
end
end Att
namespace L2
open PySem PySem.Spec PyProof.Rows
theorem mO:∀ {vs:List Value} {ns:List Int},IntsAre vs ns→Vals (ns.map V.int) vs
 | _,_,.nil=>.nil
 | _,_,.cons n t h=>.cons ⟨t,rfl⟩ (mO h)
def xP(H:Hp):Prop:=∀ b,H b=none∨∃ o xs,H b=some (.frz o (.lst xs))
theorem wj{P:Program}{w:World}{K:PySem.W.Frag}{mg mb:Str→Option Value}{CX:h_}{k:Nat}{fa a:Addr}{fd:FuncData}{x:Str}{sp:Sp}{s₁:Shared}{vs:List Value}{ns:List Int}
  (KX:K.In s₁.heap) (hns:s₁.heap.Ns mainGlobals mg) (hb:s₁.heap.Ns builtinsNs mb) (hbb:∀ x:Str,x ≠ "__name__" → mb x=bootBuiltins x) (hlim:s₁.heap.NoLimit) (hg:s₁.gens = #[])
  (ha:s₁.heap.get? a=some { cls:=.type "list", data:=.seq vs.toArray }) (hi:IntsAre vs ns) (hl:ns.length≤sizeLine) (hr:Room k callerA)
  (F:∀ base:Heap,K.In base→base.Ns mainGlobals mg→FnOk P w K mg base CX k fa fd [x] sp) (hbind:∀ (s:Shared) (u:Value),BindsTo s fd ⟨[u],[]⟩ [(x,u)])
  (hsp:∀ H:Hp,xP H→SqL K H a (ns.map V.int)→sp [.ref a] H (fun v _=>v = .bl true) fun _ _ _=>False)
  (hCX:∀ H e s',CX [] H s₁ (fun _ _ _=>False) e s'→False) :
  codeAny (model P w) callerA (.call (.ref fa) ⟨[.ref a],[]⟩) (fun r s'=>r = .ok (.ret (.bool true))∧OldK s₁.heap s'.heap∧s'.os=s₁.os∧AllBare s'.gens) s₁:=by
 have rv:=mO hi
 have lenV:=hi.length
 -- from an abstract heap in which nothing but the script may be tracked
 have core:∀ H:Hp,xP H→SqL K H a (ns.map V.int)→HOk P w H s₁.heap→(∀ b,H b≠none→b=a)→(H a≠none→K.lookup a=none)→
   codeAny (model P w) callerA (.call (.ref fa) ⟨[.ref a],[]⟩) (fun r s'=>r = .ok (.ret (.bool true))∧OldK s₁.heap s'.heap∧s'.os=s₁.os∧AllBare s'.gens) s₁:=by
  intro H hO hS hok hA hK
  have base_of:∀ {b:Addr} {o:Obj},s₁.heap.get? b=some o→H b=none→(iA s₁.heap H).get? b=some o:=fun e n=>wN e n
  have noA:∀ {b:Addr} {o:Obj} {es:Array DictEntry} {ep:Nat},s₁.heap.get? b=some o→o.data = .dict es ep→H b=none:=fun {b o es ep} e d=>by
   cases q:H b with
   | none=>rfl
   | some u=>
    have e':b=a:=hA b (by rw[q]; simp)
    subst e'
    rw[ha]at e; cases e
    have d':Data.seq vs.toArray _=Data.dict es ep:=d
    cases d'
  have nsK:∀ {b:Addr} {m:Str→Option Value},s₁.heap.Ns b m→(iA s₁.heap H).Ns b m:=fun {b m} ⟨o,es,ep,e,d,r⟩=>⟨o,es,ep,base_of e (noA e d),d,r⟩
  have hKb:K.In (iA s₁.heap H):=fun b o e=>base_of (KX b o e) (by
   cases q:H b with
   | none=>rfl
   | some u=>
    have e':b=a:=hA b (by rw[q]; simp)
    subst e'
    rw[hK (by rw[q]; simp)]at e; cases e)
  have hM:Mod K mg (iA s₁.heap H):=⟨hKb,nsK hns,⟨mb,nsK hb,hbb⟩,let ⟨mc,h1,h2⟩:=hlim; ⟨mc,nsK h1,h2⟩⟩
  have e0:Env0 P w K mg (iA s₁.heap H) callerA [] s₁ H:=⟨rfl,hM,fun b o e=>zd e,Nat.le_of_eq (uX _ _),trivial,fun b hb=>absurd (show b∈([]:List Addr) from hb) (by simp),hok,.of_eq hg⟩
  refine codeAny_mono ((F _ hKb (nsK hns)).run callerA [] s₁ H ⟨[.ref a],[]⟩ [.ref a] [.ref a] _ _ hr e0 (hbind s₁ (.ref a)) (.cons rfl .nil) (hsp H hO hS)) fun r s' h=>?_
  cases r with
  | error e=>exact(hCX H e s' h).elim
  | ok fl=>
   cases fl with
   | next=>exact False.elim h
   | brk=>exact False.elim h
   | cont=>exact False.elim h
   | ret u=>
    obtain⟨v,H',os,bare,un,hok',r',q⟩:=h
    have q':v = .bl true:=q
    subst q'
    obtain rfl:u=Value.bool true:=r'
    refine⟨rfl,OldK.of_keep fun b o e=>?_,os,bare⟩
    cases q:H b with
    | none=>exact un.keep b o e q (by intro z; exact absurd (show b∈([]:List Addr) from z) (by simp)) (by simp)
    | some u=>
     rcases hO b with z | ⟨ob,xs,z⟩
     ·rw[q]at z; cases z
     ·have z2:=un.frzs b ob _ z
      obtain⟨e1,_⟩:=hok b _ z
      obtain⟨e2,_⟩:=hok' b _ z2
      rw[e]at e1; cases e1
      exact e2
 cases hk:K.lookup a with
 | some o=>
  -- the script is one of the module's own objects
  have e:=KX a o hk
  rw[ha]at e
  cases e
  refine core (fun _=>none) (fun _=>.inl rfl) (.inr ⟨_,vs.toArray,_,hk,rfl,rfl,rfl,by rw[List.size_toArray,lenV]; exact hl,by simpa using rv⟩) (fun b u z=>by have z':(none:Option HO)=some u:=z; cases z') (fun b z=>absurd rfl z) fun z=>absurd rfl z
 | none=>
  refine core (fun b=>if b=a then some (.frz { cls:=.type "list", data:=.seq vs.toArray } (.lst (ns.map V.int))) else none) (fun b=>?_) (.inl (.inr ⟨{ cls:=.type "list", data:=.seq vs.toArray },if_pos rfl⟩)) (fun b u z=>?_) (fun b z=>?_) fun _=>hk
  ·by_cases hb:b=a
   ·exact .inr ⟨_,_,if_pos hb⟩
   ·exact .inl (if_neg hb)
  ·by_cases hb:b=a
   ·have z':=(if_pos hb).symm.trans z
    cases z'
    subst hb
    exact⟨ha,by rw[List.length_map]; exact hl,vs,_,rv,ha⟩
   ·have z':=(if_neg hb).symm.trans z
    cases z'
  ·by_cases hb:b=a
   ·exact hb
   ·exact absurd (if_neg hb) z
end L2
namespace L2
open PySem PySem.Spec PyProof.Rows
abbrev KOf {K:PySem.W.Frag} {h:Heap} (_:K.In h):PySem.W.Frag:=K
theorem walk_of{l:PySem.W.OpenLaw}{n k:Nat}{q:Program}{loose:List Str}{XP:(Str→Option Value)→Heap→Prop}{YP:World→Heap→Prop}{d:DefRec}{K:Params→PySem.W.Frag}{CX:World→h_}{sp:World→Sp}{x:Str}
  (hn:l.most=some n) (hn2:n≤sizeLine) (hdf:d.params.defaults=[]) (hr:Room k callerA)
  (hY:∀ (w:World) (h:Heap),YP w h→(K w.params).In h)
  (F:∀ (w:World) (mg:Str→Option Value) (fa:Addr) (h:Heap),(K w.params).In h→h.Ns mainGlobals mg→mg d.name=some (.ref fa)→
   ∃ fd:FuncData,(∀ (s:Shared) (u:Value),BindsTo s fd ⟨[u],[]⟩ [(x,u)])∧
    ∀ base:Heap,(K w.params).In base→base.Ns mainGlobals mg→FnOk l.prog w (K w.params) mg base (CX w) k fa fd [x] (sp w))
  (hsp:∀ (w:World) (H:Hp) (a:Addr) (ns:List Int),ns.length≤n→xP H→SqL (K w.params) H a (ns.map V.int)→sp w [.ref a] H (fun v _=>v = .bl true) fun _ _ _=>False)
  (hCX:∀ (w:World) (H:Hp) (s:Shared) (e:Value) (s':Shared),CX w [] H s (fun _ _ _=>False) e s'→False) :
  PySem.W.WalkO q loose XP YP l.row.toRowW d [] (fun f vs=>PySem.call f vs):=by
 refine Att.attach_call hn hdf fun w s₀ s₁ mg mb fa o pm cd doc a vs ns G Y ho hd hcd hmg hobj hints hlen hg=>?_
 have KX:=hY w _ Y
 obtain⟨fd,hb,hF⟩:=F w mg fa _ KX G.T.g hmg
 exact wj KX G.T.g G.T.b G.T.builtins G.T.nolimit hg hobj hints (Nat.le_trans hlen hn2) hr hF hb (fun H hO hS=>hsp w H a ns hlen hO hS) fun H e s'=>hCX w H s₁ e s'
end L2
/- THE LAST THEOREM (shape; LID, My.* are yours):
   My.Adr: a structure of the addresses that your layer names (classes,functions); My.Txt K t: a structure (Prop) of the equations over K;
   My.txt_mk:{K} {implicit addresses ..} (e1:nsIn K mainGlobals "law" = some (some (.ref f))) (e2:K.lookup f=some ⟨oc,od,.func (fnOf "law" "law" params body scope dV kV doc pm an cdv ct),sl⟩) (e3:codeIn K cdv "law" = true) .. : ∃ t,My.Txt K t
set_option maxRecDepth 100000 in
set_option maxHeartbeats 0 in
theorem PySem.Challenge.cw_LID_holds : PySem.Challenge.rw_LID.Holds := by
 w_on; o_law; k_head; (case hw=>w_witness2)
 k_fill
 refine L2.walk_of (l:=PySem.Challenge.rw_LID) (n:=63) (k:=40) (x := "script") (CX:=fun w=>..) (sp:=fun _=>My.sp_law) rfl (by decide) rfl ⟨rfl,by decide,by decide⟩ (fun w h Y=>PySem.W.kIn_of Y) ?F ?S ?C
 case F=>
  intro w mg fa h KX G hmg
  have T:∃ t,My.Txt (L2.KOf KX) t:=by
   dsimp only[L2.KOf]                          -- K must stand as «<heap const> w.params» for k_is
   refine' My.txt_mk ?e1 ?e2 ?e3 ..
   (case e1=>PySem.W.k_is)                    -- in the order: a name -> its address -> its object -> its parts
   (case e2=>PySem.W.k_is)
   ..
  obtain⟨t,T⟩:=T
  have e0:=hmg.symm.trans (PySem.W.mg_of KX G T.law)
  cases e0                                       -- fa is the law's own address
  exact⟨_,fun s u=>.of_eq rfl,fun base kb nb=>My.law_fn T kb nb⟩     -- if «.of_eq rfl» comes too early: refine' ⟨_,?b,fun base kb nb=>My.law_fn T kb nb⟩; exact fun s u=>.of_eq rfl
 case S=>exact fun w H a ns hl hO hS=>..
 case C=>exact ..
(the tactic k_is has no namespace: write k_is) -/
namespace L2
open PySem PySem.Spec PyProof.Rows
abbrev i7:h_:=fun _ _ _ _ _ _=>False
abbrev E0:XK:=fun _ _ _=>False
theorem yf{X:Cx}:kQ i7 X E0:=fun _ _ _ _ _ _ _ h=>h.elim
structure Fun (K:PySem.W.Frag) (x qual:Str) (st:Stmt) (f:Addr) (fd:FuncData):Prop where
 ex:∃ (oc:Value) (od:Option Addr) (kV doc pm:Value) (an:Option Addr) (cdv ct:Value) (osl:Array (Option Value)),
  fd=PySem.W.fnOf x qual (defArgs st) (defBody st) (defScope st) .none kV doc pm an cdv ct∧K.lookup f=some ⟨oc,od,.func fd,osl⟩∧PySem.W.codeIn K cdv qual=true
 kp:PySem.W.keepIn K (.ref f)=true
section
variable{P:Program}{w:World}{K:PySem.W.Frag}{mg:Str→Option Value}{base:Heap}
theorem Fun.ok{x qual:Str}{st:Stmt}{f:Addr}{fd:FuncData}{N ps:List Str}{k:Nat}{sp:Sp}(F:Fun K x qual st f fd)(S:aN N ps (defScope st))(len:∀ vs H Q E,sp vs H Q E→vs.length=ps.length)
  (hbody:∀ (cdv:Value) (A:Around) (outer:List Env) (s:Shared) (H:Hp) (vs:List V) (Q:VK) (E:XK),Room k (A.deeper (envOfC qual (defScope st) s.heap.objs.size f cdv))→sp vs H Q E→
   ∃ t,PSs (jc i7 P w K mg base N qual (defScope st) f cdv A outer s H E).nox (defBody st) t∧t { nx:=fun _ H'=>Q .non H',rt:=Q } (start N vs) H):FnOk P w K mg base i7 (k+1) f fd ps sp:=by
 obtain⟨oc,od,kV,doc,pm,an,cdv,ct,osl,rfl,lk,hcd⟩:=F.ex
 refine BR lk hcd S len fun A outer s H vs Q E hr hsp=>?_
 obtain⟨t,h,q⟩:=hbody cdv A outer s H vs Q E hr hsp
 exact⟨t,h.nox,q⟩
theorem Fun.binds{x qual:Str}{st:Stmt}{f:Addr}{fd:FuncData}{ps:List Str}(F:Fun K x qual st f fd)
  (h:∀ (kV doc pm:Value) (an:Option Addr) (cdv ct:Value) (us:List Value),us.length=ps.length→bindArgs (PySem.W.fnOf x qual (defArgs st) (defBody st) (defScope st) .none kV doc pm an cdv ct) ⟨us,[]⟩=pure (ps.zip us)):Binds K fd ps []:=by
 obtain⟨oc,od,kV,doc,pm,an,cdv,ct,osl,rfl,lk,hcd⟩:=F.ex
 exact .all (h kV doc pm an cdv ct)
theorem bE{x qual:Str}{st:Stmt}{f:Addr}{oc:Value}{od an:Option Addr}{osl:Array (Option Value)}{kV doc pm cdv ct:Value}(l:K.lookup f=some ⟨oc,od,.func (PySem.W.fnOf x qual (defArgs st) (defBody st) (defScope st) .none kV doc pm an cdv ct),osl⟩)
  (c:PySem.W.codeIn K cdv qual=true) (k:PySem.W.keepIn K (.ref f)=true):Fun K x qual st f (PySem.W.fnOf x qual (defArgs st) (defBody st) (defScope st) .none kV doc pm an cdv ct):=⟨⟨oc,od,kV,doc,pm,an,cdv,ct,osl,rfl,l,c⟩,k⟩
end
section
variable{X:Cx}
theorem pv(i:Nat){x:Str}{pos:Pos}(hN:X.N[i]? = some x:=by rfl)(hv:ao X.env.scope x:=by first | exact Or.inl rfl | exact Or.inr (Or.inl rfl) | exact Or.inr (Or.inr rfl))(hd:(x == ("__debug__" : Str))=false:=by decide)
  (hcd:(x == ("__classdict__" : Str))=false:=by decide):PE X (.Name x pos) (xS i):=Aq hN hv hd hcd
end
theorem bh{c A B:Prop}[Decidable c](h1:c→A)(h2:¬ c→B):if c then A else B:=by
 by_cases h:c
 ·rw[if_pos h]
  exact h1 h
 ·rw[if_neg h]
  exact h2 h
def Same(H H':Hp):Prop:=∀ b o,H b=some o→H' b=some o
theorem Same.refl(H:Hp):Same H H:=fun _ _ h=>h
theorem Same.trans{H H1 H2:Hp}(a:Same H H1)(b:Same H1 H2):Same H H2:=fun c o h=>b c o (a c o h)
theorem Same.free{H H':Hp}(e:Same H H'){l:Addr}(h:H' l=Option.none):H l=Option.none:=by
 cases q:H l with
 | none=>rfl
 | some o=>
  rw[e l o q]at h
  cases h
theorem Same.seq{K:PySem.W.Frag}{H H':Hp}{a:Addr}{xs:List V}(e:Same H H')(h:SqL K H a xs):SqL K H' a xs:=by
 rcases h with (h | ⟨o,h⟩) | h
 ·exact .inl (.inl (e _ _ h))
 ·exact .inl (.inr ⟨o,e _ _ h⟩)
 ·exact .inr h
theorem iV{X:Cx}:CallR X (.builtin "len") (fun xs H Q=>∃ a kvs,xs=[V.ref a]∧H a=some (.dK kvs)∧Q (.int kvs.length) H):=by
 intro pins s σ H xs us Q I r h
 obtain⟨a,kvs,rfl,ha,q⟩:=h
 obtain⟨u,rfl,ru⟩:=dz r
 cases ru
 exact BL I (.inl ha) fun t s' I'=>⟨.int kvs.length,H,I',⟨t,rfl⟩,q⟩
section
variable{κ : Type}[DecidableEq κ]
end
end L2
namespace L2
open PySem PySem.Spec PyProof.Rows
def dX(cells:List (Str × Addr)):List (Str × NameKind)→List (Str × Addr)→List (Str × Addr)
 | [],acc=>acc
 | (n,k)::r,acc=>dX cells r (if k == .free then (n,(cells.lookup n).getD 0)::acc else acc)
theorem pc{env:Env}{f:(Str × NameKind)→List (Str × Addr)→Sem (ForInStep (List (Str × Addr)))}
  (hf:∀ n k cs,f (n,k) cs=if (k == NameKind.free)=true then (cellOf env n >>= fun c=>pure (ForInStep.yield ((n,c)::cs))) else pure (ForInStep.yield cs)) :
  ∀ (names:List (Str × NameKind)) (acc:List (Str × Addr)),(∀ x∈names,x.2 = .free→∃ c,env.cells.lookup x.1=some c)→
  forIn names acc f=(pure (dX env.cells names acc):Sem _)
 | [],acc,_=>rfl
 | (n,k)::r,acc,h=>by
  rw[List.forIn_cons,hf]
  have ih:=fun acc=>pc hf r acc fun x hx=>h x (List.mem_cons_of_mem _ hx)
  by_cases hk:(k == NameKind.free)=true
  ·rw[if_pos hk]
   obtain⟨c,hc⟩:=h (n,k) List.mem_cons_self (by simpa using hk)
   have e:cellOf env n=pure c:=by unfold cellOf; rw[hc]
   rw[e,pure_bind,pure_bind]
   show forIn r ((n,c)::acc) f=_
   rw[ih]
   show _=pure (dX env.cells r (if (k == NameKind.free)=true then (n,(env.cells.lookup n).getD 0)::acc else acc))
   rw[if_pos hk,hc]; rfl
  ·rw[if_neg hk,pure_bind]
   show forIn r acc f=_
   rw[ih]
   show _=pure (dX env.cells r (if (k == NameKind.free)=true then (n,(env.cells.lookup n).getD 0)::acc else acc))
   rw[if_neg hk]
theorem iM{env:Env}{scope:Scope}(h:∀ x∈scope.names,x.2 = .free→∃ c,env.cells.lookup x.1=some c):closureFor scope env=pure (dX env.cells scope.names []):=by
 unfold closureFor
 show (forIn scope.names ([]:List (Str × Addr)) _ >>= fun cs=>pure cs)=_
 rw[pc (env:=env) (fun n k cs=>?_) _ _ h]
 ·rfl
 ·rfl
theorem jN{cells:List (Str × Addr)}:∀ {names:List (Str × NameKind)} {acc:List (Str × Addr)} {x:Str} {c:Addr},(∀ y∈names,y.2 = .free→∃ c,cells.lookup y.1=some c)→
  (∀ y c,acc.lookup y=some c→cells.lookup y=some c)→(dX cells names acc).lookup x=some c→cells.lookup x=some c
 | [],acc,x,c,_,ha,h=>ha x c h
 | (n,k)::r,acc,x,c,hn,ha,h=>by
  refine jN (names:=r) (fun y hy=>hn y (List.mem_cons_of_mem _ hy)) ?_ h
  intro y d hy
  by_cases hk:(k == NameKind.free)=true
  ·rw[if_pos hk]at hy
   obtain⟨e,he⟩:=hn (n,k) List.mem_cons_self (by simpa using hk)
   have he':cells.lookup n=some e:=he
   rw[List.lookup_cons]at hy
   by_cases hyn:(y == n)=true
   ·rw[hyn]at hy
    have hy':(cells.lookup n).getD 0=d:=Option.some.inj hy
    rw[he']at hy'
    have e1:y=n:=by simpa using hyn
    rw[e1,he',← hy']; rfl
   ·have hf:(y == n)=false:=by simpa using hyn
    rw[hf]at hy
    exact ha y d hy
  ·rw[if_neg hk]at hy
   exact ha y d hy
theorem kJ{cells:List (Str × Addr)}:∀ {names:List (Str × NameKind)} {acc:List (Str × Addr)} {x:Str},(∃ c,acc.lookup x=some c)→∃ c,(dX cells names acc).lookup x=some c
 | [],_,_,h=>h
 | (n,k)::r,acc,x,h=>by
  refine kJ (names:=r) ?_
  by_cases hk:(k == NameKind.free)=true
  ·rw[if_pos hk,List.lookup_cons]
   cases hx:(x == n) with
   | true=>exact⟨_,rfl⟩
   | false=>exact h
  ·rw[if_neg hk]; exact h
theorem ir{cells:List (Str × Addr)}:∀ {names:List (Str × NameKind)} {acc:List (Str × Addr)} {x:Str},(x,NameKind.free)∈names→∃ c,(dX cells names acc).lookup x=some c
 | (n,k)::r,acc,x,h=>by
  rcases List.mem_cons.mp h with e | h
  ·have e1:x=n:=congrArg (·.1) e
   have e2:NameKind.free=k:=congrArg (·.2) e
   subst e1 e2
   refine kJ (names:=r) ?_
   rw[if_pos (by rfl),List.lookup_cons]
   rw[beq_self_eq_true]
   exact⟨_,rfl⟩
  ·exact ir (names:=r) h
theorem eD{env:Env}:∀ {names:List (Str × NameKind)} {x:Str} {k:NameKind},(∀ y∈names,y.2 ≠ .cell)→
  (names.map fun (n,k)=>if (k == NameKind.free&&env.scope.kind == .function&&env.kindOf n == some .cell) then (n,NameKind.cell) else (n,k)).lookup x=some k→(k = .cell∨k = .free)→(x,NameKind.free)∈names
 | [],_,_,_,h,_=>by simp at h
 | (n,k0)::r,x,k,hc,h,hk=>by
  have ih:=@eD env r x k (fun y hy=>hc y (List.mem_cons_of_mem _ hy))
  rw[List.map_cons]at h
  by_cases hf:(k0 == NameKind.free&&env.scope.kind == .function&&env.kindOf n == some .cell)=true
  ·have hk0:k0 = .free:=by
    have:(k0 == NameKind.free)=true:=by
     rw[Bool.and_eq_true,Bool.and_eq_true]at hf; exact hf.1.1
    simpa using this
   dsimp only at h
   rw[if_pos hf,List.lookup_cons]at h
   cases hx:(x == n) with
   | true=>
    have:x=n:=by simpa using hx
    rw[this,hk0]; exact List.mem_cons_self
   | false=>rw[hx]at h; exact List.mem_cons_of_mem _ (ih h hk)
  ·dsimp only at h
   rw[if_neg hf,List.lookup_cons]at h
   cases hx:(x == n) with
   | true=>
    rw[hx]at h
    have e:k0=k:=Option.some.inj h
    have:x=n:=by simpa using hx
    rcases hk with z | z
    ·exact absurd (e.trans z) (hc (n,k0) List.mem_cons_self)
    ·rw[this,e,z]; exact List.mem_cons_self
   | false=>rw[hx]at h; exact List.mem_cons_of_mem _ (ih h hk)
def b4(X:Cx)(N0 T:List Str)(scope:Scope)(C:Addr)(fp:List Addr)(s:Shared)(H:Hp):Cx:=
 { X with N:=N0++T,s₀:=s,H₀:=H,env:=compEnvC scope (dX X.env.cells scope.names []) C X.env,outer:=X.stack,stack:=X.stack,ex:=fp,fn:=fun _=>false,pn:=[],xe:=fun _ _=>False }
structure gQ (X:Cx) (N0 T:List Str) (scope:Scope):Prop where
 kind:scope.kind = .function
 nocell:∀ y∈scope.names,y.2 ≠ .cell
 names:∀ y∈scope.names,y.2 = .local→scope.names.lookup y.1=some .local
 free:∀ y∈scope.names,y.2 = .free→X.env.kindOf y.1=some .cell∨X.env.kindOf y.1=some .free
 apart:∀ y∈scope.names,y.2 = .local→y.1∉N0
 len0:N0.length=X.N.length
 same:∀ (i:Nat) (x:Str) (k:NameKind),N0[i]? = some x→(x,k)∈scope.names→X.N[i]? = some x
theorem iP{prog:Program}{w:World}{A:Around}{R:Result→Shared→Prop}{s:Shared}{elt target iter:Expr}{ifs:List Expr}{scope:Scope}{pos:Pos}{it acc:Value}{env:Env}(I:Nat→Shared→Prop)
  (turn:∀ n s,I n s→wpAny (model prog w) A (pyNext it) (fun r s₁=>match r with
   | none=>R (.ok .next) s₁
   | some v=>wpAny (model prog w) A (letOwnedTupleGo target it v) (fun _ s₀=>wpAny (model prog w) A (assign target env v) (fun _ s₂=>
     wpAny (model prog w) A (forIn ifs true fun c r=>if r=true then do let ok ← isTrue c env (eval c env); pure (ForInStep.yield ok) else pure (ForInStep.yield r)) (fun ok s₃=>
      if ok=true then wpAny (model prog w) A (eval elt env) (fun x s₄=>
       wpAny (model prog w) A (call (.builtin "list.append") [acc,x]) (fun _ s₅=>∃ m,m<n∧I m s₅) (fun _ _=>False) s₄) (fun _ _=>False) s₃
      else ∃ m,m<n∧I m s₃) (fun _ _=>False) s₂) (fun _ _=>False) s₀) (fun _ _=>False) s₁) (fun _ _=>False) s)
  (n:Nat) (h:I n s) :
  codeAny (model prog w) A (.compLoop (.ListComp elt [⟨target,iter,ifs,0⟩] scope pos) 0 it acc env) R s:=by
 refine codeAny_loop rfl I (fun n s hI=>?_) n h
 show wpAny _ A ((compTurn (.ListComp elt [⟨target,iter,ifs,0⟩] scope pos) 0 it acc env).onRaise (fun x=>do noteFrame x env; theTreesLotGoes x)) _ _ s
 refine wpAny_noted ?_
 rw[compTurn_list]
 refine wpAny_bind (wpAny_standAt (wpAny_bind (wpAny_mono (turn n s hI) (fun r s₁ h₁=>?_) fun _ _ h'=>h'.elim)))
 cases r with
 | none=>exact wpAny_pure h₁
 | some v=>
  refine wpAny_bind (wpAny_mono h₁ (fun _ s₀ h₀=>?_) fun _ _ h'=>h'.elim)
  refine wpAny_bind (wpAny_mono h₀ (fun _ s₂ h₂=>wpAny_bind (wpAny_mono h₂ (fun ok s₃ h₃=>?_) fun _ _ h'=>h'.elim)) fun _ _ h'=>h'.elim)
  cases ok with
  | false=>exact wpAny_pure ⟨rfl,h₃⟩
  | true=>
   exact wpAny_bind (wpAny_bind (wpAny_mono h₃ (fun x s₄ h₄=>wpAny_bind (wpAny_mono h₄ (fun _ s₅ h₅=>wpAny_pure (wpAny_pure ⟨rfl,h₅⟩)) fun _ _ h'=>h'.elim)) fun _ _ h'=>h'.elim))
def PIfs(X:Cx)(ifs:List Expr)(tc:TT):Prop:=
 ∀ (pins:List (Addr × Obj)) (s:Shared) (σ : St) (H:Hp) (Q:Bool→Hp→Prop),Inv X pins σ H s→tc σ H Q→
  wpAny (model X.prog X.w) X.A (forIn ifs true fun c r=>if r=true then do let ok ← isTrue c X.env (eval c X.env); pure (ForInStep.yield ok) else pure (ForInStep.yield r)) (TP X pins σ Q) X.xe s
def lz:TT:=fun _ H Q=>Q true H
theorem iu{X:Cx}:PIfs X [] lz:=fun _ _ _ H _ I h=>wpAny_tests_nil ⟨H,I,h⟩
theorem j7{X:Cx}{c:Expr}{tc:TT}(hc:PT X c tc):PIfs X [c] tc:=fun pins s σ H Q I h=>wpAny_tests_one (hc pins s σ H Q I h)
def qX(g:TG)(n:Nat):Prop:=∀ x σ H Q,g x σ H Q→g x σ H fun σ' H'=>Q σ' H'∧σ'.length=σ.length∧∀ k,k<n→σ'[k]? = σ[k]?
def tZ(g:gE)(n:Nat):Prop:=∀ x σ H Q,g x σ H Q→g x σ H fun σ' H'=>Q σ' H'∧σ'.length=σ.length∧∀ k,k<n→σ'[k]? = σ[k]?
theorem eC{i n:Nat}(h:n≤i):qX (gT i) n:=fun x σ H Q q=>⟨q,by simp,fun k hk=>by rw[List.getElem?_set_ne (by omega)]⟩
theorem xN{n:Nat}:tZ uj n:=fun x σ H Q q=>⟨q.1,q.2,rfl,fun _ _=>rfl⟩
def sR(g:TG):Prop:=∀ x σ H Q Q',(∀ σ' H',Q σ' H'→Q' σ' H')→g x σ H Q→g x σ H Q'
def k_(g:gE):Prop:=∀ x σ H Q Q',(∀ σ' H',Q σ' H'→Q' σ' H')→g x σ H Q→g x σ H Q'
theorem lV{i:Nat}:sR (gT i):=fun x σ H Q Q' h q=>h _ _ q
theorem rg:k_ uj:=fun x σ H Q Q' h q=>⟨q.1,h _ _ q.2⟩
theorem xk{t:TG}{u:gE}(h1:sR t)(h2:k_ u):k_ (nD t u):=fun x σ H Q Q' h ⟨v,r,e,q⟩=>⟨v,r,e,h1 _ _ _ _ _ (fun σ' H' z=>h2 _ _ _ _ _ h z) q⟩
theorem mI{t:TG}{u:gE}{n:Nat}(h1:qX t n)(m1:sR t)(h2:tZ u n)(m2:k_ u):tZ (nD t u) n:=fun x σ H Q ⟨v,r,e,q⟩=>by
 refine⟨v,r,e,?_⟩
 refine m1 _ _ _ _ _ (fun σ' H' z=>?_) (h1 _ _ _ _ q)
 obtain⟨z,l1,k1⟩:=z
 exact m2 _ _ _ _ _ (fun σ2 H2 y=>⟨y.1,y.2.1.trans l1,fun k hk=>(y.2.2 k hk).trans (k1 k hk)⟩) (h2 _ _ _ _ z)
theorem ze{K:PySem.W.Frag}{m n:Nat}{t:gE}(h:tZ t n):qX (ud K m t) n:=fun x σ H Q ⟨a,xs,e,q,l,z⟩=>⟨a,xs,e,q,l,h _ _ _ _ z⟩
def fB(J:It)(g:TG)(tc:TT)(te:TE)(nT:Nat)(σ : St)(D:Addr)(Q:VK)(H:Hp):Prop:=
 ∃ W:Nat→Nat→List V→Hp→Prop,(∃ m,W 0 m [] H)∧∀ i m ys H2,W i m ys H2→
  (J.stop i H2∧Q (.ref D) H2)∨(J.go i H2∧∀ x H',J.yld i H2 x H'→g x (σ++List.replicate nT none) H' fun σ2 H3=>tc σ2 H3 fun b H4=>
   if b=true then te σ2 H4 fun y H5=>H5 D=some (.lst ys)∧ys.length<sizeLine∧∃ m',m'<m∧W (i+1) m' (ys++[y]) (upd H5 D (.lst (ys++[y]))) else ∃ m',m'<m∧W (i+1) m' ys H4)
def tu(wi:TI)(g:TG)(tc:TT)(te:TE)(nT:Nat):TE:=fun σ H Q=>wi σ H fun J H1=>∀ D,H1 D=none→fB J g tc te nT σ D Q (upd H1 D (.lst []))
theorem HOk.sameBut{P:Program}{w:World}{H:Hp}{h h':Heap}{C:Addr}(x:HOk P w H h)(hs:Heap.SameBut C h h')(hC:H C=none):HOk P w H h':=fun a o e=>
 (x a o e).stay (fun b u hb q=>(hs.2 b (by
  rintro rfl
  rcases hb with z | z
  ·rw[z]at hC; rw[hC]at e; cases e
  ·rw[hC]at z; cases z)).trans q) (fun _ q=>q) fun _ _ q=>q
section
variable{X:Cx}{N0 T:List Str}{scope:Scope}{tg elt iter:Expr}{ifs:List Expr}{pos:Pos}{wi:TI}{g:TG}{tc:TT}{te:TE}
theorem mW{pins:List (Addr × Obj)}{σ : St}{H:Hp}{s:Shared}{E:Value→Shared→Prop}{it:Addr}{fp:List Addr}{tn:Nat→Heap→Prop}{J:It}{Q:VK}{RR:Value→Addr→Result→Shared→Prop}
  (S:gQ X N0 T scope) (hc:X.calm=true)
  (hg:∀ C fp s H,PG (b4 X N0 T scope C fp s H) tg g) (hfr:qX g X.N.length) (hi:∀ C fp s H,PIfs (b4 X N0 T scope C fp s H) ifs tc) (he:∀ C fp s H,PE (b4 X N0 T scope C fp s H) elt te)
  (I:Inv X pins σ H s) (Tn:iy X.prog X.w X.K tg J fp it tn) (st:tn 0 s.heap) (hf:∀ b∈fp,gP X pins H b)
  (h:∀ D,H D=none→fB J g tc te T.length σ D Q (upd H D (.lst [])))
  (hRR:∀ D C s' H' m,s'.heap.Ns C m→H' C=none→C≠X.env.locals→(∀ x c,X.env.cells.lookup x=some c→c≠C)→(∀ p∈X.pn++pins,p.1≠C)→X.s₀.heap.objs.size≤C→Inv X pins σ H' s'→
   (∀ h',Heap.SameBut C s'.heap h'→Inv X pins σ H' { s' with heap:=h' })→Q (.ref D) H'→RR (.ref D) C (.ok .next) s') :
  wpAny (model X.prog X.w) X.A (newList []) (fun acc s₃=>wpAny (model X.prog X.w) X.A (newFunctionEnv scope X.env.globals (dX X.env.cells scope.names []) [] X.env.qual none .none (some X.env)) (fun cenv s₄=>
   codeAny (model X.prog X.w) X.A (.compStart (.ListComp elt [⟨tg,iter,ifs,0⟩] scope pos) 0 (.ref it) acc { cenv with scope:=relabel scope X.env }) (RR acc cenv.locals) s₄) E s₃) E s:=by
 refine wpAny_newObj_type (wpAny_newFunctionEnv S.nocell (by intro y hy; simp at hy) (fun h₁ hns₁ hsb₁=>?_) S.kind)
 dsimp only at hns₁ hsb₁ ⊢
 generalize hH2:s.heap.push { cls:=.type "list", dict:=none,data:=.seq ([]:List Value).toArray }=P2 at hns₁ hsb₁ ⊢
 have hC:P2.objs.size=s.heap.objs.size+1:=by rw[← hH2,Heap.size_push]
 -- the new list D, the block's names C
 obtain⟨D,hD⟩ : ∃ D:Nat,D=s.heap.objs.size:=⟨_,rfl⟩
 obtain⟨C,hCC⟩ : ∃ C:Nat,C=P2.objs.size:=⟨_,rfl⟩
 rw[← hCC]at hns₁ hsb₁ hC ⊢
 rw[← hD]at hC ⊢
 have hDC:D≠C:=by omega
 have hDlt:D<C:=by omega
 have neD:∀ b o,s.heap.get? b=some o→b≠D:=fun b o e=>hD ▸ Nat.ne_of_lt (Heap.lt_size e)
 have neC:∀ b o,s.heap.get? b=some o→b≠C:=fun b o e=>Nat.ne_of_lt (Nat.lt_trans (hD ▸ Heap.lt_size e) hDlt)
 have old:∀ b o,s.heap.get? b=some o→h₁.get? b=some o:=fun b o e=>hsb₁.extBut b o (neC b o e) (Heap.get?_push_of_some _ (hH2 ▸ Heap.get?_push_of_some _ e))
 have hHD:H D=none:=I.hok.fresh (by omega)
 have hHC:H C=none:=I.hok.fresh (by omega)
 have dat:h₁.get? D=some { cls:=.type "list", data:=.seq ([]:List Value).toArray 0 }:=by
  refine hsb₁.extBut _ _ hDC (Heap.get?_push_of_some _ ?_)
  rw[← hH2,hD]
  exact Heap.get?_push_size _ rfl
 -- the block's context stands
 have hcl:∀ x c,(dX X.env.cells scope.names []).lookup x=some c→X.env.cells.lookup x=some c:=fun x c e=>
  jN (fun y hy hk=>I.ok.has y.1 (S.free y hy hk)) (fun y c z=>by simp at z) e
 have okC:(b4 X N0 T scope C fp s H).Ok:=by
  refine⟨I.ok.mod,?_,I.ok.glob,I.ok.blt,?_,fun x y c e1 e2=>I.ok.inj x y c (hcl x c e1) (hcl y c e2),fun x hx=>?_,fun x c z _=>(by cases z),I.ok.hd,I.ok.frames,.inl rfl,fun b hb=>⟨?_,fun x c e=>(hf b hb).2.2.2.2.1 x c (hcl x c e)⟩,
   I.bs,?_,fun b o e hb=>?_,fun b hb z=>?_,I.stack,I.stkFree⟩
  ·show (relabel scope X.env).kind = .function
   exact S.kind
  ·show s.heap.objs.size≤C
   omega
  ·have hx':(relabel scope X.env).names.lookup x=some .cell∨(relabel scope X.env).names.lookup x=some .free:=hx
   have m:(x,NameKind.free)∈scope.names:=by
    rcases hx' with z | z
    ·exact eD S.nocell z (.inl rfl)
    ·exact eD S.nocell z (.inr rfl)
   exact ir m
  ·show b≠C
   obtain⟨o,e,_⟩:=Tn.obj 0 _ st b hb
   exact neC b o e
  ·exact Nat.le_trans I.ok.bsz I.sz
  ·obtain⟨_,_,_,z,_⟩:=hf b hb
   rcases z with z | z
   ·exact I.ok.noex b o e z
   ·exact absurd (Nat.lt_of_lt_of_le (Nat.lt_of_lt_of_le (Heap.lt_size e) I.ok.bsz) z) (Nat.lt_irrefl _)
  ·obtain⟨_,z1,z2,_⟩:=hf b hb
   rcases List.mem_cons.mp (I.stkSub b z) with q | q
   ·exact z1 q
   ·exact z2 q
 have I1:Inv (b4 X N0 T scope C fp s H) [] (σ++List.replicate T.length none) (upd H D (.lst [])) { s with heap:=h₁,toks:=s.toks+([]:List (Str × Value)).length }:=by
  refine⟨okC,rfl,I.bare,Un.laid (h:=s.heap) old (by omega) hHD,⟨_,hns₁,fun i x v e1 e2 e3=>?_⟩,fun x c e=>?_,?_,fun x c e=>?_,fun p hp=>(by simp[b4]at hp),I.hok.laid old (by omega) ?_,?_⟩
  ·have e1':(N0++T)[i]? = some x:=e1
   have hl:=I.len
   have hl0:=S.len0
   have hi:i<σ.length:=by
    rcases Nat.lt_or_ge i σ.length with z | z
    ·exact z
    ·rw[List.getElem?_append_right z]at e2
     rw[List.getElem?_replicate]at e2
     split at e2 <;> cases e2
   rw[List.getElem?_append_left hi]at e2
   rw[List.getElem?_append_left (by omega)]at e1'
   have hxN:x∈N0:=List.mem_of_getElem? e1'
   have e3':(relabel scope X.env).names.lookup x=some .local∨(relabel scope X.env).names.lookup x=some .cell∨(relabel scope X.env).names.lookup x=some .free:=e3
   have fr:(relabel scope X.env).names.lookup x=some .cell∨(relabel scope X.env).names.lookup x=some .free:=by
    rcases e3' with z | z | z
    ·exfalso
     -- a local of the block is no tracked name
     have key:∀ (names:List (Str × NameKind)),(names.map fun (n,k)=>if (k == NameKind.free&&X.env.scope.kind == .function&&X.env.kindOf n == some .cell) then (n,NameKind.cell) else (n,k)).lookup x=some .local→(x,NameKind.local)∈names:=by
      intro names
      induction names with
      | nil=>intro z; simp at z
      | cons y r ih=>
       obtain⟨n,k⟩:=y
       intro z
       rw[List.map_cons]at z
       dsimp only at z
       by_cases hfk:(k == NameKind.free&&X.env.scope.kind == .function&&X.env.kindOf n == some .cell)=true
       ·rw[if_pos hfk,List.lookup_cons]at z
        cases hx:(x == n) with
        | true=>rw[hx]at z; cases z
        | false=>rw[hx]at z; exact List.mem_cons_of_mem _ (ih z)
       ·rw[if_neg hfk,List.lookup_cons]at z
        cases hx:(x == n) with
        | true=>
         rw[hx]at z
         have ek:k = .local:=Option.some.inj z
         have en:x=n:=by simpa using hx
         rw[ek,en]; exact List.mem_cons_self
        | false=>rw[hx]at z; exact List.mem_cons_of_mem _ (ih z)
     exact S.apart (x,.local) (key _ z) rfl hxN
    ·exact .inl z
    ·exact .inr z
   have m:(x,NameKind.free)∈scope.names:=by
    rcases fr with z | z
    ·exact eD S.nocell z (.inl rfl)
    ·exact eD S.nocell z (.inr rfl)
   have kX:=S.free _ m rfl
   obtain⟨mm,hn,hl'⟩:=I.loc
   obtain⟨u,r,lk⟩:=hl' i x v (S.same i x _ e1' m) e2 (.inr kX)
   refine⟨u,r,.inr ⟨fr,?_⟩⟩
   rcases lk with ⟨z,_⟩ | ⟨_,c,ec,cc⟩
   ·rcases kX with q | q
    ·rw[q]at z; cases z
    ·rw[q]at z; cases z
   ·obtain⟨c',ec'⟩:=ir (cells:=X.env.cells) (acc:=[]) m
    have:=hcl x c' ec'
    rw[ec]at this; cases this
    exact⟨c,ec',cc.keeps old⟩
  ·obtain⟨v,z⟩:=I.cell x c (hcl x c e)
   exact⟨v,z.keeps old⟩
  ·show upd H D (.lst []) C=none
   rw[ah (Ne.symm hDC)]; exact hHC
  ·have q:=I.freeC x c (hcl x c e)
   obtain⟨v,o,z,_⟩:=I.cell x c (hcl x c e)
   rw[ah (neD c o z)]; exact q
  ·exact⟨Nat.zero_le _,[],0,.nil,dat⟩
  ·show (σ++List.replicate T.length none).length=(N0++T).length
   rw[List.length_append,List.length_append,List.length_replicate,I.len,S.len0]
 have st1:tn 0 h₁:=Tn.keep _ _ _ st fun b _ o e=>old b o e
 have fp1:∀ {H':Hp},(∀ b∈fp,H' b=none)→∀ b∈fp,gP (b4 X N0 T scope C fp s H) [] H' b:=fun hn b hb=>
  ⟨hn b hb,(okC.exf b hb).1,okC.exfs b hb,.inl hb,(okC.exf b hb).2,fun p hp=>(by simp[b4]at hp)⟩
 have fp0:∀ b∈fp,upd H D (.lst []) b=none:=fun b hb=>by
  obtain⟨o,e,_⟩:=Tn.obj 0 _ st b hb
  rw[ah (neD b o e)]; exact(hf b hb).1
 obtain⟨W,⟨m0,w0⟩,turn⟩:=h D hHD
 have loop:∀ s₃ : Shared,s₃={ s with heap:=h₁,toks:=s.toks+([]:List (Str × Value)).length }→
   codeAny (model X.prog X.w) X.A (.compLoop (.ListComp elt [⟨tg,iter,ifs,0⟩] scope pos) 0 (.ref it) (.ref D) (compEnvC scope (dX X.env.cells scope.names []) C X.env)) (RR (.ref D) C) s₃:=by
  rintro s₃ rfl
  refine iP (fun n s'=>∃ i H' ys,Inv (b4 X N0 T scope C fp s H) [] (σ++List.replicate T.length none) H' s'∧tn i s'.heap∧(∀ b∈fp,H' b=none)∧W i n ys H') ?_ m0 ⟨0,_,[],I1,st1,fp0,w0⟩
  rintro n s3 ⟨i,H3,ys,I3,st3,fr3,w3⟩
  rcases turn i n ys H3 w3 with ⟨stop,qn⟩ | ⟨go,step⟩
  ·refine bz (Tn.done (b4 X N0 T scope C fp s H) rfl rfl rfl hc i [] s3 _ H3 (fun _ _=>False) I3 (fp1 fr3) st3 stop) fun r s4 ⟨hr,I4⟩=>?_
   subst hr
   obtain⟨m,hm,_⟩:=I4.loc
   have hch:∀ b∈fp,(b∈X.ex∨X.s₀.heap.objs.size≤b)∧b≠X.env.locals∧(∀ x c,X.env.cells.lookup x=some c→c≠b)∧∀ p∈X.pn++pins,p.1≠b:=fun b hb=>
    ⟨(hf b hb).2.2.2.1,(hf b hb).2.1,(hf b hb).2.2.2.2.1,(hf b hb).2.2.2.2.2⟩
   have u4:Un (iO X.stack) fp H H3 s.heap s4.heap:=I4.base
   refine hRR D C s4 H3 m hm I4.free (Ne.symm (Nat.ne_of_lt (Nat.lt_trans (hD ▸ I.lt) hDlt))) (fun x c e=>?_) (fun p hp=>?_) (Nat.le_trans (hD ▸ I.sz) (Nat.le_of_lt hDlt)) (I.call' (ch:=fp) I4.os u4 I4.hok I4.bare hch) (fun h' hs'=>?_) qn
   ·obtain⟨v,o,q,_⟩:=I.cell x c e
    exact neC c o q
   ·exact neC _ _ (I.pin p hp).1
   ·refine I.call' (ch:=fp) (s':={ s4 with heap:=h' }) I4.os ⟨fun b o q n' hb hx=>(hs'.2 b (neC b o q)).trans (u4.keep b o q n' hb hx),fun b o q n' hb hx=>?_,u4.free,fun b o q hx=>?_,u4.tups,u4.frzs,u4.tbls⟩ (I4.hok.sameBut hs' I4.free) I4.bare hch
    ·obtain⟨sl,e⟩:=u4.slot b o q n' hb hx
     exact⟨sl,(hs'.2 b (neC b o q)).trans e⟩
    ·obtain⟨o',e⟩:=u4.there b o q hx
     exact⟨o',(hs'.2 b (neC b o q)).trans e⟩
  ·refine bz (Tn.item (b4 X N0 T scope C fp s H) rfl rfl rfl hc i [] s3 _ H3 (fun _ _=>False) I3 (fp1 fr3) st3 go) fun r s4 ⟨u,hr,h4⟩=>?_
   subst hr
   refine bz h4 fun _ s5 ⟨x,H5,I5,r5,y5,st5,fr5⟩=>?_
   have I5':=I5.pinned (fp1 fr5) (Tn.obj _ _ st5)
   refine bz (hg C fp s H _ s5 _ H5 x u _ I5' r5 (hfr _ _ _ _ (step x H5 y5))) fun _ s6 ⟨σ6,H6,I6,q6,l6,k6⟩=>?_
   have back:∀ {H7:Hp} {s7:Shared},Inv (b4 X N0 T scope C fp s H) ([]++i_ fp s5.heap) σ6 H7 s7→(∀ {m':Nat} {zs:List V},m'<n→W (i+1) m' zs H7→∃ m,m<n∧∃ i H' ys,Inv (b4 X N0 T scope C fp s H) [] (σ++List.replicate T.length none) H' s7∧tn i s7.heap∧(∀ b∈fp,H' b=none)∧W i m ys H'):=fun {H7 s7} I7 {m' zs} hm w7=>by
    refine⟨m',hm,i+1,H7,zs,I7.unpinned.weak (by rw[l6]) (fun j v e=>?_),Tn.keep _ _ _ st5 fun b hb o e=>(I7.pin (b,o) (List.mem_append_right _ (List.mem_append_right _ (gp hb e)))).1,fun b hb=>?_,w7⟩
    ·have hj:j<σ.length:=by
      rcases Nat.lt_or_ge j σ.length with z | z
      ·exact z
      ·rw[List.getElem?_append_right z,List.getElem?_replicate]at e
       split at e <;> cases e
     rw[k6 j (by rw[← I.len]; exact hj)]
     exact e
    ·obtain⟨o,e,d⟩:=Tn.obj _ _ st5 b hb
     exact(I7.pin (b,o) (List.mem_append_right _ (List.mem_append_right _ (gp hb e)))).2.1
   refine bz (hi C fp s H _ s6 σ6 H6 _ I6 q6) fun b s7 ⟨H7,I7,q7⟩=>?_
   cases b with
   | false=>
    obtain⟨m',hm,w7⟩:=(show ∃ m',m'<n∧W (i+1) m' ys H7 from by simpa using q7)
    exact back I7 hm w7
   | true=>
    rw[if_pos rfl]at q7
    refine bz (he C fp s H _ s7 σ6 H7 _ I7 q7) fun v s8 ⟨y,H8,I8,r8,hD8,hz,m',hm,w8⟩=>?_
    refine bz (mD (X:=b4 X N0 T scope C fp s H) _ s8 σ6 H8 (.ref D) [y] (.ref D) [v] (fun _ H9=>H9=upd H8 D (.lst (ys++[y]))) I8 rfl (.cons r8 .nil) ⟨D,ys,y,rfl,rfl,hD8,hz,rfl⟩) fun v9 s9 ⟨y9,H9,I9,_,e9⟩=>?_
    subst e9
    exact back I9 hm w8
 exact codeAny_compStart_list (loop _ rfl) (Tn.self X.A 0 _ _ _ st1 (loop _ rfl))
theorem gq(S:gQ X N0 T scope)(hc:X.calm=true)(hI:PI X tg iter wi)
  (hg:∀ C fp s H,PG (b4 X N0 T scope C fp s H) tg g) (hfr:qX g X.N.length) (hi:∀ C fp s H,PIfs (b4 X N0 T scope C fp s H) ifs tc) (he:∀ C fp s H,PE (b4 X N0 T scope C fp s H) elt te)
  (hs:∀ x,foldedSetIterable iter X.env x=pure x:=by intro _; rfl):PE X (.ListComp elt [⟨tg,iter,ifs,0⟩] scope pos) (tu wi g tc te T.length):=by
 intro pins s σ H Q I h
 rw[eval_ListComp]
 refine wpAny_comprehension_free (use:=none) rfl hs (iM fun x hx hk=>I.ok.has x.1 (S.free x hx hk)) S.kind S.names (bz (hI pins s σ H _ I h) fun v s1 h1=>bz h1 fun itv s2 h2=>?_)
 obtain⟨it,fp,tn,J,H2,e,I2,Tn,st2,f2,q2⟩:=h2
 subst e
 refine mW (RR:=fun acc C=>compPost (model X.prog X.w) X.A X.xe none (EP X pins σ Q) acc C) S hc hg hfr hi he I2 Tn st2 f2 q2 ?_
 intro D C s' H' m hn hC hL hcells hpins hfresh I' hI' q
 exact⟨m,hn,fun h' hs'=>⟨.ref D,H',hI' h' hs',rfl,q⟩⟩
theorem tP{i:Nat}{x:Str}{pos' spos:Pos}(S:gQ X N0 T scope)(hc:X.calm=true)(hN:X.N.Nodup)(hi':X.N[i]? = some x)(hx:X.env.scope.names.lookup x=some .local)(hI:PI X tg iter wi)
  (hg:∀ C fp s H,PG (b4 X N0 T scope C fp s H) tg g) (hfr:qX g X.N.length) (hi:∀ C fp s H,PIfs (b4 X N0 T scope C fp s H) ifs tc) (he:∀ C fp s H,PE (b4 X N0 T scope C fp s H) elt te)
  (hsw:swapsWith (.ListComp elt [⟨tg,iter,ifs,0⟩] scope pos) (some (.Name x pos')) spos.line X.env=pure true:=by rfl)
  (hs:∀ x,foldedSetIterable iter X.env x=pure x:=by intro _; rfl):PS X (.Assign [.Name x pos'] (.ListComp elt [⟨tg,iter,ifs,0⟩] scope pos) spos) (pL (tu wi g tc te T.length) (gT i)):=by
 intro pins s σ H D I h
 rw[exec_Assign_Name_used _ _ _ _ hsw]
 refine wpAny_bind (wpAny_standAt (wpAny_bind ?_))
 show wpAny _ X.A (do let _ ← comprehension (.ListComp elt [⟨tg,iter,ifs,0⟩] scope pos) scope X.env _ (newList []) false (eval iter X.env) (some (assign (.Name x pos') X.env))) _ _ s
 refine wpAny_bind (wpAny_mono (wpAny_comprehension_free (use:=some (assign (.Name x pos') X.env)) (Q:=fun _ s'=>SP X pins D .next s') rfl hs (iM fun x hx hk=>I.ok.has x.1 (S.free x hx hk)) S.kind S.names
  (bz (hI pins s σ H _ I h) fun v s1 h1=>bz h1 fun itv s2 h2=>?_)) (fun _ s' hq=>wpAny_pure (wpAny_pure hq)) fun _ _ e=>e)
 obtain⟨it,fp,tn,J,H2,e,I2,Tn,st2,f2,q2⟩:=h2
 subst e
 refine mW (RR:=fun acc C=>compPost (model X.prog X.w) X.A X.xe (some (assign (.Name x pos') X.env)) (fun _ s'=>SP X pins D .next s') acc C) S hc hg hfr hi he I2 Tn st2 f2 q2 ?_
 intro L C s' H' m hn hC hL hcells hpins hfresh I' hI' q
 show wpAny _ X.A (assign (.Name x pos') X.env (.ref L)) _ _ _
 refine wpAny_assign_Name (mF (v:=.ref L) I' hN hi' (.inl hx) rfl (fun s'' I'' ⟨a,hsa,ha⟩=>?_) (.inr hx))
 have hCa:C≠a:=by
  rintro rfl
  rcases ha with z | z
  ·exact hL z
  ·exact hcells x C z rfl
 refine⟨m,hn.sameBut hsa hCa,fun h' hs'=>?_⟩
 exact⟨σ.set i (some (.ref L)),H',I''.turned (t':=s''.toks) (fun b o hb e=>(hs'.2 b hb).trans e) hC hL (.inr hfresh) hcells hpins,q⟩
end
end L2
namespace L2
open PySem PySem.Spec PyProof.Rows
theorem Vals.of:∀ {xs:List V} {us:List Value} {i:Nat} {u:Value},Vals xs us→us[i]? = some u→∃ x,xs[i]? = some x∧RelV x u
 | _,_,0,u,.cons r _,e=>⟨_,rfl,by simp at e; subst e; exact r⟩
 | _,_,i+1,u,.cons _ rr,e=>by
  obtain⟨x,hx,r⟩:=Vals.of (i:=i) rr (by simpa using e)
  exact⟨x,by simpa using hx,r⟩
theorem js:∀ {ss:List Str} {us:List Value},Vals (ss.map V.str) us→StrsAre us ss
 | [],_,.nil=>.nil
 | s::ss,_,.cons r rr=>by
  obtain⟨t,rfl⟩:=r
  exact .cons s t (js rr)
section
variable{X:Cx}
def cW(H:Hp):V→Option String
 | .non=>some "NoneType"
 | .bl _=>some "bool"
 | .int _=>some "int"
 | .str _=>some "str"
 | .ref a=>match H a with
  | some (.lst _)=>some "list"
  | some (.frz _ (.lst _))=>some "list"
  | some (.tup _)=>some "tuple"
  | some (.dK _)=>some "dict"
  | some (.dT _)=>some "dict"
  | _=>none
 | _=>none
theorem uZ{K:PySem.W.Frag}{H:Hp}:∀ {x:V} {T:String},cW H x=some T→fO K H x (.type T)
 | .non,T,h=>by cases h; exact .non
 | .bl b,T,h=>by cases h; exact .bl b
 | .int i,T,h=>by cases h; exact .int i
 | .str y,T,h=>by cases h; exact .str y
 | .byt _,T,h=>by cases h
 | .flt _,T,h=>by cases h
 | .ty _,T,h=>by cases h
 | .ref a,T,h=>by
  cases e:H a with
  | none=>simp[cW,e]at h
  | some o=>
   cases o with
   | lst xs=>simp[cW,e]at h; subst h; exact .lst e
   | tup xs=>simp[cW,e]at h; subst h; exact .tup e
   | dK xs=>simp[cW,e]at h; subst h; exact .dK e
   | dT xs=>simp[cW,e]at h; subst h; exact .dT e
   | frz ob u=>
    cases u with
    | lst xs=>simp[cW,e]at h; subst h; exact .frz e
    | _=>simp[cW,e]at h
   | _=>simp[cW,e]at h
def yO(T C:String):Bool:=T == C||(T == "bool" && C == "int")
theorem wv(K:PySem.W.Frag){T C:String}(hT:T∈["NoneType", "bool", "int", "str", "list", "tuple", "dict"]) (hC:C∈["bool", "int", "str", "list", "tuple"]):PySem.W.kitOne K (.type T) (.type C)=some (yO T C):=by
 simp only[List.mem_cons,List.mem_nil_iff,or_false]at hT hC
 rcases hT with rfl | rfl | rfl | rfl | rfl | rfl | rfl <;> rcases hC with rfl | rfl | rfl | rfl | rfl <;> (with_unfolding_all rfl)
theorem t9{H:Hp}{x:V}{T:String}(h:cW H x=some T):T∈["NoneType", "bool", "int", "str", "list", "tuple", "dict"]:=by
 cases x with
 | ref a=>
  cases e:H a with
  | none=>simp[cW,e]at h
  | some o=>
   cases o with
   | frz ob u=>cases u <;> simp[cW,e]at h <;> subst h <;> decide
   | _=>simp[cW,e]at h <;> subst h <;> decide
 | _=>first | (cases h; decide) | cases h
def zM:List V→Hp→VK→Prop:=fun xs H Q=>∃ (x:V) (T C:String),xs=[x,.ty C]∧cW H x=some T∧C∈["bool", "int", "str", "list", "tuple"]∧Q (.bl (yO T C)) H
theorem rm{H:Hp}{Q:VK}(x:V)(C:String):zM [x,.ty C] H Q=∃ T,cW H x=some T∧C∈["bool", "int", "str", "list", "tuple"]∧Q (.bl (yO T C)) H:=
 propext ⟨fun ⟨_,T,_,e,q⟩=>by cases e; exact⟨T,q⟩,fun ⟨T,q⟩=>⟨x,T,C,rfl,q⟩⟩
theorem fm:CallR X (.builtin "isinstance") zM:=by
 intro pins s σ H xs us Q I r h
 obtain⟨x,T,C,rfl,hT,hC,q⟩:=h
 obtain⟨u,w',rfl,ru,rw'⟩:=kT r
 cases rw'
 exact vG I ru (uZ hT) (wv X.K (t9 hT) hC) fun tk=>⟨.bl (yO T C),H,I.tok tk,rfl,q⟩
def ug(K:PySem.W.Frag):V→List V→Hp→VK→Prop:=fun x vs H Q=>∃ (sep:Str) (p:Addr) (ss:List Str),x = .str sep∧vs=[.ref p]∧SqL K H p (ss.map V.str)∧(ss.map (·.length)).sum+ss.length * sep.length≤16777216∧Q (.str (Txt.join sep ss)) H
theorem yW:MtR X "str.join" (ug X.K):=by
 intro pins s σ H x xs v us Q I rx r h
 obtain⟨sep,p,ss,rfl,rfl,hq,hz,q⟩:=h
 obtain⟨t,rfl⟩:=rx
 obtain⟨u,rfl,ru⟩:=dz r
 cases ru
 obtain⟨its,rv,pl,_⟩:=I.list hq
 exact join_list pl.isList (by simpa using js rv) hz fun t' k=>⟨.str (Txt.join sep ss),H,I.tok k,⟨t',rfl⟩,q⟩
end
def ix(J:It)(g:TG)(tb:TS)(D:dO)(σ : St)(H:Hp):Prop:=∃ W:Nat→Nat→St→Hp→Prop,(∃ m,W 0 m σ H)∧∀ i m σ H,W i m σ H→
 (J.stop i H∧D.nx σ H)∨(J.go i H∧∃ N:St→Hp→Prop,(∀ σ' H',N σ' H'→∃ m',m'<m∧W (i+1) m' σ' H')∧∀ x H',J.yld i H x H'→g x σ H' fun σ2 H2=>tb { D with nx:=N,ct:=N,bk:=D.nx } σ2 H2)
theorem rD(wi:TI)(g:TG)(tb:TS)(D:dO)(σ : St)(H:Hp):Bd wi g tb D σ H=wi σ H fun J H1=>ix J g tb D σ H1:=rfl
theorem ig{J:It}{g:TG}{tb:TS}{D:dO}{σ : St}{H:Hp}(n:Nat)(Pv:Nat→St→Hp→Prop)(h0:Pv 0 σ H)(hgo:∀ i σ H,i<n→Pv i σ H→J.go i H)(hst:∀ σ H,Pv n σ H→J.stop n H)
  (hs:∀ i σ H x H',i<n→Pv i σ H→J.yld i H x H'→g x σ H' fun σ2 H2=>tb { D with nx:=Pv (i+1),ct:=Pv (i+1),bk:=D.nx } σ2 H2) (hd:∀ σ H,Pv n σ H→D.nx σ H):ix J g tb D σ H:=by
 refine⟨fun i m σ H=>m=n - i∧i≤n∧Pv i σ H,⟨n,by simp,Nat.zero_le _,h0⟩,?_⟩
 rintro i m σ H ⟨rfl,hi,p⟩
 by_cases hlt:i<n
 ·exact .inr ⟨hgo i σ H hlt p,Pv (i+1),fun σ' H' p'=>⟨n - (i+1),by omega,rfl,hlt,p'⟩,fun x H' y=>hs i σ H x H' hlt p y⟩
 ·have e:i=n:=by omega
  subst e
  exact .inl ⟨hst σ H p,hd σ H p⟩
theorem dc{K:PySem.W.Frag}{a:Addr}{xs:List V}{g:TG}{tb:TS}{D:dO}{σ : St}{H:Hp}(Pv:Nat→St→Hp→Prop)(h0:Pv 0 σ H)(hl:∀ i σ H,i≤xs.length→Pv i σ H→SqL K H a xs)
  (hs:∀ i x σ H,xs[i]? = some x→Pv i σ H→g x σ H fun σ2 H2=>tb { D with nx:=Pv (i+1),ct:=Pv (i+1),bk:=D.nx } σ2 H2) (hd:∀ σ H,Pv xs.length σ H→D.nx σ H):ix (kz K a) g tb D σ H:=
 wH Pv h0 hl hs hd
theorem iq{lo:Int}{n:Nat}{g:TG}{tb:TS}{D:dO}{σ : St}{H:Hp}(Pv:Nat→St→Hp→Prop)(h0:Pv 0 σ H)
  (hs:∀ i σ H,i<n→Pv i σ H→g (.int (lo+i)) σ H fun σ2 H2=>tb { D with nx:=Pv (i+1),ct:=Pv (i+1),bk:=D.nx } σ2 H2) (hd:∀ σ H,Pv n σ H→D.nx σ H):ix (jW lo n) g tb D σ H:=
 v0 Pv h0 hs hd
def iB(n i:Nat)(Pv:Nat→List V→Hp→Prop)(D:Addr)(ys:List V)(y:V)(H:Hp):Prop:=
 H D=some (.lst ys)∧ys.length<sizeLine∧∃ m',m'<n - i∧(m'=n - (i+1)∧i+1≤n∧Pv (i+1) (ys++[y]) (upd H D (.lst (ys++[y]))))
theorem nC{n i:Nat}{Pv:Nat→List V→Hp→Prop}{D:Addr}{ys:List V}{y:V}{H:Hp}(hi:i<n)(hlen:ys.length=i)(hz:n≤sizeLine)(h1:H D=some (.lst ys))(h2:Pv (i+1) (ys++[y]) (upd H D (.lst (ys++[y])))):iB n i Pv D ys y H:=
 ⟨h1,by omega,n - (i+1),by omega,rfl,hi,h2⟩
def jG(n i:Nat)(Pv:Nat→List V→Hp→Prop)(D:Addr)(ys:List V)(te:TE)(σ : St)(H:Hp):Prop:=
 if true=true then te σ H (iB n i Pv D ys) else ∃ m',m'<n - i∧(m'=n - (i+1)∧i+1≤n∧Pv (i+1) ys H)
theorem pS{n i:Nat}{Pv:Nat→List V→Hp→Prop}{D:Addr}{ys:List V}{te:TE}{σ : St}{H:Hp}:jG n i Pv D ys te σ H=te σ H (iB n i Pv D ys):=by
 unfold jG; rw[if_pos rfl]
theorem j8{J:It}{g:TG}{te:TE}{nT:Nat}{σ : St}{D:Addr}{Q:VK}{H:Hp}(n:Nat)(Pv:Nat→List V→Hp→Prop)(h0:Pv 0 [] H)(hgo:∀ i ys H,i<n→Pv i ys H→J.go i H)(hst:∀ ys H,Pv n ys H→J.stop n H)
  (hs:∀ i ys H x H',i<n→Pv i ys H→J.yld i H x H'→g x (σ++List.replicate nT none) H' (jG n i Pv D ys te))
  (hd:∀ ys H,Pv n ys H→Q (.ref D) H):fB J g lz te nT σ D Q H:=by
 refine⟨fun i m ys H=>m=n - i∧i≤n∧Pv i ys H,⟨n,by simp,Nat.zero_le _,h0⟩,?_⟩
 rintro i m ys H ⟨rfl,hi,p⟩
 by_cases hlt:i<n
 ·exact .inr ⟨hgo i ys H hlt p,fun x H' y=>hs i ys H x H' hlt p y⟩
 ·have e:i=n:=by omega
  subst e
  exact .inl ⟨hst ys H p,hd ys H p⟩
theorem tz{K:PySem.W.Frag}{a:Addr}{xs:List V}{g:TG}{te:TE}{nT:Nat}{σ : St}{D:Addr}{Q:VK}{H:Hp}(Pv:Nat→List V→Hp→Prop)(h0:Pv 0 [] H)(hl:∀ i ys H,i≤xs.length→Pv i ys H→SqL K H a xs)
  (hs:∀ i ys H x,xs[i]? = some x→i<xs.length→Pv i ys H→g x (σ++List.replicate nT none) H (jG xs.length i Pv D ys te))
  (hd:∀ ys H,Pv xs.length ys H→Q (.ref D) H):fB (kz K a) g lz te nT σ D Q H:=by
 refine j8 xs.length Pv h0 (fun i ys H hi p=>⟨xs,xs[i],hl i ys H (Nat.le_of_lt hi) p,by simp[hi]⟩) (fun ys H p=>⟨xs,hl _ ys H (Nat.le_refl _) p,Nat.le_refl _⟩) (fun i ys H x H' hi p yl=>?_) hd
 obtain⟨rfl,y⟩:=yl
 exact hs i ys _ x (y xs (hl i ys _ (Nat.le_of_lt hi) p)) hi p
theorem qp{lo:Int}{n:Nat}{g:TG}{te:TE}{nT:Nat}{σ : St}{D:Addr}{Q:VK}{H:Hp}(Pv:Nat→List V→Hp→Prop)(h0:Pv 0 [] H)
  (hs:∀ i ys H,i<n→Pv i ys H→g (.int (lo+i)) (σ++List.replicate nT none) H (jG n i Pv D ys te))
  (hd:∀ ys H,Pv n ys H→Q (.ref D) H):fB (jW lo n) g lz te nT σ D Q H:=by
 refine j8 n Pv h0 (fun i ys H hi p=>hi) (fun ys H p=>Nat.le_refl _) (fun i ys H x H' hi p yl=>?_) hd
 obtain⟨rfl,rfl⟩:=yl
 exact hs i ys _ hi p
end L2
namespace L2
open PySem PySem.Spec PyProof.Rows
def An(u:TS)(D:dO)(σ : St)(H:Hp):Prop:=u D σ H
section
variable{D:dO}{σ : St}{H:Hp}{Q:VK}{B:Bool→Hp→Prop}{L:List V→Hp→Prop}{R:It→Hp→Prop}{G:St→Hp→Prop}
theorem rn(t u:TS):Au t u D σ H=t { D with nx:=An u D } σ H:=rfl
theorem lx(u:TS):An u D σ H=u D σ H:=rfl
theorem oV:yr D σ H=D.nx σ H:=rfl
theorem rP(c:TT)(t u:TS):zR c t u D σ H=c σ H fun b H1=>if b=true then t D σ H1 else u D σ H1:=rfl
theorem qF(t:TE):Bi t D σ H=t σ H D.rt:=rfl
theorem p0(t:TE):yp t D σ H=t σ H fun _ H1=>D.nx σ H1:=rfl
theorem qG(t:TE)(g:TG):pL t g D σ H=t σ H fun x H1=>g x σ H1 D.nx:=rfl
theorem nN(i:Nat)(v:V):gT i v σ H G=G (σ.set i (some v)) H:=rfl
theorem rp(vs:List V):uj vs σ H G=(vs=[]∧G σ H):=rfl
theorem pP(t:TG)(u:gE)(vs:List V):nD t u vs σ H G=∃ v r,vs=v::r∧t v σ H fun σ' H'=>u r σ' H' G:=rfl
theorem rQ(K:PySem.W.Frag)(n:Nat)(t:gE)(v:V):ud K n t v σ H G=∃ a xs,v = .ref a∧SqT K H a xs∧xs.length=n∧t xs σ H G:=rfl
theorem rh(to ti:TE)(t:oP)(v:V):zH to ti t v σ H G=to σ H fun o H1=>ti σ H1 fun i H2=>t o i v H2 fun H3=>G σ H3:=rfl
theorem rL(i:Nat):xS i σ H Q=∃ v,σ[i]? = some (some v)∧Q v H:=rfl
theorem yb(v:V):tC v σ H Q=Q v H:=rfl
theorem vU(r:R2)(ta tb:TE):uK r ta tb σ H Q=ta σ H fun x H1=>tb σ H1 fun y H2=>r x y H2 Q:=rfl
theorem vM(r:V→Hp→VK→Prop)(ta:TE):Cf r ta σ H Q=ta σ H fun x H1=>r x H1 Q:=rfl
theorem oR(t:TE):sJ t σ H B=t σ H fun x H'=>∃ k,x = .bl k∧B k H':=rfl
theorem yJ(t:TE):tB t σ H B=t σ H fun x H'=>∃ k,x = .bl k∧B k H':=rfl
theorem qK(t u:TT):Bz t u σ H B=t σ H fun c H1=>if c=true then u σ H1 B else B false H1:=rfl
theorem uN(t u:TT):Cm t u σ H B=t σ H fun c H1=>if c=true then B true H1 else u σ H1 B:=rfl
theorem sy(t:TT):AL t σ H B=t σ H fun c H1=>B (!c) H1:=rfl
theorem uW(t:TT)(ta tb:TE):Cy t ta tb σ H Q=t σ H fun c H1=>if c=true then ta σ H1 Q else tb σ H1 Q:=rfl
theorem vt(r:List V→Hp→VK→Prop)(t:TA):vJ r t σ H Q=t σ H fun vs H1=>r vs H1 Q:=rfl
theorem ox(ta:TE)(tr:TA):yi ta tr σ H L=ta σ H fun x H1=>tr σ H1 fun xs H2=>L (x::xs) H2:=rfl
theorem rS:Bm σ H L=L [] H:=rfl
theorem qW(t:TA):zO t σ H Q=t σ H fun xs H1=>xs.length≤sizeLine∧∀ p,H1 p=none→Q (.ref p) (upd H1 p (.tup xs)):=rfl
theorem se(t:TA):AY t σ H Q=t σ H fun xs H1=>xs.length≤sizeLine∧∀ p,H1 p=none→Q (.ref p) (upd H1 p (.lst xs)):=rfl
theorem pN(sp:Sp)(dvs:List V)(E:XK)(t:TA):ut sp dvs E t σ H Q=t σ H fun vs H1=>sp (vs++dvs) H1 Q E:=rfl
theorem uG(K:PySem.W.Frag)(T:String)(r:V→List V→Hp→VK→Prop)(to:TE)(t:TA):Ag K T r to t σ H Q=to σ H fun x H1=>ol K T x H1∧t σ H1 fun xs H2=>r x xs H2 Q:=rfl
theorem qV(K:PySem.W.Frag)(T:String)(r:V→List V→Hp→VK→Prop)(to:TE):xZ K T r to σ H Q=to σ H fun x H1=>ol K T x H1∧r x [] H1 Q:=rfl
theorem mH(r r':R2)(ta tb tc:TE):uT r r' ta tb tc σ H Q=ta σ H fun x H1=>tb σ H1 fun y H2=>r x y H2 fun z H3=>∃ k,z = .bl k∧(if k=true then tc σ H3 fun w' H4=>r' y w' H4 Q else Q (.bl false) H3):=rfl
theorem vO(r:V→Option Int→Option Int→Hp→VK→Prop)(te:TE)(tl th:TO):Cj r te tl th σ H Q=te σ H fun x H1=>tl σ H1 fun l H2=>th σ H2 fun u H3=>r x l u H3 Q:=rfl
theorem o_(t:TE)(O:Option Int→Hp→Prop):yI t σ H O=t σ H fun x H1=>∃ i,x = .int i∧O (some i) H1:=rfl
theorem kU(O:Option Int→Hp→Prop):qE σ H O=O none H:=rfl
theorem oo(wi:TI)(g:TG)(tc:TT)(te:TE)(nT:Nat):tu wi g tc te nT σ H Q=wi σ H fun J H1=>∀ D,H1 D=none→fB J g tc te nT σ D Q (upd H1 D (.lst [])):=rfl
theorem rN:lz σ H B=B true H:=rfl
theorem oy(K:PySem.W.Frag)(tl:TE):ul K tl σ H R=tl σ H fun x H1=>∃ a,x = .ref a∧(∃ xs,SqL K H1 a xs)∧R (kz K a) H1:=rfl
theorem pB(ta:TA):yo ta σ H R=ta σ H fun vs H1=>∃ j:Int,vs=[.int j]∧-(2 ^ 62)≤j∧j<2 ^ 62∧R (jW 0 j.toNat) H1:=rfl
theorem vR(g:Int→Int→V)(i j:Int):mr g (.int i) (.int j) H Q=Q (g i j) H:=propext ⟨fun ⟨_,_,e1,e2,q⟩=>by cases e1; cases e2; exact q,fun q=>⟨i,j,rfl,rfl,q⟩⟩
theorem yz(C:Int→Int→Prop)(g:Int→Int→V)(i j:Int):rI C g (.int i) (.int j) H Q=(C i j∧Q (g i j) H):=propext ⟨fun ⟨_,_,e1,e2,q⟩=>by cases e1; cases e2; exact q,fun q=>⟨i,j,rfl,rfl,q⟩⟩
end
structure DefAt (K:PySem.W.Frag) (mg:Str→Option Value) (x:Str) (st:Stmt):Prop where
 ex:∃ f fd,Fun K x x st f fd∧mg x=some (.ref f)
structure ba (P:Program) (w:World) (K:PySem.W.Frag) (mg:Str→Option Value) (base:Heap) (k:Nat) (x:Str) (ps:List Str) (sp:Sp):Prop where
 ex:∃ f fd,FnOk P w K mg base i7 k f fd ps sp∧Binds K fd ps []∧PySem.W.keepIn K (.ref f)=true∧mg x=some (.ref f)
section
variable{P:Program}{w:World}{K:PySem.W.Frag}{mg:Str→Option Value}{base:Heap}
theorem DefAt.cal{x:Str}{st:Stmt}{N ps:List Str}{k:Nat}{sp:Sp}(D:DefAt K mg x st)(S:aN N ps (defScope st))
  (hb:∀ (kV doc pm:Value) (an:Option Addr) (cdv ct:Value) (us:List Value),us.length=ps.length→bindArgs (PySem.W.fnOf x x (defArgs st) (defBody st) (defScope st) .none kV doc pm an cdv ct) ⟨us,[]⟩=pure (ps.zip us))
  (len:∀ vs H Q E,sp vs H Q E→vs.length=ps.length)
  (hbody:∀ (f:Addr) (cdv:Value) (A:Around) (outer:List Env) (s:Shared) (H:Hp) (vs:List V) (Q:VK) (E:XK),Room k (A.deeper (envOfC x (defScope st) s.heap.objs.size f cdv))→sp vs H Q E→
   ∃ t,PSs (jc i7 P w K mg base N x (defScope st) f cdv A outer s H E).nox (defBody st) t∧t { nx:=fun _ H'=>Q .non H',rt:=Q } (start N vs) H):ba P w K mg base (k+1) x ps sp:=by
 obtain⟨f,fd,F,m⟩:=D.ex
 exact⟨f,fd,F.ok S len fun cdv A outer s H vs Q E hr h=>hbody f cdv A outer s H vs Q E hr h,F.binds hb,F.kp,m⟩
end
section
variable{X:Cx}
theorem aG{j k:Nat}{x:Str}{ps:List Str}{sp:Sp}{p pos:Pos}{e:Expr}{es:List Expr}{t:TA}(c:ba X.prog X.w X.K X.mg X.base j x ps sp)(hr:Room k X.A)(ha:PA X (e::es) t)(hle:j≤k:=by decide)(hg:Gl X x:=by rfl)
  (hdb:(x == ("__debug__" : Str))=false:=by decide) (he:starEach (e::es) X.env=(false,eval e X.env)::starEach es X.env:=by rfl) (hpl:(backTo pos (starEach es X.env)).any (·.1)=false:=by rfl) :
  PE X (.Call (.Name x p) (e::es) [] pos) (ut sp [] E0 t):=by
 obtain⟨f,fd,F,b,kp,m⟩:=c.ex
 exact za F (hr.mono hle) hg m kp b .nil yf ha hdb he hpl
theorem gw{x:Str}{T:String}{pos:Pos}(hm:X.mg x=none)(hv:bootBuiltins x=some (.type T))(hg:Gl X x:=by rfl)(hn:x ≠ "__name__" := by decide) (hd:(x == ("__debug__" : Str))=false:=by decide):PE X (.Name x pos) (tC (.ty T)):=
 zw hg hm hv rfl hn hd
theorem bv{x:Str}{p pos:Pos}{e:Expr}{es:List Expr}{t:TA}{id:String}{r:List V→Hp→VK→Prop}(hc:CallR X (.builtin id) r)(hm:X.mg x=none)(hv:bootBuiltins x=some (.builtin id))(ha:PA X (e::es) t)(hg:Gl X x:=by rfl)
  (hn:x ≠ "__name__" := by decide) (hdb:(x == ("__debug__" : Str))=false:=by decide) (he:starEach (e::es) X.env=(false,eval e X.env)::starEach es X.env:=by rfl) (hpl:(backTo pos (starEach es X.env)).any (·.1)=false:=by rfl) :
  PE X (.Call (.Name x p) (e::es) [] pos) (vJ r t):=xH hc hg hm hv ha hn hdb he hpl
theorem fL{x:Str}{p pos:Pos}{e:Expr}{es:List Expr}{t:TA}{T:String}{r:List V→Hp→VK→Prop}(hc:CallR X (.type T) r)(hm:X.mg x=none)(hv:bootBuiltins x=some (.type T))(ha:PA X (e::es) t)(hg:Gl X x:=by rfl)
  (hn:x ≠ "__name__" := by decide) (hdb:(x == ("__debug__" : Str))=false:=by decide) (he:starEach (e::es) X.env=(false,eval e X.env)::starEach es X.env:=by rfl) (hpl:(backTo pos (starEach es X.env)).any (·.1)=false:=by rfl) :
  PE X (.Call (.Name x p) (e::es) [] pos) (vJ r t):=vP hc hg hm hv ha hn hdb he hpl
end
section
variable{X:Cx}
def nL:R2:=fun x y H Q=>match x,y with
 | .int i,.int j=>Q (.int (i+j)) H
 | .str a,.str b=>a.length+b.length≤sizeLine∧Q (.str (a++b)) H
 | .ref l,.ref b=>∃ xs zs,H l=some (.lst xs)∧H b=some (.lst zs)∧xs.length+zs.length≤sizeLine∧∀ p,H p=none→Q (.ref p) (upd H p (.lst (xs++zs)))
 | _,_=>False
theorem az:OpR X (binaryOp .Add) nL:=by
 intro pins s σ H x y v u Q I rx ry h
 cases x <;> cases y <;> first
  | exact(show False from h).elim
  | exact Bj pins s σ H _ _ v u Q I rx ry ⟨_,_,rfl,rfl,h⟩
  | exact sZ pins s σ H _ _ v u Q I rx ry ⟨_,_,rfl,rfl,h⟩
  | (obtain⟨xs,zs,h1,h2,h3,h4⟩:=h; exact zT pins s σ H _ _ v u Q I rx ry ⟨_,_,xs,zs,rfl,rfl,h1,h2,h3,h4⟩)
def w9:R2:=fun x y H Q=>match x,y with
 | .int i,.int j=>Q (.bl (decide (i<j))) H
 | .str i,.str j=>Q (.bl (decide (i.cps.toList<j.cps.toList))) H
 | _,_=>False
theorem iY:OpR X (compareOp .Lt) w9:=by
 intro pins s σ H x y v u Q I rx ry h
 cases x <;> cases y <;> first
  | exact(show False from h).elim
  | exact BM pins s σ H _ _ v u Q I rx ry ⟨_,_,rfl,rfl,h⟩
  | exact uI pins s σ H _ _ v u Q I rx ry ⟨_,_,rfl,rfl,h⟩
def tW(K:PySem.W.Frag):R2:=fun x y H Q=>match x,y with
 | .str i,.str j=>Q (.bl (!(Builtin.Str.occurrences j i 0 j.length 1).isEmpty)) H
 | x,.ref p=>∃ xs,(SqL K H p xs∨SqT K H p xs)∧cx x=true∧xs.all cx=true∧Q (.bl (fC x xs)) H
 | _,_=>False
theorem AB:OpR X (compareOp .In) (tW X.K):=by
 intro pins s σ H x y v u Q I rx ry h
 cases y with
 | str j=>
  cases x with
  | str i=>exact vY pins s σ H _ _ v u Q I rx ry ⟨i,j,rfl,rfl,h⟩
  | _=>exact(show False from h).elim
 | ref p=>
  have h':∃ xs,(SqL X.K H p xs∨SqT X.K H p xs)∧cx x=true∧xs.all cx=true∧Q (.bl (fC x xs)) H:=by cases x <;> exact h
  obtain⟨xs,h1,h2,h3,h4⟩:=h'
  exact uV pins s σ H _ _ v u Q I rx ry ⟨p,xs,rfl,h1,h2,h3,h4⟩
 | _=>cases x <;> exact(show False from h).elim
def nG(K:PySem.W.Frag):List V→Hp→VK→Prop:=fun xs H Q=>match xs with
 | [.str z]=>z.length≤sizeLine∧Q (.int z.length) H
 | [.ref p]=>∃ ys,(SqL K H p ys∨SqT K H p ys)∧Q (.int ys.length) H
 | _=>False
theorem uR:CallR X (.builtin "len") (nG X.K):=by
 intro pins s σ H xs us Q I r h
 match xs,h with
 | [.str z],h=>exact nP pins s σ H _ us Q I r ⟨z,rfl,h⟩
 | [.ref p],h=>obtain⟨ys,h1,h2⟩:=h; exact oz pins s σ H _ us Q I r ⟨p,ys,rfl,h1,h2⟩
def oq(K:PySem.W.Frag):R2:=fun x y H Q=>match x,y with
 | .ref p,.int i=>∃ xs v,(SqL K H p xs∨SqT K H p xs)∧dw xs i=some v∧Q v H
 | .str z,.int i=>∃ c,z.length≤sizeLine∧dw z.cps.toList i=some c∧Q (.str ⟨#[c]⟩) H
 | _,_=>False
theorem DH:IxR X (oq X.K):=by
 intro value slice pins s σ H x y v u Q I rx ry h hs
 refine Aa value slice pins s σ H x y v u Q I rx ry ?_ hs
 match x,y,h with
 | .ref p,.int i,h=>
  obtain⟨xs,v',h1,h2,h3⟩:=h
  rcases h1 with h1 | h1
  ·exact .inl ⟨p,xs,i,v',rfl,rfl,h1,h2,h3⟩
  ·exact .inr (.inl ⟨p,xs,i,v',rfl,rfl,h1,h2,h3⟩)
 | .str z,.int i,h=>
  obtain⟨c,h1,h2,h3⟩:=h
  exact .inr (.inr ⟨z,i,c,rfl,rfl,h1,h2,h3⟩)
end
section
variable{K:PySem.W.Frag}{H:Hp}{Q:VK}
theorem mx(i j:Int):nL (.int i) (.int j) H Q=Q (.int (i+j)) H:=rfl
theorem mh(a b:Str):nL (.str a) (.str b) H Q=(a.length+b.length≤sizeLine∧Q (.str (a++b)) H):=rfl
theorem gZ(l b:Addr):nL (.ref l) (.ref b) H Q=∃ xs zs,H l=some (.lst xs)∧H b=some (.lst zs)∧xs.length+zs.length≤sizeLine∧∀ p,H p=none→Q (.ref p) (upd H p (.lst (xs++zs))):=rfl
theorem n_(i j:Int):w9 (.int i) (.int j) H Q=Q (.bl (decide (i<j))) H:=rfl
theorem qo(i j:Str):w9 (.str i) (.str j) H Q=Q (.bl (decide (i.cps.toList<j.cps.toList))) H:=rfl
theorem ou(i j:Str):tW K (.str i) (.str j) H Q=Q (.bl (!(Builtin.Str.occurrences j i 0 j.length 1).isEmpty)) H:=rfl
theorem oJ(x:V)(p:Addr):tW K x (.ref p) H Q=∃ xs,(SqL K H p xs∨SqT K H p xs)∧cx x=true∧xs.all cx=true∧Q (.bl (fC x xs)) H:=by cases x <;> rfl
theorem mL(z:Str):nG K [.str z] H Q=(z.length≤sizeLine∧Q (.int z.length) H):=rfl
theorem mz(p:Addr):nG K [.ref p] H Q=∃ ys,(SqL K H p ys∨SqT K H p ys)∧Q (.int ys.length) H:=rfl
theorem pW(p:Addr)(i:Int):oq K (.ref p) (.int i) H Q=∃ xs v,(SqL K H p xs∨SqT K H p xs)∧dw xs i=some v∧Q v H:=rfl
theorem nV(z:Str)(i:Int):oq K (.str z) (.int i) H Q=∃ c,z.length≤sizeLine∧dw z.cps.toList i=some c∧Q (.str ⟨#[c]⟩) H:=rfl
theorem kW(p:Addr)(y:V):lT (.ref p) [y] H Q=∃ xs,H p=some (.lst xs)∧xs.length<sizeLine∧Q .non (upd H p (.lst (xs++[y]))):=
 propext ⟨fun ⟨_,xs,_,e1,e2,q⟩=>by cases e1; cases e2; exact⟨xs,q⟩,fun ⟨xs,q⟩=>⟨p,xs,y,rfl,rfl,q⟩⟩
theorem om(sep:Str)(p:Addr):ug K (.str sep) [.ref p] H Q=∃ ss,SqL K H p (ss.map V.str)∧(ss.map (·.length)).sum+ss.length * sep.length≤16777216∧Q (.str (Txt.join sep ss)) H:=
 propext ⟨fun ⟨_,_,ss,e1,e2,q⟩=>by cases e1; cases e2; exact⟨ss,q⟩,fun ⟨ss,q⟩=>⟨sep,p,ss,rfl,rfl,q⟩⟩
theorem rX(y:Str):ol K "str" (.str y) H=True:=eq_true rfl
theorem sE(p:Addr):(ol K "list" (.ref p) H)=∃ xs,SqL K H p xs:=by
 refine propext ⟨fun h=>?_,fun h=>.inl ⟨rfl,h⟩⟩
 rcases h with ⟨_,h⟩ | ⟨h,_⟩ | ⟨h,_⟩ | ⟨h,_⟩
 ·exact h
 ·exact absurd h (by decide)
 ·exact absurd h (by decide)
 ·exact absurd h (by decide)
end
theorem bQ:bootBuiltins "len" = some (.builtin "len"):=by decide +kernel
theorem cY:bootBuiltins "isinstance" = some (.builtin "isinstance"):=by decide +kernel
theorem ic:bootBuiltins "str" = some (.type "str"):=by decide +kernel
theorem kt:bootBuiltins "int" = some (.type "int"):=by decide +kernel
theorem zu:bootBuiltins "bool" = some (.type "bool"):=by decide +kernel
theorem qM:bootBuiltins "list" = some (.type "list"):=by decide +kernel
theorem ko:bootBuiltins "tuple" = some (.type "tuple"):=by decide +kernel
theorem ar{X:Cx}(i:Nat){x:Str}{e:Expr}{te:TE}{pos pos':Pos}(hN:X.N.Nodup)(he:PE X e te)(hi:X.N[i]? = some x:=by rfl)(hx:aE X.env.scope x:=by first | exact Or.inl rfl | exact Or.inr rfl)(hs:swapsWith e (some (.Name x pos')) pos.line X.env=pure false:=by rfl)
  (hf:X.fn x=true∨X.env.scope.names.lookup x=some .local:=by first | exact .inl rfl | exact .inr rfl | assumption):PS X (.Assign [.Name x pos'] e pos) (pL te (gT i)):=Bt hN hi hx he hs hf
theorem bt{X:Cx}(i:Nat){x:Str}{pos:Pos}(hN:X.N.Nodup)(hi:X.N[i]? = some x:=by rfl)(hx:aE X.env.scope x:=by first | exact Or.inl rfl | exact Or.inr rfl)
  (hf:X.fn x=true∨X.env.scope.names.lookup x=some .local:=by first | exact .inl rfl | exact .inr rfl | assumption):PG X (.Name x pos) (gT i):=zD hN hi hx hf
structure CompSc (fsc:Scope) (N N0 T:List Str) (scope:Scope):Prop where
 kind:scope.kind = .function
 nocell:∀ y∈scope.names,y.2 ≠ .cell
 names:∀ y∈scope.names,y.2 = .local→scope.names.lookup y.1=some .local
 free:∀ y∈scope.names,y.2 = .free→fsc.names.lookup y.1=some .cell∨fsc.names.lookup y.1=some .free
 apart:∀ y∈scope.names,y.2 = .local→y.1∉N0
 len0:N0.length=N.length
 same:((N0.zip N).all fun p=>p.1 == p.2 || !(scope.names.any fun y=>y.1 == p.1))=true
theorem CompSc.to{X:Cx}{fsc:Scope}{N N0 T:List Str}{scope:Scope}(S:CompSc fsc N N0 T scope)(h1:X.env.scope=fsc)(h2:X.N=N):gQ X N0 T scope:=by
 subst h1 h2
 refine⟨S.kind,S.nocell,S.names,S.free,S.apart,S.len0,fun i x k e m=>?_⟩
 have hl:=S.len0
 have hi:i<N0.length:=(List.getElem?_eq_some_iff.mp e).1
 have hN:X.N[i]? = some X.N[i]:=List.getElem?_eq_getElem (by omega)
 have hz:(x,X.N[i])∈N0.zip X.N:=List.mem_of_getElem? (i:=i) (by rw[List.getElem?_zip_eq_some]; exact⟨e,hN⟩)
 have q:=List.all_eq_true.mp S.same _ hz
 simp only[Bool.or_eq_true,beq_iff_eq,Bool.not_eq_true']at q
 rcases q with q | q
 ·rw[hN,← q]
 ·have:(scope.names.any fun y=>y.1 == x)=true:=List.any_eq_true.mpr ⟨_,m,by simp⟩
  rw[this]at q; cases q
def xq:R2:=Cg
def tO:R2:=Cp
theorem bT{X:Cx}:OpR X (compareOp .Eq) xq:=B6
theorem gN{X:Cx}:OpR X (compareOp .NotEq) tO:=BN
section
variable{K:PySem.W.Frag}{H:Hp}{Q:VK}
theorem qd(i j:Int):xq (.int i) (.int j) H Q=Q (.bl (decide (i=j))) H:=by
 have e:decide (V.int i=V.int j)=decide (i=j):=by by_cases h:i=j <;> simp[h]
 show (j9 (.int i) (.int j)=true∧Q (.bl (decide (V.int i=V.int j))) H)=_
 rw[e]; exact propext ⟨fun h=>h.2,fun h=>⟨rfl,h⟩⟩
theorem oC(i j:Str):xq (.str i) (.str j) H Q=Q (.bl (decide (i=j))) H:=by
 have e:decide (V.str i=V.str j)=decide (i=j):=by by_cases h:i=j <;> simp[h]
 show (j9 (.str i) (.str j)=true∧Q (.bl (decide (V.str i=V.str j))) H)=_
 rw[e]; exact propext ⟨fun h=>h.2,fun h=>⟨rfl,h⟩⟩
theorem pF(i j:Int):tO (.int i) (.int j) H Q=Q (.bl (!decide (i=j))) H:=by
 have e:decide (V.int i=V.int j)=decide (i=j):=by by_cases h:i=j <;> simp[h]
 show (j9 (.int i) (.int j)=true∧Q (.bl (!decide (V.int i=V.int j))) H)=_
 rw[e]; exact propext ⟨fun h=>h.2,fun h=>⟨rfl,h⟩⟩
theorem p6(i j:Str):tO (.str i) (.str j) H Q=Q (.bl (!decide (i=j))) H:=by
 have e:decide (V.str i=V.str j)=decide (i=j):=by by_cases h:i=j <;> simp[h]
 show (j9 (.str i) (.str j)=true∧Q (.bl (!decide (V.str i=V.str j))) H)=_
 rw[e]; exact propext ⟨fun h=>h.2,fun h=>⟨rfl,h⟩⟩
end
section
variable{X:Cx}(K:PySem.W.Frag)
theorem jp(hK:X.K=K:=by rfl):OpR X (compareOp .In) (tW K):=hK ▸ AB
theorem bb(hK:X.K=K:=by rfl):CallR X (.builtin "len") (nG K):=hK ▸ uR
theorem aO(hK:X.K=K:=by rfl):IxR X (oq K):=hK ▸ DH
theorem oU(hK:X.K=K:=by rfl):MtR X "str.join" (ug K):=hK ▸ yW
theorem fP(hK:X.K=K:=by rfl):SlR X (wC K):=hK ▸ zq
theorem dj{tg l:Expr}{tl:TE}(hl:PE X l tl)(hK:X.K=K:=by rfl):PI X tg l (ul K tl):=hK ▸ zi hl
theorem eR{es:List Expr}{k n:Nat}{t:gE}{pos:Pos}(h:PGs X es t)(hn:(assignEach es X.env).length=n:=by rfl)(hst:(assignEach es X.env).findIdx? (·.1)=none:=by rfl)(hK:X.K=K:=by rfl)(hc:X.calm=true:=by rfl):PG X (.Tuple es k pos) (ud K n t):=hK ▸ Bn hc h hn hst
theorem aW{o e:Expr}{es:List Expr}{to:TE}{t:TA}{name:Str}{apos cpos:Pos}{T id:String}{r:V→List V→Hp→VK→Prop}(pa:PlainAttrs T)(slot:Slot T name id)(hty:typeOf (.builtin id)=pure (.type "method_descriptor")) (hm:MtR X id r) (ho:PE X o to) (ha:PA X (e::es) t)
  (hbase:attributeBase o name X.env (eval o X.env)=eval o X.env:=by rfl)
  (hfew:((backTo cpos (starEach (e::es) X.env)).all (fun x=>!x.1)&&(backToKw cpos (keywordEach [] X.env)).all (fun x=>x.1.isSome)&&decide ((e::es).length+([]:List Keyword).length+(if ([]:List Keyword).isEmpty then 0 else 1)<30))=true:=by rfl)
  (hline:(apos.endLine == cpos.line)=true:=by rfl) (hs:starEach (e::es) X.env=(false,eval e X.env)::starEach es X.env:=by rfl) (hplain:(backTo cpos (starEach es X.env)).any (·.1)=false:=by rfl) (hK:X.K=K:=by rfl) :
  PE X (.Call (.Attribute o name apos) (e::es) [] cpos) (Ag K T r to t):=hK ▸ B_ pa slot hty hm ho ha hbase hfew hline hs hplain
theorem qw(hK:X.K=K:=by rfl):CallR X (.type "tuple") (fun xs H Q=>∃ p ys,xs=[.ref p]∧((SqL K H p ys∧∀ l,H l=none→Q (.ref l) (upd H l (.tup ys)))∨(SqT K H p ys∧Q (.ref p) H))):=hK ▸ nn
end
theorem vV(n:Int)(P:Int→Prop):(∃ j,[V.int n]=[V.int j]∧P j)=P n:=propext ⟨fun ⟨_,e,h⟩=>by cases e; exact h,fun h=>⟨n,rfl,h⟩⟩
theorem rE(x:V)(xs:List V)(P:V→List V→Prop):(∃ v r,x::xs=v::r∧P v r)=P x xs:=propext ⟨fun ⟨_,_,e,h⟩=>by cases e; exact h,fun h=>⟨x,xs,rfl,h⟩⟩
def fS(scope fsc:Scope):Scope:={ scope with names:=scope.names.map fun (n,k)=>if (k == .free&&fsc.kind == .function&&fsc.names.lookup n == some .cell) then (n,.cell) else (n,k) }
section
variable{X:Cx}{N0 T:List Str}{scope:Scope}{C:Addr}{fp:List Addr}{s:Shared}{H:Hp}{x:Str}
theorem GK(fsc:Scope)(h:(fS scope fsc).names.lookup x=some .globalImplicit)(e:X.env.scope=fsc:=by rfl):Gl (b4 X N0 T scope C fp s H) x:=by subst e; exact h
theorem d0(fsc:Scope)(h:((fS scope fsc).names.lookup x=some .local||(fS scope fsc).names.lookup x=some .cell||(fS scope fsc).names.lookup x=some .free)=true)(e:X.env.scope=fsc:=by rfl):ao (b4 X N0 T scope C fp s H).env.scope x:=by
 subst e
 simp only[Bool.or_eq_true,decide_eq_true_eq]at h
 rcases h with (h | h) | h
 ·exact .inl h
 ·exact .inr (.inl h)
 ·exact .inr (.inr h)
theorem ju(fsc:Scope)(h:(fS scope fsc).names.lookup x=some .local)(e:X.env.scope=fsc:=by rfl):aE (b4 X N0 T scope C fp s H).env.scope x:=by subst e; exact .inl h
theorem mw(fsc:Scope)(h:(fS scope fsc).names.lookup x=some .local)(e:X.env.scope=fsc:=by rfl):(b4 X N0 T scope C fp s H).fn x=true∨(b4 X N0 T scope C fp s H).env.scope.names.lookup x=some .local:=by subst e; exact .inr h
end
theorem bc{X:Cx}:MtR X "list.append" lT:=mD
theorem PW.pt'{X:Cx}{e:Expr}{t:TT}(h:PW X e t):PT X e t:=h.pt
theorem kD{σ : St}{H:Hp}{Q:List (V × V)→Hp→Prop}:jk [] σ H Q=Q [] H:=rfl
theorem jT{σ : St}{H:Hp}{Q:List (V × V)→Hp→Prop}(tk tv:TE)(r:List (TE × TE)):jk ((tk,tv)::r) σ H Q=tk σ H fun x H1=>tv σ H1 fun y H2=>jk r σ H2 fun ps H3=>Q ((x,y)::ps) H3:=rfl
theorem Same.upd{H H':Hp}{p:Addr}(sm:Same H H')(h:H p=none)(o:HO):Same H (upd H' p o):=fun b u q=>by rw[ah (au q h)]; exact sm b u q
theorem af{H:Hp}{p:Addr}(h:H p=none)(o:HO):Same H (upd H p o):=fun b u q=>by rw[ah (au q h)]; exact q
end L2
namespace L2
open PySem PySem.Spec PyProof.Rows PySem.SeqAt
def EqN(K:PySem.W.Frag)(H:Hp):Nat→V→V→Bool→Prop
 | 0,x,y,b=>cx x=true∧cx y=true∧b=ej x y
 | n+1,x,y,b=>(cx x=true∧cx y=true∧b=ej x y)∨∃ a c xs ys,x = .ref a∧y = .ref c∧((SqL K H a xs∧SqL K H c ys)∨(SqT K H a xs∧SqT K H c ys))∧
   ((∃ e:Nat→Bool,xs.length=ys.length∧(∀ (i:Nat) x y,xs[i]? = some x→ys[i]? = some y→EqN K H n x y (e i))∧b=(List.range xs.length).all e)∨
    (SqL K H a xs∧SqL K H c ys∧xs.length≠ys.length∧b=false))
theorem j_:∀ {x:V},cx x=true→ej x x=true
 | .non,_=>rfl
 | .bl b,_=>by simp[ej]
 | .int i,_=>by simp[ej]
 | .str y,_=>by simp[ej]
section
variable{X:Cx}{pins:List (Addr × Obj)}{σ : St}{H:Hp}{s:Shared}
theorem EqN.self(I:Inv X pins σ H s):∀ {n:Nat} {x:V} {b:Bool},EqN X.K H n x x b→b=true
 | 0,x,b,h=>by obtain⟨h1,_,rfl⟩:=h; exact j_ h1
 | n+1,x,b,h=>by
  rcases h with ⟨h1,_,rfl⟩ | ⟨a,c,xs,ys,rfl,e,hq,h⟩
  ·exact j_ h1
  ·cases e
   have exy:xs=ys:=by
    rcases hq with ⟨q1,q2⟩ | ⟨q1,q2⟩
    ·exact I.list_inj q1 q2
    ·exact I.tuple_inj q1 q2
   subst exy
   rcases h with ⟨e,_,he,rfl⟩ | ⟨_,_,z,_⟩
   ·rw[List.all_eq_true]
    intro i hi
    have hi':=List.mem_range.mp hi
    have q:=he i xs[i] xs[i] (List.getElem?_eq_getElem hi') (List.getElem?_eq_getElem hi')
    exact EqN.self I q
   ·exact absurd rfl z
theorem EqN.rc(I:Inv X pins σ H s){n:Nat}(ih:∀ {A:Around} {x y:V} {b:Bool} {u v:Value},A.units+n<cLine→EqN X.K H n x y b→RelV x u→RelV y v→EqAt A s u v b)
  {A:Around} {a c:Addr} {xs ys:List V} {b:Bool} (hu:A.units+(n+1)<cLine) (hq:(SqL X.K H a xs∧SqL X.K H c ys)∨(SqT X.K H a xs∧SqT X.K H c ys))
  (h:(∃ e:Nat→Bool,xs.length=ys.length∧(∀ (i:Nat) x y,xs[i]? = some x→ys[i]? = some y→EqN X.K H n x y (e i))∧b=(List.range xs.length).all e)∨(SqL X.K H a xs∧SqL X.K H c ys∧xs.length≠ys.length∧b=false)) :
  RcAt A s (.ref a) (.ref c) b∧RcNeAt A s (.ref a) (.ref c) (!b):=by
 have hin:A.in1.units+n<cLine:=by
  have:A.in1.units=A.units+1:=rfl
  omega
 rcases h with ⟨e,hl,he,rfl⟩ | ⟨q1,q2,hl,rfl⟩
 ·rcases hq with ⟨q1,q2⟩ | ⟨q1,q2⟩
  ·obtain⟨i1,r1,p1,z1⟩:=I.list q1
   obtain⟨i2,r2,p2,z2⟩:=I.list q2
   have l1:=r1.length
   have l2:=r2.length
   have hit:∀ j (h1:j<i1.toArray.size) (h2:j<i2.toArray.size),EqAt A.in1 s i1.toArray[j] i2.toArray[j] (e j):=fun j h1 h2=>by
    obtain⟨x,hx,rx⟩:=r1.of (i:=j) (u:=i1.toArray[j]) (by simp at h1 ⊢)
    obtain⟨y,hy,ry⟩:=r2.of (i:=j) (u:=i2.toArray[j]) (by simp at h2 ⊢)
    exact ih hin (he j x y hx hy) rx ry
   have ez:xs.length=i1.toArray.size:=by simp; omega
   rw[ez]
   exact⟨RcAt.lists p1.isList p2.isList (by simp; omega) (by omega) hit,RcNeAt.lists p1.isList p2.isList (by simp; omega) (by omega) hit⟩
  ·obtain⟨i1,r1,p1,z1⟩:=I.tuple q1
   obtain⟨i2,r2,p2,z2⟩:=I.tuple q2
   have l1:=r1.length
   have l2:=r2.length
   have hit:∀ j (h1:j<i1.toArray.size) (h2:j<i2.toArray.size),EqAt A.in1 s i1.toArray[j] i2.toArray[j] (e j):=fun j h1 h2=>by
    obtain⟨x,hx,rx⟩:=r1.of (i:=j) (u:=i1.toArray[j]) (by simp at h1 ⊢)
    obtain⟨y,hy,ry⟩:=r2.of (i:=j) (u:=i2.toArray[j]) (by simp at h2 ⊢)
    exact ih hin (he j x y hx hy) rx ry
   have ez:(List.range xs.length).all e=((List.range (min i1.toArray.size i2.toArray.size)).all e&&i1.toArray.size == i2.toArray.size):=by
    have e1:i1.toArray.size=xs.length:=by simp; omega
    have e2:i2.toArray.size=xs.length:=by simp; omega
    rw[e1,e2,Nat.min_self]; simp
   rw[ez]
   exact⟨RcAt.tuples (show s.heap.IsTuple a i1.toArray from p1) (show s.heap.IsTuple c i2.toArray from p2) (by omega) hit,RcNeAt.tuples (show s.heap.IsTuple a i1.toArray from p1) (show s.heap.IsTuple c i2.toArray from p2) (by omega) hit⟩
 ·obtain⟨i1,r1,p1,z1⟩:=I.list q1
  obtain⟨i2,r2,p2,z2⟩:=I.list q2
  have l1:=r1.length
  have l2:=r2.length
  have hne:(i1.toArray.size != i2.toArray.size)=true:=by
   rw[bne_iff_ne]; simp; omega
  exact⟨RcAt.lists_lengths p1.isList p2.isList hne (by omega),RcNeAt.lists_lengths p1.isList p2.isList hne (by omega)⟩
theorem EqN.at(I:Inv X pins σ H s):∀ {n:Nat} {A:Around} {x y:V} {b:Bool} {u v:Value},A.units+n<cLine→EqN X.K H n x y b→RelV x u→RelV y v→EqAt A s u v b
 | 0,A,x,y,b,u,v,_,h,rx,ry=>by obtain⟨h1,h2,rfl⟩:=h; exact iQ rx ry h1 h2
 | n+1,A,x,y,b,u,v,hu,h,rx,ry=>by
  have h0:=h
  rcases h with ⟨h1,h2,rfl⟩ | ⟨a,c,xs,ys,rfl,rfl,hq,h⟩
  ·exact iQ rx ry h1 h2
  ·cases rx
   cases ry
   by_cases hac:a=c
   ·subst hac
    rw[EqN.self I h0]
    exact EqAt.same _
   ·exact EqAt.of_refs hac (EqN.rc I (fun hu' q rx ry=>EqN.at I hu' q rx ry) hu hq h).1
end
section
variable{X:Cx}
def xj(K:PySem.W.Frag):R2:=fun x y H Q=>∃ (a c:Addr) (n:Nat) (b:Bool),x = .ref a∧y = .ref c∧n≤100∧EqN K H (n+1) x y b∧Q (.bl (!b)) H
theorem zL(hu:X.A.units+101<cLine):OpR X (compareOp .NotEq) (xj X.K):=by
 intro pins s σ H x y v u Q I rx ry h
 obtain⟨a,c,n,b,rfl,rfl,hn,he,q⟩:=h
 cases rx
 cases ry
 rcases he with ⟨h1,_⟩ | ⟨a',c',xs,ys,e1,e2,hq,h⟩
 ·cases h1
 ·cases e1
  cases e2
  exact(EqN.rc I (fun hu' q rx ry=>EqN.at I hu' q rx ry) (by omega) hq h).2 _ _ _ _ ⟨.bl (!b),H,I,rfl,q⟩
theorem sf(K:PySem.W.Frag){k:Nat}(hr:Room k X.A)(hK:X.K=K:=by rfl):OpR X (compareOp .NotEq) (xj K):=by subst hK; exact zL (by have:=hr.un; omega)
end
section
variable{K:PySem.W.Frag}{H:Hp}{Q:VK}
theorem si(a c:Addr):xj K (.ref a) (.ref c) H Q=∃ (n:Nat) (b:Bool),n≤100∧EqN K H (n+1) (.ref a) (.ref c) b∧Q (.bl (!b)) H:=
 propext ⟨fun ⟨_,_,n,b,e1,e2,q⟩=>⟨n,b,q⟩,fun ⟨n,b,q⟩=>⟨a,c,n,b,rfl,rfl,q⟩⟩
theorem EqN.flat{n:Nat}{x y:V}(hx:cx x=true)(hy:cx y=true):EqN K H n x y (ej x y):=by
 cases n with
 | zero=>exact⟨hx,hy,rfl⟩
 | succ n=>exact .inl ⟨hx,hy,rfl⟩
theorem EqN.refl{n:Nat}{x:V}(hx:cx x=true):EqN K H n x x true:=by
 have q:EqN K H n x x (ej x x):=EqN.flat hx hx
 rwa [j_ hx]at q
theorem EqN.seq{n:Nat}{a c:Addr}{xs ys:List V}(hq:(SqL K H a xs∧SqL K H c ys)∨(SqT K H a xs∧SqT K H c ys))(hl:xs.length=ys.length)(he:∀ (i:Nat) x y,xs[i]? = some x→ys[i]? = some y→EqN K H n x y true):EqN K H (n+1) (.ref a) (.ref c) true:=
 .inr ⟨a,c,xs,ys,rfl,rfl,hq,.inl ⟨fun _=>true,hl,he,by simp⟩⟩
theorem EqN.seqFlat{n:Nat}{a c:Addr}{xs:List V}(hq:(SqL K H a xs∧SqL K H c xs)∨(SqT K H a xs∧SqT K H c xs))(hf:∀ x∈xs,cx x=true):EqN K H (n+1) (.ref a) (.ref c) true:=
 EqN.seq hq rfl fun i x y e1 e2=>by
  rw[e1]at e2; cases e2
  exact EqN.refl (hf x (List.mem_of_getElem? e1))
end
section
variable{X:Cx}
end
section
variable{X:Cx}
def ye:List V→Hp→VK→Prop:=fun xs H Q=>∃ i,xs=[.int i]∧i.natAbs.log2<1920∧Q (.str (toString i)) H
theorem mj:CallR X (.type "str") ye:=i0
def yH:List V→Hp→VK→Prop:=fun xs H Q=>(∃ i,xs=[.int i]∧Q (.int i) H)∨∃ k,xs=[.bl k]∧Q (.int (if k then 1 else 0)) H
theorem mX:CallR X (.type "int") yH:=vL
def vj(K:PySem.W.Frag):List V→Hp→VK→Prop:=fun xs H Q=>∃ p ys,xs=[.ref p]∧((SqL K H p ys∧∀ l,H l=none→Q (.ref l) (upd H l (.tup ys)))∨(SqT K H p ys∧Q (.ref p) H))
theorem md(K:PySem.W.Frag)(hK:X.K=K:=by rfl):CallR X (.type "tuple") (vj K):=qw K hK
def ub:R2:=fun x y H Q=>match x,y with
 | .int i,.int j=>CMul i j∧Q (.int (i * j)) H
 | .str z,.int n=>0≤n∧n≤4096∧z.length≤4096∧Q (.str (Txt.mul z n)) H
 | _,_=>False
theorem fR:OpR X (binaryOp .Mult) ub:=by
 intro pins s σ H x y v u Q I rx ry h
 match x,y,h with
 | .int i,.int j,h=>exact zJ pins s σ H _ _ v u Q I rx ry ⟨_,_,rfl,rfl,h⟩
 | .str z,.int n,h=>
  obtain⟨t,rfl⟩:=rx
  obtain⟨t',rfl⟩:=ry
  obtain⟨h0,h1,h2,q⟩:=h
  exact SB.mul (mulOk_of 4096 4096 h2 (by omega) (by omega) (by decide) (by decide)) fun t' k=>⟨.str (Txt.mul z n),H,I.tok k,⟨t',rfl⟩,q⟩
end
section
variable{K:PySem.W.Frag}{H:Hp}{Q:VK}
theorem qj(i:Int):ye [.int i] H Q=(i.natAbs.log2<1920∧Q (.str (toString i)) H):=propext ⟨fun ⟨_,e,q⟩=>by cases e; exact q,fun q=>⟨i,rfl,q⟩⟩
theorem pA(k:Bool):yH [.bl k] H Q=Q (.int (if k then 1 else 0)) H:=propext ⟨fun h=>by rcases h with ⟨_,e,q⟩ | ⟨_,e,q⟩ <;> cases e; exact q,fun q=>.inr ⟨k,rfl,q⟩⟩
theorem mC(p:Addr):vj K [.ref p] H Q=∃ ys,((SqL K H p ys∧∀ l,H l=none→Q (.ref l) (upd H l (.tup ys)))∨(SqT K H p ys∧Q (.ref p) H)):=propext ⟨fun ⟨_,ys,e,q⟩=>by cases e; exact⟨ys,q⟩,fun ⟨ys,q⟩=>⟨p,ys,rfl,q⟩⟩
theorem mV(i j:Int):ub (.int i) (.int j) H Q=(CMul i j∧Q (.int (i * j)) H):=rfl
theorem ml(z:Str)(n:Int):ub (.str z) (.int n) H Q=(0≤n∧n≤4096∧z.length≤4096∧Q (.str (Txt.mul z n)) H):=rfl
theorem sg(a:Addr)(lo hi:Option Int):wC K (.ref a) lo hi H Q=∃ xs,SqL K H a xs∧∀ p,H p=none→Q (.ref p) (upd H p (.lst (dI xs lo hi))):=propext ⟨fun ⟨_,xs,e,q⟩=>by cases e; exact⟨xs,q⟩,fun ⟨xs,q⟩=>⟨a,xs,rfl,q⟩⟩
theorem yM(g:Int→V)(i:Int):rU g (.int i) H Q=Q (g i) H:=propext ⟨fun ⟨_,e,q⟩=>by cases e; exact q,fun q=>⟨i,rfl,q⟩⟩
end
theorem bn{n:Nat}(h:n≤1000000):n<sizeLine:=by
 have:sizeLine=16777216:=sizeLine_eq
 omega
theorem aQ{n:Nat}(h:n≤1000000):n≤sizeLine:=Nat.le_of_lt (bn h)
theorem v5{α : Type}{f:α→V}{xs:List α}{i:Int}{x:α}(h0:0≤i)(h:xs[i.toNat]? = some x):dw (xs.map f) i=some (f x):=by
 have q:(xs.map f)[i.toNat]? = some (f x):=by rw[List.getElem?_map,h]; rfl
 have q':=bC q
 rwa [show ((i.toNat:Nat):Int)=i by omega]at q'
theorem eL{H H':Hp}{p:Addr}{o:HO}(h:upd H p o=H')(hp:H p=none):Same H H':=h ▸ af hp o
theorem gn{H H':Hp}{p:Addr}{o:HO}(h:upd H p o=H'):H' p=some o:=h ▸ ac
theorem oT{α β : Type}{f:α→β}(xs:List α)(x:α):xs.map f++[f x]=(xs++[x]).map f:=by rw[List.map_append]; rfl
end L2
namespace L2
open PySem PySem.Spec PyProof.Rows
theorem Inv.turnedL{X:Cx}{pins:List (Addr × Obj)}{σ : St}{H:Hp}{s:Shared}{h':Heap}{t':Nat}{ch:List Addr}(I:Inv X pins σ H s)(k:∀ b o,b∉ch→s.heap.get? b=some o→h'.get? b=some o)
  (hf:∀ b∈ch,gP X pins H b):Inv X pins σ H { s with heap:=h',toks:=t' }:=by
 have nit:∀ b u,H b=some u→b∉ch:=fun b u e z=>by rw[(hf b z).1]at e; cases e
 refine I.step (g':=s.gens) (d':=s.drawn) (ch:=ch) (fun b hb=>?_) (fun b o _ _ hc e _=>k b o hc e) (fun b o _ _ hc e _=>⟨o.slots,k b o hc e⟩) (fun _ _ _ _ n=>n)
  (fun b o hc e=>⟨o,k b o hc e⟩) (fun _ _ e=>e) (fun _ _ _ e=>e) (fun b ps e=>⟨#[],by rw[e]; simp⟩) (fun m hm=>?_) (fun b u e=>?_) I.bare
 ·obtain⟨_,f1,_,f3,f4,f5⟩:=hf b hb
  exact⟨f3,f1,f4,f5⟩
 ·obtain⟨o,es,ep,ho,r⟩:=hm
  exact⟨o,es,ep,k _ o (fun z=>(hf _ z).2.1 rfl) ho,r⟩
 ·refine(I.hok b u e).stay (fun c v hc q=>k c v ?_ q) (fun _ q=>q) fun _ _ q=>q
  rcases hc with z | z
  ·rw[z]; exact nit b u e
  ·exact nit c _ z
theorem Inv.turnedLaid{X:Cx}{pins:List (Addr × Obj)}{σ : St}{H:Hp}{s:Shared}{h':Heap}{t':Nat}{ch:List Addr}{a:Addr}{o:HO}(I:Inv X pins σ H s)(k:∀ b o,b∉ch→s.heap.get? b=some o→h'.get? b=some o)
  (hf:∀ b∈ch,gP X pins H b) (hp:s.heap.objs.size≤a) (new:ObjOk X.prog X.w (upd H a o) h' a o):Inv X pins σ (upd H a o) { s with heap:=h',toks:=t' }:=by
 have hn:H a=none:=I.hok.fresh hp
 have nit:∀ b u,H b=some u→b∉ch:=fun b u e z=>by rw[(hf b z).1]at e; cases e
 refine I.step (g':=s.gens) (d':=s.drawn) (ch:=ch) (fun b hb=>?_) (fun b o _ _ hc e _=>k b o hc e) (fun b o _ _ hc e _=>⟨o.slots,k b o hc e⟩) (fun b u _ q n=>?_)
  (fun b o hc e=>⟨o,k b o hc e⟩) (fun b xs q=>?_) (fun b u xs q=>?_) (fun b ps q=>⟨#[],?_⟩) (fun m hm=>?_) (fun b u e=>?_) I.bare
 ·obtain⟨_,f1,_,f3,f4,f5⟩:=hf b hb
  exact⟨f3,f1,f4,f5⟩
 ·rw[ah (Nat.ne_of_lt (Nat.lt_of_lt_of_le (Heap.lt_size q) hp))]; exact n
 ·rw[ah (au q hn)]; exact q
 ·rw[ah (au q hn)]; exact q
 ·rw[ah (au q hn),q]; simp
 ·obtain⟨o,es,ep,ho,r⟩:=hm
  exact⟨o,es,ep,k _ o (fun z=>(hf _ z).2.1 rfl) ho,r⟩
 ·by_cases hb:b=a
  ·subst hb; rw[ac]at e; cases e; exact new
  ·rw[ah hb]at e
   refine(I.hok b u e).stay (fun c v hc q=>k c v ?_ q) (fun c q=>by rw[ah (au q hn)]; exact q) fun c xs q=>by rw[ah (au q hn)]; exact q
   rcases hc with z | z
   ·rw[z]; exact nit b u e
   ·exact nit c _ z
def yk(K:PySem.W.Frag)(a b:Addr):It:=
  ⟨fun i H=>∃ xs ys x y,SqL K H a xs∧SqL K H b ys∧xs[i]? = some x∧ys[i]? = some y,
   fun i H v H'=>∃ t x y,H t=none∧v = .ref t∧H'=upd H t (.tup [x,y])∧(∀ xs,SqL K H a xs→xs[i]? = some x)∧∀ ys,SqL K H b ys→ys[i]? = some y,
   fun i H=>∃ xs ys,SqL K H a xs∧SqL K H b ys∧(xs.length≤i∨ys.length≤i)⟩
structure kL (z TI TO i1 i2:Addr):Prop where
 TIz:TI≠z
 TOz:TO≠z
 i1z:i1≠z
 i2z:i2≠z
 TITO:TI≠TO
 TIi1:TI≠i1
 TIi2:TI≠i2
 TOi1:TO≠i1
 TOi2:TO≠i2
 i12:i1≠i2
theorem fu{h:Heap}{l c:Addr}{xs:Array Value}{o:Obj}(hl:h.IsList l xs)(e:h.get? c=some o)(hc:o.cls ≠ .type "list"):l≠c:=by
 rintro rfl
 obtain⟨o',e',c',_⟩:=hl
 rw[e]at e'; cases e'
 exact hc c'
def Cs(z TI TO i1 i2 l1 l2:Addr)(i:Nat)(h:Heap):Prop:=
 IsZip h z TI TO .none∧IsPair h TI (.ref i1) (.ref i2)∧(∃ a b,IsPair h TO a b)∧h.IsListIter i1 l1 i∧h.IsListIter i2 l2 i
theorem u9{h:Heap}{z TI TO i1 i2 l1 l2:Addr}{i:Nat}{xs ys:Array Value}(D:kL z TI TO i1 i2)(st:Cs z TI TO i1 i2 l1 l2 i h)(h1:h.IsList l1 xs)(h2:h.IsList l2 ys):ZipApart z TI TO i1 i2 l1 l2:=by
 obtain⟨s1,s2,⟨a,b,s3⟩,⟨o4,s4,c4,_⟩,⟨o5,s5,c5,_⟩⟩:=st
 have n4:o4.cls ≠ .type "list" := by rw[c4]; decide
 have n5:o5.cls ≠ .type "list" := by rw[c5]; decide
 have nz:Value.type "zip" ≠ Value.type "list" := by decide
 have nt:Value.type "tuple" ≠ Value.type "list" := by decide
 exact⟨D.TIz,D.TOz,D.i1z,D.i2z,D.TITO,D.TIi1,D.TIi2,D.TOi1,D.TOi2,D.i12,fu h1 s1 nz,fu h1 s3 nt,fu h1 s4 n4,fu h1 s5 n5,fu h2 s1 nz,fu h2 s3 nt,fu h2 s4 n4,fu h2 s5 n5⟩
theorem wM{P:Program}{w:World}{K:PySem.W.Frag}{elts:List Expr}{k:Nat}{pos:Pos}{z TI TO i1 i2 l1 l2:Addr}(D:kL z TI TO i1 i2):iy P w K (.Tuple elts k pos) (yk K l1 l2) [z,TI,TO,i1,i2] z (Cs z TI TO i1 i2 l1 l2) where
 mem:=by simp
 obj:=fun i h st b hb=>by
  obtain⟨s1,s2,⟨_,_,s3⟩,⟨o4,s4,c4,d4⟩,⟨o5,s5,c5,d5⟩⟩:=st
  simp only[List.mem_cons,List.mem_nil_iff,or_false]at hb
  rcases hb with rfl | rfl | rfl | rfl | rfl
  ·exact⟨_,s1,fun v e=>by cases e⟩
  ·exact⟨_,s2,fun v e=>by cases e⟩
  ·exact⟨_,s3,fun v e=>by cases e⟩
  ·exact⟨_,s4,fun v e=>by rw[d4]at e; cases e⟩
  ·exact⟨_,s5,fun v e=>by rw[d5]at e; cases e⟩
 keep:=fun i h h' st kk=>by
  obtain⟨s1,s2,⟨a,b,s3⟩,s4,s5⟩:=st
  exact⟨kk z (by simp) _ s1,kk TI (by simp) _ s2,⟨a,b,kk TO (by simp) _ s3⟩,s4.at fun o e=>kk i1 (by simp) o e,s5.at fun o e=>kk i2 (by simp) o e⟩
 item:=by
  intro X hP hw hK hc i pins s σ H E I hf st hg
  subst hP hw hK
  obtain⟨xs,ys,x,y,q1,q2,hx,hy⟩:=hg
  obtain⟨is1,rv1,p1,_⟩:=I.list q1
  obtain⟨is2,rv2,p2,_⟩:=I.list q2
  obtain⟨u1,hu1,ru1⟩:=rv1.get hx
  obtain⟨u2,hu2,ru2⟩:=rv2.get hy
  have D':=u9 D st p1.isList p2.isList
  obtain⟨s1,s2,⟨a,b,s3⟩,s4,s5⟩:=st
  refine wpAny_pyNext_zip_item D' s1 s2 s3 s4 s5 p1.isList p2.isList (x:=u1) (y:=u2) (by simpa using hu1) (by simpa using hu2) fun h' a1 a2 a3 a4 a5 a6 kk=>?_
  refine⟨_,rfl,wpAny_letOwnedTupleGo_zip a1 fun h'' hz' hs'=>?_⟩
  have lt:∀ {c o},s.heap.get? c=some o→s.heap.objs.size≠c:=fun e=>Nat.ne_of_gt (Heap.lt_size e)
  have zne:s.heap.objs.size≠z:=lt s1
  have keep2:∀ b o,b∉[z,TI,TO,i1,i2]→s.heap.get? b=some o→h''.get? b=some o:=fun b o hb e=>by
   simp only[List.mem_cons,List.mem_nil_iff,or_false,not_or]at hb
   exact hs'.extBut _ _ hb.1 (kk b o hb.1 hb.2.2.1 hb.2.2.2.1 hb.2.2.2.2 e)
  have hsz:H s.heap.objs.size=none:=I.hok.fresh (Nat.le_refl _)
  have tupN:IsPair h'' s.heap.objs.size u1 u2:=hs'.extBut _ _ zne a5
  have nlt:∀ c∈[z,TI,TO,i1,i2],c≠s.heap.objs.size:=fun c hc'=>by
   obtain⟨o4,e4,_⟩:=id s4
   obtain⟨o5,e5,_⟩:=id s5
   simp only[List.mem_cons,List.mem_nil_iff,or_false]at hc'
   rcases hc' with rfl | rfl | rfl | rfl | rfl
   ·exact(lt s1).symm
   ·exact(lt s2).symm
   ·exact(lt s3).symm
   ·exact(lt e4).symm
   ·exact(lt e5).symm
  refine⟨.ref s.heap.objs.size,upd H s.heap.objs.size (.tup [x,y]),I.turnedLaid (t':=s.toks) keep2 hf (Nat.le_refl _) ⟨aQ (by show 2≤1000000; decide),[u1,u2],.cons ru1 (.cons ru2 .nil),⟨_,tupN,rfl,rfl,0,rfl⟩⟩,rfl,⟨_,x,y,hsz,rfl,rfl,fun xs' q'=>?_,fun ys' q'=>?_⟩,
   ⟨hz',hs'.extBut _ _ D.TIz (kk _ _ D.TIz D.TITO D.TIi1 D.TIi2 s2),⟨_,_,hs'.extBut _ _ D.TOz a2⟩,a3.extBut hs'.extBut D.i1z,a4.extBut hs'.extBut D.i2z⟩,fun c hc'=>?_⟩
  ·rw[I.list_inj q' q1]; exact hx
  ·rw[I.list_inj q' q2]; exact hy
  ·rw[ah (nlt c hc')]; exact(hf c hc').1
 done:=by
  intro X hP hw hK hc i pins s σ H E I hf st hg
  subst hP hw hK
  obtain⟨xs,ys,q1,q2,hlen⟩:=hg
  obtain⟨is1,rv1,p1,_⟩:=I.list q1
  obtain⟨is2,rv2,p2,_⟩:=I.list q2
  have l1:=rv1.length
  have l2:=rv2.length
  have D':=u9 D st p1.isList p2.isList
  obtain⟨s1,s2,⟨a,b,s3⟩,s4,s5⟩:=st
  refine wpAny_pyNext_zip_end (I.ok.hd hc) D' s1 s2 s3 s4 s5 p1.isList p2.isList ?_ fun h' kk=>⟨rfl,I.turnedL (t':=s.toks) (fun b o hb e=>?_) hf⟩
  ·rcases hlen with z | z
   ·exact .inl (by simp; omega)
   ·exact .inr (by simp; omega)
  ·simp only[List.mem_cons,List.mem_nil_iff,or_false,not_or]at hb
   exact kk b o hb.1 hb.2.2.1 hb.2.2.2.1 hb.2.2.2.2 e
 self:=fun A i s Q E st h=>wpAny_pyIter_zip st.1 h
theorem Cz(n:Nat):kL (n+4) (n+2) (n+3) n (n+1):=⟨(show (@Ne Nat (n+2) (n+4):Prop) by omega),(show (@Ne Nat (n+3) (n+4):Prop) by omega),(show (@Ne Nat (n) (n+4):Prop) by omega),(show (@Ne Nat (n+1) (n+4):Prop) by omega),(show (@Ne Nat (n+2) (n+3):Prop) by omega),(show (@Ne Nat (n+2) (n):Prop) by omega),(show (@Ne Nat (n+2) (n+1):Prop) by omega),(show (@Ne Nat (n+3) (n):Prop) by omega),(show (@Ne Nat (n+3) (n+1):Prop) by omega),(show (@Ne Nat (n) (n+1):Prop) by omega)⟩
theorem qe:bootBuiltins "zip" = some (.type "zip"):=by decide +kernel
def x2(K:PySem.W.Frag)(ta:TA):TI:=fun σ H R=>ta σ H fun vs H1=>∃ a b:Addr,vs=[.ref a,.ref b]∧(∃ xs,SqL K H1 a xs)∧(∃ ys,SqL K H1 b ys)∧R (yk K a b) H1
theorem qQ(K:PySem.W.Frag)(ta:TA){σ : St}{H:Hp}{R:It→Hp→Prop}:x2 K ta σ H R=ta σ H fun vs H1=>∃ a b:Addr,vs=[.ref a,.ref b]∧(∃ xs,SqL K H1 a xs)∧(∃ ys,SqL K H1 b ys)∧R (yk K a b) H1:=rfl
theorem pE(n m:Addr)(P:Addr→Addr→Prop):(∃ i j,[V.ref n,V.ref m]=[V.ref i,V.ref j]∧P i j)=P n m:=propext ⟨fun ⟨_,_,e,h⟩=>by cases e; exact h,fun h=>⟨n,m,rfl,h⟩⟩
theorem AV{X:Cx}{elts:List Expr}{k:Nat}{tpos:Pos}{a b:Expr}{ta:TA}{p pos:Pos}(hg:Gl X "zip") (hm:X.mg "zip" = none) (ha:PA X [a,b] ta) (hs:starEach [a,b] X.env=[(false,eval a X.env),(false,eval b X.env)]:=by rfl) (hs2:starEach [b] X.env=[(false,eval b X.env)]:=by rfl) :
  PI X (.Tuple elts k tpos) (.Call (.Name "zip" p) [a,b] [] pos) (x2 X.K ta):=by
 intro pins s σ H R I h
 refine Call_ (ga I hg hm qe (PyProof.Rows.callWith_type1 (bz (ha pos pins s σ H _ I h) fun us s1 ⟨vs,H1,I1,r1,q1⟩=>?_) (by rw[hs,hs2]) (by rw[hs2]; rfl)))
 obtain⟨l1,l2,e,⟨xs,h1⟩,⟨ys,h2⟩,q⟩:=q1
 subst e
 obtain⟨u1,u2,rfl,r1,r2⟩:=kT r1
 cases r1
 cases r2
 obtain⟨is1,_,p1,_⟩:=I1.list h1
 obtain⟨is2,_,p2,_⟩:=I1.list h2
 refine call_zip_2 p1.isList p2.isList fun h' a1 a2 a3 a4 a5 a6 kk=>?_
 refine wpAny_pyIter_zip a1 ⟨_,[s1.heap.objs.size+4,s1.heap.objs.size+2,s1.heap.objs.size+3,s1.heap.objs.size,s1.heap.objs.size+1],_,_,H1,rfl,I1.kept (t':=s1.toks) kk,
  wM (z:=s1.heap.objs.size+4) (TI:=s1.heap.objs.size+2) (TO:=s1.heap.objs.size+3) (i1:=s1.heap.objs.size) (i2:=s1.heap.objs.size+1) (Cz _),⟨a1,a2,⟨_,_,a3⟩,a4,a5⟩,fun b hb=>?_,q⟩
 have hb':s1.heap.objs.size≤b:=by
  simp only[List.mem_cons,List.mem_nil_iff,or_false]at hb
  rcases hb with rfl | rfl | rfl | rfl | rfl <;> first | exact Nat.le_refl _ | exact Nat.le_add_right _ _
 exact I1.fpOk hb' (I1.hok.fresh hb')
theorem zt(K:PySem.W.Frag){X:Cx}{elts:List Expr}{k:Nat}{tpos:Pos}{a b:Expr}{ta:TA}{p pos:Pos}(hg:Gl X "zip") (hm:X.mg "zip" = none) (ha:PA X [a,b] ta) (hs:starEach [a,b] X.env=[(false,eval a X.env),(false,eval b X.env)]:=by rfl) (hs2:starEach [b] X.env=[(false,eval b X.env)]:=by rfl) (hK:X.K=K:=by rfl) :
  PI X (.Tuple elts k tpos) (.Call (.Name "zip" p) [a,b] [] pos) (x2 K ta):=hK ▸ AV hg hm ha hs hs2
section
variable{X:Cx}
end
section
variable{σ : St}{H:Hp}{Q:VK}
end
end L2
namespace L2
open PySem PySem.Spec PyProof.Rows
def vI(K:PySem.W.Frag)(a:Addr):It:=
  ⟨fun i H=>∃ xs x,SqL K H a xs∧xs[i]? = some x,
   fun i H v H'=>∃ t x,H t=none∧v = .ref t∧H'=upd H t (.tup [.int i,x])∧∀ xs,SqL K H a xs→xs[i]? = some x,
   fun i H=>∃ xs,SqL K H a xs∧xs.length≤i⟩
def Gu(e it l:Addr)(i:Nat)(h:Heap):Prop:=(∃ old,IsEnum h e it i old)∧h.IsListIter it l i
theorem uu{P:Program}{w:World}{K:PySem.W.Frag}{elts:List Expr}{k:Nat}{pos:Pos}{e it l:Addr}(hei:e≠it):iy P w K (.Tuple elts k pos) (vI K l) [e,it] e (Gu e it l) where
 mem:=by simp
 obj:=fun i h st b hb=>by
  obtain⟨⟨old,s1⟩,⟨o4,s4,c4,d4⟩⟩:=st
  simp only[List.mem_cons,List.mem_nil_iff,or_false]at hb
  rcases hb with rfl | rfl
  ·exact⟨_,s1,fun v e=>by cases e⟩
  ·exact⟨_,s4,fun v e=>by rw[d4]at e; cases e⟩
 keep:=fun i h h' st kk=>by
  obtain⟨⟨old,s1⟩,s4⟩:=st
  exact⟨⟨old,kk e (by simp) _ s1⟩,s4.at fun o z=>kk it (by simp) o z⟩
 item:=by
  intro X hP hw hK hc i pins s σ H E I hf st hg
  subst hP hw hK
  obtain⟨xs,x,q1,hx⟩:=hg
  obtain⟨is1,rv1,p1,_⟩:=I.list q1
  obtain⟨u1,hu1,ru1⟩:=rv1.get hx
  obtain⟨⟨old,s1⟩,s4⟩:=st
  refine wpAny_pyNext_enum_item s1 s4 p1.isList (x:=u1) (by simpa using hu1) hei fun h' a1 a3 a5 a6 kk=>?_
  refine⟨_,rfl,wpAny_letOwnedTupleGo_enum a1 fun h'' hz' hs'=>?_⟩
  have lt:∀ {c o},s.heap.get? c=some o→s.heap.objs.size≠c:=fun z=>Nat.ne_of_gt (Heap.lt_size z)
  have zne:s.heap.objs.size≠e:=lt s1
  have keep2:∀ b o,b∉[e,it]→s.heap.get? b=some o→h''.get? b=some o:=fun b o hb z=>by
   simp only[List.mem_cons,List.mem_nil_iff,or_false,not_or]at hb
   exact hs'.extBut _ _ hb.1 (kk b o hb.1 hb.2 z)
  have hsz:H s.heap.objs.size=none:=I.hok.fresh (Nat.le_refl _)
  have tupN:=hs'.extBut _ _ zne a5
  have nlt:∀ c∈[e,it],c≠s.heap.objs.size:=fun c hc'=>by
   obtain⟨o4,e4,_⟩:=id s4
   simp only[List.mem_cons,List.mem_nil_iff,or_false]at hc'
   rcases hc' with rfl | rfl
   ·exact(lt s1).symm
   ·exact(lt e4).symm
  refine⟨.ref s.heap.objs.size,upd H s.heap.objs.size (.tup [.int i,x]),I.turnedLaid (t':=s.toks+1) keep2 hf (Nat.le_refl _) ⟨aQ (by show 2≤1000000; decide),[.int i s.toks,u1],.cons ⟨_,rfl⟩ (.cons ru1 .nil),⟨_,tupN,rfl,rfl,0,rfl⟩⟩,rfl,⟨_,x,hsz,rfl,rfl,fun xs' q'=>?_⟩,
   ⟨⟨_,by simpa using hz'⟩,a3.extBut hs'.extBut hei.symm⟩,fun c hc'=>?_⟩
  ·rw[I.list_inj q' q1]; exact hx
  ·rw[ah (nlt c hc')]; exact(hf c hc').1
 done:=by
  intro X hP hw hK hc i pins s σ H E I hf st hg
  subst hP hw hK
  obtain⟨xs,q1,hlen⟩:=hg
  obtain⟨is1,rv1,p1,_⟩:=I.list q1
  have l1:=rv1.length
  obtain⟨⟨old,s1⟩,s4⟩:=st
  refine wpAny_pyNext_enum_end (I.ok.hd hc) s1 s4 p1.isList (by simp; omega) fun h' kk=>⟨rfl,I.turnedL (t':=s.toks) (fun b o hb z=>?_) hf⟩
  simp only[List.mem_cons,List.mem_nil_iff,or_false,not_or]at hb
  exact kk b o hb.2 z
 self:=fun A i s Q E st h=>by
  obtain⟨⟨old,s1⟩,_⟩:=st
  exact wpAny_pyIter_enum s1 h
theorem lR:bootBuiltins "enumerate" = some (.type "enumerate"):=by decide +kernel
def yF(K:PySem.W.Frag)(ta:TA):TI:=fun σ H R=>ta σ H fun vs H1=>∃ a:Addr,vs=[.ref a]∧(∃ xs,H1 a=some (.lst xs))∧R (vI K a) H1
theorem p7(K:PySem.W.Frag)(ta:TA){σ : St}{H:Hp}{R:It→Hp→Prop}:yF K ta σ H R=ta σ H fun vs H1=>∃ a:Addr,vs=[.ref a]∧(∃ xs,H1 a=some (.lst xs))∧R (vI K a) H1:=rfl
theorem rF(n:Addr)(P:Addr→Prop):(∃ i,[V.ref n]=[V.ref i]∧P i)=P n:=propext ⟨fun ⟨_,e,h⟩=>by cases e; exact h,fun h=>⟨n,rfl,h⟩⟩
theorem pT(K:PySem.W.Frag){X:Cx}{elts:List Expr}{k:Nat}{tpos:Pos}{a:Expr}{ta:TA}{p pos:Pos}(hg:Gl X "enumerate") (hm:X.mg "enumerate" = none) (ha:PA X [a] ta) (hs:starEach [a] X.env=[(false,eval a X.env)]:=by rfl) (hK:X.K=K:=by rfl) :
  PI X (.Tuple elts k tpos) (.Call (.Name "enumerate" p) [a] [] pos) (yF K ta):=by
 subst hK
 intro pins s σ H R I h
 refine Call_ (ga I hg hm lR (PyProof.Rows.callWith_type1 (bz (ha pos pins s σ H _ I h) fun us s1 ⟨vs,H1,I1,r1,q1⟩=>?_) hs rfl))
 obtain⟨l,e,⟨xs,h1⟩,q⟩:=q1
 subst e
 obtain⟨u1,rfl,r1'⟩:=dz r1
 obtain rfl:u1=Value.ref l:=r1'
 obtain⟨hz,its,n,rv,hl⟩ : xs.length≤sizeLine∧∃ (its:List Value) (n:Nat),Vals xs its∧s1.heap.get? l=some { cls:=.type "list", data:=.seq its.toArray n }:=I1.hok l _ h1
 refine call_enumerate_1 hl fun h' a1 a4 a6 kk=>?_
 refine wpAny_pyIter_enum a1 ⟨_,[s1.heap.objs.size+1,s1.heap.objs.size],_,_,H1,rfl,I1.kept (t':=s1.toks) kk,
  uu (e:=s1.heap.objs.size+1) (it:=s1.heap.objs.size) (Nat.ne_of_gt (Nat.lt_succ_self _)),⟨⟨_,a1⟩,a4⟩,fun b hb=>?_,q⟩
 have hb':s1.heap.objs.size≤b:=by
  simp only[List.mem_cons,List.mem_nil_iff,or_false]at hb
  rcases hb with rfl | rfl <;> first | exact Nat.le_refl _ | exact Nat.le_add_right _ _
 exact I1.fpOk hb' (I1.hok.fresh hb')
section
variable{K:PySem.W.Frag}{a b:Addr}{xs ys:List V}{g:TG}{te:TE}{nT:Nat}{σ : St}{D:Addr}{Q:VK}{H:Hp}
theorem uF{tb:TS}{D:dO}(Pv:Nat→St→Hp→Prop)(h0:Pv 0 σ H)(hl:∀ i σ H,i≤xs.length→Pv i σ H→SqL K H a xs)
  (hs:∀ i x t σ H,xs[i]? = some x→Pv i σ H→H t=none→g (.ref t) σ (upd H t (.tup [.int i,x])) fun σ2 H2=>tb { D with nx:=Pv (i+1),ct:=Pv (i+1),bk:=D.nx } σ2 H2) (hd:∀ σ H,Pv xs.length σ H→D.nx σ H):ix (vI K a) g tb D σ H:=by
 refine ig xs.length Pv h0 (fun i σ H hi p=>⟨xs,xs[i],hl i σ H (Nat.le_of_lt hi) p,by simp[hi]⟩) (fun σ H p=>⟨xs,hl _ σ H (Nat.le_refl _) p,Nat.le_refl _⟩) (fun i σ H v H' hi p yl=>?_) hd
 obtain⟨t,x,ht,rfl,rfl,y1⟩:=yl
 exact hs i x t σ H (y1 xs (hl i σ H (Nat.le_of_lt hi) p)) p ht
theorem wV{tb:TS}{D:dO}(Pv:Nat→St→Hp→Prop)(hn:xs.length=ys.length)(h0:Pv 0 σ H)(hl:∀ i σ H,i≤xs.length→Pv i σ H→SqL K H a xs∧SqL K H b ys)
  (hs:∀ i x y t σ H,xs[i]? = some x→ys[i]? = some y→Pv i σ H→H t=none→g (.ref t) σ (upd H t (.tup [x,y])) fun σ2 H2=>tb { D with nx:=Pv (i+1),ct:=Pv (i+1),bk:=D.nx } σ2 H2) (hd:∀ σ H,Pv xs.length σ H→D.nx σ H):ix (yk K a b) g tb D σ H:=by
 refine ig xs.length Pv h0 (fun i σ H hi p=>⟨xs,ys,xs[i],ys[i],(hl i σ H (Nat.le_of_lt hi) p).1,(hl i σ H (Nat.le_of_lt hi) p).2,by simp[hi],by simp[hn ▸ hi]⟩) (fun σ H p=>⟨xs,ys,(hl _ σ H (Nat.le_refl _) p).1,(hl _ σ H (Nat.le_refl _) p).2,.inl (Nat.le_refl _)⟩) (fun i σ H v H' hi p yl=>?_) hd
 obtain⟨t,x,y,ht,rfl,rfl,y1,y2⟩:=yl
 exact hs i x y t σ H (y1 xs (hl i σ H (Nat.le_of_lt hi) p).1) (y2 ys (hl i σ H (Nat.le_of_lt hi) p).2) p ht
def tG(n i:Nat)(Pv:Nat→List V→Hp→Prop)(ys:List V)(H:Hp):Prop:=∃ m',m'<n - i∧(m'=n - (i+1)∧i+1≤n∧Pv (i+1) ys H)
theorem uq{n i:Nat}{Pv:Nat→List V→Hp→Prop}{ys:List V}{H:Hp}(hi:i<n)(h:Pv (i+1) ys H):tG n i Pv ys H:=⟨n - (i+1),by omega,rfl,hi,h⟩
theorem pb{n i:Nat}{Pv:Nat→List V→Hp→Prop}{D:Addr}{ys:List V}{y:V}{H:Hp}(hi:i<n)(hlen:ys.length≤i)(hz:n≤sizeLine)(h1:H D=some (.lst ys))(h2:Pv (i+1) (ys++[y]) (upd H D (.lst (ys++[y])))):iB n i Pv D ys y H:=
 ⟨h1,by omega,n - (i+1),by omega,rfl,hi,h2⟩
def li(n i:Nat)(Pv:Nat→List V→Hp→Prop)(D:Addr)(ys:List V)(tc:TT)(te:TE)(σ : St)(H:Hp):Prop:=
 tc σ H fun b H4=>if b=true then te σ H4 (iB n i Pv D ys) else tG n i Pv ys H4
theorem oA{n i:Nat}{Pv:Nat→List V→Hp→Prop}{D:Addr}{ys:List V}{tc:TT}{te:TE}{σ : St}{H:Hp}:li n i Pv D ys tc te σ H=tc σ H fun b H4=>if b=true then te σ H4 (iB n i Pv D ys) else tG n i Pv ys H4:=rfl
theorem km{J:It}{tc:TT}(n:Nat)(Pv:Nat→List V→Hp→Prop)(h0:Pv 0 [] H)(hgo:∀ i ys H,i<n→Pv i ys H→J.go i H)(hst:∀ ys H,Pv n ys H→J.stop n H)
  (hs:∀ i ys H x H',i<n→Pv i ys H→J.yld i H x H'→g x (σ++List.replicate nT none) H' (li n i Pv D ys tc te))
  (hd:∀ ys H,Pv n ys H→Q (.ref D) H):fB J g tc te nT σ D Q H:=by
 refine⟨fun i m ys H=>m=n - i∧i≤n∧Pv i ys H,⟨n,by simp,Nat.zero_le _,h0⟩,?_⟩
 rintro i m ys H ⟨rfl,hi,p⟩
 by_cases hlt:i<n
 ·exact .inr ⟨hgo i ys H hlt p,fun x H' y=>hs i ys H x H' hlt p y⟩
 ·have e:i=n:=by omega
  subst e
  exact .inl ⟨hst ys H p,hd ys H p⟩
theorem t0{tc:TT}(Pv:Nat→List V→Hp→Prop)(h0:Pv 0 [] H)(hl:∀ i ys H,i≤xs.length→Pv i ys H→SqL K H a xs)
  (hs:∀ i ys H x,xs[i]? = some x→i<xs.length→Pv i ys H→g x (σ++List.replicate nT none) H (li xs.length i Pv D ys tc te))
  (hd:∀ ys H,Pv xs.length ys H→Q (.ref D) H):fB (kz K a) g tc te nT σ D Q H:=by
 refine km xs.length Pv h0 (fun i ys H hi p=>⟨xs,xs[i],hl i ys H (Nat.le_of_lt hi) p,by simp[hi]⟩) (fun ys H p=>⟨xs,hl _ ys H (Nat.le_refl _) p,Nat.le_refl _⟩) (fun i ys H x H' hi p yl=>?_) hd
 obtain⟨rfl,y⟩:=yl
 exact hs i ys _ x (y xs (hl i ys _ (Nat.le_of_lt hi) p)) hi p
theorem qy{tc:TT}{lo:Int}{n:Nat}(Pv:Nat→List V→Hp→Prop)(h0:Pv 0 [] H)
  (hs:∀ i ys H,i<n→Pv i ys H→g (.int (lo+i)) (σ++List.replicate nT none) H (li n i Pv D ys tc te))
  (hd:∀ ys H,Pv n ys H→Q (.ref D) H):fB (jW lo n) g tc te nT σ D Q H:=by
 refine km n Pv h0 (fun i ys H hi p=>hi) (fun ys H p=>Nat.le_refl _) (fun i ys H x H' hi p yl=>?_) hd
 obtain⟨rfl,rfl⟩:=yl
 exact hs i ys _ hi p
end
end L2
namespace L2
open PySem PySem.Spec PyProof.Rows
theorem y8(lo hi:Option Int)(n:Nat):Builtin.Str.strSliceIndices lo hi 1 n=(List.range (HT.sIx n n hi - HT.sIx n 0 lo)).map (HT.sIx n 0 lo + ·):=by
 obtain⟨h1,h2,h3⟩:=jj lo hi n
 rw[← sliceRange_one,← h1,← h2]
 cases lo <;> cases hi <;> rfl
theorem va(x:Str)(lo hi:Option Int):(Txt.slice x lo hi).cps.toList=(x.cps.toList.drop (HT.sIx x.length 0 lo)).take (HT.sIx x.length x.length hi - HT.sIx x.length 0 lo):=by
 have hn:x.cps.toList.length=x.length:=by simp[Str.length]
 have hb:=HT.sIx_le x.length x.length (Nat.le_refl _) hi
 unfold Txt.slice
 rw[y8]
 by_cases h:((1:Int) == 1&&((List.range (HT.sIx x.length x.length hi - HT.sIx x.length 0 lo)).map (HT.sIx x.length 0 lo + ·)).length == x.length)=true
 ·rw[if_pos h]
  simp only[List.length_map,List.length_range,Bool.and_eq_true,beq_iff_eq]at h
  have h2:=h.2
  rcases Nat.eq_zero_or_pos x.length with z | z
  ·have e:x.cps.toList=[]:=List.eq_nil_of_length_eq_zero (by omega)
   rw[e]; simp
  ·have a0:HT.sIx x.length 0 lo=0:=by omega
   rw[a0,List.drop_zero,List.take_of_length_le (by omega)]
 ·rw[if_neg h]
  show ((List.filterMap _ _).toArray).toList=_
  rw[pick_run]
def AJ:V→Option Int→Option Int→Hp→VK→Prop:=fun x lo hi H Q=>∃ y,x = .str y∧y.length≤sizeLine∧Q (.str (Txt.slice y lo hi)) H
theorem hG{X:Cx}:SlR X AJ:=by
 intro pins s σ H x v vl vu lo hi sl Q I rx hs pl pu h
 obtain⟨y,rfl,hz,q⟩:=h
 obtain⟨t,rfl⟩:=rx
 obtain⟨l,hl,el⟩ : ∃ l:Option (Int × Tok),vl=partValue l∧l.map (·.1)=lo:=by
  cases pl with
  | none=>exact⟨none,rfl,rfl⟩
  | int i t=>exact⟨some (i,t),rfl,rfl⟩
 obtain⟨u,hu,eu⟩ : ∃ l:Option (Int × Tok),vu=partValue l∧l.map (·.1)=hi:=by
  cases pu with
  | none=>exact⟨none,rfl,rfl⟩
  | int i t=>exact⟨some (i,t),rfl,rfl⟩
 subst hl hu el eu
 refine⟨"str", _,PySem.F.slot_str_getitem.lookup,typeIs_str _ _ _,wpAny_getItem_str_slice (l:=l) (u:=u) (st:=none) hs rfl (post_val_or_str ⟨Nat.le_trans (Txt.slice_le y _ _) hz,fun t' k=>⟨.str _,H,I.tok k,⟨t',rfl⟩,q⟩⟩)⟩
theorem rs{H:Hp}{Q:VK}(y:Str)(lo hi:Option Int):AJ (.str y) lo hi H Q=(y.length≤sizeLine∧Q (.str (Txt.slice y lo hi)) H):=propext ⟨fun ⟨_,e,h⟩=>by cases e; exact h,fun h=>⟨y,rfl,h⟩⟩
end L2
namespace L2
open PySem PySem.Spec PyProof.Rows
set_option genInjectivity false in
set_option genSizeOf false in
structure IK (prog:Program) (w:World) (κ : Type) [DecidableEq κ] where
 is:Heap→κ→Value→Prop
 hash:κ→Int
 draws:κ→Nat
 deep:Nat
 inj:∀ {h:Heap} {v:Value} {x y:κ},is h x v→is h y v→x=y
 keeps:∀ {h h':Heap} {k:κ} {v:Value} {d:Addr} {o:Obj} {es ep},is h k v→h.get? d=some o→o.data = .dict es ep→Heap.SameBut d h h'→is h' k v
 pyHash:∀ {A:Around} {E:Value→Shared→Prop} {s:Shared} {k:κ} {v:Value} {Q:Int→Shared→Prop},A.units+deep<cLine→is s.heap k v→Q (hash k) { s with toks:=s.toks+draws k }→
  wpAny (model prog w) A (PySem.pyHash v) Q E s
 eqBool:∀ {A:Around} {E:Value→Shared→Prop} {s:Shared} {x y:κ} {u v:Value} {Q:Bool→Shared→Prop},A.units+deep<cLine→is s.heap x u→is s.heap y v→Q (decide (x=y)) s→
  wpAny (model prog w) A (PySem.eqBool u v) Q E s
 quiet:∀ {A:Around} {E:Value→Shared→Prop} {s:Shared} {k:κ} {v:Value} {n:Nat} {Q:Bool→Shared→Prop},is s.heap k v→Q true s→wpAny (model prog w) A (eqIsQuiet (n+deep) v) Q E s
section
variable{prog:Program}{w:World}{κ : Type}[DecidableEq κ](K:IK prog w κ)
inductive IsItems (h:Heap):List κ→List Value→Prop
 | nil:IsItems h [] []
 | cons {k:κ} {v:Value} {ks:List κ} {vs:List Value}:K.is h k v→IsItems h ks vs→IsItems h (k::ks) (v::vs)
def IsTupK(h:Heap)(ks:List κ)(v:Value):Prop:=∃ a o items n,v = .ref a∧h.get? a=some o∧o.cls = .type "tuple" ∧ o.data = .seq items n∧IsItems K h ks items.toList
variable{K}
theorem IsItems.inj{h:Heap}:∀ {x y:List κ} {vs:List Value},IsItems K h x vs→IsItems K h y vs→x=y
 | _,_,_,.nil,.nil=>rfl
 | _,_,_,.cons a b,.cons c d=>by rw[K.inj a c,IsItems.inj b d]
theorem IsItems.keeps{h h':Heap}{d:Addr}{o:Obj}{es ep}(ho:h.get? d=some o)(hd:o.data = .dict es ep)(hs:Heap.SameBut d h h'):∀ {x:List κ} {vs:List Value},IsItems K h x vs→IsItems K h' x vs
 | _,_,.nil=>.nil
 | _,_,.cons a b=>.cons (K.keeps a ho hd hs) (b.keeps ho hd hs)
theorem IsItems.len{h:Heap}:∀ {x:List κ} {vs:List Value},IsItems K h x vs→x.length=vs.length
 | _,_,.nil=>rfl
 | _,_,.cons _ b=>by rw[List.length_cons,List.length_cons,b.len]
def g_(K:IK prog w κ)(ks:List κ):Nat:=(ks.map K.draws).sum
def nS(K:IK prog w κ)(ks:List κ):Int:=reduceHash (Builtin.Tuple.tupleHashOf (ks.map K.hash))
theorem iR{A:Around}{E:Value→Shared→Prop}{s:Shared}{ks:List κ}{v:Value}{Q:Int→Shared→Prop}(hu:A.units+(K.deep+1)<cLine)(hk:IsTupK K s.heap ks v)(h:Q (nS K ks) { s with toks:=s.toks+(g_ K ks+1) }) :
  wpAny (model prog w) A (PySem.pyHash v) Q E s:=by
 obtain⟨a,o,items,n,rfl,ho,hc,hd,hi⟩:=hk
 have hT:s.TypeIs (.ref a) "tuple" := ⟨o,ho,hc⟩
 unfold PySem.pyHash
 first | unfold pyHashByItsType | skip
 first | refine wpAny_bind (wpAny_cRoomFor_or (.inr (by omega)) ?_) | skip
 refine wpAny_bind (wpAny_specialOf hT PySem.F.slot_tuple_hash.lookup ?_)
 rw[if_neg (by rw[beq_builtin_none]; exact Bool.false_ne_true)]
 refine wpAny_bind (wpAny_specialOf hT PySem.F.slot_tuple_hash.lookup ?_)
 show wpAny _ _ (callSpecialIfBoundUnlessNone? (.ref a) "__hash__" _ >>= _) Q E s
 refine wpAny_bind (wpAny_callSpecialIfBoundUnlessNone?_slot hT PySem.F.slot_tuple_hash (wpAny_call_entry PySem.F.slot_tuple_hash hT
  PySem.F.entry_tuple_hash ?_ (PySem.F.args_tuple_hash_1 _)))
 show wpAny _ _ (Builtin.Tuple.tupleItemsOf (.ref a) >>= _) _ _ s
 refine wpAny_bind (wpAny_tupleItemsOf ho hd (wpAny_bind ?_))
 rw[← Array.forIn_toList]
 refine wpAny_forIn_list _ (fun rest (b:Array Int) s'=>∃ done left,ks=done++left∧IsItems K s.heap left rest∧b.toList=done.map K.hash∧s'={ s with toks:=s.toks+g_ K done }) _ ?_ ?_ _ _ ⟨[],ks,rfl,hi,rfl,rfl⟩
 ·rintro x rest b s' ⟨done,left,rfl,hl,hb,rfl⟩
  cases hl with
  | @cons k _ ks' _ h1 hl'=>
   have e:g_ K (done++[k])=g_ K done+K.draws k:=by simp[g_]
   refine wpAny_bind (K.pyHash (show A.in1.units+K.deep<cLine from by show A.units+1+K.deep<cLine; omega) h1 ?_)
   have fin:∃ done' left',done++k::ks'=done'++left'∧IsItems K s.heap left' rest∧(b.push (K.hash k)).toList=done'.map K.hash∧({ s with toks:=s.toks+g_ K done+K.draws k }:Shared)={ s with toks:=s.toks+g_ K done' }:=
    ⟨done++[k],ks',by simp,hl',by simp[hb],by rw[e,Nat.add_assoc]⟩
   first
    | exact wpAny_pure fin
    | exact wpAny_bind (wpAny_pure (wpAny_pure fin))
 ·rintro b s' ⟨done,left,rfl,hl,hb,rfl⟩
  cases hl
  rw[List.append_nil]at h
  show wpAny _ _ (retInt (Builtin.Tuple.tupleHashOf b.toList)) _ _ _
  rw[hb]
  refine wpAny_ret_mkInt ?_
  unfold nS reduceHash at h
  show wpAny _ _ (if (decide (-(2:Int) ^ 63≤Builtin.Tuple.tupleHashOf (done.map K.hash))&&decide (Builtin.Tuple.tupleHashOf (done.map K.hash)<2 ^ 63))=true then _ else _) Q E _
  by_cases hr:(decide (-(2:Int) ^ 63≤Builtin.Tuple.tupleHashOf (done.map K.hash))&&decide (Builtin.Tuple.tupleHashOf (done.map K.hash)<2 ^ 63))=true
  ·rw[if_pos hr]at h ⊢
   exact wpAny_pure (by simpa [Nat.add_assoc] using h)
  ·rw[if_neg hr]at h ⊢
   exact wpAny_bind (wpAny_rule (wpAny_pure (by simpa [Nat.add_assoc] using h)))
theorem sL{A:Around}{E:Value→Shared→Prop}{s:Shared}{x y:List κ}{a b:Addr}{P:Fin→Shared→Prop}(hu:A.units+K.deep<cLine)(hx:IsTupK K s.heap x (.ref a))(hy:IsTupK K s.heap y (.ref b))(h:P (.done (.ret (.bool (decide (x=y))))) s) :
  wpAny (model prog w) A (Builtin.«tuple.__eq__» ⟨[.ref a,.ref b],[]⟩) P E s:=by
 obtain⟨_,oa,xs,na,e1,hoa,ca,hda,hia⟩:=hx
 obtain⟨_,ob,ys,nb,e2,hob,cb,hdb,hib⟩:=hy
 cases e1
 cases e2
 show wpAny _ _ (isInstance (.ref b) (.type "tuple") >>= _) _ _ s
 refine wpAny_bind (wpAny_isInstance ⟨ob,hob,cb⟩ isSubtype_tuple_tuple ?_)
 simp only[Bool.not_true,Bool.false_eq_true,if_false]
 refine wpAny_bind (wpAny_tupleItemsOf hoa hda (wpAny_bind (wpAny_tupleItemsOf hob hdb (wpAny_bind ?_))))
 refine wpAny_forIn_list _ (fun rest r s'=>r.1=none∧s'=s∧∃ x' y' xs' ys',rest=List.zip xs' ys'∧IsItems K s.heap x' xs'∧IsItems K s.heap y' ys'∧decide (x'=y')=decide (x=y)∧(xs'.length == ys'.length)=(xs.size == ys.size)) _ ?_ ?_ _ _
  ⟨rfl,rfl,x,y,xs.toList,ys.toList,rfl,hia,hib,rfl,by simp⟩
 ·rintro⟨u,v⟩ rest r s' ⟨hr,rfl,x',y',xs',ys',hz,hx',hy',hdec,hlen⟩
  cases hx' with
  | nil=>simp at hz
  | @cons k1 u' x'' xs'' h1 hx''=>
   cases hy' with
   | nil=>simp at hz
   | @cons k2 v' y'' ys'' h2 hy''=>
    simp only[List.zip_cons_cons,List.cons.injEq,Prod.mk.injEq]at hz
    obtain⟨⟨rfl,rfl⟩,rfl⟩:=hz
    refine wpAny_bind (K.eqBool (x:=k1) (y:=k2) hu h1 h2 ?_)
    by_cases hk:k1=k2
    ·subst hk
     rw[decide_eq_true rfl]
     simp only[Bool.not_true,Bool.false_eq_true,if_false]
     refine wpAny_pure ⟨rfl,rfl,x'',y'',xs'',ys'',rfl,hx'',hy'',?_,by simpa using hlen⟩
     rw[← hdec]
     by_cases hxy:x''=y'' <;> simp[hxy]
    ·rw[decide_eq_false hk]
     simp only[Bool.not_false,if_true]
     have hf:decide (x=y)=false:=by rw[← hdec]; simp[hk]
     rw[hf]at h
     exact wpAny_bind (wpAny_pure (wpAny_pure (wpAny_pure h)))
 ·rintro⟨r1,r2⟩ s' ⟨hr,rfl,x',y',xs',ys',hz,hx',hy',hdec,hlen⟩
  simp only at hr
  subst hr
  refine wpAny_pure ?_
  have hfin:(xs.size == ys.size)=decide (x=y):=by
   rw[← hdec,← hlen]
   cases hx' with
   | nil=>cases hy' <;> simp
   | cons _ _=>
    cases hy' with
    | nil=>simp
    | cons _ _=>simp at hz
  show P (.done (.ret (.bool (xs.size == ys.size)))) s'
  rw[hfin]; exact h
theorem lS{A:Around}{E:Value→Shared→Prop}{s:Shared}{x y:List κ}{u v:Value}{Q:Bool→Shared→Prop}(hu:A.units+(K.deep+1)<cLine)(hx:IsTupK K s.heap x u)(hy:IsTupK K s.heap y v)(h:Q (decide (x=y)) s) :
  wpAny (model prog w) A (PySem.eqBool u v) Q E s:=by
 have hx0:=hx
 have hy0:=hy
 obtain⟨a,oa,xs,na,rfl,hoa,ca,hda,hia⟩:=hx
 obtain⟨b,ob,ys,nb,rfl,hob,cb,hdb,hib⟩:=hy
 unfold PySem.eqBool
 try with_reducible refine wpAny_holding ?_
 show wpAny _ _ (if (Value.ref a == Value.ref b)=true then _ else _) Q E s
 by_cases hab:(Value.ref a == Value.ref b)=true
 ·rw[if_pos hab]
  have e:a=b:=by have:=eq_of_beq hab; injection this
  subst e
  rw[hoa]at hob
  cases hob
  rw[hda]at hdb
  injection hdb with e1 _
  subst e1
  rw[decide_eq_true (hia.inj hib)]at h
  exact wpAny_bind (wpAny_rule (wpAny_pure h))
 ·rw[if_neg hab]
  have ta:s.TypeIs (.ref a) "tuple" := ⟨oa,hoa,ca⟩
  have tb:s.TypeIs (.ref b) "tuple" := ⟨ob,hob,cb⟩
  refine wpAny_bind (wpAny_richCompare_same_room (op:=.Eq) ta tb PySem.F.slot_tuple_eq (wpAny_call_entry PySem.F.slot_tuple_eq ta PySem.F.entry_tuple_eq ?_ (PySem.F.args_tuple_eq_2 _ _)) (by omega))
  refine sL (K:=K) ?_ hx0 hy0 ⟨_,rfl,(fun e=>nomatch e),wpAny_truthy_bool h⟩
  show A.units+1+K.deep<cLine
  omega
theorem im{A:Around}{E:Value→Shared→Prop}{s:Shared}{ks:List κ}{v:Value}{n:Nat}{Q:Bool→Shared→Prop}(hk:IsTupK K s.heap ks v)(h:Q true s):wpAny (model prog w) A (eqIsQuiet (n+(K.deep+1)) v) Q E s:=by
 obtain⟨a,o,items,m,rfl,ho,hc,hd,hi⟩:=hk
 have hT:s.TypeIs (.ref a) "tuple" := ⟨o,ho,hc⟩
 rw[show n+(K.deep+1)=(n+K.deep)+1 from rfl]
 unfold eqIsQuiet
 refine wpAny_bind (wpAny_specialOf hT PySem.F.slot_tuple_eq.lookup ?_)
 show wpAny _ _ (isInstance (.ref a) (.type "tuple") >>= _) _ _ s
 refine wpAny_bind (wpAny_isInstance hT isSubtype_tuple_tuple ?_)
 simp only[Bool.not_true,Bool.false_eq_true,if_false]
 refine wpAny_bind (wpAny_seqItems ho hd (wpAny_bind ?_))
 show wpAny _ _ (forIn items _ _) _ _ s
 rw[← Array.forIn_toList]
 refine wpAny_forIn_list _ (fun rest r s'=>r.1=none∧s'=s∧∃ ks',IsItems K s.heap ks' rest) _ ?_ ?_ _ _ ⟨rfl,rfl,ks,hi⟩
 ·rintro v rest r s' ⟨hr,rfl,ks',hall⟩
  cases hall with
  | cons h1 h2=>
   refine wpAny_bind (K.quiet h1 ?_)
   simp only[Bool.not_true,Bool.false_eq_true,if_false]
   exact wpAny_pure ⟨rfl,rfl,_,h2⟩
 ·rintro⟨r1,r2⟩ s' ⟨hr,rfl,_⟩
  simp only at hr
  subst hr
  exact wpAny_pure h
def uo(K:IK prog w κ):IK prog w (List κ) where
 is:=IsTupK K
 hash:=nS K
 draws:=fun ks=>g_ K ks+1
 deep:=K.deep+1
 inj:=by
  rintro h v x y ⟨a,oa,xs,na,rfl,hoa,ca,hda,hia⟩ ⟨b,ob,ys,nb,e,hob,cb,hdb,hib⟩
  cases e
  rw[hoa]at hob
  cases hob
  rw[hda]at hdb
  injection hdb with e1 _
  subst e1
  exact hia.inj hib
 keeps:=by
  rintro h h' k v d o es ep ⟨a,oa,xs,na,rfl,hoa,ca,hda,hia⟩ ho hd hs
  have hne:a≠d:=by
   rintro rfl
   rw[hoa]at ho
   cases ho
   rw[hd]at hda; cases hda
  exact⟨a,oa,xs,na,rfl,(hs.2 a hne).trans hoa,ca,hda,hia.keeps ho hd hs⟩
 pyHash:=fun hu hk h=>iR hu hk h
 eqBool:=fun hu hx hy h=>lS hu hx hy h
 quiet:=fun hk h=>im hk h
def yg(K:IK prog w κ)(hd:K.deep≤7):HeapKind prog w (List κ) where
 is:=fun h k a=>IsTupK K h k (.ref a)
 hash:=nS K
 draws:=fun ks=>g_ K ks+1
 room:=fun A=>A.units+(K.deep+1)<cLine
 inj:=(uo K).inj
 keeps:=(uo K).keeps
 pyHash:=fun hu hk h=>iR hu hk h
 eqBool:=fun hu hx hy h=>lS hu hx hy h
 quiet:=fun {A E s k a Q} hk h=>by
  have q:=im (n:=7 - K.deep) (A:=A) (E:=E) hk h
  rwa [show 7 - K.deep+(K.deep+1)=8 by omega]at q
end
end L2
namespace L2
open PySem PySem.Spec PyProof.Rows
def eF:Option Int→V
 | none=>.non
 | some i=>.int i
theorem wu{x y:Option Int}{v:Value}(a:RelV (eF x) v)(b:RelV (eF y) v):x=y:=by
 have e:=a.inj b
 cases x <;> cases y <;> simp_all [eF]
theorem fw(x:Option Int):cx (eF x)=true:=by cases x <;> rfl
theorem qY(x y:Option Int):ej (eF x) (eF y)=decide (x=y):=by
 cases x with
 | none=>cases y <;> rfl
 | some i=>
  cases y with
  | none=>rfl
  | some j=>
   show (i == j)=_
   by_cases h:i=j <;> simp[h]
theorem u_{prog:Program}{w:World}{A:Around}{E:Value→Shared→Prop}{s:Shared}{Q:Int→Shared→Prop}(h:Q 0xFCA86420 { s with toks:=s.toks+1 }):wpAny (model prog w) A (PySem.pyHash .none) Q E s:=by
 have hT:s.TypeIs .none "NoneType" := rfl
 unfold PySem.pyHash
 first | unfold pyHashByItsType | skip
 refine wpAny_bind ?_
 rw[cRoomFor,if_neg (by decide)]
 refine wpAny_pure (wpAny_bind (wpAny_specialOf hT PySem.F.slot_NoneType_hash.lookup ?_))
 rw[if_neg (by rw[beq_builtin_none]; exact Bool.false_ne_true)]
 refine wpAny_bind (wpAny_specialOf hT PySem.F.slot_NoneType_hash.lookup ?_)
 show wpAny _ _ (callSpecialIfBoundUnlessNone? .none "__hash__" _ >>= _) Q E s
 refine wpAny_bind (wpAny_callSpecialIfBoundUnlessNone?_slot hT PySem.F.slot_NoneType_hash (wpAny_call_entry PySem.F.slot_NoneType_hash hT
  PySem.F.entry_NoneType_hash ?_ (PySem.F.args_NoneType_hash_1 _)))
 show wpAny _ _ (retInt 0xFCA86420) _ _ s
 refine wpAny_ret_mkInt ?_
 exact wpAny_pure h
def eI(prog:Program)(w:World):IK prog w (Option Int) where
 is:=fun _ k v=>RelV (eF k) v
 hash:=fun k=>match k with
  | none=>0xFCA86420
  | some i=>hashInt i
 draws:=fun _=>1
 deep:=0
 inj:=fun a b=>wu a b
 keeps:=fun a _ _ _=>a
 pyHash:=fun {A E s k v Q} _ hk h=>by
  cases k with
  | none=>
   obtain rfl:v=Value.none:=hk
   exact u_ h
  | some i=>
   obtain⟨t,rfl⟩:=(show ∃ t,v=Value.int i t from hk)
   exact wpAny_pyHash_int h
 eqBool:=fun {A E s x y u v Q} _ hx hy h=>by
  have q:=iQ (A:=A) (s:=s) hx hy (fw x) (fw y)
  rw[qY]at q
  exact q prog w E Q h
 quiet:=fun {A E s k v n Q} hk h=>by
  have e:carriedByValue v=true:=by
   cases k with
   | none=>obtain rfl:v=Value.none:=hk; rfl
   | some i=>obtain⟨t,rfl⟩:=(show ∃ t,v=Value.int i t from hk); rfl
  rw[eqIsQuiet_byValue _ e]
  exact wpAny_pure h
abbrev NI:=Sum Int (List (Option Int))
theorem IsTupK.tup{prog:Program}{w:World}{κ : Type}[DecidableEq κ]{K:IK prog w κ}{h:Heap}{l:List κ}{v:Value}(x:IsTupK K h l v):∃ a its,v = .ref a∧h.IsTuple a its:=by
 obtain⟨a,o,items,n,rfl,ho,hc,hd,hi⟩:=x
 exact⟨a,items,rfl,o,ho,hc,n,hd⟩
theorem rz{A:Around}{prog:Program}{w:World}(hu:A.units+1<cLine):A.units+((eI prog w).deep+1)<cLine:=hu
end L2
namespace L2
open PySem PySem.Spec PyProof.Rows
abbrev wg:=Int × List (Option Int)
def nk(k:wg):List NI:=[.inl k.1,.inr k.2]
section
variable{P:Program}{w:World}{H:Hp}
end
section
variable{X:Cx}{pins:List (Addr × Obj)}{σ : St}{H:Hp}{s:Shared}{a b:Addr}{k:wg}{kvs:List (wg × V)}
theorem Paired.snoc{α β : Type}{F:α→β→Prop}{x:α}{y:β}(h:F x y):∀ {l:List α} {m:List β},Paired F l m→Paired F (l++[x]) (m++[y])
 | _,_,.nil=>.cons h .nil
 | _,_,.cons r t=>.cons r (Paired.snoc h t)
end
end L2
namespace L2
open PySem PySem.Spec PyProof.Rows PySem.SeqAt
section
variable{X:Cx}
def D7(K:PySem.W.Frag):R2:=fun x y H Q=>oq K x y H Q∨∃ a kvs k v,x = .ref a∧y=kV k∧H a=some (.dK kvs)∧aK kvs k=some v∧Q v H
theorem fj(K:PySem.W.Frag)(hK:X.K=K:=by rfl):IxR X (D7 K):=by
 intro value slice pins s σ H x y v u Q I rx ry h hs
 rcases h with h | ⟨a,kvs,k,z,rfl,rfl,e,l,q⟩
 ·exact aO K hK value slice pins s σ H x y v u Q I rx ry h hs
 ·cases rx
  obtain⟨_,hd,vs,rel,dd⟩:=nE I.hok (.inl e)
  obtain⟨w',hw,rw'⟩:=RelO.some_of (v:=z) (o:=valueAt vs k) (by rw[← l]; exact rel.val k)
  have hl:typeLookup (.type "dict") "__getitem__" = pure (some (.builtin "dict.__getitem__")):=PySem.F.slot_dict_getitem.lookup
  exact subscriptTail_builtinR (x:=w') dd.typeIs hl (wpAny_getItem_of (nJ ry) dd.mapOf hw ⟨rfl,z,H,I.tok _,rw',q⟩) hs
def Ce:oP:=fun o i v H Q=>∃ a kvs k,o = .ref a∧i=kV k∧H a=some (.dK kvs)∧kvs.length<sizeLine∧Q (upd H a (.dK (aT kvs k v)))
theorem nI{n:Nat}(hr:Room n X.A):PSet X Ce:=by
 intro pins s σ H o i v ov iv u Q I ro ri rv h
 obtain⟨a,kvs,k,rfl,rfl,e,hl,q⟩:=h
 cases ro
 exact ux (by have:=hr.un; omega) I (DPut.k e hl) ri rv fun s' I'=>⟨_,I',q⟩
end
section
variable{K:PySem.W.Frag}{H:Hp}{Q:VK}
end
section
variable{X:Cx}
end
end L2
namespace L2
open PySem PySem.Spec PyProof.Rows PySem.SeqAt
theorem q9{X:Cx}:MtR X "list.pop" ww:=BD
section
variable{K:PySem.W.Frag}{H:Hp}{Q:VK}
theorem qL(p:Addr):ww (.ref p) [] H Q=∃ xs y,H p=some (.lst xs)∧xs[xs.length - 1]? = some y∧Q y (upd H p (.lst xs.dropLast)):=
 propext ⟨fun ⟨_,xs,y,e1,_,q⟩=>by cases e1; exact⟨xs,y,q⟩,fun ⟨xs,y,q⟩=>⟨p,xs,y,rfl,rfl,q⟩⟩
theorem rb(i j:Bool):tO (.bl i) (.bl j) H Q=Q (.bl (!(i == j))) H:=by
 show (j9 (.bl i) (.bl j)=true∧Q (.bl (!decide (V.bl i=V.bl j))) H)=_
 rw[ow]; exact propext ⟨fun h=>h.2,fun h=>⟨rfl,h⟩⟩
end
theorem lD{X:Cx}(K:PySem.W.Frag){o:Expr}{to:TE}{name:Str}{apos cpos:Pos}{T id:String}{r:V→List V→Hp→VK→Prop}(pa:PlainAttrs T)(slot:Slot T name id)(hty:typeOf (.builtin id)=pure (.type "method_descriptor")) (hm:MtR X id r) (ho:PE X o to)
  (hbase:attributeBase o name X.env (eval o X.env)=eval o X.env:=by rfl) (hline:(apos.endLine == cpos.line)=true:=by rfl) (hK:X.K=K:=by rfl):PE X (.Call (.Attribute o name apos) [] [] cpos) (xZ K T r to):=hK ▸ Ax pa slot hty hm ho hbase hline
end L2
namespace L2
open PySem PySem.Spec PyProof.Rows PySem.SeqAt
theorem rY:∀ (xs:List V) (us:List Value),xs.length=us.length→(∀ (j:Nat) x u,xs[j]? = some x→us[j]? = some u→RelV x u)→Vals xs us
 | [],[],_,_=>.nil
 | [],u::us,hl,_=>by simp at hl
 | x::xs,[],hl,_=>by simp at hl
 | x::xs,u::us,hl,h=>.cons (h 0 x u rfl rfl) (rY xs us (by simpa using hl) fun j a b e1 e2=>h (j+1) a b e1 e2)
section
variable{X:Cx}
end
section
variable{X:Cx}
end
section
variable{prog:Program}{w:World}{K:Type}[DecidableEq K]{knd:KeyKind prog w K}{A:Around}{E:Value→Shared→Prop}{s:Shared}
end
section
variable{X:Cx}
theorem kO{α β : Type}{F:α→β→Prop}:∀ {l:List α} {m:List β} {j:Nat} {a:α} {b:β},Paired F l m→l[j]? = some a→m[j]? = some b→F a b
 | _,_,0,_,_,.cons h _,e1,e2=>by
  cases e1; cases e2; exact h
 | _,_,j+1,_,_,.cons _ t,e1,e2=>kO (j:=j) t e1 e2
 | _,_,0,_,_,.nil,e1,_=>by cases e1
 | _,_,_+1,_,_,.nil,e1,_=>by cases e1
end
end L2
namespace L2
open PySem PySem.Spec PyProof.Rows PySem.SeqAt
end L2
namespace L2
open PySem PySem.Spec PyProof.Rows PySem.SeqAt
section
variable{prog:Program}{w:World}{K:Type}[DecidableEq K]{knd:KeyKind prog w K}{A:Around}{E:Value→Shared→Prop}{s:Shared}{G:SetTable→Prop}
def Cd(knd:KeyKind prog w K)(l:List (Int × Value)):Prop:=l.Pairwise fun e e'=>∀ k,knd.is k e.2=true→knd.is k e'.2=false
structure zK (knd:KeyKind prog w K) (G:SetTable→Prop) (o:Obj) (es:Array (Int × Value)) (ep:Nat) (t:SetTable) (S:K→Bool) (n:Nat):Prop where
 ex:o.ExactSet
 dat:o.data = .set es ep t
 el:ElemsOf knd es.toList
 mem:∀ k,S k=true ↔ ∃ e∈es.toList,knd.is k e.2=true
 few:es.size<scanBound
 fit:t.fits es.size=true
 num:es.size=n
 good:G t
 apart:Cd knd es.toList
theorem stored{h:Heap}{a:Addr}{o:Obj}{es:Array (Int × Value)}{ep:Nat}{t:SetTable}{S:K→Bool}{n:Nat}{es':Array (Int × Value)}{t':SetTable}{S':K→Bool}{n':Nat}(ho:h.get? a=some o)(T:zK knd G o es ep t S n)
  (T':∀ o',o'.ExactSet→o'.data = .set es' (ep+1) t'→zK knd G o' es' (ep+1) t' S' n'):∃ o',(h.update a (Obj.putSet es' t')).get? a=some o'∧zK knd G o' es' (ep+1) t' S' n':=by
 have hp:=putSet_of es' t' T.dat
 have hg:=Heap.get?_update_self (Obj.putSet es' t') ho (by rw[hp]; rfl)
 rw[hp]at hg
 exact⟨_,hg,T' _ T.ex rfl⟩
end
end L2
namespace L2
open PySem PySem.Spec PyProof.Rows PySem.SeqAt
section
variable{prog:Program}{w:World}{A:Around}{R:Result→Shared→Prop}{I:Addr}{fp wr:List Addr}{Gm:Array GenState→Array GenState→Prop}{n:Nat}{P:Nat→Value→Prop}{St:Nat→Shared→Prop}{L:Bool}
end
section
variable{prog:Program}{w:World}{A:Around}{E:Value→Shared→Prop}{s:Shared}
end
end L2
namespace L2
open PySem PySem.Spec PyProof.Rows PySem.SeqAt
section
variable{X:Cx}
end
end L2
namespace L2
open PySem PySem.Spec PyProof.Rows PySem.SeqAt
section
variable{M:Model}{A:Around}{E:Value→Shared→Prop}
end
end L2
namespace L2
open PySem PySem.Spec PyProof.Rows PySem.SeqAt
section
variable{prog:Program}{w:World}{A:Around}{E:Value→Shared→Prop}{s:Shared}
end
end L2
namespace L2
open PySem PySem.Spec PyProof.Rows PySem.SeqAt
section
variable{prog:Program}{w:World}{A:Around}{E:Value→Shared→Prop}{s:Shared}
end
end L2
namespace L2
open PySem PySem.Spec PyProof.Rows PySem.SeqAt
section
variable{prog:Program}{w:World}{A:Around}{E:Value→Shared→Prop}{s:Shared}
end
end L2
namespace L2
open PySem PySem.Spec PyProof.Rows PySem.SeqAt
section
variable{prog:Program}{w:World}{A:Around}{E:Value→Shared→Prop}{s:Shared}
end
end L2
namespace L2
open PySem PySem.Spec PyProof.Rows PySem.SeqAt
section
variable{prog:Program}{w:World}{A:Around}{E:Value→Shared→Prop}{s:Shared}
end
end L2
namespace L2
open PySem PySem.Spec PyProof.Rows PySem.SeqAt
section
variable{prog:Program}{w:World}{A:Around}{E:Value→Shared→Prop}{s:Shared}
end
section
variable{X:Cx}
end
end L2
namespace L2
open PySem PySem.Spec PyProof PyProof.Rows
section
variable{X:Cx}
end
end L2
namespace L2
open PySem PySem.Spec PyProof PyProof.Rows
inductive Ents (w:World):List DictEntry→List (Str × V)→Prop
 | nil:Ents w [] []
 | cons {x:Str} {t:Tok} {y:V} {v:Value} {es:List DictEntry} {kvs:List (Str × V)}:RelV y v→Ents w es kvs→Ents w (⟨PyData.keyHash w.params x,.str x t,v⟩::es) ((x,y)::kvs)
theorem Ents.vs{P:Program}{w:World}{es:List DictEntry}{kvs:List (Str × V)}(h:Ents w es kvs):∃ vs:List (Str × Value),KV kvs vs∧PySem.Pairs (PySem.strKind P w) es vs∧vs.map (·.1)=kvs.map (·.1)∧∀ e∈es,∃ k,(PySem.strKind P w).is k e.key=true∧e.hash=(PySem.strKind P w).hash k:=by
 induction h with
 | nil=>exact⟨[],.nil,.nil,rfl,fun _ h=>nomatch h⟩
 | @cons x t y v es kvs r _ ih=>
  obtain⟨vs,h1,h2,h3,h4⟩:=ih
  have hx:(PySem.strKind P w).is x (.str x t)=true:=by show Value.isStrOf x (.str x t)=true; simp[Value.isStrOf]
  refine⟨(x,v)::vs,.cons ⟨rfl,r⟩ h1,.cons hx rfl h2,by rw[List.map_cons,List.map_cons,h3],fun e he=>?_⟩
  rcases List.mem_cons.mp he with rfl | he
  ·exact⟨x,hx,rfl⟩
  ·exact h4 e he
structure ModD (w:World) (K:PySem.W.Frag) (d:Addr) (kvs:List (Str × V)):Prop where
 low:(d == sysModules)=false
 nd:(kvs.map (·.1)).Nodup
 at':∃ (o:Obj) (es:List DictEntry) (ep:Nat),K.lookup d=some o∧o.ExactDict∧o.data = .dict es.toArray ep∧Ents w es kvs
section
variable{X:Cx}{pins:List (Addr × Obj)}{σ : St}{H:Hp}{s:Shared}{d:Addr}{kvs:List (Str × V)}
theorem ModD.dict(h:ModD X.w X.K d kvs)(I:Inv X pins σ H s):∃ vs:List (Str × Value),KV kvs vs∧s.heap.DictOf (PySem.strKind X.prog X.w) d vs∧∃ ob,s.heap.get? d=some ob∧ob.dict=none:=by
 obtain⟨o,es,ep,h1,h2,h3,h4⟩:=h.at'
 obtain⟨vs,r1,r2,r3,r4⟩:=h4.vs (P:=X.prog)
 have e:=I.kIn d o h1
 exact⟨vs,r1,⟨o,es.toArray,ep,e,h2,h3,fun x hx=>r4 x (by simpa using hx),by simpa using r2,by rw[r3]; exact h.nd⟩,o,e,h2.2.1⟩
theorem uz{P:Program}{w:World}{k:Str}{u:Value}(r:RelV (.str k) u):(PySem.strKind P w).is k u=true:=by
 obtain⟨t,rfl⟩:=r
 show Value.isStrOf k (.str k t)=true
 simp[Value.isStrOf]
end
section
variable{X:Cx}
def Es(w:World)(K:PySem.W.Frag):R2:=fun x y H Q=>∃ d kvs k z,x = .ref d∧y = .str k∧ModD w K d kvs∧aK kvs k=some z∧Q z H
theorem Fb(w:World)(K:PySem.W.Frag)(hw:X.w=w:=by rfl)(hK:X.K=K:=by rfl):IxR X (Es w K):=by
 subst hw hK
 intro value slice pins s σ H x y v u Q I rx ry h hs
 obtain⟨d,kvs,k,z,rfl,rfl,m,l,q⟩:=h
 cases rx
 obtain⟨vs,rel,dd,_⟩:=m.dict I
 obtain⟨w',hw,rw'⟩:=RelO.some_of (v:=z) (o:=valueAt vs k) (by rw[← l]; exact rel.val k)
 have hl:typeLookup (.type "dict") "__getitem__" = pure (some (.builtin "dict.__getitem__")):=PySem.F.slot_dict_getitem.lookup
 exact subscriptTail_builtinR (x:=w') dd.typeIs hl (wpAny_getItem_of (uz ry) dd.mapOf hw ⟨rfl,z,H,I.tok _,rw',q⟩) hs
def Cb(w:World)(K:PySem.W.Frag):V→List V→Hp→VK→Prop:=fun x xs H Q=>∃ d kvs k z,x = .ref d∧xs=[.str k,z]∧ModD w K d kvs∧Q ((aK kvs k).getD z) H
theorem zy(w:World)(K:PySem.W.Frag)(hw:X.w=w:=by rfl)(hK:X.K=K:=by rfl):MtR X "dict.get" (Cb w K):=by
 subst hw hK
 intro pins s σ H x vs v us Q I rx rv h
 obtain⟨d,kvs,k,z,rfl,rfl,m,q⟩:=h
 cases rx
 obtain⟨u,r,rfl,ru,rr⟩:=kT rv
 obtain⟨vs,rel,dd,_⟩:=m.dict I
 refine call_meetsIn PySem.F.slot_dict_get dd.typeIs PySem.F.entry_dict_get (PySem.F.args_dict_get_3 _ _ _) (meets_dict_get_default (PySem.strKind X.prog X.w) d (uz ru) m.low r) ⟨_,dd.mapOf,_,H,I.tok _,?_,q⟩
 exact(rel.val k).getD rr
def zE(w:World)(K:PySem.W.Frag)(r:V→List V→Hp→VK→Prop)(to:TE)(t:TA):TE:=fun σ H Q=>to σ H fun x H1=>(∃ d kvs,x = .ref d∧ModD w K d kvs)∧t σ H1 fun xs H2=>r x xs H2 Q
theorem Ay{o e:Expr}{es:List Expr}{to:TE}{t:TA}{name:Str}{apos cpos:Pos}{id:String}{r:V→List V→Hp→VK→Prop}(w:World)(K:PySem.W.Frag)(pa:PlainAttrs "dict") (slot:Slot "dict" name id) (hty:typeOf (.builtin id)=pure (.type "method_descriptor")) (hm:MtR X id r) (ho:PE X o to) (ha:PA X (e::es) t)
  (hbase:attributeBase o name X.env (eval o X.env)=eval o X.env:=by rfl)
  (hfew:((backTo cpos (starEach (e::es) X.env)).all (fun x=>!x.1)&&(backToKw cpos (keywordEach [] X.env)).all (fun x=>x.1.isSome)&&decide ((e::es).length+([]:List Keyword).length+(if ([]:List Keyword).isEmpty then 0 else 1)<30))=true:=by rfl)
  (hline:(apos.endLine == cpos.line)=true:=by rfl) (hs:starEach (e::es) X.env=(false,eval e X.env)::starEach es X.env:=by rfl) (hplain:(backTo cpos (starEach es X.env)).any (·.1)=false:=by rfl) (hw:X.w=w:=by rfl) (hK:X.K=K:=by rfl) :
  PE X (.Call (.Attribute o name apos) (e::es) [] cpos) (zE w K r to t):=by
 subst hw hK
 intro pins s σ H Q I h
 refine wpAny_Call_method_late hbase hfew hline rfl (bz (ho pins s σ H _ I h) fun v s1 ⟨x,H1,I1,r1,ty,q1⟩=>?_)
 obtain⟨d,kvs,rfl,m⟩:=ty
 have e1:v = .ref d:=r1
 subst e1
 obtain⟨vs,rel,dd,ob,eo,en⟩:=m.dict I1
 refine⟨"dict", id,pa,slot,hty,dd.typeIs,fun a ea=>⟨ob,by cases ea; exact eo,en⟩,?_⟩
 have hA:=ha cpos pins s1 σ H1 _ I1 q1
 rw[hs]at hA ⊢
 refine Calls.callWith_builtin (by show (false||(backTo cpos (starEach es X.env)).any (·.1))=false; rw[hplain] <;> rfl) (Calls.evalArgs_plain ?_)
 exact bz hA fun us s2 ⟨vs,H2,I2,r2,q2⟩=>hm pins s2 σ H2 _ vs _ us Q I2 r1 r2 q2
end
theorem rW{w:World}{K:PySem.W.Frag}{r:V→List V→Hp→VK→Prop}{to:TE}{t:TA}{σ : St}{H:Hp}{Q:VK}:zE w K r to t σ H Q=to σ H fun x H1=>(∃ d kvs,x = .ref d∧ModD w K d kvs)∧t σ H1 fun xs H2=>r x xs H2 Q:=rfl
end L2
namespace L2
open PySem PySem.Spec PyProof PyProof.Rows
section
variable{prog:Program}{w:World}{A:Around}{E:Value→Shared→Prop}{s:Shared}
def TSt(i t:Addr)(zs:Array Value)(k:Nat)(h:Heap):Prop:=h.IsTupleIter i t k∧h.IsTuple t zs
theorem TSt.ext{i t b:Addr}{zs:Array Value}{k:Nat}{h h':Heap}(x:TSt i t zs k h)(hs:Heap.ExtBut b h h')(n1:i≠b)(n2:t≠b):TSt i t zs k h':=⟨x.1.extBut hs n1,x.2.extBut hs n2⟩
theorem kn{i t:Addr}{k:Nat}{zs:Array Value}{v:Value}{Q:Value→Shared→Prop}(st:TSt i t zs k s.heap)(nit:t≠i)(hv:zs[k]? = some v)
  (q:∀ h',TSt i t zs (k+1) h'→Heap.SameBut i s.heap h'→Q v { s with heap:=h' }):wpAny (model prog w) A (Builtin.SmallTypes.nextOf (.ref i)) Q E s:=by
 obtain⟨hi,ht⟩:=id st
 obtain⟨ob,e1,e2,e3⟩:=id hi
 obtain⟨ot,f1,_,m,f2⟩:=id ht
 unfold Builtin.SmallTypes.nextOf
 refine wpAny_bind (wpAny_callSpecial?_slot (name:=Str.ofString "__next__") hi.typeIs PySem.F.slot_tuple_iterator_next (wpAny_call_entry PySem.F.slot_tuple_iterator_next hi.typeIs PySem.F.entry_tuple_iterator_next ?_ (PySem.F.args_tuple_iterator_next_1 _)))
 show wpAny _ _ (field (.ref i) 0 >>= _) _ _ s
 refine wpAny_bind (wpAny_field e1 e3 (x:=.ref t) rfl ?_)
 show wpAny _ _ (if (Value.ref t == Value.none)=true then _ else _) _ _ s
 have hno:¬ ((Value.ref t == Value.none)=true):=Bool.false_ne_true
 rw[if_neg hno]
 show wpAny _ _ (field (.ref i) 1 >>= _) _ _ s
 refine wpAny_bind (wpAny_field e1 e3 (x:=.int k 0) rfl ?_)
 show wpAny _ _ (seqItems? (.ref t) >>= _) _ _ s
 refine wpAny_bind (wpAny_seqItems f1 f2 ?_)
 simp only[Int.toNat_natCast,hv]
 refine wpAny_bind (wpAny_setField e1 e3 (by simp) (wpAny_pure ⟨v,rfl,wpAny_pure (q _ ⟨?_,?_⟩ (Heap.SameBut.update ..))⟩))
 ·exact⟨_,Heap.get?_update_self _ e1 (Obj.isFreed_of_fields (Obj.data_mapFields e3 _)),(Obj.cls_mapFields ..).trans e2,by rw[Obj.data_mapFields e3]; simp[rawInt]⟩
 ·exact ht.extBut (Heap.SameBut.update ..).extBut nit
theorem qU{i t:Addr}{k:Nat}{zs:Array Value}{Q:Value→Shared→Prop}(hh:A.handled=none)(st:TSt i t zs k s.heap)(hv:zs[k]? = none)
  (q:∀ h' e,Heap.ExtBut i s.heap h'→(∃ o,h'.get? e=some o∧o.cls = .type "StopIteration")→E (.ref e) { s with heap:=h' }):wpAny (model prog w) A (Builtin.SmallTypes.nextOf (.ref i)) Q E s:=by
 obtain⟨hi,ht⟩:=id st
 obtain⟨ob,e1,e2,e3⟩:=id hi
 obtain⟨ot,f1,_,m,f2⟩:=id ht
 unfold Builtin.SmallTypes.nextOf
 refine wpAny_bind (wpAny_callSpecial?_slot (name:=Str.ofString "__next__") hi.typeIs PySem.F.slot_tuple_iterator_next (wpAny_call_entry PySem.F.slot_tuple_iterator_next hi.typeIs PySem.F.entry_tuple_iterator_next ?_ (PySem.F.args_tuple_iterator_next_1 _)))
 show wpAny _ _ (field (.ref i) 0 >>= _) _ _ s
 refine wpAny_bind (wpAny_field e1 e3 (x:=.ref t) rfl ?_)
 show wpAny _ _ (if (Value.ref t == Value.none)=true then _ else _) _ _ s
 have hno:¬ ((Value.ref t == Value.none)=true):=Bool.false_ne_true
 rw[if_neg hno]
 show wpAny _ _ (field (.ref i) 1 >>= _) _ _ s
 refine wpAny_bind (wpAny_field e1 e3 (x:=.int k 0) rfl ?_)
 show wpAny _ _ (seqItems? (.ref t) >>= _) _ _ s
 refine wpAny_bind (wpAny_seqItems f1 f2 ?_)
 simp only[Int.toNat_natCast,hv]
 refine wpAny_bind (wpAny_rule (wpAny_bind (wpAny_setField e1 e3 (by simp) ?_)))
 show wpAny _ _ (newExc (.type "StopIteration") [] >>= fun z=>_) _ _ _
 refine wpAny_bind ?_
 simp only[newTuple,newExc]
 refine wpAny_bind (wpAny_newObj_type (hd:=by size_fits) ?_)
 refine wpAny_bind (m:=firstArgMember _ _) (wpAny_of_eq (a:=Value.none) (by first | (simp only[firstArgMember]; rfl) | rfl) ?_)
 refine wpAny_newObj_type (hd:=by size_fits) ?_
 simp only[raiseNew]
 refine wpAny_bind (wpAny_handled ?_)
 have hn:A.in1.handled=none:=hh
 first | rw[hn] | rw[hh]
 refine wpAny_bind (wpAny_pure (wpAny_throw (q _ _ (((Heap.SameBut.update ..).extBut.push _).push _) ⟨_,Heap.get?_push_size _ rfl,rfl⟩)))
variable{z TI TO i1 i2 t1 t2:Addr}{xs ys:Array Value}{k1 k2:Nat}{a b:Value}
theorem uE{x y:Value}{Q:Value→Shared→Prop}(D:ZipApart z TI TO i1 i2 t1 t2)(gz:IsZip s.heap z TI TO .none)(gI:IsPair s.heap TI (.ref i1) (.ref i2))(gO:IsPair s.heap TO a b)
  (g1:TSt i1 t1 xs k1 s.heap) (g2:TSt i2 t2 ys k2 s.heap) (hx:xs[k1]? = some x) (hy:ys[k2]? = some y)
  (q:∀ h',IsZip h' z TI TO (rawInt s.heap.objs.size)→IsPair h' TO x y→TSt i1 t1 xs (k1+1) h'→TSt i2 t2 ys (k2+1) h'→IsPair h' s.heap.objs.size x y→h'.objs.size=s.heap.objs.size+1→
   (∀ c o,c≠z→c≠TO→c≠i1→c≠i2→s.heap.get? c=some o→h'.get? c=some o)→Q (.ref s.heap.objs.size) { s with heap:=h' }) :
  wpAny (model prog w) A (Builtin.«zip.__next__» ⟨[.ref z],[]⟩) (fun fin s'=>∃ v,fin = .done (.ret v)∧Q v s') E s:=by
 show wpAny _ _ (field (.ref z) 2 >>= fun _=>_) _ _ _
 refine wpAny_bind (wpAny_field gz rfl (x:=.bool false) rfl ?_)
 show wpAny _ _ (field (.ref z) 3 >>= fun _=>_) _ _ _
 refine wpAny_bind (wpAny_field gz rfl (x:=.ref TI) rfl (wpAny_bind (wpAny_seqItems gI rfl ?_)))
 show wpAny _ _ (Builtin.SmallTypes.ownedTupleIsFree (.ref z) >>= fun _=>_) _ _ _
 refine wpAny_bind ?_
 unfold Builtin.SmallTypes.ownedTupleIsFree
 refine wpAny_bind (wpAny_field gz rfl (x:=.none) rfl (wpAny_pure ?_))
 simp only[if_true]
 refine wpAny_bind (wpAny_rule (wpAny_bind (wpAny_field gz rfl (x:=.ref TO) rfl (wpAny_bind (wpAny_setField_rec gz (by simp) fun ha z1 m1=>?_)))))
 replace z1:IsZip ha z TI TO .ellipsis:=z1
 refine wpAny_bind ?_
 simp only[List.zipIdx_nil,List.zipIdx_cons,List.forIn_nil,List.forIn_cons]
 refine wpAny_bind (wpAny_bind (wpAny_onRaise ?_))
 show wpAny _ _ (Builtin.SmallTypes.nextOf (.ref i1) >>= fun _=>_) _ _ _
 refine wpAny_bind (kn (g1.ext m1.extBut D.i1z D.l1z) D.l1i1 hx fun hb r1 m2=>wpAny_pure ?_)
 have o2:IsPair hb TO a b:=m2.extBut _ _ D.TOi1 (m1.extBut _ _ D.TOz gO)
 refine wpAny_bind (wpAny_seqItems o2 rfl (wpAny_bind (wpAny_updateSeq_pair o2 fun hc o3 m3=>wpAny_bind (wpAny_letGo (wpAny_pure ?_)))))
 replace o3:IsPair hc TO x b:=o3
 refine wpAny_bind (wpAny_bind (wpAny_onRaise ?_))
 show wpAny _ _ (Builtin.SmallTypes.nextOf (.ref i2) >>= fun _=>_) _ _ _
 refine wpAny_bind (kn (((g2.ext m1.extBut D.i2z D.l2z).ext m2.extBut D.i12.symm D.l2i1).ext m3.extBut D.TOi2.symm D.l2TO) D.l2i2 hy fun hd r2 m4=>wpAny_pure ?_)
 have o4:IsPair hd TO x b:=m4.extBut _ _ D.TOi2 o3
 refine wpAny_bind (wpAny_seqItems o4 rfl (wpAny_bind (wpAny_updateSeq_pair o4 fun he o5 m5=>wpAny_bind (wpAny_letGo (wpAny_pure (wpAny_pure ?_))))))
 replace o5:IsPair he TO x y:=o5
 refine wpAny_bind (wpAny_seqItems o5 rfl (wpAny_bind (wpAny_newTuple ?_)))
 have hsz:he.objs.size=s.heap.objs.size:=by rw[m5.1,m4.1,m3.1,m2.1,m1.1]
 have z5:IsZip he z TI TO .ellipsis:=m5.extBut _ _ D.TOz.symm (m4.extBut _ _ D.i2z.symm (m3.extBut _ _ D.TOz.symm (m2.extBut _ _ D.i1z.symm z1)))
 have kp:∀ c o,c≠z→c≠TO→c≠i1→c≠i2→s.heap.get? c=some o→he.get? c=some o:=fun c o c1 c2 c3 c4 e=>m5.extBut _ _ c2 (m4.extBut _ _ c4 (m3.extBut _ _ c2 (m2.extBut _ _ c3 (m1.extBut _ _ c1 e))))
 have r1':TSt i1 t1 xs (k1+1) he:=((r1.ext m3.extBut D.TOi1.symm D.l1TO).ext m4.extBut D.i12 D.l1i2).ext m5.extBut D.TOi1.symm D.l1TO
 have r2':TSt i2 t2 ys (k2+1) he:=r2.ext m5.extBut D.TOi2.symm D.l2TO
 have zlt:z<he.objs.size:=Heap.lt_size z5
 show wpAny _ _ (Builtin.SmallTypes.ownedTupleHandOut (.ref z) (.ref he.objs.size) >>= fun _=>_) _ _ _
 refine wpAny_bind ?_
 unfold Builtin.SmallTypes.ownedTupleHandOut
 have z6:IsZip (he.push { cls:=.type "tuple", data:=.seq #[x,y] }) z TI TO .ellipsis:=Heap.get?_push_of_some _ z5
 refine wpAny_bind (wpAny_setField_rec z6 (by simp) fun hf z7 m7=>?_)
 replace z7:IsZip hf z TI TO (rawInt he.objs.size):=z7
 refine wpAny_setField_rec z7 (by simp) fun hg z8 m8=>?_
 replace z8:IsZip hg z TI TO (rawInt he.objs.size):=z8
 have up:∀ c o,c≠z→he.get? c=some o→hg.get? c=some o:=fun c o c1 e=>m8.extBut _ _ c1 (m7.extBut _ _ c1 (Heap.get?_push_of_some _ e))
 have t8:IsPair hg he.objs.size x y:=m8.extBut _ _ (Nat.ne_of_gt zlt) (m7.extBut _ _ (Nat.ne_of_gt zlt) (Heap.get?_push_size _ rfl))
 have s8:hg.objs.size=he.objs.size+1:=by rw[m8.1,m7.1,Heap.size_push]
 rw[hsz]at z8 t8 s8
 refine wpAny_pure ⟨_,rfl,?_⟩
 show Q (.ref he.objs.size) _
 rw[hsz]
 have ex:Heap.ExtBut z he hg:=fun c o c1 e=>up c o c1 e
 exact q hg z8 (up _ _ D.TOz o5) (r1'.ext ex D.i1z D.l1z) (r2'.ext ex D.i2z D.l2z) t8 s8 fun c o c1 c2 c3 c4 e=>up c o c1 (kp c o c1 c2 c3 c4 e)
theorem xV{Q:Fin→Shared→Prop}(hh:A.handled=none)(D:ZipApart z TI TO i1 i2 t1 t2)(gz:IsZip s.heap z TI TO .none)(gI:IsPair s.heap TI (.ref i1) (.ref i2))(gO:IsPair s.heap TO a b)
  (g1:TSt i1 t1 xs k1 s.heap) (g2:TSt i2 t2 ys k2 s.heap) (hend:xs[k1]? = none∨ys[k2]? = none)
  (q:∀ h' e,(∀ c o,c≠z→c≠TO→c≠i1→c≠i2→s.heap.get? c=some o→h'.get? c=some o)→(∃ o,h'.get? e=some o∧o.cls = .type "StopIteration")→E (.ref e) { s with heap:=h' }) :
  wpAny (model prog w) A (Builtin.«zip.__next__» ⟨[.ref z],[]⟩) Q E s:=by
 show wpAny _ _ (field (.ref z) 2 >>= fun _=>_) _ _ _
 refine wpAny_bind (wpAny_field gz rfl (x:=.bool false) rfl ?_)
 show wpAny _ _ (field (.ref z) 3 >>= fun _=>_) _ _ _
 refine wpAny_bind (wpAny_field gz rfl (x:=.ref TI) rfl (wpAny_bind (wpAny_seqItems gI rfl ?_)))
 show wpAny _ _ (Builtin.SmallTypes.ownedTupleIsFree (.ref z) >>= fun _=>_) _ _ _
 refine wpAny_bind ?_
 unfold Builtin.SmallTypes.ownedTupleIsFree
 refine wpAny_bind (wpAny_field gz rfl (x:=.none) rfl (wpAny_pure ?_))
 simp only[if_true]
 refine wpAny_bind (wpAny_rule (wpAny_bind (wpAny_field gz rfl (x:=.ref TO) rfl (wpAny_bind (wpAny_setField_rec gz (by simp) fun ha z1 m1=>?_)))))
 replace z1:IsZip ha z TI TO .ellipsis:=z1
 refine wpAny_bind ?_
 simp only[List.zipIdx_nil,List.zipIdx_cons,List.forIn_nil,List.forIn_cons]
 refine wpAny_bind (wpAny_bind (wpAny_onRaise ?_))
 show wpAny _ _ (Builtin.SmallTypes.nextOf (.ref i1) >>= fun _=>_) _ _ _
 have stop:∀ {h':Heap} {e:Addr},IsZip h' z TI TO .ellipsis→(∃ o,h'.get? e=some o∧o.cls = .type "StopIteration")→e≠z:=fun {h' e} hz ⟨o,ho,hc⟩ n=>by
  subst n; rw[hz]at ho; cases ho; simp at hc
 rcases hx:xs[k1]? with _ | x
 ·refine wpAny_bind (qU hh (g1.ext m1.extBut D.i1z D.l1z) hx fun hb e m2 he=>?_)
  have z2:IsZip hb z TI TO .ellipsis:=m2 _ _ D.i1z.symm z1
  have nz:=stop z2 he
  obtain⟨oe,p1,p2⟩:=he
  exact wpAny_setField_rec z2 (by simp) fun hc _ m3=>q hc e (fun c o c1 _ c3 _ x=>m3.extBut _ _ c1 (m2 _ _ c3 (m1.extBut _ _ c1 x))) ⟨oe,m3.extBut _ _ nz p1,p2⟩
 ·have hy:ys[k2]? = none:=by
   rcases hend with h | h
   ·rw[hx]at h; cases h
   ·exact h
  refine wpAny_bind (kn (g1.ext m1.extBut D.i1z D.l1z) D.l1i1 hx fun hb r1 m2=>wpAny_pure ?_)
  have o2:IsPair hb TO a b:=m2.extBut _ _ D.TOi1 (m1.extBut _ _ D.TOz gO)
  refine wpAny_bind (wpAny_seqItems o2 rfl (wpAny_bind (wpAny_updateSeq_pair o2 fun hc o3 m3=>wpAny_bind (wpAny_letGo (wpAny_pure ?_)))))
  refine wpAny_bind (wpAny_bind (wpAny_onRaise ?_))
  show wpAny _ _ (Builtin.SmallTypes.nextOf (.ref i2) >>= fun _=>_) _ _ _
  refine wpAny_bind (qU hh (((g2.ext m1.extBut D.i2z D.l2z).ext m2.extBut D.i12.symm D.l2i1).ext m3.extBut D.TOi2.symm D.l2TO) hy fun hd e m4 he=>?_)
  have z4:IsZip hd z TI TO .ellipsis:=m4 _ _ D.i2z.symm (m3.extBut _ _ D.TOz.symm (m2.extBut _ _ D.i1z.symm z1))
  have nz:=stop z4 he
  obtain⟨oe,p1,p2⟩:=he
  exact wpAny_setField_rec z4 (by simp) fun hg _ m5=>q hg e (fun c o c1 c2 c3 c4 x=>m5.extBut _ _ c1 (m4 _ _ c4 (m3.extBut _ _ c2 (m2.extBut _ _ c3 (m1.extBut _ _ c1 x))))) ⟨oe,m5.extBut _ _ nz p1,p2⟩
end
end L2
namespace L2
open PySem PySem.Spec PyProof PyProof.Rows
section
variable{prog:Program}{w:World}{A:Around}{E:Value→Shared→Prop}{s:Shared}{z TI TO i1 i2 t1 t2:Addr}{xs ys:Array Value}{k1 k2:Nat}{a b:Value}
theorem sV{x y:Value}{Q:Option Value→Shared→Prop}(D:ZipApart z TI TO i1 i2 t1 t2)(gz:IsZip s.heap z TI TO .none)(gI:IsPair s.heap TI (.ref i1) (.ref i2))(gO:IsPair s.heap TO a b)
  (g1:TSt i1 t1 xs k1 s.heap) (g2:TSt i2 t2 ys k2 s.heap) (hx:xs[k1]? = some x) (hy:ys[k2]? = some y)
  (q:∀ h',IsZip h' z TI TO (rawInt s.heap.objs.size)→IsPair h' TO x y→TSt i1 t1 xs (k1+1) h'→TSt i2 t2 ys (k2+1) h'→IsPair h' s.heap.objs.size x y→h'.objs.size=s.heap.objs.size+1→
   (∀ c o,c≠z→c≠TO→c≠i1→c≠i2→s.heap.get? c=some o→h'.get? c=some o)→Q (some (.ref s.heap.objs.size)) { s with heap:=h' }):wpAny (model prog w) A (pyNext (.ref z)) Q E s:=by
 have ty:s.TypeIs (.ref z) "zip" := ⟨_,gz,rfl⟩
 unfold pyNext
 exact wpAny_bind (wpAny_attempt (wpAny_callSpecial?_slot (name:=Str.ofString "__next__") ty PySem.F.slot_zip_next (wpAny_call_entry PySem.F.slot_zip_next ty PySem.F.entry_zip_next
  (uE D gz gI gO g1 g2 hx hy fun h' a1 a2 a3 a4 a5 a6 a7=>wpAny_pure (q h' a1 a2 a3 a4 a5 a6 a7)) (PySem.F.args_zip_next_1 _))))
theorem uQ{Q:Option Value→Shared→Prop}(hh:A.handled=none)(D:ZipApart z TI TO i1 i2 t1 t2)(gz:IsZip s.heap z TI TO .none)(gI:IsPair s.heap TI (.ref i1) (.ref i2))(gO:IsPair s.heap TO a b)
  (g1:TSt i1 t1 xs k1 s.heap) (g2:TSt i2 t2 ys k2 s.heap) (hend:xs[k1]? = none∨ys[k2]? = none)
  (q:∀ h',(∀ c o,c≠z→c≠TO→c≠i1→c≠i2→s.heap.get? c=some o→h'.get? c=some o)→Q none { s with heap:=h' }):wpAny (model prog w) A (pyNext (.ref z)) Q E s:=by
 have ty:s.TypeIs (.ref z) "zip" := ⟨_,gz,rfl⟩
 unfold pyNext
 refine wpAny_bind (wpAny_attempt (wpAny_callSpecial?_slot (name:=Str.ofString "__next__") ty PySem.F.slot_zip_next (wpAny_call_entry PySem.F.slot_zip_next ty PySem.F.entry_zip_next
  (xV hh D gz gI gO g1 g2 hend fun h' e kk he=>?_) (PySem.F.args_zip_next_1 _))))
 obtain⟨o,ho,hc⟩:=he
 exact wpAny_bind (wpAny_isInstance (T := "StopIteration") (b:=true) ⟨o,ho,hc⟩ isSubtype_stop (wpAny_pure (q _ kk)))
abbrev yP (h:Heap) (t1:Addr):Heap:=h.push { cls:=.type "tuple_iterator", data:=.fields #[.ref t1,.int 0 0] }
abbrev yN (h:Heap) (t1 t2:Addr):Heap:=(yP h t1).push { cls:=.type "tuple_iterator", data:=.fields #[.ref t2,.int 0 0] }
abbrev yK (h:Heap) (t1 t2:Addr):Heap:=(yN h t1 t2).push { cls:=.type "tuple", data:=.seq #[.ref h.objs.size,.ref (yP h t1).objs.size] }
abbrev yE (h:Heap) (t1 t2:Addr):Heap:=(yK h t1 t2).push { cls:=.type "tuple", data:=.seq #[.none,.none] }
abbrev mM (h:Heap) (t1 t2:Addr):Heap:=(yE h t1 t2).push { cls:=.type "zip", data:=.fields #[.none,.bool false,.bool false,.ref (yN h t1 t2).objs.size,.ref (yK h t1 t2).objs.size] }
theorem t_(t1 t2:Addr)(xs ys:Array Value):Meets (Builtin.«zip.__new__» ⟨[.type "zip", .ref t1,.ref t2],[]⟩) (fun _ R s=>s.heap.IsTuple t1 xs∧s.heap.IsTuple t2 ys∧
   R (.ok (.ret (.ref (yE s.heap t1 t2).objs.size))) { s with heap:=mM s.heap t1 t2 }):=
 .of_wp fun prog w A R s q=>by
  obtain⟨hp,g,d,tk,os⟩:=s
  obtain⟨e1,e2,q⟩:=q
  have hsub:=sub_zip
  have f1:Heap.IsTuple (Shared.heap ⟨hp,g,d,tk,os⟩) t1 xs:=e1
  have f2:Heap.IsTuple (Shared.heap ⟨hp.push { cls:=.type "tuple_iterator", data:=.fields #[.ref t1,.int 0 0] },g,d,tk,os⟩) t2 ys:=Heap.IsTuple.push e2 _
  wp_walk using wpAny_pyIter_tuple f1,wpAny_pyIter_tuple f2
  exact⟨_,rfl,q⟩
theorem vS{Q:Value→Shared→Prop}(e1:s.heap.IsTuple t1 xs)(e2:s.heap.IsTuple t2 ys)
  (q:∀ h',IsZip h' (s.heap.objs.size+4) (s.heap.objs.size+2) (s.heap.objs.size+3) .none→IsPair h' (s.heap.objs.size+2) (.ref s.heap.objs.size) (.ref (s.heap.objs.size+1))→
   IsPair h' (s.heap.objs.size+3) .none .none→TSt s.heap.objs.size t1 xs 0 h'→TSt (s.heap.objs.size+1) t2 ys 0 h'→
   (∀ c o,s.heap.get? c=some o→h'.get? c=some o)→Q (.ref (s.heap.objs.size+4)) { s with heap:=h' }):wpAny (model prog w) A (call (.type "zip") [.ref t1,.ref t2]) Q E s:=by
 refine callType_new PySem.F.called_zip (by decide) (PySem.F.typeCall_zip_2 _ _) (PySem.F.newCall_zip_2 _ _) (fun obj=>PySem.F.args_object_init_3 obj _ _) PySem.F.entry_zip_new (t_ t1 t2 xs ys) ⟨e1,e2,?_⟩
 have z1:(yP s.heap t1).objs.size=s.heap.objs.size+1:=Heap.size_push ..
 have z2:(yN s.heap t1 t2).objs.size=s.heap.objs.size+2:=by rw[Heap.size_push,z1]
 have z3:(yK s.heap t1 t2).objs.size=s.heap.objs.size+3:=by rw[Heap.size_push,z2]
 have z4:(yE s.heap t1 t2).objs.size=s.heap.objs.size+4:=by rw[Heap.size_push,z3]
 have p:∀ {h:Heap} {o:Obj} {c:Addr} {u:Obj},h.get? c=some u→(h.push o).get? c=some u:=fun e=>Heap.get?_push_of_some _ e
 have kk:∀ c o,s.heap.get? c=some o→(mM s.heap t1 t2).get? c=some o:=fun c o e=>p (p (p (p (p e))))
 have g5:(mM s.heap t1 t2).get? (yE s.heap t1 t2).objs.size=some _:=Heap.get?_push_size _ rfl
 have g4:(mM s.heap t1 t2).get? (yK s.heap t1 t2).objs.size=some _:=p (Heap.get?_push_size _ rfl)
 have g3:(mM s.heap t1 t2).get? (yN s.heap t1 t2).objs.size=some _:=p (p (Heap.get?_push_size _ rfl))
 have g2:(mM s.heap t1 t2).get? (yP s.heap t1).objs.size=some _:=p (p (p (Heap.get?_push_size _ rfl)))
 have g1:(mM s.heap t1 t2).get? s.heap.objs.size=some _:=p (p (p (p (Heap.get?_push_size _ rfl))))
 show _∧_
 rw[z2,z3,z4]at g5
 rw[z1,z2]at g3
 rw[z3]at g4
 rw[z1]at g2
 rw[z4]
 have tt:∀ {t zs},s.heap.IsTuple t zs→(mM s.heap t1 t2).IsTuple t zs:=fun ⟨o,e,r⟩=>⟨o,kk _ _ e,r⟩
 exact⟨⟨_,g5,rfl⟩,q _ g5 g3 g4 ⟨⟨_,g1,rfl,rfl⟩,tt e1⟩ ⟨⟨_,g2,rfl,rfl⟩,tt e2⟩ kk⟩
end
def yv(K:PySem.W.Frag)(a b:Addr):It:=
  ⟨fun i H=>∃ xs ys x y,SqT K H a xs∧SqT K H b ys∧xs[i]? = some x∧ys[i]? = some y,
   fun i H v H'=>∃ t x y,H t=none∧v = .ref t∧H'=upd H t (.tup [x,y])∧(∀ xs,SqT K H a xs→xs[i]? = some x)∧∀ ys,SqT K H b ys→ys[i]? = some y,
   fun i H=>∃ xs ys,SqT K H a xs∧SqT K H b ys∧(xs.length≤i∨ys.length≤i)⟩
def UZ(z TI TO i1 i2 l1 l2:Addr)(i:Nat)(h:Heap):Prop:=
 IsZip h z TI TO .none∧IsPair h TI (.ref i1) (.ref i2)∧(∃ a b,IsPair h TO a b)∧h.IsTupleIter i1 l1 i∧h.IsTupleIter i2 l2 i
end L2
namespace L2
open PySem PySem.Spec PyProof PyProof.Rows
theorem SqT.apart{X:Cx}{pins:List (Addr × Obj)}{σ : St}{H:Hp}{s:Shared}{a c:Addr}{xs:List V}(I:Inv X pins σ H s)(hf:gP X pins H c)(h:SqT X.K H a xs):a≠c:=by
 rintro rfl
 rcases h with h | ⟨o,its,n,hk,_⟩
 ·rcases h with e | ⟨o,e⟩ <;> (rw[hf.1]at e; cases e)
 ·have e:=I.ok.mod.kin a o hk
  rcases hf.2.2.2.1 with z | z
  ·exact I.ok.noex a o e z
  ·exact absurd (Nat.lt_of_lt_of_le (Heap.lt_size (I.ok.bs a o e).1) z) (Nat.lt_irrefl _)
theorem u7{P:Program}{w:World}{K:PySem.W.Frag}{elts:List Expr}{k:Nat}{pos:Pos}{z TI TO i1 i2 l1 l2:Addr}(D:kL z TI TO i1 i2):iy P w K (.Tuple elts k pos) (yv K l1 l2) [z,TI,TO,i1,i2] z (UZ z TI TO i1 i2 l1 l2) where
 mem:=by simp
 obj:=fun i h st b hb=>by
  obtain⟨s1,s2,⟨_,_,s3⟩,⟨o4,s4,c4,d4⟩,⟨o5,s5,c5,d5⟩⟩:=st
  simp only[List.mem_cons,List.mem_nil_iff,or_false]at hb
  rcases hb with rfl | rfl | rfl | rfl | rfl
  ·exact⟨_,s1,fun v e=>by cases e⟩
  ·exact⟨_,s2,fun v e=>by cases e⟩
  ·exact⟨_,s3,fun v e=>by cases e⟩
  ·exact⟨_,s4,fun v e=>by rw[d4]at e; cases e⟩
  ·exact⟨_,s5,fun v e=>by rw[d5]at e; cases e⟩
 keep:=fun i h h' st kk=>by
  obtain⟨s1,s2,⟨a,b,s3⟩,s4,s5⟩:=st
  exact⟨kk z (by simp) _ s1,kk TI (by simp) _ s2,⟨a,b,kk TO (by simp) _ s3⟩,s4.at fun o e=>kk i1 (by simp) o e,s5.at fun o e=>kk i2 (by simp) o e⟩
 item:=by
  intro X hP hw hK hc i pins s σ H E I hf st hg
  subst hP hw hK
  obtain⟨xs,ys,x,y,q1,q2,hx,hy⟩:=hg
  obtain⟨is1,rv1,p1,_⟩:=I.tuple q1
  obtain⟨is2,rv2,p2,_⟩:=I.tuple q2
  obtain⟨u1,hu1,ru1⟩:=rv1.get hx
  obtain⟨u2,hu2,ru2⟩:=rv2.get hy
  have n1:∀ c∈[z,TI,TO,i1,i2],l1≠c:=fun c hc'=>SqT.apart I (hf c hc') q1
  have n2:∀ c∈[z,TI,TO,i1,i2],l2≠c:=fun c hc'=>SqT.apart I (hf c hc') q2
  have D':ZipApart z TI TO i1 i2 l1 l2:=⟨D.TIz,D.TOz,D.i1z,D.i2z,D.TITO,D.TIi1,D.TIi2,D.TOi1,D.TOi2,D.i12,n1 _ (by simp),n1 _ (by simp),n1 _ (by simp),n1 _ (by simp),n2 _ (by simp),n2 _ (by simp),n2 _ (by simp),n2 _ (by simp)⟩
  obtain⟨s1,s2,⟨a,b,s3⟩,s4,s5⟩:=st
  have e1:s.heap.IsTuple l1 is1.toArray:=p1
  have e2:s.heap.IsTuple l2 is2.toArray:=p2
  refine sV D' s1 s2 s3 ⟨s4,e1⟩ ⟨s5,e2⟩ (x:=u1) (y:=u2) (by simpa using hu1) (by simpa using hu2) fun h' a1 a2 a3 a4 a5 a6 kk=>?_
  refine⟨_,rfl,wpAny_letOwnedTupleGo_zip a1 fun h'' hz' hs'=>?_⟩
  have lt:∀ {c o},s.heap.get? c=some o→s.heap.objs.size≠c:=fun e=>Nat.ne_of_gt (Heap.lt_size e)
  have zne:s.heap.objs.size≠z:=lt s1
  have keep2:∀ b o,b∉[z,TI,TO,i1,i2]→s.heap.get? b=some o→h''.get? b=some o:=fun b o hb e=>by
   simp only[List.mem_cons,List.mem_nil_iff,or_false,not_or]at hb
   exact hs'.extBut _ _ hb.1 (kk b o hb.1 hb.2.2.1 hb.2.2.2.1 hb.2.2.2.2 e)
  have hsz:H s.heap.objs.size=none:=I.hok.fresh (Nat.le_refl _)
  have tupN:IsPair h'' s.heap.objs.size u1 u2:=hs'.extBut _ _ zne a5
  have nlt:∀ c∈[z,TI,TO,i1,i2],c≠s.heap.objs.size:=fun c hc'=>by
   obtain⟨o4,e4,_⟩:=id s4
   obtain⟨o5,e5,_⟩:=id s5
   simp only[List.mem_cons,List.mem_nil_iff,or_false]at hc'
   rcases hc' with rfl | rfl | rfl | rfl | rfl
   ·exact(lt s1).symm
   ·exact(lt s2).symm
   ·exact(lt s3).symm
   ·exact(lt e4).symm
   ·exact(lt e5).symm
  refine⟨.ref s.heap.objs.size,upd H s.heap.objs.size (.tup [x,y]),I.turnedLaid (t':=s.toks) keep2 hf (Nat.le_refl _) ⟨aQ (by show 2≤1000000; decide),[u1,u2],.cons ru1 (.cons ru2 .nil),⟨_,tupN,rfl,rfl,0,rfl⟩⟩,rfl,⟨_,x,y,hsz,rfl,rfl,fun xs' q'=>?_,fun ys' q'=>?_⟩,
   ⟨hz',hs'.extBut _ _ D.TIz (kk _ _ D.TIz D.TITO D.TIi1 D.TIi2 s2),⟨_,_,hs'.extBut _ _ D.TOz a2⟩,a3.1.extBut hs'.extBut D.i1z,a4.1.extBut hs'.extBut D.i2z⟩,fun c hc'=>?_⟩
  ·rw[I.tuple_inj q' q1]; exact hx
  ·rw[I.tuple_inj q' q2]; exact hy
  ·rw[ah (nlt c hc')]; exact(hf c hc').1
 done:=by
  intro X hP hw hK hc i pins s σ H E I hf st hg
  subst hP hw hK
  obtain⟨xs,ys,q1,q2,hlen⟩:=hg
  obtain⟨is1,rv1,p1,_⟩:=I.tuple q1
  obtain⟨is2,rv2,p2,_⟩:=I.tuple q2
  have l1:=rv1.length
  have l2:=rv2.length
  have n1:∀ c∈[z,TI,TO,i1,i2],_≠c:=fun c hc'=>SqT.apart I (hf c hc') q1
  have n2:∀ c∈[z,TI,TO,i1,i2],_≠c:=fun c hc'=>SqT.apart I (hf c hc') q2
  have D':ZipApart z TI TO i1 i2 _ _:=⟨D.TIz,D.TOz,D.i1z,D.i2z,D.TITO,D.TIi1,D.TIi2,D.TOi1,D.TOi2,D.i12,n1 _ (by simp),n1 _ (by simp),n1 _ (by simp),n1 _ (by simp),n2 _ (by simp),n2 _ (by simp),n2 _ (by simp),n2 _ (by simp)⟩
  obtain⟨s1,s2,⟨a,b,s3⟩,s4,s5⟩:=st
  have e1:s.heap.IsTuple _ is1.toArray:=p1
  have e2:s.heap.IsTuple _ is2.toArray:=p2
  refine uQ (I.ok.hd hc) D' s1 s2 s3 ⟨s4,e1⟩ ⟨s5,e2⟩ ?_ fun h' kk=>⟨rfl,I.turnedL (t':=s.toks) (fun b o hb e=>?_) hf⟩
  ·rcases hlen with z | z
   ·exact .inl (by simp; omega)
   ·exact .inr (by simp; omega)
  ·simp only[List.mem_cons,List.mem_nil_iff,or_false,not_or]at hb
   exact kk b o hb.1 hb.2.2.1 hb.2.2.2.1 hb.2.2.2.2 e
 self:=fun A i s Q E st h=>wpAny_pyIter_zip st.1 h
def yw(K:PySem.W.Frag)(ta:TA):TI:=fun σ H R=>ta σ H fun vs H1=>∃ a b:Addr,vs=[.ref a,.ref b]∧(∃ xs,SqT K H1 a xs)∧(∃ ys,SqT K H1 b ys)∧R (yv K a b) H1
theorem oj(K:PySem.W.Frag)(ta:TA){σ : St}{H:Hp}{R:It→Hp→Prop}:yw K ta σ H R=ta σ H fun vs H1=>∃ a b:Addr,vs=[.ref a,.ref b]∧(∃ xs,SqT K H1 a xs)∧(∃ ys,SqT K H1 b ys)∧R (yv K a b) H1:=rfl
theorem lL(K:PySem.W.Frag){X:Cx}{elts:List Expr}{k:Nat}{tpos:Pos}{a b:Expr}{ta:TA}{p pos:Pos}(hg:Gl X "zip") (hm:X.mg "zip" = none) (ha:PA X [a,b] ta) (hs:starEach [a,b] X.env=[(false,eval a X.env),(false,eval b X.env)]:=by rfl) (hs2:starEach [b] X.env=[(false,eval b X.env)]:=by rfl) (hK:X.K=K:=by rfl) :
  PI X (.Tuple elts k tpos) (.Call (.Name "zip" p) [a,b] [] pos) (yw K ta):=by
 subst hK
 intro pins s σ H R I h
 refine Call_ (ga I hg hm qe (PyProof.Rows.callWith_type1 (bz (ha pos pins s σ H _ I h) fun us s1 ⟨vs,H1,I1,r1,q1⟩=>?_) (by rw[hs,hs2]) (by rw[hs2]; rfl)))
 obtain⟨l1,l2,e,⟨xs,h1⟩,⟨ys,h2⟩,q⟩:=q1
 subst e
 obtain⟨u1,u2,rfl,r1,r2⟩:=kT r1
 cases r1
 cases r2
 obtain⟨is1,_,p1,_⟩:=I1.tuple h1
 obtain⟨is2,_,p2,_⟩:=I1.tuple h2
 refine vS (show s1.heap.IsTuple l1 is1.toArray from p1) (show s1.heap.IsTuple l2 is2.toArray from p2) fun h' a1 a2 a3 a4 a5 kk=>?_
 refine wpAny_pyIter_zip a1 ⟨_,[s1.heap.objs.size+4,s1.heap.objs.size+2,s1.heap.objs.size+3,s1.heap.objs.size,s1.heap.objs.size+1],_,_,H1,rfl,I1.kept (t':=s1.toks) kk,
  u7 (z:=s1.heap.objs.size+4) (TI:=s1.heap.objs.size+2) (TO:=s1.heap.objs.size+3) (i1:=s1.heap.objs.size) (i2:=s1.heap.objs.size+1) (Cz _),⟨a1,a2,⟨_,_,a3⟩,a4.1,a5.1⟩,fun b hb=>?_,q⟩
 have hb':s1.heap.objs.size≤b:=by
  simp only[List.mem_cons,List.mem_nil_iff,or_false]at hb
  rcases hb with rfl | rfl | rfl | rfl | rfl <;> first | exact Nat.le_refl _ | exact Nat.le_add_right _ _
 exact I1.fpOk hb' (I1.hok.fresh hb')
end L2
namespace L2
open PySem PySem.Spec PyProof PyProof.Rows
section
variable{prog:Program}{w:World}{A:Around}{E:Value→Shared→Prop}{s:Shared}
theorem nw{t sl:Addr}{items:Array Value}{vl vu:Value}{lo hi:Option Int}{Q:Value→Shared→Prop}(ht:IsTup s.heap t items)(hs:s.heap.IsSliceOf sl vl vu .none)(pl:PySem.IsPart vl lo)(pu:PySem.IsPart vu hi)
  (hw:HT.sIx items.size 0 lo=0∧HT.sIx items.size items.size hi=items.size) (q:Q (.ref t) s):wpAny (model prog w) A (getItem (.ref t) (.ref sl)) Q E s:=by
 obtain⟨os,g1,g2,g3⟩:=id hs
 have ty:s.TypeIs (.ref sl) "slice" := ⟨os,g1,g2⟩
 unfold getItem
 try with_reducible refine wpAny_holding ?_
 first | refine wpAny_bind (wpAny_pure ?_) | skip
 refine wpAny_bind (wpAny_sequenceKey ht.typeIs (by decide) (wpAny_bind (wpAny_callSpecial?_slot (name:=Str.ofString "__getitem__") ht.typeIs PyProof.Rows.slot_tuple_getitem (wpAny_call_entry PyProof.Rows.slot_tuple_getitem ht.typeIs entry_tuple_getitem ?_ (args_tuple_getitem _ _)))))
 show wpAny _ _ (Builtin.Tuple.tupleItemsOf (.ref t) >>= fun _=>_) _ _ s
 refine wpAny_bind (tupleItemsOf_ ht (wpAny_bind (wpAny_typeOf ty ?_)))
 rw[if_pos (by decide)]
 refine wpAny_bind (HT.sliceApplied_gen hs pl pu ?_)
 have hyes:((((HT.sIx items.size 0 lo:Nat):Int) == 0&&(1:Int) == 1&&(HT.sIx items.size items.size hi - HT.sIx items.size 0 lo) == items.size)=true):=by
  rw[hw.1,hw.2]; simp
 show wpAny _ _ (if (((HT.sIx items.size 0 lo:Nat):Int) == 0&&(1:Int) == 1&&(HT.sIx items.size items.size hi - HT.sIx items.size 0 lo) == items.size)=true then _ else _) _ _ s
 rw[if_pos hyes]
 refine wpAny_bind (m:=Builtin.Tuple.tupleIsExact _) (wpAny_bind (wpAny_typeOf ht.typeIs (wpAny_pure ?_)))
 have hb:(Value.type "tuple" == Value.type "tuple")=true:=by decide
 rw[hb,if_pos rfl]
 exact wpAny_bind (wpAny_rule (wpAny_pure ⟨_,rfl,wpAny_pure q⟩))
end
section
variable{X:Cx}
def yD(K:PySem.W.Frag):V→Option Int→Option Int→Hp→VK→Prop:=fun x lo hi H Q=>∃ a xs,x = .ref a∧SqT K H a xs∧
 (HT.sIx xs.length 0 lo=0∧HT.sIx xs.length xs.length hi=xs.length→Q (.ref a) H)∧(¬ (HT.sIx xs.length 0 lo=0∧HT.sIx xs.length xs.length hi=xs.length)→∀ p,H p=none→Q (.ref p) (upd H p (.tup (dI xs lo hi))))
theorem jC(K:PySem.W.Frag)(hK:X.K=K:=by rfl):SlR X (yD K):=by
 subst hK
 intro pins s σ H x v vl vu lo hi sl Q I rx hs pl pu h
 obtain⟨a,xs,rfl,hx,q1,q2⟩:=h
 by_cases hw:HT.sIx xs.length 0 lo=0∧HT.sIx xs.length xs.length hi=xs.length
 ·have rx':=rx
  cases rx
  obtain⟨its,r,ht,hz⟩:=I.tuple hx
  have hlen:its.toArray.size=xs.length:=by rw[List.size_toArray]; exact r.length.symm
  exact⟨"tuple", _,PyProof.Rows.slot_tuple_getitem.lookup,ht.typeIs,nw ht hs pl pu (by rw[hlen]; exact hw) ⟨.ref a,H,I,rx',q1 hw⟩⟩
 ·exact Bk pins s σ H _ v vl vu lo hi sl Q I rx hs pl pu ⟨a,xs,rfl,hx,hw,q2 hw⟩
theorem iK{K:PySem.W.Frag}{H:Hp}{Q:VK}{a:Addr}{lo hi:Option Int}{xs:List V}(h:SqT K H a xs)(q:∀ p H',Same H H'→SqT K H' p (dI xs lo hi)→Q (.ref p) H'):yD K (.ref a) lo hi H Q:=by
 refine⟨a,xs,rfl,h,fun hw=>?_,fun _ p hp=>q p _ (af hp _) (SqT.of ac)⟩
 have e:dI xs lo hi=xs:=by unfold dI; rw[hw.1,hw.2]; simp
 exact q a H (fun _ _ e=>e) (by rw[e]; exact h)
theorem rj(xs:List V)(k:Nat):dI xs none (some (k:Int))=xs.take k:=by
 unfold dI
 rw[HT.sIx_none,HT.sIx_nat,List.drop_zero,Nat.sub_zero]
 exact List.take_eq_take_min.symm
theorem fz(xs:List V)(k:Nat):dI xs (some (k:Int)) none=xs.drop k:=by
 unfold dI
 rw[HT.sIx_none,HT.sIx_nat]
 rcases Nat.le_total k xs.length with h | h
 ·rw[Nat.min_eq_left h,List.take_of_length_le (by rw[List.length_drop]; omega)]
 ·rw[Nat.min_eq_right h,Nat.sub_self,List.take_zero,List.drop_eq_nil_of_le h]
def ua:List V→Hp→VK→Prop:=fun xs H Q=>(∃ i,xs=[.int i]∧i.natAbs.log2<1920∧Q (.str (toString i)) H)∨∃ y,xs=[.str y]∧Q (.str y) H
theorem u5:CallR X (.type "str") ua:=by
 intro pins s σ H xs us Q I r h
 rcases h with h | ⟨y,rfl,q⟩
 ·exact i0 pins s σ H xs us Q I r h
 ·obtain⟨u,rfl,t,rfl⟩:=dz r
  exact PySem.P.str_of_str ⟨.str y,H,I,⟨t,rfl⟩,q⟩
theorem mn{H:Hp}{Q:VK}(i:Int):ua [.int i] H Q=(i.natAbs.log2<1920∧Q (.str (toString i)) H):=
 propext ⟨fun h=>by rcases h with ⟨_,e,h⟩ | ⟨_,e,_⟩ <;> cases e; exact h,fun h=>.inl ⟨i,rfl,h⟩⟩
theorem mN{H:Hp}{Q:VK}(y:Str):ua [.str y] H Q=Q (.str y) H:=
 propext ⟨fun h=>by rcases h with ⟨_,e,h⟩ | ⟨_,e,h⟩ <;> cases e; exact h,fun h=>.inr ⟨y,rfl,h⟩⟩
theorem sx{x:Str}{d:Addr}{pos:Pos}(h:X.mg x=some (.ref d))(hg:Gl X x:=by rfl)(hd:(x == ("__debug__" : Str))=false:=by decide):PE X (.Name x pos) (tC (.ref d)):=zk hg h rfl hd
theorem eU:MtR X "list.extend" lF:=u3
theorem fJ{H:Hp}{Q:VK}(l b:Addr):lF (.ref l) [.ref b] H Q=∃ xs zs,H l=some (.lst xs)∧H b=some (.lst zs)∧xs.length+zs.length≤sizeLine∧Q .non (upd H l (.lst (xs++zs))):=
 propext ⟨fun ⟨_,_,xs,zs,e1,e2,q⟩=>by cases e1; cases e2; exact⟨xs,zs,q⟩,fun ⟨xs,zs,q⟩=>⟨l,b,xs,zs,rfl,rfl,q⟩⟩
theorem jH(K:PySem.W.Frag){tg l:Expr}{tl:TE}(hl:PE X l tl)(hK:X.K=K:=by rfl):PI X tg l (xp K tl):=hK ▸ By hl
theorem rJ(K:PySem.W.Frag)(tl:TE){σ : St}{H:Hp}{R:It→Hp→Prop}:xp K tl σ H R=tl σ H fun x H1=>∃ a,x = .ref a∧(∃ xs,SqT K H1 a xs)∧R (vh K a) H1:=rfl
end
section
variable{K:PySem.W.Frag}{a b:Addr}{xs ys:List V}{g:TG}{te:TE}{nT:Nat}{σ : St}{D:Addr}{Q:VK}{H:Hp}
theorem pX{tb:TS}{D:dO}(Pv:Nat→St→Hp→Prop)(h0:Pv 0 σ H)(hl:∀ i σ H,i≤xs.length→Pv i σ H→SqT K H a xs)
  (hs:∀ i x σ H,xs[i]? = some x→Pv i σ H→g x σ H fun σ2 H2=>tb { D with nx:=Pv (i+1),ct:=Pv (i+1),bk:=D.nx } σ2 H2) (hd:∀ σ H,Pv xs.length σ H→D.nx σ H):ix (vh K a) g tb D σ H:=by
 refine ig xs.length Pv h0 (fun i σ H hi p=>⟨xs,xs[i],hl i σ H (Nat.le_of_lt hi) p,by simp[hi]⟩) (fun σ H p=>⟨xs,hl _ σ H (Nat.le_refl _) p,Nat.le_refl _⟩) (fun i σ H x H' hi p yl=>?_) hd
 obtain⟨rfl,y⟩:=yl
 exact hs i x σ _ (y xs (hl i σ _ (Nat.le_of_lt hi) p)) p
theorem mf(Pv:Nat→List V→Hp→Prop)(h0:Pv 0 [] H)(hl:∀ i ys H,i≤xs.length→Pv i ys H→SqT K H a xs)
  (hs:∀ i ys H x,xs[i]? = some x→i<xs.length→Pv i ys H→g x (σ++List.replicate nT none) H (jG xs.length i Pv D ys te))
  (hd:∀ ys H,Pv xs.length ys H→Q (.ref D) H):fB (vh K a) g lz te nT σ D Q H:=by
 refine j8 xs.length Pv h0 (fun i ys H hi p=>⟨xs,xs[i],hl i ys H (Nat.le_of_lt hi) p,by simp[hi]⟩) (fun ys H p=>⟨xs,hl _ ys H (Nat.le_refl _) p,Nat.le_refl _⟩) (fun i ys H x H' hi p yl=>?_) hd
 obtain⟨rfl,y⟩:=yl
 exact hs i ys _ x (y xs (hl i ys _ (Nat.le_of_lt hi) p)) hi p
theorem ji{tb:TS}{D:dO}(Pv:Nat→St→Hp→Prop)(hn:xs.length=ys.length)(h0:Pv 0 σ H)(hl:∀ i σ H,i≤xs.length→Pv i σ H→SqT K H a xs∧SqT K H b ys)
  (hs:∀ i x y t σ H,xs[i]? = some x→ys[i]? = some y→Pv i σ H→H t=none→g (.ref t) σ (upd H t (.tup [x,y])) fun σ2 H2=>tb { D with nx:=Pv (i+1),ct:=Pv (i+1),bk:=D.nx } σ2 H2) (hd:∀ σ H,Pv xs.length σ H→D.nx σ H):ix (yv K a b) g tb D σ H:=by
 refine ig xs.length Pv h0 (fun i σ H hi p=>⟨xs,ys,xs[i],ys[i],(hl i σ H (Nat.le_of_lt hi) p).1,(hl i σ H (Nat.le_of_lt hi) p).2,by simp[hi],by simp[hn ▸ hi]⟩) (fun σ H p=>⟨xs,ys,(hl _ σ H (Nat.le_refl _) p).1,(hl _ σ H (Nat.le_refl _) p).2,.inl (Nat.le_refl _)⟩) (fun i σ H v H' hi p yl=>?_) hd
 obtain⟨t,x,y,ht,rfl,rfl,y1,y2⟩:=yl
 exact hs i x y t σ H (y1 xs (hl i σ H (Nat.le_of_lt hi) p).1) (y2 ys (hl i σ H (Nat.le_of_lt hi) p).2) p ht
end
theorem SqT.same{K:PySem.W.Frag}{H H':Hp}{a:Addr}{xs:List V}(h:SqT K H a xs)(sm:Same H H'):SqT K H' a xs:=by
 rcases h with (h | ⟨o,h⟩) | h
 ·exact .inl (.inl (sm _ _ h))
 ·exact .inl (.inr ⟨o,sm _ _ h⟩)
 ·exact .inr h
theorem cm{α : Type}{x:α}{xs:List α}:dw (x::xs) 0=some x:=bC (j:=0) rfl
theorem SqT.updL{K:PySem.W.Frag}{H:Hp}{a l:Addr}{xs ys:List V}{o:HO}(h:SqT K H a xs)(hl:H l=some (.lst ys)):SqT K (upd H l o) a xs:=by
 rcases h with (h | ⟨o',h⟩) | h
 ·exact .inl (.inl (by rw[ah (ci h hl (fun z=>nomatch z))]; exact h))
 ·exact .inl (.inr ⟨o',by rw[ah (ci h hl (fun z=>nomatch z))]; exact h⟩)
 ·exact .inr h
end L2
namespace L2
open PySem PySem.Spec PyProof PyProof.Rows
section
variable{X:Cx}
def uD(K:PySem.W.Frag):V→List V→Hp→VK→Prop:=fun x vs H Q=>∃ (sep:Str) (p:Addr) (ss:List Str),x = .str sep∧vs=[.ref p]∧SqT K H p (ss.map V.str)∧(ss.map (·.length)).sum+ss.length * sep.length≤16777216∧Q (.str (Txt.join sep ss)) H
theorem wA(K:PySem.W.Frag)(hK:X.K=K:=by rfl):MtR X "str.join" (uD K):=by
 subst hK
 intro pins s σ H x xs v us Q I rx r h
 obtain⟨sep,p,ss,rfl,rfl,hq,hz,q⟩:=h
 obtain⟨t,rfl⟩:=rx
 obtain⟨u,rfl,ru⟩:=dz r
 cases ru
 obtain⟨its,rv,pl,_⟩:=I.tuple hq
 exact join_tuple pl (by simpa using js rv) hz fun t' k=>⟨.str (Txt.join sep ss),H,I.tok k,⟨t',rfl⟩,q⟩
theorem mP{K:PySem.W.Frag}{H:Hp}{Q:VK}(sep:Str)(p:Addr):uD K (.str sep) [.ref p] H Q=∃ ss,SqT K H p (ss.map V.str)∧(ss.map (·.length)).sum+ss.length * sep.length≤16777216∧Q (.str (Txt.join sep ss)) H:=
 propext ⟨fun ⟨_,_,ss,e1,e2,q⟩=>by cases e1; cases e2; exact⟨ss,q⟩,fun ⟨ss,q⟩=>⟨sep,p,ss,rfl,rfl,q⟩⟩
end
end L2
namespace L2
open PySem PySem.Spec PyProof PyProof.Rows
def yR(K:PySem.W.Frag)(a:Addr)(n:Nat):It:=
 ⟨fun i H=>i<n∧∃ xs x,SqL K H a xs∧xs[n - 1 - i]? = some x,fun i H x H'=>H'=H∧∀ xs,SqL K H a xs→xs[n - 1 - i]? = some x,fun i _=>i=n⟩
theorem xw{P:Program}{w:World}{K:PySem.W.Frag}{tg:Expr}(a it:Addr)(n:Nat):iy P w K tg (yR K a n) [it] it (fun i h=>h.IsRevIter it a ((n:Int) - 1 - (i:Nat))) where
 mem:=by simp
 obj:=fun i h st b hb=>by
  have e:b=it:=by simpa using hb
  subst e
  obtain⟨o,e,c,d⟩:=st
  exact⟨o,e,fun v z=>by rw[d]at z; cases z⟩
 keep:=fun i h h' st k=>st.at fun o e=>k it (by simp) o e
 item:=by
  intro X hP hw hK hc i pins s σ H E I hf st hg
  subst hP hw hK
  obtain⟨hi,xs,x,hq,hx⟩:=hg
  obtain⟨its,rv,p,hz⟩:=I.list hq
  obtain⟨u,hu,ru⟩:=rv.get hx
  obtain⟨f0,f1,f2,f3,f4,f5⟩:=hf it (by simp)
  have e:(n:Int) - 1 - (i:Int)=((n - 1 - i:Nat):Int):=by omega
  rw[e]at st
  refine wpAny_pyNext_rev_item st p.isList (x:=u) (by simpa using hu) fun h' st' sb=>?_
  have I1:Inv X pins σ H { s with heap:=h' }:=I.turned (t':=s.toks) (fun b o hb e=>(sb.2 b hb).trans e) f0 f1 f3 f4 f5
  have e2:((n - 1 - i:Nat):Int) - 1=(n:Int) - 1 - ((i+1:Nat):Int):=by omega
  rw[e2]at st'
  obtain⟨o,eo,c,d⟩:=id st'
  exact⟨u,rfl,nH (s:={ s with heap:=h' }) eo c d (by decide) ⟨x,H,I1,ru,⟨rfl,fun ys hy=>by rw[I.list_inj hy hq]; exact hx⟩,st',fun b hb=>(hf b hb).1⟩⟩
 done:=by
  intro X hP hw hK hc i pins s σ H E I hf st hg
  subst hP hw hK
  obtain⟨f0,f1,f2,f3,f4,f5⟩:=hf it (by simp)
  have hg':i=n:=hg
  have e:(n:Int) - 1 - (i:Int) = -1:=by omega
  rw[e]at st
  exact wpAny_pyNext_rev_end (I.ok.hd hc) st fun h' eb=>⟨rfl,I.turned (t':=s.toks) (fun b o hb e=>eb b o hb e) f0 f1 f3 f4 f5⟩
 self:=fun _ _ _ _ _ st h=>wpAny_pyIter_revIter st h
theorem nj:bootBuiltins "reversed" = some (.type "reversed"):=by decide +kernel
def AF(K:PySem.W.Frag)(ta:TA):TI:=fun σ H R=>ta σ H fun vs H1=>∃ a:Addr,vs=[.ref a]∧∃ xs,SqL K H1 a xs∧R (yR K a xs.length) H1
theorem rM(K:PySem.W.Frag)(ta:TA){σ : St}{H:Hp}{R:It→Hp→Prop}:AF K ta σ H R=ta σ H fun vs H1=>∃ a:Addr,vs=[.ref a]∧∃ xs,SqL K H1 a xs∧R (yR K a xs.length) H1:=rfl
theorem AU(K:PySem.W.Frag){X:Cx}{tg:Expr}{a:Expr}{ta:TA}{p pos:Pos}(hg:Gl X "reversed") (hm:X.mg "reversed" = none) (ha:PA X [a] ta) (hs:starEach [a] X.env=[(false,eval a X.env)]:=by rfl) (hK:X.K=K:=by rfl) :
  PI X tg (.Call (.Name "reversed" p) [a] [] pos) (AF K ta):=by
 subst hK
 intro pins s σ H R I h
 refine Call_ (ga I hg hm nj (PyProof.Rows.callWith_type1 (bz (ha pos pins s σ H _ I h) fun us s1 ⟨vs,H1,I1,r1,q1⟩=>?_) hs rfl))
 obtain⟨l,e,xs,h1,q⟩:=q1
 subst e
 obtain⟨u1,rfl,r1'⟩:=dz r1
 obtain rfl:u1=Value.ref l:=r1'
 obtain⟨its,rv,pl,hz⟩:=I1.list h1
 have hlen:its.toArray.size=xs.length:=by rw[List.size_toArray]; exact rv.length.symm
 refine call_reversed_list pl.isList ?_
 rw[hlen]
 have hit:(s1.heap.push (revObj l ((xs.length:Int) - 1))).IsRevIter s1.heap.objs.size l ((xs.length:Int) - 1 - ((0:Nat):Int)):=⟨_,Heap.get?_push_size _ rfl,rfl,by simp[revObj]⟩
 refine wpAny_pyIter_revIter (s:={ s1 with heap:=s1.heap.push (revObj l ((xs.length:Int) - 1)) }) hit ⟨s1.heap.objs.size,[s1.heap.objs.size],_,_,H1,rfl,I1.kept (t':=s1.toks) fun b o e=>Heap.get?_push_of_some _ e,xw l _ xs.length,hit,fun b hb=>?_,q⟩
 have e:b=s1.heap.objs.size:=by simpa using hb
 subst e
 exact I1.fpOk (Nat.le_refl _) (I1.hok.fresh (Nat.le_refl _))
section
variable{K:PySem.W.Frag}{a:Addr}{xs:List V}{g:TG}{σ : St}{H:Hp}
theorem xy{tb:TS}{D:dO}(Pv:Nat→St→Hp→Prop)(h0:Pv 0 σ H)(hl:∀ i σ H,i≤xs.length→Pv i σ H→SqL K H a xs)
  (hs:∀ i x σ H,i<xs.length→xs[xs.length - 1 - i]? = some x→Pv i σ H→g x σ H fun σ2 H2=>tb { D with nx:=Pv (i+1),ct:=Pv (i+1),bk:=D.nx } σ2 H2) (hd:∀ σ H,Pv xs.length σ H→D.nx σ H):ix (yR K a xs.length) g tb D σ H:=by
 refine ig xs.length Pv h0 (fun i σ H hi p=>⟨hi,xs,xs[xs.length - 1 - i],hl i σ H (Nat.le_of_lt hi) p,List.getElem?_eq_getElem _⟩) (fun σ H p=>rfl) (fun i σ H x H' hi p yl=>?_) hd
 obtain⟨rfl,y⟩:=yl
 exact hs i x σ _ hi (y xs (hl i σ _ (Nat.le_of_lt hi) p)) p
end
end L2
namespace L2
open PySem PySem.Spec PyProof PyProof.Rows
theorem B1{P:Program}{w:World}{k:aB}{u:Value}(h:(cP P w).is k u=true):RelV (kV k) u:=by
 cases k with
 | inl i=>
  obtain⟨t,rfl⟩:=Value.isInt_shape (show Value.isInt i u=true from h)
  exact⟨t,rfl⟩
 | inr x=>
  obtain⟨t,rfl⟩:=Value.isStrOf_shape (show Value.isStrOf x u=true from h)
  exact⟨t,rfl⟩
section
variable{X:Cx}
def vN:List V→Hp→VK→Prop:=fun xs H Q=>∃ d kvs,xs=[.ref d]∧H d=some (.dK kvs)∧kvs.length≤60000∧∀ l,H l=none→Q (.ref l) (upd H l (.lst (kvs.map fun kv=>kV kv.1)))
theorem ms{H:Hp}{Q:VK}(d:Addr):vN [.ref d] H Q=∃ kvs,H d=some (.dK kvs)∧kvs.length≤60000∧∀ l,H l=none→Q (.ref l) (upd H l (.lst (kvs.map fun kv=>kV kv.1))):=
 propext ⟨fun ⟨_,kvs,e,q⟩=>by cases e; exact⟨kvs,q⟩,fun ⟨kvs,q⟩=>⟨d,kvs,rfl,q⟩⟩
theorem tM{m:Nat}(hr:Room m X.A):CallR X (.type "list") vN:=by
 intro pins s σ H xs us Q I r h
 obtain⟨d,kvs,rfl,ed,hn,q⟩:=h
 obtain⟨u,rfl,ru⟩:=dz r
 cases ru
 obtain⟨_,hd,vs,rel,dd⟩:=nE I.hok (.inl ed)
 obtain⟨ep,hm⟩:=dd.dictAt
 have hs:sizeLine=16777216:=sizeLine_eq
 have hl:kvs.length=vs.length:=Paired.length rel
 refine PySem.W.kdl_call (PySem.W.kdl_dict (knd:=cP X.prog X.w) (kvs:=vs) (ep:=ep) hd) hr.hd hm (by omega) fun h' tk acc' c' hk hS hacc=>?_
 refine⟨.ref s.heap.objs.size,_,I.laid hk (Nat.le_refl _) (show ObjOk X.prog X.w _ h' _ (.lst (kvs.map fun kv=>kV kv.1)) from ⟨by simp; omega,acc'.toList,c',?_,by simpa using hS⟩),rfl,q _ (I.hok.fresh (Nat.le_refl _))⟩
 refine rY _ _ (by simp[hacc.1,hl]) fun j x w' e1 e2=>?_
 obtain⟨k,y,hk',his⟩:=hacc.2 j w' (by rw[← Array.getElem?_toList]; exact e2)
 rw[List.getElem?_map]at e1
 cases hkv:kvs[j]? with
 | none=>rw[hkv]at e1; cases e1
 | some kv=>
  rw[hkv]at e1
  cases e1
  have:=(kO rel hkv hk').1
  show RelV (kV kv.1) w'
  rw[this]
  exact B1 his
end
end L2
namespace L2
open PySem PySem.Spec PyProof PyProof.Rows PySem.SeqAt
section
variable{X:Cx}
end
end L2
namespace L2
open PySem PySem.Spec PyProof.Rows PySem.SeqAt
structure Fl (K:PySem.W.Frag) (C:Addr) (f:Str):Prop where
 c:Cls K C
 n:NoAttr K C f
structure MakeAt (K:PySem.W.Frag) (mg:Str→Option Value) (x:Str) (C:Addr) (qual:Str) (st:Stmt):Prop where
 ex:∃ f fd,Fun K "__init__" qual st f fd∧Mk K C f∧mg x=some (.ref C)
structure nO (P:Program) (w:World) (K:PySem.W.Frag) (mg:Str→Option Value) (base:Heap) (k:Nat) (x:Str) (C:Addr) (ps:List Str) (sp:Sp):Prop where
 ex:∃ f fd,FnOk P w K mg base i7 k f fd ps sp∧Binds K fd ps []∧Mk K C f∧mg x=some (.ref C)
section
variable{P:Program}{w:World}{K:PySem.W.Frag}{mg:Str→Option Value}{base:Heap}
theorem MakeAt.mkal{x:Str}{C:Addr}{qual:Str}{st:Stmt}{N ps:List Str}{k:Nat}{sp:Sp}(D:MakeAt K mg x C qual st)(S:aN N ps (defScope st))
  (hb:∀ (kV doc pm:Value) (an:Option Addr) (cdv ct:Value) (us:List Value),us.length=ps.length→bindArgs (PySem.W.fnOf "__init__" qual (defArgs st) (defBody st) (defScope st) .none kV doc pm an cdv ct) ⟨us,[]⟩=pure (ps.zip us))
  (len:∀ vs H Q E,sp vs H Q E→vs.length=ps.length)
  (hbody:∀ (f:Addr) (cdv:Value) (A:Around) (outer:List Env) (s:Shared) (H:Hp) (vs:List V) (Q:VK) (E:XK),Room k (A.deeper (envOfC qual (defScope st) s.heap.objs.size f cdv))→sp vs H Q E→
   ∃ t,PSs (jc i7 P w K mg base N qual (defScope st) f cdv A outer s H E).nox (defBody st) t∧t { nx:=fun _ H'=>Q .non H',rt:=Q } (start N vs) H):nO P w K mg base (k+1) x C ps sp:=by
 obtain⟨f,fd,F,m,g⟩:=D.ex
 exact⟨f,fd,F.ok S len fun cdv A outer s H vs Q E hr h=>hbody f cdv A outer s H vs Q E hr h,F.binds hb,m,g⟩
end
def yd(C:Addr)(f:Str)(ta:TE):TE:=fun σ H Q=>ta σ H fun x H1=>∃ a,x = .ref a∧∃ dx fs v,H1 a=some (.ins C dx fs)∧fs.lookup f=some v∧Q v H1
def yh(C:Addr)(f:Str)(ta tv:TE):TS:=fun D σ H=>tv σ H fun y H1=>ta σ H1 fun x H2=>∃ a,x = .ref a∧∃ dx fs,H2 a=some (.ins C dx fs)∧fs.length<1000∧D.nx σ (upd H2 a (.ins C dx (dE f y fs)))
def uS(C:Addr)(sp:Sp)(t:TA):TE:=fun σ H Q=>t σ H fun vs H1=>∀ x dx,H1 x=none→H1 dx=none→dx≠x→sp (.ref x::vs) (upd (upd H1 dx (.own x)) x (.ins C dx [])) (fun v H2=>v = .non∧Q (.ref x) H2) E0
section
variable{X:Cx}{o e value:Expr}{es:List Expr}{f m:Str}{pos pos' apos p:Pos}{ta tv:TE}{t:TA}{C:Addr}{x:Str}{ps:List Str}{sp:Sp}{j k:Nat}
theorem bO(g:Fl X.K C f)(he:PE X e ta)(hb:attributeBase e f X.env (eval e X.env)=eval e X.env:=by rfl):PE X (.Attribute e f pos) (yd C f ta):=by
 intro pins s σ H Q I h
 refine zb hb (bz (he pins s σ H _ I h) fun u s1 ⟨x,H1,I1,rx,a,ex,dx,fs,v,ea,l,q⟩=>?_)
 subst ex
 obtain rfl:u=Value.ref a:=rx
 exact tL I1 ea g.c g.n l fun u' s2 I2 ru=>⟨v,H1,I2,ru,q⟩
theorem jI(g:Fl X.K C f)(ha:PE X o ta)(hv:PE X value tv)(hs:swapsWith value (some (.Attribute o f pos')) pos.line X.env=pure false:=by rfl):PS X (.Assign [.Attribute o f pos'] value pos) (yh C f ta tv):=by
 intro pins s σ H D I h
 refine plainObj_wpAny_Assign_Attribute (bz (hv pins s σ H _ I h) fun u s1 ⟨y,H1,I1,ry,q⟩=>bz (ha pins s1 σ H1 _ I1 q) fun ov s2 ⟨x,H2,I2,rx,a,ex,dx,fs,ea,l,q2⟩=>?_) hs
 subst ex
 obtain rfl:ov=Value.ref a:=rx
 exact tJ I2 ea g.c g.n l ry fun s3 I3=>⟨σ,_,I3,q2⟩
theorem BV(c:nO X.prog X.w X.K X.mg X.base j x C ps sp)(hr:Room k X.A)(ha:PA X (e::es) t)(hle:j+1≤k:=by decide)(hg:Gl X x:=by rfl)(hdb:(x == ("__debug__" : Str))=false:=by decide)
  (he:starEach (e::es) X.env=(false,eval e X.env)::starEach es X.env:=by rfl) (hpl:(backTo pos (starEach es X.env)).any (·.1)=false:=by rfl) :
  PE X (.Call (.Name x p) (e::es) [] pos) (uS C sp t):=by
 obtain⟨f,fd,F,b,M,hm⟩:=c.ex
 intro pins s σ H Q I h
 refine wpAny_Call_Name_kw (lQ I hg hm ?_ hdb)
 refine PySem.W.callWith_K (h₀:=X.base) I.ok.mod.kin M.kp (bz (ha pos pins s σ H _ I h) fun us s1 ⟨vs,H1,I1,r,q⟩=>⟨I1.kIn,?_⟩) he hpl
 exact xM M F (hr.mono hle) b .nil yf I1 r (by simpa only[List.append_nil] using q)
end
section
variable{C:Addr}{f m:Str}{sp:Sp}{ta tv:TE}{t:TA}{σ : St}{H:Hp}{Q:VK}
theorem oh:yd C f ta σ H Q=ta σ H fun x H1=>∃ a,x = .ref a∧∃ dx fs v,H1 a=some (.ins C dx fs)∧fs.lookup f=some v∧Q v H1:=rfl
theorem pQ{D:dO}:yh C f ta tv D σ H=tv σ H fun y H1=>ta σ H1 fun x H2=>∃ a,x = .ref a∧∃ dx fs,H2 a=some (.ins C dx fs)∧fs.length<1000∧D.nx σ (upd H2 a (.ins C dx (dE f y fs))):=rfl
theorem ng:uS C sp t σ H Q=t σ H fun vs H1=>∀ x dx,H1 x=none→H1 dx=none→dx≠x→sp (.ref x::vs) (upd (upd H1 dx (.own x)) x (.ins C dx [])) (fun v H2=>v = .non∧Q (.ref x) H2) E0:=rfl
end
theorem Bl{f:Str}{v:V}{fs:List (Str × V)}:List.lookup f ((f,v)::fs)=some v:=by simp[List.lookup]
theorem zn{f g:Str}{v:V}{fs:List (Str × V)}(h:(f == g)=false):List.lookup f ((g,v)::fs)=List.lookup f fs:=by simp[List.lookup,h]
theorem Bp{f:Str}:List.lookup f ([]:List (Str × V))=none:=rfl
theorem v4{f g:Str}{v x:V}{r:List (Str × V)}(h:¬ g=f):dE f v ((g,x)::r)=(g,x)::dE f v r:=by simp[dE,h]
theorem wR{f:Str}{v:V}:dE f v []=[(f,v)]:=rfl
end L2
namespace L2
open PySem PySem.Spec PyProof.Rows PySem.SeqAt
section
variable{X:Cx}
def vT:V→List V→Hp→VK→Prop:=fun x xs H Q=>∃ s y,x = .str s∧xs=[.str y]∧(y.length == 0)=false∧s.length≤100000∧∀ l,H l=none→Q (.ref l) (upd H l (.lst ((Txt.split s y).map V.str)))
theorem mE{H:Hp}{Q:VK}(s y:Str):vT (.str s) [.str y] H Q=((y.length == 0)=false∧s.length≤100000∧∀ l,H l=none→Q (.ref l) (upd H l (.lst ((Txt.split s y).map V.str)))):=
 propext ⟨fun ⟨_,_,e1,e2,q⟩=>by cases e1; cases e2; exact q,fun q=>⟨s,y,rfl,rfl,q⟩⟩
theorem wk(l:List (Str × Tok)):Vals ((l.map (·.1)).map V.str) (strValues l):=by
 induction l with
 | nil=>exact .nil
 | cons a l ih=>exact .cons ⟨a.2,rfl⟩ ih
theorem fQ:MtR X "str.split" vT:=by
 intro pins s σ H x xs v us Q I rx r h
 obtain⟨z,y,rfl,rfl,hy,hz,q⟩:=h
 obtain⟨t,rfl⟩:=rx
 obtain⟨u,rfl,ru⟩:=dz r
 obtain⟨u,rfl⟩:=ru
 have hs:sizeLine=16777216:=sizeLine_eq
 have hn:(Txt.split z y).length≤z.length+2:=split_le z y
 have lay:∀ (l:List (Str × Tok)) (k:Tok),l.map (·.1)=Txt.split z y→EP X pins σ Q (.ref s.heap.objs.size) { s with heap:=s.heap.push { cls:=.type "list", data:=.seq (strValues l).toArray },toks:=k }:=by
  intro l k e
  refine⟨.ref s.heap.objs.size,_,I.laid (fun _ _ q=>Heap.get?_push_of_some _ q) (Nat.le_refl _) (show ObjOk X.prog X.w _ _ _ (.lst ((Txt.split z y).map V.str)) from ⟨by rw[List.length_map,hs]; omega,strValues l,_,e ▸ wk l,Heap.get?_push_size _ rfl⟩),rfl,q _ (I.hok.fresh (Nat.le_refl _))⟩
 cases h1:(decide (z.length<y.length)||decide (Builtin.Str.strKind z<Builtin.Str.strKind y))
 ·cases hf:(Builtin.Str.occurrences z y 0 z.length (z.length+1)).isEmpty
  ·have e:Txt.split z y=Builtin.Str.partsBetween z (Builtin.Str.occurrences z y 0 z.length (z.length+1)) y.length:=(if_neg (ne_true_of_eq_false h1)).trans (if_neg (ne_true_of_eq_false hf))
   refine call_meets F.slot_str_split (typeIs_str _ _ _) F.entry_str_split (F.args_str_split_2 _ _) (meets_str_split_sep z y t u h1 hy hf (by rw[hs]; omega) (by rw[← e,hs]; omega)) ?_
   show wants _ _ _ { s with toks:=_,heap:=s.heap.push { cls:=.type "list", data:=.seq (strsFrom s.toks (Builtin.Str.partsBetween z (Builtin.Str.occurrences z y 0 z.length (z.length+1)) y.length)).toArray } }
   rw[strsFrom_eq]
   exact lay (numbered s.toks _) _ ((numbered_texts _ _).trans e.symm)
  ·exact call_meets F.slot_str_split (typeIs_str _ _ _) F.entry_str_split (F.args_str_split_2 _ _) (meets_str_split_not_found z y t u h1 hy hf)
    (lay [(z,t)] _ ((if_neg (ne_true_of_eq_false h1)).trans (if_pos hf)).symm)
 ·exact call_meets F.slot_str_split (typeIs_str _ _ _) F.entry_str_split (F.args_str_split_2 _ _) (meets_str_split_cannot_occur z y t u h1) (lay [(z,t)] _ (if_pos h1).symm)
def B5:List V→Hp→VK→Prop:=fun xs H Q=>∃ x n,xs=[.str x]∧PySem.intText? x=some n∧x.length≤640∧Q (.int n) H
theorem vd:CallR X (.type "int") B5:=by
 intro pins s σ H xs us Q I r h
 obtain⟨x,n,rfl,hn,hl,q⟩:=h
 obtain⟨u,rfl,ru⟩:=dz r
 obtain⟨t,rfl⟩:=ru
 exact PySem.W.KIN.call_text hn hl ⟨.int n,H,I.tok _,⟨_,rfl⟩,q⟩
end
theorem ki{c:Nat}:∀ {p q t u:List Nat},c∉p→c∉q→p++c::t=q++c::u→p=q∧t=u
 | [],[],_,_,_,_,e=>⟨rfl,(List.cons.inj e).2⟩
 | [],b::q,_,_,_,hq,e=>absurd ((List.cons.inj e).1 ▸ List.mem_cons_self) hq
 | a::p,[],_,_,hp,_,e=>absurd ((List.cons.inj e).1 ▸ List.mem_cons_self) hp
 | a::p,b::q,t,u,hp,hq,e=>by
  obtain⟨e1,e2⟩:=List.cons.inj e
  obtain⟨e3,e4⟩:=ki (p:=p) (q:=q) (fun z=>hp (List.mem_cons_of_mem _ z)) (fun z=>hq (List.mem_cons_of_mem _ z)) e2
  exact⟨by rw[e1,e3],e4⟩
theorem jz{x y:Str}(h:x.cps.toList=y.cps.toList):x=y:=by
 cases x; cases y
 exact congrArg _ (Array.toList_inj.mp h)
theorem dm(x y:Str):(x++y).cps.toList=x.cps.toList++y.cps.toList:=Array.toList_append
theorem kh(c:Nat)(x y:Str)(r:List Str):(Str.join ⟨#[c]⟩ (x::y::r)).cps.toList=x.cps.toList++c::(Str.join ⟨#[c]⟩ (y::r)).cps.toList:=by
 rw[join_cons_cons,dm,dm]
 show (x.cps.toList++[c])++_=_
 rw[List.append_assoc]; rfl
theorem mR{c:Nat}:∀ {ps qs:List Str},ps≠[]→qs≠[]→(∀ p∈ps,c∉p.cps.toList)→(∀ q∈qs,c∉q.cps.toList)→Str.join ⟨#[c]⟩ ps=Str.join ⟨#[c]⟩ qs→ps=qs
 | [],_,h,_,_,_,_=>absurd rfl h
 | _::_,[],_,h,_,_,_=>absurd rfl h
 | [p],[q],_,_,_,_,e=>congrArg (fun z=>[z]) (show p=q from e)
 | [p],q::q'::qs,_,_,hp,_,e=>by
  have e':=congrArg (fun z:Str=>z.cps.toList) e
  simp only[kh]at e'
  have e2:p.cps.toList=q.cps.toList++c::(Str.join ⟨#[c]⟩ (q'::qs)).cps.toList:=e'
  exact absurd (e2 ▸ List.mem_append_right _ List.mem_cons_self) (hp p List.mem_cons_self)
 | p::p'::ps,[q],_,_,_,hq,e=>by
  have e':=congrArg (fun z:Str=>z.cps.toList) e
  simp only[kh]at e'
  have e2:q.cps.toList=p.cps.toList++c::(Str.join ⟨#[c]⟩ (p'::ps)).cps.toList:=e'.symm
  exact absurd (e2 ▸ List.mem_append_right _ List.mem_cons_self) (hq q List.mem_cons_self)
 | p::p'::ps,q::q'::qs,_,_,hp,hq,e=>by
  have e':=congrArg (fun z:Str=>z.cps.toList) e
  simp only[kh]at e'
  obtain⟨e1,e2⟩:=ki (hp p List.mem_cons_self) (hq q List.mem_cons_self) e'
  have ih:=mR (ps:=p'::ps) (qs:=q'::qs) (by simp) (by simp) (fun z hz=>hp z (List.mem_cons_of_mem _ hz)) (fun z hz=>hq z (List.mem_cons_of_mem _ hz)) (jz e2)
  rw[jz e1,ih]
theorem kP{ws:List Str}(h:ws≠[])(hf:∀ x∈ws,32∉x.cps.toList):Txt.split (Txt.join " " ws) " " = ws:=by
 have e0:(" " : Str)=⟨#[32]⟩:=by decide +kernel
 have e1:Str.join ⟨#[32]⟩ (Txt.split (Txt.join " " ws) " ")=Str.join ⟨#[32]⟩ ws:=by
  have:=PySem.StrLaws.join_split (Txt.join " " ws) " "
  rw[e0]at this ⊢
  rw[this]
  exact PySem.StrLaws.glued_eq_join _ ws
 refine mR ?_ h ?_ hf e1
 ·intro z
  have:=split_pos (Txt.join " " ws) " "
  rw[z]at this; exact absurd this (by decide)
 ·rw[e0]; exact PySem.StrLaws.split_free _ 32
theorem iE(m:Nat):PySem.NumText.AllDigits ((Nat.toDigits 10 m).map Char.toNat)∧(Nat.toDigits 10 m).map Char.toNat≠[]:=by
 constructor
 ·intro c hc
  obtain⟨ch,hch,e⟩:=List.mem_map.mp hc
  rw[← e]
  exact digit_range (Nat.isDigit_of_mem_toDigits (by decide) (by decide) hch)
 ·intro e
  have h:=tDigits_len_ge 10 m
  rw[List.map_eq_nil_iff.mp e]at h
  exact absurd h (by decide)
theorem uO{m:Nat}(h:m<10 ^ 61):(Nat.toDigits 10 m).length≤61:=digits10_le (by decide) h
theorem ke{n:Int}(h:n.natAbs<10 ^ 61):PySem.intText? (Str.ofString (toString n))=some n∧(Str.ofString (toString n)).length≤640:=by
 obtain⟨d1,d2⟩:=iE n.natAbs
 have hl:=uO h
 cases n with
 | ofNat m=>
  have e:(Str.ofString (toString (Int.ofNat m))).cps.toList=(Nat.toDigits 10 m).map Char.toNat:=PySem.W.KIN.signs_num m
  have el:(Str.ofString (toString (Int.ofNat m))).length=(Nat.toDigits 10 m).length:=by
   have:=congrArg List.length e
   rw[List.length_map]at this
   rw[← this]; exact Array.length_toList.symm
  have hm:(Nat.toDigits 10 m).length≤61:=hl
  refine⟨?_,by omega⟩
  have z:=intText_digits (x:=Str.ofString (toString (Int.ofNat m))) (by rw[e]; exact d1) (by rw[e]; exact d2) (by omega)
  rw[e,PySem.W.KIN.val_back]at z
  exact z
 | negSucc m=>
  have e:(Str.ofString (toString (Int.negSucc m))).cps.toList=45::(Nat.toDigits 10 (m+1)).map Char.toNat:=by
   rw[signs_ofString]
   show ("-" ++ Nat.repr (m+1)).toList.map Char.toNat=_
   rw[String.toList_append,List.map_append,Nat.toList_repr]; rfl
  have el:(Str.ofString (toString (Int.negSucc m))).length=(Nat.toDigits 10 (m+1)).length+1:=by
   have:=congrArg List.length e
   rw[List.length_cons,List.length_map]at this
   rw[← this]; exact Array.length_toList.symm
  have hm:(Nat.toDigits 10 (m+1)).length≤61:=hl
  refine⟨?_,by omega⟩
  have z:=intText_neg (x:=Str.ofString (toString (Int.negSucc m))) e d1 d2 (by omega)
  rw[PySem.W.KIN.val_back]at z
  exact z
end L2
namespace L2
open PySem PySem.Spec PyProof.Rows
section
variable{X:Cx}{tg e:Expr}
theorem vk:MtR X "list.clear" uw:=xc
end
end L2
namespace L2
open PySem PySem.Spec PyProof.Rows PySem.SeqAt
section
variable{prog:Program}{w:World}{A:Around}{R:Result→Shared→Prop}{I:Addr}{fp wr:List Addr}{Gm:Array GenState→Array GenState→Prop}{n:Nat}{P:Nat→Value→Prop}{St:Nat→Shared→Prop}{L:Bool}
end
section
variable{prog:Program}{w:World}{A:Around}{E:Value→Shared→Prop}{s:Shared}
end
section
variable{X:Cx}
end
section
variable{prog:Program}{w:World}{A:Around}{E:Value→Shared→Prop}{s:Shared}
end
section
variable{X:Cx}
end
section
variable{X:Cx}{c a b:Expr}{tA tB1 tB2:TT}{pos:Pos}
end
end L2
namespace L2
open PySem PySem.Spec PyProof.Rows PySem.SeqAt PySem.Builtin PySem.Builtin.Str PySem.StrLaws
section
variable{X:Cx}
end
end L2
namespace L2
open PySem PySem.Spec PyProof.Rows PySem.SeqAt PySem.Builtin PySem.Builtin.Str PySem.StrLaws
def oK:V→List V→Hp→VK→Prop:=fun x xs H Q=>∃ s y,x = .str s∧xs=[.str y]∧Q (.bl (decide (0+y.length≤s.length)&&subAt s y 0)) H
theorem jO{H:Hp}{Q:VK}(s y:Str):oK (.str s) [.str y] H Q=Q (.bl (decide (0+y.length≤s.length)&&subAt s y 0)) H:=
 propext ⟨fun ⟨_,_,e1,e2,q⟩=>by cases e1; cases e2; exact q,fun q=>⟨s,y,rfl,rfl,q⟩⟩
theorem nr{X:Cx}:MtR X "str.startswith" oK:=by
 intro pins s σ H x xs v us Q I rx r h
 obtain⟨z,y,rfl,rfl,q⟩:=h
 obtain⟨t,rfl⟩:=rx
 obtain⟨u,rfl,ru⟩:=dz r
 obtain⟨u,rfl⟩:=ru
 exact call_gives F.slot_str_startswith (typeIs_str _ _ _) F.entry_str_startswith (F.args_str_startswith_2 _ _) (gives_str_startswith z y t u) ⟨.bl _,H,I,rfl,q⟩
theorem qa{X:Cx}(K:PySem.W.Frag)(hK:X.K=K:=by rfl):OpR X (binaryOp .Add) (s_ K):=hK ▸ zC
theorem oH{K:PySem.W.Frag}{H:Hp}{Q:VK}(a b:Addr):s_ K (.ref a) (.ref b) H Q=∃ xs ys,SqT K H a xs∧SqT K H b ys∧xs≠[]∧xs.length+ys.length≤sizeLine∧(ys=[]→Q (.ref a) H)∧(ys≠[]→∀ p,H p=none→Q (.ref p) (upd H p (.tup (xs++ys)))):=
 propext ⟨fun ⟨_,_,xs,ys,e1,e2,q⟩=>by cases e1; cases e2; exact⟨xs,ys,q⟩,fun ⟨xs,ys,q⟩=>⟨a,b,xs,ys,rfl,rfl,q⟩⟩
end L2
namespace L2
open PySem PySem.Spec PyProof.Rows
section
variable{X:Cx}
end
end L2
namespace L2
open PySem PySem.Spec PyProof.Rows
abbrev jf:=List (Option Int)
def MO(P:Program)(w:World):HeapKind P w (jf):=yg (eI P w) (show 0≤7 by decide)
def BX(P:Program)(w:World)(a:Addr)(xs:List (jf × Addr × Value)):HO:=
 .ext fun h=>∃ o es ep,h.get? a=some o∧o.ExactDict∧o.data = .dict es ep∧es.toList=xs.map (entryOfKey (MO P w))∧(xs.map (·.1)).Nodup
def Ei(H:Hp)(k:jf)(b:Addr):Prop:=H b=some (.tup (k.map eF))
def Dn(H:Hp)(p:jf × V)(q:jf × Addr × Value):Prop:=q.1=p.1∧Ei H p.1 q.2.1∧RelV p.2 q.2.2
def DO(P:Program)(w:World)(H:Hp)(a:Addr)(kvs:List (jf × V)):Prop:=
 ∃ xs,H a=some (BX P w a xs)∧(a == sysModules)=false∧xs.length≤sizeLine∧Paired (Dn H) kvs xs
section
variable{P:Program}{w:World}{H:Hp}
end
section
variable{X:Cx}{pins:List (Addr × Obj)}{σ : St}{H:Hp}{s:Shared}{a b:Addr}{k:jf}{kvs:List (jf × V)}
end
end L2
namespace L2
open PySem PySem.Spec PyProof PyProof.Rows
section
variable{K:PySem.W.Frag}{a b:Addr}{xs ys:List V}{g:TG}{te:TE}{nT:Nat}{σ : St}{D:Addr}{Q:VK}{H:Hp}
theorem tS{tc:TT}(Pv:Nat→List V→Hp→Prop)(h0:Pv 0 [] H)(hl:∀ i zs H,i≤xs.length→Pv i zs H→SqL K H a xs)
  (hs:∀ i zs H x t,xs[i]? = some x→i<xs.length→Pv i zs H→H t=none→g (.ref t) (σ++List.replicate nT none) (upd H t (.tup [.int i,x])) (li xs.length i Pv D zs tc te))
  (hd:∀ zs H,Pv xs.length zs H→Q (.ref D) H):fB (vI K a) g tc te nT σ D Q H:=by
 refine km xs.length Pv h0 (fun i zs H hi p=>⟨xs,xs[i],hl i zs H (Nat.le_of_lt hi) p,by simp[hi]⟩) (fun zs H p=>⟨xs,hl _ zs H (Nat.le_refl _) p,Nat.le_refl _⟩) (fun i zs H v H' hi p yl=>?_) hd
 obtain⟨t,x,ht,rfl,rfl,y1⟩:=yl
 exact hs i zs H x t (y1 xs (hl i zs H (Nat.le_of_lt hi) p)) hi p ht
end
section
variable{prog:Program}{w:World}{A:Around}{E:Value→Shared→Prop}{s:Shared}
end
end L2
namespace L2
open PySem PySem.Spec PyProof PyProof.Rows
section
variable{X:Cx}
end
section
variable{X:Cx}
end
section
variable{d:Addr}{o:Obj}{kvs:List (aB × V)}{g:TG}{σ : St}{H:Hp}
end
end L2
namespace PySem.SeqAt
open AutoSeq1 (wpAny_loadPart')
open MeetsSeq MeetsSeq2 MeetsSeq3
end PySem.SeqAt
namespace L2
open PySem PySem.Spec PyProof PyProof.Rows
section
variable{X:Cx}
end
end L2
namespace L2
open PySem PySem.Spec PyProof PyProof.Rows
section
variable{X:Cx}
end
end L2
namespace L2
open PySem PySem.Spec PyProof.Rows
section
variable{X:Cx}{pins:List (Addr × Obj)}{σ : St}{H:Hp}{s:Shared}{a:Addr}{kvs:List (Option Int × V)}
end
section
variable{X:Cx}(P:Program)(w:World)
end
end L2
namespace L2
open PySem PySem.Spec PyProof PyProof.Rows
section
variable{prog:Program}{w:World}{A:Around}{E:Value→Shared→Prop}{s:Shared}
variable{z TI TO i1 i2 t1 t2:Addr}{xs ys:Array Value}{k1 k2:Nat}{a b:Value}
end
section
variable{K:PySem.W.Frag}{a b:Addr}{xs ys:List V}{g:TG}{te:TE}{nT:Nat}{σ : St}{D:Addr}{Q:VK}{H:Hp}
end
end L2
namespace L2
open PySem PySem.Spec PyProof PyProof.Rows PySem.SeqAt
theorem rf{α : Type}[BEq α][LawfulBEq α]{y:α}:∀ {l:List α} {j:Nat},j<l.idxOf y→∀ (h:j<l.length),l[j]≠y
 | n::r,0,h,_=>by
  intro e
  have e':n=y:=e
  subst e'
  simp at h
 | n::r,j+1,h,h2=>by
  rw[List.idxOf_cons]at h
  cases hb:n == y with
  | true=>rw[hb]at h; exact absurd h (Nat.not_lt_zero _)
  | false=>
   rw[hb]at h
   have h':j+1<r.idxOf y+1:=h
   have q:=rf (y:=y) (l:=r) (j:=j) (by omega) (by simpa using h2)
   simpa using q
section
variable{X:Cx}
def y6(K:PySem.W.Frag):V→List V→Hp→VK→Prop:=fun x vs H Q=>∃ (p:Addr) (ss:List (Option Int)) (y:Option Int),x = .ref p∧vs=[eF y]∧SqL K H p (ss.map eF)∧y∈ss∧Q (.int (ss.idxOf y:Nat)) H
theorem me(K:PySem.W.Frag)(hK:X.K=K:=by rfl):MtR X "list.index" (y6 K):=by
 subst hK
 intro pins s σ H x xs v us Q I rx r h
 obtain⟨p,ss,y,rfl,rfl,hq,hy,q⟩:=h
 cases rx
 obtain⟨u,rfl,ru⟩:=dz r
 obtain⟨its,rv,pl,hz⟩:=I.list hq
 have hlen:its.length=ss.length:=by rw[← rv.length,List.length_map]
 rw[List.length_map]at hz
 have hs:sizeLine=16777216:=sizeLine_eq
 obtain⟨⟨cls,dd,data,sl⟩,ho,hc,n,hd⟩:=pl.isList
 simp only at hc hd
 subst hc hd
 have hj:ss.idxOf y<ss.length:=List.idxOf_lt_length_iff.mpr hy
 have rel:∀ (i:Nat) (h:i<its.length),RelV (eF (ss[i]'(by omega))) its[i]:=fun i h=>by
  obtain⟨x,hx,rx⟩:=rv.of (i:=i) (u:=its[i]) (List.getElem?_eq_getElem h)
  rw[List.getElem?_map,List.getElem?_eq_getElem (by omega)]at hx
  have hx':eF (ss[i]'(by omega))=x:=Option.some.inj hx
  subst hx'
  exact rx
 have eqq:∀ (i:Nat) (h:i<its.length),ik (eF y) its[i]=decide (ss[i]'(by omega)=y):=fun i h=>by
  rw[kR (rel i h) (fw _),qY]
 refine call_meets PySem.F.slot_list_index ⟨_,ho,rfl⟩ PySem.F.entry_list_index (PySem.F.args_list_index_2 _ _)
  (list_indexAt p its.toArray n dd sl u (ik (eF y)) (ss.idxOf y) (by simpa [hlen] using hj) (by omega) ?_ ?_) ⟨ho,fun z hz=>?_,⟨.int _,H,I.tok _,⟨_,rfl⟩,q⟩⟩
 ·show ik (eF y) its[ss.idxOf y]=true
  rw[eqq _ (by omega),List.getElem_idxOf hj]; simp
 ·intro j hjs hlt
  have hj':j<its.length:=by simpa using hjs
  show ik (eF y) its[j]=false
  rw[eqq j hj']
  exact decide_eq_false (rf hlt _)
 ·have hz':z∈its:=by simpa using hz
  obtain⟨i,hi,rfl⟩:=List.mem_iff_getElem.mp hz'
  rw[kR (rel i hi) (fw _)]
  exact iQ (A:=X.A.in1) (s:=s) (rel i hi) ru (fw _) (fw _)
end
section
variable{X:Cx}
end
section
variable{X:Cx}
end
end L2
namespace L2
open PySem PySem.Spec PyProof PyProof.Rows
section
variable{X:Cx}
def v8:V→List V→Hp→VK→Prop:=fun x xs H Q=>∃ a kvs k v,x = .ref a∧xs=[kV k,v]∧H a=some (.dK kvs)∧kvs.length<sizeLine∧(∀ z,aK kvs k=some z→Q z H)∧(aK kvs k=none→Q v (upd H a (.dK (aT kvs k v))))
theorem tD:MtR X "dict.setdefault" v8:=by
 intro pins s σ H x vs v us Q I rx rv h
 obtain⟨a,kvs,k,y,rfl,rfl,e,hl,q1,q2⟩:=h
 cases rx
 obtain⟨u,r,rfl,ru,rr⟩:=kT rv
 obtain⟨z,hd,vs,rel,dd⟩:=yL I.hok e
 have hz:vs.length≤sizeLine:=by rw[← rel.length]; exact z
 have hl':(aT kvs k y).length≤sizeLine:=by have:=eY kvs k y; omega
 have rv:=rel.val k
 refine call_meetsIn PySem.F.slot_dict_setdefault dd.typeIs PySem.F.entry_dict_setdefault (PySem.F.args_dict_setdefault_3 _ _ _) (kt_meets_setdefault (cP X.prog X.w) a (nJ ru) hd r) ⟨vs,dd,hz,fun z' hz'=>?_,fun hn h' dd' hs=>?_⟩
 ·cases ho:aK kvs k with
  | none=>rw[ho,hz']at rv; exact rv.elim
  | some w'=>
   rw[ho,hz']at rv
   exact⟨w',H,I.tok _,rv,q1 w' ho⟩
 ·have ho:aK kvs k=none:=by
   cases ho:aK kvs k with
   | none=>rfl
   | some w'=>rw[ho,hn]at rv; exact rv.elim
  have he:∃ q,h'.get? a=some q:=let ⟨q,_,_,hq,_⟩:=dd'; ⟨q,hq⟩
  exact⟨y,_,lW I (by rw[e]; exact True.intro) hs he (vm hl' hd (rel.put k rr) dd'),rr,q2 ho⟩
end
section
variable{prog:Program}{w:World}{κ : Type}[DecidableEq κ]{knd:HeapKind prog w κ}{A:Around}{E:Value→Shared→Prop}{s:Shared}
end
section
variable{X:Cx}
end
end L2
namespace L2
open PySem PySem.Spec PyProof PyProof.Rows
section
variable{X:Cx}{pins:List (Addr × Obj)}{σ : List (Option V)}{H:Hp}{s:Shared}
end
section
variable{X:Cx}
end
open PySem.SeqAt
section
variable{X:Cx}
end
end L2
namespace PySem.SeqAt
open AutoSeq1 (wpAny_loadPart')
open MeetsSeq MeetsSeq2 MeetsSeq3
open SeqRoads2
section
variable{A:Around}{s:Shared}
end
end PySem.SeqAt
namespace L2
open PySem PySem.Spec PyProof PyProof.Rows PySem.SeqAt
section
variable{X:Cx}{pins:List (Addr × Obj)}{σ : St}{H:Hp}{s:Shared}
end
end L2
namespace PySem
section
variable{M:Program}{w:World}{A:Around}{R:Result→Shared→Prop}{I:Addr}{fp wr:List Addr}{n:Nat}{Pv:Nat→Value→Prop}{St:Nat→Heap→Prop}
end
end PySem
namespace PySem
section
variable{M:Program}{w:World}{A:Around}{E:Value→Shared→Prop}{s:Shared}
end
end PySem
namespace L2
open PySem PySem.Spec PyProof PyProof.Rows PySem.SeqAt
section
variable{X:Cx}
end
end L2
namespace L2
open PySem PySem.Spec PyProof PyProof.Rows
section
variable{X:Cx}
end
end L2
namespace L2
open PySem PySem.Spec PyProof.Rows
abbrev ie:=Sum Str (List (Option Int))
def tI(prog:Program)(w:World)(h:Heap):ie→Value→Prop
 | .inl u,v=>∃ t,v=Value.str u t
 | .inr l,v=>IsTupK (eI prog w) h l v
theorem BP(i j:Str):decide (i=j)=decide ((Sum.inl i:ie)=Sum.inl j):=by
 by_cases z:i=j
 ·subst z; simp
 ·have z':¬ ((Sum.inl i:ie)=Sum.inl j):=fun q=>z (Sum.inl.inj q)
  rw[decide_eq_false z',decide_eq_false z]
theorem B8(l l':List (Option Int)):decide (l=l')=decide ((Sum.inr l:ie)=Sum.inr l'):=by
 by_cases z:l=l'
 ·subst z; simp
 ·have z':¬ ((Sum.inr l:ie)=Sum.inr l'):=fun q=>z (Sum.inr.inj q)
  rw[decide_eq_false z',decide_eq_false z]
theorem B3(i:Str)(l:List (Option Int)):decide ((Sum.inl i:ie)=Sum.inr l)=false:=decide_eq_false (fun q=>nomatch q)
theorem Cc(i:Str)(l:List (Option Int)):decide ((Sum.inr l:ie)=Sum.inl i)=false:=decide_eq_false (fun q=>nomatch q)
theorem B7{prog:Program}{w:World}{A:Around}{E:Value→Shared→Prop}{s:Shared}{u v:Value}{Q:Bool→Shared→Prop}(hu:A.units+1<cLine):∀ (x y:ie),tI prog w s.heap x u→tI prog w s.heap y v→Q (decide (x=y)) s→
  wpAny (model prog w) A (PySem.eqBool u v) Q E s
 | .inl i,.inl j,⟨t,e1⟩,⟨t',e2⟩,h=>by
  subst e1 e2
  rw[← BP]at h
  exact wpAny_eqBool_str h
 | .inl i,.inr l,⟨t,e1⟩,hy,h=>by
  subst e1
  obtain⟨b,its,rfl,ht⟩:=IsTupK.tup (K:=eI prog w) hy
  rw[B3]at h
  exact SeqAt.EqAt.str_tuple i t ht (Nat.lt_of_succ_lt hu) prog w E Q h
 | .inr l,.inl j,hx,⟨t,e1⟩,h=>by
  subst e1
  obtain⟨b,its,rfl,ht⟩:=IsTupK.tup (K:=eI prog w) hx
  rw[Cc]at h
  exact SeqAt.EqAt.tuple_str j t ht (Nat.lt_of_succ_lt hu) prog w E Q h
 | .inr l,.inr l',hx,hy,h=>by
  rw[← B8]at h
  exact lS (K:=eI prog w) (rz hu) hx hy h
def Dw(prog:Program)(w:World):IK prog w ie where
 is:=tI prog w
 hash:=fun k=>match k with
  | .inl u=>hashStr w u
  | .inr l=>nS (eI prog w) l
 draws:=fun k=>match k with
  | .inl _=>1
  | .inr l=>g_ (eI prog w) l+1
 deep:=1
 inj:=fun {h v x y} a b=>by
  cases x with
  | inl i=>
   obtain⟨t,rfl⟩:=(show ∃ t,v=Value.str i t from a)
   cases y with
   | inl j=>obtain⟨t',e⟩:=(show ∃ t',Value.str i t=Value.str j t' from b); injection e with e1 _; rw[e1]
   | inr l=>obtain⟨a,_,e,_⟩:=IsTupK.tup (show IsTupK (eI prog w) h l _ from b); cases e
  | inr l=>
   cases y with
   | inl j=>
    obtain⟨t,rfl⟩:=(show ∃ t,v=Value.str j t from b)
    obtain⟨a,_,e,_⟩:=IsTupK.tup (show IsTupK (eI prog w) h l _ from a); cases e
   | inr l'=>rw[(uo (eI prog w)).inj (show IsTupK (eI prog w) h l v from a) (show IsTupK (eI prog w) h l' v from b)]
 keeps:=fun {h h' k v d o es ep} a ho hd hs=>by
  cases k with
  | inl i=>exact a
  | inr l=>exact(uo (eI prog w)).keeps (show IsTupK (eI prog w) h l v from a) ho hd hs
 pyHash:=fun {A E s k v Q} hu hk h=>by
  cases k with
  | inl i=>
   obtain⟨t,rfl⟩:=(show ∃ t,v=Value.str i t from hk)
   exact wpAny_pyHash_str h
  | inr l=>exact iR (K:=eI prog w) (rz hu) hk h
 eqBool:=fun {A E s x y u v Q} hu hx hy h=>B7 hu x y hx hy h
 quiet:=fun {A E s k v n Q} hk h=>by
  cases k with
  | inl i=>
   obtain⟨t,rfl⟩:=(show ∃ t,v=Value.str i t from hk)
   rw[eqIsQuiet_byValue _ rfl]
   exact wpAny_pure h
  | inr l=>exact im (K:=eI prog w) hk h
abbrev lC:=Str × List (Option Int)
def sk(k:lC):List ie:=[.inl k.1,.inr k.2]
def MS(P:Program)(w:World):HeapKind P w (List ie):=yg (Dw P w) (show 1≤7 by decide)
def BK(P:Program)(w:World)(a:Addr)(xs:List (List ie × Addr × Value)):HO:=
 .ext fun h=>∃ o es ep,h.get? a=some o∧o.ExactDict∧o.data = .dict es ep∧es.toList=xs.map (entryOfKey (MS P w))∧(xs.map (·.1)).Nodup
def Ep(H:Hp)(k:lC)(b:Addr):Prop:=∃ t,H b=some (.tup [.str k.1,.ref t])∧H t=some (.tup (k.2.map eF))
def EK(H:Hp)(p:lC × V)(q:List ie × Addr × Value):Prop:=q.1=sk p.1∧Ep H p.1 q.2.1∧RelV p.2 q.2.2
def DS(P:Program)(w:World)(H:Hp)(a:Addr)(kvs:List (lC × V)):Prop:=
 ∃ xs,H a=some (BK P w a xs)∧(a == sysModules)=false∧xs.length≤sizeLine∧Paired (EK H) kvs xs
section
variable{P:Program}{w:World}{H:Hp}
end
section
variable{X:Cx}{pins:List (Addr × Obj)}{σ : St}{H:Hp}{s:Shared}{a b:Addr}{k:lC}{kvs:List (lC × V)}
end
end L2
section
open PySem PySem.Spec PyProof.Rows L2
seal L2.PE L2.PT L2.PW L2.PA L2.PS L2.PSs L2.PG L2.PGs L2.PSet L2.PI L2.PIfs L2.OpR L2.UnR L2.CallR L2.IxR L2.MtR L2.SlR L2.PO L2.PPs
local macro_rules | `(tactic| walk_at "rd1")=>`(tactic| try simp only [rn,kD,jT,oV,rP,qF,p0,qG,nN,rp,pP,rQ,rh,rL,yb,vU,vM,oR,yJ,qK,uN,sy,uW,vt,ox,rS,qW,se,pN,uG,qV,oh,pQ,ng,mE,jO,oH,mH,vO,o_,kU,oo,rN,qQ,pE,p7,rF,oA,rs,oy,pB,rD,pS,vR,yz,mx,mh,gZ,mV,ml,qj,pA,mC,sg,yM,si,n_,qo,ou,oJ,mL,mz,pW,nV,kW,om,rm,rW,mn,mN,fJ,rJ,ms,rM,mP,oj,qd,oC,pF,p6,rb,qL,rX,sE,L2.start,List.map_cons,List.map_nil,List.length_cons,List.length_nil,List.replicate,List.cons_append,List.nil_append,List.append_nil,List.getElem?_cons_zero,List.getElem?_cons_succ,List.set_cons_zero,List.set_cons_succ,Nat.reduceAdd,Nat.reduceSub,Option.some.injEq,exists_eq_left',exists_eq_left,V.int.injEq,V.ref.injEq,V.str.injEq,V.bl.injEq,vV,rE,and_true,true_and,decide_eq_true_eq,Bool.not_true,Bool.not_false,if_true,Bool.false_eq_true,if_false,ite_true,ite_false])
local macro_rules | `(tactic| walk_at "nx")=>`(tactic| ((first | rw [lx] | (dsimp only; rw [lx])); walk_at "rd1"))
local macro_rules | `(tactic| walk_at "lk")=>`(tactic| repeat (first | exact Bl | exact Bp | rw [zn (by decide +kernel)]))
local macro_rules | `(tactic| walk_at "pf")=>`(tactic| repeat (first | rw [putF_hit] | rw [wR] | rw [v4 (by decide +kernel)]))
namespace K35
open PySem L2
abbrev cM:Stmt:=ax 3
theorem nA:aN ["kind"] ["kind"] (defScope cM):=⟨rfl,rfl,rfl,by decide +kernel,rfl,by decide +kernel,by decide +kernel⟩
theorem GL:ao (defScope cM) "kind" := Or.inl (by decide +kernel)
theorem GQ:(defScope cM).names.lookup ("CLOSERS" : Str)=some .globalImplicit:=by decide +kernel
abbrev de:Stmt:=ax 4
theorem sS:aN ["step"] ["step"] (defScope de):=⟨rfl,rfl,rfl,by decide +kernel,rfl,by decide +kernel,by decide +kernel⟩
theorem A6:ao (defScope de) "step" := Or.inl (by decide +kernel)
theorem FJ:(defScope de).names.lookup ("closers_of" : Str)=some .globalImplicit:=by decide +kernel
theorem Cw:(defScope de).names.lookup ("len" : Str)=some .globalImplicit:=by decide +kernel
abbrev cI:Stmt:=ax 5
theorem nW:aN ["step"] ["step"] (defScope cI):=⟨rfl,rfl,rfl,by decide +kernel,rfl,by decide +kernel,by decide +kernel⟩
theorem Cu:ao (defScope cI) "step" := Or.inl (by decide +kernel)
theorem Gw:(defScope cI).names.lookup ("head_of" : Str)=some .globalImplicit:=by decide +kernel
theorem Ga:(defScope cI).names.lookup ("len" : Str)=some .globalImplicit:=by decide +kernel
abbrev bo:Stmt:=ax 6
theorem sc_steps_within:aN ["program", "steps", "step", "block"] ["program"] (defScope bo):=⟨rfl,rfl,rfl,by decide +kernel,rfl,by decide +kernel,by decide +kernel⟩
theorem Fy:ao (defScope bo) "program" := Or.inl (by decide +kernel)
theorem zY:ao (defScope bo) "steps" := Or.inl (by decide +kernel)
theorem FH:aE (defScope bo) "steps" := Or.inl (by decide +kernel)
theorem Ci:ao (defScope bo) "step" := Or.inl (by decide +kernel)
theorem GE:aE (defScope bo) "step" := Or.inl (by decide +kernel)
theorem FT:ao (defScope bo) "block" := Or.inl (by decide +kernel)
theorem Fj:aE (defScope bo) "block" := Or.inl (by decide +kernel)
theorem Gi:(defScope bo).names.lookup ("blocks_of" : Str)=some .globalImplicit:=by decide +kernel
theorem Fs:(defScope bo).names.lookup ("steps_within" : Str)=some .globalImplicit:=by decide +kernel
abbrev bK:Stmt:=ax 7
theorem sc_names_in:aN ["steps", "names", "step", "part", "kind"] ["steps"] (defScope bK):=⟨rfl,rfl,rfl,by decide +kernel,rfl,by decide +kernel,by decide +kernel⟩
theorem FU:ao (defScope bK) "steps" := Or.inl (by decide +kernel)
theorem Ct:ao (defScope bK) "names" := Or.inl (by decide +kernel)
theorem F8:aE (defScope bK) "names" := Or.inl (by decide +kernel)
theorem Cv:ao (defScope bK) "step" := Or.inl (by decide +kernel)
theorem GR:aE (defScope bK) "step" := Or.inl (by decide +kernel)
theorem FF:ao (defScope bK) "part" := Or.inl (by decide +kernel)
theorem FN:aE (defScope bK) "part" := Or.inl (by decide +kernel)
theorem Fn:ao (defScope bK) "kind" := Or.inl (by decide +kernel)
theorem FM:aE (defScope bK) "kind" := Or.inl (by decide +kernel)
theorem Fq:(defScope bK).names.lookup ("PARTS" : Str)=some .globalImplicit:=by decide +kernel
theorem FR:(defScope bK).names.lookup ("list" : Str)=some .globalImplicit:=by decide +kernel
theorem F7:(defScope bK).names.lookup ("zip" : Str)=some .globalImplicit:=by decide +kernel
abbrev aS:Stmt:=ax 8
theorem sc_lines_of:aN ["program", "lines", "step", "block", "closer"] ["program"] (defScope aS):=⟨rfl,rfl,rfl,by decide +kernel,rfl,by decide +kernel,by decide +kernel⟩
theorem Fm:ao (defScope aS) "program" := Or.inl (by decide +kernel)
theorem yq:ao (defScope aS) "lines" := Or.inl (by decide +kernel)
theorem FA:aE (defScope aS) "lines" := Or.inl (by decide +kernel)
theorem Ap:ao (defScope aS) "step" := Or.inl (by decide +kernel)
theorem GB:aE (defScope aS) "step" := Or.inl (by decide +kernel)
theorem FV:ao (defScope aS) "block" := Or.inl (by decide +kernel)
theorem FW:aE (defScope aS) "block" := Or.inl (by decide +kernel)
theorem F9:ao (defScope aS) "closer" := Or.inl (by decide +kernel)
theorem F2:aE (defScope aS) "closer" := Or.inl (by decide +kernel)
theorem GO:(defScope aS).names.lookup ("blocks_of" : Str)=some .globalImplicit:=by decide +kernel
theorem Gx:(defScope aS).names.lookup ("closers_of" : Str)=some .globalImplicit:=by decide +kernel
theorem F6:(defScope aS).names.lookup ("head_of" : Str)=some .globalImplicit:=by decide +kernel
theorem GP:(defScope aS).names.lookup ("lines_of" : Str)=some .globalImplicit:=by decide +kernel
theorem GH:(defScope aS).names.lookup ("zip" : Str)=some .globalImplicit:=by decide +kernel
abbrev cV:Stmt:=ax 9
theorem qu:aN ["program"] ["program"] (defScope cV):=⟨rfl,rfl,rfl,by decide +kernel,rfl,by decide +kernel,by decide +kernel⟩
theorem GG:ao (defScope cV) "program" := Or.inl (by decide +kernel)
theorem Gv:(defScope cV).names.lookup ("names_in" : Str)=some .globalImplicit:=by decide +kernel
theorem Gq:(defScope cV).names.lookup ("steps_within" : Str)=some .globalImplicit:=by decide +kernel
abbrev aP:Stmt:=inClass (ax 11) 0
theorem gC:aN ["self", "head", "lines", "blocks"] ["self", "head", "lines", "blocks"] (defScope aP):=⟨rfl,rfl,rfl,by decide +kernel,rfl,by decide +kernel,by decide +kernel⟩
theorem ym:ao (defScope aP) "self" := Or.inl (by decide +kernel)
theorem CC:ao (defScope aP) "head" := Or.inl (by decide +kernel)
theorem Fo:ao (defScope aP) "lines" := Or.inl (by decide +kernel)
theorem FD:ao (defScope aP) "blocks" := Or.inl (by decide +kernel)
abbrev b_:Stmt:=ax 12
theorem lU:aN ["steps", "line"] ["steps", "line"] (defScope b_):=⟨rfl,rfl,rfl,by decide +kernel,rfl,by decide +kernel,by decide +kernel⟩
theorem CD:ao (defScope b_) "steps" := Or.inl (by decide +kernel)
theorem FZ:ao (defScope b_) "line" := Or.inl (by decide +kernel)
theorem Gz:(defScope b_).names.lookup ("len" : Str)=some .globalImplicit:=by decide +kernel
abbrev aC:Stmt:=ax 13
theorem sc_numbered_step:aN ["step", "line", "lines", "blocks", "block", "steps"] ["step", "line"] (defScope aC):=⟨rfl,rfl,rfl,by decide +kernel,rfl,by decide +kernel,by decide +kernel⟩
theorem Cr:ao (defScope aC) "step" := Or.inl (by decide +kernel)
theorem Gr:ao (defScope aC) "line" := Or.inl (by decide +kernel)
theorem yn:ao (defScope aC) "lines" := Or.inl (by decide +kernel)
theorem Gd:aE (defScope aC) "lines" := Or.inl (by decide +kernel)
theorem CA:ao (defScope aC) "blocks" := Or.inl (by decide +kernel)
theorem FY:aE (defScope aC) "blocks" := Or.inl (by decide +kernel)
theorem GF:ao (defScope aC) "block" := Or.inl (by decide +kernel)
theorem GM:aE (defScope aC) "block" := Or.inl (by decide +kernel)
theorem Co:ao (defScope aC) "steps" := Or.inl (by decide +kernel)
theorem Fu:aE (defScope aC) "steps" := Or.inl (by decide +kernel)
theorem GD:(defScope aC).names.lookup ("NumberedStep" : Str)=some .globalImplicit:=by decide +kernel
theorem Fx:(defScope aC).names.lookup ("blocks_of" : Str)=some .globalImplicit:=by decide +kernel
theorem Gg:(defScope aC).names.lookup ("head_of" : Str)=some .globalImplicit:=by decide +kernel
theorem FP:(defScope aC).names.lookup ("line_behind" : Str)=some .globalImplicit:=by decide +kernel
theorem FL:(defScope aC).names.lookup ("numbered_steps" : Str)=some .globalImplicit:=by decide +kernel
abbrev aZ:Stmt:=ax 14
theorem sc_numbered_steps:aN ["steps", "line", "numbered", "step"] ["steps", "line"] (defScope aZ):=⟨rfl,rfl,rfl,by decide +kernel,rfl,by decide +kernel,by decide +kernel⟩
theorem GU:ao (defScope aZ) "steps" := Or.inl (by decide +kernel)
theorem Ft:ao (defScope aZ) "line" := Or.inl (by decide +kernel)
theorem A1:ao (defScope aZ) "numbered" := Or.inl (by decide +kernel)
theorem Fi:aE (defScope aZ) "numbered" := Or.inl (by decide +kernel)
theorem Gs:ao (defScope aZ) "step" := Or.inl (by decide +kernel)
theorem Gk:aE (defScope aZ) "step" := Or.inl (by decide +kernel)
theorem Fp:(defScope aZ).names.lookup ("line_behind" : Str)=some .globalImplicit:=by decide +kernel
theorem Gn:(defScope aZ).names.lookup ("numbered_step" : Str)=some .globalImplicit:=by decide +kernel
abbrev bF:Stmt:=ax 16
theorem nu:aN ["program"] ["program"] (defScope bF):=⟨rfl,rfl,rfl,by decide +kernel,rfl,by decide +kernel,by decide +kernel⟩
theorem Gy:ao (defScope bF) "program" := Or.inl (by decide +kernel)
theorem FE:(defScope bF).names.lookup ("enumerate" : Str)=some .globalImplicit:=by decide +kernel
theorem Gh:(defScope bF).names.lookup ("lines_of" : Str)=some .globalImplicit:=by decide +kernel
abbrev bR:Stmt:=ax 17
theorem sc_slots_of:aN ["program", "slots", "slot", "holder"] ["program"] (defScope bR):=⟨rfl,rfl,rfl,by decide +kernel,rfl,by decide +kernel,by decide +kernel⟩
theorem CF:ao (defScope bR) "program" := Or.inl (by decide +kernel)
theorem A2:ao (defScope bR) "slots" := Or.inl (by decide +kernel)
theorem GC:aE (defScope bR) "slots" := Or.inl (by decide +kernel)
theorem En:ao (defScope bR) "slot" := Or.inl (by decide +kernel)
theorem GI:aE (defScope bR) "slot" := Or.inl (by decide +kernel)
theorem DR:ao (defScope bR) "holder" := Or.inl (by decide +kernel)
theorem Gf:aE (defScope bR) "holder" := Or.inl (by decide +kernel)
theorem GA:(defScope bR).names.lookup ("enumerate" : Str)=some .globalImplicit:=by decide +kernel
theorem FG:(defScope bR).names.lookup ("lend_lines" : Str)=some .globalImplicit:=by decide +kernel
theorem GS:(defScope bR).names.lookup ("names_of" : Str)=some .globalImplicit:=by decide +kernel
abbrev bw:Stmt:=ax 18
theorem sc_simple_row:aN ["step", "slots", "line"] ["step", "slots"] (defScope bw):=⟨rfl,rfl,rfl,by decide +kernel,rfl,by decide +kernel,by decide +kernel⟩
theorem ly:ao (defScope bw) "step" := Or.inl (by decide +kernel)
theorem C1:ao (defScope bw) "slots" := Or.inr (Or.inl (by decide +kernel))
theorem Al:ao (defScope bw) "line" := Or.inl (by decide +kernel)
theorem F1:aE (defScope bw) "line" := Or.inl (by decide +kernel)
theorem Gb:(defScope bw).names.lookup ("tuple" : Str)=some .globalImplicit:=by decide +kernel
abbrev aF:Stmt:=ax 19
theorem sc_lend_rows:aN ["step", "at", "slots", "turned", "line", "back", "giver", "taker", "lent", "ahead", "within"] ["step", "at", "slots", "turned"] (defScope aF):=⟨rfl,rfl,rfl,by decide +kernel,rfl,by decide +kernel,by decide +kernel⟩
theorem nY:ao (defScope aF) "step" := Or.inl (by decide +kernel)
theorem Dx:ao (defScope aF) "at" := Or.inl (by decide +kernel)
theorem uk:ao (defScope aF) "slots" := Or.inl (by decide +kernel)
theorem CJ:ao (defScope aF) "turned" := Or.inl (by decide +kernel)
theorem tV:ao (defScope aF) "line" := Or.inl (by decide +kernel)
theorem GN:aE (defScope aF) "line" := Or.inl (by decide +kernel)
theorem xf:ao (defScope aF) "back" := Or.inl (by decide +kernel)
theorem Fk:aE (defScope aF) "back" := Or.inl (by decide +kernel)
theorem Fe:ao (defScope aF) "giver" := Or.inl (by decide +kernel)
theorem F_:aE (defScope aF) "giver" := Or.inl (by decide +kernel)
theorem Ab:ao (defScope aF) "taker" := Or.inl (by decide +kernel)
theorem Gc:aE (defScope aF) "taker" := Or.inl (by decide +kernel)
theorem oM:ao (defScope aF) "lent" := Or.inl (by decide +kernel)
theorem F0:aE (defScope aF) "lent" := Or.inl (by decide +kernel)
theorem A9:ao (defScope aF) "ahead" := Or.inl (by decide +kernel)
theorem FK:aE (defScope aF) "ahead" := Or.inl (by decide +kernel)
theorem D8:ao (defScope aF) "within" := Or.inl (by decide +kernel)
theorem FS:aE (defScope aF) "within" := Or.inl (by decide +kernel)
theorem Gj:(defScope aF).names.lookup ("len" : Str)=some .globalImplicit:=by decide +kernel
theorem Gp:(defScope aF).names.lookup ("rows_of" : Str)=some .globalImplicit:=by decide +kernel
abbrev bA:Stmt:=ax 20
theorem sc_if_rows:aN ["step", "at", "slots", "turned", "more", "jump", "rest", "behind", "test"] ["step", "at", "slots", "turned"] (defScope bA):=⟨rfl,rfl,rfl,by decide +kernel,rfl,by decide +kernel,by decide +kernel⟩
theorem oG:ao (defScope bA) "step" := Or.inl (by decide +kernel)
theorem zX:ao (defScope bA) "at" := Or.inl (by decide +kernel)
theorem AN:ao (defScope bA) "slots" := Or.inl (by decide +kernel)
theorem AZ:ao (defScope bA) "turned" := Or.inl (by decide +kernel)
theorem zN:ao (defScope bA) "more" := Or.inl (by decide +kernel)
theorem Ge:aE (defScope bA) "more" := Or.inl (by decide +kernel)
theorem wx:ao (defScope bA) "jump" := Or.inl (by decide +kernel)
theorem FQ:aE (defScope bA) "jump" := Or.inl (by decide +kernel)
theorem A0:ao (defScope bA) "rest" := Or.inl (by decide +kernel)
theorem F4:aE (defScope bA) "rest" := Or.inl (by decide +kernel)
theorem D1:ao (defScope bA) "behind" := Or.inl (by decide +kernel)
theorem FC:aE (defScope bA) "behind" := Or.inl (by decide +kernel)
theorem Fh:ao (defScope bA) "test" := Or.inl (by decide +kernel)
theorem F3:aE (defScope bA) "test" := Or.inl (by decide +kernel)
theorem Cq:(defScope bA).names.lookup ("len" : Str)=some .globalImplicit:=by decide +kernel
theorem Ck:(defScope bA).names.lookup ("rows_of" : Str)=some .globalImplicit:=by decide +kernel
abbrev bN:Stmt:=ax 21
theorem sc_loop_rows:aN ["step", "at", "slots", "within", "behind"] ["step", "at", "slots"] (defScope bN):=⟨rfl,rfl,rfl,by decide +kernel,rfl,by decide +kernel,by decide +kernel⟩
theorem tT:ao (defScope bN) "step" := Or.inl (by decide +kernel)
theorem xI:ao (defScope bN) "at" := Or.inl (by decide +kernel)
theorem EA:ao (defScope bN) "slots" := Or.inl (by decide +kernel)
theorem AG:ao (defScope bN) "within" := Or.inl (by decide +kernel)
theorem FI:aE (defScope bN) "within" := Or.inl (by decide +kernel)
theorem Em:ao (defScope bN) "behind" := Or.inl (by decide +kernel)
theorem F5:aE (defScope bN) "behind" := Or.inl (by decide +kernel)
theorem GT:(defScope bN).names.lookup ("len" : Str)=some .globalImplicit:=by decide +kernel
theorem Ec:(defScope bN).names.lookup ("rows_of" : Str)=some .globalImplicit:=by decide +kernel
abbrev aV:Stmt:=ax 22
theorem sc_while_rows:aN ["step", "at", "slots", "turned", "first", "loop", "behind"] ["step", "at", "slots", "turned"] (defScope aV):=⟨rfl,rfl,rfl,by decide +kernel,rfl,by decide +kernel,by decide +kernel⟩
theorem oN:ao (defScope aV) "step" := Or.inl (by decide +kernel)
theorem ue:ao (defScope aV) "at" := Or.inl (by decide +kernel)
theorem wG:ao (defScope aV) "slots" := Or.inl (by decide +kernel)
theorem ES:ao (defScope aV) "turned" := Or.inl (by decide +kernel)
theorem x3:ao (defScope aV) "first" := Or.inl (by decide +kernel)
theorem Fv:aE (defScope aV) "first" := Or.inl (by decide +kernel)
theorem zF:ao (defScope aV) "loop" := Or.inl (by decide +kernel)
theorem CW:aE (defScope aV) "loop" := Or.inl (by decide +kernel)
theorem EF:ao (defScope aV) "behind" := Or.inl (by decide +kernel)
theorem CY:aE (defScope aV) "behind" := Or.inl (by decide +kernel)
theorem wc:(defScope aV).names.lookup ("len" : Str)=some .globalImplicit:=by decide +kernel
theorem zW:(defScope aV).names.lookup ("loop_rows" : Str)=some .globalImplicit:=by decide +kernel
theorem C3:(defScope aV).names.lookup ("rows_of" : Str)=some .globalImplicit:=by decide +kernel
abbrev bJ:Stmt:=ax 23
theorem sc_rows_of:aN ["steps", "at", "slots", "turned", "rows", "step", "place"] ["steps", "at", "slots", "turned"] (defScope bJ):=⟨rfl,rfl,rfl,by decide +kernel,rfl,by decide +kernel,by decide +kernel⟩
theorem C8:ao (defScope bJ) "steps" := Or.inl (by decide +kernel)
theorem D9:ao (defScope bJ) "at" := Or.inl (by decide +kernel)
theorem sW:ao (defScope bJ) "slots" := Or.inl (by decide +kernel)
theorem wB:ao (defScope bJ) "turned" := Or.inl (by decide +kernel)
theorem lK:ao (defScope bJ) "rows" := Or.inl (by decide +kernel)
theorem Do:aE (defScope bJ) "rows" := Or.inl (by decide +kernel)
theorem kf:ao (defScope bJ) "step" := Or.inl (by decide +kernel)
theorem D6:aE (defScope bJ) "step" := Or.inl (by decide +kernel)
theorem xD:ao (defScope bJ) "place" := Or.inl (by decide +kernel)
theorem CV:aE (defScope bJ) "place" := Or.inl (by decide +kernel)
theorem CH:(defScope bJ).names.lookup ("if_rows" : Str)=some .globalImplicit:=by decide +kernel
theorem DT:(defScope bJ).names.lookup ("len" : Str)=some .globalImplicit:=by decide +kernel
theorem Dj:(defScope bJ).names.lookup ("lend_rows" : Str)=some .globalImplicit:=by decide +kernel
theorem CG:(defScope bJ).names.lookup ("simple_row" : Str)=some .globalImplicit:=by decide +kernel
theorem CK:(defScope bJ).names.lookup ("while_rows" : Str)=some .globalImplicit:=by decide +kernel
abbrev bB:Stmt:=ax 24
theorem sc_rows_and_end:aN ["program", "turned", "steps"] ["program", "turned"] (defScope bB):=⟨rfl,rfl,rfl,by decide +kernel,rfl,by decide +kernel,by decide +kernel⟩
theorem Bv:ao (defScope bB) "program" := Or.inl (by decide +kernel)
theorem DQ:ao (defScope bB) "turned" := Or.inl (by decide +kernel)
theorem Ah:ao (defScope bB) "steps" := Or.inl (by decide +kernel)
theorem DZ:aE (defScope bB) "steps" := Or.inl (by decide +kernel)
theorem E5:(defScope bB).names.lookup ("line_behind" : Str)=some .globalImplicit:=by decide +kernel
theorem Dp:(defScope bB).names.lookup ("numbered_steps" : Str)=some .globalImplicit:=by decide +kernel
theorem Ed:(defScope bB).names.lookup ("rows_of" : Str)=some .globalImplicit:=by decide +kernel
theorem DK:(defScope bB).names.lookup ("slots_of" : Str)=some .globalImplicit:=by decide +kernel
abbrev dv:Stmt:=ax 25
theorem uc:aN ["program"] ["program"] (defScope dv):=⟨rfl,rfl,rfl,by decide +kernel,rfl,by decide +kernel,by decide +kernel⟩
theorem Dh:ao (defScope dv) "program" := Or.inl (by decide +kernel)
theorem EL:(defScope dv).names.lookup ("rows_and_end" : Str)=some .globalImplicit:=by decide +kernel
abbrev b9:Stmt:=ax 27
theorem lO:aN ["_law_script", "_law_k"] ["_law_script", "_law_k"] (defScope b9):=⟨rfl,rfl,rfl,by decide +kernel,rfl,by decide +kernel,by decide +kernel⟩
theorem A3:ao (defScope b9) "_law_script" := Or.inl (by decide +kernel)
theorem Az:ao (defScope b9) "_law_k" := Or.inl (by decide +kernel)
theorem D5:(defScope b9).names.lookup ("len" : Str)=some .globalImplicit:=by decide +kernel
abbrev ay:Stmt:=ax 28
theorem sc_law_names:aN ["_law_cell", "_law_letters", "_law_base", "_law_many", "_law_size", "_law_at", "_law_found", "_law_k", "_law_sign"] ["_law_cell"] (defScope ay):=⟨rfl,rfl,rfl,by decide +kernel,rfl,by decide +kernel,by decide +kernel⟩
theorem ma:ao (defScope ay) "_law_cell" := Or.inr (Or.inl (by decide +kernel))
theorem EG:ao (defScope ay) "_law_letters" := Or.inr (Or.inl (by decide +kernel))
theorem DB:aE (defScope ay) "_law_letters" := Or.inr (by decide +kernel)
theorem lv:ao (defScope ay) "_law_base" := Or.inl (by decide +kernel)
theorem ER:aE (defScope ay) "_law_base" := Or.inl (by decide +kernel)
theorem xY:ao (defScope ay) "_law_many" := Or.inl (by decide +kernel)
theorem Dv:aE (defScope ay) "_law_many" := Or.inl (by decide +kernel)
theorem A7:ao (defScope ay) "_law_size" := Or.inl (by decide +kernel)
theorem D3:aE (defScope ay) "_law_size" := Or.inl (by decide +kernel)
theorem Bh:ao (defScope ay) "_law_at" := Or.inl (by decide +kernel)
theorem Ex:aE (defScope ay) "_law_at" := Or.inl (by decide +kernel)
theorem Bq:ao (defScope ay) "_law_found" := Or.inl (by decide +kernel)
theorem Dk:aE (defScope ay) "_law_found" := Or.inl (by decide +kernel)
theorem De:ao (defScope ay) "_law_k" := Or.inl (by decide +kernel)
theorem C5:aE (defScope ay) "_law_k" := Or.inl (by decide +kernel)
theorem EB:ao (defScope ay) "_law_sign" := Or.inl (by decide +kernel)
theorem DP:aE (defScope ay) "_law_sign" := Or.inl (by decide +kernel)
theorem Ba:(defScope ay).names.lookup ("range" : Str)=some .globalImplicit:=by decide +kernel
abbrev cJ:Stmt:=ax 29
theorem sc_law_bound:aN ["_law_cell", "_law_way"] ["_law_cell"] (defScope cJ):=⟨rfl,rfl,rfl,by decide +kernel,rfl,by decide +kernel,by decide +kernel⟩
theorem sH:ao (defScope cJ) "_law_cell" := Or.inl (by decide +kernel)
theorem BJ:ao (defScope cJ) "_law_way" := Or.inl (by decide +kernel)
theorem D2:aE (defScope cJ) "_law_way" := Or.inl (by decide +kernel)
abbrev bX:Stmt:=ax 30
theorem sc_law_step:aN ["_law_cell", "_law_x", "_law_y", "_law_names_here", "_law_kind", "_law_words"] ["_law_cell", "_law_x", "_law_y", "_law_names_here"] (defScope bX):=⟨rfl,rfl,rfl,by decide +kernel,rfl,by decide +kernel,by decide +kernel⟩
theorem AX:ao (defScope bX) "_law_cell" := Or.inl (by decide +kernel)
theorem oO:ao (defScope bX) "_law_x" := Or.inl (by decide +kernel)
theorem BF:ao (defScope bX) "_law_y" := Or.inl (by decide +kernel)
theorem Dg:ao (defScope bX) "_law_names_here" := Or.inl (by decide +kernel)
theorem sG:ao (defScope bX) "_law_kind" := Or.inl (by decide +kernel)
theorem C9:aE (defScope bX) "_law_kind" := Or.inl (by decide +kernel)
theorem AI:ao (defScope bX) "_law_words" := Or.inl (by decide +kernel)
theorem E2:aE (defScope bX) "_law_words" := Or.inl (by decide +kernel)
theorem DA:(defScope bX).names.lookup ("len" : Str)=some .globalImplicit:=by decide +kernel
abbrev bj:Stmt:=ax 31
theorem sc_law_begun:aN ["_law_here", "_law_pile", "_law_lines", "_law_cell", "_law_x", "_law_y", "_law_inner", "_law_bound_here", "_law_others"] ["_law_here", "_law_pile", "_law_lines", "_law_cell", "_law_x", "_law_y"] (defScope bj):=⟨rfl,rfl,rfl,by decide +kernel,rfl,by decide +kernel,by decide +kernel⟩
theorem lB:ao (defScope bj) "_law_here" := Or.inl (by decide +kernel)
theorem um:ao (defScope bj) "_law_pile" := Or.inl (by decide +kernel)
theorem x4:ao (defScope bj) "_law_lines" := Or.inl (by decide +kernel)
theorem xL:ao (defScope bj) "_law_cell" := Or.inl (by decide +kernel)
theorem Bc:ao (defScope bj) "_law_x" := Or.inl (by decide +kernel)
theorem zI:ao (defScope bj) "_law_y" := Or.inl (by decide +kernel)
theorem lA:ao (defScope bj) "_law_inner" := Or.inl (by decide +kernel)
theorem DM:aE (defScope bj) "_law_inner" := Or.inl (by decide +kernel)
theorem tY:ao (defScope bj) "_law_bound_here" := Or.inl (by decide +kernel)
theorem E9:aE (defScope bj) "_law_bound_here" := Or.inl (by decide +kernel)
theorem A_:ao (defScope bj) "_law_others" := Or.inl (by decide +kernel)
theorem DE:aE (defScope bj) "_law_others" := Or.inl (by decide +kernel)
theorem Da:(defScope bj).names.lookup ("_law_bound" : Str)=some .globalImplicit:=by decide +kernel
theorem Ac:(defScope bj).names.lookup ("str" : Str)=some .globalImplicit:=by decide +kernel
abbrev am:Stmt:=ax 32
theorem sc_law_program:aN ["_law_cells", "_law_names_here", "_law_program_here", "_law_lines", "_law_pile", "_law_here", "_law_left", "_law_lends", "_law_cell", "_law_kind", "_law_x", "_law_y", "_law_deep", "_law_line", "_law_there"] ["_law_cells", "_law_names_here"] (defScope am):=⟨rfl,rfl,rfl,by decide +kernel,rfl,by decide +kernel,by decide +kernel⟩
theorem Dm:ao (defScope am) "_law_cells" := Or.inl (by decide +kernel)
theorem qc:ao (defScope am) "_law_names_here" := Or.inl (by decide +kernel)
theorem AQ:ao (defScope am) "_law_program_here" := Or.inl (by decide +kernel)
theorem E1:aE (defScope am) "_law_program_here" := Or.inl (by decide +kernel)
theorem pV:ao (defScope am) "_law_lines" := Or.inl (by decide +kernel)
theorem CP:aE (defScope am) "_law_lines" := Or.inl (by decide +kernel)
theorem nM:ao (defScope am) "_law_pile" := Or.inl (by decide +kernel)
theorem CO:aE (defScope am) "_law_pile" := Or.inl (by decide +kernel)
theorem xi:ao (defScope am) "_law_here" := Or.inl (by decide +kernel)
theorem x_:aE (defScope am) "_law_here" := Or.inl (by decide +kernel)
theorem sP:ao (defScope am) "_law_left" := Or.inl (by decide +kernel)
theorem wz:aE (defScope am) "_law_left" := Or.inl (by decide +kernel)
theorem zG:ao (defScope am) "_law_lends" := Or.inl (by decide +kernel)
theorem Br:aE (defScope am) "_law_lends" := Or.inl (by decide +kernel)
theorem oX:ao (defScope am) "_law_cell" := Or.inl (by decide +kernel)
theorem Ej:aE (defScope am) "_law_cell" := Or.inl (by decide +kernel)
theorem lw:ao (defScope am) "_law_kind" := Or.inl (by decide +kernel)
theorem D_:aE (defScope am) "_law_kind" := Or.inl (by decide +kernel)
theorem Bf:ao (defScope am) "_law_x" := Or.inl (by decide +kernel)
theorem DC:aE (defScope am) "_law_x" := Or.inl (by decide +kernel)
theorem A5:ao (defScope am) "_law_y" := Or.inl (by decide +kernel)
theorem Ez:aE (defScope am) "_law_y" := Or.inl (by decide +kernel)
theorem Dr:ao (defScope am) "_law_deep" := Or.inl (by decide +kernel)
theorem Fd:aE (defScope am) "_law_deep" := Or.inl (by decide +kernel)
theorem BE:ao (defScope am) "_law_line" := Or.inl (by decide +kernel)
theorem BA:aE (defScope am) "_law_line" := Or.inl (by decide +kernel)
theorem Dc:aE (defScope am) "_law_there" := Or.inl (by decide +kernel)
theorem C2:(defScope am).names.lookup ("_law_begun" : Str)=some .globalImplicit:=by decide +kernel
theorem E_:(defScope am).names.lookup ("_law_step" : Str)=some .globalImplicit:=by decide +kernel
theorem AS:(defScope am).names.lookup ("int" : Str)=some .globalImplicit:=by decide +kernel
theorem wo:(defScope am).names.lookup ("len" : Str)=some .globalImplicit:=by decide +kernel
theorem EJ:(defScope am).names.lookup ("reversed" : Str)=some .globalImplicit:=by decide +kernel
abbrev aJ:Stmt:=ax 33
theorem sc_law_partners:aN ["_law_lines", "_law_found", "_law_pile", "_law_at", "_law_word", "_law_head"] ["_law_lines"] (defScope aJ):=⟨rfl,rfl,rfl,by decide +kernel,rfl,by decide +kernel,by decide +kernel⟩
theorem n6:ao (defScope aJ) "_law_lines" := Or.inl (by decide +kernel)
theorem x8:ao (defScope aJ) "_law_found" := Or.inl (by decide +kernel)
theorem Fg:aE (defScope aJ) "_law_found" := Or.inl (by decide +kernel)
theorem Bs:ao (defScope aJ) "_law_pile" := Or.inl (by decide +kernel)
theorem El:aE (defScope aJ) "_law_pile" := Or.inl (by decide +kernel)
theorem kc:ao (defScope aJ) "_law_at" := Or.inl (by decide +kernel)
theorem DF:aE (defScope aJ) "_law_at" := Or.inl (by decide +kernel)
theorem Am:ao (defScope aJ) "_law_word" := Or.inl (by decide +kernel)
theorem Dd:aE (defScope aJ) "_law_word" := Or.inl (by decide +kernel)
theorem Ai:ao (defScope aJ) "_law_head" := Or.inl (by decide +kernel)
theorem C6:aE (defScope aJ) "_law_head" := Or.inl (by decide +kernel)
theorem wb:(defScope aJ).names.lookup ("len" : Str)=some .globalImplicit:=by decide +kernel
theorem Ee:(defScope aJ).names.lookup ("range" : Str)=some .globalImplicit:=by decide +kernel
abbrev bL:Stmt:=ax 34
theorem sc_law_slots:aN ["_law_lines", "_law_slots_here", "_law_line", "_law_words", "_law_name"] ["_law_lines"] (defScope bL):=⟨rfl,rfl,rfl,by decide +kernel,rfl,by decide +kernel,by decide +kernel⟩
theorem Du:ao (defScope bL) "_law_lines" := Or.inl (by decide +kernel)
theorem wW:ao (defScope bL) "_law_slots_here" := Or.inl (by decide +kernel)
theorem Eb:aE (defScope bL) "_law_slots_here" := Or.inl (by decide +kernel)
theorem CU:ao (defScope bL) "_law_line" := Or.inl (by decide +kernel)
theorem CI:aE (defScope bL) "_law_line" := Or.inl (by decide +kernel)
theorem tR:ao (defScope bL) "_law_words" := Or.inl (by decide +kernel)
theorem Be:aE (defScope bL) "_law_words" := Or.inl (by decide +kernel)
theorem EY:ao (defScope bL) "_law_name" := Or.inl (by decide +kernel)
theorem Eg:aE (defScope bL) "_law_name" := Or.inl (by decide +kernel)
theorem E6:(defScope bL).names.lookup ("len" : Str)=some .globalImplicit:=by decide +kernel
abbrev bS:Stmt:=ax 35
theorem sc_law_firsts:aN ["_law_lines", "_law_firsts_here", "_law_line", "_law_many"] ["_law_lines"] (defScope bS):=⟨rfl,rfl,rfl,by decide +kernel,rfl,by decide +kernel,by decide +kernel⟩
theorem Ef:ao (defScope bS) "_law_lines" := Or.inl (by decide +kernel)
theorem wL:ao (defScope bS) "_law_firsts_here" := Or.inl (by decide +kernel)
theorem EV:aE (defScope bS) "_law_firsts_here" := Or.inl (by decide +kernel)
theorem wO:ao (defScope bS) "_law_line" := Or.inl (by decide +kernel)
theorem Dz:aE (defScope bS) "_law_line" := Or.inl (by decide +kernel)
theorem CT:ao (defScope bS) "_law_many" := Or.inl (by decide +kernel)
theorem wn:aE (defScope bS) "_law_many" := Or.inl (by decide +kernel)
abbrev aR:Stmt:=ax 36
theorem sc_law_rows:aN ["_law_at", "_law_lines", "_law_partner", "_law_firsts_here", "_law_slots_here", "_law_lent", "_law_words", "_law_one", "_law_other"] ["_law_at", "_law_lines", "_law_partner", "_law_firsts_here", "_law_slots_here", "_law_lent"] (defScope aR):=⟨rfl,rfl,rfl,by decide +kernel,rfl,by decide +kernel,by decide +kernel⟩
theorem eW:ao (defScope aR) "_law_at" := Or.inl (by decide +kernel)
theorem AM:ao (defScope aR) "_law_lines" := Or.inl (by decide +kernel)
theorem tH:ao (defScope aR) "_law_partner" := Or.inl (by decide +kernel)
theorem wX:ao (defScope aR) "_law_firsts_here" := Or.inl (by decide +kernel)
theorem s0:ao (defScope aR) "_law_slots_here" := Or.inr (Or.inl (by decide +kernel))
theorem pd:ao (defScope aR) "_law_lent" := Or.inl (by decide +kernel)
theorem fH:ao (defScope aR) "_law_words" := Or.inl (by decide +kernel)
theorem DG:aE (defScope aR) "_law_words" := Or.inl (by decide +kernel)
theorem EU:ao (defScope aR) "_law_one" := Or.inl (by decide +kernel)
theorem EZ:aE (defScope aR) "_law_one" := Or.inl (by decide +kernel)
theorem DU:ao (defScope aR) "_law_other" := Or.inl (by decide +kernel)
theorem DV:aE (defScope aR) "_law_other" := Or.inl (by decide +kernel)
theorem E3:(defScope aR).names.lookup ("int" : Str)=some .globalImplicit:=by decide +kernel
theorem EM:(defScope aR).names.lookup ("tuple" : Str)=some .globalImplicit:=by decide +kernel
abbrev aH:Stmt:=ax 37
theorem sc_law_due:aN ["_law_lines", "_law_partner", "_law_firsts_here", "_law_slots_here", "_law_lends", "_law_due_here", "_law_at", "_law_lent"] ["_law_lines"] (defScope aH):=⟨rfl,rfl,rfl,by decide +kernel,rfl,by decide +kernel,by decide +kernel⟩
theorem jm:ao (defScope aH) "_law_lines" := Or.inr (Or.inl (by decide +kernel))
theorem BC:ao (defScope aH) "_law_partner" := Or.inl (by decide +kernel)
theorem CQ:aE (defScope aH) "_law_partner" := Or.inl (by decide +kernel)
theorem EO:ao (defScope aH) "_law_firsts_here" := Or.inl (by decide +kernel)
theorem Di:aE (defScope aH) "_law_firsts_here" := Or.inl (by decide +kernel)
theorem xb:ao (defScope aH) "_law_slots_here" := Or.inl (by decide +kernel)
theorem Dt:aE (defScope aH) "_law_slots_here" := Or.inl (by decide +kernel)
theorem wa:ao (defScope aH) "_law_lends" := Or.inl (by decide +kernel)
theorem Fz:(defScope aH).names.lookup ("_law_lends" : Str)=some .local:=by decide +kernel
theorem z_:ao (defScope aH) "_law_due_here" := Or.inl (by decide +kernel)
theorem EE:aE (defScope aH) "_law_due_here" := Or.inl (by decide +kernel)
theorem pR:ao (defScope aH) "_law_at" := Or.inl (by decide +kernel)
theorem E8:aE (defScope aH) "_law_at" := Or.inl (by decide +kernel)
theorem CS:ao (defScope aH) "_law_lent" := Or.inl (by decide +kernel)
theorem we:aE (defScope aH) "_law_lent" := Or.inl (by decide +kernel)
theorem CM:(defScope aH).names.lookup ("_law_firsts" : Str)=some .globalImplicit:=by decide +kernel
theorem DN:(defScope aH).names.lookup ("_law_partners" : Str)=some .globalImplicit:=by decide +kernel
theorem Eh:(defScope aH).names.lookup ("_law_rows" : Str)=some .globalImplicit:=by decide +kernel
theorem C7:(defScope aH).names.lookup ("_law_slots" : Str)=some .globalImplicit:=by decide +kernel
theorem nZ:(defScope aH).names.lookup ("len" : Str)=some .globalImplicit:=by decide +kernel
theorem Ar:(defScope aH).names.lookup ("range" : Str)=some .globalImplicit:=by decide +kernel
abbrev bP:Stmt:=ax 38
theorem sc_law_row:aN ["_law_found", "_law_due_here", "_law_one", "_law_other"] ["_law_found", "_law_due_here"] (defScope bP):=⟨rfl,rfl,rfl,by decide +kernel,rfl,by decide +kernel,by decide +kernel⟩
theorem wJ:ao (defScope bP) "_law_found" := Or.inl (by decide +kernel)
theorem AT:ao (defScope bP) "_law_due_here" := Or.inl (by decide +kernel)
theorem pe:ao (defScope bP) "_law_one" := Or.inl (by decide +kernel)
theorem Ey:aE (defScope bP) "_law_one" := Or.inl (by decide +kernel)
theorem zV:ao (defScope bP) "_law_other" := Or.inl (by decide +kernel)
theorem Ew:aE (defScope bP) "_law_other" := Or.inl (by decide +kernel)
theorem D4:(defScope bP).names.lookup ("bool" : Str)=some .globalImplicit:=by decide +kernel
theorem EX:(defScope bP).names.lookup ("int" : Str)=some .globalImplicit:=by decide +kernel
theorem lu:(defScope bP).names.lookup ("isinstance" : Str)=some .globalImplicit:=by decide +kernel
theorem A4:(defScope bP).names.lookup ("len" : Str)=some .globalImplicit:=by decide +kernel
theorem xO:(defScope bP).names.lookup ("str" : Str)=some .globalImplicit:=by decide +kernel
theorem E4:(defScope bP).names.lookup ("tuple" : Str)=some .globalImplicit:=by decide +kernel
theorem ET:(defScope bP).names.lookup ("zip" : Str)=some .globalImplicit:=by decide +kernel
abbrev bH:Stmt:=ax 39
theorem sc_law_right:aN ["_law_found", "_law_due_here", "_law_one", "_law_other"] ["_law_found", "_law_due_here"] (defScope bH):=⟨rfl,rfl,rfl,by decide +kernel,rfl,by decide +kernel,by decide +kernel⟩
theorem wF:ao (defScope bH) "_law_found" := Or.inl (by decide +kernel)
theorem zP:ao (defScope bH) "_law_due_here" := Or.inl (by decide +kernel)
theorem EQ:ao (defScope bH) "_law_one" := Or.inl (by decide +kernel)
theorem DJ:aE (defScope bH) "_law_one" := Or.inl (by decide +kernel)
theorem Eu:ao (defScope bH) "_law_other" := Or.inl (by decide +kernel)
theorem Er:aE (defScope bH) "_law_other" := Or.inl (by decide +kernel)
theorem Ff:(defScope bH).names.lookup ("_law_row" : Str)=some .globalImplicit:=by decide +kernel
theorem Dq:(defScope bH).names.lookup ("isinstance" : Str)=some .globalImplicit:=by decide +kernel
theorem Aj:(defScope bH).names.lookup ("len" : Str)=some .globalImplicit:=by decide +kernel
theorem E7:(defScope bH).names.lookup ("list" : Str)=some .globalImplicit:=by decide +kernel
theorem Dl:(defScope bH).names.lookup ("zip" : Str)=some .globalImplicit:=by decide +kernel
abbrev cw:Stmt:=ax 40
theorem sc_law:aN ["_law_script", "_law_names_here", "_law_program_here", "_law_lines", "_law_due_here", "_law_found"] ["_law_script"] (defScope cw):=⟨rfl,rfl,rfl,by decide +kernel,rfl,by decide +kernel,by decide +kernel⟩
theorem wK:ao (defScope cw) "_law_script" := Or.inl (by decide +kernel)
theorem Bo:ao (defScope cw) "_law_names_here" := Or.inl (by decide +kernel)
theorem Ds:aE (defScope cw) "_law_names_here" := Or.inl (by decide +kernel)
theorem x5:ao (defScope cw) "_law_program_here" := Or.inl (by decide +kernel)
theorem EI:aE (defScope cw) "_law_program_here" := Or.inl (by decide +kernel)
theorem Df:ao (defScope cw) "_law_lines" := Or.inl (by decide +kernel)
theorem CZ:aE (defScope cw) "_law_lines" := Or.inl (by decide +kernel)
theorem Bb:ao (defScope cw) "_law_due_here" := Or.inl (by decide +kernel)
theorem Eo:aE (defScope cw) "_law_due_here" := Or.inl (by decide +kernel)
theorem As:ao (defScope cw) "_law_found" := Or.inl (by decide +kernel)
theorem DD:aE (defScope cw) "_law_found" := Or.inl (by decide +kernel)
theorem EH:(defScope cw).names.lookup ("_law_cell_at" : Str)=some .globalImplicit:=by decide +kernel
theorem CL:(defScope cw).names.lookup ("_law_due" : Str)=some .globalImplicit:=by decide +kernel
theorem Fa:(defScope cw).names.lookup ("_law_names" : Str)=some .globalImplicit:=by decide +kernel
theorem Aw:(defScope cw).names.lookup ("_law_program" : Str)=some .globalImplicit:=by decide +kernel
theorem Bx:(defScope cw).names.lookup ("_law_right" : Str)=some .globalImplicit:=by decide +kernel
theorem AC:(defScope cw).names.lookup ("code_of" : Str)=some .globalImplicit:=by decide +kernel
def br(k:Str):List Str:=if k = "lend" then ["back"] else if k = "if" then ["else", "fi"] else if k = "while" then ["done"] else []
def iS:V→Str→Prop
 | .str y,x=>x=y
 | .int i,x=>i.natAbs.log2<1920∧x=Str.ofString (toString i)
 | _,_=>False
def b5:List (List Str)→List Str→List Str
 | i::is,c::cs=>(i++[c])++b5 is cs
 | _,_=>[]
structure Ae (LA:Addr→List Str→Prop) (H:Hp) (a:Addr) (kind:Str) (hs:List V) (ws:List Str) (bs:List Addr) (ins:List (List Str)):Prop where
 at':H a=some (.tup (.str kind::hs++bs.map V.ref))
 parts:Paired iS hs ws
 size:((kind::ws).map (·.length)).sum+(kind::ws).length≤10000
 bl:bs.length=(br kind).length
 inn:Paired LA bs ins
def kM(LA:Addr→List Str→Prop)(H:Hp)(a:Addr)(ls:List Str):Prop:=∃ kind hs ws bs ins,Ae LA H a kind hs ws bs ins∧ls=Txt.join " " (kind::ws)::b5 ins (br kind)
def LinesAt:Nat→Hp→Addr→List Str→Prop
 | 0=>fun _ _ _=>False
 | d+1=>fun H p L=>∃ (as:List Addr) (Ls:List (List Str)),H p=some (.lst (as.map V.ref))∧Paired (kM (LinesAt d H) H) as Ls∧L=Ls.flatten
theorem LinesAt.mono:∀ (d:Nat) {H H':Hp} {p:Addr} {L:List Str},LinesAt d H p L→Same H H'→LinesAt d H' p L
 | 0,_,_,_,_,h,_=>h.elim
 | d+1,H,H',p,L,⟨as,Ls,h1,h2,h3⟩,sm=>by
  refine⟨as,Ls,sm _ _ h1,Paired.imp' (fun a ls z=>?_) h2,h3⟩
  obtain⟨kind,hs,ws,bs,ins,z1,z2⟩:=z
  exact⟨kind,hs,ws,bs,ins,⟨sm _ _ z1.at',z1.parts,z1.size,z1.bl,Paired.imp' (fun b i y=>LinesAt.mono d y sm) z1.inn⟩,z2⟩
theorem bZ{α β : Type}{R:α→β→Prop}:∀ {xs:List α} {ys:List β} {i:Nat} {x:α},Paired R xs ys→xs[i]? = some x→∃ y,ys[i]? = some y∧R x y
 | _,_,_,_,.nil,e=>by simp at e
 | _,_,0,_,.cons (b:=b) h _,e=>⟨b,rfl,by have:=Option.some.inj e; subst this; exact h⟩
 | _,_,i+1,_,.cons _ t,e=>by
  rw[List.getElem?_cons_succ]at e
  obtain⟨y,h1,h2⟩:=bZ t e
  exact⟨y,by rw[List.getElem?_cons_succ]; exact h1,h2⟩
theorem av{α β : Type}{R:α→β→Prop}:∀ {xs:List α} {ys:List β},Paired R xs ys→xs.length=ys.length
 | _,_,.nil=>rfl
 | _,_,.cons _ t=>by rw[List.length_cons,List.length_cons,av t]
theorem jS:∀ {ins:List (List Str)} {cs:List Str} {j:Nat} {i:List Str} {c:Str},ins[j]? = some i→cs[j]? = some c→b5 (ins.take (j+1)) (cs.take (j+1))=b5 (ins.take j) (cs.take j)++(i++[c])
 | [],_,_,_,_,h,_=>by simp at h
 | _::_,[],_,_,_,_,h=>by simp at h
 | a::ins,b::cs,0,i,c,h,h'=>by
  have e1:a=i:=by simpa using h
  have e2:b=c:=by simpa using h'
  subst e1 e2
  show (a++[b])++b5 [] []=b5 [] []++(a++[b])
  simp[b5]
 | a::ins,b::cs,j+1,i,c,h,h'=>by
  have ih:=jS (ins:=ins) (cs:=cs) (j:=j) (i:=i) (c:=c) (by simpa using h) (by simpa using h')
  show (a++[b])++b5 (ins.take (j+1)) (cs.take (j+1))=((a++[b])++b5 (ins.take j) (cs.take j))++(i++[c])
  rw[ih,List.append_assoc (a++[b])]
theorem kG:∀ {ins:List (List Str)} {cs:List Str} (j:Nat),(b5 (ins.take j) (cs.take j)).length≤(b5 ins cs).length
 | [],_,j=>by simp[b5]
 | _::_,[],j=>by cases j <;> simp[b5]
 | a::ins,b::cs,0=>by simp[b5]
 | a::ins,b::cs,j+1=>by
  have ih:=kG (ins:=ins) (cs:=cs) j
  show ((a++[b])++b5 (ins.take j) (cs.take j)).length≤((a++[b])++b5 ins cs).length
  simp only[List.length_append]; omega
theorem lZ{α : Type}:∀ (Ls:List (List α)) (i:Nat),(Ls.take i).flatten.length≤Ls.flatten.length
 | [],i=>by simp
 | a::Ls,0=>by simp
 | a::Ls,i+1=>by
  have ih:=lZ Ls i
  rw[List.take_succ_cons,List.flatten_cons,List.flatten_cons,List.length_append,List.length_append]; omega
theorem uH{α : Type}{Ls:List (List α)}{i:Nat}{l:List α}(h:Ls[i]? = some l):(Ls.take (i+1)).flatten=(Ls.take i).flatten++l:=by
 rw[List.take_add_one,h,List.flatten_append]; simp
def jt(K:PySem.W.Frag):Sp:=fun vs H Q _=>∃ k:Str,vs=[.str k]∧∀ (p:Addr) (H':Hp),Same H H'→SqT K H' p ((br k).map V.str)→Q (.ref p) H'
def jv(K:PySem.W.Frag):Sp:=fun vs H Q _=>∃ (a:Addr) (k:Str) (xs:List V),vs=[.ref a]∧SqT K H a (.str k::xs)∧(br k).length≤xs.length+1∧
 ∀ (p:Addr) (H':Hp),Same H H'→SqT K H' p ((V.str k::xs).take (xs.length+1 - (br k).length))→Q (.ref p) H'
def gA(K:PySem.W.Frag):Sp:=fun vs H Q _=>∃ (a:Addr) (k:Str) (xs:List V),vs=[.ref a]∧SqT K H a (.str k::xs)∧(br k).length≤xs.length+1∧
 ∀ (p:Addr) (H':Hp),Same H H'→SqT K H' p ((V.str k::xs).drop (xs.length+1 - (br k).length))→Q (.ref p) H'
def rB(d:Nat):Sp:=fun vs H Q _=>∃ (p:Addr) (L:List Str),vs=[.ref p]∧LinesAt d H p L∧L.length≤10000∧∀ (q:Addr) (H':Hp),Same H H'→H q=none→H' q=some (.lst (L.map V.str))→Q (.ref q) H'
section
variable{P:Program}{w:World}{K:PySem.W.Frag}{mg:Str→Option Value}{base:Heap}
theorem sO(D:DefAt K mg "closers_of" cM) {d a0 a1 a2:Addr} (g_CLOSERS:mg "CLOSERS" = some (.ref d)) (m:ModD w K d [("lend", .ref a0),("if", .ref a1),("while", .ref a2)])
  (q0:∀ H:Hp,SqT K H a0 [.str "back"]) (q1:∀ H:Hp,SqT K H a1 [.str "else", .str "fi"]) (q2:∀ H:Hp,SqT K H a2 [.str "done"]):ba P w K mg base 1 "closers_of" ["kind"] (jt K):=by
 refine D.cal nA (fun _ _ _ _ _ _ us hl=>match us,hl with | [_],_=>rfl) (fun vs H Q E h=>by obtain⟨k,rfl,_⟩:=h; rfl) (fun f cdv A outer s H vs Q E hr h=>?_)
 obtain⟨k,rfl,q⟩:=h
 refine⟨_,(aj (aA (Ay w K PySem.F.plainAttrs_dict PySem.F.slot_dict_get PySem.F.type_dict_get (zy w K) (sx g_CLOSERS (hg:=GQ)) (aa (pv 0 (hv:=GL)) (aa (bd ab) ab))))),?_⟩
 walk_at "rd1"
 refine⟨⟨d,_,rfl,m⟩,by decide,fun p hp=>?_⟩
 refine⟨d,_,k,.ref p,rfl,rfl,m,?_⟩
 have sm:=af hp (.tup [])
 unfold br at q
 by_cases h0:k = "lend"
 ·subst h0; exact q _ _ sm (q0 _)
 rw[if_neg h0]at q
 by_cases h1:k = "if"
 ·subst h1; exact q _ _ sm (q1 _)
 rw[if_neg h1]at q
 by_cases h2:k = "while"
 ·subst h2; exact q _ _ sm (q2 _)
 rw[if_neg h2]at q
 have e:aK [(("lend" : Str),V.ref a0),("if", .ref a1),("while", .ref a2)] k=none:=by simp[aK,Ne.symm h0,Ne.symm h1,Ne.symm h2]
 rw[e]
 exact q _ _ sm (SqT.of ac)
theorem yY(D:DefAt K mg "head_of" de) (z_len:mg "len" = none) (c_closers_of:ba P w K mg base 1 "closers_of" ["kind"] (jt K)):ba P w K mg base 2 "head_of" ["step"] (jv K):=by
 refine D.cal sS (fun _ _ _ _ _ _ us hl=>match us,hl with | [_],_=>rfl) (fun vs H Q E h=>by obtain⟨a,k,xs,rfl,_⟩:=h; rfl) (fun f cdv A outer s H vs Q E hr h=>?_)
 obtain⟨a,k,xs,rfl,ha,hl,q⟩:=h
 refine⟨_,(aj (aA (cu (jC K) (pv 0 (hv:=A6)) df (cg (ap ij (bv (bb K) z_len bQ (aa (pv 0 (hv:=A6)) ab) (hg:=Cw)) (bv (bb K) z_len bQ (aa (aG c_closers_of hr (aa (aw (aO K) (pv 0 (hv:=A6)) ai (fun _ _=>rfl)) ab) (hg:=FJ)) ab) (hg:=Cw))))))),?_⟩
 walk_at "rd1"
 refine⟨_,.inr ha,?_⟩
 refine⟨_,_,.inr ha,cm,?_⟩
 refine⟨k,rfl,fun p H1 sm1 hp=>?_⟩
 walk_at "rd1"
 refine⟨_,.inr hp,?_⟩
 walk_at "rd1"
 have e:((xs.length+1:Nat):Int) - ((((br k).map V.str).length:Nat):Int)=((xs.length+1 - (br k).length:Nat):Int):=by
  rw[List.length_map]; omega
 rw[e]
 refine iK (ha.same sm1) fun p2 H2 sm2 h2=>q p2 H2 (sm1.trans sm2) ?_
 rw[rj]at h2
 exact h2
theorem vK(D:DefAt K mg "blocks_of" cI) (z_len:mg "len" = none) (c_head_of:ba P w K mg base 2 "head_of" ["step"] (jv K)):ba P w K mg base 3 "blocks_of" ["step"] (gA K):=by
 refine D.cal nW (fun _ _ _ _ _ _ us hl=>match us,hl with | [_],_=>rfl) (fun vs H Q E h=>by obtain⟨a,k,xs,rfl,_⟩:=h; rfl) (fun f cdv A outer s H vs Q E hr h=>?_)
 obtain⟨a,k,xs,rfl,ha,hl,q⟩:=h
 refine⟨_,(aj (aA (cu (jC K) (pv 0 (hv:=Cu)) (cg (bv (bb K) z_len bQ (aa (aG c_head_of hr (aa (pv 0 (hv:=Cu)) ab) (hg:=Gw)) ab) (hg:=Ga))) df))),?_⟩
 walk_at "rd1"
 refine⟨a,k,xs,rfl,ha,hl,fun p H1 sm1 hp=>?_⟩
 walk_at "rd1"
 refine⟨_,.inr hp,?_⟩
 have e:(((V.str k::xs).take (xs.length+1 - (br k).length)).length:Int)=((xs.length+1 - (br k).length:Nat):Int):=by
  rw[List.length_take,List.length_cons]; omega
 rw[e]
 refine iK (ha.same sm1) fun p2 H2 sm2 h2=>q p2 H2 (sm1.trans sm2) ?_
 rw[fz]at h2
 exact h2
theorem pZ(D:DefAt K mg "lines_of" aS) (z_str:mg "str" = none) (z_zip:mg "zip" = none) (c_closers_of:ba P w K mg base 1 "closers_of" ["kind"] (jt K)) (c_head_of:ba P w K mg base 2 "head_of" ["step"] (jv K)) (c_blocks_of:ba P w K mg base 3 "blocks_of" ["step"] (gA K)) :
  ∀ d:Nat,ba P w K mg base (d+4) "lines_of" ["program"] (rB d)
 | 0=>D.cal (k:=3) sc_lines_of (fun _ _ _ _ _ _ us hl=>match us,hl with | [_],_=>rfl) (fun vs H Q E h=>by obtain⟨p,L,rfl,_⟩:=h; rfl) (fun f cdv A outer s H vs Q E hr h=>by obtain⟨p,L,rfl,z,_⟩:=h; exact z.elim)
 | d+1=>by
  have c_lines_of:=pZ D z_str z_zip c_closers_of c_head_of c_blocks_of d
  refine D.cal (k:=d+4) sc_lines_of (fun _ _ _ _ _ _ us hl=>match us,hl with | [_],_=>rfl) (fun vs H Q E h=>by obtain⟨p,L,rfl,_⟩:=h; rfl) (fun f cdv A outer s H vs Q E hr h=>?_)
  obtain⟨p,L,rfl,⟨as,Ls,h1,h2,rfl⟩,hL,q⟩:=h
  have hlen:=av h2
  refine⟨_,(ae (ar 1 sc_lines_of.nd (a_ ab) (hx:=FA))
   (ae (cE PassesOwn.never rfl (dj K (pv 0 (hv:=Fm))) (bt 2 sc_lines_of.nd (hx:=GB)) (ae (bu (aW K PySem.F.plainAttrs_list PySem.F.slot_list_append PySem.F.type_list_append bc (pv 1 (hv:=yq)) (aa (aW K PySem.F.plainAttrs_str PySem.F.slot_str_join PySem.F.type_str_join (oU K) al (aa (gq (CompSc.to (fsc:=(defScope aS)) (N:=["program", "lines", "step", "block", "closer"]) (N0:=["program", "lines", "step", "block", "closer"]) (T:=["part"]) ⟨by decide +kernel,by decide +kernel,by decide +kernel,by decide +kernel,by decide +kernel,by decide +kernel,by decide +kernel⟩ rfl rfl) rfl (jH K (aG c_head_of hr (aa (pv 2 (hv:=Ap)) ab) (hg:=F6) (hle:=by omega))) (fun _ _ _ _=>(bt 5 (show (["program", "lines", "step", "block", "closer", "part"]:List Str).Nodup from by decide +kernel) (hx:=(ju (defScope aS) (by decide +kernel))) (hf:=mw (defScope aS) (by decide +kernel)))) (eC (show (["program", "lines", "step", "block", "closer"]:List Str).length≤5 from by decide)) (fun _ _ _ _=>iu) (fun _ _ _ _=>(fL u5 z_str ic (aa (pv 5 (hv:=(d0 (defScope aS) (by decide +kernel)))) ab) (hg:=(GK (defScope aS) (by decide +kernel)))))) ab)) ab)))
   (aj (cE PassesOwn.never rfl (lL K GH z_zip (aa (aG c_blocks_of hr (aa (pv 2 (hv:=Ap)) ab) (hg:=GO) (hle:=by omega)) (aa (aG c_closers_of hr (aa (aw (aO K) (pv 2 (hv:=Ap)) ai (fun _ _=>rfl)) ab) (hg:=Gx) (hle:=by omega)) ab))) (eR K (n:=2) (b6 (bt 3 sc_lines_of.nd (hx:=FW)) (b6 (bt 4 sc_lines_of.nd (hx:=F2)) eQ))) (ae (bu (aW K PySem.F.plainAttrs_list PySem.F.slot_list_extend PySem.F.type_list_extend eU (pv 1 (hv:=yq)) (aa (aG c_lines_of hr (aa (pv 3 (hv:=FV)) ab) (hg:=GP) (hle:=by omega)) ab)))
   (aj (bu (aW K PySem.F.plainAttrs_list PySem.F.slot_list_append PySem.F.type_list_append bc (pv 1 (hv:=yq)) (aa (pv 4 (hv:=F9)) ab)))))))))
   (aj (aA (pv 1 (hv:=yq)))))),?_⟩
  walk_at "rd1"
  refine⟨by decide,fun lp hlp=>?_⟩
  generalize hH1:upd H lp _=H1
  have sm1:=eL hH1 hlp
  have e1:=gn hH1
  walk_at "nx"
  refine⟨⟨_,SqL.of (sm1 _ _ h1)⟩,?_⟩
  refine dc (xs:=as.map V.ref) (fun i σ H'=>∃ o2 o3 o4:Option V,σ=[some (.ref p),some (.ref lp),o2,o3,o4]∧Same H H'∧H' lp=some (.lst ((Ls.take i).flatten.map V.str)))
   ⟨none,none,none,rfl,sm1,e1⟩ (fun i σ H' _ h=>by obtain⟨_,_,_,_,sm,_⟩:=h; exact SqL.of (sm _ _ h1)) ?_ ?_
  ·rintro i v σ H' hv ⟨o2,o3,o4,rfl,sm,hl⟩
   have hi:i<as.length:=by have:=(List.getElem?_eq_some_iff.mp hv).1; simpa using this
   rw[List.getElem?_map,List.getElem?_eq_getElem hi]at hv
   cases hv
   obtain⟨ls,hls,kind,hs,ws,bs,ins,st,rfl⟩:=bZ h2 (List.getElem?_eq_getElem hi)
   have hflat:=uH hls
   have hfl:=lZ Ls (i+1)
   rw[hflat]at hfl ⊢
   generalize (Ls.take i).flatten=pre at hl hfl hflat ⊢
   rw[List.length_append,List.length_cons]at hfl
   have hat:SqT K H' as[i] (.str kind::(hs++bs.map V.ref)):=SqT.of (sm _ _ st.at')
   have hcl:(br kind).length≤(hs++bs.map V.ref).length+1:=by rw[List.length_append,List.length_map,st.bl]; omega
   have hcut:(hs++bs.map V.ref).length+1 - (br kind).length=hs.length+1:=by rw[List.length_append,List.length_map,st.bl]; omega
   have hpl:=av st.parts
   have hsz:=st.size
   walk_at "rd1"
   refine⟨⟨_,SqL.of hl⟩,as[i],kind,hs++bs.map V.ref,rfl,hat,hcl,fun hp H2 sm2 hhp=>?_⟩
   rw[hcut]at hhp
   have etk:(V.str kind::(hs++bs.map V.ref)).take (hs.length+1)=V.str kind::hs:=by rw[List.take_succ_cons,List.take_left']; rfl
   rw[etk]at hhp
   walk_at "rd1"
   refine⟨⟨_,hhp⟩,fun C hC=>?_⟩
   refine mf (xs:=V.str kind::hs) (fun j ys H3=>Same H2 H3∧H3 C=some (.lst ys)∧ys=((kind::ws).take j).map V.str) ⟨af hC _,ac,rfl⟩ (fun j ys H3 _ h=>hhp.same h.1) ?_ ?_
   ·rintro j ys H3 x hx hj ⟨sm3,hl3,rfl⟩
    obtain⟨y,hy,hr'⟩:=bZ (R:=iS) (.cons (show iS (.str kind) kind from rfl) st.parts) hx
    have hjl:j<(kind::ws).length:=(List.getElem?_eq_some_iff.mp hy).1
    have fin:iB (V.str kind::hs).length j (fun j ys H3=>Same H2 H3∧H3 C=some (.lst ys)∧ys=((kind::ws).take j).map V.str) C (((kind::ws).take j).map V.str) (.str y) H3:=by
     refine nC hj (by rw[List.length_map,List.length_take]; omega) (aQ (by simp only[List.length_cons]at hsz hjl ⊢; omega)) hl3 ⟨sm3.upd hC _,ac,?_⟩
     rw[List.take_add_one,hy,List.map_append]; rfl
    match x,hr' with
    | .str z,hr'=>
     have e:y=z:=hr'
     subst e
     walk_at "rd1"
     exact fin
    | .int z,hr'=>
     obtain⟨g1,rfl⟩:=hr'
     walk_at "rd1"
     exact⟨g1,fin⟩
   rintro ys H3 ⟨sm3,hl3,rfl⟩
   have hl3':H3 C=some (.lst ((kind::ws).map V.str)):=by
    rw[hl3,List.length_cons,hpl,List.take_of_length_le (by simp)]
   have smA:=sm2.trans sm3
   have h1l:(Str.ofString " ").length=1:=by decide
   walk_at "rd1"
   refine⟨kind::ws,SqL.of hl3',by rw[h1l]; omega,?_⟩
   refine⟨_,smA _ _ hl,by rw[List.length_map]; exact bn (by omega),?_⟩
   generalize hH4:upd H3 lp _=H4
   have smH:Same H H4:=fun b o e=>by
    have nb:b≠lp:=fun z=>by subst z; rw[hlp]at e; cases e
    rw[← hH4,ah nb]; exact smA _ _ (sm _ _ e)
   have e4:H4 lp=some (.lst ((pre++[Txt.join " " (kind::ws)]).map V.str)):=by rw[← hH4,ac,List.map_append]; rfl
   have hat4:SqT K H4 as[i] (.str kind::(hs++bs.map V.ref)):=SqT.of (smH _ _ st.at')
   walk_at "nx"
   refine⟨as[i],kind,hs++bs.map V.ref,rfl,hat4,hcl,fun bp H5 sm5 hbp=>?_⟩
   rw[hcut]at hbp
   have edr:(V.str kind::(hs++bs.map V.ref)).drop (hs.length+1)=bs.map V.ref:=by rw[List.drop_succ_cons,List.drop_left']; rfl
   rw[edr]at hbp
   walk_at "rd1"
   refine⟨_,_,.inr (hat4.same sm5),cm,kind,rfl,fun cp H6 sm6 hcp=>?_⟩
   walk_at "rd1"
   refine⟨⟨_,hbp.same sm6⟩,⟨_,hcp⟩,?_⟩
   have sm46:=sm5.trans sm6
   have hil:=av st.inn
   have hbl:=st.bl
   refine ji (xs:=bs.map V.ref) (ys:=(br kind).map V.str) (fun j σ H'=>∃ o3 o4:Option V,σ=[some (.ref p),some (.ref lp),some (.ref as[i]),o3,o4]∧Same H H'∧SqT K H' bp (bs.map V.ref)∧SqT K H' cp ((br kind).map V.str)∧
     H' lp=some (.lst ((pre++([Txt.join " " (kind::ws)]++b5 (ins.take j) ((br kind).take j))).map V.str)))
    (by rw[List.length_map,List.length_map]; exact hbl) ⟨o3,o4,rfl,smH.trans sm46,hbp.same sm6,hcp,by rw[sm46 _ _ e4]; simp[b5]⟩ (fun j σ H' _ h=>by obtain⟨_,_,_,_,z1,z2,_⟩:=h; exact⟨z1,z2⟩) ?_ ?_
   ·rintro j x y t σ H7 hx hy ⟨o3,o4,rfl,sm7,hb7,hc7,hl7⟩ ht
    have hj:j<bs.length:=by have:=(List.getElem?_eq_some_iff.mp hx).1; simpa using this
    have hjc:j<(br kind).length:=by omega
    rw[List.getElem?_map,List.getElem?_eq_getElem hj]at hx
    cases hx
    rw[List.getElem?_map,List.getElem?_eq_getElem hjc]at hy
    cases hy
    obtain⟨il,hil',hla⟩:=bZ st.inn (List.getElem?_eq_getElem hj)
    have hsn:=jS hil' (List.getElem?_eq_getElem hjc)
    have hcl1:=kG (ins:=ins) (cs:=br kind) (j+1)
    rw[hsn]at hcl1 ⊢
    rw[List.length_append,List.length_append]at hcl1
    generalize b5 (ins.take j) ((br kind).take j)=mid at hl7 hsn hcl1 ⊢
    have st7:=af ht (.tup [V.ref bs[j],.str (br kind)[j]])
    have et7:upd H7 t (.tup [V.ref bs[j],.str (br kind)[j]]) t=some (.tup [V.ref bs[j],.str (br kind)[j]]):=ac
    generalize upd H7 t (.tup [V.ref bs[j],.str (br kind)[j]])=H8 at st7 et7 ⊢
    have hl8:=st7 _ _ hl7
    walk_at "rd1"
    refine⟨t,_,rfl,SqT.of et7,rfl,?_⟩
    walk_at "rd1"
    refine⟨⟨_,SqL.of hl8⟩,bs[j],il,rfl,LinesAt.mono d hla (sm7.trans st7),by omega,fun r H9 sm9 hr9 hl9=>?_⟩
    walk_at "rd1"
    refine⟨_,_,sm9 _ _ hl8,hl9,aQ (by simp only[List.length_map,List.length_append,List.length_cons,List.length_nil]; omega),?_⟩
    have hb9:=((hb7.same st7).same sm9).updL (sm9 _ _ hl8) (o:=.lst ((pre++([Txt.join " " (kind::ws)]++mid)).map V.str++il.map V.str))
    have hc9:=((hc7.same st7).same sm9).updL (sm9 _ _ hl8) (o:=.lst ((pre++([Txt.join " " (kind::ws)]++mid)).map V.str++il.map V.str))
    have sm10:Same H (upd H9 lp (.lst ((pre++([Txt.join " " (kind::ws)]++mid)).map V.str++il.map V.str))):=((sm7.trans st7).trans sm9).upd hlp _
    have e10:upd H9 lp (.lst ((pre++([Txt.join " " (kind::ws)]++mid)).map V.str++il.map V.str)) lp=some (.lst ((pre++([Txt.join " " (kind::ws)]++mid)).map V.str++il.map V.str)):=ac
    generalize upd H9 lp (.lst ((pre++([Txt.join " " (kind::ws)]++mid)).map V.str++il.map V.str))=H10 at hb9 hc9 sm10 e10 ⊢
    walk_at "nx"
    refine⟨⟨_,SqL.of e10⟩,_,e10,bn (by simp only[List.length_map,List.length_append,List.length_cons,List.length_nil]; omega),?_⟩
    refine⟨_,_,rfl,sm10.upd hlp _,hb9.updL e10,hc9.updL e10,?_⟩
    rw[ac]
    simp only[List.map_append,List.map_cons,List.map_nil,List.append_assoc,List.cons_append,List.nil_append]
   ·rintro σ H7 ⟨o3,o4,rfl,sm7,_,_,hl7⟩
    refine⟨_,_,_,rfl,sm7,?_⟩
    rw[hl7,List.length_map,List.take_of_length_le (by omega),List.take_of_length_le (by omega)]; rfl
  ·rintro σ H' ⟨o2,o3,o4,rfl,sm,hl⟩
   walk_at "nx"
   rw[List.length_map,List.take_of_length_le (by omega)]at hl
   exact q lp H' sm hlp hl
end
abbrev letters:Str := "abcdefghijklmnopqrstuvwxyz"
def nK(K:PySem.W.Frag):Sp:=fun vs H Q _=>∃ (a:Addr) (ns:List Int),vs=[.ref a]∧SqL K H a (ns.map V.int)∧ns.length≤63∧∀ H',Q (.bl true) H'
def vi(K:PySem.W.Frag):Sp:=fun vs H Q _=>∃ (a:Addr) (ns:List Int) (k:Int),vs=[.ref a,.int k]∧SqL K H a (ns.map V.int)∧0≤k∧Q (.int (ns.getD k.toNat 0)) H
theorem p8:∀ (cs:List Nat) (acc:Array Nat),((cs.map fun c=>(⟨#[c]⟩ : Str)).foldl (fun acc p=>acc++(Str.ofString "").cps++p.cps) acc).toList=acc.toList++cs
 | [],acc=>by simp
 | c::cs,acc=>by
  rw[List.map_cons,List.foldl_cons,p8 cs]
  have e:(Str.ofString "").cps = #[]:=by decide +kernel
  rw[e]; simp
theorem pO(cs:List Nat):(Txt.join "" (cs.map fun c=>(⟨#[c]⟩ : Str))).cps.toList=cs:=by
 cases cs with
 | nil=>rfl
 | cons c cs=>
  show (((c::cs).map fun c=>(⟨#[c]⟩ : Str)).drop 1 |>.foldl (fun acc p=>acc++(Str.ofString "").cps++p.cps) (((c::cs).map fun c=>(⟨#[c]⟩ : Str)).headD Str.empty).cps).toList=c::cs
  rw[List.map_cons,List.drop_one,List.tail_cons,p8]; rfl
theorem xK(cs:List Nat):(Txt.join "" (cs.map fun c=>(⟨#[c]⟩ : Str))).length=cs.length:=by
 have e:=congrArg List.length (pO cs)
 simpa [Str.length] using e
theorem gm(b:Nat):∀ (ss:List Str),(∀ s∈ss,s.length≤b)→(ss.map (·.length)).sum≤ss.length * b
 | [],_=>by simp
 | s::ss,h=>by
  have h1:=gm b ss fun x hx=>h x (List.mem_cons_of_mem _ hx)
  have h2:=h s List.mem_cons_self
  rw[List.map_cons,List.sum_cons,List.length_cons,Nat.succ_mul]
  omega
theorem vb(z:Int):∃ c,letters.length≤sizeLine∧dw letters.cps.toList (z % 26)=some c∧c∈letters.cps.toList:=by
 have hz:(z % 26).toNat<letters.cps.toList.length:=by
  show (z % 26).toNat<26
  omega
 refine⟨letters.cps.toList[(z % 26).toNat],by decide,?_,List.getElem_mem hz⟩
 have q:=bC (List.getElem?_eq_getElem hz)
 rwa [show (((z % 26).toNat:Nat):Int)=z % 26 by omega]at q
theorem xC(x:Str)(c:Nat):(x++(⟨#[c]⟩ : Str)).length=x.length+1:=by rw[Str.length_append]; rfl
section
variable{P:Program}{w:World}{K:PySem.W.Frag}{mg:Str→Option Value}{base:Heap}
theorem zj(D:DefAt K mg "_law_cell_at" b9) (z_len:mg "len" = none):ba P w K mg base 1 "_law_cell_at" ["_law_script", "_law_k"] (vi K):=by
 refine D.cal lO (fun _ _ _ _ _ _ us hl=>match us,hl with | [_,_],_=>rfl) (fun vs H Q E h=>by obtain⟨a,ns,k,rfl,_⟩:=h; rfl) (fun f cdv A outer s H vs Q E hr h=>?_)
 obtain⟨a,ns,k,rfl,hS,h0,q⟩:=h
 refine⟨_,(ae (bG (aD iY (pv 1 (hv:=Az)) (bv (bb K) z_len bQ (aa (pv 0 (hv:=A3)) ab) (hg:=D5)) (aL _)) (aj (aA (aw (aO K) (pv 0 (hv:=A3)) (pv 1 (hv:=Az)) (fun _ _=>rfl)))) aY)
   (aj (aA ai))),?_⟩
 try simp only[lx,rn,kD,jT,oV,rP,qF,p0,qG,nN,rp,pP,rQ,rh,rL,yb,vU,vM,oR,yJ,qK,uN,sy,uW,vt,ox,rS,qW,se,pN,uG,qV,oh,pQ,ng,mE,jO,oH,mH,vO,o_,kU,oo,rN,qQ,pE,p7,rF,oA,rs,oy,pB,rD,pS,vR,yz,mx,mh,gZ,mV,ml,qj,pA,mC,sg,yM,si,n_,qo,ou,oJ,mL,mz,pW,nV,kW,om,rm,rW,mn,mN,fJ,rJ,ms,rM,mP,oj,qd,oC,pF,p6,rb,qL,rX,sE,L2.start,List.map_cons,List.map_nil,List.length_cons,List.length_nil,List.replicate,List.cons_append,List.nil_append,List.append_nil,List.getElem?_cons_zero,List.getElem?_cons_succ,List.set_cons_zero,List.set_cons_succ,Nat.reduceAdd,Nat.reduceSub,Option.some.injEq,exists_eq_left',exists_eq_left,V.int.injEq,V.ref.injEq,V.str.injEq,V.bl.injEq,vV,rE,and_true,true_and,decide_eq_true_eq,Bool.not_true,Bool.not_false,if_true,Bool.false_eq_true,if_false,ite_true,ite_false]
 refine⟨_,.inl hS,bh (fun c=>?_) (fun c=>?_)⟩
 ·rw[List.length_map]at c
  refine⟨_,.int (ns.getD k.toNat 0),.inl hS,v5 h0 ?_,q⟩
  rw[List.getD_eq_getElem?_getD,List.getElem?_eq_getElem (by omega)]; rfl
 ·rw[List.length_map]at c
  have e:ns.getD k.toNat 0=0:=by
   rw[List.getD_eq_getElem?_getD,List.getElem?_eq_none (by omega)]; rfl
  rw[e]at q; exact q
theorem pq(ss:List Str){z:Int}(h:0≤z):dI (ss.map V.str) none (some z)=(ss.take z.toNat).map V.str:=by
 have e:z=(z.toNat:Int):=by omega
 rw[e,rj,List.map_take]; rfl
end
theorem eK(sep k:Str)(ws:List Str):Txt.join sep (k::ws)=ws.foldl (fun a x=>a++sep++x) k:=by
 have go:∀ (ws:List Str) (a:Str),(⟨ws.foldl (fun acc p=>acc++sep.cps++p.cps) a.cps⟩ : Str)=ws.foldl (fun a x=>a++sep++x) a:=by
  intro ws
  induction ws with
  | nil=>intro a; rfl
  | cons x ws ih=>intro a; rw[List.foldl_cons,List.foldl_cons]; exact ih (a++sep++x)
 exact go ws k
def c_:List Str:=["open", "copy", "drop", "tie", "do"]
structure gK (ws:List Str):Prop where
 two:2≤ws.length
 three:ws.length≤3
 kind:ws.headD "" ∈ c_
 len:∀ x∈ws,x.length≤20
def B2(H:Hp)(a:Addr)(ws:List Str):Prop:=H a=some (.tup (ws.map V.str))∧gK ws
def jl{α : Type}(xs:List α)(lo hi:Option Int):List α:=(xs.drop (HT.sIx xs.length 0 lo)).take (HT.sIx xs.length xs.length hi - HT.sIx xs.length 0 lo)
theorem qS{α : Type}(f:α→V)(xs:List α)(lo hi:Option Int):dI (xs.map f) lo hi=(jl xs lo hi).map f:=by
 unfold dI jl
 rw[List.length_map,List.map_take,List.map_drop]
theorem xn{α : Type}(xs:List α)(lo hi:Option Int):(jl xs lo hi).length≤xs.length:=by
 unfold jl
 rw[List.length_take,List.length_drop]
 omega
theorem v1(x:List Str):∀ v∈x.map V.str,cx v=true:=by
 intro v hv
 obtain⟨o,_,rfl⟩:=List.mem_map.mp hv
 rfl
theorem tX{H:Hp}{a:Addr}{ws:List Str}{LA:Addr→List Str→Prop}(h:B2 H a ws):kM LA H a [Txt.join " " ws]:=by
 obtain⟨h1,two,three,kd,len⟩:=h
 cases ws with
 | nil=>simp at two
 | cons k ws=>
  have hk:k∈c_:=kd
  have hc:br k=[]:=by
   simp only[c_,List.mem_cons,List.mem_nil_iff,or_false]at hk
   rcases hk with rfl | rfl | rfl | rfl | rfl <;> decide
  have hp:∀ ws:List Str,Paired iS (ws.map V.str) ws:=fun ws=>by
   induction ws with
   | nil=>exact .nil
   | cons x ws ih=>exact .cons (show iS (.str x) x from rfl) ih
  refine⟨k,ws.map V.str,ws,[],[],⟨by rw[List.map_nil,List.append_nil]; exact h1,hp ws,?_,by rw[hc]; rfl,.nil⟩,by rw[hc]; rfl⟩
  have:=gm 20 (k::ws) len
  simp only[List.length_cons]at this two three ⊢
  omega
theorem cB{α β : Type}{R:α→β→Prop}{x:α}{y:β}(hxy:R x y):∀ {xs:List α} {ys:List β},Paired R xs ys→Paired R (xs++[x]) (ys++[y])
 | _,_,.nil=>.cons hxy .nil
 | _,_,.cons h t=>.cons h (cB hxy t)
set_option genSizeOf false in
inductive Stp where
 | plain (ws:List Str)
 | lend (x y:Str) (b:List Stp)
 | ite (n:Int) (b c:List Stp)
 | whl (n:Int) (b:List Stp)
def bI(n:Int):Str:=Str.ofString (toString n)
def bU(f:List Stp→List Str):Stp→List Str
 | .plain ws=>[Txt.join " " ws]
 | .lend x y b=>Txt.join " " ["lend", x,y]::(f b++[("back" : Str)])
 | .ite n b c=>Txt.join " " ["if", bI n]::(f b++[("else" : Str)]++(f c++[("fi" : Str)]))
 | .whl n b=>Txt.join " " ["while", bI n]::(f b++[("done" : Str)])
def b7:Nat→List Stp→List Str
 | 0,_=>[]
 | d+1,T=>T.flatMap (bU (b7 d))
def pI(f:List Stp→Prop):Stp→Prop
 | .plain ws=>gK ws
 | .lend x y b=>x.length≤20∧y.length≤20∧f b
 | .ite n b c=>n.natAbs.log2<1920∧f b∧f c
 | .whl n b=>n.natAbs.log2<1920∧f b
def eh:Nat→List Stp→Prop
 | 0,_=>False
 | d+1,T=>∀ s∈T,pI (eh d) s
def stpAt(PA:Addr→List Stp→Prop)(H:Hp)(a:Addr):Stp→Prop
 | .plain ws=>H a=some (.tup (ws.map V.str))
 | .lend x y b=>∃ q,H a=some (.tup [.str "lend", .str x,.str y,.ref q])∧PA q b
 | .ite n b c=>∃ q r,H a=some (.tup [.str "if", .int n,.ref q,.ref r])∧PA q b∧PA r c
 | .whl n b=>∃ q,H a=some (.tup [.str "while", .int n,.ref q])∧PA q b
def ProgAt(S:Addr→Prop):Nat→Hp→Addr→List Stp→Prop
 | 0=>fun _ _ _=>False
 | d+1=>fun H p T=>S p∧∃ as:List Addr,H p=some (.lst (as.map V.ref))∧Paired (stpAt (ProgAt S d H) H) as T
theorem stpAt.imp{PA PA':Addr→List Stp→Prop}{H H':Hp}{a:Addr}(ht:∀ b xs,H b=some (.tup xs)→H' b=some (.tup xs))(hp:∀ q b,PA q b→PA' q b):∀ {s:Stp},stpAt PA H a s→stpAt PA' H' a s
 | .plain _,h=>ht _ _ h
 | .lend _ _ _,⟨q,h,z⟩=>⟨q,ht _ _ h,hp _ _ z⟩
 | .ite _ _ _,⟨q,r,h,z,y⟩=>⟨q,r,ht _ _ h,hp _ _ z,hp _ _ y⟩
 | .whl _ _,⟨q,h,z⟩=>⟨q,ht _ _ h,hp _ _ z⟩
theorem ProgAt.imp{S S':Addr→Prop}{H H':Hp}(ht:∀ b xs,H b=some (.tup xs)→H' b=some (.tup xs))(hl:∀ b xs,S b→H b=some (.lst xs)→H' b=some (.lst xs))(hS:∀ b,S b→S' b) :
  ∀ (d:Nat) {p:Addr} {T:List Stp},ProgAt S d H p T→ProgAt S' d H' p T
 | 0,_,_,h=>h.elim
 | d+1,p,T,⟨h0,as,h1,h2⟩=>⟨hS _ h0,as,hl _ _ h0 h1,Paired.imp' (fun a s z=>z.imp ht fun q b y=>ProgAt.imp ht hl hS d y) h2⟩
theorem ProgAt.mono{S:Addr→Prop}{H H':Hp}{d:Nat}{p:Addr}{T:List Stp}(h:ProgAt S d H p T)(sm:Same H H'):ProgAt S d H' p T:=h.imp (fun b xs e=>sm _ _ e) (fun b xs _ e=>sm _ _ e) (fun _ z=>z) d
theorem hU{n:Int}(h:n.natAbs.log2<1920):(bI n).length≤1921:=by
 have e:=int_text_length_le (k:=1920) (by decide) h
 unfold bI
 rw[PySem.ofString_length]; exact e
theorem tf{PA:Addr→List Stp→Prop}{LA:Addr→List Str→Prop}{H:Hp}{a:Addr}{f:List Stp→List Str}{g:List Stp→Prop}(hp:∀ q b,PA q b→g b→LA q (f b)):∀ {s:Stp},stpAt PA H a s→pI g s→kM LA H a (bU f s)
 | .plain ws,h,ok=>tX ⟨h,ok⟩
 | .lend x y b,⟨q,h,z⟩,⟨o1,o2,o3⟩=>by
  refine⟨"lend", [.str x,.str y],[x,y],[q],[f b],⟨h,.cons rfl (.cons rfl .nil),?_,by show 1=(br "lend").length; decide,.cons (hp _ _ z o3) .nil⟩,by show _=_::b5 [f b] ["back"]; simp[bU,b5]⟩
  have:(Str.ofString "lend").length=4:=by decide
  simp only[List.map_cons,List.map_nil,List.sum_cons,List.sum_nil,List.length_cons,List.length_nil,this]; omega
 | .ite n b c,⟨q,r,h,z,y⟩,⟨o1,o2,o3⟩=>by
  refine⟨"if", [.int n],[bI n],[q,r],[f b,f c],⟨h,.cons ⟨o1,rfl⟩ .nil,?_,by show 2=(br "if").length; decide,.cons (hp _ _ z o2) (.cons (hp _ _ y o3) .nil)⟩,?_⟩
  ·have:(Str.ofString "if").length=2:=by decide
   have:=hU o1
   simp only[List.map_cons,List.map_nil,List.sum_cons,List.sum_nil,List.length_cons,List.length_nil]; omega
  ·show _=_::b5 [f b,f c] ["else", "fi"]
   simp[bU,b5]
 | .whl n b,⟨q,h,z⟩,⟨o1,o2⟩=>by
  refine⟨"while", [.int n],[bI n],[q],[f b],⟨h,.cons ⟨o1,rfl⟩ .nil,?_,by show 1=(br "while").length; decide,.cons (hp _ _ z o2) .nil⟩,by show _=_::b5 [f b] ["done"]; simp[bU,b5]⟩
  have:(Str.ofString "while").length=5:=by decide
  have:=hU o1
  simp only[List.map_cons,List.map_nil,List.sum_cons,List.sum_nil,List.length_cons,List.length_nil]; omega
theorem jM{PA:Addr→List Stp→Prop}{LA:Addr→List Str→Prop}{H:Hp}{f:List Stp→List Str}{g:List Stp→Prop}(hp:∀ q b,PA q b→g b→LA q (f b)) :
  ∀ {as:List Addr} {T:List Stp},Paired (stpAt PA H) as T→(∀ s∈T,pI g s)→Paired (kM LA H) as (T.map (bU f))
 | _,_,.nil,_=>.nil
 | _,_,.cons h t,ok=>.cons (tf hp h (ok _ List.mem_cons_self)) (jM hp t fun s hs=>ok s (List.mem_cons_of_mem _ hs))
theorem kS{S:Addr→Prop}{H:Hp}:∀ (d:Nat) {p:Addr} {T:List Stp},ProgAt S d H p T→eh d T→LinesAt d H p (b7 d T)
 | 0,_,_,h,_=>h.elim
 | d+1,p,T,⟨_,as,h1,h2⟩,ok=>⟨as,T.map (bU (b7 d)),h1,jM (fun q b z o=>kS d z o) h2 ok,List.flatMap_def⟩
theorem zU{PA PA':Addr→List Stp→Prop}{K:PySem.W.Frag}{H:Hp}{n:Nat}(hp:∀ q q' b,PA q b→PA' q' b→EqN K H n (.ref q) (.ref q') true):∀ {s:Stp} {a a':Addr},stpAt PA H a s→stpAt PA' H a' s→EqN K H (n+1) (.ref a) (.ref a') true
 | .plain ws,a,a',h,h'=>EqN.seqFlat (.inr ⟨SqT.of h,SqT.of h'⟩) (v1 _)
 | .lend x y b,a,a',⟨q,h,z⟩,⟨q',h',z'⟩=>by
  refine EqN.seq (.inr ⟨SqT.of h,SqT.of h'⟩) rfl fun i u v e1 e2=>?_
  match i,e1,e2 with
  | 0,e1,e2=>cases e1; cases e2; exact EqN.refl rfl
  | 1,e1,e2=>cases e1; cases e2; exact EqN.refl rfl
  | 2,e1,e2=>cases e1; cases e2; exact EqN.refl rfl
  | 3,e1,e2=>cases e1; cases e2; exact hp _ _ _ z z'
  | i+4,e1,e2=>simp at e1
 | .ite n b c,a,a',⟨q,r,h,z,y⟩,⟨q',r',h',z',y'⟩=>by
  refine EqN.seq (.inr ⟨SqT.of h,SqT.of h'⟩) rfl fun i u v e1 e2=>?_
  match i,e1,e2 with
  | 0,e1,e2=>cases e1; cases e2; exact EqN.refl rfl
  | 1,e1,e2=>cases e1; cases e2; exact EqN.refl rfl
  | 2,e1,e2=>cases e1; cases e2; exact hp _ _ _ z z'
  | 3,e1,e2=>cases e1; cases e2; exact hp _ _ _ y y'
  | i+4,e1,e2=>simp at e1
 | .whl n b,a,a',⟨q,h,z⟩,⟨q',h',z'⟩=>by
  refine EqN.seq (.inr ⟨SqT.of h,SqT.of h'⟩) rfl fun i u v e1 e2=>?_
  match i,e1,e2 with
  | 0,e1,e2=>cases e1; cases e2; exact EqN.refl rfl
  | 1,e1,e2=>cases e1; cases e2; exact EqN.refl rfl
  | 2,e1,e2=>cases e1; cases e2; exact hp _ _ _ z z'
  | i+3,e1,e2=>simp at e1
theorem rC{S S':Addr→Prop}{K:PySem.W.Frag}{H:Hp}:∀ (d:Nat) {p p':Addr} {T:List Stp},ProgAt S d H p T→ProgAt S' d H p' T→EqN K H (2 * d) (.ref p) (.ref p') true
 | 0,_,_,_,h,_=>h.elim
 | d+1,p,p',T,⟨_,as,h1,h2⟩,⟨_,as',h1',h2'⟩=>by
  have l1:=av h2
  have l2:=av h2'
  refine EqN.seq (n:=2 * d+1) (.inl ⟨SqL.of h1,SqL.of h1'⟩) (by simp; omega) fun i u v e1 e2=>?_
  have hi:i<as.length:=by have:=(List.getElem?_eq_some_iff.mp e1).1; simpa using this
  have hi':i<as'.length:=by omega
  rw[List.getElem?_map,List.getElem?_eq_getElem hi]at e1
  rw[List.getElem?_map,List.getElem?_eq_getElem hi']at e2
  cases e1; cases e2
  obtain⟨s,hs,z⟩:=bZ h2 (List.getElem?_eq_getElem hi)
  obtain⟨s',hs',z'⟩:=bZ h2' (List.getElem?_eq_getElem hi')
  rw[hs]at hs'
  cases hs'
  exact zU (PA:=ProgAt S d H) (PA':=ProgAt S' d H) (fun q q' b y y'=>rC d y y') z z'
def bi(f:List Stp→Nat):Stp→Nat
 | .plain _=>1
 | .lend _ _ b=>f b+2
 | .ite _ b c=>f b+f c+3
 | .whl _ b=>f b+2
def ak:Nat→List Stp→Nat
 | 0,_=>0
 | d+1,T=>(T.map (bi (ak d))).sum
def dM(f:Stp→Nat):Nat→List Stp→List (Nat × Stp)
 | _,[]=>[]
 | l,s::T=>(l,s)::dM f (l+f s) T
theorem jh(f:Stp→Nat)(s:Stp):∀ (l:Nat) (T:List Stp),dM f l (T++[s])=dM f l T++[(l+(T.map f).sum,s)]
 | l,[]=>by simp[dM]
 | l,t::T=>by
  show (l,t)::dM f (l+f t) (T++[s])=(l,t)::dM f (l+f t) T++[(l+(f t+(T.map f).sum),s)]
  rw[jh f s (l+f t) T,Nat.add_assoc]; rfl
theorem fT(f:Stp→Nat):∀ (l:Nat) (T:List Stp),(dM f l T).length=T.length
 | _,[]=>rfl
 | l,s::T=>by show (dM f (l+f s) T).length+1=T.length+1; rw[fT f _ T]
theorem rT(f:Stp→Nat):∀ (l:Nat) (T:List Stp) (i:Nat) (s:Stp),T[i]? = some s→(dM f l T)[i]? = some (l+((T.take i).map f).sum,s)
 | _,[],_,_,h=>by simp at h
 | l,t::T,0,s,h=>by
  have e:t=s:=by simpa using h
  subst e; simp[dM]
 | l,t::T,i+1,s,h=>by
  have h':T[i]? = some s:=by simpa using h
  have ih:=rT f (l+f t) T i s h'
  show (dM f (l+f t) T)[i]? = _
  rw[ih,List.take_succ_cons,List.map_cons,List.sum_cons,Nat.add_assoc]
def kindOf:Stp→Str
 | .plain ws=>ws.headD ""
 | .lend _ _ _ => "lend"
 | .ite _ _ _ => "if"
 | .whl _ _ => "while"
def dH:Stp→List V
 | .plain ws=>(ws.drop 1).map V.str
 | .lend x y _=>[.str x,.str y]
 | .ite n _ _=>[.int n]
 | .whl n _=>[.int n]
def cN(f:List Stp→Nat)(l:Nat):Stp→List (Nat × List Stp)
 | .plain _=>[]
 | .lend _ _ b=>[(l+1,b)]
 | .ite _ b c=>[(l+1,b),(l+1+f b+1,c)]
 | .whl _ b=>[(l+1,b)]
def cO(f:List Stp→Nat)(l:Nat)(s:Stp):List Nat:=l::(cN f l s).map fun z=>z.1+f z.2
theorem xW{f:List Stp→Nat}{l:Nat}:∀ {s:Stp} {j:Nat} {z:Nat × List Stp},(cN f l s)[j]? = some z→∃ y,(cO f l s)[j]? = some y∧z.1=y+1
 | .plain _,j,z,h=>by simp[cN]at h
 | .lend _ _ b,0,z,h=>by cases h; exact⟨l,rfl,rfl⟩
 | .lend _ _ b,j+1,z,h=>by simp[cN]at h
 | .ite _ b c,0,z,h=>by cases h; exact⟨l,rfl,rfl⟩
 | .ite _ b c,1,z,h=>by cases h; exact⟨l+1+f b,rfl,rfl⟩
 | .ite _ b c,j+2,z,h=>by simp[cN]at h
 | .whl _ b,0,z,h=>by cases h; exact⟨l,rfl,rfl⟩
 | .whl _ b,j+1,z,h=>by simp[cN]at h
theorem lc{f:List Stp→Nat}{l:Nat}:∀ {s:Stp},(cO f l s).getLast? = some (l+bi f s - 1)∧1≤bi f s
 | .plain _=>by simp[cO,cN,bi]
 | .lend _ _ b=>by simp[cO,cN,bi]; omega
 | .ite _ b c=>by simp[cO,cN,bi]; omega
 | .whl _ b=>by simp[cO,cN,bi]; omega
inductive dB:List Str→Prop
 | op (x:Str):dB ["open", x]
 | dr (x:Str):dB ["drop", x]
 | dd (u x:Str):dB ["do", u,x]
 | cp (x y:Str):dB ["copy", x,y]
 | ti (x y:Str):dB ["tie", x,y]
def lY(f:List Stp→Prop):Stp→Prop
 | .plain ws=>dB ws
 | .lend _ _ b=>f b
 | .ite _ b c=>f b∧f c
 | .whl _ b=>f b
def lG:Nat→List Stp→Prop
 | 0,_=>False
 | d+1,T=>∀ s∈T,lY (lG d) s
def nF(k:Str)(pp lp bp:Addr):List (Str × V):=[("kind", .str k),("parts", .ref pp),("lines", .ref lp),("blocks", .ref bp)]
theorem fv(k:Str)(pp lp bp:Addr):(nF k pp lp bp).lookup ("kind" : Str)=some (.str k):=by unfold nF; walk_at "lk"
theorem eJ(k:Str)(pp lp bp:Addr):(nF k pp lp bp).lookup ("parts" : Str)=some (.ref pp):=by unfold nF; walk_at "lk"
theorem dS(k:Str)(pp lp bp:Addr):(nF k pp lp bp).lookup ("lines" : Str)=some (.ref lp):=by unfold nF; walk_at "lk"
theorem fZ(k:Str)(pp lp bp:Addr):(nF k pp lp bp).lookup ("blocks" : Str)=some (.ref bp):=by unfold nF; walk_at "lk"
def fe(ns:List Nat):List V:=ns.map fun (n:Nat)=>V.int (n:Int)
def nstpAt(K:PySem.W.Frag)(C:Addr)(f:List Stp→Nat)(S:Addr→Prop)(PA:Addr→Nat→List Stp→Prop)(H:Hp)(a:Addr)(l:Nat)(s:Stp):Prop:=
 ∃ (dx pp lp bp:Addr) (bs:List Addr),H a=some (.ins C dx (nF (kindOf s) pp lp bp))∧SqT K H pp (dH s)∧S lp∧H lp=some (.lst (fe (cO f l s)))∧S bp∧H bp=some (.lst (bs.map V.ref))∧Paired (fun q (z:Nat × List Stp)=>PA q z.1 z.2) bs (cN f l s)
def NumAt(K:PySem.W.Frag)(C:Addr)(S:Addr→Prop):Nat→Hp→Addr→Nat→List Stp→Prop
 | 0=>fun _ _ _ _=>False
 | d+1=>fun H p l T=>S p∧∃ as:List Addr,H p=some (.lst (as.map V.ref))∧Paired (fun a (z:Nat × Stp)=>nstpAt K C (ak d) S (NumAt K C S d H) H a z.1 z.2) as (dM (bi (ak d)) l T)
structure Stays (S:Addr→Prop) (H H':Hp):Prop where
 t:∀ b xs,H b=some (.tup xs)→H' b=some (.tup xs)
 z:∀ b o u,H b=some (.frz o u)→H' b=some (.frz o u)
 i:∀ b C dx fs,H b=some (.ins C dx fs)→H' b=some (.ins C dx fs)
 l:∀ b xs,S b→H b=some (.lst xs)→H' b=some (.lst xs)
theorem Stays.of{S:Addr→Prop}{H H':Hp}(sm:Same H H'):Stays S H H':=⟨fun b xs h=>sm _ _ h,fun b o u h=>sm _ _ h,fun b C dx fs h=>sm _ _ h,fun b xs _ h=>sm _ _ h⟩
theorem Stays.upd{S:Addr→Prop}{H:Hp}{p:Addr}{xs:List V}{o:HO}(h:H p=some (.lst xs))(hS:¬ S p):Stays S H (upd H p o):=
  ⟨fun b xs e=>by rw[ah (ci e h (fun z=>nomatch z))]; exact e,fun b o u e=>by rw[ah (ci e h (fun z=>nomatch z))]; exact e,fun b C dx fs e=>by rw[ah (ci e h (fun z=>nomatch z))]; exact e,
   fun b xs hb e=>by rw[ah (show b≠p from fun z=>hS (z ▸ hb))]; exact e⟩
theorem SqT.stays{K:PySem.W.Frag}{S:Addr→Prop}{H H':Hp}{a:Addr}{xs:List V}(h:SqT K H a xs)(st:Stays S H H'):SqT K H' a xs:=by
 rcases h with (h | ⟨o,h⟩) | h
 ·exact .inl (.inl (st.t _ _ h))
 ·exact .inl (.inr ⟨o,st.z _ _ _ h⟩)
 ·exact .inr h
theorem SqT.updI{K:PySem.W.Frag}{H:Hp}{a x C dx:Addr}{xs:List V}{fs:List (Str × V)}{o:HO}(h:SqT K H a xs)(hx:H x=some (.ins C dx fs)):SqT K (upd H x o) a xs:=by
 rcases h with (h | ⟨o',h⟩) | h
 ·exact .inl (.inl (by rw[ah (ci h hx (fun z=>nomatch z))]; exact h))
 ·exact .inl (.inr ⟨o',by rw[ah (ci h hx (fun z=>nomatch z))]; exact h⟩)
 ·exact .inr h
theorem nstpAt.imp{K:PySem.W.Frag}{C:Addr}{f:List Stp→Nat}{S S':Addr→Prop}{PA PA':Addr→Nat→List Stp→Prop}{H H':Hp}{a:Addr}{l:Nat}{s:Stp}(h:nstpAt K C f S PA H a l s)(st:Stays S H H')(hS:∀ b,S b→S' b)(hp:∀ q l b,PA q l b→PA' q l b):nstpAt K C f S' PA' H' a l s:=by
 obtain⟨dx,pp,lp,bp,bs,h1,h2,h3,h4,h5,h6,h7⟩:=h
 exact⟨dx,pp,lp,bp,bs,st.i _ _ _ _ h1,SqT.stays h2 st,hS _ h3,st.l _ _ h3 h4,hS _ h5,st.l _ _ h5 h6,Paired.imp' (fun q z y=>hp _ _ _ y) h7⟩
theorem NumAt.imp{K:PySem.W.Frag}{C:Addr}{S S':Addr→Prop}{H H':Hp}(st:Stays S H H')(hS:∀ b,S b→S' b):∀ (d:Nat) {p:Addr} {l:Nat} {T:List Stp},NumAt K C S d H p l T→NumAt K C S' d H' p l T
 | 0,_,_,_,h=>h.elim
 | d+1,p,l,T,⟨h0,as,h1,h2⟩=>⟨hS _ h0,as,st.l _ _ h0 h1,Paired.imp' (fun a z y=>y.imp st hS fun q l b y'=>NumAt.imp st hS d y') h2⟩
theorem NumAt.mono{K:PySem.W.Frag}{C:Addr}{S:Addr→Prop}{H H':Hp}{d:Nat}{p:Addr}{l:Nat}{T:List Stp}(h:NumAt K C S d H p l T)(sm:Same H H'):NumAt K C S d H' p l T:=h.imp (Stays.of sm) (fun _ z=>z) d
theorem nstpAt.mono{K:PySem.W.Frag}{C:Addr}{S:Addr→Prop}{H H':Hp}{d:Nat}{a:Addr}{l:Nat}{s:Stp}(h:nstpAt K C (ak d) S (NumAt K C S d H) H a l s)(sm:Same H H'):nstpAt K C (ak d) S (NumAt K C S d H') H' a l s:=
 h.imp (Stays.of sm) (fun _ z=>z) fun q l b y=>y.mono sm
theorem qN{α : Type}{xs:List α}{x:α}(h:xs.getLast? = some x):dw xs (-1)=some x:=by
 rcases List.eq_nil_or_concat xs with rfl | ⟨ys,y,rfl⟩
 ·simp at h
 ·have e:y=x:=by simpa using h
  subst e
  have e:jX (ys++[y]).length (-1)=some ys.length:=by
   unfold jX
   simp only[List.length_append,List.length_cons,List.length_nil]
   split <;> simp_all <;> omega
  unfold dw
  rw[List.concat_eq_append,e]
  simp
theorem iD{ns:List Nat}{n:Nat}(h:ns.getLast? = some n):dw (fe ns) (-1)=some (.int n):=qN (by unfold fe; rw[List.getLast?_map,h]; rfl)
theorem em{ns:List Nat}{i n:Nat}(h:ns[i]? = some n):dw (fe ns) i=some (.int n):=bC (by unfold fe; rw[List.getElem?_map,h]; rfl)
theorem rA(d:Nat):∀ T:List Stp,T.length≤ak (d+1) T
 | []=>Nat.zero_le _
 | s::T=>by
  have:=rA d T
  have h1:=(lc (f:=ak d) (l:=0) (s:=s)).2
  show T.length+1≤bi (ak d) s+ak (d+1) T
  omega
theorem lX{d:Nat}:∀ {T:List Stp} {s:Stp},s∈T→bi (ak d) s≤ak (d+1) T
 | [],_,h=>by cases h
 | t::T,s,h=>by
  show bi (ak d) s≤bi (ak d) t+ak (d+1) T
  rcases List.mem_cons.mp h with rfl | h
  ·omega
  ·have:=lX (d:=d) h; omega
theorem oS{d i:Nat}{T:List Stp}:ak (d+1) (T.take i)≤ak (d+1) T:=by
 have e:ak (d+1) T=ak (d+1) (T.take i)+ak (d+1) (T.drop i):=by
  show (T.map _).sum=((T.take i).map _).sum+((T.drop i).map _).sum
  rw[← List.sum_append,← List.map_append,List.take_append_drop]
 omega
theorem yV{f:List Stp→Nat}{l:Nat}:∀ {s:Stp} {z:Nat × List Stp},z∈cN f l s→f z.2≤bi f s
 | .plain _,z,h=>by cases h
 | .lend _ _ b,z,h=>by simp[cN]at h; subst h; simp[bi]
 | .ite _ b c,z,h=>by
  simp[cN]at h
  rcases h with rfl | rfl <;> simp[bi] <;> omega
 | .whl _ b,z,h=>by simp[cN]at h; subst h; simp[bi]
theorem xo(f:List Stp→Nat)(l:Nat)(s:Stp):(cN f l s).length≤2:=by cases s <;> simp[cN]
theorem zz{PA:Addr→List Stp→Prop}{H:Hp}{a:Addr}{f:List Stp→Nat}{g:List Stp→Prop}{l:Nat}:∀ {s:Stp},stpAt PA H a s→pI g s→∃ bs:List Addr,H a=some (.tup (.str (kindOf s)::(dH s++bs.map V.ref)))∧bs.length=(br (kindOf s)).length∧Paired (fun q (z:Nat × List Stp)=>PA q z.2∧g z.2) bs (cN f l s)
 | .plain ws,h,ok=>by
  have hw:ws≠[]:=fun e=>by have:=ok.two; rw[e]at this; simp at this
  obtain⟨k,r,rfl⟩:=List.exists_cons_of_ne_nil hw
  have hk:k∈c_:=ok.kind
  refine⟨[],?_,?_,.nil⟩
  ·show H a=some (.tup (.str k::(r.map V.str++[])))
   rw[List.append_nil]; exact h
  ·show 0=(br k).length
   revert hk; unfold c_
   intro hk
   simp only[List.mem_cons,List.not_mem_nil,or_false]at hk
   rcases hk with rfl | rfl | rfl | rfl | rfl <;> decide
 | .lend x y b,⟨q,h,z⟩,⟨_,_,o⟩=>⟨[q],h,by show 1=(br "lend").length; decide,.cons ⟨z,o⟩ .nil⟩
 | .ite n b c,⟨q,r,h,z,y⟩,⟨_,o,o'⟩=>⟨[q,r],h,by show 2=(br "if").length; decide,.cons ⟨z,o⟩ (.cons ⟨y,o'⟩ .nil)⟩
 | .whl n b,⟨q,h,z⟩,⟨_,o⟩=>⟨[q],h,by show 1=(br "while").length; decide,.cons ⟨z,o⟩ .nil⟩
def lI(K:PySem.W.Frag)(C:Addr):Sp:=fun vs H Q _=>∃ (x dx hp:Addr) (k:Str) (ps:List V) (lp bp:Addr),vs=[.ref x,.ref hp,.ref lp,.ref bp]∧H x=some (.ins C dx [])∧SqT K H hp (.str k::ps)∧
 ∀ (pp:Addr) (H':Hp),(∀ b o,H b=some o→b≠x→H' b=some o)→H' x=some (.ins C dx (nF k pp lp bp))→SqT K H' pp ps→Q .non H'
def iw(K:PySem.W.Frag)(C:Addr):Sp:=fun vs H Q _=>∃ (p:Addr) (l d:Nat) (T:List Stp) (S:Addr→Prop),vs=[.ref p,.int (l:Int)]∧NumAt K C S (d+1) H p l T∧ak (d+1) T≤10000∧Q (.int ((l+ak (d+1) T:Nat):Int)) H
def BW(K:PySem.W.Frag)(C:Addr)(d:Nat):Sp:=fun vs H Q _=>∃ (a:Addr) (l:Nat) (s:Stp) (S:Addr→Prop),vs=[.ref a,.int (l:Int)]∧stpAt (ProgAt S d H) H a s∧pI (eh d) s∧bi (ak d) s≤10000∧
 ∀ (q:Addr) (H':Hp),Same H H'→nstpAt K C (ak d) (fun b=>H b=none) (NumAt K C (fun b=>H b=none) d H') H' q l s→Q (.ref q) H'
def oZ(K:PySem.W.Frag)(C:Addr)(d:Nat):Sp:=fun vs H Q _=>∃ (p:Addr) (l:Nat) (T:List Stp) (S:Addr→Prop),vs=[.ref p,.int (l:Int)]∧ProgAt S d H p T∧eh d T∧ak d T≤10000∧
 ∀ (q:Addr) (H':Hp),Same H H'→NumAt K C (fun b=>H b=none) d H' q l T→Q (.ref q) H'
section
variable{P:Program}{w:World}{K:PySem.W.Frag}{mg:Str→Option Value}{base:Heap}{CN:Addr}
theorem v_(D:MakeAt K mg "NumberedStep" CN "NumberedStep.__init__" aP) (a_kind:Fl K CN "kind") (a_parts:Fl K CN "parts") (a_lines:Fl K CN "lines") (a_blocks:Fl K CN "blocks") :
  nO P w K mg base 1 "NumberedStep" CN ["self", "head", "lines", "blocks"] (lI K CN):=by
 refine D.mkal (k:=0) gC (fun _ _ _ _ _ _ us hl=>match us,hl with | [_,_,_,_],_=>rfl) (fun vs H Q E h=>by obtain⟨x,dx,hp,k,ps,lp,bp,rfl,_⟩:=h; rfl) (fun f cdv A outer s H vs Q E hr h=>?_)
 obtain⟨x,dx,hp,k,ps,lp,bp,rfl,hx,hh,q⟩:=h
 refine⟨_,(ae (jI a_kind (pv 0 (hv:=ym)) (aw (aO K) (pv 1 (hv:=CC)) ai (fun _ _=>rfl)))
   (ae (jI a_parts (pv 0 (hv:=ym)) (cu (jC K) (pv 1 (hv:=CC)) (cg ai) df))
   (ae (jI a_lines (pv 0 (hv:=ym)) (pv 2 (hv:=Fo)))
   (aj (jI a_blocks (pv 0 (hv:=ym)) (pv 3 (hv:=FD))))))),?_⟩
 walk_at "rd1"
 refine⟨_,_,.inr hh,cm,dx,_,hx,by decide,?_⟩
 generalize hH1:upd H x _=H1
 have e1:H1 x=some (.ins CN dx [("kind", .str k)]):=by rw[← hH1,ac]; walk_at "pf"
 have k1:∀ b o,H b=some o→b≠x→H1 b=some o:=fun b o e n=>by rw[← hH1,ah n]; exact e
 have hh1:SqT K H1 hp (.str k::ps):=by rw[← hH1]; exact SqT.updI hh hx
 walk_at "nx"
 refine iK hh1 fun pp H2 sm2 hpp=>?_
 have ec:dI (V.str k::ps) (some 1) none=ps:=fz _ 1
 rw[ec]at hpp
 refine⟨dx,_,sm2 _ _ e1,by simp,?_⟩
 generalize hH3:upd H2 x _=H3
 have e3:H3 x=some (.ins CN dx [("kind", .str k),("parts", .ref pp)]):=by rw[← hH3,ac]; walk_at "pf"
 have k3:∀ b o,H2 b=some o→b≠x→H3 b=some o:=fun b o e n=>by rw[← hH3,ah n]; exact e
 have hp3:SqT K H3 pp ps:=by rw[← hH3]; exact SqT.updI hpp (sm2 _ _ e1)
 walk_at "nx"
 refine⟨dx,_,e3,by simp,?_⟩
 generalize hH4:upd H3 x _=H4
 have e4:H4 x=some (.ins CN dx [("kind", .str k),("parts", .ref pp),("lines", .ref lp)]):=by rw[← hH4,ac]; walk_at "pf"
 have k4:∀ b o,H3 b=some o→b≠x→H4 b=some o:=fun b o e n=>by rw[← hH4,ah n]; exact e
 have hp4:SqT K H4 pp ps:=by rw[← hH4]; exact SqT.updI hp3 e3
 walk_at "nx"
 refine⟨dx,_,e4,by simp,?_⟩
 refine q pp _ (fun b o e n=>?_) ?_ (SqT.updI hp4 e4)
 ·rw[ah n]; exact k4 _ _ (k3 _ _ (sm2 _ _ (k1 _ _ e n)) n) n
 ·rw[ac]; unfold nF; walk_at "pf"
theorem uY(D:DefAt K mg "line_behind" b_) (z_len:mg "len" = none) (a_lines:Fl K CN "lines"):ba P w K mg base 1 "line_behind" ["steps", "line"] (iw K CN):=by
 refine D.cal (k:=0) lU (fun _ _ _ _ _ _ us hl=>match us,hl with | [_,_],_=>rfl) (fun vs H Q E h=>by obtain⟨p,l,d,T,S,rfl,_⟩:=h; rfl) (fun f cdv A outer s H vs Q E hr h=>?_)
 obtain⟨p,l,d,T,S,rfl,⟨h0,as,h1,h2⟩,hz,q⟩:=h
 have hlen:=av h2
 rw[fT]at hlen
 refine⟨_,(aj (aA (xh (aD bT (bv (bb K) z_len bQ (aa (pv 0 (hv:=CD)) ab) (hg:=Gz)) ai (aL _)) (pv 1 (hv:=FZ)) (ap az (aw (aO K) (bO a_lines (aw (aO K) (pv 0 (hv:=CD)) (jB hZ ai) (fun _ _=>rfl))) (jB hZ ai) (fun _ _=>rfl)) ai)))),?_⟩
 walk_at "rd1"
 refine⟨_,.inl (SqL.of h1),?_⟩
 rw[List.length_map,hlen]
 rcases List.eq_nil_or_concat T with rfl | ⟨T',t,rfl⟩
 ·refine bh (fun c=>?_) (fun c=>absurd rfl c)
  exact q
 ·rw[List.concat_eq_append]at *
  refine bh (fun c=>absurd c (by rw[List.length_append]; simp; omega)) (fun c=>?_)
  rw[jh]at h2
  rcases List.eq_nil_or_concat as with rfl | ⟨as',a,rfl⟩
  ·have:=av h2; simp at this
  rw[List.concat_eq_append]at *
  have hl':as'.length=T'.length:=by simpa using hlen
  have h3:nstpAt K CN (ak d) S (NumAt K CN S d H) H a (l+(T'.map (bi (ak d))).sum) t:=by
   obtain⟨z,hz1,hz2⟩:=bZ h2 (i:=as'.length) (x:=a) (by simp)
   rw[List.getElem?_append_right (by rw[fT]; omega),fT,hl']at hz1
   simp at hz1
   subst hz1; exact hz2
  obtain⟨dx,pp,lp,bp,bs,g1,g2,g3,g4,g5,g6,g7⟩:=h3
  obtain⟨g8,g9⟩:=lc (f:=ak d) (l:=l+(T'.map (bi (ak d))).sum) (s:=t)
  walk_at "rd1"
  refine⟨_,_,.inl (SqL.of h1),qN (x:=V.ref a) (by simp),?_⟩
  refine⟨a,rfl,dx,_,_,g1,dS _ _ _ _,?_⟩
  walk_at "rd1"
  refine⟨_,_,.inl (SqL.of g4),iD g8,?_⟩
  walk_at "rd1"
  have e:((l+(T'.map (bi (ak d))).sum+bi (ak d) t - 1:Nat):Int)+1=((l+ak (d+1) (T'++[t]):Nat):Int):=by
   have:ak (d+1) (T'++[t])=(T'.map (bi (ak d))).sum+bi (ak d) t:=by show ((T'++[t]).map _).sum=_; simp
   omega
  rw[e]; exact q
theorem zQ(D:DefAt K mg "numbered_step" aC) (c_head_of:ba P w K mg base 2 "head_of" ["step"] (jv K)) (c_blocks_of:ba P w K mg base 3 "blocks_of" ["step"] (gA K)) (c_line_behind:ba P w K mg base 1 "line_behind" ["steps", "line"] (iw K CN))
  (k_NumberedStep:nO P w K mg base 1 "NumberedStep" CN ["self", "head", "lines", "blocks"] (lI K CN)) {d:Nat} (c_numbered_steps:ba P w K mg base (2 * d+4) "numbered_steps" ["steps", "line"] (oZ K CN d)) :
  ba P w K mg base (2 * d+5) "numbered_step" ["step", "line"] (BW K CN d):=by
 refine D.cal (k:=2 * d+4) sc_numbered_step (fun _ _ _ _ _ _ us hl=>match us,hl with | [_,_],_=>rfl) (fun vs H Q E h=>by obtain⟨a,l,s,S,rfl,_⟩:=h; rfl) (fun f cdv A outer sh H vs Q E hr h=>?_)
 obtain⟨a,l,s,S,rfl,h1,ok,hz,q⟩:=h
 obtain⟨bs,b1,b2,b3⟩:=zz (f:=ak d) (l:=l) h1 ok
 refine⟨_,(ae (ar 2 sc_numbered_step.nd (a_ (aa (pv 1 (hv:=Gr)) ab)) (hx:=Gd))
   (ae (ar 3 sc_numbered_step.nd (a_ ab) (hx:=FY))
   (ae (cE PassesOwn.never rfl (jH K (aG c_blocks_of hr (aa (pv 0 (hv:=Cr)) ab) (hg:=Fx) (hle:=by omega))) (bt 4 sc_numbered_step.nd (hx:=GM)) (ae (ar 5 sc_numbered_step.nd (aG c_numbered_steps hr (aa (pv 4 (hv:=GF)) (aa (ap az (aw (aO K) (pv 2 (hv:=yn)) (jB hZ ai) (fun _ _=>rfl)) ai) ab)) (hg:=FL) (hle:=by omega)) (hx:=Fu))
   (ae (bu (aW K PySem.F.plainAttrs_list PySem.F.slot_list_append PySem.F.type_list_append bc (pv 3 (hv:=CA)) (aa (pv 5 (hv:=Co)) ab)))
   (aj (bu (aW K PySem.F.plainAttrs_list PySem.F.slot_list_append PySem.F.type_list_append bc (pv 2 (hv:=yn)) (aa (aG c_line_behind hr (aa (pv 5 (hv:=Co)) (aa (ap az (aw (aO K) (pv 2 (hv:=yn)) (jB hZ ai) (fun _ _=>rfl)) ai) ab)) (hg:=FP) (hle:=by omega)) ab)))))))
   (aj (aA (BV k_NumberedStep hr (aa (aG c_head_of hr (aa (pv 0 (hv:=Cr)) ab) (hg:=Gg) (hle:=by omega)) (aa (pv 2 (hv:=yn)) (aa (pv 3 (hv:=CA)) ab))) (hg:=GD) (hle:=by omega))))))),?_⟩
 walk_at "rd1"
 refine⟨by decide,fun lp hlp=>?_⟩
 generalize hA:upd H lp _=HA
 have sA:=eL hA hlp
 have eA:=gn hA
 walk_at "nx"
 refine⟨by decide,fun bp hbp=>?_⟩
 generalize hB:upd HA bp _=HB
 have sB:=eL hB hbp
 have eB:=gn hB
 have sAB:=sA.trans sB
 have hcl:(br (kindOf s)).length≤(dH s++bs.map V.ref).length+1:=by rw[List.length_append,List.length_map,b2]; omega
 have hcut:(dH s++bs.map V.ref).length+1 - (br (kindOf s)).length=(dH s).length+1:=by rw[List.length_append,List.length_map,b2]; omega
 walk_at "nx"
 refine⟨a,kindOf s,_,rfl,SqT.of (sAB _ _ b1),hcl,fun tp HC sC htp=>?_⟩
 rw[hcut]at htp
 have etk:(V.str (kindOf s)::(dH s++bs.map V.ref)).drop ((dH s).length+1)=bs.map V.ref:=by rw[List.drop_succ_cons,List.drop_left']; rfl
 rw[etk]at htp
 walk_at "rd1"
 refine⟨⟨_,htp⟩,?_⟩
 have hbl:=av b3
 have hb2:=xo (ak d) l s
 have nlb:lp≠bp:=fun z=>by rw[← z]at hbp; rw[hbp]at eA; cases eA
 refine pX (xs:=bs.map V.ref) (fun j σ H'=>∃ (o4 o5:Option V) (qs:List Addr),σ=[some (.ref a),some (.int (l:Int)),some (.ref lp),some (.ref bp),o4,o5]∧Same H H'∧SqT K H' tp (bs.map V.ref)∧H' lp=some (.lst (fe ((cO (ak d) l s).take (j+1))))∧H' bp=some (.lst (qs.map V.ref))∧
   (∀ b,H' b=none→HC b=none)∧Paired (fun q (z:Nat × List Stp)=>NumAt K CN (fun b=>HC b=none) d H' q z.1 z.2) qs ((cN (ak d) l s).take j))
  ⟨none,none,[],rfl,sAB.trans sC,htp,by rw[sC _ _ (sB _ _ eA)]; simp[fe,cO],by rw[sC _ _ eB]; rfl,fun b h=>h,.nil⟩ (fun j σ H' _ h=>by obtain⟨_,_,_,_,_,z,_⟩:=h; exact z) ?_ ?_
 ·rintro j v σ H' hv ⟨o4,o5,qs,rfl,sm,ht',hl',hb',hfr,hp'⟩
  have hj:j<bs.length:=by have:=(List.getElem?_eq_some_iff.mp hv).1; simpa using this
  rw[List.getElem?_map,List.getElem?_eq_getElem hj]at hv
  cases hv
  obtain⟨z,hz1,hz2,hz3⟩:=bZ b3 (List.getElem?_eq_getElem hj)
  obtain⟨y,hy1,hy2⟩:=xW hz1
  have hylast:((cO (ak d) l s).take (j+1)).getLast? = some y:=by
   rw[List.take_add_one,hy1]; simp
  have hcnt:=yV (List.mem_of_getElem? hz1)
  walk_at "rd1"
  refine⟨_,_,.inl (SqL.of hl'),iD hylast,?_⟩
  walk_at "rd1"
  have ey:(y:Int)+1=((z.1:Nat):Int):=by omega
  rw[ey]
  refine⟨bs[j],z.1,z.2,S,rfl,hz2.mono sm,hz3,by omega,fun q' HD sD hq'=>?_⟩
  have qlen:=av hp'
  rw[List.length_take]at qlen
  walk_at "nx"
  refine⟨⟨_,SqL.of (sD _ _ hb')⟩,_,sD _ _ hb',bn (by rw[List.length_map]; omega),?_⟩
  generalize hE:upd HD bp _=HE
  have stE:Stays (fun b=>H' b=none) HD HE:=by rw[← hE]; exact Stays.upd (sD _ _ hb') (fun z=>by rw[hb']at z; cases z)
  have hqE:=NumAt.imp (S':=fun b=>H' b=none) stE (fun _ z=>z) d hq'
  have eE:HE bp=some (.lst (qs.map V.ref++[V.ref q'])):=by rw[← hE,ac]
  have lE:HE lp=some (.lst (fe ((cO (ak d) l s).take (j+1)))):=by rw[← hE,ah nlb]; exact sD _ _ hl'
  walk_at "nx"
  refine⟨⟨_,SqL.of lE⟩,_,_,.inl (SqL.of lE),iD hylast,?_⟩
  walk_at "rd1"
  rw[ey]
  have hC1:∀ b,H' b=none→HC b=none:=hfr
  have hqC:=NumAt.imp (S':=fun b=>HC b=none) (Stays.of (Same.refl HE)) hC1 d hqE
  cases d with
  | zero=>exact hqE.elim
  | succ d=>
  refine⟨q',z.1,d,z.2,_,rfl,hqE,by omega,?_⟩
  refine⟨_,lE,bn (by unfold fe; rw[List.length_map,List.length_take]; omega),?_⟩
  generalize hF:upd HE lp _=HF
  have lpC:HC lp=some (.lst (fe [l])):=by rw[sC _ _ (sB _ _ eA)]; simp[fe]
  have bpC:HC bp=some (.lst []):=sC _ _ eB
  have stF:Stays (fun b=>HC b=none) HE HF:=by rw[← hF]; exact Stays.upd lE (fun z=>by rw[lpC]at z; cases z)
  have stE':Stays (fun b=>HC b=none) HD HE:=by rw[← hE]; exact Stays.upd (sD _ _ hb') (fun z=>by rw[bpC]at z; cases z)
  have up:∀ {p:Addr} {l:Nat} {T:List Stp},NumAt K CN (fun b=>HC b=none) (d+1) H' p l T→NumAt K CN (fun b=>HC b=none) (d+1) HF p l T:=fun z=>NumAt.imp stF (fun _ y=>y) _ (NumAt.imp stE' (fun _ y=>y) _ (z.mono sD))
  refine⟨_,_,qs++[q'],rfl,?_,?_,?_,?_,?_,?_⟩
  ·rw[← hF,← hE]; exact((sm.trans sD).upd (sA.free hbp) _).upd hlp _
  ·exact SqT.stays (SqT.stays (ht'.same sD) stE') stF
  ·rw[← hF,ac]
   have:(cO (ak (d+1)) l s)[j+1]? = some (z.1+ak (d+1) z.2):=by
    unfold cO
    rw[List.getElem?_cons_succ,List.getElem?_map,hz1]; rfl
   unfold fe
   rw[List.take_add_one (i:=j+1),this,List.map_append]; rfl
  ·rw[← hF,ah nlb.symm,eE,List.map_append]; rfl
  ·intro b hb
   refine hfr b (sD.free ?_)
   rw[← hF,← hE]at hb
   by_cases e1:b=lp
   ·rw[e1,ac]at hb; cases hb
   ·rw[ah e1]at hb
    by_cases e2:b=bp
    ·rw[e2,ac]at hb; cases hb
    ·rw[ah e2]at hb; exact hb
  ·rw[List.take_add_one,hz1]
   exact cB (R:=fun q (z:Nat × List Stp)=>NumAt K CN (fun b=>HC b=none) (d+1) HF q z.1 z.2) (NumAt.imp stF (fun _ y=>y) _ hqC) (Paired.imp' (fun q z y=>up y) hp')
 ·rintro σ H' ⟨o4,o5,qs,rfl,sm,ht',hl',hb',hfr,hp'⟩
  rw[List.length_map,hbl,List.take_length]at hp'
  have hll:(cO (ak d) l s).take ((bs.map V.ref).length+1)=cO (ak d) l s:=by
   rw[List.take_of_length_le]; unfold cO; rw[List.length_cons,List.length_map,List.length_map,hbl]; exact Nat.le_refl _
  rw[hll]at hl'
  walk_at "nx"
  refine⟨a,kindOf s,_,rfl,SqT.of (sm _ _ b1),hcl,fun hp HD sD hhp=>?_⟩
  rw[hcut]at hhp
  have etk2:(V.str (kindOf s)::(dH s++bs.map V.ref)).take ((dH s).length+1)=V.str (kindOf s)::dH s:=by rw[List.take_succ_cons,List.take_left']; rfl
  rw[etk2]at hhp
  walk_at "rd1"
  intro x dx hx hdx ndx
  generalize hM:upd (upd HD dx (.own x)) x (.ins CN dx [])=HM
  have sM:Same HD HM:=by rw[← hM]; exact(af hdx (.own x)).upd hx _
  have eM:HM x=some (.ins CN dx []):=by rw[← hM,ac]
  refine⟨x,dx,hp,kindOf s,dH s,lp,bp,rfl,eM,hhp.same sM,fun pp HN kN eN hpp=>⟨rfl,?_⟩⟩
  have sN:Same HD HN:=fun b o e=>kN b o (sM _ _ e) (au e hx)
  have sHN:Same H HN:=(sm.trans sD).trans sN
  have hCH:∀ b,HC b=none→H b=none:=fun b z=>(sAB.trans sC).free z
  refine q x HN sHN ⟨dx,pp,lp,bp,qs,eN,hpp,hlp,sN _ _ (sD _ _ hl'),sA.free hbp,sN _ _ (sD _ _ hb'),?_⟩
  exact Paired.imp' (fun q z y=>NumAt.imp (Stays.of (sD.trans sN)) hCH d y) hp'
theorem rZ(D0:DefAt K mg "numbered_step" aC) (D:DefAt K mg "numbered_steps" aZ) (c_head_of:ba P w K mg base 2 "head_of" ["step"] (jv K)) (c_blocks_of:ba P w K mg base 3 "blocks_of" ["step"] (gA K)) (c_line_behind:ba P w K mg base 1 "line_behind" ["steps", "line"] (iw K CN))
  (k_NumberedStep:nO P w K mg base 1 "NumberedStep" CN ["self", "head", "lines", "blocks"] (lI K CN)):∀ d:Nat,ba P w K mg base (2 * d+4) "numbered_steps" ["steps", "line"] (oZ K CN d)
 | 0=>D.cal (k:=3) sc_numbered_steps (fun _ _ _ _ _ _ us hl=>match us,hl with | [_,_],_=>rfl) (fun vs H Q E h=>by obtain⟨p,l,T,S,rfl,_⟩:=h; rfl) (fun f cdv A outer s H vs Q E hr h=>by obtain⟨p,l,T,S,rfl,z,_⟩:=h; exact z.elim)
 | d+1=>by
  have c_numbered_step:=zQ D0 c_head_of c_blocks_of c_line_behind k_NumberedStep (rZ D0 D c_head_of c_blocks_of c_line_behind k_NumberedStep d)
  refine D.cal (k:=2 * d+5) sc_numbered_steps (fun _ _ _ _ _ _ us hl=>match us,hl with | [_,_],_=>rfl) (fun vs H Q E h=>by obtain⟨p,l,T,S,rfl,_⟩:=h; rfl) (fun f cdv A outer s H vs Q E hr h=>?_)
  obtain⟨p,l,T,S,rfl,⟨h0,as,h1,h2⟩,ok,hz,q⟩:=h
  have hlen:=av h2
  have hTl:=rA d T
  refine⟨_,(ae (ar 2 sc_numbered_steps.nd (a_ ab) (hx:=Fi))
   (ae (cE PassesOwn.never rfl (dj K (pv 0 (hv:=GU))) (bt 3 sc_numbered_steps.nd (hx:=Gk)) (aj (bu (aW K PySem.F.plainAttrs_list PySem.F.slot_list_append PySem.F.type_list_append bc (pv 2 (hv:=A1)) (aa (aG c_numbered_step hr (aa (pv 3 (hv:=Gs)) (aa (aG c_line_behind hr (aa (pv 2 (hv:=A1)) (aa (pv 1 (hv:=Ft)) ab)) (hg:=Fp) (hle:=by omega)) ab)) (hg:=Gn) (hle:=by omega)) ab)))))
   (aj (aA (pv 2 (hv:=A1)))))),?_⟩
  walk_at "rd1"
  refine⟨by decide,fun lp hlp=>?_⟩
  generalize hA:upd H lp _=HA
  have sA:=eL hA hlp
  have eA:=gn hA
  walk_at "nx"
  refine⟨⟨_,SqL.of (sA _ _ h1)⟩,?_⟩
  have lpA:¬ HA lp=none:=fun z=>by rw[eA]at z; cases z
  refine dc (xs:=as.map V.ref) (fun i σ H'=>∃ (o3:Option V) (ns:List Addr),σ=[some (.ref p),some (.int (l:Int)),some (.ref lp),o3]∧Same H H'∧H' lp=some (.lst (ns.map V.ref))∧(∀ b,H' b=none→HA b=none)∧
    Paired (fun a (z:Nat × Stp)=>nstpAt K CN (ak d) (fun b=>HA b=none) (NumAt K CN (fun b=>HA b=none) d H') H' a z.1 z.2) ns (dM (bi (ak d)) l (T.take i)))
   ⟨none,[],rfl,sA,eA,fun _ z=>z,.nil⟩ (fun i σ H' _ h=>by obtain⟨_,_,_,sm,_⟩:=h; exact SqL.of (sm _ _ h1)) ?_ ?_
  ·rintro i v σ H' hv ⟨o3,ns,rfl,sm,n1,nf,n2⟩
   have hi:i<as.length:=by have:=(List.getElem?_eq_some_iff.mp hv).1; simpa using this
   rw[List.getElem?_map,List.getElem?_eq_getElem hi]at hv
   cases hv
   obtain⟨s,hs,hsa⟩:=bZ h2 (List.getElem?_eq_getElem hi)
   have hmem:=List.mem_of_getElem? hs
   have hct:=lX (d:=d) hmem
   have hctk:=oS (d:=d) (i:=i) (T:=T)
   have nlen:=av n2
   rw[fT,List.length_take]at nlen
   walk_at "rd1"
   refine⟨⟨_,SqL.of n1⟩,?_⟩
   refine⟨lp,l,d,T.take i,fun _=>True,rfl,⟨trivial,ns,n1,Paired.imp' (fun a z y=>y.imp (Stays.of (Same.refl H')) (fun _ _=>trivial) fun q l b y'=>NumAt.imp (Stays.of (Same.refl H')) (fun _ _=>trivial) d y') n2⟩,by omega,?_⟩
   refine⟨as[i],l+ak (d+1) (T.take i),s,S,rfl,?_,ok s hmem,by omega,fun q' HD sD hq'=>?_⟩
   ·exact stpAt.imp (fun b xs e=>sm _ _ e) (fun q b y=>y.mono sm) hsa
   refine⟨_,sD _ _ n1,bn (by rw[List.length_map]; omega),?_⟩
   generalize hE:upd HD lp _=HE
   have eE:HE lp=some (.lst ((ns++[q']).map V.ref)):=by rw[← hE,ac,List.map_append]; rfl
   have stE:Stays (fun b=>HA b=none) HD HE:=by rw[← hE]; exact Stays.upd (sD _ _ n1) lpA
   have hq2:nstpAt K CN (ak d) (fun b=>HA b=none) (NumAt K CN (fun b=>HA b=none) d HD) HD q' (l+ak (d+1) (T.take i)) s:=hq'.imp (Stays.of (Same.refl HD)) nf fun q l b y'=>NumAt.imp (Stays.of (Same.refl HD)) nf d y'
   have up:∀ {a:Addr} {l:Nat} {s:Stp},nstpAt K CN (ak d) (fun b=>HA b=none) (NumAt K CN (fun b=>HA b=none) d HD) HD a l s→nstpAt K CN (ak d) (fun b=>HA b=none) (NumAt K CN (fun b=>HA b=none) d HE) HE a l s:=fun z=>z.imp stE (fun _ y=>y) fun q l b y'=>NumAt.imp stE (fun _ y=>y) d y'
   refine⟨_,ns++[q'],rfl,?_,eE,?_,?_⟩
   ·rw[← hE]; exact(sm.trans sD).upd hlp _
   ·intro b hb
    refine nf b (sD.free ?_)
    rw[← hE]at hb
    by_cases e1:b=lp
    ·rw[e1,ac]at hb; cases hb
    ·rw[ah e1]at hb; exact hb
   ·have et:T.take (i+1)=T.take i++[s]:=by rw[List.take_add_one,hs]; rfl
    rw[et,jh]
    exact cB (R:=fun a (z:Nat × Stp)=>nstpAt K CN (ak d) (fun b=>HA b=none) (NumAt K CN (fun b=>HA b=none) d HE) HE a z.1 z.2) (up hq2) (Paired.imp' (fun a z y=>up (nstpAt.mono y sD)) n2)
  ·rintro σ H' ⟨o3,ns,rfl,sm,n1,nf,n2⟩
   rw[List.length_map,hlen,List.take_length]at n2
   walk_at "nx"
   have hAH:∀ b,HA b=none→H b=none:=fun b z=>sA.free z
   exact q lp H' sm ⟨hlp,ns,n1,Paired.imp' (fun a z y=>y.imp (Stays.of (Same.refl H')) hAH fun q l b y'=>NumAt.imp (Stays.of (Same.refl H')) hAH d y') n2⟩
end
section
variable{P:Program}{w:World}{K:PySem.W.Frag}{mg:Str→Option Value}{base:Heap}
abbrev cD:=List V
def aX(kv:List (aB × V))(k:aB):V:=(aK kv k).getD .non
def iN(n:Nat):V:=.int (n:Int)
def dY(kv:List (aB × V))(l:Nat)(ws:List Str):cD:=
 if ws.headD "" = "do" then [.str "do", iN l,aX kv (.inr (ws.getD 2 "")),.str (ws.getD 1 "")] else .str (ws.headD "")::iN l::(ws.drop 1).map fun n=>aX kv (.inr n)
section
variable(kv:List (aB × V))(f:Bool→Nat→Nat→List Stp→List cD)(cnt:List Stp→Nat)
def fF(t:Bool)(a l:Nat)(x y:Str)(b:List Stp):List cD:=
 [[.str "copy", iN l,aX kv (.inl l),aX kv (.inr x)],[.str "do", iN l,aX kv (.inl l),.str "lend"],[.str "copy", iN l,aX kv (.inr y),aX kv (.inl l)]]++f t (a+3) (l+1) b ++
 [[.str "do", iN (l+1+cnt b),aX kv (.inl l),.str "back"],[.str "drop", iN (l+1+cnt b),aX kv (.inr y)],[.str "drop", iN (l+1+cnt b),aX kv (.inl l)]]
def iL(t:Bool)(a l:Nat)(n:Int)(b c:List Stp):List cD:=
 [[.str "test", iN l,.int n,iN (a+1+(f t (a+1) (l+1) b).length+1)]]++f t (a+1) (l+1) b ++
 [[.str "jump", iN (l+1+cnt b),iN (a+1+(f t (a+1) (l+1) b).length+1+(f t (a+1+(f t (a+1) (l+1) b).length+1) (l+1+cnt b+1) c).length)]]++f t (a+1+(f t (a+1) (l+1) b).length+1) (l+1+cnt b+1) c
def fU(a l:Nat)(n:Int)(b:List Stp):List cD:=
 [[.str "test", iN l,.int n,iN (a+1+(f false (a+1) (l+1) b).length+1)]]++f false (a+1) (l+1) b++[[.str "jump", iN (l+1+cnt b),iN a]]
def dJ(t:Bool)(a l:Nat)(n:Int)(b:List Stp):List cD:=
 if t=true then [[.str "test", iN l,.int n,iN (a+1+(f true (a+1) (l+1) b).length+(fU f cnt (a+1+(f true (a+1) (l+1) b).length) l n b).length)]]++f true (a+1) (l+1) b++fU f cnt (a+1+(f true (a+1) (l+1) b).length) l n b
 else fU f cnt a l n b
def fX(t:Bool)(a l:Nat):Stp→List cD
 | .plain ws=>[dY kv l ws]
 | .lend x y b=>fF kv f cnt t a l x y b
 | .ite n b c=>iL f cnt t a l n b c
 | .whl n b=>dJ f cnt t a l n b
end
def cZ(g:Nat→Nat→Stp→List cD)(c:Stp→Nat):Nat→Nat→List Stp→List cD
 | _,_,[]=>[]
 | a,l,s::T=>g a l s++cZ g c (a+(g a l s).length) (l+c s) T
theorem jP(g:Nat→Nat→Stp→List cD)(c:Stp→Nat)(s:Stp):∀ (T:List Stp) (a l:Nat),cZ g c a l (T++[s])=cZ g c a l T++g (a+(cZ g c a l T).length) (l+(T.map c).sum) s
 | [],a,l=>by simp[cZ]
 | t::T,a,l=>by
  show g a l t++cZ g c _ _ (T++[s])=(g a l t++cZ g c _ _ T)++_
  have e:(cZ g c a l (t::T)).length=(g a l t).length+(cZ g c (a+(g a l t).length) (l+c t) T).length:=List.length_append
  rw[jP g c s T,List.append_assoc,e,List.map_cons,List.sum_cons,Nat.add_assoc,Nat.add_assoc]
def bf(kv:List (aB × V)):Nat→Bool→Nat→Nat→List Stp→List cD
 | 0,_,_,_,_=>[]
 | d+1,t,a,l,T=>cZ (fX kv (bf kv d) (ak d) t) (bi (ak d)) a l T
theorem iI{f:Bool→Nat→Nat→List Stp→List cD}{cnt:List Stp→Nat}{a l:Nat}{n:Int}{b:List Stp}:(fU f cnt a l n b).length=(f false (a+1) (l+1) b).length+2:=by
 unfold fU; simp
theorem xG{kv:List (aB × V)}{f:Bool→Nat→Nat→List Stp→List cD}{cnt:List Stp→Nat}{m:Nat}(h0:∀ a l T,(f false a l T).length≤6 * cnt T)(h1:∀ a l T,(f true a l T).length≤6 * m * cnt T)(hm:1≤m):∀ (s:Stp) (t:Bool) (a l:Nat),(fX kv f cnt t a l s).length≤(if t=true then 6 * (m+1) else 6) * bi cnt s
 | .plain ws,t,a,l=>by
  show 1≤_ * 1
  split <;> omega
 | .lend x y b,t,a,l=>by
  cases t with
  | false=>
   have:=h0 (a+3) (l+1) b
   show (fF kv f cnt false a l x y b).length≤6 * (cnt b+2)
   unfold fF
   simp only[List.length_append,List.length_cons,List.length_nil]
   omega
  | true=>
   have:=h1 (a+3) (l+1) b
   show (fF kv f cnt true a l x y b).length≤6 * (m+1) * (cnt b+2)
   unfold fF
   simp only[List.length_append,List.length_cons,List.length_nil]
   have e:6 * (m+1) * (cnt b+2)=6 * m * cnt b+6 * cnt b+12 * m+12:=by rw[Nat.mul_add 6 m 1,Nat.add_mul,Nat.mul_add,Nat.mul_add]; omega
   omega
 | .ite n b c,t,a,l=>by
  cases t with
  | false=>
   have:=h0 (a+1) (l+1) b
   have:=h0 (a+1+(f false (a+1) (l+1) b).length+1) (l+1+cnt b+1) c
   show (iL f cnt false a l n b c).length≤6 * (cnt b+cnt c+3)
   unfold iL
   simp only[List.length_append,List.length_cons,List.length_nil]
   omega
  | true=>
   have:=h1 (a+1) (l+1) b
   have:=h1 (a+1+(f true (a+1) (l+1) b).length+1) (l+1+cnt b+1) c
   show (iL f cnt true a l n b c).length≤6 * (m+1) * (cnt b+cnt c+3)
   unfold iL
   simp only[List.length_append,List.length_cons,List.length_nil]
   have e:6 * (m+1) * (cnt b+cnt c+3)=6 * m * cnt b+6 * m * cnt c+18 * m+6 * cnt b+6 * cnt c+18:=by rw[Nat.mul_add 6 m 1,Nat.add_mul,Nat.mul_add,Nat.mul_add,Nat.mul_add,Nat.mul_add]; omega
   omega
 | .whl n b,t,a,l=>by
  cases t with
  | false=>
   have:=h0 (a+1) (l+1) b
   show (dJ f cnt false a l n b).length≤6 * (cnt b+2)
   unfold dJ
   rw[if_neg (by decide),iI]
   omega
  | true=>
   have:=h1 (a+1) (l+1) b
   have:=h0 (a+1+(f true (a+1) (l+1) b).length+1) (l+1) b
   show (dJ f cnt true a l n b).length≤6 * (m+1) * (cnt b+2)
   unfold dJ
   rw[if_pos rfl]
   simp only[List.length_append,List.length_cons,List.length_nil,iI]
   have e:6 * (m+1) * (cnt b+2)=6 * m * cnt b+6 * cnt b+12 * m+12:=by rw[Nat.mul_add 6 m 1,Nat.add_mul,Nat.mul_add,Nat.mul_add]; omega
   omega
theorem pY{g:Nat→Nat→Stp→List cD}{c:Stp→Nat}{k:Nat}(h:∀ s a l,(g a l s).length≤k * c s):∀ (T:List Stp) (a l:Nat),(cZ g c a l T).length≤k * (T.map c).sum
 | [],_,_=>Nat.zero_le _
 | s::T,a,l=>by
  have:=h s a l
  have:=pY h T (a+(g a l s).length) (l+c s)
  show (g a l s++cZ g c (a+(g a l s).length) (l+c s) T).length≤k * (c s+(T.map c).sum)
  rw[List.length_append,Nat.mul_add]; omega
theorem pK(kv:List (aB × V)):∀ (d:Nat) (a l:Nat) (T:List Stp),(bf kv d false a l T).length≤6 * ak d T∧(bf kv d true a l T).length≤6 * (d+1) * ak d T
 | 0,_,_,_=>⟨Nat.zero_le _,Nat.zero_le _⟩
 | d+1,a,l,T=>by
  have ih:=pK kv d
  have st:=xG (kv:=kv) (f:=bf kv d) (cnt:=ak d) (m:=d+1) (fun a l T=>(ih a l T).1) (fun a l T=>(ih a l T).2) (by omega)
  exact⟨pY (k:=6) (fun s a l=>by have:=st s false a l; simpa using this) T a l,pY (k:=6 * (d+1+1)) (fun s a l=>by have:=st s true a l; simpa using this) T a l⟩
def bg(H:Hp)(c:Addr)(r:cD):Prop:=H c=some (.tup r)
def b8(ws:List Str):List Str:=if ws.headD "" = "do" then [ws.getD 2 ""] else ws.drop 1
def ef(kv:List (aB × V))(k:aB):Prop:=aK kv k=some (aX kv k)
def tm(kv:List (aB × V))(f:Nat→List Stp→Prop)(cnt:List Stp→Nat)(l:Nat):Stp→Prop
 | .plain ws=>(ws.headD "" = "do" → ws.length=3)∧∀ n∈b8 ws,ef kv (.inr n)
 | .lend x y b=>ef kv (.inr x)∧ef kv (.inr y)∧ef kv (.inl (l:Int))∧f (l+1) b
 | .ite _ b c=>f (l+1) b∧f (l+1+cnt b+1) c
 | .whl _ b=>f (l+1) b
def fK(kv:List (aB × V)):Nat→Nat→List Stp→Prop
 | 0,_,_=>False
 | d+1,l,T=>∀ z∈dM (bi (ak d)) l T,tm kv (fK kv d) (ak d) z.1 z.2
section
variable{CN:Addr}
def xX(K:PySem.W.Frag)(C:Addr):Sp:=fun vs H Q _=>∃ (a sp:Addr) (l:Nat) (ws:List Str) (kv:List (aB × V)) (S:Addr→Prop) (PA:Addr→Nat→List Stp→Prop) (g:List Stp→Nat) (f:Nat→List Stp→Prop),vs=[.ref a,.ref sp]∧nstpAt K C g S PA H a l (.plain ws)∧gK ws∧H sp=some (.dK kv)∧tm kv f g l (.plain ws)∧
 ∀ (t:Addr) (H':Hp),Same H H'→bg H' t (dY kv l ws)→Q (.ref t) H'
theorem vp(D:DefAt K mg "simple_row" bw) (z_tuple:mg "tuple" = none) (a_kind:Fl K CN "kind") (a_parts:Fl K CN "parts") (a_lines:Fl K CN "lines"):ba P w K mg base 1 "simple_row" ["step", "slots"] (xX K CN):=by
 refine D.cal (k:=0) sc_simple_row (fun _ _ _ _ _ _ us hl=>match us,hl with | [_,_],_=>rfl) (fun vs H Q E h=>by obtain⟨_,_,_,_,_,_,_,_,_,rfl,_⟩:=h; rfl) (fun f cdv A outer s H vs Q E hr h=>?_)
 obtain⟨a,sp,l,ws,kv,S,PA,g,ff,rfl,⟨dx,pp,lp,bp,bs,g1,g2,g3,g4,g5,g6,g7⟩,ok,esp,⟨hk3,hks⟩,q⟩:=h
 refine⟨_,(ae (ar 2 sc_simple_row.nd (aw (aO K) (bO a_lines (pv 0 (hv:=ly))) ai (fun _ _=>rfl)) (hx:=F1))
   (ae (bG (aD bT (bO a_kind (pv 0 (hv:=ly))) al (aL _)) (aj (aA (bd (aa al (aa (pv 2 (hv:=Al)) (aa (aw (fj K) (pv 1 (hv:=C1)) (aw (aO K) (bO a_parts (pv 0 (hv:=ly))) ai (fun _ _=>rfl)) (fun _ _=>rfl)) (aa (aw (aO K) (bO a_parts (pv 0 (hv:=ly))) ai (fun _ _=>rfl)) ab))))))) aY)
   (aj (aA (ap (qa K) (bd (aa (bO a_kind (pv 0 (hv:=ly))) (aa (pv 2 (hv:=Al)) ab))) (fL (md K) z_tuple ko (aa (gq (CompSc.to (fsc:=(defScope bw)) (N:=["step", "slots", "line"]) (N0:=["step", "slots", "line"]) (T:=["name"]) ⟨by decide +kernel,by decide +kernel,by decide +kernel,by decide +kernel,by decide +kernel,by decide +kernel,by decide +kernel⟩ rfl rfl) rfl ((jH K) (bO a_parts (pv 0 (hv:=ly)))) (fun _ _ _ _=>(bt 3 (show (["step", "slots", "line", "name"]:List Str).Nodup from by decide +kernel) (hx:=(ju (defScope bw) (by decide +kernel))) (hf:=mw (defScope bw) (by decide +kernel)))) (eC (show (["step", "slots", "line"]:List Str).length≤3 from by decide)) (fun _ _ _ _=>iu) (fun _ _ _ _=>(aw (fj K) (pv 1 (hv:=(d0 (defScope bw) (by decide +kernel)))) (pv 3 (hv:=(d0 (defScope bw) (by decide +kernel)))) (fun _ _=>rfl)))) ab) (hg:=Gb))))))),?_⟩
 walk_at "rd1"
 refine⟨dx,_,_,g1,dS _ _ _ _,?_⟩
 walk_at "rd1"
 refine⟨_,_,.inl (SqL.of g4),em (i:=0) (n:=l) rfl,?_⟩
 walk_at "nx"
 refine⟨dx,_,_,g1,fv _ _ _ _,?_⟩
 walk_at "rd1"
 unfold dY at q
 unfold b8 at hks
 refine bh (fun c=>?_) (fun c=>?_)
 ·have hdo:ws.headD "" = "do" := c
  rw[if_pos hdo]at q hks
  obtain⟨k0,w0,x0,rfl⟩ : ∃ k w x,ws=[k,w,x]:=by
   have:=hk3 hdo
   match ws,this with
   | [k,w,x],_=>exact⟨k,w,x,rfl⟩
  have hx:=hks x0 (by simp)
  refine⟨dx,_,_,g1,eJ _ _ _ _,?_⟩
  walk_at "rd1"
  refine⟨_,_,.inr g2,bC (j:=1) (v:=.str x0) rfl,?_⟩
  refine .inr ⟨sp,kv,.inr x0,_,rfl,rfl,esp,hx,?_⟩
  refine⟨dx,_,_,g1,eJ _ _ _ _,?_⟩
  walk_at "rd1"
  refine⟨_,_,.inr g2,bC (j:=0) (v:=.str w0) rfl,by decide,fun t ht=>?_⟩
  exact q t _ (af ht _) ac
 ·have hdo:¬ ws.headD "" = "do" := c
  rw[if_neg hdo]at q hks
  walk_at "nx"
  refine⟨dx,_,_,g1,fv _ _ _ _,by decide,fun t1 ht1=>?_⟩
  generalize hH1:upd H t1 _=H1
  have s1:Same H H1:=by rw[← hH1]; exact af ht1 _
  have et1:H1 t1=some (.tup [.str (kindOf (.plain ws)),iN l]):=by rw[← hH1]; exact ac
  refine⟨dx,_,_,s1 _ _ g1,eJ _ _ _ _,?_⟩
  refine⟨pp,rfl,⟨_,g2.same s1⟩,fun L hL=>?_⟩
  have g2':SqT K H1 pp ((ws.drop 1).map V.str):=g2.same s1
  have esp1:=s1 _ _ esp
  refine mf (xs:=(ws.drop 1).map V.str) (fun i ys H'=>Same H1 H'∧H' L=some (.lst ys)∧ys=((ws.drop 1).take i).map fun n=>aX kv (.inr n)) ⟨af hL _,ac,rfl⟩ (fun i ys H' _ hh=>g2'.same hh.1) ?_ ?_
  ·rintro i ys H' v hv hi ⟨sm,hl,rfl⟩
   rw[List.length_map]at hi
   rw[List.getElem?_map,List.getElem?_eq_getElem hi]at hv
   cases hv
   have hn:=hks _ (List.getElem_mem hi)
   have h3:=ok.three
   have hdl:(ws.drop 1).length≤3:=by rw[List.length_drop]; omega
   walk_at "rd1"
   refine .inr ⟨sp,kv,.inr (ws.drop 1)[i],_,rfl,rfl,sm _ _ esp1,hn,?_⟩
   refine nC (by rw[List.length_map]; exact hi) (by rw[List.length_map,List.length_take]; omega) (by rw[List.length_map]; exact aQ (by omega)) hl ⟨sm.upd hL _,ac,?_⟩
   rw[List.take_add_one,List.getElem?_eq_getElem hi,List.map_append]; rfl
  ·rintro ys H2 ⟨s2,e2,rfl⟩
   rw[List.length_map,List.take_length]at e2
   have h2:=ok.two
   have h3:=ok.three
   have hdl:(ws.drop 1).length≤3∧1≤(ws.drop 1).length:=by rw[List.length_drop]; omega
   walk_at "rd1"
   refine⟨_,.inl ⟨SqL.of e2,fun t2 ht2=>?_⟩⟩
   have s3:=af ht2 (.tup ((ws.drop 1).map fun n=>aX kv (.inr n)))
   have et2:upd H2 t2 (.tup ((ws.drop 1).map fun n=>aX kv (.inr n))) t2=some (.tup ((ws.drop 1).map fun n=>aX kv (.inr n))):=ac
   generalize upd H2 t2 (.tup ((ws.drop 1).map fun n=>aX kv (.inr n)))=H3 at s3 et2 ⊢
   refine⟨_,_,SqT.of (s3 _ _ (s2 _ _ et1)),SqT.of et2,by simp,by rw[List.length_map]; exact aQ (by simp only[List.length_cons,List.length_nil]; omega),fun hz=>?_,fun _ t3 ht3=>?_⟩
   ·have:=congrArg List.length hz
    rw[List.length_map]at this
    simp only[List.length_nil]at this
    omega
   ·exact q t3 _ (((s1.trans s2).trans s3).trans (af ht3 _)) ac
end
def ListR(H:Hp)(q:Addr)(rows:List cD):Prop:=∃ as:List Addr,H q=some (.lst (as.map V.ref))∧Paired (bg H) as rows
theorem ListR.mono{H H':Hp}{q:Addr}{rows:List cD}(h:ListR H q rows)(s:Same H H'):ListR H' q rows:=let ⟨as,h1,h2⟩:=h; ⟨as,s _ _ h1,Paired.imp' (fun _ _ z=>s _ _ z) h2⟩
theorem dD{α β : Type}{R:α→β→Prop}:∀ {xs zs:List α} {ys us:List β},Paired R xs ys→Paired R zs us→Paired R (xs++zs) (ys++us)
 | _,_,_,_,.nil,h=>h
 | _,_,_,_,.cons a t,h=>.cons a (dD t h)
theorem eG{H:Hp}{x:Addr}{as bs:List Addr}{r1 r2:List cD}(a2:Paired (bg H) as r1)(b2:Paired (bg H) bs r2)(hx:H x=none):ListR (upd H x (.lst (as.map V.ref++bs.map V.ref))) x (r1++r2):=by
 have s:=af hx (.lst (as.map V.ref++bs.map V.ref))
 exact⟨as++bs,by rw[ac,List.map_append],dD (Paired.imp' (fun _ _ z=>s _ _ z) a2) (Paired.imp' (fun _ _ z=>s _ _ z) b2)⟩
theorem dL{H:Hp}{as bs:List Addr}{r1 r2:List cD}(a2:Paired (bg H) as r1)(b2:Paired (bg H) bs r2)(hl:r1.length+r2.length≤1000000):(as.map V.ref).length+(bs.map V.ref).length≤sizeLine:=by
 rw[List.length_map,List.length_map,av a2,av b2]; exact aQ hl
theorem dn{H:Hp}{c x:Addr}{r:cD}(hc:bg H c r)(hx:H x=none):ListR (upd H x (.lst [.ref c])) x [r]:=⟨[c],ac,.cons (af hx _ _ _ hc) .nil⟩
section
variable{CN:Addr}
def gr(K:PySem.W.Frag)(C:Addr)(d:Nat):Sp:=fun vs H Q _=>∃ (p sp:Addr) (a l:Nat) (t:Bool) (T:List Stp) (kv:List (aB × V)) (S:Addr→Prop),vs=[.ref p,.int (a:Int),.ref sp,.bl t]∧NumAt K C S d H p l T∧eh d T∧H sp=some (.dK kv)∧fK kv d l T∧ak d T≤200∧d≤20∧
 ∀ (q:Addr) (H':Hp),Same H H'→H q=none→ListR H' q (bf kv d t a l T)→Q (.ref q) H'
def vB(K:PySem.W.Frag)(C:Addr)(d:Nat):Sp:=fun vs H Q _=>∃ (x sp:Addr) (a l:Nat) (n:Int) (b:List Stp) (kv:List (aB × V)) (S:Addr→Prop),vs=[.ref x,.int (a:Int),.ref sp]∧nstpAt K C (ak d) S (NumAt K C S d H) H x l (.whl n b)∧eh d b∧H sp=some (.dK kv)∧fK kv d (l+1) b∧ak d b≤200∧d≤20∧
 ∀ (q:Addr) (H':Hp),Same H H'→H q=none→ListR H' q (fU (bf kv d) (ak d) a l n b)→Q (.ref q) H'
theorem dU{kv:List (aB × V)}{d a l:Nat}{t:Bool}{T:List Stp}(h:ak d T≤200)(hd:d≤20):(bf kv d t a l T).length≤30000:=by
 have h1:=pK kv d a l T
 have h2:6 * (d+1) * ak d T≤6 * 21 * 200:=Nat.mul_le_mul (by omega) h
 cases t with
 | false=>omega
 | true=>omega
theorem yU(D:DefAt K mg "loop_rows" bN) (z_len:mg "len" = none) (a_parts:Fl K CN "parts") (a_lines:Fl K CN "lines") (a_blocks:Fl K CN "blocks") {d:Nat} (c_rows_of:ba P w K mg base (3 * d+2) "rows_of" ["steps", "at", "slots", "turned"] (gr K CN d)):ba P w K mg base (3 * d+3) "loop_rows" ["step", "at", "slots"] (vB K CN d):=by
 refine D.cal (k:=3 * d+2) sc_loop_rows (fun _ _ _ _ _ _ us hl=>match us,hl with | [_,_,_],_=>rfl) (fun vs H Q E h=>by obtain⟨_,_,_,_,_,_,_,_,rfl,_⟩:=h; rfl) (fun f cdv A outer s H vs Q E hr h=>?_)
 obtain⟨x,sp,a,l,n,b,kv,S,rfl,⟨dx,pp,lp,bp,bs,g1,g2,g3,g4,g5,g6,g7⟩,ok,esp,hk,hc,hd,q⟩:=h
 obtain⟨q0,rfl⟩ : ∃ q0,bs=[q0]:=by
  cases g7 with
  | cons _ t=>cases t; exact⟨_,rfl⟩
 have hb:NumAt K CN S d H q0 (l+1) b:=by
  cases g7 with
  | cons h _=>exact h
 refine⟨_,(ae (ar 3 sc_loop_rows.nd (aG c_rows_of hr (aa (aw (aO K) (bO a_blocks (pv 0 (hv:=tT))) ai (fun _ _=>rfl)) (aa (ap az (pv 1 (hv:=xI)) ai) (aa (pv 2 (hv:=EA)) (aa fg ab)))) (hg:=Ec) (hle:=by omega)) (hx:=FI))
   (ae (ar 4 sc_loop_rows.nd (ap az (ap az (ap az (pv 1 (hv:=xI)) ai) (bv (bb K) z_len bQ (aa (pv 3 (hv:=AG)) ab) (hg:=GT))) ai) (hx:=F5))
   (aj (aA (ap az (ap az (a_ (aa (bd (aa al (aa (aw (aO K) (bO a_lines (pv 0 (hv:=tT))) ai (fun _ _=>rfl)) (aa (aw (aO K) (bO a_parts (pv 0 (hv:=tT))) ai (fun _ _=>rfl)) (aa (pv 4 (hv:=Em)) ab))))) ab)) (pv 3 (hv:=AG))) (a_ (aa (bd (aa al (aa (aw (aO K) (bO a_lines (pv 0 (hv:=tT))) ai (fun _ _=>rfl)) (aa (pv 1 (hv:=xI)) ab)))) ab))))))),?_⟩
 walk_at "rd1"
 refine⟨dx,_,_,g1,fZ _ _ _ _,?_⟩
 walk_at "rd1"
 refine⟨_,_,.inl (SqL.of g6),bC (j:=0) (v:=V.ref q0) rfl,?_⟩
 refine⟨q0,sp,a+1,l+1,false,b,kv,S,by simp,hb,ok,esp,hk,hc,hd,fun wq H1 s1 hwq hW=>?_⟩
 have hWl:=dU (kv:=kv) (a:=a+1) (l:=l+1) (t:=false) hc hd
 generalize hWW:bf kv d false (a+1) (l+1) b=W at hW hWl
 obtain⟨was,w1,w2⟩:=id hW
 have wl:=av w2
 walk_at "nx"
 refine⟨_,.inl (SqL.of w1),?_⟩
 rw[List.length_map,wl]
 walk_at "nx"
 refine⟨dx,_,_,s1 _ _ g1,dS _ _ _ _,?_⟩
 walk_at "rd1"
 refine⟨_,_,.inl (SqL.of (s1 _ _ g4)),em (i:=0) (n:=l) rfl,?_⟩
 refine⟨dx,_,_,s1 _ _ g1,eJ _ _ _ _,?_⟩
 walk_at "rd1"
 refine⟨_,_,.inr (g2.same s1),bC (j:=0) (v:=V.int n) rfl,by decide,fun t1 ht1=>?_⟩
 generalize hH2:upd H1 t1 _=H2
 have s2:Same H1 H2:=by rw[← hH2]; exact af ht1 _
 have et1:bg H2 t1 [.str "test", iN l,.int n,iN (a+1+W.length+1)]:=by
  show H2 t1=_
  rw[← hH2,ac]
  simp[iN]
 refine⟨by decide,fun l1 hl1=>?_⟩
 have s3:=af hl1 (.lst [.ref t1])
 have L1:=dn et1 hl1
 generalize upd H2 l1 (.lst [.ref t1])=H3 at s3 L1 ⊢
 have s13:=s2.trans s3
 obtain⟨as1,a1,a2⟩:=L1
 obtain⟨bs1,b1,b2⟩:=hW.mono s13
 refine⟨_,_,a1,b1,dL a2 b2 (by simp only[List.length_cons,List.length_nil]; omega),fun l2 hl2=>?_⟩
 have s4:=af hl2 (.lst (as1.map V.ref++bs1.map V.ref))
 have L2:=eG a2 b2 hl2
 generalize upd H3 l2 (.lst (as1.map V.ref++bs1.map V.ref))=H4 at s4 L2 ⊢
 have s04:=(s1.trans s13).trans s4
 refine⟨dx,_,_,s04 _ _ g1,dS _ _ _ _,?_⟩
 walk_at "rd1"
 refine⟨_,_,.inl (SqL.of (s04 _ _ g4)),em (i:=1) (n:=l+1+ak d b) rfl,by decide,fun t2 ht2=>?_⟩
 generalize hH5:upd H4 t2 _=H5
 have s5:Same H4 H5:=by rw[← hH5]; exact af ht2 _
 have et2:bg H5 t2 [.str "jump", iN (l+1+ak d b),iN a]:=by
  show H5 t2=_
  rw[← hH5,ac]
  simp[iN]
 refine⟨by decide,fun l3 hl3=>?_⟩
 have s6:=af hl3 (.lst [.ref t2])
 have L3:=dn et2 hl3
 generalize upd H5 l3 (.lst [.ref t2])=H6 at s6 L3 ⊢
 obtain⟨as2,c1,c2⟩:=L2.mono (s5.trans s6)
 obtain⟨bs2,d1,d2⟩:=L3
 refine⟨_,_,c1,d1,dL c2 d2 (by simp only[List.length_append,List.length_cons,List.length_nil]; omega),fun l4 hl4=>?_⟩
 have s7:=af hl4 (.lst (as2.map V.ref++bs2.map V.ref))
 have L4:=eG c2 d2 hl4
 generalize upd H6 l4 (.lst (as2.map V.ref++bs2.map V.ref))=H7 at s7 L4 ⊢
 refine q l4 H7 (((s04.trans s5).trans s6).trans s7) (((s04.trans s5).trans s6).free hl4) ?_
 unfold fU
 rw[hWW]
 exact L4
end
section
variable{CN:Addr}
def wI(K:PySem.W.Frag)(C:Addr)(d:Nat):Sp:=fun vs H Q _=>∃ (x sp:Addr) (a l:Nat) (t:Bool) (n:Int) (b:List Stp) (kv:List (aB × V)) (S:Addr→Prop),vs=[.ref x,.int (a:Int),.ref sp,.bl t]∧nstpAt K C (ak d) S (NumAt K C S d H) H x l (.whl n b)∧eh d b∧H sp=some (.dK kv)∧fK kv d (l+1) b∧ak d b≤200∧d≤20∧
 ∀ (q:Addr) (H':Hp),Same H H'→H q=none→ListR H' q (dJ (bf kv d) (ak d) t a l n b)→Q (.ref q) H'
theorem wU(D:DefAt K mg "while_rows" aV) (z_len:mg "len" = none) (a_parts:Fl K CN "parts") (a_lines:Fl K CN "lines") (a_blocks:Fl K CN "blocks") {d:Nat} (c_rows_of:ba P w K mg base (3 * d+2) "rows_of" ["steps", "at", "slots", "turned"] (gr K CN d)) (c_loop_rows:ba P w K mg base (3 * d+3) "loop_rows" ["step", "at", "slots"] (vB K CN d)):ba P w K mg base (3 * d+4) "while_rows" ["step", "at", "slots", "turned"] (wI K CN d):=by
 refine D.cal (k:=3 * d+3) sc_while_rows (fun _ _ _ _ _ _ us hl=>match us,hl with | [_,_,_,_],_=>rfl) (fun vs H Q E h=>by obtain⟨_,_,_,_,_,_,_,_,_,rfl,_⟩:=h; rfl) (fun f cdv A outer s H vs Q E hr h=>?_)
 obtain⟨x,sp,a,l,t,n,b,kv,S,rfl,hN,ok,esp,hk,hc,hd,q⟩:=h
 obtain⟨dx,pp,lp,bp,bs,g1,g2,g3,g4,g5,g6,g7⟩:=id hN
 obtain⟨q0,rfl⟩ : ∃ q0,bs=[q0]:=by
  cases g7 with
  | cons _ t=>cases t; exact⟨_,rfl⟩
 have hb:NumAt K CN S d H q0 (l+1) b:=by
  cases g7 with
  | cons h _=>exact h
 refine⟨_,(ae (bG (gF (fG (pv 3 (hv:=ES)))) (aj (aA (aG c_loop_rows hr (aa (pv 0 (hv:=oN)) (aa (pv 1 (hv:=ue)) (aa (pv 2 (hv:=wG)) ab))) (hg:=zW) (hle:=by omega)))) aY)
   (ae (ar 4 sc_while_rows.nd (aG c_rows_of hr (aa (aw (aO K) (bO a_blocks (pv 0 (hv:=oN))) ai (fun _ _=>rfl)) (aa (ap az (pv 1 (hv:=ue)) ai) (aa (pv 2 (hv:=wG)) (aa fg ab)))) (hg:=C3) (hle:=by omega)) (hx:=Fv))
   (ae (ar 5 sc_while_rows.nd (aG c_loop_rows hr (aa (pv 0 (hv:=oN)) (aa (ap az (ap az (pv 1 (hv:=ue)) ai) (bv (bb K) z_len bQ (aa (pv 4 (hv:=x3)) ab) (hg:=wc))) (aa (pv 2 (hv:=wG)) ab))) (hg:=zW) (hle:=by omega)) (hx:=CW))
   (ae (ar 6 sc_while_rows.nd (ap az (ap az (ap az (pv 1 (hv:=ue)) ai) (bv (bb K) z_len bQ (aa (pv 4 (hv:=x3)) ab) (hg:=wc))) (bv (bb K) z_len bQ (aa (pv 5 (hv:=zF)) ab) (hg:=wc))) (hx:=CY))
   (aj (aA (ap az (ap az (a_ (aa (bd (aa al (aa (aw (aO K) (bO a_lines (pv 0 (hv:=oN))) ai (fun _ _=>rfl)) (aa (aw (aO K) (bO a_parts (pv 0 (hv:=oN))) ai (fun _ _=>rfl)) (aa (pv 6 (hv:=EF)) ab))))) ab)) (pv 4 (hv:=x3))) (pv 5 (hv:=zF))))))))),?_⟩
 walk_at "rd1"
 cases t with
 | false=>
  refine bh (fun _=>?_) (fun c=>absurd rfl c)
  exact⟨x,sp,a,l,n,b,kv,S,rfl,hN,ok,esp,hk,hc,hd,fun q' H' s' hq' L'=>q q' H' s' hq' (by unfold dJ; rw[if_neg (by decide)]; exact L')⟩
 | true=>
  refine bh (fun c=>absurd c (by decide)) (fun _=>?_)
  walk_at "nx"
  refine⟨dx,_,_,g1,fZ _ _ _ _,?_⟩
  walk_at "rd1"
  refine⟨_,_,.inl (SqL.of g6),bC (j:=0) (v:=V.ref q0) rfl,?_⟩
  refine⟨q0,sp,a+1,l+1,true,b,kv,S,by simp,hb,ok,esp,hk,hc,hd,fun wq H1 s1 hwq hW=>?_⟩
  have hWl:=dU (kv:=kv) (a:=a+1) (l:=l+1) (t:=true) hc hd
  generalize hWW:bf kv d true (a+1) (l+1) b=W at hW hWl
  obtain⟨was,w1,w2⟩:=id hW
  have wl:=av w2
  walk_at "nx"
  refine⟨_,.inl (SqL.of w1),?_⟩
  rw[List.length_map,wl]
  walk_at "rd1"
  refine⟨x,sp,a+1+W.length,l,n,b,kv,S,by simp,hN.mono s1,ok,s1 _ _ esp,hk,hc,hd,fun lq H2 s2 hlq hLp=>?_⟩
  have hLl:(fU (bf kv d) (ak d) (a+1+W.length) l n b).length≤30002:=by
   rw[iI]
   have:=dU (kv:=kv) (a:=a+1+W.length+1) (l:=l+1) (t:=false) hc hd
   omega
  generalize hLL:fU (bf kv d) (ak d) (a+1+W.length) l n b=LP at hLp hLl
  obtain⟨las,l1,l2⟩:=id hLp
  have ll:=av l2
  have s12:=s1.trans s2
  walk_at "nx"
  refine⟨_,.inl (SqL.of (s2 _ _ w1)),?_⟩
  rw[List.length_map,wl]
  walk_at "rd1"
  refine⟨_,.inl (SqL.of l1),?_⟩
  rw[List.length_map,ll]
  walk_at "nx"
  refine⟨dx,_,_,s12 _ _ g1,dS _ _ _ _,?_⟩
  walk_at "rd1"
  refine⟨_,_,.inl (SqL.of (s12 _ _ g4)),em (i:=0) (n:=l) rfl,?_⟩
  refine⟨dx,_,_,s12 _ _ g1,eJ _ _ _ _,?_⟩
  walk_at "rd1"
  refine⟨_,_,.inr (g2.same s12),bC (j:=0) (v:=V.int n) rfl,by decide,fun t1 ht1=>?_⟩
  generalize hH3:upd H2 t1 _=H3
  have s3:Same H2 H3:=by rw[← hH3]; exact af ht1 _
  have et1:bg H3 t1 [.str "test", iN l,.int n,iN (a+1+W.length+LP.length)]:=by
   show H3 t1=_
   rw[← hH3,ac]
   simp[iN]
  refine⟨by decide,fun m1 hm1=>?_⟩
  have s4:=af hm1 (.lst [.ref t1])
  have L1:=dn et1 hm1
  generalize upd H3 m1 (.lst [.ref t1])=H4 at s4 L1 ⊢
  obtain⟨as1,a1,a2⟩:=L1
  obtain⟨bs1,b1,b2⟩:=hW.mono ((s2.trans s3).trans s4)
  refine⟨_,_,a1,b1,dL a2 b2 (by simp only[List.length_cons,List.length_nil]; omega),fun m2 hm2=>?_⟩
  have s5:=af hm2 (.lst (as1.map V.ref++bs1.map V.ref))
  have L2:=eG a2 b2 hm2
  generalize upd H4 m2 (.lst (as1.map V.ref++bs1.map V.ref))=H5 at s5 L2 ⊢
  obtain⟨as2,c1,c2⟩:=L2
  obtain⟨bs2,d1,d2⟩:=hLp.mono ((s3.trans s4).trans s5)
  refine⟨_,_,c1,d1,dL c2 d2 (by simp only[List.length_append,List.length_cons,List.length_nil]; omega),fun m3 hm3=>?_⟩
  have s6:=af hm3 (.lst (as2.map V.ref++bs2.map V.ref))
  have L4:=eG c2 d2 hm3
  generalize upd H5 m3 (.lst (as2.map V.ref++bs2.map V.ref))=H6 at s6 L4 ⊢
  have s05:=((s12.trans s3).trans s4).trans s5
  refine q m3 H6 (s05.trans s6) (s05.free hm3) ?_
  unfold dJ
  rw[if_pos rfl,hWW,hLL]
  exact L4
def BY(K:PySem.W.Frag)(C:Addr)(d:Nat):Sp:=fun vs H Q _=>∃ (x sp:Addr) (a l:Nat) (t:Bool) (n:Int) (b c:List Stp) (kv:List (aB × V)) (S:Addr→Prop),vs=[.ref x,.int (a:Int),.ref sp,.bl t]∧nstpAt K C (ak d) S (NumAt K C S d H) H x l (.ite n b c)∧eh d b∧eh d c∧H sp=some (.dK kv)∧fK kv d (l+1) b∧fK kv d (l+1+ak d b+1) c∧ak d b≤200∧ak d c≤200∧d≤20∧
 ∀ (q:Addr) (H':Hp),Same H H'→H q=none→ListR H' q (iL (bf kv d) (ak d) t a l n b c)→Q (.ref q) H'
theorem BU(D:DefAt K mg "if_rows" bA) (z_len:mg "len" = none) (a_parts:Fl K CN "parts") (a_lines:Fl K CN "lines") (a_blocks:Fl K CN "blocks") {d:Nat} (c_rows_of:ba P w K mg base (3 * d+2) "rows_of" ["steps", "at", "slots", "turned"] (gr K CN d)):ba P w K mg base (3 * d+3) "if_rows" ["step", "at", "slots", "turned"] (BY K CN d):=by
 refine D.cal (k:=3 * d+2) sc_if_rows (fun _ _ _ _ _ _ us hl=>match us,hl with | [_,_,_,_],_=>rfl) (fun vs H Q E h=>by obtain⟨_,_,_,_,_,_,_,_,_,_,rfl,_⟩:=h; rfl) (fun f cdv A outer s H vs Q E hr h=>?_)
 obtain⟨x,sp,a,l,t,n,b,c,kv,S,rfl,hN,ok,ok',esp,hk,hk',hc,hc',hd,q⟩:=h
 obtain⟨dx,pp,lp,bp,bs,g1,g2,g3,g4,g5,g6,g7⟩:=id hN
 obtain⟨q0,q1,rfl⟩ : ∃ q0 q1,bs=[q0,q1]:=by
  cases g7 with
  | cons _ t=>cases t with
   | cons _ t=>cases t; exact⟨_,_,rfl⟩
 have hb:NumAt K CN S d H q0 (l+1) b∧NumAt K CN S d H q1 (l+1+ak d b+1) c:=by
  cases g7 with
  | cons h t=>cases t with
   | cons h' _=>exact⟨h,h'⟩
 refine⟨_,(ae (ar 4 sc_if_rows.nd (aG c_rows_of hr (aa (aw (aO K) (bO a_blocks (pv 0 (hv:=oG))) ai (fun _ _=>rfl)) (aa (ap az (pv 1 (hv:=zX)) ai) (aa (pv 2 (hv:=AN)) (aa (pv 3 (hv:=AZ)) ab)))) (hg:=Ck) (hle:=by omega)) (hx:=Ge))
   (ae (ar 5 sc_if_rows.nd (ap az (ap az (pv 1 (hv:=zX)) ai) (bv (bb K) z_len bQ (aa (pv 4 (hv:=zN)) ab) (hg:=Cq))) (hx:=FQ))
   (ae (ar 6 sc_if_rows.nd (aG c_rows_of hr (aa (aw (aO K) (bO a_blocks (pv 0 (hv:=oG))) ai (fun _ _=>rfl)) (aa (ap az (pv 5 (hv:=wx)) ai) (aa (pv 2 (hv:=AN)) (aa (pv 3 (hv:=AZ)) ab)))) (hg:=Ck) (hle:=by omega)) (hx:=F4))
   (ae (ar 7 sc_if_rows.nd (ap az (ap az (pv 5 (hv:=wx)) ai) (bv (bb K) z_len bQ (aa (pv 6 (hv:=A0)) ab) (hg:=Cq))) (hx:=FC))
   (ae (ar 8 sc_if_rows.nd (bd (aa al (aa (aw (aO K) (bO a_lines (pv 0 (hv:=oG))) ai (fun _ _=>rfl)) (aa (aw (aO K) (bO a_parts (pv 0 (hv:=oG))) ai (fun _ _=>rfl)) (aa (ap az (pv 5 (hv:=wx)) ai) ab))))) (hx:=F3))
   (aj (aA (ap az (ap az (ap az (a_ (aa (pv 8 (hv:=Fh)) ab)) (pv 4 (hv:=zN))) (a_ (aa (bd (aa al (aa (aw (aO K) (bO a_lines (pv 0 (hv:=oG))) ai (fun _ _=>rfl)) (aa (pv 7 (hv:=D1)) ab)))) ab))) (pv 6 (hv:=A0)))))))))),?_⟩
 walk_at "rd1"
 refine⟨dx,_,_,g1,fZ _ _ _ _,?_⟩
 walk_at "rd1"
 refine⟨_,_,.inl (SqL.of g6),bC (j:=0) (v:=V.ref q0) rfl,?_⟩
 refine⟨q0,sp,a+1,l+1,t,b,kv,S,by simp,hb.1,ok,esp,hk,hc,hd,fun wq H1 s1 hwq hW=>?_⟩
 have hWl:=dU (kv:=kv) (a:=a+1) (l:=l+1) (t:=t) hc hd
 generalize hWW:bf kv d t (a+1) (l+1) b=W at hW hWl
 obtain⟨was,w1,w2⟩:=id hW
 have wl:=av w2
 walk_at "nx"
 refine⟨_,.inl (SqL.of w1),?_⟩
 rw[List.length_map,wl]
 walk_at "nx"
 refine⟨dx,_,_,s1 _ _ g1,fZ _ _ _ _,?_⟩
 walk_at "rd1"
 refine⟨_,_,.inl (SqL.of (s1 _ _ g6)),bC (j:=1) (v:=V.ref q1) rfl,?_⟩
 refine⟨q1,sp,a+1+W.length+1,l+1+ak d b+1,t,c,kv,S,by simp,hb.2.mono s1,ok',s1 _ _ esp,hk',hc',hd,fun rq H2 s2 hrq hR=>?_⟩
 have hRl:=dU (kv:=kv) (a:=a+1+W.length+1) (l:=l+1+ak d b+1) (t:=t) hc' hd
 generalize hRR:bf kv d t (a+1+W.length+1) (l+1+ak d b+1) c=R at hR hRl
 obtain⟨ras,r1,r2⟩:=id hR
 have rl:=av r2
 have s12:=s1.trans s2
 walk_at "nx"
 refine⟨_,.inl (SqL.of r1),?_⟩
 rw[List.length_map,rl]
 walk_at "nx"
 refine⟨dx,_,_,s12 _ _ g1,dS _ _ _ _,?_⟩
 walk_at "rd1"
 refine⟨_,_,.inl (SqL.of (s12 _ _ g4)),em (i:=0) (n:=l) rfl,?_⟩
 refine⟨dx,_,_,s12 _ _ g1,eJ _ _ _ _,?_⟩
 walk_at "rd1"
 refine⟨_,_,.inr (g2.same s12),bC (j:=0) (v:=V.int n) rfl,by decide,fun t1 ht1=>?_⟩
 generalize hH3:upd H2 t1 _=H3
 have s3:Same H2 H3:=by rw[← hH3]; exact af ht1 _
 have et1:bg H3 t1 [.str "test", iN l,.int n,iN (a+1+W.length+1)]:=by
  show H3 t1=_
  rw[← hH3,ac]
  simp[iN]
 walk_at "nx"
 refine⟨by decide,fun m1 hm1=>?_⟩
 have s4:=af hm1 (.lst [.ref t1])
 have L1:=dn et1 hm1
 generalize upd H3 m1 (.lst [.ref t1])=H4 at s4 L1 ⊢
 obtain⟨as1,a1,a2⟩:=L1
 obtain⟨bs1,b1,b2⟩:=hW.mono ((s2.trans s3).trans s4)
 refine⟨_,_,a1,b1,dL a2 b2 (by simp only[List.length_cons,List.length_nil]; omega),fun m2 hm2=>?_⟩
 have s5:=af hm2 (.lst (as1.map V.ref++bs1.map V.ref))
 have L2:=eG a2 b2 hm2
 generalize upd H4 m2 (.lst (as1.map V.ref++bs1.map V.ref))=H5 at s5 L2 ⊢
 have s05:=((s12.trans s3).trans s4).trans s5
 refine⟨dx,_,_,s05 _ _ g1,dS _ _ _ _,?_⟩
 walk_at "rd1"
 refine⟨_,_,.inl (SqL.of (s05 _ _ g4)),em (i:=1) (n:=l+1+ak d b) rfl,by decide,fun t2 ht2=>?_⟩
 generalize hH6:upd H5 t2 _=H6
 have s6:Same H5 H6:=by rw[← hH6]; exact af ht2 _
 have et2:bg H6 t2 [.str "jump", iN (l+1+ak d b),iN (a+1+W.length+1+R.length)]:=by
  show H6 t2=_
  rw[← hH6,ac]
  simp[iN]
 refine⟨by decide,fun m3 hm3=>?_⟩
 have s7:=af hm3 (.lst [.ref t2])
 have L3:=dn et2 hm3
 generalize upd H6 m3 (.lst [.ref t2])=H7 at s7 L3 ⊢
 obtain⟨as2,c1,c2⟩:=L2.mono (s6.trans s7)
 obtain⟨bs2,d1,d2⟩:=L3
 refine⟨_,_,c1,d1,dL c2 d2 (by simp only[List.length_append,List.length_cons,List.length_nil]; omega),fun m4 hm4=>?_⟩
 have s8:=af hm4 (.lst (as2.map V.ref++bs2.map V.ref))
 have L4:=eG c2 d2 hm4
 generalize upd H7 m4 (.lst (as2.map V.ref++bs2.map V.ref))=H8 at s8 L4 ⊢
 obtain⟨as3,e1,e2⟩:=L4
 obtain⟨bs3,f1,f2⟩:=hR.mono (((((s3.trans s4).trans s5).trans s6).trans s7).trans s8)
 refine⟨_,_,e1,f1,dL e2 f2 (by simp only[List.length_append,List.length_cons,List.length_nil]; omega),fun m5 hm5=>?_⟩
 have s9:=af hm5 (.lst (as3.map V.ref++bs3.map V.ref))
 have L5:=eG e2 f2 hm5
 generalize upd H8 m5 (.lst (as3.map V.ref++bs3.map V.ref))=H9 at s9 L5 ⊢
 have s08:=((s05.trans s6).trans s7).trans s8
 refine q m5 H9 (s08.trans s9) (s08.free hm5) ?_
 unfold iL
 rw[hWW,hRR]
 exact L5
end
section
variable{CN:Addr}
def zo(K:PySem.W.Frag)(C:Addr)(d:Nat):Sp:=fun vs H Q _=>∃ (z sp:Addr) (a l:Nat) (t:Bool) (x y:Str) (b:List Stp) (kv:List (aB × V)) (S:Addr→Prop),vs=[.ref z,.int (a:Int),.ref sp,.bl t]∧nstpAt K C (ak d) S (NumAt K C S d H) H z l (.lend x y b)∧eh d b∧H sp=some (.dK kv)∧ef kv (.inr x)∧ef kv (.inr y)∧ef kv (.inl (l:Int))∧fK kv d (l+1) b∧ak d b≤200∧d≤20∧
 ∀ (q:Addr) (H':Hp),Same H H'→H q=none→ListR H' q (fF kv (bf kv d) (ak d) t a l x y b)→Q (.ref q) H'
theorem gj{H:Hp}{c1 c2 c3 x:Addr}{r1 r2 r3:cD}(h1:bg H c1 r1)(h2:bg H c2 r2)(h3:bg H c3 r3)(hx:H x=none):ListR (upd H x (.lst [.ref c1,.ref c2,.ref c3])) x [r1,r2,r3]:=⟨[c1,c2,c3],ac,.cons (af hx _ _ _ h1) (.cons (af hx _ _ _ h2) (.cons (af hx _ _ _ h3) .nil))⟩
theorem yZ(D:DefAt K mg "lend_rows" aF) (z_len:mg "len" = none) (a_parts:Fl K CN "parts") (a_lines:Fl K CN "lines") (a_blocks:Fl K CN "blocks") {d:Nat} (c_rows_of:ba P w K mg base (3 * d+2) "rows_of" ["steps", "at", "slots", "turned"] (gr K CN d)):ba P w K mg base (3 * d+3) "lend_rows" ["step", "at", "slots", "turned"] (zo K CN d):=by
 refine D.cal (k:=3 * d+2) sc_lend_rows (fun _ _ _ _ _ _ us hl=>match us,hl with | [_,_,_,_],_=>rfl) (fun vs H Q E h=>by obtain⟨_,_,_,_,_,_,_,_,_,_,rfl,_⟩:=h; rfl) (fun f cdv A outer s H vs Q E hr h=>?_)
 obtain⟨z,sp,a,l,t,x,y,b,kv,S,rfl,hN,ok,esp,kx,ky,kl,hk,hc,hd,q⟩:=h
 obtain⟨dx,pp,lp,bp,bs,g1,g2,g3,g4,g5,g6,g7⟩:=id hN
 obtain⟨q0,rfl⟩ : ∃ q0,bs=[q0]:=by
  cases g7 with
  | cons _ t=>cases t; exact⟨_,rfl⟩
 have hb:NumAt K CN S d H q0 (l+1) b:=by
  cases g7 with
  | cons h _=>exact h
 refine⟨_,(ae (ar 4 sc_lend_rows.nd (aw (aO K) (bO a_lines (pv 0 (hv:=nY))) ai (fun _ _=>rfl)) (hx:=GN))
   (ae (ar 5 sc_lend_rows.nd (aw (aO K) (bO a_lines (pv 0 (hv:=nY))) ai (fun _ _=>rfl)) (hx:=Fk))
   (ae (ar 6 sc_lend_rows.nd (aw (fj K) (pv 2 (hv:=uk)) (aw (aO K) (bO a_parts (pv 0 (hv:=nY))) ai (fun _ _=>rfl)) (fun _ _=>rfl)) (hx:=F_))
   (ae (ar 7 sc_lend_rows.nd (aw (fj K) (pv 2 (hv:=uk)) (aw (aO K) (bO a_parts (pv 0 (hv:=nY))) ai (fun _ _=>rfl)) (fun _ _=>rfl)) (hx:=Gc))
   (ae (ar 8 sc_lend_rows.nd (aw (fj K) (pv 2 (hv:=uk)) (pv 4 (hv:=tV)) (fun _ _=>rfl)) (hx:=F0))
   (ae (ar 9 sc_lend_rows.nd (a_ (aa (bd (aa al (aa (pv 4 (hv:=tV)) (aa (pv 8 (hv:=oM)) (aa (pv 6 (hv:=Fe)) ab))))) (aa (bd (aa al (aa (pv 4 (hv:=tV)) (aa (pv 8 (hv:=oM)) (aa al ab))))) (aa (bd (aa al (aa (pv 4 (hv:=tV)) (aa (pv 7 (hv:=Ab)) (aa (pv 8 (hv:=oM)) ab))))) ab)))) (hx:=FK))
   (ae (ar 10 sc_lend_rows.nd (aG c_rows_of hr (aa (aw (aO K) (bO a_blocks (pv 0 (hv:=nY))) ai (fun _ _=>rfl)) (aa (ap az (pv 1 (hv:=Dx)) (bv (bb K) z_len bQ (aa (pv 9 (hv:=A9)) ab) (hg:=Gj))) (aa (pv 2 (hv:=uk)) (aa (pv 3 (hv:=CJ)) ab)))) (hg:=Gp) (hle:=by omega)) (hx:=FS))
   (aj (aA (ap az (ap az (pv 9 (hv:=A9)) (pv 10 (hv:=D8))) (a_ (aa (bd (aa al (aa (pv 5 (hv:=xf)) (aa (pv 8 (hv:=oM)) (aa al ab))))) (aa (bd (aa al (aa (pv 5 (hv:=xf)) (aa (pv 7 (hv:=Ab)) ab)))) (aa (bd (aa al (aa (pv 5 (hv:=xf)) (aa (pv 8 (hv:=oM)) ab)))) ab)))))))))))))),?_⟩
 walk_at "rd1"
 refine⟨dx,_,_,g1,dS _ _ _ _,?_⟩
 walk_at "rd1"
 refine⟨_,_,.inl (SqL.of g4),em (i:=0) (n:=l) rfl,?_⟩
 walk_at "nx"
 refine⟨dx,_,_,g1,dS _ _ _ _,?_⟩
 walk_at "rd1"
 refine⟨_,_,.inl (SqL.of g4),em (i:=1) (n:=l+1+ak d b) rfl,?_⟩
 walk_at "nx"
 refine⟨dx,_,_,g1,eJ _ _ _ _,?_⟩
 walk_at "rd1"
 refine⟨_,_,.inr g2,bC (j:=0) (v:=V.str x) rfl,.inr ⟨sp,kv,.inr x,_,rfl,rfl,esp,kx,?_⟩⟩
 walk_at "nx"
 refine⟨dx,_,_,g1,eJ _ _ _ _,?_⟩
 walk_at "rd1"
 refine⟨_,_,.inr g2,bC (j:=1) (v:=V.str y) rfl,.inr ⟨sp,kv,.inr y,_,rfl,rfl,esp,ky,?_⟩⟩
 walk_at "nx"
 refine .inr ⟨sp,kv,.inl (l:Int),_,rfl,rfl,esp,kl,?_⟩
 generalize hgx:aX kv (.inr x)=gx
 generalize hgy:aX kv (.inr y)=gy
 generalize hgl:aX kv (.inl (l:Int))=gl
 walk_at "nx"
 refine⟨by decide,fun t1 ht1=>?_⟩
 generalize hH1:upd H t1 _=H1
 have s1:Same H H1:=by rw[← hH1]; exact af ht1 _
 have r1:bg H1 t1 [.str "copy", iN l,gl,gx]:=by show H1 t1=_; rw[← hH1]; exact ac
 refine⟨by decide,fun t2 ht2=>?_⟩
 generalize hH2:upd H1 t2 _=H2
 have s2:Same H1 H2:=by rw[← hH2]; exact af ht2 _
 have r2:bg H2 t2 [.str "do", iN l,gl,.str "lend"]:=by show H2 t2=_; rw[← hH2]; exact ac
 refine⟨by decide,fun t3 ht3=>?_⟩
 generalize hH3:upd H2 t3 _=H3
 have s3:Same H2 H3:=by rw[← hH3]; exact af ht3 _
 have r3:bg H3 t3 [.str "copy", iN l,gy,gl]:=by show H3 t3=_; rw[← hH3]; exact ac
 refine⟨by decide,fun m1 hm1=>?_⟩
 have s4:=af hm1 (.lst [.ref t1,.ref t2,.ref t3])
 have L1:=gj (s3 _ _ (s2 _ _ r1)) (s3 _ _ r2) r3 hm1
 have em1:upd H3 m1 (.lst [.ref t1,.ref t2,.ref t3]) m1=some (.lst [.ref t1,.ref t2,.ref t3]):=ac
 generalize upd H3 m1 (.lst [.ref t1,.ref t2,.ref t3])=H4 at s4 L1 em1 ⊢
 have s04:=((s1.trans s2).trans s3).trans s4
 walk_at "nx"
 refine⟨dx,_,_,s04 _ _ g1,fZ _ _ _ _,?_⟩
 walk_at "rd1"
 refine⟨_,_,.inl (SqL.of (s04 _ _ g6)),bC (j:=0) (v:=V.ref q0) rfl,?_⟩
 walk_at "rd1"
 refine⟨_,.inl (SqL.of em1),?_⟩
 refine⟨q0,sp,a+3,l+1,t,b,kv,S,by simp,hb.mono s04,ok,s04 _ _ esp,hk,hc,hd,fun wq H5 s5 hwq hW=>?_⟩
 have hWl:=dU (kv:=kv) (a:=a+3) (l:=l+1) (t:=t) hc hd
 generalize hWW:bf kv d t (a+3) (l+1) b=W at hW hWl
 have s05:=s04.trans s5
 walk_at "nx"
 obtain⟨as1,a1,a2⟩:=L1.mono s5
 obtain⟨bs1,b1,b2⟩:=id hW
 refine⟨_,_,a1,b1,dL a2 b2 (by simp only[List.length_cons,List.length_nil]; omega),fun m2 hm2=>?_⟩
 have s6:=af hm2 (.lst (as1.map V.ref++bs1.map V.ref))
 have L2:=eG a2 b2 hm2
 generalize upd H5 m2 (.lst (as1.map V.ref++bs1.map V.ref))=H6 at s6 L2 ⊢
 refine⟨by decide,fun t4 ht4=>?_⟩
 generalize hH7:upd H6 t4 _=H7
 have s7:Same H6 H7:=by rw[← hH7]; exact af ht4 _
 have r4:bg H7 t4 [.str "do", iN (l+1+ak d b),gl,.str "back"]:=by show H7 t4=_; rw[← hH7]; exact ac
 refine⟨by decide,fun t5 ht5=>?_⟩
 generalize hH8:upd H7 t5 _=H8
 have s8:Same H7 H8:=by rw[← hH8]; exact af ht5 _
 have r5:bg H8 t5 [.str "drop", iN (l+1+ak d b),gy]:=by show H8 t5=_; rw[← hH8]; exact ac
 refine⟨by decide,fun t6 ht6=>?_⟩
 generalize hH9:upd H8 t6 _=H9
 have s9:Same H8 H9:=by rw[← hH9]; exact af ht6 _
 have r6:bg H9 t6 [.str "drop", iN (l+1+ak d b),gl]:=by show H9 t6=_; rw[← hH9]; exact ac
 refine⟨by decide,fun m3 hm3=>?_⟩
 have s10:=af hm3 (.lst [.ref t4,.ref t5,.ref t6])
 have L3:=gj (s9 _ _ (s8 _ _ r4)) (s9 _ _ r5) r6 hm3
 generalize upd H9 m3 (.lst [.ref t4,.ref t5,.ref t6])=H10 at s10 L3 ⊢
 obtain⟨as2,c1,c2⟩:=L2.mono (((s7.trans s8).trans s9).trans s10)
 obtain⟨bs2,d1,d2⟩:=L3
 refine⟨_,_,c1,d1,dL c2 d2 (by simp only[List.length_append,List.length_cons,List.length_nil]; omega),fun m4 hm4=>?_⟩
 have s11:=af hm4 (.lst (as2.map V.ref++bs2.map V.ref))
 have L4:=eG c2 d2 hm4
 generalize upd H10 m4 (.lst (as2.map V.ref++bs2.map V.ref))=H11 at s11 L4 ⊢
 have s010:=((((s05.trans s6).trans s7).trans s8).trans s9).trans s10
 refine q m4 H11 (s010.trans s11) (s010.free hm4) ?_
 unfold fF
 rw[hWW,hgx,hgy,hgl]
 exact L4
theorem rG(D:DefAt K mg "rows_of" bJ) (DL:DefAt K mg "lend_rows" aF) (DI:DefAt K mg "if_rows" bA) (DO:DefAt K mg "loop_rows" bN) (DW:DefAt K mg "while_rows" aV) (DS:DefAt K mg "simple_row" bw) (z_len:mg "len" = none) (z_tuple:mg "tuple" = none) (a_kind:Fl K CN "kind") (a_parts:Fl K CN "parts") (a_lines:Fl K CN "lines") (a_blocks:Fl K CN "blocks"):∀ d:Nat,ba P w K mg base (3 * d+2) "rows_of" ["steps", "at", "slots", "turned"] (gr K CN d)
 | 0=>D.cal (k:=1) sc_rows_of (fun _ _ _ _ _ _ us hl=>match us,hl with | [_,_,_,_],_=>rfl) (fun vs H Q E h=>by obtain⟨_,_,_,_,_,_,_,_,rfl,_⟩:=h; rfl) (fun f cdv A outer s H vs Q E hr h=>by obtain⟨_,_,_,_,_,_,_,_,rfl,z,_⟩:=h; exact z.elim)
 | d+1=>by
  have ih:=rG D DL DI DO DW DS z_len z_tuple a_kind a_parts a_lines a_blocks d
  have c_lend_rows:=yZ DL z_len a_parts a_lines a_blocks ih
  have c_if_rows:=BU DI z_len a_parts a_lines a_blocks ih
  have c_while_rows:=wU DW z_len a_parts a_lines a_blocks ih (yU DO z_len a_parts a_lines a_blocks ih)
  have c_simple_row:=vp (P:=P) (w:=w) (base:=base) DS z_tuple a_kind a_parts a_lines
  refine D.cal (k:=3 * d+4) sc_rows_of (fun _ _ _ _ _ _ us hl=>match us,hl with | [_,_,_,_],_=>rfl) (fun vs H Q E h=>by obtain⟨_,_,_,_,_,_,_,_,rfl,_⟩:=h; rfl) (fun f cdv A outer s H vs Q E hr h=>?_)
  obtain⟨p,sp,a,l,t,T,kv,S,rfl,⟨h0,as,h1,h2⟩,ok,esp,hk,hc,hd,q⟩:=h
  have hlen:=av h2
  rw[fT]at hlen
  refine⟨_,(ae (ar 4 sc_rows_of.nd (a_ ab) (hx:=Do))
   (ae (cE PassesOwn.never rfl (dj K (pv 0 (hv:=C8))) (bt 5 sc_rows_of.nd (hx:=D6)) (ae (ar 6 sc_rows_of.nd (ap az (pv 1 (hv:=D9)) (bv (bb K) z_len bQ (aa (pv 4 (hv:=lK)) ab) (hg:=DT))) (hx:=CV))
   (aj (bG (aD bT (bO a_kind (pv 5 (hv:=kf))) al (aL _)) (aj (bu (aW K PySem.F.plainAttrs_list PySem.F.slot_list_extend PySem.F.type_list_extend eU (pv 4 (hv:=lK)) (aa (aG c_lend_rows hr (aa (pv 5 (hv:=kf)) (aa (pv 6 (hv:=xD)) (aa (pv 2 (hv:=sW)) (aa (pv 3 (hv:=wB)) ab)))) (hg:=Dj) (hle:=by omega)) ab)))) (aj (bG (aD bT (bO a_kind (pv 5 (hv:=kf))) al (aL _)) (aj (bu (aW K PySem.F.plainAttrs_list PySem.F.slot_list_extend PySem.F.type_list_extend eU (pv 4 (hv:=lK)) (aa (aG c_if_rows hr (aa (pv 5 (hv:=kf)) (aa (pv 6 (hv:=xD)) (aa (pv 2 (hv:=sW)) (aa (pv 3 (hv:=wB)) ab)))) (hg:=CH) (hle:=by omega)) ab)))) (aj (bG (aD bT (bO a_kind (pv 5 (hv:=kf))) al (aL _)) (aj (bu (aW K PySem.F.plainAttrs_list PySem.F.slot_list_extend PySem.F.type_list_extend eU (pv 4 (hv:=lK)) (aa (aG c_while_rows hr (aa (pv 5 (hv:=kf)) (aa (pv 6 (hv:=xD)) (aa (pv 2 (hv:=sW)) (aa (pv 3 (hv:=wB)) ab)))) (hg:=CK) (hle:=by omega)) ab)))) (aj (bu (aW K PySem.F.plainAttrs_list PySem.F.slot_list_append PySem.F.type_list_append bc (pv 4 (hv:=lK)) (aa (aG c_simple_row hr (aa (pv 5 (hv:=kf)) (aa (pv 2 (hv:=sW)) ab)) (hg:=CG) (hle:=by omega)) ab))))))))))))
   (aj (aA (pv 4 (hv:=lK)))))),?_⟩
  walk_at "rd1"
  refine⟨by decide,fun R hR=>?_⟩
  have s1:=af hR (.lst [])
  have eR0:upd H R (.lst []) R=some (.lst (([]:List Addr).map V.ref)):=ac
  generalize upd H R (.lst [])=H1 at s1 eR0 ⊢
  walk_at "nx"
  refine⟨⟨_,SqL.of (s1 _ _ h1)⟩,?_⟩
  have hnR:∀ {z:Addr} {o:HO},H z=some o→z≠R:=fun e=>au e hR
  refine dc (xs:=as.map V.ref) (fun i σ H'=>∃ (o5 o6:Option V),σ=[some (.ref p),some (.int (a:Int)),some (.ref sp),some (.bl t),some (.ref R),o5,o6]∧Same H H'∧ListR H' R (bf kv (d+1) t a l (T.take i)))
   ⟨_,_,rfl,s1,[],eR0,.nil⟩ (fun i σ H' _ hh=>by obtain⟨_,_,_,sm,_⟩:=hh; exact SqL.of (sm _ _ h1)) (fun i v σ H2 hv hh=>?_) (fun σ H2 hh=>?_)
  ·obtain⟨o5,o6,rfl,sm,ras,r1,r2⟩:=hh
   rw[List.getElem?_map]at hv
   cases hi:as[i]? with
   | none=>rw[hi]at hv; cases hv
   | some x=>
    rw[hi]at hv; cases hv
    have hiT:i<T.length:=by have:=(List.getElem?_eq_some_iff.mp hi).1; omega
    have hs:=List.getElem?_eq_getElem hiT
    have hz:=rT (bi (ak d)) l T i _ hs
    obtain⟨z,hz1,hz2⟩:=bZ h2 hi
    rw[hz]at hz1
    have hz1:=Option.some.inj hz1
    subst hz1
    have hkz:=hk _ (List.mem_of_getElem? hz)
    have hmem:=List.getElem_mem hiT
    generalize T[i]=st at hs hz hz2 hkz hmem
    have oks:=ok st hmem
    have hcs:=lX (d:=d) hmem
    generalize hl':l+((T.take i).map (bi (ak d))).sum=l' at hz hz2 hkz
    have etk:T.take (i+1)=T.take i++[st]:=by rw[List.take_add_one,hs]; rfl
    have erow:bf kv (d+1) t a l (T.take (i+1))=bf kv (d+1) t a l (T.take i)++fX kv (bf kv d) (ak d) t (a+(bf kv (d+1) t a l (T.take i)).length) l' st:=by
     rw[etk]
     show cZ _ _ a l (T.take i++[st])=_
     rw[jP,hl']; rfl
    have hcnt:=oS (d:=d) (i:=i) (T:=T)
    have hpre:=dU (kv:=kv) (d:=d+1) (a:=a) (l:=l) (t:=t) (T:=T.take i) (by omega) hd
    rw[erow]
    generalize bf kv (d+1) t a l (T.take i)=pre at r2 hpre
    have rl:=av r2
    have hx2:=hz2.mono sm
    obtain⟨dx,pp,lp,bp,bs,g1,g2,g3,g4,g5,g6,g7⟩:=id hx2
    have put:∀ {b:Addr} {H3:Hp} {rows:List cD},Same H2 H3→ListR H3 b rows→b≠R→rows.length≤100000→∃ xs zs,H3 R=some (.lst xs)∧H3 b=some (.lst zs)∧xs.length+zs.length≤sizeLine∧(Same H (upd H3 R (.lst (xs++zs)))∧ListR (upd H3 R (.lst (xs++zs))) R (pre++rows)):=fun {b H3 rows} s3 hL hne hl3=>by
     obtain⟨bas,e1,e2⟩:=hL
     have bl:=av e2
     have eR3:=s3 _ _ r1
     have tp:∀ {c:Addr} {r:cD},bg H3 c r→bg (upd H3 R (.lst (ras.map V.ref++bas.map V.ref))) c r:=fun {c r} z=>by
      show upd H3 R _ c=_
      rw[ah (ci z eR3 (fun y=>nomatch y))]; exact z
     refine⟨_,_,eR3,e1,by rw[List.length_map,List.length_map,rl,bl]; exact aQ (by omega),fun c o y=>?_,ras++bas,by rw[ac,List.map_append],dD (Paired.imp' (fun _ _ y=>tp (s3 _ _ y)) r2) (Paired.imp' (fun _ _ y=>tp y) e2)⟩
     rw[ah (hnR y)]; exact s3 _ _ (sm _ _ y)
    walk_at "rd1"
    refine⟨_,.inl (SqL.of r1),?_⟩
    rw[List.length_map,rl]
    walk_at "nx"
    refine⟨dx,_,_,g1,fv _ _ _ _,?_⟩
    walk_at "rd1"
    have hst200:bi (ak d) st≤200:=by omega
    have hsl:(fX kv (bf kv d) (ak d) t (a+pre.length) l' st).length≤30000:=by
     have:=dU (kv:=kv) (d:=d+1) (a:=a+pre.length) (l:=l') (t:=t) (T:=[st]) (by show bi (ak d) st+0≤200; omega) hd
     have e:bf kv (d+1) t (a+pre.length) l' [st]=fX kv (bf kv d) (ak d) t (a+pre.length) l' st++[]:=rfl
     rw[e,List.append_nil]at this
     exact this
    cases st with
    | lend x0 y0 b0=>
     obtain⟨k1,k2,k3,k4⟩ : ef kv (.inr x0)∧ef kv (.inr y0)∧ef kv (.inl (l':Int))∧fK kv d (l'+1) b0:=hkz
     have hcb:ak d b0+2≤200:=hst200
     refine bh (fun _=>?_) (fun c=>absurd rfl c)
     refine⟨⟨_,SqL.of r1⟩,x,sp,a+pre.length,l',t,x0,y0,b0,kv,S,by simp,hx2,oks.2.2,sm _ _ esp,k1,k2,k3,k4,by omega,by omega,fun q' H3 s3 hq' L3=>?_⟩
     dsimp only
     rw[fJ]
     obtain⟨xs,zs,p1,p2,p3,p4,p5⟩:=put s3 L3 (au r1 hq').symm (by have:(fF kv (bf kv d) (ak d) t (a+pre.length) l' x0 y0 b0).length≤30000:=hsl; omega)
     exact⟨xs,zs,p1,p2,p3,_,_,rfl,p4,p5⟩
    | ite n0 b0 c0=>
     obtain⟨k1,k2⟩ : fK kv d (l'+1) b0∧fK kv d (l'+1+ak d b0+1) c0:=hkz
     have hcb:ak d b0+ak d c0+3≤200:=hst200
     refine bh (fun c=>absurd c (by show ¬ (Str.ofString "if" = Str.ofString "lend"); decide +kernel)) (fun _=>?_)
     refine⟨dx,_,_,g1,fv _ _ _ _,?_⟩
     walk_at "rd1"
     refine bh (fun _=>?_) (fun c=>absurd rfl c)
     refine⟨⟨_,SqL.of r1⟩,x,sp,a+pre.length,l',t,n0,b0,c0,kv,S,by simp,hx2,oks.2.1,oks.2.2,sm _ _ esp,k1,k2,by omega,by omega,by omega,fun q' H3 s3 hq' L3=>?_⟩
     dsimp only
     rw[fJ]
     obtain⟨xs,zs,p1,p2,p3,p4,p5⟩:=put s3 L3 (au r1 hq').symm (by have:(iL (bf kv d) (ak d) t (a+pre.length) l' n0 b0 c0).length≤30000:=hsl; omega)
     exact⟨xs,zs,p1,p2,p3,_,_,rfl,p4,p5⟩
    | whl n0 b0=>
     have k1:fK kv d (l'+1) b0:=hkz
     have hcb:ak d b0+2≤200:=hst200
     refine bh (fun c=>absurd c (by show ¬ (Str.ofString "while" = Str.ofString "lend"); decide +kernel)) (fun _=>?_)
     refine⟨dx,_,_,g1,fv _ _ _ _,?_⟩
     walk_at "rd1"
     refine bh (fun c=>absurd c (by show ¬ (Str.ofString "while" = Str.ofString "if"); decide +kernel)) (fun _=>?_)
     refine⟨dx,_,_,g1,fv _ _ _ _,?_⟩
     walk_at "rd1"
     refine bh (fun _=>?_) (fun c=>absurd rfl c)
     refine⟨⟨_,SqL.of r1⟩,x,sp,a+pre.length,l',t,n0,b0,kv,S,by simp,hx2,oks.2,sm _ _ esp,k1,by omega,by omega,fun q' H3 s3 hq' L3=>?_⟩
     dsimp only
     rw[fJ]
     obtain⟨xs,zs,p1,p2,p3,p4,p5⟩:=put s3 L3 (au r1 hq').symm (by have:(dJ (bf kv d) (ak d) t (a+pre.length) l' n0 b0).length≤30000:=hsl; omega)
     exact⟨xs,zs,p1,p2,p3,_,_,rfl,p4,p5⟩
    | plain ws=>
     have hkd:ws.headD "" ∈ c_:=oks.kind
     have nk:∀ {u:Str},u∉c_→¬ kindOf (.plain ws)=u:=fun hu c=>hu (by have c':ws.headD "" = _:=c; rw[← c']; exact hkd)
     refine bh (fun c=>absurd c (nk (by decide +kernel))) (fun _=>?_)
     refine⟨dx,_,_,g1,fv _ _ _ _,?_⟩
     walk_at "rd1"
     refine bh (fun c=>absurd c (nk (by decide +kernel))) (fun _=>?_)
     refine⟨dx,_,_,g1,fv _ _ _ _,?_⟩
     walk_at "rd1"
     refine bh (fun c=>absurd c (nk (by decide +kernel))) (fun _=>?_)
     refine⟨⟨_,SqL.of r1⟩,x,sp,l',ws,kv,S,_,ak d,fK kv d,rfl,hx2,oks,sm _ _ esp,hkz,fun c H3 s3 hc3=>?_⟩
     have eR3:=s3 _ _ r1
     have tp:∀ {c:Addr} {r:cD},bg H3 c r→∀ zs,bg (upd H3 R (.lst zs)) c r:=fun {c r} z zs=>by
      show upd H3 R _ c=_
      rw[ah (ci z eR3 (fun y=>nomatch y))]; exact z
     walk_at "rd1"
     refine⟨_,eR3,bn (by rw[List.length_map]; omega),_,_,rfl,fun c' o y=>?_,ras++[c],by rw[ac,List.map_append]; rfl,dD (Paired.imp' (fun _ _ y=>tp (s3 _ _ y) _) r2) (.cons (tp hc3 _) .nil)⟩
     rw[ah (hnR y)]; exact s3 _ _ (sm _ _ y)
  ·obtain⟨o5,o6,rfl,sm,hL⟩:=hh
   rw[List.length_map,hlen,List.take_length]at hL
   walk_at "nx"
   exact q R H2 sm hR hL
end
def fW(s:Str):Bool:=decide (0+("lend " : Str).length≤s.length)&&PySem.Builtin.Str.subAt s "lend " 0
def dG(L:List Str):List Nat:=(List.range L.length).filter fun i=>fW (L.getD i "")
def jV(d:Nat):Sp:=fun vs H Q _=>∃ (p:Addr) (L:List Str),vs=[.ref p]∧LinesAt d H p L∧L.length≤1000∧∀ (q:Addr) (H':Hp),Same H H'→H q=none→H' q=some (.lst ((dG L).map iN))→Q (.ref q) H'
theorem fY(f:Nat→Bool)(i:Nat):(List.range (i+1)).filter f=(List.range i).filter f++(if f i=true then [i] else []):=by
 rw[List.range_succ,List.filter_append]
 congr 1
 rw[List.filter_cons]
 split <;> rfl
theorem pD(D:DefAt K mg "lend_lines" bF) (z_enumerate:mg "enumerate" = none) {d k:Nat} (c_lines_of:ba P w K mg base k "lines_of" ["program"] (rB d)):ba P w K mg base (k+1) "lend_lines" ["program"] (jV d):=by
 refine D.cal (k:=k) nu (fun _ _ _ _ _ _ us hl=>match us,hl with | [_],_=>rfl) (fun vs H Q E h=>by obtain⟨_,_,rfl,_⟩:=h; rfl) (fun f cdv A outer s H vs Q E hr h=>?_)
 obtain⟨p,L,rfl,hL,hl,q⟩:=h
 refine⟨_,(aj (aA (gq (CompSc.to (fsc:=(defScope bF)) (N:=["program"]) (N0:=["program"]) (T:=["at", "line"]) ⟨by decide +kernel,by decide +kernel,by decide +kernel,by decide +kernel,by decide +kernel,by decide +kernel,by decide +kernel⟩ rfl rfl) rfl (pT K FE z_enumerate (aa (aG c_lines_of hr (aa (pv 0 (hv:=Gy)) ab) (hg:=Gh) (hle:=by omega)) ab)) (fun _ _ _ _=>(eR K (n:=2) (b6 (bt 1 (show (["program", "at", "line"]:List Str).Nodup from by decide +kernel) (hx:=(ju (defScope bF) (by decide +kernel))) (hf:=mw (defScope bF) (by decide +kernel))) (b6 (bt 2 (show (["program", "at", "line"]:List Str).Nodup from by decide +kernel) (hx:=(ju (defScope bF) (by decide +kernel))) (hf:=mw (defScope bF) (by decide +kernel))) eQ)))) (ze (mI (eC (show (["program"]:List Str).length≤1 from by decide)) lV (mI (eC (show (["program"]:List Str).length≤2 from by decide)) lV xN rg) (xk lV rg))) (fun _ _ _ _=>(j7 (fG (aW K PySem.F.plainAttrs_str PySem.F.slot_str_startswith PySem.F.type_str_startswith nr (pv 2 (hv:=(d0 (defScope bF) (by decide +kernel)))) (aa al ab))))) (fun _ _ _ _=>(pv 1 (hv:=(d0 (defScope bF) (by decide +kernel)))))))),?_⟩
 walk_at "rd1"
 refine⟨p,L,rfl,hL,by omega,fun lq H1 s1 hlq e1=>?_⟩
 refine⟨lq,rfl,⟨_,e1⟩,fun R hR=>?_⟩
 refine tS (xs:=L.map V.str) (fun i ys H'=>∃ ns:List Nat,Same H1 H'∧H' R=some (.lst ys)∧ys=ns.map iN∧ns.length≤i∧ns=(List.range i).filter fun j=>fW (L.getD j "")) ⟨[],af hR _,ac,rfl,Nat.le_refl _,rfl⟩ (fun i ys H' _ hh=>by obtain⟨_,sm,_⟩:=hh; exact SqL.of (sm _ _ e1)) ?_ ?_
 ·rintro i ys H' v t hv hi ⟨ns,sm,hl',rfl,hnl,hns⟩ ht
  rw[List.length_map]at hi
  rw[List.getElem?_map,List.getElem?_eq_getElem hi]at hv
  cases hv
  have s2:=af ht (.tup [.int (i:Int),.str L[i]])
  have et:upd H' t (.tup [.int (i:Int),.str L[i]]) t=some (.tup [.int (i:Int),.str L[i]]):=ac
  generalize upd H' t (.tup [.int (i:Int),.str L[i]])=H2 at s2 et ⊢
  have sm2:=sm.trans s2
  have eR2:=s2 _ _ hl'
  have hg:fW (L.getD i "")=(decide (0+("lend " : Str).length≤L[i].length)&&PySem.Builtin.Str.subAt L[i] "lend " 0):=by
   unfold fW
   rw[List.getD_eq_getElem?_getD,List.getElem?_eq_getElem hi]; rfl
  walk_at "rd1"
  refine⟨t,_,rfl,SqT.of et,rfl,?_⟩
  walk_at "rd1"
  rw[← hg]
  refine bh (fun c=>?_) (fun c=>?_)
  ·refine pb (by rw[List.length_map]; exact hi) (by rw[List.length_map]; exact hnl) (by rw[List.length_map]; exact aQ (by omega)) eR2 ⟨ns++[i],sm2.upd hR _,ac,oT _ _,by simp; omega,?_⟩
   rw[fY,if_pos c,← hns]
  ·refine uq (by rw[List.length_map]; exact hi) ⟨ns,sm2,eR2,rfl,by omega,?_⟩
   rw[fY,if_neg c,← hns,List.append_nil]
 ·rintro ys H2 ⟨ns,s2,e2,rfl,_,hns⟩
  rw[List.length_map]at hns
  refine q R H2 (s1.trans s2) (s1.free hR) ?_
  rw[hns]at e2
  exact e2
def ii(ks:List aB):List (aB × V):=(List.range ks.length).foldl (fun acc i=>aT acc (ks.getD i (.inl 0)) (iN i)) []
def gf(ks:List aB)(i:Nat):List (aB × V):=(List.range i).foldl (fun acc i=>aT acc (ks.getD i (.inl 0)) (iN i)) []
theorem gR(ks:List aB)(i:Nat):gf ks (i+1)=aT (gf ks i) (ks.getD i (.inl 0)) (iN i):=by
 unfold gf; rw[List.range_succ,List.foldl_append]; rfl
theorem oQ(ks:List aB):∀ i,(gf ks i).length≤i
 | 0=>Nat.le_refl _
 | i+1=>by
  have:=oQ ks i
  rw[gR]
  unfold aT
  split
  ·rw[List.length_map]; omega
  ·rw[List.length_append]; simp; omega
theorem oW(ks:List aB):∀ (i j:Nat) k,j<i→ks[j]? = some k→(aK (gf ks i) k).isSome=true
 | 0,j,_,h,_=>absurd h (Nat.not_lt_zero _)
 | i+1,j,k,h,hk=>by
  rw[gR,dC]
  split
  ·rfl
  ·rename_i c
   rcases Nat.lt_or_ge j i with z | z
   ·exact oW ks i j k z hk
   ·have:j=i:=by omega
    subst this
    exact absurd (by rw[List.getD_eq_getElem?_getD,hk]; rfl) c
theorem jA{ks:List aB}{k:aB}(h:k∈ks):ef (ii ks) k:=by
 obtain⟨j,hj⟩:=List.mem_iff_getElem?.mp h
 have:=oW ks ks.length j k (List.getElem?_eq_some_iff.mp hj).1 hj
 show aK (gf ks ks.length) k=some (aX (gf ks ks.length) k)
 unfold aX
 cases e:aK (gf ks ks.length) k with
 | none=>rw[e]at this; cases this
 | some v=>rfl
section
variable{NO:Hp→Addr→List Str→Prop}
def A8(NO:Hp→Addr→List Str→Prop):Sp:=fun vs H Q _=>∃ (p:Addr) (NM:List Str),vs=[.ref p]∧NO H p NM∧∀ (q:Addr) (H':Hp),Same H H'→H q=none→H' q=some (.lst (NM.map V.str))→Q (.ref q) H'
def cC(NM:List Str)(L:List Str):List aB:=NM.map Sum.inr++(dG L).map fun (n:Nat)=>Sum.inl (n:Int)
def rH(NO:Hp→Addr→List Str→Prop)(d:Nat):Sp:=fun vs H Q _=>∃ (p:Addr) (NM L:List Str),vs=[.ref p]∧NO H p NM∧LinesAt d H p L∧L.length≤1000∧NM.length≤1000∧∀ (q:Addr) (H':Hp),Same H H'→H q=none→H' q=some (.dK (ii (cC NM L)))→Q (.ref q) H'
theorem x6(noM:∀ {H H':Hp} {p:Addr} {NM:List Str},NO H p NM→Same H H'→NO H' p NM)(D:DefAt K mg "slots_of" bR) (z_enumerate:mg "enumerate" = none) {d k:Nat} (c_names_of:ba P w K mg base k "names_of" ["program"] (A8 NO)) (c_lend_lines:ba P w K mg base k "lend_lines" ["program"] (jV d)):ba P w K mg base (k+1) "slots_of" ["program"] (rH NO d):=by
 refine D.cal (k:=k) sc_slots_of (fun _ _ _ _ _ _ us hl=>match us,hl with | [_],_=>rfl) (fun vs H Q E h=>by obtain⟨_,_,_,rfl,_⟩:=h; rfl) (fun f cdv A outer s H vs Q E hr h=>?_)
 obtain⟨p,NM,L,rfl,hN,hL,hl,hnl,q⟩:=h
 refine⟨_,(ae (ar 1 sc_slots_of.nd iz (hx:=GC))
   (ae (cE PassesOwn.never rfl (pT K GA z_enumerate (aa (ap az (aG c_names_of hr (aa (pv 0 (hv:=CF)) ab) (hg:=GS) (hle:=by omega)) (aG c_lend_lines hr (aa (pv 0 (hv:=CF)) ab) (hg:=FG) (hle:=by omega))) ab)) (eR K (n:=2) (b6 (bt 2 sc_slots_of.nd (hx:=GI)) (b6 (bt 3 sc_slots_of.nd (hx:=Gf)) eQ))) (aj (hJ (pv 2 (hv:=En)) (kH (pv 1 (hv:=A2)) (pv 3 (hv:=DR)) (nI hr)))))
   (aj (aA (pv 1 (hv:=A2)))))),?_⟩
 walk_at "rd1"
 intro RD hRD
 have s1:=af hRD (.dK [])
 have eRD:upd H RD (.dK []) RD=some (.dK (gf (cC NM L) 0)):=ac
 generalize upd H RD (.dK [])=H1 at s1 eRD ⊢
 walk_at "nx"
 refine⟨p,NM,rfl,noM hN s1,fun nq H2 s2 hnq e2=>?_⟩
 have s12:=s1.trans s2
 refine⟨p,L,rfl,hL.mono _ s12,hl,fun lq H3 s3 hlq e3=>?_⟩
 have hll:(dG L).length≤1000:=by
  unfold dG
  refine Nat.le_trans (List.length_filter_le _ _) ?_
  rw[List.length_range]; exact hl
 dsimp only
 rw[gZ]
 refine⟨_,_,s3 _ _ e2,e3,by rw[List.length_map,List.length_map]; exact aQ (by omega),fun cq hcq=>?_⟩
 have ecat:NM.map V.str++(dG L).map iN=(cC NM L).map kV:=by
  unfold cC
  rw[List.map_append,List.map_map,List.map_map]; rfl
 rw[ecat]
 have hkl:(cC NM L).length≤2000:=by unfold cC; rw[List.length_append,List.length_map,List.length_map]; omega
 generalize hks:cC NM L=ks at eRD hkl q ⊢
 have s4:=af hcq (.lst (ks.map kV))
 have ecq:upd H3 cq (.lst (ks.map kV)) cq=some (.lst (ks.map kV)):=ac
 generalize upd H3 cq (.lst (ks.map kV))=H4 at s4 ecq ⊢
 have s24:=(s2.trans s3).trans s4
 have eRD4:=s24 _ _ eRD
 have ncR:cq≠RD:=ci ecq eRD4 (fun z=>nomatch z)
 walk_at "rd1"
 refine⟨⟨_,ecq⟩,?_⟩
 refine uF (xs:=ks.map kV) (fun i σ H'=>∃ (o2 o3:Option V),σ=[some (.ref p),some (.ref RD),o2,o3]∧(∀ b o,b≠RD→H4 b=some o→H' b=some o)∧H' RD=some (.dK (gf ks i)))
  ⟨_,_,rfl,fun _ _ _ z=>z,eRD4⟩ (fun i σ H' _ hh=>by obtain⟨_,_,_,sb,_⟩:=hh; exact SqL.of (sb _ _ ncR ecq)) (fun i v t σ H5 hv hh ht=>?_) (fun σ H5 hh=>?_)
 ·obtain⟨o2,o3,rfl,sb,e5⟩:=hh
  rw[List.getElem?_map]at hv
  cases hi:ks[i]? with
  | none=>rw[hi]at hv; cases hv
  | some k0=>
   rw[hi]at hv; cases hv
   have hil:=(List.getElem?_eq_some_iff.mp hi).1
   have s6:=af ht (.tup [.int (i:Int),kV k0])
   have et:upd H5 t (.tup [.int (i:Int),kV k0]) t=some (.tup [.int (i:Int),kV k0]):=ac
   generalize upd H5 t (.tup [.int (i:Int),kV k0])=H6 at s6 et ⊢
   have hkt:=oQ ks i
   walk_at "rd1"
   refine⟨t,_,rfl,SqT.of et,rfl,?_⟩
   walk_at "rd1"
   refine⟨RD,_,k0,rfl,rfl,s6 _ _ e5,bn (by omega),_,_,rfl,fun b o hb z=>by rw[ah hb]; exact s6 _ _ (sb b o hb z),?_⟩
   rw[ac,gR,List.getD_eq_getElem?_getD,hi]; rfl
 ·obtain⟨o2,o3,rfl,sb,e5⟩:=hh
  rw[List.length_map]at e5
  walk_at "nx"
  refine q RD H5 (fun b o z=>sb b o (au z hRD) (s4 _ _ (s3 _ _ (s12 _ _ z)))) hRD e5
end
theorem nU{f:List Stp→List Str}{g:List Stp→Nat}(h:∀ T,(f T).length=g T):∀ s:Stp,(bU f s).length=bi g s
 | .plain _=>rfl
 | .lend _ _ b=>by simp[bU,bi,h]
 | .ite _ b c=>by simp[bU,bi,h]; omega
 | .whl _ b=>by simp[bU,bi,h]
theorem iZ:∀ (d:Nat) (T:List Stp),(b7 d T).length=ak d T
 | 0,_=>rfl
 | d+1,T=>by
  show (T.flatMap (bU (b7 d))).length=(T.map (bi (ak d))).sum
  induction T with
  | nil=>rfl
  | cons s T ih=>rw[List.flatMap_cons,List.length_append,List.map_cons,List.sum_cons,ih,nU (iZ d)]
def Sub(L:List Str)(l:Nat)(X:List Str):Prop:=∀ (i:Nat) s,X[i]? = some s→L[l+i]? = some s
theorem Sub.left{L X Y:List Str}{l:Nat}(h:Sub L l (X++Y)):Sub L l X:=fun i s e=>h i s (by rw[List.getElem?_append_left (List.getElem?_eq_some_iff.mp e).1]; exact e)
theorem Sub.right{L X Y:List Str}{l:Nat}(h:Sub L l (X++Y)):Sub L (l+X.length) Y:=fun i s e=>by
 have:=h (X.length+i) s (by rw[List.getElem?_append_right (by omega),Nat.add_sub_cancel_left]; exact e)
 rw[← Nat.add_assoc]at this; exact this
def mG(f:List Stp→Prop)(N:Str→Prop):Stp→Prop
 | .plain ws=>(ws.headD "" = "do" → ws.length=3)∧∀ n∈b8 ws,N n
 | .lend x y b=>N x∧N y∧f b
 | .ite _ b c=>f b∧f c
 | .whl _ b=>f b
def gY(N:Str→Prop):Nat→List Stp→Prop
 | 0,_=>False
 | d+1,T=>∀ s∈T,mG (gY N d) N s
theorem m9(x y:Str):fW (Txt.join " " ["lend", x,y])=true:=by
 have e:Txt.join " " ["lend", x,y]=("lend " : Str)++(x++((" " : Str)++y)):=by
  apply jz
  have h1:("lend " : Str).cps.toList=("lend" : Str).cps.toList++(" " : Str).cps.toList:=by decide +kernel
  rw[dm,dm,dm,h1]
  show ((("lend" : Str).cps++(" " : Str).cps++x.cps)++(" " : Str).cps++y.cps).toList=_
  simp only[Array.toList_append,List.append_assoc]
 rw[e]
 unfold fW
 have hl:("lend " : Str).length=5:=by decide +kernel
 rw[Str.length_append,hl,decide_eq_true (by omega),Bool.true_and]
 unfold PySem.Builtin.Str.subAt
 rw[hl,beq_iff_eq]
 apply Array.ext'
 rw[Array.toList_extract,dm]
 have h5:("lend " : Str).cps.toList.length=5:=by decide +kernel
 simp[List.extract_eq_drop_take,List.take_append,h5]
theorem uL{L:List Str}{i:Nat}{s:Str}(h:L[i]? = some s)(hs:fW s=true):i∈dG L:=by
 unfold dG
 rw[List.mem_filter]
 refine⟨List.mem_range.mpr (List.getElem?_eq_some_iff.mp h).1,?_⟩
 rw[List.getD_eq_getElem?_getD,h]; exact hs
section
variable{NM L:List Str}
theorem xT{f:Nat→List Stp→Prop}{g:List Stp→Prop}{d l:Nat}(hf:∀ l b,Sub L l (b7 d b)→g b→f l b):∀ (s:Stp),Sub L l (bU (b7 d) s)→mG g (fun n=>n∈NM) s→tm (ii (cC NM L)) f (ak d) l s
 | .plain ws,_,⟨h1,h2⟩=>⟨h1,fun n hn=>jA (by unfold cC; exact List.mem_append_left _ (List.mem_map.mpr ⟨n,h2 n hn,rfl⟩))⟩
 | .lend x y b,hS,⟨hx,hy,hb⟩=>by
  have hh:L[l]? = some (Txt.join " " ["lend", x,y]):=hS 0 _ rfl
  refine⟨jA (by unfold cC; exact List.mem_append_left _ (List.mem_map.mpr ⟨x,hx,rfl⟩)),jA (by unfold cC; exact List.mem_append_left _ (List.mem_map.mpr ⟨y,hy,rfl⟩)),jA (by unfold cC; exact List.mem_append_right _ (List.mem_map.mpr ⟨l,uL hh (m9 x y),rfl⟩)),hf _ _ ?_ hb⟩
  have:Sub L l ([Txt.join " " ["lend", x,y]]++(b7 d b++[("back" : Str)])):=hS
  exact this.right.left
 | .ite n b c,hS,⟨hb,hc⟩=>by
  have:Sub L l ([Txt.join " " ["if", bI n]]++((b7 d b++[("else" : Str)])++(b7 d c++[("fi" : Str)]))):=hS
  refine⟨hf _ _ this.right.left.left hb,hf _ _ ?_ hc⟩
  have h2:=this.right.right.left
  rw[List.length_append,iZ,List.length_singleton,List.length_singleton]at h2
  rw[show l+1+ak d b+1=l+1+(ak d b+1) by omega]; exact h2
 | .whl n b,hS,hb=>by
  have:Sub L l ([Txt.join " " ["while", bI n]]++(b7 d b++[("done" : Str)])):=hS
  exact hf _ _ this.right.left hb
theorem sv:∀ (d l:Nat) (T:List Stp),Sub L l (b7 d T)→gY (fun n=>n∈NM) d T→fK (ii (cC NM L)) d l T
 | 0,_,_,_,h=>h
 | d+1,l,T,hS,hN=>by
  have go:∀ (T:List Stp) (l:Nat),Sub L l (T.flatMap (bU (b7 d)))→(∀ s∈T,mG (gY (fun n=>n∈NM) d) (fun n=>n∈NM) s)→∀ z∈dM (bi (ak d)) l T,tm (ii (cC NM L)) (fK (ii (cC NM L)) d) (ak d) z.1 z.2:=fun T=>by
   induction T with
   | nil=>intro l _ _ z hz; cases hz
   | cons s T ih=>
    intro l hS hN z hz
    rw[List.flatMap_cons]at hS
    rcases List.mem_cons.mp hz with rfl | hz
    ·exact xT (fun l b h1 h2=>sv d l b h1 h2) s hS.left (hN s List.mem_cons_self)
    ·have h2:=hS.right
     rw[nU (iZ d)]at h2
     exact ih (l+bi (ak d) s) h2 (fun s hs=>hN s (List.mem_cons_of_mem _ hs)) z hz
  exact go T l hS hN
end
section
variable{CN:Addr}{NO:Hp→Addr→List Str→Prop}
def gW(NM:List Str)(d:Nat)(t:Bool)(T:List Stp):List cD:=bf (ii (cC NM (b7 d T))) d t 0 0 T++[[.str "end", iN (ak d T)]]
structure og (NO:Hp→Addr→List Str→Prop) (H:Hp) (p:Addr) (d:Nat) (T:List Stp) (NM:List Str):Prop where
 prog:∃ S,ProgAt S d H p T
 ok:eh d T
 no:NO H p NM
 ln:LinesAt d H p (b7 d T)
 nm:gY (fun n=>n∈NM) d T
 cnt:ak d T≤200
 nl:NM.length≤1000
 d20:d≤20
def qR(NO:Hp→Addr→List Str→Prop)(d:Nat):Sp:=fun vs H Q _=>∃ (p:Addr) (t:Bool) (T:List Stp) (NM:List Str),vs=[.ref p,.bl t]∧og NO H p d T NM∧∀ (q:Addr) (H':Hp),Same H H'→H q=none→ListR H' q (gW NM d t T)→Q (.ref q) H'
theorem tw(noM:∀ {H H':Hp} {p:Addr} {NM:List Str},NO H p NM→Same H H'→NO H' p NM)(D:DefAt K mg "rows_and_end" bB) {d k:Nat} (hk1:1≤k) (c_numbered_steps:ba P w K mg base (2 * d+4) "numbered_steps" ["steps", "line"] (oZ K CN d)) (c_rows_of:ba P w K mg base (3 * d+2) "rows_of" ["steps", "at", "slots", "turned"] (gr K CN d)) (c_slots_of:ba P w K mg base k "slots_of" ["program"] (rH NO d)) (c_line_behind:ba P w K mg base 1 "line_behind" ["steps", "line"] (iw K CN)) (h1:2 * d+4≤k) (h2:3 * d+2≤k):ba P w K mg base (k+1) "rows_and_end" ["program", "turned"] (qR NO d):=by
 refine D.cal (k:=k) sc_rows_and_end (fun _ _ _ _ _ _ us hl=>match us,hl with | [_,_],_=>rfl) (fun vs H Q E h=>by obtain⟨_,_,_,_,rfl,_⟩:=h; rfl) (fun f cdv A outer s H vs Q E hr h=>?_)
 obtain⟨p,t,T,NM,rfl,I,q⟩:=h
 obtain⟨S,hP⟩:=I.prog
 have hcnt:=I.cnt
 refine⟨_,(ae (ar 2 sc_rows_and_end.nd (aG c_numbered_steps hr (aa (pv 0 (hv:=Bv)) (aa ai ab)) (hg:=Dp) (hle:=by omega)) (hx:=DZ))
   (aj (aA (ap az (aG c_rows_of hr (aa (pv 2 (hv:=Ah)) (aa ai (aa (aG c_slots_of hr (aa (pv 0 (hv:=Bv)) ab) (hg:=DK) (hle:=by omega)) (aa (pv 1 (hv:=DQ)) ab)))) (hg:=Ed) (hle:=by omega)) (a_ (aa (bd (aa al (aa (aG c_line_behind hr (aa (pv 2 (hv:=Ah)) (aa ai ab)) (hg:=E5) (hle:=by omega)) ab))) ab)))))),?_⟩
 walk_at "rd1"
 refine⟨p,0,T,S,rfl,hP,I.ok,by omega,fun nq H1 s1 hN=>?_⟩
 walk_at "nx"
 refine⟨p,NM,b7 d T,rfl,noM I.no s1,I.ln.mono _ s1,by rw[iZ]; omega,I.nl,fun sq H2 s2 hsq e2=>?_⟩
 refine⟨nq,sq,0,0,t,T,_,_,rfl,hN.mono s2,I.ok,e2,sv d 0 T (fun i s e=>by rw[Nat.zero_add]; exact e) I.nm,I.cnt,I.d20,fun rq H3 s3 hrq hR=>?_⟩
 have hRl:=dU (kv:=ii (cC NM (b7 d T))) (a:=0) (l:=0) (t:=t) I.cnt I.d20
 generalize hRR:bf (ii (cC NM (b7 d T))) d t 0 0 T=R at hR hRl
 have s23:=s2.trans s3
 cases d with
 | zero=>exact hN.elim
 | succ d=>
  refine⟨nq,0,d,T,_,rfl,hN.mono s23,by omega,?_⟩
  walk_at "rd1"
  refine⟨by decide,fun t1 ht1=>?_⟩
  generalize hH4:upd H3 t1 _=H4
  have s4:Same H3 H4:=by rw[← hH4]; exact af ht1 _
  have et1:bg H4 t1 [.str "end", iN (ak (d+1) T)]:=by
   show H4 t1=_
   rw[← hH4,ac,Nat.zero_add]; rfl
  refine⟨by decide,fun m1 hm1=>?_⟩
  have s5:=af hm1 (.lst [.ref t1])
  have L1:=dn et1 hm1
  generalize upd H4 m1 (.lst [.ref t1])=H5 at s5 L1 ⊢
  obtain⟨as1,a1,a2⟩:=hR.mono (s4.trans s5)
  obtain⟨bs1,b1,b2⟩:=L1
  refine⟨_,_,a1,b1,dL a2 b2 (by simp only[List.length_cons,List.length_nil]; omega),fun m2 hm2=>?_⟩
  have s6:=af hm2 (.lst (as1.map V.ref++bs1.map V.ref))
  have L2:=eG a2 b2 hm2
  generalize upd H5 m2 (.lst (as1.map V.ref++bs1.map V.ref))=H6 at s6 L2 ⊢
  have s05:=((s1.trans s23).trans s4).trans s5
  refine q m2 H6 (s05.trans s6) (s05.free hm2) ?_
  unfold gW
  rw[hRR]
  exact L2
def uJ(NO:Hp→Addr→List Str→Prop)(d:Nat):Sp:=fun vs H Q _=>∃ (p:Addr) (T:List Stp) (NM:List Str),vs=[.ref p]∧og NO H p d T NM∧∀ (q:Addr) (H':Hp),Same H H'→H q=none→ListR H' q (gW NM d false T)→Q (.ref q) H'
theorem zl(D:DefAt K mg "code_of" dv) {d k:Nat} (c_rows_and_end:ba P w K mg base k "rows_and_end" ["program", "turned"] (qR NO d)):ba P w K mg base (k+1) "code_of" ["program"] (uJ NO d):=by
 refine D.cal (k:=k) uc (fun _ _ _ _ _ _ us hl=>match us,hl with | [_],_=>rfl) (fun vs H Q E h=>by obtain⟨_,_,_,rfl,_⟩:=h; rfl) (fun f cdv A outer s H vs Q E hr h=>?_)
 obtain⟨p,T,NM,rfl,I,q⟩:=h
 refine⟨_,(aj (aA (aG c_rows_and_end hr (aa (pv 0 (hv:=Dh)) (aa fg ab)) (hg:=EL) (hle:=by omega)))),?_⟩
 walk_at "rd1"
 exact⟨p,false,T,NM,rfl,I,q⟩
end
end
def dQ:Stp→List (List Stp)
 | .plain _=>[]
 | .lend _ _ b=>[b]
 | .ite _ b c=>[b,c]
 | .whl _ b=>[b]
def eV(f:List Stp→List Stp)(s:Stp):List Stp:=s::(dQ s).flatMap f
def bW:Nat→List Stp→List Stp
 | 0,_=>[]
 | d+1,T=>T.flatMap (eV (bW d))
inductive fA:List Str→Prop
 | opn (x:Str):fA ["open", x]
 | drp (x:Str):fA ["drop", x]
 | cpy (x y:Str):fA ["copy", x,y]
 | tie (x y:Str):fA ["tie", x,y]
 | doo (u x:Str):fA ["do", u,x]
def bx:Stp→List Str
 | .plain ws=>if ws.headD "" = "do" then ws.drop 2 else ws.drop 1
 | .lend x y _=>[x,y]
 | .ite _ _ _=>[]
 | .whl _ _=>[]
def fD(f:List Stp→Prop):Stp→Prop
 | .plain ws=>fA ws
 | .lend _ _ b=>f b
 | .ite _ b c=>f b∧f c
 | .whl _ b=>f b
def jn:Nat→List Stp→Prop
 | 0,_=>False
 | d+1,T=>∀ s∈T,fD (jn d) s
def headAt(H:Hp)(a:Addr)(s:Stp):Prop:=stpAt (fun _ _=>True) H a s
theorem headAt.mono{H H':Hp}{a:Addr}{s:Stp}(h:headAt H a s)(sm:Same H H'):headAt H' a s:=stpAt.imp (fun b xs e=>sm _ _ e) (fun _ _ _=>trivial) h
theorem tU{PA:Addr→List Stp→Prop}{H:Hp}{a:Addr}{g:List Stp→Prop}:∀ {s:Stp},stpAt PA H a s→fD g s→∃ (kind:Str) (hs:List V) (bs:List Addr),H a=some (.tup (.str kind::hs++bs.map V.ref))∧bs.length=(br kind).length∧Paired PA bs (dQ s)∧∀ b∈dQ s,g b
 | .plain ws,h,ok=>by
  cases ok with
  | opn x=>exact⟨"open", [.str x],[],h,by show 0=(br "open").length; decide,.nil,by simp[dQ]⟩
  | drp x=>exact⟨"drop", [.str x],[],h,by show 0=(br "drop").length; decide,.nil,by simp[dQ]⟩
  | cpy x y=>exact⟨"copy", [.str x,.str y],[],h,by show 0=(br "copy").length; decide,.nil,by simp[dQ]⟩
  | tie x y=>exact⟨"tie", [.str x,.str y],[],h,by show 0=(br "tie").length; decide,.nil,by simp[dQ]⟩
  | doo u x=>exact⟨"do", [.str u,.str x],[],h,by show 0=(br "do").length; decide,.nil,by simp[dQ]⟩
 | .lend x y b,⟨q,h,z⟩,ok=>⟨"lend", [.str x,.str y],[q],h,by show 1=(br "lend").length; decide,.cons z .nil,by simpa [dQ,fD] using ok⟩
 | .ite n b c,⟨q,r,h,z,y⟩,ok=>⟨"if", [.int n],[q,r],h,by show 2=(br "if").length; decide,.cons z (.cons y .nil),by simpa [dQ,fD] using ok⟩
 | .whl n b,⟨q,h,z⟩,ok=>⟨"while", [.int n],[q],h,by show 1=(br "while").length; decide,.cons z .nil,by simpa [dQ,fD] using ok⟩
def oB(d:Nat):Sp:=fun vs H Q _=>∃ (p:Addr) (T:List Stp) (S:Addr→Prop),vs=[.ref p]∧ProgAt S d H p T∧jn d T∧(bW d T).length≤5000∧
 ∀ (q:Addr) (H':Hp) (ads:List Addr),Same H H'→H q=none→H' q=some (.lst (ads.map V.ref))→Paired (headAt H') ads (bW d T)→Q (.ref q) H'
theorem nB{α β : Type}(f:α→List β)(T:List α)(i:Nat):((T.take i).flatMap f).length≤(T.flatMap f).length:=by
 rw[List.flatMap_def,List.flatMap_def,List.map_take]; exact lZ _ _
theorem jy{α β : Type}(f:α→List β){T:List α}{i:Nat}{x:α}(h:T[i]? = some x):(T.take (i+1)).flatMap f=(T.take i).flatMap f++f x:=by
 rw[List.take_add_one,h,List.flatMap_append]; simp
theorem kA{α β : Type}{R:α→β→Prop}:∀ {xs zs:List α} {ys us:List β},Paired R xs ys→Paired R zs us→Paired R (xs++zs) (ys++us)
 | _,_,_,_,.nil,h=>h
 | _,_,_,_,.cons h t,h'=>.cons h (kA t h')
section
variable{P:Program}{w:World}{K:PySem.W.Frag}{mg:Str→Option Value}{base:Heap}
theorem mK(D:DefAt K mg "steps_within" bo) (c_blocks_of:ba P w K mg base 3 "blocks_of" ["step"] (gA K)):∀ d:Nat,ba P w K mg base (d+4) "steps_within" ["program"] (oB d)
 | 0=>D.cal (k:=3) sc_steps_within (fun _ _ _ _ _ _ us hl=>match us,hl with | [_],_=>rfl) (fun vs H Q E h=>by obtain⟨p,T,S,rfl,_⟩:=h; rfl) (fun f cdv A outer s H vs Q E hr h=>by obtain⟨p,T,S,rfl,z,_⟩:=h; exact z.elim)
 | d+1=>by
  have c_steps_within:=mK D c_blocks_of d
  refine D.cal (k:=d+4) sc_steps_within (fun _ _ _ _ _ _ us hl=>match us,hl with | [_],_=>rfl) (fun vs H Q E h=>by obtain⟨p,T,S,rfl,_⟩:=h; rfl) (fun f cdv A outer s H vs Q E hr h=>?_)
  obtain⟨p,T,S,rfl,⟨hS,as,h1,h2⟩,ok,hL,q⟩:=h
  have hlen:=av h2
  refine⟨_,(ae (ar 1 sc_steps_within.nd (a_ ab) (hx:=FH))
   (ae (cE PassesOwn.never rfl (dj K (pv 0 (hv:=Fy))) (bt 2 sc_steps_within.nd (hx:=GE)) (ae (bu (aW K PySem.F.plainAttrs_list PySem.F.slot_list_append PySem.F.type_list_append bc (pv 1 (hv:=zY)) (aa (pv 2 (hv:=Ci)) ab)))
   (aj (cE PassesOwn.never rfl (jH K (aG c_blocks_of hr (aa (pv 2 (hv:=Ci)) ab) (hg:=Gi) (hle:=by omega))) (bt 3 sc_steps_within.nd (hx:=Fj)) (aj (bu (aW K PySem.F.plainAttrs_list PySem.F.slot_list_extend PySem.F.type_list_extend eU (pv 1 (hv:=zY)) (aa (aG c_steps_within hr (aa (pv 3 (hv:=FT)) ab) (hg:=Fs) (hle:=by omega)) ab))))))))
   (aj (aA (pv 1 (hv:=zY)))))),?_⟩
  walk_at "rd1"
  refine⟨by decide,fun lp hlp=>?_⟩
  generalize hH1:upd H lp _=H1
  have sm1:=eL hH1 hlp
  have e1:=gn hH1
  walk_at "nx"
  refine⟨⟨_,SqL.of (sm1 _ _ h1)⟩,?_⟩
  refine dc (xs:=as.map V.ref) (fun i σ H'=>∃ (ads:List Addr) (o2 o3:Option V),σ=[some (.ref p),some (.ref lp),o2,o3]∧Same H H'∧H' lp=some (.lst (ads.map V.ref))∧Paired (headAt H') ads ((T.take i).flatMap (eV (bW d))))
   ⟨[],none,none,rfl,sm1,e1,.nil⟩ (fun i σ H' _ h=>by obtain⟨_,_,_,_,sm,_⟩:=h; exact SqL.of (sm _ _ h1)) ?_ ?_
  ·rintro i v σ H' hv ⟨ads,o2,o3,rfl,sm,hl,hp⟩
   have hi:i<as.length:=by have:=(List.getElem?_eq_some_iff.mp hv).1; simpa using this
   rw[List.getElem?_map,List.getElem?_eq_getElem hi]at hv
   cases hv
   obtain⟨s,hs,st⟩:=bZ h2 (List.getElem?_eq_getElem hi)
   have oks:=ok s (List.mem_of_getElem? hs)
   obtain⟨kind,hds,bs,ha,hbl,hbp,hbo⟩:=tU st oks
   have hflat:=jy (eV (bW d)) hs
   have hfl:=nB (eV (bW d)) T (i+1)
   have hL':(T.flatMap (eV (bW d))).length≤5000:=hL
   rw[hflat]at hfl ⊢
   have hpl:=av hp
   generalize (T.take i).flatMap (eV (bW d))=pre at hp hfl hpl ⊢
   have hps:(eV (bW d) s).length=1+((dQ s).flatMap (bW d)).length:=by show (s::_).length=_; rw[List.length_cons]; omega
   rw[List.length_append,hps]at hfl
   have hhd:headAt H as[i] s:=stpAt.imp (fun b xs e=>e) (fun _ _ _=>trivial) st
   walk_at "rd1"
   refine⟨⟨_,SqL.of hl⟩,_,hl,by rw[List.length_map]; exact bn (by omega),?_⟩
   have upl:∀ {X:Hp} {o:HO} {l:List Addr} {us:List Stp} {ys:List V},X lp=some (.lst ys)→Paired (headAt X) l us→Paired (headAt (upd X lp o)) l us:=fun {X o l us ys} e h=>Paired.imp' (fun a s z=>stpAt.imp (fun b xs e'=>by rw[ah (ci e' e (fun z=>nomatch z))]; exact e') (fun _ _ _=>trivial) z) h
   have hp2:=upl (o:=.lst (ads.map V.ref++[.ref as[i]])) hl hp
   have sm2:Same H (upd H' lp (.lst (ads.map V.ref++[.ref as[i]]))):=sm.upd hlp _
   have e2:upd H' lp (.lst (ads.map V.ref++[.ref as[i]])) lp=some (.lst ((ads++[as[i]]).map V.ref)):=by rw[ac,List.map_append]; rfl
   generalize upd H' lp (.lst (ads.map V.ref++[.ref as[i]]))=H2 at hp2 sm2 e2 ⊢
   have hat:SqT K H2 as[i] (.str kind::(hds++bs.map V.ref)):=SqT.of (sm2 _ _ ha)
   have hcl:(br kind).length≤(hds++bs.map V.ref).length+1:=by rw[List.length_append,List.length_map,hbl]; omega
   have hcut:(hds++bs.map V.ref).length+1 - (br kind).length=hds.length+1:=by rw[List.length_append,List.length_map,hbl]; omega
   walk_at "nx"
   refine⟨as[i],kind,hds++bs.map V.ref,rfl,hat,hcl,fun bp H3 sm3 hbp3=>?_⟩
   rw[hcut]at hbp3
   have edr:(V.str kind::(hds++bs.map V.ref)).drop (hds.length+1)=bs.map V.ref:=by rw[List.drop_succ_cons,List.drop_left']; rfl
   rw[edr]at hbp3
   walk_at "rd1"
   refine⟨⟨_,hbp3⟩,?_⟩
   have hil:=av hbp
   refine pX (xs:=bs.map V.ref) (fun j σ H'=>∃ (ads':List Addr) (o3:Option V),σ=[some (.ref p),some (.ref lp),some (.ref as[i]),o3]∧Same H H'∧SqT K H' bp (bs.map V.ref)∧H' lp=some (.lst (ads'.map V.ref))∧Paired (headAt H') ads' (pre++(s::((dQ s).take j).flatMap (bW d))))
    ⟨ads++[as[i]],o3,rfl,sm2.trans sm3,hbp3,sm3 _ _ e2,?_⟩ (fun j σ H' _ h=>by obtain⟨_,_,_,_,z1,_⟩:=h; exact z1) ?_ ?_
   ·exact cB (R:=headAt H3) (hhd.mono (sm2.trans sm3)) (Paired.imp' (fun a s z=>headAt.mono z sm3) hp2)
   ·rintro j x σ H4 hx ⟨ads',o3,rfl,sm4,hb4,hl4,hp4⟩
    have hj:j<bs.length:=by have:=(List.getElem?_eq_some_iff.mp hx).1; simpa using this
    rw[List.getElem?_map,List.getElem?_eq_getElem hj]at hx
    cases hx
    obtain⟨b,hb,hpb⟩:=bZ hbp (List.getElem?_eq_getElem hj)
    have hsn:=jy (bW d) hb
    have hle:=nB (bW d) (dQ s) (j+1)
    rw[hsn]at hle ⊢
    rw[List.length_append]at hle
    have hpl4:=av hp4
    rw[List.length_append,List.length_cons]at hpl4
    walk_at "rd1"
    refine⟨⟨_,SqL.of hl4⟩,bs[j],b,S,rfl,hpb.mono sm4,hbo b (List.mem_of_getElem? hb),by omega,fun r H5 ads5 sm5 hr5 hl5 hp5=>?_⟩
    have hpl5:=av hp5
    walk_at "rd1"
    refine⟨_,_,sm5 _ _ hl4,hl5,aQ (by rw[List.length_map,List.length_map]; omega),?_⟩
    refine⟨ads'++ads5,_,rfl,(sm4.trans sm5).upd hlp _,(hb4.same sm5).updL (sm5 _ _ hl4),by rw[ac,List.map_append],?_⟩
    rw[← List.cons_append,← List.append_assoc]
    exact kA (upl (sm5 _ _ hl4) (Paired.imp' (fun a s z=>headAt.mono z sm5) hp4)) (upl (sm5 _ _ hl4) hp5)
   ·rintro σ H4 ⟨ads',o3,rfl,sm4,hb4,hl4,hp4⟩
    rw[List.length_map,List.take_of_length_le (by omega)]at hp4
    exact⟨ads',_,_,rfl,sm4,hl4,hp4⟩
  ·rintro σ H' ⟨ads,o2,o3,rfl,sm,hl,hp⟩
   walk_at "nx"
   rw[List.length_map,List.take_of_length_le (by omega)]at hp
   exact q lp H' ads sm hlp hl hp
def eX(acc:List Str)(x:Str):List Str:=if x∈acc then acc else acc++[x]
def db(l:List Str):List Str:=l.foldl eX []
def ja(l:List Str):List (aB × V):=l.map fun x=>(Sum.inr x,V.bl true)
theorem zc(acc:List Str)(x:Str):aT (ja acc) (.inr x) (.bl true)=ja (eX acc x):=by
 unfold aT eX
 by_cases h:x∈acc
 ·rw[if_pos h]
  have ha:((ja acc).any fun kv=>decide (kv.1=(Sum.inr x:aB)))=true:=by
   rw[List.any_eq_true]
   exact⟨(.inr x,.bl true),List.mem_map.mpr ⟨x,h,rfl⟩,by simp⟩
  rw[if_pos ha]
  unfold ja
  rw[List.map_map]
  refine List.map_congr_left fun y _=>?_
  by_cases e:y=x
  ·subst e; simp
  ·have:¬ ((Sum.inr y:aB)=Sum.inr x):=fun z=>e (Sum.inr.inj z)
   simp[this]
 ·rw[if_neg h]
  have ha:((ja acc).any fun kv=>decide (kv.1=(Sum.inr x:aB)))=false:=by
   rw[List.any_eq_false]
   intro kv hkv
   obtain⟨y,hy,rfl⟩:=List.mem_map.mp hkv
   have:¬ ((Sum.inr y:aB)=Sum.inr x):=fun z=>h (Sum.inr.inj z ▸ hy)
   simp[this]
  rw[if_neg (by rw[ha]; exact Bool.false_ne_true)]
  unfold ja
  rw[List.map_append]; rfl
theorem gu:∀ (l acc:List Str),(l.foldl eX acc).length≤acc.length+l.length
 | [],acc=>by simp
 | x::l,acc=>by
  have:=gu l (eX acc x)
  have h2:(eX acc x).length≤acc.length+1:=by unfold eX; split <;> simp
  rw[List.foldl_cons,List.length_cons]; omega
def cz:List V→List Str→List Str
 | .str x::xs,k::ks=>if k = "name" then x::cz xs ks else cz xs ks
 | _::xs,_::ks=>cz xs ks
 | _,_=>[]
def dW:List (Str × List Str):=[("open", ["name"]),("do", ["word", "name"]),("copy", ["name", "name"]),("drop", ["name"]),("tie", ["name", "name"]),("lend", ["name", "name", "steps"]),("if", ["bound", "steps", "steps"]),("while", ["bound", "steps"])]
structure FX (H:Hp) (a:Addr) (s:Stp) (kind:Str) (xs:List V) (ks:List Str):Prop where
 at':H a=some (.tup (.str kind::xs))
 kd:(kind,ks)∈dW
 len:xs.length=ks.length
 txt:∀ (i:Nat) (x:V),xs[i]? = some x→ks[i]? = some "name" → ∃ y,x = .str y
 names:cz xs ks=bx s
theorem oE{α : Type}{a b x:α}{i:Nat}(h:[a,b][i]? = some x):(i=0∧x=a)∨(i=1∧x=b):=by
 match i,h with
 | 0,h=>exact .inl ⟨rfl,by simpa using h.symm⟩
 | 1,h=>exact .inr ⟨rfl,by simpa using h.symm⟩
 | i+2,h=>simp at h
theorem uh{H:Hp}{a:Addr}{g:List Stp→Prop}:∀ {s:Stp},headAt H a s→fD g s→∃ kind xs ks,FX H a s kind xs ks
 | .plain ws,h,ok=>by
  cases ok with
  | opn x=>exact⟨"open", [.str x],["name"],h,by simp[dW],rfl,fun i y e _=>by match i,e with | 0,e=>exact⟨x,by simpa using e.symm⟩ | i+1,e=>simp at e,by simp[cz,bx]; decide⟩
  | drp x=>exact⟨"drop", [.str x],["name"],h,by simp[dW],rfl,fun i y e _=>by match i,e with | 0,e=>exact⟨x,by simpa using e.symm⟩ | i+1,e=>simp at e,by simp[cz,bx]; decide⟩
  | cpy x y=>exact⟨"copy", [.str x,.str y],["name", "name"],h,by simp[dW],rfl,fun i z e _=>by rcases oE e with ⟨_,rfl⟩ | ⟨_,rfl⟩ <;> exact⟨_,rfl⟩,by simp[cz,bx]; decide⟩
  | tie x y=>exact⟨"tie", [.str x,.str y],["name", "name"],h,by simp[dW],rfl,fun i z e _=>by rcases oE e with ⟨_,rfl⟩ | ⟨_,rfl⟩ <;> exact⟨_,rfl⟩,by simp[cz,bx]; decide⟩
  | doo u x=>exact⟨"do", [.str u,.str x],["word", "name"],h,by simp[dW],rfl,fun i z e _=>by rcases oE e with ⟨_,rfl⟩ | ⟨_,rfl⟩ <;> exact⟨_,rfl⟩,by simp[cz,bx]; decide⟩
 | .lend x y b,⟨q,h,_⟩,ok=>⟨"lend", [.str x,.str y,.ref q],["name", "name", "steps"],h,by simp[dW],rfl,fun i z e e2=>by match i,e,e2 with | 0,e,e2=>exact⟨_,by simpa using e.symm⟩ | 1,e,e2=>exact⟨_,by simpa using e.symm⟩ | 2,e,e2=>exact absurd (by simpa using e2) (show ¬ (("steps" : Str) = "name") from by decide) | i+3,e,e2=>simp at e,by simp[cz,bx]⟩
 | .ite n b c,⟨q,r,h,_,_⟩,ok=>⟨"if", [.int n,.ref q,.ref r],["bound", "steps", "steps"],h,by simp[dW],rfl,fun i z e e2=>by match i,e,e2 with | 0,e,e2=>exact absurd (by simpa using e2) (show ¬ (("bound" : Str) = "name") from by decide) | 1,e,e2=>exact absurd (by simpa using e2) (show ¬ (("steps" : Str) = "name") from by decide) | 2,e,e2=>exact absurd (by simpa using e2) (show ¬ (("steps" : Str) = "name") from by decide) | i+3,e,e2=>simp at e,by simp[cz,bx]⟩
 | .whl n b,⟨q,h,_⟩,ok=>⟨"while", [.int n,.ref q],["bound", "steps"],h,by simp[dW],rfl,fun i z e e2=>by match i,e,e2 with | 0,e,e2=>exact absurd (by simpa using e2) (show ¬ (("bound" : Str) = "name") from by decide) | 1,e,e2=>exact absurd (by simpa using e2) (show ¬ (("steps" : Str) = "name") from by decide) | i+2,e,e2=>simp at e,by simp[cz,bx]⟩
theorem ql:∀ {xs:List V} {ks:List Str} (x:V) (k:Str),xs.length=ks.length→cz (xs++[x]) (ks++[k])=cz xs ks++cz [x] [k]
 | [],[],x,k,_=>rfl
 | [],_::_,_,_,h=>by simp at h
 | _::_,[],_,_,h=>by simp at h
 | y::xs,c::ks,x,k,h=>by
  have ih:=ql (xs:=xs) (ks:=ks) x k (by simpa using h)
  cases y <;> simp only[List.cons_append,cz,ih]
  split <;> simp
theorem ni(xs:List V)(ks:List Str)(j:Nat)(h:xs.length=ks.length):(cz (xs.take j) (ks.take j)).length≤(cz xs ks).length:=by
 induction xs generalizing ks j with
 | nil=>simp[cz]
 | cons y xs ih=>
  cases ks with
  | nil=>simp at h
  | cons c ks=>
   cases j with
   | zero=>simp[cz]
   | succ j=>
    have:=ih ks j (by simpa using h)
    rw[List.take_succ_cons,List.take_succ_cons]
    cases y <;> simp only[cz] <;> (try split) <;> (try simp only[List.length_cons]) <;> omega
theorem wQ{K:PySem.W.Frag}{H:Hp}{a l:Addr}{xs:List V}{kvs:List (aB × V)}{o:HO}(h:SqT K H a xs)(hl:H l=some (.dK kvs)):SqT K (upd H l o) a xs:=by
 rcases h with (h | ⟨o',h⟩) | h
 ·exact .inl (.inl (by rw[ah (ci h hl (fun z=>nomatch z))]; exact h))
 ·exact .inl (.inr ⟨o',by rw[ah (ci h hl (fun z=>nomatch z))]; exact h⟩)
 ·exact .inr h
def mY:Sp:=fun vs H Q _=>∃ (sp:Addr) (ads:List Addr) (Ps:List Stp) (g:List Stp→Prop),vs=[.ref sp]∧H sp=some (.lst (ads.map V.ref))∧Paired (headAt H) ads Ps∧(∀ s∈Ps,fD g s)∧(Ps.flatMap bx).length≤5000∧
 ∀ (q:Addr) (H':Hp),Same H H'→H q=none→H' q=some (.lst ((db (Ps.flatMap bx)).map V.str))→Q (.ref q) H'
theorem sU(D:DefAt K mg "names_in" bK) (z_zip:mg "zip" = none) (z_list:mg "list" = none) {dP:Addr} {kvs:List (Str × V)} (g_PARTS:mg "PARTS" = some (.ref dP)) (m:ModD w K dP kvs)
  (qk:∀ kind ks,(kind,ks)∈dW→∃ a,aK kvs kind=some (.ref a)∧∀ H:Hp,SqT K H a (ks.map V.str)):ba P w K mg base 1 "names_in" ["steps"] mY:=by
 refine D.cal sc_names_in (fun _ _ _ _ _ _ us hl=>match us,hl with | [_],_=>rfl) (fun vs H Q E h=>by obtain⟨_,_,_,_,rfl,_⟩:=h; rfl) (fun f cdv A outer s H vs Q E hr h=>?_)
 obtain⟨sp,ads,Ps,g,rfl,hsp,hp,hok,hL,q⟩:=h
 have hlen:=av hp
 refine⟨_,(ae (ar 1 sc_names_in.nd iz (hx:=F8))
   (ae (cE PassesOwn.never rfl (dj K (pv 0 (hv:=FU))) (bt 2 sc_names_in.nd (hx:=GR)) (aj (cE PassesOwn.never rfl (lL K F7 z_zip (aa (cu (jC K) (pv 2 (hv:=Cv)) (cg ai) df) (aa (aw (Fb w K) (sx g_PARTS (hg:=Fq)) (aw (aO K) (pv 2 (hv:=Cv)) ai (fun _ _=>rfl)) (fun _ _=>rfl)) ab))) (eR K (n:=2) (b6 (bt 3 sc_names_in.nd (hx:=FN)) (b6 (bt 4 sc_names_in.nd (hx:=FM)) eQ))) (aj (bG (aD bT (pv 4 (hv:=Fn)) al (aL _)) (aj (hJ fg (kH (pv 1 (hv:=Ct)) (pv 3 (hv:=FF)) (nI hr)))) aY)))))
   (aj (aA (fL (tM hr) z_list qM (aa (pv 1 (hv:=Ct)) ab) (hg:=FR)))))),?_⟩
 walk_at "rd1"
 refine fun dp hdp=>?_
 generalize hH1:upd H dp _=H1
 have sm1:=eL hH1 hdp
 have e1:=gn hH1
 walk_at "nx"
 refine⟨⟨_,SqL.of (sm1 _ _ hsp)⟩,?_⟩
 refine dc (xs:=ads.map V.ref) (fun i σ H'=>∃ o2 o3 o4:Option V,σ=[some (.ref sp),some (.ref dp),o2,o3,o4]∧Same H H'∧H' dp=some (.dK (ja (db ((Ps.take i).flatMap bx)))))
  ⟨none,none,none,rfl,sm1,e1⟩ (fun i σ H' _ h=>by obtain⟨_,_,_,_,sm,_⟩:=h; exact SqL.of (sm _ _ hsp)) ?_ ?_
 ·rintro i v σ H' hv ⟨o2,o3,o4,rfl,sm,hd⟩
  have hi:i<ads.length:=by have:=(List.getElem?_eq_some_iff.mp hv).1; simpa using this
  rw[List.getElem?_map,List.getElem?_eq_getElem hi]at hv
  cases hv
  obtain⟨s,hs,st⟩:=bZ hp (List.getElem?_eq_getElem hi)
  obtain⟨kind,xs,ks,hd1,hd2,hd3,hd4,hd5⟩:=uh st (hok s (List.mem_of_getElem? hs))
  obtain⟨ka,hka,hks⟩:=qk kind ks hd2
  have hsn:=jy bx hs
  have hfl:=nB bx Ps (i+1)
  rw[hsn]at hfl ⊢
  have hded:db ((Ps.take i).flatMap bx++bx s)=(bx s).foldl eX (db ((Ps.take i).flatMap bx)):=by unfold db; rw[List.foldl_append]
  rw[hded]
  have hac:=gu ((Ps.take i).flatMap bx) []
  rw[List.length_append]at hfl
  rw[List.length_nil]at hac
  have hac':(db ((Ps.take i).flatMap bx)).length≤((Ps.take i).flatMap bx).length:=by unfold db; omega
  generalize db ((Ps.take i).flatMap bx)=acc at hd hac' ⊢
  have hat:SqT K H' ads[i] (.str kind::xs):=SqT.of (sm _ _ hd1)
  walk_at "rd1"
  refine iK hat fun p2 H2 sm2 h2=>?_
  have e1:dI (V.str kind::xs) (some 1) none=xs:=fz _ 1
  rw[e1]at h2
  walk_at "rd1"
  refine⟨_,_,.inr (hat.same sm2),cm,dP,kvs,kind,.ref ka,rfl,rfl,m,hka,?_⟩
  refine⟨p2,ka,rfl,⟨_,h2⟩,⟨_,hks _⟩,?_⟩
  refine ji (xs:=xs) (ys:=ks.map V.str) (fun j σ H'=>∃ o3 o4:Option V,σ=[some (.ref sp),some (.ref dp),some (.ref ads[i]),o3,o4]∧Same H H'∧SqT K H' p2 xs∧H' dp=some (.dK (ja ((cz (xs.take j) (ks.take j)).foldl eX acc))))
   (by rw[List.length_map]; exact hd3) ⟨o3,o4,rfl,sm.trans sm2,h2,sm2 _ _ hd⟩ (fun j σ H' _ h=>by obtain⟨_,_,_,_,z1,_⟩:=h; exact⟨z1,hks _⟩) ?_ ?_
  ·rintro j x y t σ H3 hx hy ⟨o3,o4,rfl,sm3,h3,hd3'⟩ ht
   have hjx:j<xs.length:=(List.getElem?_eq_some_iff.mp hx).1
   have hjk:j<ks.length:=by omega
   have hkj:ks[j]? = some ks[j]:=List.getElem?_eq_getElem hjk
   rw[List.getElem?_map,hkj]at hy
   cases hy
   have ht1:xs.take (j+1)=xs.take j++[x]:=by rw[List.take_add_one,hx]; rfl
   have ht2:ks.take (j+1)=ks.take j++[ks[j]]:=by rw[List.take_add_one,hkj]; rfl
   have hpa:=ql (xs:=xs.take j) (ks:=ks.take j) x ks[j] (by rw[List.length_take,List.length_take,hd3])
   have hpl:=ni xs ks j hd3
   rw[hd5]at hpl
   have hfl2:=gu (cz (xs.take j) (ks.take j)) acc
   rw[ht1,ht2,hpa]
   have htx:=hd4 j x hx
   rw[hkj]at htx
   generalize ks[j]=kj at hpa htx ⊢
   generalize cz (xs.take j) (ks.take j)=pk at hd3' hpl hfl2 ⊢
   have st:=af ht (.tup [x,V.str kj])
   have et:upd H3 t (.tup [x,V.str kj]) t=some (.tup [x,V.str kj]):=ac
   generalize upd H3 t (.tup [x,V.str kj])=H4 at st et ⊢
   walk_at "rd1"
   refine⟨t,_,rfl,SqT.of et,rfl,?_⟩
   walk_at "rd1"
   refine bh (fun c=>?_) (fun c=>?_)
   ·subst c
    obtain⟨z,rfl⟩:=htx rfl
    have hd4':=st _ _ hd3'
    refine⟨dp,_,.inr z,rfl,rfl,hd4',by unfold ja; rw[List.length_map]; exact bn (by omega),?_⟩
    rw[zc]
    refine⟨_,_,rfl,(sm3.trans st).upd hdp _,wQ (h3.same st) hd4',?_⟩
    rw[ac,List.foldl_append]; rfl
   ·have hno:cz [x] [kj]=[]:=by
     cases x <;> simp[cz,c]
    rw[hno,List.append_nil]
    exact⟨_,_,rfl,sm3.trans st,h3.same st,st _ _ hd3'⟩
  ·rintro σ H3 ⟨o3,o4,rfl,sm3,h3,hd3'⟩
   rw[List.take_length,List.take_of_length_le (by omega),hd5]at hd3'
   exact⟨_,_,_,rfl,sm3,hd3'⟩
 ·rintro σ H' ⟨o2,o3,o4,rfl,sm,hd⟩
  walk_at "nx"
  rw[List.length_map,List.take_of_length_le (by omega)]at hd
  have hac:=gu (Ps.flatMap bx) []
  rw[List.length_nil]at hac
  refine⟨_,hd,by unfold ja db; rw[List.length_map]; omega,fun l hl=>q l _ (sm.trans (af hl _)) (sm.free hl) ?_⟩
  rw[ac]
  unfold ja
  rw[List.map_map]; rfl
def m_:Sp:=fun vs H Q _=>∃ (p:Addr) (T:List Stp) (S:Addr→Prop),vs=[.ref p]∧ProgAt S 10 H p T∧jn 10 T∧(bW 10 T).length≤1000∧((bW 10 T).flatMap bx).length≤5000∧
 ∀ (q:Addr) (H':Hp),Same H H'→H q=none→H' q=some (.lst ((db ((bW 10 T).flatMap bx)).map V.str))→Q (.ref q) H'
theorem pJ:∀ (d:Nat) {T:List Stp},jn d T→∀ s∈bW d T,∃ g:List Stp→Prop,fD g s
 | 0,_,h,_,_=>h.elim
 | d+1,T,ok,s,hs=>by
  obtain⟨u,hu,hs⟩:=List.mem_flatMap.mp hs
  have o:=ok u hu
  rcases List.mem_cons.mp hs with rfl | hs
  ·exact⟨_,o⟩
  obtain⟨b,hb,hs⟩:=List.mem_flatMap.mp hs
  refine pJ d (T:=b) ?_ s hs
  cases u with
  | plain ws=>simp[dQ]at hb
  | lend x y c=>
   have:b=c:=by simpa [dQ] using hb
   subst this; exact o
  | ite n c e=>
   obtain⟨o1,o2⟩:=o
   have:b=c∨b=e:=by simpa [dQ] using hb
   rcases this with rfl | rfl
   ·exact o1
   ·exact o2
  | whl n c=>
   have:b=c:=by simpa [dQ] using hb
   subst this; exact o
theorem xv:∀ {s:Stp} {g:List Stp→Prop},fD g s→fD (fun _=>True) s
 | .plain _,_,h=>h
 | .lend _ _ _,_,_=>trivial
 | .ite _ _ _,_,_=>⟨trivial,trivial⟩
 | .whl _ _,_,_=>trivial
theorem tQ(D:DefAt K mg "names_of" cV) (c_names_in:ba P w K mg base 1 "names_in" ["steps"] mY) (c_steps_within:ba P w K mg base 14 "steps_within" ["program"] (oB 10)):ba P w K mg base 15 "names_of" ["program"] m_:=by
 refine D.cal qu (fun _ _ _ _ _ _ us hl=>match us,hl with | [_],_=>rfl) (fun vs H Q E h=>by obtain⟨_,_,_,rfl,_⟩:=h; rfl) (fun f cdv A outer s H vs Q E hr h=>?_)
 obtain⟨p,T,S,rfl,hp,ok,h1,h2,q⟩:=h
 refine⟨_,(aj (aA (aG c_names_in hr (aa (aG c_steps_within hr (aa (pv 0 (hv:=GG)) ab) (hg:=Gq) (hle:=by omega)) ab) (hg:=Gv) (hle:=by omega)))),?_⟩
 walk_at "rd1"
 refine⟨p,T,S,rfl,hp,ok,by omega,fun sp H1 ads sm1 hsp hl1 hp1=>?_⟩
 walk_at "rd1"
 refine⟨sp,ads,bW 10 T,fun _=>True,rfl,hl1,hp1,fun s hs=>let ⟨g,z⟩:=pJ 10 ok s hs; xv z,h2,fun r H2 sm2 hr2 hl2=>?_⟩
 exact q r H2 (sm1.trans sm2) (sm1.free hr2) hl2
theorem n8{ws:List Str}(h:fA ws):(ws.headD "" = "do" → ws.length=3)∧b8 ws=bx (.plain ws):=by
 cases h with
 | opn x=>exact⟨fun c=>absurd c (by show ¬ (Str.ofString "open" = Str.ofString "do"); decide +kernel),by unfold b8; simp only[bx]; rw[if_neg (by show ¬ (Str.ofString "open" = Str.ofString "do"); decide +kernel),if_neg (by show ¬ (Str.ofString "open" = Str.ofString "do"); decide +kernel)]⟩
 | drp x=>exact⟨fun c=>absurd c (by show ¬ (Str.ofString "drop" = Str.ofString "do"); decide +kernel),by unfold b8; simp only[bx]; rw[if_neg (by show ¬ (Str.ofString "drop" = Str.ofString "do"); decide +kernel),if_neg (by show ¬ (Str.ofString "drop" = Str.ofString "do"); decide +kernel)]⟩
 | cpy x y=>exact⟨fun c=>absurd c (by show ¬ (Str.ofString "copy" = Str.ofString "do"); decide +kernel),by unfold b8; simp only[bx]; rw[if_neg (by show ¬ (Str.ofString "copy" = Str.ofString "do"); decide +kernel),if_neg (by show ¬ (Str.ofString "copy" = Str.ofString "do"); decide +kernel)]⟩
 | tie x y=>exact⟨fun c=>absurd c (by show ¬ (Str.ofString "tie" = Str.ofString "do"); decide +kernel),by unfold b8; simp only[bx]; rw[if_neg (by show ¬ (Str.ofString "tie" = Str.ofString "do"); decide +kernel),if_neg (by show ¬ (Str.ofString "tie" = Str.ofString "do"); decide +kernel)]⟩
 | doo u x=>exact⟨fun _=>rfl,by unfold b8; simp only[bx]; rw[if_pos (by rfl),if_pos (by rfl)]; rfl⟩
theorem zB{f g:List Stp→Prop}{N:Str→Prop}{pr:List Stp→List Stp}(hf:∀ b,g b→(∀ n∈(pr b).flatMap bx,N n)→f b):∀ (s:Stp),fD g s→(∀ n∈(eV pr s).flatMap bx,N n)→mG f N s
 | .plain ws,ok,h=>by
  obtain⟨h1,h2⟩:=n8 ok
  refine⟨h1,fun n hn=>h n ?_⟩
  rw[h2]at hn
  exact List.mem_flatMap.mpr ⟨.plain ws,List.mem_cons_self,hn⟩
 | .lend x y b,ok,h=>by
  refine⟨h x (List.mem_flatMap.mpr ⟨.lend x y b,List.mem_cons_self,by simp[bx]⟩),h y (List.mem_flatMap.mpr ⟨.lend x y b,List.mem_cons_self,by simp[bx]⟩),hf b ok fun n hn=>h n ?_⟩
  obtain⟨s,hs,hn⟩:=List.mem_flatMap.mp hn
  exact List.mem_flatMap.mpr ⟨s,List.mem_cons_of_mem _ (List.mem_flatMap.mpr ⟨b,by simp[dQ],hs⟩),hn⟩
 | .ite m b c,ok,h=>by
  refine⟨hf b ok.1 fun n hn=>h n ?_,hf c ok.2 fun n hn=>h n ?_⟩
  ·obtain⟨s,hs,hn⟩:=List.mem_flatMap.mp hn
   exact List.mem_flatMap.mpr ⟨s,List.mem_cons_of_mem _ (List.mem_flatMap.mpr ⟨b,by simp[dQ],hs⟩),hn⟩
  ·obtain⟨s,hs,hn⟩:=List.mem_flatMap.mp hn
   exact List.mem_flatMap.mpr ⟨s,List.mem_cons_of_mem _ (List.mem_flatMap.mpr ⟨c,by simp[dQ],hs⟩),hn⟩
 | .whl m b,ok,h=>hf b ok fun n hn=>h n (by
   obtain⟨s,hs,hn⟩:=List.mem_flatMap.mp hn
   exact List.mem_flatMap.mpr ⟨s,List.mem_cons_of_mem _ (List.mem_flatMap.mpr ⟨b,by simp[dQ],hs⟩),hn⟩)
theorem iU{N:Str→Prop}:∀ (d:Nat) (T:List Stp),jn d T→(∀ n∈(bW d T).flatMap bx,N n)→gY N d T
 | 0,_,h,_=>h
 | d+1,T,ok,h=>fun s hs=>zB (fun b hb hn=>iU d b hb hn) s (ok s hs) fun n hn=>h n (by
   obtain⟨s',hs',hn⟩:=List.mem_flatMap.mp hn
   exact List.mem_flatMap.mpr ⟨s',List.mem_flatMap.mpr ⟨s,hs,hs'⟩,hn⟩)
end
set_option genSizeOf false in
inductive Frm where
 | lend (x y:Str) (up:List Stp)
 | whl (n:Int) (up:List Stp)
 | inB (n:Int) (up:List Stp)
 | inC (n:Int) (b up:List Stp)
inductive Ctx (H:Hp) (S:Addr→Prop) (root:Addr):List Frm→List (Str × Addr)→Nat→Addr→Prop
 | nil:Ctx H S root [] [] 9 root
 | lend {x y:Str} {us:List Stp} {r:List Frm} {pr:List (Str × Addr)} {d:Nat} {here up t:Addr} {as:List Addr}:H up=some (.lst (as.map V.ref++[.ref t]))→Paired (stpAt (ProgAt S (d+1) H) H) as us→H t=some (.tup [.str "lend", .str x,.str y,.ref here])→Ctx H S root r pr (d+1) up→Ctx H S root (.lend x y us::r) (("back", up)::pr) d here
 | whl {n:Int} {us:List Stp} {r:List Frm} {pr:List (Str × Addr)} {d:Nat} {here up t:Addr} {as:List Addr}:H up=some (.lst (as.map V.ref++[.ref t]))→Paired (stpAt (ProgAt S (d+1) H) H) as us→H t=some (.tup [.str "while", .int n,.ref here])→Ctx H S root r pr (d+1) up→Ctx H S root (.whl n us::r) (("done", up)::pr) d here
 | inB {n:Int} {us:List Stp} {r:List Frm} {pr:List (Str × Addr)} {d:Nat} {here up t oth:Addr} {as:List Addr}:H up=some (.lst (as.map V.ref++[.ref t]))→Paired (stpAt (ProgAt S (d+1) H) H) as us→H t=some (.tup [.str "if", .int n,.ref here,.ref oth])→H oth=some (.lst [])→Ctx H S root r pr (d+1) up→Ctx H S root (.inB n us::r) (("else", oth)::("fi", up)::pr) d here
 | inC {n:Int} {b us:List Stp} {r:List Frm} {pr:List (Str × Addr)} {d:Nat} {here up t bq:Addr} {as:List Addr}:H up=some (.lst (as.map V.ref++[.ref t]))→Paired (stpAt (ProgAt S (d+1) H) H) as us→H t=some (.tup [.str "if", .int n,.ref bq,.ref here])→ProgAt S (d+1) H bq b→Ctx H S root r pr (d+1) up→Ctx H S root (.inC n b us::r) (("fi", up)::pr) d here
theorem Ctx.imp{H H':Hp}{S S':Addr→Prop}{root:Addr}(ht:∀ b xs,H b=some (.tup xs)→H' b=some (.tup xs))(hl:∀ b xs,S b→H b=some (.lst xs)→H' b=some (.lst xs))(hS:∀ b,S b→S' b){fs:List Frm}{pr:List (Str × Addr)}{d:Nat}{here:Addr}
  (h:Ctx H S root fs pr d here):(∀ q∈pr,∀ xs,H q.2=some (.lst xs)→H' q.2=some (.lst xs))→Ctx H' S' root fs pr d here:=by
 have st:∀ {d:Nat} {as:List Addr} {us:List Stp},Paired (stpAt (ProgAt S d H) H) as us→Paired (stpAt (ProgAt S' d H') H') as us:=fun {d as us} h=>Paired.imp' (fun a s z=>z.imp ht fun q b y=>y.imp ht hl hS d) h
 induction h with
 | nil=>intro _; exact .nil
 | lend h1 h2 h3 _ ih=>intro hu; exact .lend (hu _ List.mem_cons_self _ h1) (st h2) (ht _ _ h3) (ih fun q hq=>hu q (List.mem_cons_of_mem _ hq))
 | whl h1 h2 h3 _ ih=>intro hu; exact .whl (hu _ List.mem_cons_self _ h1) (st h2) (ht _ _ h3) (ih fun q hq=>hu q (List.mem_cons_of_mem _ hq))
 | inB h1 h2 h3 h4 _ ih=>intro hu; exact .inB (hu _ (List.mem_cons_of_mem _ List.mem_cons_self) _ h1) (st h2) (ht _ _ h3) (hu _ List.mem_cons_self _ h4) (ih fun q hq=>hu q (List.mem_cons_of_mem _ (List.mem_cons_of_mem _ hq)))
 | inC h1 h2 h3 h4 _ ih=>intro hu; exact .inC (hu _ List.mem_cons_self _ h1) (st h2) (ht _ _ h3) (h4.imp ht hl hS _) (ih fun q hq=>hu q (List.mem_cons_of_mem _ hq))
def di(pr:List (Str × Addr)):Nat:=(pr.filter fun q=>decide (q.1≠("else" : Str))).length
theorem ib{w:Str}(h:w ≠ "else") (a:Addr) (pr:List (Str × Addr)):di ((w,a)::pr)=di pr+1:=by
 unfold di
 rw[List.filter_cons,if_pos (by simpa using h)]; rfl
theorem sn(a:Addr)(pr:List (Str × Addr)):di (("else", a)::pr)=di pr:=by
 unfold di
 rw[List.filter_cons,if_neg (by simp)]
theorem Ctx.deep{H:Hp}{S:Addr→Prop}{root:Addr}{fs:List Frm}{pr:List (Str × Addr)}{d:Nat}{here:Addr}(h:Ctx H S root fs pr d here):d+fs.length=9∧di pr=fs.length∧pr.length≤2 * fs.length:=by
 induction h with
 | nil=>exact⟨rfl,rfl,Nat.le_refl _⟩
 | lend _ _ _ _ ih=>obtain⟨a,b,c⟩:=ih; refine⟨by rw[List.length_cons]; omega,by rw[ib (by decide),List.length_cons]; omega,by simp only[List.length_cons]; omega⟩
 | whl _ _ _ _ ih=>obtain⟨a,b,c⟩:=ih; refine⟨by rw[List.length_cons]; omega,by rw[ib (by decide),List.length_cons]; omega,by simp only[List.length_cons]; omega⟩
 | inB _ _ _ _ _ ih=>obtain⟨a,b,c⟩:=ih; refine⟨by rw[List.length_cons]; omega,by rw[sn,ib (by decide),List.length_cons]; omega,by simp only[List.length_cons]; omega⟩
 | inC _ _ _ _ _ ih=>obtain⟨a,b,c⟩:=ih; refine⟨by rw[List.length_cons]; omega,by rw[ib (by decide),List.length_cons]; omega,by simp only[List.length_cons]; omega⟩
set_option genInjectivity false in
set_option genSizeOf false in
structure BS where
 cur:List Stp
 stk:List Frm
 L:List Str
 left:Int
 lends:Int
def ee(st:BS):BS:=match st.stk with
 | []=>st
 | .lend x y up::r=>{ st with cur:=up++[.lend x y st.cur],stk:=r,L:=st.L++[("back" : Str)] }
 | .whl n up::r=>{ st with cur:=up++[.whl n st.cur],stk:=r,L:=st.L++[("done" : Str)] }
 | .inB n up::r=>{ st with cur:=[],stk:=.inC n st.cur up::r,L:=st.L++[("else" : Str)] }
 | .inC n b up::r=>{ st with cur:=up++[.ite n b st.cur],stk:=r,L:=st.L++[("fi" : Str)] }
def dZ:List Frm→Nat→List Str
 | [],_=>[]
 | .lend x y up::r,d=>dZ r (d+1)++b7 (d+2) up++[Txt.join " " ["lend", x,y]]
 | .whl n up::r,d=>dZ r (d+1)++b7 (d+2) up++[Txt.join " " ["while", bI n]]
 | .inB n up::r,d=>dZ r (d+1)++b7 (d+2) up++[Txt.join " " ["if", bI n]]
 | .inC n b up::r,d=>dZ r (d+1)++b7 (d+2) up++[Txt.join " " ["if", bI n]]++b7 (d+1) b++[("else" : Str)]
def qJ:List Frm→Nat→Prop
 | [],_=>True
 | .lend x y up::r,d=>x.length≤20∧y.length≤20∧eh (d+2) up∧qJ r (d+1)
 | .whl n up::r,d=>n.natAbs.log2<1920∧eh (d+2) up∧qJ r (d+1)
 | .inB n up::r,d=>n.natAbs.log2<1920∧eh (d+2) up∧qJ r (d+1)
 | .inC n b up::r,d=>n.natAbs.log2<1920∧eh (d+1) b∧eh (d+2) up∧qJ r (d+1)
def fh:Frm→Nat
 | .lend _ _ up=>up.length
 | .whl _ up=>up.length
 | .inB _ up=>up.length
 | .inC _ _ up=>up.length
structure gH (st:BS) (d:Nat):Prop where
 dep:d+st.stk.length=9
 lines:st.L=dZ st.stk d++b7 (d+1) st.cur
 ok:eh (d+1) st.cur
 okf:qJ st.stk d
 size:st.cur.length+(st.stk.map fh).sum≤st.L.length
theorem lg(d:Nat)(T U:List Stp):b7 (d+1) (T++U)=b7 (d+1) T++b7 (d+1) U:=by show List.flatMap _ _=_; rw[List.flatMap_append]; rfl
theorem kZ{d:Nat}{T U:List Stp}(h:eh (d+1) T)(h':eh (d+1) U):eh (d+1) (T++U):=fun s hs=>(List.mem_append.mp hs).elim (h s) (h' s)
theorem lr{d:Nat}{s:Stp}(h:pI (eh d) s):eh (d+1) [s]:=fun u hu=>by rw[List.mem_singleton.mp hu]; exact h
theorem y_{st:BS}{d:Nat}(h:gH st d)(hne:st.stk≠[]):∃ d',gH (ee st) d':=by
 obtain⟨cur,stk,L,left,lends⟩:=st
 obtain⟨h1,h2,h3,h4,h5⟩:=h
 dsimp only at h1 h2 h3 h4 h5 hne
 cases stk with
 | nil=>exact absurd rfl hne
 | cons f r=>
  rw[List.map_cons,List.sum_cons]at h5
  rw[List.length_cons]at h1
  cases f with
  | lend x y up=>
   obtain⟨k1,k2,k3,k4⟩:=h4
   refine⟨d+1,⟨by show d+1+r.length=9; omega,?_,kZ k3 (lr ⟨k1,k2,h3⟩),k4,?_⟩⟩
   ·show L++[("back" : Str)]=dZ r (d+1)++b7 (d+2) (up++[.lend x y cur])
    rw[lg,h2]
    simp[dZ,b7,bU,List.append_assoc]
   ·show (up++[Stp.lend x y cur]).length+(r.map fh).sum≤(L++[("back" : Str)]).length
    simp only[List.length_append,List.length_cons,List.length_nil]
    have:fh (.lend x y up)=up.length:=rfl
    omega
  | whl n up=>
   obtain⟨k1,k3,k4⟩:=h4
   refine⟨d+1,⟨by show d+1+r.length=9; omega,?_,kZ k3 (lr ⟨k1,h3⟩),k4,?_⟩⟩
   ·show L++[("done" : Str)]=dZ r (d+1)++b7 (d+2) (up++[.whl n cur])
    rw[lg,h2]
    simp[dZ,b7,bU,List.append_assoc]
   ·show (up++[Stp.whl n cur]).length+(r.map fh).sum≤(L++[("done" : Str)]).length
    simp only[List.length_append,List.length_cons,List.length_nil]
    have:fh (.whl n up)=up.length:=rfl
    omega
  | inB n up=>
   obtain⟨k1,k3,k4⟩:=h4
   refine⟨d,⟨by show d+(r.length+1)=9; omega,?_,fun s hs=>absurd hs (by show ¬ s∈([]:List Stp); simp),⟨k1,h3,k3,k4⟩,?_⟩⟩
   ·show L++[("else" : Str)]=dZ (.inC n cur up::r) d++b7 (d+1) []
    rw[h2]
    simp[dZ,b7,List.append_assoc]
   ·show 0+(((Frm.inC n cur up)::r).map fh).sum≤(L++[("else" : Str)]).length
    rw[List.map_cons,List.sum_cons]
    simp only[List.length_append,List.length_cons,List.length_nil]
    have:fh (.inC n cur up)=up.length:=rfl
    have:fh (.inB n up)=up.length:=rfl
    omega
  | inC n b up=>
   obtain⟨k1,k2,k3,k4⟩:=h4
   refine⟨d+1,⟨by show d+1+r.length=9; omega,?_,kZ k3 (lr ⟨k1,k2,h3⟩),k4,?_⟩⟩
   ·show L++[("fi" : Str)]=dZ r (d+1)++b7 (d+2) (up++[.ite n b cur])
    rw[lg,h2]
    simp[dZ,b7,bU,List.append_assoc]
   ·show (up++[Stp.ite n b cur]).length+(r.map fh).sum≤(L++[("fi" : Str)]).length
    simp only[List.length_append,List.length_cons,List.length_nil]
    have:fh (.inC n b up)=up.length:=rfl
    omega
def gX(H:Hp)(e:Addr)(q:Str × Addr):Prop:=H e=some (.tup [.str q.1,.ref q.2])
structure BInv (H0 H:Hp) (root lp pp here:Addr) (st:BS) (d:Nat) (pr:List (Str × Addr)) (S:Addr→Prop) (as es:List Addr):Prop where
 ctx:Ctx H S root st.stk pr d here
 pile:H pp=some (.lst (es.map V.ref))
 ents:Paired (gX H) es pr.reverse
 cur:H here=some (.lst (as.map V.ref))
 steps:Paired (stpAt (ProgAt S d H) H) as st.cur
 lines:H lp=some (.lst (st.L.map V.str))
 nd:(here::pr.map (·.2)).Nodup
 apart:∀ a∈here::pr.map (·.2),¬ S a∧a≠lp∧a≠pp∧H0 a=none∧∃ xs,H a=some (.lst xs)
 lpp:lp≠pp
 off:¬ S lp∧¬ S pp∧H0 lp=none∧H0 pp=none
 sin:∀ b,S b→∃ xs,H b=some (.lst xs)
 sm:Same H0 H
section
variable{H0 H H':Hp}{root lp pp here:Addr}{st:BS}{d:Nat}{pr:List (Str × Addr)}{S:Addr→Prop}{as es:List Addr}
theorem BInv.fr(I:BInv H0 H root lp pp here st d pr S as es)(fr:∀ b o,H b=some o→b≠here→b≠pp→b≠lp→H' b=some o) :
  (∀ b xs,H b=some (.tup xs)→H' b=some (.tup xs))∧(∀ b xs,S b→H b=some (.lst xs)→H' b=some (.lst xs))∧(∀ q∈pr,∀ xs,H q.2=some (.lst xs)→H' q.2=some (.lst xs))∧Same H0 H':=by
 have hh:=I.apart here List.mem_cons_self
 refine⟨fun b xs e=>fr b _ e ?_ ?_ ?_,fun b xs hs e=>fr b _ e ?_ ?_ ?_,fun q hq xs e=>fr _ _ e ?_ ?_ ?_,fun b o e=>fr b o (I.sm b o e) ?_ ?_ ?_⟩
 ·rintro rfl; rw[I.cur]at e; cases e
 ·rintro rfl; rw[I.pile]at e; cases e
 ·rintro rfl; rw[I.lines]at e; cases e
 ·rintro rfl; exact hh.1 hs
 ·rintro rfl; exact I.off.2.1 hs
 ·rintro rfl; exact I.off.1 hs
 ·intro z
  have:=(List.nodup_cons.mp I.nd).1
  exact this (z ▸ List.mem_map_of_mem hq)
 ·exact(I.apart _ (List.mem_cons_of_mem _ (List.mem_map_of_mem hq))).2.2.1
 ·exact(I.apart _ (List.mem_cons_of_mem _ (List.mem_map_of_mem hq))).2.1
 ·rintro rfl; rw[hh.2.2.2.1]at e; cases e
 ·rintro rfl; rw[I.off.2.2.2]at e; cases e
 ·rintro rfl; rw[I.off.2.2.1]at e; cases e
theorem BInv.new(I:BInv H0 H root lp pp here st d pr S as es){a:Addr}(ha:H a=none):a≠lp∧a≠pp∧¬ S a∧H0 a=none∧a∉here::pr.map (·.2):=by
 refine⟨?_,?_,fun z=>?_,I.sm.free ha,fun z=>?_⟩
 ·rintro rfl; rw[I.lines]at ha; cases ha
 ·rintro rfl; rw[I.pile]at ha; cases ha
 ·obtain⟨xs,e⟩:=I.sin a z; rw[ha]at e; cases e
 ·obtain⟨_,_,_,_,xs,e⟩:=I.apart a z; rw[ha]at e; cases e
theorem BInv.alloc(I:BInv H0 H root lp pp here st d pr S as es)(sm:Same H H'):BInv H0 H' root lp pp here st d pr S as es:=
 ⟨I.ctx.imp (fun b xs e=>sm _ _ e) (fun b xs _ e=>sm _ _ e) (fun _ z=>z) (fun q _ xs e=>sm _ _ e),sm _ _ I.pile,Paired.imp' (fun e q z=>sm _ _ z) I.ents,sm _ _ I.cur,Paired.imp' (fun a s z=>z.imp (fun b xs e=>sm _ _ e) fun q b y=>y.mono sm) I.steps,sm _ _ I.lines,I.nd,
  fun a ha=>let ⟨z1,z2,z3,z4,xs,z5⟩:=I.apart a ha; ⟨z1,z2,z3,z4,xs,sm _ _ z5⟩,I.lpp,I.off,fun b hb=>let ⟨xs,e⟩:=I.sin b hb; ⟨xs,sm _ _ e⟩,I.sm.trans sm⟩
theorem BInv.plain(I:BInv H0 H root lp pp here st d pr S as es)(fr:∀ b o,H b=some o→b≠here→b≠pp→b≠lp→H' b=some o){t:Addr}{ws:List Str}{L':List Str}(hh:H' here=some (.lst ((as++[t]).map V.ref)))(ht:H' t=some (.tup (ws.map V.str)))
  (hl:H' lp=some (.lst (L'.map V.str))) (hp:H' pp=some (.lst (es.map V.ref))) {lf ld:Int}:BInv H0 H' root lp pp here ⟨st.cur++[.plain ws],st.stk,L',lf,ld⟩ d pr S (as++[t]) es:=by
 obtain⟨f1,f2,f3,f4⟩:=I.fr fr
 refine⟨I.ctx.imp f1 f2 (fun _ z=>z) f3,hp,Paired.imp' (fun e q z=>f1 _ _ z) I.ents,hh,cB (R:=stpAt (ProgAt S d H') H') (show stpAt _ H' t (.plain ws) from ht) (Paired.imp' (fun a s z=>stpAt.imp f1 (fun q b y=>ProgAt.imp f1 f2 (fun _ z=>z) d y) z) I.steps),hl,I.nd,fun a ha=>?_,I.lpp,I.off,fun b hb=>let ⟨xs,e⟩:=I.sin b hb; ⟨xs,f2 _ _ hb e⟩,f4⟩
 obtain⟨z1,z2,z3,z4,xs,z5⟩:=I.apart a ha
 refine⟨z1,z2,z3,z4,?_⟩
 rcases List.mem_cons.mp ha with rfl | ha
 ·exact⟨_,hh⟩
 ·obtain⟨q,hq,rfl⟩:=List.mem_map.mp ha
  exact⟨xs,f3 q hq _ z5⟩
theorem BInv.open1(I:BInv H0 H root lp pp here st (d+1) pr S as es)(fr:∀ b o,H b=some o→b≠here→b≠pp→b≠lp→H' b=some o){t e inner:Addr}{word:Str}{L':List Str}{f:Frm}(hh:H' here=some (.lst ((as++[t]).map V.ref)))(hin:H inner=none)(hi:H' inner=some (.lst []))
  (hl:H' lp=some (.lst (L'.map V.str))) (hp:H' pp=some (.lst ((es++[e]).map V.ref))) (he:H' e=some (.tup [.str word,.ref here]))
  (hc:Ctx H' S root st.stk pr (d+1) here→Paired (stpAt (ProgAt S (d+1) H') H') as st.cur→Ctx H' S root (f::st.stk) ((word,here)::pr) d inner) {lf ld:Int} :
  BInv H0 H' root lp pp inner ⟨[],f::st.stk,L',lf,ld⟩ d ((word,here)::pr) S [] (es++[e]):=by
 obtain⟨f1,f2,f3,f4⟩:=I.fr fr
 obtain⟨n1,n2,n3,n4,n5⟩:=I.new hin
 refine⟨hc (I.ctx.imp f1 f2 (fun _ z=>z) f3) (Paired.imp' (fun a s z=>z.imp f1 fun q b y=>y.imp f1 f2 (fun _ z=>z) _) I.steps),hp,?_,hi,.nil,hl,?_,fun a ha=>?_,I.lpp,I.off,fun b hb=>let ⟨xs,e⟩:=I.sin b hb; ⟨xs,f2 _ _ hb e⟩,f4⟩
 ·rw[List.reverse_cons]
  exact cB (R:=gX H') (show gX H' e (word,here) from he) (Paired.imp' (fun e q z=>f1 _ _ z) I.ents)
 ·rw[List.map_cons]
  exact List.nodup_cons.mpr ⟨n5,I.nd⟩
 ·rw[List.map_cons]at ha
  rcases List.mem_cons.mp ha with rfl | ha
  ·exact⟨n3,n1,n2,n4,_,hi⟩
  obtain⟨z1,z2,z3,z4,xs,z5⟩:=I.apart a ha
  refine⟨z1,z2,z3,z4,?_⟩
  rcases List.mem_cons.mp ha with rfl | ha
  ·exact⟨_,hh⟩
  ·obtain⟨q,hq,rfl⟩:=List.mem_map.mp ha
   exact⟨xs,f3 q hq _ z5⟩
theorem BInv.open2(I:BInv H0 H root lp pp here st (d+1) pr S as es)(fr:∀ b o,H b=some o→b≠here→b≠pp→b≠lp→H' b=some o){t e e2 inner oth:Addr}{L':List Str}{n:Int}(hh:H' here=some (.lst ((as++[t]).map V.ref)))(hin:H inner=none)(hi:H' inner=some (.lst []))(hon:H oth=none)(ho:H' oth=some (.lst []))(hio:inner≠oth)
  (hl:H' lp=some (.lst (L'.map V.str))) (hp:H' pp=some (.lst ((es++[e,e2]).map V.ref))) (he:H' e=some (.tup [.str "fi", .ref here])) (he2:H' e2=some (.tup [.str "else", .ref oth])) (ht:H' t=some (.tup [.str "if", .int n,.ref inner,.ref oth])) {lf ld:Int} :
  BInv H0 H' root lp pp inner ⟨[],.inB n st.cur::st.stk,L',lf,ld⟩ d (("else", oth)::("fi", here)::pr) S [] (es++[e,e2]):=by
 obtain⟨f1,f2,f3,f4⟩:=I.fr fr
 obtain⟨n1,n2,n3,n4,n5⟩:=I.new hin
 obtain⟨m1,m2,m3,m4,m5⟩:=I.new hon
 refine⟨.inB (by rw[hh,List.map_append]; rfl) (Paired.imp' (fun a s z=>z.imp f1 fun q b y=>y.imp f1 f2 (fun _ z=>z) _) I.steps) ht ho (I.ctx.imp f1 f2 (fun _ z=>z) f3),hp,?_,hi,.nil,hl,?_,fun a ha=>?_,I.lpp,I.off,fun b hb=>let ⟨xs,e⟩:=I.sin b hb; ⟨xs,f2 _ _ hb e⟩,f4⟩
 ·rw[List.reverse_cons,List.reverse_cons,show es++[e,e2]=(es++[e])++[e2] by simp]
  exact cB (R:=gX H') (show gX H' e2 ("else", oth) from he2) (cB (R:=gX H') (show gX H' e ("fi", here) from he) (Paired.imp' (fun e q z=>f1 _ _ z) I.ents))
 ·rw[List.map_cons,List.map_cons]
  refine List.nodup_cons.mpr ⟨fun z=>?_,List.nodup_cons.mpr ⟨m5,I.nd⟩⟩
  rcases List.mem_cons.mp z with z | z
  ·exact hio z
  ·exact n5 z
 ·rw[List.map_cons,List.map_cons]at ha
  rcases List.mem_cons.mp ha with rfl | ha
  ·exact⟨n3,n1,n2,n4,_,hi⟩
  rcases List.mem_cons.mp ha with rfl | ha
  ·exact⟨m3,m1,m2,m4,_,ho⟩
  obtain⟨z1,z2,z3,z4,xs,z5⟩:=I.apart a ha
  refine⟨z1,z2,z3,z4,?_⟩
  rcases List.mem_cons.mp ha with rfl | ha
  ·exact⟨_,hh⟩
  ·obtain⟨q,hq,rfl⟩:=List.mem_map.mp ha
   exact⟨xs,f3 q hq _ z5⟩
theorem g0{α β : Type}{R:α→β→Prop}{x:α}{y:β}:∀ {xs:List α} {ys:List β},Paired R (xs++[x]) (ys++[y])→Paired R xs ys∧R x y
 | [],[],.cons h _=>⟨.nil,h⟩
 | [],b::ys,.cons h t=>by have:=av t; simp at this
 | a::xs,[],.cons h t=>by have:=av t; simp at this
 | a::xs,b::ys,.cons h t=>let ⟨z1,z2⟩:=g0 t; ⟨.cons h z1,z2⟩
theorem BInv.pop{w:Str}{up e:Addr}{pr':List (Str × Addr)}(I:BInv H0 H root lp pp here st d ((w,up)::pr') S as (es++[e]))(fr:∀ b o,H b=some o→b≠pp→b≠lp→H' b=some o)(hp:H' pp=some (.lst (es.map V.ref)))(hl:H' lp=some (.lst ((st.L++[w]).map V.str))) :
  ∃ d' as',BInv H0 H' root lp pp up (ee st) d' pr' (fun b=>S b∨b=here) as' es:=by
 obtain⟨f1,f2,f3,f4⟩:=I.fr fun b o e _ n1 n2=>fr b o e n1 n2
 have hh:=I.apart here List.mem_cons_self
 have hcur:H' here=some (.lst (as.map V.ref)):=fr _ _ I.cur hh.2.2.1 hh.2.1
 have hS:∀ b,S b→S b∨b=here:=fun b z=>.inl z
 have hents:Paired (gX H') es pr'.reverse:=by
  have:=I.ents
  rw[List.reverse_cons]at this
  exact Paired.imp' (fun e q z=>f1 _ _ z) (g0 this).1
 have hnd:=I.nd
 rw[List.map_cons]at hnd
 have hnd2:=(List.nodup_cons.mp hnd).2
 have hnh:=(List.nodup_cons.mp hnd).1
 have hap:∀ a∈up::pr'.map (·.2),¬ (S a∨a=here)∧a≠lp∧a≠pp∧H0 a=none∧∃ xs,H' a=some (.lst xs):=fun a ha=>by
  obtain⟨z1,z2,z3,z4,xs,z5⟩:=I.apart a (by rw[List.map_cons]; exact List.mem_cons_of_mem _ ha)
  refine⟨fun z=>z.elim z1 fun z=>hnh (z ▸ ha),z2,z3,z4,xs,fr _ _ z5 z3 z2⟩
 have hoff:¬ (S lp∨lp=here)∧¬ (S pp∨pp=here)∧H0 lp=none∧H0 pp=none:=⟨fun z=>z.elim I.off.1 fun z=>hh.2.1 z.symm,fun z=>z.elim I.off.2.1 fun z=>hh.2.2.1 z.symm,I.off.2.2⟩
 have hsin:∀ b,S b∨b=here→∃ xs,H' b=some (.lst xs):=fun b z=>by
  rcases z with z | rfl
  ·obtain⟨xs,e⟩:=I.sin b z; exact⟨xs,f2 _ _ z e⟩
  ·exact⟨_,hcur⟩
 have hst:∀ {d:Nat} {as:List Addr} {us:List Stp},Paired (stpAt (ProgAt S d H) H) as us→Paired (stpAt (ProgAt (fun b=>S b∨b=here) d H') H') as us:=fun {d as us} h=>Paired.imp' (fun a s z=>stpAt.imp f1 (fun q b y=>ProgAt.imp f1 f2 hS d y) z) h
 have hprog:∀ d',d'=d→ProgAt (fun b=>S b∨b=here) (d'+1) H' here st.cur:=fun d' e=>by subst e; exact⟨.inr rfl,as,hcur,hst I.steps⟩
 have f3':∀ q∈pr',∀ xs,H q.2=some (.lst xs)→H' q.2=some (.lst xs):=fun q hq=>f3 q (List.mem_cons_of_mem _ hq)
 have hup:∀ xs,H up=some (.lst xs)→H' up=some (.lst xs):=fun xs=>f3 (w,up) List.mem_cons_self xs
 have hctx:=I.ctx
 have hsm:=f4
 have hlpp:=I.lpp
 clear I
 obtain⟨cur,stk,L,left,lends⟩:=st
 dsimp only at hctx hl hprog
 cases hctx with
 | @lend x y us r _ _ _ _ t aus h1 h2 h3 h4=>
  refine⟨d+1,aus++[t],⟨h4.imp f1 f2 hS f3',hp,hents,by rw[hup _ h1,List.map_append]; rfl,?_,hl,hnd2,hap,hlpp,hoff,hsin,hsm⟩⟩
  exact cB (R:=stpAt (ProgAt (fun b=>S b∨b=here) (d+1) H') H') (x:=t) (y:=.lend x y cur) ⟨here,f1 _ _ h3,hprog d rfl⟩ (hst h2)
 | @whl n us r _ _ _ _ t aus h1 h2 h3 h4=>
  refine⟨d+1,aus++[t],⟨h4.imp f1 f2 hS f3',hp,hents,by rw[hup _ h1,List.map_append]; rfl,?_,hl,hnd2,hap,hlpp,hoff,hsin,hsm⟩⟩
  exact cB (R:=stpAt (ProgAt (fun b=>S b∨b=here) (d+1) H') H') (x:=t) (y:=.whl n cur) ⟨here,f1 _ _ h3,hprog d rfl⟩ (hst h2)
 | @inB n us r pr2 _ _ up2 t _ aus h1 h2 h3 h4 h5=>
  refine⟨d,[],⟨.inC (f3' (_,up2) List.mem_cons_self _ h1) (hst h2) (f1 _ _ h3) (hprog d rfl) (h5.imp f1 f2 hS fun q hq=>f3' q (List.mem_cons_of_mem _ hq)),hp,hents,hup _ h4,.nil,hl,hnd2,hap,hlpp,hoff,hsin,hsm⟩⟩
 | @inC n b us r _ _ _ _ t bq aus h1 h2 h3 h4 h5=>
  refine⟨d+1,aus++[t],⟨h5.imp f1 f2 hS f3',hp,hents,by rw[hup _ h1,List.map_append]; rfl,?_,hl,hnd2,hap,hlpp,hoff,hsin,hsm⟩⟩
  exact cB (R:=stpAt (ProgAt (fun b=>S b∨b=here) (d+1) H') H') (x:=t) (y:=.ite n b cur) ⟨bq,here,f1 _ _ h3,h4.imp f1 f2 hS _,hprog d rfl⟩ (hst h2)
theorem BInv.line(I:BInv H0 H root lp pp here st d pr S as es)(L':List Str){lf ld:Int}:BInv H0 (upd H lp (.lst (L'.map V.str))) root lp pp here ⟨st.cur,st.stk,L',lf,ld⟩ d pr S as es:=by
 obtain⟨_,hhl,hhp,_,_⟩:=I.apart here List.mem_cons_self
 have fr:∀ b o,H b=some o→b≠lp→upd H lp (.lst (L'.map V.str)) b=some o:=fun b o e n=>by rw[ah n]; exact e
 obtain⟨f1,f2,f3,f4⟩:=I.fr (H':=upd H lp (.lst (L'.map V.str))) fun b o e _ _ n=>fr b o e n
 refine⟨I.ctx.imp f1 f2 (fun _ z=>z) f3,fr _ _ I.pile (Ne.symm I.lpp),Paired.imp' (fun e q z=>f1 _ _ z) I.ents,fr _ _ I.cur hhl,Paired.imp' (fun a s z=>stpAt.imp f1 (fun q b y=>ProgAt.imp f1 f2 (fun _ z=>z) d y) z) I.steps,ac,I.nd,fun a ha=>?_,I.lpp,I.off,fun b hb=>let ⟨xs,e⟩:=I.sin b hb; ⟨xs,f2 _ _ hb e⟩,f4⟩
 obtain⟨z1,z2,z3,z4,xs,z5⟩:=I.apart a ha
 exact⟨z1,z2,z3,z4,xs,fr _ _ z5 z2⟩
end
section
variable{P:Program}{w:World}{K:PySem.W.Frag}{mg:Str→Option Value}{base:Heap}
theorem jL{ss:List Str}{z:Int}{n:Nat}(h0:1≤z)(h1:z≤n)(hn:ss.length=n)(hb:∀ x∈ss,x.length≤20):1≤(ss.take z.toNat).length∧((ss.take z.toNat).length:Int)=z∧∀ x∈ss.take z.toNat,x.length≤20:=by
 refine⟨?_,?_,fun x hx=>hb x (List.mem_of_mem_take hx)⟩ <;> rw[List.length_take] <;> omega
theorem je{x:Str}{lo hi:Option Int}{P:Nat→Prop}(h:∀ c∈x.cps.toList,P c):∀ c∈(Txt.slice x lo hi).cps.toList,P c:=fun c hc=>by
 rw[va]at hc
 exact h c (List.mem_of_mem_drop (List.mem_of_mem_take hc))
theorem qD{x:Str}(h:∀ c∈x.cps.toList,c∈letters.cps.toList):32∉x.cps.toList:=fun z=>absurd (h 32 z) (by decide)
def kg(z:Int):Nat:=letters.cps.toList.getD (z % 26).toNat 0
theorem iF(z:Int):letters.length≤sizeLine∧dw letters.cps.toList (z % 26)=some (kg z)∧kg z∈letters.cps.toList:=by
 obtain⟨c,h1,h2,h3⟩:=vb z
 have hz:(z % 26).toNat<letters.cps.toList.length:=by show (z % 26).toNat<26; omega
 have q:=bC (List.getElem?_eq_getElem hz)
 rw[show (((z % 26).toNat:Nat):Int)=z % 26 by omega,h2]at q
 have e:kg z=c:=by
  unfold kg
  rw[List.getD_eq_getElem?_getD,List.getElem?_eq_getElem hz]
  exact(Option.some.inj q).symm
 rw[e]
 exact⟨h1,h2,h3⟩
def iH(c:Int)(k:Nat):Nat:=kg (c / (0+(k:Int)+1)+(0+(k:Int)) * (0+(k:Int)) * c)
def iG(c:Int):Str:=Txt.join "" (((List.range 8).map (iH c)).map fun c=>(⟨#[c]⟩ : Str))
def yC(c:Int)(k:Nat):Str:=Txt.slice (iG c) none (some (c / 32 % (1+c / 4 % 8)))++(⟨#[kg (c / 256+9 * (0+(k:Int)))]⟩ : Str)++Txt.slice (iG c) (some (c / 32 % (1+c / 4 % 8)+1)) (some (1+c / 4 % 8))
def j0(c:Int):List Str:=if c % 4=1 then (["open", "lend", "back", "end"]:List Str).take (1+c / 3 % 4).toNat
 else if c % 4=2 then [Txt.slice (iG c) none (some 2),Txt.slice (iG c) none (some 3),Txt.slice (iG c) none (some 8),Txt.slice (iG c) none (some 7)].take (1+c / 3 % 4).toNat
 else (List.range (1+c / 3 % 4).toNat).map (yC c)
def qg:Sp:=fun vs H Q _=>∃ c:Int,vs=[.int c]∧∀ (L:Addr) (H':Hp),Same H H'→H L=none→H' L=some (.lst ((j0 c).map V.str))→1≤(j0 c).length→(j0 c).length≤7→(∀ x∈j0 c,x.length≤20)→(∀ x∈j0 c,32∉x.cps.toList)→Q (.ref L) H'
theorem xJ(D:DefAt K mg "_law_names" ay) (z_range:mg "range" = none):ba P w K mg base 1 "_law_names" ["_law_cell"] qg:=by
 refine D.cal sc_law_names (fun _ _ _ _ _ _ us hl=>match us,hl with | [_],_=>rfl) (fun vs H Q E h=>by obtain⟨c,rfl,_⟩:=h; rfl) (fun f cdv A outer s H vs Q E hr h=>?_)
 obtain⟨c,rfl,q0⟩:=h
 have q:∀ (L:Addr) (H':Hp) (ns:List Str),ns=j0 c→Same H H'→H L=none→H' L=some (.lst (ns.map V.str))→1≤ns.length→ns.length≤7→(∀ x∈ns,x.length≤20)→(∀ x∈ns,32∉x.cps.toList)→Q (.ref L) H':=fun L H' ns e=>by subst e; exact q0 L H'
 refine⟨_,(ae (ar 1 sc_law_names.nd al (hx:=DB))
   (ae (ar 2 sc_law_names.nd (aW K PySem.F.plainAttrs_str PySem.F.slot_str_join PySem.F.type_str_join (oU K) al (aa (gq (CompSc.to (fsc:=(defScope ay)) (N:=["_law_cell", "_law_letters", "_law_base", "_law_many", "_law_size", "_law_at", "_law_found", "_law_k", "_law_sign"]) (N0:=["_law_cell", "_law_letters", "_law_base", "_law_many", "_law_size", "_law_at", "_law_found", "_law_k'", "_law_sign"]) (T:=["_law_k"]) ⟨by decide +kernel,by decide +kernel,by decide +kernel,by decide +kernel,by decide +kernel,by decide +kernel,by decide +kernel⟩ rfl rfl) rfl (gd Ba z_range (aa ai ab)) (fun _ _ _ _=>(bt 9 (show (["_law_cell", "_law_letters", "_law_base", "_law_many", "_law_size", "_law_at", "_law_found", "_law_k'", "_law_sign", "_law_k"]:List Str).Nodup from by decide +kernel) (hx:=(ju (defScope ay) (by decide +kernel))) (hf:=mw (defScope ay) (by decide +kernel)))) (eC (show (["_law_cell", "_law_letters", "_law_base", "_law_many", "_law_size", "_law_at", "_law_found", "_law_k", "_law_sign"]:List Str).length≤9 from by decide)) (fun _ _ _ _=>iu) (fun _ _ _ _=>(aw (aO K) (pv 1 (hv:=(d0 (defScope ay) (by decide +kernel)))) (ap ck (ap az (ap gs (pv 0 (hv:=(d0 (defScope ay) (by decide +kernel)))) (ap az (pv 9 (hv:=(d0 (defScope ay) (by decide +kernel)))) ai)) (ap fR (ap fR (pv 9 (hv:=(d0 (defScope ay) (by decide +kernel)))) (pv 9 (hv:=(d0 (defScope ay) (by decide +kernel))))) (pv 0 (hv:=(d0 (defScope ay) (by decide +kernel)))))) ai) (fun _ _=>rfl)))) ab)) (hx:=ER))
   (ae (ar 3 sc_law_names.nd (ap az ai (ap ck (ap gs (pv 0 (hv:=ma)) ai) ai)) (hx:=Dv))
   (ae (bG (aD bT (ap ck (pv 0 (hv:=ma)) ai) ai (aL _)) (aj (aA (cu (fP K) (a_ (aa al (aa al (aa al (aa al ab))))) df (cg (pv 3 (hv:=xY)))))) aY)
   (ae (bG (aD bT (ap ck (pv 0 (hv:=ma)) ai) ai (aL _)) (aj (aA (cu (fP K) (a_ (aa (cu hG (pv 2 (hv:=lv)) df (cg ai)) (aa (cu hG (pv 2 (hv:=lv)) df (cg ai)) (aa (cu hG (pv 2 (hv:=lv)) df (cg ai)) (aa (cu hG (pv 2 (hv:=lv)) df (cg ai)) ab))))) df (cg (pv 3 (hv:=xY)))))) aY)
   (ae (ar 4 sc_law_names.nd (ap az ai (ap ck (ap gs (pv 0 (hv:=ma)) ai) ai)) (hx:=D3))
   (ae (ar 5 sc_law_names.nd (ap ck (ap gs (pv 0 (hv:=ma)) ai) (pv 4 (hv:=A7))) (hx:=Ex))
   (ae (ar 6 sc_law_names.nd (a_ ab) (hx:=Dk))
   (ae (cE PassesOwn.never rfl (gd Ba z_range (aa (pv 3 (hv:=xY)) ab)) (bt 7 sc_law_names.nd (hx:=C5)) (ae (ar 8 sc_law_names.nd (aw (aO K) (pv 1 (hv:=EG)) (ap ck (ap az (ap gs (pv 0 (hv:=ma)) ai) (ap fR ai (pv 7 (hv:=De)))) ai) (fun _ _=>rfl)) (hx:=DP))
   (aj (bu (aW K PySem.F.plainAttrs_list PySem.F.slot_list_append PySem.F.type_list_append bc (pv 6 (hv:=Bq)) (aa (ap az (ap az (cu hG (pv 2 (hv:=lv)) df (cg (pv 5 (hv:=Bh)))) (pv 8 (hv:=EB))) (cu hG (pv 2 (hv:=lv)) (cg (ap az (pv 5 (hv:=Bh)) ai)) (cg (pv 4 (hv:=A7))))) ab))))))
   (aj (aA (pv 6 (hv:=Bq))))))))))))),?_⟩
 walk_at "rd1"
 walk_at "nx"
 refine⟨by decide,by decide,fun C hC=>?_⟩
 refine qp (fun i ys H'=>Same H H'∧H' C=some (.lst ys)∧ys=((List.range i).map (iH c)).map (fun c=>V.str ⟨#[c]⟩)) ⟨af hC _,ac,rfl⟩ ?_ ?_
 ·rintro i ys H' hi ⟨sm,hl,rfl⟩
  have hi8:i<8:=hi
  walk_at "rd1"
  obtain⟨z1,z2,z3⟩:=iF (c / (0+(i:Int)+1)+(0+(i:Int)) * (0+(i:Int)) * c)
  have h49:(0+(i:Int)) * (0+(i:Int))≤49:=by
   have:=Nat.mul_le_mul (show i≤7 by omega) (show i≤7 by omega)
   have e:(0+(i:Int)) * (0+(i:Int))=((i * i:Nat):Int):=by rw[Int.zero_add]; push_cast; rfl
   rw[e]; omega
  have h0:0≤(0+(i:Int)) * (0+(i:Int)):=Int.mul_nonneg (by omega) (by omega)
  refine⟨⟨by omega,by omega⟩,.inl ⟨by omega,by omega⟩,.inl ⟨by omega,by omega⟩,by decide,_,z1,z2,?_⟩
  refine nC hi (by simp) (aQ (by show 8≤1000000; decide)) hl ⟨sm.upd hC _,ac,by rw[List.range_succ,List.map_append,List.map_append]; rfl⟩
 ·rintro ys H1 ⟨sm1,hl1,rfl⟩
  have hlt:∀ d∈(List.range 8).map (iH c),d∈letters.cps.toList:=fun d hd=>by obtain⟨k,_,rfl⟩:=List.mem_map.mp hd; exact(iF _).2.2
  have hn8:((List.range 8).map (iH c)).length=8:=by simp
  have hl1:H1 C=some (.lst (((List.range 8).map (iH c)).map (fun c=>V.str ⟨#[c]⟩))):=hl1
  have hbF:Txt.join "" (((List.range 8).map (iH c)).map fun c=>(⟨#[c]⟩ : Str))=iG c:=rfl
  generalize (List.range 8).map (iH c)=cs at hl1 hlt hn8 hbF ⊢
  walk_at "rd1"
  have hmm:cs.map (fun c=>V.str ⟨#[c]⟩)=(cs.map fun c=>(⟨#[c]⟩ : Str)).map V.str:=by rw[List.map_map]; rfl
  rw[hmm]at hl1
  have h1l:(Str.ofString "").length=0:=by decide
  refine⟨_,SqL.of hl1,?_,?_⟩
  ·rw[h1l]
   have:=gm 1 (cs.map fun c=>(⟨#[c]⟩ : Str)) (fun s hs=>by obtain⟨c,_,rfl⟩:=List.mem_map.mp hs; exact Nat.le_refl _)
   rw[List.length_map]at this ⊢
   omega
  have hbl:(Txt.join "" (cs.map fun c=>(⟨#[c]⟩ : Str))).length=8:=by rw[xK]; exact hn8
  have hbm:∀ c∈(Txt.join "" (cs.map fun c=>(⟨#[c]⟩ : Str))).cps.toList,c∈letters.cps.toList:=by rw[pO]; exact hlt
  generalize Txt.join "" (cs.map fun c=>(⟨#[c]⟩ : Str))=bs at hbl hbm hbF ⊢
  have bsz:bs.length≤sizeLine:=by rw[hbl]; exact aQ (by decide)
  have hsl:∀ l u,(Txt.slice bs l u).length≤8:=fun l u=>hbl ▸ Txt.slice_le bs l u
  walk_at "nx"
  refine⟨⟨by decide,by decide⟩,by decide,?_⟩
  generalize hmy:1+c / 3 % 4=many
  have m1:1≤many:=by omega
  have m4:many≤4:=by omega
  walk_at "nx"
  refine⟨by decide,bh (fun c1=>?_) (fun c1=>?_)⟩
  ·refine⟨by decide,fun l hl=>⟨_,SqL.of ac,fun r hr'=>?_⟩⟩
   have sl:=af hl (.lst [V.str "open", .str "lend", .str "back", .str "end"])
   obtain⟨t1,t2,t3⟩:=jL (ss:=["open", "lend", "back", "end"]) (n:=4) m1 m4 rfl (by decide)
   exact q r _ _ (by unfold j0; rw[if_pos c1,hmy]) (sm1.trans (sl.trans (af hr' _))) (sm1.free (sl.free hr')) (by rw[ac]; exact congrArg (fun z=>some (HO.lst z)) (pq ["open", "lend", "back", "end"] (by omega))) t1 (by omega) t3 (fun x hx=>(by decide:∀ x∈(["open", "lend", "back", "end"]:List Str),32∉x.cps.toList) x (List.mem_of_mem_take hx))
  walk_at "nx"
  refine⟨by decide,bh (fun c2=>?_) (fun c2=>?_)⟩
  ·refine⟨bsz,bsz,bsz,bsz,by decide,fun l hl=>⟨_,SqL.of ac,fun r hr'=>?_⟩⟩
   have sl:=af hl (.lst ([Txt.slice bs none (some 2),Txt.slice bs none (some 3),Txt.slice bs none (some 8),Txt.slice bs none (some 7)].map V.str))
   obtain⟨t1,t2,t3⟩:=jL (ss:=[Txt.slice bs none (some 2),Txt.slice bs none (some 3),Txt.slice bs none (some 8),Txt.slice bs none (some 7)]) (n:=4) m1 m4 rfl (by
    intro x hx
    simp only[List.mem_cons,List.mem_nil_iff,or_false]at hx
    rcases hx with rfl | rfl | rfl | rfl <;> exact Nat.le_trans (hsl _ _) (by decide))
   exact q r _ _ (by unfold j0; rw[if_neg c1,if_pos c2,hmy,← hbF]) (sm1.trans (sl.trans (af hr' _))) (sm1.free (sl.free hr')) (by rw[ac]; exact congrArg (fun z=>some (HO.lst z)) (pq [Txt.slice bs none (some 2),Txt.slice bs none (some 3),Txt.slice bs none (some 8),Txt.slice bs none (some 7)] (by omega))) t1 (by omega) t3 (fun x hx=>by
    have hx:=List.mem_of_mem_take hx
    simp only[List.mem_cons,List.mem_nil_iff,or_false]at hx
    rcases hx with rfl | rfl | rfl | rfl <;> exact qD (je hbm))
  walk_at "nx"
  refine⟨⟨by decide,by decide⟩,by decide,?_⟩
  generalize hsz:1+c / 4 % 8=sz
  have s1:1≤sz:=by omega
  walk_at "nx"
  refine⟨⟨by decide,by decide⟩,by omega,?_⟩
  generalize hat9:c / 32 % sz=at9
  walk_at "nx"
  refine⟨by decide,fun fp hfp=>?_⟩
  generalize hH2:upd H1 fp _=H2
  have sm2:=eL hH2 hfp
  have e2:=gn hH2
  walk_at "nx"
  refine⟨by omega,by omega,?_⟩
  refine iq (fun i σ H'=>∃ (ss:List Str) (o7 o8:Option V),σ=[some (.int c),some (.str letters),some (.str bs),some (.int many),some (.int sz),some (.int at9),some (.ref fp),o7,o8]∧Same H H'∧H' fp=some (.lst (ss.map V.str))∧ss=(List.range i).map (yC c)∧ss.length=i∧(∀ x∈ss,x.length≤20)∧∀ x∈ss,32∉x.cps.toList)
   ⟨[],none,none,rfl,sm1.trans sm2,e2,rfl,rfl,by simp,by simp⟩ ?_ ?_
  ·rintro i σ H' hi ⟨ss,o7,o8,rfl,sm,hl,hss,hn',hb,hf⟩
   walk_at "rd1"
   obtain⟨z1,z2,z3⟩:=iF (c / 256+9 * (0+(i:Int)))
   generalize hc':kg (c / 256+9 * (0+(i:Int)))=c' at z2 z3
   have hel:Txt.slice bs none (some at9)++(⟨#[c']⟩ : Str)++Txt.slice bs (some (at9+1)) (some sz)=yC c i:=by unfold yC; rw[← hbF,hsz,hat9,hc']
   refine⟨⟨by decide,by decide⟩,.inl ⟨by decide,by decide⟩,by decide,c',z1,z2,?_⟩
   walk_at "nx"
   have l1:=hsl none (some at9)
   have l2:=hsl (some (at9+1)) (some sz)
   have la:((Txt.slice bs none (some at9))++(⟨#[c']⟩ : Str)).length≤9:=by rw[xC]; omega
   have lb:((Txt.slice bs none (some at9))++(⟨#[c']⟩ : Str)++Txt.slice bs (some (at9+1)) (some sz)).length≤17:=by rw[Str.length_append]; omega
   refine⟨⟨_,SqL.of hl⟩,bsz,?_,bsz,?_,_,hl,by rw[List.length_map]; exact bn (by omega),?_⟩
   ·rw[Str.length_append]at la; exact aQ (by omega)
   ·rw[Str.length_append]at lb; exact aQ (by omega)
   refine⟨ss++[_],_,_,rfl,sm.upd (sm1.free hfp) _,by rw[ac,List.map_append]; rfl,by rw[List.range_succ,List.map_append,← hss,hel]; rfl,by simp[hn'],fun x hx=>?_,fun x hx=>?_⟩
   ·rcases List.mem_append.mp hx with z | z
    ·exact hb x z
    ·rw[List.mem_singleton.mp z]; omega
   ·rcases List.mem_append.mp hx with z | z
    ·exact hf x z
    ·rw[List.mem_singleton.mp z]
     refine qD fun d hd=>?_
     rw[dm,dm,List.mem_append,List.mem_append]at hd
     rcases hd with (hd | hd) | hd
     ·exact je hbm d hd
     ·have:d=c':=by simpa using hd
      rw[this]; exact z3
     ·exact je hbm d hd
  ·rintro σ H' ⟨ss,o7,o8,rfl,sm,hl,hss,hn',hb,hf⟩
   walk_at "nx"
   exact q fp H' ss (by rw[hss]; unfold j0; rw[if_neg c1,if_neg c2,hmy]) sm (sm1.free hfp) hl (by omega) (by omega) hb hf
def cT(c:Int):Int:=if c * 16807 % 65537 % 4<2 then c / 15 % 9 - 4 else if c * 16807 % 65537 % 4=2 then c % 10 ^ 60 else 0 - c % 10 ^ 60
theorem pG{n:Int}(h:-(10 ^ 61)<n)(h':n<10 ^ 61):n.natAbs.log2<1920:=by
 have hb:n.natAbs<2 ^ 1920:=Nat.lt_of_lt_of_le (show n.natAbs<10 ^ 61 by omega) (by decide)
 by_cases h0:n.natAbs=0
 ·rw[h0]; decide
 ·exact(Nat.log2_lt h0).mpr hb
theorem kq(c:Int):(cT c).natAbs.log2<1920:=by
 unfold cT
 split
 ·exact pG (by omega) (by omega)
 split
 ·exact pG (by omega) (by omega)
 ·exact pG (by omega) (by omega)
def rK:Sp:=fun vs H Q _=>∃ c:Int,vs=[.int c]∧Q (.int (cT c)) H
theorem xa(D:DefAt K mg "_law_bound" cJ):ba P w K mg base 1 "_law_bound" ["_law_cell"] rK:=by
 refine D.cal sc_law_bound (fun _ _ _ _ _ _ us hl=>match us,hl with | [_],_=>rfl) (fun vs H Q E h=>by obtain⟨c,rfl,_⟩:=h; rfl) (fun f cdv A outer s H vs Q E hr h=>?_)
 obtain⟨c,rfl,q⟩:=h
 refine⟨_,(ae (ar 1 sc_law_bound.nd (ap ck (ap ck (ap fR (pv 0 (hv:=sH)) ai) ai) ai) (hx:=D2))
   (ae (bG (aD iY (pv 1 (hv:=BJ)) ai (aL _)) (aj (aA (ap ij (ap ck (ap gs (pv 0 (hv:=sH)) ai) ai) ai))) aY)
   (ae (bG (aD bT (pv 1 (hv:=BJ)) ai (aL _)) (aj (aA (ap ck (pv 0 (hv:=sH)) (ap vc ai ai)))) aY)
   (aj (aA (ap ij ai (ap ck (pv 0 (hv:=sH)) (ap vc ai ai)))))))),?_⟩
 unfold cT at q
 walk_at "rd1"
 refine⟨.inr ⟨by decide,by decide⟩,by decide,by decide,?_⟩
 walk_at "nx"
 refine bh (fun c1=>?_) (fun c1=>?_)
 ·rw[if_pos c1]at q
  exact⟨⟨by decide,by decide⟩,by decide,q⟩
 rw[if_neg c1]at q
 walk_at "nx"
 refine bh (fun c1=>?_) (fun c1=>?_)
 ·rw[if_pos c1]at q
  exact⟨⟨by decide,by decide,by decide⟩,by decide,q⟩
 rw[if_neg c1]at q
 walk_at "nx"
 exact⟨⟨by decide,by decide,by decide⟩,by decide,q⟩
abbrev jQ:List Str:=["read", "lend", "back", "open", "end", "write"]
def pk(nm:List Str)(z:Int):Str:=nm.getD (z % (nm.length:Int)).toNat ""
theorem fM{nm:List Str}(hn:1≤nm.length)(z:Int):pk nm z∈nm∧dw (nm.map V.str) (z % (nm.length:Int))=some (.str (pk nm z)):=by
 have h0:0≤z % (nm.length:Int):=Int.emod_nonneg _ (by omega)
 have h1:z % (nm.length:Int)<nm.length:=Int.emod_lt_of_pos _ (by omega)
 have hlt:(z % (nm.length:Int)).toNat<nm.length:=by omega
 have e:pk nm z=nm[(z % (nm.length:Int)).toNat]:=by unfold pk; rw[List.getD_eq_getElem?_getD,List.getElem?_eq_getElem hlt]; rfl
 rw[e]
 exact⟨List.getElem_mem hlt,v5 h0 (List.getElem?_eq_getElem hlt)⟩
def xB(nm:List Str)(c:Int):Str:=pk nm (c * 48271 % 1009)
def yB(nm:List Str)(c:Int):Str:=pk nm (c * 69621 % 2003)
def dy(nm:List Str)(c:Int):List Str:=
 if c % 15<3 then ["open", xB nm c] else if c % 15=3 then ["copy", xB nm c,yB nm c] else if c % 15=4 then ["drop", xB nm c] else if c % 15=5 then ["tie", xB nm c,yB nm c] else ["do", pk (jQ++nm) (c * 40692 % 4001),xB nm c]
structure NmOk (nm:List Str):Prop where
 n1:1≤nm.length
 n7:nm.length≤7
 len:∀ x∈nm,x.length≤20
theorem NmOk.xl{nm:List Str}(h:NmOk nm)(c:Int):(xB nm c).length≤20:=h.len _ (fM h.n1 _).1
theorem NmOk.yl{nm:List Str}(h:NmOk nm)(c:Int):(yB nm c).length≤20:=h.len _ (fM h.n1 _).1
theorem NmOk.ex{nm:List Str}(h:NmOk nm):1≤(jQ++nm).length∧∀ u∈jQ++nm,u.length≤20:=by
 refine⟨by rw[List.length_append]; have:=h.n1; omega,fun u hu=>?_⟩
 rcases List.mem_append.mp hu with z | z
 ·exact(by decide:∀ u∈jQ,u.length≤20) u z
 ·exact h.len u z
theorem xU{nm:List Str}(h:NmOk nm)(c:Int):gK (dy nm c):=by
 have xl:=h.xl c
 have yl:=h.yl c
 have wl:=h.ex.2 _ (fM h.ex.1 (c * 40692 % 4001)).1
 have two:∀ (k:Str),k∈c_→k.length≤20→gK [k,xB nm c]:=fun k h1 h2=>⟨by simp,by simp,h1,fun z hz=>by
  simp only[List.mem_cons,List.mem_nil_iff,or_false]at hz
  rcases hz with rfl | rfl <;> assumption⟩
 have three:∀ (k u v:Str),k∈c_→k.length≤20→u.length≤20→v.length≤20→gK [k,u,v]:=fun k u v h1 h2 h3 h4=>⟨by simp,by simp,h1,fun z hz=>by
  simp only[List.mem_cons,List.mem_nil_iff,or_false]at hz
  rcases hz with rfl | rfl | rfl <;> assumption⟩
 unfold dy
 split
 ·exact two "open" (by decide) (by decide)
 split
 ·exact three "copy" _ _ (by decide) (by decide) xl yl
 split
 ·exact two "drop" (by decide) (by decide)
 split
 ·exact three "tie" _ _ (by decide) (by decide) xl yl
 ·exact three "do" _ _ (by decide) (by decide) wl xl
def vC:Sp:=fun vs H Q _=>∃ (c:Int) (a:Addr) (nm:List Str),vs=[.int c,.str (xB nm c),.str (yB nm c),.ref a]∧H a=some (.lst (nm.map V.str))∧NmOk nm∧
 ∀ (t:Addr) (H':Hp),Same H H'→H t=none→H' t=some (.tup ((dy nm c).map V.str))→Q (.ref t) H'
theorem zh(D:DefAt K mg "_law_step" bX) (z_len:mg "len" = none):ba P w K mg base 1 "_law_step" ["_law_cell", "_law_x", "_law_y", "_law_names_here"] vC:=by
 refine D.cal sc_law_step (fun _ _ _ _ _ _ us hl=>match us,hl with | [_,_,_,_],_=>rfl) (fun vs H Q E h=>by obtain⟨c,a,ns,rfl,_⟩:=h; rfl) (fun f cdv A outer s H vs Q E hr h=>?_)
 obtain⟨c,a,ns,rfl,ha,ok,q⟩:=h
 obtain⟨n1,n7,hb⟩:=id ok
 refine⟨_,(ae (ar 4 sc_law_step.nd (ap ck (pv 0 (hv:=AX)) ai) (hx:=C9))
   (ae (bG (aD iY (pv 4 (hv:=sG)) ai (aL _)) (aj (aA (bd (aa al (aa (pv 1 (hv:=oO)) ab))))) aY)
   (ae (bG (aD bT (pv 4 (hv:=sG)) ai (aL _)) (aj (aA (bd (aa al (aa (pv 1 (hv:=oO)) (aa (pv 2 (hv:=BF)) ab)))))) aY)
   (ae (bG (aD bT (pv 4 (hv:=sG)) ai (aL _)) (aj (aA (bd (aa al (aa (pv 1 (hv:=oO)) ab))))) aY)
   (ae (bG (aD bT (pv 4 (hv:=sG)) ai (aL _)) (aj (aA (bd (aa al (aa (pv 1 (hv:=oO)) (aa (pv 2 (hv:=BF)) ab)))))) aY)
   (ae (ar 5 sc_law_step.nd (ap az (a_ (aa al (aa al (aa al (aa al (aa al (aa al ab))))))) (pv 3 (hv:=Dg))) (hx:=E2))
   (aj (aA (bd (aa al (aa (aw (aO K) (pv 5 (hv:=AI)) (ap ck (ap ck (ap fR (pv 0 (hv:=AX)) ai) ai) (bv (bb K) z_len bQ (aa (pv 5 (hv:=AI)) ab) (hg:=DA))) (fun _ _=>rfl)) (aa (pv 1 (hv:=oO)) ab)))))))))))),?_⟩
 walk_at "rd1"
 refine⟨by decide,?_⟩
 unfold dy at q
 walk_at "nx"
 refine bh (fun c1=>?_) (fun c1=>?_)
 ·rw[if_pos c1]at q
  exact⟨by decide,fun p hp=>q p _ (af hp _) hp ac⟩
 rw[if_neg c1]at q
 walk_at "nx"
 refine bh (fun c1=>?_) (fun c1=>?_)
 ·rw[if_pos c1]at q
  exact⟨by decide,fun p hp=>q p _ (af hp _) hp ac⟩
 rw[if_neg c1]at q
 walk_at "nx"
 refine bh (fun c1=>?_) (fun c1=>?_)
 ·rw[if_pos c1]at q
  exact⟨by decide,fun p hp=>q p _ (af hp _) hp ac⟩
 rw[if_neg c1]at q
 walk_at "nx"
 refine bh (fun c1=>?_) (fun c1=>?_)
 ·rw[if_pos c1]at q
  exact⟨by decide,fun p hp=>q p _ (af hp _) hp ac⟩
 rw[if_neg c1]at q
 walk_at "nx"
 refine⟨by decide,fun p hp=>⟨_,_,ac,by rw[ah (au ha hp)]; exact ha,aQ (by rw[List.length_map]; simp only[List.length_cons,List.length_nil]; omega),fun r hr'=>?_⟩⟩
 have sp:=af hp (.lst [V.str "read", .str "lend", .str "back", .str "open", .str "end", .str "write"])
 have smr:=sp.trans (af hr' (.lst ([V.str "read", .str "lend", .str "back", .str "open", .str "end", .str "write"]++ns.map V.str)))
 have er:[V.str "read", .str "lend", .str "back", .str "open", .str "end", .str "write"]++ns.map V.str=(jQ++ns).map V.str:=by rw[List.map_append]; rfl
 have hat:upd (upd H p (.lst [V.str "read", .str "lend", .str "back", .str "open", .str "end", .str "write"])) r (.lst ([V.str "read", .str "lend", .str "back", .str "open", .str "end", .str "write"]++ns.map V.str)) r=some (.lst ((jQ++ns).map V.str)):=by rw[ac,er]
 generalize upd (upd H p (.lst [V.str "read", .str "lend", .str "back", .str "open", .str "end", .str "write"])) r (.lst ([V.str "read", .str "lend", .str "back", .str "open", .str "end", .str "write"]++ns.map V.str))=H2 at hat smr ⊢
 have hwl:=ok.ex.1
 generalize jQ++ns=wl at hat hwl q ⊢
 walk_at "nx"
 have eu:=(fM hwl (c * 40692 % 4001)).2
 refine⟨.inr ⟨by decide,by decide⟩,by decide,_,.inl (SqL.of hat),?_⟩
 rw[List.length_map]
 walk_at "rd1"
 refine⟨by omega,_,_,.inl (SqL.of hat),eu,by decide,fun t ht=>?_⟩
 exact q t _ (smr.trans (af ht _)) (smr.free ht) ac
theorem zv(nm:List Str)(c:Int):dB (dy nm c):=by
 unfold dy
 split
 ·exact .op _
 split
 ·exact .cp _ _
 split
 ·exact .dr _
 split
 ·exact .ti _ _
 ·exact .dd _ _
theorem ce{H:Hp}{a b:Addr}{o:HO}(h:upd H a o b=none):b≠a∧H b=none:=by
 have n:b≠a:=fun z=>by rw[z,ac]at h; cases h
 exact⟨n,by rw[ah n]at h; exact h⟩
theorem yu{H1:Hp}{t here e pp lp:Addr}{T L1 E L2 L3:HO}(ht:H1 t=none)(he:H1 e=none)(hht:here≠t)(hpt:pp≠t)(hlt:lp≠t)(e1:e≠here)(e2:e≠t)(e3:e≠pp)(e4:e≠lp)(hhl:here≠lp)(hhp:here≠pp)(hpl:pp≠lp) :
  let H':=upd (upd (upd (upd (upd H1 t T) here L1) e E) pp L2) lp L3
  H' t=some T∧H' here=some L1∧H' e=some E∧H' pp=some L2∧H' lp=some L3∧∀ b o,H1 b=some o→b≠here→b≠pp→b≠lp→H' b=some o:=by
 refine⟨?_,?_,?_,?_,ac,fun b o eb n1 n2 n3=>?_⟩
 ·rw[ah hlt.symm,ah hpt.symm,ah e2.symm,ah hht.symm,ac]
 ·rw[ah hhl,ah hhp,ah e1.symm,ac]
 ·rw[ah e4,ah e3,ac]
 ·rw[ah hpl,ac]
 ·rw[ah n3,ah n2,ah (au eb he),ah n1,ah (au eb ht)]; exact eb
theorem B9{H1:Hp}{t here e e' pp lp:Addr}{T L1 E L2 E' L2' L3:HO}(ht:H1 t=none)(he:H1 e=none)(he':H1 e'=none)(hht:here≠t)(hpt:pp≠t)(hlt:lp≠t)(e1:e≠here)(e2:e≠t)(e3:e≠pp)(e4:e≠lp)(d1:e'≠here)(d2:e'≠t)(d3:e'≠pp)(d4:e'≠lp)(d5:e'≠e)(hhl:here≠lp)(hhp:here≠pp)(hpl:pp≠lp) :
  let H':=upd (upd (upd (upd (upd (upd (upd H1 t T) here L1) e E) pp L2) e' E') pp L2') lp L3
  H' t=some T∧H' here=some L1∧H' e=some E∧H' e'=some E'∧H' pp=some L2'∧H' lp=some L3∧∀ b o,H1 b=some o→b≠here→b≠pp→b≠lp→H' b=some o:=by
 refine⟨?_,?_,?_,?_,?_,ac,fun b o eb n1 n2 n3=>?_⟩
 ·rw[ah hlt.symm,ah hpt.symm,ah d2.symm,ah hpt.symm,ah e2.symm,ah hht.symm,ac]
 ·rw[ah hhl,ah hhp,ah d1.symm,ah hhp,ah e1.symm,ac]
 ·rw[ah e4,ah e3,ah d5.symm,ah e3,ac]
 ·rw[ah d4,ah d3,ac]
 ·rw[ah hpl,ac]
 ·rw[ah n3,ah n2,ah (au eb he'),ah n2,ah (au eb he),ah n1,ah (au eb ht)]; exact eb
theorem BQ(x y:Str):Str.ofString "lend " ++ x++Str.ofString " " ++ y=Txt.join " " ["lend", x,y]:=by
 rw[eK]
 show _=Str.ofString "lend" ++ Str.ofString " " ++ x++Str.ofString " " ++ y
 rw[show Str.ofString "lend" ++ Str.ofString " " = Str.ofString "lend " from by decide]
theorem Bu(n:Int):Str.ofString "while " ++ Str.ofString (toString n)=Txt.join " " ["while", bI n]:=by
 rw[eK]
 show _=Str.ofString "while" ++ Str.ofString " " ++ bI n
 rw[show Str.ofString "while" ++ Str.ofString " " = Str.ofString "while " from by decide]; rfl
theorem FB(n:Int):Str.ofString "if " ++ Str.ofString (toString n)=Txt.join " " ["if", bI n]:=by
 rw[eK]
 show _=Str.ofString "if" ++ Str.ofString " " ++ bI n
 rw[show Str.ofString "if" ++ Str.ofString " " = Str.ofString "if " from by decide]; rfl
def dF(nm:List Str)(c:Int)(st:BS):BS:=
 if c % 15=9 then ⟨[],.lend (xB nm c) (yB nm c) st.cur::st.stk,st.L++[Txt.join " " ["lend", xB nm c,yB nm c]],st.left,st.lends⟩
 else if c % 15=11 then ⟨[],.whl (cT c) st.cur::st.stk,st.L++[Txt.join " " ["while", bI (cT c)]],st.left,st.lends⟩
 else ⟨[],.inB (cT c) st.cur::st.stk,st.L++[Txt.join " " ["if", bI (cT c)]],st.left,st.lends⟩
def su:Sp:=fun vs H Q _=>∃ (here pp lp:Addr) (c:Int) (nm:List Str) (H0:Hp) (root:Addr) (st:BS) (d:Nat) (pr:List (Str × Addr)) (S:Addr→Prop) (as es:List Addr),vs=[.ref here,.ref pp,.ref lp,.int c,.str (xB nm c),.str (yB nm c)]∧
 BInv H0 H root lp pp here st (d+1) pr S as es∧NmOk nm∧as.length≤1000∧es.length≤1000∧st.L.length≤1000∧
 ∀ (inner:Addr) (H':Hp) (pr':List (Str × Addr)) (es':List Addr),BInv H0 H' root lp pp inner (dF nm c st) d pr' S [] es'→Q (.ref inner) H'
theorem xQ(D:DefAt K mg "_law_begun" bj) (z_len:mg "len" = none) (z_str:mg "str" = none) (c_law_bound:ba P w K mg base 1 "_law_bound" ["_law_cell"] rK):ba P w K mg base 2 "_law_begun" ["_law_here", "_law_pile", "_law_lines", "_law_cell", "_law_x", "_law_y"] su:=by
 refine D.cal sc_law_begun (fun _ _ _ _ _ _ us hl=>match us,hl with | [_,_,_,_,_,_],_=>rfl) (fun vs H Q E h=>by obtain⟨_,_,_,_,_,_,_,_,_,_,_,_,_,rfl,_⟩:=h; rfl) (fun f cdv A outer s H vs Q E hr h=>?_)
 obtain⟨here,pp,lp,c,nm,H0,root,st,d,pr,S,as,es,rfl,I,ok,ha1,he1,hl1,q⟩:=h
 refine⟨_,(ae (ar 6 sc_law_begun.nd (a_ ab) (hx:=DM))
   (ae (ar 7 sc_law_begun.nd (aG c_law_bound hr (aa (pv 3 (hv:=xL)) ab) (hg:=Da)) (hx:=E9))
   (ae (bG (aD bT (ap ck (pv 3 (hv:=xL)) ai) ai (aL _)) (ae (bu (aW K PySem.F.plainAttrs_list PySem.F.slot_list_append PySem.F.type_list_append bc (pv 0 (hv:=lB)) (aa (bd (aa al (aa (pv 4 (hv:=Bc)) (aa (pv 5 (hv:=zI)) (aa (pv 6 (hv:=lA)) ab))))) ab)))
   (ae (bu (aW K PySem.F.plainAttrs_list PySem.F.slot_list_append PySem.F.type_list_append bc (pv 1 (hv:=um)) (aa (bd (aa al (aa (pv 0 (hv:=lB)) ab))) ab)))
   (ae (bu (aW K PySem.F.plainAttrs_list PySem.F.slot_list_append PySem.F.type_list_append bc (pv 2 (hv:=x4)) (aa (ap az (ap az (ap az al (pv 4 (hv:=Bc))) al) (pv 5 (hv:=zI))) ab)))
   (aj (aA (pv 6 (hv:=lA))))))) aY)
   (ae (bG (aD bT (ap ck (pv 3 (hv:=xL)) ai) ai (aL _)) (ae (bu (aW K PySem.F.plainAttrs_list PySem.F.slot_list_append PySem.F.type_list_append bc (pv 0 (hv:=lB)) (aa (bd (aa al (aa (pv 7 (hv:=tY)) (aa (pv 6 (hv:=lA)) ab)))) ab)))
   (ae (bu (aW K PySem.F.plainAttrs_list PySem.F.slot_list_append PySem.F.type_list_append bc (pv 1 (hv:=um)) (aa (bd (aa al (aa (pv 0 (hv:=lB)) ab))) ab)))
   (ae (bu (aW K PySem.F.plainAttrs_list PySem.F.slot_list_append PySem.F.type_list_append bc (pv 2 (hv:=x4)) (aa (ap az al (fL mj z_str ic (aa (pv 7 (hv:=tY)) ab) (hg:=Ac))) ab)))
   (aj (aA (pv 6 (hv:=lA))))))) aY)
   (ae (ar 8 sc_law_begun.nd (a_ ab) (hx:=DE))
   (ae (bu (aW K PySem.F.plainAttrs_list PySem.F.slot_list_append PySem.F.type_list_append bc (pv 0 (hv:=lB)) (aa (bd (aa al (aa (pv 7 (hv:=tY)) (aa (pv 6 (hv:=lA)) (aa (pv 8 (hv:=A_)) ab))))) ab)))
   (ae (bu (aW K PySem.F.plainAttrs_list PySem.F.slot_list_append PySem.F.type_list_append bc (pv 1 (hv:=um)) (aa (bd (aa al (aa (pv 0 (hv:=lB)) ab))) ab)))
   (ae (bu (aW K PySem.F.plainAttrs_list PySem.F.slot_list_append PySem.F.type_list_append bc (pv 1 (hv:=um)) (aa (bd (aa al (aa (pv 8 (hv:=A_)) ab))) ab)))
   (ae (bu (aW K PySem.F.plainAttrs_list PySem.F.slot_list_append PySem.F.type_list_append bc (pv 2 (hv:=x4)) (aa (ap az al (fL mj z_str ic (aa (pv 7 (hv:=tY)) ab) (hg:=Ac))) ab)))
   (aj (aA (pv 6 (hv:=lA))))))))))))),?_⟩
 walk_at "rd1"
 refine⟨by decide,fun inn hinn=>?_⟩
 have sm1:=af hinn (.lst [])
 have ei:upd H inn (.lst []) inn=some (.lst []):=ac
 generalize upd H inn (.lst [])=H1 at sm1 ei ⊢
 have I1:=I.alloc sm1
 obtain⟨_,hhl,hhp,_,_⟩:=I.apart here List.mem_cons_self
 have hph:=Ne.symm hhp
 have hlh:=Ne.symm hhl
 have hlp:=I.lpp
 have hpl:=Ne.symm hlp
 obtain⟨i1,i2,i3,i4,i5⟩:=I.new hinn
 have i6:inn≠here:=fun z=>i5 (z ▸ List.mem_cons_self)
 walk_at "nx"
 refine⟨c,rfl,?_⟩
 have hlog:=kq c
 have hnl:=hU hlog
 unfold bI at hnl
 walk_at "nx"
 refine⟨by decide,bh (fun c1=>?_) (fun c1=>?_)⟩
 ·refine⟨⟨_,SqL.of I1.cur⟩,by decide,fun t ht=>⟨_,by rw[ah (au I1.cur ht)]; exact I1.cur,by rw[List.length_map]; exact bn (by omega),?_⟩⟩
  walk_at "nx"
  have hpt:=au I1.pile ht
  have hlt:=au I1.lines ht
  have hht:=au I1.cur ht
  have hit:=au ei ht
  have pile3:∀ o1 o2,upd (upd H1 t o1) here o2 pp=some (.lst (es.map V.ref)):=fun o1 o2=>by rw[ah hph,ah hpt]; exact I1.pile
  refine⟨⟨_,SqL.of (pile3 _ _)⟩,by decide,fun e he=>?_⟩
  obtain⟨e1,he⟩:=ce he
  obtain⟨e2,he⟩:=ce he
  have e3:=Ne.symm (au I1.pile he)
  have e4:=Ne.symm (au I1.lines he)
  have e5:=Ne.symm (au ei he)
  refine⟨_,by rw[ah (Ne.symm e3)]; exact pile3 _ _,by rw[List.length_map]; exact bn (by omega),?_⟩
  walk_at "nx"
  obtain⟨g1,g2,g3,g4,g5,g6⟩:=yu (T:=.tup [.str "lend", .str (xB nm c),.str (yB nm c),.ref inn]) (L1:=.lst (as.map V.ref++[.ref t])) (E:=.tup [.str "back", .ref here]) (L2:=.lst (es.map V.ref++[.ref e])) (L3:=.lst (st.L.map V.str++[.str (Str.ofString "lend " ++ xB nm c++Str.ofString " " ++ yB nm c)])) ht he hht hpt hlt e1 e2 e3 e4 hhl hhp hpl
  have lines5:∀ o1 o2 o3 o4,upd (upd (upd (upd H1 t o1) here o2) e o3) pp o4 lp=some (.lst (st.L.map V.str)):=fun o1 o2 o3 o4=>by rw[ah hlp,ah (Ne.symm e4),ah hlh,ah hlt]; exact I1.lines
  have xl:=ok.xl c
  have yl:=ok.yl c
  have l5:(Str.ofString "lend ").length=5:=by decide
  have l1:(Str.ofString " ").length=1:=by decide
  refine⟨⟨_,SqL.of (lines5 _ _ _ _)⟩,aQ (by omega),aQ (by rw[Str.length_append]; omega),aQ (by rw[Str.length_append,Str.length_append]; omega),_,lines5 _ _ _ _,by rw[List.length_map]; exact bn (by omega),?_⟩
  walk_at "nx"
  refine q inn _ (("back", here)::pr) (es++[e]) ?_
  have eq:dF nm c st=⟨[],.lend (xB nm c) (yB nm c) st.cur::st.stk,st.L++[Txt.join " " ["lend", xB nm c,yB nm c]],st.left,st.lends⟩:=if_pos c1
  rw[eq]
  refine BInv.open1 (e:=e) I (fun b o eb n1 n2 n3=>g6 b o (sm1 _ _ eb) n1 n2 n3) (t:=t) (by rw[List.map_append]; exact g2) hinn (g6 _ _ ei i6 i2 i1) (by rw[List.map_append,← BQ]; exact g5) (by rw[List.map_append]; exact g4) g3 (fun z1 z2=>.lend g2 z2 g1 z1)
 walk_at "nx"
 refine⟨by decide,bh (fun c2=>?_) (fun c2=>?_)⟩
 ·refine⟨⟨_,SqL.of I1.cur⟩,by decide,fun t ht=>⟨_,by rw[ah (au I1.cur ht)]; exact I1.cur,by rw[List.length_map]; exact bn (by omega),?_⟩⟩
  walk_at "nx"
  have hpt:=au I1.pile ht
  have hlt:=au I1.lines ht
  have hht:=au I1.cur ht
  have hit:=au ei ht
  have pile3:∀ o1 o2,upd (upd H1 t o1) here o2 pp=some (.lst (es.map V.ref)):=fun o1 o2=>by rw[ah hph,ah hpt]; exact I1.pile
  refine⟨⟨_,SqL.of (pile3 _ _)⟩,by decide,fun e he=>?_⟩
  obtain⟨e1,he⟩:=ce he
  obtain⟨e2,he⟩:=ce he
  have e3:=Ne.symm (au I1.pile he)
  have e4:=Ne.symm (au I1.lines he)
  refine⟨_,by rw[ah (Ne.symm e3)]; exact pile3 _ _,by rw[List.length_map]; exact bn (by omega),?_⟩
  walk_at "nx"
  obtain⟨g1,g2,g3,g4,g5,g6⟩:=yu (T:=.tup [.str "while", .int (cT c),.ref inn]) (L1:=.lst (as.map V.ref++[.ref t])) (E:=.tup [.str "done", .ref here]) (L2:=.lst (es.map V.ref++[.ref e])) (L3:=.lst (st.L.map V.str++[.str (Str.ofString "while " ++ Str.ofString (toString (cT c)))])) ht he hht hpt hlt e1 e2 e3 e4 hhl hhp hpl
  have lines5:∀ o1 o2 o3 o4,upd (upd (upd (upd H1 t o1) here o2) e o3) pp o4 lp=some (.lst (st.L.map V.str)):=fun o1 o2 o3 o4=>by rw[ah hlp,ah (Ne.symm e4),ah hlh,ah hlt]; exact I1.lines
  have l5:(Str.ofString "while ").length=6:=by decide
  refine⟨⟨_,SqL.of (lines5 _ _ _ _)⟩,hlog,aQ (by omega),_,lines5 _ _ _ _,by rw[List.length_map]; exact bn (by omega),?_⟩
  walk_at "nx"
  refine q inn _ (("done", here)::pr) (es++[e]) ?_
  have eq:dF nm c st=⟨[],.whl (cT c) st.cur::st.stk,st.L++[Txt.join " " ["while", bI (cT c)]],st.left,st.lends⟩:=(if_neg c1).trans (if_pos c2)
  rw[eq]
  refine BInv.open1 (e:=e) I (fun b o eb n1 n2 n3=>g6 b o (sm1 _ _ eb) n1 n2 n3) (t:=t) (by rw[List.map_append]; exact g2) hinn (g6 _ _ ei i6 i2 i1) (by rw[List.map_append,← Bu]; exact g5) (by rw[List.map_append]; exact g4) g3 (fun z1 z2=>.whl g2 z2 g1 z1)
 walk_at "nx"
 refine⟨by decide,fun oth hoth=>?_⟩
 have sm2:=af hoth (.lst [])
 have eo:upd H1 oth (.lst []) oth=some (.lst []):=ac
 generalize upd H1 oth (.lst [])=H2 at sm2 eo ⊢
 have I2:=I1.alloc sm2
 have ei2:=sm2 _ _ ei
 obtain⟨o1,o2,o3,o4,o5⟩:=I1.new hoth
 have o6:oth≠here:=fun z=>o5 (z ▸ List.mem_cons_self)
 have hio:inn≠oth:=au ei hoth
 walk_at "nx"
 refine⟨⟨_,SqL.of I2.cur⟩,by decide,fun t ht=>⟨_,by rw[ah (au I2.cur ht)]; exact I2.cur,by rw[List.length_map]; exact bn (by omega),?_⟩⟩
 walk_at "nx"
 have hpt:=au I2.pile ht
 have hlt:=au I2.lines ht
 have hht:=au I2.cur ht
 have pile3:∀ o1 o2,upd (upd H2 t o1) here o2 pp=some (.lst (es.map V.ref)):=fun o1 o2=>by rw[ah hph,ah hpt]; exact I2.pile
 refine⟨⟨_,SqL.of (pile3 _ _)⟩,by decide,fun e he=>?_⟩
 obtain⟨e1,he⟩:=ce he
 obtain⟨e2,he⟩:=ce he
 have e3:=Ne.symm (au I2.pile he)
 have e4:=Ne.symm (au I2.lines he)
 refine⟨_,by rw[ah (Ne.symm e3)]; exact pile3 _ _,by rw[List.length_map]; exact bn (by omega),?_⟩
 walk_at "nx"
 refine⟨⟨_,SqL.of ac⟩,by decide,fun e' he'=>?_⟩
 obtain⟨d3,he'⟩:=ce he'
 obtain⟨d5,he'⟩:=ce he'
 obtain⟨d1,he'⟩:=ce he'
 obtain⟨d2,he'⟩:=ce he'
 have d4:=Ne.symm (au I2.lines he')
 refine⟨_,by rw[ah (Ne.symm d3)]; exact ac,by rw[List.length_append,List.length_map]; exact bn (by simp only[List.length_cons,List.length_nil]; omega),?_⟩
 walk_at "nx"
 obtain⟨g1,g2,g3,g3',g4,g5,g6⟩:=B9 (T:=.tup [.str "if", .int (cT c),.ref inn,.ref oth]) (L1:=.lst (as.map V.ref++[.ref t])) (E:=.tup [.str "fi", .ref here]) (L2:=.lst (es.map V.ref++[.ref e])) (E':=.tup [.str "else", .ref oth]) (L2':=.lst (es.map V.ref++[.ref e]++[.ref e'])) (L3:=.lst (st.L.map V.str++[.str (Str.ofString "if " ++ Str.ofString (toString (cT c)))])) ht he he' hht hpt hlt e1 e2 e3 e4 d1 d2 d3 d4 d5 hhl hhp hpl
 have lines7:∀ o1 o2 o3 o4 o5 o6,upd (upd (upd (upd (upd (upd H2 t o1) here o2) e o3) pp o4) e' o5) pp o6 lp=some (.lst (st.L.map V.str)):=fun o1 o2 o3 o4 o5 o6=>by rw[ah hlp,ah (Ne.symm d4),ah hlp,ah (Ne.symm e4),ah hlh,ah hlt]; exact I2.lines
 have l3:(Str.ofString "if ").length=3:=by decide
 refine⟨⟨_,SqL.of (lines7 _ _ _ _ _ _)⟩,hlog,aQ (by omega),_,lines7 _ _ _ _ _ _,by rw[List.length_map]; exact bn (by omega),?_⟩
 walk_at "nx"
 refine q inn _ (("else", oth)::("fi", here)::pr) (es++[e,e']) ?_
 have eq:dF nm c st=⟨[],.inB (cT c) st.cur::st.stk,st.L++[Txt.join " " ["if", bI (cT c)]],st.left,st.lends⟩:=(if_neg c1).trans (if_neg c2)
 rw[eq]
 exact BInv.open2 (e:=e) (e2:=e') (oth:=oth) I (fun b o eb n1 n2 n3=>g6 b o (sm2 _ _ (sm1 _ _ eb)) n1 n2 n3) (t:=t) (by rw[List.map_append]; exact g2) hinn (g6 _ _ ei2 i6 i2 i1) (sm1.free hoth) (g6 _ _ eo o6 o2 o1) hio (by rw[List.map_append,← FB]; exact g5) (by rw[List.map_append]; rw[g4,List.append_assoc]; rfl) g3 g3' g1
def dk(nm:List Str)(st:BS)(c:Int):BS:=
 if c % 15>11∧st.stk≠[] then ee st
 else if (9≤c % 15∧c % 15≤11)∧st.left>2∧(st.stk.length:Int)<8∧(c % 15≠9∨st.lends>0) then dF nm c ⟨st.cur,st.stk,st.L,st.left - 3+(if (!decide (c % 15=10))=true then 1 else 0),st.lends - (if c % 15=9 then 1 else 0)⟩
 else if c % 15<9∧st.left>0 then ⟨st.cur++[.plain (dy nm c)],st.stk,st.L++[Txt.join " " (dy nm c)],st.left - 1,st.lends⟩
 else st
def cA:List Frm→Nat
 | []=>0
 | .inB _ _::r=>cA r+2
 | _::r=>cA r+1
def d_:Nat→BS→BS
 | 0,st=>st
 | n+1,st=>ee (d_ n st)
def iX(left:Int):BS:=⟨[],[],[],left,3⟩
def cL(left:Int)(nm:List Str)(cs:List Int):BS:=d_ (cA (cs.foldl (dk nm) (iX left)).stk) (cs.foldl (dk nm) (iX left))
theorem Ctx.pile{H:Hp}{S:Addr→Prop}{root:Addr}{fs:List Frm}{pr:List (Str × Addr)}{d:Nat}{here:Addr}(h:Ctx H S root fs pr d here):pr.length=cA fs:=by
 induction h with
 | nil=>rfl
 | lend _ _ _ _ ih=>rw[List.length_cons,ih]; rfl
 | whl _ _ _ _ ih=>rw[List.length_cons,ih]; rfl
 | inB _ _ _ _ _ ih=>rw[List.length_cons,List.length_cons,ih]; rfl
 | inC _ _ _ _ _ ih=>rw[List.length_cons,ih]; rfl
theorem qf{nm:List Str}(hn:NmOk nm){st:BS}{d:Nat}(c:Int)(h:gH st (d+1)):gH (dF nm c st) d:=by
 obtain⟨cur,stk,L,left,lends⟩:=st
 obtain⟨h1,h2,h3,h4,h5⟩:=h
 dsimp only at h1 h2 h3 h4 h5
 have go:∀ (f:Frm) (x:Str),dZ (f::stk) d=dZ stk (d+1)++b7 (d+2) cur++[x]→qJ (f::stk) d→fh f=cur.length→gH ⟨[],f::stk,L++[x],left,lends⟩ d:=fun f x e1 e2 e3=>by
  refine⟨by show d+(stk.length+1)=9; omega,?_,fun s hs=>absurd hs (by show ¬ s∈([]:List Stp); simp),e2,?_⟩
  ·show L++[x]=dZ (f::stk) d++b7 (d+1) []
   rw[e1,h2]
   simp[b7]
  ·show 0+((f::stk).map fh).sum≤(L++[x]).length
   rw[List.map_cons,List.sum_cons,List.length_append,e3]
   omega
 unfold dF
 split
 ·exact go _ _ rfl ⟨hn.xl c,hn.yl c,h3,h4⟩ rfl
 split
 ·exact go _ _ rfl ⟨kq c,h3,h4⟩ rfl
 ·exact go _ _ rfl ⟨kq c,h3,h4⟩ rfl
theorem v2{ws:List Str}(hw:gK ws){st:BS}{d:Nat}(h:gH st d)(l:Int):gH ⟨st.cur++[.plain ws],st.stk,st.L++[Txt.join " " ws],l,st.lends⟩ d:=by
 obtain⟨cur,stk,L,left,lends⟩:=st
 obtain⟨h1,h2,h3,h4,h5⟩:=h
 dsimp only at h1 h2 h3 h4 h5
 refine⟨h1,?_,kZ h3 (lr hw),h4,?_⟩
 ·show L++[Txt.join " " ws]=dZ stk d++b7 (d+1) (cur++[.plain ws])
  rw[lg,h2]
  simp[b7,bU]
 ·show (cur++[Stp.plain ws]).length+_≤(L++[_]).length
  simp only[List.length_append,List.length_cons,List.length_nil]
  omega
theorem oY{st:BS}{d:Nat}(h:gH st d)(l l':Int):gH ⟨st.cur,st.stk,st.L,l,l'⟩ d:=⟨h.dep,h.lines,h.ok,h.okf,h.size⟩
theorem w_(st:BS):(ee st).L.length≤st.L.length+1:=by
 obtain⟨cur,stk,L,left,lends⟩:=st
 cases stk with
 | nil=>exact Nat.le_succ _
 | cons f r=>cases f <;> (show (L++[_]).length≤L.length+1; rw[List.length_append]; exact Nat.le_refl _)
theorem i9{H0 H:Hp}{root lp pp here:Addr}{st:BS}{d:Nat}{pr:List (Str × Addr)}{S:Addr→Prop}{as es:List Addr}(I:BInv H0 H root lp pp here st d pr S as es)(l l':Int):BInv H0 H root lp pp here ⟨st.cur,st.stk,st.L,l,l'⟩ d pr S as es:=
 ⟨I.ctx,I.pile,I.ents,I.cur,I.steps,I.lines,I.nd,I.apart,I.lpp,I.off,I.sin,I.sm⟩
theorem sr(st:BS):(ee st).left=st.left∧(ee st).lends=st.lends:=by
 obtain⟨cur,stk,L,left,lends⟩:=st
 cases stk with
 | nil=>exact⟨rfl,rfl⟩
 | cons f r=>cases f <;> exact⟨rfl,rfl⟩
theorem nQ(nm:List Str)(c:Int)(st:BS):(dF nm c st).left=st.left∧(dF nm c st).lends=st.lends∧(dF nm c st).L.length=st.L.length+1:=by
 unfold dF
 split
 ·exact⟨rfl,rfl,by simp⟩
 split
 ·exact⟨rfl,rfl,by simp⟩
 ·exact⟨rfl,rfl,by simp⟩
theorem fN{nm:List Str}{st:BS}{c:Int}(h1:¬ (c % 15>11∧st.stk≠[]))(h2:¬ ((9≤c % 15∧c % 15≤11)∧st.left>2∧(st.stk.length:Int)<8∧(c % 15≠9∨st.lends>0)))(h3:¬ (c % 15<9∧st.left>0)):dk nm st c=st:=by
 unfold dk
 rw[if_neg h1,if_neg h2,if_neg h3]
theorem pH{st:BS}{d d':Nat}(h:gH st d)(hne:st.stk≠[])(e:d'+(ee st).stk.length=9):gH (ee st) d':=by
 obtain⟨d2,z⟩:=y_ h hne
 have:=z.dep
 have:d'=d2:=by omega
 rw[this]; exact z
theorem kY{nm:List Str}{st:BS}{c:Int}(h1:¬ (c % 15>11∧st.stk≠[]))(h2:(9≤c % 15∧c % 15≤11)∧st.left>2∧(st.stk.length:Int)<8∧(c % 15≠9∨st.lends>0)):dk nm st c=dF nm c ⟨st.cur,st.stk,st.L,st.left - 3+(if (!decide (c % 15=10))=true then 1 else 0),st.lends - (if c % 15=9 then 1 else 0)⟩:=by
 unfold dk
 rw[if_neg h1,if_pos h2]
theorem qB{nm:List Str}{st:BS}{c:Int}(h1:¬ (c % 15>11∧st.stk≠[]))(h2:¬ ((9≤c % 15∧c % 15≤11)∧st.left>2∧(st.stk.length:Int)<8∧(c % 15≠9∨st.lends>0)))(h3:c % 15<9∧st.left>0):dk nm st c=⟨st.cur++[.plain (dy nm c)],st.stk,st.L++[Txt.join " " (dy nm c)],st.left - 1,st.lends⟩:=by
 unfold dk
 rw[if_neg h1,if_neg h2,if_pos h3]
theorem f_(st:BS):∀ n,d_ (n+1) st=d_ n (ee st)
 | 0=>rfl
 | n+1=>by show ee (d_ (n+1) st)=ee (d_ n (ee st)); rw[f_ st n]
theorem vv{H:Hp}{S:Addr→Prop}{root:Addr}{st:BS}{w:Str}{up:Addr}{pr:List (Str × Addr)}{d:Nat}{here:Addr}(h:Ctx H S root st.stk ((w,up)::pr) d here):(ee st).L=st.L++[w]:=by
 obtain⟨cur,stk,L,left,lends⟩:=st
 dsimp only at h
 cases h <;> rfl
theorem u6{H0:Hp}{root lp pp:Addr}:∀ (n:Nat) {H:Hp} {here:Addr} {st:BS} {d:Nat} {pr:List (Str × Addr)} {S:Addr→Prop} {as es:List Addr},pr.length=n→BInv H0 H root lp pp here st d pr S as es→gH st d→
  ∃ S' as',gH (d_ n st) 9∧(d_ n st).stk=[]∧(d_ n st).L=st.L++pr.map (·.1)∧¬ S' root∧¬ S' lp∧¬ S' pp∧H root=some (.lst (as'.map V.ref))∧Paired (stpAt (ProgAt S' 9 H) H) as' (d_ n st).cur∧(∀ b,S' b→∃ xs,H b=some (.lst xs))∧root≠lp∧root≠pp∧H0 root=none
 | 0,H,here,st,d,pr,S,as,es,hn,I,B=>by
  have:pr=[]:=List.length_eq_zero_iff.mp hn
  subst this
  have hc:st.stk=[]∧d=9∧here=root:=by
   have hcx:=I.ctx
   generalize st.stk=fs at hcx ⊢
   cases hcx
   exact⟨rfl,rfl,rfl⟩
  obtain⟨k1,k2,k3⟩:=hc
  subst k2 k3
  obtain⟨y1,y2,y3,y4,_⟩:=I.apart here List.mem_cons_self
  exact⟨S,as,B,k1,by simp[d_],y1,I.off.1,I.off.2.1,I.cur,I.steps,I.sin,y2,y3,y4⟩
 | n+1,H,here,st,d,pr,S,as,es,hn,I,B=>by
  rcases pr with _ | ⟨⟨wd,up⟩,pr'⟩
  ·simp at hn
  have hsk:st.stk≠[]:=fun z=>by have:=I.ctx.pile; rw[z]at this; simp[cA]at this
  have hes:=av I.ents
  rw[List.length_reverse]at hes
  rcases List.eq_nil_or_concat es with z | ⟨es0,e,z⟩
  ·rw[z]at hes; simp at hes
  rw[List.concat_eq_append]at z
  subst z
  obtain⟨d',as',I4⟩:=I.pop (H':=upd (upd H pp (.lst (es0.map V.ref))) lp (.lst (st.L.map V.str++[.str wd]))) (fun b o eb n1 n2=>by rw[ah n2,ah n1]; exact eb) (by rw[ah (Ne.symm I.lpp)]; exact ac) (by rw[ac,List.map_append]; rfl)
  have B4:=pH B hsk I4.ctx.deep.1
  obtain⟨S',as2,z1,z2,z3,z4,z5,z6,z7,z8,z9,z10,z11,z12⟩:=u6 n (by simpa using hn) I4 B4
  have back:∀ b o,upd (upd H pp (.lst (es0.map V.ref))) lp (.lst (st.L.map V.str++[.str wd])) b=some o→b≠lp→b≠pp→H b=some o:=fun b o e n1 n2=>by rw[ah n1,ah n2]at e; exact e
  have ht:∀ b xs,upd (upd H pp (.lst (es0.map V.ref))) lp (.lst (st.L.map V.str++[.str wd])) b=some (.tup xs)→H b=some (.tup xs):=fun b xs e=>back b _ e (fun z=>by rw[z,ac]at e; cases e) (fun z=>by rw[z,ah (Ne.symm I.lpp),ac]at e; cases e)
  have hl:∀ b xs,S' b→upd (upd H pp (.lst (es0.map V.ref))) lp (.lst (st.L.map V.str++[.str wd])) b=some (.lst xs)→H b=some (.lst xs):=fun b xs hb e=>back b _ e (fun z=>z5 (z ▸ hb)) (fun z=>z6 (z ▸ hb))
  refine⟨S',as2,by rw[f_]; exact z1,by rw[f_]; exact z2,?_,z4,z5,z6,back _ _ z7 z10 z11,?_,fun b hb=>?_,z10,z11,z12⟩
  ·rw[f_,z3,vv I.ctx,List.append_assoc]; rfl
  ·rw[f_]
   exact Paired.imp' (fun a s z=>stpAt.imp ht (fun q b y=>ProgAt.imp ht hl (fun _ z=>z) 9 y) z) z8
  ·obtain⟨xs,e⟩:=z9 b hb
   exact⟨xs,hl _ _ hb e⟩
theorem qH{α : Type}(xs:List α)(x:α):dw (xs++[x]) (-1)=some x:=by
 have e:jX (xs++[x]).length (-1)=some xs.length:=by
  unfold jX
  simp only[List.length_append,List.length_cons,List.length_nil]
  split <;> simp_all <;> omega
 unfold dw
 rw[e]
 simp
def my:Sp:=fun vs H Q _=>∃ (ca na:Addr) (cs:List Int) (nm:List Str),vs=[.ref ca,.ref na]∧H ca=some (.lst (cs.map V.int))∧H na=some (.lst (nm.map V.str))∧NmOk nm∧cs.length≤63∧
 ∀ (t root lp:Addr) (H':Hp) (S:Addr→Prop) (as:List Addr),Same H H'→H' t=some (.tup [.ref root,.ref lp])→H root=none→H lp=none→root≠lp→¬ S root→¬ S lp→H' root=some (.lst (as.map V.ref))→Paired (stpAt (ProgAt S 9 H') H') as (cL 60 nm cs).cur→eh 10 (cL 60 nm cs).cur→
  H' lp=some (.lst ((b7 10 (cL 60 nm cs).cur).map V.str))→(b7 10 (cL 60 nm cs).cur).length≤100→as.length≤500→Q (.ref t) H'
theorem tK(D:DefAt K mg "_law_program" am) (z_len:mg "len" = none) (z_int:mg "int" = none) (z_reversed:mg "reversed" = none) (c_law_begun:ba P w K mg base 2 "_law_begun" ["_law_here", "_law_pile", "_law_lines", "_law_cell", "_law_x", "_law_y"] su) (c_law_step:ba P w K mg base 1 "_law_step" ["_law_cell", "_law_x", "_law_y", "_law_names_here"] vC):ba P w K mg base 3 "_law_program" ["_law_cells", "_law_names_here"] my:=by
 refine D.cal sc_law_program (fun _ _ _ _ _ _ us hl=>match us,hl with | [_,_],_=>rfl) (fun vs H Q E h=>by obtain⟨_,_,_,_,rfl,_⟩:=h; rfl) (fun f cdv A outer s H vs Q E hr h=>?_)
 obtain⟨ca,na,cs,nm,rfl,hca,hna,ok,h63,q⟩:=h
 refine⟨_,(ae (ar 2 sc_law_program.nd (a_ ab) (hx:=E1))
   (ae (ar 3 sc_law_program.nd (a_ ab) (hx:=CP))
   (ae (ar 4 sc_law_program.nd (a_ ab) (hx:=CO))
   (ae (ar 5 sc_law_program.nd (pv 2 (hv:=AQ)) (hx:=x_))
   (ae (ar 6 sc_law_program.nd ai (hx:=wz))
   (ae (ar 7 sc_law_program.nd ai (hx:=Br))
   (ae (cE PassesOwn.never rfl (dj K (pv 0 (hv:=Dm))) (bt 8 sc_law_program.nd (hx:=Ej)) (ae (ar 9 sc_law_program.nd (ap ck (pv 8 (hv:=oX)) ai) (hx:=D_))
   (ae (ar 10 sc_law_program.nd (aw (aO K) (pv 1 (hv:=qc)) (ap ck (ap ck (ap fR (pv 8 (hv:=oX)) ai) ai) (bv (bb K) z_len bQ (aa (pv 1 (hv:=qc)) ab) (hg:=wo))) (fun _ _=>rfl)) (hx:=DC))
   (ae (ar 11 sc_law_program.nd (aw (aO K) (pv 1 (hv:=qc)) (ap ck (ap ck (ap fR (pv 8 (hv:=oX)) ai) ai) (bv (bb K) z_len bQ (aa (pv 1 (hv:=qc)) ab) (hg:=wo))) (fun _ _=>rfl)) (hx:=Ez))
   (ae (ar 12 sc_law_program.nd (bv (bb K) z_len bQ (aa (gq (CompSc.to (fsc:=(defScope am)) (N:=["_law_cells", "_law_names_here", "_law_program_here", "_law_lines", "_law_pile", "_law_here", "_law_left", "_law_lends", "_law_cell", "_law_kind", "_law_x", "_law_y", "_law_deep", "_law_line", "_law_there"]) (N0:=["_law_cells", "_law_names_here", "_law_program_here", "_law_lines", "_law_pile", "_law_here", "_law_left", "_law_lends", "_law_cell", "_law_kind", "_law_x", "_law_y", "_law_deep", "_law_line", "_law_there"]) (T:=["_law_one"]) ⟨by decide +kernel,by decide +kernel,by decide +kernel,by decide +kernel,by decide +kernel,by decide +kernel,by decide +kernel⟩ rfl rfl) rfl (dj K (pv 4 (hv:=nM))) (fun _ _ _ _=>(bt 15 (show (["_law_cells", "_law_names_here", "_law_program_here", "_law_lines", "_law_pile", "_law_here", "_law_left", "_law_lends", "_law_cell", "_law_kind", "_law_x", "_law_y", "_law_deep", "_law_line", "_law_there", "_law_one"]:List Str).Nodup from by decide +kernel) (hx:=(ju (defScope am) (by decide +kernel))) (hf:=mw (defScope am) (by decide +kernel)))) (eC (show (["_law_cells", "_law_names_here", "_law_program_here", "_law_lines", "_law_pile", "_law_here", "_law_left", "_law_lends", "_law_cell", "_law_kind", "_law_x", "_law_y", "_law_deep", "_law_line", "_law_there"]:List Str).length≤15 from by decide)) (fun _ _ _ _=>(j7 (aD gN (aw (aO K) (pv 15 (hv:=(d0 (defScope am) (by decide +kernel)))) ai (fun _ _=>rfl)) al (aL _)))) (fun _ _ _ _=>(pv 15 (hv:=(d0 (defScope am) (by decide +kernel)))))) ab) (hg:=wo)) (hx:=Fd))
   (aj (bG (PW.pt' (gL (aD lj (pv 9 (hv:=lw)) ai (aL _)) (ia (aD (sf K hr) (pv 4 (hv:=nM)) (a_ ab) (aL _))))) (ae (hJ (lD K PySem.F.plainAttrs_list PySem.F.slot_list_pop PySem.F.type_list_pop q9 (pv 4 (hv:=nM))) (eR K (n:=2) (b6 (bt 13 sc_law_program.nd (hx:=BA)) (b6 (bt 5 sc_law_program.nd (hx:=x_)) eQ))))
   (aj (bu (aW K PySem.F.plainAttrs_list PySem.F.slot_list_append PySem.F.type_list_append bc (pv 3 (hv:=pV)) (aa (pv 13 (hv:=BE)) ab))))) (aj (bG (PW.pt' (gL (wm yQ yQ ai (pv 9 (hv:=lw)) ai) (gL (aD lj (pv 6 (hv:=sP)) ai (aL _)) (gL (aD iY (pv 12 (hv:=Dr)) ai (aL _)) (ia (PW.pt' (gS (aD gN (pv 9 (hv:=lw)) ai (aL _)) (gD (aD lj (pv 7 (hv:=zG)) ai (aL _)))))))))) (ae (ar 6 sc_law_program.nd (ap az (ap ij (pv 6 (hv:=sP)) ai) (fL mX z_int kt (aa (sj gN (pv 9 (hv:=lw)) ai (aL _)) ab) (hg:=AS))) (hx:=wz))
   (ae (ar 7 sc_law_program.nd (ap ij (pv 7 (hv:=zG)) (fL mX z_int kt (aa (sj bT (pv 9 (hv:=lw)) ai (aL _)) ab) (hg:=AS))) (hx:=Br))
   (aj (ar 5 sc_law_program.nd (aG c_law_begun hr (aa (pv 5 (hv:=xi)) (aa (pv 4 (hv:=nM)) (aa (pv 3 (hv:=pV)) (aa (pv 8 (hv:=oX)) (aa (pv 10 (hv:=Bf)) (aa (pv 11 (hv:=A5)) ab)))))) (hg:=C2)) (hx:=x_))))) (aj (bG (PW.pt' (gL (aD iY (pv 9 (hv:=lw)) ai (aL _)) (ia (aD lj (pv 6 (hv:=sP)) ai (aL _))))) (ae (ar 6 sc_law_program.nd (ap ij (pv 6 (hv:=sP)) ai) (hx:=wz))
   (ae (bu (aW K PySem.F.plainAttrs_list PySem.F.slot_list_append PySem.F.type_list_append bc (pv 5 (hv:=xi)) (aa (aG c_law_step hr (aa (pv 8 (hv:=oX)) (aa (pv 10 (hv:=Bf)) (aa (pv 11 (hv:=A5)) (aa (pv 1 (hv:=qc)) ab)))) (hg:=E_)) ab)))
   (aj (bu (aW K PySem.F.plainAttrs_list PySem.F.slot_list_append PySem.F.type_list_append bc (pv 3 (hv:=pV)) (aa (aW K PySem.F.plainAttrs_str PySem.F.slot_str_join PySem.F.type_str_join (wA K) al (aa (aw (aO K) (pv 5 (hv:=xi)) (jB hZ ai) (fun _ _=>rfl)) ab)) ab)))))) aY)))))))))))
   (ae (cE PassesOwn.never rfl (AU K EJ z_reversed (aa (pv 4 (hv:=nM)) ab)) (eR K (n:=2) (b6 (bt 13 sc_law_program.nd (hx:=BA)) (b6 (bt 14 sc_law_program.nd (hx:=Dc)) eQ))) (aj (bu (aW K PySem.F.plainAttrs_list PySem.F.slot_list_append PySem.F.type_list_append bc (pv 3 (hv:=pV)) (aa (pv 13 (hv:=BE)) ab)))))
   (aj (aA (bd (aa (pv 2 (hv:=AQ)) (aa (pv 3 (hv:=pV)) ab))))))))))))),?_⟩
 walk_at "rd1"
 refine⟨by decide,fun root hroot=>?_⟩
 walk_at "nx"
 refine⟨by decide,fun lp hlp=>?_⟩
 walk_at "nx"
 refine⟨by decide,fun pp hpp=>?_⟩
 obtain⟨p1,hpp⟩:=ce hpp
 obtain⟨p2,hpp⟩:=ce hpp
 obtain⟨l1,hlp⟩:=ce hlp
 have I0:BInv H (upd (upd (upd H root (.lst [])) lp (.lst [])) pp (.lst [])) root lp pp root (iX 60) 9 [] (fun _=>False) [] []:=by
  refine⟨.nil,ac,.nil,by rw[ah (Ne.symm p2),ah (Ne.symm l1)]; exact ac,.nil,by rw[ah (Ne.symm p1)]; exact ac,by simp,fun a ha=>?_,Ne.symm p1,⟨id,id,hlp,hpp⟩,fun b hb=>hb.elim,?_⟩
  ·have:a=root:=by simpa using ha
   subst this
   exact⟨id,Ne.symm l1,Ne.symm p2,hroot,_,by rw[ah (Ne.symm p2),ah (Ne.symm l1)]; exact ac⟩
  ·exact(((af hroot _).upd hlp _).upd hpp _)
 have B0:gH (iX 60) 9:=⟨rfl,rfl,fun s hs=>absurd hs (by show ¬ s∈([]:List Stp); simp),trivial,Nat.le_refl _⟩
 generalize upd (upd (upd H root (.lst [])) lp (.lst [])) pp (.lst [])=H1 at I0 ⊢
 walk_at "nx"
 walk_at "nx"
 walk_at "nx"
 walk_at "nx"
 refine⟨⟨_,SqL.of (I0.sm _ _ hca)⟩,?_⟩
 refine dc (xs:=cs.map V.int) (fun i σ H'=>∃ (here:Addr) (d:Nat) (pr:List (Str × Addr)) (S:Addr→Prop) (as es:List Addr) (st:BS) (o8 o9 o10 o11 o12 o13 o14:Option V),σ=[some (.ref ca),some (.ref na),some (.ref root),some (.ref lp),some (.ref pp),some (.ref here),some (.int st.left),some (.int st.lends),o8,o9,o10,o11,o12,o13,o14]∧
   st=(cs.take i).foldl (dk nm) (iX 60)∧BInv H H' root lp pp here st d pr S as es∧gH st d∧st.L.length≤i)
  ⟨root,9,[],_,[],[],iX 60,none,none,none,none,none,none,none,rfl,rfl,I0,B0,Nat.le_refl _⟩ (fun i σ H' _ h=>by obtain⟨_,_,_,_,_,_,_,_,_,_,_,_,_,_,_,_,I,_⟩:=h; exact SqL.of (I.sm _ _ hca)) ?_ ?_
 ·rintro i v σ H' hv ⟨here,d,pr,S,as,es,st,o8,o9,o10,o11,o12,o13,o14,rfl,hst,I,B,hL⟩
  have hi:i<cs.length:=by have:=(List.getElem?_eq_some_iff.mp hv).1; simpa using this
  rw[List.getElem?_map,List.getElem?_eq_getElem hi]at hv
  cases hv
  have hfold:(cs.take (i+1)).foldl (dk nm) (iX 60)=dk nm st cs[i]:=by
   rw[List.take_add_one,List.getElem?_eq_getElem hi,List.foldl_append,← hst]; rfl
  generalize cs[i]=c at hfold ⊢
  obtain⟨dd1,dd2,dd3⟩:=I.ctx.deep
  have hes:=av I.ents
  rw[List.length_reverse]at hes
  have hal:=av I.steps
  have hsz:=B.size
  have n1:=ok.n1
  have ha:=I.sm _ _ hna
  walk_at "rd1"
  refine⟨by decide,?_⟩
  walk_at "nx"
  refine⟨.inr ⟨by decide,by decide⟩,by decide,_,.inl (SqL.of ha),?_⟩
  rw[List.length_map]
  walk_at "rd1"
  refine⟨by omega,_,_,.inl (SqL.of ha),(fM n1 (c * 48271 % 1009)).2,?_⟩
  rw[show pk nm (c * 48271 % 1009)=xB nm c from rfl]
  walk_at "nx"
  refine⟨.inr ⟨by decide,by decide⟩,by decide,_,.inl (SqL.of ha),?_⟩
  rw[List.length_map]
  walk_at "rd1"
  refine⟨by omega,_,_,.inl (SqL.of ha),(fM n1 (c * 69621 % 2003)).2,?_⟩
  rw[show pk nm (c * 69621 % 2003)=yB nm c from rfl]
  walk_at "nx"
  refine⟨⟨_,SqL.of I.pile⟩,fun C hC=>?_⟩
  refine t0 (xs:=es.map V.ref) (fun j ys H2=>Same H' H2∧H2 C=some (.lst ys)∧ys.length=di (pr.reverse.take j)) ⟨af hC _,ac,rfl⟩ (fun j ys H2 _ h=>SqL.of (h.1 _ _ I.pile)) ?_ ?_
  ·rintro j ys H2 x hx hj ⟨sm2,hl2,hn2⟩
   rw[List.length_map]at hj
   rw[List.getElem?_map,List.getElem?_eq_getElem hj]at hx
   cases hx
   obtain⟨qq,hqq,hent⟩:=bZ I.ents (List.getElem?_eq_getElem hj)
   have htk:pr.reverse.take (j+1)=pr.reverse.take j++[qq]:=by rw[List.take_add_one,hqq]; rfl
   have hns:di (pr.reverse.take j++[qq])=di (pr.reverse.take j)+di [qq]:=by unfold di; rw[List.filter_append,List.length_append]
   have hle:di (pr.reverse.take j)≤j:=by
    unfold di
    have:=List.length_filter_le (fun q:Str × Addr=>decide (q.1≠("else" : Str))) (pr.reverse.take j)
    rw[List.length_take]at this
    omega
   walk_at "rd1"
   refine⟨_,_,.inr (SqT.of (sm2 _ _ hent)),cm,?_⟩
   walk_at "rd1"
   refine bh (fun c1=>?_) (fun c1=>?_)
   ·have hq1:qq.1 ≠ "else" := by simpa using c1
    refine pb (by rw[List.length_map]; exact hj) (by rw[hn2]; exact hle) (by rw[List.length_map]; exact aQ (by omega)) hl2 ⟨sm2.upd hC _,ac,?_⟩
    obtain⟨q1,q2⟩:=qq
    rw[htk,hns,ib hq1,List.length_append,hn2]; rfl
   ·have hq1:qq.1 = "else" := by simpa using c1
    refine uq (by rw[List.length_map]; exact hj) ⟨sm2,hl2,?_⟩
    obtain⟨q1,q2⟩:=qq
    dsimp only at hq1
    subst hq1
    rw[htk,hns,sn,hn2]; rfl
  rintro ys H2 ⟨sm2,hl2,hn2⟩
  have hdeep:ys.length=st.stk.length:=by
   rw[hn2,List.length_map,List.take_of_length_le (by rw[List.length_reverse]; omega),← dd2]
   unfold di
   rw[List.filter_reverse,List.length_reverse]
  have I2:=I.alloc sm2
  walk_at "rd1"
  refine⟨_,.inl (SqL.of hl2),?_⟩
  rw[hdeep]
  walk_at "nx"
  refine bh (fun c1=>?_) (fun c1=>?_)
  ·refine⟨by decide,fun np hnp=>?_⟩
   have sm3:=af hnp (.lst [])
   have e3:upd H2 np (.lst []) np=some (.lst []):=ac
   generalize upd H2 np (.lst [])=H3 at sm3 e3 ⊢
   have I3:=I2.alloc sm3
   rcases pr with _ | ⟨⟨wd,up⟩,pr'⟩
   ·have hes0:es=[]:=List.length_eq_zero_iff.mp hes
    have hsk:st.stk=[]:=by have:=dd2; exact List.length_eq_zero_iff.mp this.symm
    subst hes0
    refine⟨0,true,by decide,EqN.seqFlat (.inl ⟨SqL.of I3.pile,SqL.of e3⟩) (by simp),?_⟩
    walk_at "rd1"
    refine bh (fun c2=>?_) (fun c2=>absurd c2 (by omega))
    refine bh (fun c3=>absurd c3 (by omega)) (fun c3=>?_)
    refine bh (fun c4=>absurd c4 (by omega)) (fun c4=>?_)
    exact⟨here,d,_,S,as,_,st,_,_,_,_,_,_,_,rfl,by rw[hfold,fN (by rw[hsk]; simp) (by omega) (by omega)],I3,B,by omega⟩
   ·have hsk:st.stk≠[]:=fun z=>by have:=I.ctx.pile; rw[z]at this; simp[cA]at this
    rcases List.eq_nil_or_concat es with z | ⟨es0,e,z⟩
    ·rw[z]at hes; simp at hes
    rw[List.concat_eq_append]at z
    subst z
    have hent:H3 e=some (.tup [.str wd,.ref up]):=by
     have:=I3.ents
     rw[List.reverse_cons]at this
     exact(g0 this).2
    have npe:e≠pp:=ci hent I3.pile (fun z=>nomatch z)
    refine⟨0,false,by decide,.inr ⟨pp,np,_,_,rfl,rfl,.inl ⟨SqL.of I3.pile,SqL.of e3⟩,.inr ⟨SqL.of I3.pile,SqL.of e3,by simp,rfl⟩⟩,?_⟩
    walk_at "rd1"
    refine⟨⟨_,SqL.of I3.pile⟩,_,.ref e,I3.pile,by simp,e,[.str wd,.ref up],rfl,SqT.of (by rw[ah npe]; exact hent),rfl,_,_,rfl,_,_,rfl,rfl,?_⟩
    walk_at "nx"
    have hl4:∀ o,upd H3 pp o lp=some (.lst (st.L.map V.str)):=fun o=>by rw[ah I.lpp]; exact I3.lines
    refine⟨⟨_,SqL.of (hl4 _)⟩,_,hl4 _,by rw[List.length_map]; exact bn (by omega),?_⟩
    have hdl:(List.map V.ref (es0++[e])).dropLast=es0.map V.ref:=by rw[List.map_append]; exact List.dropLast_concat
    rw[hdl]
    obtain⟨d',as',I4⟩:=I3.pop (H':=upd (upd H3 pp (.lst (es0.map V.ref))) lp (.lst (st.L.map V.str++[.str wd]))) (fun b o eb n1 n2=>by rw[ah n2,ah n1]; exact eb) (by rw[ah (Ne.symm I.lpp)]; exact ac) (by rw[ac,List.map_append]; rfl)
    have hpl:=w_ st
    refine⟨up,d',pr',_,as',es0,ee st,some (.int c),some (.int (c % 15)),some (.str (xB nm c)),some (.str (yB nm c)),some (.int (st.stk.length:Int)),some (.str wd),o14,?_,?_,I4,pH B hsk I4.ctx.deep.1,by omega⟩
    ·rw[(sr st).1,(sr st).2]
    ·rw[hfold]; unfold dk; rw[if_pos ⟨c1,hsk⟩]
  ·refine bh (fun c2=>?_) (fun c2=>?_)
   ·refine bh (fun c3=>?_) (fun c3=>absurd c3 (by omega))
    refine bh (fun c4=>?_) (fun c4=>?_)
    rotate_left
    ·refine bh (fun c9=>absurd c9 (by omega)) (fun c9=>?_)
     exact⟨here,d,pr,S,as,es,st,_,_,_,_,_,_,_,rfl,by rw[hfold,fN (by omega) (by omega) (by omega)],I2,B,by omega⟩
    refine bh (fun c5=>?_) (fun c5=>?_)
    rotate_left
    ·refine bh (fun c9=>absurd c9 (by omega)) (fun c9=>?_)
     exact⟨here,d,pr,S,as,es,st,_,_,_,_,_,_,_,rfl,by rw[hfold,fN (by omega) (by omega) (by omega)],I2,B,by omega⟩
    obtain⟨d',rfl⟩ : ∃ d',d=d'+1:=⟨d - 1,by omega⟩
    refine bh (fun c6=>?_) (fun c6=>?_)
    ·walk_at "nx"
     walk_at "nx"
     refine⟨here,pp,lp,c,nm,H,root,⟨st.cur,st.stk,st.L,st.left - 3+(if (!decide (c % 15=10))=true then 1 else 0),st.lends - (if c % 15=9 then 1 else 0)⟩,d',pr,S,as,es,rfl,i9 I2 _ _,ok,by omega,by omega,by show st.L.length≤1000; omega,fun inner H3 pr3 es3 I3=>?_⟩
     obtain⟨y1,y2,y3⟩:=nQ nm c ⟨st.cur,st.stk,st.L,st.left - 3+(if (!decide (c % 15=10))=true then 1 else 0),st.lends - (if c % 15=9 then 1 else 0)⟩
     refine⟨inner,d',pr3,S,[],es3,dF nm c ⟨st.cur,st.stk,st.L,st.left - 3+(if (!decide (c % 15=10))=true then 1 else 0),st.lends - (if c % 15=9 then 1 else 0)⟩,some (.int c),some (.int (c % 15)),some (.str (xB nm c)),some (.str (yB nm c)),some (.int (st.stk.length:Int)),o13,o14,?_,?_,I3,qf ok c (oY B _ _),?_⟩
     ·rw[y1,y2]
     ·rw[hfold,kY (by omega) ⟨⟨c2,c3⟩,c4,c5,.inl (by simpa using c6)⟩]
     ·rw[y3]; show st.L.length+1≤i+1; omega
    refine bh (fun c7=>?_) (fun c7=>?_)
    ·walk_at "nx"
     walk_at "nx"
     refine⟨here,pp,lp,c,nm,H,root,⟨st.cur,st.stk,st.L,st.left - 3+(if (!decide (c % 15=10))=true then 1 else 0),st.lends - (if c % 15=9 then 1 else 0)⟩,d',pr,S,as,es,rfl,i9 I2 _ _,ok,by omega,by omega,by show st.L.length≤1000; omega,fun inner H3 pr3 es3 I3=>?_⟩
     obtain⟨y1,y2,y3⟩:=nQ nm c ⟨st.cur,st.stk,st.L,st.left - 3+(if (!decide (c % 15=10))=true then 1 else 0),st.lends - (if c % 15=9 then 1 else 0)⟩
     refine⟨inner,d',pr3,S,[],es3,dF nm c ⟨st.cur,st.stk,st.L,st.left - 3+(if (!decide (c % 15=10))=true then 1 else 0),st.lends - (if c % 15=9 then 1 else 0)⟩,some (.int c),some (.int (c % 15)),some (.str (xB nm c)),some (.str (yB nm c)),some (.int (st.stk.length:Int)),o13,o14,?_,?_,I3,qf ok c (oY B _ _),?_⟩
     ·rw[y1,y2]
     ·rw[hfold,kY (by omega) ⟨⟨c2,c3⟩,c4,c5,.inr c7⟩]
     ·rw[y3]; show st.L.length+1≤i+1; omega
    have c8:c % 15=9:=by simpa using c6
    refine bh (fun c9=>absurd c9 (by omega)) (fun c9=>?_)
    exact⟨here,d'+1,pr,S,as,es,st,_,_,_,_,_,_,_,rfl,by rw[hfold,fN (by omega) (by omega) (by omega)],I2,B,by omega⟩
   ·refine bh (fun c3=>?_) (fun c3=>absurd c3 (by omega))
    refine bh (fun c4=>?_) (fun c4=>?_)
    rotate_left
    ·exact⟨here,d,pr,S,as,es,st,_,_,_,_,_,_,_,rfl,by rw[hfold,fN (by omega) (by omega) (by omega)],I2,B,by omega⟩
    walk_at "nx"
    refine⟨⟨_,SqL.of I2.cur⟩,c,na,nm,rfl,I2.sm _ _ hna,ok,fun t H3 sm3 ht hat=>?_⟩
    have I3:=I2.alloc sm3
    walk_at "rd1"
    refine⟨_,I3.cur,by rw[List.length_map]; exact bn (by omega),?_⟩
    obtain⟨_,hhl,hhp,_,_⟩:=I.apart here List.mem_cons_self
    have nth:t≠here:=ci hat I3.cur (fun z=>nomatch z)
    have hl4:∀ o,upd H3 here o lp=some (.lst (st.L.map V.str)):=fun o=>by rw[ah (Ne.symm hhl)]; exact I3.lines
    have pw:=xU ok c
    have hsum:=gm 20 (dy nm c) pw.len
    have p3:=pw.three
    have h1l:(Str.ofString " ").length=1:=by decide
    walk_at "nx"
    refine⟨⟨_,SqL.of (hl4 _)⟩,_,_,.inl (SqL.of ac),qH _ _,?_⟩
    walk_at "rd1"
    refine⟨dy nm c,SqT.of (by rw[ah nth]; exact hat),by rw[h1l]; omega,?_⟩
    refine⟨_,hl4 _,by rw[List.length_map]; exact bn (by omega),?_⟩
    have I5:=I3.plain (H':=upd (upd H3 here (.lst (as.map V.ref++[.ref t]))) lp (.lst (st.L.map V.str++[.str (Txt.join " " (dy nm c))]))) (t:=t) (ws:=dy nm c) (L':=st.L++[Txt.join " " (dy nm c)]) (lf:=st.left - 1) (ld:=st.lends) (fun b o eb n1 n2 n3=>by rw[ah n3,ah n1]; exact eb) (by rw[ah hhl,ac,List.map_append]; rfl) (by rw[ah (ci hat I3.lines (fun z=>nomatch z)),ah nth]; exact hat) (by rw[ac,List.map_append]; rfl) (by rw[ah (Ne.symm I.lpp),ah (Ne.symm hhp)]; exact I3.pile)
    refine⟨here,d,pr,S,as++[t],es,_,some (.int c),some (.int (c % 15)),some (.str (xB nm c)),some (.str (yB nm c)),some (.int (st.stk.length:Int)),o13,o14,rfl,?_,I5,v2 pw B _,?_⟩
    ·rw[hfold,qB (by omega) (by omega) ⟨c3,c4⟩]
    ·show (st.L++[_]).length≤i+1
     rw[List.length_append]; simp only[List.length_cons,List.length_nil]; omega
 ·rintro σ H' ⟨here,d,pr,S,as,es,st,o8,o9,o10,o11,o12,o13,o14,rfl,hst,I,B,hL⟩
  rw[List.length_map,List.take_length]at hst
  rw[List.length_map]at hL
  have hplen:=I.ctx.pile
  obtain⟨dd1,_,dd3⟩:=I.ctx.deep
  have hes:=av I.ents
  rw[List.length_reverse]at hes
  walk_at "nx"
  refine⟨_,SqL.of I.pile,?_⟩
  refine xy (xs:=es.map V.ref) (fun j σ H2=>∃ o13 o14:Option V,σ=[some (.ref ca),some (.ref na),some (.ref root),some (.ref lp),some (.ref pp),some (.ref here),some (.int st.left),some (.int st.lends),o8,o9,o10,o11,o12,o13,o14]∧BInv H H2 root lp pp here ⟨st.cur,st.stk,st.L++(pr.take j).map (·.1),st.left,st.lends⟩ d pr S as es)
   ⟨o13,o14,rfl,by simpa using i9 I st.left st.lends⟩ (fun j σ H2 _ h=>by obtain⟨_,_,_,I⟩:=h; exact SqL.of I.pile) ?_ ?_
  ·rintro j x σ H2 hj hx ⟨o13,o14,rfl,I2⟩
   rw[List.length_map]at hj hx
   have hj':es.length - 1 - j<es.length:=by omega
   rw[List.getElem?_map,List.getElem?_eq_getElem hj']at hx
   cases hx
   obtain⟨qq,hqq,hent⟩:=bZ I2.ents (List.getElem?_eq_getElem hj')
   rw[List.getElem?_reverse (by omega)]at hqq
   have hix:pr.length - 1 - (es.length - 1 - j)=j:=by omega
   rw[hix]at hqq
   have htk:(pr.take (j+1)).map (·.1)=(pr.take j).map (·.1)++[qq.1]:=by rw[List.take_add_one,hqq,List.map_append]; rfl
   have hll:((pr.take j).map (·.1)).length≤20:=by rw[List.length_map,List.length_take]; omega
   walk_at "rd1"
   refine⟨_,_,rfl,SqT.of hent,rfl,?_⟩
   walk_at "rd1"
   refine⟨⟨_,SqL.of I2.lines⟩,_,I2.lines,by rw[List.length_map]; exact bn (by show (st.L++_).length≤1000000; rw[List.length_append]; omega),?_⟩
   have I3:=I2.line (st.L++(pr.take (j+1)).map (·.1)) (lf:=st.left) (ld:=st.lends)
   refine⟨_,_,rfl,?_⟩
   rw[htk,← List.append_assoc,List.map_append]at I3
   rw[htk,← List.append_assoc]
   exact I3
  ·rintro σ H2 ⟨o13,o14,rfl,I2⟩
   rw[List.length_map,List.take_of_length_le (by omega)]at I2
   walk_at "nx"
   refine⟨by decide,fun t ht=>?_⟩
   have I4:=I2.alloc (af ht (.tup [.ref root,.ref lp]))
   have ett:upd H2 t (.tup [.ref root,.ref lp]) t=some (.tup [.ref root,.ref lp]):=ac
   generalize upd H2 t (.tup [.ref root,.ref lp])=H3 at I4 ett ⊢
   have Ig:BInv H (upd H3 lp (.lst (st.L.map V.str))) root lp pp here st d pr S as es:=I4.line st.L (lf:=st.left) (ld:=st.lends)
   obtain⟨S',as',z1,z2,z3,z4,z5,z6,z7,z8,z9,z10,z11,z12⟩:=u6 pr.length rfl Ig B
   have back:∀ b o,upd H3 lp (.lst (st.L.map V.str)) b=some o→b≠lp→H3 b=some o:=fun b o e n1=>by rw[ah n1]at e; exact e
   have htp:∀ b xs,upd H3 lp (.lst (st.L.map V.str)) b=some (.tup xs)→H3 b=some (.tup xs):=fun b xs e=>back b _ e (fun z=>by rw[z,ac]at e; cases e)
   have hlq:∀ b xs,S' b→upd H3 lp (.lst (st.L.map V.str)) b=some (.lst xs)→H3 b=some (.lst xs):=fun b xs hb e=>back b _ e (fun z=>z5 (z ▸ hb))
   have hb:cL 60 nm cs=d_ pr.length st:=by
    unfold cL
    rw[← hst,hplen]
   have hlines:(d_ pr.length st).L=b7 10 (d_ pr.length st).cur:=by
    have:=z1.lines
    rw[z2]at this
    simpa [dZ] using this
   have hal:=av z8
   have hsz:=z1.size
   have hll:(st.L++pr.map (·.1)).length≤100:=by rw[List.length_append,List.length_map]; omega
   rw[z3]at hlines hsz
   refine q t root lp H3 S' as' I4.sm ett z12 I4.off.2.2.1 z10 z4 z5 (back _ _ z7 z10) ?_ (by rw[hb]; exact z1.ok) ?_ ?_ (by omega)
   ·rw[hb]
    exact Paired.imp' (fun a s z=>stpAt.imp htp (fun q b y=>ProgAt.imp htp hlq (fun _ z=>z) 9 y) z) z8
   ·rw[hb,← hlines]; exact I4.lines
   ·rw[hb,← hlines]; omega
end
def cH(x:Str):Prop:=32∉x.cps.toList
def fE(f:List Stp→Prop):Stp→Prop
 | .plain ws=>dB ws∧∀ x∈ws,cH x
 | .lend x y b=>cH x∧cH y∧f b
 | .ite n b c=>n.natAbs<10 ^ 61∧f b∧f c
 | .whl n b=>n.natAbs<10 ^ 61∧f b
def cy:Nat→List Stp→Prop
 | 0,_=>False
 | d+1,T=>∀ s∈T,fE (cy d) s
theorem vQ{f g:List Stp→Prop}(h:∀ b,f b→g b):∀ {s:Stp},fE f s→lY g s
 | .plain _,z=>z.1
 | .lend _ _ _,z=>h _ z.2.2
 | .ite _ _ _,z=>⟨h _ z.2.1,h _ z.2.2⟩
 | .whl _ _,z=>h _ z.2
theorem gM:∀ {d:Nat} {T:List Stp},cy d T→lG d T
 | 0,_,h=>h
 | _+1,_,h=>fun s hs=>vQ (fun _ z=>gM z) (h s hs)
def lm:List Frm→Nat→Prop
 | [],_=>True
 | .lend x y up::r,d=>cH x∧cH y∧cy (d+2) up∧lm r (d+1)
 | .whl n up::r,d=>n.natAbs<10 ^ 61∧cy (d+2) up∧lm r (d+1)
 | .inB n up::r,d=>n.natAbs<10 ^ 61∧cy (d+2) up∧lm r (d+1)
 | .inC n b up::r,d=>n.natAbs<10 ^ 61∧cy (d+1) b∧cy (d+2) up∧lm r (d+1)
structure jR (st:BS) (d:Nat):Prop where
 dep:d+st.stk.length=9
 fine:cy (d+1) st.cur
 finef:lm st.stk d
theorem iJ{d:Nat}{T:List Stp}{s:Stp}(h:cy (d+1) T)(hs:fE (cy d) s):cy (d+1) (T++[s]):=fun u hu=>(List.mem_append.mp hu).elim (h u) (fun z=>by rw[List.mem_singleton.mp z]; exact hs)
theorem gG(d:Nat):cy (d+1) []:=fun s hs=>by cases hs
theorem mi{st:BS}{d:Nat}(h:jR st d):∃ d',jR (ee st) d':=by
 obtain⟨cur,stk,L,left,lends⟩:=st
 obtain⟨h1,h2,h3⟩:=h
 dsimp only at h1 h2 h3
 cases stk with
 | nil=>exact⟨d,h1,h2,h3⟩
 | cons f r=>
  rw[List.length_cons]at h1
  cases f with
  | lend x y up=>
   obtain⟨k1,k2,k3,k4⟩:=h3
   exact⟨d+1,by show d+1+r.length=9; omega,iJ k3 ⟨k1,k2,h2⟩,k4⟩
  | whl n up=>
   obtain⟨k1,k3,k4⟩:=h3
   exact⟨d+1,by show d+1+r.length=9; omega,iJ k3 ⟨k1,h2⟩,k4⟩
  | inB n up=>
   obtain⟨k1,k3,k4⟩:=h3
   exact⟨d,by show d+(r.length+1)=9; omega,gG _,k1,h2,k3,k4⟩
  | inC n b up=>
   obtain⟨k1,k2,k3,k4⟩:=h3
   exact⟨d+1,by show d+1+r.length=9; omega,iJ k3 ⟨k1,k2,h2⟩,k4⟩
theorem o0(c:Int):(cT c).natAbs<10 ^ 61:=by
 unfold cT
 split
 ·omega
 split
 ·omega
 ·omega
theorem tE{nm:List Str}(n1:1≤nm.length)(hn:∀ x∈nm,cH x){st:BS}{d:Nat}(c:Int)(h:jR st (d+1)):jR (dF nm c st) d:=by
 obtain⟨cur,stk,L,left,lends⟩:=st
 obtain⟨h1,h2,h3⟩:=h
 dsimp only at h1 h2 h3
 have hx:=hn _ (fM n1 (c * 48271 % 1009)).1
 have hy:=hn _ (fM n1 (c * 69621 % 2003)).1
 unfold dF
 split
 ·exact⟨by show d+(stk.length+1)=9; omega,gG _,hx,hy,h2,h3⟩
 split
 ·exact⟨by show d+(stk.length+1)=9; omega,gG _,o0 c,h2,h3⟩
 ·exact⟨by show d+(stk.length+1)=9; omega,gG _,o0 c,h2,h3⟩
theorem vo{nm:List Str}(n1:1≤nm.length)(hn:∀ x∈nm,cH x)(c:Int):∀ x∈dy nm c,cH x:=by
 have hx:cH (xB nm c):=hn _ (fM n1 (c * 48271 % 1009)).1
 have hy:cH (yB nm c):=hn _ (fM n1 (c * 69621 % 2003)).1
 have he:∀ u∈jQ++nm,cH u:=fun u hu=>by
  rcases List.mem_append.mp hu with z | z
  ·exact(by decide:∀ u∈jQ,32∉u.cps.toList) u z
  ·exact hn u z
 have hw:cH (pk (jQ++nm) (c * 40692 % 4001)):=he _ (fM (by rw[List.length_append]; omega) _).1
 have k1:cH "open" := by unfold cH; decide
 have k2:cH "copy" := by unfold cH; decide
 have k3:cH "drop" := by unfold cH; decide
 have k4:cH "tie" := by unfold cH; decide
 have k5:cH "do" := by unfold cH; decide
 intro x hxm
 unfold dy at hxm
 split at hxm
 ·simp only[List.mem_cons,List.mem_nil_iff,or_false]at hxm; rcases hxm with rfl | rfl <;> assumption
 split at hxm
 ·simp only[List.mem_cons,List.mem_nil_iff,or_false]at hxm; rcases hxm with rfl | rfl | rfl <;> assumption
 split at hxm
 ·simp only[List.mem_cons,List.mem_nil_iff,or_false]at hxm; rcases hxm with rfl | rfl <;> assumption
 split at hxm
 ·simp only[List.mem_cons,List.mem_nil_iff,or_false]at hxm; rcases hxm with rfl | rfl | rfl <;> assumption
 ·simp only[List.mem_cons,List.mem_nil_iff,or_false]at hxm; rcases hxm with rfl | rfl | rfl <;> assumption
theorem tj{nm:List Str}(n1:1≤nm.length)(hn:∀ x∈nm,cH x){st:BS}(c:Int)(h:∃ d,jR st d):∃ d,jR (dk nm st c) d:=by
 obtain⟨d,h⟩:=h
 unfold dk
 split
 ·exact mi h
 split
 ·rename_i z
  have h1:=h.dep
  obtain⟨d',rfl⟩ : ∃ d',d=d'+1:=⟨d - 1,by have:=z.2.2.1; omega⟩
  exact⟨d',tE n1 hn c ⟨h.dep,h.fine,h.finef⟩⟩
 split
 ·exact⟨d,h.dep,iJ h.fine ⟨zv nm c,vo n1 hn c⟩,h.finef⟩
 ·exact⟨d,h⟩
theorem mJ{nm:List Str}(n1:1≤nm.length)(hn:∀ x∈nm,cH x):∀ (cs:List Int) (st:BS),(∃ d,jR st d)→∃ d,jR (cs.foldl (dk nm) st) d
 | [],_,h=>h
 | c::cs,st,h=>mJ n1 hn cs _ (tj n1 hn c h)
theorem mT:∀ (n:Nat) (st:BS),(∃ d,jR st d)→∃ d,jR (d_ n st) d
 | 0,_,h=>h
 | n+1,st,h=>by obtain⟨d,z⟩:=mT n st h; exact mi z
theorem v6(st:BS):cA (ee st).stk=cA st.stk - 1:=by
 obtain⟨cur,stk,L,left,lends⟩:=st
 cases stk with
 | nil=>rfl
 | cons f r=>cases f <;> rfl
theorem mo(st:BS):∀ n,cA (d_ n st).stk=cA st.stk - n
 | 0=>rfl
 | n+1=>by show cA (ee (d_ n st)).stk=_; rw[v6,mo st n]; omega
theorem xx:∀ {fs:List Frm},cA fs=0→fs=[]
 | [],_=>rfl
 | .lend _ _ _::r,h=>by simp[cA]at h
 | .whl _ _::r,h=>by simp[cA]at h
 | .inB _ _::r,h=>by simp[cA]at h
 | .inC _ _ _::r,h=>by simp[cA]at h
theorem sQ{nm:List Str}(n1:1≤nm.length)(hn:∀ x∈nm,cH x)(l:Int)(cs:List Int):cy 10 (cL l nm cs).cur:=by
 obtain⟨d,h⟩:=mT (cA (cs.foldl (dk nm) (iX l)).stk) _ (mJ n1 hn cs (iX l) ⟨9,rfl,gG _,trivial⟩)
 have e:(cL l nm cs).stk=[]:=xx (by unfold cL; rw[mo]; omega)
 have h1:=h.dep
 have e':(d_ (cA (cs.foldl (dk nm) (iX l)).stk) (cs.foldl (dk nm) (iX l))).stk=[]:=e
 rw[e']at h1
 have:d=9:=by simpa using h1
 subst this
 exact h.fine
def cQ(f:List Stp→List (List Str)):Stp→List (List Str)
 | .plain ws=>[ws]
 | .lend x y b=>["lend", x,y]::(f b++[[("back" : Str)]])
 | .ite n b c=>["if", bI n]::(f b++[[("else" : Str)]]++(f c++[[("fi" : Str)]]))
 | .whl n b=>["while", bI n]::(f b++[[("done" : Str)]])
def aU:Nat→List Stp→List (List Str)
 | 0,_=>[]
 | d+1,T=>T.flatMap (cQ (aU d))
theorem Ak{f:List Stp→List Str}{g:List Stp→List (List Str)}(h:∀ b,f b=(g b).map (Txt.join " ")):∀ s:Stp,bU f s=(cQ g s).map (Txt.join " ")
 | .plain ws=>rfl
 | .lend x y b=>by simp[bU,cQ,h]; rfl
 | .ite n b c=>by simp[bU,cQ,h]; exact⟨rfl,rfl⟩
 | .whl n b=>by simp[bU,cQ,h]; rfl
theorem sF:∀ (d:Nat) (T:List Stp),b7 d T=(aU d T).map (Txt.join " ")
 | 0,_=>rfl
 | d+1,T=>by
  show T.flatMap (bU (b7 d))=(T.flatMap (cQ (aU d))).map _
  rw[List.map_flatMap]
  congr 1
  funext s
  exact Ak (sF d) s
theorem gv{g:List Stp→List (List Str)}{f:List Stp→Nat}(h:∀ b,(g b).length=f b):∀ s:Stp,(cQ g s).length=bi f s
 | .plain ws=>rfl
 | .lend x y b=>by simp[cQ,bi,h]
 | .ite n b c=>by simp[cQ,bi,h]; omega
 | .whl n b=>by simp[cQ,bi,h]
theorem cS:∀ (d:Nat) (T:List Stp),(aU d T).length=ak d T
 | 0,_=>rfl
 | d+1,T=>by
  show (T.flatMap (cQ (aU d))).length=(T.map (bi (ak d))).sum
  rw[List.length_flatMap]
  congr 1
  exact List.map_congr_left fun s _=>gv (cS d) s
structure WOk (ws:List Str):Prop where
 ne:ws≠[]
 free:∀ x∈ws,cH x
 num:(ws.headD "" = "if" ∨ ws.headD "" = "while")→∃ n:Int,ws[1]? = some (bI n)∧n.natAbs<10 ^ 61
theorem pM(n:Int):cH (bI n):=by
 unfold cH bI
 cases n with
 | ofNat m=>
  have e:(Str.ofString (toString (Int.ofNat m))).cps.toList=(Nat.toDigits 10 m).map Char.toNat:=PySem.W.KIN.signs_num m
  rw[e]
  intro z
  have:=(iE m).1 32 z
  omega
 | negSucc m=>
  have e:(Str.ofString (toString (Int.negSucc m))).cps.toList=45::(Nat.toDigits 10 (m+1)).map Char.toNat:=by
   rw[signs_ofString]
   show ("-" ++ Nat.repr (m+1)).toList.map Char.toNat=_
   rw[String.toList_append,List.map_append,Nat.toList_repr]; rfl
  rw[e]
  intro z
  rcases List.mem_cons.mp z with z | z
  ·cases z
  ·have:=(iE (m+1)).1 32 z
   omega
theorem jE{x:Str}(h:cH x)(h1:¬ x = "if") (h2:¬ x = "while"):WOk [x]:=⟨by simp,by simpa using h,fun z=>z.elim (fun z=>absurd z h1) (fun z=>absurd z h2)⟩
theorem BG{g:List Stp→List (List Str)}{f:List Stp→Prop}(h:∀ b,f b→∀ ws∈g b,WOk ws):∀ {s:Stp},fE f s→∀ ws∈cQ g s,WOk ws
 | .plain us,⟨px,hf⟩,ws,hw=>by
  have e:ws=us:=by simpa [cQ] using hw
  subst e
  refine⟨fun z=>(by subst z; cases px),hf,fun z=>?_⟩
  exfalso
  cases px with
  | op x=>rcases z with z | z <;> exact absurd z (show ¬ ("open" : Str)=_ by decide)
  | dr x=>rcases z with z | z <;> exact absurd z (show ¬ ("drop" : Str)=_ by decide)
  | dd u x=>rcases z with z | z <;> exact absurd z (show ¬ ("do" : Str)=_ by decide)
  | cp x y=>rcases z with z | z <;> exact absurd z (show ¬ ("copy" : Str)=_ by decide)
  | ti x y=>rcases z with z | z <;> exact absurd z (show ¬ ("tie" : Str)=_ by decide)
 | .lend x y b,⟨hx,hy,hb⟩,ws,hw=>by
  simp only[cQ,List.mem_cons,List.mem_append,List.not_mem_nil,or_false]at hw
  rcases hw with rfl | hw | rfl
  ·refine⟨by simp,fun u hu=>?_,fun z=>?_⟩
   ·simp only[List.mem_cons,List.not_mem_nil,or_false]at hu
    rcases hu with rfl | rfl | rfl
    ·show 32∉_; decide
    ·exact hx
    ·exact hy
   ·exfalso; rcases z with z | z <;> exact absurd z (show ¬ ("lend" : Str)=_ by decide)
  ·exact h b hb ws hw
  ·exact jE (show 32∉_ by decide) (by decide) (by decide)
 | .ite n b c,⟨hn,hb,hc⟩,ws,hw=>by
  simp only[cQ,List.mem_cons,List.mem_append,List.not_mem_nil,or_false]at hw
  rcases hw with rfl | (hw | rfl) | hw | rfl
  ·refine⟨by simp,fun u hu=>?_,fun _=>⟨n,rfl,hn⟩⟩
   simp only[List.mem_cons,List.not_mem_nil,or_false]at hu
   rcases hu with rfl | rfl
   ·show 32∉_; decide
   ·exact pM n
  ·exact h b hb ws hw
  ·exact jE (show 32∉_ by decide) (by decide) (by decide)
  ·exact h c hc ws hw
  ·exact jE (show 32∉_ by decide) (by decide) (by decide)
 | .whl n b,⟨hn,hb⟩,ws,hw=>by
  simp only[cQ,List.mem_cons,List.mem_append,List.not_mem_nil,or_false]at hw
  rcases hw with rfl | hw | rfl
  ·refine⟨by simp,fun u hu=>?_,fun _=>⟨n,rfl,hn⟩⟩
   simp only[List.mem_cons,List.not_mem_nil,or_false]at hu
   rcases hu with rfl | rfl
   ·show 32∉_; decide
   ·exact pM n
  ·exact h b hb ws hw
  ·exact jE (show 32∉_ by decide) (by decide) (by decide)
theorem ur:∀ {d:Nat} {T:List Stp},cy d T→∀ ws∈aU d T,WOk ws
 | 0,_,h,_,_=>h.elim
 | d+1,T,h,ws,hw=>by
  obtain⟨s,hs,hw⟩:=List.mem_flatMap.mp hw
  exact BG (fun b z=>ur z) (h s hs) ws hw
theorem WOk.split{ws:List Str}(h:WOk ws):Txt.split (Txt.join " " ws) " " = ws:=kP h.ne h.free
def cv(ws:List Str):Bool:=decide (ws=[("else" : Str)])||decide (ws=[("fi" : Str)])||decide (ws=[("done" : Str)])||decide (ws=[("back" : Str)])
def cr(ws:List Str):Bool:=decide (ws=[("else" : Str)])||(decide (1<ws.length)&&(decide (ws.headD "" = ("if" : Str))||decide (ws.headD "" = ("while" : Str))||decide (ws.headD "" = ("lend" : Str))))
set_option genInjectivity false in
set_option genSizeOf false in
structure PS where
 kvs:List (aB × V)
 pile:List Nat
def ui(at_:Nat)(s:PS):PS:=match s.pile with
 | []=>s
 | h::r=>⟨aT (aT s.kvs (.inl at_) (.int h)) (.inl h) (.int at_),r⟩
def cF(at_:Nat)(ws:List Str)(s:PS):PS:=
 let s1:=if cv ws=true then ui at_ s else s
 if cr ws=true then ⟨s1.kvs,at_::s1.pile⟩ else s1
def bm:Nat→List (List Str)→PS→PS
 | _,[],s=>s
 | l,ws::W,s=>bm (l+1) W (cF l ws s)
theorem dA:∀ (l:Nat) (X Y:List (List Str)) (s:PS),bm l (X++Y) s=bm (l+X.length) Y (bm l X s)
 | l,[],Y,s=>rfl
 | l,x::X,Y,s=>by
  show bm (l+1) (X++Y) (cF l x s)=bm (l+(X.length+1)) Y (bm (l+1) X (cF l x s))
  rw[dA (l+1) X Y,show l+1+X.length=l+(X.length+1) by omega]
theorem jq(l:Nat)(ws:List Str)(s:PS):bm l [ws] s=cF l ws s:=rfl
structure PKeeps (l n:Nat) (a b:PS):Prop where
 pile:b.pile=a.pile
 keys:∀ k:Nat,k<l∨l+n≤k→aK b.kvs (.inl (k:Int))=aK a.kvs (.inl (k:Int))
theorem PKeeps.seq{l n m:Nat}{a b c:PS}(h:PKeeps l n a b)(k:PKeeps (l+n) m b c):PKeeps l (n+m) a c:=
 ⟨k.pile.trans h.pile,fun j hj=>(k.keys j (by omega)).trans (h.keys j (by omega))⟩
theorem qx{l:Nat}{ws:List Str}(s:PS)(h1:cv ws=false)(h2:cr ws=false):cF l ws s=s:=by
 unfold cF; simp[h1,h2]
theorem eP{l:Nat}{ws:List Str}(s:PS)(h1:cv ws=false)(h2:cr ws=true):cF l ws s=⟨s.kvs,l::s.pile⟩:=by
 unfold cF; simp[h1,h2]
theorem jZ{l h:Nat}{r:List Nat}{ws:List Str}{kvs:List (aB × V)}(h1:cv ws=true)(h2:cr ws=false):cF l ws ⟨kvs,h::r⟩=⟨aT (aT kvs (.inl l) (.int h)) (.inl h) (.int l),r⟩:=by
 unfold cF; simp[h1,h2,ui]
theorem kI{l h:Nat}{r:List Nat}{kvs:List (aB × V)}:cF l ["else"] ⟨kvs,h::r⟩=⟨aT (aT kvs (.inl l) (.int h)) (.inl h) (.int l),l::r⟩:=by
 have h1:cv ["else"]=true:=by decide
 have h2:cr ["else"]=true:=by decide
 unfold cF; simp[h1,h2,ui]
theorem jD{kvs:List (aB × V)}{a b j:Nat}(u v:V)(h1:j≠a)(h2:j≠b):aK (aT (aT kvs (.inl (a:Int)) u) (.inl (b:Int)) v) (.inl (j:Int))=aK kvs (.inl (j:Int)):=by
 rw[dC,if_neg (fun z=>h2 (by have:=Sum.inl.inj z; omega)),dC,if_neg (fun z=>h1 (by have:=Sum.inl.inj z; omega))]
theorem p9{us:List Str}(px:dB us):cv us=false∧cr us=false:=by
 cases px <;> simp[cv,cr] <;> decide
theorem rR{l n:Nat}{hd cl:List Str}{X:List (List Str)}{s:PS}(hX:X.length=n)(o1:cv hd=false)(o2:cr hd=true)(c1:cv cl=true)(c2:cr cl=false)(hk:∀ s,PKeeps (l+1) n s (bm (l+1) X s)) :
  PKeeps l (n+2) s (bm l (hd::(X++[cl])) s)∧aK (bm l (hd::(X++[cl])) s).kvs (.inl ((l+1+n:Nat):Int))=some (.int (l:Int))∧aK (bm l (hd::(X++[cl])) s).kvs (.inl (l:Int))=some (.int ((l+1+n:Nat):Int))∧
  ∀ j:Nat,l+1≤j→j<l+1+n→aK (bm l (hd::(X++[cl])) s).kvs (.inl (j:Int))=aK (bm (l+1) X ⟨s.kvs,l::s.pile⟩).kvs (.inl (j:Int)):=by
 have e:bm l (hd::(X++[cl])) s=cF (l+1+n) cl (bm (l+1) X ⟨s.kvs,l::s.pile⟩):=by
  show bm (l+1) (X++[cl]) (cF l hd s)=_
  rw[eP s o1 o2,dA,hX]; rfl
 obtain⟨k1,k2⟩:=hk ⟨s.kvs,l::s.pile⟩
 rw[e]
 generalize bm (l+1) X ⟨s.kvs,l::s.pile⟩=s1 at k1 k2 ⊢
 obtain⟨kv1,p1⟩:=s1
 have hp:p1=l::s.pile:=k1
 subst hp
 rw[jZ c1 c2]
 refine⟨⟨rfl,fun j hj=>?_⟩,?_,?_,fun j j1 j2=>jD _ _ (by omega) (by omega)⟩
 ·show aK (aT (aT kv1 (.inl ((l+1+n:Nat):Int)) (.int l)) (.inl (l:Int)) (.int ((l+1+n:Nat):Int))) (.inl (j:Int))=_
  rw[jD _ _ (by omega) (by omega)]
  exact k2 j (by omega)
 ·show aK (aT (aT kv1 (.inl ((l+1+n:Nat):Int)) (.int l)) (.inl (l:Int)) (.int ((l+1+n:Nat):Int))) _=_
  rw[dC,if_neg (fun z=>by have:=Sum.inl.inj z; omega),dC,if_pos rfl]
 ·show aK (aT (aT kv1 (.inl ((l+1+n:Nat):Int)) (.int l)) (.inl (l:Int)) (.int ((l+1+n:Nat):Int))) _=_
  rw[dC,if_pos rfl]
def gk(f:List Stp→Nat)(g:Nat→List Stp→List (aB × V)→Prop)(l:Nat)(kvs:List (aB × V)):Stp→Prop
 | .plain _=>True
 | .lend _ _ b=>aK kvs (.inl ((l+1+f b:Nat):Int))=some (.int (l:Int))∧aK kvs (.inl (l:Int))=some (.int ((l+1+f b:Nat):Int))∧g (l+1) b kvs
 | .ite _ b c=>(aK kvs (.inl (l:Int))=some (.int ((l+1+f b:Nat):Int))∧aK kvs (.inl ((l+1+f b:Nat):Int))=some (.int ((l+1+f b+1+f c:Nat):Int)))∧g (l+1) b kvs∧g (l+1+f b+1) c kvs
 | .whl _ b=>(aK kvs (.inl ((l+1+f b:Nat):Int))=some (.int (l:Int))∧aK kvs (.inl (l:Int))=some (.int ((l+1+f b:Nat):Int)))∧g (l+1) b kvs
def eO:Nat→Nat→List Stp→List (aB × V)→Prop
 | 0,_,_,_=>True
 | d+1,l,T,kvs=>∀ z∈dM (bi (ak d)) l T,gk (ak d) (eO d) z.1 kvs z.2
theorem kr(f:Stp→Nat):∀ (l:Nat) (T:List Stp) (z:Nat × Stp),z∈dM f l T→l≤z.1∧z.1+f z.2≤l+(T.map f).sum
 | _,[],_,h=>by cases h
 | l,s::T,z,h=>by
  rw[List.map_cons,List.sum_cons]
  rcases List.mem_cons.mp h with rfl | h
  ·exact⟨Nat.le_refl _,by show l+f s≤_; omega⟩
  ·obtain⟨h1,h2⟩:=kr f (l+f s) T z h
   exact⟨by omega,by omega⟩
def kK(l n:Nat)(a b:List (aB × V)):Prop:=∀ k:Nat,l≤k→k<l+n→aK b (.inl (k:Int))=aK a (.inl (k:Int))
theorem kE{f:List Stp→Nat}{g:Nat→List Stp→List (aB × V)→Prop}(hg:∀ l T a b,kK l (f T) a b→g l T a→g l T b){l:Nat}{a b:List (aB × V)}:∀ {s:Stp},kK l (bi f s) a b→gk f g l a s→gk f g l b s
 | .plain _,_,_=>trivial
 | .lend x y c,h,⟨h1,h2,h3⟩=>⟨(h _ (by omega) (by show _<l+(f c+2); omega)).trans h1,(h _ (by omega) (by show _<l+(f c+2); omega)).trans h2,hg _ _ _ _ (fun k k1 k2=>h k (by omega) (by show _<l+(f c+2); omega)) h3⟩
 | .ite n c e,h,⟨⟨h4,h5⟩,h1,h2⟩=>⟨⟨(h _ (by omega) (by show _<l+(f c+f e+3); omega)).trans h4,(h _ (by omega) (by show _<l+(f c+f e+3); omega)).trans h5⟩,hg _ _ _ _ (fun k k1 k2=>h k (by omega) (by show _<l+(f c+f e+3); omega)) h1,hg _ _ _ _ (fun k k1 k2=>h k (by omega) (by show _<l+(f c+f e+3); omega)) h2⟩
 | .whl n c,h,⟨⟨h4,h5⟩,h1⟩=>⟨⟨(h _ (by omega) (by show _<l+(f c+2); omega)).trans h4,(h _ (by omega) (by show _<l+(f c+2); omega)).trans h5⟩,hg _ _ _ _ (fun k k1 k2=>h k (by omega) (by show _<l+(f c+2); omega)) h1⟩
theorem jo:∀ (d l:Nat) (T:List Stp) (a b:List (aB × V)),kK l (ak d T) a b→eO d l T a→eO d l T b
 | 0,_,_,_,_,_,_=>trivial
 | d+1,l,T,a,b,h,p=>fun z hz=>by
  obtain⟨r1,r2⟩:=kr _ l T z hz
  exact kE (jo d) (fun k k1 k2=>h k (by omega) (by show k<l+(T.map (bi (ak d))).sum; omega)) (p z hz)
theorem Ca{f:List Stp→Nat}{wl:List Stp→List (List Str)}{g:Nat→List Stp→List (aB × V)→Prop}{sh:List Stp→Prop}(hl:∀ b,(wl b).length=f b)(hg:∀ l T a b,kK l (f T) a b→g l T a→g l T b)(ih:∀ l b s,sh b→PKeeps l (f b) s (bm l (wl b) s)∧g l b (bm l (wl b) s).kvs) :
  ∀ (s:Stp) (l:Nat) (st:PS),lY sh s→PKeeps l (bi f s) st (bm l (cQ wl s) st)∧gk f g l (bm l (cQ wl s) st).kvs s
 | .plain us,l,st,px=>by
  obtain⟨h1,h2⟩:=p9 (show dB us from px)
  have e:bm l (cQ wl (.plain us)) st=st:=qx st h1 h2
  rw[e]
  exact⟨⟨rfl,fun _ _=>rfl⟩,trivial⟩
 | .lend x y b,l,st,sb=>by
  obtain⟨k1,k2,k3,k4⟩:=rR (l:=l) (n:=f b) (hd:=["lend", x,y]) (cl:=["back"]) (X:=wl b) (s:=st) (hl b) (by simp[cv]) (by simp[cr]) (by decide) (by decide) (fun s=>(ih (l+1) b s sb).1)
  exact⟨k1,k2,k3,hg _ _ _ _ (fun k r1 r2=>k4 k r1 r2) (ih (l+1) b ⟨st.kvs,l::st.pile⟩ sb).2⟩
 | .whl n b,l,st,sb=>by
  obtain⟨k1,k2,k3,k4⟩:=rR (l:=l) (n:=f b) (hd:=["while", bI n]) (cl:=["done"]) (X:=wl b) (s:=st) (hl b) (by simp[cv]) (by simp[cr]) (by decide) (by decide) (fun s=>(ih (l+1) b s sb).1)
  exact⟨k1,⟨k2,k3⟩,hg _ _ _ _ (fun k r1 r2=>k4 k r1 r2) (ih (l+1) b ⟨st.kvs,l::st.pile⟩ sb).2⟩
 | .ite n b c,l,st,⟨sb,sc⟩=>by
  have o1:cv ["if", bI n]=false:=by simp[cv]
  have o2:cr ["if", bI n]=true:=by simp[cr]
  obtain⟨a1,a2⟩:=ih (l+1) b ⟨st.kvs,l::st.pile⟩ sb
  have e:bm l (cQ wl (.ite n b c)) st=cF (l+1+f b+1+f c) ["fi"] (bm (l+1+f b+1) (wl c) (cF (l+1+f b) ["else"] (bm (l+1) (wl b) ⟨st.kvs,l::st.pile⟩))):=by
   show bm (l+1) (wl b++[[("else" : Str)]]++(wl c++[[("fi" : Str)]])) (cF l ["if", bI n] st)=_
   rw[eP st o1 o2,dA,dA,dA,jq,jq,List.length_append,List.length_singleton,hl b,hl c]
   rfl
  rw[e]
  generalize bm (l+1) (wl b) ⟨st.kvs,l::st.pile⟩=s1 at a1 a2
  obtain⟨kv1,p1⟩:=s1
  have hp:p1=l::st.pile:=a1.pile
  subst hp
  rw[kI]
  obtain⟨b1,b2⟩:=ih (l+1+f b+1) c ⟨aT (aT kv1 (.inl ((l+1+f b:Nat):Int)) (.int l)) (.inl (l:Int)) (.int ((l+1+f b:Nat):Int)),(l+1+f b)::st.pile⟩ sc
  generalize bm (l+1+f b+1) (wl c) ⟨aT (aT kv1 (.inl ((l+1+f b:Nat):Int)) (.int l)) (.inl (l:Int)) (.int ((l+1+f b:Nat):Int)),(l+1+f b)::st.pile⟩=s2 at b1 b2
  obtain⟨kv2,p2⟩:=s2
  have hp2:p2=(l+1+f b)::st.pile:=b1.pile
  subst hp2
  rw[jZ (by decide) (by decide)]
  have fin:∀ j:Nat,j≠l+1+f b+1+f c→j≠l+1+f b→aK (aT (aT kv2 (.inl ((l+1+f b+1+f c:Nat):Int)) (.int ((l+1+f b:Nat):Int))) (.inl ((l+1+f b:Nat):Int)) (.int ((l+1+f b+1+f c:Nat):Int))) (.inl (j:Int))=aK kv2 (.inl (j:Int)):=fun j h1 h2=>jD _ _ h1 h2
  have mid:∀ j:Nat,j<l+1+f b+1∨l+1+f b+1+f c≤j→j≠l→j≠l+1+f b→aK kv2 (.inl (j:Int))=aK kv1 (.inl (j:Int)):=fun j h1 h2 h3=>(b1.keys j h1).trans (jD _ _ h3 h2)
  refine⟨⟨rfl,fun j hj=>?_⟩,⟨?_,?_⟩,hg _ _ _ _ (fun k r1 r2=>?_) a2,hg _ _ _ _ (fun k r1 r2=>?_) b2⟩
  ·have hj':j<l∨l+(f b+f c+3)≤j:=hj
   exact(fin j (by omega) (by omega)).trans ((mid j (by omega) (by omega) (by omega)).trans (a1.keys j (by omega)))
  ·refine(fin l (by omega) (by omega)).trans ((b1.keys l (by omega)).trans ?_)
   show aK (aT (aT kv1 (.inl ((l+1+f b:Nat):Int)) (.int l)) (.inl (l:Int)) (.int ((l+1+f b:Nat):Int))) (.inl (l:Int))=_
   rw[dC,if_pos rfl]
  ·show aK (aT (aT kv2 (.inl ((l+1+f b+1+f c:Nat):Int)) (.int ((l+1+f b:Nat):Int))) (.inl ((l+1+f b:Nat):Int)) (.int ((l+1+f b+1+f c:Nat):Int))) (.inl ((l+1+f b:Nat):Int))=_
   rw[dC,if_pos rfl]
  ·exact(fin k (by omega) (by omega)).trans (mid k (by omega) (by omega) (by omega))
  ·exact fin k (by omega) (by omega)
theorem yy{f:Stp→Nat}{wl:Stp→List (List Str)}{g:Nat→List (aB × V)→Stp→Prop}{sh:Stp→Prop}(hl:∀ s,(wl s).length=f s)(hg:∀ l s a b,kK l (f s) a b→g l a s→g l b s)(ih:∀ s l st,sh s→PKeeps l (f s) st (bm l (wl s) st)∧g l (bm l (wl s) st).kvs s) :
  ∀ (T:List Stp) (l:Nat) (st:PS),(∀ s∈T,sh s)→PKeeps l (T.map f).sum st (bm l (T.flatMap wl) st)∧∀ z∈dM f l T,g z.1 (bm l (T.flatMap wl) st).kvs z.2
 | [],l,st,_=>⟨⟨rfl,fun _ _=>rfl⟩,fun z hz=>by cases hz⟩
 | s::T,l,st,h=>by
  obtain⟨a1,a2⟩:=ih s l st (h s List.mem_cons_self)
  obtain⟨b1,b2⟩:=yy hl hg ih T (l+f s) (bm l (wl s) st) (fun u hu=>h u (List.mem_cons_of_mem _ hu))
  have e:bm l ((s::T).flatMap wl) st=bm (l+f s) (T.flatMap wl) (bm l (wl s) st):=by
   rw[List.flatMap_cons,dA,hl s]
  rw[e,List.map_cons,List.sum_cons]
  refine⟨a1.seq b1,fun z hz=>?_⟩
  rcases List.mem_cons.mp hz with rfl | hz
  ·exact hg _ _ _ _ (fun k r1 r2=>b1.keys k (.inl r2)) a2
  ·exact b2 z hz
theorem gb:∀ (d:Nat) (l:Nat) (T:List Stp) (st:PS),lG d T→PKeeps l (ak d T) st (bm l (aU d T) st)∧eO d l T (bm l (aU d T) st).kvs
 | 0,_,_,_,h=>h.elim
 | d+1,l,T,st,h=>yy (f:=bi (ak d)) (g:=fun l kvs s=>gk (ak d) (eO d) l kvs s) (sh:=lY (lG d)) (fun s=>gv (cS d) s) (fun l s a b z p=>kE (jo d) z p) (fun s l st z=>Ca (cS d) (jo d) (fun l b s z=>gb d l b s z) s l st z) T l st h
def StandsAt(W X:List (List Str))(l:Nat):Prop:=∀ i ws,X[i]? = some ws→W[l+i]? = some ws
theorem StandsAt.left{W X Y:List (List Str)}{l:Nat}(h:StandsAt W (X++Y) l):StandsAt W X l:=fun i ws e=>h i ws (by rw[List.getElem?_append_left (List.getElem?_eq_some_iff.mp e).1]; exact e)
theorem StandsAt.right{W X Y:List (List Str)}{l:Nat}(h:StandsAt W (X++Y) l):StandsAt W Y (l+X.length):=fun i ws e=>by
 have:=h (X.length+i) ws (by rw[List.getElem?_append_right (by omega)]; rw[show X.length+i - X.length=i by omega]; exact e)
 rw[Nat.add_assoc]; exact this
theorem StandsAt.tail{W Y:List (List Str)}{x:List Str}{l:Nat}(h:StandsAt W (x::Y) l):StandsAt W Y (l+1):=fun i ws e=>by
 have:=h (i+1) ws (by rw[List.getElem?_cons_succ]; exact e)
 rw[show l+1+i=l+(i+1) by omega]; exact this
theorem StandsAt.head{W Y:List (List Str)}{x:List Str}{l:Nat}(h:StandsAt W (x::Y) l):W[l]? = some x:=h 0 x rfl
def bV(W:List (List Str)):List (aB × V):=(bm 0 W ⟨[],[]⟩).kvs
section
variable{P:Program}{w:World}{K:PySem.W.Frag}{mg:Str→Option Value}{base:Heap}
def PosC(l:Nat)(X:List (List Str))(s:PS):Prop:=∀ i ws,X[i]? = some ws→cv ws=true→(bm l (X.take i) s).pile≠[]
theorem PosC.nil(l:Nat)(s:PS):PosC l [] s:=fun i ws e=>by simp at e
theorem PosC.app{l:Nat}{X Y:List (List Str)}{s:PS}(h:PosC l X s)(k:PosC (l+X.length) Y (bm l X s)):PosC l (X++Y) s:=fun i ws e c=>by
 by_cases hi:i<X.length
 ·rw[List.getElem?_append_left hi]at e
  rw[List.take_append_of_le_length (by omega)]
  exact h i ws e c
 ·rw[List.getElem?_append_right (by omega)]at e
  have:=k (i - X.length) ws e c
  rw[List.take_append,List.take_of_length_le (by omega),dA]
  exact this
theorem PosC.one{l:Nat}{x:List Str}{s:PS}(h:cv x=true→s.pile≠[]):PosC l [x] s:=fun i ws e c=>by
 match i,e with
 | 0,e=>cases e; exact h c
 | i+1,e=>simp at e
theorem PosC.cons{l:Nat}{x:List Str}{Y:List (List Str)}{s:PS}(h:cv x=true→s.pile≠[])(k:PosC (l+1) Y (cF l x s)):PosC l (x::Y) s:=(PosC.one h).app k
theorem Et{f:List Stp→Nat}{wl:List Stp→List (List Str)}{sh:List Stp→Prop}(hl:∀ b,(wl b).length=f b)(hp:∀ l b s,sh b→PKeeps l (f b) s (bm l (wl b) s))(ih:∀ l b s,sh b→PosC l (wl b) s):∀ (s:Stp) (l:Nat) (st:PS),lY sh s→PosC l (cQ wl s) st
 | .plain us,l,st,px=>PosC.one fun c=>by rw[(p9 (show dB us from px)).1]at c; cases c
 | .lend x y b,l,st,sb=>by
  refine PosC.cons (fun c=>by simp[cv]at c) ((ih _ b _ sb).app (PosC.one fun _=>?_))
  rw[(hp _ b _ sb).pile,eP st (by simp[cv]) (by simp[cr])]; simp
 | .whl n b,l,st,sb=>by
  refine PosC.cons (fun c=>by simp[cv]at c) ((ih _ b _ sb).app (PosC.one fun _=>?_))
  rw[(hp _ b _ sb).pile,eP st (by simp[cv]) (by simp[cr])]; simp
 | .ite n b c,l,st,⟨sb,sc⟩=>by
  refine PosC.cons (fun c=>by simp[cv]at c) (((ih _ b _ sb).app (PosC.one fun _=>?_)).app ((ih _ c _ sc).app (PosC.one fun _=>?_)))
  ·rw[(hp _ b _ sb).pile,eP st (by simp[cv]) (by simp[cr])]; simp
  ·rw[(hp _ c _ sc).pile,dA,jq]
   have e:=(hp (l+1) b (cF l ["if", bI n] st) sb).pile
   rw[eP st (by simp[cv]) (by simp[cr])]at e ⊢
   generalize bm (l+1) (wl b) ⟨st.kvs,l::st.pile⟩=s1 at e ⊢
   obtain⟨kv,p⟩:=s1
   have e':p=l::st.pile:=e
   subst e'
   rw[kI]; simp
theorem BB{f:Stp→Nat}{wl:Stp→List (List Str)}{sh:Stp→Prop}(hl:∀ s,(wl s).length=f s)(ih:∀ s l st,sh s→PosC l (wl s) st):∀ (T:List Stp) (l:Nat) (st:PS),(∀ s∈T,sh s)→PosC l (T.flatMap wl) st
 | [],l,st,_=>PosC.nil l st
 | s::T,l,st,h=>by
  rw[List.flatMap_cons]
  exact(ih s l st (h s List.mem_cons_self)).app (BB hl ih T _ _ fun u hu=>h u (List.mem_cons_of_mem _ hu))
theorem AH:∀ (d l:Nat) (T:List Stp) (st:PS),lG d T→PosC l (aU d T) st
 | 0,_,_,_,h=>h.elim
 | d+1,l,T,st,h=>BB (f:=bi (ak d)) (sh:=lY (lG d)) (fun s=>gv (cS d) s) (fun s l st z=>Et (cS d) (fun l b s z=>(gb d l b s z).1) (fun l b s z=>AH d l b s z) s l st z) T l st h
theorem dN{ws:List Str}(h:WOk ws){x:Str}(hx:cH x):Txt.join " " ws=x ↔ ws=[x]:=by
 constructor
 ·intro e
  have e1:=h.split
  rw[e]at e1
  have e2:=kP (ws:=[x]) (by simp) (fun z hz=>by rw[List.mem_singleton.mp hz]; exact hx)
  have e3:Txt.join " " [x]=x:=rfl
  rw[e3]at e2
  rw[← e1,e2]
 ·rintro rfl; rfl
theorem join_longer{w0:Str}{wr:List Str}:w0.length<(Txt.join " " (w0::wr)).length ↔ 1<(w0::wr).length:=by
 have go:∀ (ws:List Str) (a:Str),a.length≤(ws.foldl (fun a x=>a++(" " : Str)++x) a).length:=by
  intro ws
  induction ws with
  | nil=>intro a; exact Nat.le_refl _
  | cons x ws ih=>intro a; have:=ih (a++(" " : Str)++x); rw[Str.length_append,Str.length_append]at this; rw[List.foldl_cons]; omega
 rw[eK]
 cases wr with
 | nil=>simp
 | cons x r=>
  have:=go r (w0++(" " : Str)++x)
  have h1:(Str.ofString " ").length=1:=by decide
  rw[Str.length_append,Str.length_append,h1]at this
  rw[List.foldl_cons]
  simp only[List.length_cons]
  constructor <;> intro _ <;> omega
theorem iT(w0:Str)(wr:List Str):w0.length≤(Txt.join " " (w0::wr)).length:=by
 by_cases h:1<(w0::wr).length
 ·exact Nat.le_of_lt (join_longer.mpr h)
 ·cases wr with
  | nil=>exact Nat.le_refl _
  | cons x r=>simp at h
def qP(K:PySem.W.Frag):Sp:=fun vs H Q _=>∃ (lp:Addr) (W:List (List Str)),vs=[.ref lp]∧H lp=some (.lst ((W.map (Txt.join " ")).map V.str))∧(∀ ws∈W,WOk ws)∧(∀ ws∈W,(Txt.join " " ws).length≤5000)∧W.length≤1000∧PosC 0 W ⟨[],[]⟩∧
 ∀ (fd:Addr) (H':Hp),Same H H'→H' fd=some (.dK (bV W))→Q (.ref fd) H'
theorem wZ(D:DefAt K mg "_law_partners" aJ) (z_len:mg "len" = none) (z_range:mg "range" = none):ba P w K mg base 1 "_law_partners" ["_law_lines"] (qP K):=by
 refine D.cal (k:=0) sc_law_partners (fun _ _ _ _ _ _ us hl=>match us,hl with | [_],_=>rfl) (fun vs H Q E h=>by obtain⟨lp,W,rfl,_⟩:=h; rfl) (fun f cdv A outer s H vs Q E hr h=>?_)
 obtain⟨lp,W,rfl,hlp,hw,hsz,hWl,hpos,q⟩:=h
 refine⟨_,(ae (ar 1 sc_law_partners.nd iz (hx:=Fg))
   (ae (ar 2 sc_law_partners.nd (a_ ab) (hx:=El))
   (ae (cE PassesOwn.never rfl (gd Ee z_range (aa (bv (bb K) z_len bQ (aa (pv 0 (hv:=n6)) ab) (hg:=wb)) ab)) (bt 3 sc_law_partners.nd (hx:=DF)) (ae (ar 4 sc_law_partners.nd (aw (aO K) (aW K PySem.F.plainAttrs_str PySem.F.slot_str_split PySem.F.type_str_split fQ (aw (aO K) (pv 0 (hv:=n6)) (pv 3 (hv:=kc)) (fun _ _=>rfl)) (aa al ab)) ai (fun _ _=>rfl)) (hx:=Dd))
   (ae (bG (aD (jp K) (aw (aO K) (pv 0 (hv:=n6)) (pv 3 (hv:=kc)) (fun _ _=>rfl)) (a_ (aa al (aa al (aa al (aa al ab))))) (by with_unfolding_all rfl)) (ae (ar 5 sc_law_partners.nd (lD K PySem.F.plainAttrs_list PySem.F.slot_list_pop PySem.F.type_list_pop q9 (pv 2 (hv:=Bs))) (hx:=C6))
   (ae (hJ (pv 5 (hv:=Ai)) (kH (pv 1 (hv:=x8)) (pv 3 (hv:=kc)) (nI hr)))
   (aj (hJ (pv 3 (hv:=kc)) (kH (pv 1 (hv:=x8)) (pv 5 (hv:=Ai)) (nI hr)))))) aY)
   (aj (bG (PW.pt' (gS (aD bT (aw (aO K) (pv 0 (hv:=n6)) (pv 3 (hv:=kc)) (fun _ _=>rfl)) al (aL _)) (gD (PW.pt' (gL (aD lj (bv (bb K) z_len bQ (aa (aw (aO K) (pv 0 (hv:=n6)) (pv 3 (hv:=kc)) (fun _ _=>rfl)) ab) (hg:=wb)) (bv (bb K) z_len bQ (aa (pv 4 (hv:=Am)) ab) (hg:=wb)) (aL _)) (ia (aD (jp K) (pv 4 (hv:=Am)) (a_ (aa al (aa al (aa al ab)))) (by with_unfolding_all rfl)))))))) (aj (bu (aW K PySem.F.plainAttrs_list PySem.F.slot_list_append PySem.F.type_list_append bc (pv 2 (hv:=Bs)) (aa (pv 3 (hv:=kc)) ab)))) aY)))))
   (aj (aA (pv 1 (hv:=x8))))))),?_⟩
 walk_at "rd1"
 intro fd hfd
 generalize hA:upd H fd _=HA
 have sA:=eL hA hfd
 have eA:=gn hA
 walk_at "nx"
 refine⟨by decide,fun pp hpp=>?_⟩
 generalize hB:upd HA pp _=HB
 have sB:=eL hB hpp
 have eB:=gn hB
 walk_at "nx"
 refine⟨_,.inl (SqL.of ((sA.trans sB) _ _ hlp)),?_⟩
 rw[List.length_map,List.length_map]
 walk_at "rd1"
 refine⟨by omega,by omega,?_⟩
 rw[show ((W.length:Nat):Int).toNat=W.length from Int.toNat_natCast _]
 refine iq (fun i σ H'=>∃ (o3 o4 o5:Option V) (s:PS),σ=[some (.ref lp),some (.ref fd),some (.ref pp),o3,o4,o5]∧Same H H'∧s=bm 0 (W.take i) ⟨[],[]⟩∧H' fd=some (.dK s.kvs)∧H' pp=some (.lst (s.pile.reverse.map fun (n:Nat)=>V.int (n:Int)))∧s.kvs.length≤2 * i∧s.pile.length≤i)
  ⟨none,none,none,⟨[],[]⟩,rfl,sA.trans sB,rfl,sB _ _ eA,eB,Nat.le_refl _,Nat.le_refl _⟩ ?_ ?_
 ·rintro i σ H' hi ⟨o3,o4,o5,s,rfl,sm,hs,hf,hp,hkl,hpl⟩
  have hwi:W[i]? = some W[i]:=List.getElem?_eq_getElem hi
  have hwm:=List.getElem_mem hi
  have hpc:=hpos i W[i] hwi
  have hnx:bm 0 (W.take (i+1)) ⟨[],[]⟩=cF i W[i] s:=by
   rw[List.take_add_one,hwi]
   show bm 0 (W.take i++[W[i]]) ⟨[],[]⟩=_
   rw[dA,← hs,List.length_take,Nat.zero_add,Nat.min_eq_left (by omega)]; rfl
  rw[← hs]at hpc
  generalize W[i]=ws at hwi hwm hpc hnx
  have ho:=hw ws hwm
  have hz:=hsz ws hwm
  have hat:dw ((W.map (Txt.join " ")).map V.str) (i:Int)=some (.str (Txt.join " " ws)):=bC (by rw[List.getElem?_map,List.getElem?_map,hwi]; rfl)
  obtain⟨w0,wr,rfl⟩:=List.exists_cons_of_ne_nil ho.ne
  rw[hnx]
  rw[Int.zero_add]
  walk_at "rd1"
  refine⟨_,_,.inl (SqL.of (sm _ _ hlp)),hat,?_⟩
  walk_at "rd1"
  refine⟨by decide,by omega,fun sq hsq=>?_⟩
  rw[ho.split]
  have s5:=af hsq (.lst ((w0::wr).map V.str))
  have e5:upd H' sq (.lst ((w0::wr).map V.str)) sq=some (.lst ((w0::wr).map V.str)):=ac
  generalize upd H' sq (.lst ((w0::wr).map V.str))=H5 at s5 e5 ⊢
  refine⟨_,_,.inl (SqL.of e5),cm,?_⟩
  have sm5:=sm.trans s5
  walk_at "nx"
  refine⟨_,_,.inl (SqL.of (sm5 _ _ hlp)),hat,by decide,fun cl hcl=>?_⟩
  have s6:=af hcl (.lst [V.str "else", V.str "fi", V.str "done", V.str "back"])
  have e6:upd H5 cl (.lst [V.str "else", V.str "fi", V.str "done", V.str "back"]) cl=some (.lst [V.str "else", V.str "fi", V.str "done", V.str "back"]):=ac
  generalize upd H5 cl (.lst [V.str "else", V.str "fi", V.str "done", V.str "back"])=H6 at s6 e6 ⊢
  have sm6:=sm5.trans s6
  have hf6:=s6 _ _ (s5 _ _ hf)
  have hp6:=s6 _ _ (s5 _ _ hp)
  have hclB:fC (V.str (Txt.join " " (w0::wr))) [V.str "else", V.str "fi", V.str "done", V.str "back"]=cv (w0::wr):=by
   have j1:=dN ho (x := "else") (show 32∉_ by decide)
   have j2:=dN ho (x := "fi") (show 32∉_ by decide)
   have j3:=dN ho (x := "done") (show 32∉_ by decide)
   have j4:=dN ho (x := "back") (show 32∉_ by decide)
   unfold cv
   rw[← decide_eq_decide.mpr j1,← decide_eq_decide.mpr j2,← decide_eq_decide.mpr j3,← decide_eq_decide.mpr j4]
   simp only[fC,List.any_cons,List.any_nil,ej,Bool.or_false,Bool.or_assoc]
   have sw:∀ x:Str,(x == Txt.join " " (w0::wr))=decide (Txt.join " " (w0::wr)=x):=fun x=>by
    by_cases e:Txt.join " " (w0::wr)=x
    ·rw[decide_eq_true e,e]; simp
    ·rw[decide_eq_false e]; exact beq_eq_false_iff_ne.mpr (Ne.symm e)
   rw[sw,sw,sw,sw]
  refine⟨_,.inl (SqL.of e6),rfl,rfl,?_⟩
  rw[hclB]
  refine bh (fun c=>?_) (fun c=>?_)
  ·have hne0:=hpc c
   obtain⟨kv,pl⟩:=s
   obtain⟨h,r,rfl⟩:=List.exists_cons_of_ne_nil hne0
   have hrv:((h::r).reverse.map fun (n:Nat)=>V.int (n:Int))=(r.reverse.map fun (n:Nat)=>V.int (n:Int))++[V.int (h:Int)]:=by rw[List.reverse_cons,List.map_append]; rfl
   have hp6':H6 pp=some (.lst ((r.reverse.map fun (n:Nat)=>V.int (n:Int))++[V.int (h:Int)])):=by rw[← hrv]; exact hp6
   refine⟨⟨_,SqL.of hp6'⟩,_,.int (h:Int),hp6',by simp,?_⟩
   rw[List.dropLast_concat]
   have npf:fd≠pp:=ci hf6 hp6' (fun z=>nomatch z)
   walk_at "nx"
   have hk0:kv.length≤2 * i:=hkl
   refine⟨fd,_,.inl (i:Int),rfl,rfl,by rw[ah npf]; exact hf6,bn (by omega),?_⟩
   walk_at "nx"
   have hk1:=eY kv (.inl (i:Int)) (.int (h:Int))
   have hk2:=eY (aT kv (.inl (i:Int)) (.int (h:Int))) (.inl (h:Int)) (.int (i:Int))
   refine⟨fd,_,.inl (h:Int),rfl,rfl,ac,bn (by omega),?_⟩
   have smX:Same H (upd (upd (upd H6 pp (.lst (r.reverse.map fun (n:Nat)=>V.int (n:Int)))) fd (.dK (aT kv (.inl (i:Int)) (.int (h:Int))))) fd (.dK (aT (aT kv (.inl (i:Int)) (.int (h:Int))) (.inl (h:Int)) (.int (i:Int))))):=((sm6.upd (sA.free hpp) _).upd hfd _).upd hfd _
   have hfX:(upd (upd (upd H6 pp (.lst (r.reverse.map fun (n:Nat)=>V.int (n:Int)))) fd (.dK (aT kv (.inl (i:Int)) (.int (h:Int))))) fd (.dK (aT (aT kv (.inl (i:Int)) (.int (h:Int))) (.inl (h:Int)) (.int (i:Int))))) fd=some (.dK (aT (aT kv (.inl (i:Int)) (.int (h:Int))) (.inl (h:Int)) (.int (i:Int)))):=ac
   have hpX:(upd (upd (upd H6 pp (.lst (r.reverse.map fun (n:Nat)=>V.int (n:Int)))) fd (.dK (aT kv (.inl (i:Int)) (.int (h:Int))))) fd (.dK (aT (aT kv (.inl (i:Int)) (.int (h:Int))) (.inl (h:Int)) (.int (i:Int))))) pp=some (.lst (r.reverse.map fun (n:Nat)=>V.int (n:Int))):=by rw[ah (Ne.symm npf),ah (Ne.symm npf)]; exact ac
   generalize upd (upd (upd H6 pp (.lst (r.reverse.map fun (n:Nat)=>V.int (n:Int)))) fd (.dK (aT kv (.inl (i:Int)) (.int (h:Int))))) fd (.dK (aT (aT kv (.inl (i:Int)) (.int (h:Int))) (.inl (h:Int)) (.int (i:Int))))=HX at smX hfX hpX ⊢
   generalize hkvX:aT (aT kv (.inl (i:Int)) (.int (h:Int))) (.inl (h:Int)) (.int (i:Int))=kvX at hfX hk2
   have hstX:cF i (w0::wr) ⟨kv,h::r⟩=if cr (w0::wr)=true then ⟨kvX,i::r⟩ else ⟨kvX,r⟩:=by
    unfold cF ui; rw[← hkvX]; simp only[c,if_true]
   have hpl':(h::r).length≤i:=hpl
   rw[List.length_cons]at hpl'
   generalize r=plX at *
   walk_at "nx"
   refine⟨_,_,.inl (SqL.of (smX _ _ hlp)),hat,?_⟩
   walk_at "rd1"
   refine bh (fun c1=>?_) (fun c1=>?_)
   ·have hop:cr (w0::wr)=true:=by rw[(dN ho (show 32∉_ by decide)).mp c1]; decide
    refine⟨⟨_,SqL.of hpX⟩,_,hpX,bn (by rw[List.length_map,List.length_reverse]; omega),?_⟩
    refine⟨_,_,_,⟨kvX,i::plX⟩,rfl,smX.upd (sA.free hpp) _,?_,by rw[ah (ci hfX hpX (fun z=>nomatch z))]; exact hfX,by rw[ac,List.reverse_cons,List.map_append]; rfl,by show kvX.length≤2 * (i+1); omega,by show plX.length+1≤i+1; omega⟩
    rw[hstX]; rw[hop]; rfl
   have hne:¬ (w0::wr)=[("else" : Str)]:=fun z=>c1 ((dN ho (show 32∉_ by decide)).mpr z)
   refine⟨_,_,.inl (SqL.of (smX _ _ hlp)),hat,?_⟩
   walk_at "rd1"
   have hhl:=iT w0 wr
   refine⟨aQ (by omega),aQ (by omega),bh (fun c2=>?_) (fun c2=>?_)⟩
   ·have hl1:1<(w0::wr).length:=join_longer.mp (by omega)
    refine⟨by decide,fun q3 hq3=>?_⟩
    have s7:=af hq3 (.lst [V.str "if", V.str "while", V.str "lend"])
    have e7:upd HX q3 (.lst [V.str "if", V.str "while", V.str "lend"]) q3=some (.lst [V.str "if", V.str "while", V.str "lend"]):=ac
    generalize upd HX q3 (.lst [V.str "if", V.str "while", V.str "lend"])=H7 at s7 e7 ⊢
    refine⟨_,.inl (SqL.of e7),rfl,rfl,bh (fun c3=>?_) (fun c3=>?_)⟩
    ·have hop:cr (w0::wr)=true:=by
      have c3':fC (V.str w0) [V.str "if", V.str "while", V.str "lend"]=true:=c3
      simp[fC,ej]at c3'
      unfold cr
      rcases c3' with z | z | z <;> subst z <;> simp at hl1 ⊢ <;> exact .inr hl1
     refine⟨⟨_,SqL.of (s7 _ _ hpX)⟩,_,s7 _ _ hpX,bn (by rw[List.length_map,List.length_reverse]; omega),?_⟩
     refine⟨_,_,_,⟨kvX,i::plX⟩,rfl,(smX.trans s7).upd (sA.free hpp) _,?_,by rw[ah (ci (s7 _ _ hfX) (s7 _ _ hpX) (fun z=>nomatch z))]; exact s7 _ _ hfX,by rw[ac,List.reverse_cons,List.map_append]; rfl,by show kvX.length≤2 * (i+1); omega,by show plX.length+1≤i+1; omega⟩
     rw[hstX]; rw[hop]; rfl
    ·have hop:cr (w0::wr)=false:=by
      have c3':¬ fC (V.str w0) [V.str "if", V.str "while", V.str "lend"]=true:=c3
      simp[fC,ej]at c3'
      obtain⟨y1,y2,y3⟩:=c3'
      unfold cr
      simp[hne,Ne.symm y1,Ne.symm y2,Ne.symm y3]
     exact⟨_,_,_,⟨kvX,plX⟩,rfl,smX.trans s7,by rw[hstX]; rw[hop]; rfl,s7 _ _ hfX,s7 _ _ hpX,by show kvX.length≤2 * (i+1); omega,by show plX.length≤i+1; omega⟩
   ·have hop:cr (w0::wr)=false:=by
     have:¬ 1<(w0::wr).length:=fun z=>c2 (by have:=join_longer.mpr z; omega)
     unfold cr
     simp only[Bool.or_eq_false_iff,Bool.and_eq_false_iff,decide_eq_false_iff_not]
     exact⟨hne,.inl this⟩
    exact⟨_,_,_,⟨kvX,plX⟩,rfl,smX,by rw[hstX]; rw[hop]; rfl,hfX,hpX,by show kvX.length≤2 * (i+1); omega,by show plX.length≤i+1; omega⟩
  ·have hcf:cv (w0::wr)=false:=by simpa using c
   obtain⟨kvX,plX⟩:=s
   have smX:=sm6
   have hfX:H6 fd=some (.dK kvX):=hf6
   have hpX:H6 pp=some (.lst (plX.reverse.map fun (n:Nat)=>V.int (n:Int))):=hp6
   have hpl':plX.length≤i:=hpl
   have hkl':kvX.length≤2 * i:=hkl
   generalize H6=HX at smX hfX hpX ⊢
   have hstX:cF i (w0::wr) ⟨kvX,plX⟩=if cr (w0::wr)=true then ⟨kvX,i::plX⟩ else ⟨kvX,plX⟩:=by
    unfold cF; simp[hcf]
   walk_at "nx"
   refine⟨_,_,.inl (SqL.of (smX _ _ hlp)),hat,?_⟩
   walk_at "rd1"
   refine bh (fun c1=>?_) (fun c1=>?_)
   ·have hop:cr (w0::wr)=true:=by rw[(dN ho (show 32∉_ by decide)).mp c1]; decide
    refine⟨⟨_,SqL.of hpX⟩,_,hpX,bn (by rw[List.length_map,List.length_reverse]; omega),?_⟩
    refine⟨_,_,_,⟨kvX,i::plX⟩,rfl,smX.upd (sA.free hpp) _,?_,by rw[ah (ci hfX hpX (fun z=>nomatch z))]; exact hfX,by rw[ac,List.reverse_cons,List.map_append]; rfl,by show kvX.length≤2 * (i+1); omega,by show plX.length+1≤i+1; omega⟩
    rw[hstX]; rw[hop]; rfl
   have hne:¬ (w0::wr)=[("else" : Str)]:=fun z=>c1 ((dN ho (show 32∉_ by decide)).mpr z)
   refine⟨_,_,.inl (SqL.of (smX _ _ hlp)),hat,?_⟩
   walk_at "rd1"
   have hhl:=iT w0 wr
   refine⟨aQ (by omega),aQ (by omega),bh (fun c2=>?_) (fun c2=>?_)⟩
   ·have hl1:1<(w0::wr).length:=join_longer.mp (by omega)
    refine⟨by decide,fun q3 hq3=>?_⟩
    have s7:=af hq3 (.lst [V.str "if", V.str "while", V.str "lend"])
    have e7:upd HX q3 (.lst [V.str "if", V.str "while", V.str "lend"]) q3=some (.lst [V.str "if", V.str "while", V.str "lend"]):=ac
    generalize upd HX q3 (.lst [V.str "if", V.str "while", V.str "lend"])=H7 at s7 e7 ⊢
    refine⟨_,.inl (SqL.of e7),rfl,rfl,bh (fun c3=>?_) (fun c3=>?_)⟩
    ·have hop:cr (w0::wr)=true:=by
      have c3':fC (V.str w0) [V.str "if", V.str "while", V.str "lend"]=true:=c3
      simp[fC,ej]at c3'
      unfold cr
      rcases c3' with z | z | z <;> subst z <;> simp at hl1 ⊢ <;> exact .inr hl1
     refine⟨⟨_,SqL.of (s7 _ _ hpX)⟩,_,s7 _ _ hpX,bn (by rw[List.length_map,List.length_reverse]; omega),?_⟩
     refine⟨_,_,_,⟨kvX,i::plX⟩,rfl,(smX.trans s7).upd (sA.free hpp) _,?_,by rw[ah (ci (s7 _ _ hfX) (s7 _ _ hpX) (fun z=>nomatch z))]; exact s7 _ _ hfX,by rw[ac,List.reverse_cons,List.map_append]; rfl,by show kvX.length≤2 * (i+1); omega,by show plX.length+1≤i+1; omega⟩
     rw[hstX]; rw[hop]; rfl
    ·have hop:cr (w0::wr)=false:=by
      have c3':¬ fC (V.str w0) [V.str "if", V.str "while", V.str "lend"]=true:=c3
      simp[fC,ej]at c3'
      obtain⟨y1,y2,y3⟩:=c3'
      unfold cr
      simp[hne,Ne.symm y1,Ne.symm y2,Ne.symm y3]
     exact⟨_,_,_,⟨kvX,plX⟩,rfl,smX.trans s7,by rw[hstX]; rw[hop]; rfl,s7 _ _ hfX,s7 _ _ hpX,by show kvX.length≤2 * (i+1); omega,by show plX.length≤i+1; omega⟩
   ·have hop:cr (w0::wr)=false:=by
     have:¬ 1<(w0::wr).length:=fun z=>c2 (by have:=join_longer.mpr z; omega)
     unfold cr
     simp only[Bool.or_eq_false_iff,Bool.and_eq_false_iff,decide_eq_false_iff_not]
     exact⟨hne,.inl this⟩
    exact⟨_,_,_,⟨kvX,plX⟩,rfl,smX,by rw[hstX]; rw[hop]; rfl,hfX,hpX,by show kvX.length≤2 * (i+1); omega,by show plX.length≤i+1; omega⟩
 ·rintro σ H' ⟨o3,o4,o5,s,rfl,sm,hs,hf,hp,hkl,hpl⟩
  rw[List.take_length]at hs
  walk_at "nx"
  exact q fd H' sm (by rw[hf,hs]; rfl)
end
def dR(h:Str)(ws:List Str):Nat:=if ws=[("fi" : Str)] then 0 else if h = "lend" ∨ ws=[("back" : Str)] then 3 else 1
def cR(ws:List Str):Nat:=dR (ws.headD "") ws
def aI(W:List (List Str))(i:Nat):Nat:=((W.take i).map cR).sum
def jg(x:Str):Int:=(PySem.intText? x).getD 0
def aM(ws:List Str):List Str:=if ws.headD "" ∈ (["open", "copy", "drop", "tie", "lend"]:List Str) then ws.drop 1 else if ws.headD "" = "do" then ws.drop 2 else []
def fI(kv:List (aB × V))(n:Str):List (aB × V):=if (aK kv (.inr n)).isSome=true then kv else aT kv (.inr n) (iN kv.length)
def cn(l:List Str)(kv:List (aB × V)):List (aB × V):=l.foldl fI kv
section
variable(W:List (List Str))(pt:Nat→Nat)(fs:Nat→Nat)(sl:Str→V)(lent:Nat→V)
def cX(i:Nat)(h:Str)(ws:List Str):List cD:=
 if h = "lend" then [[.str "copy", iN i,lent i,sl (ws.getD 1 "")],[.str "do", iN i,lent i,.str "lend"],[.str "copy", iN i,sl (ws.getD 2 ""),lent i]]
 else if h = "back" then [[.str "do", iN i,lent i,.str "back"],[.str "drop", iN i,sl ((W.getD (pt i) []).getD 2 "")],[.str "drop", iN i,lent i]]
 else if h = "if" ∨ h = "while" then [[.str "test", iN i,.int (jg (ws.getD 1 "")),iN (fs (pt i+1))]]
 else if h = "else" then [[.str "jump", iN i,iN (fs (pt i))]]
 else if h = "done" then [[.str "jump", iN i,iN (fs (pt i))]]
 else if h = "fi" then []
 else if h = "do" then [[.str "do", iN i,sl (ws.getD 2 ""),.str (ws.getD 1 "")]]
 else [.str (h)::iN i::(ws.drop 1).map sl]
def bD(i:Nat)(ws:List Str):List cD:=cX W pt fs sl lent i (ws.headD "") ws
def cf:Nat→List (List Str)→List cD
 | _,[]=>[]
 | l,ws::X=>bD W pt fs sl lent l ws++cf (l+1) X
theorem da:∀ (X Y:List (List Str)) (l:Nat),cf W pt fs sl lent l (X++Y)=cf W pt fs sl lent l X++cf W pt fs sl lent (l+X.length) Y
 | [],Y,l=>rfl
 | x::X,Y,l=>by
  show bD W pt fs sl lent l x++cf W pt fs sl lent (l+1) (X++Y)=(bD W pt fs sl lent l x++cf W pt fs sl lent (l+1) X)++_
  rw[da X Y,List.append_assoc,List.length_cons,show l+1+X.length=l+(X.length+1) by omega]
end
theorem ft{W:List (List Str)}{l:Nat}{ws:List Str}(h:W[l]? = some ws):aI W (l+1)=aI W l+cR ws:=by
 unfold aI
 rw[List.take_add_one,h]
 simp
theorem h9{W:List (List Str)}:∀ (X:List (List Str)) (l:Nat),StandsAt W X l→aI W (l+X.length)=aI W l+(X.map cR).sum
 | [],l,_=>by simp
 | x::X,l,h=>by
  have:=h9 X (l+1) h.tail
  rw[ft h.head]at this
  rw[List.length_cons,show l+(X.length+1)=l+1+X.length by omega,this,List.map_cons,List.sum_cons]; omega
structure tq (W:List (List Str)) (kvp:List (aB × V)) (NM:List Str) (kv:List (aB × V)) (pt:Nat→Nat) (sl:Str→V) (lent:Nat→V):Prop where
 hpt:∀ i j:Nat,aK kvp (.inl (i:Int))=some (.int (j:Int))→pt i=j
 hsl:∀ n∈NM,sl n=aX kv (.inr n)
 hl1:∀ (l:Nat) (x y:Str),W[l]? = some [("lend" : Str),x,y]→lent l=aX kv (.inl (l:Int))
 hl2:∀ (i j:Nat) (x y:Str),W[i]? = some [("back" : Str)]→pt i=j→W[j]? = some [("lend" : Str),x,y]→lent i=aX kv (.inl (j:Int))
section
variable{W:List (List Str)}{kvp:List (aB × V)}{NM:List Str}{kv:List (aB × V)}{pt:Nat→Nat}{sl:Str→V}{lent:Nat→V}
theorem eS{l:Nat}{h:Str}{r:List Str}{fs:Nat→Nat}(hh:h∉(["lend", "back", "if", "while", "else", "done", "fi", "do"]:List Str)):bD W pt fs sl lent l (h::r)=[.str h::iN l::r.map sl]:=by
 simp only[List.mem_cons,List.not_mem_nil,or_false,not_or]at hh
 obtain⟨h1,h2,h3,h4,h5,h6,h7,h8⟩:=hh
 show cX W pt _ sl lent l h _=_
 unfold cX
 rw[if_neg h1,if_neg h2,if_neg (fun z=>z.elim h3 h4),if_neg h5,if_neg h6,if_neg h7,if_neg h8]
 rfl
theorem cj{h:Str}{r:List Str}(hh:h∉(["lend", "back", "fi"]:List Str)):cR (h::r)=1:=by
 simp only[List.mem_cons,List.not_mem_nil,or_false,not_or]at hh
 obtain⟨h1,h2,h3⟩:=hh
 show dR h (h::r)=1
 unfold dR
 rw[if_neg (fun z=>h3 (List.cons.inj z).1),if_neg (fun z=>z.elim (fun z=>h1 z) (fun z=>h2 (List.cons.inj z).1))]
theorem uf(I:tq W kvp NM kv pt sl lent){l:Nat}{ws:List Str}(px:dB ws)(hn:∀ n∈b8 ws,n∈NM):bD W pt (aI W) sl lent l ws=[dY kv l ws]∧cR ws=1:=by
 have hs:(b8 ws).map sl=(b8 ws).map fun n=>aX kv (.inr n):=List.map_congr_left fun n hn'=>I.hsl n (hn n hn')
 cases px with
 | op x=>
  unfold dY
  rw[eS (by decide +kernel),cj (by decide +kernel),if_neg (show ¬ [("open" : Str),x].headD "" = "do" by show ¬ ("open" : Str) = "do"; decide +kernel)]
  unfold b8 at hs
  rw[if_neg (show ¬ [("open" : Str),x].headD "" = "do" by show ¬ ("open" : Str) = "do"; decide +kernel)]at hs
  exact⟨by rw[← hs]; rfl,rfl⟩
 | dr x=>
  unfold dY
  rw[eS (by decide +kernel),cj (by decide +kernel),if_neg (show ¬ [("drop" : Str),x].headD "" = "do" by show ¬ ("drop" : Str) = "do"; decide +kernel)]
  unfold b8 at hs
  rw[if_neg (show ¬ [("drop" : Str),x].headD "" = "do" by show ¬ ("drop" : Str) = "do"; decide +kernel)]at hs
  exact⟨by rw[← hs]; rfl,rfl⟩
 | cp x y=>
  unfold dY
  rw[eS (by decide +kernel),cj (by decide +kernel),if_neg (show ¬ [("copy" : Str),x,y].headD "" = "do" by show ¬ ("copy" : Str) = "do"; decide +kernel)]
  unfold b8 at hs
  rw[if_neg (show ¬ [("copy" : Str),x,y].headD "" = "do" by show ¬ ("copy" : Str) = "do"; decide +kernel)]at hs
  exact⟨by rw[← hs]; rfl,rfl⟩
 | ti x y=>
  unfold dY
  rw[eS (by decide +kernel),cj (by decide +kernel),if_neg (show ¬ [("tie" : Str),x,y].headD "" = "do" by show ¬ ("tie" : Str) = "do"; decide +kernel)]
  unfold b8 at hs
  rw[if_neg (show ¬ [("tie" : Str),x,y].headD "" = "do" by show ¬ ("tie" : Str) = "do"; decide +kernel)]at hs
  exact⟨by rw[← hs]; rfl,rfl⟩
 | dd u x=>
  unfold dY
  rw[cj (by decide +kernel),if_pos (show [("do" : Str),u,x].headD "" = "do" from rfl)]
  unfold b8 at hs
  rw[if_pos (show [("do" : Str),u,x].headD "" = "do" from rfl)]at hs
  have hx:sl x=aX kv (.inr x):=by simpa using hs
  refine⟨?_,rfl⟩
  show cX W pt _ sl lent l "do" _=_
  unfold cX
  rw[if_neg (show ¬ ("do" : Str) = "lend" by decide +kernel),if_neg (show ¬ ("do" : Str) = "back" by decide +kernel),if_neg (show ¬ (("do" : Str) = "if" ∨ ("do" : Str) = "while") by decide +kernel),if_neg (show ¬ ("do" : Str) = "else" by decide +kernel),if_neg (show ¬ ("do" : Str) = "done" by decide +kernel),if_neg (show ¬ ("do" : Str) = "fi" by decide +kernel),if_pos (show ("do" : Str) = "do" from rfl)]
  show [[V.str "do", iN l,sl x,V.str u]]=_
  rw[hx]; rfl
theorem ip{l:Nat}{x y:Str}{fs:Nat→Nat}:bD W pt fs sl lent l ["lend", x,y]=[[.str "copy", iN l,lent l,sl x],[.str "do", iN l,lent l,.str "lend"],[.str "copy", iN l,sl y,lent l]]:=by
 show cX W pt _ sl lent l "lend" _=_; unfold cX; rw[if_pos rfl]; rfl
theorem iC{l:Nat}{fs:Nat→Nat}:bD W pt fs sl lent l ["back"]=[[.str "do", iN l,lent l,.str "back"],[.str "drop", iN l,sl ((W.getD (pt l) []).getD 2 "")],[.str "drop", iN l,lent l]]:=by
 show cX W pt _ sl lent l "back" _=_; unfold cX; rw[if_neg (show ¬ ("back" : Str) = "lend" by decide +kernel),if_pos rfl]
theorem gh{l:Nat}{h x:Str}{fs:Nat→Nat}(hh:h = "if" ∨ h = "while"):bD W pt fs sl lent l [h,x]=[[.str "test", iN l,.int (jg x),iN (fs (pt l+1))]]:=by
 show cX W pt _ sl lent l h _=_
 unfold cX
 have h1:¬ h = "lend" := by rcases hh with rfl | rfl <;> decide +kernel
 have h2:¬ h = "back" := by rcases hh with rfl | rfl <;> decide +kernel
 rw[if_neg h1,if_neg h2,if_pos hh]; rfl
theorem gi{l:Nat}{h:Str}{fs:Nat→Nat}(hh:h = "else" ∨ h = "done"):bD W pt fs sl lent l [h]=[[.str "jump", iN l,iN (fs (pt l))]]:=by
 show cX W pt _ sl lent l h _=_
 unfold cX
 rcases hh with rfl | rfl
 ·rw[if_neg (show ¬ ("else" : Str) = "lend" by decide +kernel),if_neg (show ¬ ("else" : Str) = "back" by decide +kernel),if_neg (show ¬ (("else" : Str) = "if" ∨ ("else" : Str) = "while") by decide +kernel),if_pos rfl]
 ·rw[if_neg (show ¬ ("done" : Str) = "lend" by decide +kernel),if_neg (show ¬ ("done" : Str) = "back" by decide +kernel),if_neg (show ¬ (("done" : Str) = "if" ∨ ("done" : Str) = "while") by decide +kernel),if_neg (show ¬ ("done" : Str) = "else" by decide +kernel),if_pos rfl]
theorem j5{l:Nat}{fs:Nat→Nat}:bD W pt fs sl lent l ["fi"]=[]:=by
 show cX W pt _ sl lent l "fi" _=_
 unfold cX
 rw[if_neg (show ¬ ("fi" : Str) = "lend" by decide +kernel),if_neg (show ¬ ("fi" : Str) = "back" by decide +kernel),if_neg (show ¬ (("fi" : Str) = "if" ∨ ("fi" : Str) = "while") by decide +kernel),if_neg (show ¬ ("fi" : Str) = "else" by decide +kernel),if_neg (show ¬ ("fi" : Str) = "done" by decide +kernel),if_pos rfl]
theorem mS{x y:Str}:cR ["lend", x,y]=3:=by
 show dR "lend" _=_; unfold dR; rw[if_neg (by simp),if_pos (.inl rfl)]
theorem vx:cR ["back"]=3:=by
 show dR "back" _=_; unfold dR; rw[if_neg (by decide +kernel),if_pos (.inr rfl)]
theorem jF:cR ["fi"]=0:=by
 show dR "fi" _=_; unfold dR; rw[if_pos rfl]
theorem w4(I:tq W kvp NM kv pt sl lent){d:Nat}{fi:List Stp→Prop}{nm:List Stp→Prop}(hw:∀ b,(aU d b).length=ak d b)
  (ih:∀ l b,StandsAt W (aU d b) l→eO d l b kvp→fi b→nm b→cf W pt (aI W) sl lent l (aU d b)=bf kv d false (aI W l) l b∧(bf kv d false (aI W l) l b).length=((aU d b).map cR).sum) :
  ∀ (s:Stp) (l:Nat),StandsAt W (cQ (aU d) s) l→gk (ak d) (eO d) l kvp s→fE fi s→mG nm (fun n=>n∈NM) s→
   cf W pt (aI W) sl lent l (cQ (aU d) s)=fX kv (bf kv d) (ak d) false (aI W l) l s∧(fX kv (bf kv d) (ak d) false (aI W l) l s).length=((cQ (aU d) s).map cR).sum
 | .plain ws,l,hS,hp,⟨px,_⟩,⟨_,hn⟩=>by
  obtain⟨h1,h2⟩:=uf I (l:=l) px hn
  refine⟨?_,?_⟩
  ·show bD W pt (aI W) sl lent l ws++[]=[dY kv l ws]
   rw[h1]; rfl
  ·show 1=([ws].map cR).sum
   simp[h2]
 | .lend x y b,l,hS,⟨p1,p2,p3⟩,⟨_,_,fb⟩,⟨nx,ny,nb⟩=>by
  have hS':StandsAt W ([("lend" : Str),x,y]::(aU d b++[[("back" : Str)]])) l:=hS
  have e0:=hS'.head
  have hb:=hS'.tail.left
  have e1:=hS'.tail.right.head
  rw[hw b]at e1
  have f1:aI W (l+1)=aI W l+3:=by rw[ft e0,mS]
  obtain⟨i1,i2⟩:=ih (l+1) b hb p3 fb nb
  rw[f1]at i1 i2
  have hpt:=I.hpt _ _ p1
  have ho:(W.getD (pt (l+1+ak d b)) []).getD 2 "" = y:=by rw[hpt,show W.getD l []=[("lend" : Str),x,y] by rw[List.getD_eq_getElem?_getD,e0]; rfl]; rfl
  refine⟨?_,?_⟩
  ·show bD W pt (aI W) sl lent l ["lend", x,y]++cf W pt (aI W) sl lent (l+1) (aU d b++[[("back" : Str)]])=fF kv (bf kv d) (ak d) false (aI W l) l x y b
   rw[da,i1,hw b,ip]
   show _++(_++(bD W pt (aI W) sl lent (l+1+ak d b) ["back"]++[]))=_
   rw[iC,ho,I.hl1 l x y e0,I.hl2 _ l x y e1 hpt e0,I.hsl x nx,I.hsl y ny,List.append_nil,← List.append_assoc]
   rfl
  ·show (fF kv (bf kv d) (ak d) false (aI W l) l x y b).length=(([("lend" : Str),x,y]::(aU d b++[[("back" : Str)]])).map cR).sum
   unfold fF
   simp only[List.length_append,List.length_cons,List.length_nil,List.map_cons,List.map_append,List.sum_cons,List.sum_append,List.map_nil,List.sum_nil,i2]
   rw[mS,vx]; omega
 | .ite n b c,l,hS,⟨⟨p1,p2⟩,p3,p4⟩,⟨hn,fb,fc⟩,⟨nb,nc⟩=>by
  have hS':StandsAt W ([("if" : Str),bI n]::(aU d b++[[("else" : Str)]]++(aU d c++[[("fi" : Str)]]))) l:=hS
  have e0:=hS'.head
  have hb:=hS'.tail.left.left
  have e1:=hS'.tail.left.right.head
  rw[hw b]at e1
  have hc:=hS'.tail.right.left
  have hlen:l+1+(aU d b++[[("else" : Str)]]).length=l+1+ak d b+1:=by rw[List.length_append,hw b]; rfl
  rw[hlen]at hc
  have f1:aI W (l+1)=aI W l+1:=by rw[ft e0,cj (by decide +kernel)]
  obtain⟨i1,i2⟩:=ih (l+1) b hb p3 fb nb
  have f2:=h9 _ _ hb
  rw[hw b,← i2]at f2
  have f3:aI W (l+1+ak d b+1)=aI W l+1+(bf kv d false (aI W (l+1)) (l+1) b).length+1:=by rw[ft e1,cj (by decide +kernel),f2,f1]
  obtain⟨j1,j2⟩:=ih (l+1+ak d b+1) c hc p4 fc nc
  have f4:=h9 _ _ hc
  rw[hw c,← j2]at f4
  have q1:=I.hpt _ _ p1
  have q2:=I.hpt _ _ p2
  have hnum:jg (bI n)=n:=by unfold jg bI; rw[(ke hn).1]; rfl
  refine⟨?_,?_⟩
  ·show bD W pt (aI W) sl lent l ["if", bI n]++cf W pt (aI W) sl lent (l+1) (aU d b++[[("else" : Str)]]++(aU d c++[[("fi" : Str)]]))=iL (bf kv d) (ak d) false (aI W l) l n b c
   rw[da,da,da,hlen,hw b,hw c,gh (.inl rfl),i1,j1,hnum,q1]
   show _++(_++(bD W pt (aI W) sl lent (l+1+ak d b) ["else"]++[])++(_++(bD W pt (aI W) sl lent (l+1+ak d b+1+ak d c) ["fi"]++[])))=_
   rw[gi (.inl rfl),j5,q2,f4,f3,f1]
   unfold iL
   simp only[List.append_nil,List.append_assoc]
  ·show (iL (bf kv d) (ak d) false (aI W l) l n b c).length=(([("if" : Str),bI n]::(aU d b++[[("else" : Str)]]++(aU d c++[[("fi" : Str)]]))).map cR).sum
   rw[f1]at i2
   rw[f3,f1]at j2
   unfold iL
   simp only[List.length_append,List.length_cons,List.length_nil,List.map_cons,List.map_append,List.sum_cons,List.sum_append,List.map_nil,List.sum_nil,← i2,← j2]
   rw[cj (by decide +kernel),cj (by decide +kernel),jF]; omega
 | .whl n b,l,hS,⟨⟨p1,p2⟩,p3⟩,⟨hn,fb⟩,nb=>by
  have hS':StandsAt W ([("while" : Str),bI n]::(aU d b++[[("done" : Str)]])) l:=hS
  have e0:=hS'.head
  have hb:=hS'.tail.left
  have e1:=hS'.tail.right.head
  rw[hw b]at e1
  have f1:aI W (l+1)=aI W l+1:=by rw[ft e0,cj (by decide +kernel)]
  obtain⟨i1,i2⟩:=ih (l+1) b hb p3 fb nb
  have f2:=h9 _ _ hb
  rw[hw b,← i2]at f2
  have f3:aI W (l+1+ak d b+1)=aI W l+1+(bf kv d false (aI W (l+1)) (l+1) b).length+1:=by rw[ft e1,cj (by decide +kernel),f2,f1]
  have q1:=I.hpt _ _ p1
  have q2:=I.hpt _ _ p2
  have hnum:jg (bI n)=n:=by unfold jg bI; rw[(ke hn).1]; rfl
  refine⟨?_,?_⟩
  ·show bD W pt (aI W) sl lent l ["while", bI n]++cf W pt (aI W) sl lent (l+1) (aU d b++[[("done" : Str)]])=dJ (bf kv d) (ak d) false (aI W l) l n b
   rw[da,hw b,gh (.inr rfl),i1,hnum,q2]
   show _++(_++(bD W pt (aI W) sl lent (l+1+ak d b) ["done"]++[]))=_
   rw[gi (.inr rfl),q1,f3,f1]
   unfold dJ fU
   rw[if_neg (by decide)]
   simp only[List.append_nil,List.append_assoc]
  ·show (dJ (bf kv d) (ak d) false (aI W l) l n b).length=(([("while" : Str),bI n]::(aU d b++[[("done" : Str)]])).map cR).sum
   rw[f1]at i2
   unfold dJ
   rw[if_neg (by decide),iI]
   simp only[List.length_append,List.length_cons,List.length_nil,List.map_cons,List.map_append,List.sum_cons,List.sum_append,List.map_nil,List.sum_nil,← i2]
   rw[cj (by decide +kernel),cj (by decide +kernel)]; omega
theorem rV(I:tq W kvp NM kv pt sl lent):∀ (d l:Nat) (T:List Stp),StandsAt W (aU d T) l→eO d l T kvp→cy d T→gY (fun n=>n∈NM) d T→cf W pt (aI W) sl lent l (aU d T)=bf kv d false (aI W l) l T∧(bf kv d false (aI W l) l T).length=((aU d T).map cR).sum
 | 0,_,_,_,_,h,_=>h.elim
 | d+1,l,T,hS,hp,hf,hn=>by
  have st:=w4 I (d:=d) (fi:=cy d) (nm:=gY (fun n=>n∈NM) d) (cS d) (fun l b h1 h2 h3 h4=>rV I d l b h1 h2 h3 h4)
  have go:∀ (T:List Stp) (l:Nat),StandsAt W (T.flatMap (cQ (aU d))) l→(∀ z∈dM (bi (ak d)) l T,gk (ak d) (eO d) z.1 kvp z.2)→(∀ s∈T,fE (cy d) s)→(∀ s∈T,mG (gY (fun n=>n∈NM) d) (fun n=>n∈NM) s)→
    cf W pt (aI W) sl lent l (T.flatMap (cQ (aU d)))=cZ (fX kv (bf kv d) (ak d) false) (bi (ak d)) (aI W l) l T∧(cZ (fX kv (bf kv d) (ak d) false) (bi (ak d)) (aI W l) l T).length=((T.flatMap (cQ (aU d))).map cR).sum:=fun T=>by
   induction T with
   | nil=>intro l _ _ _ _; exact⟨rfl,rfl⟩
   | cons s T ihT=>
    intro l hS hp hf hn
    rw[List.flatMap_cons]at hS ⊢
    obtain⟨a1,a2⟩:=st s l hS.left (hp _ List.mem_cons_self) (hf s List.mem_cons_self) (hn s List.mem_cons_self)
    have hr:=hS.right
    have f2:=h9 _ _ hS.left
    rw[gv (cS d) s]at hr f2
    rw[← a2]at f2
    obtain⟨b1,b2⟩:=ihT (l+bi (ak d) s) hr (fun z hz=>hp z (List.mem_cons_of_mem _ hz)) (fun s hs=>hf s (List.mem_cons_of_mem _ hs)) (fun s hs=>hn s (List.mem_cons_of_mem _ hs))
    rw[f2]at b1 b2
    refine⟨?_,?_⟩
    ·rw[da,gv (cS d) s,a1,b1]; rfl
    ·show (fX kv (bf kv d) (ak d) false (aI W l) l s++cZ _ _ _ _ T).length=_
     rw[List.length_append,b2,a2,List.map_append,List.sum_append]
  exact go T l hS hp hf hn
end
def oF(kv:List (aB × V))(NM:List Str):Prop:=kv.length=NM.length∧∀ n,aK kv (.inr n)=if n∈NM then some (iN (NM.idxOf n)) else none
theorem yX{kv:List (aB × V)}{NM:List Str}(h:oF kv NM)(x:Str):oF (fI kv x) (eX NM x):=by
 obtain⟨h1,h2⟩:=h
 unfold fI eX
 by_cases c:x∈NM
 ·rw[if_pos c,if_pos (by rw[h2 x,if_pos c]; rfl)]; exact⟨h1,h2⟩
 ·have hx:aK kv (.inr x)=none:=by rw[h2 x,if_neg c]
  rw[if_neg c,if_neg (by rw[hx]; simp)]
  refine⟨by rw[xm _ hx,List.length_append,List.length_append,h1]; rfl,fun n=>?_⟩
  rw[dC,h2 n,h1]
  by_cases e:n=x
  ·subst e
   rw[if_pos rfl,if_pos (List.mem_append_right _ List.mem_cons_self),List.idxOf_append,if_neg c]
   simp
  ·rw[if_neg (fun z=>e (Sum.inr.inj z))]
   by_cases m:n∈NM
   ·rw[if_pos m,if_pos (List.mem_append_left _ m),List.idxOf_append,if_pos m]
   ·rw[if_neg m,if_neg (fun z=>(List.mem_append.mp z).elim m (fun z=>e (List.mem_singleton.mp z)))]
theorem qT:∀ (l:List Str) {kv:List (aB × V)} {NM:List Str},oF kv NM→oF (cn l kv) (l.foldl eX NM)
 | [],_,_,h=>h
 | x::l,_,_,h=>qT l (yX h x)
theorem lh(l:List Str):oF (cn l []) (db l):=qT l ⟨rfl,fun n=>by rw[if_neg (by simp)]; rfl⟩
theorem vz(l:List Str):(db l).Nodup:=by
 unfold db
 have go:∀ (l acc:List Str),acc.Nodup→(l.foldl eX acc).Nodup:=fun l=>by
  induction l with
  | nil=>intro acc h; exact h
  | cons x l ih=>
   intro acc h
   refine ih _ ?_
   unfold eX
   split
   ·exact h
   ·rename_i c
    rw[List.nodup_append]
    exact⟨h,by simp,fun a ha b hb=>by rw[List.mem_singleton.mp hb]; exact fun z=>c (z ▸ ha)⟩
 exact go l [] List.nodup_nil
theorem rO{ks:List aB}(hn:ks.Nodup):∀ (i j:Nat) k,j<i→i≤ks.length→ks[j]? = some k→aK (gf ks i) k=some (iN j)
 | 0,j,_,h,_,_=>absurd h (Nat.not_lt_zero _)
 | i+1,j,k,h,hi,hk=>by
  rw[gR,dC]
  have hil:i<ks.length:=by omega
  have e:ks.getD i (.inl 0)=ks[i]:=by rw[List.getD_eq_getElem?_getD,List.getElem?_eq_getElem hil]; rfl
  rw[e]
  obtain⟨hjl,hk'⟩:=List.getElem?_eq_some_iff.mp hk
  rcases Nat.lt_or_ge j i with z | z
  ·rw[if_neg (fun c=>by rw[← hk']at c; exact List.pairwise_iff_getElem.mp hn j i hjl hil z c)]
   exact rO hn i j k z (by omega) hk
  ·have:j=i:=by omega
   subst this
   rw[if_pos hk'.symm]
theorem vZ{ks:List aB}(hn:ks.Nodup){j:Nat}{k:aB}(h:ks[j]? = some k):aX (ii ks) k=iN j:=by
 have:=rO hn ks.length j k (List.getElem?_eq_some_iff.mp h).1 (Nat.le_refl _) h
 show aX (gf ks ks.length) k=_
 unfold aX
 rw[this]; rfl
theorem qz(L:List Str):(dG L).Nodup:=List.Nodup.sublist List.filter_sublist List.nodup_range
theorem kB{NM L:List Str}(hn:NM.Nodup):(cC NM L).Nodup:=by
 unfold cC
 rw[List.nodup_append]
 refine⟨List.pairwise_map.mpr (List.Pairwise.imp (fun h e=>h (Sum.inr.inj e)) hn),List.pairwise_map.mpr (List.Pairwise.imp (fun h e=>h (by have:=Sum.inl.inj e; omega)) (qz L)),fun a ha b hb=>?_⟩
 obtain⟨x,_,rfl⟩:=List.mem_map.mp ha
 obtain⟨y,_,rfl⟩:=List.mem_map.mp hb
 exact fun z=>nomatch z
theorem vf{NM L:List Str}(hn:NM.Nodup){n:Str}(h:n∈NM):aX (ii (cC NM L)) (.inr n)=iN (NM.idxOf n):=by
 refine vZ (kB hn) ?_
 have hl:=List.idxOf_lt_length_iff.mpr h
 unfold cC
 rw[List.getElem?_append_left (by rw[List.length_map]; exact hl),List.getElem?_map,List.getElem?_eq_getElem hl,List.getElem_idxOf hl]; rfl
theorem mQ{NM L:List Str}(hn:NM.Nodup){l:Nat}(h:l∈dG L):aX (ii (cC NM L)) (.inl (l:Int))=iN (NM.length+(dG L).idxOf l):=by
 refine vZ (kB hn) ?_
 have hl:=List.idxOf_lt_length_iff.mpr h
 unfold cC
 rw[List.getElem?_append_right (by rw[List.length_map]; omega),List.length_map,Nat.add_sub_cancel_left,List.getElem?_map,List.getElem?_eq_getElem hl,List.getElem_idxOf hl]; rfl
theorem nh{ws:List Str}(px:dB ws):aM ws=bx (.plain ws):=by
 cases px with
 | op x=>unfold aM; simp only[bx]; rw[if_pos (by show ("open" : Str)∈_; decide +kernel),if_neg (by show ¬ ("open" : Str) = "do"; decide +kernel)]
 | dr x=>unfold aM; simp only[bx]; rw[if_pos (by show ("drop" : Str)∈_; decide +kernel),if_neg (by show ¬ ("drop" : Str) = "do"; decide +kernel)]
 | cp x y=>unfold aM; simp only[bx]; rw[if_pos (by show ("copy" : Str)∈_; decide +kernel),if_neg (by show ¬ ("copy" : Str) = "do"; decide +kernel)]
 | ti x y=>unfold aM; simp only[bx]; rw[if_pos (by show ("tie" : Str)∈_; decide +kernel),if_neg (by show ¬ ("tie" : Str) = "do"; decide +kernel)]
 | dd u x=>unfold aM; simp only[bx]; rw[if_neg (by show ¬ ("do" : Str)∈_; decide +kernel),if_pos (by rfl),if_pos (by rfl)]
theorem qh(x y:Str):aM ["lend", x,y]=[x,y]:=by
 unfold aM; rw[if_pos (by show ("lend" : Str)∈_; decide +kernel)]; rfl
theorem eT{h:Str}{r:List Str}(hh:h∉(["open", "copy", "drop", "tie", "lend", "do"]:List Str)):aM (h::r)=[]:=by
 unfold aM
 rw[if_neg (by show ¬ h∈_; intro z; refine hh ?_; simp only[List.mem_cons,List.not_mem_nil,or_false]at z ⊢; rcases z with z | z | z | z | z <;> simp[z]),if_neg (by show ¬ h=_; intro z; subst z; exact hh (by simp))]
theorem Bg{f:List Stp→List (List Str)}{g:List Stp→List Stp}{p:List Stp→Prop}(h:∀ b,p b→(f b).flatMap aM=(g b).flatMap bx):∀ (s:Stp),fE p s→(cQ f s).flatMap aM=(eV g s).flatMap bx
 | .plain ws,⟨px,_⟩=>by
  show [ws].flatMap aM=[Stp.plain ws].flatMap bx
  rw[List.flatMap_singleton,List.flatMap_singleton,nh px]
 | .lend x y b,⟨_,_,hb⟩=>by
  show ([("lend" : Str),x,y]::(f b++[[("back" : Str)]])).flatMap aM=(Stp.lend x y b::[b].flatMap g).flatMap bx
  rw[List.flatMap_cons,List.flatMap_append,List.flatMap_singleton,List.flatMap_cons,List.flatMap_singleton,h b hb,qh,eT (by decide +kernel),List.append_nil]; rfl
 | .ite n b c,⟨_,hb,hc⟩=>by
  show ([("if" : Str),bI n]::(f b++[[("else" : Str)]]++(f c++[[("fi" : Str)]]))).flatMap aM=(Stp.ite n b c::[b,c].flatMap g).flatMap bx
  rw[List.flatMap_cons,List.flatMap_append,List.flatMap_append,List.flatMap_append,List.flatMap_singleton,List.flatMap_singleton,List.flatMap_cons,List.flatMap_cons,List.flatMap_singleton,List.flatMap_append,h b hb,h c hc,eT (by decide +kernel),eT (by decide +kernel),eT (by decide +kernel),List.append_nil,List.append_nil]; rfl
 | .whl n b,⟨_,hb⟩=>by
  show ([("while" : Str),bI n]::(f b++[[("done" : Str)]])).flatMap aM=(Stp.whl n b::[b].flatMap g).flatMap bx
  rw[List.flatMap_cons,List.flatMap_append,List.flatMap_singleton,List.flatMap_cons,List.flatMap_singleton,h b hb,eT (by decide +kernel),eT (by decide +kernel),List.append_nil]; rfl
theorem eZ:∀ (d:Nat) (T:List Stp),cy d T→(aU d T).flatMap aM=(bW d T).flatMap bx
 | 0,_,h=>h.elim
 | d+1,T,h=>by
  show (T.flatMap (cQ (aU d))).flatMap aM=(T.flatMap (eV (bW d))).flatMap bx
  rw[List.flatMap_assoc,List.flatMap_assoc]
  induction T with
  | nil=>rfl
  | cons s T ih=>rw[List.flatMap_cons,List.flatMap_cons,Bg (fun b z=>eZ d b z) s (h s List.mem_cons_self),ih fun u hu=>h u (List.mem_cons_of_mem _ hu)]
theorem uU{f g:List Stp→Prop}(h:∀ b,f b→g b):∀ {s:Stp},fE f s→fD g s
 | .plain ws,⟨px,_⟩=>by
  show fA ws
  cases px with
  | op x=>exact .opn x
  | dr x=>exact .drp x
  | dd u x=>exact .doo u x
  | cp x y=>exact .cpy x y
  | ti x y=>exact .tie x y
 | .lend _ _ _,z=>h _ z.2.2
 | .ite _ _ _,z=>⟨h _ z.2.1,h _ z.2.2⟩
 | .whl _ _,z=>h _ z.2
theorem gJ:∀ {d:Nat} {T:List Stp},cy d T→jn d T
 | 0,_,h=>h
 | _+1,_,h=>fun s hs=>uU (fun _ z=>gJ z) (h s hs)
def kF(ws:List Str):Prop:=ws.headD "" = "lend" → ∃ x y,ws=[("lend" : Str),x,y]
theorem Av{f:List Stp→List (List Str)}{p:List Stp→Prop}(h:∀ b,p b→∀ ws∈f b,kF ws):∀ (s:Stp),fE p s→∀ ws∈cQ f s,kF ws
 | .plain us,⟨px,_⟩,ws,hw=>by
  have e:ws=us:=by simpa [cQ] using hw
  subst e
  intro z
  exfalso
  cases px with
  | op x=>exact absurd z (show ¬ ("open" : Str)=_ by decide +kernel)
  | dr x=>exact absurd z (show ¬ ("drop" : Str)=_ by decide +kernel)
  | dd u x=>exact absurd z (show ¬ ("do" : Str)=_ by decide +kernel)
  | cp x y=>exact absurd z (show ¬ ("copy" : Str)=_ by decide +kernel)
  | ti x y=>exact absurd z (show ¬ ("tie" : Str)=_ by decide +kernel)
 | .lend x y b,⟨_,_,hb⟩,ws,hw=>by
  simp only[cQ,List.mem_cons,List.mem_append,List.not_mem_nil,or_false]at hw
  rcases hw with rfl | hw | rfl
  ·exact fun _=>⟨x,y,rfl⟩
  ·exact h b hb ws hw
  ·exact fun z=>absurd z (show ¬ ("back" : Str)=_ by decide +kernel)
 | .ite n b c,⟨_,hb,hc⟩,ws,hw=>by
  simp only[cQ,List.mem_cons,List.mem_append,List.not_mem_nil,or_false]at hw
  rcases hw with rfl | (hw | rfl) | hw | rfl
  ·exact fun z=>absurd z (show ¬ ("if" : Str)=_ by decide +kernel)
  ·exact h b hb ws hw
  ·exact fun z=>absurd z (show ¬ ("else" : Str)=_ by decide +kernel)
  ·exact h c hc ws hw
  ·exact fun z=>absurd z (show ¬ ("fi" : Str)=_ by decide +kernel)
 | .whl n b,⟨_,hb⟩,ws,hw=>by
  simp only[cQ,List.mem_cons,List.mem_append,List.not_mem_nil,or_false]at hw
  rcases hw with rfl | hw | rfl
  ·exact fun z=>absurd z (show ¬ ("while" : Str)=_ by decide +kernel)
  ·exact h b hb ws hw
  ·exact fun z=>absurd z (show ¬ ("done" : Str)=_ by decide +kernel)
theorem pz:∀ {d:Nat} {T:List Stp},cy d T→∀ ws∈aU d T,kF ws
 | 0,_,h,_,_=>h.elim
 | d+1,T,h,ws,hw=>by
  obtain⟨s,hs,hw⟩:=List.mem_flatMap.mp hw
  exact Av (fun b z=>pz z) s (h s hs) ws hw
theorem qv{ws:List Str}(o:WOk ws)(h:kF ws):fW (Txt.join " " ws)=decide (ws.headD "" = "lend"):=by
 by_cases c:ws.headD "" = "lend"
 ·obtain⟨x,y,rfl⟩:=h c
  rw[m9,decide_eq_true c]
 ·rw[decide_eq_false c]
  cases hb:fW (Txt.join " " ws) with
  | false=>rfl
  | true=>
   exfalso
   unfold fW at hb
   rw[Bool.and_eq_true,decide_eq_true_eq]at hb
   obtain⟨h1,h2⟩:=hb
   unfold PySem.Builtin.Str.subAt at h2
   rw[beq_iff_eq]at h2
   have hl:("lend " : Str).length=5:=by decide +kernel
   rw[hl]at h2
   have h3:((Txt.join " " ws).cps.extract 0 (0+5)).toList=("lend " : Str).cps.toList:=by rw[h2]
   rw[Array.toList_extract]at h3
   simp only[List.extract_eq_drop_take,Nat.zero_add,Nat.sub_zero,List.drop_zero]at h3
   have h4:(Txt.join " " ws).cps.toList=("lend" : Str).cps.toList++32::(Txt.join " " ws).cps.toList.drop 5:=by
    conv=>lhs; rw[← List.take_append_drop 5 (Txt.join " " ws).cps.toList,h3]
    have:("lend " : Str).cps.toList=("lend" : Str).cps.toList++[32]:=by decide +kernel
    rw[this,List.append_assoc]; rfl
   have hf:32∉("lend" : Str).cps.toList:=by decide +kernel
   obtain⟨w0,wr,rfl⟩:=List.exists_cons_of_ne_nil o.ne
   have hw0:32∉w0.cps.toList:=o.free w0 List.mem_cons_self
   cases wr with
   | nil=>
    have:(Txt.join " " [w0]).cps.toList=w0.cps.toList:=rfl
    rw[this]at h4
    rw[h4]at hw0
    exact hw0 (List.mem_append_right _ List.mem_cons_self)
   | cons x r=>
    have hgo:∀ (r:List Str) (a:Str) (rest:List Nat),a.cps.toList=w0.cps.toList++32::rest→∃ rest',(r.foldl (fun a x=>a++(" " : Str)++x) a).cps.toList=w0.cps.toList++32::rest':=fun r=>by
     induction r with
     | nil=>intro a rest e; exact⟨rest,e⟩
     | cons y r ih=>
      intro a rest e
      refine ih (a++(" " : Str)++y) (rest++(" " : Str).cps.toList++y.cps.toList) ?_
      rw[dm,dm,e]; simp only[List.append_assoc,List.cons_append]
    rw[eK]at h4
    obtain⟨rest,hr⟩:=hgo r (w0++(" " : Str)++x) x.cps.toList (by
     have h32:(" " : Str).cps.toList=[32]:=by decide +kernel
     rw[dm,dm,h32,List.append_assoc]; rfl)
    rw[List.foldl_cons,hr]at h4
    have:=(ki hw0 hf h4).1
    exact c (jz this)
def bY(W:List (List Str)):List Nat:=(List.range W.length).filter fun i=>decide ((W.getD i []).headD "" = "lend")
theorem xu{W:List (List Str)}(hw:∀ ws∈W,WOk ws)(hl:∀ ws∈W,kF ws):dG (W.map (Txt.join " "))=bY W:=by
 unfold dG bY
 rw[List.length_map]
 refine List.filter_congr fun i hi=>?_
 have hi':=List.mem_range.mp hi
 rw[List.getD_eq_getElem?_getD,List.getD_eq_getElem?_getD,List.getElem?_map,List.getElem?_eq_getElem hi']
 exact qv (hw _ (List.getElem_mem hi')) (hl _ (List.getElem_mem hi'))
section
variable{P:Program}{w:World}{K:PySem.W.Frag}{mg:Str→Option Value}{base:Heap}
theorem fk(x:Str):∀ ss:List Str,fC (.str x) (ss.map V.str)=decide (x∈ss)
 | []=>rfl
 | y::ss=>by
  have ih:=fk x ss
  show (ej (.str y) (.str x)||fC (.str x) (ss.map V.str))=_
  rw[ih]
  show ((y == x)||decide (x∈ss))=_
  by_cases h:y=x
  ·subst h; simp
  ·have h2:¬ x=y:=fun z=>h z.symm
   rw[beq_eq_false_iff_ne.mpr h]
   simp[h2]
def yS(H:Hp)(lp:Addr)(W:List (List Str)):Prop:=H lp=some (.lst ((W.map (Txt.join " ")).map V.str))
structure qi (W:List (List Str)):Prop where
 ok:∀ ws∈W,WOk ws
 sz:∀ ws∈W,(Txt.join " " ws).length≤5000
 len:W.length≤200
 nm:(W.flatMap aM).length≤1000
def nX:Sp:=fun vs H Q _=>∃ (lp:Addr) (W:List (List Str)),vs=[.ref lp]∧yS H lp W∧qi W∧∀ (fd:Addr) (H':Hp),Same H H'→H' fd=some (.dK (cn (W.flatMap aM) []))→Q (.ref fd) H'
theorem vD(l:List Str):(cn l []).length≤l.length:=by
 have h:=(lh l).1
 have:=gu l []
 rw[List.length_nil]at this
 rw[h]; unfold db; omega
theorem vA(w0:Str)(wr:List Str):(w0::wr).length≤(Txt.join " " (w0::wr)).length+1:=by
 have go:∀ (ws:List Str) (a:Str),a.length+ws.length≤(ws.foldl (fun a x=>a++(" " : Str)++x) a).length:=by
  intro ws
  induction ws with
  | nil=>intro a; exact Nat.le_refl _
  | cons x ws ih=>
   intro a
   have:=ih (a++(" " : Str)++x)
   have h1:(Str.ofString " ").length=1:=by decide
   rw[Str.length_append,Str.length_append,h1]at this
   rw[List.foldl_cons,List.length_cons]; omega
 rw[eK]
 have:=go wr w0
 rw[List.length_cons]; omega
theorem vW(D:DefAt K mg "_law_slots" bL) (z_len:mg "len" = none):ba P w K mg base 1 "_law_slots" ["_law_lines"] nX:=by
 refine D.cal (k:=0) sc_law_slots (fun _ _ _ _ _ _ us hl=>match us,hl with | [_],_=>rfl) (fun vs H Q E h=>by obtain⟨lp,W,rfl,_⟩:=h; rfl) (fun f cdv A outer s H vs Q E hr h=>?_)
 obtain⟨lp,W,rfl,hlp,ok,q⟩:=h
 refine⟨_,(ae (ar 1 sc_law_slots.nd iz (hx:=Eb))
   (ae (cE PassesOwn.never rfl (dj K (pv 0 (hv:=Du))) (bt 2 sc_law_slots.nd (hx:=CI)) (ae (ar 3 sc_law_slots.nd (aW K PySem.F.plainAttrs_str PySem.F.slot_str_split PySem.F.type_str_split fQ (pv 2 (hv:=CU)) (aa al ab)) (hx:=Be))
   (ae (bG (aD (jp K) (aw (aO K) (pv 3 (hv:=tR)) ai (fun _ _=>rfl)) (a_ (aa al (aa al (aa al (aa al (aa al ab)))))) (by with_unfolding_all rfl)) (aj (ar 3 sc_law_slots.nd (ap az (a_ (aa al ab)) (pv 3 (hv:=tR))) (hx:=Be))) aY)
   (aj (bG (aD bT (aw (aO K) (pv 3 (hv:=tR)) ai (fun _ _=>rfl)) al (aL _)) (aj (cE PassesOwn.never rfl (dj K (cu (fP K) (pv 3 (hv:=tR)) (cg ai) df)) (bt 4 sc_law_slots.nd (hx:=Eg)) (aj (bu (aW K PySem.F.plainAttrs_dict PySem.F.slot_dict_setdefault PySem.F.type_dict_setdefault tD (pv 1 (hv:=wW)) (aa (pv 4 (hv:=EY)) (aa (bv iV z_len bQ (aa (pv 1 (hv:=wW)) ab) (hg:=E6)) ab))))))) aY)))))
   (aj (aA (pv 1 (hv:=wW)))))),?_⟩
 walk_at "rd1"
 intro fd hfd
 have s1:=af hfd (.dK [])
 have e1:upd H fd (.dK []) fd=some (.dK (cn ((W.take 0).flatMap aM) [])):=ac
 generalize upd H fd (.dK [])=H1 at s1 e1 ⊢
 walk_at "nx"
 refine⟨⟨_,SqL.of (s1 _ _ hlp)⟩,?_⟩
 refine dc (xs:=(W.map (Txt.join " ")).map V.str) (fun i σ H'=>∃ o2 o3 o4:Option V,σ=[some (.ref lp),some (.ref fd),o2,o3,o4]∧Same H H'∧H' fd=some (.dK (cn ((W.take i).flatMap aM) [])))
  ⟨none,none,none,rfl,s1,e1⟩ (fun i σ H' _ h=>by obtain⟨_,_,_,_,sm,_⟩:=h; exact SqL.of (sm _ _ hlp)) ?_ ?_
 ·rintro i v σ H' hv ⟨o2,o3,o4,rfl,sm,hd⟩
  have hi:i<W.length:=by have:=(List.getElem?_eq_some_iff.mp hv).1; simpa using this
  have hwi:W[i]? = some W[i]:=List.getElem?_eq_getElem hi
  rw[List.getElem?_map,List.getElem?_map,hwi]at hv
  cases hv
  have hwm:=List.getElem_mem hi
  have hsn:=jy aM hwi
  have hfl:=nB aM W (i+1)
  generalize W[i]=ws at hwi hwm hsn
  have ho:=ok.ok ws hwm
  have hz:=ok.sz ws hwm
  have hnm:=ok.nm
  rw[hsn]at hfl ⊢
  generalize (W.take i).flatMap aM=L at hd hfl ⊢
  obtain⟨w0,wr,rfl⟩:=List.exists_cons_of_ne_nil ho.ne
  walk_at "rd1"
  refine⟨by decide,by omega,fun wq hwq=>?_⟩
  rw[ho.split]
  have s5:=af hwq (.lst ((w0::wr).map V.str))
  have e5:upd H' wq (.lst ((w0::wr).map V.str)) wq=some (.lst ((w0::wr).map V.str)):=ac
  generalize upd H' wq (.lst ((w0::wr).map V.str))=H5 at s5 e5 ⊢
  walk_at "nx"
  refine⟨_,_,.inl (SqL.of e5),cm,by decide,fun cl hcl=>?_⟩
  have s6:=af hcl (.lst [V.str "open", V.str "copy", V.str "drop", V.str "tie", V.str "lend"])
  have e6:upd H5 cl (.lst [V.str "open", V.str "copy", V.str "drop", V.str "tie", V.str "lend"]) cl=some (.lst ((["open", "copy", "drop", "tie", "lend"]:List Str).map V.str)):=ac
  generalize upd H5 cl (.lst [V.str "open", V.str "copy", V.str "drop", V.str "tie", V.str "lend"])=H6 at s6 e6 ⊢
  refine⟨_,.inl (SqL.of e6),rfl,rfl,?_⟩
  rw[fk]
  have s56:=s5.trans s6
  refine bh (fun c=>?_) (fun c=>?_)
  ·have c':w0∈(["open", "copy", "drop", "tie", "lend"]:List Str):=by simpa using c
   have hnw:aM (w0::wr)=wr:=by unfold aM; rw[if_pos (show (w0::wr).headD "" ∈ _ from c')]; rfl
   refine⟨by decide,fun dl hdl=>?_⟩
   have s7:=af hdl (.lst [V.str "do"])
   have e7:upd H6 dl (.lst [V.str "do"]) dl=some (.lst [V.str "do"]):=ac
   generalize upd H6 dl (.lst [V.str "do"])=H7 at s7 e7 ⊢
   try dsimp only
   try rw[gZ]
   refine⟨_,_,e7,s7 _ _ (s6 _ _ e5),?_,fun aq haq=>?_⟩
   ·have:=vA w0 wr
    simp only[List.length_map,List.length_cons,List.length_nil]at this ⊢
    exact aQ (by omega)
   rw[show [V.str "do"]++(w0::wr).map V.str=(("do" : Str)::w0::wr).map V.str from rfl]
   have s7b:=af haq (.lst ((("do" : Str)::w0::wr).map V.str))
   have e7b:upd H7 aq (.lst ((("do" : Str)::w0::wr).map V.str)) aq=some (.lst ((("do" : Str)::w0::wr).map V.str)):=ac
   generalize upd H7 aq (.lst ((("do" : Str)::w0::wr).map V.str))=H7b at s7b e7b ⊢
   have s57:=(s56.trans s7).trans s7b
   walk_at "nx"
   refine⟨_,_,.inl (SqL.of e7b),cm,?_⟩
   walk_at "rd1"
   refine⟨_,SqL.of e7b,fun sq hsq=>?_⟩
   rw[show (some (2:Int))=some ((2:Nat):Int) from rfl,fz,← List.map_drop,show List.drop 2 (("do" : Str)::w0::wr)=wr from rfl]
   have s8:=af hsq (.lst ((wr).map V.str))
   have e8:upd H7b sq (.lst ((wr).map V.str)) sq=some (.lst ((wr).map V.str)):=ac
   generalize upd H7b sq (.lst ((wr).map V.str))=H8 at s8 e8 ⊢
   have s08:=s57.trans s8
   have hd8:=s08 _ _ hd
   rw[hnw]at hfl ⊢
   refine⟨⟨_,SqL.of e8⟩,?_⟩
   have nsf:sq≠fd:=ci e8 hd8 (fun z=>nomatch z)
   refine dc (xs:=wr.map V.str) (fun j σ H9=>∃ o4:Option V,σ=[some (.ref lp),some (.ref fd),some (.str (Txt.join " " (w0::wr))),some (.ref aq),o4]∧Same H H9∧H9 sq=some (.lst (wr.map V.str))∧H9 fd=some (.dK (cn (L++wr.take j) [])))
    ⟨_,rfl,sm.trans s08,e8,by rw[List.take_zero,List.append_nil]; exact hd8⟩ (fun j σ H9 _ h=>by obtain⟨_,_,_,z,_⟩:=h; exact SqL.of z) ?_ ?_
   ·rintro j v σ H9 hv ⟨o4,rfl,sm9,e9,hd9⟩
    have hj:j<wr.length:=by have:=(List.getElem?_eq_some_iff.mp hv).1; simpa using this
    rw[List.getElem?_map,List.getElem?_eq_getElem hj]at hv
    cases hv
    have hst:cn (L++wr.take (j+1)) []=fI (cn (L++wr.take j) []) wr[j]:=by
     unfold cn
     rw[List.take_add_one,List.getElem?_eq_getElem hj,← List.append_assoc,List.foldl_append]; rfl
    have hll:=vD (L++wr.take j)
    rw[List.length_append,List.length_take]at hll
    rw[List.length_append]at hfl
    rw[hst]
    generalize cn (L++wr.take j) []=kv at hd9 hll ⊢
    generalize wr[j]=n
    walk_at "rd1"
    refine⟨.inr (.inr (.inl ⟨rfl,.inl ⟨_,hd9⟩⟩)),fd,kv,rfl,hd9,fd,kv,.inr n,_,rfl,rfl,hd9,bn (by omega),fun z hz'=>?_,fun hz'=>?_⟩
    ·refine⟨_,rfl,sm9,e9,?_⟩
     unfold fI
     rw[if_pos (by rw[hz']; rfl)]; exact hd9
    ·refine⟨_,rfl,sm9.upd hfd _,by rw[ah nsf]; exact e9,?_⟩
     unfold fI
     rw[if_neg (by rw[hz']; simp),ac]; rfl
   ·rintro σ H9 ⟨o4,rfl,sm9,e9,hd9⟩
    rw[List.length_map,List.take_length]at hd9
    exact⟨_,_,_,rfl,sm9,hd9⟩
  ·have c':w0∉(["open", "copy", "drop", "tie", "lend"]:List Str):=by simpa using c
   walk_at "nx"
   refine⟨_,_,.inl (SqL.of (s6 _ _ e5)),cm,?_⟩
   walk_at "rd1"
   refine bh (fun c2=>?_) (fun c2=>?_)
   ·have hnw:aM (w0::wr)=wr.drop 1:=by unfold aM; rw[if_neg (show ¬ (w0::wr).headD "" ∈ _ from c'),if_pos (show (w0::wr).headD "" = "do" from c2)]; rfl
    have e6b:=s6 _ _ e5
    refine⟨_,SqL.of e6b,fun sq hsq=>?_⟩
    rw[show (some (2:Int))=some ((2:Nat):Int) from rfl,fz,← List.map_drop,show List.drop 2 (w0::wr)=wr.drop 1 from rfl]
    have s8:=af hsq (.lst ((wr.drop 1).map V.str))
    have e8:upd H6 sq (.lst ((wr.drop 1).map V.str)) sq=some (.lst ((wr.drop 1).map V.str)):=ac
    generalize upd H6 sq (.lst ((wr.drop 1).map V.str))=H8 at s8 e8 ⊢
    have s08:=s56.trans s8
    have hd8:=s08 _ _ hd
    rw[hnw]at hfl ⊢
    generalize wr.drop 1=X at e8 hfl ⊢
    refine⟨⟨_,SqL.of e8⟩,?_⟩
    have nsf:sq≠fd:=ci e8 hd8 (fun z=>nomatch z)
    refine dc (xs:=X.map V.str) (fun j σ H9=>∃ o4:Option V,σ=[some (.ref lp),some (.ref fd),some (.str (Txt.join " " (w0::wr))),some (.ref wq),o4]∧Same H H9∧H9 sq=some (.lst (X.map V.str))∧H9 fd=some (.dK (cn (L++X.take j) [])))
     ⟨_,rfl,sm.trans s08,e8,by rw[List.take_zero,List.append_nil]; exact hd8⟩ (fun j σ H9 _ h=>by obtain⟨_,_,_,z,_⟩:=h; exact SqL.of z) ?_ ?_
    ·rintro j v σ H9 hv ⟨o4,rfl,sm9,e9,hd9⟩
     have hj:j<X.length:=by have:=(List.getElem?_eq_some_iff.mp hv).1; simpa using this
     rw[List.getElem?_map,List.getElem?_eq_getElem hj]at hv
     cases hv
     have hst:cn (L++X.take (j+1)) []=fI (cn (L++X.take j) []) X[j]:=by
      unfold cn
      rw[List.take_add_one,List.getElem?_eq_getElem hj,← List.append_assoc,List.foldl_append]; rfl
     have hll:=vD (L++X.take j)
     rw[List.length_append,List.length_take]at hll
     rw[List.length_append]at hfl
     rw[hst]
     generalize cn (L++X.take j) []=kv at hd9 hll ⊢
     generalize X[j]=n
     walk_at "rd1"
     refine⟨.inr (.inr (.inl ⟨rfl,.inl ⟨_,hd9⟩⟩)),fd,kv,rfl,hd9,fd,kv,.inr n,_,rfl,rfl,hd9,bn (by omega),fun z hz'=>?_,fun hz'=>?_⟩
     ·refine⟨_,rfl,sm9,e9,?_⟩
      unfold fI
      rw[if_pos (by rw[hz']; rfl)]; exact hd9
     ·refine⟨_,rfl,sm9.upd hfd _,by rw[ah nsf]; exact e9,?_⟩
      unfold fI
      rw[if_neg (by rw[hz']; simp),ac]; rfl
    ·rintro σ H9 ⟨o4,rfl,sm9,e9,hd9⟩
     rw[List.length_map,List.take_length]at hd9
     exact⟨_,_,_,rfl,sm9,hd9⟩
   ·have hnw:aM (w0::wr)=[]:=by unfold aM; rw[if_neg (show ¬ (w0::wr).headD "" ∈ _ from c'),if_neg (show ¬ (w0::wr).headD "" = "do" from c2)]
    rw[hnw,List.append_nil]
    exact⟨_,_,_,rfl,sm.trans s56,s56 _ _ hd⟩
 ·rintro σ H' ⟨o2,o3,o4,rfl,sm,hd⟩
  rw[List.length_map,List.length_map,List.take_length]at hd
  walk_at "nx"
  exact q fd H' sm hd
def fo(W:List (List Str))(n:Nat):List V:=(List.range (n+1)).map fun j=>iN (aI W j)
theorem uA(W:List (List Str))(n:Nat):fo W (n+1)=fo W n++[iN (aI W (n+1))]:=by
 unfold fo; rw[List.range_succ,List.map_append]; rfl
theorem vw(W:List (List Str))(n:Nat):dw (fo W n) (-1)=some (iN (aI W n)):=by
 unfold fo; rw[List.range_succ,List.map_append]; exact qH _ _
theorem wt(W:List (List Str))(n:Nat):(fo W n).length=n+1:=by unfold fo; rw[List.length_map,List.length_range]
def qm:Sp:=fun vs H Q _=>∃ (lp:Addr) (W:List (List Str)),vs=[.ref lp]∧yS H lp W∧qi W∧∀ (fq:Addr) (H':Hp),Same H H'→H' fq=some (.lst (fo W W.length))→Q (.ref fq) H'
theorem vH(D:DefAt K mg "_law_firsts" bS):ba P w K mg base 1 "_law_firsts" ["_law_lines"] qm:=by
 refine D.cal (k:=0) sc_law_firsts (fun _ _ _ _ _ _ us hl=>match us,hl with | [_],_=>rfl) (fun vs H Q E h=>by obtain⟨lp,W,rfl,_⟩:=h; rfl) (fun f cdv A outer s H vs Q E hr h=>?_)
 obtain⟨lp,W,rfl,hlp,ok,q⟩:=h
 refine⟨_,(ae (ar 1 sc_law_firsts.nd (a_ (aa ai ab)) (hx:=EV))
   (ae (cE PassesOwn.never rfl (dj K (pv 0 (hv:=Ef))) (bt 2 sc_law_firsts.nd (hx:=Dz)) (ae (ar 3 sc_law_firsts.nd ai (hx:=wn))
   (ae (bG (PW.pt' (gS (aD bT (aw (aO K) (aW K PySem.F.plainAttrs_str PySem.F.slot_str_split PySem.F.type_str_split fQ (pv 2 (hv:=wO)) (aa al ab)) ai (fun _ _=>rfl)) al (aL _)) (gD (aD bT (pv 2 (hv:=wO)) al (aL _))))) (aj (ar 3 sc_law_firsts.nd ai (hx:=wn))) aY)
   (ae (bG (aD bT (pv 2 (hv:=wO)) al (aL _)) (aj (ar 3 sc_law_firsts.nd ai (hx:=wn))) aY)
   (aj (bu (aW K PySem.F.plainAttrs_list PySem.F.slot_list_append PySem.F.type_list_append bc (pv 1 (hv:=wL)) (aa (ap az (aw (aO K) (pv 1 (hv:=wL)) (jB hZ ai) (fun _ _=>rfl)) (pv 3 (hv:=CT))) ab))))))))
   (aj (aA (pv 1 (hv:=wL)))))),?_⟩
 walk_at "rd1"
 refine⟨by decide,fun fq hfq=>?_⟩
 have s1:=af hfq (.lst [.int 0])
 have e1:upd H fq (.lst [.int 0]) fq=some (.lst (fo W 0)):=ac
 generalize upd H fq (.lst [.int 0])=H1 at s1 e1 ⊢
 walk_at "nx"
 refine⟨⟨_,SqL.of (s1 _ _ hlp)⟩,?_⟩
 refine dc (xs:=(W.map (Txt.join " ")).map V.str) (fun i σ H'=>∃ o2 o3:Option V,σ=[some (.ref lp),some (.ref fq),o2,o3]∧Same H H'∧H' fq=some (.lst (fo W i)))
  ⟨none,none,rfl,s1,e1⟩ (fun i σ H' _ h=>by obtain⟨_,_,_,sm,_⟩:=h; exact SqL.of (sm _ _ hlp)) ?_ ?_
 ·rintro i v σ H' hv ⟨o2,o3,rfl,sm,hd⟩
  have hi:i<W.length:=by have:=(List.getElem?_eq_some_iff.mp hv).1; simpa using this
  have hwi:W[i]? = some W[i]:=List.getElem?_eq_getElem hi
  rw[List.getElem?_map,List.getElem?_map,hwi]at hv
  cases hv
  have hwm:=List.getElem_mem hi
  have hfn:=ft hwi
  have hW:=ok.len
  generalize W[i]=ws at hwi hwm hfn
  have ho:=ok.ok ws hwm
  have hz:=ok.sz ws hwm
  have j1:=dN ho (x := "back") (show 32∉_ by decide)
  have j2:=dN ho (x := "fi") (show 32∉_ by decide)
  have hll:=wt W i
  rw[uA,hfn]
  have hla:=vw W i
  generalize fo W i=F at hd hll hla ⊢
  generalize aI W i=a at hla ⊢
  obtain⟨w0,wr,rfl⟩:=List.exists_cons_of_ne_nil ho.ne
  walk_at "rd1"
  walk_at "nx"
  refine⟨by decide,by omega,fun wq hwq=>?_⟩
  rw[ho.split]
  have s5:=af hwq (.lst ((w0::wr).map V.str))
  have e5:upd H' wq (.lst ((w0::wr).map V.str)) wq=some (.lst ((w0::wr).map V.str)):=ac
  generalize upd H' wq (.lst ((w0::wr).map V.str))=H5 at s5 e5 ⊢
  refine⟨_,_,.inl (SqL.of e5),cm,?_⟩
  walk_at "rd1"
  refine bh (fun c1=>?_) (fun c1=>bh (fun c2=>?_) (fun c2=>?_))
  ·walk_at "nx"
   refine bh (fun c=>?_) (fun c=>?_)
   ·have hm:cR (w0::wr)=0:=by rw[j2.mp c]; exact jF
    walk_at "nx"
    refine⟨⟨_,SqL.of (s5 _ _ hd)⟩,_,_,.inl (SqL.of (s5 _ _ hd)),hla,?_⟩
    walk_at "rd1"
    refine⟨_,s5 _ _ hd,bn (by omega),_,_,rfl,(sm.trans s5).upd hfq _,?_⟩
    rw[ac,hm]; rfl
   ·have hm:cR (w0::wr)=3:=by
     show dR w0 (w0::wr)=3
     unfold dR
     rw[if_neg (fun z=>c (j2.mpr z)),if_pos (.inl c1)]
    walk_at "nx"
    refine⟨⟨_,SqL.of (s5 _ _ hd)⟩,_,_,.inl (SqL.of (s5 _ _ hd)),hla,?_⟩
    walk_at "rd1"
    refine⟨_,s5 _ _ hd,bn (by omega),_,_,rfl,(sm.trans s5).upd hfq _,?_⟩
    rw[ac,hm]; rfl
  ·walk_at "nx"
   refine bh (fun c=>?_) (fun c=>?_)
   ·have hm:cR (w0::wr)=0:=by rw[j2.mp c]; exact jF
    walk_at "nx"
    refine⟨⟨_,SqL.of (s5 _ _ hd)⟩,_,_,.inl (SqL.of (s5 _ _ hd)),hla,?_⟩
    walk_at "rd1"
    refine⟨_,s5 _ _ hd,bn (by omega),_,_,rfl,(sm.trans s5).upd hfq _,?_⟩
    rw[ac,hm]; rfl
   ·have hm:cR (w0::wr)=3:=by
     show dR w0 (w0::wr)=3
     unfold dR
     rw[if_neg (fun z=>c (j2.mpr z)),if_pos (.inr (j1.mp c2))]
    walk_at "nx"
    refine⟨⟨_,SqL.of (s5 _ _ hd)⟩,_,_,.inl (SqL.of (s5 _ _ hd)),hla,?_⟩
    walk_at "rd1"
    refine⟨_,s5 _ _ hd,bn (by omega),_,_,rfl,(sm.trans s5).upd hfq _,?_⟩
    rw[ac,hm]; rfl
  ·walk_at "nx"
   refine bh (fun c=>?_) (fun c=>?_)
   ·have hm:cR (w0::wr)=0:=by rw[j2.mp c]; exact jF
    walk_at "nx"
    refine⟨⟨_,SqL.of (s5 _ _ hd)⟩,_,_,.inl (SqL.of (s5 _ _ hd)),hla,?_⟩
    walk_at "rd1"
    refine⟨_,s5 _ _ hd,bn (by omega),_,_,rfl,(sm.trans s5).upd hfq _,?_⟩
    rw[ac,hm]; rfl
   ·have hm:cR (w0::wr)=1:=by
     show dR w0 (w0::wr)=1
     unfold dR
     rw[if_neg (fun z=>c (j2.mpr z)),if_neg (fun z=>z.elim c1 (fun z=>c2 (j1.mpr z)))]
    walk_at "nx"
    refine⟨⟨_,SqL.of (s5 _ _ hd)⟩,_,_,.inl (SqL.of (s5 _ _ hd)),hla,?_⟩
    walk_at "rd1"
    refine⟨_,s5 _ _ hd,bn (by omega),_,_,rfl,(sm.trans s5).upd hfq _,?_⟩
    rw[ac,hm]; rfl
 ·rintro σ H' ⟨o2,o3,rfl,sm,hd⟩
  rw[List.length_map,List.length_map]at hd
  walk_at "nx"
  exact q fq H' sm hd
def cK(kvp:List (aB × V))(i:Nat):Nat:=match aK kvp (.inl (i:Int)) with
 | some (.int j)=>j.toNat
 | _=>0
theorem hV{kvp:List (aB × V)}{i j:Nat}(h:aK kvp (.inl (i:Int))=some (.int (j:Int))):cK kvp i=j:=by
 unfold cK; rw[h]; exact Int.toNat_natCast _
inductive gg (W:List (List Str)) (kvp kvs:List (aB × V)) (i:Nat):List Str→Prop
 | lend (x y:Str):ef kvs (.inr x)→ef kvs (.inr y)→gg W kvp kvs i ["lend", x,y]
 | back (j:Nat) (x y:Str):aK kvp (.inl (i:Int))=some (.int (j:Int))→W[j]? = some [("lend" : Str),x,y]→ef kvs (.inr y)→gg W kvp kvs i ["back"]
 | test (h:Str) (n:Int) (j:Nat):(h = "if" ∨ h = "while")→n.natAbs<10 ^ 61→aK kvp (.inl (i:Int))=some (.int (j:Int))→j+1≤W.length→gg W kvp kvs i [h,bI n]
 | jump (h:Str) (j:Nat):(h = "else" ∨ h = "done")→aK kvp (.inl (i:Int))=some (.int (j:Int))→j≤W.length→gg W kvp kvs i [h]
 | fi:gg W kvp kvs i ["fi"]
 | doo (u x:Str):ef kvs (.inr x)→gg W kvp kvs i ["do", u,x]
 | oth (h:Str) (r:List Str):h∉(["lend", "back", "if", "while", "else", "done", "fi", "do"]:List Str)→(∀ n∈r,ef kvs (.inr n))→r.length≤3→1≤r.length→gg W kvp kvs i (h::r)
def e_(kvs:List (aB × V))(n:Str):V:=aX kvs (.inr n)
def qZ:Sp:=fun vs H Q _=>∃ (i:Nat) (lp pp fq sd:Addr) (lt:Nat) (W:List (List Str)) (kvp kvs:List (aB × V)) (ws:List Str),vs=[.int (i:Int),.ref lp,.ref pp,.ref fq,.ref sd,iN lt]∧yS H lp W∧qi W∧H pp=some (.dK kvp)∧H fq=some (.lst (fo W W.length))∧H sd=some (.dK kvs)∧W[i]? = some ws∧gg W kvp kvs i ws∧
 ∀ (q:Addr) (H':Hp),Same H H'→H q=none→ListR H' q (bD W (cK kvp) (aI W) (e_ kvs) (fun _=>iN lt) i ws)→Q (.ref q) H'
theorem lP{W:List (List Str)}{n j:Nat}(h:j≤n):(fo W n)[j]? = some (iN (aI W j)):=by
 unfold fo
 rw[List.getElem?_map,List.getElem?_range (by omega)]; rfl
theorem p_{W:List (List Str)}{pt fs:Nat→Nat}{sl:Str→V}{lent:Nat→V}{l:Nat}{u x:Str}:bD W pt fs sl lent l ["do", u,x]=[[.str "do", iN l,sl x,.str u]]:=by
 show cX W pt _ sl lent l "do" _=_
 unfold cX
 rw[if_neg (show ¬ ("do" : Str) = "lend" by decide +kernel),if_neg (show ¬ ("do" : Str) = "back" by decide +kernel),if_neg (show ¬ (("do" : Str) = "if" ∨ ("do" : Str) = "while") by decide +kernel),if_neg (show ¬ ("do" : Str) = "else" by decide +kernel),if_neg (show ¬ ("do" : Str) = "done" by decide +kernel),if_neg (show ¬ ("do" : Str) = "fi" by decide +kernel),if_pos (show ("do" : Str) = "do" from rfl)]; rfl
theorem wy(D:DefAt K mg "_law_rows" aR) (z_tuple:mg "tuple" = none) (z_int:mg "int" = none):ba P w K mg base 1 "_law_rows" ["_law_at", "_law_lines", "_law_partner", "_law_firsts_here", "_law_slots_here", "_law_lent"] qZ:=by
 refine D.cal (k:=0) sc_law_rows (fun _ _ _ _ _ _ us hl=>match us,hl with | [_,_,_,_,_,_],_=>rfl) (fun vs H Q E h=>by obtain⟨_,_,_,_,_,_,_,_,_,_,rfl,_⟩:=h; rfl) (fun f cdv A outer s H vs Q E hr h=>?_)
 obtain⟨i,lp,pp,fq,sd,lt,W,kvp,kvs,ws,rfl,hlp,ok,hpp,hfq,hsd,hwi,hln,q⟩:=h
 refine⟨_,(ae (ar 6 sc_law_rows.nd (aW K PySem.F.plainAttrs_str PySem.F.slot_str_split PySem.F.type_str_split fQ (aw (aO K) (pv 1 (hv:=AM)) (pv 0 (hv:=eW)) (fun _ _=>rfl)) (aa al ab)) (hx:=DG))
   (ae (bG (aD bT (aw (aO K) (pv 6 (hv:=fH)) ai (fun _ _=>rfl)) al (aL _)) (ae (ar 7 sc_law_rows.nd (aw (fj K) (pv 4 (hv:=s0)) (aw (aO K) (pv 6 (hv:=fH)) ai (fun _ _=>rfl)) (fun _ _=>rfl)) (hx:=EZ))
   (aj (aA (a_ (aa (bd (aa al (aa (pv 0 (hv:=eW)) (aa (pv 5 (hv:=pd)) (aa (pv 7 (hv:=EU)) ab))))) (aa (bd (aa al (aa (pv 0 (hv:=eW)) (aa (pv 5 (hv:=pd)) (aa al ab))))) (aa (bd (aa al (aa (pv 0 (hv:=eW)) (aa (aw (fj K) (pv 4 (hv:=s0)) (aw (aO K) (pv 6 (hv:=fH)) ai (fun _ _=>rfl)) (fun _ _=>rfl)) (aa (pv 5 (hv:=pd)) ab))))) ab))))))) aY)
   (ae (bG (aD bT (aw (aO K) (pv 6 (hv:=fH)) ai (fun _ _=>rfl)) al (aL _)) (ae (ar 8 sc_law_rows.nd (aw (fj K) (pv 4 (hv:=s0)) (aw (aO K) (aW K PySem.F.plainAttrs_str PySem.F.slot_str_split PySem.F.type_str_split fQ (aw (aO K) (pv 1 (hv:=AM)) (aw (fj K) (pv 2 (hv:=tH)) (pv 0 (hv:=eW)) (fun _ _=>rfl)) (fun _ _=>rfl)) (aa al ab)) ai (fun _ _=>rfl)) (fun _ _=>rfl)) (hx:=DV))
   (aj (aA (a_ (aa (bd (aa al (aa (pv 0 (hv:=eW)) (aa (pv 5 (hv:=pd)) (aa al ab))))) (aa (bd (aa al (aa (pv 0 (hv:=eW)) (aa (pv 8 (hv:=DU)) ab)))) (aa (bd (aa al (aa (pv 0 (hv:=eW)) (aa (pv 5 (hv:=pd)) ab)))) ab))))))) aY)
   (ae (bG (aD (jp K) (aw (aO K) (pv 6 (hv:=fH)) ai (fun _ _=>rfl)) (a_ (aa al (aa al ab))) (by with_unfolding_all rfl)) (aj (aA (a_ (aa (bd (aa al (aa (pv 0 (hv:=eW)) (aa (fL vd z_int kt (aa (aw (aO K) (pv 6 (hv:=fH)) ai (fun _ _=>rfl)) ab) (hg:=E3)) (aa (aw (aO K) (pv 3 (hv:=wX)) (ap az (aw (fj K) (pv 2 (hv:=tH)) (pv 0 (hv:=eW)) (fun _ _=>rfl)) ai) (fun _ _=>rfl)) ab))))) ab)))) aY)
   (ae (bG (aD bT (aw (aO K) (pv 6 (hv:=fH)) ai (fun _ _=>rfl)) al (aL _)) (aj (aA (a_ (aa (bd (aa al (aa (pv 0 (hv:=eW)) (aa (aw (aO K) (pv 3 (hv:=wX)) (aw (fj K) (pv 2 (hv:=tH)) (pv 0 (hv:=eW)) (fun _ _=>rfl)) (fun _ _=>rfl)) ab)))) ab)))) aY)
   (ae (bG (aD bT (aw (aO K) (pv 6 (hv:=fH)) ai (fun _ _=>rfl)) al (aL _)) (aj (aA (a_ (aa (bd (aa al (aa (pv 0 (hv:=eW)) (aa (aw (aO K) (pv 3 (hv:=wX)) (aw (fj K) (pv 2 (hv:=tH)) (pv 0 (hv:=eW)) (fun _ _=>rfl)) (fun _ _=>rfl)) ab)))) ab)))) aY)
   (ae (bG (aD bT (aw (aO K) (pv 6 (hv:=fH)) ai (fun _ _=>rfl)) al (aL _)) (aj (aA (a_ ab))) aY)
   (ae (bG (aD bT (aw (aO K) (pv 6 (hv:=fH)) ai (fun _ _=>rfl)) al (aL _)) (aj (aA (a_ (aa (bd (aa al (aa (pv 0 (hv:=eW)) (aa (aw (fj K) (pv 4 (hv:=s0)) (aw (aO K) (pv 6 (hv:=fH)) ai (fun _ _=>rfl)) (fun _ _=>rfl)) (aa (aw (aO K) (pv 6 (hv:=fH)) ai (fun _ _=>rfl)) ab))))) ab)))) aY)
   (aj (aA (a_ (aa (ap (qa K) (bd (aa (aw (aO K) (pv 6 (hv:=fH)) ai (fun _ _=>rfl)) (aa (pv 0 (hv:=eW)) ab))) (fL (md K) z_tuple ko (aa (gq (CompSc.to (fsc:=(defScope aR)) (N:=["_law_at", "_law_lines", "_law_partner", "_law_firsts_here", "_law_slots_here", "_law_lent", "_law_words", "_law_one", "_law_other"]) (N0:=["_law_at", "_law_lines", "_law_partner", "_law_firsts_here", "_law_slots_here", "_law_lent", "_law_words", "_law_one", "_law_other"]) (T:=["_law_name"]) ⟨by decide +kernel,by decide +kernel,by decide +kernel,by decide +kernel,by decide +kernel,by decide +kernel,by decide +kernel⟩ rfl rfl) rfl (dj K (cu (fP K) (pv 6 (hv:=fH)) (cg ai) df)) (fun _ _ _ _=>(bt 9 (show (["_law_at", "_law_lines", "_law_partner", "_law_firsts_here", "_law_slots_here", "_law_lent", "_law_words", "_law_one", "_law_other", "_law_name"]:List Str).Nodup from by decide +kernel) (hx:=(ju (defScope aR) (by decide +kernel))) (hf:=mw (defScope aR) (by decide +kernel)))) (eC (show (["_law_at", "_law_lines", "_law_partner", "_law_firsts_here", "_law_slots_here", "_law_lent", "_law_words", "_law_one", "_law_other"]:List Str).length≤9 from by decide)) (fun _ _ _ _=>iu) (fun _ _ _ _=>(aw (fj K) (pv 4 (hv:=(d0 (defScope aR) (by decide +kernel)))) (pv 9 (hv:=(d0 (defScope aR) (by decide +kernel)))) (fun _ _=>rfl)))) ab) (hg:=EM))) ab)))))))))))),?_⟩
 have hwm:=List.mem_of_getElem? hwi
 have hz:=ok.sz ws hwm
 have ho:=ok.ok ws hwm
 have hat:dw ((W.map (Txt.join " ")).map V.str) (i:Int)=some (.str (Txt.join " " ws)):=bC (by rw[List.getElem?_map,List.getElem?_map,hwi]; rfl)
 walk_at "rd1"
 refine⟨_,_,.inl (SqL.of hlp),hat,?_⟩
 walk_at "rd1"
 refine⟨by decide,by omega,fun wq hwq=>?_⟩
 rw[ho.split]
 have s1:=af hwq (.lst (ws.map V.str))
 have e1:upd H wq (.lst (ws.map V.str)) wq=some (.lst (ws.map V.str)):=ac
 generalize upd H wq (.lst (ws.map V.str))=H1 at s1 e1 ⊢
 walk_at "nx"
 cases hln with
 | lend x y hx hy=>
  refine⟨_,_,.inl (SqL.of e1),cm,?_⟩
  walk_at "rd1"
  refine⟨_,_,.inl (SqL.of e1),bC (j:=1) (v:=.str x) rfl,.inr ⟨sd,kvs,.inr x,_,rfl,rfl,s1 _ _ hsd,hx,?_⟩⟩
  walk_at "nx"
  refine⟨by decide,fun t1 ht1=>?_⟩
  generalize hT1:upd H1 t1 _=T1
  have sT1:Same H1 T1:=by rw[← hT1]; exact af ht1 _
  have r1:bg T1 t1 [.str "copy", iN i,iN lt,aX kvs (.inr x)]:=by show T1 t1=_; rw[← hT1]; exact ac
  refine⟨by decide,fun t2 ht2=>?_⟩
  generalize hT2:upd T1 t2 _=T2
  have sT2:Same T1 T2:=by rw[← hT2]; exact af ht2 _
  have r2:bg T2 t2 [.str "do", iN i,iN lt,.str "lend"]:=by show T2 t2=_; rw[← hT2]; exact ac
  have s12:=sT1.trans sT2
  refine⟨_,_,.inl (SqL.of (s12 _ _ e1)),bC (j:=2) (v:=.str y) rfl,.inr ⟨sd,kvs,.inr y,_,rfl,rfl,s12 _ _ (s1 _ _ hsd),hy,?_⟩⟩
  refine⟨by decide,fun t3 ht3=>?_⟩
  generalize hT3:upd T2 t3 _=T3
  have sT3:Same T2 T3:=by rw[← hT3]; exact af ht3 _
  have r3:bg T3 t3 [.str "copy", iN i,aX kvs (.inr y),iN lt]:=by show T3 t3=_; rw[← hT3]; exact ac
  refine⟨by decide,fun m1 hm1=>?_⟩
  have s03:=(s1.trans s12).trans sT3
  refine q m1 _ (s03.trans (af hm1 _)) (s03.free hm1) ?_
  rw[ip]
  exact gj (sT3 _ _ (sT2 _ _ r1)) (sT3 _ _ r2) r3 hm1
 | back j x y hj hwj hy=>
  refine⟨_,_,.inl (SqL.of e1),cm,?_⟩
  walk_at "rd1"
  rw[if_neg (by decide +kernel)]
  walk_at "nx"
  refine⟨_,_,.inl (SqL.of e1),cm,?_⟩
  walk_at "rd1"
  have hwm2:=List.mem_of_getElem? hwj
  have hz2:=ok.sz _ hwm2
  have ho2:=ok.ok _ hwm2
  have hat2:dw ((W.map (Txt.join " ")).map V.str) (j:Int)=some (.str (Txt.join " " ["lend", x,y])):=bC (by rw[List.getElem?_map,List.getElem?_map,hwj]; rfl)
  refine .inr ⟨pp,kvp,.inl (i:Int),_,rfl,rfl,s1 _ _ hpp,hj,?_⟩
  refine⟨_,_,.inl (SqL.of (s1 _ _ hlp)),hat2,?_⟩
  walk_at "rd1"
  refine⟨by decide,by omega,fun w2 hw2=>?_⟩
  rw[ho2.split]
  have s2:=af hw2 (.lst ([("lend" : Str),x,y].map V.str))
  have e2:upd H1 w2 (.lst ([("lend" : Str),x,y].map V.str)) w2=some (.lst ([("lend" : Str),x,y].map V.str)):=ac
  generalize upd H1 w2 (.lst ([("lend" : Str),x,y].map V.str))=H2 at s2 e2 ⊢
  have s12:=s1.trans s2
  refine⟨_,_,.inl (SqL.of e2),bC (j:=2) (v:=.str y) rfl,.inr ⟨sd,kvs,.inr y,_,rfl,rfl,s12 _ _ hsd,hy,?_⟩⟩
  walk_at "nx"
  refine⟨by decide,fun t1 ht1=>?_⟩
  generalize hT1:upd H2 t1 _=T1
  have sT1:Same H2 T1:=by rw[← hT1]; exact af ht1 _
  have r1:bg T1 t1 [.str "do", iN i,iN lt,.str "back"]:=by show T1 t1=_; rw[← hT1]; exact ac
  refine⟨by decide,fun t2 ht2=>?_⟩
  generalize hT2:upd T1 t2 _=T2
  have sT2:Same T1 T2:=by rw[← hT2]; exact af ht2 _
  have r2:bg T2 t2 [.str "drop", iN i,aX kvs (.inr y)]:=by show T2 t2=_; rw[← hT2]; exact ac
  refine⟨by decide,fun t3 ht3=>?_⟩
  generalize hT3:upd T2 t3 _=T3
  have sT3:Same T2 T3:=by rw[← hT3]; exact af ht3 _
  have r3:bg T3 t3 [.str "drop", iN i,iN lt]:=by show T3 t3=_; rw[← hT3]; exact ac
  refine⟨by decide,fun m1 hm1=>?_⟩
  have s03:=((s12.trans sT1).trans sT2).trans sT3
  refine q m1 _ (s03.trans (af hm1 _)) (s03.free hm1) ?_
  rw[iC,hV hj,show W.getD j []=[("lend" : Str),x,y] by rw[List.getD_eq_getElem?_getD,hwj]; rfl]
  exact gj (sT3 _ _ (sT2 _ _ r1)) (sT3 _ _ r2) r3 hm1
 | test h n j hh hn hj hjl=>
  have n1:¬ h = "lend" := by rcases hh with rfl | rfl <;> decide +kernel
  have n2:¬ h = "back" := by rcases hh with rfl | rfl <;> decide +kernel
  refine⟨_,_,.inl (SqL.of e1),cm,?_⟩
  walk_at "rd1"
  rw[if_neg n1]
  walk_at "nx"
  refine⟨_,_,.inl (SqL.of e1),cm,?_⟩
  walk_at "rd1"
  rw[if_neg n2]
  walk_at "nx"
  refine⟨_,_,.inl (SqL.of e1),cm,by decide,fun cl hcl=>?_⟩
  have s2:=af hcl (.lst [V.str "if", V.str "while"])
  have e2:upd H1 cl (.lst [V.str "if", V.str "while"]) cl=some (.lst ((["if", "while"]:List Str).map V.str)):=ac
  generalize upd H1 cl (.lst [V.str "if", V.str "while"])=H2 at s2 e2 ⊢
  refine⟨_,.inl (SqL.of e2),rfl,rfl,?_⟩
  rw[fk]
  rw[if_pos (by rw[decide_eq_true_eq]; rcases hh with rfl | rfl <;> decide +kernel)]
  walk_at "rd1"
  have s12:=s1.trans s2
  obtain⟨nb1,nb2⟩:=ke hn
  refine⟨_,_,.inl (SqL.of (s2 _ _ e1)),bC (j:=1) (v:=.str (bI n)) rfl,?_⟩
  refine⟨bI n,n,rfl,nb1,nb2,?_⟩
  refine .inr ⟨pp,kvp,.inl (i:Int),_,rfl,rfl,s12 _ _ hpp,hj,?_⟩
  walk_at "rd1"
  refine⟨_,_,.inl (SqL.of (s12 _ _ hfq)),(show dw (fo W W.length) ((j:Int)+1)=some (iN (aI W (j+1))) from bC (j:=j+1) (lP hjl)),?_⟩
  refine⟨by decide,fun t1 ht1=>?_⟩
  generalize hT1:upd H2 t1 _=T1
  have sT1:Same H2 T1:=by rw[← hT1]; exact af ht1 _
  have r1:bg T1 t1 [.str "test", iN i,.int n,iN (aI W (j+1))]:=by show T1 t1=_; rw[← hT1]; exact ac
  refine⟨by decide,fun m1 hm1=>?_⟩
  have s03:=s12.trans sT1
  refine q m1 _ (s03.trans (af hm1 _)) (s03.free hm1) ?_
  rw[gh hh,hV hj,show jg (bI n)=n by unfold jg bI; rw[nb1]; rfl]
  exact dn r1 hm1
 | jump h j hh hj hjl=>
  have n1:¬ h = "lend" := by rcases hh with rfl | rfl <;> decide +kernel
  have n2:¬ h = "back" := by rcases hh with rfl | rfl <;> decide +kernel
  refine⟨_,_,.inl (SqL.of e1),cm,?_⟩
  walk_at "rd1"
  rw[if_neg n1]
  walk_at "nx"
  refine⟨_,_,.inl (SqL.of e1),cm,?_⟩
  walk_at "rd1"
  rw[if_neg n2]
  walk_at "nx"
  refine⟨_,_,.inl (SqL.of e1),cm,by decide,fun cl hcl=>?_⟩
  have s2:=af hcl (.lst [V.str "if", V.str "while"])
  have e2:upd H1 cl (.lst [V.str "if", V.str "while"]) cl=some (.lst ((["if", "while"]:List Str).map V.str)):=ac
  generalize upd H1 cl (.lst [V.str "if", V.str "while"])=H2 at s2 e2 ⊢
  refine⟨_,.inl (SqL.of e2),rfl,rfl,?_⟩
  rw[fk]
  rw[if_neg (by rw[decide_eq_true_eq]; rcases hh with rfl | rfl <;> decide +kernel)]
  walk_at "nx"
  have s12:=s1.trans s2
  have e1':=s2 _ _ e1
  rw[gi hh,hV hj]at q
  rcases hh with rfl | rfl
  ·refine⟨_,_,.inl (SqL.of e1'),cm,?_⟩
   walk_at "rd1"
   refine .inr ⟨pp,kvp,.inl (i:Int),_,rfl,rfl,s12 _ _ hpp,hj,?_⟩
   refine⟨_,_,.inl (SqL.of (s12 _ _ hfq)),bC (lP hjl),?_⟩
   refine⟨by decide,fun t1 ht1=>?_⟩
   generalize hT1:upd H2 t1 _=T1
   have sT1:Same H2 T1:=by rw[← hT1]; exact af ht1 _
   have r1:bg T1 t1 [.str "jump", iN i,iN (aI W j)]:=by show T1 t1=_; rw[← hT1]; exact ac
   refine⟨by decide,fun m1 hm1=>?_⟩
   have s03:=s12.trans sT1
   exact q m1 _ (s03.trans (af hm1 _)) (s03.free hm1) (dn r1 hm1)
  ·refine⟨_,_,.inl (SqL.of e1'),cm,?_⟩
   walk_at "rd1"
   rw[if_neg (by decide +kernel)]
   walk_at "nx"
   refine⟨_,_,.inl (SqL.of e1'),cm,?_⟩
   walk_at "rd1"
   refine .inr ⟨pp,kvp,.inl (i:Int),_,rfl,rfl,s12 _ _ hpp,hj,?_⟩
   refine⟨_,_,.inl (SqL.of (s12 _ _ hfq)),bC (lP hjl),?_⟩
   refine⟨by decide,fun t1 ht1=>?_⟩
   generalize hT1:upd H2 t1 _=T1
   have sT1:Same H2 T1:=by rw[← hT1]; exact af ht1 _
   have r1:bg T1 t1 [.str "jump", iN i,iN (aI W j)]:=by show T1 t1=_; rw[← hT1]; exact ac
   refine⟨by decide,fun m1 hm1=>?_⟩
   have s03:=s12.trans sT1
   exact q m1 _ (s03.trans (af hm1 _)) (s03.free hm1) (dn r1 hm1)
 | fi=>
  refine⟨_,_,.inl (SqL.of e1),cm,?_⟩
  walk_at "rd1"
  rw[if_neg (by decide +kernel)]
  walk_at "nx"
  refine⟨_,_,.inl (SqL.of e1),cm,?_⟩
  walk_at "rd1"
  rw[if_neg (by decide +kernel)]
  walk_at "nx"
  refine⟨_,_,.inl (SqL.of e1),cm,by decide,fun cl hcl=>?_⟩
  have s2:=af hcl (.lst [V.str "if", V.str "while"])
  have e2:upd H1 cl (.lst [V.str "if", V.str "while"]) cl=some (.lst ((["if", "while"]:List Str).map V.str)):=ac
  generalize upd H1 cl (.lst [V.str "if", V.str "while"])=H2 at s2 e2 ⊢
  refine⟨_,.inl (SqL.of e2),rfl,rfl,?_⟩
  rw[fk]
  rw[if_neg (by rw[decide_eq_true_eq]; decide +kernel)]
  walk_at "nx"
  have s12:=s1.trans s2
  have e1':=s2 _ _ e1
  refine⟨_,_,.inl (SqL.of e1'),cm,?_⟩
  walk_at "rd1"
  rw[if_neg (by decide +kernel)]
  walk_at "nx"
  refine⟨_,_,.inl (SqL.of e1'),cm,?_⟩
  walk_at "rd1"
  rw[if_neg (by decide +kernel)]
  walk_at "nx"
  refine⟨_,_,.inl (SqL.of e1'),cm,?_⟩
  walk_at "rd1"
  refine⟨by decide,fun m1 hm1=>?_⟩
  refine q m1 _ (s12.trans (af hm1 _)) (s12.free hm1) ?_
  rw[j5]
  exact⟨[],ac,.nil⟩
 | doo u x hx=>
  refine⟨_,_,.inl (SqL.of e1),cm,?_⟩
  walk_at "rd1"
  rw[if_neg (by decide +kernel)]
  walk_at "nx"
  refine⟨_,_,.inl (SqL.of e1),cm,?_⟩
  walk_at "rd1"
  rw[if_neg (by decide +kernel)]
  walk_at "nx"
  refine⟨_,_,.inl (SqL.of e1),cm,by decide,fun cl hcl=>?_⟩
  have s2:=af hcl (.lst [V.str "if", V.str "while"])
  have e2:upd H1 cl (.lst [V.str "if", V.str "while"]) cl=some (.lst ((["if", "while"]:List Str).map V.str)):=ac
  generalize upd H1 cl (.lst [V.str "if", V.str "while"])=H2 at s2 e2 ⊢
  refine⟨_,.inl (SqL.of e2),rfl,rfl,?_⟩
  rw[fk]
  rw[if_neg (by rw[decide_eq_true_eq]; decide +kernel)]
  walk_at "nx"
  have s12:=s1.trans s2
  have e1':=s2 _ _ e1
  refine⟨_,_,.inl (SqL.of e1'),cm,?_⟩
  walk_at "rd1"
  rw[if_neg (by decide +kernel)]
  walk_at "nx"
  refine⟨_,_,.inl (SqL.of e1'),cm,?_⟩
  walk_at "rd1"
  rw[if_neg (by decide +kernel)]
  walk_at "nx"
  refine⟨_,_,.inl (SqL.of e1'),cm,?_⟩
  walk_at "rd1"
  rw[if_neg (by decide +kernel)]
  walk_at "nx"
  refine⟨_,_,.inl (SqL.of e1'),cm,?_⟩
  walk_at "rd1"
  refine⟨_,_,.inl (SqL.of e1'),bC (j:=2) (v:=.str x) rfl,.inr ⟨sd,kvs,.inr x,_,rfl,rfl,s12 _ _ hsd,hx,?_⟩⟩
  refine⟨_,_,.inl (SqL.of e1'),bC (j:=1) (v:=.str u) rfl,?_⟩
  refine⟨by decide,fun t1 ht1=>?_⟩
  generalize hT1:upd H2 t1 _=T1
  have sT1:Same H2 T1:=by rw[← hT1]; exact af ht1 _
  have r1:bg T1 t1 [.str "do", iN i,aX kvs (.inr x),.str u]:=by show T1 t1=_; rw[← hT1]; exact ac
  refine⟨by decide,fun m1 hm1=>?_⟩
  have s03:=s12.trans sT1
  refine q m1 _ (s03.trans (af hm1 _)) (s03.free hm1) ?_
  rw[p_]
  exact dn r1 hm1
 | oth h r hh hr' hrl hr1=>
  simp only[List.mem_cons,List.not_mem_nil,or_false,not_or]at hh
  obtain⟨h1,h2,h3,h4,h5,h6,h7,h8⟩:=hh
  refine⟨_,_,.inl (SqL.of e1),cm,?_⟩
  walk_at "rd1"
  rw[if_neg h1]
  walk_at "nx"
  refine⟨_,_,.inl (SqL.of e1),cm,?_⟩
  walk_at "rd1"
  rw[if_neg h2]
  walk_at "nx"
  refine⟨_,_,.inl (SqL.of e1),cm,by decide,fun cl hcl=>?_⟩
  have s2:=af hcl (.lst [V.str "if", V.str "while"])
  have e2:upd H1 cl (.lst [V.str "if", V.str "while"]) cl=some (.lst ((["if", "while"]:List Str).map V.str)):=ac
  generalize upd H1 cl (.lst [V.str "if", V.str "while"])=H2 at s2 e2 ⊢
  refine⟨_,.inl (SqL.of e2),rfl,rfl,?_⟩
  rw[fk]
  rw[if_neg (by rw[decide_eq_true_eq]; simp only[List.mem_cons,List.not_mem_nil,or_false,not_or]; exact⟨h3,h4⟩)]
  walk_at "nx"
  have s12:=s1.trans s2
  have e1':=s2 _ _ e1
  refine⟨_,_,.inl (SqL.of e1'),cm,?_⟩
  walk_at "rd1"
  rw[if_neg h5]
  walk_at "nx"
  refine⟨_,_,.inl (SqL.of e1'),cm,?_⟩
  walk_at "rd1"
  rw[if_neg h6]
  walk_at "nx"
  refine⟨_,_,.inl (SqL.of e1'),cm,?_⟩
  walk_at "rd1"
  rw[if_neg h7]
  walk_at "nx"
  refine⟨_,_,.inl (SqL.of e1'),cm,?_⟩
  walk_at "rd1"
  rw[if_neg h8]
  walk_at "nx"
  refine⟨_,_,.inl (SqL.of e1'),cm,by decide,fun t1 ht1=>?_⟩
  generalize hT1:upd H2 t1 _=T1
  have sT1:Same H2 T1:=by rw[← hT1]; exact af ht1 _
  have r1:T1 t1=some (.tup [.str h,iN i]):=by rw[← hT1]; exact ac
  refine⟨_,SqL.of (sT1 _ _ e1'),fun cq hcq=>?_⟩
  rw[show (some (1:Int))=some ((1:Nat):Int) from rfl,fz,show List.drop 1 ((h::r).map V.str)=r.map V.str from rfl]
  have s3:=af hcq (.lst (r.map V.str))
  have e3:upd T1 cq (.lst (r.map V.str)) cq=some (.lst (r.map V.str)):=ac
  generalize upd T1 cq (.lst (r.map V.str))=H3 at s3 e3 ⊢
  refine⟨⟨_,SqL.of e3⟩,fun L hL=>?_⟩
  have esd:=(s12.trans (sT1.trans s3)) _ _ hsd
  refine tz (xs:=r.map V.str) (fun i ys H'=>Same H3 H'∧H' L=some (.lst ys)∧ys=(r.take i).map fun n=>aX kvs (.inr n)) ⟨af hL _,ac,rfl⟩ (fun i ys H' _ hh=>SqL.of (hh.1 _ _ e3)) ?_ ?_
  ·rintro k ys H' v hv hi ⟨sm,hl,rfl⟩
   rw[List.length_map]at hi
   rw[List.getElem?_map,List.getElem?_eq_getElem hi]at hv
   cases hv
   have hn:=hr' _ (List.getElem_mem hi)
   walk_at "rd1"
   refine .inr ⟨sd,kvs,.inr r[k],_,rfl,rfl,sm _ _ esd,hn,?_⟩
   refine nC (by rw[List.length_map]; exact hi) (by rw[List.length_map,List.length_take]; omega) (by rw[List.length_map]; exact aQ (by omega)) hl ⟨sm.upd hL _,ac,?_⟩
   rw[List.take_add_one,List.getElem?_eq_getElem hi,List.map_append]; rfl
  ·rintro ys H4 ⟨s4,e4,rfl⟩
   rw[List.length_map,List.take_length]at e4
   walk_at "rd1"
   refine⟨_,.inl ⟨SqL.of e4,fun t2 ht2=>?_⟩⟩
   have s5:=af ht2 (.tup (r.map fun n=>aX kvs (.inr n)))
   have et2:upd H4 t2 (.tup (r.map fun n=>aX kvs (.inr n))) t2=some (.tup (r.map fun n=>aX kvs (.inr n))):=ac
   generalize upd H4 t2 (.tup (r.map fun n=>aX kvs (.inr n)))=H5 at s5 et2 ⊢
   have s35:=(s3.trans s4).trans s5
   refine⟨_,_,SqT.of (s35 _ _ r1),SqT.of et2,by simp,by rw[List.length_map]; exact aQ (by simp only[List.length_cons,List.length_nil]; omega),fun hz=>?_,fun _ t3 ht3=>?_⟩
   ·have:=congrArg List.length hz
    rw[List.length_map]at this
    simp only[List.length_nil]at this
    omega
   ·have s05:=(s12.trans sT1).trans s35
    have s6:=af ht3 (.tup ([V.str h,iN i]++r.map fun n=>aX kvs (.inr n)))
    have r3:bg (upd H5 t3 (.tup ([V.str h,iN i]++r.map fun n=>aX kvs (.inr n)))) t3 ([V.str h,iN i]++r.map fun n=>aX kvs (.inr n)):=ac
    generalize upd H5 t3 (.tup ([V.str h,iN i]++r.map fun n=>aX kvs (.inr n)))=H6 at s6 r3 ⊢
    refine⟨by decide,fun m1 hm1=>?_⟩
    have s06:=s05.trans s6
    refine q m1 _ (s06.trans (af hm1 _)) (s06.free hm1) ?_
    rw[eS (by simp only[List.mem_cons,List.not_mem_nil,or_false,not_or]; exact⟨h1,h2,h3,h4,h5,h6,h7,h8⟩)]
    exact dn r3 hm1
end
section
variable{W:List (List Str)}{kvp kvs:List (aB × V)}{NM:List Str}
theorem xr{i:Nat}{ws:List Str}(px:dB ws)(hk:∀ n∈b8 ws,ef kvs (.inr n)):gg W kvp kvs i ws:=by
 cases px with
 | op x=>exact .oth _ _ (by decide +kernel) (fun n hn=>hk n (by unfold b8; rw[if_neg (by show ¬ ("open" : Str) = "do"; decide +kernel)]; exact hn)) (by simp) (by simp)
 | dr x=>exact .oth _ _ (by decide +kernel) (fun n hn=>hk n (by unfold b8; rw[if_neg (by show ¬ ("drop" : Str) = "do"; decide +kernel)]; exact hn)) (by simp) (by simp)
 | cp x y=>exact .oth _ _ (by decide +kernel) (fun n hn=>hk n (by unfold b8; rw[if_neg (by show ¬ ("copy" : Str) = "do"; decide +kernel)]; exact hn)) (by simp) (by simp)
 | ti x y=>exact .oth _ _ (by decide +kernel) (fun n hn=>hk n (by unfold b8; rw[if_neg (by show ¬ ("tie" : Str) = "do"; decide +kernel)]; exact hn)) (by simp) (by simp)
 | dd u x=>exact .doo u x (hk x (by unfold b8; rw[if_pos (by rfl)]; exact List.mem_cons_self))
def LnAll(W:List (List Str))(kvp kvs:List (aB × V))(l:Nat)(X:List (List Str)):Prop:=∀ i ws,X[i]? = some ws→gg W kvp kvs (l+i) ws
theorem LnAll.nil{l:Nat}:LnAll W kvp kvs l []:=fun i ws e=>by simp at e
theorem LnAll.cons{l:Nat}{x:List Str}{X:List (List Str)}(h:gg W kvp kvs l x)(t:LnAll W kvp kvs (l+1) X):LnAll W kvp kvs l (x::X):=fun i ws e=>by
 cases i with
 | zero=>cases e; exact h
 | succ i=>rw[show l+(i+1)=l+1+i by omega]; exact t i ws (by simpa using e)
theorem LnAll.app{l:Nat}{X Y:List (List Str)}(h:LnAll W kvp kvs l X)(t:LnAll W kvp kvs (l+X.length) Y):LnAll W kvp kvs l (X++Y):=fun i ws e=>by
 by_cases hi:i<X.length
 ·rw[List.getElem?_append_left hi]at e; exact h i ws e
 ·rw[List.getElem?_append_right (by omega)]at e
  have:=t (i - X.length) ws e
  rw[show l+X.length+(i - X.length)=l+i by omega]at this; exact this
theorem zp{d:Nat}{fi nm:List Stp→Prop}(hk:∀ n∈NM,ef kvs (.inr n))(ih:∀ l b,StandsAt W (aU d b) l→eO d l b kvp→fi b→nm b→LnAll W kvp kvs l (aU d b)) :
  ∀ (s:Stp) (l:Nat),StandsAt W (cQ (aU d) s) l→gk (ak d) (eO d) l kvp s→fE fi s→mG nm (fun n=>n∈NM) s→LnAll W kvp kvs l (cQ (aU d) s)
 | .plain ws,l,hS,hp,⟨px,_⟩,⟨_,hn⟩=>LnAll.cons (xr px fun n z=>hk n (hn n z)) LnAll.nil
 | .lend x y b,l,hS,⟨p1,p2,p3⟩,⟨_,_,fb⟩,⟨nx,ny,nb⟩=>by
  have hS':StandsAt W ([("lend" : Str),x,y]::(aU d b++[[("back" : Str)]])) l:=hS
  refine LnAll.cons (.lend x y (hk x nx) (hk y ny)) ((ih _ b hS'.tail.left p3 fb nb).app (LnAll.cons ?_ LnAll.nil))
  rw[cS]
  exact .back l x y p1 hS'.head (hk y ny)
 | .ite n b c,l,hS,⟨⟨p1,p2⟩,p3,p4⟩,⟨hn,fb,fc⟩,⟨nb,nc⟩=>by
  have hS':StandsAt W ([("if" : Str),bI n]::(aU d b++[[("else" : Str)]]++(aU d c++[[("fi" : Str)]]))) l:=hS
  have hlen:l+1+(aU d b++[[("else" : Str)]]).length=l+1+ak d b+1:=by rw[List.length_append,cS]; rfl
  have e1:=hS'.tail.left.right.head
  rw[cS]at e1
  have hc:=hS'.tail.right.left
  have e2:=hS'.tail.right.right.head
  rw[hlen]at hc e2
  rw[cS]at e2
  have l1:=(List.getElem?_eq_some_iff.mp e1).1
  have l2:=(List.getElem?_eq_some_iff.mp e2).1
  refine LnAll.cons (.test "if" n _ (.inl rfl) hn p1 (by omega)) (((ih _ b hS'.tail.left.left p3 fb nb).app (LnAll.cons ?_ LnAll.nil)).app ?_)
  ·rw[cS]; exact .jump "else" _ (.inl rfl) p2 (by omega)
  ·rw[hlen]
   exact(ih _ c hc p4 fc nc).app (LnAll.cons .fi LnAll.nil)
 | .whl n b,l,hS,⟨⟨p1,p2⟩,p3⟩,⟨hn,fb⟩,nb=>by
  have hS':StandsAt W ([("while" : Str),bI n]::(aU d b++[[("done" : Str)]])) l:=hS
  have e1:=hS'.tail.right.head
  rw[cS]at e1
  have l1:=(List.getElem?_eq_some_iff.mp e1).1
  refine LnAll.cons (.test "while" n _ (.inr rfl) hn p2 (by omega)) ((ih _ b hS'.tail.left p3 fb nb).app (LnAll.cons ?_ LnAll.nil))
  rw[cS]; exact .jump "done" _ (.inr rfl) p1 (by omega)
theorem oi(hk:∀ n∈NM,ef kvs (.inr n)):∀ (d l:Nat) (T:List Stp),StandsAt W (aU d T) l→eO d l T kvp→cy d T→gY (fun n=>n∈NM) d T→LnAll W kvp kvs l (aU d T)
 | 0,_,_,_,_,h,_=>h.elim
 | d+1,l,T,hS,hp,hf,hn=>by
  have st:=zp (W:=W) (kvp:=kvp) (kvs:=kvs) (NM:=NM) (d:=d) (fi:=cy d) (nm:=gY (fun n=>n∈NM) d) hk (fun l b h1 h2 h3 h4=>oi hk d l b h1 h2 h3 h4)
  have go:∀ (T:List Stp) (l:Nat),StandsAt W (T.flatMap (cQ (aU d))) l→(∀ z∈dM (bi (ak d)) l T,gk (ak d) (eO d) z.1 kvp z.2)→(∀ s∈T,fE (cy d) s)→(∀ s∈T,mG (gY (fun n=>n∈NM) d) (fun n=>n∈NM) s)→LnAll W kvp kvs l (T.flatMap (cQ (aU d))):=fun T=>by
   induction T with
   | nil=>intro l _ _ _ _; exact LnAll.nil
   | cons s T ihT=>
    intro l hS hp hf hn
    rw[List.flatMap_cons]at hS ⊢
    have hr:=hS.right
    refine(st s l hS.left (hp _ List.mem_cons_self) (hf s List.mem_cons_self) (hn s List.mem_cons_self)).app ?_
    rw[gv (cS d) s]at hr ⊢
    exact ihT _ hr (fun z hz=>hp z (List.mem_cons_of_mem _ hz)) (fun s hs=>hf s (List.mem_cons_of_mem _ hs)) (fun s hs=>hn s (List.mem_cons_of_mem _ hs))
  exact go T l hS hp hf hn
end
theorem jw{l:List Str}{n:Str}(h:n∈l):n∈db l:=by
 unfold db
 have go:∀ (l acc:List Str),n∈acc∨n∈l→n∈l.foldl eX acc:=fun l=>by
  induction l with
  | nil=>intro acc h; exact h.elim id (fun z=>by cases z)
  | cons x l ih=>
   intro acc h
   refine ih _ ?_
   unfold eX
   rcases h with h | h
   ·left; split
    ·exact h
    ·exact List.mem_append_left _ h
   ·rcases List.mem_cons.mp h with rfl | h
    ·left; split
     ·assumption
     ·exact List.mem_append_right _ List.mem_cons_self
    ·exact .inr h
 exact go l [] (.inr h)
def cG(NM:List Str)(W:List (List Str))(pt:Nat→Nat)(i:Nat):Nat:=
 if W.getD i []=[("back" : Str)] then NM.length+(bY W).idxOf (pt i) else if i∈bY W then NM.length+(bY W).idxOf i else 0
theorem ph{d:Nat}{T:List Stp}(hf:cy d T):cf (aU d T) (cK (bV (aU d T))) (aI (aU d T)) (e_ (cn ((aU d T).flatMap aM) [])) (fun i=>iN (cG (db ((bW d T).flatMap bx)) (aU d T) (cK (bV (aU d T))) i)) 0 (aU d T)++[[.str "end", iN (ak d T)]]=gW (db ((bW d T).flatMap bx)) d false T:=by
 generalize hNM:db ((bW d T).flatMap bx)=NM
 have hnd:NM.Nodup:=by rw[← hNM]; exact vz _
 have hst:StandsAt (aU d T) (aU d T) 0:=fun i ws e=>by rw[Nat.zero_add]; exact e
 have hpt:=(gb d 0 T ⟨[],[]⟩ (gM hf)).2
 have hnm:gY (fun n=>n∈NM) d T:=iU d T (gJ hf) fun n hn=>by
  rw[← hNM]; exact jw hn
 have hle:dG (b7 d T)=bY (aU d T):=by rw[sF]; exact xu (ur hf) (pz hf)
 have hsd:=lh ((aU d T).flatMap aM)
 rw[eZ d T hf,hNM]at hsd
 have I:tq (aU d T) (bV (aU d T)) NM (ii (cC NM (b7 d T))) (cK (bV (aU d T))) (e_ (cn ((aU d T).flatMap aM) [])) (fun i=>iN (cG NM (aU d T) (cK (bV (aU d T))) i)):=by
  have mem:∀ (l:Nat) (x y:Str),(aU d T)[l]? = some [("lend" : Str),x,y]→l∈bY (aU d T):=fun l x y e=>by
   unfold bY
   rw[List.mem_filter]
   refine⟨List.mem_range.mpr (List.getElem?_eq_some_iff.mp e).1,?_⟩
   rw[List.getD_eq_getElem?_getD,e]; rfl
  refine⟨fun i j h=>hV h,fun n hn=>?_,fun l x y e=>?_,fun i j x y e h1 h2=>?_⟩
  ·rw[vf hnd hn]
   unfold e_ aX
   rw[eZ d T hf,hsd.2 n,if_pos hn]; rfl
  ·have hm:=mem l x y e
   rw[mQ hnd (by rw[hle]; exact hm),hle]
   show iN (cG NM _ _ l)=_
   unfold cG
   rw[if_neg (by rw[List.getD_eq_getElem?_getD,e]; simp),if_pos hm]
  ·have hm:=mem j x y h2
   rw[mQ hnd (by rw[hle]; exact hm),hle]
   show iN (cG NM _ _ i)=_
   unfold cG
   rw[if_pos (by rw[List.getD_eq_getElem?_getD,e]; rfl),h1]
 have:=(rV I d 0 T hst hpt hf hnm).1
 rw[this]
 unfold gW
 rfl
section
variable{P:Program}{w:World}{K:PySem.W.Frag}{mg:Str→Option Value}{base:Heap}
theorem gU{W:List (List Str)}{pt fs:Nat→Nat}{sl:Str→V}{lent:Nat→V}{i:Nat}{h:Str}{ws:List Str}:(cX W pt fs sl lent i h ws).length≤3:=by
 unfold cX
 repeat' split
 all_goals simp
theorem i8{W:List (List Str)}{pt fs:Nat→Nat}{sl:Str→V}{lent:Nat→V}:∀ (X:List (List Str)) (l:Nat),(cf W pt fs sl lent l X).length≤3 * X.length
 | [],_=>Nat.zero_le _
 | x::X,l=>by
  have h1:(bD W pt fs sl lent l x).length≤3:=gU
  have h2:=i8 (W:=W) (pt:=pt) (fs:=fs) (sl:=sl) (lent:=lent) X (l+1)
  show (bD W pt fs sl lent l x++cf W pt fs sl lent (l+1) X).length≤3 * (X.length+1)
  rw[List.length_append]; omega
theorem iW{W:List (List Str)}{pt fs:Nat→Nat}{sl:Str→V}{f g:Nat→V}{i:Nat}{ws:List Str}(h:f i=g i):bD W pt fs sl f i ws=bD W pt fs sl g i ws:=by
 unfold bD cX; rw[h]
theorem lM{α β : Type}[BEq α][LawfulBEq α][BEq β][LawfulBEq β](f:α→β)(hf:∀ a b,f a=f b→a=b)(x:α):∀ (l:List α),(l.map f).idxOf (f x)=l.idxOf x
 | []=>rfl
 | y::l=>by
  rw[List.map_cons,List.idxOf_cons,List.idxOf_cons,lM f hf x l]
  by_cases h:y=x
  ·subst h; simp
  ·have h2:¬ f y=f x:=fun z=>h (hf _ _ z)
   rw[beq_eq_false_iff_ne.mpr h,beq_eq_false_iff_ne.mpr h2]
def oI(n:Nat):Option Int:=some (n:Int)
theorem vy(a b:Nat)(h:oI a=oI b):a=b:=by have:=Option.some.inj h; omega
theorem n9(x:Nat):∀ ns:List Nat,fC (iN x) (ns.map iN)=decide (x∈ns)
 | []=>rfl
 | y::ns=>by
  have ih:=n9 x ns
  show (ej (iN y) (iN x)||fC (iN x) (ns.map iN))=_
  rw[ih]
  show (decide ((y:Int)=(x:Int))||decide (x∈ns))=_
  by_cases h:y=x
  ·subst h; simp
  ·have h2:¬ x=y:=fun z=>h z.symm
   have h3:¬ (y:Int)=(x:Int):=by omega
   rw[decide_eq_false h3]
   simp[h2]
theorem uP(ns:List Nat):(ns.map iN).all cx=true:=by
 rw[List.all_eq_true]
 intro v hv
 obtain⟨n,_,rfl⟩:=List.mem_map.mp hv
 rfl
def yA:Sp:=fun vs H Q _=>∃ (lp:Addr) (d:Nat) (T:List Stp),vs=[.ref lp]∧yS H lp (aU d T)∧qi (aU d T)∧cy d T∧∀ (q:Addr) (H':Hp),Same H H'→H q=none→ListR H' q (gW (db ((bW d T).flatMap bx)) d false T)→Q (.ref q) H'
theorem BH(D:DefAt K mg "_law_due" aH) (z_len:mg "len" = none) (z_range:mg "range" = none) (c_law_partners:ba P w K mg base 1 "_law_partners" ["_law_lines"] (qP K)) (c_law_firsts:ba P w K mg base 1 "_law_firsts" ["_law_lines"] qm) (c_law_slots:ba P w K mg base 1 "_law_slots" ["_law_lines"] nX) (c_law_rows:ba P w K mg base 1 "_law_rows" ["_law_at", "_law_lines", "_law_partner", "_law_firsts_here", "_law_slots_here", "_law_lent"] qZ):ba P w K mg base 2 "_law_due" ["_law_lines"] yA:=by
 refine D.cal (k:=1) sc_law_due (fun _ _ _ _ _ _ us hl=>match us,hl with | [_],_=>rfl) (fun vs H Q E h=>by obtain⟨_,_,_,rfl,_⟩:=h; rfl) (fun f cdv A outer s H vs Q E hr h=>?_)
 obtain⟨lp,d,T,rfl,hlp,ok,hf,q⟩:=h
 refine⟨_,(ae (ar 1 sc_law_due.nd (aG c_law_partners hr (aa (pv 0 (hv:=jm)) ab) (hg:=DN)) (hx:=CQ))
   (ae (ar 2 sc_law_due.nd (aG c_law_firsts hr (aa (pv 0 (hv:=jm)) ab) (hg:=CM)) (hx:=Di))
   (ae (ar 3 sc_law_due.nd (aG c_law_slots hr (aa (pv 0 (hv:=jm)) ab) (hg:=C7)) (hx:=Dt))
   (ae (tP (CompSc.to (fsc:=(defScope aH)) (N:=["_law_lines", "_law_partner", "_law_firsts_here", "_law_slots_here", "_law_lends", "_law_due_here", "_law_at", "_law_lent"]) (N0:=["_law_lines", "_law_partner", "_law_firsts_here", "_law_slots_here", "_law_lends", "_law_due_here", "_law_at'", "_law_lent"]) (T:=["_law_at"]) ⟨by decide +kernel,by decide +kernel,by decide +kernel,by decide +kernel,by decide +kernel,by decide +kernel,by decide +kernel⟩ rfl rfl) rfl sc_law_due.nd (i:=4) rfl Fz (gd Ar z_range (aa (bv (bb K) z_len bQ (aa (pv 0 (hv:=jm)) ab) (hg:=nZ)) ab)) (fun _ _ _ _=>(bt 8 (show (["_law_lines", "_law_partner", "_law_firsts_here", "_law_slots_here", "_law_lends", "_law_due_here", "_law_at'", "_law_lent", "_law_at"]:List Str).Nodup from by decide +kernel) (hx:=(ju (defScope aH) (by decide +kernel))) (hf:=mw (defScope aH) (by decide +kernel)))) (eC (show (["_law_lines", "_law_partner", "_law_firsts_here", "_law_slots_here", "_law_lends", "_law_due_here", "_law_at", "_law_lent"]:List Str).length≤8 from by decide)) (fun _ _ _ _=>(j7 (aD bT (aw (aO K) (aW K PySem.F.plainAttrs_str PySem.F.slot_str_split PySem.F.type_str_split fQ (aw (aO K) (pv 0 (hv:=(d0 (defScope aH) (by decide +kernel)))) (pv 8 (hv:=(d0 (defScope aH) (by decide +kernel)))) (fun _ _=>rfl)) (aa al ab)) ai (fun _ _=>rfl)) al (aL _)))) (fun _ _ _ _=>(pv 8 (hv:=(d0 (defScope aH) (by decide +kernel))))))
   (ae (ar 5 sc_law_due.nd (a_ ab) (hx:=EE))
   (ae (cE PassesOwn.never rfl (gd Ar z_range (aa (bv (bb K) z_len bQ (aa (pv 0 (hv:=jm)) ab) (hg:=nZ)) ab)) (bt 6 sc_law_due.nd (hx:=E8)) (ae (ar 7 sc_law_due.nd ai (hx:=we))
   (ae (bG (aD (jp K) (pv 6 (hv:=pR)) (pv 4 (hv:=wa)) (by with_unfolding_all rfl)) (aj (ar 7 sc_law_due.nd (ap az (bv iV z_len bQ (aa (pv 3 (hv:=xb)) ab) (hg:=nZ)) (aW K PySem.F.plainAttrs_list PySem.F.slot_list_index PySem.F.type_list_index (me K) (pv 4 (hv:=wa)) (aa (pv 6 (hv:=pR)) ab))) (hx:=we))) aY)
   (ae (bG (aD bT (aw (aO K) (pv 0 (hv:=jm)) (pv 6 (hv:=pR)) (fun _ _=>rfl)) al (aL _)) (aj (ar 7 sc_law_due.nd (ap az (bv iV z_len bQ (aa (pv 3 (hv:=xb)) ab) (hg:=nZ)) (aW K PySem.F.plainAttrs_list PySem.F.slot_list_index PySem.F.type_list_index (me K) (pv 4 (hv:=wa)) (aa (aw (fj K) (pv 1 (hv:=BC)) (pv 6 (hv:=pR)) (fun _ _=>rfl)) ab))) (hx:=we))) aY)
   (aj (bu (aW K PySem.F.plainAttrs_list PySem.F.slot_list_extend PySem.F.type_list_extend eU (pv 5 (hv:=z_)) (aa (aG c_law_rows hr (aa (pv 6 (hv:=pR)) (aa (pv 0 (hv:=jm)) (aa (pv 1 (hv:=BC)) (aa (pv 2 (hv:=EO)) (aa (pv 3 (hv:=xb)) (aa (pv 7 (hv:=CS)) ab)))))) (hg:=Eh)) ab))))))))
   (aj (aA (ap az (pv 5 (hv:=z_)) (a_ (aa (bd (aa al (aa (bv (bb K) z_len bQ (aa (pv 0 (hv:=jm)) ab) (hg:=nZ)) ab))) ab))))))))))),?_⟩
 have hpos:=AH d 0 T ⟨[],[]⟩ (gM hf)
 have hdc:=ph hf
 have hst:StandsAt (aU d T) (aU d T) 0:=fun i ws e=>by rw[Nat.zero_add]; exact e
 have hpt:=(gb d 0 T ⟨[],[]⟩ (gM hf)).2
 have hsd:=lh ((aU d T).flatMap aM)
 rw[eZ d T hf]at hsd
 have hnm:gY (fun n=>n∈db ((bW d T).flatMap bx)) d T:=iU d T (gJ hf) fun n hn=>jw hn
 have hln:=oi (W:=aU d T) (kvp:=bV (aU d T)) (kvs:=cn ((aU d T).flatMap aM) []) (NM:=db ((bW d T).flatMap bx)) (fun n hn=>by
  unfold ef aX
  rw[eZ d T hf,hsd.2 n,if_pos hn]; rfl) d 0 T hst hpt hf hnm
 have hcn:=cS d T
 have hkl:(cn ((aU d T).flatMap aM) []).length=(db ((bW d T).flatMap bx)).length:=by rw[eZ d T hf]; exact hsd.1
 rw[← hcn]at hdc
 generalize db ((bW d T).flatMap bx)=NM at hdc hkl q
 generalize gW NM d false T=R at hdc q
 generalize hkk:cn ((aU d T).flatMap aM) []=kvs at hdc hln hkl
 have hlw:=pz hf
 generalize aU d T=W at *
 walk_at "rd1"
 refine⟨lp,W,rfl,hlp,ok.ok,ok.sz,by have:=ok.len; omega,hpos,fun pp H1 s1 e1=>?_⟩
 walk_at "nx"
 refine⟨lp,W,rfl,s1 _ _ hlp,ok,fun fq H2 s2 e2=>?_⟩
 have s12:=s1.trans s2
 walk_at "nx"
 refine⟨lp,W,rfl,s12 _ _ hlp,ok,fun sd H3 s3 e3=>?_⟩
 rw[hkk]at e3
 have s13:=s12.trans s3
 walk_at "nx"
 refine⟨_,.inl (SqL.of (s13 _ _ hlp)),?_⟩
 have hWl:=ok.len
 rw[List.length_map,List.length_map]
 refine⟨by omega,by omega,fun L hL=>?_⟩
 rw[show ((W.length:Nat):Int).toNat=W.length from Int.toNat_natCast _]
 refine qy (fun i ys H'=>∃ ns:List Nat,Same H3 H'∧H' L=some (.lst ys)∧ys=ns.map iN∧ns.length≤i∧ns=(List.range i).filter fun j=>decide ((W.getD j []).headD "" = "lend")) ⟨[],af hL _,ac,rfl,Nat.le_refl _,rfl⟩ ?_ ?_
 ·rintro i ys H' hi ⟨ns,sm,hl',rfl,hnl,hns⟩
  have hwi:W[i]? = some W[i]:=List.getElem?_eq_getElem hi
  have hwm:=List.getElem_mem hi
  have hgd:W.getD i []=W[i]:=by rw[List.getD_eq_getElem?_getD,hwi]; rfl
  generalize W[i]=ws at hwi hwm hgd
  have ho:=ok.ok ws hwm
  have hz:=ok.sz ws hwm
  have hat:dw ((W.map (Txt.join " ")).map V.str) (i:Int)=some (.str (Txt.join " " ws)):=bC (by rw[List.getElem?_map,List.getElem?_map,hwi]; rfl)
  obtain⟨w0,wr,rfl⟩:=List.exists_cons_of_ne_nil ho.ne
  rw[Int.zero_add]
  walk_at "rd1"
  refine⟨_,_,.inl (SqL.of (sm _ _ (s13 _ _ hlp))),hat,?_⟩
  walk_at "rd1"
  refine⟨by decide,by omega,fun wq hwq=>?_⟩
  rw[ho.split]
  have s5:=af hwq (.lst ((w0::wr).map V.str))
  have e5:upd H' wq (.lst ((w0::wr).map V.str)) wq=some (.lst ((w0::wr).map V.str)):=ac
  generalize upd H' wq (.lst ((w0::wr).map V.str))=H5 at s5 e5 ⊢
  refine⟨_,_,.inl (SqL.of e5),cm,?_⟩
  walk_at "rd1"
  have sm5:=sm.trans s5
  have hl5:=s5 _ _ hl'
  refine bh (fun c=>?_) (fun c=>?_)
  ·refine pb hi (by rw[List.length_map]; exact hnl) (aQ (by omega)) hl5 ⟨ns++[i],sm5.upd hL _,ac,oT _ _,by simp; omega,?_⟩
   rw[fY (f:=fun j=>decide ((W.getD j []).headD "" = "lend")),if_pos (by rw[hgd]; exact decide_eq_true c),← hns]
  ·refine uq hi ⟨ns,sm5,hl5,rfl,by omega,?_⟩
   rw[fY (f:=fun j=>decide ((W.getD j []).headD "" = "lend")),if_neg (by rw[hgd]; simpa using c),← hns,List.append_nil]
 rintro ys H4 ⟨ns,s4,e4,rfl,hnl,hns⟩
 have hns':ns=bY W:=hns
 subst hns'
 have s14:=s13.trans s4
 have e1':=s4 _ _ (s3 _ _ (s2 _ _ e1))
 have e2':=s4 _ _ (s3 _ _ e2)
 have e3':=s4 _ _ e3
 walk_at "nx"
 refine⟨by decide,fun dq hdq=>?_⟩
 have s5:=af hdq (.lst [])
 have e5:upd H4 dq (.lst []) dq=some (.lst []):=ac
 generalize upd H4 dq (.lst [])=H5 at s5 e5 ⊢
 walk_at "nx"
 refine⟨_,.inl (SqL.of ((s14.trans s5) _ _ hlp)),?_⟩
 rw[List.length_map,List.length_map]
 refine⟨by omega,by omega,?_⟩
 rw[show ((W.length:Nat):Int).toNat=W.length from Int.toNat_natCast _]
 refine iq (fun i σ H'=>∃ (o6 o7:Option V) (as:List Addr),σ=[some (.ref lp),some (.ref pp),some (.ref fq),some (.ref sd),some (.ref L),some (.ref dq),o6,o7]∧Same H4 H'∧H' dq=some (.lst (as.map V.ref))∧Paired (bg H') as (cf W (cK (bV W)) (aI W) (e_ kvs) (fun i=>iN (cG NM W (cK (bV W)) i)) 0 (W.take i)))
  ⟨none,none,[],rfl,s5,e5,.nil⟩ ?_ ?_
 ·rintro i σ H6 hi ⟨o6,o7,as,rfl,sm,hdq6,hP⟩
  have hwi:W[i]? = some W[i]:=List.getElem?_eq_getElem hi
  have hwm:=List.getElem_mem hi
  have hgd:W.getD i []=W[i]:=by rw[List.getD_eq_getElem?_getD,hwi]; rfl
  have hlni:=hln i W[i] hwi
  rw[Nat.zero_add]at hlni
  generalize W[i]=ws at hwi hwm hgd hlni
  have ho:=ok.ok ws hwm
  have hat:dw ((W.map (Txt.join " ")).map V.str) (i:Int)=some (.str (Txt.join " " ws)):=bC (by rw[List.getElem?_map,List.getElem?_map,hwi]; rfl)
  have jb:=dN ho (x := "back") (show 32∉_ by decide)
  have lp6:=sm _ _ (s14 _ _ hlp)
  have pp6:=sm _ _ e1'
  have fq6:=sm _ _ e2'
  have sd6:=sm _ _ e3'
  have L6:=sm _ _ e4
  have hal:=av hP
  have hdl:=i8 (W:=W) (pt:=cK (bV W)) (fs:=aI W) (sl:=e_ kvs) (lent:=fun i=>iN (cG NM W (cK (bV W)) i)) (W.take i) 0
  rw[List.length_take]at hdl
  have hmem:i∈bY W ↔ ws.headD "" = "lend" := by
   unfold bY
   rw[List.mem_filter,hgd,decide_eq_true_eq]
   exact⟨fun z=>z.2,fun z=>⟨List.mem_range.mpr hi,z⟩⟩
  rw[Int.zero_add]
  walk_at "rd1"
  walk_at "nx"
  refine⟨_,.inl (SqL.of L6),rfl,uP _,?_⟩
  rw[show V.int (i:Int)=iN i from rfl,n9]
  refine bh (fun c=>?_) (fun c=>?_)
  ·have hm:i∈bY W:=of_decide_eq_true c
   have nb:¬ ws=[("back" : Str)]:=fun z=>by
    have:=hmem.mp hm
    rw[z]at this
    exact absurd this (show ¬ ("back" : Str) = "lend" by decide +kernel)
   have hlt:cG NM W (cK (bV W)) i=kvs.length+(bY W).idxOf i:=by
    unfold cG
    rw[if_neg (by rw[hgd]; exact nb),if_pos hm,hkl]
   refine⟨_,_,rfl,sd6,⟨_,SqL.of L6⟩,L,(bY W).map oI,oI i,rfl,rfl,SqL.of (by rw[List.map_map]; exact L6),List.mem_map.mpr ⟨i,hm,rfl⟩,?_⟩
   rw[lM oI vy]
   walk_at "rd1"
   walk_at "nx"
   refine⟨_,_,.inl (SqL.of lp6),hat,?_⟩
   walk_at "rd1"
   rw[if_neg (fun z=>nb (jb.mp z))]
   walk_at "nx"
   refine⟨⟨_,SqL.of hdq6⟩,i,lp,pp,fq,sd,kvs.length+(bY W).idxOf i,W,bV W,kvs,ws,rfl,lp6,ok,pp6,fq6,sd6,hwi,hlni,fun rq H7 s7 hrq hR=>?_⟩
   obtain⟨bs1,b1,b2⟩:=hR
   have hdq7:=s7 _ _ hdq6
   have hrl:(bD W (cK (bV W)) (aI W) (e_ kvs) (fun _=>iN (kvs.length+(bY W).idxOf i)) i ws).length≤3:=gU
   have hpl:=av b2
   refine⟨dq,rq,_,_,rfl,rfl,hdq7,b1,by rw[List.length_map,List.length_map]; exact aQ (by omega),?_⟩
   have hnew:cf W (cK (bV W)) (aI W) (e_ kvs) (fun i=>iN (cG NM W (cK (bV W)) i)) 0 (W.take (i+1))=cf W (cK (bV W)) (aI W) (e_ kvs) (fun i=>iN (cG NM W (cK (bV W)) i)) 0 (W.take i)++bD W (cK (bV W)) (aI W) (e_ kvs) (fun _=>iN (kvs.length+(bY W).idxOf i)) i ws:=by
    rw[List.take_add_one,hwi]
    show cf _ _ _ _ _ 0 (W.take i++[ws])=_
    rw[da,Nat.zero_add,List.length_take,Nat.min_eq_left (by omega)]
    congr 1
    show bD _ _ _ _ _ i ws++[]=_
    rw[List.append_nil]
    refine iW ?_
    show iN (cG NM W (cK (bV W)) i)=iN (kvs.length+(bY W).idxOf i)
    rw[hlt]
   have keep:∀ b r,bg H7 b r→bg (upd H7 dq (.lst (as.map V.ref++bs1.map V.ref))) b r:=fun b r z=>by
    show upd H7 dq _ b=_
    rw[ah (ci z hdq7 (fun z=>nomatch z))]; exact z
   refine⟨_,_,as++bs1,rfl,(sm.trans s7).upd hdq _,by rw[ac,List.map_append],?_⟩
   rw[hnew]
   exact dD (Paired.imp' (fun b r z=>keep b r (s7 _ _ z)) hP) (Paired.imp' keep b2)
  ·have hm:¬ i∈bY W:=fun z=>c (decide_eq_true z)
   walk_at "nx"
   refine⟨_,_,.inl (SqL.of lp6),hat,?_⟩
   walk_at "rd1"
   refine bh (fun cb=>?_) (fun cb=>?_)
   ·have hb:=jb.mp cb
    obtain⟨j,hj,hjm⟩ : ∃ j:Nat,aK (bV W) (.inl (i:Int))=some (.int (j:Int))∧j∈bY W:=by
     subst hb
     cases hlni with
     | back j x y h1 h2 h3=>
      refine⟨j,h1,?_⟩
      unfold bY
      rw[List.mem_filter]
      refine⟨List.mem_range.mpr (List.getElem?_eq_some_iff.mp h2).1,?_⟩
      rw[List.getD_eq_getElem?_getD,h2]; rfl
     | jump h j hh=>exact absurd hh (by decide +kernel)
     | oth h r hh _ _ h1=>simp at h1
    have hlt:cG NM W (cK (bV W)) i=kvs.length+(bY W).idxOf j:=by
     unfold cG
     rw[if_pos (by rw[hgd]; exact hb),hV hj,hkl]
    refine⟨_,_,rfl,sd6,⟨_,SqL.of L6⟩,.inr ⟨pp,_,.inl (i:Int),_,rfl,rfl,pp6,hj,?_⟩⟩
    refine⟨L,(bY W).map oI,oI j,rfl,rfl,SqL.of (by rw[List.map_map]; exact L6),List.mem_map.mpr ⟨j,hjm,rfl⟩,?_⟩
    rw[lM oI vy]
    walk_at "rd1"
    walk_at "nx"
    refine⟨⟨_,SqL.of hdq6⟩,i,lp,pp,fq,sd,kvs.length+(bY W).idxOf j,W,bV W,kvs,ws,rfl,lp6,ok,pp6,fq6,sd6,hwi,hlni,fun rq H7 s7 hrq hR=>?_⟩
    obtain⟨bs1,b1,b2⟩:=hR
    have hdq7:=s7 _ _ hdq6
    have hrl:(bD W (cK (bV W)) (aI W) (e_ kvs) (fun _=>iN (kvs.length+(bY W).idxOf j)) i ws).length≤3:=gU
    have hpl:=av b2
    refine⟨dq,rq,_,_,rfl,rfl,hdq7,b1,by rw[List.length_map,List.length_map]; exact aQ (by omega),?_⟩
    have hnew:cf W (cK (bV W)) (aI W) (e_ kvs) (fun i=>iN (cG NM W (cK (bV W)) i)) 0 (W.take (i+1))=cf W (cK (bV W)) (aI W) (e_ kvs) (fun i=>iN (cG NM W (cK (bV W)) i)) 0 (W.take i)++bD W (cK (bV W)) (aI W) (e_ kvs) (fun _=>iN (kvs.length+(bY W).idxOf j)) i ws:=by
     rw[List.take_add_one,hwi]
     show cf _ _ _ _ _ 0 (W.take i++[ws])=_
     rw[da,Nat.zero_add,List.length_take,Nat.min_eq_left (by omega)]
     congr 1
     show bD _ _ _ _ _ i ws++[]=_
     rw[List.append_nil]
     refine iW ?_
     show iN (cG NM W (cK (bV W)) i)=iN (kvs.length+(bY W).idxOf j)
     rw[hlt]
    have keep:∀ b r,bg H7 b r→bg (upd H7 dq (.lst (as.map V.ref++bs1.map V.ref))) b r:=fun b r z=>by
     show upd H7 dq _ b=_
     rw[ah (ci z hdq7 (fun z=>nomatch z))]; exact z
    refine⟨_,_,as++bs1,rfl,(sm.trans s7).upd hdq _,by rw[ac,List.map_append],?_⟩
    rw[hnew]
    exact dD (Paired.imp' (fun b r z=>keep b r (s7 _ _ z)) hP) (Paired.imp' keep b2)
   ·have nb:¬ ws=[("back" : Str)]:=fun z=>cb (jb.mpr z)
    have hlt:cG NM W (cK (bV W)) i=0:=by
     unfold cG
     rw[if_neg (by rw[hgd]; exact nb),if_neg hm]
    walk_at "nx"
    refine⟨⟨_,SqL.of hdq6⟩,i,lp,pp,fq,sd,0,W,bV W,kvs,ws,rfl,lp6,ok,pp6,fq6,sd6,hwi,hlni,fun rq H7 s7 hrq hR=>?_⟩
    obtain⟨bs1,b1,b2⟩:=hR
    have hdq7:=s7 _ _ hdq6
    have hrl:(bD W (cK (bV W)) (aI W) (e_ kvs) (fun _=>iN (0)) i ws).length≤3:=gU
    have hpl:=av b2
    refine⟨dq,rq,_,_,rfl,rfl,hdq7,b1,by rw[List.length_map,List.length_map]; exact aQ (by omega),?_⟩
    have hnew:cf W (cK (bV W)) (aI W) (e_ kvs) (fun i=>iN (cG NM W (cK (bV W)) i)) 0 (W.take (i+1))=cf W (cK (bV W)) (aI W) (e_ kvs) (fun i=>iN (cG NM W (cK (bV W)) i)) 0 (W.take i)++bD W (cK (bV W)) (aI W) (e_ kvs) (fun _=>iN (0)) i ws:=by
     rw[List.take_add_one,hwi]
     show cf _ _ _ _ _ 0 (W.take i++[ws])=_
     rw[da,Nat.zero_add,List.length_take,Nat.min_eq_left (by omega)]
     congr 1
     show bD _ _ _ _ _ i ws++[]=_
     rw[List.append_nil]
     refine iW ?_
     show iN (cG NM W (cK (bV W)) i)=iN (0)
     rw[hlt]
    have keep:∀ b r,bg H7 b r→bg (upd H7 dq (.lst (as.map V.ref++bs1.map V.ref))) b r:=fun b r z=>by
     show upd H7 dq _ b=_
     rw[ah (ci z hdq7 (fun z=>nomatch z))]; exact z
    refine⟨_,_,as++bs1,rfl,(sm.trans s7).upd hdq _,by rw[ac,List.map_append],?_⟩
    rw[hnew]
    exact dD (Paired.imp' (fun b r z=>keep b r (s7 _ _ z)) hP) (Paired.imp' keep b2)
 ·rintro σ H6 ⟨o6,o7,as,rfl,sm,hdq6,hP⟩
  rw[List.take_length]at hP
  walk_at "nx"
  have hal:=av hP
  have hdl:=i8 (W:=W) (pt:=cK (bV W)) (fs:=aI W) (sl:=e_ kvs) (lent:=fun i=>iN (cG NM W (cK (bV W)) i)) W 0
  refine⟨_,.inl (SqL.of (sm _ _ (s14 _ _ hlp))),by decide,fun t1 ht1=>?_⟩
  rw[List.length_map,List.length_map]
  have sT:=af ht1 (.tup [V.str "end", V.int (W.length:Int)])
  have r1:bg (upd H6 t1 (.tup [V.str "end", V.int (W.length:Int)])) t1 [.str "end", iN W.length]:=ac
  generalize upd H6 t1 (.tup [V.str "end", V.int (W.length:Int)])=H7 at sT r1 ⊢
  refine⟨by decide,fun m1 hm1=>?_⟩
  have s8:=af hm1 (.lst [.ref t1])
  have L1:=dn r1 hm1
  generalize upd H7 m1 (.lst [.ref t1])=H8 at s8 L1 ⊢
  obtain⟨bs1,b1,b2⟩:=L1
  have s68:=sT.trans s8
  have a2:Paired (bg H8) as _:=Paired.imp' (fun _ _ z=>s68 _ _ z) hP
  refine⟨_,_,s68 _ _ hdq6,b1,dL a2 b2 (by simp only[List.length_cons,List.length_nil]; omega),fun m2 hm2=>?_⟩
  have s08:=(s14.trans sm).trans s68
  refine q m2 _ (s08.trans (af hm2 _)) (s08.free hm2) ?_
  rw[← hdc]
  exact eG a2 b2 hm2
def fV:V→Bool
 | .str _=>true
 | .int _=>true
 | _=>false
def yx:Sp:=fun vs H Q _=>∃ (a b:Addr) (r:cD),vs=[.ref a,.ref b]∧bg H a r∧bg H b r∧(∀ v∈r,fV v=true)∧r.length≤100∧∀ H':Hp,Same H H'→Q (.bl true) H'
theorem zS(D:DefAt K mg "_law_row" bP) (z_isinstance:mg "isinstance" = none) (z_tuple:mg "tuple" = none) (z_len:mg "len" = none) (z_zip:mg "zip" = none) (z_str:mg "str" = none) (z_bool:mg "bool" = none) (z_int:mg "int" = none):ba P w K mg base 1 "_law_row" ["_law_found", "_law_due_here"] yx:=by
 refine D.cal (k:=0) sc_law_row (fun _ _ _ _ _ _ us hl=>match us,hl with | [_,_],_=>rfl) (fun vs H Q E h=>by obtain⟨_,_,_,rfl,_⟩:=h; rfl) (fun f cdv A outer s H vs Q E hr h=>?_)
 obtain⟨a,b,r,rfl,ha,hb,hv,hl,q⟩:=h
 refine⟨_,(ae (bG (PW.pt' (gS (gF (fG (bv fm z_isinstance cY (aa (pv 0 (hv:=wJ)) (aa (gw z_tuple ko (hg:=E4)) ab)) (hg:=lu)))) (gD (aD gN (bv (bb K) z_len bQ (aa (pv 0 (hv:=wJ)) ab) (hg:=A4)) (bv (bb K) z_len bQ (aa (pv 1 (hv:=AT)) ab) (hg:=A4)) (aL _))))) (aj (aA fg)) aY)
   (ae (cE PassesOwn.never rfl (lL K ET z_zip (aa (pv 0 (hv:=wJ)) (aa (pv 1 (hv:=AT)) ab))) (eR K (n:=2) (b6 (bt 2 sc_law_row.nd (hx:=Ey)) (b6 (bt 3 sc_law_row.nd (hx:=Ew)) eQ))) (ae (bG (PW.pt' (gS (aD gN (bv fm z_isinstance cY (aa (pv 3 (hv:=zV)) (aa (gw z_str ic (hg:=xO)) ab)) (hg:=lu)) (bv fm z_isinstance cY (aa (pv 2 (hv:=pe)) (aa (gw z_str ic (hg:=xO)) ab)) (hg:=lu)) (aL _)) (gS (fG (bv fm z_isinstance cY (aa (pv 2 (hv:=pe)) (aa (gw z_bool zu (hg:=D4)) ab)) (hg:=lu))) (gD (aD gN (pv 2 (hv:=pe)) (pv 3 (hv:=zV)) (aL _)))))) (aj (aA fg)) aY)
   (aj (bG (PW.pt' (gL (gF (fG (bv fm z_isinstance cY (aa (pv 2 (hv:=pe)) (aa (gw z_str ic (hg:=xO)) ab)) (hg:=lu)))) (ia (gF (fG (bv fm z_isinstance cY (aa (pv 2 (hv:=pe)) (aa (gw z_int kt (hg:=EX)) ab)) (hg:=lu))))))) (aj (aA fg)) aY))))
   (aj (aA fg)))),?_⟩
 walk_at "rd1"
 refine⟨"tuple", by simp[cW,show H a=_ from ha],by decide,?_⟩
 rw[if_neg (by decide)]
 refine⟨_,.inr (SqT.of ha),_,.inr (SqT.of hb),?_⟩
 rw[if_neg (by simp)]
 walk_at "nx"
 refine⟨⟨_,SqT.of ha⟩,⟨_,SqT.of hb⟩,?_⟩
 refine ji (xs:=r) (ys:=r) (fun i σ H'=>∃ o2 o3:Option V,σ=[some (.ref a),some (.ref b),o2,o3]∧Same H H') rfl ⟨_,_,rfl,fun _ _ z=>z⟩ (fun i σ H' _ h=>by obtain⟨_,_,_,sm⟩:=h; exact⟨SqT.of (sm _ _ ha),SqT.of (sm _ _ hb)⟩) ?_ ?_
 ·rintro i x y t σ H' hx hy ⟨o2,o3,rfl,sm⟩ ht
  rw[hx]at hy
  cases hy
  have hfv:=hv x (List.mem_of_getElem? hx)
  have st:=af ht (.tup [x,x])
  have et:upd H' t (.tup [x,x]) t=some (.tup [x,x]):=ac
  generalize upd H' t (.tup [x,x])=H2 at st et ⊢
  walk_at "rd1"
  refine⟨t,_,rfl,SqT.of et,rfl,?_⟩
  cases x with
  | str z=>
   walk_at "rd1"
   refine⟨"str", rfl,by decide, "str", rfl,by decide,?_⟩
   rw[if_neg (by decide)]
   refine⟨"str", rfl,by decide,?_⟩
   rw[if_neg (by decide),if_neg (by decide)]
   walk_at "nx"
   refine⟨"str", rfl,by decide,?_⟩
   rw[if_neg (by decide)]
   exact⟨_,_,rfl,sm.trans st⟩
  | int z=>
   walk_at "rd1"
   refine⟨"int", rfl,by decide, "int", rfl,by decide,?_⟩
   rw[if_neg (by decide)]
   refine⟨"int", rfl,by decide,?_⟩
   rw[if_neg (by decide),if_neg (by decide)]
   walk_at "nx"
   refine⟨"int", rfl,by decide,?_⟩
   rw[if_pos (by decide)]
   refine⟨"int", rfl,by decide,?_⟩
   rw[if_neg (by decide)]
   exact⟨_,_,rfl,sm.trans st⟩
  | _=>cases hfv
 ·rintro σ H' ⟨o2,o3,rfl,sm⟩
  walk_at "nx"
  exact q H' sm
def rk:Sp:=fun vs H Q _=>∃ (a b:Addr) (R:List cD),vs=[.ref a,.ref b]∧ListR H a R∧ListR H b R∧(∀ r∈R,(∀ v∈r,fV v=true)∧r.length≤100)∧∀ H':Hp,Same H H'→Q (.bl true) H'
theorem x9(D:DefAt K mg "_law_right" bH) (z_isinstance:mg "isinstance" = none) (z_list:mg "list" = none) (z_len:mg "len" = none) (z_zip:mg "zip" = none) (c_law_row:ba P w K mg base 1 "_law_row" ["_law_found", "_law_due_here"] yx):ba P w K mg base 2 "_law_right" ["_law_found", "_law_due_here"] rk:=by
 refine D.cal (k:=1) sc_law_right (fun _ _ _ _ _ _ us hl=>match us,hl with | [_,_],_=>rfl) (fun vs H Q E h=>by obtain⟨_,_,_,rfl,_⟩:=h; rfl) (fun f cdv A outer s H vs Q E hr h=>?_)
 obtain⟨a,b,R,rfl,⟨as,a1,a2⟩,⟨bs,b1,b2⟩,hR,q⟩:=h
 have la:=av a2
 have lb:=av b2
 refine⟨_,(ae (bG (PW.pt' (gS (gF (fG (bv fm z_isinstance cY (aa (pv 0 (hv:=wF)) (aa (gw z_list qM (hg:=E7)) ab)) (hg:=Dq)))) (gD (aD gN (bv (bb K) z_len bQ (aa (pv 0 (hv:=wF)) ab) (hg:=Aj)) (bv (bb K) z_len bQ (aa (pv 1 (hv:=zP)) ab) (hg:=Aj)) (aL _))))) (aj (aA fg)) aY)
   (ae (cE PassesOwn.never rfl (zt K Dl z_zip (aa (pv 0 (hv:=wF)) (aa (pv 1 (hv:=zP)) ab))) (eR K (n:=2) (b6 (bt 2 sc_law_right.nd (hx:=DJ)) (b6 (bt 3 sc_law_right.nd (hx:=Er)) eQ))) (aj (bG (gF (fG (aG c_law_row hr (aa (pv 2 (hv:=EQ)) (aa (pv 3 (hv:=Eu)) ab)) (hg:=Ff)))) (aj (aA fg)) aY)))
   (aj (aA fg)))),?_⟩
 walk_at "rd1"
 refine⟨"list", by simp[cW,a1],by decide,?_⟩
 rw[if_neg (by decide)]
 refine⟨_,.inl (SqL.of a1),_,.inl (SqL.of b1),?_⟩
 rw[if_neg (by simp[la,lb])]
 walk_at "nx"
 refine⟨⟨_,SqL.of a1⟩,⟨_,SqL.of b1⟩,?_⟩
 refine wV (xs:=as.map V.ref) (ys:=bs.map V.ref) (fun i σ H'=>∃ o2 o3:Option V,σ=[some (.ref a),some (.ref b),o2,o3]∧Same H H') (by rw[List.length_map,List.length_map,la,lb]) ⟨_,_,rfl,fun _ _ z=>z⟩ (fun i σ H' _ h=>by obtain⟨_,_,_,sm⟩:=h; exact⟨SqL.of (sm _ _ a1),SqL.of (sm _ _ b1)⟩) ?_ ?_
 ·rintro i x y t σ H' hx hy ⟨o2,o3,rfl,sm⟩ ht
  have hi:i<as.length:=by have:=(List.getElem?_eq_some_iff.mp hx).1; simpa using this
  have hi':i<bs.length:=by omega
  rw[List.getElem?_map,List.getElem?_eq_getElem hi]at hx
  rw[List.getElem?_map,List.getElem?_eq_getElem hi']at hy
  cases hx
  cases hy
  obtain⟨r,hr1,hr2⟩:=bZ a2 (List.getElem?_eq_getElem hi)
  obtain⟨r',hr1',hr2'⟩:=bZ b2 (List.getElem?_eq_getElem hi')
  rw[hr1]at hr1'
  cases hr1'
  obtain⟨f1,f2⟩:=hR r (List.mem_of_getElem? hr1)
  have st:=af ht (.tup [V.ref as[i],V.ref bs[i]])
  have et:upd H' t (.tup [V.ref as[i],V.ref bs[i]]) t=some (.tup [V.ref as[i],V.ref bs[i]]):=ac
  generalize upd H' t (.tup [V.ref as[i],V.ref bs[i]])=H2 at st et ⊢
  have s02:=sm.trans st
  walk_at "rd1"
  refine⟨t,_,rfl,SqT.of et,rfl,?_⟩
  walk_at "rd1"
  refine⟨_,_,r,rfl,s02 _ _ hr2,s02 _ _ hr2',f1,f2,fun H3 s3=>?_⟩
  walk_at "rd1"
  exact⟨_,_,rfl,s02.trans s3⟩
 ·rintro σ H' ⟨o2,o3,rfl,sm⟩
  walk_at "nx"
  exact q H' sm
end
section
variable{W:List (List Str)}{kvp kvs:List (aB × V)}{g:Nat→Nat}{fs:Nat→Nat}
def Bw(r:cD):Prop:=(∀ v∈r,fV v=true)∧r.length≤100
theorem zg(hk:∀ n:Str,ef kvs (.inr n)→fV (aX kvs (.inr n))=true){i:Nat}{ws:List Str}(h:gg W kvp kvs i ws):∀ r∈bD W (cK kvp) fs (e_ kvs) (fun j=>iN (g j)) i ws,Bw r:=by
 have f1:∀ n:Nat,fV (iN n)=true:=fun _=>rfl
 cases h with
 | lend x y hx hy=>
  rw[ip]
  have k1:=hk x hx
  have k2:=hk y hy
  intro r hr
  simp only[List.mem_cons,List.not_mem_nil,or_false]at hr
  rcases hr with rfl | rfl | rfl <;> refine⟨fun v hv=>?_,by simp⟩ <;> simp only[List.mem_cons,List.not_mem_nil,or_false]at hv <;> rcases hv with rfl | rfl | rfl | rfl <;> first | rfl | exact k1 | exact k2
 | back j x y hj hwj hy=>
  rw[iC,hV hj,show W.getD j []=[("lend" : Str),x,y] by rw[List.getD_eq_getElem?_getD,hwj]; rfl]
  have k2:=hk y hy
  intro r hr
  simp only[List.mem_cons,List.not_mem_nil,or_false]at hr
  rcases hr with rfl | rfl | rfl
  ·refine⟨fun v hv=>?_,by simp⟩
   simp only[List.mem_cons,List.not_mem_nil,or_false]at hv
   rcases hv with rfl | rfl | rfl | rfl <;> rfl
  ·refine⟨fun v hv=>?_,by simp⟩
   simp only[List.mem_cons,List.not_mem_nil,or_false]at hv
   rcases hv with rfl | rfl | rfl
   ·rfl
   ·rfl
   ·exact k2
  ·refine⟨fun v hv=>?_,by simp⟩
   simp only[List.mem_cons,List.not_mem_nil,or_false]at hv
   rcases hv with rfl | rfl | rfl <;> rfl
 | test h n j hh hn hj hjl=>
  rw[gh hh]
  intro r hr
  rw[List.mem_singleton.mp hr]
  refine⟨fun v hv=>?_,by simp⟩
  simp only[List.mem_cons,List.not_mem_nil,or_false]at hv
  rcases hv with rfl | rfl | rfl | rfl <;> rfl
 | jump h j hh hj hjl=>
  rw[gi hh]
  intro r hr
  rw[List.mem_singleton.mp hr]
  refine⟨fun v hv=>?_,by simp⟩
  simp only[List.mem_cons,List.not_mem_nil,or_false]at hv
  rcases hv with rfl | rfl | rfl <;> rfl
 | fi=>rw[j5]; intro r hr; cases hr
 | doo u x hx=>
  rw[p_]
  have k1:=hk x hx
  intro r hr
  rw[List.mem_singleton.mp hr]
  refine⟨fun v hv=>?_,by simp⟩
  simp only[List.mem_cons,List.not_mem_nil,or_false]at hv
  rcases hv with rfl | rfl | rfl | rfl <;> first | rfl | exact k1
 | oth h r hh hr' hrl hr1=>
  rw[eS hh]
  intro r0 hr0
  rw[List.mem_singleton.mp hr0]
  refine⟨fun v hv=>?_,by simp only[List.length_cons,List.length_map]; omega⟩
  rcases List.mem_cons.mp hv with rfl | hv
  ·rfl
  rcases List.mem_cons.mp hv with rfl | hv
  ·rfl
  obtain⟨n,hn,rfl⟩:=List.mem_map.mp hv
  exact hk n (hr' n hn)
theorem vX(hk:∀ n:Str,ef kvs (.inr n)→fV (aX kvs (.inr n))=true):∀ (X:List (List Str)) (l:Nat),LnAll W kvp kvs l X→∀ r∈cf W (cK kvp) fs (e_ kvs) (fun j=>iN (g j)) l X,Bw r
 | [],_,_,r,hr=>by cases hr
 | x::X,l,h,r,hr=>by
  rcases List.mem_append.mp hr with hr | hr
  ·exact zg hk (h 0 x rfl) r hr
  ·exact vX hk X (l+1) (fun i ws e=>by
    have:=h (i+1) ws (by simpa using e)
    rw[show l+1+i=l+(i+1) by omega]; exact this) r hr
end
theorem zx{d:Nat}{T:List Stp}(hf:cy d T):∀ r∈gW (db ((bW d T).flatMap bx)) d false T,Bw r:=by
 have hst:StandsAt (aU d T) (aU d T) 0:=fun i ws e=>by rw[Nat.zero_add]; exact e
 have hpt:=(gb d 0 T ⟨[],[]⟩ (gM hf)).2
 have hsd:=lh ((aU d T).flatMap aM)
 rw[eZ d T hf]at hsd
 have hnm:gY (fun n=>n∈db ((bW d T).flatMap bx)) d T:=iU d T (gJ hf) fun n hn=>jw hn
 have hln:=oi (W:=aU d T) (kvp:=bV (aU d T)) (kvs:=cn ((aU d T).flatMap aM) []) (NM:=db ((bW d T).flatMap bx)) (fun n hn=>by
  unfold ef aX
  rw[eZ d T hf,hsd.2 n,if_pos hn]; rfl) d 0 T hst hpt hf hnm
 rw[← ph hf]
 intro r hr
 rcases List.mem_append.mp hr with hr | hr
 ·refine vX (fun n hn=>?_) _ 0 hln r hr
  unfold ef at hn
  unfold aX at hn ⊢
  rw[eZ d T hf,hsd.2 n]at hn ⊢
  by_cases c:n∈db ((bW d T).flatMap bx)
  ·rw[if_pos c]; rfl
  ·rw[if_neg c]at hn; cases hn
 ·rw[List.mem_singleton.mp hr]
  refine⟨fun v hv=>?_,by simp⟩
  simp only[List.mem_cons,List.not_mem_nil,or_false]at hv
  rcases hv with rfl | rfl <;> rfl
section
variable{P:Program}{w:World}{K:PySem.W.Frag}{mg:Str→Option Value}{base:Heap}
theorem qb(B:Nat):∀ (ws:List Str) (k:Str),(∀ x∈ws,x.length≤B)→(ws.foldl (fun a x=>a++(" " : Str)++x) k).length≤k.length+ws.length * (B+1)
 | [],k,_=>by simp
 | x::ws,k,h=>by
  have ih:=qb B ws (k++(" " : Str)++x) fun z hz=>h z (List.mem_cons_of_mem _ hz)
  have hx:=h x List.mem_cons_self
  have h1:(Str.ofString " ").length=1:=by decide
  rw[Str.length_append,Str.length_append,h1]at ih
  rw[List.foldl_cons,List.length_cons,Nat.succ_mul]
  omega
theorem jJ(B:Nat){k:Str}{ws:List Str}(h:∀ x∈k::ws,x.length≤B):(Txt.join " " (k::ws)).length≤B+ws.length * (B+1):=by
 rw[eK]
 have:=qb B ws k fun z hz=>h z (List.mem_cons_of_mem _ hz)
 have:=h k List.mem_cons_self
 omega
theorem qA{f:List Stp→List Str}{g:List Stp→Prop}(h:∀ b,g b→∀ x∈f b,x.length≤5000):∀ {s:Stp},pI g s→∀ x∈bU f s,x.length≤5000
 | .plain ws,ok,x,hx=>by
  have e:x=Txt.join " " ws:=by simpa [bU] using hx
  subst e
  cases ws with
  | nil=>have:=ok.two; simp at this
  | cons k ws=>
   have:=jJ 20 ok.len
   have h3:=ok.three
   rw[List.length_cons]at h3
   have:ws.length * 21≤2 * 21:=Nat.mul_le_mul (by omega) (Nat.le_refl _)
   omega
 | .lend u v b,⟨o1,o2,o3⟩,x,hx=>by
  simp only[bU,List.mem_cons,List.mem_append,List.not_mem_nil,or_false]at hx
  rcases hx with rfl | hx | rfl
  ·have:=jJ 20 (k := "lend") (ws:=[u,v]) (fun z hz=>by
    simp only[List.mem_cons,List.not_mem_nil,or_false]at hz
    rcases hz with rfl | rfl | rfl
    ·decide
    ·exact o1
    ·exact o2)
   simp only[List.length_cons,List.length_nil]at this
   omega
  ·exact h b o3 x hx
  ·decide
 | .ite n b c,⟨o1,o2,o3⟩,x,hx=>by
  simp only[bU,List.mem_cons,List.mem_append,List.not_mem_nil,or_false]at hx
  rcases hx with rfl | (hx | rfl) | hx | rfl
  ·have:=jJ 1921 (k := "if") (ws:=[bI n]) (fun z hz=>by
    simp only[List.mem_cons,List.not_mem_nil,or_false]at hz
    rcases hz with rfl | rfl
    ·decide
    ·exact hU o1)
   simp only[List.length_cons,List.length_nil]at this
   omega
  ·exact h b o2 x hx
  ·decide
  ·exact h c o3 x hx
  ·decide
 | .whl n b,⟨o1,o2⟩,x,hx=>by
  simp only[bU,List.mem_cons,List.mem_append,List.not_mem_nil,or_false]at hx
  rcases hx with rfl | hx | rfl
  ·have:=jJ 1921 (k := "while") (ws:=[bI n]) (fun z hz=>by
    simp only[List.mem_cons,List.not_mem_nil,or_false]at hz
    rcases hz with rfl | rfl
    ·decide
    ·exact hU o1)
   simp only[List.length_cons,List.length_nil]at this
   omega
  ·exact h b o2 x hx
  ·decide
theorem q8:∀ {d:Nat} {T:List Stp},eh d T→∀ x∈b7 d T,x.length≤5000
 | 0,_,h,_,_=>h.elim
 | d+1,T,h,x,hx=>by
  obtain⟨s,hs,hx⟩:=List.mem_flatMap.mp hx
  exact qA (fun b z=>q8 z) (h s hs) x hx
theorem u0{j k:Nat}{x:Str}{ps:List Str}{sp:Sp}(c:ba P w K mg base j x ps sp)(h:j≤k):ba P w K mg base k x ps sp:=by
 obtain⟨f,fd,F,r⟩:=c.ex
 exact⟨f,fd,F.mono h,r⟩
theorem zr{k:Nat}{x:Str}{ps:List Str}{sp sp':Sp}(c:ba P w K mg base k x ps sp)(h:∀ vs H Q E,sp' vs H Q E→sp vs H Q E):ba P w K mg base k x ps sp':=by
 obtain⟨f,fd,F,r⟩:=c.ex
 exact⟨f,fd,F.imp h,r⟩
def NOt(H:Hp)(p:Addr)(NM:List Str):Prop:=∃ (T:List Stp) (S:Addr→Prop),ProgAt S 10 H p T∧jn 10 T∧(bW 10 T).length≤1000∧((bW 10 T).flatMap bx).length≤5000∧NM=db ((bW 10 T).flatMap bx)
theorem NOt.mono{H H':Hp}{p:Addr}{NM:List Str}(h:NOt H p NM)(s:Same H H'):NOt H' p NM:=by
 obtain⟨T,S,h1,h2⟩:=h
 exact⟨T,S,h1.mono s,h2⟩
theorem xR{k:Nat}(c:ba P w K mg base k "names_of" ["program"] m_):ba P w K mg base k "names_of" ["program"] (A8 NOt):=zr c fun vs H Q E h=>by
 obtain⟨p,NM,rfl,⟨T,S,h1,h2,h3,h4,rfl⟩,q⟩:=h
 exact⟨p,T,S,rfl,h1,h2,h3,h4,q⟩
theorem wY{f:List Stp→List Stp}{g:List Stp→Nat}(h:∀ b,(f b).length≤g b):∀ s:Stp,(eV f s).length≤bi g s
 | .plain _=>by simp[eV,dQ,bi]
 | .lend _ _ b=>by have:=h b; simp[eV,dQ,bi]; omega
 | .ite _ b c=>by have:=h b; have:=h c; simp[eV,dQ,bi]; omega
 | .whl _ b=>by have:=h b; simp[eV,dQ,bi]; omega
theorem lH:∀ (d:Nat) (T:List Stp),(bW d T).length≤ak d T
 | 0,_=>Nat.le_refl _
 | d+1,T=>by
  show (T.flatMap (eV (bW d))).length≤(T.map (bi (ak d))).sum
  induction T with
  | nil=>exact Nat.le_refl _
  | cons s T ih=>
   have:=wY (lH d) s
   rw[List.flatMap_cons,List.length_append,List.map_cons,List.sum_cons]; omega
theorem Af{g:List Stp→Prop}:∀ {s:Stp},fD g s→(bx s).length≤2
 | .plain ws,h=>by cases (show fA ws from h) <;> simp[bx] <;> split <;> simp
 | .lend _ _ _,_=>by simp[bx]
 | .ite _ _ _,_=>by simp[bx]
 | .whl _ _,_=>by simp[bx]
theorem vq{d:Nat}{T:List Stp}(h:jn d T):((bW d T).flatMap bx).length≤2 * ak d T:=by
 have h1:=lH d T
 have h2:=pJ d h
 have go:∀ X:List Stp,(∀ s∈X,∃ g:List Stp→Prop,fD g s)→(X.flatMap bx).length≤2 * X.length:=fun X=>by
  induction X with
  | nil=>intro _; exact Nat.le_refl _
  | cons s X ih=>
   intro hx
   obtain⟨g,hg⟩:=hx s List.mem_cons_self
   have:=Af hg
   have:=ih fun u hu=>hx u (List.mem_cons_of_mem _ hu)
   rw[List.flatMap_cons,List.length_append,List.length_cons]; omega
 have:=go _ h2
 omega
theorem Ao{f:Addr}{fd:FuncData}(F:Fun K "law" "law" cw f fd) (c_law_cell_at:ba P w K mg base 1 "_law_cell_at" ["_law_script", "_law_k"] (vi K)) (c_law_names:ba P w K mg base 1 "_law_names" ["_law_cell"] qg) (c_law_program:ba P w K mg base 3 "_law_program" ["_law_cells", "_law_names_here"] my) (c_law_due:ba P w K mg base 2 "_law_due" ["_law_lines"] yA) (c_code_of:ba P w K mg base 35 "code_of" ["program"] (uJ NOt 10)) (c_law_right:ba P w K mg base 2 "_law_right" ["_law_found", "_law_due_here"] rk):FnOk P w K mg base i7 36 f fd ["_law_script"] (nK K):=by
 refine F.ok sc_law (fun vs H Q E h=>by obtain⟨a,ns,rfl,_⟩:=h; rfl) (fun cdv A outer s H vs Q E hr h=>?_)
 obtain⟨a,ns,rfl,hS,hn,q⟩:=h
 refine⟨_,(ae (ar 1 sc_law.nd (aG c_law_names hr (aa (aG c_law_cell_at hr (aa (pv 0 (hv:=wK)) (aa ai ab)) (hg:=EH)) ab) (hg:=Fa)) (hx:=Ds))
   (ae (hJ (aG c_law_program hr (aa (cu (fP K) (pv 0 (hv:=wK)) (cg ai) (cg ai)) (aa (pv 1 (hv:=Bo)) ab)) (hg:=Aw)) (eR K (n:=2) (b6 (bt 2 sc_law.nd (hx:=EI)) (b6 (bt 3 sc_law.nd (hx:=CZ)) eQ))))
   (ae (ar 4 sc_law.nd (aG c_law_due hr (aa (pv 3 (hv:=Df)) ab) (hg:=CL)) (hx:=Eo))
   (ae (ar 5 sc_law.nd (aG c_code_of hr (aa (pv 2 (hv:=x5)) ab) (hg:=AC)) (hx:=DD))
   (ae (bG (PW.pt' (gS (gF (fG (aG c_law_right hr (aa (pv 5 (hv:=As)) (aa (pv 4 (hv:=Bb)) ab)) (hg:=Bx)))) (gD (aD (sf K hr) (pv 2 (hv:=x5)) (aw (aO K) (aG c_law_program hr (aa (cu (fP K) (pv 0 (hv:=wK)) (cg ai) (cg ai)) (aa (pv 1 (hv:=Bo)) ab)) (hg:=Aw)) ai (fun _ _=>rfl)) (aL _))))) (aj (aA fg)) aY)
   (ae (bu (lD K PySem.F.plainAttrs_list PySem.F.slot_list_clear PySem.F.type_list_clear vk (pv 5 (hv:=As))))
   (aj (aA (aG c_law_right hr (aa (aG c_code_of hr (aa (pv 2 (hv:=x5)) ab) (hg:=AC)) (aa (pv 4 (hv:=Bb)) ab)) (hg:=Bx)))))))))),?_⟩
 walk_at "rd1"
 refine⟨a,ns,0,rfl,hS,by decide,?_⟩
 walk_at "rd1"
 refine⟨_,rfl,fun np H1 sm1 hnp hl1 n1 n7 hb hfree=>?_⟩
 generalize j0 (ns.getD (Int.toNat 0) 0)=nm at hl1 n1 n7 hb hfree
 have ok:NmOk nm:=⟨n1,n7,hb⟩
 walk_at "nx"
 refine⟨_,sm1.seq hS,fun cp hcp=>?_⟩
 rw[qS]
 have hcl:=xn ns (some 1) (some 201)
 have s2:=af hcp (.lst ((jl ns (some 1) (some 201)).map V.int))
 have e2:upd H1 cp (.lst ((jl ns (some 1) (some 201)).map V.int)) cp=some (.lst ((jl ns (some 1) (some 201)).map V.int)):=ac
 generalize hcs:jl ns (some 1) (some 201)=cs at hcl s2 e2 ⊢
 generalize upd H1 cp (.lst (cs.map V.int))=H2 at s2 e2 ⊢
 refine⟨cp,np,cs,nm,rfl,e2,s2 _ _ hl1,ok,by omega,fun t root lp H3 S as sm3 ht3 hroot hlp hrl hSr hSl hr3 hst3 okt hl3 hlen hal=>?_⟩
 have fine:=sQ n1 hfree 60 cs
 walk_at "rd1"
 refine⟨t,_,rfl,SqT.of ht3,rfl,?_⟩
 walk_at "rd1"
 have sm13:=s2.trans sm3
 have smA:=sm1.trans sm13
 have prog:∀ {H':Hp},Same H3 H'→ProgAt (fun b=>S b∨b=root) 10 H' root (cL 60 nm cs).cur:=fun {H'} sm=>⟨.inr rfl,as,sm _ _ hr3,Paired.imp' (fun a s z=>stpAt.imp (fun b xs e=>sm _ _ e) (fun q b y=>ProgAt.imp (fun b xs e=>sm _ _ e) (fun b xs _ e=>sm _ _ e) (fun b z=>.inl z) 9 y) z) hst3⟩
 have hcnt:ak 10 (cL 60 nm cs).cur≤100:=by rw[← iZ]; exact hlen
 have okn:=gJ fine
 have hpc:=lH 10 (cL 60 nm cs).cur
 have hnf:=vq okn
 have hwl:=sF 10 (cL 60 nm cs).cur
 have hsz:=q8 okt
 have hnl:(db ((bW 10 (cL 60 nm cs).cur).flatMap bx)).length≤1000:=by
  have:=gu ((bW 10 (cL 60 nm cs).cur).flatMap bx) []
  rw[List.length_nil]at this
  unfold db; omega
 have hnT:=eZ 10 _ fine
 have cin:∀ {H':Hp},Same H3 H'→og NOt H' root 10 (cL 60 nm cs).cur (db ((bW 10 (cL 60 nm cs).cur).flatMap bx)):=fun {H'} sm=>
  ⟨⟨_,prog sm⟩,okt,⟨_,_,prog sm,okn,by omega,by omega,rfl⟩,kS 10 (prog sm) okt,iU 10 _ okn (fun n hn=>jw hn),by omega,hnl,by decide⟩
 have wok:qi (aU 10 (cL 60 nm cs).cur):=⟨ur fine,fun ws hw=>hsz _ (by rw[hwl]; exact List.mem_map.mpr ⟨ws,hw,rfl⟩),by rw[cS]; omega,by rw[hnT]; omega⟩
 have hcf:=zx fine
 walk_at "nx"
 refine⟨lp,10,_,rfl,by show H3 lp=_; rw[← hwl]; exact hl3,wok,fine,fun dq H4 s4 hdq hD=>?_⟩
 walk_at "nx"
 refine⟨root,_,_,rfl,cin s4,fun fq H5 s5 hfq hF=>?_⟩
 walk_at "nx"
 refine⟨fq,dq,_,rfl,hF,hD.mono s5,hcf,fun H6 s6=>?_⟩
 have s36:=(s4.trans s5).trans s6
 walk_at "rd1"
 refine⟨_,(smA.trans s36).seq hS,fun cp7 hcp7=>?_⟩
 rw[qS,hcs]
 have s7:=af hcp7 (.lst (cs.map V.int))
 have e7:upd H6 cp7 (.lst (cs.map V.int)) cp7=some (.lst (cs.map V.int)):=ac
 generalize upd H6 cp7 (.lst (cs.map V.int))=H7 at s7 e7 ⊢
 refine⟨cp7,np,cs,nm,rfl,e7,s7 _ _ (s36 _ _ (sm13 _ _ hl1)),ok,by omega,fun t8 root8 lp8 H8 S8 as8 sm8 ht8 hroot8 hlp8 hrl8 hSr8 hSl8 hr8 hst8 okt8 hl8 hlen8 hal8=>?_⟩
 walk_at "rd1"
 refine⟨_,_,.inr (SqT.of ht8),cm,?_⟩
 have prog8:ProgAt (fun b=>S8 b∨b=root8) 10 H8 root8 (cL 60 nm cs).cur:=⟨.inr rfl,as8,hr8,Paired.imp' (fun a s z=>stpAt.imp (fun b xs e=>e) (fun q b y=>ProgAt.imp (fun b xs e=>e) (fun b xs _ e=>e) (fun b z=>.inl z) 9 y) z) hst8⟩
 have s38:=s36.trans (s7.trans sm8)
 walk_at "rd1"
 refine⟨19,true,by decide,rC 10 (prog s38) prog8,?_⟩
 walk_at "rd1"
 walk_at "nx"
 obtain⟨asF,f1,f2⟩:=id hF
 have s58:=s6.trans (s7.trans sm8)
 have fq8:=s58 _ _ f1
 refine⟨⟨_,SqL.of fq8⟩,fq,_,rfl,rfl,fq8,?_⟩
 have s49:Same H4 (upd H8 fq (.lst [])):=(s5.trans s58).upd hfq _
 generalize upd H8 fq (.lst [])=H9 at s49 ⊢
 walk_at "nx"
 refine⟨root,_,_,rfl,cin (s4.trans s49),fun fq2 H10 s10 hfq2 hF2=>?_⟩
 refine⟨fq2,dq,_,rfl,hF2,hD.mono (s49.trans s10),hcf,fun H11 s11=>?_⟩
 exact q H11
end
theorem wf{K:PySem.W.Frag}{a0 a1 a2 a3 a4 a5 a6 a7:Addr}(q0:∀ H:Hp,SqT K H a0 [.str "name"]) (q1:∀ H:Hp,SqT K H a1 [.str "word", .str "name"]) (q2:∀ H:Hp,SqT K H a2 [.str "name", .str "name"]) (q3:∀ H:Hp,SqT K H a3 [.str "name"]) (q4:∀ H:Hp,SqT K H a4 [.str "name", .str "name"]) (q5:∀ H:Hp,SqT K H a5 [.str "name", .str "name", .str "steps"]) (q6:∀ H:Hp,SqT K H a6 [.str "bound", .str "steps", .str "steps"]) (q7:∀ H:Hp,SqT K H a7 [.str "bound", .str "steps"]) :
  ∀ kind ks,(kind,ks)∈dW→∃ a,aK [(("open" : Str),V.ref a0),(("do" : Str),V.ref a1),(("copy" : Str),V.ref a2),(("drop" : Str),V.ref a3),(("tie" : Str),V.ref a4),(("lend" : Str),V.ref a5),(("if" : Str),V.ref a6),(("while" : Str),V.ref a7)] kind=some (.ref a)∧∀ H:Hp,SqT K H a (ks.map V.str):=by
 intro kind ks h
 simp only[dW,List.mem_cons,Prod.mk.injEq,List.mem_nil_iff,or_false]at h
 rcases h with ⟨rfl,rfl⟩ | ⟨rfl,rfl⟩ | ⟨rfl,rfl⟩ | ⟨rfl,rfl⟩ | ⟨rfl,rfl⟩ | ⟨rfl,rfl⟩ | ⟨rfl,rfl⟩ | ⟨rfl,rfl⟩
 ·exact⟨a0,rfl,q0⟩
 ·exact⟨a1,rfl,q1⟩
 ·exact⟨a2,rfl,q2⟩
 ·exact⟨a3,rfl,q3⟩
 ·exact⟨a4,rfl,q4⟩
 ·exact⟨a5,rfl,q5⟩
 ·exact⟨a6,rfl,q6⟩
 ·exact⟨a7,rfl,q7⟩
theorem all_mk{l:PySem.W.OpenLaw}{w:World}{K:PySem.W.Frag}{h:Heap}{mg:Str→Option Value}{fa:Addr}(X:K.In h)(G:h.Ns mainGlobals mg)(hfa:mg "law" = some (.ref fa))
  {f0:Addr} {od0 an0:Option Addr} {sl0:Array (Option Value)} {oc0 kV0 dc0 pm0 cd0 ct0:Value} {f1:Addr} {od1 an1:Option Addr} {sl1:Array (Option Value)} {oc1 kV1 dc1 pm1 cd1 ct1:Value} {f2:Addr} {od2 an2:Option Addr} {sl2:Array (Option Value)} {oc2 kV2 dc2 pm2 cd2 ct2:Value} {f3:Addr} {od3 an3:Option Addr} {sl3:Array (Option Value)} {oc3 kV3 dc3 pm3 cd3 ct3:Value} {f4:Addr} {od4 an4:Option Addr} {sl4:Array (Option Value)} {oc4 kV4 dc4 pm4 cd4 ct4:Value} {f5:Addr} {od5 an5:Option Addr} {sl5:Array (Option Value)} {oc5 kV5 dc5 pm5 cd5 ct5:Value} {f6:Addr} {od6 an6:Option Addr} {sl6:Array (Option Value)} {oc6 kV6 dc6 pm6 cd6 ct6:Value} {f7:Addr} {od7 an7:Option Addr} {sl7:Array (Option Value)} {oc7 kV7 dc7 pm7 cd7 ct7:Value} {f8:Addr} {od8 an8:Option Addr} {sl8:Array (Option Value)} {oc8 kV8 dc8 pm8 cd8 ct8:Value} {f9:Addr} {od9 an9:Option Addr} {sl9:Array (Option Value)} {oc9 kV9 dc9 pm9 cd9 ct9:Value} {f10:Addr} {od10 an10:Option Addr} {sl10:Array (Option Value)} {oc10 kV10 dc10 pm10 cd10 ct10:Value} {f11:Addr} {od11 an11:Option Addr} {sl11:Array (Option Value)} {oc11 kV11 dc11 pm11 cd11 ct11:Value} {f12:Addr} {od12 an12:Option Addr} {sl12:Array (Option Value)} {oc12 kV12 dc12 pm12 cd12 ct12:Value} {f13:Addr} {od13 an13:Option Addr} {sl13:Array (Option Value)} {oc13 kV13 dc13 pm13 cd13 ct13:Value} {f14:Addr} {od14 an14:Option Addr} {sl14:Array (Option Value)} {oc14 kV14 dc14 pm14 cd14 ct14:Value} {f15:Addr} {od15 an15:Option Addr} {sl15:Array (Option Value)} {oc15 kV15 dc15 pm15 cd15 ct15:Value} {f16:Addr} {od16 an16:Option Addr} {sl16:Array (Option Value)} {oc16 kV16 dc16 pm16 cd16 ct16:Value} {f17:Addr} {od17 an17:Option Addr} {sl17:Array (Option Value)} {oc17 kV17 dc17 pm17 cd17 ct17:Value} {f18:Addr} {od18 an18:Option Addr} {sl18:Array (Option Value)} {oc18 kV18 dc18 pm18 cd18 ct18:Value} {f19:Addr} {od19 an19:Option Addr} {sl19:Array (Option Value)} {oc19 kV19 dc19 pm19 cd19 ct19:Value} {f20:Addr} {od20 an20:Option Addr} {sl20:Array (Option Value)} {oc20 kV20 dc20 pm20 cd20 ct20:Value} {f21:Addr} {od21 an21:Option Addr} {sl21:Array (Option Value)} {oc21 kV21 dc21 pm21 cd21 ct21:Value} {f22:Addr} {od22 an22:Option Addr} {sl22:Array (Option Value)} {oc22 kV22 dc22 pm22 cd22 ct22:Value} {f23:Addr} {od23 an23:Option Addr} {sl23:Array (Option Value)} {oc23 kV23 dc23 pm23 cd23 ct23:Value} {f24:Addr} {od24 an24:Option Addr} {sl24:Array (Option Value)} {oc24 kV24 dc24 pm24 cd24 ct24:Value} {f25:Addr} {od25 an25:Option Addr} {sl25:Array (Option Value)} {oc25 kV25 dc25 pm25 cd25 ct25:Value} {f26:Addr} {od26 an26:Option Addr} {sl26:Array (Option Value)} {oc26 kV26 dc26 pm26 cd26 ct26:Value} {f27:Addr} {od27 an27:Option Addr} {sl27:Array (Option Value)} {oc27 kV27 dc27 pm27 cd27 ct27:Value} {f28:Addr} {od28 an28:Option Addr} {sl28:Array (Option Value)} {oc28 kV28 dc28 pm28 cd28 ct28:Value} {f29:Addr} {od29 an29:Option Addr} {sl29:Array (Option Value)} {oc29 kV29 dc29 pm29 cd29 ct29:Value} {f30:Addr} {od30 an30:Option Addr} {sl30:Array (Option Value)} {oc30 kV30 dc30 pm30 cd30 ct30:Value} {f31:Addr} {od31 an31:Option Addr} {sl31:Array (Option Value)} {oc31 kV31 dc31 pm31 cd31 ct31:Value} {f32:Addr} {od32 an32:Option Addr} {sl32:Array (Option Value)} {oc32 kV32 dc32 pm32 cd32 ct32:Value} {f33:Addr} {od33 an33:Option Addr} {sl33:Array (Option Value)} {oc33 kV33 dc33 pm33 cd33 ct33:Value} {C_NumberedStep:Addr} {fNumberedStep___init__:Addr} {odNumberedStep___init__ anNumberedStep___init__:Option Addr} {slNumberedStep___init__:Array (Option Value)} {ocNumberedStep___init__ kVNumberedStep___init__ dcNumberedStep___init__ pmNumberedStep___init__ cdNumberedStep___init__ ctNumberedStep___init__:Value} {d_PARTS:Addr} {n_PARTS:Nat} {k_PARTS_0:Tok} {a_PARTS_0:Addr} {od_PARTS_0:Option Addr} {m_PARTS_0:Nat} {sl_PARTS_0:Array (Option Value)} {k_PARTS_0_0:Tok} {k_PARTS_1:Tok} {a_PARTS_1:Addr} {od_PARTS_1:Option Addr} {m_PARTS_1:Nat} {sl_PARTS_1:Array (Option Value)} {k_PARTS_1_0:Tok} {k_PARTS_1_1:Tok} {k_PARTS_2:Tok} {a_PARTS_2:Addr} {od_PARTS_2:Option Addr} {m_PARTS_2:Nat} {sl_PARTS_2:Array (Option Value)} {k_PARTS_2_0:Tok} {k_PARTS_2_1:Tok} {k_PARTS_3:Tok} {a_PARTS_3:Addr} {od_PARTS_3:Option Addr} {m_PARTS_3:Nat} {sl_PARTS_3:Array (Option Value)} {k_PARTS_3_0:Tok} {k_PARTS_4:Tok} {a_PARTS_4:Addr} {od_PARTS_4:Option Addr} {m_PARTS_4:Nat} {sl_PARTS_4:Array (Option Value)} {k_PARTS_4_0:Tok} {k_PARTS_4_1:Tok} {k_PARTS_5:Tok} {a_PARTS_5:Addr} {od_PARTS_5:Option Addr} {m_PARTS_5:Nat} {sl_PARTS_5:Array (Option Value)} {k_PARTS_5_0:Tok} {k_PARTS_5_1:Tok} {k_PARTS_5_2:Tok} {k_PARTS_6:Tok} {a_PARTS_6:Addr} {od_PARTS_6:Option Addr} {m_PARTS_6:Nat} {sl_PARTS_6:Array (Option Value)} {k_PARTS_6_0:Tok} {k_PARTS_6_1:Tok} {k_PARTS_6_2:Tok} {k_PARTS_7:Tok} {a_PARTS_7:Addr} {od_PARTS_7:Option Addr} {m_PARTS_7:Nat} {sl_PARTS_7:Array (Option Value)} {k_PARTS_7_0:Tok} {k_PARTS_7_1:Tok} {d_CLOSERS:Addr} {n_CLOSERS:Nat} {k_CLOSERS_0:Tok} {a_CLOSERS_0:Addr} {od_CLOSERS_0:Option Addr} {m_CLOSERS_0:Nat} {sl_CLOSERS_0:Array (Option Value)} {k_CLOSERS_0_0:Tok} {k_CLOSERS_1:Tok} {a_CLOSERS_1:Addr} {od_CLOSERS_1:Option Addr} {m_CLOSERS_1:Nat} {sl_CLOSERS_1:Array (Option Value)} {k_CLOSERS_1_0:Tok} {k_CLOSERS_1_1:Tok} {k_CLOSERS_2:Tok} {a_CLOSERS_2:Addr} {od_CLOSERS_2:Option Addr} {m_CLOSERS_2:Nat} {sl_CLOSERS_2:Array (Option Value)} {k_CLOSERS_2_0:Tok}
  (a0:PySem.W.nsIn K mainGlobals "closers_of" = some (some (.ref f0))) (l0:K.lookup f0=some ⟨oc0,od0,.func (PySem.W.fnOf "closers_of" "closers_of" (defArgs cM) (defBody cM) (defScope cM) .none kV0 dc0 pm0 an0 cd0 ct0),sl0⟩) (c0:PySem.W.codeIn K cd0 "closers_of" = true) (k0:PySem.W.keepIn K (.ref f0)=true)
  (a1:PySem.W.nsIn K mainGlobals "head_of" = some (some (.ref f1))) (l1:K.lookup f1=some ⟨oc1,od1,.func (PySem.W.fnOf "head_of" "head_of" (defArgs de) (defBody de) (defScope de) .none kV1 dc1 pm1 an1 cd1 ct1),sl1⟩) (c1:PySem.W.codeIn K cd1 "head_of" = true) (k1:PySem.W.keepIn K (.ref f1)=true)
  (a2:PySem.W.nsIn K mainGlobals "blocks_of" = some (some (.ref f2))) (l2:K.lookup f2=some ⟨oc2,od2,.func (PySem.W.fnOf "blocks_of" "blocks_of" (defArgs cI) (defBody cI) (defScope cI) .none kV2 dc2 pm2 an2 cd2 ct2),sl2⟩) (c2:PySem.W.codeIn K cd2 "blocks_of" = true) (k2:PySem.W.keepIn K (.ref f2)=true)
  (a3:PySem.W.nsIn K mainGlobals "steps_within" = some (some (.ref f3))) (l3:K.lookup f3=some ⟨oc3,od3,.func (PySem.W.fnOf "steps_within" "steps_within" (defArgs bo) (defBody bo) (defScope bo) .none kV3 dc3 pm3 an3 cd3 ct3),sl3⟩) (c3:PySem.W.codeIn K cd3 "steps_within" = true) (k3:PySem.W.keepIn K (.ref f3)=true)
  (a4:PySem.W.nsIn K mainGlobals "names_in" = some (some (.ref f4))) (l4:K.lookup f4=some ⟨oc4,od4,.func (PySem.W.fnOf "names_in" "names_in" (defArgs bK) (defBody bK) (defScope bK) .none kV4 dc4 pm4 an4 cd4 ct4),sl4⟩) (c4:PySem.W.codeIn K cd4 "names_in" = true) (k4:PySem.W.keepIn K (.ref f4)=true)
  (a5:PySem.W.nsIn K mainGlobals "names_of" = some (some (.ref f5))) (l5:K.lookup f5=some ⟨oc5,od5,.func (PySem.W.fnOf "names_of" "names_of" (defArgs cV) (defBody cV) (defScope cV) .none kV5 dc5 pm5 an5 cd5 ct5),sl5⟩) (c5:PySem.W.codeIn K cd5 "names_of" = true) (k5:PySem.W.keepIn K (.ref f5)=true)
  (a6:PySem.W.nsIn K mainGlobals "lines_of" = some (some (.ref f6))) (l6:K.lookup f6=some ⟨oc6,od6,.func (PySem.W.fnOf "lines_of" "lines_of" (defArgs aS) (defBody aS) (defScope aS) .none kV6 dc6 pm6 an6 cd6 ct6),sl6⟩) (c6:PySem.W.codeIn K cd6 "lines_of" = true) (k6:PySem.W.keepIn K (.ref f6)=true)
  (a7:PySem.W.nsIn K mainGlobals "line_behind" = some (some (.ref f7))) (l7:K.lookup f7=some ⟨oc7,od7,.func (PySem.W.fnOf "line_behind" "line_behind" (defArgs b_) (defBody b_) (defScope b_) .none kV7 dc7 pm7 an7 cd7 ct7),sl7⟩) (c7:PySem.W.codeIn K cd7 "line_behind" = true) (k7:PySem.W.keepIn K (.ref f7)=true)
  (a8:PySem.W.nsIn K mainGlobals "numbered_step" = some (some (.ref f8))) (l8:K.lookup f8=some ⟨oc8,od8,.func (PySem.W.fnOf "numbered_step" "numbered_step" (defArgs aC) (defBody aC) (defScope aC) .none kV8 dc8 pm8 an8 cd8 ct8),sl8⟩) (c8:PySem.W.codeIn K cd8 "numbered_step" = true) (k8:PySem.W.keepIn K (.ref f8)=true)
  (a9:PySem.W.nsIn K mainGlobals "numbered_steps" = some (some (.ref f9))) (l9:K.lookup f9=some ⟨oc9,od9,.func (PySem.W.fnOf "numbered_steps" "numbered_steps" (defArgs aZ) (defBody aZ) (defScope aZ) .none kV9 dc9 pm9 an9 cd9 ct9),sl9⟩) (c9:PySem.W.codeIn K cd9 "numbered_steps" = true) (k9:PySem.W.keepIn K (.ref f9)=true)
  (a10:PySem.W.nsIn K mainGlobals "lend_lines" = some (some (.ref f10))) (l10:K.lookup f10=some ⟨oc10,od10,.func (PySem.W.fnOf "lend_lines" "lend_lines" (defArgs bF) (defBody bF) (defScope bF) .none kV10 dc10 pm10 an10 cd10 ct10),sl10⟩) (c10:PySem.W.codeIn K cd10 "lend_lines" = true) (k10:PySem.W.keepIn K (.ref f10)=true)
  (a11:PySem.W.nsIn K mainGlobals "slots_of" = some (some (.ref f11))) (l11:K.lookup f11=some ⟨oc11,od11,.func (PySem.W.fnOf "slots_of" "slots_of" (defArgs bR) (defBody bR) (defScope bR) .none kV11 dc11 pm11 an11 cd11 ct11),sl11⟩) (c11:PySem.W.codeIn K cd11 "slots_of" = true) (k11:PySem.W.keepIn K (.ref f11)=true)
  (a12:PySem.W.nsIn K mainGlobals "simple_row" = some (some (.ref f12))) (l12:K.lookup f12=some ⟨oc12,od12,.func (PySem.W.fnOf "simple_row" "simple_row" (defArgs bw) (defBody bw) (defScope bw) .none kV12 dc12 pm12 an12 cd12 ct12),sl12⟩) (c12:PySem.W.codeIn K cd12 "simple_row" = true) (k12:PySem.W.keepIn K (.ref f12)=true)
  (a13:PySem.W.nsIn K mainGlobals "lend_rows" = some (some (.ref f13))) (l13:K.lookup f13=some ⟨oc13,od13,.func (PySem.W.fnOf "lend_rows" "lend_rows" (defArgs aF) (defBody aF) (defScope aF) .none kV13 dc13 pm13 an13 cd13 ct13),sl13⟩) (c13:PySem.W.codeIn K cd13 "lend_rows" = true) (k13:PySem.W.keepIn K (.ref f13)=true)
  (a14:PySem.W.nsIn K mainGlobals "if_rows" = some (some (.ref f14))) (l14:K.lookup f14=some ⟨oc14,od14,.func (PySem.W.fnOf "if_rows" "if_rows" (defArgs bA) (defBody bA) (defScope bA) .none kV14 dc14 pm14 an14 cd14 ct14),sl14⟩) (c14:PySem.W.codeIn K cd14 "if_rows" = true) (k14:PySem.W.keepIn K (.ref f14)=true)
  (a15:PySem.W.nsIn K mainGlobals "loop_rows" = some (some (.ref f15))) (l15:K.lookup f15=some ⟨oc15,od15,.func (PySem.W.fnOf "loop_rows" "loop_rows" (defArgs bN) (defBody bN) (defScope bN) .none kV15 dc15 pm15 an15 cd15 ct15),sl15⟩) (c15:PySem.W.codeIn K cd15 "loop_rows" = true) (k15:PySem.W.keepIn K (.ref f15)=true)
  (a16:PySem.W.nsIn K mainGlobals "while_rows" = some (some (.ref f16))) (l16:K.lookup f16=some ⟨oc16,od16,.func (PySem.W.fnOf "while_rows" "while_rows" (defArgs aV) (defBody aV) (defScope aV) .none kV16 dc16 pm16 an16 cd16 ct16),sl16⟩) (c16:PySem.W.codeIn K cd16 "while_rows" = true) (k16:PySem.W.keepIn K (.ref f16)=true)
  (a17:PySem.W.nsIn K mainGlobals "rows_of" = some (some (.ref f17))) (l17:K.lookup f17=some ⟨oc17,od17,.func (PySem.W.fnOf "rows_of" "rows_of" (defArgs bJ) (defBody bJ) (defScope bJ) .none kV17 dc17 pm17 an17 cd17 ct17),sl17⟩) (c17:PySem.W.codeIn K cd17 "rows_of" = true) (k17:PySem.W.keepIn K (.ref f17)=true)
  (a18:PySem.W.nsIn K mainGlobals "rows_and_end" = some (some (.ref f18))) (l18:K.lookup f18=some ⟨oc18,od18,.func (PySem.W.fnOf "rows_and_end" "rows_and_end" (defArgs bB) (defBody bB) (defScope bB) .none kV18 dc18 pm18 an18 cd18 ct18),sl18⟩) (c18:PySem.W.codeIn K cd18 "rows_and_end" = true) (k18:PySem.W.keepIn K (.ref f18)=true)
  (a19:PySem.W.nsIn K mainGlobals "code_of" = some (some (.ref f19))) (l19:K.lookup f19=some ⟨oc19,od19,.func (PySem.W.fnOf "code_of" "code_of" (defArgs dv) (defBody dv) (defScope dv) .none kV19 dc19 pm19 an19 cd19 ct19),sl19⟩) (c19:PySem.W.codeIn K cd19 "code_of" = true) (k19:PySem.W.keepIn K (.ref f19)=true)
  (a20:PySem.W.nsIn K mainGlobals "_law_cell_at" = some (some (.ref f20))) (l20:K.lookup f20=some ⟨oc20,od20,.func (PySem.W.fnOf "_law_cell_at" "_law_cell_at" (defArgs b9) (defBody b9) (defScope b9) .none kV20 dc20 pm20 an20 cd20 ct20),sl20⟩) (c20:PySem.W.codeIn K cd20 "_law_cell_at" = true) (k20:PySem.W.keepIn K (.ref f20)=true)
  (a21:PySem.W.nsIn K mainGlobals "_law_names" = some (some (.ref f21))) (l21:K.lookup f21=some ⟨oc21,od21,.func (PySem.W.fnOf "_law_names" "_law_names" (defArgs ay) (defBody ay) (defScope ay) .none kV21 dc21 pm21 an21 cd21 ct21),sl21⟩) (c21:PySem.W.codeIn K cd21 "_law_names" = true) (k21:PySem.W.keepIn K (.ref f21)=true)
  (a22:PySem.W.nsIn K mainGlobals "_law_bound" = some (some (.ref f22))) (l22:K.lookup f22=some ⟨oc22,od22,.func (PySem.W.fnOf "_law_bound" "_law_bound" (defArgs cJ) (defBody cJ) (defScope cJ) .none kV22 dc22 pm22 an22 cd22 ct22),sl22⟩) (c22:PySem.W.codeIn K cd22 "_law_bound" = true) (k22:PySem.W.keepIn K (.ref f22)=true)
  (a23:PySem.W.nsIn K mainGlobals "_law_step" = some (some (.ref f23))) (l23:K.lookup f23=some ⟨oc23,od23,.func (PySem.W.fnOf "_law_step" "_law_step" (defArgs bX) (defBody bX) (defScope bX) .none kV23 dc23 pm23 an23 cd23 ct23),sl23⟩) (c23:PySem.W.codeIn K cd23 "_law_step" = true) (k23:PySem.W.keepIn K (.ref f23)=true)
  (a24:PySem.W.nsIn K mainGlobals "_law_begun" = some (some (.ref f24))) (l24:K.lookup f24=some ⟨oc24,od24,.func (PySem.W.fnOf "_law_begun" "_law_begun" (defArgs bj) (defBody bj) (defScope bj) .none kV24 dc24 pm24 an24 cd24 ct24),sl24⟩) (c24:PySem.W.codeIn K cd24 "_law_begun" = true) (k24:PySem.W.keepIn K (.ref f24)=true)
  (a25:PySem.W.nsIn K mainGlobals "_law_program" = some (some (.ref f25))) (l25:K.lookup f25=some ⟨oc25,od25,.func (PySem.W.fnOf "_law_program" "_law_program" (defArgs am) (defBody am) (defScope am) .none kV25 dc25 pm25 an25 cd25 ct25),sl25⟩) (c25:PySem.W.codeIn K cd25 "_law_program" = true) (k25:PySem.W.keepIn K (.ref f25)=true)
  (a26:PySem.W.nsIn K mainGlobals "_law_partners" = some (some (.ref f26))) (l26:K.lookup f26=some ⟨oc26,od26,.func (PySem.W.fnOf "_law_partners" "_law_partners" (defArgs aJ) (defBody aJ) (defScope aJ) .none kV26 dc26 pm26 an26 cd26 ct26),sl26⟩) (c26:PySem.W.codeIn K cd26 "_law_partners" = true) (k26:PySem.W.keepIn K (.ref f26)=true)
  (a27:PySem.W.nsIn K mainGlobals "_law_slots" = some (some (.ref f27))) (l27:K.lookup f27=some ⟨oc27,od27,.func (PySem.W.fnOf "_law_slots" "_law_slots" (defArgs bL) (defBody bL) (defScope bL) .none kV27 dc27 pm27 an27 cd27 ct27),sl27⟩) (c27:PySem.W.codeIn K cd27 "_law_slots" = true) (k27:PySem.W.keepIn K (.ref f27)=true)
  (a28:PySem.W.nsIn K mainGlobals "_law_firsts" = some (some (.ref f28))) (l28:K.lookup f28=some ⟨oc28,od28,.func (PySem.W.fnOf "_law_firsts" "_law_firsts" (defArgs bS) (defBody bS) (defScope bS) .none kV28 dc28 pm28 an28 cd28 ct28),sl28⟩) (c28:PySem.W.codeIn K cd28 "_law_firsts" = true) (k28:PySem.W.keepIn K (.ref f28)=true)
  (a29:PySem.W.nsIn K mainGlobals "_law_rows" = some (some (.ref f29))) (l29:K.lookup f29=some ⟨oc29,od29,.func (PySem.W.fnOf "_law_rows" "_law_rows" (defArgs aR) (defBody aR) (defScope aR) .none kV29 dc29 pm29 an29 cd29 ct29),sl29⟩) (c29:PySem.W.codeIn K cd29 "_law_rows" = true) (k29:PySem.W.keepIn K (.ref f29)=true)
  (a30:PySem.W.nsIn K mainGlobals "_law_due" = some (some (.ref f30))) (l30:K.lookup f30=some ⟨oc30,od30,.func (PySem.W.fnOf "_law_due" "_law_due" (defArgs aH) (defBody aH) (defScope aH) .none kV30 dc30 pm30 an30 cd30 ct30),sl30⟩) (c30:PySem.W.codeIn K cd30 "_law_due" = true) (k30:PySem.W.keepIn K (.ref f30)=true)
  (a31:PySem.W.nsIn K mainGlobals "_law_row" = some (some (.ref f31))) (l31:K.lookup f31=some ⟨oc31,od31,.func (PySem.W.fnOf "_law_row" "_law_row" (defArgs bP) (defBody bP) (defScope bP) .none kV31 dc31 pm31 an31 cd31 ct31),sl31⟩) (c31:PySem.W.codeIn K cd31 "_law_row" = true) (k31:PySem.W.keepIn K (.ref f31)=true)
  (a32:PySem.W.nsIn K mainGlobals "_law_right" = some (some (.ref f32))) (l32:K.lookup f32=some ⟨oc32,od32,.func (PySem.W.fnOf "_law_right" "_law_right" (defArgs bH) (defBody bH) (defScope bH) .none kV32 dc32 pm32 an32 cd32 ct32),sl32⟩) (c32:PySem.W.codeIn K cd32 "_law_right" = true) (k32:PySem.W.keepIn K (.ref f32)=true)
  (a33:PySem.W.nsIn K mainGlobals "law" = some (some (.ref f33))) (l33:K.lookup f33=some ⟨oc33,od33,.func (PySem.W.fnOf "law" "law" (defArgs cw) (defBody cw) (defScope cw) .none kV33 dc33 pm33 an33 cd33 ct33),sl33⟩) (c33:PySem.W.codeIn K cd33 "law" = true) (k33:PySem.W.keepIn K (.ref f33)=true)
  (y_isinstance:PySem.W.nsIn K mainGlobals "isinstance" = some none)
  (y_str:PySem.W.nsIn K mainGlobals "str" = some none)
  (y_int:PySem.W.nsIn K mainGlobals "int" = some none)
  (y_bool:PySem.W.nsIn K mainGlobals "bool" = some none)
  (y_tuple:PySem.W.nsIn K mainGlobals "tuple" = some none)
  (y_len:PySem.W.nsIn K mainGlobals "len" = some none)
  (y_range:PySem.W.nsIn K mainGlobals "range" = some none)
  (y_list:PySem.W.nsIn K mainGlobals "list" = some none)
  (y_reversed:PySem.W.nsIn K mainGlobals "reversed" = some none)
  (y_zip:PySem.W.nsIn K mainGlobals "zip" = some none)
  (y_enumerate:PySem.W.nsIn K mainGlobals "enumerate" = some none)
  (n_NumberedStep:PySem.W.nsIn K mainGlobals "NumberedStep" = some (some (.ref C_NumberedStep))) (pg_NumberedStep:PySem.W.plainGet K C_NumberedStep Str.empty=true) (hd_NumberedStep:PySem.W.hasDictIn K C_NumberedStep=true) (po_NumberedStep:PySem.W.plainOver K C_NumberedStep=true) (sa_NumberedStep:PySem.W.findIn K (.ref C_NumberedStep) "__setattr__" = some (some (.builtin "object.__setattr__"))) (mk_NumberedStep:PySem.W.makesIn K C_NumberedStep=true) (kc_NumberedStep:PySem.W.keepIn K (.ref C_NumberedStep)=true)
  (nf_kind:PySem.W.findIn K (.ref C_NumberedStep) "kind" = some none)
  (nf_parts:PySem.W.findIn K (.ref C_NumberedStep) "parts" = some none)
  (nf_lines:PySem.W.findIn K (.ref C_NumberedStep) "lines" = some none)
  (nf_blocks:PySem.W.findIn K (.ref C_NumberedStep) "blocks" = some none)
  (aNumberedStep___init__:PySem.W.findIn K (.ref C_NumberedStep) "__init__" = some (some (.ref fNumberedStep___init__))) (iNumberedStep___init__:PySem.W.isFn K (.ref fNumberedStep___init__)=true) (lNumberedStep___init__:K.lookup fNumberedStep___init__=some ⟨ocNumberedStep___init__,odNumberedStep___init__,.func (PySem.W.fnOf "__init__" "NumberedStep.__init__" (defArgs aP) (defBody aP) (defScope aP) .none kVNumberedStep___init__ dcNumberedStep___init__ pmNumberedStep___init__ anNumberedStep___init__ cdNumberedStep___init__ ctNumberedStep___init__),slNumberedStep___init__⟩) (cNumberedStep___init__:PySem.W.codeIn K cdNumberedStep___init__ "NumberedStep.__init__" = true) (kNumberedStep___init__:PySem.W.keepIn K (.ref fNumberedStep___init__)=true)
  (h_PARTS:PySem.W.nsIn K mainGlobals "PARTS" = some (some (.ref d_PARTS)))
  (ld_PARTS:K.lookup d_PARTS=some ⟨.type "dict", none,.dict #[⟨PyData.keyHash w.params "open", .str "open" k_PARTS_0,.ref a_PARTS_0⟩,⟨PyData.keyHash w.params "do", .str "do" k_PARTS_1,.ref a_PARTS_1⟩,⟨PyData.keyHash w.params "copy", .str "copy" k_PARTS_2,.ref a_PARTS_2⟩,⟨PyData.keyHash w.params "drop", .str "drop" k_PARTS_3,.ref a_PARTS_3⟩,⟨PyData.keyHash w.params "tie", .str "tie" k_PARTS_4,.ref a_PARTS_4⟩,⟨PyData.keyHash w.params "lend", .str "lend" k_PARTS_5,.ref a_PARTS_5⟩,⟨PyData.keyHash w.params "if", .str "if" k_PARTS_6,.ref a_PARTS_6⟩,⟨PyData.keyHash w.params "while", .str "while" k_PARTS_7,.ref a_PARTS_7⟩] n_PARTS,#[]⟩)
  (la_PARTS_0:K.lookup a_PARTS_0=some ⟨.type "tuple", od_PARTS_0,.seq #[.str "name" k_PARTS_0_0] m_PARTS_0,sl_PARTS_0⟩)
  (la_PARTS_1:K.lookup a_PARTS_1=some ⟨.type "tuple", od_PARTS_1,.seq #[.str "word" k_PARTS_1_0,.str "name" k_PARTS_1_1] m_PARTS_1,sl_PARTS_1⟩)
  (la_PARTS_2:K.lookup a_PARTS_2=some ⟨.type "tuple", od_PARTS_2,.seq #[.str "name" k_PARTS_2_0,.str "name" k_PARTS_2_1] m_PARTS_2,sl_PARTS_2⟩)
  (la_PARTS_3:K.lookup a_PARTS_3=some ⟨.type "tuple", od_PARTS_3,.seq #[.str "name" k_PARTS_3_0] m_PARTS_3,sl_PARTS_3⟩)
  (la_PARTS_4:K.lookup a_PARTS_4=some ⟨.type "tuple", od_PARTS_4,.seq #[.str "name" k_PARTS_4_0,.str "name" k_PARTS_4_1] m_PARTS_4,sl_PARTS_4⟩)
  (la_PARTS_5:K.lookup a_PARTS_5=some ⟨.type "tuple", od_PARTS_5,.seq #[.str "name" k_PARTS_5_0,.str "name" k_PARTS_5_1,.str "steps" k_PARTS_5_2] m_PARTS_5,sl_PARTS_5⟩)
  (la_PARTS_6:K.lookup a_PARTS_6=some ⟨.type "tuple", od_PARTS_6,.seq #[.str "bound" k_PARTS_6_0,.str "steps" k_PARTS_6_1,.str "steps" k_PARTS_6_2] m_PARTS_6,sl_PARTS_6⟩)
  (la_PARTS_7:K.lookup a_PARTS_7=some ⟨.type "tuple", od_PARTS_7,.seq #[.str "bound" k_PARTS_7_0,.str "steps" k_PARTS_7_1] m_PARTS_7,sl_PARTS_7⟩)
  (dz_PARTS:(d_PARTS == sysModules)=false)
  (h_CLOSERS:PySem.W.nsIn K mainGlobals "CLOSERS" = some (some (.ref d_CLOSERS)))
  (ld_CLOSERS:K.lookup d_CLOSERS=some ⟨.type "dict", none,.dict #[⟨PyData.keyHash w.params "lend", .str "lend" k_CLOSERS_0,.ref a_CLOSERS_0⟩,⟨PyData.keyHash w.params "if", .str "if" k_CLOSERS_1,.ref a_CLOSERS_1⟩,⟨PyData.keyHash w.params "while", .str "while" k_CLOSERS_2,.ref a_CLOSERS_2⟩] n_CLOSERS,#[]⟩)
  (la_CLOSERS_0:K.lookup a_CLOSERS_0=some ⟨.type "tuple", od_CLOSERS_0,.seq #[.str "back" k_CLOSERS_0_0] m_CLOSERS_0,sl_CLOSERS_0⟩)
  (la_CLOSERS_1:K.lookup a_CLOSERS_1=some ⟨.type "tuple", od_CLOSERS_1,.seq #[.str "else" k_CLOSERS_1_0,.str "fi" k_CLOSERS_1_1] m_CLOSERS_1,sl_CLOSERS_1⟩)
  (la_CLOSERS_2:K.lookup a_CLOSERS_2=some ⟨.type "tuple", od_CLOSERS_2,.seq #[.str "done" k_CLOSERS_2_0] m_CLOSERS_2,sl_CLOSERS_2⟩)
  (dz_CLOSERS:(d_CLOSERS == sysModules)=false) :
  ∃ fd:FuncData,(∀ (s:Shared) (v:Value),BindsTo s fd ⟨[v],[]⟩ [("_law_script", v)])∧∀ base:Heap,K.In base→base.Ns mainGlobals mg→FnOk l.prog w K mg base i7 36 fa fd ["_law_script"] (nK K):=by
 have e:=hfa.symm.trans (PySem.W.mg_of X G a33)
 cases e
 have D_closers_of:DefAt K mg "closers_of" cM:=⟨f0,_,bE (st:=cM) l0 c0 k0,PySem.W.mg_of X G a0⟩
 have D_head_of:DefAt K mg "head_of" de:=⟨f1,_,bE (st:=de) l1 c1 k1,PySem.W.mg_of X G a1⟩
 have D_blocks_of:DefAt K mg "blocks_of" cI:=⟨f2,_,bE (st:=cI) l2 c2 k2,PySem.W.mg_of X G a2⟩
 have D_steps_within:DefAt K mg "steps_within" bo:=⟨f3,_,bE (st:=bo) l3 c3 k3,PySem.W.mg_of X G a3⟩
 have D_names_in:DefAt K mg "names_in" bK:=⟨f4,_,bE (st:=bK) l4 c4 k4,PySem.W.mg_of X G a4⟩
 have D_names_of:DefAt K mg "names_of" cV:=⟨f5,_,bE (st:=cV) l5 c5 k5,PySem.W.mg_of X G a5⟩
 have D_lines_of:DefAt K mg "lines_of" aS:=⟨f6,_,bE (st:=aS) l6 c6 k6,PySem.W.mg_of X G a6⟩
 have D_line_behind:DefAt K mg "line_behind" b_:=⟨f7,_,bE (st:=b_) l7 c7 k7,PySem.W.mg_of X G a7⟩
 have D_numbered_step:DefAt K mg "numbered_step" aC:=⟨f8,_,bE (st:=aC) l8 c8 k8,PySem.W.mg_of X G a8⟩
 have D_numbered_steps:DefAt K mg "numbered_steps" aZ:=⟨f9,_,bE (st:=aZ) l9 c9 k9,PySem.W.mg_of X G a9⟩
 have D_lend_lines:DefAt K mg "lend_lines" bF:=⟨f10,_,bE (st:=bF) l10 c10 k10,PySem.W.mg_of X G a10⟩
 have D_slots_of:DefAt K mg "slots_of" bR:=⟨f11,_,bE (st:=bR) l11 c11 k11,PySem.W.mg_of X G a11⟩
 have D_simple_row:DefAt K mg "simple_row" bw:=⟨f12,_,bE (st:=bw) l12 c12 k12,PySem.W.mg_of X G a12⟩
 have D_lend_rows:DefAt K mg "lend_rows" aF:=⟨f13,_,bE (st:=aF) l13 c13 k13,PySem.W.mg_of X G a13⟩
 have D_if_rows:DefAt K mg "if_rows" bA:=⟨f14,_,bE (st:=bA) l14 c14 k14,PySem.W.mg_of X G a14⟩
 have D_loop_rows:DefAt K mg "loop_rows" bN:=⟨f15,_,bE (st:=bN) l15 c15 k15,PySem.W.mg_of X G a15⟩
 have D_while_rows:DefAt K mg "while_rows" aV:=⟨f16,_,bE (st:=aV) l16 c16 k16,PySem.W.mg_of X G a16⟩
 have D_rows_of:DefAt K mg "rows_of" bJ:=⟨f17,_,bE (st:=bJ) l17 c17 k17,PySem.W.mg_of X G a17⟩
 have D_rows_and_end:DefAt K mg "rows_and_end" bB:=⟨f18,_,bE (st:=bB) l18 c18 k18,PySem.W.mg_of X G a18⟩
 have D_code_of:DefAt K mg "code_of" dv:=⟨f19,_,bE (st:=dv) l19 c19 k19,PySem.W.mg_of X G a19⟩
 have D_law_cell_at:DefAt K mg "_law_cell_at" b9:=⟨f20,_,bE (st:=b9) l20 c20 k20,PySem.W.mg_of X G a20⟩
 have D_law_names:DefAt K mg "_law_names" ay:=⟨f21,_,bE (st:=ay) l21 c21 k21,PySem.W.mg_of X G a21⟩
 have D_law_bound:DefAt K mg "_law_bound" cJ:=⟨f22,_,bE (st:=cJ) l22 c22 k22,PySem.W.mg_of X G a22⟩
 have D_law_step:DefAt K mg "_law_step" bX:=⟨f23,_,bE (st:=bX) l23 c23 k23,PySem.W.mg_of X G a23⟩
 have D_law_begun:DefAt K mg "_law_begun" bj:=⟨f24,_,bE (st:=bj) l24 c24 k24,PySem.W.mg_of X G a24⟩
 have D_law_program:DefAt K mg "_law_program" am:=⟨f25,_,bE (st:=am) l25 c25 k25,PySem.W.mg_of X G a25⟩
 have D_law_partners:DefAt K mg "_law_partners" aJ:=⟨f26,_,bE (st:=aJ) l26 c26 k26,PySem.W.mg_of X G a26⟩
 have D_law_slots:DefAt K mg "_law_slots" bL:=⟨f27,_,bE (st:=bL) l27 c27 k27,PySem.W.mg_of X G a27⟩
 have D_law_firsts:DefAt K mg "_law_firsts" bS:=⟨f28,_,bE (st:=bS) l28 c28 k28,PySem.W.mg_of X G a28⟩
 have D_law_rows:DefAt K mg "_law_rows" aR:=⟨f29,_,bE (st:=aR) l29 c29 k29,PySem.W.mg_of X G a29⟩
 have D_law_due:DefAt K mg "_law_due" aH:=⟨f30,_,bE (st:=aH) l30 c30 k30,PySem.W.mg_of X G a30⟩
 have D_law_row:DefAt K mg "_law_row" bP:=⟨f31,_,bE (st:=bP) l31 c31 k31,PySem.W.mg_of X G a31⟩
 have D_law_right:DefAt K mg "_law_right" bH:=⟨f32,_,bE (st:=bH) l32 c32 k32,PySem.W.mg_of X G a32⟩
 have z_isinstance:mg "isinstance" = none:=PySem.W.mg_none_of X G y_isinstance
 have z_str:mg "str" = none:=PySem.W.mg_none_of X G y_str
 have z_int:mg "int" = none:=PySem.W.mg_none_of X G y_int
 have z_bool:mg "bool" = none:=PySem.W.mg_none_of X G y_bool
 have z_tuple:mg "tuple" = none:=PySem.W.mg_none_of X G y_tuple
 have z_len:mg "len" = none:=PySem.W.mg_none_of X G y_len
 have z_range:mg "range" = none:=PySem.W.mg_none_of X G y_range
 have z_list:mg "list" = none:=PySem.W.mg_none_of X G y_list
 have z_reversed:mg "reversed" = none:=PySem.W.mg_none_of X G y_reversed
 have z_zip:mg "zip" = none:=PySem.W.mg_none_of X G y_zip
 have z_enumerate:mg "enumerate" = none:=PySem.W.mg_none_of X G y_enumerate
 have cl_NumberedStep:Cls K C_NumberedStep:=⟨pg_NumberedStep,hd_NumberedStep,po_NumberedStep,sa_NumberedStep⟩
 have a_kind:Fl K C_NumberedStep "kind" := ⟨cl_NumberedStep,nf_kind⟩
 have a_parts:Fl K C_NumberedStep "parts" := ⟨cl_NumberedStep,nf_parts⟩
 have a_lines:Fl K C_NumberedStep "lines" := ⟨cl_NumberedStep,nf_lines⟩
 have a_blocks:Fl K C_NumberedStep "blocks" := ⟨cl_NumberedStep,nf_blocks⟩
 have D_NumberedStep:MakeAt K mg "NumberedStep" C_NumberedStep "NumberedStep.__init__" aP:=⟨fNumberedStep___init__,_,bE (st:=aP) lNumberedStep___init__ cNumberedStep___init__ kNumberedStep___init__,⟨mk_NumberedStep,aNumberedStep___init__,iNumberedStep___init__,kc_NumberedStep⟩,PySem.W.mg_of X G n_NumberedStep⟩
 have g_PARTS:mg "PARTS" = some (.ref d_PARTS):=PySem.W.mg_of X G h_PARTS
 have m_PARTS:ModD w K d_PARTS [("open", .ref a_PARTS_0),("do", .ref a_PARTS_1),("copy", .ref a_PARTS_2),("drop", .ref a_PARTS_3),("tie", .ref a_PARTS_4),("lend", .ref a_PARTS_5),("if", .ref a_PARTS_6),("while", .ref a_PARTS_7)]:=⟨dz_PARTS,(show (["open", "do", "copy", "drop", "tie", "lend", "if", "while"]:List Str).Nodup from by decide),_,[⟨PyData.keyHash w.params "open", .str "open" k_PARTS_0,.ref a_PARTS_0⟩,⟨PyData.keyHash w.params "do", .str "do" k_PARTS_1,.ref a_PARTS_1⟩,⟨PyData.keyHash w.params "copy", .str "copy" k_PARTS_2,.ref a_PARTS_2⟩,⟨PyData.keyHash w.params "drop", .str "drop" k_PARTS_3,.ref a_PARTS_3⟩,⟨PyData.keyHash w.params "tie", .str "tie" k_PARTS_4,.ref a_PARTS_4⟩,⟨PyData.keyHash w.params "lend", .str "lend" k_PARTS_5,.ref a_PARTS_5⟩,⟨PyData.keyHash w.params "if", .str "if" k_PARTS_6,.ref a_PARTS_6⟩,⟨PyData.keyHash w.params "while", .str "while" k_PARTS_7,.ref a_PARTS_7⟩],n_PARTS,ld_PARTS,⟨rfl,rfl,rfl⟩,rfl,.cons rfl (.cons rfl (.cons rfl (.cons rfl (.cons rfl (.cons rfl (.cons rfl (.cons rfl (.nil))))))))⟩
 have q_PARTS_0:∀ H:Hp,SqT K H a_PARTS_0 [.str "name"]:=fun H=>.inr ⟨_,_,_,la_PARTS_0,rfl,rfl,aQ (show 1≤1000000 from by decide),.cons ⟨_,rfl⟩ (.nil)⟩
 have q_PARTS_1:∀ H:Hp,SqT K H a_PARTS_1 [.str "word", .str "name"]:=fun H=>.inr ⟨_,_,_,la_PARTS_1,rfl,rfl,aQ (show 2≤1000000 from by decide),.cons ⟨_,rfl⟩ (.cons ⟨_,rfl⟩ (.nil))⟩
 have q_PARTS_2:∀ H:Hp,SqT K H a_PARTS_2 [.str "name", .str "name"]:=fun H=>.inr ⟨_,_,_,la_PARTS_2,rfl,rfl,aQ (show 2≤1000000 from by decide),.cons ⟨_,rfl⟩ (.cons ⟨_,rfl⟩ (.nil))⟩
 have q_PARTS_3:∀ H:Hp,SqT K H a_PARTS_3 [.str "name"]:=fun H=>.inr ⟨_,_,_,la_PARTS_3,rfl,rfl,aQ (show 1≤1000000 from by decide),.cons ⟨_,rfl⟩ (.nil)⟩
 have q_PARTS_4:∀ H:Hp,SqT K H a_PARTS_4 [.str "name", .str "name"]:=fun H=>.inr ⟨_,_,_,la_PARTS_4,rfl,rfl,aQ (show 2≤1000000 from by decide),.cons ⟨_,rfl⟩ (.cons ⟨_,rfl⟩ (.nil))⟩
 have q_PARTS_5:∀ H:Hp,SqT K H a_PARTS_5 [.str "name", .str "name", .str "steps"]:=fun H=>.inr ⟨_,_,_,la_PARTS_5,rfl,rfl,aQ (show 3≤1000000 from by decide),.cons ⟨_,rfl⟩ (.cons ⟨_,rfl⟩ (.cons ⟨_,rfl⟩ (.nil)))⟩
 have q_PARTS_6:∀ H:Hp,SqT K H a_PARTS_6 [.str "bound", .str "steps", .str "steps"]:=fun H=>.inr ⟨_,_,_,la_PARTS_6,rfl,rfl,aQ (show 3≤1000000 from by decide),.cons ⟨_,rfl⟩ (.cons ⟨_,rfl⟩ (.cons ⟨_,rfl⟩ (.nil)))⟩
 have q_PARTS_7:∀ H:Hp,SqT K H a_PARTS_7 [.str "bound", .str "steps"]:=fun H=>.inr ⟨_,_,_,la_PARTS_7,rfl,rfl,aQ (show 2≤1000000 from by decide),.cons ⟨_,rfl⟩ (.cons ⟨_,rfl⟩ (.nil))⟩
 have g_CLOSERS:mg "CLOSERS" = some (.ref d_CLOSERS):=PySem.W.mg_of X G h_CLOSERS
 have m_CLOSERS:ModD w K d_CLOSERS [("lend", .ref a_CLOSERS_0),("if", .ref a_CLOSERS_1),("while", .ref a_CLOSERS_2)]:=⟨dz_CLOSERS,(show (["lend", "if", "while"]:List Str).Nodup from by decide),_,[⟨PyData.keyHash w.params "lend", .str "lend" k_CLOSERS_0,.ref a_CLOSERS_0⟩,⟨PyData.keyHash w.params "if", .str "if" k_CLOSERS_1,.ref a_CLOSERS_1⟩,⟨PyData.keyHash w.params "while", .str "while" k_CLOSERS_2,.ref a_CLOSERS_2⟩],n_CLOSERS,ld_CLOSERS,⟨rfl,rfl,rfl⟩,rfl,.cons rfl (.cons rfl (.cons rfl (.nil)))⟩
 have q_CLOSERS_0:∀ H:Hp,SqT K H a_CLOSERS_0 [.str "back"]:=fun H=>.inr ⟨_,_,_,la_CLOSERS_0,rfl,rfl,aQ (show 1≤1000000 from by decide),.cons ⟨_,rfl⟩ (.nil)⟩
 have q_CLOSERS_1:∀ H:Hp,SqT K H a_CLOSERS_1 [.str "else", .str "fi"]:=fun H=>.inr ⟨_,_,_,la_CLOSERS_1,rfl,rfl,aQ (show 2≤1000000 from by decide),.cons ⟨_,rfl⟩ (.cons ⟨_,rfl⟩ (.nil))⟩
 have q_CLOSERS_2:∀ H:Hp,SqT K H a_CLOSERS_2 [.str "done"]:=fun H=>.inr ⟨_,_,_,la_CLOSERS_2,rfl,rfl,aQ (show 1≤1000000 from by decide),.cons ⟨_,rfl⟩ (.nil)⟩
 have F:=bE (st:=cw) l33 c33 k33
 refine⟨PySem.W.fnOf "law" "law" (defArgs cw) (defBody cw) (defScope cw) .none kV33 dc33 pm33 an33 cd33 ct33,fun s v=>.of_eq rfl,fun base _ _=>?_⟩
 have c1:=zj (P:=l.prog) (w:=w) (base:=base) D_law_cell_at z_len
 have d1:=sO (P:=l.prog) (w:=w) (base:=base) D_closers_of g_CLOSERS m_CLOSERS q_CLOSERS_0 q_CLOSERS_1 q_CLOSERS_2
 have d2:=yY D_head_of z_len d1
 have d3:=vK D_blocks_of z_len d2
 have d4:=mK D_steps_within d3 10
 have d5:=sU (P:=l.prog) (w:=w) (base:=base) D_names_in z_zip z_list g_PARTS m_PARTS (wf q_PARTS_0 q_PARTS_1 q_PARTS_2 q_PARTS_3 q_PARTS_4 q_PARTS_5 q_PARTS_6 q_PARTS_7)
 have d6:=xR (tQ D_names_of d5 d4)
 have d7:=pZ D_lines_of z_str z_zip d1 d2 d3 10
 have d8:=pD D_lend_lines z_enumerate d7
 have d9:=x6 (NO:=NOt) NOt.mono D_slots_of z_enumerate (u0 d6 (k:=15) (by decide)) d8
 have k0:=v_ (P:=l.prog) (w:=w) (base:=base) D_NumberedStep a_kind a_parts a_lines a_blocks
 have b0:=uY (P:=l.prog) (w:=w) (base:=base) D_line_behind z_len a_lines
 have n0:=rZ D_numbered_step D_numbered_steps d2 d3 b0 k0 10
 have r0:=rG (P:=l.prog) (w:=w) (base:=base) D_rows_of D_lend_rows D_if_rows D_loop_rows D_while_rows D_simple_row z_len z_tuple a_kind a_parts a_lines a_blocks 10
 have r1:=tw (NO:=NOt) (d:=10) (k:=33) NOt.mono D_rows_and_end (by decide) n0 r0 (u0 d9 (by decide)) b0 (by decide) (by decide)
 have r2:=zl D_code_of r1
 have pg:=tK D_law_program z_len z_int z_reversed (xQ D_law_begun z_len z_str (xa (P:=l.prog) (w:=w) (base:=base) D_law_bound)) (zh D_law_step z_len)
 have du:=BH (P:=l.prog) (w:=w) (base:=base) D_law_due z_len z_range (wZ D_law_partners z_len z_range) (vH D_law_firsts) (vW D_law_slots z_len) (wy D_law_rows z_tuple z_int)
 have ri:=x9 (P:=l.prog) (w:=w) (base:=base) D_law_right z_isinstance z_list z_len z_zip (zS D_law_row z_isinstance z_tuple z_len z_zip z_str z_bool z_int)
 exact Ao F c1 (xJ D_law_names z_range) pg du r2 ri
theorem walk{l:PySem.W.OpenLaw}{q:Program}{loose:List Str}{XP:(Str→Option Value)→Heap→Prop}{YP:World→Heap→Prop}{d:DefRec}{K:Params→PySem.W.Frag}(hn:l.most=some 63)(hdf:d.params.defaults=[])
  (hY:∀ (w:World) (h:Heap),YP w h→(K w.params).In h)
  (F:∀ (w:World) (mg:Str→Option Value) (fa:Addr) (h:Heap),(K w.params).In h→h.Ns mainGlobals mg→mg d.name=some (.ref fa)→
   ∃ fd:FuncData,(∀ (s:Shared) (u:Value),BindsTo s fd ⟨[u],[]⟩ [("_law_script", u)])∧∀ base:Heap,(K w.params).In base→base.Ns mainGlobals mg→FnOk l.prog w (K w.params) mg base i7 36 fa fd ["_law_script"] (nK (K w.params))) :
  PySem.W.WalkO q loose XP YP l.row.toRowW d [] (fun f vs=>PySem.call f vs):=
 L2.walk_of (n:=63) (k:=36) (x := "_law_script") (CX:=fun _=>i7) (sp:=fun w=>nK (K w.params)) hn (by decide) hdf ⟨rfl,by decide,by decide⟩ hY F (fun _ _ a ns hl _ hS=>⟨a,ns,rfl,hS,hl,fun _=>rfl⟩) fun _ _ _ _ _ z=>z
end K35
end
open PySem PySem.W PyProof.Rows
set_option maxRecDepth 100000 in
set_option maxHeartbeats 0 in
theorem PySem.Challenge.cw_usewarden_k35_rows_of_code_holds : PySem.Challenge.rw_usewarden_k35_rows_of_code.Holds := by
 w_on
 refine holds_law (by decide +kernel) fun said=>?_
 refine holds_open (q:=K35.qq) (loose:=K35.loo) (Xt:=K35.xt) (XP:=XL K35.qq []) (Yf:=Hook.obs (kHook K35.KK K35.kk K35.kk_eq)) (Ya:=Hook.val (kHook K35.KK K35.kk K35.kk_eq)) (YP:=Hook.says (kHook K35.KK K35.kk K35.kk_eq)) (N:=3200) K35.hl (Hook.of (kHook K35.KK K35.kk K35.kk_eq)) (Hook.keeps (kHook K35.KK K35.kk K35.kk_eq)) (fun s e=>xl_of s (Bool.and_eq_true_iff.mp e).1) XL.keeps (by rfl) (by rfl) (by rfl) (fun s e=>recFacts_of (Bool.and_eq_true_iff.mp e).2) (by rfl) said (by decide +kernel) ⟨rfl,rfl,rfl,rfl,rfl,by decide +kernel⟩ ?hw ?hc
 (case hw=>w_witness2)
 k_fill
 refine K35.walk (l:=PySem.Challenge.rw_usewarden_k35_rows_of_code) rfl rfl (fun w h Y=>PySem.W.kIn_of Y) ?F
 case F=>
  intro w mg fa h KX G hmg
  refine' K35.all_mk KX G hmg ?a0 ?l0 ?c0 ?k0 ?a1 ?l1 ?c1 ?k1 ?a2 ?l2 ?c2 ?k2 ?a3 ?l3 ?c3 ?k3 ?a4 ?l4 ?c4 ?k4 ?a5 ?l5 ?c5 ?k5 ?a6 ?l6 ?c6 ?k6 ?a7 ?l7 ?c7 ?k7 ?a8 ?l8 ?c8 ?k8 ?a9 ?l9 ?c9 ?k9 ?a10 ?l10 ?c10 ?k10 ?a11 ?l11 ?c11 ?k11 ?a12 ?l12 ?c12 ?k12 ?a13 ?l13 ?c13 ?k13 ?a14 ?l14 ?c14 ?k14 ?a15 ?l15 ?c15 ?k15 ?a16 ?l16 ?c16 ?k16 ?a17 ?l17 ?c17 ?k17 ?a18 ?l18 ?c18 ?k18 ?a19 ?l19 ?c19 ?k19 ?a20 ?l20 ?c20 ?k20 ?a21 ?l21 ?c21 ?k21 ?a22 ?l22 ?c22 ?k22 ?a23 ?l23 ?c23 ?k23 ?a24 ?l24 ?c24 ?k24 ?a25 ?l25 ?c25 ?k25 ?a26 ?l26 ?c26 ?k26 ?a27 ?l27 ?c27 ?k27 ?a28 ?l28 ?c28 ?k28 ?a29 ?l29 ?c29 ?k29 ?a30 ?l30 ?c30 ?k30 ?a31 ?l31 ?c31 ?k31 ?a32 ?l32 ?c32 ?k32 ?a33 ?l33 ?c33 ?k33 ?y_isinstance ?y_str ?y_int ?y_bool ?y_tuple ?y_len ?y_range ?y_list ?y_reversed ?y_zip ?y_enumerate ?n_NumberedStep ?pg_NumberedStep ?hd_NumberedStep ?po_NumberedStep ?sa_NumberedStep ?mk_NumberedStep ?kc_NumberedStep ?nf_kind ?nf_parts ?nf_lines ?nf_blocks ?aNumberedStep___init__ ?iNumberedStep___init__ ?lNumberedStep___init__ ?cNumberedStep___init__ ?kNumberedStep___init__ ?h_PARTS ?ld_PARTS ?la_PARTS_0 ?la_PARTS_1 ?la_PARTS_2 ?la_PARTS_3 ?la_PARTS_4 ?la_PARTS_5 ?la_PARTS_6 ?la_PARTS_7 ?dz_PARTS ?h_CLOSERS ?ld_CLOSERS ?la_CLOSERS_0 ?la_CLOSERS_1 ?la_CLOSERS_2 ?dz_CLOSERS
  (case a0=>k_is)
  (case l0=>k_is)
  (case c0=>k_is)
  (case k0=>k_is)
  (case a1=>k_is)
  (case l1=>k_is)
  (case c1=>k_is)
  (case k1=>k_is)
  (case a2=>k_is)
  (case l2=>k_is)
  (case c2=>k_is)
  (case k2=>k_is)
  (case a3=>k_is)
  (case l3=>k_is)
  (case c3=>k_is)
  (case k3=>k_is)
  (case a4=>k_is)
  (case l4=>k_is)
  (case c4=>k_is)
  (case k4=>k_is)
  (case a5=>k_is)
  (case l5=>k_is)
  (case c5=>k_is)
  (case k5=>k_is)
  (case a6=>k_is)
  (case l6=>k_is)
  (case c6=>k_is)
  (case k6=>k_is)
  (case a7=>k_is)
  (case l7=>k_is)
  (case c7=>k_is)
  (case k7=>k_is)
  (case a8=>k_is)
  (case l8=>k_is)
  (case c8=>k_is)
  (case k8=>k_is)
  (case a9=>k_is)
  (case l9=>k_is)
  (case c9=>k_is)
  (case k9=>k_is)
  (case a10=>k_is)
  (case l10=>k_is)
  (case c10=>k_is)
  (case k10=>k_is)
  (case a11=>k_is)
  (case l11=>k_is)
  (case c11=>k_is)
  (case k11=>k_is)
  (case a12=>k_is)
  (case l12=>k_is)
  (case c12=>k_is)
  (case k12=>k_is)
  (case a13=>k_is)
  (case l13=>k_is)
  (case c13=>k_is)
  (case k13=>k_is)
  (case a14=>k_is)
  (case l14=>k_is)
  (case c14=>k_is)
  (case k14=>k_is)
  (case a15=>k_is)
  (case l15=>k_is)
  (case c15=>k_is)
  (case k15=>k_is)
  (case a16=>k_is)
  (case l16=>k_is)
  (case c16=>k_is)
  (case k16=>k_is)
  (case a17=>k_is)
  (case l17=>k_is)
  (case c17=>k_is)
  (case k17=>k_is)
  (case a18=>k_is)
  (case l18=>k_is)
  (case c18=>k_is)
  (case k18=>k_is)
  (case a19=>k_is)
  (case l19=>k_is)
  (case c19=>k_is)
  (case k19=>k_is)
  (case a20=>k_is)
  (case l20=>k_is)
  (case c20=>k_is)
  (case k20=>k_is)
  (case a21=>k_is)
  (case l21=>k_is)
  (case c21=>k_is)
  (case k21=>k_is)
  (case a22=>k_is)
  (case l22=>k_is)
  (case c22=>k_is)
  (case k22=>k_is)
  (case a23=>k_is)
  (case l23=>k_is)
  (case c23=>k_is)
  (case k23=>k_is)
  (case a24=>k_is)
  (case l24=>k_is)
  (case c24=>k_is)
  (case k24=>k_is)
  (case a25=>k_is)
  (case l25=>k_is)
  (case c25=>k_is)
  (case k25=>k_is)
  (case a26=>k_is)
  (case l26=>k_is)
  (case c26=>k_is)
  (case k26=>k_is)
  (case a27=>k_is)
  (case l27=>k_is)
  (case c27=>k_is)
  (case k27=>k_is)
  (case a28=>k_is)
  (case l28=>k_is)
  (case c28=>k_is)
  (case k28=>k_is)
  (case a29=>k_is)
  (case l29=>k_is)
  (case c29=>k_is)
  (case k29=>k_is)
  (case a30=>k_is)
  (case l30=>k_is)
  (case c30=>k_is)
  (case k30=>k_is)
  (case a31=>k_is)
  (case l31=>k_is)
  (case c31=>k_is)
  (case k31=>k_is)
  (case a32=>k_is)
  (case l32=>k_is)
  (case c32=>k_is)
  (case k32=>k_is)
  (case a33=>k_is)
  (case l33=>k_is)
  (case c33=>k_is)
  (case k33=>k_is)
  (case y_isinstance=>k_is)
  (case y_str=>k_is)
  (case y_int=>k_is)
  (case y_bool=>k_is)
  (case y_tuple=>k_is)
  (case y_len=>k_is)
  (case y_range=>k_is)
  (case y_list=>k_is)
  (case y_reversed=>k_is)
  (case y_zip=>k_is)
  (case y_enumerate=>k_is)
  (case n_NumberedStep=>k_is)
  (case pg_NumberedStep=>k_is)
  (case hd_NumberedStep=>k_is)
  (case po_NumberedStep=>k_is)
  (case sa_NumberedStep=>k_is)
  (case mk_NumberedStep=>k_is)
  (case kc_NumberedStep=>k_is)
  (case nf_kind=>k_is)
  (case nf_parts=>k_is)
  (case nf_lines=>k_is)
  (case nf_blocks=>k_is)
  (case aNumberedStep___init__=>k_is)
  (case iNumberedStep___init__=>k_is)
  (case lNumberedStep___init__=>k_is)
  (case cNumberedStep___init__=>k_is)
  (case kNumberedStep___init__=>k_is)
  (case h_PARTS=>k_is)
  (case ld_PARTS=>k_is)
  (case la_PARTS_0=>k_is)
  (case la_PARTS_1=>k_is)
  (case la_PARTS_2=>k_is)
  (case la_PARTS_3=>k_is)
  (case la_PARTS_4=>k_is)
  (case la_PARTS_5=>k_is)
  (case la_PARTS_6=>k_is)
  (case la_PARTS_7=>k_is)
  (case dz_PARTS=>decide)
  (case h_CLOSERS=>k_is)
  (case ld_CLOSERS=>k_is)
  (case la_CLOSERS_0=>k_is)
  (case la_CLOSERS_1=>k_is)
  (case la_CLOSERS_2=>k_is)
  (case dz_CLOSERS=>decide)
#print axioms PySem.Challenge.cw_usewarden_k35_rows_of_code_holds
