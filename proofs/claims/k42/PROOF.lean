import PyProof.Rows.All
import Wide.All
import OpenK.AllK
import Wide.FinOn
import Lean
import PyProof.EqAt
import PyProof.EqKinds
import PyProof.TupleCall
import PyProof.SetScanFacts
import PyProof.SetKind
import PyProof.SetRoads
import PyProof.Rows.SetFrom
import PyProof.FactsBase
import PyProof.TableTree
import PyProof.FactsTree
import PyProof.PlainAttrs
import PyProof.FactsAll.set_1
import PyProof.CollectIter
import PyProof.FactsAll.set
import PyProof.ZipIter
import PyProof.EnumIter
import PyProof.TupleIter
import KE.KRevIter
import KE.KDictList
import PyProof.Rows.SumAny
import KE.KIntText
import PyProof.StrLawsTight
import PyProof.StrLawsChain
import PyProof.Rows.SortStr
import PyProof.Rows.StrNews2
import PyProof.StrLawsFirst
import PyProof.AutoSeq1
import KE.KDictOf
import PyProof.DictItems
import PyProof.NeKinds
import KE.KPairComp
import PyProof.FactsAll.tuple_2
import PyProof.FactsAll.tuple_3
import KE.KDictLaws
import PyProof.FactsAll.dict_3
import PyProof.MinMaxWalk
import PyProof.WalkInts
import PySem.Challenge.RW_usewarden_k42_breach_of_ties
set_option Elab.async false
set_option linter.all false
set_option maxRecDepth 100000
set_option maxHeartbeats 4000000
namespace L2
open PySem
def inClass (s:Stmt) (j:Nat):Stmt:=match s with
 | .ClassDef _ _ _ body _ _ _ _ _ _ _=>body.getD j (.Pass ⟨0,0,0,0⟩)
 | _=>.Pass ⟨0,0,0,0⟩
def defArgs (s:Stmt):Arguments:=match s with
 | .FunctionDef _ a _ _ _ _ _ _ _ _=>a
 | _=>{ posonlyargs:=[],args:=[],vararg:=none,kwonlyargs:=[],kw_defaults:=[],kwarg:=none,defaults:=[] }
def defBody (s:Stmt):List Stmt:=match s with
 | .FunctionDef _ _ b _ _ _ _ _ _ _=>b
 | _=>[]
def defScope (s:Stmt):Scope:=match s with
 | .FunctionDef _ _ _ _ _ _ sc _ _ _=>sc
 | _=>{ kind:=.function,names:=[],isGenerator:=false,isCoroutine:=false }
end L2
namespace K42
open PySem PySem.W
def top (i:Nat):Stmt:=PySem.Challenge.pw_usewarden_k42_breach_of_ties.main.body.getD i (.Pass ⟨0,0,0,0⟩)
noncomputable def KK (P:Params):Frag:=
 (nat_lit 2,⟨.none,none,.dict #[] 0,#[]⟩) ::
 (nat_lit 3,⟨.type "dict", none,.dict #[⟨PyData.keyHash P "__name__", .str "__name__" 165,.str "law_usewarden_k42_breach_of_ties" 385⟩,⟨PyData.keyHash P "__doc__", .str "__doc__" 166,.none⟩,⟨PyData.keyHash P "__package__", .str "__package__" 167,.none⟩,⟨PyData.keyHash P "__loader__", .str "__loader__" 168,.builtin "__main__.__loader__#opaque"⟩,⟨PyData.keyHash P "__spec__", .str "__spec__" 169,.none⟩,⟨PyData.keyHash P "__annotations__", .str "__annotations__" 170,.ref 6⟩,⟨PyData.keyHash P "__builtins__", .str "__builtins__" 171,.ref 4⟩,⟨PyData.keyHash P "__file__", .str "__file__" 173,.str "/claim/cut.py" 172⟩,⟨PyData.keyHash P "__cached__", .str "__cached__" 174,.none⟩,⟨PyData.keyHash P "sided_text", .str "sided_text" 196,.ref 21⟩,⟨PyData.keyHash P "text_in_row", .str "text_in_row" 205,.ref 28⟩,⟨PyData.keyHash P "row_of", .str "row_of" 211,.ref 33⟩,⟨PyData.keyHash P "starts_behind", .str "starts_behind" 223,.ref 40⟩,⟨PyData.keyHash P "Watch", .str "Watch" 322,.ref 102⟩,⟨PyData.keyHash P "watch_of", .str "watch_of" 328,.ref 111⟩,⟨PyData.keyHash P "watches_of", .str "watches_of" 334,.ref 116⟩,⟨PyData.keyHash P "all_begin_tie", .str "all_begin_tie" 345,.ref 123⟩,⟨PyData.keyHash P "broken_or_gone_on", .str "broken_or_gone_on" 358,.ref 130⟩,⟨PyData.keyHash P "breach_by", .str "breach_by" 373,.ref 137⟩,⟨PyData.keyHash P "breach_in", .str "breach_in" 384,.ref 144⟩,⟨PyData.keyHash P "_law_cell_at", .str "_law_cell_at" 394,.ref 151⟩,⟨PyData.keyHash P "_law_whole", .str "_law_whole" 401,.ref 158⟩,⟨PyData.keyHash P "_law_mixed", .str "_law_mixed" 410,.ref 165⟩,⟨PyData.keyHash P "_law_words", .str "_law_words" 425,.ref 172⟩,⟨PyData.keyHash P "_law_rule", .str "_law_rule" 431,.ref 177⟩,⟨PyData.keyHash P "_law_entry", .str "_law_entry" 444,.ref 184⟩,⟨PyData.keyHash P "_law_next", .str "_law_next" 453,.ref 191⟩,⟨PyData.keyHash P "_law_row_of", .str "_law_row_of" 463,.ref 198⟩,⟨PyData.keyHash P "_law_touched", .str "_law_touched" 469,.ref 203⟩,⟨PyData.keyHash P "_law_due", .str "_law_due" 485,.ref 210⟩,⟨PyData.keyHash P "_law_alike", .str "_law_alike" 493,.ref 217⟩,⟨PyData.keyHash P "law", .str "law" 499,.ref 222⟩] 32,#[]⟩) ::
 (nat_lit 15,⟨.type "tuple", none,.seq #[] 0,#[]⟩) ::
 (nat_lit 17,⟨.type "tuple", none,.seq #[.str "side" 192,.str "word" 193] 0,#[]⟩) ::
 (nat_lit 18,⟨.type "tuple", none,.seq #[] 0,#[]⟩) ::
 (nat_lit 20,⟨.type "code", none,.fields #[.str "sided_text" 189,.str "sided_text" 190,.str "/claim/cut.py" 191,.int 2 0,.int 2 0,.int 0 0,.int 0 0,.int 3 0,.ref 15,.bool true,.int 181 0,.ref 16,.none,.ref 17,.ref 18,.ref 19,.int 194 0,.int 2 0,.str "/claim/cut.py" 195],#[]⟩) ::
 (nat_lit 21,⟨.type "function", none,.func ⟨"sided_text", "sided_text", L2.defArgs (top 1),.stmts (L2.defBody (top 1)),L2.defScope (top 1),3,[],.none,.none,.none,.str "usewarden.watches" 187,none,.ref 20,.none,0⟩,#[]⟩) ::
 (nat_lit 22,⟨.type "tuple", none,.seq #[] 0,#[]⟩) ::
 (nat_lit 24,⟨.type "tuple", none,.seq #[.str "handles" 200,.str "handle" 201,.str "word" 202] 0,#[]⟩) ::
 (nat_lit 25,⟨.type "tuple", none,.seq #[] 0,#[]⟩) ::
 (nat_lit 27,⟨.type "code", none,.fields #[.str "text_in_row" 197,.str "text_in_row" 198,.str "/claim/cut.py" 199,.int 4 0,.int 3 0,.int 0 0,.int 0 0,.int 3 0,.ref 22,.bool true,.int 181 0,.ref 23,.none,.ref 24,.ref 25,.ref 26,.int 203 0,.int 4 0,.str "/claim/cut.py" 204],#[]⟩) ::
 (nat_lit 28,⟨.type "function", none,.func ⟨"text_in_row", "text_in_row", L2.defArgs (top 2),.stmts (L2.defBody (top 2)),L2.defScope (top 2),3,[],.none,.none,.none,.str "usewarden.watches" 187,none,.ref 27,.none,0⟩,#[]⟩) ::
 (nat_lit 29,⟨.type "tuple", none,.seq #[] 0,#[]⟩) ::
 (nat_lit 32,⟨.type "code", none,.fields #[.str "row_of" 206,.str "row_of" 207,.str "/claim/cut.py" 208,.int 6 0,.int 2 0,.int 0 0,.int 0 0,.int 3 0,.ref 29,.bool true,.int 181 0,.ref 30,.none,.none,.none,.ref 31,.int 209 0,.int 6 0,.str "/claim/cut.py" 210],#[]⟩) ::
 (nat_lit 33,⟨.type "function", none,.func ⟨"row_of", "row_of", L2.defArgs (top 3),.stmts (L2.defBody (top 3)),L2.defScope (top 3),3,[],.none,.none,.none,.str "usewarden.watches" 187,none,.ref 32,.none,0⟩,#[]⟩) ::
 (nat_lit 34,⟨.type "tuple", none,.seq #[] 0,#[]⟩) ::
 (nat_lit 36,⟨.type "tuple", none,.seq #[.str "starts" 215,.str "ways" 216,.str "behind" 217,.str "room" 218,.str "start" 219,.str "way" 220] 0,#[]⟩) ::
 (nat_lit 37,⟨.type "tuple", none,.seq #[] 0,#[]⟩) ::
 (nat_lit 39,⟨.type "code", none,.fields #[.str "starts_behind" 212,.str "starts_behind" 213,.str "/claim/cut.py" 214,.int 9 0,.int 2 0,.int 0 0,.int 0 0,.int 3 0,.ref 34,.bool true,.int 181 0,.ref 35,.none,.ref 36,.ref 37,.ref 38,.int 221 0,.int 9 0,.str "/claim/cut.py" 222],#[]⟩) ::
 (nat_lit 40,⟨.type "function", none,.func ⟨"starts_behind", "starts_behind", L2.defArgs (top 4),.stmts (L2.defBody (top 4)),L2.defScope (top 4),3,[],.none,.none,.none,.str "usewarden.watches" 187,none,.ref 39,.none,0⟩,#[]⟩) ::
 (nat_lit 48,⟨.type "tuple", none,.seq #[] 0,#[]⟩) ::
 (nat_lit 51,⟨.type "code", none,.fields #[.str "__init__" 236,.str "Watch.__init__" 237,.str "/claim/cut.py" 238,.int 18 0,.int 4 0,.int 0 0,.int 0 0,.int 3 0,.ref 48,.bool true,.int 181 0,.ref 49,.none,.none,.none,.ref 50,.int 239 0,.int 18 0,.str "/claim/cut.py" 240],#[]⟩) ::
 (nat_lit 52,⟨.type "function", none,.func ⟨"__init__", "Watch.__init__", L2.defArgs (L2.inClass (top 5) 0),.stmts (L2.defBody (L2.inClass (top 5) 0)),L2.defScope (L2.inClass (top 5) 0),3,[],.none,.none,.none,.str "usewarden.watches" 187,none,.ref 51,.none,0⟩,#[]⟩) ::
 (nat_lit 53,⟨.type "tuple", none,.seq #[] 0,#[]⟩) ::
 (nat_lit 55,⟨.type "tuple", none,.seq #[.str "self" 245,.str "at" 246] 0,#[]⟩) ::
 (nat_lit 56,⟨.type "tuple", none,.seq #[] 0,#[]⟩) ::
 (nat_lit 58,⟨.type "code", none,.fields #[.str "mark_at" 242,.str "Watch.mark_at" 243,.str "/claim/cut.py" 244,.int 29 0,.int 2 0,.int 0 0,.int 0 0,.int 3 0,.ref 53,.bool true,.int 181 0,.ref 54,.none,.ref 55,.ref 56,.ref 57,.int 247 0,.int 29 0,.str "/claim/cut.py" 248],#[]⟩) ::
 (nat_lit 59,⟨.type "function", none,.func ⟨"mark_at", "Watch.mark_at", L2.defArgs (L2.inClass (top 5) 1),.stmts (L2.defBody (L2.inClass (top 5) 1)),L2.defScope (L2.inClass (top 5) 1),3,[],.none,.none,.none,.str "usewarden.watches" 187,none,.ref 58,.none,0⟩,#[]⟩) ::
 (nat_lit 60,⟨.type "tuple", none,.seq #[] 0,#[]⟩) ::
 (nat_lit 62,⟨.type "tuple", none,.seq #[.str "self" 253,.str "one" 254,.str "other" 255,.str "start" 256,.str "tied" 257] 0,#[]⟩) ::
 (nat_lit 63,⟨.type "tuple", none,.seq #[] 0,#[]⟩) ::
 (nat_lit 65,⟨.type "code", none,.fields #[.str "begin_tie" 250,.str "Watch.begin_tie" 251,.str "/claim/cut.py" 252,.int 32 0,.int 4 0,.int 0 0,.int 0 0,.int 3 0,.ref 60,.bool true,.int 181 0,.ref 61,.none,.ref 62,.ref 63,.ref 64,.int 258 0,.int 32 0,.str "/claim/cut.py" 259],#[]⟩) ::
 (nat_lit 66,⟨.type "function", none,.func ⟨"begin_tie", "Watch.begin_tie", L2.defArgs (L2.inClass (top 5) 2),.stmts (L2.defBody (L2.inClass (top 5) 2)),L2.defScope (L2.inClass (top 5) 2),3,[],.none,.none,.none,.str "usewarden.watches" 187,none,.ref 65,.none,0⟩,#[]⟩) ::
 (nat_lit 67,⟨.type "tuple", none,.seq #[] 0,#[]⟩) ::
 (nat_lit 69,⟨.type "tuple", none,.seq #[.str "self" 264,.str "handle" 265,.str "side" 266] 0,#[]⟩) ::
 (nat_lit 70,⟨.type "tuple", none,.seq #[] 0,#[]⟩) ::
 (nat_lit 72,⟨.type "code", none,.fields #[.str "handles_with" 261,.str "Watch.handles_with" 262,.str "/claim/cut.py" 263,.int 42 0,.int 3 0,.int 0 0,.int 0 0,.int 3 0,.ref 67,.bool true,.int 181 0,.ref 68,.none,.ref 69,.ref 70,.ref 71,.int 267 0,.int 42 0,.str "/claim/cut.py" 268],#[]⟩) ::
 (nat_lit 73,⟨.type "function", none,.func ⟨"handles_with", "Watch.handles_with", L2.defArgs (L2.inClass (top 5) 3),.stmts (L2.defBody (L2.inClass (top 5) 3)),L2.defScope (L2.inClass (top 5) 3),3,[],.none,.none,.none,.str "usewarden.watches" 187,none,.ref 72,.none,0⟩,#[]⟩) ::
 (nat_lit 74,⟨.type "tuple", none,.seq #[] 0,#[]⟩) ::
 (nat_lit 77,⟨.type "code", none,.fields #[.str "rows_with" 270,.str "Watch.rows_with" 271,.str "/claim/cut.py" 272,.int 45 0,.int 3 0,.int 0 0,.int 0 0,.int 3 0,.ref 74,.bool true,.int 181 0,.ref 75,.none,.none,.none,.ref 76,.int 273 0,.int 45 0,.str "/claim/cut.py" 274],#[]⟩) ::
 (nat_lit 78,⟨.type "function", none,.func ⟨"rows_with", "Watch.rows_with", L2.defArgs (L2.inClass (top 5) 4),.stmts (L2.defBody (L2.inClass (top 5) 4)),L2.defScope (L2.inClass (top 5) 4),3,[],.none,.none,.none,.str "usewarden.watches" 187,none,.ref 77,.none,0⟩,#[]⟩) ::
 (nat_lit 79,⟨.type "tuple", none,.seq #[] 0,#[]⟩) ::
 (nat_lit 81,⟨.type "tuple", none,.seq #[.str "self" 279,.str "handles" 280] 0,#[]⟩) ::
 (nat_lit 82,⟨.type "tuple", none,.seq #[] 0,#[]⟩) ::
 (nat_lit 84,⟨.type "code", none,.fields #[.str "starts_of" 276,.str "Watch.starts_of" 277,.str "/claim/cut.py" 278,.int 53 0,.int 2 0,.int 0 0,.int 0 0,.int 3 0,.ref 79,.bool true,.int 181 0,.ref 80,.none,.ref 81,.ref 82,.ref 83,.int 281 0,.int 53 0,.str "/claim/cut.py" 282],#[]⟩) ::
 (nat_lit 85,⟨.type "function", none,.func ⟨"starts_of", "Watch.starts_of", L2.defArgs (L2.inClass (top 5) 5),.stmts (L2.defBody (L2.inClass (top 5) 5)),L2.defScope (L2.inClass (top 5) 5),3,[],.none,.none,.none,.str "usewarden.watches" 187,none,.ref 84,.none,0⟩,#[]⟩) ::
 (nat_lit 86,⟨.type "tuple", none,.seq #[] 0,#[]⟩) ::
 (nat_lit 88,⟨.type "tuple", none,.seq #[.str "self" 287,.str "handle" 288,.str "word" 289,.str "broken" 290,.str "handles" 291,.str "text" 292,.str "room" 293,.str "start" 294] 0,#[]⟩) ::
 (nat_lit 89,⟨.type "tuple", none,.seq #[] 0,#[]⟩) ::
 (nat_lit 91,⟨.type "code", none,.fields #[.str "broken_by" 284,.str "Watch.broken_by" 285,.str "/claim/cut.py" 286,.int 56 0,.int 3 0,.int 0 0,.int 0 0,.int 3 0,.ref 86,.bool true,.int 181 0,.ref 87,.none,.ref 88,.ref 89,.ref 90,.int 295 0,.int 56 0,.str "/claim/cut.py" 296],#[]⟩) ::
 (nat_lit 92,⟨.type "function", none,.func ⟨"broken_by", "Watch.broken_by", L2.defArgs (L2.inClass (top 5) 6),.stmts (L2.defBody (L2.inClass (top 5) 6)),L2.defScope (L2.inClass (top 5) 6),3,[],.none,.none,.none,.str "usewarden.watches" 187,none,.ref 91,.none,0⟩,#[]⟩) ::
 (nat_lit 93,⟨.type "tuple", none,.seq #[] 0,#[]⟩) ::
 (nat_lit 95,⟨.type "tuple", none,.seq #[.str "self" 301,.str "handle" 302,.str "word" 303,.str "handles" 304,.str "text" 305] 0,#[]⟩) ::
 (nat_lit 96,⟨.type "tuple", none,.seq #[] 0,#[]⟩) ::
 (nat_lit 98,⟨.type "code", none,.fields #[.str "go_on" 298,.str "Watch.go_on" 299,.str "/claim/cut.py" 300,.int 64 0,.int 3 0,.int 0 0,.int 0 0,.int 3 0,.ref 93,.bool true,.int 181 0,.ref 94,.none,.ref 95,.ref 96,.ref 97,.int 306 0,.int 64 0,.str "/claim/cut.py" 307],#[]⟩) ::
 (nat_lit 99,⟨.type "function", none,.func ⟨"go_on", "Watch.go_on", L2.defArgs (L2.inClass (top 5) 7),.stmts (L2.defBody (L2.inClass (top 5) 7)),L2.defScope (L2.inClass (top 5) 7),3,[],.none,.none,.none,.str "usewarden.watches" 187,none,.ref 98,.none,0⟩,#[]⟩) ::
 (nat_lit 100,⟨.type "tuple", none,.seq #[.str "blames" 309,.str "column" 310,.str "sides" 311,.str "starts" 312,.str "ties" 313,.str "ways" 314] 0,#[]⟩) ::
 (nat_lit 101,⟨.type "dict", none,.dict #[⟨PyData.keyHash P "__module__", .str "__module__" 231,.str "usewarden.watches" 187⟩,⟨PyData.keyHash P "__firstlineno__", .str "__firstlineno__" 235,.int 16 234⟩,⟨PyData.keyHash P "__init__", .str "__init__" 241,.ref 52⟩,⟨PyData.keyHash P "mark_at", .str "mark_at" 249,.ref 59⟩,⟨PyData.keyHash P "begin_tie", .str "begin_tie" 260,.ref 66⟩,⟨PyData.keyHash P "handles_with", .str "handles_with" 269,.ref 73⟩,⟨PyData.keyHash P "rows_with", .str "rows_with" 275,.ref 78⟩,⟨PyData.keyHash P "starts_of", .str "starts_of" 283,.ref 85⟩,⟨PyData.keyHash P "broken_by", .str "broken_by" 297,.ref 92⟩,⟨PyData.keyHash P "go_on", .str "go_on" 308,.ref 99⟩,⟨PyData.keyHash P "__static_attributes__", .str "__static_attributes__" 315,.ref 100⟩,⟨PyData.keyHash P "__dict__", .str "__dict__" 317,.ref 103⟩,⟨PyData.keyHash P "__weakref__", .str "__weakref__" 319,.ref 104⟩,⟨PyData.keyHash P "__doc__", .str "__doc__" 320,.none⟩] 4,#[]⟩) ::
 (nat_lit 102,⟨.type "type", none,.cls ⟨"Watch", [.type "object"],[.ref 102,.type "object"],101, "Watch", true,[],[],false,none,false⟩,#[none,none,some (.str "Watch" 224),some (.str "Watch" 232),some (.builtin "object.__new__"),some (.bool true)]⟩) ::
 (nat_lit 103,⟨.type "getset_descriptor", none,.fields #[.str "__dict__" 316,.ref 102,.builtin "function.__dict__", .builtin "function.__dict__#set"],#[]⟩) ::
 (nat_lit 104,⟨.type "getset_descriptor", none,.fields #[.str "__weakref__" 318,.ref 102,.builtin "ExceptionGroup.__weakref__", .none],#[]⟩) ::
 (nat_lit 107,⟨.type "tuple", none,.seq #[] 0,#[]⟩) ::
 (nat_lit 110,⟨.type "code", none,.fields #[.str "watch_of" 323,.str "watch_of" 324,.str "/claim/cut.py" 325,.int 67 0,.int 3 0,.int 0 0,.int 0 0,.int 3 0,.ref 107,.bool true,.int 181 0,.ref 108,.none,.none,.none,.ref 109,.int 326 0,.int 67 0,.str "/claim/cut.py" 327],#[]⟩) ::
 (nat_lit 111,⟨.type "function", none,.func ⟨"watch_of", "watch_of", L2.defArgs (top 6),.stmts (L2.defBody (top 6)),L2.defScope (top 6),3,[],.none,.none,.none,.str "usewarden.watches" 187,none,.ref 110,.none,0⟩,#[]⟩) ::
 (nat_lit 112,⟨.type "tuple", none,.seq #[] 0,#[]⟩) ::
 (nat_lit 115,⟨.type "code", none,.fields #[.str "watches_of" 329,.str "watches_of" 330,.str "/claim/cut.py" 331,.int 71 0,.int 1 0,.int 0 0,.int 0 0,.int 3 0,.ref 112,.bool true,.int 181 0,.ref 113,.none,.none,.none,.ref 114,.int 332 0,.int 71 0,.str "/claim/cut.py" 333],#[]⟩) ::
 (nat_lit 116,⟨.type "function", none,.func ⟨"watches_of", "watches_of", L2.defArgs (top 7),.stmts (L2.defBody (top 7)),L2.defScope (top 7),3,[],.none,.none,.none,.str "usewarden.watches" 187,none,.ref 115,.none,0⟩,#[]⟩) ::
 (nat_lit 117,⟨.type "tuple", none,.seq #[] 0,#[]⟩) ::
 (nat_lit 119,⟨.type "tuple", none,.seq #[.str "watches" 338,.str "one" 339,.str "other" 340,.str "start" 341,.str "watch" 342] 0,#[]⟩) ::
 (nat_lit 120,⟨.type "tuple", none,.seq #[] 0,#[]⟩) ::
 (nat_lit 122,⟨.type "code", none,.fields #[.str "all_begin_tie" 335,.str "all_begin_tie" 336,.str "/claim/cut.py" 337,.int 73 0,.int 4 0,.int 0 0,.int 0 0,.int 3 0,.ref 117,.bool true,.int 181 0,.ref 118,.none,.ref 119,.ref 120,.ref 121,.int 343 0,.int 73 0,.str "/claim/cut.py" 344],#[]⟩) ::
 (nat_lit 123,⟨.type "function", none,.func ⟨"all_begin_tie", "all_begin_tie", L2.defArgs (top 8),.stmts (L2.defBody (top 8)),L2.defScope (top 8),3,[],.none,.none,.none,.str "usewarden.watches" 187,none,.ref 122,.none,0⟩,#[]⟩) ::
 (nat_lit 124,⟨.type "tuple", none,.seq #[] 0,#[]⟩) ::
 (nat_lit 126,⟨.type "tuple", none,.seq #[.str "watches" 349,.str "at" 350,.str "handle" 351,.str "word" 352,.str "broken" 353,.str "watch" 354,.str "first" 355] 0,#[]⟩) ::
 (nat_lit 127,⟨.type "tuple", none,.seq #[] 0,#[]⟩) ::
 (nat_lit 129,⟨.type "code", none,.fields #[.str "broken_or_gone_on" 346,.str "broken_or_gone_on" 347,.str "/claim/cut.py" 348,.int 76 0,.int 4 0,.int 0 0,.int 0 0,.int 3 0,.ref 124,.bool true,.int 181 0,.ref 125,.none,.ref 126,.ref 127,.ref 128,.int 356 0,.int 76 0,.str "/claim/cut.py" 357],#[]⟩) ::
 (nat_lit 130,⟨.type "function", none,.func ⟨"broken_or_gone_on", "broken_or_gone_on", L2.defArgs (top 9),.stmts (L2.defBody (top 9)),L2.defScope (top 9),3,[],.none,.none,.none,.str "usewarden.watches" 187,none,.ref 129,.none,0⟩,#[]⟩) ::
 (nat_lit 131,⟨.type "tuple", none,.seq #[] 0,#[]⟩) ::
 (nat_lit 133,⟨.type "tuple", none,.seq #[.str "watches" 364,.str "log" 365,.str "at" 366,.str "entry" 367,.str "broken" 368,.str "start" 369,.str "handles" 370] 0,#[]⟩) ::
 (nat_lit 134,⟨.type "tuple", none,.seq #[] 0,#[]⟩) ::
 (nat_lit 136,⟨.type "code", none,.fields #[.str "breach_by" 361,.str "breach_by" 362,.str "/claim/cut.py" 363,.int 89 0,.int 3 0,.int 0 0,.int 0 0,.int 3 0,.ref 131,.bool true,.int 181 0,.ref 132,.none,.ref 133,.ref 134,.ref 135,.int 371 0,.int 89 0,.str "/claim/cut.py" 372],#[]⟩) ::
 (nat_lit 137,⟨.type "function", none,.func ⟨"breach_by", "breach_by", L2.defArgs (top 11),.stmts (L2.defBody (top 11)),L2.defScope (top 11),3,[],.none,.none,.none,.str "usewarden.breaches" 359,none,.ref 136,.none,0⟩,#[]⟩) ::
 (nat_lit 138,⟨.type "tuple", none,.seq #[] 0,#[]⟩) ::
 (nat_lit 140,⟨.type "tuple", none,.seq #[.str "rules" 377,.str "log" 378,.str "watches" 379,.str "at" 380,.str "breach" 381] 0,#[]⟩) ::
 (nat_lit 141,⟨.type "tuple", none,.seq #[] 0,#[]⟩) ::
 (nat_lit 143,⟨.type "code", none,.fields #[.str "breach_in" 374,.str "breach_in" 375,.str "/claim/cut.py" 376,.int 100 0,.int 2 0,.int 0 0,.int 0 0,.int 3 0,.ref 138,.bool true,.int 181 0,.ref 139,.none,.ref 140,.ref 141,.ref 142,.int 382 0,.int 100 0,.str "/claim/cut.py" 383],#[]⟩) ::
 (nat_lit 144,⟨.type "function", none,.func ⟨"breach_in", "breach_in", L2.defArgs (top 12),.stmts (L2.defBody (top 12)),L2.defScope (top 12),3,[],.none,.none,.none,.str "usewarden.breaches" 359,none,.ref 143,.none,0⟩,#[]⟩) ::
 (nat_lit 145,⟨.type "tuple", none,.seq #[] 0,#[]⟩) ::
 (nat_lit 147,⟨.type "tuple", none,.seq #[.str "_law_script" 390,.str "_law_k" 391] 0,#[]⟩) ::
 (nat_lit 148,⟨.type "tuple", none,.seq #[] 0,#[]⟩) ::
 (nat_lit 150,⟨.type "code", none,.fields #[.str "_law_cell_at" 387,.str "_law_cell_at" 388,.str "/claim/cut.py" 389,.int 108 0,.int 2 0,.int 0 0,.int 0 0,.int 3 0,.ref 145,.bool true,.int 181 0,.ref 146,.none,.ref 147,.ref 148,.ref 149,.int 392 0,.int 108 0,.str "/claim/cut.py" 393],#[]⟩) ::
 (nat_lit 151,⟨.type "function", none,.func ⟨"_law_cell_at", "_law_cell_at", L2.defArgs (top 14),.stmts (L2.defBody (top 14)),L2.defScope (top 14),3,[],.none,.none,.none,.str "law_usewarden_k42_breach_of_ties" 385,none,.ref 150,.none,0⟩,#[]⟩) ::
 (nat_lit 152,⟨.type "tuple", none,.seq #[] 0,#[]⟩) ::
 (nat_lit 154,⟨.type "tuple", none,.seq #[.str "_law_found" 398] 0,#[]⟩) ::
 (nat_lit 155,⟨.type "tuple", none,.seq #[] 0,#[]⟩) ::
 (nat_lit 157,⟨.type "code", none,.fields #[.str "_law_whole" 395,.str "_law_whole" 396,.str "/claim/cut.py" 397,.int 112 0,.int 1 0,.int 0 0,.int 0 0,.int 3 0,.ref 152,.bool true,.int 181 0,.ref 153,.none,.ref 154,.ref 155,.ref 156,.int 399 0,.int 112 0,.str "/claim/cut.py" 400],#[]⟩) ::
 (nat_lit 158,⟨.type "function", none,.func ⟨"_law_whole", "_law_whole", L2.defArgs (top 15),.stmts (L2.defBody (top 15)),L2.defScope (top 15),3,[],.none,.none,.none,.str "law_usewarden_k42_breach_of_ties" 385,none,.ref 157,.none,0⟩,#[]⟩) ::
 (nat_lit 159,⟨.type "tuple", none,.seq #[] 0,#[]⟩) ::
 (nat_lit 161,⟨.type "tuple", none,.seq #[.str "_law_cell" 405,.str "_law_k" 406,.str "_law_number" 407] 0,#[]⟩) ::
 (nat_lit 162,⟨.type "tuple", none,.seq #[] 0,#[]⟩) ::
 (nat_lit 164,⟨.type "code", none,.fields #[.str "_law_mixed" 402,.str "_law_mixed" 403,.str "/claim/cut.py" 404,.int 114 0,.int 2 0,.int 0 0,.int 0 0,.int 3 0,.ref 159,.bool true,.int 181 0,.ref 160,.none,.ref 161,.ref 162,.ref 163,.int 408 0,.int 114 0,.str "/claim/cut.py" 409],#[]⟩) ::
 (nat_lit 165,⟨.type "function", none,.func ⟨"_law_mixed", "_law_mixed", L2.defArgs (top 16),.stmts (L2.defBody (top 16)),L2.defScope (top 16),3,[],.none,.none,.none,.str "law_usewarden_k42_breach_of_ties" 385,none,.ref 164,.none,0⟩,#[]⟩) ::
 (nat_lit 166,⟨.type "tuple", none,.seq #[] 0,#[]⟩) ::
 (nat_lit 168,⟨.type "tuple", none,.seq #[.str "_law_cell" 414,.str "_law_many" 415,.str "_law_letters" 416,.str "_law_size" 417,.str "_law_at" 418,.str "_law_words_here" 419,.str "_law_k" 420,.str "_law_word" 421,.str "_law_j" 422] 0,#[]⟩) ::
 (nat_lit 169,⟨.type "tuple", none,.seq #[] 0,#[]⟩) ::
 (nat_lit 171,⟨.type "code", none,.fields #[.str "_law_words" 411,.str "_law_words" 412,.str "/claim/cut.py" 413,.int 117 0,.int 2 0,.int 0 0,.int 0 0,.int 3 0,.ref 166,.bool true,.int 181 0,.ref 167,.none,.ref 168,.ref 169,.ref 170,.int 423 0,.int 117 0,.str "/claim/cut.py" 424],#[]⟩) ::
 (nat_lit 172,⟨.type "function", none,.func ⟨"_law_words", "_law_words", L2.defArgs (top 17),.stmts (L2.defBody (top 17)),L2.defScope (top 17),3,[],.none,.none,.none,.str "law_usewarden_k42_breach_of_ties" 385,none,.ref 171,.none,0⟩,#[]⟩) ::
 (nat_lit 173,⟨.type "tuple", none,.seq #[] 0,#[]⟩) ::
 (nat_lit 176,⟨.type "code", none,.fields #[.str "_law_rule" 426,.str "_law_rule" 427,.str "/claim/cut.py" 428,.int 128 0,.int 2 0,.int 0 0,.int 0 0,.int 3 0,.ref 173,.bool true,.int 181 0,.ref 174,.none,.none,.none,.ref 175,.int 429 0,.int 128 0,.str "/claim/cut.py" 430],#[]⟩) ::
 (nat_lit 177,⟨.type "function", none,.func ⟨"_law_rule", "_law_rule", L2.defArgs (top 18),.stmts (L2.defBody (top 18)),L2.defScope (top 18),3,[],.none,.none,.none,.str "law_usewarden_k42_breach_of_ties" 385,none,.ref 176,.none,0⟩,#[]⟩) ::
 (nat_lit 178,⟨.type "tuple", none,.seq #[] 0,#[]⟩) ::
 (nat_lit 180,⟨.type "tuple", none,.seq #[.str "_law_cell" 435,.str "_law_first" 436,.str "_law_many" 437,.str "_law_words_here" 438,.str "_law_line" 439,.str "_law_one" 440,.str "_law_word" 441] 0,#[]⟩) ::
 (nat_lit 181,⟨.type "tuple", none,.seq #[] 0,#[]⟩) ::
 (nat_lit 183,⟨.type "code", none,.fields #[.str "_law_entry" 432,.str "_law_entry" 433,.str "/claim/cut.py" 434,.int 145 0,.int 4 0,.int 0 0,.int 0 0,.int 3 0,.ref 178,.bool true,.int 181 0,.ref 179,.none,.ref 180,.ref 181,.ref 182,.int 442 0,.int 145 0,.str "/claim/cut.py" 443],#[]⟩) ::
 (nat_lit 184,⟨.type "function", none,.func ⟨"_law_entry", "_law_entry", L2.defArgs (top 19),.stmts (L2.defBody (top 19)),L2.defScope (top 19),3,[],.none,.none,.none,.str "law_usewarden_k42_breach_of_ties" 385,none,.ref 183,.none,0⟩,#[]⟩) ::
 (nat_lit 185,⟨.type "tuple", none,.seq #[] 0,#[]⟩) ::
 (nat_lit 187,⟨.type "tuple", none,.seq #[.str "_law_rule_here" 448,.str "_law_room" 449,.str "_law_text" 450] 0,#[]⟩) ::
 (nat_lit 188,⟨.type "tuple", none,.seq #[] 0,#[]⟩) ::
 (nat_lit 190,⟨.type "code", none,.fields #[.str "_law_next" 445,.str "_law_next" 446,.str "/claim/cut.py" 447,.int 152 0,.int 3 0,.int 0 0,.int 0 0,.int 3 0,.ref 185,.bool true,.int 181 0,.ref 186,.none,.ref 187,.ref 188,.ref 189,.int 451 0,.int 152 0,.str "/claim/cut.py" 452],#[]⟩) ::
 (nat_lit 191,⟨.type "function", none,.func ⟨"_law_next", "_law_next", L2.defArgs (top 20),.stmts (L2.defBody (top 20)),L2.defScope (top 20),3,[],.none,.none,.none,.str "law_usewarden_k42_breach_of_ties" 385,none,.ref 190,.none,0⟩,#[]⟩) ::
 (nat_lit 192,⟨.type "tuple", none,.seq #[] 0,#[]⟩) ::
 (nat_lit 194,⟨.type "tuple", none,.seq #[.str "_law_log" 457,.str "_law_key" 458,.str "_law_row" 459,.str "_law_entry_here" 460] 0,#[]⟩) ::
 (nat_lit 195,⟨.type "tuple", none,.seq #[] 0,#[]⟩) ::
 (nat_lit 197,⟨.type "code", none,.fields #[.str "_law_row_of" 454,.str "_law_row_of" 455,.str "/claim/cut.py" 456,.int 156 0,.int 2 0,.int 0 0,.int 0 0,.int 3 0,.ref 192,.bool true,.int 181 0,.ref 193,.none,.ref 194,.ref 195,.ref 196,.int 461 0,.int 156 0,.str "/claim/cut.py" 462],#[]⟩) ::
 (nat_lit 198,⟨.type "function", none,.func ⟨"_law_row_of", "_law_row_of", L2.defArgs (top 21),.stmts (L2.defBody (top 21)),L2.defScope (top 21),3,[],.none,.none,.none,.str "law_usewarden_k42_breach_of_ties" 385,none,.ref 197,.none,0⟩,#[]⟩) ::
 (nat_lit 199,⟨.type "tuple", none,.seq #[] 0,#[]⟩) ::
 (nat_lit 202,⟨.type "code", none,.fields #[.str "_law_touched" 464,.str "_law_touched" 465,.str "/claim/cut.py" 466,.int 164 0,.int 3 0,.int 0 0,.int 0 0,.int 3 0,.ref 199,.bool true,.int 181 0,.ref 200,.none,.none,.none,.ref 201,.int 467 0,.int 164 0,.str "/claim/cut.py" 468],#[]⟩) ::
 (nat_lit 203,⟨.type "function", none,.func ⟨"_law_touched", "_law_touched", L2.defArgs (top 22),.stmts (L2.defBody (top 22)),L2.defScope (top 22),3,[],.none,.none,.none,.str "law_usewarden_k42_breach_of_ties" 385,none,.ref 202,.none,0⟩,#[]⟩) ::
 (nat_lit 204,⟨.type "tuple", none,.seq #[] 0,#[]⟩) ::
 (nat_lit 206,⟨.type "tuple", none,.seq #[.str "_law_rules" 473,.str "_law_log" 474,.str "_law_ties" 475,.str "_law_rooms" 476,.str "_law_at" 477,.str "_law_entry_here" 478,.str "_law_name" 479,.str "_law_rule_here" 480,.str "_law_key" 481,.str "_law_text" 482] 0,#[]⟩) ::
 (nat_lit 207,⟨.type "tuple", none,.seq #[] 0,#[]⟩) ::
 (nat_lit 209,⟨.type "code", none,.fields #[.str "_law_due" 470,.str "_law_due" 471,.str "/claim/cut.py" 472,.int 168 0,.int 2 0,.int 0 0,.int 0 0,.int 3 0,.ref 204,.bool true,.int 181 0,.ref 205,.none,.ref 206,.ref 207,.ref 208,.int 483 0,.int 168 0,.str "/claim/cut.py" 484],#[]⟩) ::
 (nat_lit 210,⟨.type "function", none,.func ⟨"_law_due", "_law_due", L2.defArgs (top 23),.stmts (L2.defBody (top 23)),L2.defScope (top 23),3,[],.none,.none,.none,.str "law_usewarden_k42_breach_of_ties" 385,none,.ref 209,.none,0⟩,#[]⟩) ::
 (nat_lit 211,⟨.type "tuple", none,.seq #[] 0,#[]⟩) ::
 (nat_lit 213,⟨.type "tuple", none,.seq #[.str "_law_found" 489,.str "_law_due_here" 490] 0,#[]⟩) ::
 (nat_lit 214,⟨.type "tuple", none,.seq #[] 0,#[]⟩) ::
 (nat_lit 216,⟨.type "code", none,.fields #[.str "_law_alike" 486,.str "_law_alike" 487,.str "/claim/cut.py" 488,.int 183 0,.int 2 0,.int 0 0,.int 0 0,.int 3 0,.ref 211,.bool true,.int 181 0,.ref 212,.none,.ref 213,.ref 214,.ref 215,.int 491 0,.int 183 0,.str "/claim/cut.py" 492],#[]⟩) ::
 (nat_lit 217,⟨.type "function", none,.func ⟨"_law_alike", "_law_alike", L2.defArgs (top 24),.stmts (L2.defBody (top 24)),L2.defScope (top 24),3,[],.none,.none,.none,.str "law_usewarden_k42_breach_of_ties" 385,none,.ref 216,.none,0⟩,#[]⟩) ::
 (nat_lit 218,⟨.type "tuple", none,.seq #[] 0,#[]⟩) ::
 (nat_lit 221,⟨.type "code", none,.fields #[.str "law" 494,.str "law" 495,.str "/claim/cut.py" 496,.int 191 0,.int 1 0,.int 0 0,.int 0 0,.int 3 0,.ref 218,.bool true,.int 181 0,.ref 219,.none,.none,.none,.ref 220,.int 497 0,.int 191 0,.str "/claim/cut.py" 498],#[]⟩) ::
 (nat_lit 222,⟨.type "function", none,.func ⟨"law", "law", L2.defArgs (top 25),.stmts (L2.defBody (top 25)),L2.defScope (top 25),3,[],.none,.none,.none,.str "law_usewarden_k42_breach_of_ties" 385,none,.ref 221,.none,0⟩,#[]⟩) :: []
def kk:List Addr:=[2,3,15,17,18,20,21,22,24,25,27,28,29,32,33,34,36,37,39,40,48,51,52,53,55,56,58,59,60,62,63,65,66,67,69,70,72,73,74,77,78,79,81,82,84,85,86,88,89,91,92,93,95,96,98,99,100,101,102,103,104,107,110,111,112,115,116,117,119,120,122,123,124,126,127,129,130,131,133,134,136,137,138,140,141,143,144,145,147,148,150,151,152,154,155,157,158,159,161,162,164,165,166,168,169,171,172,173,176,177,178,180,181,183,184,185,187,188,190,191,192,194,195,197,198,199,202,203,204,206,207,209,210,211,213,214,216,217,218,221,222]
theorem kk_eq:∀ P,kk = (KK P).map (·.1):=fun _=>by kernel_rfl
noncomputable abbrev HH:Hook:=kHook KK kk kk_eq
def qq:Program:=view PySem.Challenge.pw_usewarden_k42_breach_of_ties [1,2,3,4,5,6,7,8,9,11,12,14,15,16,17,18,19,20,21,22,23,24,25]
def loo:List Str:=[]
noncomputable def xt (s:Shared):Bool:=xlAt qq [] s && recOk (RowW.records (OpenRow.toRowW (OpenLaw.row PySem.Challenge.rw_usewarden_k42_breach_of_ties))) s
def PH1 (w:World):Prop:=(openEnds treeTable PySem.Challenge.pw_usewarden_k42_breach_of_ties w 2452).map (fun s=>openSeen qq loo (importedModules (Program.main PySem.Challenge.pw_usewarden_k42_breach_of_ties).body) xt true s) = some (openGood qq loo)
def PH2 (w:World):Prop:=(openEnds treeTable PySem.Challenge.pw_usewarden_k42_breach_of_ties w 2452).map (fun s=>Hook.obs HH s) = some (Hook.val HH w)
set_option maxRecDepth 1000000 in
theorem hlw1 (w:World):PH1 w:=by unfold PH1; kernel_rfl
set_option maxRecDepth 1000000 in
theorem hlw2 (w:World):PH2 w:=by unfold PH2; kernel_rfl
theorem map_both {α β γ : Type} {o:Option α} {f:α→β} {g:α→γ} {a:β} {b:γ} (h1:o.map f = some a) (h2:o.map g = some b):o.map (fun s=>(f s,g s)) = some (a,b):=by
 cases o with
 | none=>cases h1
 | some s=>cases h1; cases h2; rfl
theorem hl (w:World):(openEnds treeTable PySem.Challenge.pw_usewarden_k42_breach_of_ties w 2452).map (fun s=>(openSeen qq loo (importedModules (Program.main PySem.Challenge.pw_usewarden_k42_breach_of_ties).body) xt true s,Hook.obs HH s)) = some (openGood qq loo,Hook.val HH w):=map_both (hlw1 w) (hlw2 w)
end K42
-- CHANGE: your row's module here, as the last of these rows
namespace L2
open PySem PySem.Spec PyProof.Rows
abbrev Key:=Sum Int Str
def keyIs:Key→Value→Bool
 | .inl k,v=>Value.isInt k v
 | .inr x,v=>Value.isStrOf x v
def keyH (w:World):Key→Int
 | .inl k=>hashInt k
 | .inr x=>hashStr w x
theorem keyIs_shape:∀ {k:Key} {v:Value},keyIs k v = true→(∃ i t,k = Sum.inl i∧v = Value.int i t)∨(∃ x t,k = Sum.inr x∧v = Value.str x t)
 | .inl i,v,h=>by
  obtain ⟨t,e⟩:=Value.isInt_shape (k:=i) (v:=v) h
  exact .inl ⟨i,t,rfl,e⟩
 | .inr x,v,h=>by
  obtain ⟨t,e⟩:=Value.isStrOf_shape (x:=x) (v:=v) h
  exact .inr ⟨x,t,rfl,e⟩
theorem keyIs_int (i:Int) (t:Tok):keyIs (.inl i) (.int i t) = true:=by simp [keyIs,Value.isInt]
theorem keyIs_str (x:Str) (t:Tok):keyIs (.inr x) (.str x t) = true:=by simp [keyIs,Value.isStrOf]
theorem key_ll (a b:Int):decide ((Sum.inl a:Key) = Sum.inl b) = (a == b):=by
 by_cases e:a = b
 ·subst e; simp
 ·have h:¬ (Sum.inl a:Key) = Sum.inl b:=fun q=>e (Sum.inl.inj q)
  rw [decide_eq_false h]
  exact (beq_eq_false_iff_ne.mpr e).symm
theorem key_rr (a b:Str):decide ((Sum.inr a:Key) = Sum.inr b) = decide (a = b):=by
 by_cases e:a = b
 ·subst e; simp
 ·have h:¬ (Sum.inr a:Key) = Sum.inr b:=fun q=>e (Sum.inr.inj q)
  rw [decide_eq_false h,decide_eq_false e]
theorem key_lr (a:Int) (b:Str):decide ((Sum.inl a:Key) = Sum.inr b) = false:=decide_eq_false (fun q=>nomatch q)
theorem key_rl (a:Str) (b:Int):decide ((Sum.inr a:Key) = Sum.inl b) = false:=decide_eq_false (fun q=>nomatch q)
def mixKind (prog:Program) (w:World):PySem.KeyKind prog w Key where
 is:=keyIs
 hash:=keyH w
 inj:=fun v a b ha hb=>by
  rcases keyIs_shape ha with ⟨i,t,rfl,rfl⟩ | ⟨x,t,rfl,rfl⟩
  ·rcases keyIs_shape hb with ⟨j,u,rfl,e⟩ | ⟨y,u,rfl,e⟩
   ·injection e with e1 _; rw [e1]
   ·exact nomatch e
  ·rcases keyIs_shape hb with ⟨j,u,rfl,e⟩ | ⟨y,u,rfl,e⟩
   ·exact nomatch e
   ·injection e with e1 _; rw [e1]
 byValue:=fun k v h=>by
  rcases keyIs_shape h with ⟨i,t,rfl,rfl⟩ | ⟨x,t,rfl,rfl⟩ <;> rfl
 pyHash:=fun hv h=>by
  rcases keyIs_shape hv with ⟨i,t,rfl,rfl⟩ | ⟨x,t,rfl,rfl⟩
  ·exact wpAny_pyHash_int h
  ·exact wpAny_pyHash_str h
 eqBool:=fun hu hv h=>by
  rcases keyIs_shape hu with ⟨i,t,rfl,rfl⟩ | ⟨x,t,rfl,rfl⟩
  ·rcases keyIs_shape hv with ⟨j,u,rfl,rfl⟩ | ⟨y,u,rfl,rfl⟩
   ·rw [key_ll] at h; exact wpAny_eqBool_int h
   ·rw [key_lr] at h; exact SeqAt.EqAt.int_str i t y u _ _ _ _ h
  ·rcases keyIs_shape hv with ⟨j,u,rfl,rfl⟩ | ⟨y,u,rfl,rfl⟩
   ·rw [key_rl] at h; exact SeqAt.EqAt.str_int x t j u _ _ _ _ h
   ·rw [key_rr] at h; exact wpAny_eqBool_str h
 «strs»:=fun k x t v h=>by
  rcases keyIs_shape h with ⟨i,u,rfl,e⟩ | ⟨y,u,rfl,e⟩
  ·exact nomatch e
  ·injection e with e1 _
   subst e1
   cases v <;> rfl
theorem mixKind_int (prog:Program) (w:World) (i:Int) (t:Tok):(mixKind prog w).is (.inl i) (.int i t) = true:=keyIs_int i t
theorem mixKind_str (prog:Program) (w:World) (x:Str) (t:Tok):(mixKind prog w).is (.inr x) (.str x t) = true:=keyIs_str x t
end L2
namespace L2
open PySem PySem.Spec PyProof.Rows
set_option genSizeOf false in
inductive V where
 | non | bl (b:Bool) | int (i:Int) | str (x:Str) | byt (b:Array UInt8) | flt (b:UInt64) | ref (a:Addr) | ty (n:String)
 deriving DecidableEq
def RelV:V→Value→Prop
 | .non,u=>u = Value.none
 | .bl b,u=>u = Value.bool b
 | .int i,u=>∃ t,u = Value.int i t
 | .str x,u=>∃ t,u = Value.str x t
 | .byt b,u=>∃ t,u = Value.bytes b t
 | .flt b,u=>∃ t,u = Value.float b t
 | .ref a,u=>u = Value.ref a
 | .ty n,u=>u = Value.type n
abbrev Vals:List V→List Value→Prop:=Paired RelV
theorem Vals.length {xs:List V} {us:List Value} (r:Vals xs us):xs.length = us.length:=Paired.length r
theorem Vals.get:∀ {xs:List V} {us:List Value} {i:Nat} {x:V},Vals xs us→xs[i]? = some x→∃ u,us[i]? = some u∧RelV x u
 | _,_,_,_,.nil,e=>by simp at e
 | _,_,0,_,.cons r _,e=>by simp at e; subst e; exact ⟨_,rfl,r⟩
 | _,_,i + 1,x,.cons _ t,e=>by
  obtain ⟨u,h1,h2⟩:=Vals.get (i:=i) (x:=x) t (by simpa using e)
  exact ⟨u,by simpa using h1,h2⟩
theorem Vals.append:∀ {xs ys:List V} {us ws:List Value},Vals xs us→Vals ys ws→Vals (xs ++ ys) (us ++ ws)
 | _,_,_,_,.nil,s=>s
 | _,_,_,_,.cons r t,s=>.cons r (Vals.append t s)
theorem Vals.take:∀ {xs:List V} {us:List Value} (n:Nat),Vals xs us→Vals (xs.take n) (us.take n)
 | _,_,0,_=>.nil
 | _,_,_ + 1,.nil=>.nil
 | _,_,n + 1,.cons r t=>.cons r (Vals.take n t)
theorem Vals.drop:∀ {xs:List V} {us:List Value} (n:Nat),Vals xs us→Vals (xs.drop n) (us.drop n)
 | _,_,0,r=>r
 | _,_,_ + 1,.nil=>.nil
 | _,_,n + 1,.cons _ t=>Vals.drop n t
def RelO:Option V→Option Value→Prop
 | some v,some u=>RelV v u
 | none,none=>True
 | _,_=>False
def KV {κ : Type}:List (κ × V)→List (κ × Value)→Prop:=Paired fun (p:κ × V) (q:κ × Value)=>p.1 = q.1∧RelV p.2 q.2
def kV:Key→V
 | .inl i=>.int i
 | .inr x=>.str x
set_option genSizeOf false in
inductive HO where
 /-- a list -/
 | lst (xs:List V)
 /-- a tuple (never changes) -/
 | tup (xs:List V)
 /-- a dict whose keys are ints and texts; one whose keys are tuples of ints and texts (the empty one is both) -/
 | dK (kvs:List (Key × V)) | dT (kvs:List (List Key × V))
 /-- a set of ints: its members, its size -/
 | set (S:Int→Bool) (n:Nat)
 /-- an instance of the class at C, its dict at dx, its attributes -/
 | ins (C dx:Addr) (fs:List (Str × V))
 /-- the dict of the instance at x -/
 | own (x:Addr)
 /-- the dict of an exception -/
 | xd (fs:List (Str × V))
 /-- a bound method, f of x -/
 | met (f x:Addr)
 /-- a range object lo, lo + 1, .. below hi -/
 | rng (lo hi:Int)
 /-- a thing that is known to the object (the script; a dict while a loop walks it): read, never written while it is so -/
 | frz (o:Obj) (u:HO)
 /-- a code object's table -/
 | tbl (ps:Array Value)
 /-- any other thing, by what is true of its one object (a def of one's own: SetO a S n := HO.ext fun h => ..) -/
 | ext (φ : Heap→Prop)
abbrev Hp:=Addr→Option HO
def upd (H:Hp) (a:Addr) (o:HO):Hp:=fun b=>if b = a then some o else H b
theorem upd_same {H:Hp} {a:Addr} {o:HO}:upd H a o a = some o:=by unfold upd; rw [if_pos rfl]
theorem upd_ne {H:Hp} {a b:Addr} {o:HO} (h:b ≠ a):upd H a o b = H b:=by unfold upd; rw [if_neg h]
theorem ne_of {H:Hp} {a b:Addr} {o u:HO} (h:H a = some o) (h':H b = some u) (d:o ≠ u):a ≠ b:=by
 intro e; subst e; rw [h] at h'; exact d (Option.some.inj h')
theorem ne_of_none {H:Hp} {a b:Addr} {o:HO} (h:H a = some o) (h':H b = none):a ≠ b:=by
 intro e; subst e; rw [h] at h'; cases h'
def IsTupN (h:Heap) (a:Addr) (items:Array Value):Prop:=∃ o,h.get? a = some o∧o.cls = .type "tuple" ∧ o.dict = none∧∃ n,o.data = .seq items n
theorem IsTupN.tup {h:Heap} {a:Addr} {items:Array Value} (x:IsTupN h a items):IsTup h a items:=let ⟨o,e,c,_,d⟩:=x; ⟨o,e,c,d⟩
theorem IsTupN.lt {h:Heap} {a:Addr} {items:Array Value} (x:IsTupN h a items):a < h.objs.size:=let ⟨_,e,_⟩:=x; Heap.lt_size e
theorem IsTupN.new (h:Heap) (items:Array Value):IsTupN (h.push { cls:=.type "tuple", data:=.seq items }) h.objs.size items:=⟨_,Heap.get?_push_size _ rfl,rfl,rfl,_,rfl⟩
section
variable (P:Program) (w:World)
def ObjOk (H:Hp) (h:Heap) (a:Addr):HO→Prop
 | .lst xs=>xs.length ≤ sizeLine∧∃ (its:List Value) (n:Nat),Vals xs its∧h.get? a = some { cls:=.type "list", data:=.seq its.toArray n }
 | .tup xs=>xs.length ≤ sizeLine∧∃ its:List Value,Vals xs its∧IsTupN h a its.toArray
 | .dK kvs=>kvs.length ≤ sizeLine∧(a == sysModules) = false∧∃ vs,KV kvs vs∧h.DictOf (mixKind P w) a vs
 | .dT kvs=>kvs.length ≤ sizeLine∧(a == sysModules) = false∧∃ xs:List (List Key × Addr × Value),
   Paired (fun (p:List Key × V) (q:List Key × Addr × Value)=>p.1 = q.1∧H q.2.1 = some (.tup (p.1.map kV))∧RelV p.2 q.2.2) kvs xs∧
   ∃ o es ep,h.get? a = some o∧o.ExactDict∧o.data = .dict es ep∧es.toList = xs.map (entryOfKey (tupleKind (mixKind P w)))∧(xs.map (·.1)).Nodup
 | .set S n=>h.SetOf (intKind P w) a S n
 | .ins C dx fs=>H dx = some (.own a)∧fs.length ≤ 1000∧dx ≠ a∧h.get? a = some (PySem.W.instObj C dx)∧
   ∃ mA,h.Ns1 dx mA∧(∀ f,RelO (fs.lookup f) (mA f))∧PySem.Within mA (fs.map (·.1))
 | .own _=>∃ o,h.get? a = some o
 | .xd fs=>∃ mA,h.Ns1 a mA∧∀ f,RelO (fs.lookup f) (mA f)
 | .rng lo hi=>∃ t u v,h.get? a = some { cls:=.type "range", data:=.fields #[.int lo t,.int hi u,.int 1 v] }
 | .frz o u=>h.get? a = some o∧ObjOk H h a u
 | .tbl ps=>h.get? a = some { cls:=.none,data:=.fields ps }
 | .met f x=>h.get? a = some (PySem.W.methodObj (.ref f) (.ref x))
 | .ext φ=>φ h∧(∃ o,h.get? a = some o)∧∀ h1 h2:Heap,φ h1→(∀ o,h1.get? a = some o→h2.get? a = some o)→φ h2
def HOk (H:Hp) (h:Heap):Prop:=∀ a o,H a = some o→ObjOk P w H h a o
end
section
variable {P:Program} {w:World} {H H':Hp} {h h':Heap} {a:Addr} {o:HO}
theorem ObjOk.lt (x:ObjOk P w H h a o):a < h.objs.size:=by
 cases o with
 | lst xs=>obtain ⟨_,_,_,_,e⟩:=x; exact Heap.lt_size e
 | tup xs=>obtain ⟨_,_,_,p⟩:=x; exact p.lt
 | dK kvs=>obtain ⟨_,_,_,_,o,_,_,e,_⟩:=x; exact Heap.lt_size e
 | dT kvs=>obtain ⟨_,_,_,_,o,_,_,e,_⟩:=x; exact Heap.lt_size e
 | set S n=>obtain ⟨o,_,_,_,e,_⟩:=x; exact Heap.lt_size e
 | ins C dx fs=>obtain ⟨_,_,_,e,_⟩:=x; exact Heap.lt_size e
 | own y=>obtain ⟨_,e⟩:=x; exact Heap.lt_size e
 | xd fs=>obtain ⟨_,⟨_,_,_,e,_⟩,_⟩:=x; exact Heap.lt_size e
 | rng lo hi=>obtain ⟨_,_,_,e⟩:=x; exact Heap.lt_size e
 | frz ob u=>obtain ⟨e,_⟩:=x; exact Heap.lt_size e
 | tbl ps=>exact Heap.lt_size (show h.get? a = some _ from x)
 | met f y=>exact Heap.lt_size (show h.get? a = some _ from x)
 | ext φ=>obtain ⟨_,⟨_,e⟩,_⟩:=x; exact Heap.lt_size e
theorem Paired.mapP {α β : Type} {F G:α→β→Prop}:∀ {l₁:List α} {l₂:List β},Paired F l₁ l₂→(∀ a b,F a b→G a b)→Paired G l₁ l₂
 | _,_,.nil,_=>.nil
 | _,_,.cons r t,f=>.cons (f _ _ r) (Paired.mapP t f)
theorem Paired.imp' {α β : Type} {F G:α→β→Prop} (f:∀ a b,F a b→G a b) {l₁:List α} {l₂:List β} (r:Paired F l₁ l₂):Paired G l₁ l₂:=Paired.mapP r f
theorem ObjOk.stay (x:ObjOk P w H h a o) (k:∀ b u,(b = a∨H b = some (.own a))→h.get? b = some u→h'.get? b = some u)
  (ho:∀ b,H b = some (.own a)→H' b = some (.own a)) (ht:∀ b xs,H b = some (.tup xs)→H' b = some (.tup xs)):ObjOk P w H' h' a o:=by
 induction o with
 | lst xs=>obtain ⟨z,its,n,r,e⟩:=x; exact ⟨z,its,n,r,k _ _ (.inl rfl) e⟩
 | tup xs=>obtain ⟨z,its,r,ob,e,c⟩:=x; exact ⟨z,its,r,ob,k _ _ (.inl rfl) e,c⟩
 | dK kvs=>obtain ⟨z,y,vs,r,ob,es,ep,e,c⟩:=x; exact ⟨z,y,vs,r,ob,es,ep,k _ _ (.inl rfl) e,c⟩
 | dT kvs=>
  obtain ⟨z,y,xs,r,ob,es,ep,e,c⟩:=x
  exact ⟨z,y,xs,Paired.mapP r fun p q z=>⟨z.1,ht _ _ z.2.1,z.2.2⟩,ob,es,ep,k _ _ (.inl rfl) e,c⟩
 | set S n=>obtain ⟨ob,es,ep,t,e,c⟩:=x; exact ⟨ob,es,ep,t,k _ _ (.inl rfl) e,c⟩
 | ins C dx fs=>
  obtain ⟨d,z,ne,e,mA,⟨od,es,ep,e2,c⟩,r⟩:=x
  exact ⟨ho _ d,z,ne,k _ _ (.inl rfl) e,mA,⟨od,es,ep,k _ _ (.inr d) e2,c⟩,r⟩
 | own y=>obtain ⟨ob,e⟩:=x; exact ⟨ob,k _ _ (.inl rfl) e⟩
 | xd fs=>obtain ⟨mA,⟨od,es,ep,e,c⟩,r⟩:=x; exact ⟨mA,⟨od,es,ep,k _ _ (.inl rfl) e,c⟩,r⟩
 | rng lo hi=>obtain ⟨t,u,v,e⟩:=x; exact ⟨t,u,v,k _ _ (.inl rfl) e⟩
 | frz ob u ih=>obtain ⟨e,q⟩:=x; exact ⟨k _ _ (.inl rfl) e,ih q⟩
 | tbl ps=>
  have e:h.get? a = some { cls:=.none,data:=.fields ps }:=x
  show h'.get? a = some { cls:=.none,data:=.fields ps }
  exact k a _ (.inl rfl) e
 | met f y=>
  have e:h.get? a = some (PySem.W.methodObj (.ref f) (.ref y)):=x
  show h'.get? a = some (PySem.W.methodObj (.ref f) (.ref y))
  exact k a _ (.inl rfl) e
 | ext φ=>obtain ⟨p,⟨o,e⟩,st⟩:=x; exact ⟨st _ _ p fun o q=>k _ _ (.inl rfl) q,⟨o,k _ _ (.inl rfl) e⟩,st⟩
theorem HOk.lt (x:HOk P w H h) (e:H a = some o):a < h.objs.size:=(x a o e).lt
theorem HOk.fresh (x:HOk P w H h) (e:h.objs.size ≤ a):H a = none:=by
 cases q:H a with
 | none=>rfl
 | some u=>exact absurd (Nat.lt_of_lt_of_le (x.lt q) e) (Nat.lt_irrefl _)
theorem HOk.kept (x:HOk P w H h) (k:∀ b u,h.get? b = some u→h'.get? b = some u):HOk P w H h':=fun a o e=>
 (x a o e).stay (fun b u _ q=>k b u q) (fun _ q=>q) fun _ _ q=>q
theorem HOk.laid (x:HOk P w H h) (k:∀ b u,h.get? b = some u→h'.get? b = some u) (hp:h.objs.size ≤ a) (new:ObjOk P w (upd H a o) h' a o):HOk P w (upd H a o) h':=fun b u e=>by
 have hn:=x.fresh hp
 by_cases hb:b = a
 ·subst hb; rw [upd_same] at e; cases e; exact new
 ·rw [upd_ne hb] at e
  exact (x b u e).stay (fun c v _ q=>k c v q) (fun c q=>by rw [upd_ne (ne_of_none q hn)]; exact q) fun c xs q=>by rw [upd_ne (ne_of_none q hn)]; exact q
end
def Rd (H:Hp) (a:Addr) (u:HO):Prop:=H a = some u∨∃ o,H a = some (.frz o u)
theorem Rd.ok {P:Program} {w:World} {H:Hp} {h:Heap} {a:Addr} {u:HO} (r:Rd H a u) (x:HOk P w H h):ObjOk P w H h a u:=by
 rcases r with r | ⟨o,r⟩
 ·exact x a u r
 ·obtain ⟨_,q⟩:=x a _ r
  exact q
def Mut:Option HO→Prop
 | some (.lst _)=>True
 | some (.dK _)=>True
 | some (.dT _)=>True
 | some (.set _ _)=>True
 | some (.ins _ _ _)=>True
 | some (.ext _)=>True
 | _=>False
section
variable {P:Program} {w:World} {H:Hp} {h h':Heap} {x e:Addr} {o':HO}
theorem HOk.write (ok:HOk P w H h) (mu:Mut (H x)) (he:e = x∨H e = some (.own x)) (k:∀ b u,b ≠ e→h.get? b = some u→h'.get? b = some u) (heo:∃ u,h'.get? e = some u)
  (new:ObjOk P w (upd H x o') h' x o'):HOk P w (upd H x o') h':=fun b u q=>by
 have nown:∀ c y,H c = some (.own y)→c ≠ x:=fun c y r z=>by subst z; rw [r] at mu; exact mu
 have ntup:∀ c xs,H c = some (.tup xs)→c ≠ x:=fun c xs r z=>by subst z; rw [r] at mu; exact mu
 by_cases hb:b = x
 ·subst hb; rw [upd_same] at q; cases q; exact new
 ·rw [upd_ne hb] at q
  by_cases hbe:b = e
  ·have q':H b = some (.own x):=by
    rcases he with z | z
    ·exact absurd (hbe.trans z) hb
    ·rw [hbe]; exact z
   rw [q] at q'; cases q'
   obtain ⟨v,hv⟩:=heo
   exact ⟨v,by rw [hbe]; exact hv⟩
  ·refine (ok b u q).stay (fun c v hc r=>k c v ?_ r) (fun c r=>by rw [upd_ne (nown c b r)]; exact r) fun c xs r=>by rw [upd_ne (ntup c xs r)]; exact r
   rcases hc with rfl | hc
   ·exact hbe
   ·rintro rfl
    rcases he with z | z
    ·exact nown c b hc z
    ·rw [hc] at z; cases z; exact hb rfl
end
structure Un (fs ex:List Addr) (H H':Hp) (h h':Heap):Prop where
 keep:∀ b o,h.get? b = some o→H b = none→b ∉ fs→b ∉ ex→h'.get? b = some o
 slot:∀ b o,h.get? b = some o→H b = none→b ∈ fs→b ∉ ex→∃ sl,h'.get? b = some { o with slots:=sl }
 free:∀ b o,h.get? b = some o→H b = none→b ∉ ex→H' b = none
 there:∀ b o,h.get? b = some o→b ∉ ex→∃ o',h'.get? b = some o'
 tups:∀ b xs,H b = some (.tup xs)→H' b = some (.tup xs)
 frzs:∀ b o u,H b = some (.frz o u)→H' b = some (.frz o u)
 tbls:∀ b ps,H b = some (.tbl ps)→∃ more,H' b = some (.tbl (ps ++ more))
section
variable {fs fs' ex ex':List Addr} {H H1 H2:Hp} {h h1 h2 h':Heap} {a x e:Addr} {o:HO}
theorem Un.any (u:Un fs ex H H1 h h1) {b:Addr} {ob:Obj} (q:h.get? b = some ob) (n:H b = none) (hx:b ∉ ex):∃ sl,h1.get? b = some { ob with slots:=sl }:=by
 by_cases hb:b ∈ fs
 ·exact u.slot b ob q n hb hx
 ·exact ⟨ob.slots,u.keep b ob q n hb hx⟩
theorem Un.kept (k:∀ b u,h.get? b = some u→h'.get? b = some u):Un fs ex H H h h':=
 ⟨fun b ob q _ _ _=>k b ob q,fun b ob q _ _ _=>⟨ob.slots,k b ob q⟩,fun _ _ _ n _=>n,fun b ob q _=>⟨ob,k b ob q⟩,fun _ _ q=>q,fun _ _ _ q=>q,fun _ ps q=>⟨#[],by rw [q]; simp⟩⟩
theorem Un.refl:Un fs ex H H h h:=Un.kept fun _ _ q=>q
theorem Un.laid (k:∀ b u,h.get? b = some u→h'.get? b = some u) (hp:h.objs.size ≤ a) (hn:H a = none):Un fs ex H (upd H a o) h h' where
 keep:=fun b u q _ _ _=>k b u q
 slot:=fun b u q _ _ _=>⟨u.slots,k b u q⟩
 free:=fun b u q n _=>by rw [upd_ne (Nat.ne_of_lt (Nat.lt_of_lt_of_le (Heap.lt_size q) hp))]; exact n
 there:=fun b u q _=>⟨u,k b u q⟩
 tups:=fun b xs q=>by rw [upd_ne (ne_of_none q hn)]; exact q
 frzs:=fun b u xs q=>by rw [upd_ne (ne_of_none q hn)]; exact q
 tbls:=fun b ps q=>⟨#[],by rw [upd_ne (ne_of_none q hn),q]; simp⟩
theorem Un.write (mu:Mut (H x)) (he:e = x∨H e = some (.own x)) (k:∀ b u,b ≠ e→h.get? b = some u→h'.get? b = some u) (heo:∃ u,h'.get? e = some u):Un fs ex H (upd H x o) h h':=by
 have hx:∀ b,H b = none→b ≠ x:=fun b n z=>by subst z; rw [n] at mu; exact mu
 have hb:∀ b,H b = none→b ≠ e:=fun b n z=>by
  subst z
  rcases he with r | r
  ·exact hx b n r
  ·rw [n] at r; cases r
 have hm:∀ b u,H b = some u→¬ Mut (some u)→b ≠ x:=fun b u q nm z=>by subst z; rw [q] at mu; exact nm mu
 refine ⟨fun b u q n _ _=>k b u (hb b n) q,fun b u q n _ _=>⟨u.slots,k b u (hb b n) q⟩,fun b u q n _=>by rw [upd_ne (hx b n)]; exact n,fun b u q _=>?_,
  fun b xs q=>by rw [upd_ne (hm b _ q fun z=>z)]; exact q,fun b u xs q=>by rw [upd_ne (hm b _ q fun z=>z)]; exact q,fun b ps q=>⟨#[],by rw [upd_ne (hm b _ q fun z=>z),q]; simp⟩⟩
 by_cases hbe:b = e
 ·subst hbe; exact heo
 ·exact ⟨u,k b u hbe q⟩
end
def trk (h:Heap) (H:Hp):List Addr:=(List.range h.objs.size).filter fun a=>(H a).isSome
def hidT (h:Heap) (H:Hp):Heap:=PySem.W.hideAll h (trk h H)
theorem hidT_size (h:Heap) (H:Hp):(hidT h H).objs.size = h.objs.size:=PySem.W.hideAll_size _ _
theorem hidT_get {h:Heap} {H:Hp} {b:Addr} {o:Obj} (e:h.get? b = some o) (n:H b = none):(hidT h H).get? b = some o:=
 PySem.W.hideAll_get _ e fun hm=>by
  have q:(H b).isSome = true:=(List.mem_filter.mp hm).2
  rw [n] at q; simp at q
theorem of_hidT {h:Heap} {H:Hp} {b:Addr} {o:Obj} (e:(hidT h H).get? b = some o):h.get? b = some o∧H b = none:=by
 have e':h.get? b = some o:=PySem.W.of_hideAll (trk h H) e
 refine ⟨e',?_⟩
 cases q:H b with
 | none=>rfl
 | some x=>
  have hm:b ∈ trk h H:=List.mem_filter.mpr ⟨List.mem_range.mpr (Heap.lt_size e'),by simp [q]⟩
  have z:(hidT h H).get? b = none:=PySem.W.hideAll_none (trk h H) hm
  rw [z] at e; cases e
def allNews (g h:Heap) (L:Addr):List (Addr × Obj):=(List.range h.objs.size).filterMap fun a=>if a = L∨(g.get? a).isSome = true then none else (h.get? a).map fun o=>(a,o)
def rest (g h:Heap) (L d:Addr):List (Addr × Obj):=(allNews g h L).filter fun p=>decide (p.1 ≠ d)
end L2
namespace L2
open PySem PySem.Spec PyProof.Rows
structure Mod (K:PySem.W.Frag) (mg:Str→Option Value) (base:Heap):Prop where
 kin:K.In base
 glob:base.Ns mainGlobals mg
 blt:∃ mb,base.Ns builtinsNs mb∧∀ x:Str,x ≠ "__name__" → mb x = bootBuiltins x
 nolimit:base.NoLimit
set_option genInjectivity false in
set_option genSizeOf false in
structure Cx where
 prog:Program
 w:World
 K:PySem.W.Frag
 mg:Str→Option Value
 base:Heap
 A:Around
 N:List Str
 s₀ : Shared
 H₀ : Hp
 env:Env
 outer:List Env
 stack:List Env
 ex:List Addr
 fn:Str→Bool
 calm:Bool
 pn:List (Addr × Obj)
 xe:Value→Shared→Prop
def frs (l:List Env):List Addr:=l.filterMap (·.frame)
abbrev Cx.fs (X:Cx):List Addr:=frs X.outer
def Vis (sc:Scope) (x:Str):Prop:=sc.names.lookup x = some .local∨sc.names.lookup x = some .cell∨sc.names.lookup x = some .free
def Loc (sc:Scope) (x:Str):Prop:=sc.names.lookup x = some .local∨sc.names.lookup x = some .cell
def Look (env:Env) (h:Heap) (m:Str→Option Value) (x:Str) (u:Value):Prop:=
 (env.kindOf x = some .local∧m x = some u)∨((env.kindOf x = some .cell∨env.kindOf x = some .free)∧∃ c,env.cells.lookup x = some c∧h.IsCell c (some u))
structure Cx.Ok (X:Cx):Prop where
 mod:Mod X.K X.mg X.base
 kind:X.env.scope.kind = .function
 glob:X.env.globals = mainGlobals
 blt:X.env.builtins = builtinsNs
 above:X.s₀.heap.objs.size ≤ X.env.locals
 inj:∀ x y c,X.env.cells.lookup x = some c→X.env.cells.lookup y = some c→x = y
 has:∀ x,(X.env.kindOf x = some .cell∨X.env.kindOf x = some .free)→∃ c,X.env.cells.lookup x = some c
 cab:∀ x c,X.fn x = true→X.env.cells.lookup x = some c→X.s₀.heap.objs.size ≤ c
 hd:X.calm = true→X.A.handled = none
 frames:X.A.frames = some X.stack
 stk:X.stack = X.outer∨(X.stack = X.env :: X.outer∧X.env.frame = some X.env.locals)
 exf:∀ b ∈ X.ex,b ≠ X.env.locals∧∀ x c,X.env.cells.lookup x = some c→c ≠ b
 bs:∀ b o,X.base.get? b = some o→X.s₀.heap.get? b = some o∧X.H₀ b = none
 bsz:X.base.objs.size ≤ X.s₀.heap.objs.size
 noex:∀ b o,X.base.get? b = some o→b ∉ X.ex
 exfs:∀ b ∈ X.ex,b ∉ X.fs
 funs:X.s₀.heap.FunFrames X.base X.outer
 frf:∀ b ∈ X.fs,X.H₀ b = none
structure Inv (X:Cx) (pins:List (Addr × Obj)) (σ : List (Option V)) (H:Hp) (s:Shared):Prop where
 ok:X.Ok
 os:s.os = X.s₀.os
 bare:AllBare s.gens
 base:Un X.fs X.ex X.H₀ H X.s₀.heap s.heap
 loc:∃ m,s.heap.Ns X.env.locals m∧∀ (i:Nat) (x:Str) (v:V),X.N[i]? = some x→σ[i]? = some (some v)→Vis X.env.scope x→∃ u,RelV v u∧Look X.env s.heap m x u
 cell:∀ x c,X.env.cells.lookup x = some c→∃ v,s.heap.IsCell c v
 free:H X.env.locals = none
 freeC:∀ x c,X.env.cells.lookup x = some c→H c = none
 pin:∀ p ∈ X.pn ++ pins,s.heap.get? p.1 = some p.2∧H p.1 = none∧p.1 ≠ X.env.locals∧p.1 ∉ X.fs∧∀ v,p.2.data ≠ .cell v
 hok:HOk X.prog X.w H s.heap
 len:σ.length = X.N.length
section
variable {X:Cx} {pins:List (Addr × Obj)} {σ : List (Option V)} {H H':Hp} {s:Shared} {h':Heap}
theorem Cx.Ok.nofr (ok:X.Ok) {b:Addr} {o:Obj} (e:X.base.get? b = some o):b ∉ X.fs:=fun hb=>by
 have:=(ok.funs.mem hb).1
 rw [e] at this; cases this
theorem Inv.bs (I:Inv X pins σ H s):∀ b o,X.base.get? b = some o→s.heap.get? b = some o∧H b = none:=fun b o e=>
 ⟨I.base.keep b o (I.ok.bs b o e).1 (I.ok.bs b o e).2 (I.ok.nofr e) (I.ok.noex b o e),I.base.free b o (I.ok.bs b o e).1 (I.ok.bs b o e).2 (I.ok.noex b o e)⟩
theorem Inv.bk (I:Inv X pins σ H s):∀ b o,X.base.get? b = some o→s.heap.get? b = some o:=fun b o e=>(I.bs b o e).1
theorem Inv.mod (I:Inv X pins σ H s):Mod X.K X.mg X.base:=I.ok.mod
theorem Inv.kIn (I:Inv X pins σ H s):X.K.In s.heap:=I.ok.mod.kin.keeps I.bk
theorem Inv.lt (I:Inv X pins σ H s):X.env.locals < s.heap.objs.size:=let ⟨_,hn,_⟩:=I.loc; hn.lt
theorem Inv.sz (I:Inv X pins σ H s):X.s₀.heap.objs.size ≤ s.heap.objs.size:=Nat.le_trans I.ok.above (Nat.le_of_lt I.lt)
theorem Inv.nofs (I:Inv X pins σ H s) {a:Addr} (h:s.heap.objs.size ≤ a):a ∉ X.fs:=fun hb=>by
 obtain ⟨_,o,ho,_⟩:=I.ok.funs.mem hb
 exact absurd (Nat.lt_of_lt_of_le (Heap.lt_size ho) (Nat.le_trans I.sz h)) (Nat.lt_irrefl _)
theorem Inv.cne (I:Inv X pins σ H s):∀ x c,X.env.cells.lookup x = some c→c ≠ X.env.locals:=fun x c e z=>by
 obtain ⟨v,o,ho,hd⟩:=I.cell x c e
 obtain ⟨m,⟨o',es,ep,ho',hd',_⟩,_⟩:=I.loc
 rw [z,ho'] at ho; cases ho; rw [hd'] at hd; cases hd
theorem Inv.funs (I:Inv X pins σ H s):s.heap.FunFrames X.base X.outer:=by
 have all:∀ (l:List Env),(∀ b ∈ frs l,b ∈ X.fs)→X.s₀.heap.FunFrames X.base l→s.heap.FunFrames X.base l:=by
  intro l
  induction l with
  | nil=>intro _ _; trivial
  | cons env r ih=>
   intro hs hl
   obtain ⟨hk,⟨L,o,hf,hn,ho,hd⟩,hr⟩:=hl
   have hL:L ∈ X.fs:=hs L (by unfold frs; rw [List.filterMap_cons,hf]; exact List.mem_cons_self)
   obtain ⟨sl,e⟩:=I.base.slot L o ho (I.ok.frf L hL) hL fun z=>I.ok.exfs L z hL
   exact ⟨hk,⟨L,_,hf,hn,e,hd⟩,ih (fun b hb=>hs b (by unfold frs; rw [List.filterMap_cons,hf]; exact List.mem_cons_of_mem _ hb)) hr⟩
 exact all X.outer (fun _ hb=>hb) I.ok.funs
theorem Inv.stack (I:Inv X pins σ H s):s.heap.FunFrames X.base X.stack:=by
 rcases I.ok.stk with e | ⟨e,hf⟩
 ·rw [e]; exact I.funs
 ·rw [e]
  obtain ⟨m,hn,_⟩:=I.loc
  refine .cons (by rw [I.ok.kind]; decide) hf hn ?_ I.funs
  exact Heap.get?_none_of_le (Nat.le_trans I.ok.bsz I.ok.above)
theorem Inv.stkSub (I:Inv X pins σ H s):∀ b ∈ frs X.stack,b ∈ X.env.locals :: X.fs:=fun b hb=>by
 rcases I.ok.stk with e | ⟨e,hf⟩
 ·rw [e] at hb; exact List.mem_cons_of_mem _ hb
 ·rw [e] at hb
  unfold frs at hb
  rw [List.filterMap_cons,hf] at hb
  exact hb
theorem Inv.stkFree (I:Inv X pins σ H s):∀ b ∈ frs X.stack,H b = none:=fun b hb=>by
 rcases List.mem_cons.mp (I.stkSub b hb) with e | hb
 ·rw [e]; exact I.free
 ·obtain ⟨_,o,ho,_⟩:=I.ok.funs.mem hb
  exact I.base.free b o ho (I.ok.frf b hb) fun z=>I.ok.exfs b z hb
theorem Inv.step {g':Array GenState} {t':Nat} {d':Drawn} {ch:List Addr} (I:Inv X pins σ H s)
  (hch:∀ b ∈ ch,(b ∈ X.ex∨X.s₀.heap.objs.size ≤ b)∧b ≠ X.env.locals∧(∀ x c,X.env.cells.lookup x = some c→c ≠ b)∧∀ p ∈ X.pn ++ pins,p.1 ≠ b)
  (keep:∀ b o,b ≠ X.env.locals→b ∉ X.fs→b ∉ ch→s.heap.get? b = some o→H b = none→h'.get? b = some o)
  (slot:∀ b o,b ≠ X.env.locals→b ∈ X.fs→b ∉ ch→s.heap.get? b = some o→H b = none→∃ sl,h'.get? b = some { o with slots:=sl }) (free:∀ b o,b ∉ ch→s.heap.get? b = some o→H b = none→H' b = none)
  (there:∀ b o,b ∉ ch→s.heap.get? b = some o→∃ o',h'.get? b = some o')
  (tups:∀ b xs,H b = some (.tup xs)→H' b = some (.tup xs)) (frzs:∀ b o u,H b = some (.frz o u)→H' b = some (.frz o u)) (tbls:∀ b ps,H b = some (.tbl ps)→∃ more,H' b = some (.tbl (ps ++ more)))
  (ns:∀ m,s.heap.Ns X.env.locals m→h'.Ns X.env.locals m) (hok:HOk X.prog X.w H' h') (hg:AllBare g') :
  Inv X pins σ H' { s with heap:=h',gens:=g',drawn:=d',toks:=t' }:=by
 have neL:∀ b o,X.s₀.heap.get? b = some o→b ≠ X.env.locals:=fun b o e=>Nat.ne_of_lt (Nat.lt_of_lt_of_le (Heap.lt_size e) I.ok.above)
 have neC:∀ b o,X.s₀.heap.get? b = some o→b ∉ X.ex→b ∉ ch:=fun b o e hx hb=>by
  rcases (hch b hb).1 with z | z
  ·exact hx z
  ·exact absurd (Nat.lt_of_lt_of_le (Heap.lt_size e) z) (Nat.lt_irrefl _)
 have cellK:∀ x c,X.env.cells.lookup x = some c→∀ v,s.heap.IsCell c v→h'.IsCell c v:=fun x c e v ⟨o,ho,hd⟩=>by
  have nch:c ∉ ch:=fun z=>(hch c z).2.2.1 x c e rfl
  by_cases hc:c ∈ X.fs
  ·obtain ⟨sl,q⟩:=slot c o (I.cne x c e) hc nch ho (I.freeC x c e)
   exact ⟨_,q,hd⟩
  ·exact ⟨o,keep c o (I.cne x c e) hc nch ho (I.freeC x c e),hd⟩
 refine ⟨I.ok,I.os,hg,⟨fun b o e n hb hx=>?_,fun b o e n hb hx=>?_,fun b o e n hx=>?_,fun b o e hx=>?_,fun b xs e=>tups b xs (I.base.tups b xs e),fun b o xs e=>frzs b o xs (I.base.frzs b o xs e),fun b ps e=>?_⟩,?_,fun x c e=>?_,?_,fun x c e=>?_,fun p hp=>?_,hok,I.len⟩
 ·exact keep b o (neL b o e) hb (neC b o e hx) (I.base.keep b o e n hb hx) (I.base.free b o e n hx)
 ·obtain ⟨sl,e1⟩:=I.base.slot b o e n hb hx
  obtain ⟨sl',e2⟩:=slot b _ (neL b o e) hb (neC b o e hx) e1 (I.base.free b o e n hx)
  exact ⟨sl',e2⟩
 ·obtain ⟨o',e1⟩:=I.base.there b o e hx
  exact free b o' (neC b o e hx) e1 (I.base.free b o e n hx)
 ·obtain ⟨o',e1⟩:=I.base.there b o e hx
  exact there b o' (neC b o e hx) e1
 ·obtain ⟨m1,e1⟩:=I.base.tbls b ps e
  obtain ⟨m2,e2⟩:=tbls b _ e1
  exact ⟨m1 ++ m2,by rw [e2,Array.append_assoc]⟩
 ·obtain ⟨m,hn,hl⟩:=I.loc
  refine ⟨m,ns m hn,fun i x v e1 e2 e3=>?_⟩
  obtain ⟨u,r,l⟩:=hl i x v e1 e2 e3
  refine ⟨u,r,?_⟩
  rcases l with l | ⟨k,c,e,z⟩
  ·exact .inl l
  ·exact .inr ⟨k,c,e,cellK x c e _ z⟩
 ·obtain ⟨v,z⟩:=I.cell x c e
  exact ⟨v,cellK x c e v z⟩
 ·obtain ⟨m,⟨o,_,_,ho,_⟩,_⟩:=I.loc
  exact free _ o (fun z=>(hch _ z).2.1 rfl) ho I.free
 ·obtain ⟨v,o,ho,hd⟩:=I.cell x c e
  exact free c o (fun z=>(hch c z).2.2.1 x c e rfl) ho (I.freeC x c e)
 ·obtain ⟨e,n,ne,nf,d⟩:=I.pin p hp
  have nch:p.1 ∉ ch:=fun z=>(hch p.1 z).2.2.2 p hp rfl
  exact ⟨keep p.1 p.2 ne nf nch e n,free p.1 p.2 nch e n,ne,nf,d⟩
theorem Inv.un {t':Nat} (I:Inv X pins σ H s) (u:Un X.fs [] H H' s.heap h') (hok:HOk X.prog X.w H' h'):Inv X pins σ H' { s with heap:=h',toks:=t' }:=by
 obtain ⟨m,⟨o,es,ep,ho,r⟩,_⟩:=id I.loc
 obtain ⟨sl,hL⟩:=u.any ho I.free (by simp)
 exact I.step (g':=s.gens) (d':=s.drawn) (ch:=[]) (fun _ z=>nomatch z) (fun b o _ hb _ e n=>u.keep b o e n hb (by simp)) (fun b o _ hb _ e n=>u.slot b o e n hb (by simp)) (fun b o _ e n=>u.free b o e n (by simp)) (fun b o _ e=>u.there b o e (by simp)) u.tups u.frzs u.tbls (fun m' hm=>by
  obtain ⟨o',es',ep',ho',r'⟩:=hm
  rw [ho] at ho'; cases ho'
  exact ⟨_,es',ep',hL,r'⟩) hok I.bare
theorem Inv.call {g':Array GenState} {t':Nat} {d':Drawn} {ch:List Addr} (I:Inv X pins σ H s) (u:Un (frs X.stack) ch H H' s.heap h') (hok:HOk X.prog X.w H' h') (hg:AllBare g')
  (hch:∀ b ∈ ch,(b ∈ X.ex∨X.s₀.heap.objs.size ≤ b)∧b ≠ X.env.locals∧(∀ x c,X.env.cells.lookup x = some c→c ≠ b)∧∀ p ∈ X.pn ++ pins,p.1 ≠ b) :
  Inv X pins σ H' { s with heap:=h',gens:=g',drawn:=d',toks:=t' }:=by
 obtain ⟨m,⟨o,es,ep,ho,r⟩,_⟩:=id I.loc
 obtain ⟨sl,hL⟩:=u.any ho I.free fun z=>(hch _ z).2.1 rfl
 exact I.step (ch:=ch) hch (fun b o hL hb hc e n=>u.keep b o e n (fun z=>(List.mem_cons.mp (I.stkSub b z)).elim hL hb) hc) (fun b o _ _ hc e n=>u.any e n hc) (fun b o hc e n=>u.free b o e n hc) (fun b o hc e=>u.there b o e hc) u.tups u.frzs u.tbls (fun m' hm=>by
  obtain ⟨o',es',ep',ho',r'⟩:=hm
  rw [ho] at ho'; cases ho'
  exact ⟨_,es',ep',hL,r'⟩) hok hg
theorem Inv.turned {t':Nat} {it:Addr} (I:Inv X pins σ H s) (k:∀ b o,b ≠ it→s.heap.get? b = some o→h'.get? b = some o) (hn:H it = none) (hL:it ≠ X.env.locals)
  (h1:it ∈ X.ex∨X.s₀.heap.objs.size ≤ it) (h2:∀ x c,X.env.cells.lookup x = some c→c ≠ it) (h3:∀ p ∈ X.pn ++ pins,p.1 ≠ it):Inv X pins σ H { s with heap:=h',toks:=t' }:=by
 have nit:∀ b u,H b = some u→b ≠ it:=fun b u e z=>by rw [z,hn] at e; cases e
 refine I.step (g':=s.gens) (d':=s.drawn) (ch:=[it]) (fun b hb=>?_) (fun b o _ _ hc e _=>k b o (fun z=>hc (by simp [z])) e) (fun b o _ _ hc e _=>⟨o.slots,k b o (fun z=>hc (by simp [z])) e⟩) (fun _ _ _ _ n=>n)
  (fun b o hc e=>⟨o,k b o (fun z=>hc (by simp [z])) e⟩) (fun _ _ e=>e) (fun _ _ _ e=>e) (fun b ps e=>⟨#[],by rw [e]; simp⟩) (fun m hm=>?_) (fun b u e=>?_) I.bare
 ·have e:b = it:=by simpa using hb
  subst e
  exact ⟨h1,hL,h2,h3⟩
 ·obtain ⟨o,es,ep,ho,r⟩:=hm
  exact ⟨o,es,ep,k _ o (Ne.symm hL) ho,r⟩
 ·refine (I.hok b u e).stay (fun c v hc q=>k c v ?_ q) (fun _ q=>q) fun _ _ q=>q
  rcases hc with z | z
  ·rw [z]; exact nit b u e
  ·exact nit c _ z
theorem Inv.tok (I:Inv X pins σ H s) (t:Nat):Inv X pins σ H { s with toks:=t }:=I.un (h':=s.heap) (t':=t) Un.refl I.hok
theorem Inv.kept {t':Nat} (I:Inv X pins σ H s) (k:∀ b u,s.heap.get? b = some u→h'.get? b = some u):Inv X pins σ H { s with heap:=h',toks:=t' }:=I.un (Un.kept k) (I.hok.kept k)
theorem Inv.laid {a:Addr} {o:HO} {t':Nat} (I:Inv X pins σ H s) (k:∀ b u,s.heap.get? b = some u→h'.get? b = some u) (hp:s.heap.objs.size ≤ a) (new:ObjOk X.prog X.w (upd H a o) h' a o) :
  Inv X pins σ (upd H a o) { s with heap:=h',toks:=t' }:=I.un (Un.laid k hp (I.hok.fresh hp)) (I.hok.laid k hp new)
theorem Inv.write {x e:Addr} {o:HO} {t':Nat} (I:Inv X pins σ H s) (mu:Mut (H x)) (he:e = x∨H e = some (.own x)) (k:∀ b u,b ≠ e→s.heap.get? b = some u→h'.get? b = some u) (heo:∃ u,h'.get? e = some u)
  (new:ObjOk X.prog X.w (upd H x o) h' x o):Inv X pins σ (upd H x o) { s with heap:=h',toks:=t' }:=I.un (Un.write mu he k heo) (I.hok.write mu he k heo new)
theorem Inv.weak {σ':List (Option V)} (I:Inv X pins σ H s) (hl:σ'.length = σ.length) (w:∀ (i:Nat) v,σ'[i]? = some (some v)→σ[i]? = some (some v)):Inv X pins σ' H s:=
 ⟨I.ok,I.os,I.bare,I.base,let ⟨m,hn,hl'⟩:=I.loc; ⟨m,hn,fun i x v e1 e2 e3=>hl' i x v e1 (w i v e2) e3⟩,I.cell,I.free,I.freeC,I.pin,I.hok,hl.trans I.len⟩
theorem Inv.pins_of {pins':List (Addr × Obj)} (I:Inv X pins σ H s) (h:∀ p ∈ pins',s.heap.get? p.1 = some p.2∧H p.1 = none∧p.1 ≠ X.env.locals∧p.1 ∉ X.fs∧∀ v,p.2.data ≠ .cell v):Inv X pins' σ H s:=
 ⟨I.ok,I.os,I.bare,I.base,I.loc,I.cell,I.free,I.freeC,fun p hp=>(List.mem_append.mp hp).elim (fun z=>I.pin p (List.mem_append_left _ z)) (h p),I.hok,I.len⟩
theorem nodup_ix {N:List Str} (hN:N.Nodup) {i j:Nat} {x:Str} (a:N[i]? = some x) (b:N[j]? = some x):i = j:=by
 obtain ⟨h1,e1⟩:=List.getElem?_eq_some_iff.mp a
 obtain ⟨h2,e2⟩:=List.getElem?_eq_some_iff.mp b
 exact (List.getElem_inj hN).mp (e1.trans e2.symm)
theorem store_ok2 {M:Model} {A:Around} {E:Value→Shared→Prop} {i:Nat} {x:Str} {v:V} {u:Value} {Q:Unit→Shared→Prop} (I:Inv X pins σ H s) (hN:X.N.Nodup) (hi:X.N[i]? = some x) (hx:Loc X.env.scope x) (r:RelV v u)
  (h:∀ s',Inv X pins (σ.set i (some v)) H s'→(∃ a,Heap.SameBut a s.heap s'.heap∧(a = X.env.locals∨X.env.cells.lookup x = some a))→Q () s') (hf:X.fn x = true∨X.env.scope.names.lookup x = some .local:=by first | exact .inl rfl | exact .inr rfl | assumption):wpAny M A (storeName X.env x u) Q E s:=by
 obtain ⟨m,hn,hl⟩:=id I.loc
 have hcls:(X.env.scope.kind == .class || (X.env.scope.kind == .module && X.env.locals != X.env.globals)) = false:=by rw [I.ok.kind]; rfl
 have hiσ : i < σ.length:=by rw [I.len]; exact (List.getElem?_eq_some_iff.mp hi).1
 have cne:=I.cne
 have tracked:∀ {a:Addr} {h':Heap},(∃ o,s.heap.get? a = some o∧H a = none)→Heap.SameBut a s.heap h'→HOk X.prog X.w H h':=fun {a h'} ha hs b ob e=>by
  obtain ⟨_,_,hfree⟩:=ha
  refine (I.hok b ob e).stay (fun c w' hc q=>(hs.2 c ?_).trans q) (fun _ q=>q) fun _ _ q=>q
  rintro rfl
  rcases hc with rfl | hc
  ·rw [hfree] at e; cases e
  ·rw [hfree] at hc; cases hc
 rcases hx with hk | hk
 ·refine wpAny_storeName_local hk hn (fun h' hn' hs=>?_) hcls
  obtain ⟨oL,_,_,hoL,_⟩:=id hn
  refine h _ ⟨I.ok,I.os,I.bare,⟨fun b o e n hb hx=>?_,fun b o e n hb hx=>?_,I.base.free,fun b o e hx=>?_,I.base.tups,I.base.frzs,I.base.tbls⟩,⟨_,hn',fun j y v' e1 e2 e3=>?_⟩,fun y c e=>?_,I.free,I.freeC,fun p hp=>?_,tracked ⟨oL,hoL,I.free⟩ hs,by simpa using I.len⟩ ⟨_,hs,.inl rfl⟩
  ·exact (hs.2 b (Nat.ne_of_lt (Nat.lt_of_lt_of_le (Heap.lt_size e) I.ok.above))).trans (I.base.keep b o e n hb hx)
  ·obtain ⟨sl,e1⟩:=I.base.slot b o e n hb hx
   exact ⟨sl,(hs.2 b (Nat.ne_of_lt (Nat.lt_of_lt_of_le (Heap.lt_size e) I.ok.above))).trans e1⟩
  ·obtain ⟨o',e1⟩:=I.base.there b o e hx
   exact ⟨o',(hs.2 b (Nat.ne_of_lt (Nat.lt_of_lt_of_le (Heap.lt_size e) I.ok.above))).trans e1⟩
  ·by_cases hj:j = i
   ·subst hj
    rw [hi] at e1; cases e1
    rw [List.getElem?_set_self hiσ] at e2
    cases e2
    exact ⟨u,r,.inl ⟨hk,by simp⟩⟩
   ·rw [List.getElem?_set_ne (Ne.symm hj)] at e2
    obtain ⟨u',r',q⟩:=hl j y v' e1 e2 e3
    refine ⟨u',r',?_⟩
    rcases q with ⟨k,e⟩ | ⟨k,c,e,z⟩
    ·refine .inl ⟨k,?_⟩
     have:y ≠ x:=fun e=>hj (nodup_ix hN e1 (e ▸ hi))
     simp [this,e]
    ·exact .inr ⟨k,c,e,z.sameBut hs (cne y c e)⟩
  ·obtain ⟨w',z⟩:=I.cell y c e
   exact ⟨w',z.sameBut hs (cne y c e)⟩
  ·obtain ⟨e,n,ne,nf,d⟩:=I.pin p hp
   exact ⟨(hs.2 p.1 ne).trans e,n,ne,nf,d⟩
 ·have hfn:X.fn x = true:=by
   rcases hf with z | z
   ·exact z
   ·rw [z] at hk; cases hk
  obtain ⟨c,hc⟩:=I.ok.has x (.inl hk)
  obtain ⟨w',z⟩:=I.cell x c hc
  refine wpAny_storeName_cell I.ok.kind hk hc z (fun h' hc' hs=>?_)
  obtain ⟨oc,hoc,hocd⟩:=id z
  refine h { s with heap:=h' } ⟨I.ok,I.os,I.bare,⟨fun b o e n hb hx=>?_,fun b o e n hb hx=>?_,I.base.free,fun b o e hx=>?_,I.base.tups,I.base.frzs,I.base.tbls⟩,⟨m,hn.sameBut hs (Ne.symm (cne x c hc)),fun j y v' e1 e2 e3=>?_⟩,fun y c' e=>?_,I.free,I.freeC,fun p hp=>?_,tracked ⟨oc,hoc,I.freeC x c hc⟩ hs,by simpa using I.len⟩ ⟨c,hs,.inr hc⟩
  ·exact (hs.2 b (Nat.ne_of_lt (Nat.lt_of_lt_of_le (Heap.lt_size e) (I.ok.cab x c hfn hc)))).trans (I.base.keep b o e n hb hx)
  ·obtain ⟨sl,e1⟩:=I.base.slot b o e n hb hx
   exact ⟨sl,(hs.2 b (Nat.ne_of_lt (Nat.lt_of_lt_of_le (Heap.lt_size e) (I.ok.cab x c hfn hc)))).trans e1⟩
  ·obtain ⟨o',e1⟩:=I.base.there b o e hx
   exact ⟨o',(hs.2 b (Nat.ne_of_lt (Nat.lt_of_lt_of_le (Heap.lt_size e) (I.ok.cab x c hfn hc)))).trans e1⟩
  ·by_cases hj:j = i
   ·subst hj
    rw [hi] at e1; cases e1
    rw [List.getElem?_set_self hiσ] at e2
    cases e2
    exact ⟨u,r,.inr ⟨.inl hk,c,hc,hc'⟩⟩
   ·rw [List.getElem?_set_ne (Ne.symm hj)] at e2
    obtain ⟨u',r',q⟩:=hl j y v' e1 e2 e3
    refine ⟨u',r',?_⟩
    rcases q with q | ⟨k,c',e,z'⟩
    ·exact .inl q
    ·refine .inr ⟨k,c',e,z'.sameBut hs ?_⟩
     rintro rfl
     exact hj (nodup_ix hN e1 (I.ok.inj _ _ _ e hc ▸ hi))
  ·by_cases hcc:c' = c
   ·subst hcc; exact ⟨_,hc'⟩
   ·obtain ⟨w2,z2⟩:=I.cell y c' e
    exact ⟨w2,z2.sameBut hs hcc⟩
  ·obtain ⟨e,n,ne,nf,d⟩:=I.pin p hp
   refine ⟨(hs.2 p.1 ?_).trans e,n,ne,nf,d⟩
   intro q
   rw [q,hoc] at e
   have q':oc = p.2:=Option.some.inj e
   exact d w' (by rw [← q']; exact hocd)
theorem store_ok {M:Model} {A:Around} {E:Value→Shared→Prop} {i:Nat} {x:Str} {v:V} {u:Value} {Q:Unit→Shared→Prop} (I:Inv X pins σ H s) (hN:X.N.Nodup) (hi:X.N[i]? = some x) (hx:Loc X.env.scope x) (r:RelV v u)
  (h:∀ s',Inv X pins (σ.set i (some v)) H s'→Q () s') (hf:X.fn x = true∨X.env.scope.names.lookup x = some .local:=by first | exact .inl rfl | exact .inr rfl | assumption):wpAny M A (storeName X.env x u) Q E s:=
 store_ok2 I hN hi hx r (fun s' I' _=>h s' I') hf
theorem Inv.call' {s':Shared} {ch:List Addr} (I:Inv X pins σ H s) (ho:s'.os = s.os) (u:Un (frs X.stack) ch H H' s.heap s'.heap) (hok:HOk X.prog X.w H' s'.heap) (hg:AllBare s'.gens)
  (hch:∀ b ∈ ch,(b ∈ X.ex∨X.s₀.heap.objs.size ≤ b)∧b ≠ X.env.locals∧(∀ x c,X.env.cells.lookup x = some c→c ≠ b)∧∀ p ∈ X.pn ++ pins,p.1 ≠ b):Inv X pins σ H' s':=by
 obtain ⟨h',g',d',t',o'⟩:=s'
 have e:o' = s.os:=ho
 subst e
 exact I.call (g':=g') (t':=t') (d':=d') u hok hg hch
end
abbrev XK:=Value→Option Addr→Hp→Prop
abbrev St:=List (Option V)
abbrev VK:=V→Hp→Prop
abbrev TE:=St→Hp→VK→Prop
abbrev TT:=St→Hp→(Bool→Hp→Prop)→Prop
abbrev TA:=St→Hp→(List V→Hp→Prop)→Prop
set_option genInjectivity false in
set_option genSizeOf false in
structure Ends where
 nx:St→Hp→Prop
 rt:VK
 bk:St→Hp→Prop:=fun _ _=>False
 ct:St→Hp→Prop:=fun _ _=>False
abbrev TS:=Ends→St→Hp→Prop
def EP (X:Cx) (pins:List (Addr × Obj)) (σ : St) (Q:VK) (u:Value) (s':Shared):Prop:=∃ v H',Inv X pins σ H' s'∧RelV v u∧Q v H'
def TP (X:Cx) (pins:List (Addr × Obj)) (σ : St) (Q:Bool→Hp→Prop) (b:Bool) (s':Shared):Prop:=∃ H',Inv X pins σ H' s'∧Q b H'
def AP (X:Cx) (pins:List (Addr × Obj)) (σ : St) (Q:List V→Hp→Prop) (us:List Value) (s':Shared):Prop:=∃ vs H',Inv X pins σ H' s'∧Vals vs us∧Q vs H'
def SP (X:Cx) (pins:List (Addr × Obj)) (D:Ends) (f:Flow) (s':Shared):Prop:=
 match f with
 | .next=>∃ σ' H',Inv X pins σ' H' s'∧D.nx σ' H'
 | .brk=>∃ σ' H',Inv X pins σ' H' s'∧D.bk σ' H'
 | .cont=>∃ σ' H',Inv X pins σ' H' s'∧D.ct σ' H'
 | .ret u=>∃ v σ' H',Inv X pins σ' H' s'∧RelV v u∧D.rt v H'
def PE (X:Cx) (e:Expr) (t:TE):Prop:=
 ∀ (pins:List (Addr × Obj)) (s:Shared) (σ : St) (H:Hp) (Q:VK),Inv X pins σ H s→t σ H Q→wpAny (model X.prog X.w) X.A (eval e X.env) (EP X pins σ Q) X.xe s
def PT (X:Cx) (e:Expr) (t:TT):Prop:=
 ∀ (pins:List (Addr × Obj)) (s:Shared) (σ : St) (H:Hp) (Q:Bool→Hp→Prop),Inv X pins σ H s→t σ H Q→wpAny (model X.prog X.w) X.A (isTrue e X.env (eval e X.env)) (TP X pins σ Q) X.xe s
def PW (X:Cx) (e:Expr) (t:TT):Prop:=
 ∀ (whole:Sem Value) (pins:List (Addr × Obj)) (s:Shared) (σ : St) (H:Hp) (Q:Bool→Hp→Prop),Inv X pins σ H s→t σ H Q→wpAny (model X.prog X.w) X.A (isTrue e X.env whole) (TP X pins σ Q) X.xe s
theorem PW.pt {X:Cx} {e:Expr} {t:TT} (h:PW X e t):PT X e t:=h _
def PA (X:Cx) (es:List Expr) (t:TA):Prop:=
 ∀ (pos:Pos) (pins:List (Addr × Obj)) (s:Shared) (σ : St) (H:Hp) (Q:List V→Hp→Prop),Inv X pins σ H s→t σ H Q→wpAny (model X.prog X.w) X.A (spliced (backTo pos (starEach es X.env))) (AP X pins σ Q) X.xe s
def PS (X:Cx) (st:Stmt) (t:TS):Prop:=
 ∀ (pins:List (Addr × Obj)) (s:Shared) (σ : St) (H:Hp) (D:Ends),Inv X pins σ H s→t D σ H→wpAny (model X.prog X.w) X.A (exec st X.env) (SP X pins D) X.xe s
def PSs (X:Cx) (st:List Stmt) (t:TS):Prop:=
 ∀ (pins:List (Addr × Obj)) (s:Shared) (σ : St) (H:Hp) (D:Ends),Inv X pins σ H s→t D σ H→wpAny (model X.prog X.w) X.A (execs st X.env) (SP X pins D) X.xe s
theorem thn {α : Type} {t:Sem α} {Q Q':α→Shared→Prop} {M:Model} {A:Around} {E:Value→Shared→Prop} {s:Shared} (h:wpAny M A t Q E s) (hQ:∀ a s,Q a s→Q' a s):wpAny M A t Q' E s:=wpAny_mono h hQ fun _ _ x=>x
end L2
namespace L2
open PySem PySem.Spec PyProof.Rows
section
variable {X:Cx}
def tVar (i:Nat):TE:=fun σ H Q=>∃ v,σ[i]? = some (some v)∧Q v H
def tC (v:V):TE:=fun _ H Q=>Q v H
theorem pe_var {i:Nat} {x:Str} {pos:Pos} (hN:X.N[i]? = some x) (hv:Vis X.env.scope x) (hd:(x == ("__debug__" : Str)) = false:=by decide) (hcd:(x == ("__classdict__" : Str)) = false:=by decide):PE X (.Name x pos) (tVar i):=by
 intro pins s σ H Q I h
 obtain ⟨v,e,h⟩:=h
 obtain ⟨m,hn,hl⟩:=I.loc
 obtain ⟨u,r,l⟩:=hl i x v hN e hv
 have fin:EP X pins σ Q u s:=⟨v,H,I,r,h⟩
 rcases l with ⟨hk,hm⟩ | ⟨hk,c,hc,hcell⟩
 ·exact wpAny_Name (wpAny_loadName_local I.ok.kind hk hn hm fin) hd
 ·rcases hk with hk | hk
  ·exact wpAny_Name (wpAny_loadName_cell I.ok.kind hk hc hcell fin) hd
  ·exact wpAny_Name (wpAny_loadName_free I.ok.kind hk hc hcell fin hcd) hd
theorem pe_int {i j pos}:PE X (.Constant (.int i) j pos) (tC (.int i)):=fun _ _ _ H _ I h=>wpAny_Constant_int ⟨.int i,H,I.tok _,⟨_,rfl⟩,h⟩
theorem pe_bl {b j pos}:PE X (.Constant (.bool b) j pos) (tC (.bl b)):=fun _ _ _ H _ I h=>Constant_bool ⟨.bl b,H,I,rfl,h⟩
theorem pe_non {j pos}:PE X (.Constant .none j pos) (tC .non):=fun _ _ _ H _ I h=>Constant_none ⟨.non,H,I,rfl,h⟩
theorem pe_str {x j pos}:PE X (.Constant (.str x) j pos) (tC (.str x)):=fun _ _ _ H _ I h=>Calls.Constant_str ⟨.str x,H,I.tok _,⟨_,rfl⟩,h⟩
def Gl (X:Cx) (x:Str):Prop:=X.env.kindOf x = some .globalImplicit
theorem ld_glob {E:Value→Shared→Prop} {pins:List (Addr × Obj)} {s:Shared} {σ : St} {H:Hp} {x:Str} {u:Value} {pos:Pos} {Q:Value→Shared→Prop} (I:Inv X pins σ H s) (hg:Gl X x) (hm:X.mg x = some u) (h:Q u s)
  (hd:(x == ("__debug__" : Str)) = false:=by decide):wpAny (model X.prog X.w) X.A (eval (.Name x pos) X.env) Q E s:=
 Calls.Name_function_global I.ok.kind hg (Calls.loadGlobal_global (by rw [I.ok.glob]; exact I.mod.glob.keeps I.bk) hm h) hd
theorem ld_blt {E:Value→Shared→Prop} {pins:List (Addr × Obj)} {s:Shared} {σ : St} {H:Hp} {x:Str} {u:Value} {pos:Pos} {Q:Value→Shared→Prop} (I:Inv X pins σ H s) (hg:Gl X x) (hm:X.mg x = none) (hv:bootBuiltins x = some u) (h:Q u s)
  (hn:x ≠ "__name__" := by decide) (hd:(x == ("__debug__" : Str)) = false:=by decide):wpAny (model X.prog X.w) X.A (eval (.Name x pos) X.env) Q E s:=by
 obtain ⟨mb,h1,h2⟩:=I.mod.blt
 exact Calls.Name_function_global I.ok.kind hg (Calls.loadGlobal_builtin (by rw [I.ok.glob]; exact I.mod.glob.keeps I.bk) hm (by rw [I.ok.blt]; exact h1.keeps I.bk) ((h2 x hn).trans hv) h) hd
theorem pe_bltn {x:Str} {v:V} {u:Value} {pos:Pos} (hg:Gl X x) (hm:X.mg x = none) (hv:bootBuiltins x = some u) (r:RelV v u) (hn:x ≠ "__name__" := by decide) (hd:(x == ("__debug__" : Str)) = false:=by decide):PE X (.Name x pos) (tC v):=
 fun _ _ _ H _ I h=>ld_blt I hg hm hv ⟨v,H,I,r,h⟩ hn hd
variable {a b:Expr} {ta tb:TE} {pos:Pos}
def tB (t:TE):TT:=fun σ H Q=>t σ H fun x H1=>∃ c,x = .bl c∧Q c H1
theorem pt_val {e:Expr} {t:TE} (h:PE X e t) (he:∀ whole,isTrue e X.env whole = (do let v ← whole; standAt e.pos; holding [v] (truthy v)):=by intro _; rfl):PT X e (tB t):=by
 intro pins s σ H Q I hw
 refine isTrue_plain (thn (h pins s σ H _ I hw) fun v s1 ⟨x,H1,I1,r1,q1⟩=>?_) (he _)
 obtain ⟨d,rfl,q⟩:=q1
 cases r1
 exact wpAny_truthy_bool ⟨H1,I1,q⟩
variable {tA tB':TT} {rest:List Expr}
def tAnd (t u:TT):TT:=fun σ H Q=>t σ H fun c H1=>if c = true then u σ H1 Q else Q false H1
def tOr (t u:TT):TT:=fun σ H Q=>t σ H fun c H1=>if c = true then Q true H1 else u σ H1 Q
def tNot (t:TT):TT:=fun σ H Q=>t σ H fun c H1=>Q (!c) H1
theorem pw_and1 (ha:PT X a tA):PW X (.BoolOp .And [a] pos) tA:=by
 intro wh pins s σ H Q I h
 refine isTrue_and (thn (ha pins s σ H Q I h) fun c s1 e=>?_)
 cases c with
 | true=>exact isTrue_and_nil e
 | false=>exact e
theorem pw_or1 (ha:PT X a tA):PW X (.BoolOp .Or [a] pos) tA:=by
 intro wh pins s σ H Q I h
 refine isTrue_or (thn (ha pins s σ H Q I h) fun c s1 e=>?_)
 cases c with
 | false=>exact isTrue_or_nil e
 | true=>exact e
theorem pw_and (ha:PT X a tA) (hb:PW X (.BoolOp .And (b :: rest) pos) tB'):PW X (.BoolOp .And (a :: b :: rest) pos) (tAnd tA tB'):=by
 intro wh pins s σ H Q I h
 refine isTrue_and (thn (ha pins s σ H _ I h) fun c s1 ⟨H1,I1,q1⟩=>?_)
 cases c with
 | true=>exact hb wh pins s1 σ H1 Q I1 q1
 | false=>exact ⟨H1,I1,q1⟩
theorem pw_or (ha:PT X a tA) (hb:PW X (.BoolOp .Or (b :: rest) pos) tB'):PW X (.BoolOp .Or (a :: b :: rest) pos) (tOr tA tB'):=by
 intro wh pins s σ H Q I h
 refine isTrue_or (thn (ha pins s σ H _ I h) fun c s1 ⟨H1,I1,q1⟩=>?_)
 cases c with
 | true=>exact ⟨H1,I1,q1⟩
 | false=>exact hb wh pins s1 σ H1 Q I1 q1
theorem pt_not (ha:PT X a tA):PT X (.UnaryOp .Not a pos) (tNot tA):=by
 intro pins s σ H Q I h
 exact isTrue_not (ha pins s σ H (fun c H1=>Q (!c) H1) I h)
def tAndV (ta tb:TE):TE:=fun σ H Q=>ta σ H fun x H1=>∃ c,x = .bl c∧if c = true then tb σ H1 Q else Q (.bl false) H1
def tNotV (ta:TE):TE:=fun σ H Q=>ta σ H fun x H1=>∃ c,x = .bl c∧Q (.bl (!c)) H1
theorem pe_one {op} {t:TE} (h:PE X a t):PE X (.BoolOp op [a] pos) t:=fun pins s σ H Q I hw=>BoolOp_one (h pins s σ H Q I hw)
theorem pe_and (ha:PE X a ta) (hb:PE X (.BoolOp .And (b :: rest) pos) tb):PE X (.BoolOp .And (a :: b :: rest) pos) (tAndV ta tb):=by
 intro pins s σ H Q I h
 refine BoolOp_and (thn (ha pins s σ H _ I h) fun v s1 ⟨x,H1,I1,r1,q1⟩=>?_)
 obtain ⟨c,rfl,q1⟩:=q1
 cases r1
 refine wpAny_truthy_bool ?_
 cases c with
 | true=>exact hb pins s1 σ H1 Q I1 q1
 | false=>exact ⟨.bl false,H1,I1,rfl,q1⟩
theorem pe_not (ha:PE X a ta):PE X (.UnaryOp .Not a pos) (tNotV ta):=by
 intro pins s σ H Q I h
 refine UnaryOp_ (thn (ha pins s σ H _ I h) fun v s1 ⟨x,H1,I1,r1,q1⟩=>?_)
 obtain ⟨c,rfl,q1⟩:=q1
 cases r1
 exact not_of (wpAny_truthy_bool ⟨.bl (!c),H1,I1,rfl,q1⟩)
def tIf (t:TT) (ta tb:TE):TE:=fun σ H Q=>t σ H fun c H1=>if c = true then ta σ H1 Q else tb σ H1 Q
theorem pe_ifExp {c:Expr} (hc:PT X c tA) (ha:PE X a ta) (hb:PE X b tb):PE X (.IfExp c a b pos) (tIf tA ta tb):=by
 intro pins s σ H Q I h
 refine wpAny_IfExp (thn (hc pins s σ H _ I h) fun d s1 ⟨H1,I1,q1⟩=>?_)
 cases d with
 | true=>exact ha pins s1 σ H1 Q I1 q1
 | false=>exact hb pins s1 σ H1 Q I1 q1
end
end L2
namespace L2
open PySem PySem.Spec PyProof.Rows
def SqL (K:PySem.W.Frag) (H:Hp) (a:Addr) (xs:List V):Prop:=
 Rd H a (.lst xs)∨
  ∃ (o:Obj) (its:Array Value) (n:Nat),K.lookup a = some o∧o.cls = .type "list" ∧ o.dict = none∧o.data = .seq its n∧its.size ≤ sizeLine∧Vals xs its.toList
def SqT (K:PySem.W.Frag) (H:Hp) (a:Addr) (xs:List V):Prop:=
 Rd H a (.tup xs)∨
  ∃ (o:Obj) (its:Array Value) (n:Nat),K.lookup a = some o∧o.cls = .type "tuple" ∧ o.data = .seq its n∧its.size ≤ sizeLine∧Vals xs its.toList
def absV:Value→Option V
 | .none=>some .non
 | .bool b=>some (.bl b)
 | .int i _=>some (.int i)
 | .str x _=>some (.str x)
 | .bytes b _=>some (.byt b)
 | .float b _=>some (.flt b)
 | .ref a=>some (.ref a)
 | .type n=>some (.ty n)
 | _=>none
theorem RelV.abs {x:V} {u:Value} (r:RelV x u):absV u = some x:=by
 cases x with
 | non=>cases r; rfl
 | bl _=>cases r; rfl
 | int _=>obtain ⟨t,rfl⟩:=r; rfl
 | str _=>obtain ⟨t,rfl⟩:=r; rfl
 | byt _=>obtain ⟨t,rfl⟩:=r; rfl
 | flt _=>obtain ⟨t,rfl⟩:=r; rfl
 | ref _=>cases r; rfl
 | ty _=>cases r; rfl
theorem RelV.inj {x y:V} {u:Value} (r:RelV x u) (q:RelV y u):x = y:=Option.some.inj (r.abs.symm.trans q.abs)
theorem Vals.inj:∀ {xs ys:List V} {us:List Value},Vals xs us→Vals ys us→xs = ys
 | _,_,_,.nil,.nil=>rfl
 | _,_,_,.cons r t,.cons r' t'=>by rw [r.inj r',Vals.inj t t']
section
variable {X:Cx} {pins:List (Addr × Obj)} {σ : St} {H:Hp} {s:Shared} {a:Addr} {xs ys:List V}
theorem SqL.of {K:PySem.W.Frag} (h:H a = some (.lst xs)):SqL K H a xs:=.inl (.inl h)
theorem SqT.of {K:PySem.W.Frag} (h:H a = some (.tup xs)):SqT K H a xs:=.inl (.inl h)
theorem Inv.list (I:Inv X pins σ H s) (h:SqL X.K H a xs):∃ its:List Value,Vals xs its∧PlainL s.heap a its.toArray∧xs.length ≤ sizeLine:=by
 rcases h with h | ⟨o,its,n,hk,hc,hd,hs,hz,r⟩
 ·obtain ⟨z,its,n,r,e⟩:=h.ok I.hok
  exact ⟨its,r,⟨_,n,e,rfl,rfl,rfl⟩,z⟩
 ·refine ⟨its.toList,r,⟨o,n,I.kIn a o hk,hc,hd,by simpa using hs⟩,?_⟩
  have e:=r.length
  simp only [Array.length_toList] at e
  omega
theorem Inv.tuple (I:Inv X pins σ H s) (h:SqT X.K H a xs):∃ its:List Value,Vals xs its∧IsTup s.heap a its.toArray∧xs.length ≤ sizeLine:=by
 rcases h with h | ⟨o,its,n,hk,hc,hs,hz,r⟩
 ·obtain ⟨z,its,r,p⟩:=h.ok I.hok
  exact ⟨its,r,p.tup,z⟩
 ·refine ⟨its.toList,r,⟨o,I.kIn a o hk,hc,n,by simpa using hs⟩,?_⟩
  have e:=r.length
  simp only [Array.length_toList] at e
  omega
theorem Inv.list_inj (I:Inv X pins σ H s) (h:SqL X.K H a xs) (h':SqL X.K H a ys):xs = ys:=by
 obtain ⟨its,r,⟨o,n,e,_,_,d⟩,_⟩:=I.list h
 obtain ⟨its',r',⟨o',n',e',_,_,d'⟩,_⟩:=I.list h'
 rw [e] at e'; cases e'
 rw [d] at d'
 injection d' with d1 _
 have:its = its':=by simpa using congrArg Array.toList d1
 subst this
 exact r.inj r'
theorem Inv.tuple_inj (I:Inv X pins σ H s) (h:SqT X.K H a xs) (h':SqT X.K H a ys):xs = ys:=by
 obtain ⟨its,r,⟨o,e,_,n,d⟩,_⟩:=I.tuple h
 obtain ⟨its',r',⟨o',e',_,n',d'⟩,_⟩:=I.tuple h'
 rw [e] at e'; cases e'
 rw [d] at d'
 injection d' with d1 _
 have:its = its':=by simpa using congrArg Array.toList d1
 subst this
 exact r.inj r'
end
abbrev Cx.wish (X:Cx) (E:Value→Shared→Prop):Cx:={ X with xe:=E }
abbrev Cx.nox (X:Cx):Cx:=X.wish fun _ _=>False
theorem Cx.Ok.wish {X:Cx} (ok:X.Ok) (E:Value→Shared→Prop):(X.wish E).Ok:=
 ⟨ok.mod,ok.kind,ok.glob,ok.blt,ok.above,ok.inj,ok.has,ok.cab,ok.hd,ok.frames,ok.stk,ok.exf,ok.bs,ok.bsz,ok.noex,ok.exfs,ok.funs,ok.frf⟩
theorem Cx.Ok.unwish {X:Cx} {E:Value→Shared→Prop} (ok:(X.wish E).Ok):X.Ok:=
 ⟨ok.mod,ok.kind,ok.glob,ok.blt,ok.above,ok.inj,ok.has,ok.cab,ok.hd,ok.frames,ok.stk,ok.exf,ok.bs,ok.bsz,ok.noex,ok.exfs,ok.funs,ok.frf⟩
section
variable {X:Cx} {pins:List (Addr × Obj)} {σ : St} {H:Hp} {s:Shared} {E:Value→Shared→Prop}
theorem Inv.wish (I:Inv X pins σ H s) (E:Value→Shared→Prop):Inv (X.wish E) pins σ H s:=⟨I.ok.wish E,I.os,I.bare,I.base,I.loc,I.cell,I.free,I.freeC,I.pin,I.hok,I.len⟩
theorem Inv.unwish (I:Inv (X.wish E) pins σ H s):Inv X pins σ H s:=⟨I.ok.unwish,I.os,I.bare,I.base,I.loc,I.cell,I.free,I.freeC,I.pin,I.hok,I.len⟩
theorem SP.unwish {D:Ends} {f:Flow} {s':Shared} (h:SP (X.wish E) pins D f s'):SP X pins D f s':=by
 cases f with
 | next=>obtain ⟨σ',H',I,q⟩:=h; exact ⟨σ',H',I.unwish,q⟩
 | brk=>obtain ⟨σ',H',I,q⟩:=h; exact ⟨σ',H',I.unwish,q⟩
 | cont=>obtain ⟨σ',H',I,q⟩:=h; exact ⟨σ',H',I.unwish,q⟩
 | ret u=>obtain ⟨v,σ',H',I,r,q⟩:=h; exact ⟨v,σ',H',I.unwish,r,q⟩
theorem PSs.nox {st:List Stmt} {t:TS} (h:PSs X.nox st t):PSs X st t:=fun pins s σ H D I hw=>
 wpAny_mono (h pins s σ H D (I.wish _) hw) (fun _ _ q=>q.unwish) fun _ _ z=>False.elim z
end
section
variable {X:Cx} {st:Stmt} {rest:List Stmt} {t u:TS} {e:Expr} {te:TE} {pos:Pos}
def tNext:TS:=fun D σ H=>D.nx σ H
def tSeq (t u:TS):TS:=fun D σ H=>t { D with nx:=u D } σ H
theorem pss_nil:PSs X [] tNext:=fun _ _ σ H _ I h=>wpAny_execs_nil ⟨σ,H,I,h⟩
theorem pss_cons (h1:PS X st t) (h2:PSs X rest u):PSs X (st :: rest) (tSeq t u):=by
 intro pins s σ H D I h
 refine wpAny_execs_cons (thn (h1 pins s σ H { D with nx:=u D } I h) fun f s1 q=>?_)
 cases f with
 | next=>
  obtain ⟨σ',H',I',q⟩:=q
  exact h2 pins s1 σ' H' D I' q
 | ret v=>exact q
 | brk=>exact q
 | cont=>exact q
theorem pss_one (h1:PS X st t):PSs X [st] t:=by
 intro pins s σ H D I h
 refine wpAny_execs_cons (thn (h1 pins s σ H D I h) fun f s1 q=>?_)
 cases f with
 | next=>exact wpAny_execs_nil q
 | ret v=>exact q
 | brk=>exact q
 | cont=>exact q
def tCont:TS:=fun D σ H=>D.ct σ H
theorem ps_continue:PS X (.Continue pos) tCont:=fun _ _ σ H _ I h=>wpAny_Continue ⟨σ,H,I,h⟩
theorem Inv.quiet {pins:List (Addr × Obj)} {σ : St} {H:Hp} {s:Shared} (I:Inv X pins σ H s):interactive X.env = false:=by simp [interactive,I.ok.kind]
def tDrop (te:TE):TS:=fun D σ H=>te σ H fun _ H1=>D.nx σ H1
theorem ps_expr (he:PE X e te) (hs:swapsWith e none pos.line X.env = pure false:=by rfl):PS X (.Expr e pos) (tDrop te):=by
 intro pins s σ H D I h
 exact wpAny_Expr_any (thn (he pins s σ H _ I h) fun v s1 ⟨x,H1,I1,r1,q1⟩=>⟨σ,H1,I1,q1⟩) I.quiet hs
def tRet (te:TE):TS:=fun D σ H=>te σ H D.rt
theorem ps_ret (he:PE X e te):PS X (.Return (some e) pos) (tRet te):=by
 intro pins s σ H D I h
 exact wpAny_Return_some (thn (he pins s σ H _ I h) fun v s1 ⟨x,H1,I1,r1,q1⟩=>⟨x,σ,H1,I1,r1,q1⟩)
def tRetN:TS:=fun D _ H=>D.rt .non H
theorem ps_retN:PS X (.Return none pos) tRetN:=fun _ _ σ H _ I h=>wpAny_Return_none ⟨.non,σ,H,I,rfl,h⟩
def tIfS (c:TT) (t u:TS):TS:=fun D σ H=>c σ H fun b H1=>if b = true then t D σ H1 else u D σ H1
theorem ps_if {c:Expr} {a b:List Stmt} {tc:TT} (hc:PT X c tc) (ha:PSs X a t) (hb:PSs X b u):PS X (.If c a b pos) (tIfS tc t u):=by
 intro pins s σ H D I h
 refine wpAny_If (thn (hc pins s σ H _ I h) fun d s1 ⟨H1,I1,q1⟩=>?_)
 cases d with
 | true=>exact ha pins s1 σ H1 D I1 q1
 | false=>exact hb pins s1 σ H1 D I1 q1
end
abbrev TG:=V→St→Hp→(St→Hp→Prop)→Prop
abbrev TGs:=List V→St→Hp→(St→Hp→Prop)→Prop
def PG (X:Cx) (target:Expr) (t:TG):Prop:=
 ∀ (pins:List (Addr × Obj)) (s:Shared) (σ : St) (H:Hp) (v:V) (u:Value) (Q:St→Hp→Prop),Inv X pins σ H s→RelV v u→t v σ H Q→
  wpAny (model X.prog X.w) X.A (assign target X.env u) (fun _ s'=>∃ σ' H',Inv X pins σ' H' s'∧Q σ' H') X.xe s
def PGs (X:Cx) (ts:List Expr) (t:TGs):Prop:=
 ∀ (pins:List (Addr × Obj)) (s:Shared) (σ : St) (H:Hp) (vs:List V) (us:List Value) (Q:St→Hp→Prop),Inv X pins σ H s→Vals vs us→t vs σ H Q→
  wpAny (model X.prog X.w) X.A (assignInOrder ((assignEach ts X.env).map (·.2)) us) (fun _ s'=>∃ σ' H',Inv X pins σ' H' s'∧Q σ' H') X.xe s
abbrev TSet:=V→V→V→Hp→(Hp→Prop)→Prop
def PSet (X:Cx) (t:TSet):Prop:=
 ∀ (pins:List (Addr × Obj)) (s:Shared) (σ : St) (H:Hp) (o i v:V) (ov iv u:Value) (Q:Hp→Prop),Inv X pins σ H s→RelV o ov→RelV i iv→RelV v u→t o i v H Q→
  wpAny (model X.prog X.w) X.A (setItem ov iv u) (fun _ s'=>∃ H',Inv X pins σ H' s'∧Q H') X.xe s
section
variable {X:Cx} {pos:Pos}
def gName (i:Nat):TG:=fun v σ H Q=>Q (σ.set i (some v)) H
theorem pg_name {i:Nat} {x:Str} (hN:X.N.Nodup) (hi:X.N[i]? = some x) (hx:Loc X.env.scope x) (hf:X.fn x = true∨X.env.scope.names.lookup x = some .local:=by first | exact .inl rfl | exact .inr rfl | assumption):PG X (.Name x pos) (gName i):=by
 intro pins s σ H v u Q I r h
 exact wpAny_assign_Name (store_ok I hN hi hx r (fun s' I'=>⟨_,H,I',h⟩) hf)
def gNil:TGs:=fun vs σ H Q=>vs = []∧Q σ H
def gCons (t:TG) (u:TGs):TGs:=fun vs σ H Q=>∃ v r,vs = v :: r∧t v σ H fun σ' H'=>u r σ' H' Q
theorem pgs_nil:PGs X [] gNil:=by
 intro pins s σ H vs us Q I r h
 obtain ⟨e,h⟩:=h
 subst e
 cases r
 exact assignInOrder_nil ⟨σ,H,I,h⟩
theorem pgs_cons {e:Expr} {es:List Expr} {t:TG} {u:TGs} (h1:PG X e t) (h2:PGs X es u)
  (hs:(assignEach (e :: es) X.env).map (·.2) = assign e X.env :: (assignEach es X.env).map (·.2):=by rfl):PGs X (e :: es) (gCons t u):=by
 intro pins s σ H vs us Q I r h
 obtain ⟨v,vr,e1,h⟩:=h
 subst e1
 cases r with
 | cons r rr=>
  rw [hs]
  refine assignInOrder_cons (thn (h1 pins s σ H _ _ _ I r h) fun _ s1 ⟨σ1,H1,I1,q1⟩=>?_)
  exact h2 pins s1 σ1 H1 _ _ Q I1 rr q1
def gTup (K:PySem.W.Frag) (n:Nat) (t:TGs):TG:=fun v σ H Q=>∃ a xs,v = .ref a∧SqT K H a xs∧xs.length = n∧t xs σ H Q
theorem pg_tup {es:List Expr} {k:Nat} {t:TGs} {n:Nat} (hc:X.calm = true) (h:PGs X es t)
  (hn:(assignEach es X.env).length = n:=by rfl) (hst:(assignEach es X.env).findIdx? (·.1) = none:=by rfl):PG X (.Tuple es k pos) (gTup X.K n t):=by
 intro pins s σ H v u Q I r hw
 obtain ⟨a,xs,e1,hq,hl,hw⟩:=hw
 subst e1
 cases r
 obtain ⟨its,rv,ht,hz⟩:=I.tuple hq
 refine assign_Tuple_tuple (I.ok.hd hc) ht (by simp [hn,← hl,rv.length]) hst fun h' hx=>?_
 have I1:Inv X pins σ H { s with heap:=h' }:=I.kept (t':=s.toks) fun b o e=>hx b o (Nat.ne_of_lt (Heap.lt_size e)) e
 exact h pins _ σ H xs _ Q I1 (by simpa using rv) hw
def gSub (to ti:TE) (t:TSet):TG:=fun v σ H Q=>to σ H fun o H1=>ti σ H1 fun i H2=>t o i v H2 fun H3=>Q σ H3
theorem pg_sub {o i:Expr} {to ti:TE} {t:TSet} (ho:PE X o to) (hi:PE X i ti) (hs:PSet X t)
  (ha:∀ v,assign (.Subscript o i pos) X.env v = (do
   let ov ← holding [v] (eval o X.env)
   let iv ← holding [v,ov] (eval i X.env)
   standAt pos
   holding [v,ov,iv] (setItem ov iv v)
   release [v,ov,iv] []):=by intro _; rfl):PG X (.Subscript o i pos) (gSub to ti t):=by
 intro pins s σ H v u Q I r h
 rw [ha]
 refine wpAny_bind (wpAny_holding (thn (ho pins s σ H _ I h) fun ov s1 ⟨x,H1,I1,r1,q1⟩=>?_))
 refine wpAny_bind (wpAny_holding (thn (hi pins s1 σ H1 _ I1 q1) fun iv s2 ⟨y,H2,I2,r2,q2⟩=>?_))
 refine wpAny_bind (wpAny_standAt (wpAny_bind (wpAny_holding (thn (hs pins s2 σ H2 x y v ov iv u _ I2 r1 r2 r q2) fun _ s3 ⟨H3,I3,q3⟩=>?_))))
 exact wpAny_release ⟨σ,H3,I3,q3⟩
def tAsg (te:TE) (g:TG):TS:=fun D σ H=>te σ H fun x H1=>g x σ H1 D.nx
theorem ps_asg {tg e:Expr} {te:TE} {g:TG} (he:PE X e te) (hg:PG X tg g) (hs:swapsWithSole [tg] e pos.line X.env = pure false:=by rfl) (hw:swappedStores [tg] e X.env = pure none:=by rfl)
  (h1:(assignEach [tg] X.env).map (·.2) = [assign tg X.env]:=by rfl):PS X (.Assign [tg] e pos) (tAsg te g):=by
 intro pins s σ H D I h
 refine wpAny_Assign_stores (thn (he pins s σ H _ I h) fun v s1 ⟨x,H1,I1,r1,q1⟩=>?_) hs hw
 rw [h1]
 exact thn (hg pins s1 σ H1 x v _ I1 r1 q1) fun _ s2 q=>q
theorem ps_set {i:Nat} {x:Str} {e:Expr} {te:TE} {pos':Pos} (hN:X.N.Nodup) (hi:X.N[i]? = some x) (hx:Loc X.env.scope x) (he:PE X e te) (hs:swapsWith e (some (.Name x pos')) pos.line X.env = pure false:=by rfl) (hf:X.fn x = true∨X.env.scope.names.lookup x = some .local:=by first | exact .inl rfl | exact .inr rfl | assumption) :
  PS X (.Assign [.Name x pos'] e pos) (tAsg te (gName i)):=by
 intro pins s σ H D I h
 refine wpAny_Assign_Name (thn (he pins s σ H _ I h) fun v s1 ⟨y,H1,I1,r1,q1⟩=>?_) hs
 exact store_ok I1 hN hi hx r1 (fun s2 I2=>⟨_,H1,I2,q1⟩) hf
end
section
variable {X:Cx} {pos:Pos}
end
set_option genInjectivity false in
set_option genSizeOf false in
structure It where
 go:Nat→Hp→Prop
 yld:Nat→Hp→V→Hp→Prop
 stop:Nat→Hp→Prop
def FpOk (X:Cx) (pins:List (Addr × Obj)) (H:Hp) (b:Addr):Prop:=
 H b = none∧b ≠ X.env.locals∧b ∉ X.fs∧(b ∈ X.ex∨X.s₀.heap.objs.size ≤ b)∧(∀ x c,X.env.cells.lookup x = some c→c ≠ b)∧∀ p ∈ X.pn ++ pins,p.1 ≠ b
theorem Inv.fpOk {X:Cx} {pins:List (Addr × Obj)} {σ : St} {H H':Hp} {s:Shared} {b:Addr} (I:Inv X pins σ H s) (hb:s.heap.objs.size ≤ b) (hn:H' b = none):FpOk X pins H' b:=by
 refine ⟨hn,Nat.ne_of_gt (Nat.lt_of_lt_of_le I.lt hb),I.nofs hb,.inr (Nat.le_trans I.sz hb),fun x c e z=>?_,fun p hp z=>?_⟩
 ·obtain ⟨v,q⟩:=I.cell x c e
  exact absurd (Nat.lt_of_lt_of_le q.lt (by rw [z]; exact hb)) (Nat.lt_irrefl _)
 ·exact absurd (Nat.lt_of_lt_of_le (Heap.lt_size (I.pin p hp).1) (by rw [z]; exact hb)) (Nat.lt_irrefl _)
structure Turn (P:Program) (w:World) (K:PySem.W.Frag) (tg:Expr) (J:It) (fp:List Addr) (it:Addr) (tn:Nat→Heap→Prop):Prop where
 mem:it ∈ fp
 obj:∀ i h,tn i h→∀ b ∈ fp,∃ o,h.get? b = some o∧∀ v,o.data ≠ .cell v
 keep:∀ i h h',tn i h→(∀ b ∈ fp,∀ o,h.get? b = some o→h'.get? b = some o)→tn i h'
 item:∀ (X:Cx),X.prog = P→X.w = w→X.K = K→X.calm = true→∀ (i:Nat) (pins:List (Addr × Obj)) (s:Shared) (σ : St) (H:Hp) (E:Value→Shared→Prop),Inv X pins σ H s→(∀ b ∈ fp,FpOk X pins H b)→tn i s.heap→J.go i H→
  wpAny (model P w) X.A (pyNext (.ref it)) (fun r s1=>∃ u,r = some u∧
   wpAny (model P w) X.A (letOwnedTupleGo tg (.ref it) u) (fun _ s2=>∃ x H',Inv X pins σ H' s2∧RelV x u∧J.yld i H x H'∧tn (i + 1) s2.heap∧∀ b ∈ fp,H' b = none) E s1) E s
 done:∀ (X:Cx),X.prog = P→X.w = w→X.K = K→X.calm = true→∀ (i:Nat) (pins:List (Addr × Obj)) (s:Shared) (σ : St) (H:Hp) (E:Value→Shared→Prop),Inv X pins σ H s→(∀ b ∈ fp,FpOk X pins H b)→tn i s.heap→J.stop i H→
  wpAny (model P w) X.A (pyNext (.ref it)) (fun r s1=>r = none∧Inv X pins σ H s1) E s
 self:∀ (A:Around) (i:Nat) (s:Shared) (Q:Value→Shared→Prop) (E:Value→Shared→Prop),tn i s.heap→Q (.ref it) s→wpAny (model P w) A (pyIter (.ref it)) Q E s
abbrev TI:=St→Hp→(It→Hp→Prop)→Prop
def PIE (X:Cx) (pins:List (Addr × Obj)) (σ : St) (tg:Expr) (R:It→Hp→Prop) (itv:Value) (s2:Shared):Prop:=
 ∃ (it:Addr) (fp:List Addr) (tn:Nat→Heap→Prop) (J:It) (H':Hp),itv = .ref it∧Inv X pins σ H' s2∧Turn X.prog X.w X.K tg J fp it tn∧tn 0 s2.heap∧(∀ b ∈ fp,FpOk X pins H' b)∧R J H'
def PI (X:Cx) (tg iter:Expr) (wi:TI):Prop:=
 ∀ (pins:List (Addr × Obj)) (s:Shared) (σ : St) (H:Hp) (R:It→Hp→Prop),Inv X pins σ H s→wi σ H R→
  wpAny (model X.prog X.w) X.A (eval iter X.env) (fun v s1=>wpAny (model X.prog X.w) X.A (pyIter v) (PIE X pins σ tg R) X.xe s1) X.xe s
theorem go_of {M:Model} {A:Around} {E:Value→Shared→Prop} {s:Shared} {tg:Expr} {it:Addr} {u:Value} {o:Obj} {n:String} {vs:Array Value} {Q:Unit→Shared→Prop} (ho:s.heap.get? it = some o) (hc:o.cls = .type n) (hd:o.data = .fields vs)
    (hn:["enumerate", "zip", "dict_itemiterator", "dict_reverseitemiterator", "odict_iterator", "itertools.zip_longest", "itertools.pairwise"].contains n = false) (hQ:Q () s):wpAny M A (letOwnedTupleGo tg (.ref it) u) Q E s:=by
  unfold letOwnedTupleGo
  cases tg <;> first
    | exact wpAny_pure hQ
    | (cases u <;> first
        | exact wpAny_pure hQ
        | (refine wpAny_bind (wpAny_load ho ?_)
           rw [hc,hd]
           show wpAny M A (if (["enumerate", "zip", "dict_itemiterator", "dict_reverseitemiterator", "odict_iterator", "itertools.zip_longest", "itertools.pairwise"].contains n && vs[0]? == some (rawInt _)) = true then _ else _) Q E s
           rw [if_neg (by intro h; rw [hn,Bool.false_and] at h; cases h)]
           exact wpAny_pure hQ))
def Itl (K:PySem.W.Frag) (a:Addr):It:=
 ⟨fun i H=>∃ xs x,SqL K H a xs∧xs[i]? = some x,fun i H x H'=>H' = H∧∀ xs,SqL K H a xs→xs[i]? = some x,fun i H=>∃ xs,SqL K H a xs∧xs.length ≤ i⟩
def Itt (K:PySem.W.Frag) (a:Addr):It:=
 ⟨fun i H=>∃ xs x,SqT K H a xs∧xs[i]? = some x,fun i H x H'=>H' = H∧∀ xs,SqT K H a xs→xs[i]? = some x,fun i H=>∃ xs,SqT K H a xs∧xs.length ≤ i⟩
def Itr (lo:Int) (n:Nat):It:=⟨fun i _=>i < n,fun i H x H'=>H' = H∧x = .int (lo + i),fun i _=>n ≤ i⟩
theorem turn_list {P:Program} {w:World} {K:PySem.W.Frag} {tg:Expr} (a it:Addr):Turn P w K tg (Itl K a) [it] it (fun i h=>h.IsListIter it a i) where
 mem:=by simp
 obj:=fun i h st b hb=>by
  have e:b = it:=by simpa using hb
  subst e
  obtain ⟨o,e,c,d⟩:=st
  exact ⟨o,e,fun v z=>by rw [d] at z; cases z⟩
 keep:=fun i h h' st k=>st.at fun o e=>k it (by simp) o e
 item:=by
  intro X hP hw hK hc i pins s σ H E I hf st hg
  subst hP hw hK
  obtain ⟨xs,x,hq,hx⟩:=hg
  obtain ⟨its,rv,p,hz⟩:=I.list hq
  obtain ⟨u,hu,ru⟩:=rv.get hx
  obtain ⟨f0,f1,f2,f3,f4,f5⟩:=hf it (by simp)
  refine wpAny_pyNext_list_item st p.isList (x:=u) (by simpa using hu) fun h' st' sb=>?_
  have I1:Inv X pins σ H { s with heap:=h' }:=I.turned (t':=s.toks) (fun b o hb e=>(sb.2 b hb).trans e) f0 f1 f3 f4 f5
  obtain ⟨o,e,c,d⟩:=id st'
  exact ⟨u,rfl,go_of (s:={ s with heap:=h' }) e c d (by decide) ⟨x,H,I1,ru,⟨rfl,fun ys hy=>by rw [I.list_inj hy hq]; exact hx⟩,st',fun b hb=>(hf b hb).1⟩⟩
 done:=by
  intro X hP hw hK hc i pins s σ H E I hf st hg
  subst hP hw hK
  obtain ⟨xs,hq,hx⟩:=hg
  obtain ⟨its,rv,p,hz⟩:=I.list hq
  obtain ⟨f0,f1,f2,f3,f4,f5⟩:=hf it (by simp)
  have hl:=rv.length
  exact wpAny_pyNext_list_end (I.ok.hd hc) st p.isList (by simp; omega) fun h' eb=>⟨rfl,I.turned (t':=s.toks) (fun b o hb e=>eb b o hb e) f0 f1 f3 f4 f5⟩
 self:=fun _ _ _ _ _ st h=>wpAny_pyIter_listiter st h
theorem turn_tuple {P:Program} {w:World} {K:PySem.W.Frag} {tg:Expr} (a it:Addr):Turn P w K tg (Itt K a) [it] it (fun i h=>h.IsTupleIter it a i) where
 mem:=by simp
 obj:=fun i h st b hb=>by
  have e:b = it:=by simpa using hb
  subst e
  obtain ⟨o,e,c,d⟩:=st
  exact ⟨o,e,fun v z=>by rw [d] at z; cases z⟩
 keep:=fun i h h' st k=>st.at fun o e=>k it (by simp) o e
 item:=by
  intro X hP hw hK hc i pins s σ H E I hf st hg
  subst hP hw hK
  obtain ⟨xs,x,hq,hx⟩:=hg
  obtain ⟨its,rv,p,hz⟩:=I.tuple hq
  obtain ⟨u,hu,ru⟩:=rv.get hx
  obtain ⟨f0,f1,f2,f3,f4,f5⟩:=hf it (by simp)
  refine wpAny_pyNext_tuple_item st (show s.heap.IsTuple a its.toArray from p) (x:=u) (by simpa using hu) fun h' st' sb=>?_
  have I1:Inv X pins σ H { s with heap:=h' }:=I.turned (t':=s.toks) (fun b o hb e=>(sb.2 b hb).trans e) f0 f1 f3 f4 f5
  obtain ⟨o,e,c,d⟩:=id st'
  exact ⟨u,rfl,go_of (s:={ s with heap:=h' }) e c d (by decide) ⟨x,H,I1,ru,⟨rfl,fun ys hy=>by rw [I.tuple_inj hy hq]; exact hx⟩,st',fun b hb=>(hf b hb).1⟩⟩
 done:=by
  intro X hP hw hK hc i pins s σ H E I hf st hg
  subst hP hw hK
  obtain ⟨xs,hq,hx⟩:=hg
  obtain ⟨its,rv,p,hz⟩:=I.tuple hq
  obtain ⟨f0,f1,f2,f3,f4,f5⟩:=hf it (by simp)
  have hl:=rv.length
  exact wpAny_pyNext_tuple_end (I.ok.hd hc) st (show s.heap.IsTuple a its.toArray from p) (by simp; omega) fun h' eb=>⟨rfl,I.turned (t':=s.toks) (fun b o hb e=>eb b o hb e) f0 f1 f3 f4 f5⟩
 self:=fun _ _ _ _ _ st h=>wpAny_pyIter_tupleiter st h
theorem turn_range {P:Program} {w:World} {K:PySem.W.Frag} {tg:Expr} (it:Addr) (lo:Int) (n:Nat):Turn P w K tg (Itr lo n) [it] it (fun i h=>IsRangeIter h it (lo + (i:Nat) * 1) ((n:Int) - (i:Nat)) 1) where
 mem:=by simp
 obj:=fun i h st b hb=>by
  have e:b = it:=by simpa using hb
  subst e
  exact ⟨_,st,fun v z=>by
   have z':Data.fields _ = Data.cell v:=z
   cases z'⟩
 keep:=fun i h h' st k=>k it (by simp) _ st
 item:=by
  intro X hP hw hK hc i pins s σ H E I hf st hg
  subst hP hw hK
  obtain ⟨f0,f1,f2,f3,f4,f5⟩:=hf it (by simp)
  have W:=Walks.range (prog:=X.prog) (w:=X.w) (I.ok.hd hc) it lo 1 n
  refine W.item i s _ _ hg st fun v h' tk hv st' kk=>?_
  obtain ⟨t,rfl⟩:=hv
  have I1:Inv X pins σ H { s with heap:=h',toks:=tk }:=I.turned (fun b o hb e=>kk b o (by simpa using hb) e) f0 f1 f3 f4 f5
  refine ⟨_,rfl,go_of (s:={ s with heap:=h',toks:=tk }) (n := "range_iterator") st' rfl rfl (by decide) ⟨.int (lo + i),H,I1,⟨t,?_⟩,⟨rfl,rfl⟩,st',fun b hb=>(hf b hb).1⟩⟩
  rw [Int.mul_one]
 done:=by
  intro X hP hw hK hc i pins s σ H E I hf st hg
  subst hP hw hK
  obtain ⟨f0,f1,f2,f3,f4,f5⟩:=hf it (by simp)
  exact wpAny_pyNext_range_end (I.ok.hd hc) st (by have:n ≤ i:=hg; omega) fun h' eb=>⟨rfl,I.turned (t':=s.toks) (fun b o hb e=>eb b o hb e) f0 f1 f3 f4 f5⟩
 self:=fun _ _ _ _ _ st h=>wpAny_pyIter_rangeiter st h
end L2
namespace L2
open PySem PySem.Spec PyProof.Rows
section
variable {X:Cx} {tg:Expr}
def iList (K:PySem.W.Frag) (tl:TE):TI:=fun σ H R=>tl σ H fun x H1=>∃ a,x = .ref a∧(∃ xs,SqL K H1 a xs)∧R (Itl K a) H1
def iTup (K:PySem.W.Frag) (tl:TE):TI:=fun σ H R=>tl σ H fun x H1=>∃ a,x = .ref a∧(∃ xs,SqT K H1 a xs)∧R (Itt K a) H1
theorem pi_list {l:Expr} {tl:TE} (hl:PE X l tl):PI X tg l (iList X.K tl):=by
 intro pins s σ H R I h
 refine thn (hl pins s σ H _ I h) fun v s1 ⟨x,H1,I1,r1,q1⟩=>?_
 obtain ⟨a,e,⟨xs,hq⟩,q⟩:=q1
 subst e
 cases r1
 obtain ⟨its,rv,p,hz⟩:=I1.list hq
 refine wpAny_pyIter_list p.isList ?_
 refine ⟨s1.heap.objs.size,[s1.heap.objs.size],_,_,H1,rfl,I1.kept (t':=s1.toks) fun b o e=>Heap.get?_push_of_some _ e,turn_list a _,⟨_,Heap.get?_push_size _ rfl,rfl,rfl⟩,fun b hb=>?_,q⟩
 have e:b = s1.heap.objs.size:=by simpa using hb
 subst e
 exact I1.fpOk (Nat.le_refl _) (I1.hok.fresh (Nat.le_refl _))
theorem pi_tup {l:Expr} {tl:TE} (hl:PE X l tl):PI X tg l (iTup X.K tl):=by
 intro pins s σ H R I h
 refine thn (hl pins s σ H _ I h) fun v s1 ⟨x,H1,I1,r1,q1⟩=>?_
 obtain ⟨a,e,⟨xs,hq⟩,q⟩:=q1
 subst e
 cases r1
 obtain ⟨its,rv,p,hz⟩:=I1.tuple hq
 refine wpAny_pyIter_tuple (show s1.heap.IsTuple a its.toArray from p) ?_
 refine ⟨s1.heap.objs.size,[s1.heap.objs.size],_,_,H1,rfl,I1.kept (t':=s1.toks) fun b o e=>Heap.get?_push_of_some _ e,turn_tuple a _,⟨_,Heap.get?_push_size _ rfl,rfl,rfl⟩,fun b hb=>?_,q⟩
 have e:b = s1.heap.objs.size:=by simpa using hb
 subst e
 exact I1.fpOk (Nat.le_refl _) (I1.hok.fresh (Nat.le_refl _))
theorem range_it {pins:List (Addr × Obj)} {σ : St} {H:Hp} {s:Shared} {R:It→Hp→Prop} {E:Value→Shared→Prop} {lo hi:Int} {t u v:Tok} {tk:Nat} (I:Inv X pins σ H s) (h1:-(2 ^ 62) ≤ lo) (h2:lo < 2 ^ 62) (h3:-(2 ^ 62) ≤ hi) (h4:hi < 2 ^ 62)
  (q:R (Itr lo (hi - lo).toNat) H):wpAny (model X.prog X.w) X.A (pyIter (.ref s.heap.objs.size)) (PIE X pins σ tg R) E { s with heap:=s.heap.push { cls:=.type "range", data:=.fields #[.int lo t,.int hi u,.int 1 v] },toks:=tk }:=by
 refine wpAny_pyIter_range (IsRange.new ..) (small_one h1 h2 h3 h4) ?_
 have I1:Inv X pins σ H { s with heap:=s.heap.push { cls:=.type "range", data:=.fields #[.int lo t,.int hi u,.int 1 v] },toks:=tk }:=I.kept fun b o e=>Heap.get?_push_of_some _ e
 refine ⟨(s.heap.push { cls:=.type "range", data:=.fields #[.int lo t,.int hi u,.int 1 v] }).objs.size,[(s.heap.push { cls:=.type "range", data:=.fields #[.int lo t,.int hi u,.int 1 v] }).objs.size],_,_,H,rfl,
  I1.kept (t':=tk) fun b o e=>Heap.get?_push_of_some _ e,turn_range _ lo (hi - lo).toNat,?_,fun b hb=>?_,q⟩
 ·have e1:lo + ((0:Nat):Int) * 1 = lo:=by simp
  have e2:(((hi - lo).toNat:Nat):Int) - ((0:Nat):Int) = Builtin.Range.rangeSize lo hi 1:=by rw [rangeSize_one]; split <;> omega
  show IsRangeIter _ _ (lo + ((0:Nat):Int) * 1) ((((hi - lo).toNat:Nat):Int) - ((0:Nat):Int)) 1
  rw [e1,e2]
  exact Heap.get?_push_size _ rfl
 ·have e:b = (s.heap.push { cls:=.type "range", data:=.fields #[.int lo t,.int hi u,.int 1 v] }).objs.size:=by simpa using hb
  subst e
  exact I1.fpOk (Nat.le_refl _) (I1.hok.fresh (Nat.le_refl _))
def iRng1 (ta:TA):TI:=fun σ H R=>ta σ H fun vs H1=>∃ j:Int,vs = [.int j]∧-(2 ^ 62) ≤ j∧j < 2 ^ 62∧R (Itr 0 j.toNat) H1
theorem pi_range1 {a:Expr} {ta:TA} {p pos:Pos} (hg:Gl X "range") (hm:X.mg "range" = none) (ha:PA X [a] ta) (hs:starEach [a] X.env = [(false,eval a X.env)]:=by rfl):PI X tg (.Call (.Name "range" p) [a] [] pos) (iRng1 ta):=by
 intro pins s σ H R I h
 refine Call_ (ld_blt I hg hm boot_range (PyProof.Rows.callWith_type1 (thn (ha pos pins s σ H _ I h) fun us s1 ⟨vs,H1,I1,r1,q1⟩=>?_) hs rfl))
 obtain ⟨j,e,q1,q2,q⟩:=q1
 subst e
 cases r1 with
 | cons r rr=>
  cases rr
  obtain ⟨t,rfl⟩:=r
  exact call_range_1 (range_it I1 (by omega) (by omega) q1 q2 (by simpa using q))
def tFor (wi:TI) (g:TG) (tb:TS):TS:=fun D σ H=>wi σ H fun J H1=>∃ W:Nat→Nat→St→Hp→Prop,(∃ m,W 0 m σ H1)∧∀ i m σ H,W i m σ H→
 (J.stop i H∧D.nx σ H)∨(J.go i H∧∃ N:St→Hp→Prop,(∀ σ' H',N σ' H'→∃ m',m' < m∧W (i + 1) m' σ' H')∧∀ x H',J.yld i H x H'→g x σ H' fun σ2 H2=>tb { D with nx:=N,ct:=N,bk:=D.nx } σ2 H2)
def pinsAt (fp:List Addr) (h:Heap):List (Addr × Obj):=fp.filterMap fun b=>(h.get? b).map fun o=>(b,o)
theorem mem_pinsAt {fp:List Addr} {h:Heap} {b:Addr} {o:Obj} (hb:b ∈ fp) (e:h.get? b = some o):(b,o) ∈ pinsAt fp h:=List.mem_filterMap.mpr ⟨b,hb,by rw [e]; rfl⟩
theorem of_pinsAt {fp:List Addr} {h:Heap} {p:Addr × Obj} (hp:p ∈ pinsAt fp h):p.1 ∈ fp∧h.get? p.1 = some p.2:=by
 obtain ⟨b,hb,e⟩:=List.mem_filterMap.mp hp
 cases q:h.get? b with
 | none=>rw [q] at e; cases e
 | some o=>
  rw [q] at e
  have e':(b,o) = p:=Option.some.inj e
  subst e'
  exact ⟨hb,q⟩
theorem Inv.pinned {pins:List (Addr × Obj)} {σ : St} {H:Hp} {s:Shared} {fp:List Addr} (I:Inv X pins σ H s) (hf:∀ b ∈ fp,FpOk X pins H b) (ho:∀ b ∈ fp,∃ o,s.heap.get? b = some o∧∀ v,o.data ≠ .cell v):Inv X (pins ++ pinsAt fp s.heap) σ H s:=
 I.pins_of fun p hp=>(List.mem_append.mp hp).elim (fun z=>I.pin p (List.mem_append_right _ z)) fun z=>by
  obtain ⟨hb,e⟩:=of_pinsAt z
  obtain ⟨f0,f1,f2,_⟩:=hf p.1 hb
  obtain ⟨o,e',d⟩:=ho p.1 hb
  rw [e] at e'; cases e'
  exact ⟨e,f0,f1,f2,d⟩
theorem Inv.unpinned {pins pl:List (Addr × Obj)} {σ : St} {H:Hp} {s:Shared} (I:Inv X (pins ++ pl) σ H s):Inv X pins σ H s:=I.pins_of fun p hp=>I.pin p (List.mem_append_right _ (List.mem_append_left _ hp))
theorem ps_for {iter:Expr} {body:List Stmt} {wi:TI} {g:TG} {tb:TS} {pos:Pos} (hp:PassesOwn (model X.prog X.w) X.A X.env X.xe) (hc:X.calm = true) (hi:PI X tg iter wi) (hg:PG X tg g) (hb:PSs X body tb)
  (hs:∀ x,foldedSetIterable iter X.env x = pure x:=by intro _; rfl):PS X (.For tg iter body [] pos) (tFor wi g tb):=by
 intro pins s σ H D I h
 refine wpAny_For (thn (hi pins s σ H _ I h) fun v s1 h1=>thn h1 fun itv s2 h2=>?_) hs
 obtain ⟨it,fp,tn,J,H2,e,I2,T,st2,f2,W,⟨m0,w0⟩,turn⟩:=h2
 subst e
 -- what stays true of the iterator's objects through the loop
 have stat:∀ {H':Hp},(∀ b ∈ fp,H' b = none)→∀ b ∈ fp,FpOk X pins H' b:=fun hn b hb=>⟨hn b hb,(f2 b hb).2⟩
 refine codeAny_forLoop_any (fun n s'=>∃ i σ' H',Inv X pins σ' H' s'∧tn i s'.heap∧(∀ b ∈ fp,H' b = none)∧W i n σ' H') ?_ m0 ⟨0,σ,H2,I2,st2,fun b hb=>(f2 b hb).1,w0⟩
 rintro n s3 ⟨i,σ3,H3,I3,st3,fr3,w3⟩
 rcases turn i n σ3 H3 w3 with ⟨stop,qn⟩ | ⟨go,N,hN,step⟩
 ·refine wpAny_passesOwn hp (thn (T.done X rfl rfl rfl hc i pins s3 σ3 H3 X.xe I3 (stat fr3) st3 stop) fun r s4 ⟨hr,I4⟩=>?_)
  subst hr
  exact wpAny_execs_nil ⟨σ3,H3,I4,qn⟩
 ·refine wpAny_passesOwn hp (thn (T.item X rfl rfl rfl hc i pins s3 σ3 H3 X.xe I3 (stat fr3) st3 go) fun r s4 ⟨u,hr,h4⟩=>?_)
  subst hr
  refine wpAny_passesOwn hp (thn h4 fun _ s5 ⟨x,H5,I5,r5,y5,st5,fr5⟩=>?_)
  have I5':=I5.pinned (stat fr5) (T.obj _ _ st5)
  refine wpAny_passesOwn hp (thn (hg _ s5 σ3 H5 x u _ I5' r5 (step x H5 y5)) fun _ s6 ⟨σ6,H6,I6,q6⟩=>?_)
  refine wpAny_passesOwn hp (thn (hb _ s6 σ6 H6 _ I6 q6) fun f s7 q7=>?_)
  have again:∀ {σ7:St} {H7:Hp},Inv X (pins ++ pinsAt fp s5.heap) σ7 H7 s7→N σ7 H7→∃ m,m < n∧∃ i σ' H',Inv X pins σ' H' s7∧tn i s7.heap∧(∀ b ∈ fp,H' b = none)∧W i m σ' H':=fun {σ7 H7} I7 n7=>by
   obtain ⟨m',hm,w7⟩:=hN σ7 H7 n7
   refine ⟨m',hm,i + 1,σ7,H7,I7.unpinned,T.keep _ _ _ st5 fun b hb o e=>(I7.pin (b,o) (List.mem_append_right _ (List.mem_append_right _ (mem_pinsAt hb e)))).1,fun b hb=>?_,w7⟩
   obtain ⟨o,e,d⟩:=T.obj _ _ st5 b hb
   exact (I7.pin (b,o) (List.mem_append_right _ (List.mem_append_right _ (mem_pinsAt hb e)))).2.1
  cases f with
  | next=>obtain ⟨σ7,H7,I7,n7⟩:=q7; exact again I7 n7
  | cont=>obtain ⟨σ7,H7,I7,n7⟩:=q7; exact again I7 n7
  | brk=>obtain ⟨σ7,H7,I7,q7⟩:=q7; exact ⟨σ7,H7,I7.unpinned,q7⟩
  | ret v=>obtain ⟨x7,σ7,H7,I7,r7,q7⟩:=q7; exact ⟨x7,σ7,H7,I7.unpinned,r7,q7⟩
end
theorem for_list {K:PySem.W.Frag} {a:Addr} {xs:List V} {g:TG} {tb:TS} {D:Ends} {σ : St} {H:Hp} (Pv:Nat→St→Hp→Prop) (h0:Pv 0 σ H) (hl:∀ i σ H,i ≤ xs.length→Pv i σ H→SqL K H a xs)
  (hs:∀ i x σ H,xs[i]? = some x→Pv i σ H→g x σ H fun σ2 H2=>tb { D with nx:=Pv (i + 1),ct:=Pv (i + 1),bk:=D.nx } σ2 H2) (hd:∀ σ H,Pv xs.length σ H→D.nx σ H) :
  ∃ W:Nat→Nat→St→Hp→Prop,(∃ m,W 0 m σ H)∧∀ i m σ H,W i m σ H→
   ((Itl K a).stop i H∧D.nx σ H)∨((Itl K a).go i H∧∃ N:St→Hp→Prop,(∀ σ' H',N σ' H'→∃ m',m' < m∧W (i + 1) m' σ' H')∧∀ x H',(Itl K a).yld i H x H'→g x σ H' fun σ2 H2=>tb { D with nx:=N,ct:=N,bk:=D.nx } σ2 H2):=by
 refine ⟨fun i m σ H=>m = xs.length - i∧i ≤ xs.length∧Pv i σ H,⟨xs.length,by simp,Nat.zero_le _,h0⟩,?_⟩
 rintro i m σ H ⟨rfl,hi,p⟩
 have q:=hl i σ H hi p
 by_cases hlt:i < xs.length
 ·refine .inr ⟨⟨xs,xs[i],q,by simp [hlt]⟩,Pv (i + 1),fun σ' H' p'=>⟨xs.length - (i + 1),by omega,rfl,hlt,p'⟩,fun x H' y=>?_⟩
  obtain ⟨e,y⟩:=y
  subst e
  exact hs i x σ _ (y xs q) p
 ·have e:i = xs.length:=by omega
  subst e
  exact .inl ⟨⟨xs,q,Nat.le_refl _⟩,hd σ H p⟩
theorem for_range {lo:Int} {n:Nat} {g:TG} {tb:TS} {D:Ends} {σ : St} {H:Hp} (Pv:Nat→St→Hp→Prop) (h0:Pv 0 σ H)
  (hs:∀ i σ H,i < n→Pv i σ H→g (.int (lo + i)) σ H fun σ2 H2=>tb { D with nx:=Pv (i + 1),ct:=Pv (i + 1),bk:=D.nx } σ2 H2) (hd:∀ σ H,Pv n σ H→D.nx σ H) :
  ∃ W:Nat→Nat→St→Hp→Prop,(∃ m,W 0 m σ H)∧∀ i m σ H,W i m σ H→
   ((Itr lo n).stop i H∧D.nx σ H)∨((Itr lo n).go i H∧∃ N:St→Hp→Prop,(∀ σ' H',N σ' H'→∃ m',m' < m∧W (i + 1) m' σ' H')∧∀ x H',(Itr lo n).yld i H x H'→g x σ H' fun σ2 H2=>tb { D with nx:=N,ct:=N,bk:=D.nx } σ2 H2):=by
 refine ⟨fun i m σ H=>m = n - i∧i ≤ n∧Pv i σ H,⟨n,by simp,Nat.zero_le _,h0⟩,?_⟩
 rintro i m σ H ⟨rfl,hi,p⟩
 by_cases hlt:i < n
 ·refine .inr ⟨hlt,Pv (i + 1),fun σ' H' p'=>⟨n - (i + 1),by omega,rfl,hlt,p'⟩,fun x H' y=>?_⟩
  obtain ⟨e,y⟩:=y
  subst e y
  exact hs i σ _ hlt p
 ·have e:i = n:=by omega
  subst e
  exact .inl ⟨Nat.le_refl _,hd σ H p⟩
end L2
namespace L2
open PySem PySem.Spec PyProof.Rows
abbrev R2:=V→V→Hp→VK→Prop
def OpR (X:Cx) (f:Value→Value→Sem Value) (r:R2):Prop:=
 ∀ (pins:List (Addr × Obj)) (s:Shared) (σ : St) (H:Hp) (x y:V) (v u:Value) (Q:VK),Inv X pins σ H s→RelV x v→RelV y u→r x y H Q→
  wpAny (model X.prog X.w) X.A (f v u) (EP X pins σ Q) X.xe s
def UnR (X:Cx) (f:Value→Sem Value) (r:V→Hp→VK→Prop):Prop:=
 ∀ (pins:List (Addr × Obj)) (s:Shared) (σ : St) (H:Hp) (x:V) (v:Value) (Q:VK),Inv X pins σ H s→RelV x v→r x H Q→
  wpAny (model X.prog X.w) X.A (f v) (EP X pins σ Q) X.xe s
def CallR (X:Cx) (f:Value) (r:List V→Hp→VK→Prop):Prop:=
 ∀ (pins:List (Addr × Obj)) (s:Shared) (σ : St) (H:Hp) (xs:List V) (us:List Value) (Q:VK),Inv X pins σ H s→Vals xs us→r xs H Q→
  wpAny (model X.prog X.w) X.A (call f us) (EP X pins σ Q) X.xe s
def tOp (r:R2) (ta tb:TE):TE:=fun σ H Q=>ta σ H fun x H1=>tb σ H1 fun y H2=>r x y H2 Q
def rI (C:Int→Int→Prop) (g:Int→Int→V):R2:=fun x y H Q=>∃ i j,x = .int i∧y = .int j∧C i j∧Q (g i j) H
def rI0 (g:Int→Int→V):R2:=fun x y H Q=>∃ i j,x = .int i∧y = .int j∧Q (g i j) H
section
variable {X:Cx} {a b c:Expr} {ta tb tc:TE} {pos:Pos}
theorem binT (ha:PE X a ta) (hb:PE X b tb) {pins:List (Addr × Obj)} {s:Shared} {σ : St} {H:Hp} {R:V→V→Hp→Prop} (I:Inv X pins σ H s)
  (h:ta σ H fun x H1=>tb σ H1 fun y H2=>R x y H2) {Q:Value→Shared→Prop} {f:Value→Value→Sem Value}
  (hf:∀ v u s2 x y H2,Inv X pins σ H2 s2→RelV x v→RelV y u→R x y H2→wpAny (model X.prog X.w) X.A (f v u) Q X.xe s2) :
  wpAny (model X.prog X.w) X.A (eval a X.env) (fun v s₁=>wpAny (model X.prog X.w) X.A (eval b X.env) (fun u s₂=>wpAny (model X.prog X.w) X.A (f v u) Q X.xe s₂) X.xe s₁) X.xe s:=by
 refine thn (ha pins s σ H _ I h) fun v s1 ⟨x,H1,I1,r1,q1⟩=>?_
 refine thn (hb pins s1 σ H1 _ I1 q1) fun u s2 ⟨y,H2,I2,r2,q2⟩=>?_
 exact hf v u s2 x y H2 I2 r1 r2 q2
theorem pe_op {op:Operator} {r:R2} (ho:OpR X (binaryOp op) r) (ha:PE X a ta) (hb:PE X b tb):PE X (.BinOp a op b pos) (tOp r ta tb):=by
 intro pins s σ H Q I h
 exact wpAny_BinOp (binT ha hb I h fun v u s2 x y H2 I2 rx ry q=>ho pins s2 σ H2 x y v u Q I2 rx ry q)
theorem opI {f:Value→Value→Sem Value} {C:Int→Int→Prop} {g:Int→Int→Int}
  (rule:∀ (i j:Int) (t u:Tok) (s:Shared) (Q:Value→Shared→Prop) (E:Value→Shared→Prop),C i j→Q (.int (g i j) s.toks) { s with toks:=s.toks + 1 }→wpAny (model X.prog X.w) X.A (f (.int i t) (.int j u)) Q E s) :
  OpR X f (rI C fun i j=>.int (g i j)):=by
 intro pins s σ H x y v u Q I rx ry h
 obtain ⟨i,j,rfl,rfl,hc,q⟩:=h
 obtain ⟨t,rfl⟩:=rx
 obtain ⟨t',rfl⟩:=ry
 exact rule i j t t' s _ _ hc ⟨.int (g i j),H,I.tok _,⟨_,rfl⟩,q⟩
theorem opI0 {f:Value→Value→Sem Value} {g:Int→Int→Int}
  (rule:∀ (i j:Int) (t u:Tok) (s:Shared) (Q:Value→Shared→Prop) (E:Value→Shared→Prop),Q (.int (g i j) s.toks) { s with toks:=s.toks + 1 }→wpAny (model X.prog X.w) X.A (f (.int i t) (.int j u)) Q E s) :
  OpR X f (rI0 fun i j=>.int (g i j)):=by
 intro pins s σ H x y v u Q I rx ry h
 obtain ⟨i,j,rfl,rfl,q⟩:=h
 obtain ⟨t,rfl⟩:=rx
 obtain ⟨t',rfl⟩:=ry
 exact rule i j t t' s _ _ ⟨.int (g i j),H,I.tok _,⟨_,rfl⟩,q⟩
theorem opB0 {f:Value→Value→Sem Value} {g:Int→Int→Bool}
  (rule:∀ (i j:Int) (t u:Tok) (s:Shared) (Q:Value→Shared→Prop) (E:Value→Shared→Prop),Q (.bool (g i j)) s→wpAny (model X.prog X.w) X.A (f (.int i t) (.int j u)) Q E s) :
  OpR X f (rI0 fun i j=>.bl (g i j)):=by
 intro pins s σ H x y v u Q I rx ry h
 obtain ⟨i,j,rfl,rfl,q⟩:=h
 obtain ⟨t,rfl⟩:=rx
 obtain ⟨t',rfl⟩:=ry
 exact rule i j t t' s _ _ ⟨.bl (g i j),H,I,rfl,q⟩
def CDiv (i j:Int):Prop:=0 < j∧j < 1073741824
def CPow (i j:Int):Prop:=0 ≤ j∧j ≤ 1000000∧i.natAbs < 2 ^ 64
def CMul (i j:Int):Prop:=(-(2 ^ 64) < i∧i < 2 ^ 64)∨(-(2 ^ 64) < j∧j < 2 ^ 64)
theorem CMul.ok {i j:Int} (h:CMul i j):IntMulOk i j:=by
 rcases h with ⟨h1,h2⟩ | ⟨h1,h2⟩
 ·exact .of_left (intBits_le_64 h1 h2)
 ·exact .of_right (intBits_le_64 h1 h2)
theorem op_add:OpR X (binaryOp .Add) (rI0 fun i j=>.int (i + j)):=opI0 fun _ _ _ _ _ _ _ q=>add_int q
theorem op_sub:OpR X (binaryOp .Sub) (rI0 fun i j=>.int (i - j)):=opI0 fun _ _ _ _ _ _ _ q=>sub_int q
theorem op_mul:OpR X (binaryOp .Mult) (rI CMul fun i j=>.int (i * j)):=opI fun _ _ _ _ _ _ _ hc q=>mul_int q hc.ok
theorem op_fdiv:OpR X (binaryOp .FloorDiv) (rI CDiv fun i j=>.int (i / j)):=opI fun i j _ _ _ _ _ hc q=>by
 have h1:(0:Int) < j:=hc.1
 have h2:j < 1073741824:=hc.2
 exact floordiv_int (by omega) (by rw [Int.fdiv_eq_ediv_of_nonneg i (by omega)]; exact q) (.inl (PyProof.noPylong_small (by omega)))
theorem op_mod:OpR X (binaryOp .Mod) (rI (fun _ j=>0 < j) fun i j=>.int (i % j)):=opI fun i j _ _ _ _ _ hc q=>by
 have h1:(0:Int) < j:=hc
 exact mod_int' (by omega) (by rw [Int.fmod_eq_emod_of_nonneg i (by omega)]; exact q)
theorem op_pow:OpR X (binaryOp .Pow) (rI CPow fun i j=>.int (i ^ j.toNat)):=opI fun _ _ _ _ _ _ _ hc q=>pow_int_small hc.1 hc.2.1 hc.2.2 q
end
def scal:V→V→Bool
 | .non,.non=>true | .non,.int _=>true | .int _,.non=>true | .non,.bl _=>true | .bl _,.non=>true | .non,.str _=>true | .str _,.non=>true
 | .int _,.int _=>true | .bl _,.bl _=>true | .str _,.str _=>true | .byt _,.byt _=>true
 | .int _,.str _=>true | .str _,.int _=>true | .bl _,.str _=>true | .str _,.bl _=>true
 | _,_=>false
def rEq:R2:=fun x y H Q=>scal x y = true∧Q (.bl (decide (x = y))) H
def rNe:R2:=fun x y H Q=>scal x y = true∧Q (.bl (!decide (x = y))) H
theorem dec_int {i j:Int}:decide (V.int i = V.int j) = (i == j):=by
 rw [Bool.eq_iff_iff]
 simp
theorem dec_bl {i j:Bool}:decide (V.bl i = V.bl j) = (i == j):=by
 rw [Bool.eq_iff_iff]
 simp
theorem dec_str {i j:Str}:decide (V.str i = V.str j) = (i == j):=by
 rw [Bool.eq_iff_iff]
 simp
theorem dec_byt {i j:Array UInt8}:decide (V.byt i = V.byt j) = (i.toList == j.toList):=by
 rw [Bool.eq_iff_iff]
 cases i
 cases j
 simp
section
variable {X:Cx} {a b c:Expr} {ta tb tc:TE} {pos:Pos}
theorem fin_bl {pins:List (Addr × Obj)} {σ : St} {H:Hp} {s:Shared} {Q:VK} {k k':Bool} (I:Inv X pins σ H s) (q:Q (.bl k) H) (e:k = k'):EP X pins σ Q (.bool k') s:=by
 subst e
 exact ⟨.bl k,H,I,rfl,q⟩
theorem op_eq:OpR X (compareOp .Eq) rEq:=by
 intro pins s σ H x y v u Q I rx ry h
 obtain ⟨hs,q⟩:=h
 cases x with
 | non=>
  cases rx
  cases y with
  | non=>cases ry; exact PySem.EqNone.eq_none_none (fin_bl I q (by simp))
  | bl j=>cases ry; exact PySem.EqNone.eq_none_bool (fin_bl I q (by simp))
  | int j=>obtain ⟨t',rfl⟩:=ry; exact PySem.EqNone.eq_none_int (fin_bl I q (by simp))
  | str j=>obtain ⟨t',rfl⟩:=ry; exact PySem.EqNone.eq_none_str (fin_bl I q (by simp))
  | _=>exact absurd (show false = true from hs) Bool.false_ne_true
 | bl i=>
  cases rx
  cases y with
  | non=>cases ry; exact PySem.EqNone.eq_bool_none (fin_bl I q (by simp))
  | bl j=>cases ry; exact eq_bool (fin_bl I q dec_bl)
  | str j=>obtain ⟨t',rfl⟩:=ry; exact PySem.EqMixed.eq_bool_str (fin_bl I q (by simp))
  | _=>exact absurd (show false = true from hs) Bool.false_ne_true
 | int i=>
  obtain ⟨t,rfl⟩:=rx
  cases y with
  | non=>cases ry; exact PySem.EqNone.eq_int_none (fin_bl I q (by simp))
  | int j=>obtain ⟨t',rfl⟩:=ry; exact eq_int (fin_bl I q dec_int)
  | str j=>obtain ⟨t',rfl⟩:=ry; exact PySem.EqMixed.eq_int_str (fin_bl I q (by simp))
  | _=>exact absurd (show false = true from hs) Bool.false_ne_true
 | str i=>
  obtain ⟨t,rfl⟩:=rx
  cases y with
  | non=>cases ry; exact PySem.EqNone.eq_str_none (fin_bl I q (by simp))
  | bl j=>cases ry; exact PySem.EqMixed.eq_str_bool (fin_bl I q (by simp))
  | int j=>obtain ⟨t',rfl⟩:=ry; exact PySem.EqMixed.eq_str_int (fin_bl I q (by simp))
  | str j=>obtain ⟨t',rfl⟩:=ry; exact eq_str (fin_bl I q dec_str)
  | _=>exact absurd (show false = true from hs) Bool.false_ne_true
 | byt i=>
  obtain ⟨t,rfl⟩:=rx
  cases y with
  | byt j=>obtain ⟨t',rfl⟩:=ry; exact PySem.W.eq_bytes (fin_bl I q dec_byt)
  | _=>exact absurd (show false = true from hs) Bool.false_ne_true
 | _=>cases y <;> exact absurd (show false = true from hs) Bool.false_ne_true
theorem op_ne:OpR X (compareOp .NotEq) rNe:=by
 intro pins s σ H x y v u Q I rx ry h
 obtain ⟨hs,q⟩:=h
 cases x with
 | non=>
  cases rx
  cases y with
  | non=>cases ry; exact PySem.EqNone.ne_none_none (fin_bl I q (by simp))
  | bl j=>cases ry; exact PySem.EqNone.ne_none_bool (fin_bl I q (by simp))
  | int j=>obtain ⟨t',rfl⟩:=ry; exact PySem.EqNone.ne_none_int (fin_bl I q (by simp))
  | str j=>obtain ⟨t',rfl⟩:=ry; exact PySem.EqNone.ne_none_str (fin_bl I q (by simp))
  | _=>exact absurd (show false = true from hs) Bool.false_ne_true
 | bl i=>
  cases rx
  cases y with
  | non=>cases ry; exact PySem.EqNone.ne_bool_none (fin_bl I q (by simp))
  | bl j=>cases ry; exact ne_bool (fin_bl I q (congrArg not dec_bl))
  | str j=>obtain ⟨t',rfl⟩:=ry; exact PySem.EqMixed.ne_bool_str (fin_bl I q (by simp))
  | _=>exact absurd (show false = true from hs) Bool.false_ne_true
 | int i=>
  obtain ⟨t,rfl⟩:=rx
  cases y with
  | non=>cases ry; exact PySem.EqNone.ne_int_none (fin_bl I q (by simp))
  | int j=>obtain ⟨t',rfl⟩:=ry; exact ne_int (fin_bl I q (congrArg not dec_int))
  | str j=>obtain ⟨t',rfl⟩:=ry; exact PySem.EqMixed.ne_int_str (fin_bl I q (by simp))
  | _=>exact absurd (show false = true from hs) Bool.false_ne_true
 | str i=>
  obtain ⟨t,rfl⟩:=rx
  cases y with
  | non=>cases ry; exact PySem.EqNone.ne_str_none (fin_bl I q (by simp))
  | bl j=>cases ry; exact PySem.EqMixed.ne_str_bool (fin_bl I q (by simp))
  | int j=>obtain ⟨t',rfl⟩:=ry; exact PySem.EqMixed.ne_str_int (fin_bl I q (by simp))
  | str j=>obtain ⟨t',rfl⟩:=ry; exact ne_str (fin_bl I q (congrArg not dec_str))
  | _=>exact absurd (show false = true from hs) Bool.false_ne_true
 | byt i=>
  obtain ⟨t,rfl⟩:=rx
  cases y with
  | byt j=>obtain ⟨t',rfl⟩:=ry; exact PySem.W.ne_bytes (fin_bl I q (congrArg not dec_byt))
  | _=>exact absurd (show false = true from hs) Bool.false_ne_true
 | _=>cases y <;> exact absurd (show false = true from hs) Bool.false_ne_true
theorem op_lt:OpR X (compareOp .Lt) (rI0 fun i j=>.bl (decide (i < j))):=opB0 fun _ _ _ _ _ _ _ q=>lt_int q
theorem op_le:OpR X (compareOp .LtE) (rI0 fun i j=>.bl (decide (i ≤ j))):=opB0 fun _ _ _ _ _ _ _ q=>le_int q
theorem op_gt:OpR X (compareOp .Gt) (rI0 fun i j=>.bl (decide (j < i))):=opB0 fun _ _ _ _ _ _ _ q=>gt_int q
theorem op_lt_str:OpR X (compareOp .Lt) (fun x y H Q=>∃ i j,x = .str i∧y = .str j∧Q (.bl (decide (i.cps.toList < j.cps.toList))) H):=by
 intro pins s σ H x y v u Q I rx ry h
 obtain ⟨i,j,rfl,rfl,q⟩:=h
 obtain ⟨t,rfl⟩:=rx
 obtain ⟨t',rfl⟩:=ry
 exact lt_str (fin_bl I q rfl)
theorem op_in_str:OpR X (compareOp .In) (fun x y H Q=>∃ i j,x = .str i∧y = .str j∧Q (.bl (!(Builtin.Str.occurrences j i 0 j.length 1).isEmpty)) H):=by
 intro pins s σ H x y v u Q I rx ry h
 obtain ⟨i,j,rfl,rfl,q⟩:=h
 obtain ⟨t,rfl⟩:=rx
 obtain ⟨t',rfl⟩:=ry
 exact in_str (fin_bl I q rfl)
theorem op_isN:OpR X (compareOp .Is) (fun x y H Q=>y = .non∧Q (.bl (decide (x = .non))) H):=by
 intro pins s σ H x y v u Q I rx ry h
 obtain ⟨rfl,q⟩:=h
 cases ry
 refine is_none_gen (fin_bl I q ?_)
 cases x <;> first
  | (cases rx; rfl)
  | (obtain ⟨t,rfl⟩:=rx; rfl)
theorem op_notN:OpR X (compareOp .IsNot) (fun x y H Q=>y = .non∧Q (.bl (!decide (x = .non))) H):=by
 intro pins s σ H x y v u Q I rx ry h
 obtain ⟨rfl,q⟩:=h
 cases ry
 refine isnot_none_gen (fin_bl I q ?_)
 cases x <;> first
  | (cases rx; rfl)
  | (obtain ⟨t,rfl⟩:=rx; rfl)
theorem nomark (b:Expr) {op:CmpOp} (h:op ≠ .In:=by decide) (h2:op ≠ .NotIn:=by decide):behindInMarks op b = false:=by
 have e1:(op == CmpOp.In) = false:=by cases op <;> first | rfl | exact absurd rfl h
 have e2:(op == CmpOp.NotIn) = false:=by cases op <;> first | rfl | exact absurd rfl h2
 cases b <;> simp [behindInMarks,e1,e2]
theorem pe_cmpR {op:CmpOp} {r:R2} (ho:OpR X (compareOp op) r) (ha:PE X a ta) (hb:PE X b tb) (hm:behindInMarks op b = false):PE X (.Compare a [op] [b] pos) (tOp r ta tb):=by
 intro pins s σ H Q I h
 exact wpAny_Compare1 (binT ha hb I h fun v u s2 x y H2 I2 rx ry q=>ho pins s2 σ H2 x y v u Q I2 rx ry q) hm
def tTest (t:TE):TT:=fun σ H Q=>t σ H fun x H'=>∃ k,x = .bl k∧Q k H'
theorem pt_cmpR {op:CmpOp} {r:R2} (ho:OpR X (compareOp op) r) (ha:PE X a ta) (hb:PE X b tb) (hm:behindInMarks op b = false):PT X (.Compare a [op] [b] pos) (tTest (tOp r ta tb)):=by
 intro pins s σ H Q I h
 refine wpAny_isTrue_Compare1 (thn (ha pins s σ H _ I h) fun v s1 ⟨x,H1,I1,r1,q1⟩=>thn (hb pins s1 σ H1 _ I1 q1) fun u s2 ⟨y,H2,I2,r2,q2⟩=>
  thn (ho pins s2 σ H2 x y v u _ I2 r1 r2 q2) fun c s3 ⟨z,H3,I3,r3,k,e,q3⟩=>?_) hm
 subst e
 cases r3
 exact wpAny_truthy_bool ⟨H3,I3,q3⟩
theorem line63:(sizeLine:Nat) < 2 ^ 63:=by rw [sizeLine_eq]; decide
theorem op_add_str:OpR X (binaryOp .Add) (fun x y H Q=>∃ i j,x = .str i∧y = .str j∧i.length + j.length ≤ sizeLine∧Q (.str (i ++ j)) H):=by
 intro pins s σ H x y v u Q I rx ry h
 obtain ⟨i,j,rfl,rfl,hz,q⟩:=h
 obtain ⟨t,rfl⟩:=rx
 obtain ⟨t',rfl⟩:=ry
 exact add_str (fun t' tk=>⟨.str (i ++ j),H,I.tok _,⟨_,rfl⟩,q⟩) hz
theorem vals1 {x:V} {us:List Value} (r:Vals [x] us):∃ u,us = [u]∧RelV x u:=by
 cases r with
 | cons r1 r2=>cases r2; exact ⟨_,rfl,r1⟩
theorem vals2 {x y:V} {us:List Value} (r:Vals [x,y] us):∃ u w',us = [u,w']∧RelV x u∧RelV y w':=by
 cases r with
 | cons r1 r2=>
  cases r2 with
  | cons r3 r4=>cases r4; exact ⟨_,_,rfl,r1,r3⟩
theorem call_int1:CallR X (.type "int") (fun xs H Q=>(∃ i,xs = [.int i]∧Q (.int i) H)∨∃ k,xs = [.bl k]∧Q (.int (if k then 1 else 0)) H):=by
 intro pins s σ H xs us Q I r h
 rcases h with ⟨i,rfl,q⟩ | ⟨k,rfl,q⟩
 ·obtain ⟨u,rfl,t,rfl⟩:=vals1 r
  exact call_int_int ⟨.int i,H,I,⟨_,rfl⟩,q⟩
 ·obtain ⟨u,rfl,r1⟩:=vals1 r
  cases r1
  exact call_int_bool ⟨.int (if k then 1 else 0),H,I.tok _,⟨_,rfl⟩,q⟩
end
end L2
namespace L2
open PySem PySem.Spec PyProof.Rows
structure ObjM (h:Heap) (x dx C:Addr) (mA:Str→Option Value):Prop where
 obj:h.get? x = some (PySem.W.instObj C dx)
 ns:h.Ns1 dx mA
 ne:dx ≠ x
theorem lookIn_ns {h:Heap} {dx:Addr} {mA:Str→Option Value} (n:h.Ns1 dx mA):∃ od,h.get? dx = some od∧∀ name,PySem.W.lookIn name od = some (mA name):=by
 obtain ⟨o,es,ep,ho,hd,hk,_,hm⟩:=n
 refine ⟨o,ho,fun name=>?_⟩
 have e:=hm name
 unfold nsFind findBy at e
 rw [← Array.find?_toList] at e
 unfold PySem.W.lookIn
 rw [hd]
 dsimp only
 split
 ·rename_i y q
  rw [q] at e
  exact congrArg some e
 ·rename_i q
  rw [q] at e
  have a:es.toList.any (·.refKey) = false:=by
   rw [List.any_eq_false]
   intro y hy
   obtain ⟨z,t,hkey⟩:=hk y (Array.mem_toList_iff.mp hy)
   simp [DictEntry.refKey,hkey]
  have a':¬ es.toList.any (·.refKey) = true:=by rw [a]; exact Bool.false_ne_true
  rw [if_neg a']
  exact congrArg some e
theorem ObjM.look {h:Heap} {x dx C:Addr} {mA:Str→Option Value} (I:ObjM h x dx C mA):∃ od,PySem.W.InstAt h x (PySem.W.instObj C dx) C (some od)∧∀ name,PySem.W.lookIn name od = some (mA name):=
 let ⟨od,ho,hl⟩:=lookIn_ns I.ns
 ⟨od,⟨I.obj,rfl,rfl,ho⟩,hl⟩
section
variable {prog:Program} {w:World} {A:Around} {E:Value→Shared→Prop} {s:Shared} {K:PySem.W.Frag} {x dx C f:Addr} {mA:Str→Option Value} {name:Str} {v:Value}
theorem get_map {expr:Bool} {Q:Value→Shared→Prop} (X:K.In s.heap) (I:ObjM s.heap x dx C mA) (hg:PySem.W.plainGet K C name = true) (hh:PySem.W.hasDictIn K C = true)
  (ha:PySem.W.findIn K (.ref C) name = some none) (hv:mA name = some v) (hv':PySem.W.handedIn v = true) (h:Q v { s with toks:=s.toks + 1 }) :
  wpAny (model prog w) A (getAttr (.ref x) name expr) Q E s:=by
 obtain ⟨od,J,hl⟩:=I.look
 exact PySem.W.get_value X J (PySem.W.plainGet_of hg).1 (PySem.W.findObj_own hh ha rfl (by rw [hl,hv])) hv' h
theorem get_meth {pl:Sem Bool} {Q:Value × List Value→Shared→Prop} (X:K.In s.heap) (I:ObjM s.heap x dx C mA) (hg:PySem.W.plainGet K C name = true)
  (hf:PySem.W.findIn K (.ref C) name = some (some (.ref f))) (ht:PySem.W.isFn K (.ref f) = true) (hv:mA name = none) (h:Q (.ref f,[.ref x]) s) :
  wpAny (model prog w) A (getMethod (.ref x) name pl) Q E s:=by
 obtain ⟨od,J,hl⟩:=I.look
 exact PySem.W.method_fn X J (PySem.W.plainGet_of hg).1 (PySem.W.plainGet_of hg).2 hf (beq_iff_eq.mp ht) (by show (PySem.W.lookIn name od).map (·.isSome) = some false; rw [hl,hv]; rfl) h
theorem set_map {ns:List Str} {Q:Unit→Shared→Prop} (X:K.In s.heap) (I:ObjM s.heap x dx C mA)
  (hs:PySem.W.findIn K (.ref C) "__setattr__" = some (some (.builtin "object.__setattr__"))) (hp:PySem.W.plainOver K C = true) (ht:PySem.W.takerIn K C name = some none) (hh:PySem.W.hasDictIn K C = true)
  (hw:PySem.Within mA ns) (hsz:ns.length ≤ sizeLine)
  (h:∀ h',ObjM h' x dx C (fun y=>if y = name then some v else mA y)→Heap.SameBut dx s.heap h'→Q () { s with heap:=h',toks:=s.toks + 2 }) :
  wpAny (model prog w) A (setAttr (.ref x) name v) Q E s:=by
 obtain ⟨od,J,hl⟩:=I.look
 refine PySem.W.set_plain X J hs (PySem.W.osa_open (s:={ s with toks:=s.toks + 1 }) (r:=none) X J hp ht fun b=>?_)
 obtain ⟨cd,hc,hd'⟩:=PySem.W.any_some hh
 have hx:s.heap.get? x = some ⟨.ref C,some dx,.plain,#[]⟩:=I.obj
 refine wpAny_bind (wpAny_pure (wpAny_bind (wpAny_bind (wpAny_loadPart hx (wpAny_bind (PySem.W.Looks.here (s:={ s with toks:=s.toks + 1 }) (PySem.W.looks_clsIn X hc) ?_))))))
 rw [hd']
 refine wpAny_pure (a:=some dx) (wpAny_bind (wpAny_pure (wpAny_bind ?_)))
 refine wpAny_nsSet1 (s:={ s with toks:=s.toks + 1 }) I.ns fun h' hn2 hs2=>?_
 obtain ⟨oD,esD,epD,hoD,hdD,hcD⟩:=hn2.count (PySem.Within.cons name v hw)
 refine wpAny_bind (wpAny_lookBehind hoD (by rw [hdD]; exact pastItsLine_dict (Nat.le_trans hcD (by rw [List.length_cons]; omega))) ?_)
 exact wpAny_pure (h _ ⟨(hs2.2 _ (Ne.symm I.ne)).trans I.obj,hn2,I.ne⟩ hs2)
theorem make_map {R:Result→Shared→Prop} {vs:List Value} {kw:List (Str × Value)} (X:K.In s.heap) (hm:PySem.W.makesIn K C = true)
  (hi:PySem.W.findIn K (.ref C) "__init__" = some (some (.ref f))) (hf:PySem.W.typeIn K (.ref f) = some (.type "function"))
  (h:codeAny (model prog w) (A.under (.builtin "type.__call__" ⟨.ref C :: vs,kw⟩)) (.call (.ref f) ⟨.ref (s.heap.objs.size + 1) :: vs,kw⟩) (PySem.W.InitBack (s.heap.objs.size + 1) R)
   { s with heap:=(s.heap.push PySem.W.emptyDict).push (PySem.W.instObj C s.heap.objs.size) }) :
  codeAny (model prog w) A (.call (.ref C) ⟨vs,kw⟩) R s:=by
 obtain ⟨hh,g,d,t,os⟩:=s
 exact PySem.W.make_core (PySem.W.makes_of X hm) (PySem.W.looks_findIn X hi) (fun self=>PySem.W.bind_fn X self hf) (.inl rfl) h
end
def putF (f:Str) (v:V):List (Str × V)→List (Str × V)
 | []=>[(f,v)]
 | (g,x) :: r=>if g = f then (g,v) :: r else (g,x) :: putF f v r
theorem lookup_putF (f g:Str) (v:V):∀ fs:List (Str × V),(putF f v fs).lookup g = if g = f then some v else fs.lookup g
 | []=>by
  show List.lookup g [(f,v)] = _
  by_cases h:g = f
  ·have hb:(g == f) = true:=beq_iff_eq.mpr h
   simp only [List.lookup,hb,if_pos h]
  ·have hb:(g == f) = false:=beq_eq_false_iff_ne.mpr h
   simp only [List.lookup,hb,if_neg h]
 | (k,x) :: r=>by
  have ih:=lookup_putF f g v r
  rw [show putF f v ((k,x) :: r) = (if k = f then (k,v) :: r else (k,x) :: putF f v r) from rfl]
  by_cases hk:k = f
  ·rw [if_pos hk]
   by_cases h:g = k
   ·have hb:(g == k) = true:=beq_iff_eq.mpr h
    simp only [List.lookup,hb,if_pos (h.trans hk)]
   ·have hb:(g == k) = false:=beq_eq_false_iff_ne.mpr h
    simp only [List.lookup,hb,if_neg (fun e:g = f=>h (e.trans hk.symm))]
  ·rw [if_neg hk]
   by_cases h:g = k
   ·have hb:(g == k) = true:=beq_iff_eq.mpr h
    simp only [List.lookup,hb,if_neg (fun e:g = f=>hk (h.symm.trans e))]
   ·have hb:(g == k) = false:=beq_eq_false_iff_ne.mpr h
    simp only [List.lookup,hb]
    exact ih
theorem keys_putF (f:Str) (v:V):∀ fs:List (Str × V),f ∈ (putF f v fs).map (·.1)∧∀ g,g ∈ fs.map (·.1)→g ∈ (putF f v fs).map (·.1)
 | []=>⟨by simp [putF],fun g h=>by simp at h⟩
 | (k,x) :: r=>by
  obtain ⟨i1,i2⟩:=keys_putF f v r
  rw [show putF f v ((k,x) :: r) = (if k = f then (k,v) :: r else (k,x) :: putF f v r) from rfl]
  by_cases hk:k = f
  ·rw [if_pos hk]
   subst hk
   exact ⟨by simp,fun g h=>by simpa using h⟩
  ·rw [if_neg hk]
   refine ⟨?_,fun g h=>?_⟩
   ·rw [List.map_cons]
    exact List.mem_cons_of_mem _ i1
   ·rw [List.map_cons] at h ⊢
    rcases List.mem_cons.mp h with e | e
    ·exact List.mem_cons.mpr (.inl e)
    ·exact List.mem_cons_of_mem _ (i2 g e)
theorem length_putF (f:Str) (v:V):∀ fs:List (Str × V),(putF f v fs).length ≤ fs.length + 1
 | []=>by simp [putF]
 | (k,x) :: r=>by
  have ih:=length_putF f v r
  rw [show putF f v ((k,x) :: r) = (if k = f then (k,v) :: r else (k,x) :: putF f v r) from rfl]
  by_cases hk:k = f
  ·rw [if_pos hk,List.length_cons,List.length_cons]; omega
  ·rw [if_neg hk,List.length_cons,List.length_cons]; omega
theorem RelO.some_of {v:V} {o:Option Value} (r:RelO (some v) o):∃ u,o = some u∧RelV v u:=by
 cases o with
 | none=>exact (show False from r).elim
 | some u=>exact ⟨u,rfl,r⟩
theorem RelO.none_of {o:Option Value} (r:RelO none o):o = none:=by
 cases o with
 | none=>rfl
 | some u=>exact (show False from r).elim
theorem handed_of {v:V} {u:Value} (r:RelV v u):PySem.W.handedIn u = true:=by
 cases v with
 | non=>cases (show u = Value.none from r); rfl
 | bl b=>cases (show u = Value.bool b from r); rfl
 | int i=>obtain ⟨t,e⟩:=(show ∃ t,u = Value.int i t from r); cases e; rfl
 | str x=>obtain ⟨t,e⟩:=(show ∃ t,u = Value.str x t from r); cases e; rfl
 | byt b=>obtain ⟨t,e⟩:=(show ∃ t,u = Value.bytes b t from r); cases e; rfl
 | flt b=>obtain ⟨t,e⟩:=(show ∃ t,u = Value.float b t from r); cases e; rfl
 | ref a=>cases (show u = Value.ref a from r); rfl
 | ty n=>cases (show u = Value.type n from r); rfl
section
variable {P:Program} {w:World} {H H':Hp} {h h':Heap} {a C dx:Addr} {fs fs':List (Str × V)}
theorem ins_get (hok:HOk P w H h) (e:H a = some (.ins C dx fs)):∃ mA,ObjM h a dx C mA∧(∀ f,RelO (fs.lookup f) (mA f))∧PySem.Within mA (fs.map (·.1))∧fs.length ≤ 1000∧H dx = some (.own a):=by
 obtain ⟨d,z,ne,ob,mA,n,r,q⟩:=(show ObjOk P w H h a (.ins C dx fs) from hok a _ e)
 exact ⟨mA,⟨ob,n,ne⟩,r,q,z,d⟩
end
structure Cls (K:PySem.W.Frag) (C:Addr):Prop where
 pg:PySem.W.plainGet K C Str.empty = true
 hd:PySem.W.hasDictIn K C = true
 po:PySem.W.plainOver K C = true
 sa:PySem.W.findIn K (.ref C) "__setattr__" = some (some (.builtin "object.__setattr__"))
theorem Cls.get {K:PySem.W.Frag} {C:Addr} (c:Cls K C) (f:Str):PySem.W.plainGet K C f = true:=c.pg
def NoAttr (K:PySem.W.Frag) (C:Addr) (f:Str):Prop:=PySem.W.findIn K (.ref C) f = some none
theorem NoAttr.taker {K:PySem.W.Frag} {C:Addr} {f:Str} (n:NoAttr K C f):PySem.W.takerIn K C f = some none:=by
 unfold PySem.W.takerIn
 rw [show PySem.W.findIn K (.ref C) f = some none from n]
 rfl
structure Meth (K:PySem.W.Frag) (C:Addr) (m:Str) (f:Addr):Prop where
 at_:PySem.W.findIn K (.ref C) m = some (some (.ref f))
 fn:PySem.W.isFn K (.ref f) = true
 kp:PySem.W.keepIn K (.ref f) = true
section
variable {X:Cx} {pins:List (Addr × Obj)} {σ : St} {H:Hp} {s:Shared} {a C dx:Addr} {fs:List (Str × V)} {f:Str} {v:V} {A:Around} {E:Value→Shared→Prop}
theorem getattr_ok {b:Bool} {Q:Value→Shared→Prop} (I:Inv X pins σ H s) (e:H a = some (.ins C dx fs)) (c:Cls X.K C) (n:NoAttr X.K C f) (l:fs.lookup f = some v)
  (h:∀ u s',Inv X pins σ H s'→RelV v u→Q u s'):wpAny (model X.prog X.w) A (getAttr (.ref a) f b) Q E s:=by
 obtain ⟨mA,O,r,_,_,_⟩:=ins_get I.hok e
 obtain ⟨u,hu,ru⟩:=RelO.some_of (v:=v) (o:=mA f) (by rw [← l]; exact r f)
 exact get_map I.kIn O (c.get f) c.hd n hu (handed_of ru) (h u _ (I.tok _) ru)
theorem getmeth_ok {m:Str} {g:Addr} {pl:Sem Bool} {Q:Value × List Value→Shared→Prop} (I:Inv X pins σ H s) (e:H a = some (.ins C dx fs)) (c:Cls X.K C) (k:Meth X.K C m g) (l:fs.lookup m = none)
  (h:Q (.ref g,[.ref a]) s):wpAny (model X.prog X.w) A (getMethod (.ref a) m pl) Q E s:=by
 obtain ⟨mA,O,r,_,_,_⟩:=ins_get I.hok e
 have hn:mA m = none:=RelO.none_of (by rw [← l]; exact r m)
 exact get_meth I.kIn O (c.get m) k.at_ k.fn hn h
theorem setattr_ok {y:V} {u:Value} {Q:Unit→Shared→Prop} (I:Inv X pins σ H s) (e:H a = some (.ins C dx fs)) (c:Cls X.K C) (n:NoAttr X.K C f) (hl:fs.length < 1000) (ry:RelV y u)
  (h:∀ s',Inv X pins σ (upd H a (.ins C dx (putF f y fs))) s'→Q () s'):wpAny (model X.prog X.w) A (setAttr (.ref a) f u) Q E s:=by
 obtain ⟨mA,O,r,wi,_,ho⟩:=ins_get I.hok e
 have hz:(fs.map (·.1)).length ≤ sizeLine:=by rw [List.length_map,sizeLine_eq]; omega
 refine set_map I.kIn O c.sa c.po n.taker c.hd wi hz fun h' O' sb=>h _ ?_
 have hd:∃ o,h'.get? dx = some o:=let ⟨o,_,_,e',_⟩:=O'.ns; ⟨o,e'⟩
 refine I.write (x:=a) (e:=dx) (by rw [e]; exact True.intro) (.inr ho) (fun b q hb z=>(sb.2 b hb).trans z) hd ?_
 refine ⟨by rw [upd_ne O.ne]; exact ho,?_,O.ne,O'.obj,_,O'.ns,fun g=>?_,fun g hg=>?_⟩
 ·have:=length_putF f y fs; omega
 ·show RelO ((putF f y fs).lookup g) (if g = f then some u else mA g)
  rw [lookup_putF]
  by_cases q:g = f
  ·rw [if_pos q,if_pos q]; exact ry
  ·rw [if_neg q,if_neg q]; exact r g
 ·by_cases q:g = f
  ·rw [q]; exact (keys_putF f y fs).1
  ·refine (keys_putF f y fs).2 g (wi g fun z=>hg ?_)
   show (if g = f then some u else mA g) = none
   rw [if_neg q]; exact z
theorem Inv.made (I:Inv X pins σ H s):Inv X pins σ (upd (upd H s.heap.objs.size (.own (s.heap.objs.size + 1))) (s.heap.objs.size + 1) (.ins C s.heap.objs.size []))
  { s with heap:=(s.heap.push PySem.W.emptyDict).push (PySem.W.instObj C s.heap.objs.size) }:=by
 have e1:(s.heap.push PySem.W.emptyDict).get? s.heap.objs.size = some PySem.W.emptyDict:=Heap.get?_push_size s.heap rfl
 have e2:((s.heap.push PySem.W.emptyDict).push (PySem.W.instObj C s.heap.objs.size)).get? (s.heap.objs.size + 1) = some (PySem.W.instObj C s.heap.objs.size):=by
  have:=Heap.get?_push_size (s.heap.push PySem.W.emptyDict) (o:=PySem.W.instObj C s.heap.objs.size) rfl
  rwa [Heap.size_push] at this
 have e3:(s.heap.push PySem.W.emptyDict).Ns s.heap.objs.size (fun _=>none):=⟨PySem.W.emptyDict,#[],_,e1,rfl,(fun e he=>absurd he (by simp)),fun _=>rfl⟩
 have I1:=I.laid (a:=s.heap.objs.size) (o:=.own (s.heap.objs.size + 1)) (h':=s.heap.push PySem.W.emptyDict) (t':=s.toks) (fun b u q=>Heap.get?_push_of_some _ q) (Nat.le_refl _) ⟨_,e1⟩
 refine I1.laid (a:=s.heap.objs.size + 1) (o:=.ins C s.heap.objs.size []) (t':=s.toks) (fun b u q=>Heap.get?_push_of_some _ q) (Nat.le_of_eq (Heap.size_push _ _)) ?_
 have ne:s.heap.objs.size ≠ s.heap.objs.size + 1:=Nat.ne_of_lt (Nat.lt_succ_self _)
 refine ⟨by rw [upd_ne ne,upd_same],Nat.zero_le _,ne,e2,fun _=>none,(Heap.Ns1.of_empty e3).at fun o q=>Heap.get?_push_of_some _ q,fun _=>True.intro,fun y hy=>absurd rfl hy⟩
theorem attr_of {prog:Program} {w:World} {env:Env} {e:Expr} {f:Str} {pos:Pos} {s:Shared} {Q:Value→Shared→Prop} (hb:attributeBase e f env (eval e env) = eval e env)
  (h:wpAny (model prog w) A (eval e env) (fun o s₁=>wpAny (model prog w) A (getAttr o f true) Q E s₁) E s):wpAny (model prog w) A (eval (.Attribute e f pos) env) Q E s:=
 Attribute_any_ h (by rw [arm_eval_Attribute,hb])
end
section
variable {X:Cx} {o e value:Expr} {f:Str} {pos pos' tpos:Pos} {ta tv:TE}
end
section
variable {X:Cx} {pins:List (Addr × Obj)} {σ : St} {H:Hp} {s:Shared} {A:Around} {E:Value→Shared→Prop} {Q:Value→Shared→Prop} {c:Value} {b:Bool}
inductive TyOf (K:PySem.W.Frag) (H:Hp):V→Value→Prop where
 | non:TyOf K H .non (.type "NoneType")
 | bl (x:Bool):TyOf K H (.bl x) (.type "bool")
 | int (i:Int):TyOf K H (.int i) (.type "int")
 | str (x:Str):TyOf K H (.str x) (.type "str")
 | flt (x:UInt64):TyOf K H (.flt x) (.type "float")
 | lst {a:Addr} {xs:List V} (e:H a = some (.lst xs)):TyOf K H (.ref a) (.type "list")
 | frz {a:Addr} {o:Obj} {xs:List V} (e:H a = some (.frz o (.lst xs))):TyOf K H (.ref a) (.type "list")
 | tup {a:Addr} {xs:List V} (e:H a = some (.tup xs)):TyOf K H (.ref a) (.type "tuple")
 | dK {a:Addr} {kvs:List (Key × V)} (e:H a = some (.dK kvs)):TyOf K H (.ref a) (.type "dict")
 | dT {a:Addr} {kvs:List (List Key × V)} (e:H a = some (.dT kvs)):TyOf K H (.ref a) (.type "dict")
 | ins {a C dx:Addr} {fs:List (Str × V)} (e:H a = some (.ins C dx fs)) (cl:Cls K C) (ha:PySem.W.findIn K (.ref C) "__class__" = some (some (.builtin "object.__class__")))
   (hn:PySem.W.specialIn K (.builtin "object.__class__") "__get__" = some (some (.builtin "getset_descriptor.__get__"))) (htk:PySem.W.takesIn K (.builtin "object.__class__") = some true)
   (hm:PySem.W.mroIn K C (.type "object") = some true):TyOf K H (.ref a) (.ref C)
theorem isinst_ok {x:V} {u t:Value} (I:Inv X pins σ H s) (rx:RelV x u) (ty:TyOf X.K H x t) (e:PySem.W.kitOne X.K t c = some b) (h:∀ tk,Q (.bool b) { s with toks:=tk }) :
  wpAny (model X.prog X.w) A (call (.builtin "isinstance") [u,c]) Q E s:=by
 cases ty with
 | non=>cases (show u = Value.none from rx); exact PySem.W.kia_one PySem.W.kitx_none I.kIn True.intro e (fun z=>nomatch z) h
 | bl y=>cases (show u = Value.bool y from rx); exact PySem.W.kia_one PySem.W.kitx_bool I.kIn True.intro e (fun z=>nomatch z) h
 | int i=>obtain ⟨t,q⟩:=(show ∃ t,u = Value.int i t from rx); cases q; exact PySem.W.kia_one PySem.W.kitx_int I.kIn True.intro e (fun z=>nomatch z) h
 | str y=>obtain ⟨t,q⟩:=(show ∃ t,u = Value.str y t from rx); cases q; exact PySem.W.kia_one PySem.W.kitx_str I.kIn True.intro e (fun z=>nomatch z) h
 | flt y=>obtain ⟨t,q⟩:=(show ∃ t,u = Value.float y t from rx); cases q; exact PySem.W.kia_one PySem.W.kitx_float I.kIn True.intro e (fun z=>nomatch z) h
 | @lst a xs ea=>
  cases (show u = Value.ref a from rx)
  obtain ⟨_,_,n,_,h1⟩:=(show ObjOk X.prog X.w H s.heap a (.lst xs) from I.hok a _ ea)
  exact PySem.W.kia_one PySem.W.kitx_list I.kIn ⟨_,h1,rfl⟩ e (fun z=>nomatch z) h
 | @frz a ob xs ea=>
  cases (show u = Value.ref a from rx)
  obtain ⟨_,_,_,n,_,h1⟩:=(show ObjOk X.prog X.w H s.heap a (.frz ob (.lst xs)) from I.hok a _ ea)
  exact PySem.W.kia_one PySem.W.kitx_list I.kIn ⟨_,h1,rfl⟩ e (fun z=>nomatch z) h
 | @tup a xs ea=>
  cases (show u = Value.ref a from rx)
  obtain ⟨_,_,_,p⟩:=(show ObjOk X.prog X.w H s.heap a (.tup xs) from I.hok a _ ea)
  obtain ⟨o,h1,h2,_⟩:=p
  exact PySem.W.kia_one PySem.W.kitx_tuple I.kIn ⟨o,h1,h2⟩ e (fun z=>nomatch z) h
 | @dK a kvs ea=>
  cases (show u = Value.ref a from rx)
  obtain ⟨_,_,vs,_,p⟩:=(show ObjOk X.prog X.w H s.heap a (.dK kvs) from I.hok a _ ea)
  obtain ⟨o,es,ep,h1,h2,_⟩:=p
  exact PySem.W.kia_one PySem.W.kitx_dict I.kIn ⟨o,h1,h2.1⟩ e (fun z=>nomatch z) h
 | @dT a kvs ea=>
  cases (show u = Value.ref a from rx)
  obtain ⟨_,_,xs,_,o,es,ep,h1,h2,_⟩:=(show ObjOk X.prog X.w H s.heap a (.dT kvs) from I.hok a _ ea)
  exact PySem.W.kia_one PySem.W.kitx_dict I.kIn ⟨o,h1,h2.1⟩ e (fun z=>nomatch z) h
 | @ins a C dx fs ea cl ha hn htk hm=>
  cases (show u = Value.ref a from rx)
  obtain ⟨mA,O,_⟩:=ins_get I.hok ea
  obtain ⟨od,J,_⟩:=O.look
  exact PySem.W.kia_one (PySem.W.kitx_own (cl.get _) cl.hd ha hn htk hm) I.kIn J e (fun z=>nomatch z) h
end
end L2
namespace L2
open PySem PySem.Spec PyProof.Rows
structure Room (k:Nat) (A:Around):Prop where
 hd:A.handled = none
 dp:A.depth + 3 * k + 5 < recursionLimit
 un:A.units + 16 * k + 200 < cLine
theorem Room.mono {j k:Nat} {A:Around} (r:Room k A) (h:j ≤ k):Room j A:=⟨r.hd,by have:=r.dp; omega,by have:=r.un; omega⟩
theorem Room.deeper {k:Nat} {A:Around} (r:Room (k + 1) A) (env:Env):Room k (A.deeper env):=
 ⟨r.hd,by have:=r.dp; show A.depth + 1 + 3 * k + 5 < _; omega,by have:=r.un; show A.units + 3 + 16 * k + 200 < _; omega⟩
theorem make_depth {A:Around} {C:Addr} {us:List Value} {kw:List (Str × Value)}:(A.under (.builtin "type.__call__" ⟨.ref C :: us,kw⟩)).depth = A.depth + 1:=by
 first | rfl | simp [Around.under,Code.weight,Code.isCreation,Code.isGuard,Code.isCaller,Code.frames,Code.isFrame,guardIds]
theorem make_units {A:Around} {C:Addr} {us:List Value} {kw:List (Str × Value)}:(A.under (.builtin "type.__call__" ⟨.ref C :: us,kw⟩)).units = A.units + 1:=by
 first | rfl | simp [Around.under,Code.cUnits,Code.frames,Code.isFrame]
theorem Room.make {k:Nat} {A:Around} (r:Room (k + 1) A) (C:Addr) (us:List Value) (kw:List (Str × Value)):Room k (A.under (.builtin "type.__call__" ⟨.ref C :: us,kw⟩)):=
 ⟨r.hd,by have:=r.dp; rw [make_depth]; omega,by have:=r.un; rw [make_units]; omega⟩
theorem Room.depth {k:Nat} {A:Around} (r:Room k A):A.depth < recursionLimit:=by have:=r.dp; omega
theorem Room.units {k:Nat} {A:Around} (r:Room k A):A.units + 64 < cLine:=by have:=r.un; omega
def tNil:TA:=fun _ H Q=>Q [] H
def tCons (ta:TE) (tr:TA):TA:=fun σ H Q=>ta σ H fun x H1=>tr σ H1 fun xs H2=>Q (x :: xs) H2
section
variable {X:Cx} {e:Expr} {es:List Expr} {te:TE} {t:TA} {pos:Pos}
theorem pa_nil:PA X [] tNil:=fun _ _ _ _ H Q I h=>Calls.spliced_nil ⟨[],H,I,.nil,h⟩
theorem pa_cons (ha:PE X e te) (hr:PA X es t) (hs:starEach (e :: es) X.env = (false,eval e X.env) :: starEach es X.env:=by rfl):PA X (e :: es) (tCons te t):=by
 intro pos pins s σ H Q I h
 rw [hs]
 show wpAny _ _ (spliced ((false,eval e X.env) :: backTo pos (starEach es X.env))) _ _ s
 refine Calls.spliced_cons (thn (ha pins s σ H _ I h) fun u s1 ⟨x,H1,I1,r1,q1⟩=>?_)
 exact thn (hr pos pins s1 σ H1 _ I1 q1) fun us s2 ⟨xs,H2,I2,r2,q2⟩=>⟨x :: xs,H2,I2,.cons r1 r2,q2⟩
def tTup (t:TA):TE:=fun σ H Q=>t σ H fun xs H1=>xs.length ≤ sizeLine∧∀ p,H1 p = none→Q (.ref p) (upd H1 p (.tup xs))
def tLst (t:TA):TE:=fun σ H Q=>t σ H fun xs H1=>xs.length ≤ sizeLine∧∀ p,H1 p = none→Q (.ref p) (upd H1 p (.lst xs))
theorem pe_tup {x1} (h:PA X es t):PE X (.Tuple es x1 pos) (tTup t):=by
 intro pins s σ H Q I hq
 refine wpAny_Tuple_spliced (thn (h pos pins s σ H _ I hq) fun us s1 ⟨xs,H1,I1,r,z,q⟩=>⟨by rw [← r.length]; exact z,?_⟩)
 have hf:H1 s1.heap.objs.size = none:=I1.hok.fresh (Nat.le_refl _)
 refine ⟨.ref s1.heap.objs.size,upd H1 s1.heap.objs.size (.tup xs),I1.laid (t':=s1.toks) (fun b u e=>Heap.get?_push_of_some _ e) (Nat.le_refl _) ?_,rfl,q _ hf⟩
 exact ⟨z,us,r,⟨_,Heap.get?_push_size _ rfl,rfl,rfl,_,rfl⟩⟩
theorem pe_lst (h:PA X es t):PE X (.List es pos) (tLst t):=by
 intro pins s σ H Q I hq
 refine wpAny_List_spliced (thn (h pos pins s σ H _ I hq) fun us s1 ⟨xs,H1,I1,r,z,q⟩=>⟨by rw [← r.length]; exact z,?_⟩)
 have hf:H1 s1.heap.objs.size = none:=I1.hok.fresh (Nat.le_refl _)
 refine ⟨.ref s1.heap.objs.size,upd H1 s1.heap.objs.size (.lst xs),I1.laid (t':=s1.toks) (fun b u e=>Heap.get?_push_of_some _ e) (Nat.le_refl _) ?_,rfl,q _ hf⟩
 exact ⟨z,us,0,r,Heap.get?_push_size _ rfl⟩
end
abbrev Sp:=List V→Hp→VK→XK→Prop
abbrev CXT:=List Env→Hp→Shared→XK→Value→Shared→Prop
structure Env0 (P:Program) (w:World) (K:PySem.W.Frag) (mg:Str→Option Value) (base:Heap) (A:Around) (outer:List Env) (s:Shared) (H:Hp):Prop where
 frames:A.frames = some outer
 mod:Mod K mg base
 bs:∀ b o,base.get? b = some o→s.heap.get? b = some o∧H b = none
 bsz:base.objs.size ≤ s.heap.objs.size
 funs:s.heap.FunFrames base outer
 frf:∀ b ∈ frs outer,H b = none
 hok:HOk P w H s.heap
 bare:AllBare s.gens
def CE (outer:List Env) (P:Program) (w:World) (H:Hp) (s:Shared) (Q:VK) (u:Value) (s':Shared):Prop:=
 ∃ v H',s'.os = s.os∧AllBare s'.gens∧Un (frs outer) [] H H' s.heap s'.heap∧HOk P w H' s'.heap∧RelV v u∧Q v H'
def CR (CX:CXT) (outer:List Env) (P:Program) (w:World) (H:Hp) (s:Shared) (Q:VK) (E:XK) (r:Result) (s':Shared):Prop:=
 match r with
 | .ok (.ret u)=>CE outer P w H s Q u s'
 | .ok _=>False
 | .error e=>CX outer H s E e s'
structure FnOk (P:Program) (w:World) (K:PySem.W.Frag) (mg:Str→Option Value) (base:Heap) (CX:CXT) (k:Nat) (f:Addr) (fd:FuncData) (ps:List Str) (sp:Sp):Prop where
 len:∀ vs H Q E,sp vs H Q E→vs.length = ps.length
 run:∀ (A:Around) (outer:List Env) (s:Shared) (H:Hp) (args:Args) (us:List Value) (vs:List V) (Q:VK) (E:XK),Room k A→Env0 P w K mg base A outer s H→BindsTo s fd args (ps.zip us)→Vals vs us→sp vs H Q E→
  codeAny (model P w) A (.call (.ref f) args) (CR CX outer P w H s Q E) s
theorem FnOk.imp {P:Program} {w:World} {K:PySem.W.Frag} {mg:Str→Option Value} {base:Heap} {CX:CXT} {k:Nat} {f:Addr} {fd:FuncData} {ps:List Str} {sp sp':Sp} (F:FnOk P w K mg base CX k f fd ps sp)
  (h:∀ vs H Q E,sp' vs H Q E→sp vs H Q E):FnOk P w K mg base CX k f fd ps sp':=
 ⟨fun vs H Q E q=>F.len vs H Q E (h _ _ _ _ q),fun A outer s H args us vs Q E hr he hb hv hs=>F.run A outer s H args us vs Q E hr he hb hv (h _ _ _ _ hs)⟩
theorem Env0.make {P:Program} {w:World} {K:PySem.W.Frag} {mg:Str→Option Value} {base:Heap} {A:Around} {outer:List Env} {s:Shared} {H:Hp} (e:Env0 P w K mg base A outer s H) (C:Addr) (us:List Value) (kw:List (Str × Value)) :
  Env0 P w K mg base (A.under (.builtin "type.__call__" ⟨.ref C :: us,kw⟩)) outer s H:=⟨by first | exact e.frames | (simpa [Around.under,Code.envs,Code.isFrame,pushEnvs] using e.frames),e.mod,e.bs,e.bsz,e.funs,e.frf,e.hok,e.bare⟩
section
variable {X:Cx} {pins:List (Addr × Obj)} {σ : St} {H:Hp} {s s':Shared}
theorem Inv.env0 (I:Inv X pins σ H s):Env0 X.prog X.w X.K X.mg X.base X.A X.stack s H:=
 ⟨I.ok.frames,I.ok.mod,I.bs,Nat.le_trans I.ok.bsz I.sz,I.stack,I.stkFree,I.hok,I.bare⟩
theorem Inv.after {Q:VK} {u:Value} (I:Inv X pins σ H s) (h:CE X.stack X.prog X.w H s Q u s'):EP X pins σ Q u s':=by
 obtain ⟨v,H',os,bare,un,hok,r,q⟩:=h
 obtain ⟨hh,g,d,t,os'⟩:=s'
 obtain rfl:os' = s.os:=os
 exact ⟨v,H',I.call (h':=hh) (g':=g) (d':=d) (t':=t) (ch:=[]) un hok bare (fun b z=>absurd z (by simp)),r,q⟩
end
def tCall (sp:Sp) (dvs:List V) (E:XK) (t:TA):TE:=fun σ H Q=>t σ H fun vs H1=>sp (vs ++ dvs) H1 Q E
def Binds (K:PySem.W.Frag) (fd:FuncData) (ps:List Str) (ds:List Value):Prop:=
 ∀ (s:Shared) (us:List Value),K.In s.heap→(us ++ ds).length = ps.length→BindsTo s fd ⟨us,[]⟩ (ps.zip (us ++ ds))
theorem Binds.all {K:PySem.W.Frag} {fd:FuncData} {ps:List Str} (h:∀ us:List Value,us.length = ps.length→bindArgs fd ⟨us,[]⟩ = pure (ps.zip us)):Binds K fd ps []:=fun s us _ hl=>by
 rw [List.append_nil] at hl ⊢
 exact .of_eq (h us hl)
def Passes (CX:CXT) (X:Cx) (E:XK):Prop:=∀ (pins:List (Addr × Obj)) (σ : St) (H:Hp) (s:Shared) (e:Value) (s':Shared),Inv X pins σ H s→CX X.stack H s E e s'→X.xe e s'
section
variable {X:Cx} {CX:CXT} {k:Nat} {f C:Addr} {fd:FuncData} {ps:List Str} {sp:Sp} {dvs:List V} {ds:List Value} {E:XK} {x m:Str} {p pos apos:Pos} {e o:Expr} {es:List Expr} {ta:TE} {t:TA}
theorem run_fn {pins:List (Addr × Obj)} {σ : St} {H:Hp} {s:Shared} {Q:VK} {us:List Value} {vs:List V} (F:FnOk X.prog X.w X.K X.mg X.base CX k f fd ps sp) (hr:Room k X.A) (hb:Binds X.K fd ps ds) (hd:Vals dvs ds) (hx:Passes CX X E)
  (I:Inv X pins σ H s) (r:Vals vs us) (h:sp (vs ++ dvs) H Q E):wpAny (model X.prog X.w) X.A (call (.ref f) us) (EP X pins σ Q) X.xe s:=by
 have r2:Vals (vs ++ dvs) (us ++ ds):=r.append hd
 have hl:(us ++ ds).length = ps.length:=by rw [← r2.length]; exact F.len _ _ _ _ h
 refine wpAny_call (codeAny_mono (F.run X.A X.stack s H ⟨us,[]⟩ (us ++ ds) (vs ++ dvs) Q E hr I.env0 (hb s us I.kIn hl) r2 h) fun r s' hq=>?_)
 cases r with
 | error e=>exact hx pins σ H s e s' I hq
 | ok fl=>
  cases fl with
  | ret u=>exact I.after hq
  | next=>exact False.elim hq
  | brk=>exact False.elim hq
  | cont=>exact False.elim hq
theorem pe_call (F:FnOk X.prog X.w X.K X.mg X.base CX k f fd ps sp) (hr:Room k X.A) (hg:Gl X x) (hm:X.mg x = some (.ref f)) (hk:PySem.W.keepIn X.K (.ref f) = true) (hb:Binds X.K fd ps ds) (hd:Vals dvs ds) (hx:Passes CX X E)
  (ha:PA X (e :: es) t) (hdb:(x == ("__debug__" : Str)) = false:=by decide) (he:starEach (e :: es) X.env = (false,eval e X.env) :: starEach es X.env:=by rfl) (hpl:(backTo pos (starEach es X.env)).any (·.1) = false:=by rfl) :
  PE X (.Call (.Name x p) (e :: es) [] pos) (tCall sp dvs E t):=by
 intro pins s σ H Q I h
 refine wpAny_Call_Name_kw (ld_glob I hg hm ?_ hdb)
 refine PySem.W.callWith_K (h₀:=X.base) I.ok.mod.kin hk (thn (ha pos pins s σ H _ I h) fun us s1 ⟨vs,H1,I1,r,q⟩=>⟨I1.kIn,?_⟩) he hpl
 exact run_fn F hr hb hd hx I1 r q
structure Mk (K:PySem.W.Frag) (C f:Addr):Prop where
 makes:PySem.W.makesIn K C = true
 init:PySem.W.findIn K (.ref C) "__init__" = some (some (.ref f))
 fn:PySem.W.isFn K (.ref f) = true
 kp:PySem.W.keepIn K (.ref C) = true
theorem run_make {pins:List (Addr × Obj)} {σ : St} {H:Hp} {s:Shared} {Q:VK} {us:List Value} {vs:List V} (M:Mk X.K C f) (F:FnOk X.prog X.w X.K X.mg X.base CX k f fd ps sp) (hr:Room (k + 1) X.A) (hb:Binds X.K fd ps ds) (hd:Vals dvs ds)
  (hx:Passes CX X E) (I:Inv X pins σ H s) (r:Vals vs us)
  (h:∀ x dx,H x = none→H dx = none→dx ≠ x→sp (.ref x :: (vs ++ dvs)) (upd (upd H dx (.own x)) x (.ins C dx [])) (fun v H2=>v = .non∧Q (.ref x) H2) E) :
  wpAny (model X.prog X.w) X.A (call (.ref C) us) (EP X pins σ Q) X.xe s:=by
 have hq:=h (s.heap.objs.size + 1) s.heap.objs.size (I.hok.fresh (Nat.le_succ _)) (I.hok.fresh (Nat.le_refl _)) (Nat.ne_of_lt (Nat.lt_succ_self _))
 have I2:=Inv.made (C:=C) I
 have r2:Vals (V.ref (s.heap.objs.size + 1) :: (vs ++ dvs)) (Value.ref (s.heap.objs.size + 1) :: (us ++ ds)):=.cons rfl (r.append hd)
 have hl:(Value.ref (s.heap.objs.size + 1) :: us ++ ds).length = ps.length:=by
  have e:=r2.length
  rw [F.len _ _ _ _ hq] at e
  exact e.symm
 refine wpAny_call (make_map (f:=f) I.kIn M.makes M.init (beq_iff_eq.mp M.fn) (codeAny_mono (F.run _ X.stack _ _ ⟨Value.ref (s.heap.objs.size + 1) :: us,[]⟩ (Value.ref (s.heap.objs.size + 1) :: (us ++ ds)) _ _ E (hr.make C us [])
  (I2.env0.make C us []) (hb _ (Value.ref (s.heap.objs.size + 1) :: us) I2.kIn hl) r2 hq) fun r s' hq'=>?_))
 cases r with
 | error e=>exact hx pins σ _ _ e s' I2 hq'
 | ok fl=>
  cases fl with
  | ret u=>
   obtain ⟨v,H',I3,rv,ev,q3⟩:=I2.after hq'
   subst ev
   exact ⟨rv,⟨V.ref (s.heap.objs.size + 1),H',I3,rfl,q3⟩⟩
  | next=>exact False.elim hq'
  | brk=>exact False.elim hq'
  | cont=>exact False.elim hq'
end
section
variable {X:Cx} {CX:CXT} {k:Nat} {f C:Addr} {fd:FuncData} {ps ks:List Str} {sp:Sp} {E:XK} {x m:Str} {p pos apos kpos:Pos} {e o:Expr} {es:List Expr} {kws:List Keyword} {te ta:TE} {t tk:TA} {nm:Option Str}
variable {g:List Value→List Value→List Value} {gV:List V→List V→List V}
end
structure FnScope (N P:List Str) (sc:Scope):Prop where
 kind:sc.kind = .function
 co:sc.isCoroutine = false
 gen:sc.isGenerator = false
 nd:N.Nodup
 pre:N.take P.length = P
 par:∀ x ∈ P,sc.names.lookup x = some .local∨sc.names.lookup x = some .cell
 nofree:∀ y ∈ sc.names,y.2 ≠ .free
theorem bindL_out {kindOf:Str→Option NameKind} {x:Str}:∀ {binds:List (Str × Value)} {m:Str→Option Value},(∀ v,(x,v) ∉ binds)→bindL kindOf binds m x = m x
 | [],_,_=>rfl
 | (n,v) :: r,m,h=>by
  unfold bindL
  rw [bindL_out fun w hw=>h w (List.mem_cons_of_mem _ hw)]
  split
  ·have:x ≠ n:=by rintro rfl; exact h v List.mem_cons_self
   simp [this]
  ·rfl
theorem bindC_out {kindOf:Str→Option NameKind} {x:Str}:∀ {binds:List (Str × Value)} {m:Str→Option Value},(∀ v,(x,v) ∉ binds)→bindC kindOf binds m x = m x
 | [],_,_=>rfl
 | (n,v) :: r,m,h=>by
  unfold bindC
  rw [bindC_out fun w hw=>h w (List.mem_cons_of_mem _ hw)]
  split
  ·rfl
  ·have:x ≠ n:=by rintro rfl; exact h v List.mem_cons_self
   simp [this]
theorem bindL_get {kindOf:Str→Option NameKind} {x:Str} {v:Value}:∀ {P:List Str} {vs:List Value} {i:Nat} {m:Str→Option Value},P.Nodup→P[i]? = some x→vs[i]? = some v→kindOf x = some .local→
  bindL kindOf (P.zip vs) m x = some v
 | [],_,_,_,_,h,_,_=>by simp at h
 | _ :: _,[],_,_,_,_,h,_=>by simp at h
 | p :: P,w :: vs,0,m,nd,h1,h2,hk=>by
  simp at h1 h2; subst h1; subst h2
  show bindL kindOf ((p,w) :: P.zip vs) m p = _
  unfold bindL
  rw [bindL_out fun v hv=>(List.nodup_cons.mp nd).1 (List.of_mem_zip hv).1,if_pos hk]
  simp
 | p :: P,w :: vs,i + 1,m,nd,h1,h2,hk=>by
  show bindL kindOf ((p,w) :: P.zip vs) m x = _
  unfold bindL
  exact bindL_get (i:=i) (List.nodup_cons.mp nd).2 (by simpa using h1) (by simpa using h2) hk
theorem bindC_get {kindOf:Str→Option NameKind} {x:Str} {v:Value}:∀ {P:List Str} {vs:List Value} {i:Nat} {m:Str→Option Value},P.Nodup→P[i]? = some x→vs[i]? = some v→kindOf x ≠ some .local→
  bindC kindOf (P.zip vs) m x = some v
 | [],_,_,_,_,h,_,_=>by simp at h
 | _ :: _,[],_,_,_,_,h,_=>by simp at h
 | p :: P,w :: vs,0,m,nd,h1,h2,hk=>by
  simp at h1 h2; subst h1; subst h2
  show bindC kindOf ((p,w) :: P.zip vs) m p = _
  unfold bindC
  rw [bindC_out fun v hv=>(List.nodup_cons.mp nd).1 (List.of_mem_zip hv).1,if_neg hk]
  simp
 | p :: P,w :: vs,i + 1,m,nd,h1,h2,hk=>by
  show bindC kindOf ((p,w) :: P.zip vs) m x = _
  unfold bindC
  exact bindC_get (i:=i) (List.nodup_cons.mp nd).2 (by simpa using h1) (by simpa using h2) hk
def start (N:List Str) (vs:List V):St:=vs.map some ++ List.replicate (N.length - vs.length) none
def cxOf (CX:CXT) (P:Program) (w:World) (K:PySem.W.Frag) (mg:Str→Option Value) (base:Heap) (N:List Str) (qual:Str) (scope:Scope) (f:Addr) (cd:Value) (A:Around) (outer:List Env) (s:Shared) (H:Hp) (E:XK):Cx where
 prog:=P
 w:=w
 K:=K
 mg:=mg
 base:=base
 A:=A.deeper (envOfC qual scope s.heap.objs.size f cd)
 N:=N
 s₀:=s
 H₀:=H
 env:=envOfC qual scope s.heap.objs.size f cd
 outer:=outer
 stack:=envOfC qual scope s.heap.objs.size f cd :: outer
 ex:=[]
 calm:=true
 fn:=fun _=>true
 pn:=[]
 xe:=fun e s'=>wpAny (model P w) (A.deeper (envOfC qual scope s.heap.objs.size f cd)) (leaving (envOfC qual scope s.heap.objs.size f cd) e) (fun _ s''=>CX outer H s E e s'') (fun e' s''=>CX outer H s E e' s'') s'
theorem cell_has {sc:Scope} {n:Nat} {x:Str} (h:sc.names.lookup x = some .cell):∃ c,(cellsFrom n sc.names []).lookup x = some c:=by
 have q:=PySem.W.cellsFrom_some sc.names n [] (.inl h)
 exact Option.isSome_iff_exists.mp q
theorem inv_start {CX:CXT} {P:Program} {w:World} {K:PySem.W.Frag} {mg:Str→Option Value} {base:Heap} {N ps:List Str} {qual:Str} {scope:Scope} {f:Addr} {cd:Value} {A:Around} {outer:List Env} {s s1:Shared} {H:Hp} {E:XK} {us:List Value} {vs:List V}
  (S:FnScope N ps scope) (hd:A.handled = none) (e0:Env0 P w K mg base A outer s H) (hl:vs.length = ps.length) (r:Vals vs us)
  (x:InCallC s s.heap.objs.size (bindL (envOfC qual scope s.heap.objs.size f cd).kindOf (ps.zip us) fun _=>none) (cellsFrom (s.heap.objs.size + 1) scope.names []) (bindC (envOfC qual scope s.heap.objs.size f cd).kindOf (ps.zip us) fun _=>none) s1) :
  Inv (cxOf CX P w K mg base N qual scope f cd A outer s H E) [] (start N vs) H s1:=by
 have hpl:ps.length ≤ N.length:=by have:=congrArg List.length S.pre; rw [List.length_take] at this; omega
 obtain ⟨h1,tk,rfl,hk⟩:=x.done
 have noA:∀ b:Addr,b ∉ (cxOf CX P w K mg base N qual scope f cd A outer s H E).ex:=fun b z=>absurd (show b ∈ ([]:List Addr) from z) (by simp)
 refine ⟨⟨e0.mod,S.kind,rfl,rfl,Nat.le_refl _,fun y z c h1 h2=>?_,fun y hy=>?_,fun y c _ h=>?_,fun _=>hd,Around.frames_deeper e0.frames,.inr ⟨rfl,rfl⟩,fun b z=>absurd z (noA b),e0.bs,e0.bsz,fun b _ _=>noA b,fun b z=>absurd z (noA b),e0.funs,e0.frf⟩,
  rfl,e0.bare,Un.kept hk,⟨_,x.toInCall.ns,fun i y v h1 h2 h3=>?_⟩,fun y c h=>⟨_,x.cell y c h⟩,e0.hok.fresh (Nat.le_refl _),fun y c h=>?_,fun p hp=>absurd (show p ∈ ([]:List (Addr × Obj)) from hp) (by simp),e0.hok.kept hk,?_⟩
 ·exact name_of_addr x.apart (PySem.mem_of_lookup h1) (PySem.mem_of_lookup h2)
 ·have hy:scope.names.lookup y = some .cell∨scope.names.lookup y = some .free:=hy
  rcases hy with hy | hy
  ·exact cell_has hy
  ·exact absurd rfl (S.nofree _ (PySem.mem_of_lookup hy))
 ·exact Nat.le_of_lt (x.above y c (PySem.mem_of_lookup h))
 ·have hi:i < vs.length:=by
   unfold start at h2
   by_cases hi:i < vs.length
   ·exact hi
   ·rw [List.getElem?_append_right (by simpa using hi)] at h2
    rw [List.getElem?_replicate] at h2
    split at h2 <;> cases h2
  have ha:vs[i]? = some v:=by
   unfold start at h2
   rw [List.getElem?_append_left (by simpa using hi),List.getElem?_map] at h2
   cases e:vs[i]? with
   | none=>rw [e] at h2; cases h2
   | some a=>rw [e] at h2; cases h2; rfl
  obtain ⟨u,hu,rv⟩:=r.get ha
  have hp:ps[i]? = some y:=by
   rw [← S.pre,List.getElem?_take_of_lt (by omega)]; exact h1
  have ndP:ps.Nodup:=by rw [← S.pre]; exact S.nd.sublist (List.take_sublist _ _)
  refine ⟨u,rv,?_⟩
  rcases S.par y (List.mem_of_getElem? hp) with k | k
  ·exact .inl ⟨k,bindL_get ndP hp hu k⟩
  ·obtain ⟨c,e⟩:=cell_has (n:=s.heap.objs.size + 1) k
   refine .inr ⟨.inl k,c,e,?_⟩
   have q:=x.cell y c e
   rw [bindC_get ndP hp hu (by show scope.names.lookup y ≠ _; rw [k]; decide)] at q
   exact q
 ·exact e0.hok.fresh (Nat.le_of_lt (x.above y c (PySem.mem_of_lookup h)))
 ·unfold start
  show _ = N.length
  rw [List.length_append,List.length_map,List.length_replicate]
  omega
theorem fn_of {CX:CXT} {P:Program} {w:World} {K:PySem.W.Frag} {mg:Str→Option Value} {base:Heap} {k:Nat} {f:Addr} {name qual:Str} {params:Arguments} {body:List Stmt} {scope:Scope} {dV kV doc pm cdv ct oc:Value} {an od:Option Addr}
  {osl:Array (Option Value)} {N ps:List Str} {sp:Sp} (lk:K.lookup f = some ⟨oc,od,.func (PySem.W.fnOf name qual params body scope dV kV doc pm an cdv ct),osl⟩) (hcd:PySem.W.codeIn K cdv qual = true) (S:FnScope N ps scope)
  (len:∀ vs H Q E,sp vs H Q E→vs.length = ps.length)
  (hbody:∀ (A:Around) (outer:List Env) (s:Shared) (H:Hp) (vs:List V) (Q:VK) (E:XK),Room k (A.deeper (envOfC qual scope s.heap.objs.size f cdv))→sp vs H Q E→
   ∃ t,PSs (cxOf CX P w K mg base N qual scope f cdv A outer s H E) body t∧t { nx:=fun _ H'=>Q .non H',rt:=Q } (start N vs) H) :
  FnOk P w K mg base CX (k + 1) f (PySem.W.fnOf name qual params body scope dV kV doc pm an cdv ct) ps sp:=by
 refine ⟨len,fun A outer s H args us vs Q E hr e0 hb r hsp=>?_⟩
 have hl:=len _ _ _ _ hsp
 have KX:K.In s.heap:=e0.mod.kin.keeps fun b o e=>(e0.bs b o e).1
 have lim:s.heap.NoLimit:=e0.mod.nolimit.keeps fun b o e=>(e0.bs b o e).1
 have hkind:∀ y ∈ ps.zip us,scope.names.lookup y.1 = some .local∨(scope.names.lookup y.1 = some .cell∧((cellsFrom (s.heap.objs.size + 1) scope.names []).lookup y.1).isSome = true):=fun ⟨n,v⟩ hy=>by
  rcases S.par n (List.of_mem_zip hy).1 with q | q
  ·exact .inl q
  ·exact .inr ⟨q,PySem.W.cellsFrom_some _ _ _ (.inl q)⟩
 refine codeAny_call_function hr.depth (KX _ _ lk) rfl S.co S.gen rfl (PySem.W.codeRec_of KX hcd) (hb _ _ _ _ ?_)
 refine wpAny_newFunctionEnv_cells S.kind hkind fun env he s1 x=>?_
 subst he
 refine ⟨lim.keeps x.toInCall.keep,codeAny_func ?_⟩
 obtain ⟨t,ht,hq⟩:=hbody A outer s H vs Q E (hr.deeper _) hsp
 have I:Inv (cxOf CX P w K mg base N qual scope f cdv A outer s H E) [] (start N vs) H s1:=inv_start S hr.hd e0 hl r x
 refine wpAny_mono (ht [] s1 (start N vs) H _ I hq) (fun fl s' hs=>?_) fun e s' hs=>hs
 have fin:∀ {σ':St} {H':Hp} {v:V} {u:Value},Inv (cxOf CX P w K mg base N qual scope f cdv A outer s H E) [] σ' H' s'→RelV v u→Q v H'→CE outer P w H s Q u s':=
  fun {σ' H' v u} J rv q=>⟨v,H',J.os,J.bare,J.base,J.hok,rv,q⟩
 cases fl with
 | ret u=>
  obtain ⟨v,σ',H',J,rv,q⟩:=hs
  exact fin J rv q
 | next=>
  obtain ⟨σ',H',J,q⟩:=hs
  exact fin (v:=V.non) (u:=Value.none) J rfl q
 | brk=>
  obtain ⟨_,_,_,q⟩:=hs
  exact False.elim q
 | cont=>
  obtain ⟨_,_,_,q⟩:=hs
  exact False.elim q
end L2
namespace L2
open PySem PySem.Spec PyProof.Rows
section
variable {X:Cx} {x:Str} {p pos:Pos} {e:Expr} {es:List Expr} {t:TA} {id T:String} {r:List V→Hp→VK→Prop}
def tCB (r:List V→Hp→VK→Prop) (t:TA):TE:=fun σ H Q=>t σ H fun vs H1=>r vs H1 Q
theorem pe_callB (hc:CallR X (.builtin id) r) (hg:Gl X x) (hm:X.mg x = none) (hv:bootBuiltins x = some (.builtin id)) (ha:PA X (e :: es) t) (hn:x ≠ "__name__" := by decide) (hdb:(x == ("__debug__" : Str)) = false:=by decide)
  (he:starEach (e :: es) X.env = (false,eval e X.env) :: starEach es X.env:=by rfl) (hpl:(backTo pos (starEach es X.env)).any (·.1) = false:=by rfl):PE X (.Call (.Name x p) (e :: es) [] pos) (tCB r t):=by
 intro pins s σ H Q I h
 refine wpAny_Call_Name_kw (ld_blt I hg hm hv ?_ hn hdb)
 exact PyProof.Rows.callWith_builtin1 (thn (ha pos pins s σ H _ I h) fun us s1 ⟨vs,H1,I1,r1,q1⟩=>hc pins s1 σ H1 vs us Q I1 r1 q1) he hpl
theorem pe_callTy (hc:CallR X (.type T) r) (hg:Gl X x) (hm:X.mg x = none) (hv:bootBuiltins x = some (.type T)) (ha:PA X (e :: es) t) (hn:x ≠ "__name__" := by decide) (hdb:(x == ("__debug__" : Str)) = false:=by decide)
  (he:starEach (e :: es) X.env = (false,eval e X.env) :: starEach es X.env:=by rfl) (hpl:(backTo pos (starEach es X.env)).any (·.1) = false:=by rfl):PE X (.Call (.Name x p) (e :: es) [] pos) (tCB r t):=by
 intro pins s σ H Q I h
 refine wpAny_Call_Name_kw (ld_blt I hg hm hv ?_ hn hdb)
 exact PyProof.Rows.callWith_type1 (thn (ha pos pins s σ H _ I h) fun us s1 ⟨vs,H1,I1,r1,q1⟩=>hc pins s1 σ H1 vs us Q I1 r1 q1) he hpl
end
end L2
namespace HT
open PySem PyProof.Rows
theorem rcLt_int (A:Around) (s:Shared) (a:Int) (t:Tok) (c:Int) (u:Tok) (prog:Program) (w:World) (E:Value→Shared→Prop) (Q:Value→Shared→Prop) (h:Q (.bool (decide (a < c))) s) :
  wpAny (model prog w) A (richCompare .Lt (.int a t) (.int c u)) Q E s:=
 (PyProof.Rows.lt_int h:wpAny (model prog w) A (compareOp .Lt (.int a t) (.int c u)) Q E s)
section
open PySem.SeqAt
open PySem.AutoSeq1 (wpAny_loadPart')
open PySem.MeetsSeq PySem.MeetsSeq2 PySem.MeetsSeq3
end
section
variable {prog:Program} {w:World} {A:Around} {E:Value→Shared→Prop} {s:Shared}
def sIx (n d:Nat):Option Int→Nat
 | none=>d
 | some v=>if v < 0 then (v + (n:Int)).toNat else min v.toNat n
theorem sIx_none (n d:Nat):sIx n d none = d:=rfl
theorem sIx_nat (n d k:Nat):sIx n d (some (k:Int)) = min k n:=by
 show (if (k:Int) < 0 then ((k:Int) + (n:Int)).toNat else min (k:Int).toNat n) = min k n
 rw [if_neg (by omega),Int.toNat_natCast]
theorem sIx_le (n d:Nat) (hd:d ≤ n) (o:Option Int):sIx n d o ≤ n:=by
 cases o with
 | none=>exact hd
 | some v=>
  show (if v < 0 then (v + (n:Int)).toNat else min v.toNat n) ≤ n
  by_cases hv:v < 0
  ·rw [if_pos hv]; omega
  ·rw [if_neg hv]; exact Nat.min_le_right _ _
theorem clip_eq (v:Int) (n d:Nat):(if v < 0 then max (v + (n:Int)) 0 else min v (n:Int)) = ((sIx n d (some v):Nat):Int):=by
 show (if v < 0 then max (v + (n:Int)) 0 else min v (n:Int)) = (((if v < 0 then (v + (n:Int)).toNat else min v.toNat n):Nat):Int)
 by_cases hv:v < 0
 ·simp only [if_pos hv]; omega
 ·simp only [if_neg hv]; omega
theorem adjust_gen (lo hi:Option Int) (n:Nat):Builtin.Slice.sliceAdjust lo hi 1 (n:Int) = (((sIx n 0 lo:Nat):Int),((sIx n n hi:Nat):Int)):=by
 have h1:¬ ((1:Int) < 0):=by omega
 unfold Builtin.Slice.sliceAdjust
 simp only [h1,if_false]
 refine Prod.ext ?_ ?_
 ·cases lo with
  | none=>rfl
  | some v=>exact clip_eq v n 0
 ·cases hi with
  | none=>rfl
  | some v=>exact clip_eq v n n
theorem places_gen (i j:Nat):Builtin.Slice.slicePlaces (i:Int) (j:Int) 1 = j - i:=by
 unfold Builtin.Slice.slicePlaces
 have h1:(1:Int) > 0:=by omega
 simp only [h1,if_true,Int.ediv_one]
 split <;> omega
theorem slicePart_ {v:Value} {o:Option Int} {Q:Option Int→Shared→Prop} (p:IsPart v o) (h:Q o s):wpAny (model prog w) A (Builtin.Slice.slicePartIndex v) Q E s:=by
 cases p with
 | none=>exact slicePart_none h
 | int i t=>exact slicePart_int h
theorem sliceApplied_gen {sl:Addr} {vl vu:Value} {lo hi:Option Int} {n:Nat} {Q:Int × Int × Nat→Shared→Prop} (hs:s.heap.IsSliceOf sl vl vu .none) (pl:IsPart vl lo) (pu:IsPart vu hi)
  (h:Q (((sIx n 0 lo:Nat):Int),1,sIx n n hi - sIx n 0 lo) s):wpAny (model prog w) A (Builtin.Slice.sliceApplied (.ref sl) (pure (n:Int))) Q E s:=by
 obtain ⟨os,hos,hcs,hds⟩:=id hs
 unfold Builtin.Slice.sliceApplied Builtin.Slice.sliceFields
 refine wpAny_bind (wpAny_bind (wpAny_field hos hds (x:=vl) rfl (wpAny_bind (wpAny_field hos hds (x:=vu) rfl (wpAny_bind (wpAny_field hos hds (x:=.none) rfl (wpAny_pure ?_)))))))
 refine wpAny_bind (slicePart_none ?_)
 show wpAny _ _ (if ((1:Int) == 0) = true then _ else _) _ _ s
 rw [if_neg (by decide)]
 refine wpAny_bind (slicePart_ pl (wpAny_bind (slicePart_ pu (wpAny_bind (wpAny_pure ?_)))))
 show wpAny _ _ (match Builtin.Slice.sliceAdjust lo hi 1 (n:Int) with | (lo,hi)=>pure (lo,(1:Int),Builtin.Slice.slicePlaces lo hi 1)) _ _ s
 rw [adjust_gen lo hi n]
 show wpAny _ _ (pure (((sIx n 0 lo:Nat):Int),(1:Int),Builtin.Slice.slicePlaces ((sIx n 0 lo:Nat):Int) ((sIx n n hi:Nat):Int) 1)) _ _ s
 rw [places_gen]
 exact wpAny_pure h
theorem pick_gen (xs:Array Value) (i k:Nat):((List.range k).filterMap fun (m:Nat)=>xs[((i:Int) + (m:Int) * 1).toNat]?).toArray = ((xs.toList.drop i).take k).toArray:=by
 have e:(fun (m:Nat)=>xs[((i:Int) + (m:Int) * 1).toNat]?) = fun m=>xs[i + m]?:=by
  funext m
  have:((i:Int) + (m:Int) * 1).toNat = i + m:=by omega
  rw [this]
 rw [e]
 have:=pick_run xs i k
 rw [List.filterMap_map] at this
 have e2:((fun x=>xs[x]?) ∘ fun x=>i + x) = fun m=>xs[i + m]?:=rfl
 rw [e2] at this
 rw [this]
theorem getItem_tuple_cut {t sl:Addr} {items:Array Value} {vl vu:Value} {lo hi:Option Int} {Q:Value→Shared→Prop} (ht:IsTup s.heap t items) (hs:s.heap.IsSliceOf sl vl vu .none) (pl:IsPart vl lo) (pu:IsPart vu hi)
  (hw:¬ (sIx items.size 0 lo = 0∧sIx items.size items.size hi = items.size))
  (h:Q (.ref s.heap.objs.size) { s with heap:=s.heap.push { cls:=.type "tuple", data:=.seq ((items.toList.drop (sIx items.size 0 lo)).take (sIx items.size items.size hi - sIx items.size 0 lo)).toArray } })
  (hsz:items.size ≤ sizeLine):wpAny (model prog w) A (getItem (.ref t) (.ref sl)) Q E s:=by
 have htake:sizeOk (.seq ((items.toList.drop (sIx items.size 0 lo)).take (sIx items.size items.size hi - sIx items.size 0 lo)).toArray):=by
  show ((items.toList.drop (sIx items.size 0 lo)).take (sIx items.size items.size hi - sIx items.size 0 lo)).toArray.size ≤ sizeLine
  rw [List.size_toArray,List.length_take,List.length_drop,Array.length_toList]
  omega
 have hj:sIx items.size items.size hi ≤ items.size:=sIx_le _ _ (Nat.le_refl _) hi
 obtain ⟨os,hos,hcs,hds⟩:=id hs
 have hTs:s.TypeIs (.ref sl) "slice" := ⟨os,hos,hcs⟩
 unfold getItem
 try with_reducible refine wpAny_holding ?_
 first | refine wpAny_bind (wpAny_pure ?_) | skip
 refine wpAny_bind (wpAny_sequenceKey ht.typeIs (by decide) ?_)
 refine wpAny_bind (wpAny_callSpecial?_slot (name:=Str.ofString "__getitem__") ht.typeIs PyProof.Rows.slot_tuple_getitem
  (wpAny_call_entry PyProof.Rows.slot_tuple_getitem ht.typeIs entry_tuple_getitem ?_ (args_tuple_getitem _ _)))
 show wpAny _ _ (Builtin.Tuple.tupleItemsOf (.ref t) >>= _) _ _ s
 refine wpAny_bind (tupleItemsOf_ ht ?_)
 refine wpAny_bind (wpAny_typeOf hTs ?_)
 rw [if_pos (by decide)]
 refine wpAny_bind (sliceApplied_gen hs pl pu ?_)
 have hno:¬ ((((sIx items.size 0 lo:Nat):Int) == 0 && (1:Int) == 1 && (sIx items.size items.size hi - sIx items.size 0 lo) == items.size) = true):=by
  intro q
  rw [Bool.and_eq_true,Bool.and_eq_true] at q
  have q1:((sIx items.size 0 lo:Nat):Int) = 0:=eq_of_beq q.1.1
  have q2:sIx items.size items.size hi - sIx items.size 0 lo = items.size:=eq_of_beq q.2
  exact hw ⟨by omega,by omega⟩
 show wpAny _ _ (if (((sIx items.size 0 lo:Nat):Int) == 0 && (1:Int) == 1 && (sIx items.size items.size hi - sIx items.size 0 lo) == items.size) = true then _ else _) _ _ s
 rw [if_neg hno,pick_gen]
 first
  | exact wpAny_bind (m:=Builtin.Tuple.tupleExact _) (wpAny_newObj_type (wpAny_pure ⟨_,rfl,wpAny_pure h⟩) htake)
  | exact wpAny_bind (m:=Builtin.Tuple.tupleExact _) (wpAny_newObj_type (wpAny_bind (wpAny_pure (wpAny_pure ⟨_,rfl,wpAny_pure h⟩))) htake)
  | exact wpAny_bind (wpAny_bind (m:=Builtin.Tuple.tupleExact _) (wpAny_newObj_type (wpAny_pure (wpAny_pure ⟨_,rfl,wpAny_pure h⟩)) htake))
  | exact wpAny_bind (wpAny_bind (m:=Builtin.Tuple.tupleExact _) (wpAny_newObj_type (wpAny_pure ⟨_,rfl,wpAny_pure h⟩) htake))
end
end HT
namespace L2
open PySem PySem.Spec PyProof.Rows
abbrev TO:=St→Hp→(Option Int→Hp→Prop)→Prop
def PO (X:Cx) (e:Option Expr) (t:TO):Prop:=
 ∀ (pins:List (Addr × Obj)) (s:Shared) (σ : St) (H:Hp) (Q:Option Int→Hp→Prop),Inv X pins σ H s→t σ H Q→
  wpAny (model X.prog X.w) X.A (evalPart e X.env) (fun u s'=>∃ o H',Inv X pins σ H' s'∧IsPart u o∧Q o H') X.xe s
def tNoPart:TO:=fun _ H Q=>Q none H
def tPart (t:TE):TO:=fun σ H Q=>t σ H fun x H1=>∃ i,x = .int i∧Q (some i) H1
section
variable {X:Cx} {e:Expr} {te:TE} {lo hi:Option Expr} {tl th:TO} {pos p2:Pos}
theorem po_none:PO X none tNoPart:=by
 intro pins s σ H Q I h
 rw [evalPart_none]
 exact wpAny_pure ⟨none,H,I,.none,h⟩
theorem po_some (h:PE X e te):PO X (some e) (tPart te):=by
 intro pins s σ H Q I hw
 rw [evalPart_some]
 refine thn (h pins s σ H _ I hw) fun u s1 ⟨x,H1,I1,r1,q1⟩=>?_
 obtain ⟨i,rfl,q⟩:=q1
 obtain ⟨t,rfl⟩:=r1
 exact ⟨some i,H1,I1,.int i t,q⟩
def SlR (X:Cx) (r:V→Option Int→Option Int→Hp→VK→Prop):Prop:=
 ∀ (pins:List (Addr × Obj)) (s:Shared) (σ : St) (H:Hp) (x:V) (v vl vu:Value) (lo hi:Option Int) (sl:Addr) (Q:VK),Inv X pins σ H s→RelV x v→s.heap.IsSliceOf sl vl vu .none→IsPart vl lo→IsPart vu hi→r x lo hi H Q→
  ∃ T id,typeLookup (.type T) "__getitem__" = pure (some (.builtin id))∧s.TypeIs v T∧wpAny (model X.prog X.w) X.A (getItem v (.ref sl)) (EP X pins σ Q) X.xe s
def tSl (r:V→Option Int→Option Int→Hp→VK→Prop) (te:TE) (tl th:TO):TE:=fun σ H Q=>te σ H fun x H1=>tl σ H1 fun l H2=>th σ H2 fun u H3=>r x l u H3 Q
theorem pe_slice {r:V→Option Int→Option Int→Hp→VK→Prop} (hr:SlR X r) (he:PE X e te) (hl:PO X lo tl) (hu:PO X hi th):PE X (.Subscript e (.Slice lo hi none p2) pos) (tSl r te tl th):=by
 intro pins s σ H Q I h
 refine Subscript_ (thn (he pins s σ H _ I h) fun v s1 ⟨x,H1,I1,r1,q1⟩=>?_)
 refine wpAny_Slice (thn (hl pins s1 σ H1 _ I1 q1) fun vl s2 ⟨l,H2,I2,pl,q2⟩=>thn (hu pins s2 σ H2 _ I2 q2) fun vu s3 ⟨u,H3,I3,pu,q3⟩=>?_)
 rw [evalPart_none]
 refine wpAny_pure ?_
 have I4:Inv X pins σ H3 { s3 with heap:=s3.heap.push { cls:=.type "slice", data:=.fields #[vl,vu,.none] } }:=I3.kept (t':=s3.toks) fun b ob q=>Heap.get?_push_of_some _ q
 obtain ⟨T,id,hT,ht,hg⟩:=hr pins { s3 with heap:=s3.heap.push { cls:=.type "slice", data:=.fields #[vl,vu,.none] } } σ H3 x v vl vu l u s3.heap.objs.size Q I4 r1 (Heap.IsSliceOf.new ..) pl pu q3
 show wpAny (model X.prog X.w) X.A (subscriptTail e (.Slice lo hi none p2) v (.ref s3.heap.objs.size)) (EP X pins σ Q) X.xe { s3 with heap:=s3.heap.push { cls:=.type "slice", data:=.fields #[vl,vu,.none] } }
 exact tail_any (ops:=[.ref s3.heap.objs.size,v]) ht hT hg (by with_unfolding_all rfl)
def cutV (xs:List V) (lo hi:Option Int):List V:=(xs.drop (HT.sIx xs.length 0 lo)).take (HT.sIx xs.length xs.length hi - HT.sIx xs.length 0 lo)
theorem cutV_length (xs:List V) (lo hi:Option Int):(cutV xs lo hi).length ≤ xs.length:=by
 unfold cutV
 rw [List.length_take,List.length_drop]
 omega
def rSlT (K:PySem.W.Frag):V→Option Int→Option Int→Hp→VK→Prop:=fun x lo hi H Q=>∃ a xs,x = .ref a∧SqT K H a xs∧
 ¬ (HT.sIx xs.length 0 lo = 0∧HT.sIx xs.length xs.length hi = xs.length)∧∀ p,H p = none→Q (.ref p) (upd H p (.tup (cutV xs lo hi)))
theorem sl_tup:SlR X (rSlT X.K):=by
 intro pins s σ H x v vl vu lo hi sl Q I rx hs pl pu h
 obtain ⟨a,xs,rfl,hx,hw,q⟩:=h
 cases rx
 obtain ⟨its,r,ht,hz⟩:=I.tuple hx
 have hlen:its.toArray.size = xs.length:=by rw [List.size_toArray]; exact r.length.symm
 refine ⟨"tuple", _,PyProof.Rows.slot_tuple_getitem.lookup,ht.typeIs,?_⟩
 refine HT.getItem_tuple_cut ht hs pl pu (by rw [hlen]; exact hw) ?_ (by rw [hlen]; exact hz)
 rw [hlen]
 refine ⟨.ref s.heap.objs.size,_,I.laid (t':=s.toks) (o:=.tup (cutV xs lo hi)) (fun b ob q=>Heap.get?_push_of_some _ q) (Nat.le_refl _) ?_,rfl,q _ (I.hok.fresh (Nat.le_refl _))⟩
 exact ⟨Nat.le_trans (cutV_length xs lo hi) hz,_,(r.drop (HT.sIx xs.length 0 lo)).take (HT.sIx xs.length xs.length hi - HT.sIx xs.length 0 lo),IsTupN.new _ _⟩
end
end L2
namespace L2
open PySem PySem.Spec PyProof.Rows
def ixN (n:Nat) (i:Int):Option Nat:=if 0 ≤ i then (if i < n then some i.toNat else none) else if -(n:Int) ≤ i then some (i + n).toNat else none
def atI {α : Type} (xs:List α) (i:Int):Option α:=(ixN xs.length i).bind fun j=>xs[j]?
theorem ixN_seq {n:Nat} {i:Int} {j:Nat} (h:ixN n i = some j):seqIndex? i n = some j∧j < n∧-(n:Int) ≤ i∧i < n:=by
 unfold ixN at h
 by_cases h0:0 ≤ i
 ·rw [if_pos h0] at h
  by_cases h1:i < n
  ·rw [if_pos h1] at h
   have e:i.toNat = j:=Option.some.inj h
   exact ⟨by rw [seqIndex_of h0 h1,e],by omega,by omega,h1⟩
  ·rw [if_neg h1] at h; cases h
 ·rw [if_neg h0] at h
  by_cases h1:-(n:Int) ≤ i
  ·rw [if_pos h1] at h
   have e:(i + n).toNat = j:=Option.some.inj h
   exact ⟨by rw [seqIndex_neg (by omega) h1,e],by omega,h1,by omega⟩
  ·rw [if_neg h1] at h; cases h
theorem atI_get {α : Type} {xs:List α} {i:Int} {v:α} (h:atI xs i = some v):∃ j,seqIndex? i xs.length = some j∧xs[j]? = some v∧j < xs.length∧-(xs.length:Int) ≤ i∧i < xs.length:=by
 unfold atI at h
 cases e:ixN xs.length i with
 | none=>rw [e] at h; cases h
 | some j=>
  rw [e] at h
  obtain ⟨h1,h2,h3,h4⟩:=ixN_seq e
  exact ⟨j,h1,h,h2,h3,h4⟩
theorem atI_nat {α : Type} {xs:List α} {j:Nat} {v:α} (h:xs[j]? = some v):atI xs (j:Int) = some v:=by
 have hj:j < xs.length:=(List.getElem?_eq_some_iff.mp h).1
 have e:ixN xs.length (j:Int) = some j:=by
  unfold ixN
  rw [if_pos (by omega),if_pos (by omega)]; simp
 unfold atI; rw [e]; exact h
def PlainIx (b:Expr):Prop:=∀ o i,subscripted b false o i = operate [o,i] (getItem o i)
def IxR (X:Cx) (r:R2):Prop:=
 ∀ (value slice:Expr) (pins:List (Addr × Obj)) (s:Shared) (σ : St) (H:Hp) (x y:V) (v u:Value) (Q:VK),Inv X pins σ H s→RelV x v→RelV y u→r x y H Q→
  subscripted slice false v u = operate [v,u] (getItem v u)→wpAny (model X.prog X.w) X.A (subscriptTail value slice v u) (EP X pins σ Q) X.xe s
def MtR (X:Cx) (id:String) (r:V→List V→Hp→VK→Prop):Prop:=
 ∀ (pins:List (Addr × Obj)) (s:Shared) (σ : St) (H:Hp) (x:V) (xs:List V) (v:Value) (us:List Value) (Q:VK),Inv X pins σ H s→RelV x v→Vals xs us→r x xs H Q→
  wpAny (model X.prog X.w) X.A (call (.builtin id) (v :: us)) (EP X pins σ Q) X.xe s
section
variable {X:Cx} {a b:Expr} {ta tb:TE} {pos:Pos}
theorem IxR.or {r r':R2} (h:IxR X r) (h':IxR X r'):IxR X (fun x y H Q=>r x y H Q∨r' x y H Q):=by
 intro value slice pins s σ H x y v u Q I rx ry q hs
 rcases q with q | q
 ·exact h value slice pins s σ H x y v u Q I rx ry q hs
 ·exact h' value slice pins s σ H x y v u Q I rx ry q hs
theorem pe_ix {r:R2} (hr:IxR X r) (ha:PE X a ta) (hb:PE X b tb) (hs:PlainIx b):PE X (.Subscript a b pos) (tOp r ta tb):=by
 intro pins s σ H Q I h
 exact Subscript_ (binT ha hb I h fun v u s2 x y H2 I2 rx ry q=>hr a b pins s2 σ H2 x y v u Q I2 rx ry q (hs _ _))
def rIxL (K:PySem.W.Frag):R2:=fun x y H Q=>∃ p xs i v,x = .ref p∧y = .int i∧SqL K H p xs∧atI xs i = some v∧Q v H
def rIxT (K:PySem.W.Frag):R2:=fun x y H Q=>∃ p xs i v,x = .ref p∧y = .int i∧SqT K H p xs∧atI xs i = some v∧Q v H
def rIxS:R2:=fun x y H Q=>∃ z i c,x = .str z∧y = .int i∧z.length ≤ sizeLine∧atI z.cps.toList i = some c∧Q (.str ⟨#[c]⟩) H
theorem ix_list:IxR X (rIxL X.K):=by
 intro value slice pins s σ H x y v u Q I rx ry h hs
 obtain ⟨p,xs,i,z,rfl,rfl,hq,he,q⟩:=h
 cases rx
 obtain ⟨t,rfl⟩:=ry
 obtain ⟨its,r,pl,hz⟩:=I.list hq
 obtain ⟨j,h1,h2,h3,h4,h5⟩:=atI_get he
 obtain ⟨w,ew,rw'⟩:=r.get h2
 have hl:=r.length
 have hn:=line63
 have fin:EP X pins σ Q w s:=⟨z,H,I,rw',q⟩
 by_cases h0:0 ≤ i
 ·have hj:i.toNat = j:=by
   rw [seqIndex_of h0 h5] at h1
   exact Option.some.inj h1
  exact item_listR pl.isList h0 (by omega) (by rw [hj]; simpa using ew) fin hs
 ·have hj:(i + (its.toArray.size:Int)).toNat = j:=by
   rw [seqIndex_neg (by omega) h4] at h1
   rw [List.size_toArray,← hl]
   exact Option.some.inj h1
  exact subscriptTail_builtinR (x:=w) pl.isList.typeIs slot_list_getitem.lookup
   (wpAny_getItem_list_neg (Q:=fun r s'=>r = w∧EP X pins σ Q r s') pl.isList (by omega) (by rw [List.size_toArray] <;> omega) (by omega) (by rw [hj]; simpa using ew) ⟨rfl,fin⟩) hs
theorem ix_tup:IxR X (rIxT X.K):=by
 intro value slice pins s σ H x y v u Q I rx ry h hs
 obtain ⟨p,xs,i,z,rfl,rfl,hq,he,q⟩:=h
 cases rx
 obtain ⟨t,rfl⟩:=ry
 obtain ⟨its,r,pl,hz⟩:=I.tuple hq
 obtain ⟨j,h1,h2,h3,h4,h5⟩:=atI_get he
 obtain ⟨w,ew,rw'⟩:=r.get h2
 have hl:=r.length
 have hn:=line63
 have fin:EP X pins σ Q w s:=⟨z,H,I,rw',q⟩
 exact subscriptTail_builtinR (x:=w) pl.typeIs slot_tuple_getitem.lookup
  (getItem_tuple (j:=j) (Q:=fun r s'=>r = w∧EP X pins σ Q r s') pl (by omega) (by omega) (by rw [List.size_toArray,← hl]; exact h1) (by simpa using ew) ⟨rfl,fin⟩) hs
theorem ix_str:IxR X rIxS:=by
 intro value slice pins s σ H x y v u Q I rx ry h hs
 obtain ⟨z,i,c,rfl,rfl,hz,he,q⟩:=h
 obtain ⟨t,rfl⟩:=rx
 obtain ⟨t',rfl⟩:=ry
 obtain ⟨j,h1,h2,h3,h4,h5⟩:=atI_get he
 have hl:z.cps.toList.length = z.length:=by simp [Str.length]
 rw [hl] at h1 h4 h5
 have hn:=line63
 exact tail_any (typeIs_str s z t) slot_str_getitem.lookup (getItem_str (c:=c) (by
  have e1:decide (i < -(2 ^ 63:Int)) = false:=decide_eq_false (by omega)
  have e2:decide (i ≥ 2 ^ 63) = false:=decide_eq_false (by omega)
  rw [e1,e2,Bool.or_false]) (by rw [h1]; simpa using h2) ⟨.str ⟨#[c]⟩,H,I.tok _,⟨_,rfl⟩,q⟩) hs
def rIx (K:PySem.W.Frag):R2:=fun x y H Q=>rIxL K x y H Q∨rIxT K x y H Q∨rIxS x y H Q
theorem ix_seq:IxR X (rIx X.K):=ix_list.or (ix_tup.or ix_str)
theorem slice_bounds (lo hi:Option Int) (n:Nat):(sliceBounds lo hi none n).1 = ((HT.sIx n 0 lo:Nat):Int)∧(sliceBounds lo hi none n).2.1 = ((HT.sIx n n hi:Nat):Int)∧(sliceBounds lo hi none n).2.2 = 1:=by
 refine ⟨?_,?_,rfl⟩
 ·cases lo with
  | none=>simp [sliceBounds,HT.sIx]
  | some i=>
   simp only [sliceBounds,HT.sIx,Option.getD_none,show (1:Int) > 0 by decide,if_true]
   by_cases h:i < 0
   ·simp only [h,if_true] <;> omega
   ·simp only [h,if_false] <;> omega
 ·cases hi with
  | none=>simp [sliceBounds,HT.sIx]
  | some i=>
   simp only [sliceBounds,HT.sIx,Option.getD_none,show (1:Int) > 0 by decide,if_true]
   by_cases h:i < 0
   ·simp only [h,if_true] <;> omega
   ·simp only [h,if_false] <;> omega
theorem slicePick_cut (its:List Value) (lo hi:Option Int):slicePick its.toArray lo hi none = ((its.drop (HT.sIx its.length 0 lo)).take (HT.sIx its.length its.length hi - HT.sIx its.length 0 lo)).toArray:=by
 obtain ⟨h1,h2,h3⟩:=slice_bounds lo hi its.toArray.size
 unfold slicePick
 rw [h1,h2,h3]
 simp only [sliceRange_one,pick_run,List.size_toArray] <;> rfl
def rSlL (K:PySem.W.Frag):V→Option Int→Option Int→Hp→VK→Prop:=fun x lo hi H Q=>∃ a xs,x = .ref a∧SqL K H a xs∧∀ p,H p = none→Q (.ref p) (upd H p (.lst (cutV xs lo hi)))
theorem sl_list:SlR X (rSlL X.K):=by
 intro pins s σ H x v vl vu lo hi sl Q I rx hs pl pu h
 obtain ⟨a,xs,rfl,hx,q⟩:=h
 cases rx
 obtain ⟨its,r,ht,hz⟩:=I.list hx
 have hlen:=r.length
 refine ⟨"list", _,slot_list_getitem.lookup,ht.isList.typeIs,?_⟩
 refine wpAny_getItem_list_slice ht.isList hs pl pu .none (by simp) ?_ (by rw [List.size_toArray] <;> omega)
 rw [slicePick_cut,← hlen]
 refine ⟨.ref s.heap.objs.size,_,I.laid (t':=s.toks) (o:=.lst (cutV xs lo hi)) (fun b ob q=>Heap.get?_push_of_some _ q) (Nat.le_refl _) ?_,rfl,q _ (I.hok.fresh (Nat.le_refl _))⟩
 exact ⟨Nat.le_trans (cutV_length xs lo hi) hz,_,0,(r.drop (HT.sIx xs.length 0 lo)).take (HT.sIx xs.length xs.length hi - HT.sIx xs.length 0 lo),Heap.get?_push_size _ rfl⟩
def flatV:V→Bool
 | .non=>true
 | .bl _=>true
 | .int _=>true
 | .str _=>true
 | _=>false
def eqV:V→V→Bool
 | .non,.non=>true
 | .bl a,.bl b=>a == b
 | .bl a,.int b=>(if a then 1 else 0) == b
 | .int a,.bl b=>a == (if b then 1 else 0)
 | .int a,.int b=>a == b
 | .str a,.str b=>a == b
 | _,_=>false
theorem eqAt_V {A:Around} {s:Shared} {y x:V} {u v:Value} (ry:RelV y u) (rx:RelV x v) (fy:flatV y = true) (fx:flatV x = true):SeqAt.EqAt A s u v (eqV y x):=by
 cases y with
 | non=>
  cases ry
  cases x with
  | non=>cases rx; exact SeqAt.EqAt.same _
  | bl b=>cases rx; exact SeqAt.EqAt.none_bool b
  | int b=>obtain ⟨t,rfl⟩:=rx; exact SeqAt.EqAt.none_int b t
  | str b=>obtain ⟨t,rfl⟩:=rx; exact SeqAt.EqAt.none_str b t
  | _=>exact absurd (show false = true from fx) Bool.false_ne_true
 | bl a=>
  cases ry
  cases x with
  | non=>cases rx; exact SeqAt.EqAt.bool_none a
  | bl b=>cases rx; exact SeqAt.EqAt.bool_bool a b
  | int b=>obtain ⟨t,rfl⟩:=rx; exact SeqAt.EqAt.bool_int a b t
  | str b=>obtain ⟨t,rfl⟩:=rx; exact SeqAt.EqAt.bool_str a b t
  | _=>exact absurd (show false = true from fx) Bool.false_ne_true
 | int a=>
  obtain ⟨t',rfl⟩:=ry
  cases x with
  | non=>cases rx; exact SeqAt.EqAt.int_none a t'
  | bl b=>cases rx; exact SeqAt.EqAt.int_bool a t' b
  | int b=>obtain ⟨t,rfl⟩:=rx; exact SeqAt.EqAt.int_int a t' b t
  | str b=>obtain ⟨t,rfl⟩:=rx; exact SeqAt.EqAt.int_str a t' b t
  | _=>exact absurd (show false = true from fx) Bool.false_ne_true
 | str a=>
  obtain ⟨t',rfl⟩:=ry
  cases x with
  | non=>cases rx; exact SeqAt.EqAt.str_none a t'
  | bl b=>cases rx; exact SeqAt.EqAt.str_bool a t' b
  | int b=>obtain ⟨t,rfl⟩:=rx; exact SeqAt.EqAt.str_int a t' b t
  | str b=>obtain ⟨t,rfl⟩:=rx; exact SeqAt.EqAt.str_str a t' b t
  | _=>exact absurd (show false = true from fx) Bool.false_ne_true
 | _=>exact absurd (show false = true from fy) Bool.false_ne_true
def eqU (x:V) (u:Value):Bool:=match u with
 | .none=>eqV .non x
 | .bool b=>eqV (.bl b) x
 | .int i _=>eqV (.int i) x
 | .str z _=>eqV (.str z) x
 | _=>false
theorem eqU_of {x y:V} {u:Value} (r:RelV y u) (f:flatV y = true):eqU x u = eqV y x:=by
 cases y with
 | non=>cases r; rfl
 | bl b=>cases r; rfl
 | int i=>obtain ⟨t,rfl⟩:=r; rfl
 | str z=>obtain ⟨t,rfl⟩:=r; rfl
 | _=>exact absurd (show false = true from f) Bool.false_ne_true
theorem any_eqU {x:V}:∀ {xs:List V} {us:List Value},Vals xs us→xs.all flatV = true→us.any (eqU x) = xs.any fun y=>eqV y x
 | _,_,.nil,_=>rfl
 | y :: xs,u :: us,.cons r t,f=>by
  rw [List.all_cons,Bool.and_eq_true] at f
  rw [List.any_cons,List.any_cons,eqU_of r f.1,any_eqU t f.2]
theorem mem_eqAt {A:Around} {s:Shared} {x:V} {v:Value} (rx:RelV x v) (fx:flatV x = true):∀ {xs:List V} {us:List Value},Vals xs us→xs.all flatV = true→∀ u ∈ us,SeqAt.EqAt A s u v (eqU x u)
 | _,_,.nil,_=>fun u hu=>by cases hu
 | y :: xs,u :: us,.cons r t,f=>fun u' hu=>by
  rw [List.all_cons,Bool.and_eq_true] at f
  rcases List.mem_cons.mp hu with rfl | hu
  ·rw [eqU_of r f.1]; exact eqAt_V r rx f.1 fx
  ·exact mem_eqAt rx fx t f.2 u' hu
def inV (x:V) (xs:List V):Bool:=xs.any fun y=>eqV y x
def rIn (K:PySem.W.Frag) (neg:Bool):R2:=fun x y H Q=>∃ p xs,y = .ref p∧(SqL K H p xs∨SqT K H p xs)∧flatV x = true∧xs.all flatV = true∧Q (.bl (if neg then !inV x xs else inV x xs)) H
theorem op_in_seq:OpR X (compareOp .In) (rIn X.K false):=by
 intro pins s σ H x y v u Q I rx ry h
 obtain ⟨p,xs,rfl,hq,fx,fs,q⟩:=h
 cases ry
 rcases hq with hq | hq
 ·obtain ⟨its,r,pl,hz⟩:=I.list hq
  refine SeqAt.in_listAt (eqU x) pl.isList (fun w hw=>mem_eqAt rx fx r fs w (by simpa using hw)) ⟨.bl _,H,I,rfl,?_⟩
  rw [show its.toArray.any (eqU x) = its.any (eqU x) by simp,any_eqU r fs]
  exact q
 ·obtain ⟨its,r,pl,hz⟩:=I.tuple hq
  refine SeqAt.in_tupleAt (eqU x) pl (fun w hw=>mem_eqAt rx fx r fs w (by simpa using hw)) ⟨.bl _,H,I,rfl,?_⟩
  rw [show its.toArray.any (eqU x) = its.any (eqU x) by simp,any_eqU r fs]
  exact q
theorem call_len_seq:CallR X (.builtin "len") (fun xs H Q=>∃ p ys,xs = [.ref p]∧(SqL X.K H p ys∨SqT X.K H p ys)∧Q (.int ys.length) H):=by
 intro pins s σ H xs us Q I r h
 obtain ⟨p,ys,rfl,hq,q⟩:=h
 obtain ⟨u,rfl,rx⟩:=vals1 r
 cases rx
 have hn:=line63
 rcases hq with hq | hq
 ·obtain ⟨its,r',pl,hz⟩:=I.list hq
  have hlen:=r'.length
  exact Calls.call_len_list pl.isList (by simp only [List.size_toArray] <;> omega) ⟨.int ys.length,H,I.tok _,⟨s.toks + 1,by rw [List.size_toArray,hlen]⟩,q⟩
 ·obtain ⟨its,r',pl,hz⟩:=I.tuple hq
  have hlen:=r'.length
  exact len_tuple pl (by simp only [List.size_toArray] <;> omega) ⟨.int ys.length,H,I.tok _,⟨s.toks + 1,by rw [List.size_toArray,hlen]⟩,q⟩
theorem call_len_str:CallR X (.builtin "len") (fun xs H Q=>∃ z,xs = [.str z]∧z.length ≤ sizeLine∧Q (.int z.length) H):=by
 intro pins s σ H xs us Q I r h
 obtain ⟨z,rfl,hz,q⟩:=h
 obtain ⟨u,rfl,t,rfl⟩:=vals1 r
 have hn:=line63
 exact len_str (by omega) ⟨.int z.length,H,I.tok _,⟨_,rfl⟩,q⟩
theorem call_list_of:CallR X (.type "list") (fun xs H Q=>∃ p ys,xs = [.ref p]∧(SqL X.K H p ys∨SqT X.K H p ys)∧∀ l,H l = none→Q (.ref l) (upd H l (.lst ys))):=by
 intro pins s σ H xs us Q I r h
 obtain ⟨p,ys,rfl,hq,q⟩:=h
 obtain ⟨u,rfl,rx⟩:=vals1 r
 cases rx
 have fin:∀ (its:List Value),Vals ys its→ys.length ≤ sizeLine→∀ (h':Heap) (c':Nat),(∀ b o',s.heap.get? b = some o'→h'.get? b = some o')→
   h'.get? s.heap.objs.size = some { cls:=.type "list", dict:=none,data:=.seq its.toArray c',slots:=#[] }→EP X pins σ Q (.ref s.heap.objs.size) { s with heap:=h' }:=fun its r' hz h' c' kp e=>
  ⟨.ref s.heap.objs.size,_,I.laid (t':=s.toks) kp (Nat.le_refl _) (show ObjOk X.prog X.w _ h' _ (.lst ys) from ⟨hz,its,c',r',e⟩),rfl,q _ (I.hok.fresh (Nat.le_refl _))⟩
 rcases hq with hq | hq
 ·obtain ⟨its,r',pl,hz⟩:=I.list hq
  have hlen:=r'.length
  obtain ⟨o,ho,hc,n,hd⟩:=pl.isList
  exact call_list_seq p (.inl rfl) ho hc hd (fun h' c' kp e=>fin its r' hz h' c' kp e) (by simp only [List.size_toArray] <;> omega)
 ·obtain ⟨its,r',pl,hz⟩:=I.tuple hq
  have hlen:=r'.length
  obtain ⟨o,ho,hc,n,hd⟩:=pl
  exact call_list_seq p (.inr rfl) ho hc hd (fun h' c' kp e=>fin its r' hz h' c' kp e) (by simp only [List.size_toArray] <;> omega)
def tyV (K:PySem.W.Frag) (T:String) (x:V) (H:Hp):Prop:=match x with
 | .str _=>T = "str"
 | .int _=>T = "int"
 | .ref p=>(T = "list" ∧ ∃ xs,SqL K H p xs)∨(T = "tuple" ∧ ∃ o,K.lookup p = some o∧o.cls = .type "tuple" ∧ o.dict = none)∨
   (T = "dict" ∧ ((∃ kvs,H p = some (.dK kvs))∨∃ kvs,H p = some (.dT kvs)))∨(T = "set" ∧ ∃ S n,H p = some (.set S n))
 | _=>False
theorem tyV_is {pins:List (Addr × Obj)} {σ : St} {H:Hp} {s:Shared} {T:String} {x:V} {v:Value} (I:Inv X pins σ H s) (r:RelV x v) (ty:tyV X.K T x H) :
  s.TypeIs v T∧∀ a,v = .ref a→∃ ob,s.heap.get? a = some ob∧ob.dict = none:=by
 cases x with
 | str z=>
  obtain ⟨t,rfl⟩:=r
  cases (show T = "str" from ty)
  exact ⟨typeIs_str s z t,fun _ e=>nomatch e⟩
 | int i=>
  obtain ⟨t,rfl⟩:=r
  cases (show T = "int" from ty)
  exact ⟨typeIs_int s i t,fun _ e=>nomatch e⟩
 | ref p=>
  cases r
  rcases ty with ⟨rfl,xs,hq⟩ | ⟨rfl,o,hk,hc,hd⟩ | ⟨rfl,hk⟩ | ⟨rfl,S,n,hk⟩
  ·obtain ⟨its,_,pl,_⟩:=I.list hq
   refine ⟨pl.isList.typeIs,fun a e=>?_⟩
   cases e
   obtain ⟨o,n,e,c,hd,_⟩:=pl
   exact ⟨o,e,hd⟩
  ·refine ⟨⟨o,I.kIn p o hk,hc⟩,fun a e=>?_⟩
   cases e
   exact ⟨o,I.kIn _ o hk,hd⟩
  ·have z:∃ o,s.heap.get? p = some o∧o.ExactDict:=by
    rcases hk with ⟨kvs,hk⟩ | ⟨kvs,hk⟩
    ·obtain ⟨_,_,_,_,o,_,_,e,ex,_⟩:=I.hok p _ hk
     exact ⟨o,e,ex⟩
    ·obtain ⟨_,_,_,_,o,_,_,e,ex,_⟩:=I.hok p _ hk
     exact ⟨o,e,ex⟩
   obtain ⟨o,e,ex⟩:=z
   refine ⟨⟨o,e,ex.1⟩,fun a e2=>?_⟩
   cases e2
   exact ⟨o,e,ex.2.1⟩
  ·obtain ⟨o,_,_,_,e,ex,_⟩:=I.hok p _ hk
   refine ⟨⟨o,e,ex.1⟩,fun a e2=>?_⟩
   cases e2
   exact ⟨o,e,ex.2.1⟩
 | _=>exact False.elim ty
def tBM0 (K:PySem.W.Frag) (T:String) (r:V→List V→Hp→VK→Prop) (to:TE):TE:=fun σ H Q=>to σ H fun x H1=>tyV K T x H1∧r x [] H1 Q
def tBM (K:PySem.W.Frag) (T:String) (r:V→List V→Hp→VK→Prop) (to:TE) (t:TA):TE:=fun σ H Q=>to σ H fun x H1=>tyV K T x H1∧t σ H1 fun xs H2=>r x xs H2 Q
variable {o e:Expr} {es:List Expr} {to:TE} {t:TA} {name:Str} {apos cpos:Pos} {T id:String} {r:V→List V→Hp→VK→Prop}
theorem pe_bm0 (pa:PlainAttrs T) (slot:Slot T name id) (hty:typeOf (.builtin id) = pure (.type "method_descriptor")) (hm:MtR X id r) (ho:PE X o to)
  (hbase:attributeBase o name X.env (eval o X.env) = eval o X.env:=by rfl) (hline:(apos.endLine == cpos.line) = true:=by rfl):PE X (.Call (.Attribute o name apos) [] [] cpos) (tBM0 X.K T r to):=by
 intro pins s σ H Q I h
 refine wpAny_Call_method0_late hbase hline (thn (ho pins s σ H _ I h) fun v s1 ⟨x,H1,I1,r1,ty,q1⟩=>?_)
 obtain ⟨h1,h2⟩:=tyV_is I1 r1 ty
 exact ⟨T,id,pa,slot,hty,h1,h2,Calls.callWith_builtin rfl (PySem.evalArgs_none (hm pins s1 σ H1 x [] v [] Q I1 r1 .nil q1))⟩
theorem pe_bm (pa:PlainAttrs T) (slot:Slot T name id) (hty:typeOf (.builtin id) = pure (.type "method_descriptor")) (hm:MtR X id r) (ho:PE X o to) (ha:PA X (e :: es) t)
  (hbase:attributeBase o name X.env (eval o X.env) = eval o X.env:=by rfl)
  (hfew:((backTo cpos (starEach (e :: es) X.env)).all (fun x=>!x.1) && (backToKw cpos (keywordEach [] X.env)).all (fun x=>x.1.isSome)
   && decide ((e :: es).length + ([]:List Keyword).length + (if ([]:List Keyword).isEmpty then 0 else 1) < 30)) = true:=by rfl)
  (hline:(apos.endLine == cpos.line) = true:=by rfl) (hs:starEach (e :: es) X.env = (false,eval e X.env) :: starEach es X.env:=by rfl) (hplain:(backTo cpos (starEach es X.env)).any (·.1) = false:=by rfl) :
  PE X (.Call (.Attribute o name apos) (e :: es) [] cpos) (tBM X.K T r to t):=by
 intro pins s σ H Q I h
 refine wpAny_Call_method_late hbase hfew hline rfl (thn (ho pins s σ H _ I h) fun v s1 ⟨x,H1,I1,r1,ty,q1⟩=>?_)
 obtain ⟨h1,h2⟩:=tyV_is I1 r1 ty
 refine ⟨T,id,pa,slot,hty,h1,h2,?_⟩
 have hA:=ha cpos pins s1 σ H1 _ I1 q1
 rw [hs] at hA ⊢
 refine Calls.callWith_builtin (by show (false || (backTo cpos (starEach es X.env)).any (·.1)) = false; rw [hplain] <;> rfl) (Calls.evalArgs_plain ?_)
 exact thn hA fun us s2 ⟨vs,H2,I2,r2,q2⟩=>hm pins s2 σ H2 x vs v us Q I2 r1 r2 q2
/- xs.append(e), list.index on a module's tuple .. are MtR facts of 06m -/
end
end L2
namespace L2
open PySem PySem.Spec PyProof.Rows
def MtM (X:Cx) (id:String) (r:V→List V→Hp→VK→Prop):Prop:=
 ∀ (pins:List (Addr × Obj)) (s:Shared) (σ : St) (H:Hp) (x:V) (xs:List V) (v:Value) (us:List Value) (Q:VK),Inv X pins σ H s→RelV x v→Vals xs us→r x xs H Q→
  wpAny (model X.prog X.w) X.A (call (.builtin id) (v :: us)) (EP X pins σ Q) X.xe s
theorem Vals.one:∀ {x:V} {us:List Value},Vals [x] us→∃ u,us = [u]∧RelV x u
 | _,_,.cons r .nil=>⟨_,rfl,r⟩
theorem Vals.zero:∀ {us:List Value},Vals [] us→us = []
 | _,.nil=>rfl
section
variable {X:Cx} {pins:List (Addr × Obj)} {σ : St} {H:Hp} {s:Shared} {l b:Addr} {xs ys zs:List V}
theorem Inv.lset {its its':List Value} {n:Nat} {f:Array Value→Array Value} {t':Nat} (I:Inv X pins σ H s) (hH:H l = some (.lst xs))
  (e:s.heap.get? l = some { cls:=.type "list", data:=.seq its.toArray n }) (hf:f its.toArray = its'.toArray) (hv:Vals ys its') (hz:ys.length ≤ sizeLine) :
  Inv X pins σ (upd H l (.lst ys)) { s with heap:=s.heap.update l (Obj.mapSeq f),toks:=t' }:=by
 have q:=PySem.IsL.update e f
 rw [hf] at q
 refine I.write (x:=l) (e:=l) (by rw [hH]; exact trivial) (.inl rfl) (fun b' u hb hu=>(Heap.get?_update_other s.heap (Obj.mapSeq f) (Ne.symm hb)).trans hu) ⟨_,q⟩ ?_
 exact ⟨hz,its',_,hv,q⟩
theorem Inv.lnew {its:List Value} {t':Nat} (I:Inv X pins σ H s) (hv:Vals ys its) (hz:ys.length ≤ sizeLine) :
  Inv X pins σ (upd H s.heap.objs.size (.lst ys)) { s with heap:=s.heap.push { cls:=.type "list", data:=.seq its.toArray },toks:=t' }:=
 I.laid (fun _ _ q=>Heap.get?_push_of_some _ q) (Nat.le_refl _) ⟨hz,its,0,hv,Heap.get?_push_size _ rfl⟩
theorem Inv.fresh (I:Inv X pins σ H s):H s.heap.objs.size = none:=I.hok.fresh (Nat.le_refl _)
theorem Inv.lstM (I:Inv X pins σ H s) (hH:H l = some (.lst xs)):xs.length ≤ sizeLine∧∃ (its:List Value) (n:Nat),Vals xs its∧xs.length = its.length∧s.heap.get? l = some { cls:=.type "list", data:=.seq its.toArray n }:=by
 obtain ⟨z,its,n,r,e⟩:=I.hok l _ hH
 exact ⟨z,its,n,r,r.length,e⟩
theorem notLongL {n:Nat} (h:n ≤ sizeLine):Builtin.List.listTooLong n = false:=by
 unfold Builtin.List.listTooLong
 exact decide_eq_false (by omega)
end
section
variable {X:Cx}
def rAppend:V→List V→Hp→VK→Prop:=fun x vs H Q=>∃ l xs y,x = .ref l∧vs = [y]∧H l = some (.lst xs)∧xs.length < sizeLine∧Q .non (upd H l (.lst (xs ++ [y])))
theorem mt_append:MtM X "list.append" rAppend:=by
 intro pins s σ H x vs v us Q I rx rv h
 obtain ⟨l,xs,y,rfl,rfl,hH,hz,q⟩:=h
 cases rx
 obtain ⟨u,rfl,ru⟩:=rv.one
 obtain ⟨z,its,n,r,hl,e⟩:=I.lstM hH
 refine call_meets F.slot_list_append ⟨_,e,rfl⟩ F.entry_list_append (F.args_list_append_2 _ _) (PySem.list_append l its.toArray n u (by rw [List.size_toArray]; omega)) ⟨e,?_⟩
 refine ⟨.non,_,I.lset (its':=its ++ [u]) hH e (by simp) (r.append (.cons ru .nil)) ?_,rfl,q⟩
 rw [List.length_append,List.length_singleton]
 omega
def rExtend:V→List V→Hp→VK→Prop:=fun x vs H Q=>∃ l b xs zs,x = .ref l∧vs = [.ref b]∧H l = some (.lst xs)∧H b = some (.lst zs)∧xs.length + zs.length ≤ sizeLine∧Q .non (upd H l (.lst (xs ++ zs)))
theorem mt_extend:MtM X "list.extend" rExtend:=by
 intro pins s σ H x vs v us Q I rx rv h
 obtain ⟨l,b,xs,zs,rfl,rfl,hH,hB,hz,q⟩:=h
 cases rx
 obtain ⟨u,rfl,ru⟩:=rv.one
 cases ru
 obtain ⟨z,its,n,r,hl,e⟩:=I.lstM hH
 obtain ⟨z2,its2,n2,r2,hl2,e2⟩:=I.lstM hB
 have hsz:its.toArray.size + its2.toArray.size ≤ sizeLine:=by rw [List.size_toArray,List.size_toArray]; omega
 have hlong:¬ (!its.toArray.isEmpty && Builtin.List.listTooLong (its.toArray.size + its2.toArray.size)) = true:=by
  rw [notLongL hsz,Bool.and_false]
  exact Bool.false_ne_true
 refine call_meets F.slot_list_extend ⟨_,e,rfl⟩ F.entry_list_extend (F.args_list_extend_2 _ _)
  (AutoSeq1.list_extend_list_list_0 l its.toArray n b its2.toArray n2 hlong (by rw [List.size_toArray]; omega) (by omega)) ⟨e,e2,?_⟩
 refine ⟨.non,_,I.lset (its':=its ++ its2) hH e (by simp) (r.append r2) ?_,rfl,q⟩
 rw [List.length_append]
 omega
def rCat:R2:=fun x y H Q=>∃ l b xs zs,x = .ref l∧y = .ref b∧H l = some (.lst xs)∧H b = some (.lst zs)∧xs.length + zs.length ≤ sizeLine∧∀ p,H p = none→Q (.ref p) (upd H p (.lst (xs ++ zs)))
theorem op_cat:OpR X (binaryOp .Add) rCat:=by
 intro pins s σ H x y v u Q I rx ry h
 obtain ⟨l,b,xs,zs,rfl,rfl,hH,hB,hz,q⟩:=h
 cases rx
 cases ry
 obtain ⟨z,its,n,r,hl,e⟩:=I.lstM hH
 obtain ⟨z2,its2,n2,r2,hl2,e2⟩:=I.lstM hB
 refine PySem.P.add_list e e2 ?_ (by rw [List.size_toArray,List.size_toArray]; omega)
 have ea:its.toArray ++ its2.toArray = (its ++ its2).toArray:=by simp
 rw [ea]
 exact ⟨.ref _,_,I.lnew (t':=s.toks) (r.append r2) (by rw [List.length_append]; omega),rfl,q _ I.fresh⟩
end
section
variable {prog:Program} {w:World} {A:Around} {E:Value→Shared→Prop} {s:Shared}
end
section
variable {X:Cx}
end
end L2
namespace L2
open PySem PySem.Spec PyProof.Rows
section
variable {κ : Type} [DecidableEq κ]
def valV (kvs:List (κ × V)) (k:κ):Option V:=(kvs.find? fun kv=>decide (kv.1 = k)).map (·.2)
def putK (kvs:List (κ × V)) (k:κ) (v:V):List (κ × V):=
 if (kvs.any fun kv=>decide (kv.1 = k)) = true then kvs.map (fun kv=>if kv.1 = k then (kv.1,v) else kv) else kvs ++ [(k,v)]
theorem valV_pos {p:κ × V} {r:List (κ × V)} {k:κ} (e:p.1 = k):valV (p :: r) k = some p.2:=by simp [valV,List.find?_cons,e]
theorem valV_neg {p:κ × V} {r:List (κ × V)} {k:κ} (e:¬ p.1 = k):valV (p :: r) k = valV r k:=by simp [valV,List.find?_cons,e]
theorem valV_any (k:κ):∀ kvs:List (κ × V),(kvs.any fun kv=>decide (kv.1 = k)) = (valV kvs k).isSome
 | []=>rfl
 | p :: r=>by
  rw [List.any_cons]
  by_cases e:p.1 = k
  ·simp only [valV_pos e,decide_eq_true e,Bool.true_or,Option.isSome_some]
  ·rw [valV_neg e,decide_eq_false e,Bool.false_or]; exact valV_any k r
theorem valV_map (k j:κ) (y:V):∀ kvs:List (κ × V),valV (kvs.map fun kv=>if kv.1 = k then (kv.1,y) else kv) j = (valV kvs j).map fun x=>if j = k then y else x
 | []=>rfl
 | p :: r=>by
  have ih:=valV_map k j y r
  rw [List.map_cons]
  by_cases h:p.1 = k
  ·rw [if_pos h]
   by_cases e:p.1 = j
   ·rw [valV_pos (p:=(p.1,y)) e,valV_pos e,Option.map_some,if_pos (e.symm.trans h)]
   ·rw [valV_neg (p:=(p.1,y)) e,valV_neg e,ih]
  ·rw [if_neg h]
   by_cases e:p.1 = j
   ·rw [valV_pos (p:=p) e,valV_pos e,Option.map_some,if_neg (fun z=>h (e.trans z))]
   ·rw [valV_neg (p:=p) e,valV_neg e,ih]
theorem valV_snoc (k j:κ) (y:V):∀ kvs:List (κ × V),valV kvs k = none→valV (kvs ++ [(k,y)]) j = if j = k then some y else valV kvs j
 | [],_=>by
  by_cases e:k = j
  ·rw [if_pos e.symm]; exact valV_pos (p:=(k,y)) e
  ·rw [if_neg (fun z=>e z.symm)]; exact valV_neg (p:=(k,y)) e
 | p :: r,hn=>by
  rw [List.cons_append]
  have hk:¬ p.1 = k:=fun z=>by rw [valV_pos z] at hn; cases hn
  rw [valV_neg hk] at hn
  have ih:=valV_snoc k j y r hn
  by_cases e:p.1 = j
  ·rw [valV_pos e,valV_pos e,if_neg (fun z=>hk (e.trans z))]
  ·rw [valV_neg e,valV_neg e,ih]
theorem valV_put (kvs:List (κ × V)) (k j:κ) (y:V):valV (putK kvs k y) j = if j = k then some y else valV kvs j:=by
 unfold putK
 by_cases a:(kvs.any fun kv=>decide (kv.1 = k)) = true
 ·rw [if_pos a,valV_map]
  rw [valV_any] at a
  by_cases e:j = k
  ·obtain ⟨x,hx⟩:=Option.isSome_iff_exists.mp a
   rw [if_pos e,e,hx,Option.map_some,if_pos rfl]
  ·rw [if_neg e]
   cases valV kvs j with
   | none=>rfl
   | some x=>rw [Option.map_some,if_neg e]
 ·rw [if_neg a]
  refine valV_snoc k j y kvs ?_
  rw [valV_any] at a
  cases q:valV kvs k with
  | none=>rfl
  | some x=>rw [q] at a; exact (a rfl).elim
theorem length_putK (kvs:List (κ × V)) (k:κ) (v:V):(putK kvs k v).length ≤ kvs.length + 1:=by
 unfold putK
 split
 ·rw [List.length_map]; omega
 ·rw [List.length_append,List.length_cons,List.length_nil]; omega
theorem RelO.isSome_eq {o:Option V} {u:Option Value} (r:RelO o u):o.isSome = u.isSome:=by
 cases o with
 | none=>cases u with
  | none=>rfl
  | some _=>exact (show False from r).elim
 | some _=>cases u with
  | none=>exact (show False from r).elim
  | some _=>rfl
theorem RelO.getD {o:Option V} {u:Option Value} {d:V} {d':Value} (r:RelO o u) (rd:RelV d d'):RelV (o.getD d) (u.getD d'):=by
 cases o with
 | none=>cases u with
  | none=>exact rd
  | some _=>exact (show False from r).elim
 | some _=>cases u with
  | none=>exact (show False from r).elim
  | some _=>exact r
theorem KV.val {kvs:List (κ × V)} {vs:List (κ × Value)} (r:KV kvs vs) (k:κ):RelO (valV kvs k) (valueAt vs k):=by
 unfold KV at r
 induction r with
 | nil=>exact True.intro
 | @cons p q ps qs h t ih=>
  obtain ⟨h1,h2⟩:=h
  by_cases e:p.1 = k
  ·have e':q.1 = k:=h1.symm.trans e
   have b:valueAt (q :: qs) k = some q.2:=by simp [valueAt,List.find?_cons,e']
   rw [valV_pos e,b]; exact h2
  ·have e':¬ q.1 = k:=fun z=>e (h1.trans z)
   have b:valueAt (q :: qs) k = valueAt qs k:=by simp [valueAt,List.find?_cons,e']
   rw [valV_neg e,b]; exact ih
theorem KV.any {kvs:List (κ × V)} {vs:List (κ × Value)} (r:KV kvs vs) (k:κ):(kvs.any fun kv=>decide (kv.1 = k)) = vs.any fun kv=>decide (kv.1 = k):=by
 unfold KV at r
 induction r with
 | nil=>rfl
 | cons h t ih=>rw [List.any_cons,List.any_cons,ih,h.1]
theorem KV.repl {kvs:List (κ × V)} {vs:List (κ × Value)} (r:KV kvs vs) (k:κ) {y:V} {u:Value} (ry:RelV y u) :
  KV (kvs.map fun kv=>if kv.1 = k then (kv.1,y) else kv) (vs.map fun kv=>if kv.1 = k then (kv.1,u) else kv):=by
 unfold KV at r ⊢
 induction r with
 | nil=>exact .nil
 | @cons p q ps qs h t ih=>
  rw [List.map_cons,List.map_cons]
  refine .cons ?_ ih
  obtain ⟨h1,h2⟩:=h
  by_cases e:p.1 = k
  ·rw [if_pos e,if_pos (h1.symm.trans e)]; exact ⟨h1,ry⟩
  ·rw [if_neg e,if_neg (fun z=>e (h1.trans z))]; exact ⟨h1,h2⟩
theorem KV.put {kvs:List (κ × V)} {vs:List (κ × Value)} (r:KV kvs vs) (k:κ) {y:V} {u:Value} (ry:RelV y u):KV (putK kvs k y) (stored vs k u):=by
 unfold putK stored
 rw [r.any k]
 by_cases e:(vs.any fun kv=>decide (kv.1 = k)) = true
 ·rw [if_pos e,if_pos e]; exact r.repl k ry
 ·rw [if_neg e,if_neg e]; exact Paired.snoc r ⟨rfl,ry⟩
theorem KV.length {kvs:List (κ × V)} {vs:List (κ × Value)} (r:KV kvs vs):kvs.length = vs.length:=Paired.length r
end
theorem kV_is {P:Program} {w:World} {k:Key} {u:Value} (r:RelV (kV k) u):(mixKind P w).is k u = true:=by
 cases k with
 | inl i=>obtain ⟨t,e⟩:=(show ∃ t,u = Value.int i t from r); subst e; exact mixKind_int P w i t
 | inr x=>obtain ⟨t,e⟩:=(show ∃ t,u = Value.str x t from r); subst e; exact mixKind_str P w x t
theorem items_are {P:Program} {w:World}:∀ {ks:List Key} {us:List Value},Vals (ks.map kV) us→ItemsAre (mixKind P w) ks us
 | [],_,r=>by rw [List.map_nil] at r; cases r; exact .nil
 | k :: ks,_,r=>by
  rw [List.map_cons] at r
  cases r with
  | cons h t=>exact .cons (kV_is h) (items_are t)
abbrev KT (H:Hp):List (List Key × V)→List (List Key × Addr × Value)→Prop:=Paired fun p q=>p.1 = q.1∧H q.2.1 = some (.tup (p.1.map kV))∧RelV p.2 q.2.2
theorem KT.val {H:Hp} {kvs:List (List Key × V)} {xs:List (List Key × Addr × Value)} (r:KT H kvs xs) (k:List Key):RelO (valV kvs k) ((atKey xs k).map (·.2)):=by
 induction r with
 | nil=>exact True.intro
 | @cons p q ps qs h t ih=>
  obtain ⟨h1,_,h2⟩:=h
  by_cases e:p.1 = k
  ·have e':q.1 = k:=h1.symm.trans e
   have b:atKey (q :: qs) k = some q.2:=by simp [atKey,List.find?_cons,e']
   rw [valV_pos e,b]; exact h2
  ·have e':¬ q.1 = k:=fun z=>e (h1.trans z)
   have b:atKey (q :: qs) k = atKey qs k:=by simp [atKey,List.find?_cons,e']
   rw [valV_neg e,b]; exact ih
theorem KT.repl {H:Hp} {kvs:List (List Key × V)} {xs:List (List Key × Addr × Value)} (r:KT H kvs xs) (k:List Key) {y:V} {u:Value} (ry:RelV y u) :
  KT H (kvs.map fun kv=>if kv.1 = k then (kv.1,y) else kv) (xs.map (putAt k u)):=by
 induction r with
 | nil=>exact .nil
 | @cons p q ps qs h t ih=>
  rw [List.map_cons,List.map_cons]
  refine .cons ?_ ih
  obtain ⟨h1,h2,h3⟩:=h
  unfold putAt
  by_cases e:p.1 = k
  ·rw [if_pos e,if_pos (h1.symm.trans e)]; exact ⟨h1,h2,ry⟩
  ·rw [if_neg e,if_neg (fun z=>e (h1.trans z))]; exact ⟨h1,h2,h3⟩
theorem KT.put {H:Hp} {kvs:List (List Key × V)} {xs:List (List Key × Addr × Value)} (r:KT H kvs xs) (k:List Key) {b:Addr} {y:V} {u:Value} (hb:H b = some (.tup (k.map kV))) (ry:RelV y u) :
  KT H (putK kvs k y) (storedH xs k b u):=by
 have e:(kvs.any fun kv=>decide (kv.1 = k)) = (atKey xs k).isSome:=by
  rw [valV_any,(r.val k).isSome_eq,Option.isSome_map]
 unfold putK storedH
 rw [e]
 by_cases q:(atKey xs k).isSome = true
 ·rw [if_pos q,if_pos q]; exact r.repl k ry
 ·rw [if_neg q,if_neg q]; exact Paired.snoc r ⟨rfl,hb,ry⟩
theorem KT.keeps {H H':Hp} {kvs:List (List Key × V)} {xs:List (List Key × Addr × Value)} (r:KT H kvs xs) (ht:∀ b ys,H b = some (.tup ys)→H' b = some (.tup ys)):KT H' kvs xs:=
 Paired.mapP r fun _ _ z=>⟨z.1,ht _ _ z.2.1,z.2.2⟩
section
variable {P:Program} {w:World} {H:Hp} {h:Heap} {a:Addr}
theorem rd_of {u:HO} (ok:HOk P w H h) (e:Rd H a u):ObjOk P w H h a u:=e.ok ok
theorem dk_rd {kvs:List (Key × V)} (ok:HOk P w H h) (e:Rd H a (.dK kvs)):kvs.length ≤ sizeLine∧(a == sysModules) = false∧∃ vs,KV kvs vs∧h.DictOf (mixKind P w) a vs:=
 show ObjOk P w H h a (.dK kvs) from rd_of ok e
theorem dk_of {kvs:List (Key × V)} (ok:HOk P w H h) (e:H a = some (.dK kvs)):kvs.length ≤ sizeLine∧(a == sysModules) = false∧∃ vs,KV kvs vs∧h.DictOf (mixKind P w) a vs:=dk_rd ok (.inl e)
theorem key_of {ks:List Key} (ok:HOk P w H h) (e:H a = some (.tup (ks.map kV))):(tupleKind (mixKind P w)).is h ks a:=by
 obtain ⟨_,its,r,o,h1,h2,_,n,h3⟩:=(show ObjOk P w H h a (.tup (ks.map kV)) from ok a _ e)
 exact ⟨o,its.toArray,n,h1,h2,h3,by simpa using items_are r⟩
theorem dt_rd {kvs:List (List Key × V)} (ok:HOk P w H h) (e:Rd H a (.dT kvs)):kvs.length ≤ sizeLine∧(a == sysModules) = false∧
  ∃ xs,KT H kvs xs∧h.DictOfH (tupleKind (mixKind P w)) a xs:=by
 obtain ⟨z,y,xs,r,o,es,ep,h1,h2,h3,h4,h5⟩:=(show ObjOk P w H h a (.dT kvs) from rd_of ok e)
 refine ⟨z,y,xs,r,o,es,ep,h1,h2,h3,h4,fun x hx=>?_,h5⟩
 have all:∀ {l:List (List Key × V)} {m:List (List Key × Addr × Value)},KT H l m→∀ x ∈ m,(tupleKind (mixKind P w)).is h x.1 x.2.1:=by
  intro l m q
  induction q with
  | nil=>intro x hx; exact nomatch hx
  | @cons p q ps qs hq t ih=>
   intro x hx
   rcases List.mem_cons.mp hx with e | hx
   ·subst e
    exact key_of ok (by rw [← hq.1]; exact hq.2.1)
   ·exact ih x hx
 exact all r x hx
theorem dt_of {kvs:List (List Key × V)} (ok:HOk P w H h) (e:H a = some (.dT kvs)):kvs.length ≤ sizeLine∧(a == sysModules) = false∧
  ∃ xs,KT H kvs xs∧h.DictOfH (tupleKind (mixKind P w)) a xs:=dt_rd ok (.inl e)
end
def DGet (H:Hp) (a:Addr) (y:V) (r:Option V):Prop:=
 (∃ kvs k,Rd H a (.dK kvs)∧y = kV k∧r = valV kvs k)∨∃ kvs k b,Rd H a (.dT kvs)∧y = .ref b∧H b = some (.tup (k.map kV))∧r = valV kvs k
def DPut (H:Hp) (a:Addr) (y v:V) (H':Hp):Prop:=
 (∃ kvs k,H a = some (.dK kvs)∧y = kV k∧kvs.length < sizeLine∧H' = upd H a (.dK (putK kvs k v)))∨
 ∃ kvs k b,H a = some (.dT kvs)∧y = .ref b∧H b = some (.tup (k.map kV))∧kvs.length < sizeLine∧H' = upd H a (.dT (putK kvs k v))
theorem DGet.k {H:Hp} {a:Addr} {kvs:List (Key × V)} {k:Key} (e:H a = some (.dK kvs)):DGet H a (kV k) (valV kvs k):=.inl ⟨kvs,k,.inl e,rfl,rfl⟩
theorem DGet.t {H:Hp} {a b:Addr} {kvs:List (List Key × V)} {k:List Key} (e:H a = some (.dT kvs)) (eb:H b = some (.tup (k.map kV))):DGet H a (.ref b) (valV kvs k):=.inr ⟨kvs,k,b,.inl e,rfl,eb,rfl⟩
theorem DPut.k {H:Hp} {a:Addr} {kvs:List (Key × V)} {k:Key} {v:V} (e:H a = some (.dK kvs)) (hl:kvs.length < sizeLine):DPut H a (kV k) v (upd H a (.dK (putK kvs k v))):=.inl ⟨kvs,k,e,rfl,hl,rfl⟩
theorem DPut.t {H:Hp} {a b:Addr} {kvs:List (List Key × V)} {k:List Key} {v:V} (e:H a = some (.dT kvs)) (eb:H b = some (.tup (k.map kV))) (hl:kvs.length < sizeLine) :
  DPut H a (.ref b) v (upd H a (.dT (putK kvs k v))):=.inr ⟨kvs,k,b,e,rfl,eb,hl,rfl⟩
section
variable {X:Cx} {pins:List (Addr × Obj)} {σ : St} {H:Hp} {s:Shared} {a:Addr} {y v:V} {u r:Value} {o:Option V} {A:Around} {E:Value→Shared→Prop}
theorem Inv.big (I:Inv X pins σ H s):sysModules < s.heap.objs.size:=by
 have h:mainGlobals < s.heap.objs.size:=(I.mod.glob.keeps I.bk).lt
 exact Nat.lt_trans (by decide) h
theorem d_in {Q:Value→Shared→Prop} (hu:A.units + 1 < cLine) (I:Inv X pins σ H s) (g:DGet H a y o) (ry:RelV y u) (h:∀ s',Inv X pins σ H s'→Q (.bool o.isSome) s') :
  wpAny (model X.prog X.w) A (compareOp .In u (.ref a)) Q E s:=by
 rcases g with ⟨kvs,k,e,ey,l⟩ | ⟨kvs,k,b,e,ey,eb,l⟩
 ·subst ey
  obtain ⟨z,hd,vs,rel,dd⟩:=dk_rd I.hok e
  refine wpAny_in_of (kV_is ry) hd dd.mapOf ?_
  rw [← (rel.val k).isSome_eq,← l]
  exact h _ (I.tok _)
 ·subst ey
  cases (show u = Value.ref b from ry)
  obtain ⟨z,hd,xs,rel,dd⟩:=dt_rd I.hok e
  refine wpAny_in_heap (tupleKind_room_in1 hu) (key_of I.hok eb) hd dd ?_
  have q:=(rel.val k).isSome_eq
  rw [Option.isSome_map] at q
  rw [← q,← l]
  exact h _ (I.tok _)
theorem d_notIn {Q:Value→Shared→Prop} (hu:A.units + 1 < cLine) (I:Inv X pins σ H s) (g:DGet H a y o) (ry:RelV y u) (h:∀ s',Inv X pins σ H s'→Q (.bool (!o.isSome)) s') :
  wpAny (model X.prog X.w) A (compareOp .NotIn u (.ref a)) Q E s:=by
 rcases g with ⟨kvs,k,e,ey,l⟩ | ⟨kvs,k,b,e,ey,eb,l⟩
 ·subst ey
  obtain ⟨z,hd,vs,rel,dd⟩:=dk_rd I.hok e
  refine wpAny_notIn_of (kV_is ry) hd dd.mapOf ?_
  rw [← (rel.val k).isSome_eq,← l]
  exact h _ (I.tok _)
 ·subst ey
  cases (show u = Value.ref b from ry)
  obtain ⟨z,hd,xs,rel,dd⟩:=dt_rd I.hok e
  refine wpAny_notIn_heap (tupleKind_room_in1 hu) (key_of I.hok eb) hd dd ?_
  have q:=(rel.val k).isSome_eq
  rw [Option.isSome_map] at q
  rw [← q,← l]
  exact h _ (I.tok _)
theorem d_write {h':Heap} {t':Nat} {ob:HO} (I:Inv X pins σ H s) (mu:Mut (H a)) (hs:Heap.SameBut a s.heap h') (he:∃ q,h'.get? a = some q) (new:ObjOk X.prog X.w (upd H a ob) h' a ob) :
  Inv X pins σ (upd H a ob) { s with heap:=h',toks:=t' }:=
 I.write (x:=a) (e:=a) mu (.inl rfl) (fun b q hb z=>(hs.2 b hb).trans z) he new
theorem dk_new {P:Program} {w:World} {H':Hp} {h':Heap} {kvs:List (Key × V)} {vs:List (Key × Value)} (z:kvs.length ≤ sizeLine) (hd:(a == sysModules) = false) (rel:KV kvs vs) (dd:h'.DictOf (mixKind P w) a vs) :
  ObjOk P w H' h' a (.dK kvs):=⟨z,hd,vs,rel,dd⟩
theorem d_setItem {H':Hp} {Q:Unit→Shared→Prop} (hu:A.units + 1 < cLine) (I:Inv X pins σ H s) (g:DPut H a y v H') (ry:RelV y u) (rv:RelV v r) (h:∀ s',Inv X pins σ H' s'→Q () s') :
  wpAny (model X.prog X.w) A (setItem (.ref a) u r) Q E s:=by
 rcases g with ⟨kvs,k,e,ey,l,eH⟩ | ⟨kvs,k,b,e,ey,eb,l,eH⟩
 ·subst ey eH
  obtain ⟨z,hd,vs,rel,dd⟩:=dk_of I.hok e
  have hz:vs.length ≤ sizeLine:=by rw [← rel.length]; exact z
  have hl:(putK kvs k v).length ≤ sizeLine:=by have:=length_putK kvs k v; omega
  refine wpAny_setItem_pairs (hsz:=hz) (kV_is ry) dd fun h' dd' hs=>h _ ?_
  have he:∃ q,h'.get? a = some q:=let ⟨q,_,_,hq,_⟩:=dd'; ⟨q,hq⟩
  exact d_write I (by rw [e]; exact True.intro) hs he (dk_new hl hd (rel.put k rv) dd')
 ·subst ey eH
  cases (show u = Value.ref b from ry)
  obtain ⟨z,hd,xs,rel,dd⟩:=dt_of I.hok e
  have hz:xs.length ≤ sizeLine:=by rw [← Paired.length rel]; exact z
  have hl:(putK kvs k v).length ≤ sizeLine:=by have:=length_putK kvs k v; omega
  refine wpAny_setItem_heap (hsz:=hz) (tupleKind_room_in1 hu) (key_of I.hok eb) dd fun h' dd' hs=>h _ ?_
  obtain ⟨q,es,ep,hq,h2,h3,h4,_,h5⟩:=dd'
  refine d_write I (by rw [e]; exact True.intro) hs ⟨q,hq⟩ ⟨hl,hd,_,(rel.put k eb rv).keeps fun c ys ec=>?_,q,es,ep,hq,h2,h3,h4,h5⟩
  rw [upd_ne (ne_of ec e (fun z=>nomatch z))]
  exact ec
end
section
variable {X:Cx} {pins:List (Addr × Obj)} {σ : St} {H:Hp} {s:Shared} {a:Addr} {kvs:List (Key × V)} {k:Key} {u:Value} {A:Around} {E:Value→Shared→Prop}
end
section
variable {X:Cx} {o i e value:Expr} {pos pos' tpos:Pos} {td ty tv:TE}
end
theorem dk_empty {P:Program} {w:World} {H:Hp} (h:Heap) (hb:sysModules < h.objs.size):ObjOk P w H (h.push { cls:=.type "dict", data:=.dict #[] }) h.objs.size (.dK []):=
 ⟨Nat.zero_le _,beq_eq_false_iff_ne.mpr (Ne.symm (Nat.ne_of_lt hb)),[],.nil,Heap.DictOf.new h⟩
theorem dt_empty {P:Program} {w:World} {H:Hp} (h:Heap) (hb:sysModules < h.objs.size):ObjOk P w H (h.push { cls:=.type "dict", data:=.dict #[] }) h.objs.size (.dT []):=
 ⟨Nat.zero_le _,beq_eq_false_iff_ne.mpr (Ne.symm (Nat.ne_of_lt hb)),[],.nil,_,#[],0,Heap.get?_push_size _ rfl,⟨rfl,rfl,rfl⟩,rfl,rfl,List.nodup_nil⟩
def tDNewK:TE:=fun _ H Q=>∀ p,H p = none→Q (.ref p) (upd H p (.dK []))
def tDNewT:TE:=fun _ H Q=>∀ p,H p = none→Q (.ref p) (upd H p (.dT []))
section
variable {X:Cx} {pos:Pos}
theorem pe_dnewK:PE X (.Dict [] [] pos) tDNewK:=fun pins s σ H Q I h=>
 wpAny_Dict_empty ⟨.ref s.heap.objs.size,_,I.laid (a:=s.heap.objs.size) (o:=.dK []) (t':=s.toks) (fun _ _ q=>Heap.get?_push_of_some _ q) (Nat.le_refl _) (dk_empty s.heap I.big),rfl,h _ (I.hok.fresh (Nat.le_refl _))⟩
theorem pe_dnewT:PE X (.Dict [] [] pos) tDNewT:=fun pins s σ H Q I h=>
 wpAny_Dict_empty ⟨.ref s.heap.objs.size,_,I.laid (a:=s.heap.objs.size) (o:=.dT []) (t':=s.toks) (fun _ _ q=>Heap.get?_push_of_some _ q) (Nat.le_refl _) (dt_empty s.heap I.big),rfl,h _ (I.hok.fresh (Nat.le_refl _))⟩
end
def tPairs:List (TE × TE)→St→Hp→(List (V × V)→Hp→Prop)→Prop
 | [],_,H,Q=>Q [] H
 | (tk,tv) :: r,σ,H,Q=>tk σ H fun x H1=>tv σ H1 fun y H2=>tPairs r σ H2 fun ps H3=>Q ((x,y) :: ps) H3
abbrev VV:List (V × V)→List (Value × Value)→Prop:=Paired fun p q=>RelV p.1 q.1∧RelV p.2 q.2
def PPs (X:Cx) (pos:Pos) (keys:List (Option Expr)) (values:List Expr) (trs:List (TE × TE)):Prop:=
 ∀ (pins:List (Addr × Obj)) (s:Shared) (σ : St) (H:Hp) (Q:List (V × V)→Hp→Prop),Inv X pins σ H s→tPairs trs σ H Q→
  wpAny (model X.prog X.w) X.A (evalPairs (pairTrees keys values X.env pos)) (fun vs s'=>∃ ps H',Inv X pins σ H' s'∧VV ps vs∧Q ps H') X.xe s
theorem pps_nil {X:Cx} {pos:Pos}:PPs X pos [] [] []:=fun pins s σ H Q I h=>pairTrees_nil_walk ⟨[],H,I,.nil,h⟩
theorem pps_cons {X:Cx} {pos:Pos} {k v:Expr} {ks:List (Option Expr)} {vs:List Expr} {tk tv:TE} {trs:List (TE × TE)} (hk:PE X k tk) (hv:PE X v tv) (hr:PPs X pos ks vs trs) :
  PPs X pos (some k :: ks) (v :: vs) ((tk,tv) :: trs):=fun pins s σ H Q I h=>
 pairTrees_cons_walk (thn (hk pins s σ H _ I h) fun u s1 ⟨x,H1,I1,rx,q1⟩=>thn (hv pins s1 σ H1 _ I1 q1) fun w2 s2 ⟨y,H2,I2,ry,q2⟩=>
  thn (hr pins s2 σ H2 _ I2 q2) fun ws s3 ⟨ps,H3,I3,rel,q3⟩=>⟨(x,y) :: ps,H3,I3,.cons ⟨rx,ry⟩ rel,q3⟩)
def mergeK (kvs more:List (Key × V)):List (Key × V):=more.foldl (fun acc kv=>putK acc kv.1 kv.2) kvs
theorem KV.merge:∀ {more:List (Key × V)} {rs:List (Key × Value)} {kvs:List (Key × V)} {vs:List (Key × Value)},KV more rs→KV kvs vs→KV (mergeK kvs more) (merged vs rs):=by
 intro more rs kvs vs r
 unfold KV at r
 induction r generalizing kvs vs with
 | nil=>intro q; exact q
 | @cons p q ps qs h t ih=>
  intro r0
  have e:KV (putK kvs p.1 p.2) (stored vs q.1 q.2):=by
   have:=r0.put p.1 h.2
   rw [← h.1]; exact this
  exact ih e
theorem length_mergeK:∀ (more kvs:List (Key × V)),(mergeK kvs more).length ≤ kvs.length + more.length
 | [],kvs=>by show kvs.length ≤ kvs.length + 0; omega
 | p :: r,kvs=>by
  have h1:=length_mergeK r (putK kvs p.1 p.2)
  have h2:=length_putK kvs p.1 p.2
  show (mergeK (putK kvs p.1 p.2) r).length ≤ _
  rw [List.length_cons]; omega
theorem carries_of {P:Program} {w:World}:∀ {kvs:List (Key × V)} {ws:List (Value × Value)},VV (kvs.map fun kv=>(kV kv.1,kv.2)) ws→∃ rs,Carries (mixKind P w) ws rs∧KV kvs rs
 | [],_,r=>by rw [List.map_nil] at r; cases r; exact ⟨[],True.intro,.nil⟩
 | p :: kvs,_,r=>by
  rw [List.map_cons] at r
  cases r with
  | @cons a b as bs h t=>
   obtain ⟨rs,c,q⟩:=carries_of (P:=P) (w:=w) t
   obtain ⟨b1,b2⟩:=b
   exact ⟨(p.1,b2) :: rs,⟨kV_is h.1,rfl,c⟩,.cons ⟨rfl,h.2⟩ q⟩
def tDisp (trs:List (TE × TE)):TE:=fun σ H Q=>∀ p,H p = none→tPairs trs σ (upd H p (.dK [])) fun ps H2=>H2 p = some (.dK [])∧∃ kvs:List (Key × V),ps = kvs.map (fun kv=>(kV kv.1,kv.2))∧kvs.length ≤ 15∧Q (.ref p) (upd H2 p (.dK (mergeK [] kvs)))
theorem pe_disp {X:Cx} {pos:Pos} {keys:List (Option Expr)} {values:List Expr} {trs:List (TE × TE)} (h:PPs X pos keys values trs) (hall:keys.all (·.isSome) = true) (hl:keys.length = values.length) (h0:keys ≠ [])
  (h15:keys.length ≤ 15):PE X (.Dict keys values pos) (tDisp trs):=by
 intro pins s σ H Q I q
 have hn:=I.hok.fresh (Nat.le_refl s.heap.objs.size)
 have I1:=I.laid (a:=s.heap.objs.size) (o:=.dK []) (h':=s.heap.push { cls:=.type "dict", data:=.dict #[] }) (t':=s.toks) (fun _ _ q=>Heap.get?_push_of_some _ q) (Nat.le_refl _) (dk_empty s.heap I.big)
 refine wpAny_Dict_walk (knd:=mixKind X.prog X.w) hall hl h0 h15 (thn (h pins _ σ _ _ I1 (q _ hn)) fun ws s2 ⟨ps,H2,I2,rel,e,kvs,ep,lk,q2⟩=>?_)
 subst ep
 obtain ⟨rs,c,rk⟩:=carries_of (P:=X.prog) (w:=X.w) rel
 obtain ⟨z,hd,vs0,r0,dd⟩:=dk_of I2.hok e
 cases r0
 refine ⟨rs,c,dd,fun h' dd' hs=>⟨.ref s.heap.objs.size,_,?_,rfl,q2⟩⟩
 have hz:(mergeK [] kvs).length ≤ sizeLine:=by
  have h1:=length_mergeK kvs []
  rw [List.length_nil] at h1
  rw [sizeLine_eq]; omega
 have he:∃ q,h'.get? s.heap.objs.size = some q:=let ⟨q,_,_,hq,_⟩:=dd'; ⟨q,hq⟩
 exact d_write I2 (by rw [e]; exact True.intro) hs he (dk_new hz hd (rk.merge .nil) dd')
structure M2 (X:Cx) (o:Expr) (m:Str) (apos:Pos) (e f:Expr) (cpos:Pos):Prop where
 base:attributeBase o m X.env (eval o X.env) = eval o X.env
 few:((backTo cpos (starEach [e,f] X.env)).all (fun x=>!x.1) && (backToKw cpos (keywordEach [] X.env)).all (fun x=>x.1.isSome)
  && decide (([e,f]:List Expr).length + ([]:List Keyword).length + (if ([]:List Keyword).isEmpty then 0 else 1) < 30)) = true
 line:(apos.endLine == cpos.line) = true
 trees:backTo cpos (starEach [e,f] X.env) = [(false,eval e X.env),(false,eval f X.env)]
def IsD (H:Hp) (a:Addr):Prop:=(∃ kvs,Rd H a (.dK kvs))∨∃ kvs,Rd H a (.dT kvs)
theorem isD_at {X:Cx} {pins:List (Addr × Obj)} {σ : St} {H:Hp} {s:Shared} {a:Addr} (I:Inv X pins σ H s) (d:IsD H a) :
  s.TypeIs (.ref a) "dict" ∧ (∀ b,Value.ref a = .ref b→∃ ob,s.heap.get? b = some ob∧ob.dict = none)∧(a == sysModules) = false:=by
 rcases d with ⟨kvs,e⟩ | ⟨kvs,e⟩
 ·obtain ⟨_,hd,vs,_,dd⟩:=dk_rd I.hok e
  refine ⟨dd.typeIs,fun b q=>?_,hd⟩
  cases q
  obtain ⟨ob,_,_,h1,h2,_⟩:=dd
  exact ⟨ob,h1,h2.2.1⟩
 ·obtain ⟨_,hd,xs,_,dd⟩:=dt_rd I.hok e
  refine ⟨dd.typeIs,fun b q=>?_,hd⟩
  cases q
  obtain ⟨ob,_,_,h1,h2,_⟩:=dd
  exact ⟨ob,h1,h2.2.1⟩
section
variable {X:Cx} {pins:List (Addr × Obj)} {σ : St} {H:Hp} {s:Shared} {a:Addr} {y d:V} {u r:Value} {o:Option V} {A:Around} {E:Value→Shared→Prop}
theorem d_get2 {Q:Value→Shared→Prop} (hu:A.units + 1 < cLine) (I:Inv X pins σ H s) (g:DGet H a y o) (ry:RelV y u) (rd:RelV d r) (h:∀ w' s',Inv X pins σ H s'→RelV (o.getD d) w'→Q w' s') :
  wpAny (model X.prog X.w) A (call (.builtin "dict.get") [.ref a,u,r]) Q E s:=by
 rcases g with ⟨kvs,k,e,ey,l⟩ | ⟨kvs,k,b,e,ey,eb,l⟩
 ·subst ey
  obtain ⟨z,hd,vs,rel,dd⟩:=dk_rd I.hok e
  refine call_meetsIn PySem.F.slot_dict_get dd.typeIs PySem.F.entry_dict_get (PySem.F.args_dict_get_3 _ _ _) (meets_dict_get_default (mixKind X.prog X.w) a (kV_is ry) hd r) ⟨_,dd.mapOf,h _ _ (I.tok _) ?_⟩
  rw [l]
  exact (rel.val k).getD rd
 ·subst ey
  cases (show u = Value.ref b from ry)
  obtain ⟨z,hd,xs,rel,dd⟩:=dt_rd I.hok e
  refine call_meetsIn PySem.F.slot_dict_get dd.typeIs PySem.F.entry_dict_get (PySem.F.args_dict_get_3 _ _ _) (meetsH_dict_get_default (tupleKind (mixKind X.prog X.w)) a b hd r) ⟨tupleKind_room_in1 hu,k,xs,key_of I.hok eb,dd,h _ _ (I.tok _) ?_⟩
  rw [l]
  exact (rel.val k).getD rd
end
def tDGet2 (td ty tx:TE):TE:=fun σ H Q=>td σ H fun x H1=>∃ a,x = .ref a∧IsD H1 a∧ty σ H1 fun y H2=>tx σ H2 fun z H3=>∃ o,DGet H3 a y o∧Q (o.getD z) H3
section
variable {X:Cx} {o e f:Expr} {apos cpos:Pos} {td ty tx:TE}
theorem pe_dget2 (hu:X.A.units + 1 < cLine) (ho:PE X o td) (he:PE X e ty) (hf:PE X f tx) (m:M2 X o "get" apos e f cpos):PE X (.Call (.Attribute o "get" apos) [e,f] [] cpos) (tDGet2 td ty tx):=by
 intro pins s σ H Q I h
 refine wpAny_Call_method m.base m.few m.line PySem.F.plainAttrs_dict PySem.F.slot_dict_get PySem.F.type_dict_get (thn (ho pins s σ H _ I h) fun u s1 ⟨x,H1,I1,rx,a,ex,d,q1⟩=>?_)
 subst ex
 obtain rfl:u = Value.ref a:=rx
 obtain ⟨t1,t2,_⟩:=isD_at I1 d
 refine ⟨t1,t2,?_⟩
 rw [m.trees]
 refine Calls.callWith_builtin rfl (Calls.evalArgs_plain (Calls.spliced_cons (thn (he pins s1 σ H1 _ I1 q1) fun iv s2 ⟨y,H2,I2,ry,q2⟩=>
  Calls.spliced_cons (thn (hf pins s2 σ H2 _ I2 q2) fun fv s3 ⟨z,H3,I3,rz,ov,g,q3⟩=>Calls.spliced_nil ?_))))
 exact d_get2 hu I3 g ry rz fun w' s4 I4 rw'=>⟨_,H3,I4,rw',q3⟩
end
section
variable {X:Cx} {pins:List (Addr × Obj)} {σ : St} {H:Hp} {s:Shared} {a:Addr} {kvs:List (Key × V)} {A:Around} {E:Value→Shared→Prop}
end
section
variable {X:Cx} {pins:List (Addr × Obj)} {σ : St} {H:Hp} {s:Shared} {a:Addr} {y:V} {u:Value} {A:Around} {E:Value→Shared→Prop}
end
end L2
namespace Att
open PySem PySem.W PySem.Calls PyProof.Rows
theorem ints_of_wellAll {P:Params} {h:Heap}:∀ (ns:List Int) (vs:List Value),WellAll P h vs (ns.map WData.int)→IntsAre vs ns:=by
 intro ns
 induction ns with
 | nil=>
  intro vs w
  rw [List.map_nil] at w
  cases w
  exact .nil
 | cons n ns ih=>
  intro vs w
  rw [List.map_cons] at w
  cases w with
  | cons a b=>
   cases a
   exact .cons _ _ (ih _ b)
theorem script_of {l:OpenLaw} {n:Nat} (hn:l.most = some n) {P:Params} {h:Heap} {args:List WData} {vals:List Value}
  (hpre:l.row.toRowW.claim.pre args = true) (hwl:WellAll P h vals args) :
  ∃ a vs ns,vals = [Value.ref a]∧args = [WData.list (ns.map WData.int)]∧h.get? a = some { cls:=.type "list", data:=.seq vs.toArray }∧IntsAre vs ns∧ns.length ≤ n:=by
 have hsh:WShape.hasAll [] args [.list .int] = true:=(pre_splitW hpre).1
 have hc:l.pre.holds [] { args:=args } = true:=(pre_splitW hpre).2
 obtain ⟨d,r,rfl,h1,h2⟩:=hasAllW_cons hsh
 obtain rfl:=hasAllW_nil h2
 obtain ⟨xs,rfl,h3⟩:=hasW_list h1
 obtain ⟨ns,rfl⟩:=items_int h3
 have hlen:ns.length ≤ n:=by
  unfold OpenLaw.pre at hc
  have h4:(WTm.not (.lt (.lit (.int (n:Int))) (.len (.arg 0)))).holds [] { args:=[.list (ns.map .int)] } = true:=by
   have h4:=(holds_andW hc).1
   rw [hn] at h4
   exact h4
  have h5:=condW_of h4 (w_not (w_lt w_lit (w_len_list (w_arg rfl))))
  rw [List.length_map] at h5
  refine Nat.le_of_not_lt fun q=>?_
  have q':(n:Int) < ((ns.length:Nat):Int):=by omega
  first
   | (rw [decide_eq_true q'] at h5; exact absurd h5 (by decide))
   | (simp at h5; omega)
 cases hwl with
 | cons w1 w2=>
  cases w2
  cases w1 with
  | list ho hall=>exact ⟨_,_,ns,rfl,rfl,ho,ints_of_wellAll ns _ hall,hlen⟩
theorem post_true (l:OpenLaw) (args:List WData):l.row.toRowW.claim.post args (.bool true) args = true:=
 postW_of (r:=l.row.toRowW) (X:=(true == true))
  (show WShape.has [] (.bool true) .bool = true by first | rfl | decide | simp [WShape.has,WShape.arms,WShape.armsAll])
  (show (WTm.eq .res (.lit (.bool true))).value [] { args:=args,res:=some (.bool true),after:=args } = some (.bool (true == true)) from w_eq_bool (w_res rfl) w_lit) rfl
theorem attach_call {l:OpenLaw} {n:Nat} {q:Program} {loose:List Str} {XP:(Str→Option Value)→Heap→Prop} {YP:World→Heap→Prop} {d:DefRec}
  (hn:l.most = some n) (hdf:d.params.defaults = [])
  (call:∀ (w:World) (s₀ s₁:Shared) (mg mb:Str→Option Value) (fa:Addr) (o:Obj) (pm cd doc:Value) (a:Addr) (vs:List Value) (ns:List Int),
   Ground q loose [] XP w s₀ mg mb s₁.heap→YP w s₁.heap→
   s₁.heap.get? fa = some o→o.data = .func (docDef d.name d.params d.body d.scope pm cd doc)→s₁.heap.CodeRec cd d.name→mg d.name = some (.ref fa)→
   s₁.heap.get? a = some { cls:=.type "list", data:=.seq vs.toArray }→IntsAre vs ns→ns.length ≤ n→s₁.gens = #[]→
   codeAny (model l.prog w) callerA (.call (.ref fa) ⟨[.ref a],[]⟩) (fun r s'=>r = .ok (.ret (.bool true))∧OldK s₁.heap s'.heap∧s'.os = s₁.os∧AllBare s'.gens) s₁) :
  WalkO q loose XP YP l.row.toRowW d [] (fun f vs=>PySem.call f vs):=by
 intro w s₀ s₁ mg mb G Y fa o pm cd doc dV kV ho hd hcd hD hmg hg args vals as hpre hlay hrd hwl hlo
 obtain rfl:dV = .none:=Dflts.none hD hdf
 obtain rfl:kV = .none:=Dflts.noKw hD
 obtain ⟨a,vs,ns,rfl,rfl,hobj,hints,hlen⟩:=script_of hn hpre hwl
 refine enter_call (codeAny_mono (call w s₀ s₁ mg mb fa o pm cd doc a vs ns G Y ho (fd_plain hd) hcd hmg hobj hints hlen hg) fun r s' hq=>?_)
 obtain ⟨rfl,h2,h3,h4⟩:=hq
 exact ⟨.inl ⟨.bool true,.bool true,[],rfl,fun _=>rfl,.bool true,post_true l _,fun _=>⟨List.Pairwise.nil,fun _ hm=>(nomatch hm)⟩⟩,h2,h3,h4⟩
section
variable {prog:Program} {w:World} {A:Around} {E:Value→Shared→Prop} {s:Shared} {K:Frag}
end
end Att
namespace L2
open PySem PySem.Spec PyProof.Rows
theorem vals_ints:∀ {vs:List Value} {ns:List Int},IntsAre vs ns→Vals (ns.map V.int) vs
 | _,_,.nil=>.nil
 | _,_,.cons n t h=>.cons ⟨t,rfl⟩ (vals_ints h)
def Only (H:Hp):Prop:=∀ b,H b = none∨∃ o xs,H b = some (.frz o (.lst xs))
theorem law_call {P:Program} {w:World} {K:PySem.W.Frag} {mg mb:Str→Option Value} {CX:CXT} {k:Nat} {fa a:Addr} {fd:FuncData} {x:Str} {sp:Sp} {s₁:Shared} {vs:List Value} {ns:List Int}
  (KX:K.In s₁.heap) (hns:s₁.heap.Ns mainGlobals mg) (hb:s₁.heap.Ns builtinsNs mb) (hbb:∀ x:Str,x ≠ "__name__" → mb x = bootBuiltins x) (hlim:s₁.heap.NoLimit) (hg:s₁.gens = #[])
  (ha:s₁.heap.get? a = some { cls:=.type "list", data:=.seq vs.toArray }) (hi:IntsAre vs ns) (hl:ns.length ≤ sizeLine) (hr:Room k callerA)
  (F:∀ base:Heap,K.In base→base.Ns mainGlobals mg→FnOk P w K mg base CX k fa fd [x] sp) (hbind:∀ (s:Shared) (u:Value),BindsTo s fd ⟨[u],[]⟩ [(x,u)])
  (hsp:∀ H:Hp,Only H→SqL K H a (ns.map V.int)→sp [.ref a] H (fun v _=>v = .bl true) fun _ _ _=>False)
  (hCX:∀ H e s',CX [] H s₁ (fun _ _ _=>False) e s'→False) :
  codeAny (model P w) callerA (.call (.ref fa) ⟨[.ref a],[]⟩) (fun r s'=>r = .ok (.ret (.bool true))∧OldK s₁.heap s'.heap∧s'.os = s₁.os∧AllBare s'.gens) s₁:=by
 have rv:=vals_ints hi
 have lenV:=hi.length
 -- from an abstract heap in which nothing but the script may be tracked
 have core:∀ H:Hp,Only H→SqL K H a (ns.map V.int)→HOk P w H s₁.heap→(∀ b,H b ≠ none→b = a)→(H a ≠ none→K.lookup a = none)→
   codeAny (model P w) callerA (.call (.ref fa) ⟨[.ref a],[]⟩) (fun r s'=>r = .ok (.ret (.bool true))∧OldK s₁.heap s'.heap∧s'.os = s₁.os∧AllBare s'.gens) s₁:=by
  intro H hO hS hok hA hK
  have base_of:∀ {b:Addr} {o:Obj},s₁.heap.get? b = some o→H b = none→(hidT s₁.heap H).get? b = some o:=fun e n=>hidT_get e n
  have noA:∀ {b:Addr} {o:Obj} {es:Array DictEntry} {ep:Nat},s₁.heap.get? b = some o→o.data = .dict es ep→H b = none:=fun {b o es ep} e d=>by
   cases q:H b with
   | none=>rfl
   | some u=>
    have e':b = a:=hA b (by rw [q]; simp)
    subst e'
    rw [ha] at e; cases e
    have d':Data.seq vs.toArray _ = Data.dict es ep:=d
    cases d'
  have nsK:∀ {b:Addr} {m:Str→Option Value},s₁.heap.Ns b m→(hidT s₁.heap H).Ns b m:=fun {b m} ⟨o,es,ep,e,d,r⟩=>⟨o,es,ep,base_of e (noA e d),d,r⟩
  have hKb:K.In (hidT s₁.heap H):=fun b o e=>base_of (KX b o e) (by
   cases q:H b with
   | none=>rfl
   | some u=>
    have e':b = a:=hA b (by rw [q]; simp)
    subst e'
    rw [hK (by rw [q]; simp)] at e; cases e)
  have hM:Mod K mg (hidT s₁.heap H):=⟨hKb,nsK hns,⟨mb,nsK hb,hbb⟩,let ⟨mc,h1,h2⟩:=hlim; ⟨mc,nsK h1,h2⟩⟩
  have e0:Env0 P w K mg (hidT s₁.heap H) callerA [] s₁ H:=⟨rfl,hM,fun b o e=>of_hidT e,Nat.le_of_eq (hidT_size _ _),trivial,fun b hb=>absurd (show b ∈ ([]:List Addr) from hb) (by simp),hok,.of_eq hg⟩
  refine codeAny_mono ((F _ hKb (nsK hns)).run callerA [] s₁ H ⟨[.ref a],[]⟩ [.ref a] [.ref a] _ _ hr e0 (hbind s₁ (.ref a)) (.cons rfl .nil) (hsp H hO hS)) fun r s' h=>?_
  cases r with
  | error e=>exact (hCX H e s' h).elim
  | ok fl=>
   cases fl with
   | next=>exact False.elim h
   | brk=>exact False.elim h
   | cont=>exact False.elim h
   | ret u=>
    obtain ⟨v,H',os,bare,un,hok',r',q⟩:=h
    have q':v = .bl true:=q
    subst q'
    obtain rfl:u = Value.bool true:=r'
    refine ⟨rfl,OldK.of_keep fun b o e=>?_,os,bare⟩
    cases q:H b with
    | none=>exact un.keep b o e q (by intro z; exact absurd (show b ∈ ([]:List Addr) from z) (by simp)) (by simp)
    | some u=>
     rcases hO b with z | ⟨ob,xs,z⟩
     ·rw [q] at z; cases z
     ·have z2:=un.frzs b ob _ z
      obtain ⟨e1,_⟩:=hok b _ z
      obtain ⟨e2,_⟩:=hok' b _ z2
      rw [e] at e1; cases e1
      exact e2
 cases hk:K.lookup a with
 | some o=>
  -- the script is one of the module's own objects
  have e:=KX a o hk
  rw [ha] at e
  cases e
  refine core (fun _=>none) (fun _=>.inl rfl) (.inr ⟨_,vs.toArray,_,hk,rfl,rfl,rfl,by rw [List.size_toArray,lenV]; exact hl,by simpa using rv⟩) (fun b u z=>by have z':(none:Option HO) = some u:=z; cases z') (fun b z=>absurd rfl z) fun z=>absurd rfl z
 | none=>
  refine core (fun b=>if b = a then some (.frz { cls:=.type "list", data:=.seq vs.toArray } (.lst (ns.map V.int))) else none) (fun b=>?_) (.inl (.inr ⟨{ cls:=.type "list", data:=.seq vs.toArray },if_pos rfl⟩)) (fun b u z=>?_) (fun b z=>?_) fun _=>hk
  ·by_cases hb:b = a
   ·exact .inr ⟨_,_,if_pos hb⟩
   ·exact .inl (if_neg hb)
  ·by_cases hb:b = a
   ·have z':=(if_pos hb).symm.trans z
    cases z'
    subst hb
    exact ⟨ha,by rw [List.length_map]; exact hl,vs,_,rv,ha⟩
   ·have z':=(if_neg hb).symm.trans z
    cases z'
  ·by_cases hb:b = a
   ·exact hb
   ·exact absurd (if_neg hb) z
end L2
namespace L2
open PySem PySem.Spec PyProof.Rows
abbrev KOf {K:PySem.W.Frag} {h:Heap} (_:K.In h):PySem.W.Frag:=K
theorem walk_of {l:PySem.W.OpenLaw} {n k:Nat} {q:Program} {loose:List Str} {XP:(Str→Option Value)→Heap→Prop} {YP:World→Heap→Prop} {d:DefRec} {K:Params→PySem.W.Frag} {CX:World→CXT} {sp:World→Sp} {x:Str}
  (hn:l.most = some n) (hn2:n ≤ sizeLine) (hdf:d.params.defaults = []) (hr:Room k callerA)
  (hY:∀ (w:World) (h:Heap),YP w h→(K w.params).In h)
  (F:∀ (w:World) (mg:Str→Option Value) (fa:Addr) (h:Heap),(K w.params).In h→h.Ns mainGlobals mg→mg d.name = some (.ref fa)→
   ∃ fd:FuncData,(∀ (s:Shared) (u:Value),BindsTo s fd ⟨[u],[]⟩ [(x,u)])∧
    ∀ base:Heap,(K w.params).In base→base.Ns mainGlobals mg→FnOk l.prog w (K w.params) mg base (CX w) k fa fd [x] (sp w))
  (hsp:∀ (w:World) (H:Hp) (a:Addr) (ns:List Int),ns.length ≤ n→Only H→SqL (K w.params) H a (ns.map V.int)→sp w [.ref a] H (fun v _=>v = .bl true) fun _ _ _=>False)
  (hCX:∀ (w:World) (H:Hp) (s:Shared) (e:Value) (s':Shared),CX w [] H s (fun _ _ _=>False) e s'→False) :
  PySem.W.WalkO q loose XP YP l.row.toRowW d [] (fun f vs=>PySem.call f vs):=by
 refine Att.attach_call hn hdf fun w s₀ s₁ mg mb fa o pm cd doc a vs ns G Y ho hd hcd hmg hobj hints hlen hg=>?_
 have KX:=hY w _ Y
 obtain ⟨fd,hb,hF⟩:=F w mg fa _ KX G.T.g hmg
 exact law_call KX G.T.g G.T.b G.T.builtins G.T.nolimit hg hobj hints (Nat.le_trans hlen hn2) hr hF hb (fun H hO hS=>hsp w H a ns hlen hO hS) fun H e s'=>hCX w H s₁ e s'
end L2
/- THE LAST THEOREM (shape; LID, My.* are yours):
   My.Adr: a structure of the addresses that your layer names (classes,functions); My.Txt K t: a structure (Prop) of the equations over K;
   My.txt_mk:{K} {implicit addresses ..} (e1:nsIn K mainGlobals "law" = some (some (.ref f))) (e2:K.lookup f = some ⟨oc,od,.func (fnOf "law" "law" params body scope dV kV doc pm an cdv ct),sl⟩) (e3:codeIn K cdv "law" = true) .. : ∃ t,My.Txt K t
set_option maxRecDepth 100000 in
set_option maxHeartbeats 0 in
theorem PySem.Challenge.cw_LID_holds : PySem.Challenge.rw_LID.Holds := by
 w_on; o_law; k_head; (case hw=>w_witness2)
 k_fill
 refine L2.walk_of (l:=PySem.Challenge.rw_LID) (n:=63) (k:=40) (x := "script") (CX:=fun w=>..) (sp:=fun _=>My.sp_law) rfl (by decide) rfl ⟨rfl,by decide,by decide⟩ (fun w h Y=>PySem.W.kIn_of Y) ?F ?S ?C
 case F=>
  intro w mg fa h KX G hmg
  have T:∃ t,My.Txt (L2.KOf KX) t:=by
   dsimp only [L2.KOf]                          -- K must stand as «<heap const> w.params» for k_is
   refine' My.txt_mk ?e1 ?e2 ?e3 ..
   (case e1=>PySem.W.k_is)                    -- in the order: a name -> its address -> its object -> its parts
   (case e2=>PySem.W.k_is)
   ..
  obtain ⟨t,T⟩:=T
  have e0:=hmg.symm.trans (PySem.W.mg_of KX G T.law)
  cases e0                                       -- fa is the law's own address
  exact ⟨_,fun s u=>.of_eq rfl,fun base kb nb=>My.law_fn T kb nb⟩     -- if «.of_eq rfl» comes too early: refine' ⟨_,?b,fun base kb nb=>My.law_fn T kb nb⟩; exact fun s u=>.of_eq rfl
 case S=>exact fun w H a ns hl hO hS=>..
 case C=>exact ..
(the tactic k_is has no namespace: write k_is) -/
namespace L2
open PySem PySem.Spec PyProof.Rows
abbrev CX0:CXT:=fun _ _ _ _ _ _=>False
abbrev E0:XK:=fun _ _ _=>False
theorem pass0 {X:Cx}:Passes CX0 X E0:=fun _ _ _ _ _ _ _ h=>h.elim
structure Fun (K:PySem.W.Frag) (x qual:Str) (st:Stmt) (f:Addr) (fd:FuncData):Prop where
 ex:∃ (oc:Value) (od:Option Addr) (kV doc pm:Value) (an:Option Addr) (cdv ct:Value) (osl:Array (Option Value)),
  fd = PySem.W.fnOf x qual (defArgs st) (defBody st) (defScope st) .none kV doc pm an cdv ct∧K.lookup f = some ⟨oc,od,.func fd,osl⟩∧PySem.W.codeIn K cdv qual = true
 kp:PySem.W.keepIn K (.ref f) = true
section
variable {P:Program} {w:World} {K:PySem.W.Frag} {mg:Str→Option Value} {base:Heap}
theorem Fun.ok {x qual:Str} {st:Stmt} {f:Addr} {fd:FuncData} {N ps:List Str} {k:Nat} {sp:Sp} (F:Fun K x qual st f fd) (S:FnScope N ps (defScope st)) (len:∀ vs H Q E,sp vs H Q E→vs.length = ps.length)
  (hbody:∀ (cdv:Value) (A:Around) (outer:List Env) (s:Shared) (H:Hp) (vs:List V) (Q:VK) (E:XK),Room k (A.deeper (envOfC qual (defScope st) s.heap.objs.size f cdv))→sp vs H Q E→
   ∃ t,PSs (cxOf CX0 P w K mg base N qual (defScope st) f cdv A outer s H E).nox (defBody st) t∧t { nx:=fun _ H'=>Q .non H',rt:=Q } (start N vs) H):FnOk P w K mg base CX0 (k + 1) f fd ps sp:=by
 obtain ⟨oc,od,kV,doc,pm,an,cdv,ct,osl,rfl,lk,hcd⟩:=F.ex
 refine fn_of lk hcd S len fun A outer s H vs Q E hr hsp=>?_
 obtain ⟨t,h,q⟩:=hbody cdv A outer s H vs Q E hr hsp
 exact ⟨t,h.nox,q⟩
theorem Fun.binds {x qual:Str} {st:Stmt} {f:Addr} {fd:FuncData} {ps:List Str} (F:Fun K x qual st f fd)
  (h:∀ (kV doc pm:Value) (an:Option Addr) (cdv ct:Value) (us:List Value),us.length = ps.length→bindArgs (PySem.W.fnOf x qual (defArgs st) (defBody st) (defScope st) .none kV doc pm an cdv ct) ⟨us,[]⟩ = pure (ps.zip us)):Binds K fd ps []:=by
 obtain ⟨oc,od,kV,doc,pm,an,cdv,ct,osl,rfl,lk,hcd⟩:=F.ex
 exact .all (h kV doc pm an cdv ct)
theorem fun_mk {x qual:Str} {st:Stmt} {f:Addr} {oc:Value} {od an:Option Addr} {osl:Array (Option Value)} {kV doc pm cdv ct:Value} (l:K.lookup f = some ⟨oc,od,.func (PySem.W.fnOf x qual (defArgs st) (defBody st) (defScope st) .none kV doc pm an cdv ct),osl⟩)
  (c:PySem.W.codeIn K cdv qual = true) (k:PySem.W.keepIn K (.ref f) = true):Fun K x qual st f (PySem.W.fnOf x qual (defArgs st) (defBody st) (defScope st) .none kV doc pm an cdv ct):=⟨⟨oc,od,kV,doc,pm,an,cdv,ct,osl,rfl,l,c⟩,k⟩
end
theorem hu_of {A:Around} {k:Nat} (hr:Room k A):A.units + 1 < cLine:=Nat.lt_of_le_of_lt (Nat.add_le_add_left (by decide:1 ≤ 64) _) hr.units
section
variable {X:Cx}
theorem pv (i:Nat) {x:Str} {pos:Pos} (hN:X.N[i]? = some x:=by rfl) (hv:Vis X.env.scope x:=by first | exact Or.inl rfl | exact Or.inr (Or.inl rfl) | exact Or.inr (Or.inr rfl)) (hd:(x == ("__debug__" : Str)) = false:=by decide)
  (hcd:(x == ("__classdict__" : Str)) = false:=by decide):PE X (.Name x pos) (tVar i):=pe_var hN hv hd hcd
end
theorem ite2 {c A B:Prop} [Decidable c] (h1:c→A) (h2:¬ c→B):if c then A else B:=by
 by_cases h:c
 ·rw [if_pos h]
  exact h1 h
 ·rw [if_neg h]
  exact h2 h
def Same (H H':Hp):Prop:=∀ b o,H b = some o→H' b = some o
theorem Same.refl (H:Hp):Same H H:=fun _ _ h=>h
theorem Same.trans {H H1 H2:Hp} (a:Same H H1) (b:Same H1 H2):Same H H2:=fun c o h=>b c o (a c o h)
theorem Same.free {H H':Hp} (e:Same H H') {l:Addr} (h:H' l = Option.none):H l = Option.none:=by
 cases q:H l with
 | none=>rfl
 | some o=>
  rw [e l o q] at h
  cases h
theorem Same.seq {K:PySem.W.Frag} {H H':Hp} {a:Addr} {xs:List V} (e:Same H H') (h:SqL K H a xs):SqL K H' a xs:=by
 rcases h with (h | ⟨o,h⟩) | h
 ·exact .inl (.inl (e _ _ h))
 ·exact .inl (.inr ⟨o,e _ _ h⟩)
 ·exact .inr h
section
variable {κ : Type} [DecidableEq κ]
end
end L2
namespace L2
open PySem PySem.Spec PyProof.Rows
def closOf (cells:List (Str × Addr)):List (Str × NameKind)→List (Str × Addr)→List (Str × Addr)
 | [],acc=>acc
 | (n,k) :: r,acc=>closOf cells r (if k == .free then (n,(cells.lookup n).getD 0) :: acc else acc)
theorem clos_for {env:Env} {f:(Str × NameKind)→List (Str × Addr)→Sem (ForInStep (List (Str × Addr)))}
  (hf:∀ n k cs,f (n,k) cs = if (k == NameKind.free) = true then (cellOf env n >>= fun c=>pure (ForInStep.yield ((n,c) :: cs))) else pure (ForInStep.yield cs)) :
  ∀ (names:List (Str × NameKind)) (acc:List (Str × Addr)),(∀ x ∈ names,x.2 = .free→∃ c,env.cells.lookup x.1 = some c)→
  forIn names acc f = (pure (closOf env.cells names acc):Sem _)
 | [],acc,_=>rfl
 | (n,k) :: r,acc,h=>by
  rw [List.forIn_cons,hf]
  have ih:=fun acc=>clos_for hf r acc fun x hx=>h x (List.mem_cons_of_mem _ hx)
  by_cases hk:(k == NameKind.free) = true
  ·rw [if_pos hk]
   obtain ⟨c,hc⟩:=h (n,k) List.mem_cons_self (by simpa using hk)
   have e:cellOf env n = pure c:=by unfold cellOf; rw [hc]
   rw [e,pure_bind,pure_bind]
   show forIn r ((n,c) :: acc) f = _
   rw [ih]
   show _ = pure (closOf env.cells r (if (k == NameKind.free) = true then (n,(env.cells.lookup n).getD 0) :: acc else acc))
   rw [if_pos hk,hc]; rfl
  ·rw [if_neg hk,pure_bind]
   show forIn r acc f = _
   rw [ih]
   show _ = pure (closOf env.cells r (if (k == NameKind.free) = true then (n,(env.cells.lookup n).getD 0) :: acc else acc))
   rw [if_neg hk]
theorem closureFor_eq {env:Env} {scope:Scope} (h:∀ x ∈ scope.names,x.2 = .free→∃ c,env.cells.lookup x.1 = some c):closureFor scope env = pure (closOf env.cells scope.names []):=by
 unfold closureFor
 show (forIn scope.names ([]:List (Str × Addr)) _ >>= fun cs=>pure cs) = _
 rw [clos_for (env:=env) (fun n k cs=>?_) _ _ h]
 ·rfl
 ·rfl
theorem closOf_some {cells:List (Str × Addr)}:∀ {names:List (Str × NameKind)} {acc:List (Str × Addr)} {x:Str} {c:Addr},(∀ y ∈ names,y.2 = .free→∃ c,cells.lookup y.1 = some c)→
  (∀ y c,acc.lookup y = some c→cells.lookup y = some c)→(closOf cells names acc).lookup x = some c→cells.lookup x = some c
 | [],acc,x,c,_,ha,h=>ha x c h
 | (n,k) :: r,acc,x,c,hn,ha,h=>by
  refine closOf_some (names:=r) (fun y hy=>hn y (List.mem_cons_of_mem _ hy)) ?_ h
  intro y d hy
  by_cases hk:(k == NameKind.free) = true
  ·rw [if_pos hk] at hy
   obtain ⟨e,he⟩:=hn (n,k) List.mem_cons_self (by simpa using hk)
   have he':cells.lookup n = some e:=he
   rw [List.lookup_cons] at hy
   by_cases hyn:(y == n) = true
   ·rw [hyn] at hy
    have hy':(cells.lookup n).getD 0 = d:=Option.some.inj hy
    rw [he'] at hy'
    have e1:y = n:=by simpa using hyn
    rw [e1,he',← hy']; rfl
   ·have hf:(y == n) = false:=by simpa using hyn
    rw [hf] at hy
    exact ha y d hy
  ·rw [if_neg hk] at hy
   exact ha y d hy
theorem closOf_acc {cells:List (Str × Addr)}:∀ {names:List (Str × NameKind)} {acc:List (Str × Addr)} {x:Str},(∃ c,acc.lookup x = some c)→∃ c,(closOf cells names acc).lookup x = some c
 | [],_,_,h=>h
 | (n,k) :: r,acc,x,h=>by
  refine closOf_acc (names:=r) ?_
  by_cases hk:(k == NameKind.free) = true
  ·rw [if_pos hk,List.lookup_cons]
   cases hx:(x == n) with
   | true=>exact ⟨_,rfl⟩
   | false=>exact h
  ·rw [if_neg hk]; exact h
theorem closOf_has {cells:List (Str × Addr)}:∀ {names:List (Str × NameKind)} {acc:List (Str × Addr)} {x:Str},(x,NameKind.free) ∈ names→∃ c,(closOf cells names acc).lookup x = some c
 | (n,k) :: r,acc,x,h=>by
  rcases List.mem_cons.mp h with e | h
  ·have e1:x = n:=congrArg (·.1) e
   have e2:NameKind.free = k:=congrArg (·.2) e
   subst e1 e2
   refine closOf_acc (names:=r) ?_
   rw [if_pos (by rfl),List.lookup_cons]
   rw [beq_self_eq_true]
   exact ⟨_,rfl⟩
  ·exact closOf_has (names:=r) h
theorem relabel_free {env:Env}:∀ {names:List (Str × NameKind)} {x:Str} {k:NameKind},(∀ y ∈ names,y.2 ≠ .cell)→
  (names.map fun (n,k)=>if (k == NameKind.free && env.scope.kind == .function && env.kindOf n == some .cell) then (n,NameKind.cell) else (n,k)).lookup x = some k→(k = .cell∨k = .free)→(x,NameKind.free) ∈ names
 | [],_,_,_,h,_=>by simp at h
 | (n,k0) :: r,x,k,hc,h,hk=>by
  have ih:=@relabel_free env r x k (fun y hy=>hc y (List.mem_cons_of_mem _ hy))
  rw [List.map_cons] at h
  by_cases hf:(k0 == NameKind.free && env.scope.kind == .function && env.kindOf n == some .cell) = true
  ·have hk0:k0 = .free:=by
    have:(k0 == NameKind.free) = true:=by
     rw [Bool.and_eq_true,Bool.and_eq_true] at hf; exact hf.1.1
    simpa using this
   dsimp only at h
   rw [if_pos hf,List.lookup_cons] at h
   cases hx:(x == n) with
   | true=>
    have:x = n:=by simpa using hx
    rw [this,hk0]; exact List.mem_cons_self
   | false=>rw [hx] at h; exact List.mem_cons_of_mem _ (ih h hk)
  ·dsimp only at h
   rw [if_neg hf,List.lookup_cons] at h
   cases hx:(x == n) with
   | true=>
    rw [hx] at h
    have e:k0 = k:=Option.some.inj h
    have:x = n:=by simpa using hx
    rcases hk with z | z
    ·exact absurd (e.trans z) (hc (n,k0) List.mem_cons_self)
    ·rw [this,e,z]; exact List.mem_cons_self
   | false=>rw [hx] at h; exact List.mem_cons_of_mem _ (ih h hk)
def cxComp (X:Cx) (N0 T:List Str) (scope:Scope) (C:Addr) (fp:List Addr) (s:Shared) (H:Hp):Cx:=
 { X with N:=N0 ++ T,s₀:=s,H₀:=H,env:=compEnvC scope (closOf X.env.cells scope.names []) C X.env,outer:=X.stack,stack:=X.stack,ex:=fp,fn:=fun _=>false,pn:=[],xe:=fun _ _=>False }
structure CompScope (X:Cx) (N0 T:List Str) (scope:Scope):Prop where
 kind:scope.kind = .function
 nocell:∀ y ∈ scope.names,y.2 ≠ .cell
 names:∀ y ∈ scope.names,y.2 = .local→scope.names.lookup y.1 = some .local
 free:∀ y ∈ scope.names,y.2 = .free→X.env.kindOf y.1 = some .cell∨X.env.kindOf y.1 = some .free
 apart:∀ y ∈ scope.names,y.2 = .local→y.1 ∉ N0
 len0:N0.length = X.N.length
 same:∀ (i:Nat) (x:Str) (k:NameKind),N0[i]? = some x→(x,k) ∈ scope.names→X.N[i]? = some x
theorem codeAny_compLoop_go {prog:Program} {w:World} {A:Around} {R:Result→Shared→Prop} {s:Shared} {elt target iter:Expr} {ifs:List Expr} {scope:Scope} {pos:Pos} {it acc:Value} {env:Env} (I:Nat→Shared→Prop)
  (turn:∀ n s,I n s→wpAny (model prog w) A (pyNext it) (fun r s₁=>match r with
   | none=>R (.ok .next) s₁
   | some v=>wpAny (model prog w) A (letOwnedTupleGo target it v) (fun _ s₀=>wpAny (model prog w) A (assign target env v) (fun _ s₂=>
     wpAny (model prog w) A (forIn ifs true fun c r=>if r = true then do let ok ← isTrue c env (eval c env); pure (ForInStep.yield ok) else pure (ForInStep.yield r)) (fun ok s₃=>
      if ok = true then wpAny (model prog w) A (eval elt env) (fun x s₄=>
       wpAny (model prog w) A (call (.builtin "list.append") [acc,x]) (fun _ s₅=>∃ m,m < n∧I m s₅) (fun _ _=>False) s₄) (fun _ _=>False) s₃
      else ∃ m,m < n∧I m s₃) (fun _ _=>False) s₂) (fun _ _=>False) s₀) (fun _ _=>False) s₁) (fun _ _=>False) s)
  (n:Nat) (h:I n s) :
  codeAny (model prog w) A (.compLoop (.ListComp elt [⟨target,iter,ifs,0⟩] scope pos) 0 it acc env) R s:=by
 refine codeAny_loop rfl I (fun n s hI=>?_) n h
 show wpAny _ A ((compTurn (.ListComp elt [⟨target,iter,ifs,0⟩] scope pos) 0 it acc env).onRaise (fun x=>do noteFrame x env; theTreesLotGoes x)) _ _ s
 refine wpAny_noted ?_
 rw [compTurn_list]
 refine wpAny_bind (wpAny_standAt (wpAny_bind (wpAny_mono (turn n s hI) (fun r s₁ h₁=>?_) fun _ _ h'=>h'.elim)))
 cases r with
 | none=>exact wpAny_pure h₁
 | some v=>
  refine wpAny_bind (wpAny_mono h₁ (fun _ s₀ h₀=>?_) fun _ _ h'=>h'.elim)
  refine wpAny_bind (wpAny_mono h₀ (fun _ s₂ h₂=>wpAny_bind (wpAny_mono h₂ (fun ok s₃ h₃=>?_) fun _ _ h'=>h'.elim)) fun _ _ h'=>h'.elim)
  cases ok with
  | false=>exact wpAny_pure ⟨rfl,h₃⟩
  | true=>
   exact wpAny_bind (wpAny_bind (wpAny_mono h₃ (fun x s₄ h₄=>wpAny_bind (wpAny_mono h₄ (fun _ s₅ h₅=>wpAny_pure (wpAny_pure ⟨rfl,h₅⟩)) fun _ _ h'=>h'.elim)) fun _ _ h'=>h'.elim))
def PIfs (X:Cx) (ifs:List Expr) (tc:TT):Prop:=
 ∀ (pins:List (Addr × Obj)) (s:Shared) (σ : St) (H:Hp) (Q:Bool→Hp→Prop),Inv X pins σ H s→tc σ H Q→
  wpAny (model X.prog X.w) X.A (forIn ifs true fun c r=>if r = true then do let ok ← isTrue c X.env (eval c X.env); pure (ForInStep.yield ok) else pure (ForInStep.yield r)) (TP X pins σ Q) X.xe s
def tYes:TT:=fun _ H Q=>Q true H
theorem pifs_nil {X:Cx}:PIfs X [] tYes:=fun _ _ _ H _ I h=>wpAny_tests_nil ⟨H,I,h⟩
theorem pifs_one {X:Cx} {c:Expr} {tc:TT} (hc:PT X c tc):PIfs X [c] tc:=fun pins s σ H Q I h=>wpAny_tests_one (hc pins s σ H Q I h)
def GFr (g:TG) (n:Nat):Prop:=∀ x σ H Q,g x σ H Q→g x σ H fun σ' H'=>Q σ' H'∧σ'.length = σ.length∧∀ k,k < n→σ'[k]? = σ[k]?
def GsFr (g:TGs) (n:Nat):Prop:=∀ x σ H Q,g x σ H Q→g x σ H fun σ' H'=>Q σ' H'∧σ'.length = σ.length∧∀ k,k < n→σ'[k]? = σ[k]?
theorem gfr_name {i n:Nat} (h:n ≤ i):GFr (gName i) n:=fun x σ H Q q=>⟨q,by simp,fun k hk=>by rw [List.getElem?_set_ne (by omega)]⟩
theorem gsfr_nil {n:Nat}:GsFr gNil n:=fun x σ H Q q=>⟨q.1,q.2,rfl,fun _ _=>rfl⟩
def GMono (g:TG):Prop:=∀ x σ H Q Q',(∀ σ' H',Q σ' H'→Q' σ' H')→g x σ H Q→g x σ H Q'
def GsMono (g:TGs):Prop:=∀ x σ H Q Q',(∀ σ' H',Q σ' H'→Q' σ' H')→g x σ H Q→g x σ H Q'
theorem gm_name {i:Nat}:GMono (gName i):=fun x σ H Q Q' h q=>h _ _ q
theorem gsm_nil:GsMono gNil:=fun x σ H Q Q' h q=>⟨q.1,h _ _ q.2⟩
theorem gsm_cons {t:TG} {u:TGs} (h1:GMono t) (h2:GsMono u):GsMono (gCons t u):=fun x σ H Q Q' h ⟨v,r,e,q⟩=>⟨v,r,e,h1 _ _ _ _ _ (fun σ' H' z=>h2 _ _ _ _ _ h z) q⟩
theorem gsfr_cons {t:TG} {u:TGs} {n:Nat} (h1:GFr t n) (m1:GMono t) (h2:GsFr u n) (m2:GsMono u):GsFr (gCons t u) n:=fun x σ H Q ⟨v,r,e,q⟩=>by
 refine ⟨v,r,e,?_⟩
 refine m1 _ _ _ _ _ (fun σ' H' z=>?_) (h1 _ _ _ _ q)
 obtain ⟨z,l1,k1⟩:=z
 exact m2 _ _ _ _ _ (fun σ2 H2 y=>⟨y.1,y.2.1.trans l1,fun k hk=>(y.2.2 k hk).trans (k1 k hk)⟩) (h2 _ _ _ _ z)
theorem gfr_tup {K:PySem.W.Frag} {m n:Nat} {t:TGs} (h:GsFr t n):GFr (gTup K m t) n:=fun x σ H Q ⟨a,xs,e,q,l,z⟩=>⟨a,xs,e,q,l,h _ _ _ _ z⟩
def compW (J:It) (g:TG) (tc:TT) (te:TE) (nT:Nat) (σ : St) (D:Addr) (Q:VK) (H:Hp):Prop:=
 ∃ W:Nat→Nat→List V→Hp→Prop,(∃ m,W 0 m [] H)∧∀ i m ys H2,W i m ys H2→
  (J.stop i H2∧Q (.ref D) H2)∨(J.go i H2∧∀ x H',J.yld i H2 x H'→g x (σ ++ List.replicate nT none) H' fun σ2 H3=>tc σ2 H3 fun b H4=>
   if b = true then te σ2 H4 fun y H5=>H5 D = some (.lst ys)∧ys.length < sizeLine∧∃ m',m' < m∧W (i + 1) m' (ys ++ [y]) (upd H5 D (.lst (ys ++ [y]))) else ∃ m',m' < m∧W (i + 1) m' ys H4)
def tComp (wi:TI) (g:TG) (tc:TT) (te:TE) (nT:Nat):TE:=fun σ H Q=>wi σ H fun J H1=>∀ D,H1 D = none→compW J g tc te nT σ D Q (upd H1 D (.lst []))
theorem HOk.sameBut {P:Program} {w:World} {H:Hp} {h h':Heap} {C:Addr} (x:HOk P w H h) (hs:Heap.SameBut C h h') (hC:H C = none):HOk P w H h':=fun a o e=>
 (x a o e).stay (fun b u hb q=>(hs.2 b (by
  rintro rfl
  rcases hb with z | z
  ·rw [z] at hC; rw [hC] at e; cases e
  ·rw [hC] at z; cases z)).trans q) (fun _ q=>q) fun _ _ q=>q
section
variable {X:Cx} {N0 T:List Str} {scope:Scope} {tg elt iter:Expr} {ifs:List Expr} {pos:Pos} {wi:TI} {g:TG} {tc:TT} {te:TE}
theorem comp_core {pins:List (Addr × Obj)} {σ : St} {H:Hp} {s:Shared} {E:Value→Shared→Prop} {it:Addr} {fp:List Addr} {tn:Nat→Heap→Prop} {J:It} {Q:VK} {RR:Value→Addr→Result→Shared→Prop}
  (S:CompScope X N0 T scope) (hc:X.calm = true)
  (hg:∀ C fp s H,PG (cxComp X N0 T scope C fp s H) tg g) (hfr:GFr g X.N.length) (hi:∀ C fp s H,PIfs (cxComp X N0 T scope C fp s H) ifs tc) (he:∀ C fp s H,PE (cxComp X N0 T scope C fp s H) elt te)
  (I:Inv X pins σ H s) (Tn:Turn X.prog X.w X.K tg J fp it tn) (st:tn 0 s.heap) (hf:∀ b ∈ fp,FpOk X pins H b)
  (h:∀ D,H D = none→compW J g tc te T.length σ D Q (upd H D (.lst [])))
  (hRR:∀ D C s' H' m,s'.heap.Ns C m→H' C = none→C ≠ X.env.locals→(∀ x c,X.env.cells.lookup x = some c→c ≠ C)→(∀ p ∈ X.pn ++ pins,p.1 ≠ C)→X.s₀.heap.objs.size ≤ C→Inv X pins σ H' s'→
   (∀ h',Heap.SameBut C s'.heap h'→Inv X pins σ H' { s' with heap:=h' })→Q (.ref D) H'→RR (.ref D) C (.ok .next) s') :
  wpAny (model X.prog X.w) X.A (newList []) (fun acc s₃=>wpAny (model X.prog X.w) X.A (newFunctionEnv scope X.env.globals (closOf X.env.cells scope.names []) [] X.env.qual none .none (some X.env)) (fun cenv s₄=>
   codeAny (model X.prog X.w) X.A (.compStart (.ListComp elt [⟨tg,iter,ifs,0⟩] scope pos) 0 (.ref it) acc { cenv with scope:=relabel scope X.env }) (RR acc cenv.locals) s₄) E s₃) E s:=by
 refine wpAny_newObj_type (wpAny_newFunctionEnv S.nocell (by intro y hy; simp at hy) (fun h₁ hns₁ hsb₁=>?_) S.kind)
 dsimp only at hns₁ hsb₁ ⊢
 generalize hH2:s.heap.push { cls:=.type "list", dict:=none,data:=.seq ([]:List Value).toArray } = P2 at hns₁ hsb₁ ⊢
 have hC:P2.objs.size = s.heap.objs.size + 1:=by rw [← hH2,Heap.size_push]
 -- the new list D, the block's names C
 obtain ⟨D,hD⟩ : ∃ D:Nat,D = s.heap.objs.size:=⟨_,rfl⟩
 obtain ⟨C,hCC⟩ : ∃ C:Nat,C = P2.objs.size:=⟨_,rfl⟩
 rw [← hCC] at hns₁ hsb₁ hC ⊢
 rw [← hD] at hC ⊢
 have hDC:D ≠ C:=by omega
 have hDlt:D < C:=by omega
 have neD:∀ b o,s.heap.get? b = some o→b ≠ D:=fun b o e=>hD ▸ Nat.ne_of_lt (Heap.lt_size e)
 have neC:∀ b o,s.heap.get? b = some o→b ≠ C:=fun b o e=>Nat.ne_of_lt (Nat.lt_trans (hD ▸ Heap.lt_size e) hDlt)
 have old:∀ b o,s.heap.get? b = some o→h₁.get? b = some o:=fun b o e=>hsb₁.extBut b o (neC b o e) (Heap.get?_push_of_some _ (hH2 ▸ Heap.get?_push_of_some _ e))
 have hHD:H D = none:=I.hok.fresh (by omega)
 have hHC:H C = none:=I.hok.fresh (by omega)
 have dat:h₁.get? D = some { cls:=.type "list", data:=.seq ([]:List Value).toArray 0 }:=by
  refine hsb₁.extBut _ _ hDC (Heap.get?_push_of_some _ ?_)
  rw [← hH2,hD]
  exact Heap.get?_push_size _ rfl
 -- the block's context stands
 have hcl:∀ x c,(closOf X.env.cells scope.names []).lookup x = some c→X.env.cells.lookup x = some c:=fun x c e=>
  closOf_some (fun y hy hk=>I.ok.has y.1 (S.free y hy hk)) (fun y c z=>by simp at z) e
 have okC:(cxComp X N0 T scope C fp s H).Ok:=by
  refine ⟨I.ok.mod,?_,I.ok.glob,I.ok.blt,?_,fun x y c e1 e2=>I.ok.inj x y c (hcl x c e1) (hcl y c e2),fun x hx=>?_,fun x c z _=>(by cases z),I.ok.hd,I.ok.frames,.inl rfl,fun b hb=>⟨?_,fun x c e=>(hf b hb).2.2.2.2.1 x c (hcl x c e)⟩,
   I.bs,?_,fun b o e hb=>?_,fun b hb z=>?_,I.stack,I.stkFree⟩
  ·show (relabel scope X.env).kind = .function
   exact S.kind
  ·show s.heap.objs.size ≤ C
   omega
  ·have hx':(relabel scope X.env).names.lookup x = some .cell∨(relabel scope X.env).names.lookup x = some .free:=hx
   have m:(x,NameKind.free) ∈ scope.names:=by
    rcases hx' with z | z
    ·exact relabel_free S.nocell z (.inl rfl)
    ·exact relabel_free S.nocell z (.inr rfl)
   exact closOf_has m
  ·show b ≠ C
   obtain ⟨o,e,_⟩:=Tn.obj 0 _ st b hb
   exact neC b o e
  ·exact Nat.le_trans I.ok.bsz I.sz
  ·obtain ⟨_,_,_,z,_⟩:=hf b hb
   rcases z with z | z
   ·exact I.ok.noex b o e z
   ·exact absurd (Nat.lt_of_lt_of_le (Nat.lt_of_lt_of_le (Heap.lt_size e) I.ok.bsz) z) (Nat.lt_irrefl _)
  ·obtain ⟨_,z1,z2,_⟩:=hf b hb
   rcases List.mem_cons.mp (I.stkSub b z) with q | q
   ·exact z1 q
   ·exact z2 q
 have I1:Inv (cxComp X N0 T scope C fp s H) [] (σ ++ List.replicate T.length none) (upd H D (.lst [])) { s with heap:=h₁,toks:=s.toks + ([]:List (Str × Value)).length }:=by
  refine ⟨okC,rfl,I.bare,Un.laid (h:=s.heap) old (by omega) hHD,⟨_,hns₁,fun i x v e1 e2 e3=>?_⟩,fun x c e=>?_,?_,fun x c e=>?_,fun p hp=>(by simp [cxComp] at hp),I.hok.laid old (by omega) ?_,?_⟩
  ·have e1':(N0 ++ T)[i]? = some x:=e1
   have hl:=I.len
   have hl0:=S.len0
   have hi:i < σ.length:=by
    rcases Nat.lt_or_ge i σ.length with z | z
    ·exact z
    ·rw [List.getElem?_append_right z] at e2
     rw [List.getElem?_replicate] at e2
     split at e2 <;> cases e2
   rw [List.getElem?_append_left hi] at e2
   rw [List.getElem?_append_left (by omega)] at e1'
   have hxN:x ∈ N0:=List.mem_of_getElem? e1'
   have e3':(relabel scope X.env).names.lookup x = some .local∨(relabel scope X.env).names.lookup x = some .cell∨(relabel scope X.env).names.lookup x = some .free:=e3
   have fr:(relabel scope X.env).names.lookup x = some .cell∨(relabel scope X.env).names.lookup x = some .free:=by
    rcases e3' with z | z | z
    ·exfalso
     -- a local of the block is no tracked name
     have key:∀ (names:List (Str × NameKind)),(names.map fun (n,k)=>if (k == NameKind.free && X.env.scope.kind == .function && X.env.kindOf n == some .cell) then (n,NameKind.cell) else (n,k)).lookup x = some .local→(x,NameKind.local) ∈ names:=by
      intro names
      induction names with
      | nil=>intro z; simp at z
      | cons y r ih=>
       obtain ⟨n,k⟩:=y
       intro z
       rw [List.map_cons] at z
       dsimp only at z
       by_cases hfk:(k == NameKind.free && X.env.scope.kind == .function && X.env.kindOf n == some .cell) = true
       ·rw [if_pos hfk,List.lookup_cons] at z
        cases hx:(x == n) with
        | true=>rw [hx] at z; cases z
        | false=>rw [hx] at z; exact List.mem_cons_of_mem _ (ih z)
       ·rw [if_neg hfk,List.lookup_cons] at z
        cases hx:(x == n) with
        | true=>
         rw [hx] at z
         have ek:k = .local:=Option.some.inj z
         have en:x = n:=by simpa using hx
         rw [ek,en]; exact List.mem_cons_self
        | false=>rw [hx] at z; exact List.mem_cons_of_mem _ (ih z)
     exact S.apart (x,.local) (key _ z) rfl hxN
    ·exact .inl z
    ·exact .inr z
   have m:(x,NameKind.free) ∈ scope.names:=by
    rcases fr with z | z
    ·exact relabel_free S.nocell z (.inl rfl)
    ·exact relabel_free S.nocell z (.inr rfl)
   have kX:=S.free _ m rfl
   obtain ⟨mm,hn,hl'⟩:=I.loc
   obtain ⟨u,r,lk⟩:=hl' i x v (S.same i x _ e1' m) e2 (.inr kX)
   refine ⟨u,r,.inr ⟨fr,?_⟩⟩
   rcases lk with ⟨z,_⟩ | ⟨_,c,ec,cc⟩
   ·rcases kX with q | q
    ·rw [q] at z; cases z
    ·rw [q] at z; cases z
   ·obtain ⟨c',ec'⟩:=closOf_has (cells:=X.env.cells) (acc:=[]) m
    have:=hcl x c' ec'
    rw [ec] at this; cases this
    exact ⟨c,ec',cc.keeps old⟩
  ·obtain ⟨v,z⟩:=I.cell x c (hcl x c e)
   exact ⟨v,z.keeps old⟩
  ·show upd H D (.lst []) C = none
   rw [upd_ne (Ne.symm hDC)]; exact hHC
  ·have q:=I.freeC x c (hcl x c e)
   obtain ⟨v,o,z,_⟩:=I.cell x c (hcl x c e)
   rw [upd_ne (neD c o z)]; exact q
  ·exact ⟨Nat.zero_le _,[],0,.nil,dat⟩
  ·show (σ ++ List.replicate T.length none).length = (N0 ++ T).length
   rw [List.length_append,List.length_append,List.length_replicate,I.len,S.len0]
 have st1:tn 0 h₁:=Tn.keep _ _ _ st fun b _ o e=>old b o e
 have fp1:∀ {H':Hp},(∀ b ∈ fp,H' b = none)→∀ b ∈ fp,FpOk (cxComp X N0 T scope C fp s H) [] H' b:=fun hn b hb=>
  ⟨hn b hb,(okC.exf b hb).1,okC.exfs b hb,.inl hb,(okC.exf b hb).2,fun p hp=>(by simp [cxComp] at hp)⟩
 have fp0:∀ b ∈ fp,upd H D (.lst []) b = none:=fun b hb=>by
  obtain ⟨o,e,_⟩:=Tn.obj 0 _ st b hb
  rw [upd_ne (neD b o e)]; exact (hf b hb).1
 obtain ⟨W,⟨m0,w0⟩,turn⟩:=h D hHD
 have loop:∀ s₃ : Shared,s₃ = { s with heap:=h₁,toks:=s.toks + ([]:List (Str × Value)).length }→
   codeAny (model X.prog X.w) X.A (.compLoop (.ListComp elt [⟨tg,iter,ifs,0⟩] scope pos) 0 (.ref it) (.ref D) (compEnvC scope (closOf X.env.cells scope.names []) C X.env)) (RR (.ref D) C) s₃:=by
  rintro s₃ rfl
  refine codeAny_compLoop_go (fun n s'=>∃ i H' ys,Inv (cxComp X N0 T scope C fp s H) [] (σ ++ List.replicate T.length none) H' s'∧tn i s'.heap∧(∀ b ∈ fp,H' b = none)∧W i n ys H') ?_ m0 ⟨0,_,[],I1,st1,fp0,w0⟩
  rintro n s3 ⟨i,H3,ys,I3,st3,fr3,w3⟩
  rcases turn i n ys H3 w3 with ⟨stop,qn⟩ | ⟨go,step⟩
  ·refine thn (Tn.done (cxComp X N0 T scope C fp s H) rfl rfl rfl hc i [] s3 _ H3 (fun _ _=>False) I3 (fp1 fr3) st3 stop) fun r s4 ⟨hr,I4⟩=>?_
   subst hr
   obtain ⟨m,hm,_⟩:=I4.loc
   have hch:∀ b ∈ fp,(b ∈ X.ex∨X.s₀.heap.objs.size ≤ b)∧b ≠ X.env.locals∧(∀ x c,X.env.cells.lookup x = some c→c ≠ b)∧∀ p ∈ X.pn ++ pins,p.1 ≠ b:=fun b hb=>
    ⟨(hf b hb).2.2.2.1,(hf b hb).2.1,(hf b hb).2.2.2.2.1,(hf b hb).2.2.2.2.2⟩
   have u4:Un (frs X.stack) fp H H3 s.heap s4.heap:=I4.base
   refine hRR D C s4 H3 m hm I4.free (Ne.symm (Nat.ne_of_lt (Nat.lt_trans (hD ▸ I.lt) hDlt))) (fun x c e=>?_) (fun p hp=>?_) (Nat.le_trans (hD ▸ I.sz) (Nat.le_of_lt hDlt)) (I.call' (ch:=fp) I4.os u4 I4.hok I4.bare hch) (fun h' hs'=>?_) qn
   ·obtain ⟨v,o,q,_⟩:=I.cell x c e
    exact neC c o q
   ·exact neC _ _ (I.pin p hp).1
   ·refine I.call' (ch:=fp) (s':={ s4 with heap:=h' }) I4.os ⟨fun b o q n' hb hx=>(hs'.2 b (neC b o q)).trans (u4.keep b o q n' hb hx),fun b o q n' hb hx=>?_,u4.free,fun b o q hx=>?_,u4.tups,u4.frzs,u4.tbls⟩ (I4.hok.sameBut hs' I4.free) I4.bare hch
    ·obtain ⟨sl,e⟩:=u4.slot b o q n' hb hx
     exact ⟨sl,(hs'.2 b (neC b o q)).trans e⟩
    ·obtain ⟨o',e⟩:=u4.there b o q hx
     exact ⟨o',(hs'.2 b (neC b o q)).trans e⟩
  ·refine thn (Tn.item (cxComp X N0 T scope C fp s H) rfl rfl rfl hc i [] s3 _ H3 (fun _ _=>False) I3 (fp1 fr3) st3 go) fun r s4 ⟨u,hr,h4⟩=>?_
   subst hr
   refine thn h4 fun _ s5 ⟨x,H5,I5,r5,y5,st5,fr5⟩=>?_
   have I5':=I5.pinned (fp1 fr5) (Tn.obj _ _ st5)
   refine thn (hg C fp s H _ s5 _ H5 x u _ I5' r5 (hfr _ _ _ _ (step x H5 y5))) fun _ s6 ⟨σ6,H6,I6,q6,l6,k6⟩=>?_
   have back:∀ {H7:Hp} {s7:Shared},Inv (cxComp X N0 T scope C fp s H) ([] ++ pinsAt fp s5.heap) σ6 H7 s7→(∀ {m':Nat} {zs:List V},m' < n→W (i + 1) m' zs H7→∃ m,m < n∧∃ i H' ys,Inv (cxComp X N0 T scope C fp s H) [] (σ ++ List.replicate T.length none) H' s7∧tn i s7.heap∧(∀ b ∈ fp,H' b = none)∧W i m ys H'):=fun {H7 s7} I7 {m' zs} hm w7=>by
    refine ⟨m',hm,i + 1,H7,zs,I7.unpinned.weak (by rw [l6]) (fun j v e=>?_),Tn.keep _ _ _ st5 fun b hb o e=>(I7.pin (b,o) (List.mem_append_right _ (List.mem_append_right _ (mem_pinsAt hb e)))).1,fun b hb=>?_,w7⟩
    ·have hj:j < σ.length:=by
      rcases Nat.lt_or_ge j σ.length with z | z
      ·exact z
      ·rw [List.getElem?_append_right z,List.getElem?_replicate] at e
       split at e <;> cases e
     rw [k6 j (by rw [← I.len]; exact hj)]
     exact e
    ·obtain ⟨o,e,d⟩:=Tn.obj _ _ st5 b hb
     exact (I7.pin (b,o) (List.mem_append_right _ (List.mem_append_right _ (mem_pinsAt hb e)))).2.1
   refine thn (hi C fp s H _ s6 σ6 H6 _ I6 q6) fun b s7 ⟨H7,I7,q7⟩=>?_
   cases b with
   | false=>
    obtain ⟨m',hm,w7⟩:=(show ∃ m',m' < n∧W (i + 1) m' ys H7 from by simpa using q7)
    exact back I7 hm w7
   | true=>
    rw [if_pos rfl] at q7
    refine thn (he C fp s H _ s7 σ6 H7 _ I7 q7) fun v s8 ⟨y,H8,I8,r8,hD8,hz,m',hm,w8⟩=>?_
    refine thn (mt_append (X:=cxComp X N0 T scope C fp s H) _ s8 σ6 H8 (.ref D) [y] (.ref D) [v] (fun _ H9=>H9 = upd H8 D (.lst (ys ++ [y]))) I8 rfl (.cons r8 .nil) ⟨D,ys,y,rfl,rfl,hD8,hz,rfl⟩) fun v9 s9 ⟨y9,H9,I9,_,e9⟩=>?_
    subst e9
    exact back I9 hm w8
 exact codeAny_compStart_list (loop _ rfl) (Tn.self X.A 0 _ _ _ st1 (loop _ rfl))
theorem pe_comp (S:CompScope X N0 T scope) (hc:X.calm = true) (hI:PI X tg iter wi)
  (hg:∀ C fp s H,PG (cxComp X N0 T scope C fp s H) tg g) (hfr:GFr g X.N.length) (hi:∀ C fp s H,PIfs (cxComp X N0 T scope C fp s H) ifs tc) (he:∀ C fp s H,PE (cxComp X N0 T scope C fp s H) elt te)
  (hs:∀ x,foldedSetIterable iter X.env x = pure x:=by intro _; rfl):PE X (.ListComp elt [⟨tg,iter,ifs,0⟩] scope pos) (tComp wi g tc te T.length):=by
 intro pins s σ H Q I h
 rw [eval_ListComp]
 refine wpAny_comprehension_free (use:=none) rfl hs (closureFor_eq fun x hx hk=>I.ok.has x.1 (S.free x hx hk)) S.kind S.names (thn (hI pins s σ H _ I h) fun v s1 h1=>thn h1 fun itv s2 h2=>?_)
 obtain ⟨it,fp,tn,J,H2,e,I2,Tn,st2,f2,q2⟩:=h2
 subst e
 refine comp_core (RR:=fun acc C=>compPost (model X.prog X.w) X.A X.xe none (EP X pins σ Q) acc C) S hc hg hfr hi he I2 Tn st2 f2 q2 ?_
 intro D C s' H' m hn hC hL hcells hpins hfresh I' hI' q
 exact ⟨m,hn,fun h' hs'=>⟨.ref D,H',hI' h' hs',rfl,q⟩⟩
theorem ps_setcomp {i:Nat} {x:Str} {pos' spos:Pos} (S:CompScope X N0 T scope) (hc:X.calm = true) (hN:X.N.Nodup) (hi':X.N[i]? = some x) (hx:X.env.scope.names.lookup x = some .local) (hI:PI X tg iter wi)
  (hg:∀ C fp s H,PG (cxComp X N0 T scope C fp s H) tg g) (hfr:GFr g X.N.length) (hi:∀ C fp s H,PIfs (cxComp X N0 T scope C fp s H) ifs tc) (he:∀ C fp s H,PE (cxComp X N0 T scope C fp s H) elt te)
  (hsw:swapsWith (.ListComp elt [⟨tg,iter,ifs,0⟩] scope pos) (some (.Name x pos')) spos.line X.env = pure true:=by rfl)
  (hs:∀ x,foldedSetIterable iter X.env x = pure x:=by intro _; rfl):PS X (.Assign [.Name x pos'] (.ListComp elt [⟨tg,iter,ifs,0⟩] scope pos) spos) (tAsg (tComp wi g tc te T.length) (gName i)):=by
 intro pins s σ H D I h
 rw [exec_Assign_Name_used _ _ _ _ hsw]
 refine wpAny_bind (wpAny_standAt (wpAny_bind ?_))
 show wpAny _ X.A (do let _ ← comprehension (.ListComp elt [⟨tg,iter,ifs,0⟩] scope pos) scope X.env _ (newList []) false (eval iter X.env) (some (assign (.Name x pos') X.env))) _ _ s
 refine wpAny_bind (wpAny_mono (wpAny_comprehension_free (use:=some (assign (.Name x pos') X.env)) (Q:=fun _ s'=>SP X pins D .next s') rfl hs (closureFor_eq fun x hx hk=>I.ok.has x.1 (S.free x hx hk)) S.kind S.names
  (thn (hI pins s σ H _ I h) fun v s1 h1=>thn h1 fun itv s2 h2=>?_)) (fun _ s' hq=>wpAny_pure (wpAny_pure hq)) fun _ _ e=>e)
 obtain ⟨it,fp,tn,J,H2,e,I2,Tn,st2,f2,q2⟩:=h2
 subst e
 refine comp_core (RR:=fun acc C=>compPost (model X.prog X.w) X.A X.xe (some (assign (.Name x pos') X.env)) (fun _ s'=>SP X pins D .next s') acc C) S hc hg hfr hi he I2 Tn st2 f2 q2 ?_
 intro L C s' H' m hn hC hL hcells hpins hfresh I' hI' q
 show wpAny _ X.A (assign (.Name x pos') X.env (.ref L)) _ _ _
 refine wpAny_assign_Name (store_ok2 (v:=.ref L) I' hN hi' (.inl hx) rfl (fun s'' I'' ⟨a,hsa,ha⟩=>?_) (.inr hx))
 have hCa:C ≠ a:=by
  rintro rfl
  rcases ha with z | z
  ·exact hL z
  ·exact hcells x C z rfl
 refine ⟨m,hn.sameBut hsa hCa,fun h' hs'=>?_⟩
 exact ⟨σ.set i (some (.ref L)),H',I''.turned (t':=s''.toks) (fun b o hb e=>(hs'.2 b hb).trans e) hC hL (.inr hfresh) hcells hpins,q⟩
end
end L2
namespace L2
open PySem PySem.Spec PyProof.Rows
theorem Vals.of:∀ {xs:List V} {us:List Value} {i:Nat} {u:Value},Vals xs us→us[i]? = some u→∃ x,xs[i]? = some x∧RelV x u
 | _,_,0,u,.cons r _,e=>⟨_,rfl,by simp at e; subst e; exact r⟩
 | _,_,i + 1,u,.cons _ rr,e=>by
  obtain ⟨x,hx,r⟩:=Vals.of (i:=i) rr (by simpa using e)
  exact ⟨x,by simpa using hx,r⟩
theorem vals_strs:∀ {ss:List Str} {us:List Value},Vals (ss.map V.str) us→StrsAre us ss
 | [],_,.nil=>.nil
 | s :: ss,_,.cons r rr=>by
  obtain ⟨t,rfl⟩:=r
  exact .cons s t (vals_strs rr)
theorem strs_vals:∀ {us:List Value} {ss:List Str},StrsAre us ss→Vals (ss.map V.str) us
 | _,_,.nil=>.nil
 | _,_,.cons y t h=>.cons ⟨t,rfl⟩ (strs_vals h)
section
variable {X:Cx}
def tyName (H:Hp):V→Option String
 | .non=>some "NoneType"
 | .bl _=>some "bool"
 | .int _=>some "int"
 | .str _=>some "str"
 | .ref a=>match H a with
  | some (.lst _)=>some "list"
  | some (.frz _ (.lst _))=>some "list"
  | some (.tup _)=>some "tuple"
  | some (.dK _)=>some "dict"
  | some (.dT _)=>some "dict"
  | _=>none
 | _=>none
theorem tyOf_name {K:PySem.W.Frag} {H:Hp}:∀ {x:V} {T:String},tyName H x = some T→TyOf K H x (.type T)
 | .non,T,h=>by cases h; exact .non
 | .bl b,T,h=>by cases h; exact .bl b
 | .int i,T,h=>by cases h; exact .int i
 | .str y,T,h=>by cases h; exact .str y
 | .byt _,T,h=>by cases h
 | .flt _,T,h=>by cases h
 | .ty _,T,h=>by cases h
 | .ref a,T,h=>by
  cases e:H a with
  | none=>simp [tyName,e] at h
  | some o=>
   cases o with
   | lst xs=>simp [tyName,e] at h; subst h; exact .lst e
   | tup xs=>simp [tyName,e] at h; subst h; exact .tup e
   | dK xs=>simp [tyName,e] at h; subst h; exact .dK e
   | dT xs=>simp [tyName,e] at h; subst h; exact .dT e
   | frz ob u=>
    cases u with
    | lst xs=>simp [tyName,e] at h; subst h; exact .frz e
    | _=>simp [tyName,e] at h
   | _=>simp [tyName,e] at h
def isT (T C:String):Bool:=T == C || (T == "bool" && C == "int")
theorem kit_name (K:PySem.W.Frag) {T C:String} (hT:T ∈ ["NoneType", "bool", "int", "str", "list", "tuple", "dict"]) (hC:C ∈ ["bool", "int", "str", "list", "tuple"]):PySem.W.kitOne K (.type T) (.type C) = some (isT T C):=by
 simp only [List.mem_cons,List.mem_nil_iff,or_false] at hT hC
 rcases hT with rfl | rfl | rfl | rfl | rfl | rfl | rfl <;> rcases hC with rfl | rfl | rfl | rfl | rfl <;> (with_unfolding_all rfl)
theorem tyName_mem {H:Hp} {x:V} {T:String} (h:tyName H x = some T):T ∈ ["NoneType", "bool", "int", "str", "list", "tuple", "dict"]:=by
 cases x with
 | ref a=>
  cases e:H a with
  | none=>simp [tyName,e] at h
  | some o=>
   cases o with
   | frz ob u=>cases u <;> simp [tyName,e] at h <;> subst h <;> decide
   | _=>simp [tyName,e] at h <;> subst h <;> decide
 | _=>first | (cases h; decide) | cases h
def rIsT:List V→Hp→VK→Prop:=fun xs H Q=>∃ (x:V) (T C:String),xs = [x,.ty C]∧tyName H x = some T∧C ∈ ["bool", "int", "str", "list", "tuple"]∧Q (.bl (isT T C)) H
theorem rIsT_at {H:Hp} {Q:VK} (x:V) (C:String):rIsT [x,.ty C] H Q = ∃ T,tyName H x = some T∧C ∈ ["bool", "int", "str", "list", "tuple"]∧Q (.bl (isT T C)) H:=
 propext ⟨fun ⟨_,T,_,e,q⟩=>by cases e; exact ⟨T,q⟩,fun ⟨T,q⟩=>⟨x,T,C,rfl,q⟩⟩
theorem call_isT:CallR X (.builtin "isinstance") rIsT:=by
 intro pins s σ H xs us Q I r h
 obtain ⟨x,T,C,rfl,hT,hC,q⟩:=h
 obtain ⟨u,w',rfl,ru,rw'⟩:=vals2 r
 cases rw'
 exact isinst_ok I ru (tyOf_name hT) (kit_name X.K (tyName_mem hT) hC) fun tk=>⟨.bl (isT T C),H,I.tok tk,rfl,q⟩
end
def forW (J:It) (g:TG) (tb:TS) (D:Ends) (σ : St) (H:Hp):Prop:=∃ W:Nat→Nat→St→Hp→Prop,(∃ m,W 0 m σ H)∧∀ i m σ H,W i m σ H→
 (J.stop i H∧D.nx σ H)∨(J.go i H∧∃ N:St→Hp→Prop,(∀ σ' H',N σ' H'→∃ m',m' < m∧W (i + 1) m' σ' H')∧∀ x H',J.yld i H x H'→g x σ H' fun σ2 H2=>tb { D with nx:=N,ct:=N,bk:=D.nx } σ2 H2)
theorem tFor_at (wi:TI) (g:TG) (tb:TS) (D:Ends) (σ : St) (H:Hp):tFor wi g tb D σ H = wi σ H fun J H1=>forW J g tb D σ H1:=rfl
theorem forW_by {J:It} {g:TG} {tb:TS} {D:Ends} {σ : St} {H:Hp} (n:Nat) (Pv:Nat→St→Hp→Prop) (h0:Pv 0 σ H) (hgo:∀ i σ H,i < n→Pv i σ H→J.go i H) (hst:∀ σ H,Pv n σ H→J.stop n H)
  (hs:∀ i σ H x H',i < n→Pv i σ H→J.yld i H x H'→g x σ H' fun σ2 H2=>tb { D with nx:=Pv (i + 1),ct:=Pv (i + 1),bk:=D.nx } σ2 H2) (hd:∀ σ H,Pv n σ H→D.nx σ H):forW J g tb D σ H:=by
 refine ⟨fun i m σ H=>m = n - i∧i ≤ n∧Pv i σ H,⟨n,by simp,Nat.zero_le _,h0⟩,?_⟩
 rintro i m σ H ⟨rfl,hi,p⟩
 by_cases hlt:i < n
 ·exact .inr ⟨hgo i σ H hlt p,Pv (i + 1),fun σ' H' p'=>⟨n - (i + 1),by omega,rfl,hlt,p'⟩,fun x H' y=>hs i σ H x H' hlt p y⟩
 ·have e:i = n:=by omega
  subst e
  exact .inl ⟨hst σ H p,hd σ H p⟩
theorem forW_list {K:PySem.W.Frag} {a:Addr} {xs:List V} {g:TG} {tb:TS} {D:Ends} {σ : St} {H:Hp} (Pv:Nat→St→Hp→Prop) (h0:Pv 0 σ H) (hl:∀ i σ H,i ≤ xs.length→Pv i σ H→SqL K H a xs)
  (hs:∀ i x σ H,xs[i]? = some x→Pv i σ H→g x σ H fun σ2 H2=>tb { D with nx:=Pv (i + 1),ct:=Pv (i + 1),bk:=D.nx } σ2 H2) (hd:∀ σ H,Pv xs.length σ H→D.nx σ H):forW (Itl K a) g tb D σ H:=
 for_list Pv h0 hl hs hd
theorem forW_range {lo:Int} {n:Nat} {g:TG} {tb:TS} {D:Ends} {σ : St} {H:Hp} (Pv:Nat→St→Hp→Prop) (h0:Pv 0 σ H)
  (hs:∀ i σ H,i < n→Pv i σ H→g (.int (lo + i)) σ H fun σ2 H2=>tb { D with nx:=Pv (i + 1),ct:=Pv (i + 1),bk:=D.nx } σ2 H2) (hd:∀ σ H,Pv n σ H→D.nx σ H):forW (Itr lo n) g tb D σ H:=
 for_range Pv h0 hs hd
def CStep (n i:Nat) (Pv:Nat→List V→Hp→Prop) (D:Addr) (ys:List V) (y:V) (H:Hp):Prop:=
 H D = some (.lst ys)∧ys.length < sizeLine∧∃ m',m' < n - i∧(m' = n - (i + 1)∧i + 1 ≤ n∧Pv (i + 1) (ys ++ [y]) (upd H D (.lst (ys ++ [y]))))
theorem cstep {n i:Nat} {Pv:Nat→List V→Hp→Prop} {D:Addr} {ys:List V} {y:V} {H:Hp} (hi:i < n) (hlen:ys.length = i) (hz:n ≤ sizeLine) (h1:H D = some (.lst ys)) (h2:Pv (i + 1) (ys ++ [y]) (upd H D (.lst (ys ++ [y])))):CStep n i Pv D ys y H:=
 ⟨h1,by omega,n - (i + 1),by omega,rfl,hi,h2⟩
def compK (n i:Nat) (Pv:Nat→List V→Hp→Prop) (D:Addr) (ys:List V) (te:TE) (σ : St) (H:Hp):Prop:=
 if true = true then te σ H (CStep n i Pv D ys) else ∃ m',m' < n - i∧(m' = n - (i + 1)∧i + 1 ≤ n∧Pv (i + 1) ys H)
theorem compK_at {n i:Nat} {Pv:Nat→List V→Hp→Prop} {D:Addr} {ys:List V} {te:TE} {σ : St} {H:Hp}:compK n i Pv D ys te σ H = te σ H (CStep n i Pv D ys):=by
 unfold compK; rw [if_pos rfl]
theorem compW_by {J:It} {g:TG} {te:TE} {nT:Nat} {σ : St} {D:Addr} {Q:VK} {H:Hp} (n:Nat) (Pv:Nat→List V→Hp→Prop) (h0:Pv 0 [] H) (hgo:∀ i ys H,i < n→Pv i ys H→J.go i H) (hst:∀ ys H,Pv n ys H→J.stop n H)
  (hs:∀ i ys H x H',i < n→Pv i ys H→J.yld i H x H'→g x (σ ++ List.replicate nT none) H' (compK n i Pv D ys te))
  (hd:∀ ys H,Pv n ys H→Q (.ref D) H):compW J g tYes te nT σ D Q H:=by
 refine ⟨fun i m ys H=>m = n - i∧i ≤ n∧Pv i ys H,⟨n,by simp,Nat.zero_le _,h0⟩,?_⟩
 rintro i m ys H ⟨rfl,hi,p⟩
 by_cases hlt:i < n
 ·exact .inr ⟨hgo i ys H hlt p,fun x H' y=>hs i ys H x H' hlt p y⟩
 ·have e:i = n:=by omega
  subst e
  exact .inl ⟨hst ys H p,hd ys H p⟩
theorem compW_list {K:PySem.W.Frag} {a:Addr} {xs:List V} {g:TG} {te:TE} {nT:Nat} {σ : St} {D:Addr} {Q:VK} {H:Hp} (Pv:Nat→List V→Hp→Prop) (h0:Pv 0 [] H) (hl:∀ i ys H,i ≤ xs.length→Pv i ys H→SqL K H a xs)
  (hs:∀ i ys H x,xs[i]? = some x→i < xs.length→Pv i ys H→g x (σ ++ List.replicate nT none) H (compK xs.length i Pv D ys te))
  (hd:∀ ys H,Pv xs.length ys H→Q (.ref D) H):compW (Itl K a) g tYes te nT σ D Q H:=by
 refine compW_by xs.length Pv h0 (fun i ys H hi p=>⟨xs,xs[i],hl i ys H (Nat.le_of_lt hi) p,by simp [hi]⟩) (fun ys H p=>⟨xs,hl _ ys H (Nat.le_refl _) p,Nat.le_refl _⟩) (fun i ys H x H' hi p yl=>?_) hd
 obtain ⟨rfl,y⟩:=yl
 exact hs i ys _ x (y xs (hl i ys _ (Nat.le_of_lt hi) p)) hi p
end L2
namespace L2
open PySem PySem.Spec PyProof.Rows
def Rest (u:TS) (D:Ends) (σ : St) (H:Hp):Prop:=u D σ H
section
variable {D:Ends} {σ : St} {H:Hp} {Q:VK} {B:Bool→Hp→Prop} {L:List V→Hp→Prop} {R:It→Hp→Prop} {G:St→Hp→Prop}
theorem tSeq_at (t u:TS):tSeq t u D σ H = t { D with nx:=Rest u D } σ H:=rfl
theorem rest_at (u:TS):Rest u D σ H = u D σ H:=rfl
theorem tNext_at:tNext D σ H = D.nx σ H:=rfl
theorem tCont_at:tCont D σ H = D.ct σ H:=rfl
theorem tIfS_at (c:TT) (t u:TS):tIfS c t u D σ H = c σ H fun b H1=>if b = true then t D σ H1 else u D σ H1:=rfl
theorem tRet_at (t:TE):tRet t D σ H = t σ H D.rt:=rfl
theorem tRetN_at:tRetN D σ H = D.rt .non H:=rfl
theorem tDrop_at (t:TE):tDrop t D σ H = t σ H fun _ H1=>D.nx σ H1:=rfl
theorem tAsg_at (t:TE) (g:TG):tAsg t g D σ H = t σ H fun x H1=>g x σ H1 D.nx:=rfl
theorem gName_at (i:Nat) (v:V):gName i v σ H G = G (σ.set i (some v)) H:=rfl
theorem gNil_at (vs:List V):gNil vs σ H G = (vs = []∧G σ H):=rfl
theorem gCons_at (t:TG) (u:TGs) (vs:List V):gCons t u vs σ H G = ∃ v r,vs = v :: r∧t v σ H fun σ' H'=>u r σ' H' G:=rfl
theorem gTup_at (K:PySem.W.Frag) (n:Nat) (t:TGs) (v:V):gTup K n t v σ H G = ∃ a xs,v = .ref a∧SqT K H a xs∧xs.length = n∧t xs σ H G:=rfl
theorem gSub_at (to ti:TE) (t:TSet) (v:V):gSub to ti t v σ H G = to σ H fun o H1=>ti σ H1 fun i H2=>t o i v H2 fun H3=>G σ H3:=rfl
theorem tVar_at (i:Nat):tVar i σ H Q = ∃ v,σ[i]? = some (some v)∧Q v H:=rfl
theorem tC_at (v:V):tC v σ H Q = Q v H:=rfl
theorem tOp_at (r:R2) (ta tb:TE):tOp r ta tb σ H Q = ta σ H fun x H1=>tb σ H1 fun y H2=>r x y H2 Q:=rfl
theorem tTest_at (t:TE):tTest t σ H B = t σ H fun x H'=>∃ k,x = .bl k∧B k H':=rfl
theorem tB_at (t:TE):tB t σ H B = t σ H fun x H'=>∃ k,x = .bl k∧B k H':=rfl
theorem tAnd_at (t u:TT):tAnd t u σ H B = t σ H fun c H1=>if c = true then u σ H1 B else B false H1:=rfl
theorem tOr_at (t u:TT):tOr t u σ H B = t σ H fun c H1=>if c = true then B true H1 else u σ H1 B:=rfl
theorem tNot_at (t:TT):tNot t σ H B = t σ H fun c H1=>B (!c) H1:=rfl
theorem tAndV_at (ta tb:TE):tAndV ta tb σ H Q = ta σ H fun x H1=>∃ c,x = .bl c∧if c = true then tb σ H1 Q else Q (.bl false) H1:=rfl
theorem tNotV_at (ta:TE):tNotV ta σ H Q = ta σ H fun x H1=>∃ c,x = .bl c∧Q (.bl (!c)) H1:=rfl
theorem tIf_at (t:TT) (ta tb:TE):tIf t ta tb σ H Q = t σ H fun c H1=>if c = true then ta σ H1 Q else tb σ H1 Q:=rfl
theorem tCB_at (r:List V→Hp→VK→Prop) (t:TA):tCB r t σ H Q = t σ H fun vs H1=>r vs H1 Q:=rfl
theorem tCons_at (ta:TE) (tr:TA):tCons ta tr σ H L = ta σ H fun x H1=>tr σ H1 fun xs H2=>L (x :: xs) H2:=rfl
theorem tNil_at:tNil σ H L = L [] H:=rfl
theorem tTup_at (t:TA):tTup t σ H Q = t σ H fun xs H1=>xs.length ≤ sizeLine∧∀ p,H1 p = none→Q (.ref p) (upd H1 p (.tup xs)):=rfl
theorem tLst_at (t:TA):tLst t σ H Q = t σ H fun xs H1=>xs.length ≤ sizeLine∧∀ p,H1 p = none→Q (.ref p) (upd H1 p (.lst xs)):=rfl
theorem tCall_at (sp:Sp) (dvs:List V) (E:XK) (t:TA):tCall sp dvs E t σ H Q = t σ H fun vs H1=>sp (vs ++ dvs) H1 Q E:=rfl
theorem tBM_at (K:PySem.W.Frag) (T:String) (r:V→List V→Hp→VK→Prop) (to:TE) (t:TA):tBM K T r to t σ H Q = to σ H fun x H1=>tyV K T x H1∧t σ H1 fun xs H2=>r x xs H2 Q:=rfl
theorem tBM0_at (K:PySem.W.Frag) (T:String) (r:V→List V→Hp→VK→Prop) (to:TE):tBM0 K T r to σ H Q = to σ H fun x H1=>tyV K T x H1∧r x [] H1 Q:=rfl
theorem tSl_at (r:V→Option Int→Option Int→Hp→VK→Prop) (te:TE) (tl th:TO):tSl r te tl th σ H Q = te σ H fun x H1=>tl σ H1 fun l H2=>th σ H2 fun u H3=>r x l u H3 Q:=rfl
theorem tPart_at (t:TE) (O:Option Int→Hp→Prop):tPart t σ H O = t σ H fun x H1=>∃ i,x = .int i∧O (some i) H1:=rfl
theorem tNoPart_at (O:Option Int→Hp→Prop):tNoPart σ H O = O none H:=rfl
theorem tComp_at (wi:TI) (g:TG) (tc:TT) (te:TE) (nT:Nat):tComp wi g tc te nT σ H Q = wi σ H fun J H1=>∀ D,H1 D = none→compW J g tc te nT σ D Q (upd H1 D (.lst [])):=rfl
theorem tYes_at:tYes σ H B = B true H:=rfl
theorem iList_at (K:PySem.W.Frag) (tl:TE):iList K tl σ H R = tl σ H fun x H1=>∃ a,x = .ref a∧(∃ xs,SqL K H1 a xs)∧R (Itl K a) H1:=rfl
theorem iRng1_at (ta:TA):iRng1 ta σ H R = ta σ H fun vs H1=>∃ j:Int,vs = [.int j]∧-(2 ^ 62) ≤ j∧j < 2 ^ 62∧R (Itr 0 j.toNat) H1:=rfl
theorem rI0_at (g:Int→Int→V) (i j:Int):rI0 g (.int i) (.int j) H Q = Q (g i j) H:=propext ⟨fun ⟨_,_,e1,e2,q⟩=>by cases e1; cases e2; exact q,fun q=>⟨i,j,rfl,rfl,q⟩⟩
theorem rI_at (C:Int→Int→Prop) (g:Int→Int→V) (i j:Int):rI C g (.int i) (.int j) H Q = (C i j∧Q (g i j) H):=propext ⟨fun ⟨_,_,e1,e2,q⟩=>by cases e1; cases e2; exact q,fun q=>⟨i,j,rfl,rfl,q⟩⟩
end
structure DefAt (K:PySem.W.Frag) (mg:Str→Option Value) (x:Str) (st:Stmt):Prop where
 ex:∃ f fd,Fun K x x st f fd∧mg x = some (.ref f)
structure Cal (P:Program) (w:World) (K:PySem.W.Frag) (mg:Str→Option Value) (base:Heap) (k:Nat) (x:Str) (ps:List Str) (sp:Sp):Prop where
 ex:∃ f fd,FnOk P w K mg base CX0 k f fd ps sp∧Binds K fd ps []∧PySem.W.keepIn K (.ref f) = true∧mg x = some (.ref f)
section
variable {P:Program} {w:World} {K:PySem.W.Frag} {mg:Str→Option Value} {base:Heap}
theorem DefAt.cal {x:Str} {st:Stmt} {N ps:List Str} {k:Nat} {sp:Sp} (D:DefAt K mg x st) (S:FnScope N ps (defScope st))
  (hb:∀ (kV doc pm:Value) (an:Option Addr) (cdv ct:Value) (us:List Value),us.length = ps.length→bindArgs (PySem.W.fnOf x x (defArgs st) (defBody st) (defScope st) .none kV doc pm an cdv ct) ⟨us,[]⟩ = pure (ps.zip us))
  (len:∀ vs H Q E,sp vs H Q E→vs.length = ps.length)
  (hbody:∀ (f:Addr) (cdv:Value) (A:Around) (outer:List Env) (s:Shared) (H:Hp) (vs:List V) (Q:VK) (E:XK),Room k (A.deeper (envOfC x (defScope st) s.heap.objs.size f cdv))→sp vs H Q E→
   ∃ t,PSs (cxOf CX0 P w K mg base N x (defScope st) f cdv A outer s H E).nox (defBody st) t∧t { nx:=fun _ H'=>Q .non H',rt:=Q } (start N vs) H):Cal P w K mg base (k + 1) x ps sp:=by
 obtain ⟨f,fd,F,m⟩:=D.ex
 exact ⟨f,fd,F.ok S len fun cdv A outer s H vs Q E hr h=>hbody f cdv A outer s H vs Q E hr h,F.binds hb,F.kp,m⟩
end
section
variable {X:Cx}
theorem pe_cal {j k:Nat} {x:Str} {ps:List Str} {sp:Sp} {p pos:Pos} {e:Expr} {es:List Expr} {t:TA} (c:Cal X.prog X.w X.K X.mg X.base j x ps sp) (hr:Room k X.A) (ha:PA X (e :: es) t) (hle:j ≤ k:=by decide) (hg:Gl X x:=by rfl)
  (hdb:(x == ("__debug__" : Str)) = false:=by decide) (he:starEach (e :: es) X.env = (false,eval e X.env) :: starEach es X.env:=by rfl) (hpl:(backTo pos (starEach es X.env)).any (·.1) = false:=by rfl) :
  PE X (.Call (.Name x p) (e :: es) [] pos) (tCall sp [] E0 t):=by
 obtain ⟨f,fd,F,b,kp,m⟩:=c.ex
 exact pe_call F (hr.mono hle) hg m kp b .nil pass0 ha hdb he hpl
theorem pe_gty {x:Str} {T:String} {pos:Pos} (hm:X.mg x = none) (hv:bootBuiltins x = some (.type T)) (hg:Gl X x:=by rfl) (hn:x ≠ "__name__" := by decide) (hd:(x == ("__debug__" : Str)) = false:=by decide):PE X (.Name x pos) (tC (.ty T)):=
 pe_bltn hg hm hv rfl hn hd
theorem pe_blt {x:Str} {p pos:Pos} {e:Expr} {es:List Expr} {t:TA} {id:String} {r:List V→Hp→VK→Prop} (hc:CallR X (.builtin id) r) (hm:X.mg x = none) (hv:bootBuiltins x = some (.builtin id)) (ha:PA X (e :: es) t) (hg:Gl X x:=by rfl)
  (hn:x ≠ "__name__" := by decide) (hdb:(x == ("__debug__" : Str)) = false:=by decide) (he:starEach (e :: es) X.env = (false,eval e X.env) :: starEach es X.env:=by rfl) (hpl:(backTo pos (starEach es X.env)).any (·.1) = false:=by rfl) :
  PE X (.Call (.Name x p) (e :: es) [] pos) (tCB r t):=pe_callB hc hg hm hv ha hn hdb he hpl
theorem pe_bty {x:Str} {p pos:Pos} {e:Expr} {es:List Expr} {t:TA} {T:String} {r:List V→Hp→VK→Prop} (hc:CallR X (.type T) r) (hm:X.mg x = none) (hv:bootBuiltins x = some (.type T)) (ha:PA X (e :: es) t) (hg:Gl X x:=by rfl)
  (hn:x ≠ "__name__" := by decide) (hdb:(x == ("__debug__" : Str)) = false:=by decide) (he:starEach (e :: es) X.env = (false,eval e X.env) :: starEach es X.env:=by rfl) (hpl:(backTo pos (starEach es X.env)).any (·.1) = false:=by rfl) :
  PE X (.Call (.Name x p) (e :: es) [] pos) (tCB r t):=pe_callTy hc hg hm hv ha hn hdb he hpl
end
section
variable {X:Cx}
def rAddA:R2:=fun x y H Q=>match x,y with
 | .int i,.int j=>Q (.int (i + j)) H
 | .str a,.str b=>a.length + b.length ≤ sizeLine∧Q (.str (a ++ b)) H
 | .ref l,.ref b=>∃ xs zs,H l = some (.lst xs)∧H b = some (.lst zs)∧xs.length + zs.length ≤ sizeLine∧∀ p,H p = none→Q (.ref p) (upd H p (.lst (xs ++ zs)))
 | _,_=>False
theorem op_addA:OpR X (binaryOp .Add) rAddA:=by
 intro pins s σ H x y v u Q I rx ry h
 cases x <;> cases y <;> first
  | exact (show False from h).elim
  | exact op_add pins s σ H _ _ v u Q I rx ry ⟨_,_,rfl,rfl,h⟩
  | exact op_add_str pins s σ H _ _ v u Q I rx ry ⟨_,_,rfl,rfl,h⟩
  | (obtain ⟨xs,zs,h1,h2,h3,h4⟩:=h; exact op_cat pins s σ H _ _ v u Q I rx ry ⟨_,_,xs,zs,rfl,rfl,h1,h2,h3,h4⟩)
def rLtA:R2:=fun x y H Q=>match x,y with
 | .int i,.int j=>Q (.bl (decide (i < j))) H
 | .str i,.str j=>Q (.bl (decide (i.cps.toList < j.cps.toList))) H
 | _,_=>False
theorem op_ltA:OpR X (compareOp .Lt) rLtA:=by
 intro pins s σ H x y v u Q I rx ry h
 cases x <;> cases y <;> first
  | exact (show False from h).elim
  | exact op_lt pins s σ H _ _ v u Q I rx ry ⟨_,_,rfl,rfl,h⟩
  | exact op_lt_str pins s σ H _ _ v u Q I rx ry ⟨_,_,rfl,rfl,h⟩
def rInA (K:PySem.W.Frag):R2:=fun x y H Q=>match x,y with
 | .str i,.str j=>Q (.bl (!(Builtin.Str.occurrences j i 0 j.length 1).isEmpty)) H
 | x,.ref p=>∃ xs,(SqL K H p xs∨SqT K H p xs)∧flatV x = true∧xs.all flatV = true∧Q (.bl (inV x xs)) H
 | _,_=>False
theorem op_inA:OpR X (compareOp .In) (rInA X.K):=by
 intro pins s σ H x y v u Q I rx ry h
 cases y with
 | str j=>
  cases x with
  | str i=>exact op_in_str pins s σ H _ _ v u Q I rx ry ⟨i,j,rfl,rfl,h⟩
  | _=>exact (show False from h).elim
 | ref p=>
  have h':∃ xs,(SqL X.K H p xs∨SqT X.K H p xs)∧flatV x = true∧xs.all flatV = true∧Q (.bl (inV x xs)) H:=by cases x <;> exact h
  obtain ⟨xs,h1,h2,h3,h4⟩:=h'
  exact op_in_seq pins s σ H _ _ v u Q I rx ry ⟨p,xs,rfl,h1,h2,h3,h4⟩
 | _=>cases x <;> exact (show False from h).elim
def rLenA (K:PySem.W.Frag):List V→Hp→VK→Prop:=fun xs H Q=>match xs with
 | [.str z]=>z.length ≤ sizeLine∧Q (.int z.length) H
 | [.ref p]=>∃ ys,(SqL K H p ys∨SqT K H p ys)∧Q (.int ys.length) H
 | _=>False
theorem call_lenA:CallR X (.builtin "len") (rLenA X.K):=by
 intro pins s σ H xs us Q I r h
 match xs,h with
 | [.str z],h=>exact call_len_str pins s σ H _ us Q I r ⟨z,rfl,h⟩
 | [.ref p],h=>obtain ⟨ys,h1,h2⟩:=h; exact call_len_seq pins s σ H _ us Q I r ⟨p,ys,rfl,h1,h2⟩
def rIxA (K:PySem.W.Frag):R2:=fun x y H Q=>match x,y with
 | .ref p,.int i=>∃ xs v,(SqL K H p xs∨SqT K H p xs)∧atI xs i = some v∧Q v H
 | .str z,.int i=>∃ c,z.length ≤ sizeLine∧atI z.cps.toList i = some c∧Q (.str ⟨#[c]⟩) H
 | _,_=>False
theorem ix_A:IxR X (rIxA X.K):=by
 intro value slice pins s σ H x y v u Q I rx ry h hs
 refine ix_seq value slice pins s σ H x y v u Q I rx ry ?_ hs
 match x,y,h with
 | .ref p,.int i,h=>
  obtain ⟨xs,v',h1,h2,h3⟩:=h
  rcases h1 with h1 | h1
  ·exact .inl ⟨p,xs,i,v',rfl,rfl,h1,h2,h3⟩
  ·exact .inr (.inl ⟨p,xs,i,v',rfl,rfl,h1,h2,h3⟩)
 | .str z,.int i,h=>
  obtain ⟨c,h1,h2,h3⟩:=h
  exact .inr (.inr ⟨z,i,c,rfl,rfl,h1,h2,h3⟩)
end
section
variable {K:PySem.W.Frag} {H:Hp} {Q:VK}
theorem rAddA_int (i j:Int):rAddA (.int i) (.int j) H Q = Q (.int (i + j)) H:=rfl
theorem rAddA_str (a b:Str):rAddA (.str a) (.str b) H Q = (a.length + b.length ≤ sizeLine∧Q (.str (a ++ b)) H):=rfl
theorem rAddA_ref (l b:Addr):rAddA (.ref l) (.ref b) H Q = ∃ xs zs,H l = some (.lst xs)∧H b = some (.lst zs)∧xs.length + zs.length ≤ sizeLine∧∀ p,H p = none→Q (.ref p) (upd H p (.lst (xs ++ zs))):=rfl
theorem rLtA_int (i j:Int):rLtA (.int i) (.int j) H Q = Q (.bl (decide (i < j))) H:=rfl
theorem rLtA_str (i j:Str):rLtA (.str i) (.str j) H Q = Q (.bl (decide (i.cps.toList < j.cps.toList))) H:=rfl
theorem rInA_str (i j:Str):rInA K (.str i) (.str j) H Q = Q (.bl (!(Builtin.Str.occurrences j i 0 j.length 1).isEmpty)) H:=rfl
theorem rInA_ref (x:V) (p:Addr):rInA K x (.ref p) H Q = ∃ xs,(SqL K H p xs∨SqT K H p xs)∧flatV x = true∧xs.all flatV = true∧Q (.bl (inV x xs)) H:=by cases x <;> rfl
theorem rLenA_str (z:Str):rLenA K [.str z] H Q = (z.length ≤ sizeLine∧Q (.int z.length) H):=rfl
theorem rLenA_ref (p:Addr):rLenA K [.ref p] H Q = ∃ ys,(SqL K H p ys∨SqT K H p ys)∧Q (.int ys.length) H:=rfl
theorem rIxA_ref (p:Addr) (i:Int):rIxA K (.ref p) (.int i) H Q = ∃ xs v,(SqL K H p xs∨SqT K H p xs)∧atI xs i = some v∧Q v H:=rfl
theorem rIxA_str (z:Str) (i:Int):rIxA K (.str z) (.int i) H Q = ∃ c,z.length ≤ sizeLine∧atI z.cps.toList i = some c∧Q (.str ⟨#[c]⟩) H:=rfl
theorem rAppend_at (p:Addr) (y:V):rAppend (.ref p) [y] H Q = ∃ xs,H p = some (.lst xs)∧xs.length < sizeLine∧Q .non (upd H p (.lst (xs ++ [y]))):=
 propext ⟨fun ⟨_,xs,_,e1,e2,q⟩=>by cases e1; cases e2; exact ⟨xs,q⟩,fun ⟨xs,q⟩=>⟨p,xs,y,rfl,rfl,q⟩⟩
theorem tyV_str (y:Str):tyV K "str" (.str y) H = True:=eq_true rfl
theorem tyV_lst (p:Addr):(tyV K "list" (.ref p) H) = ∃ xs,SqL K H p xs:=by
 refine propext ⟨fun h=>?_,fun h=>.inl ⟨rfl,h⟩⟩
 rcases h with ⟨_,h⟩ | ⟨h,_⟩ | ⟨h,_⟩ | ⟨h,_⟩
 ·exact h
 ·exact absurd h (by decide)
 ·exact absurd h (by decide)
 ·exact absurd h (by decide)
end
theorem bt_len:bootBuiltins "len" = some (.builtin "len"):=by decide +kernel
theorem bt_isinstance:bootBuiltins "isinstance" = some (.builtin "isinstance"):=by decide +kernel
theorem bt_min:bootBuiltins "min" = some (.builtin "min"):=by decide +kernel
theorem bt_sorted:bootBuiltins "sorted" = some (.builtin "sorted"):=by decide +kernel
theorem bt_str:bootBuiltins "str" = some (.type "str"):=by decide +kernel
theorem bt_int:bootBuiltins "int" = some (.type "int"):=by decide +kernel
theorem bt_bool:bootBuiltins "bool" = some (.type "bool"):=by decide +kernel
theorem bt_list:bootBuiltins "list" = some (.type "list"):=by decide +kernel
theorem bt_tuple:bootBuiltins "tuple" = some (.type "tuple"):=by decide +kernel
theorem ps_let {X:Cx} (i:Nat) {x:Str} {e:Expr} {te:TE} {pos pos':Pos} (hN:X.N.Nodup) (he:PE X e te) (hi:X.N[i]? = some x:=by rfl) (hx:Loc X.env.scope x:=by first | exact Or.inl rfl | exact Or.inr rfl) (hs:swapsWith e (some (.Name x pos')) pos.line X.env = pure false:=by rfl)
  (hf:X.fn x = true∨X.env.scope.names.lookup x = some .local:=by first | exact .inl rfl | exact .inr rfl | assumption):PS X (.Assign [.Name x pos'] e pos) (tAsg te (gName i)):=ps_set hN hi hx he hs hf
theorem pg_let {X:Cx} (i:Nat) {x:Str} {pos:Pos} (hN:X.N.Nodup) (hi:X.N[i]? = some x:=by rfl) (hx:Loc X.env.scope x:=by first | exact Or.inl rfl | exact Or.inr rfl)
  (hf:X.fn x = true∨X.env.scope.names.lookup x = some .local:=by first | exact .inl rfl | exact .inr rfl | assumption):PG X (.Name x pos) (gName i):=pg_name hN hi hx hf
structure CompSc (fsc:Scope) (N N0 T:List Str) (scope:Scope):Prop where
 kind:scope.kind = .function
 nocell:∀ y ∈ scope.names,y.2 ≠ .cell
 names:∀ y ∈ scope.names,y.2 = .local→scope.names.lookup y.1 = some .local
 free:∀ y ∈ scope.names,y.2 = .free→fsc.names.lookup y.1 = some .cell∨fsc.names.lookup y.1 = some .free
 apart:∀ y ∈ scope.names,y.2 = .local→y.1 ∉ N0
 len0:N0.length = N.length
 same:((N0.zip N).all fun p=>p.1 == p.2 || !(scope.names.any fun y=>y.1 == p.1)) = true
theorem CompSc.to {X:Cx} {fsc:Scope} {N N0 T:List Str} {scope:Scope} (S:CompSc fsc N N0 T scope) (h1:X.env.scope = fsc) (h2:X.N = N):CompScope X N0 T scope:=by
 subst h1 h2
 refine ⟨S.kind,S.nocell,S.names,S.free,S.apart,S.len0,fun i x k e m=>?_⟩
 have hl:=S.len0
 have hi:i < N0.length:=(List.getElem?_eq_some_iff.mp e).1
 have hN:X.N[i]? = some X.N[i]:=List.getElem?_eq_getElem (by omega)
 have hz:(x,X.N[i]) ∈ N0.zip X.N:=List.mem_of_getElem? (i:=i) (by rw [List.getElem?_zip_eq_some]; exact ⟨e,hN⟩)
 have q:=List.all_eq_true.mp S.same _ hz
 simp only [Bool.or_eq_true,beq_iff_eq,Bool.not_eq_true'] at q
 rcases q with q | q
 ·rw [hN,← q]
 ·have:(scope.names.any fun y=>y.1 == x) = true:=List.any_eq_true.mpr ⟨_,m,by simp⟩
  rw [this] at q; cases q
def rEqA:R2:=rEq
def rNeA:R2:=rNe
theorem op_eqA {X:Cx}:OpR X (compareOp .Eq) rEqA:=op_eq
theorem op_neA {X:Cx}:OpR X (compareOp .NotEq) rNeA:=op_ne
section
variable {K:PySem.W.Frag} {H:Hp} {Q:VK}
theorem rEqA_int (i j:Int):rEqA (.int i) (.int j) H Q = Q (.bl (decide (i = j))) H:=by
 have e:decide (V.int i = V.int j) = decide (i = j):=by by_cases h:i = j <;> simp [h]
 show (scal (.int i) (.int j) = true∧Q (.bl (decide (V.int i = V.int j))) H) = _
 rw [e]; exact propext ⟨fun h=>h.2,fun h=>⟨rfl,h⟩⟩
theorem rEqA_str (i j:Str):rEqA (.str i) (.str j) H Q = Q (.bl (decide (i = j))) H:=by
 have e:decide (V.str i = V.str j) = decide (i = j):=by by_cases h:i = j <;> simp [h]
 show (scal (.str i) (.str j) = true∧Q (.bl (decide (V.str i = V.str j))) H) = _
 rw [e]; exact propext ⟨fun h=>h.2,fun h=>⟨rfl,h⟩⟩
theorem rNeA_int (i j:Int):rNeA (.int i) (.int j) H Q = Q (.bl (!decide (i = j))) H:=by
 have e:decide (V.int i = V.int j) = decide (i = j):=by by_cases h:i = j <;> simp [h]
 show (scal (.int i) (.int j) = true∧Q (.bl (!decide (V.int i = V.int j))) H) = _
 rw [e]; exact propext ⟨fun h=>h.2,fun h=>⟨rfl,h⟩⟩
theorem rNeA_str (i j:Str):rNeA (.str i) (.str j) H Q = Q (.bl (!decide (i = j))) H:=by
 have e:decide (V.str i = V.str j) = decide (i = j):=by by_cases h:i = j <;> simp [h]
 show (scal (.str i) (.str j) = true∧Q (.bl (!decide (V.str i = V.str j))) H) = _
 rw [e]; exact propext ⟨fun h=>h.2,fun h=>⟨rfl,h⟩⟩
end
section
variable {X:Cx} (K:PySem.W.Frag)
theorem op_inK (hK:X.K = K:=by rfl):OpR X (compareOp .In) (rInA K):=hK ▸ op_inA
theorem call_lenK (hK:X.K = K:=by rfl):CallR X (.builtin "len") (rLenA K):=hK ▸ call_lenA
theorem ix_K (hK:X.K = K:=by rfl):IxR X (rIxA K):=hK ▸ ix_A
theorem sl_listK (hK:X.K = K:=by rfl):SlR X (rSlL K):=hK ▸ sl_list
theorem pi_listK {tg l:Expr} {tl:TE} (hl:PE X l tl) (hK:X.K = K:=by rfl):PI X tg l (iList K tl):=hK ▸ pi_list hl
theorem pg_tupK {es:List Expr} {k n:Nat} {t:TGs} {pos:Pos} (h:PGs X es t) (hn:(assignEach es X.env).length = n:=by rfl) (hst:(assignEach es X.env).findIdx? (·.1) = none:=by rfl) (hK:X.K = K:=by rfl) (hc:X.calm = true:=by rfl):PG X (.Tuple es k pos) (gTup K n t):=hK ▸ pg_tup hc h hn hst
theorem pe_bmK {o e:Expr} {es:List Expr} {to:TE} {t:TA} {name:Str} {apos cpos:Pos} {T id:String} {r:V→List V→Hp→VK→Prop} (pa:PlainAttrs T) (slot:Slot T name id) (hty:typeOf (.builtin id) = pure (.type "method_descriptor")) (hm:MtR X id r) (ho:PE X o to) (ha:PA X (e :: es) t)
  (hbase:attributeBase o name X.env (eval o X.env) = eval o X.env:=by rfl)
  (hfew:((backTo cpos (starEach (e :: es) X.env)).all (fun x=>!x.1) && (backToKw cpos (keywordEach [] X.env)).all (fun x=>x.1.isSome) && decide ((e :: es).length + ([]:List Keyword).length + (if ([]:List Keyword).isEmpty then 0 else 1) < 30)) = true:=by rfl)
  (hline:(apos.endLine == cpos.line) = true:=by rfl) (hs:starEach (e :: es) X.env = (false,eval e X.env) :: starEach es X.env:=by rfl) (hplain:(backTo cpos (starEach es X.env)).any (·.1) = false:=by rfl) (hK:X.K = K:=by rfl) :
  PE X (.Call (.Attribute o name apos) (e :: es) [] cpos) (tBM K T r to t):=hK ▸ pe_bm pa slot hty hm ho ha hbase hfew hline hs hplain
theorem call_listK (hK:X.K = K:=by rfl):CallR X (.type "list") (fun xs H Q=>∃ p ys,xs = [.ref p]∧(SqL K H p ys∨SqT K H p ys)∧∀ l,H l = none→Q (.ref l) (upd H l (.lst ys))):=hK ▸ call_list_of
end
theorem ex_one (n:Int) (P:Int→Prop):(∃ j,[V.int n] = [V.int j]∧P j) = P n:=propext ⟨fun ⟨_,e,h⟩=>by cases e; exact h,fun h=>⟨n,rfl,h⟩⟩
theorem ex_cons (x:V) (xs:List V) (P:V→List V→Prop):(∃ v r,x :: xs = v :: r∧P v r) = P x xs:=propext ⟨fun ⟨_,_,e,h⟩=>by cases e; exact h,fun h=>⟨x,xs,rfl,h⟩⟩
def relabelS (scope fsc:Scope):Scope:={ scope with names:=scope.names.map fun (n,k)=>if (k == .free && fsc.kind == .function && fsc.names.lookup n == some .cell) then (n,.cell) else (n,k) }
section
variable {X:Cx} {N0 T:List Str} {scope:Scope} {C:Addr} {fp:List Addr} {s:Shared} {H:Hp} {x:Str}
theorem glC (fsc:Scope) (h:(relabelS scope fsc).names.lookup x = some .globalImplicit) (e:X.env.scope = fsc:=by rfl):Gl (cxComp X N0 T scope C fp s H) x:=by subst e; exact h
theorem visC (fsc:Scope) (h:((relabelS scope fsc).names.lookup x = some .local || (relabelS scope fsc).names.lookup x = some .cell || (relabelS scope fsc).names.lookup x = some .free) = true) (e:X.env.scope = fsc:=by rfl):Vis (cxComp X N0 T scope C fp s H).env.scope x:=by
 subst e
 simp only [Bool.or_eq_true,decide_eq_true_eq] at h
 rcases h with (h | h) | h
 ·exact .inl h
 ·exact .inr (.inl h)
 ·exact .inr (.inr h)
theorem locC (fsc:Scope) (h:(relabelS scope fsc).names.lookup x = some .local) (e:X.env.scope = fsc:=by rfl):Loc (cxComp X N0 T scope C fp s H).env.scope x:=by subst e; exact .inl h
theorem fnC (fsc:Scope) (h:(relabelS scope fsc).names.lookup x = some .local) (e:X.env.scope = fsc:=by rfl):(cxComp X N0 T scope C fp s H).fn x = true∨(cxComp X N0 T scope C fp s H).env.scope.names.lookup x = some .local:=by subst e; exact .inr h
end
theorem mt_appendA {X:Cx}:MtR X "list.append" rAppend:=mt_append
theorem PW.pt' {X:Cx} {e:Expr} {t:TT} (h:PW X e t):PT X e t:=h.pt
theorem seq_by {t u:TS} {D:Ends} {σ : St} {H:Hp} (I:St→Hp→Prop) (h:∀ k:St→Hp→Prop,(∀ σ' H',I σ' H'→k σ' H')→t { D with nx:=k } σ H) (hu:∀ σ' H',I σ' H'→Rest u D σ' H'):Rest (tSeq t u) D σ H:=h _ hu
theorem tDisp_at {σ : St} {H:Hp} {Q:VK} (trs:List (TE × TE)):tDisp trs σ H Q = ∀ p,H p = none→tPairs trs σ (upd H p (.dK [])) fun ps H2=>H2 p = some (.dK [])∧∃ kvs:List (Key × V),ps = kvs.map (fun kv=>(kV kv.1,kv.2))∧kvs.length ≤ 15∧Q (.ref p) (upd H2 p (.dK (mergeK [] kvs))):=rfl
theorem tPairs_nil {σ : St} {H:Hp} {Q:List (V × V)→Hp→Prop}:tPairs [] σ H Q = Q [] H:=rfl
theorem tPairs_cons {σ : St} {H:Hp} {Q:List (V × V)→Hp→Prop} (tk tv:TE) (r:List (TE × TE)):tPairs ((tk,tv) :: r) σ H Q = tk σ H fun x H1=>tv σ H1 fun y H2=>tPairs r σ H2 fun ps H3=>Q ((x,y) :: ps) H3:=rfl
theorem Same.upd {H H':Hp} {p:Addr} (sm:Same H H') (h:H p = none) (o:HO):Same H (upd H' p o):=fun b u q=>by rw [upd_ne (ne_of_none q h)]; exact sm b u q
theorem same_new {H:Hp} {p:Addr} (h:H p = none) (o:HO):Same H (upd H p o):=fun b u q=>by rw [upd_ne (ne_of_none q h)]; exact q
end L2
namespace L2
open PySem PySem.Spec PyProof.Rows PySem.SeqAt
def EqN (K:PySem.W.Frag) (H:Hp):Nat→V→V→Bool→Prop
 | 0,x,y,b=>flatV x = true∧flatV y = true∧b = eqV x y
 | n + 1,x,y,b=>(flatV x = true∧flatV y = true∧b = eqV x y)∨∃ a c xs ys,x = .ref a∧y = .ref c∧((SqL K H a xs∧SqL K H c ys)∨(SqT K H a xs∧SqT K H c ys))∧
   ((∃ e:Nat→Bool,xs.length = ys.length∧(∀ (i:Nat) x y,xs[i]? = some x→ys[i]? = some y→EqN K H n x y (e i))∧b = (List.range xs.length).all e)∨
    (SqL K H a xs∧SqL K H c ys∧xs.length ≠ ys.length∧b = false))
theorem eqV_self:∀ {x:V},flatV x = true→eqV x x = true
 | .non,_=>rfl
 | .bl b,_=>by simp [eqV]
 | .int i,_=>by simp [eqV]
 | .str y,_=>by simp [eqV]
section
variable {X:Cx} {pins:List (Addr × Obj)} {σ : St} {H:Hp} {s:Shared}
theorem EqN.self (I:Inv X pins σ H s):∀ {n:Nat} {x:V} {b:Bool},EqN X.K H n x x b→b = true
 | 0,x,b,h=>by obtain ⟨h1,_,rfl⟩:=h; exact eqV_self h1
 | n + 1,x,b,h=>by
  rcases h with ⟨h1,_,rfl⟩ | ⟨a,c,xs,ys,rfl,e,hq,h⟩
  ·exact eqV_self h1
  ·cases e
   have exy:xs = ys:=by
    rcases hq with ⟨q1,q2⟩ | ⟨q1,q2⟩
    ·exact I.list_inj q1 q2
    ·exact I.tuple_inj q1 q2
   subst exy
   rcases h with ⟨e,_,he,rfl⟩ | ⟨_,_,z,_⟩
   ·rw [List.all_eq_true]
    intro i hi
    have hi':=List.mem_range.mp hi
    have q:=he i xs[i] xs[i] (List.getElem?_eq_getElem hi') (List.getElem?_eq_getElem hi')
    exact EqN.self I q
   ·exact absurd rfl z
theorem EqN.rc (I:Inv X pins σ H s) {n:Nat} (ih:∀ {A:Around} {x y:V} {b:Bool} {u v:Value},A.units + n < cLine→EqN X.K H n x y b→RelV x u→RelV y v→EqAt A s u v b)
  {A:Around} {a c:Addr} {xs ys:List V} {b:Bool} (hu:A.units + (n + 1) < cLine) (hq:(SqL X.K H a xs∧SqL X.K H c ys)∨(SqT X.K H a xs∧SqT X.K H c ys))
  (h:(∃ e:Nat→Bool,xs.length = ys.length∧(∀ (i:Nat) x y,xs[i]? = some x→ys[i]? = some y→EqN X.K H n x y (e i))∧b = (List.range xs.length).all e)∨(SqL X.K H a xs∧SqL X.K H c ys∧xs.length ≠ ys.length∧b = false)) :
  RcAt A s (.ref a) (.ref c) b∧RcNeAt A s (.ref a) (.ref c) (!b):=by
 have hin:A.in1.units + n < cLine:=by
  have:A.in1.units = A.units + 1:=rfl
  omega
 rcases h with ⟨e,hl,he,rfl⟩ | ⟨q1,q2,hl,rfl⟩
 ·rcases hq with ⟨q1,q2⟩ | ⟨q1,q2⟩
  ·obtain ⟨i1,r1,p1,z1⟩:=I.list q1
   obtain ⟨i2,r2,p2,z2⟩:=I.list q2
   have l1:=r1.length
   have l2:=r2.length
   have hit:∀ j (h1:j < i1.toArray.size) (h2:j < i2.toArray.size),EqAt A.in1 s i1.toArray[j] i2.toArray[j] (e j):=fun j h1 h2=>by
    obtain ⟨x,hx,rx⟩:=r1.of (i:=j) (u:=i1.toArray[j]) (by simp at h1 ⊢)
    obtain ⟨y,hy,ry⟩:=r2.of (i:=j) (u:=i2.toArray[j]) (by simp at h2 ⊢)
    exact ih hin (he j x y hx hy) rx ry
   have ez:xs.length = i1.toArray.size:=by simp; omega
   rw [ez]
   exact ⟨RcAt.lists p1.isList p2.isList (by simp; omega) (by omega) hit,RcNeAt.lists p1.isList p2.isList (by simp; omega) (by omega) hit⟩
  ·obtain ⟨i1,r1,p1,z1⟩:=I.tuple q1
   obtain ⟨i2,r2,p2,z2⟩:=I.tuple q2
   have l1:=r1.length
   have l2:=r2.length
   have hit:∀ j (h1:j < i1.toArray.size) (h2:j < i2.toArray.size),EqAt A.in1 s i1.toArray[j] i2.toArray[j] (e j):=fun j h1 h2=>by
    obtain ⟨x,hx,rx⟩:=r1.of (i:=j) (u:=i1.toArray[j]) (by simp at h1 ⊢)
    obtain ⟨y,hy,ry⟩:=r2.of (i:=j) (u:=i2.toArray[j]) (by simp at h2 ⊢)
    exact ih hin (he j x y hx hy) rx ry
   have ez:(List.range xs.length).all e = ((List.range (min i1.toArray.size i2.toArray.size)).all e && i1.toArray.size == i2.toArray.size):=by
    have e1:i1.toArray.size = xs.length:=by simp; omega
    have e2:i2.toArray.size = xs.length:=by simp; omega
    rw [e1,e2,Nat.min_self]; simp
   rw [ez]
   exact ⟨RcAt.tuples (show s.heap.IsTuple a i1.toArray from p1) (show s.heap.IsTuple c i2.toArray from p2) (by omega) hit,RcNeAt.tuples (show s.heap.IsTuple a i1.toArray from p1) (show s.heap.IsTuple c i2.toArray from p2) (by omega) hit⟩
 ·obtain ⟨i1,r1,p1,z1⟩:=I.list q1
  obtain ⟨i2,r2,p2,z2⟩:=I.list q2
  have l1:=r1.length
  have l2:=r2.length
  have hne:(i1.toArray.size != i2.toArray.size) = true:=by
   rw [bne_iff_ne]; simp; omega
  exact ⟨RcAt.lists_lengths p1.isList p2.isList hne (by omega),RcNeAt.lists_lengths p1.isList p2.isList hne (by omega)⟩
theorem EqN.at (I:Inv X pins σ H s):∀ {n:Nat} {A:Around} {x y:V} {b:Bool} {u v:Value},A.units + n < cLine→EqN X.K H n x y b→RelV x u→RelV y v→EqAt A s u v b
 | 0,A,x,y,b,u,v,_,h,rx,ry=>by obtain ⟨h1,h2,rfl⟩:=h; exact eqAt_V rx ry h1 h2
 | n + 1,A,x,y,b,u,v,hu,h,rx,ry=>by
  have h0:=h
  rcases h with ⟨h1,h2,rfl⟩ | ⟨a,c,xs,ys,rfl,rfl,hq,h⟩
  ·exact eqAt_V rx ry h1 h2
  ·cases rx
   cases ry
   by_cases hac:a = c
   ·subst hac
    rw [EqN.self I h0]
    exact EqAt.same _
   ·exact EqAt.of_refs hac (EqN.rc I (fun hu' q rx ry=>EqN.at I hu' q rx ry) hu hq h).1
end
section
variable {X:Cx}
def rEqD (K:PySem.W.Frag):R2:=fun x y H Q=>∃ (a c:Addr) (n:Nat) (b:Bool),x = .ref a∧y = .ref c∧n ≤ 100∧EqN K H (n + 1) x y b∧Q (.bl b) H
theorem op_eqD (hu:X.A.units + 101 < cLine):OpR X (compareOp .Eq) (rEqD X.K):=by
 intro pins s σ H x y v u Q I rx ry h
 obtain ⟨a,c,n,b,rfl,rfl,hn,he,q⟩:=h
 cases rx
 cases ry
 rcases he with ⟨h1,_⟩ | ⟨a',c',xs,ys,e1,e2,hq,h⟩
 ·cases h1
 ·cases e1
  cases e2
  exact (EqN.rc I (fun hu' q rx ry=>EqN.at I hu' q rx ry) (by omega) hq h).1 _ _ _ _ ⟨.bl b,H,I,rfl,q⟩
theorem op_eqKD (K:PySem.W.Frag) {k:Nat} (hr:Room k X.A) (hK:X.K = K:=by rfl):OpR X (compareOp .Eq) (rEqD K):=by subst hK; exact op_eqD (by have:=hr.un; omega)
end
section
variable {K:PySem.W.Frag} {H:Hp} {Q:VK}
theorem rEqD_at (a c:Addr):rEqD K (.ref a) (.ref c) H Q = ∃ (n:Nat) (b:Bool),n ≤ 100∧EqN K H (n + 1) (.ref a) (.ref c) b∧Q (.bl b) H:=
 propext ⟨fun ⟨_,_,n,b,e1,e2,q⟩=>⟨n,b,q⟩,fun ⟨n,b,q⟩=>⟨a,c,n,b,rfl,rfl,q⟩⟩
theorem EqN.flat {n:Nat} {x y:V} (hx:flatV x = true) (hy:flatV y = true):EqN K H n x y (eqV x y):=by
 cases n with
 | zero=>exact ⟨hx,hy,rfl⟩
 | succ n=>exact .inl ⟨hx,hy,rfl⟩
theorem EqN.refl {n:Nat} {x:V} (hx:flatV x = true):EqN K H n x x true:=by
 have q:EqN K H n x x (eqV x x):=EqN.flat hx hx
 rwa [eqV_self hx] at q
theorem EqN.seq {n:Nat} {a c:Addr} {xs ys:List V} (hq:(SqL K H a xs∧SqL K H c ys)∨(SqT K H a xs∧SqT K H c ys)) (hl:xs.length = ys.length) (he:∀ (i:Nat) x y,xs[i]? = some x→ys[i]? = some y→EqN K H n x y true):EqN K H (n + 1) (.ref a) (.ref c) true:=
 .inr ⟨a,c,xs,ys,rfl,rfl,hq,.inl ⟨fun _=>true,hl,he,by simp⟩⟩
theorem EqN.seqFlat {n:Nat} {a c:Addr} {xs:List V} (hq:(SqL K H a xs∧SqL K H c xs)∨(SqT K H a xs∧SqT K H c xs)) (hf:∀ x ∈ xs,flatV x = true):EqN K H (n + 1) (.ref a) (.ref c) true:=
 EqN.seq hq rfl fun i x y e1 e2=>by
  rw [e1] at e2; cases e2
  exact EqN.refl (hf x (List.mem_of_getElem? e1))
end
theorem idx_ne {y:Str}:∀ {l:List Str} {j:Nat},j < l.idxOf y→∀ (h:j < l.length),l[j] ≠ y
 | n :: r,0,h,_=>by
  intro e
  have e':n = y:=e
  subst e'
  simp at h
 | n :: r,j + 1,h,h2=>by
  by_cases e:n = y
  ·subst e; simp at h
  ·rw [List.idxOf_cons] at h
   have hb:(n == y) = false:=beq_eq_false_iff_ne.mpr e
   rw [hb] at h
   have h':j + 1 < r.idxOf y + 1:=h
   have q:=idx_ne (y:=y) (l:=r) (j:=j) (by omega) (by simpa using h2)
   simpa using q
section
variable {X:Cx}
def rSortS (K:PySem.W.Frag):List V→Hp→VK→Prop:=fun xs H Q=>∃ (p:Addr) (ss:List Str),xs = [.ref p]∧SqL K H p (ss.map V.str)∧ss.length < 64∧∀ (l:Addr) (ts:List Str),H l = none→ts.Perm ss→sortedS ts = true→Q (.ref l) (upd H l (.lst (ts.map V.str)))
theorem rSortS_at {K:PySem.W.Frag} {H:Hp} {Q:VK} (p:Addr):rSortS K [.ref p] H Q = ∃ ss:List Str,SqL K H p (ss.map V.str)∧ss.length < 64∧∀ (l:Addr) (ts:List Str),H l = none→ts.Perm ss→sortedS ts = true→Q (.ref l) (upd H l (.lst (ts.map V.str))):=
 propext ⟨fun ⟨_,ss,e,q⟩=>by cases e; exact ⟨ss,q⟩,fun ⟨ss,q⟩=>⟨p,ss,rfl,q⟩⟩
theorem call_sortS (K:PySem.W.Frag) (hK:X.K = K:=by rfl):CallR X (.builtin "sorted") (rSortS K):=by
 subst hK
 intro pins s σ H xs us Q I r h
 obtain ⟨p,ss,rfl,hq,h64,q⟩:=h
 obtain ⟨u,rfl,ru⟩:=vals1 r
 cases ru
 obtain ⟨its,rv,pl,hz⟩:=I.list hq
 have hlen:its.length = ss.length:=by rw [← rv.length,List.length_map]
 refine sorted_strs pl.isList (vals_strs rv) (by omega) fun out ts h1 h2 h3=>?_
 obtain ⟨e,he⟩:=sortedAll_at s.heap its out
 have hl:ts.length = ss.length:=h2.length_eq
 have hs:sizeLine = 16777216:=sizeLine_eq
 exact ⟨.ref (s.heap.objs.size + 1),_,I.laid (t':=s.toks) (fun b o e=>sortedAll_old e) (Nat.le_succ _) (show ObjOk X.prog X.w _ _ _ (.lst (ts.map V.str)) from ⟨by rw [List.length_map]; omega,out.toList,e,strs_vals h1,by simpa using he⟩),rfl,
  q _ ts (I.hok.fresh (Nat.le_succ _)) h2 h3⟩
def rIndexS (K:PySem.W.Frag):V→List V→Hp→VK→Prop:=fun x vs H Q=>∃ (p:Addr) (ss:List Str) (y:Str),x = .ref p∧vs = [.str y]∧SqL K H p (ss.map V.str)∧y ∈ ss∧Q (.int (ss.idxOf y:Nat)) H
theorem rIndexS_at {K:PySem.W.Frag} {H:Hp} {Q:VK} (p:Addr) (y:Str):rIndexS K (.ref p) [.str y] H Q = ∃ ss:List Str,SqL K H p (ss.map V.str)∧y ∈ ss∧Q (.int (ss.idxOf y:Nat)) H:=
 propext ⟨fun ⟨_,ss,_,e1,e2,q⟩=>by cases e1; cases e2; exact ⟨ss,q⟩,fun ⟨ss,q⟩=>⟨p,ss,y,rfl,rfl,q⟩⟩
theorem mt_indexS (K:PySem.W.Frag) (hK:X.K = K:=by rfl):MtR X "list.index" (rIndexS K):=by
 subst hK
 intro pins s σ H x xs v us Q I rx r h
 obtain ⟨p,ss,y,rfl,rfl,hq,hy,q⟩:=h
 cases rx
 obtain ⟨u,rfl,ru⟩:=vals1 r
 obtain ⟨t,rfl⟩:=ru
 obtain ⟨its,rv,pl,hz⟩:=I.list hq
 have hlen:its.length = ss.length:=by rw [← rv.length,List.length_map]
 rw [List.length_map] at hz
 have hs:sizeLine = 16777216:=sizeLine_eq
 obtain ⟨⟨cls,dd,data,sl⟩,ho,hc,n,hd⟩:=pl.isList
 simp only at hc hd
 subst hc hd
 have hj:ss.idxOf y < ss.length:=List.idxOf_lt_length_iff.mpr hy
 have rel:∀ (i:Nat) (h:i < its.length),∃ t',its[i] = .str ss[i] t':=fun i h=>by
  obtain ⟨x,hx,rx⟩:=rv.of (i:=i) (u:=its[i]) (List.getElem?_eq_getElem h)
  rw [List.getElem?_map,List.getElem?_eq_getElem (by omega)] at hx
  have hx':V.str ss[i] = x:=Option.some.inj hx
  subst hx'
  exact rx
 refine call_meets PySem.F.slot_list_index ⟨_,ho,rfl⟩ PySem.F.entry_list_index (PySem.F.args_list_index_2 _ _)
  (list_indexAt p its.toArray n dd sl (.str y t) (eqU (.str y)) (ss.idxOf y) (by simpa [hlen] using hj) (by omega) ?_ ?_) ⟨ho,fun z hz=>?_,⟨.int _,H,I.tok _,⟨_,rfl⟩,q⟩⟩
 ·show eqU (.str y) its[ss.idxOf y] = true
  obtain ⟨t',e⟩:=rel (ss.idxOf y) (by omega)
  rw [e]
  show (ss[ss.idxOf y] == y) = true
  rw [List.getElem_idxOf hj]; simp
 ·intro j hjs hlt
  have hj':j < its.length:=by simpa using hjs
  show eqU (.str y) its[j] = false
  obtain ⟨t',e⟩:=rel j hj'
  rw [e]
  show (ss[j] == y) = false
  exact beq_eq_false_iff_ne.mpr (idx_ne hlt _)
 ·have hz':z ∈ its:=by simpa using hz
  obtain ⟨i,hi,rfl⟩:=List.mem_iff_getElem.mp hz'
  obtain ⟨t',e⟩:=rel i hi
  have q':=eqAt_V (A:=X.A.in1) (s:=s) (y:=.str ss[i]) (x:=.str y) (u:=its[i]) (v:=.str y t) ⟨t',e⟩ ⟨t,rfl⟩ rfl rfl
  rw [e]; rw [e] at q'
  exact q'
end
section
variable {X:Cx}
def rIsN:R2:=fun x y H Q=>y = .non∧Q (.bl (decide (x = .non))) H
def rNotN:R2:=fun x y H Q=>y = .non∧Q (.bl (!decide (x = .non))) H
theorem op_isNA:OpR X (compareOp .Is) rIsN:=op_isN
theorem op_notNA:OpR X (compareOp .IsNot) rNotN:=op_notN
def rInt1:List V→Hp→VK→Prop:=fun xs H Q=>(∃ i,xs = [.int i]∧Q (.int i) H)∨∃ k,xs = [.bl k]∧Q (.int (if k then 1 else 0)) H
theorem call_intA:CallR X (.type "int") rInt1:=call_int1
def rListOf (K:PySem.W.Frag):List V→Hp→VK→Prop:=fun xs H Q=>∃ p ys,xs = [.ref p]∧(SqL K H p ys∨SqT K H p ys)∧∀ l,H l = none→Q (.ref l) (upd H l (.lst ys))
theorem call_listA (K:PySem.W.Frag) (hK:X.K = K:=by rfl):CallR X (.type "list") (rListOf K):=call_listK K hK
def rMulB:R2:=fun x y H Q=>match x,y with
 | .int i,.int j=>CMul i j∧Q (.int (i * j)) H
 | .str z,.int n=>0 ≤ n∧n ≤ 4096∧z.length ≤ 4096∧Q (.str (Txt.mul z n)) H
 | _,_=>False
theorem op_mulB:OpR X (binaryOp .Mult) rMulB:=by
 intro pins s σ H x y v u Q I rx ry h
 match x,y,h with
 | .int i,.int j,h=>exact op_mul pins s σ H _ _ v u Q I rx ry ⟨_,_,rfl,rfl,h⟩
 | .str z,.int n,h=>
  obtain ⟨t,rfl⟩:=rx
  obtain ⟨t',rfl⟩:=ry
  obtain ⟨h0,h1,h2,q⟩:=h
  exact SB.mul (mulOk_of 4096 4096 h2 (by omega) (by omega) (by decide) (by decide)) fun t' k=>⟨.str (Txt.mul z n),H,I.tok k,⟨t',rfl⟩,q⟩
end
section
variable {K:PySem.W.Frag} {H:Hp} {Q:VK}
theorem rIsN_at (x:V):rIsN x .non H Q = Q (.bl (decide (x = .non))) H:=propext ⟨fun h=>h.2,fun h=>⟨rfl,h⟩⟩
theorem rNotN_at (x:V):rNotN x .non H Q = Q (.bl (!decide (x = .non))) H:=propext ⟨fun h=>h.2,fun h=>⟨rfl,h⟩⟩
theorem rInt1_bl (k:Bool):rInt1 [.bl k] H Q = Q (.int (if k then 1 else 0)) H:=propext ⟨fun h=>by rcases h with ⟨_,e,q⟩ | ⟨_,e,q⟩ <;> cases e; exact q,fun q=>.inr ⟨k,rfl,q⟩⟩
theorem rListOf_at (p:Addr):rListOf K [.ref p] H Q = ∃ ys,(SqL K H p ys∨SqT K H p ys)∧∀ l,H l = none→Q (.ref l) (upd H l (.lst ys)):=propext ⟨fun ⟨_,ys,e,q⟩=>by cases e; exact ⟨ys,q⟩,fun ⟨ys,q⟩=>⟨p,ys,rfl,q⟩⟩
theorem rMulB_int (i j:Int):rMulB (.int i) (.int j) H Q = (CMul i j∧Q (.int (i * j)) H):=rfl
theorem rMulB_str (z:Str) (n:Int):rMulB (.str z) (.int n) H Q = (0 ≤ n∧n ≤ 4096∧z.length ≤ 4096∧Q (.str (Txt.mul z n)) H):=rfl
theorem rSlL_at (a:Addr) (lo hi:Option Int):rSlL K (.ref a) lo hi H Q = ∃ xs,SqL K H a xs∧∀ p,H p = none→Q (.ref p) (upd H p (.lst (cutV xs lo hi))):=propext ⟨fun ⟨_,xs,e,q⟩=>by cases e; exact ⟨xs,q⟩,fun ⟨xs,q⟩=>⟨a,xs,rfl,q⟩⟩
end
theorem small' {n:Nat} (h:n ≤ 1000000):n < sizeLine:=by
 have:sizeLine = 16777216:=sizeLine_eq
 omega
theorem smallL {n:Nat} (h:n ≤ 1000000):n ≤ sizeLine:=Nat.le_of_lt (small' h)
theorem at_map {α : Type} {f:α→V} {xs:List α} {i:Int} {x:α} (h0:0 ≤ i) (h:xs[i.toNat]? = some x):atI (xs.map f) i = some (f x):=by
 have q:(xs.map f)[i.toNat]? = some (f x):=by rw [List.getElem?_map,h]; rfl
 have q':=atI_nat q
 rwa [show ((i.toNat:Nat):Int) = i by omega] at q'
theorem at_lst {α : Type} {xs:List α} {i:Int} (h0:0 ≤ i) (h:i < xs.length):∃ x,xs[i.toNat]? = some x∧atI xs i = some x:=by
 have hk:i.toNat < xs.length:=by omega
 refine ⟨xs[i.toNat],List.getElem?_eq_getElem hk,?_⟩
 have q:=atI_nat (List.getElem?_eq_getElem hk)
 rwa [show ((i.toNat:Nat):Int) = i by omega] at q
theorem al_same {H H':Hp} {p:Addr} {o:HO} (h:upd H p o = H') (hp:H p = none):Same H H':=h ▸ same_new hp o
theorem al_at {H H':Hp} {p:Addr} {o:HO} (h:upd H p o = H'):H' p = some o:=h ▸ upd_same
theorem map_push {α β : Type} {f:α→β} (xs:List α) (x:α):xs.map f ++ [f x] = (xs ++ [x]).map f:=by rw [List.map_append]; rfl
theorem all_push {α : Type} {P:α→Prop} {xs:List α} {x:α} (h:∀ y ∈ xs,P y) (hx:P x):∀ y ∈ xs ++ [x],P y:=fun y hy=>(List.mem_append.mp hy).elim (h y) fun z=>by rw [List.mem_singleton.mp z]; exact hx
theorem len_push {α : Type} {xs:List α} {x:α} {n:Nat} (h:xs.length = n):(xs ++ [x]).length = n + 1:=by simp [h]
end L2
namespace L2
open PySem PySem.Spec PyProof.Rows
theorem Inv.turnedL {X:Cx} {pins:List (Addr × Obj)} {σ : St} {H:Hp} {s:Shared} {h':Heap} {t':Nat} {ch:List Addr} (I:Inv X pins σ H s) (k:∀ b o,b ∉ ch→s.heap.get? b = some o→h'.get? b = some o)
  (hf:∀ b ∈ ch,FpOk X pins H b):Inv X pins σ H { s with heap:=h',toks:=t' }:=by
 have nit:∀ b u,H b = some u→b ∉ ch:=fun b u e z=>by rw [(hf b z).1] at e; cases e
 refine I.step (g':=s.gens) (d':=s.drawn) (ch:=ch) (fun b hb=>?_) (fun b o _ _ hc e _=>k b o hc e) (fun b o _ _ hc e _=>⟨o.slots,k b o hc e⟩) (fun _ _ _ _ n=>n)
  (fun b o hc e=>⟨o,k b o hc e⟩) (fun _ _ e=>e) (fun _ _ _ e=>e) (fun b ps e=>⟨#[],by rw [e]; simp⟩) (fun m hm=>?_) (fun b u e=>?_) I.bare
 ·obtain ⟨_,f1,_,f3,f4,f5⟩:=hf b hb
  exact ⟨f3,f1,f4,f5⟩
 ·obtain ⟨o,es,ep,ho,r⟩:=hm
  exact ⟨o,es,ep,k _ o (fun z=>(hf _ z).2.1 rfl) ho,r⟩
 ·refine (I.hok b u e).stay (fun c v hc q=>k c v ?_ q) (fun _ q=>q) fun _ _ q=>q
  rcases hc with z | z
  ·rw [z]; exact nit b u e
  ·exact nit c _ z
theorem Inv.turnedLaid {X:Cx} {pins:List (Addr × Obj)} {σ : St} {H:Hp} {s:Shared} {h':Heap} {t':Nat} {ch:List Addr} {a:Addr} {o:HO} (I:Inv X pins σ H s) (k:∀ b o,b ∉ ch→s.heap.get? b = some o→h'.get? b = some o)
  (hf:∀ b ∈ ch,FpOk X pins H b) (hp:s.heap.objs.size ≤ a) (new:ObjOk X.prog X.w (upd H a o) h' a o):Inv X pins σ (upd H a o) { s with heap:=h',toks:=t' }:=by
 have hn:H a = none:=I.hok.fresh hp
 have nit:∀ b u,H b = some u→b ∉ ch:=fun b u e z=>by rw [(hf b z).1] at e; cases e
 refine I.step (g':=s.gens) (d':=s.drawn) (ch:=ch) (fun b hb=>?_) (fun b o _ _ hc e _=>k b o hc e) (fun b o _ _ hc e _=>⟨o.slots,k b o hc e⟩) (fun b u _ q n=>?_)
  (fun b o hc e=>⟨o,k b o hc e⟩) (fun b xs q=>?_) (fun b u xs q=>?_) (fun b ps q=>⟨#[],?_⟩) (fun m hm=>?_) (fun b u e=>?_) I.bare
 ·obtain ⟨_,f1,_,f3,f4,f5⟩:=hf b hb
  exact ⟨f3,f1,f4,f5⟩
 ·rw [upd_ne (Nat.ne_of_lt (Nat.lt_of_lt_of_le (Heap.lt_size q) hp))]; exact n
 ·rw [upd_ne (ne_of_none q hn)]; exact q
 ·rw [upd_ne (ne_of_none q hn)]; exact q
 ·rw [upd_ne (ne_of_none q hn),q]; simp
 ·obtain ⟨o,es,ep,ho,r⟩:=hm
  exact ⟨o,es,ep,k _ o (fun z=>(hf _ z).2.1 rfl) ho,r⟩
 ·by_cases hb:b = a
  ·subst hb; rw [upd_same] at e; cases e; exact new
  ·rw [upd_ne hb] at e
   refine (I.hok b u e).stay (fun c v hc q=>k c v ?_ q) (fun c q=>by rw [upd_ne (ne_of_none q hn)]; exact q) fun c xs q=>by rw [upd_ne (ne_of_none q hn)]; exact q
   rcases hc with z | z
   ·rw [z]; exact nit b u e
   ·exact nit c _ z
def fmtV (x:V) (H:Hp) (Q:VK):Prop:=match x with
 | .str y=>y.length ≤ sizeLine∧Q (.str y) H
 | .int i=>i.natAbs.log2 < 1920∧Q (.str (toString i)) H
 | _=>False
def tFmt (te:TE):TE:=fun σ H Q=>te σ H fun x H1=>fmtV x H1 Q
abbrev TJ:=Str→St→Hp→VK→Prop
def tjNil:TJ:=fun acc _ H Q=>acc.length ≤ sizeLine∧Q (.str acc) H
def tjCons (te:TE) (tj:TJ):TJ:=fun acc σ H Q=>te σ H fun x H1=>∃ y,x = .str y∧(acc ++ y).length ≤ sizeLine∧tj (acc ++ y) σ H1 Q
def PJ (X:Cx) (es:List Expr) (tj:TJ):Prop:=∀ (pins:List (Addr × Obj)) (s:Shared) (σ : St) (H:Hp) (acc:Str) (Q:VK),Inv X pins σ H s→tj acc σ H Q→wpAny (model X.prog X.w) X.A (joinParts acc (evalEach es X.env)) (EP X pins σ Q) X.xe s
def tFstr (tj:TJ):TE:=fun σ H Q=>tj Str.empty σ H Q
section
variable {X:Cx}
theorem pe_fmt {e:Expr} {te:TE} {pos:Pos} (he:PE X e te):PE X (.FormattedValue e (-1) none pos) (tFmt te):=by
 intro pins s σ H Q I h
 refine FormattedValue_plain (thn (he pins s σ H _ I h) fun v s1 ⟨x,H1,I1,r1,q1⟩=>?_)
 match x,r1,q1 with
 | .str y,r1,q1=>
  obtain ⟨t,rfl⟩:=r1
  exact formatField_str (fun t' tk=>⟨.str y,H1,I1.tok tk,⟨t',rfl⟩,q1.2⟩) q1.1
 | .int i,r1,q1=>
  obtain ⟨t,rfl⟩:=r1
  exact formatField_int_small q1.1 ⟨.str (toString i),H1,I1.tok _,⟨_,rfl⟩,q1.2⟩
theorem pj_nil:PJ X [] tjNil:=fun pins s σ H acc Q I h=>joinParts_nil ⟨.str acc,H,I.tok _,⟨_,rfl⟩,h.2⟩ h.1
theorem pj_cons {e:Expr} {es:List Expr} {te:TE} {tj:TJ} (he:PE X e te) (hj:PJ X es tj):PJ X (e :: es) (tjCons te tj):=by
 intro pins s σ H acc Q I h
 show wpAny _ _ (joinParts acc (eval e X.env :: evalEach es X.env)) _ _ _
 refine joinParts_cons (thn (he pins s σ H _ I h) fun v s1 ⟨x,H1,I1,r1,y,e,hz,q⟩=>?_)
 subst e
 obtain ⟨t,rfl⟩:=r1
 exact ⟨hz,hj pins s1 σ H1 (acc ++ y) Q I1 q⟩
theorem pe_fstr {e₁ e₂:Expr} {es:List Expr} {tj:TJ} {pos:Pos} (h:PJ X (e₁ :: e₂ :: es) tj):PE X (.JoinedStr (e₁ :: e₂ :: es) pos) (tFstr tj):=fun pins s σ H Q I q=>JoinedStr_many (h pins s σ H Str.empty Q I q)
end
section
variable {σ : St} {H:Hp} {Q:VK}
theorem tFmt_at (te:TE):tFmt te σ H Q = te σ H fun x H1=>fmtV x H1 Q:=rfl
theorem tFstr_at (tj:TJ):tFstr tj σ H Q = tj Str.empty σ H Q:=rfl
theorem tjNil_at (acc:Str):tjNil acc σ H Q = (acc.length ≤ sizeLine∧Q (.str acc) H):=rfl
theorem tjCons_at (te:TE) (tj:TJ) (acc:Str):tjCons te tj acc σ H Q = te σ H fun x H1=>∃ y,x = .str y∧(acc ++ y).length ≤ sizeLine∧tj (acc ++ y) σ H1 Q:=rfl
theorem fmtV_str (y:Str):fmtV (.str y) H Q = (y.length ≤ sizeLine∧Q (.str y) H):=rfl
theorem fmtV_int (i:Int):fmtV (.int i) H Q = (i.natAbs.log2 < 1920∧Q (.str (toString i)) H):=rfl
end
end L2
namespace L2
open PySem PySem.Spec PyProof.Rows
def Ite (K:PySem.W.Frag) (a:Addr):It:=
  ⟨fun i H=>∃ xs x,SqL K H a xs∧xs[i]? = some x,
   fun i H v H'=>∃ t x,H t = none∧v = .ref t∧H' = upd H t (.tup [.int i,x])∧∀ xs,SqL K H a xs→xs[i]? = some x,
   fun i H=>∃ xs,SqL K H a xs∧xs.length ≤ i⟩
def ESt (e it l:Addr) (i:Nat) (h:Heap):Prop:=(∃ old,IsEnum h e it i old)∧h.IsListIter it l i
theorem turn_enum {P:Program} {w:World} {K:PySem.W.Frag} {elts:List Expr} {k:Nat} {pos:Pos} {e it l:Addr} (hei:e ≠ it):Turn P w K (.Tuple elts k pos) (Ite K l) [e,it] e (ESt e it l) where
 mem:=by simp
 obj:=fun i h st b hb=>by
  obtain ⟨⟨old,s1⟩,⟨o4,s4,c4,d4⟩⟩:=st
  simp only [List.mem_cons,List.mem_nil_iff,or_false] at hb
  rcases hb with rfl | rfl
  ·exact ⟨_,s1,fun v e=>by cases e⟩
  ·exact ⟨_,s4,fun v e=>by rw [d4] at e; cases e⟩
 keep:=fun i h h' st kk=>by
  obtain ⟨⟨old,s1⟩,s4⟩:=st
  exact ⟨⟨old,kk e (by simp) _ s1⟩,s4.at fun o z=>kk it (by simp) o z⟩
 item:=by
  intro X hP hw hK hc i pins s σ H E I hf st hg
  subst hP hw hK
  obtain ⟨xs,x,q1,hx⟩:=hg
  obtain ⟨is1,rv1,p1,_⟩:=I.list q1
  obtain ⟨u1,hu1,ru1⟩:=rv1.get hx
  obtain ⟨⟨old,s1⟩,s4⟩:=st
  refine wpAny_pyNext_enum_item s1 s4 p1.isList (x:=u1) (by simpa using hu1) hei fun h' a1 a3 a5 a6 kk=>?_
  refine ⟨_,rfl,wpAny_letOwnedTupleGo_enum a1 fun h'' hz' hs'=>?_⟩
  have lt:∀ {c o},s.heap.get? c = some o→s.heap.objs.size ≠ c:=fun z=>Nat.ne_of_gt (Heap.lt_size z)
  have zne:s.heap.objs.size ≠ e:=lt s1
  have keep2:∀ b o,b ∉ [e,it]→s.heap.get? b = some o→h''.get? b = some o:=fun b o hb z=>by
   simp only [List.mem_cons,List.mem_nil_iff,or_false,not_or] at hb
   exact hs'.extBut _ _ hb.1 (kk b o hb.1 hb.2 z)
  have hsz:H s.heap.objs.size = none:=I.hok.fresh (Nat.le_refl _)
  have tupN:=hs'.extBut _ _ zne a5
  have nlt:∀ c ∈ [e,it],c ≠ s.heap.objs.size:=fun c hc'=>by
   obtain ⟨o4,e4,_⟩:=id s4
   simp only [List.mem_cons,List.mem_nil_iff,or_false] at hc'
   rcases hc' with rfl | rfl
   ·exact (lt s1).symm
   ·exact (lt e4).symm
  refine ⟨.ref s.heap.objs.size,upd H s.heap.objs.size (.tup [.int i,x]),I.turnedLaid (t':=s.toks + 1) keep2 hf (Nat.le_refl _) ⟨smallL (by show 2 ≤ 1000000; decide),[.int i s.toks,u1],.cons ⟨_,rfl⟩ (.cons ru1 .nil),⟨_,tupN,rfl,rfl,0,rfl⟩⟩,rfl,⟨_,x,hsz,rfl,rfl,fun xs' q'=>?_⟩,
   ⟨⟨_,by simpa using hz'⟩,a3.extBut hs'.extBut hei.symm⟩,fun c hc'=>?_⟩
  ·rw [I.list_inj q' q1]; exact hx
  ·rw [upd_ne (nlt c hc')]; exact (hf c hc').1
 done:=by
  intro X hP hw hK hc i pins s σ H E I hf st hg
  subst hP hw hK
  obtain ⟨xs,q1,hlen⟩:=hg
  obtain ⟨is1,rv1,p1,_⟩:=I.list q1
  have l1:=rv1.length
  obtain ⟨⟨old,s1⟩,s4⟩:=st
  refine wpAny_pyNext_enum_end (I.ok.hd hc) s1 s4 p1.isList (by simp; omega) fun h' kk=>⟨rfl,I.turnedL (t':=s.toks) (fun b o hb z=>?_) hf⟩
  simp only [List.mem_cons,List.mem_nil_iff,or_false,not_or] at hb
  exact kk b o hb.2 z
 self:=fun A i s Q E st h=>by
  obtain ⟨⟨old,s1⟩,_⟩:=st
  exact wpAny_pyIter_enum s1 h
theorem boot_enumerate:bootBuiltins "enumerate" = some (.type "enumerate"):=by decide +kernel
def iEnum (K:PySem.W.Frag) (ta:TA):TI:=fun σ H R=>ta σ H fun vs H1=>∃ a:Addr,vs = [.ref a]∧(∃ xs,H1 a = some (.lst xs))∧R (Ite K a) H1
theorem iEnum_at (K:PySem.W.Frag) (ta:TA) {σ : St} {H:Hp} {R:It→Hp→Prop}:iEnum K ta σ H R = ta σ H fun vs H1=>∃ a:Addr,vs = [.ref a]∧(∃ xs,H1 a = some (.lst xs))∧R (Ite K a) H1:=rfl
theorem ex_ref1 (n:Addr) (P:Addr→Prop):(∃ i,[V.ref n] = [V.ref i]∧P i) = P n:=propext ⟨fun ⟨_,e,h⟩=>by cases e; exact h,fun h=>⟨n,rfl,h⟩⟩
theorem pi_enumK (K:PySem.W.Frag) {X:Cx} {elts:List Expr} {k:Nat} {tpos:Pos} {a:Expr} {ta:TA} {p pos:Pos} (hg:Gl X "enumerate") (hm:X.mg "enumerate" = none) (ha:PA X [a] ta) (hs:starEach [a] X.env = [(false,eval a X.env)]:=by rfl) (hK:X.K = K:=by rfl) :
  PI X (.Tuple elts k tpos) (.Call (.Name "enumerate" p) [a] [] pos) (iEnum K ta):=by
 subst hK
 intro pins s σ H R I h
 refine Call_ (ld_blt I hg hm boot_enumerate (PyProof.Rows.callWith_type1 (thn (ha pos pins s σ H _ I h) fun us s1 ⟨vs,H1,I1,r1,q1⟩=>?_) hs rfl))
 obtain ⟨l,e,⟨xs,h1⟩,q⟩:=q1
 subst e
 obtain ⟨u1,rfl,r1'⟩:=vals1 r1
 obtain rfl:u1 = Value.ref l:=r1'
 obtain ⟨hz,its,n,rv,hl⟩ : xs.length ≤ sizeLine∧∃ (its:List Value) (n:Nat),Vals xs its∧s1.heap.get? l = some { cls:=.type "list", data:=.seq its.toArray n }:=I1.hok l _ h1
 refine call_enumerate_1 hl fun h' a1 a4 a6 kk=>?_
 refine wpAny_pyIter_enum a1 ⟨_,[s1.heap.objs.size + 1,s1.heap.objs.size],_,_,H1,rfl,I1.kept (t':=s1.toks) kk,
  turn_enum (e:=s1.heap.objs.size + 1) (it:=s1.heap.objs.size) (Nat.ne_of_gt (Nat.lt_succ_self _)),⟨⟨_,a1⟩,a4⟩,fun b hb=>?_,q⟩
 have hb':s1.heap.objs.size ≤ b:=by
  simp only [List.mem_cons,List.mem_nil_iff,or_false] at hb
  rcases hb with rfl | rfl <;> first | exact Nat.le_refl _ | exact Nat.le_add_right _ _
 exact I1.fpOk hb' (I1.hok.fresh hb')
section
variable {K:PySem.W.Frag} {a b:Addr} {xs ys:List V} {g:TG} {te:TE} {nT:Nat} {σ : St} {D:Addr} {Q:VK} {H:Hp}
theorem compW_enum (Pv:Nat→List V→Hp→Prop) (h0:Pv 0 [] H) (hl:∀ i zs H,i ≤ xs.length→Pv i zs H→SqL K H a xs)
  (hs:∀ i zs H x t,xs[i]? = some x→i < xs.length→Pv i zs H→H t = none→g (.ref t) (σ ++ List.replicate nT none) (upd H t (.tup [.int i,x])) (compK xs.length i Pv D zs te))
  (hd:∀ zs H,Pv xs.length zs H→Q (.ref D) H):compW (Ite K a) g tYes te nT σ D Q H:=by
 refine compW_by xs.length Pv h0 (fun i zs H hi p=>⟨xs,xs[i],hl i zs H (Nat.le_of_lt hi) p,by simp [hi]⟩) (fun zs H p=>⟨xs,hl _ zs H (Nat.le_refl _) p,Nat.le_refl _⟩) (fun i zs H v H' hi p yl=>?_) hd
 obtain ⟨t,x,ht,rfl,rfl,y1⟩:=yl
 exact hs i zs H x t (y1 xs (hl i zs H (Nat.le_of_lt hi) p)) hi p ht
theorem forW_enum {tb:TS} {D:Ends} (Pv:Nat→St→Hp→Prop) (h0:Pv 0 σ H) (hl:∀ i σ H,i ≤ xs.length→Pv i σ H→SqL K H a xs)
  (hs:∀ i x t σ H,xs[i]? = some x→Pv i σ H→H t = none→g (.ref t) σ (upd H t (.tup [.int i,x])) fun σ2 H2=>tb { D with nx:=Pv (i + 1),ct:=Pv (i + 1),bk:=D.nx } σ2 H2) (hd:∀ σ H,Pv xs.length σ H→D.nx σ H):forW (Ite K a) g tb D σ H:=by
 refine forW_by xs.length Pv h0 (fun i σ H hi p=>⟨xs,xs[i],hl i σ H (Nat.le_of_lt hi) p,by simp [hi]⟩) (fun σ H p=>⟨xs,hl _ σ H (Nat.le_refl _) p,Nat.le_refl _⟩) (fun i σ H v H' hi p yl=>?_) hd
 obtain ⟨t,x,ht,rfl,rfl,y1⟩:=yl
 exact hs i x t σ H (y1 xs (hl i σ H (Nat.le_of_lt hi) p)) p ht
def CSkip (n i:Nat) (Pv:Nat→List V→Hp→Prop) (ys:List V) (H:Hp):Prop:=∃ m',m' < n - i∧(m' = n - (i + 1)∧i + 1 ≤ n∧Pv (i + 1) ys H)
theorem cskip {n i:Nat} {Pv:Nat→List V→Hp→Prop} {ys:List V} {H:Hp} (hi:i < n) (h:Pv (i + 1) ys H):CSkip n i Pv ys H:=⟨n - (i + 1),by omega,rfl,hi,h⟩
theorem cstepT {n i:Nat} {Pv:Nat→List V→Hp→Prop} {D:Addr} {ys:List V} {y:V} {H:Hp} (hi:i < n) (hlen:ys.length ≤ i) (hz:n ≤ sizeLine) (h1:H D = some (.lst ys)) (h2:Pv (i + 1) (ys ++ [y]) (upd H D (.lst (ys ++ [y])))):CStep n i Pv D ys y H:=
 ⟨h1,by omega,n - (i + 1),by omega,rfl,hi,h2⟩
def compT (n i:Nat) (Pv:Nat→List V→Hp→Prop) (D:Addr) (ys:List V) (tc:TT) (te:TE) (σ : St) (H:Hp):Prop:=
 tc σ H fun b H4=>if b = true then te σ H4 (CStep n i Pv D ys) else CSkip n i Pv ys H4
theorem compT_at {n i:Nat} {Pv:Nat→List V→Hp→Prop} {D:Addr} {ys:List V} {tc:TT} {te:TE} {σ : St} {H:Hp}:compT n i Pv D ys tc te σ H = tc σ H fun b H4=>if b = true then te σ H4 (CStep n i Pv D ys) else CSkip n i Pv ys H4:=rfl
theorem compT_by {J:It} {tc:TT} (n:Nat) (Pv:Nat→List V→Hp→Prop) (h0:Pv 0 [] H) (hgo:∀ i ys H,i < n→Pv i ys H→J.go i H) (hst:∀ ys H,Pv n ys H→J.stop n H)
  (hs:∀ i ys H x H',i < n→Pv i ys H→J.yld i H x H'→g x (σ ++ List.replicate nT none) H' (compT n i Pv D ys tc te))
  (hd:∀ ys H,Pv n ys H→Q (.ref D) H):compW J g tc te nT σ D Q H:=by
 refine ⟨fun i m ys H=>m = n - i∧i ≤ n∧Pv i ys H,⟨n,by simp,Nat.zero_le _,h0⟩,?_⟩
 rintro i m ys H ⟨rfl,hi,p⟩
 by_cases hlt:i < n
 ·exact .inr ⟨hgo i ys H hlt p,fun x H' y=>hs i ys H x H' hlt p y⟩
 ·have e:i = n:=by omega
  subst e
  exact .inl ⟨hst ys H p,hd ys H p⟩
theorem compT_list {tc:TT} (Pv:Nat→List V→Hp→Prop) (h0:Pv 0 [] H) (hl:∀ i ys H,i ≤ xs.length→Pv i ys H→SqL K H a xs)
  (hs:∀ i ys H x,xs[i]? = some x→i < xs.length→Pv i ys H→g x (σ ++ List.replicate nT none) H (compT xs.length i Pv D ys tc te))
  (hd:∀ ys H,Pv xs.length ys H→Q (.ref D) H):compW (Itl K a) g tc te nT σ D Q H:=by
 refine compT_by xs.length Pv h0 (fun i ys H hi p=>⟨xs,xs[i],hl i ys H (Nat.le_of_lt hi) p,by simp [hi]⟩) (fun ys H p=>⟨xs,hl _ ys H (Nat.le_refl _) p,Nat.le_refl _⟩) (fun i ys H x H' hi p yl=>?_) hd
 obtain ⟨rfl,y⟩:=yl
 exact hs i ys _ x (y xs (hl i ys _ (Nat.le_of_lt hi) p)) hi p
theorem compT_range {tc:TT} {lo:Int} {n:Nat} (Pv:Nat→List V→Hp→Prop) (h0:Pv 0 [] H)
  (hs:∀ i ys H,i < n→Pv i ys H→g (.int (lo + i)) (σ ++ List.replicate nT none) H (compT n i Pv D ys tc te))
  (hd:∀ ys H,Pv n ys H→Q (.ref D) H):compW (Itr lo n) g tc te nT σ D Q H:=by
 refine compT_by n Pv h0 (fun i ys H hi p=>hi) (fun ys H p=>Nat.le_refl _) (fun i ys H x H' hi p yl=>?_) hd
 obtain ⟨rfl,rfl⟩:=yl
 exact hs i ys _ hi p
end
end L2
namespace L2
open PySem PySem.Spec PyProof.Rows
end L2
namespace L2
open PySem PySem.Spec PyProof.Rows
set_option genInjectivity false in
set_option genSizeOf false in
structure IK (prog:Program) (w:World) (κ : Type) [DecidableEq κ] where
 is:Heap→κ→Value→Prop
 hash:κ→Int
 draws:κ→Nat
 deep:Nat
 inj:∀ {h:Heap} {v:Value} {x y:κ},is h x v→is h y v→x = y
 keeps:∀ {h h':Heap} {k:κ} {v:Value} {d:Addr} {o:Obj} {es ep},is h k v→h.get? d = some o→o.data = .dict es ep→Heap.SameBut d h h'→is h' k v
 pyHash:∀ {A:Around} {E:Value→Shared→Prop} {s:Shared} {k:κ} {v:Value} {Q:Int→Shared→Prop},A.units + deep < cLine→is s.heap k v→Q (hash k) { s with toks:=s.toks + draws k }→
  wpAny (model prog w) A (PySem.pyHash v) Q E s
 eqBool:∀ {A:Around} {E:Value→Shared→Prop} {s:Shared} {x y:κ} {u v:Value} {Q:Bool→Shared→Prop},A.units + deep < cLine→is s.heap x u→is s.heap y v→Q (decide (x = y)) s→
  wpAny (model prog w) A (PySem.eqBool u v) Q E s
 quiet:∀ {A:Around} {E:Value→Shared→Prop} {s:Shared} {k:κ} {v:Value} {n:Nat} {Q:Bool→Shared→Prop},is s.heap k v→Q true s→wpAny (model prog w) A (eqIsQuiet (n + deep) v) Q E s
section
variable {prog:Program} {w:World} {κ : Type} [DecidableEq κ] (K:IK prog w κ)
inductive IsItems (h:Heap):List κ→List Value→Prop
 | nil:IsItems h [] []
 | cons {k:κ} {v:Value} {ks:List κ} {vs:List Value}:K.is h k v→IsItems h ks vs→IsItems h (k :: ks) (v :: vs)
def IsTupK (h:Heap) (ks:List κ) (v:Value):Prop:=∃ a o items n,v = .ref a∧h.get? a = some o∧o.cls = .type "tuple" ∧ o.data = .seq items n∧IsItems K h ks items.toList
variable {K}
theorem IsItems.inj {h:Heap}:∀ {x y:List κ} {vs:List Value},IsItems K h x vs→IsItems K h y vs→x = y
 | _,_,_,.nil,.nil=>rfl
 | _,_,_,.cons a b,.cons c d=>by rw [K.inj a c,IsItems.inj b d]
theorem IsItems.keeps {h h':Heap} {d:Addr} {o:Obj} {es ep} (ho:h.get? d = some o) (hd:o.data = .dict es ep) (hs:Heap.SameBut d h h'):∀ {x:List κ} {vs:List Value},IsItems K h x vs→IsItems K h' x vs
 | _,_,.nil=>.nil
 | _,_,.cons a b=>.cons (K.keeps a ho hd hs) (b.keeps ho hd hs)
def sumD (K:IK prog w κ) (ks:List κ):Nat:=(ks.map K.draws).sum
def tupH (K:IK prog w κ) (ks:List κ):Int:=reduceHash (Builtin.Tuple.tupleHashOf (ks.map K.hash))
theorem hash_tupK {A:Around} {E:Value→Shared→Prop} {s:Shared} {ks:List κ} {v:Value} {Q:Int→Shared→Prop} (hu:A.units + (K.deep + 1) < cLine) (hk:IsTupK K s.heap ks v) (h:Q (tupH K ks) { s with toks:=s.toks + (sumD K ks + 1) }) :
  wpAny (model prog w) A (PySem.pyHash v) Q E s:=by
 obtain ⟨a,o,items,n,rfl,ho,hc,hd,hi⟩:=hk
 have hT:s.TypeIs (.ref a) "tuple" := ⟨o,ho,hc⟩
 unfold PySem.pyHash
 first | unfold pyHashByItsType | skip
 first | refine wpAny_bind (wpAny_cRoomFor_or (.inr (by omega)) ?_) | skip
 refine wpAny_bind (wpAny_specialOf hT PySem.F.slot_tuple_hash.lookup ?_)
 rw [if_neg (by rw [beq_builtin_none]; exact Bool.false_ne_true)]
 refine wpAny_bind (wpAny_specialOf hT PySem.F.slot_tuple_hash.lookup ?_)
 show wpAny _ _ (callSpecialIfBoundUnlessNone? (.ref a) "__hash__" _ >>= _) Q E s
 refine wpAny_bind (wpAny_callSpecialIfBoundUnlessNone?_slot hT PySem.F.slot_tuple_hash (wpAny_call_entry PySem.F.slot_tuple_hash hT
  PySem.F.entry_tuple_hash ?_ (PySem.F.args_tuple_hash_1 _)))
 show wpAny _ _ (Builtin.Tuple.tupleItemsOf (.ref a) >>= _) _ _ s
 refine wpAny_bind (wpAny_tupleItemsOf ho hd (wpAny_bind ?_))
 rw [← Array.forIn_toList]
 refine wpAny_forIn_list _ (fun rest (b:Array Int) s'=>∃ done left,ks = done ++ left∧IsItems K s.heap left rest∧b.toList = done.map K.hash∧s' = { s with toks:=s.toks + sumD K done }) _ ?_ ?_ _ _ ⟨[],ks,rfl,hi,rfl,rfl⟩
 ·rintro x rest b s' ⟨done,left,rfl,hl,hb,rfl⟩
  cases hl with
  | @cons k _ ks' _ h1 hl'=>
   have e:sumD K (done ++ [k]) = sumD K done + K.draws k:=by simp [sumD]
   refine wpAny_bind (K.pyHash (show A.in1.units + K.deep < cLine from by show A.units + 1 + K.deep < cLine; omega) h1 ?_)
   have fin:∃ done' left',done ++ k :: ks' = done' ++ left'∧IsItems K s.heap left' rest∧(b.push (K.hash k)).toList = done'.map K.hash∧({ s with toks:=s.toks + sumD K done + K.draws k }:Shared) = { s with toks:=s.toks + sumD K done' }:=
    ⟨done ++ [k],ks',by simp,hl',by simp [hb],by rw [e,Nat.add_assoc]⟩
   first
    | exact wpAny_pure fin
    | exact wpAny_bind (wpAny_pure (wpAny_pure fin))
 ·rintro b s' ⟨done,left,rfl,hl,hb,rfl⟩
  cases hl
  rw [List.append_nil] at h
  show wpAny _ _ (retInt (Builtin.Tuple.tupleHashOf b.toList)) _ _ _
  rw [hb]
  refine wpAny_ret_mkInt ?_
  unfold tupH reduceHash at h
  show wpAny _ _ (if (decide (-(2:Int) ^ 63 ≤ Builtin.Tuple.tupleHashOf (done.map K.hash)) && decide (Builtin.Tuple.tupleHashOf (done.map K.hash) < 2 ^ 63)) = true then _ else _) Q E _
  by_cases hr:(decide (-(2:Int) ^ 63 ≤ Builtin.Tuple.tupleHashOf (done.map K.hash)) && decide (Builtin.Tuple.tupleHashOf (done.map K.hash) < 2 ^ 63)) = true
  ·rw [if_pos hr] at h ⊢
   exact wpAny_pure (by simpa [Nat.add_assoc] using h)
  ·rw [if_neg hr] at h ⊢
   exact wpAny_bind (wpAny_rule (wpAny_pure (by simpa [Nat.add_assoc] using h)))
theorem eq_tupTree {A:Around} {E:Value→Shared→Prop} {s:Shared} {x y:List κ} {a b:Addr} {P:Fin→Shared→Prop} (hu:A.units + K.deep < cLine) (hx:IsTupK K s.heap x (.ref a)) (hy:IsTupK K s.heap y (.ref b)) (h:P (.done (.ret (.bool (decide (x = y))))) s) :
  wpAny (model prog w) A (Builtin.«tuple.__eq__» ⟨[.ref a,.ref b],[]⟩) P E s:=by
 obtain ⟨_,oa,xs,na,e1,hoa,ca,hda,hia⟩:=hx
 obtain ⟨_,ob,ys,nb,e2,hob,cb,hdb,hib⟩:=hy
 cases e1
 cases e2
 show wpAny _ _ (isInstance (.ref b) (.type "tuple") >>= _) _ _ s
 refine wpAny_bind (wpAny_isInstance ⟨ob,hob,cb⟩ isSubtype_tuple_tuple ?_)
 simp only [Bool.not_true,Bool.false_eq_true,if_false]
 refine wpAny_bind (wpAny_tupleItemsOf hoa hda (wpAny_bind (wpAny_tupleItemsOf hob hdb (wpAny_bind ?_))))
 refine wpAny_forIn_list _ (fun rest r s'=>r.1 = none∧s' = s∧∃ x' y' xs' ys',rest = List.zip xs' ys'∧IsItems K s.heap x' xs'∧IsItems K s.heap y' ys'∧decide (x' = y') = decide (x = y)∧(xs'.length == ys'.length) = (xs.size == ys.size)) _ ?_ ?_ _ _
  ⟨rfl,rfl,x,y,xs.toList,ys.toList,rfl,hia,hib,rfl,by simp⟩
 ·rintro ⟨u,v⟩ rest r s' ⟨hr,rfl,x',y',xs',ys',hz,hx',hy',hdec,hlen⟩
  cases hx' with
  | nil=>simp at hz
  | @cons k1 u' x'' xs'' h1 hx''=>
   cases hy' with
   | nil=>simp at hz
   | @cons k2 v' y'' ys'' h2 hy''=>
    simp only [List.zip_cons_cons,List.cons.injEq,Prod.mk.injEq] at hz
    obtain ⟨⟨rfl,rfl⟩,rfl⟩:=hz
    refine wpAny_bind (K.eqBool (x:=k1) (y:=k2) hu h1 h2 ?_)
    by_cases hk:k1 = k2
    ·subst hk
     rw [decide_eq_true rfl]
     simp only [Bool.not_true,Bool.false_eq_true,if_false]
     refine wpAny_pure ⟨rfl,rfl,x'',y'',xs'',ys'',rfl,hx'',hy'',?_,by simpa using hlen⟩
     rw [← hdec]
     by_cases hxy:x'' = y'' <;> simp [hxy]
    ·rw [decide_eq_false hk]
     simp only [Bool.not_false,if_true]
     have hf:decide (x = y) = false:=by rw [← hdec]; simp [hk]
     rw [hf] at h
     exact wpAny_bind (wpAny_pure (wpAny_pure (wpAny_pure h)))
 ·rintro ⟨r1,r2⟩ s' ⟨hr,rfl,x',y',xs',ys',hz,hx',hy',hdec,hlen⟩
  simp only at hr
  subst hr
  refine wpAny_pure ?_
  have hfin:(xs.size == ys.size) = decide (x = y):=by
   rw [← hdec,← hlen]
   cases hx' with
   | nil=>cases hy' <;> simp
   | cons _ _=>
    cases hy' with
    | nil=>simp
    | cons _ _=>simp at hz
  show P (.done (.ret (.bool (xs.size == ys.size)))) s'
  rw [hfin]; exact h
theorem eq_tupK {A:Around} {E:Value→Shared→Prop} {s:Shared} {x y:List κ} {u v:Value} {Q:Bool→Shared→Prop} (hu:A.units + (K.deep + 1) < cLine) (hx:IsTupK K s.heap x u) (hy:IsTupK K s.heap y v) (h:Q (decide (x = y)) s) :
  wpAny (model prog w) A (PySem.eqBool u v) Q E s:=by
 have hx0:=hx
 have hy0:=hy
 obtain ⟨a,oa,xs,na,rfl,hoa,ca,hda,hia⟩:=hx
 obtain ⟨b,ob,ys,nb,rfl,hob,cb,hdb,hib⟩:=hy
 unfold PySem.eqBool
 try with_reducible refine wpAny_holding ?_
 show wpAny _ _ (if (Value.ref a == Value.ref b) = true then _ else _) Q E s
 by_cases hab:(Value.ref a == Value.ref b) = true
 ·rw [if_pos hab]
  have e:a = b:=by have:=eq_of_beq hab; injection this
  subst e
  rw [hoa] at hob
  cases hob
  rw [hda] at hdb
  injection hdb with e1 _
  subst e1
  rw [decide_eq_true (hia.inj hib)] at h
  exact wpAny_bind (wpAny_rule (wpAny_pure h))
 ·rw [if_neg hab]
  have ta:s.TypeIs (.ref a) "tuple" := ⟨oa,hoa,ca⟩
  have tb:s.TypeIs (.ref b) "tuple" := ⟨ob,hob,cb⟩
  refine wpAny_bind (wpAny_richCompare_same_room (op:=.Eq) ta tb PySem.F.slot_tuple_eq (wpAny_call_entry PySem.F.slot_tuple_eq ta PySem.F.entry_tuple_eq ?_ (PySem.F.args_tuple_eq_2 _ _)) (by omega))
  refine eq_tupTree (K:=K) ?_ hx0 hy0 ⟨_,rfl,(fun e=>nomatch e),wpAny_truthy_bool h⟩
  show A.units + 1 + K.deep < cLine
  omega
theorem quiet_tupK {A:Around} {E:Value→Shared→Prop} {s:Shared} {ks:List κ} {v:Value} {n:Nat} {Q:Bool→Shared→Prop} (hk:IsTupK K s.heap ks v) (h:Q true s):wpAny (model prog w) A (eqIsQuiet (n + (K.deep + 1)) v) Q E s:=by
 obtain ⟨a,o,items,m,rfl,ho,hc,hd,hi⟩:=hk
 have hT:s.TypeIs (.ref a) "tuple" := ⟨o,ho,hc⟩
 rw [show n + (K.deep + 1) = (n + K.deep) + 1 from rfl]
 unfold eqIsQuiet
 refine wpAny_bind (wpAny_specialOf hT PySem.F.slot_tuple_eq.lookup ?_)
 show wpAny _ _ (isInstance (.ref a) (.type "tuple") >>= _) _ _ s
 refine wpAny_bind (wpAny_isInstance hT isSubtype_tuple_tuple ?_)
 simp only [Bool.not_true,Bool.false_eq_true,if_false]
 refine wpAny_bind (wpAny_seqItems ho hd (wpAny_bind ?_))
 show wpAny _ _ (forIn items _ _) _ _ s
 rw [← Array.forIn_toList]
 refine wpAny_forIn_list _ (fun rest r s'=>r.1 = none∧s' = s∧∃ ks',IsItems K s.heap ks' rest) _ ?_ ?_ _ _ ⟨rfl,rfl,ks,hi⟩
 ·rintro v rest r s' ⟨hr,rfl,ks',hall⟩
  cases hall with
  | cons h1 h2=>
   refine wpAny_bind (K.quiet h1 ?_)
   simp only [Bool.not_true,Bool.false_eq_true,if_false]
   exact wpAny_pure ⟨rfl,rfl,_,h2⟩
 ·rintro ⟨r1,r2⟩ s' ⟨hr,rfl,_⟩
  simp only at hr
  subst hr
  exact wpAny_pure h
def tupK (K:IK prog w κ):IK prog w (List κ) where
 is:=IsTupK K
 hash:=tupH K
 draws:=fun ks=>sumD K ks + 1
 deep:=K.deep + 1
 inj:=by
  rintro h v x y ⟨a,oa,xs,na,rfl,hoa,ca,hda,hia⟩ ⟨b,ob,ys,nb,e,hob,cb,hdb,hib⟩
  cases e
  rw [hoa] at hob
  cases hob
  rw [hda] at hdb
  injection hdb with e1 _
  subst e1
  exact hia.inj hib
 keeps:=by
  rintro h h' k v d o es ep ⟨a,oa,xs,na,rfl,hoa,ca,hda,hia⟩ ho hd hs
  have hne:a ≠ d:=by
   rintro rfl
   rw [hoa] at ho
   cases ho
   rw [hd] at hda; cases hda
  exact ⟨a,oa,xs,na,rfl,(hs.2 a hne).trans hoa,ca,hda,hia.keeps ho hd hs⟩
 pyHash:=fun hu hk h=>hash_tupK hu hk h
 eqBool:=fun hu hx hy h=>eq_tupK hu hx hy h
 quiet:=fun hk h=>quiet_tupK hk h
def heapK (K:IK prog w κ) (hd:K.deep ≤ 7):HeapKind prog w (List κ) where
 is:=fun h k a=>IsTupK K h k (.ref a)
 hash:=tupH K
 draws:=fun ks=>sumD K ks + 1
 room:=fun A=>A.units + (K.deep + 1) < cLine
 inj:=(tupK K).inj
 keeps:=(tupK K).keeps
 pyHash:=fun hu hk h=>hash_tupK hu hk h
 eqBool:=fun hu hx hy h=>eq_tupK hu hx hy h
 quiet:=fun {A E s k a Q} hk h=>by
  have q:=quiet_tupK (n:=7 - K.deep) (A:=A) (E:=E) hk h
  rwa [show 7 - K.deep + (K.deep + 1) = 8 by omega] at q
end
end L2
namespace L2
open PySem PySem.Spec PyProof.Rows
def optV:Option Int→V
 | none=>.non
 | some i=>.int i
theorem optV_inj {x y:Option Int} {v:Value} (a:RelV (optV x) v) (b:RelV (optV y) v):x = y:=by
 have e:=a.inj b
 cases x <;> cases y <;> simp_all [optV]
theorem optV_flat (x:Option Int):flatV (optV x) = true:=by cases x <;> rfl
theorem optV_eq (x y:Option Int):eqV (optV x) (optV y) = decide (x = y):=by
 cases x with
 | none=>cases y <;> rfl
 | some i=>
  cases y with
  | none=>rfl
  | some j=>
   show (i == j) = _
   by_cases h:i = j <;> simp [h]
theorem hash_none {prog:Program} {w:World} {A:Around} {E:Value→Shared→Prop} {s:Shared} {Q:Int→Shared→Prop} (h:Q 0xFCA86420 { s with toks:=s.toks + 1 }):wpAny (model prog w) A (PySem.pyHash .none) Q E s:=by
 have hT:s.TypeIs .none "NoneType" := rfl
 unfold PySem.pyHash
 first | unfold pyHashByItsType | skip
 refine wpAny_bind ?_
 rw [cRoomFor,if_neg (by decide)]
 refine wpAny_pure (wpAny_bind (wpAny_specialOf hT PySem.F.slot_NoneType_hash.lookup ?_))
 rw [if_neg (by rw [beq_builtin_none]; exact Bool.false_ne_true)]
 refine wpAny_bind (wpAny_specialOf hT PySem.F.slot_NoneType_hash.lookup ?_)
 show wpAny _ _ (callSpecialIfBoundUnlessNone? .none "__hash__" _ >>= _) Q E s
 refine wpAny_bind (wpAny_callSpecialIfBoundUnlessNone?_slot hT PySem.F.slot_NoneType_hash (wpAny_call_entry PySem.F.slot_NoneType_hash hT
  PySem.F.entry_NoneType_hash ?_ (PySem.F.args_NoneType_hash_1 _)))
 show wpAny _ _ (retInt 0xFCA86420) _ _ s
 refine wpAny_ret_mkInt ?_
 exact wpAny_pure h
def optK (prog:Program) (w:World):IK prog w (Option Int) where
 is:=fun _ k v=>RelV (optV k) v
 hash:=fun k=>match k with
  | none=>0xFCA86420
  | some i=>hashInt i
 draws:=fun _=>1
 deep:=0
 inj:=fun a b=>optV_inj a b
 keeps:=fun a _ _ _=>a
 pyHash:=fun {A E s k v Q} _ hk h=>by
  cases k with
  | none=>
   obtain rfl:v = Value.none:=hk
   exact hash_none h
  | some i=>
   obtain ⟨t,rfl⟩:=(show ∃ t,v = Value.int i t from hk)
   exact wpAny_pyHash_int h
 eqBool:=fun {A E s x y u v Q} _ hx hy h=>by
  have q:=eqAt_V (A:=A) (s:=s) hx hy (optV_flat x) (optV_flat y)
  rw [optV_eq] at q
  exact q prog w E Q h
 quiet:=fun {A E s k v n Q} hk h=>by
  have e:carriedByValue v = true:=by
   cases k with
   | none=>obtain rfl:v = Value.none:=hk; rfl
   | some i=>obtain ⟨t,rfl⟩:=(show ∃ t,v = Value.int i t from hk); rfl
  rw [eqIsQuiet_byValue _ e]
  exact wpAny_pure h
theorem IsTupK.tup {prog:Program} {w:World} {κ : Type} [DecidableEq κ] {K:IK prog w κ} {h:Heap} {l:List κ} {v:Value} (x:IsTupK K h l v):∃ a its,v = .ref a∧h.IsTuple a its:=by
 obtain ⟨a,o,items,n,rfl,ho,hc,hd,hi⟩:=x
 exact ⟨a,items,rfl,o,ho,hc,n,hd⟩
theorem ni_room {A:Around} {prog:Program} {w:World} (hu:A.units + 1 < cLine):A.units + ((optK prog w).deep + 1) < cLine:=hu
end L2
namespace L2
open PySem PySem.Spec PyProof.Rows
abbrev NKey:=Int × List (Option Int)
section
variable {P:Program} {w:World} {H:Hp}
theorem items_of_vals {h:Heap}:∀ {l:List (Option Int)} {us:List Value},Vals (l.map optV) us→IsItems (optK P w) h l us
 | [],_,.nil=>.nil
 | x :: l,_,.cons r t=>.cons r (items_of_vals t)
end
section
variable {X:Cx} {pins:List (Addr × Obj)} {σ : St} {H:Hp} {s:Shared} {a b:Addr} {k:NKey} {kvs:List (NKey × V)}
theorem Paired.snoc {α β : Type} {F:α→β→Prop} {x:α} {y:β} (h:F x y):∀ {l:List α} {m:List β},Paired F l m→Paired F (l ++ [x]) (m ++ [y])
 | _,_,.nil=>.cons h .nil
 | _,_,.cons r t=>.cons r (Paired.snoc h t)
end
end L2
namespace L2
open PySem PySem.Spec PyProof.Rows PySem.SeqAt
section
variable {X:Cx}
def rIxB (K:PySem.W.Frag):R2:=fun x y H Q=>rIxA K x y H Q∨∃ a kvs k v,x = .ref a∧y = kV k∧H a = some (.dK kvs)∧valV kvs k = some v∧Q v H
theorem ix_B (K:PySem.W.Frag) (hK:X.K = K:=by rfl):IxR X (rIxB K):=by
 intro value slice pins s σ H x y v u Q I rx ry h hs
 rcases h with h | ⟨a,kvs,k,z,rfl,rfl,e,l,q⟩
 ·exact ix_K K hK value slice pins s σ H x y v u Q I rx ry h hs
 ·cases rx
  obtain ⟨_,hd,vs,rel,dd⟩:=dk_rd I.hok (.inl e)
  obtain ⟨w',hw,rw'⟩:=RelO.some_of (v:=z) (o:=valueAt vs k) (by rw [← l]; exact rel.val k)
  have hl:typeLookup (.type "dict") "__getitem__" = pure (some (.builtin "dict.__getitem__")):=PySem.F.slot_dict_getitem.lookup
  exact subscriptTail_builtinR (x:=w') dd.typeIs hl (wpAny_getItem_of (kV_is ry) dd.mapOf hw ⟨rfl,z,H,I.tok _,rw',q⟩) hs
def rSetD:TSet:=fun o i v H Q=>∃ a kvs k,o = .ref a∧i = kV k∧H a = some (.dK kvs)∧kvs.length < sizeLine∧Q (upd H a (.dK (putK kvs k v)))
theorem set_D {n:Nat} (hr:Room n X.A):PSet X rSetD:=by
 intro pins s σ H o i v ov iv u Q I ro ri rv h
 obtain ⟨a,kvs,k,rfl,rfl,e,hl,q⟩:=h
 cases ro
 exact d_setItem (by have:=hr.un; omega) I (DPut.k e hl) ri rv fun s' I'=>⟨_,I',q⟩
end
section
variable {K:PySem.W.Frag} {H:Hp} {Q:VK}
end
section
variable {X:Cx}
end
end L2
namespace L2
open PySem PySem.Spec PyProof.Rows PySem.SeqAt
section
variable {K:PySem.W.Frag} {H:Hp} {Q:VK}
end
theorem pe_bm0K {X:Cx} (K:PySem.W.Frag) {o:Expr} {to:TE} {name:Str} {apos cpos:Pos} {T id:String} {r:V→List V→Hp→VK→Prop} (pa:PlainAttrs T) (slot:Slot T name id) (hty:typeOf (.builtin id) = pure (.type "method_descriptor")) (hm:MtR X id r) (ho:PE X o to)
  (hbase:attributeBase o name X.env (eval o X.env) = eval o X.env:=by rfl) (hline:(apos.endLine == cpos.line) = true:=by rfl) (hK:X.K = K:=by rfl):PE X (.Call (.Attribute o name apos) [] [] cpos) (tBM0 K T r to):=hK ▸ pe_bm0 pa slot hty hm ho hbase hline
end L2
namespace L2
open PySem PySem.Spec PyProof.Rows PySem.SeqAt
section
variable {X:Cx}
end
section
variable {X:Cx}
end
section
variable {prog:Program} {w:World} {K:Type} [DecidableEq K] {knd:KeyKind prog w K} {A:Around} {E:Value→Shared→Prop} {s:Shared}
end
section
variable {X:Cx}
theorem paired_get {α β : Type} {F:α→β→Prop}:∀ {l:List α} {m:List β} {j:Nat} {a:α} {b:β},Paired F l m→l[j]? = some a→m[j]? = some b→F a b
 | _,_,0,_,_,.cons h _,e1,e2=>by
  cases e1; cases e2; exact h
 | _,_,j + 1,_,_,.cons _ t,e1,e2=>paired_get (j:=j) t e1 e2
 | _,_,0,_,_,.nil,e1,_=>by cases e1
 | _,_,_ + 1,_,_,.nil,e1,_=>by cases e1
end
end L2
namespace L2
open PySem PySem.Spec PyProof.Rows PySem.SeqAt
end L2
namespace L2
open PySem PySem.Spec PyProof.Rows PySem.SeqAt
section
variable {prog:Program} {w:World} {K:Type} [DecidableEq K] {knd:KeyKind prog w K} {A:Around} {E:Value→Shared→Prop} {s:Shared} {G:SetTable→Prop}
def Apart (knd:KeyKind prog w K) (l:List (Int × Value)):Prop:=l.Pairwise fun e e'=>∀ k,knd.is k e.2 = true→knd.is k e'.2 = false
structure Tab (knd:KeyKind prog w K) (G:SetTable→Prop) (o:Obj) (es:Array (Int × Value)) (ep:Nat) (t:SetTable) (S:K→Bool) (n:Nat):Prop where
 ex:o.ExactSet
 dat:o.data = .set es ep t
 el:ElemsOf knd es.toList
 mem:∀ k,S k = true ↔ ∃ e ∈ es.toList,knd.is k e.2 = true
 few:es.size < scanBound
 fit:t.fits es.size = true
 num:es.size = n
 good:G t
 apart:Apart knd es.toList
theorem stored {h:Heap} {a:Addr} {o:Obj} {es:Array (Int × Value)} {ep:Nat} {t:SetTable} {S:K→Bool} {n:Nat} {es':Array (Int × Value)} {t':SetTable} {S':K→Bool} {n':Nat} (ho:h.get? a = some o) (T:Tab knd G o es ep t S n)
  (T':∀ o',o'.ExactSet→o'.data = .set es' (ep + 1) t'→Tab knd G o' es' (ep + 1) t' S' n'):∃ o',(h.update a (Obj.putSet es' t')).get? a = some o'∧Tab knd G o' es' (ep + 1) t' S' n':=by
 have hp:=putSet_of es' t' T.dat
 have hg:=Heap.get?_update_self (Obj.putSet es' t') ho (by rw [hp]; rfl)
 rw [hp] at hg
 exact ⟨_,hg,T' _ T.ex rfl⟩
end
end L2
namespace L2
open PySem PySem.Spec PyProof.Rows PySem.SeqAt
section
variable {prog:Program} {w:World} {A:Around} {R:Result→Shared→Prop} {I:Addr} {fp wr:List Addr} {Gm:Array GenState→Array GenState→Prop} {n:Nat} {P:Nat→Value→Prop} {St:Nat→Shared→Prop} {L:Bool}
end
section
variable {prog:Program} {w:World} {A:Around} {E:Value→Shared→Prop} {s:Shared}
end
end L2
namespace L2
open PySem PySem.Spec PyProof.Rows PySem.SeqAt
section
variable {X:Cx}
end
end L2
namespace L2
open PySem PySem.Spec PyProof.Rows PySem.SeqAt
section
variable {M:Model} {A:Around} {E:Value→Shared→Prop}
end
end L2
namespace L2
open PySem PySem.Spec PyProof.Rows PySem.SeqAt
section
variable {prog:Program} {w:World} {A:Around} {E:Value→Shared→Prop} {s:Shared}
end
end L2
namespace L2
open PySem PySem.Spec PyProof.Rows PySem.SeqAt
section
variable {prog:Program} {w:World} {A:Around} {E:Value→Shared→Prop} {s:Shared}
end
end L2
namespace L2
open PySem PySem.Spec PyProof.Rows PySem.SeqAt
section
variable {prog:Program} {w:World} {A:Around} {E:Value→Shared→Prop} {s:Shared}
end
end L2
namespace L2
open PySem PySem.Spec PyProof.Rows PySem.SeqAt
section
variable {prog:Program} {w:World} {A:Around} {E:Value→Shared→Prop} {s:Shared}
end
end L2
namespace L2
open PySem PySem.Spec PyProof.Rows PySem.SeqAt
section
variable {prog:Program} {w:World} {A:Around} {E:Value→Shared→Prop} {s:Shared}
end
end L2
namespace L2
open PySem PySem.Spec PyProof.Rows PySem.SeqAt
section
variable {prog:Program} {w:World} {A:Around} {E:Value→Shared→Prop} {s:Shared}
end
section
variable {X:Cx}
end
end L2
namespace L2
open PySem PySem.Spec PyProof PyProof.Rows
section
variable {X:Cx}
end
end L2
namespace L2
open PySem PySem.Spec PyProof PyProof.Rows
section
variable {X:Cx} {pins:List (Addr × Obj)} {σ : St} {H:Hp} {s:Shared} {d:Addr} {kvs:List (Str × V)}
end
section
variable {X:Cx}
end
end L2
namespace L2
open PySem PySem.Spec PyProof PyProof.Rows
section
variable {prog:Program} {w:World} {A:Around} {E:Value→Shared→Prop} {s:Shared}
variable {z TI TO i1 i2 t1 t2:Addr} {xs ys:Array Value} {k1 k2:Nat} {a b:Value}
end
end L2
namespace L2
open PySem PySem.Spec PyProof PyProof.Rows
section
variable {prog:Program} {w:World} {A:Around} {E:Value→Shared→Prop} {s:Shared} {z TI TO i1 i2 t1 t2:Addr} {xs ys:Array Value} {k1 k2:Nat} {a b:Value}
end
end L2
namespace L2
open PySem PySem.Spec PyProof PyProof.Rows
end L2
namespace L2
open PySem PySem.Spec PyProof PyProof.Rows
section
variable {prog:Program} {w:World} {A:Around} {E:Value→Shared→Prop} {s:Shared}
theorem getItem_whole {t sl:Addr} {items:Array Value} {vl vu:Value} {lo hi:Option Int} {Q:Value→Shared→Prop} (ht:IsTup s.heap t items) (hs:s.heap.IsSliceOf sl vl vu .none) (pl:PySem.IsPart vl lo) (pu:PySem.IsPart vu hi)
  (hw:HT.sIx items.size 0 lo = 0∧HT.sIx items.size items.size hi = items.size) (q:Q (.ref t) s):wpAny (model prog w) A (getItem (.ref t) (.ref sl)) Q E s:=by
 obtain ⟨os,g1,g2,g3⟩:=id hs
 have ty:s.TypeIs (.ref sl) "slice" := ⟨os,g1,g2⟩
 unfold getItem
 try with_reducible refine wpAny_holding ?_
 first | refine wpAny_bind (wpAny_pure ?_) | skip
 refine wpAny_bind (wpAny_sequenceKey ht.typeIs (by decide) (wpAny_bind (wpAny_callSpecial?_slot (name:=Str.ofString "__getitem__") ht.typeIs PyProof.Rows.slot_tuple_getitem (wpAny_call_entry PyProof.Rows.slot_tuple_getitem ht.typeIs entry_tuple_getitem ?_ (args_tuple_getitem _ _)))))
 show wpAny _ _ (Builtin.Tuple.tupleItemsOf (.ref t) >>= fun _=>_) _ _ s
 refine wpAny_bind (tupleItemsOf_ ht (wpAny_bind (wpAny_typeOf ty ?_)))
 rw [if_pos (by decide)]
 refine wpAny_bind (HT.sliceApplied_gen hs pl pu ?_)
 have hyes:((((HT.sIx items.size 0 lo:Nat):Int) == 0 && (1:Int) == 1 && (HT.sIx items.size items.size hi - HT.sIx items.size 0 lo) == items.size) = true):=by
  rw [hw.1,hw.2]; simp
 show wpAny _ _ (if (((HT.sIx items.size 0 lo:Nat):Int) == 0 && (1:Int) == 1 && (HT.sIx items.size items.size hi - HT.sIx items.size 0 lo) == items.size) = true then _ else _) _ _ s
 rw [if_pos hyes]
 refine wpAny_bind (m:=Builtin.Tuple.tupleIsExact _) (wpAny_bind (wpAny_typeOf ht.typeIs (wpAny_pure ?_)))
 have hb:(Value.type "tuple" == Value.type "tuple") = true:=by decide
 rw [hb,if_pos rfl]
 exact wpAny_bind (wpAny_rule (wpAny_pure ⟨_,rfl,wpAny_pure q⟩))
end
section
variable {X:Cx}
def rSlTA (K:PySem.W.Frag):V→Option Int→Option Int→Hp→VK→Prop:=fun x lo hi H Q=>∃ a xs,x = .ref a∧SqT K H a xs∧
 (HT.sIx xs.length 0 lo = 0∧HT.sIx xs.length xs.length hi = xs.length→Q (.ref a) H)∧(¬ (HT.sIx xs.length 0 lo = 0∧HT.sIx xs.length xs.length hi = xs.length)→∀ p,H p = none→Q (.ref p) (upd H p (.tup (cutV xs lo hi))))
theorem sl_tupA (K:PySem.W.Frag) (hK:X.K = K:=by rfl):SlR X (rSlTA K):=by
 subst hK
 intro pins s σ H x v vl vu lo hi sl Q I rx hs pl pu h
 obtain ⟨a,xs,rfl,hx,q1,q2⟩:=h
 by_cases hw:HT.sIx xs.length 0 lo = 0∧HT.sIx xs.length xs.length hi = xs.length
 ·have rx':=rx
  cases rx
  obtain ⟨its,r,ht,hz⟩:=I.tuple hx
  have hlen:its.toArray.size = xs.length:=by rw [List.size_toArray]; exact r.length.symm
  exact ⟨"tuple", _,PyProof.Rows.slot_tuple_getitem.lookup,ht.typeIs,getItem_whole ht hs pl pu (by rw [hlen]; exact hw) ⟨.ref a,H,I,rx',q1 hw⟩⟩
 ·exact sl_tup pins s σ H _ v vl vu lo hi sl Q I rx hs pl pu ⟨a,xs,rfl,hx,hw,q2 hw⟩
theorem rSlTA_of {K:PySem.W.Frag} {H:Hp} {Q:VK} {a:Addr} {lo hi:Option Int} {xs:List V} (h:SqT K H a xs) (q:∀ p H',Same H H'→SqT K H' p (cutV xs lo hi)→Q (.ref p) H'):rSlTA K (.ref a) lo hi H Q:=by
 refine ⟨a,xs,rfl,h,fun hw=>?_,fun _ p hp=>q p _ (same_new hp _) (SqT.of upd_same)⟩
 have e:cutV xs lo hi = xs:=by unfold cutV; rw [hw.1,hw.2]; simp
 exact q a H (fun _ _ e=>e) (by rw [e]; exact h)
theorem cutV_to (xs:List V) (k:Nat):cutV xs none (some (k:Int)) = xs.take k:=by
 unfold cutV
 rw [HT.sIx_none,HT.sIx_nat,List.drop_zero,Nat.sub_zero]
 exact List.take_eq_take_min.symm
theorem cutV_from (xs:List V) (k:Nat):cutV xs (some (k:Int)) none = xs.drop k:=by
 unfold cutV
 rw [HT.sIx_none,HT.sIx_nat]
 rcases Nat.le_total k xs.length with h | h
 ·rw [Nat.min_eq_left h,List.take_of_length_le (by rw [List.length_drop]; omega)]
 ·rw [Nat.min_eq_right h,Nat.sub_self,List.take_zero,List.drop_eq_nil_of_le h]
theorem mt_extendA:MtR X "list.extend" rExtend:=mt_extend
theorem rExtend_at {H:Hp} {Q:VK} (l b:Addr):rExtend (.ref l) [.ref b] H Q = ∃ xs zs,H l = some (.lst xs)∧H b = some (.lst zs)∧xs.length + zs.length ≤ sizeLine∧Q .non (upd H l (.lst (xs ++ zs))):=
 propext ⟨fun ⟨_,_,xs,zs,e1,e2,q⟩=>by cases e1; cases e2; exact ⟨xs,zs,q⟩,fun ⟨xs,zs,q⟩=>⟨l,b,xs,zs,rfl,rfl,q⟩⟩
theorem pi_tupK (K:PySem.W.Frag) {tg l:Expr} {tl:TE} (hl:PE X l tl) (hK:X.K = K:=by rfl):PI X tg l (iTup K tl):=hK ▸ pi_tup hl
theorem iTup_at (K:PySem.W.Frag) (tl:TE) {σ : St} {H:Hp} {R:It→Hp→Prop}:iTup K tl σ H R = tl σ H fun x H1=>∃ a,x = .ref a∧(∃ xs,SqT K H1 a xs)∧R (Itt K a) H1:=rfl
end
section
variable {K:PySem.W.Frag} {a b:Addr} {xs ys:List V} {g:TG} {te:TE} {nT:Nat} {σ : St} {D:Addr} {Q:VK} {H:Hp}
theorem forW_tup {tb:TS} {D:Ends} (Pv:Nat→St→Hp→Prop) (h0:Pv 0 σ H) (hl:∀ i σ H,i ≤ xs.length→Pv i σ H→SqT K H a xs)
  (hs:∀ i x σ H,xs[i]? = some x→Pv i σ H→g x σ H fun σ2 H2=>tb { D with nx:=Pv (i + 1),ct:=Pv (i + 1),bk:=D.nx } σ2 H2) (hd:∀ σ H,Pv xs.length σ H→D.nx σ H):forW (Itt K a) g tb D σ H:=by
 refine forW_by xs.length Pv h0 (fun i σ H hi p=>⟨xs,xs[i],hl i σ H (Nat.le_of_lt hi) p,by simp [hi]⟩) (fun σ H p=>⟨xs,hl _ σ H (Nat.le_refl _) p,Nat.le_refl _⟩) (fun i σ H x H' hi p yl=>?_) hd
 obtain ⟨rfl,y⟩:=yl
 exact hs i x σ _ (y xs (hl i σ _ (Nat.le_of_lt hi) p)) p
end
end L2
namespace L2
open PySem PySem.Spec PyProof PyProof.Rows
section
variable {X:Cx}
end
end L2
namespace L2
open PySem PySem.Spec PyProof PyProof.Rows
section
variable {K:PySem.W.Frag} {a:Addr} {xs:List V} {g:TG} {σ : St} {H:Hp}
end
end L2
namespace L2
open PySem PySem.Spec PyProof PyProof.Rows
theorem is_kV {P:Program} {w:World} {k:Key} {u:Value} (h:(mixKind P w).is k u = true):RelV (kV k) u:=by
 cases k with
 | inl i=>
  obtain ⟨t,rfl⟩:=Value.isInt_shape (show Value.isInt i u = true from h)
  exact ⟨t,rfl⟩
 | inr x=>
  obtain ⟨t,rfl⟩:=Value.isStrOf_shape (show Value.isStrOf x u = true from h)
  exact ⟨t,rfl⟩
section
variable {X:Cx}
end
end L2
namespace L2
open PySem PySem.Spec PyProof PyProof.Rows PySem.SeqAt
section
variable {X:Cx}
end
end L2
namespace L2
open PySem PySem.Spec PyProof.Rows PySem.SeqAt
structure Fl (K:PySem.W.Frag) (C:Addr) (f:Str):Prop where
 c:Cls K C
 n:NoAttr K C f
structure MethAt (K:PySem.W.Frag) (C:Addr) (m qual:Str) (st:Stmt):Prop where
 ex:∃ f fd,Fun K m qual st f fd∧Meth K C m f
 cl:Cls K C
structure MakeAt (K:PySem.W.Frag) (mg:Str→Option Value) (x:Str) (C:Addr) (qual:Str) (st:Stmt):Prop where
 ex:∃ f fd,Fun K "__init__" qual st f fd∧Mk K C f∧mg x = some (.ref C)
structure Mcal (P:Program) (w:World) (K:PySem.W.Frag) (mg:Str→Option Value) (base:Heap) (k:Nat) (C:Addr) (m:Str) (ps:List Str) (sp:Sp):Prop where
 ex:∃ f fd,FnOk P w K mg base CX0 k f fd ps sp∧Binds K fd ps []∧Meth K C m f
 cl:Cls K C
structure Mkal (P:Program) (w:World) (K:PySem.W.Frag) (mg:Str→Option Value) (base:Heap) (k:Nat) (x:Str) (C:Addr) (ps:List Str) (sp:Sp):Prop where
 ex:∃ f fd,FnOk P w K mg base CX0 k f fd ps sp∧Binds K fd ps []∧Mk K C f∧mg x = some (.ref C)
section
variable {P:Program} {w:World} {K:PySem.W.Frag} {mg:Str→Option Value} {base:Heap}
theorem MethAt.mcal {C:Addr} {m qual:Str} {st:Stmt} {N ps:List Str} {k:Nat} {sp:Sp} (D:MethAt K C m qual st) (S:FnScope N ps (defScope st))
  (hb:∀ (kV doc pm:Value) (an:Option Addr) (cdv ct:Value) (us:List Value),us.length = ps.length→bindArgs (PySem.W.fnOf m qual (defArgs st) (defBody st) (defScope st) .none kV doc pm an cdv ct) ⟨us,[]⟩ = pure (ps.zip us))
  (len:∀ vs H Q E,sp vs H Q E→vs.length = ps.length)
  (hbody:∀ (f:Addr) (cdv:Value) (A:Around) (outer:List Env) (s:Shared) (H:Hp) (vs:List V) (Q:VK) (E:XK),Room k (A.deeper (envOfC qual (defScope st) s.heap.objs.size f cdv))→sp vs H Q E→
   ∃ t,PSs (cxOf CX0 P w K mg base N qual (defScope st) f cdv A outer s H E).nox (defBody st) t∧t { nx:=fun _ H'=>Q .non H',rt:=Q } (start N vs) H):Mcal P w K mg base (k + 1) C m ps sp:=by
 obtain ⟨f,fd,F,m⟩:=D.ex
 exact ⟨⟨f,fd,F.ok S len fun cdv A outer s H vs Q E hr h=>hbody f cdv A outer s H vs Q E hr h,F.binds hb,m⟩,D.cl⟩
theorem MakeAt.mkal {x:Str} {C:Addr} {qual:Str} {st:Stmt} {N ps:List Str} {k:Nat} {sp:Sp} (D:MakeAt K mg x C qual st) (S:FnScope N ps (defScope st))
  (hb:∀ (kV doc pm:Value) (an:Option Addr) (cdv ct:Value) (us:List Value),us.length = ps.length→bindArgs (PySem.W.fnOf "__init__" qual (defArgs st) (defBody st) (defScope st) .none kV doc pm an cdv ct) ⟨us,[]⟩ = pure (ps.zip us))
  (len:∀ vs H Q E,sp vs H Q E→vs.length = ps.length)
  (hbody:∀ (f:Addr) (cdv:Value) (A:Around) (outer:List Env) (s:Shared) (H:Hp) (vs:List V) (Q:VK) (E:XK),Room k (A.deeper (envOfC qual (defScope st) s.heap.objs.size f cdv))→sp vs H Q E→
   ∃ t,PSs (cxOf CX0 P w K mg base N qual (defScope st) f cdv A outer s H E).nox (defBody st) t∧t { nx:=fun _ H'=>Q .non H',rt:=Q } (start N vs) H):Mkal P w K mg base (k + 1) x C ps sp:=by
 obtain ⟨f,fd,F,m,g⟩:=D.ex
 exact ⟨f,fd,F.ok S len fun cdv A outer s H vs Q E hr h=>hbody f cdv A outer s H vs Q E hr h,F.binds hb,m,g⟩
end
def tFldC (C:Addr) (f:Str) (ta:TE):TE:=fun σ H Q=>ta σ H fun x H1=>∃ a,x = .ref a∧∃ dx fs v,H1 a = some (.ins C dx fs)∧fs.lookup f = some v∧Q v H1
def sFldC (C:Addr) (f:Str) (ta tv:TE):TS:=fun D σ H=>tv σ H fun y H1=>ta σ H1 fun x H2=>∃ a,x = .ref a∧∃ dx fs,H2 a = some (.ins C dx fs)∧fs.length < 1000∧D.nx σ (upd H2 a (.ins C dx (putF f y fs)))
def tMethC (C:Addr) (m:Str) (sp:Sp) (ta:TE) (t:TA):TE:=fun σ H Q=>ta σ H fun x H1=>∃ a,x = .ref a∧(∃ dx fs,H1 a = some (.ins C dx fs)∧fs.lookup m = none)∧t σ H1 fun vs H2=>sp (.ref a :: vs) H2 Q E0
def tMakeC (C:Addr) (sp:Sp) (t:TA):TE:=fun σ H Q=>t σ H fun vs H1=>∀ x dx,H1 x = none→H1 dx = none→dx ≠ x→sp (.ref x :: vs) (upd (upd H1 dx (.own x)) x (.ins C dx [])) (fun v H2=>v = .non∧Q (.ref x) H2) E0
section
variable {X:Cx} {o e value:Expr} {es:List Expr} {f m:Str} {pos pos' apos p:Pos} {ta tv:TE} {t:TA} {C:Addr} {x:Str} {ps:List Str} {sp:Sp} {j k:Nat}
theorem pe_fldC (g:Fl X.K C f) (he:PE X e ta) (hb:attributeBase e f X.env (eval e X.env) = eval e X.env:=by rfl):PE X (.Attribute e f pos) (tFldC C f ta):=by
 intro pins s σ H Q I h
 refine attr_of hb (thn (he pins s σ H _ I h) fun u s1 ⟨x,H1,I1,rx,a,ex,dx,fs,v,ea,l,q⟩=>?_)
 subst ex
 obtain rfl:u = Value.ref a:=rx
 exact getattr_ok I1 ea g.c g.n l fun u' s2 I2 ru=>⟨v,H1,I2,ru,q⟩
theorem ps_fldC (g:Fl X.K C f) (ha:PE X o ta) (hv:PE X value tv) (hs:swapsWith value (some (.Attribute o f pos')) pos.line X.env = pure false:=by rfl):PS X (.Assign [.Attribute o f pos'] value pos) (sFldC C f ta tv):=by
 intro pins s σ H D I h
 refine plainObj_wpAny_Assign_Attribute (thn (hv pins s σ H _ I h) fun u s1 ⟨y,H1,I1,ry,q⟩=>thn (ha pins s1 σ H1 _ I1 q) fun ov s2 ⟨x,H2,I2,rx,a,ex,dx,fs,ea,l,q2⟩=>?_) hs
 subst ex
 obtain rfl:ov = Value.ref a:=rx
 exact setattr_ok I2 ea g.c g.n l ry fun s3 I3=>⟨σ,_,I3,q2⟩
theorem pe_mcal (c:Mcal X.prog X.w X.K X.mg X.base j C m ps sp) (hr:Room k X.A) (he:PE X o ta) (ha:PA X (e :: es) t) (hle:j ≤ k:=by decide) {pl:Sem Bool}
  (hst:starEach (e :: es) X.env = (false,eval e X.env) :: starEach es X.env:=by rfl) (hpl:(backTo pos (starEach es X.env)).any (·.1) = false:=by rfl)
  (ht:eval (.Call (.Attribute o m apos) (e :: es) [] pos) X.env = (do
   let ov ← eval o X.env
   standAt apos.atName
   let (f,first) ← holding [ov] (getMethod ov m pl)
   callWith pos f first (backTo pos (starEach (e :: es) X.env)) (backToKw pos (keywordEach [] X.env))):=by rfl) :
  PE X (.Call (.Attribute o m apos) (e :: es) [] pos) (tMethC C m sp ta t):=by
 obtain ⟨f,fd,F,b,hm⟩:=c.ex
 intro pins s σ H Q I h
 refine PySem.W.methodCall_KW (pl:=pl) (thn (he pins s σ H _ I h) fun u s1 ⟨x,H1,I1,rx,a,ex,⟨dx,fs,ea,l⟩,q⟩=>?_) ht
 subst ex
 obtain rfl:u = Value.ref a:=rx
 refine getmeth_ok I1 ea c.cl hm l ?_
 refine PySem.W.callWith_K (first:=[.ref a]) (h₀:=X.base) I.ok.mod.kin hm.kp (thn (ha pos pins s1 σ H1 _ I1 q) fun us s2 ⟨vs,H2,I2,r,q2⟩=>⟨I2.kIn,?_⟩) hst hpl
 exact run_fn (us:=.ref a :: us) (vs:=.ref a :: vs) F (hr.mono hle) b .nil pass0 I2 (.cons rfl r) (by rw [List.append_nil]; exact q2)
theorem pe_mk (c:Mkal X.prog X.w X.K X.mg X.base j x C ps sp) (hr:Room k X.A) (ha:PA X (e :: es) t) (hle:j + 1 ≤ k:=by decide) (hg:Gl X x:=by rfl) (hdb:(x == ("__debug__" : Str)) = false:=by decide)
  (he:starEach (e :: es) X.env = (false,eval e X.env) :: starEach es X.env:=by rfl) (hpl:(backTo pos (starEach es X.env)).any (·.1) = false:=by rfl) :
  PE X (.Call (.Name x p) (e :: es) [] pos) (tMakeC C sp t):=by
 obtain ⟨f,fd,F,b,M,hm⟩:=c.ex
 intro pins s σ H Q I h
 refine wpAny_Call_Name_kw (ld_glob I hg hm ?_ hdb)
 refine PySem.W.callWith_K (h₀:=X.base) I.ok.mod.kin M.kp (thn (ha pos pins s σ H _ I h) fun us s1 ⟨vs,H1,I1,r,q⟩=>⟨I1.kIn,?_⟩) he hpl
 exact run_make M F (hr.mono hle) b .nil pass0 I1 r (by simpa only [List.append_nil] using q)
end
section
variable {C:Addr} {f m:Str} {sp:Sp} {ta tv:TE} {t:TA} {σ : St} {H:Hp} {Q:VK}
theorem tFldC_at:tFldC C f ta σ H Q = ta σ H fun x H1=>∃ a,x = .ref a∧∃ dx fs v,H1 a = some (.ins C dx fs)∧fs.lookup f = some v∧Q v H1:=rfl
theorem sFldC_at {D:Ends}:sFldC C f ta tv D σ H = tv σ H fun y H1=>ta σ H1 fun x H2=>∃ a,x = .ref a∧∃ dx fs,H2 a = some (.ins C dx fs)∧fs.length < 1000∧D.nx σ (upd H2 a (.ins C dx (putF f y fs))):=rfl
theorem tMethC_at:tMethC C m sp ta t σ H Q = ta σ H fun x H1=>∃ a,x = .ref a∧(∃ dx fs,H1 a = some (.ins C dx fs)∧fs.lookup m = none)∧t σ H1 fun vs H2=>sp (.ref a :: vs) H2 Q E0:=rfl
theorem tMakeC_at:tMakeC C sp t σ H Q = t σ H fun vs H1=>∀ x dx,H1 x = none→H1 dx = none→dx ≠ x→sp (.ref x :: vs) (upd (upd H1 dx (.own x)) x (.ins C dx [])) (fun v H2=>v = .non∧Q (.ref x) H2) E0:=rfl
theorem tDGet2_at {td ty tx:TE}:tDGet2 td ty tx σ H Q = td σ H fun x H1=>∃ a,x = .ref a∧IsD H1 a∧ty σ H1 fun y H2=>tx σ H2 fun z H3=>∃ o,DGet H3 a y o∧Q (o.getD z) H3:=rfl
theorem isD_of {a:Addr} {kvs:List (Key × V)} (h:H a = some (.dK kvs)):IsD H a:=.inl ⟨kvs,.inl h⟩
end
theorem lk_hit {f:Str} {v:V} {fs:List (Str × V)}:List.lookup f ((f,v) :: fs) = some v:=by simp [List.lookup]
theorem lk_miss {f g:Str} {v:V} {fs:List (Str × V)} (h:(f == g) = false):List.lookup f ((g,v) :: fs) = List.lookup f fs:=by simp [List.lookup,h]
theorem lk_nil {f:Str}:List.lookup f ([]:List (Str × V)) = none:=rfl
theorem putF_miss {f g:Str} {v x:V} {r:List (Str × V)} (h:¬ g = f):putF f v ((g,x) :: r) = (g,x) :: putF f v r:=by simp [putF,h]
theorem putF_nil {f:Str} {v:V}:putF f v [] = [(f,v)]:=rfl
end L2
namespace L2
open PySem PySem.Spec PyProof.Rows PySem.SeqAt
section
variable {X:Cx}
end
theorem str_ext {x y:Str} (h:x.cps.toList = y.cps.toList):x = y:=by
 cases x; cases y
 exact congrArg _ (Array.toList_inj.mp h)
theorem cps_app (x y:Str):(x ++ y).cps.toList = x.cps.toList ++ y.cps.toList:=Array.toList_append
end L2
namespace L2
open PySem PySem.Spec PyProof.Rows
section
variable {X:Cx} {tg e:Expr}
end
end L2
namespace L2
open PySem PySem.Spec PyProof.Rows PySem.SeqAt
section
variable {prog:Program} {w:World} {A:Around} {R:Result→Shared→Prop} {I:Addr} {fp wr:List Addr} {Gm:Array GenState→Array GenState→Prop} {n:Nat} {P:Nat→Value→Prop} {St:Nat→Shared→Prop} {L:Bool}
end
section
variable {prog:Program} {w:World} {A:Around} {E:Value→Shared→Prop} {s:Shared}
end
def keyT (e:Int × Value):Str:=match e.2 with
 | .str d _=>d
 | _ => ""
section
variable {X:Cx}
end
section
variable {prog:Program} {w:World} {A:Around} {E:Value→Shared→Prop} {s:Shared}
end
section
variable {X:Cx}
end
section
variable {X:Cx} {c a b:Expr} {tA tB1 tB2:TT} {pos:Pos}
end
end L2
namespace L2
open PySem PySem.Spec PyProof.Rows PySem.SeqAt PySem.Builtin PySem.Builtin.Str PySem.StrLaws
section
variable {X:Cx}
end
end L2
namespace L2
open PySem PySem.Spec PyProof.Rows PySem.SeqAt PySem.Builtin PySem.Builtin.Str PySem.StrLaws
end L2
namespace L2
open PySem PySem.Spec PyProof.Rows
section
variable {X:Cx}
end
end L2
namespace L2
open PySem PySem.Spec PyProof.Rows
abbrev OKey:=List (Option Int)
section
variable {P:Program} {w:World} {H:Hp}
end
section
variable {X:Cx} {pins:List (Addr × Obj)} {σ : St} {H:Hp} {s:Shared} {a b:Addr} {k:OKey} {kvs:List (OKey × V)}
end
end L2
namespace L2
open PySem PySem.Spec PyProof PyProof.Rows
section
variable {K:PySem.W.Frag} {a b:Addr} {xs ys:List V} {g:TG} {te:TE} {nT:Nat} {σ : St} {D:Addr} {Q:VK} {H:Hp}
end
section
variable {prog:Program} {w:World} {A:Around} {E:Value→Shared→Prop} {s:Shared}
end
end L2
namespace L2
open PySem PySem.Spec PyProof PyProof.Rows
section
variable {X:Cx}
end
def Iti (d:Addr) (o:Obj) (kvs:List (Key × V)):It:=
  ⟨fun i H=>H d = some (.frz o (.dK kvs))∧i < kvs.length,
   fun i H v H'=>∃ t k x,H t = none∧v = .ref t∧H' = upd H t (.tup [kV k,x])∧kvs[i]? = some (k,x),
   fun i H=>H d = some (.frz o (.dK kvs))∧i = kvs.length⟩
def ISt (it d:Addr) (n ep:Nat) (i:Nat) (h:Heap):Prop:=∃ ok ov,IsItemIter h it d i n ep ok ov
theorem turn_items {P:Program} {w:World} {K:PySem.W.Frag} {elts:List Expr} {k:Nat} {pos:Pos} {it d:Addr} {o:Obj} {kvs:List (Key × V)} {vs:List (Key × Value)} {ep:Nat} (rel:KV kvs vs)
  (hD:∀ h:Heap,h.get? d = some o→h.DictAt (mixKind P w) d vs ep):Turn P w K (.Tuple elts k pos) (Iti d o kvs) [it] it (ISt it d vs.length ep) where
 mem:=by simp
 obj:=fun i h st b hb=>by
  obtain ⟨ok,ov,s1⟩:=st
  have e:b = it:=by simpa using hb
  subst e
  exact ⟨_,s1,fun v e=>by cases e⟩
 keep:=fun i h h' st kk=>by
  obtain ⟨ok,ov,s1⟩:=st
  exact ⟨ok,ov,kk it (by simp) _ s1⟩
 item:=by
  intro X hP hw hK hc i pins s σ H E I hf st hg
  subst hP hw hK
  obtain ⟨hd,hi⟩:=hg
  obtain ⟨hdo,_⟩:=(show ObjOk X.prog X.w H s.heap d (.frz o (.dK kvs)) from I.hok d _ hd)
  have hm:=hD _ hdo
  have hl:kvs.length = vs.length:=Paired.length rel
  have hkv:kvs[i]? = some kvs[i]:=List.getElem?_eq_getElem hi
  have hvi:vs[i]? = some (vs[i]'(by omega)):=List.getElem?_eq_getElem (by omega)
  obtain ⟨r1,r2⟩:=paired_get rel hkv hvi
  obtain ⟨ok,ov,s1⟩:=st
  refine wpAny_pyNext_items_item (knd:=mixKind X.prog X.w) (k:=(vs[i]'(by omega)).1) (v:=(vs[i]'(by omega)).2) s1 hm hvi fun key h' hk a1 a2 a3 kk=>?_
  refine ⟨_,rfl,wpAny_letOwnedTupleGo_items a1 fun h'' hz' hs'=>?_⟩
  have lt:∀ {c o},s.heap.get? c = some o→s.heap.objs.size ≠ c:=fun z=>Nat.ne_of_gt (Heap.lt_size z)
  have zne:s.heap.objs.size ≠ it:=lt s1
  have keep2:∀ b o,b ∉ [it]→s.heap.get? b = some o→h''.get? b = some o:=fun b o hb z=>by
   have hb':b ≠ it:=by simpa using hb
   exact hs'.extBut _ _ hb' (kk b o hb' z)
  have hsz:H s.heap.objs.size = none:=I.hok.fresh (Nat.le_refl _)
  have tupN:=hs'.extBut _ _ zne a2
  have hkr:RelV (kV (kvs[i]).1) key:=by
   rw [r1]; exact is_kV hk
  refine ⟨.ref s.heap.objs.size,upd H s.heap.objs.size (.tup [kV (kvs[i]).1,(kvs[i]).2]),I.turnedLaid (t':=s.toks) keep2 hf (Nat.le_refl _) ⟨smallL (by show 2 ≤ 1000000; decide),[key,(vs[i]'(by omega)).2],.cons hkr (.cons r2 .nil),⟨_,tupN,rfl,rfl,0,rfl⟩⟩,rfl,⟨_,(kvs[i]).1,(kvs[i]).2,hsz,rfl,rfl,hkv⟩,
   ⟨_,_,hz'⟩,fun c hc'=>?_⟩
  have e:c = it:=by simpa using hc'
  subst e
  rw [upd_ne (Ne.symm zne)]; exact (hf c (by simp)).1
 done:=by
  intro X hP hw hK hc i pins s σ H E I hf st hg
  subst hP hw hK
  obtain ⟨hd,hi⟩:=hg
  obtain ⟨hdo,_⟩:=(show ObjOk X.prog X.w H s.heap d (.frz o (.dK kvs)) from I.hok d _ hd)
  have hm:=hD _ hdo
  have hl:kvs.length = vs.length:=Paired.length rel
  obtain ⟨ok,ov,s1⟩:=st
  obtain ⟨f0,f1,f2,f3,f4,f5⟩:=hf it (by simp)
  exact wpAny_pyNext_items_end (knd:=mixKind X.prog X.w) (I.ok.hd hc) s1 hm (List.getElem?_eq_none (by omega)) fun h' eb=>⟨rfl,I.turned (t':=s.toks) (fun b o hb e=>eb b o hb e) f0 f1 f3 f4 f5⟩
 self:=fun A i s Q E st h=>by
  obtain ⟨ok,ov,s1⟩:=st
  exact PySem.W.kcp_self s1 h
def viewI (v d:Addr):HO:=.ext fun h=>h.IsItemsView v d
section
variable {X:Cx}
def rItems:V→List V→Hp→VK→Prop:=fun x vs H Q=>∃ d kvs,x = .ref d∧vs = []∧H d = some (.dK kvs)∧∀ v,H v = none→Q (.ref v) (upd H v (viewI v d))
theorem mt_items:MtR X "dict.items" rItems:=by
 intro pins s σ H x vs v us Q I rx rv h
 obtain ⟨d,kvs,rfl,rfl,e,q⟩:=h
 cases rx
 have hus:=rv.zero
 subst hus
 obtain ⟨_,hd,vs,rel,dd⟩:=dk_rd I.hok (.inl e)
 refine call_meetsIn F.slot_dict_items dd.typeIs F.entry_dict_items (F.args_dict_items_1 _) (meets_dict_items (mixKind X.prog X.w) d hd) ⟨⟨_,dd⟩,?_⟩
 refine ⟨.ref s.heap.objs.size,_,I.laid (t':=s.toks) (fun b o e=>Heap.get?_push_of_some _ e) (Nat.le_refl _) (show ObjOk X.prog X.w _ _ _ (viewI s.heap.objs.size d) from ⟨⟨_,Heap.get?_push_size _ rfl,rfl,rfl⟩,⟨_,Heap.get?_push_size _ rfl⟩,fun h1 h2 hv k=>?_⟩),rfl,q _ (I.hok.fresh (Nat.le_refl _))⟩
 obtain ⟨o,e1,e2⟩:=hv
 exact ⟨o,k o e1,e2⟩
def iItems (te:TE):TI:=fun σ H R=>te σ H fun x H1=>∃ v d kvs,x = .ref v∧H1 v = some (viewI v d)∧H1 d = some (.dK kvs)∧∀ o,R (Iti d o kvs) (upd H1 d (.frz o (.dK kvs)))
theorem iItems_at (te:TE) {σ : St} {H:Hp} {R:It→Hp→Prop}:iItems te σ H R = te σ H fun x H1=>∃ v d kvs,x = .ref v∧H1 v = some (viewI v d)∧H1 d = some (.dK kvs)∧∀ o,R (Iti d o kvs) (upd H1 d (.frz o (.dK kvs))):=rfl
theorem pi_items {elts:List Expr} {k:Nat} {tpos:Pos} {e:Expr} {te:TE} (he:PE X e te):PI X (.Tuple elts k tpos) e (iItems te):=by
 intro pins s σ H R I h
 refine thn (he pins s σ H _ I h) fun u s1 ⟨x,H1,I1,r1,v,d,kvs,ex,hv,hd,q⟩=>?_
 subst ex
 obtain rfl:u = Value.ref v:=r1
 have hview:s1.heap.IsItemsView v d:=(show ObjOk X.prog X.w H1 s1.heap v (viewI v d) from I1.hok v _ hv).1
 obtain ⟨hz,hds,vs,rel,dd⟩:=dk_rd I1.hok (.inl hd)
 obtain ⟨ep,hm⟩:=dd.dictAt
 obtain ⟨od,es,hod,hrest⟩:=id hm
 refine wpAny_pyIter_items hview hm ?_
 have hl:kvs.length = vs.length:=Paired.length rel
 have I2:Inv X pins σ (upd H1 d (.frz od (.dK kvs))) { s1 with heap:=s1.heap,toks:=s1.toks }:=I1.write (x:=d) (e:=d) (o:=.frz od (.dK kvs)) (by rw [hd]; trivial) (.inl rfl) (fun b u _ e=>e) ⟨od,hod⟩ ⟨hod,hz,hds,vs,rel,dd⟩
 have hf:upd H1 d (.frz od (.dK kvs)) s1.heap.objs.size = none:=I2.hok.fresh (Nat.le_refl _)
 refine ⟨s1.heap.objs.size,[s1.heap.objs.size],_,_,_,rfl,I2.kept (t':=s1.toks) fun b o e=>Heap.get?_push_of_some _ e,turn_items (o:=od) (ep:=ep) rel (fun h hh=>hm.at' fun o e=>by rw [hod] at e; cases e; exact hh),⟨_,_,Heap.get?_push_size _ rfl⟩,fun b hb=>?_,q od⟩
 have e:b = s1.heap.objs.size:=by simpa using hb
 subst e
 exact I2.fpOk (Nat.le_refl _) hf
end
section
variable {d:Addr} {o:Obj} {kvs:List (Key × V)} {g:TG} {σ : St} {H:Hp}
theorem forW_items {tb:TS} {D:Ends} (Pv:Nat→St→Hp→Prop) (h0:Pv 0 σ H) (hl:∀ i σ H,i ≤ kvs.length→Pv i σ H→H d = some (.frz o (.dK kvs)))
  (hs:∀ i k x t σ H,kvs[i]? = some (k,x)→Pv i σ H→H t = none→g (.ref t) σ (upd H t (.tup [kV k,x])) fun σ2 H2=>tb { D with nx:=Pv (i + 1),ct:=Pv (i + 1),bk:=D.nx } σ2 H2) (hd:∀ σ H,Pv kvs.length σ H→D.nx σ H):forW (Iti d o kvs) g tb D σ H:=by
 refine forW_by kvs.length Pv h0 (fun i σ H hi p=>⟨hl i σ H (Nat.le_of_lt hi) p,hi⟩) (fun σ H p=>⟨hl _ σ H (Nat.le_refl _) p,rfl⟩) (fun i σ H v H' hi p yl=>?_) hd
 obtain ⟨t,k,x,ht,rfl,rfl,e⟩:=yl
 exact hs i k x t σ H e p ht
end
end L2
namespace PySem.SeqAt
open AutoSeq1 (wpAny_loadPart')
open MeetsSeq MeetsSeq2 MeetsSeq3
end PySem.SeqAt
namespace L2
open PySem PySem.Spec PyProof PyProof.Rows
section
variable {X:Cx}
end
end L2
namespace L2
open PySem PySem.Spec PyProof PyProof.Rows
section
variable {X:Cx}
end
end L2
namespace L2
open PySem PySem.Spec PyProof.Rows
section
variable {X:Cx} {pins:List (Addr × Obj)} {σ : St} {H:Hp} {s:Shared} {a:Addr} {kvs:List (Option Int × V)}
end
section
variable {X:Cx} (P:Program) (w:World)
end
end L2
namespace L2
open PySem PySem.Spec PyProof PyProof.Rows
section
variable {prog:Program} {w:World} {A:Around} {E:Value→Shared→Prop} {s:Shared}
variable {z TI TO i1 i2 t1 t2:Addr} {xs ys:Array Value} {k1 k2:Nat} {a b:Value}
end
section
variable {K:PySem.W.Frag} {a b:Addr} {xs ys:List V} {g:TG} {te:TE} {nT:Nat} {σ : St} {D:Addr} {Q:VK} {H:Hp}
end
end L2
namespace L2
open PySem PySem.Spec PyProof PyProof.Rows PySem.SeqAt
theorem idx_neG {α : Type} [BEq α] [LawfulBEq α] {y:α}:∀ {l:List α} {j:Nat},j < l.idxOf y→∀ (h:j < l.length),l[j] ≠ y
 | n :: r,0,h,_=>by
  intro e
  have e':n = y:=e
  subst e'
  simp at h
 | n :: r,j + 1,h,h2=>by
  rw [List.idxOf_cons] at h
  cases hb:n == y with
  | true=>rw [hb] at h; exact absurd h (Nat.not_lt_zero _)
  | false=>
   rw [hb] at h
   have h':j + 1 < r.idxOf y + 1:=h
   have q:=idx_neG (y:=y) (l:=r) (j:=j) (by omega) (by simpa using h2)
   simpa using q
section
variable {X:Cx}
end
theorem forIn_find {M:Model} {A:Around} {E:Value→Shared→Prop} {s s':Shared} {β : Type} (f:Nat→β→Sem (ForInStep β)) (b b':β) (j:Nat) (hno:∀ m,m < j→∀ R:ForInStep β→Shared→Prop,R (.yield b) s→wpAny M A (f m b) R E s) (hit:∀ R:ForInStep β→Shared→Prop,R (.done b') s'→wpAny M A (f j b) R E s) {Q:β→Shared→Prop} (q:Q b' s') :
  ∀ (n i:Nat),i ≤ j→j < i + n→wpAny M A (forIn (List.range' i n) b f) Q E s
 | 0,i,h1,h2=>by omega
 | n + 1,i,h1,h2=>by
  rw [List.range'_succ,List.forIn_cons]
  refine wpAny_bind ?_
  rcases Nat.lt_or_ge i j with h | h
  ·exact hno i h _ (forIn_find f b b' j hno hit q n (i + 1) h (by omega))
  ·have e:i = j:=by omega
   subst e
   exact hit _ (wpAny_pure q)
theorem tuple_indexAt (t:Addr) (items:Array Value) (x:Value) (e:Value→Bool) (j:Nat) (hj:j < items.size)
  (hit:e items[j] = true) (hno:∀ m (hm:m < items.size),m < j→e items[m] = false) :
  Meets (Builtin.«tuple.index» ⟨[.ref t,x],[]⟩)
   (fun A R s=>IsTup s.heap t items∧(∀ y,y ∈ items→EqAt A.in1 s y x (e y))∧R (.ok (.ret (.int j s.toks))) { s with toks:=s.toks + 1 }):=by
 intro prog w A R s h
 obtain ⟨ht,he,h⟩:=h
 show wpAny _ _ (Builtin.Tuple.tupleItemsOf (.ref t) >>= fun _=>_) _ _ s
 refine wpAny_bind (tupleItemsOf_ ht ?_)
 simp only [pure_bind]
 rw [Nat.min_self,Std.Legacy.Range.forIn_eq_forIn_range']
 refine wpAny_bind (forIn_find _ (none,()) (some (.done (.ret (.int j s.toks))),()) j (s':={ s with toks:=s.toks + 1 }) (fun m hm R' hR=>?_) (fun R' hR=>?_) ?_ _ 0 (Nat.zero_le _) ?_)
 ·have hm':m < items.size:=by omega
  rw [Array.getElem?_eq_getElem hm']
  refine wpAny_bind (he _ (Array.getElem_mem hm') prog w _ _ ?_)
  rw [hno m hm' hm]
  exact wpAny_pure hR
 ·rw [Array.getElem?_eq_getElem hj]
  refine wpAny_bind (he _ (Array.getElem_mem hj) prog w _ _ ?_)
  rw [hit]
  refine wpAny_bind ?_
  show wpAny _ _ (mkInt (j:Int) >>= fun v=>ret v) _ _ _
  exact wpAny_bind (wpAny_mkInt (wpAny_pure (wpAny_pure hR)))
 ·exact wpAny_pure h
 ·simp [Std.Legacy.Range.size]; exact hj
section
variable {X:Cx}
def rIndexOT (K:PySem.W.Frag):V→List V→Hp→VK→Prop:=fun x vs H Q=>∃ (p:Addr) (ss:List (Option Int)) (y:Option Int),x = .ref p∧vs = [optV y]∧SqT K H p (ss.map optV)∧y ∈ ss∧Q (.int (ss.idxOf y:Nat)) H
theorem mt_indexOT (K:PySem.W.Frag) (hK:X.K = K:=by rfl):MtR X "tuple.index" (rIndexOT K):=by
 subst hK
 intro pins s σ H x xs v us Q I rx r h
 obtain ⟨p,ss,y,rfl,rfl,hq,hy,q⟩:=h
 cases rx
 obtain ⟨u,rfl,ru⟩:=vals1 r
 obtain ⟨its,rv,pl,hz⟩:=I.tuple hq
 have hlen:its.length = ss.length:=by rw [← rv.length,List.length_map]
 have hj:ss.idxOf y < ss.length:=List.idxOf_lt_length_iff.mpr hy
 have rel:∀ (i:Nat) (h:i < its.length),RelV (optV (ss[i]'(by omega))) its[i]:=fun i h=>by
  obtain ⟨x,hx,rx⟩:=rv.of (i:=i) (u:=its[i]) (List.getElem?_eq_getElem h)
  rw [List.getElem?_map,List.getElem?_eq_getElem (by omega)] at hx
  have hx':optV (ss[i]'(by omega)) = x:=Option.some.inj hx
  subst hx'
  exact rx
 have eqq:∀ (i:Nat) (h:i < its.length),eqU (optV y) its[i] = decide (ss[i]'(by omega) = y):=fun i h=>by
  rw [eqU_of (rel i h) (optV_flat _),optV_eq]
 have pt:IsTup s.heap p its.toArray:=pl
 refine call_meets PySem.F.slot_tuple_index pt.typeIs PySem.F.entry_tuple_index (PySem.F.args_tuple_index_2 _ _)
  (tuple_indexAt p its.toArray u (eqU (optV y)) (ss.idxOf y) (by simpa [hlen] using hj) ?_ ?_) ⟨pt,fun z hz=>?_,⟨.int _,H,I.tok _,⟨_,rfl⟩,q⟩⟩
 ·show eqU (optV y) its[ss.idxOf y] = true
  rw [eqq _ (by omega),List.getElem_idxOf hj]; simp
 ·intro j hjs hlt
  have hj':j < its.length:=by simpa using hjs
  show eqU (optV y) its[j] = false
  rw [eqq j hj']
  exact decide_eq_false (idx_neG hlt _)
 ·have hz':z ∈ its:=by simpa using hz
  obtain ⟨i,hi,rfl⟩:=List.mem_iff_getElem.mp hz'
  rw [eqU_of (rel i hi) (optV_flat _)]
  exact eqAt_V (A:=X.A.in1) (s:=s) (rel i hi) ru (optV_flat _) (optV_flat _)
end
section
variable {X:Cx}
def rInD:R2:=fun x y H Q=>∃ a kvs k,y = .ref a∧x = kV k∧H a = some (.dK kvs)∧Q (.bl (valV kvs k).isSome) H
theorem op_inD {n:Nat} (hr:Room n X.A):OpR X (compareOp .In) rInD:=by
 intro pins s σ H x y v u Q I rx ry h
 obtain ⟨a,kvs,k,rfl,rfl,e,q⟩:=h
 cases ry
 exact d_in (by have:=hr.un; omega) I (DGet.k e) rx fun s' I'=>⟨.bl _,H,I',rfl,q⟩
end
end L2
namespace L2
open PySem PySem.Spec PyProof PyProof.Rows
section
variable {X:Cx}
def rSetdefK:V→List V→Hp→VK→Prop:=fun x xs H Q=>∃ a kvs k v,x = .ref a∧xs = [kV k,v]∧H a = some (.dK kvs)∧kvs.length < sizeLine∧(∀ z,valV kvs k = some z→Q z H)∧(valV kvs k = none→Q v (upd H a (.dK (putK kvs k v))))
theorem mt_setdefK:MtR X "dict.setdefault" rSetdefK:=by
 intro pins s σ H x vs v us Q I rx rv h
 obtain ⟨a,kvs,k,y,rfl,rfl,e,hl,q1,q2⟩:=h
 cases rx
 obtain ⟨u,r,rfl,ru,rr⟩:=vals2 rv
 obtain ⟨z,hd,vs,rel,dd⟩:=dk_of I.hok e
 have hz:vs.length ≤ sizeLine:=by rw [← rel.length]; exact z
 have hl':(putK kvs k y).length ≤ sizeLine:=by have:=length_putK kvs k y; omega
 have rv:=rel.val k
 refine call_meetsIn PySem.F.slot_dict_setdefault dd.typeIs PySem.F.entry_dict_setdefault (PySem.F.args_dict_setdefault_3 _ _ _) (kt_meets_setdefault (mixKind X.prog X.w) a (kV_is ru) hd r) ⟨vs,dd,hz,fun z' hz'=>?_,fun hn h' dd' hs=>?_⟩
 ·cases ho:valV kvs k with
  | none=>rw [ho,hz'] at rv; exact rv.elim
  | some w'=>
   rw [ho,hz'] at rv
   exact ⟨w',H,I.tok _,rv,q1 w' ho⟩
 ·have ho:valV kvs k = none:=by
   cases ho:valV kvs k with
   | none=>rfl
   | some w'=>rw [ho,hn] at rv; exact rv.elim
  have he:∃ q,h'.get? a = some q:=let ⟨q,_,_,hq,_⟩:=dd'; ⟨q,hq⟩
  exact ⟨y,_,d_write I (by rw [e]; exact True.intro) hs he (dk_new hl' hd (rel.put k rr) dd'),rr,q2 ho⟩
end
section
variable {prog:Program} {w:World} {κ : Type} [DecidableEq κ] {knd:HeapKind prog w κ} {A:Around} {E:Value→Shared→Prop} {s:Shared}
theorem setdef_heap {d a:Addr} {xs:List (κ × Addr × Value)} {k:κ} {dflt:Value} {Q:Value→Shared→Prop} (hu:knd.room A) (hkey:knd.is s.heap k a) (hm:s.heap.DictOfH knd d xs) (hsz:xs.length ≤ sizeLine)
  (h1:∀ v,(atKey xs k).map (·.2) = some v→Q v { s with toks:=s.toks + knd.draws k })
  (h2:atKey xs k = none→∀ h',h'.DictOfH knd d (storedH xs k a dflt)→Heap.SameBut d s.heap h'→Q dflt { s with heap:=h',toks:=s.toks + knd.draws k }) :
  wpAny (model prog w) A (dictSetDefault d (.ref a) dflt) Q E s:=by
 obtain ⟨o,es,ep,ho,hc,hd,he,his,hn⟩:=hm
 unfold dictSetDefault
 try with_reducible refine wpAny_holding ?_
 refine wpAny_bind (knd.pyHash hu hkey ?_)
 refine wpAny_bind (wpAny_dictFind_heap (s:={ s with toks:=s.toks + knd.draws k }) hu hkey ho hd he his hn ?_ ?_)
 ·intro hno
  have hnot:k ∉ xs.map (·.1):=not_mem_keys_of_get hno
  refine wpAny_bind (wpAny_rule (wpAny_bind (wpAny_updateDictKeys (hz:=by have e:=size_of_entries he; omega) (s:={ s with toks:=s.toks + knd.draws k }) ho hd (wpAny_pure (h2 (atKey_none_of_get hno) _ ⟨_,_,ep + 1,Heap.get?_update_self _ ho (Obj.isFreed_of_dict (Obj.data_mapDictKeys hd _)),
   hc.mapDictKeys _,Obj.data_mapDictKeys hd _,?_,?_,?_⟩ (Heap.SameBut.update ..))))))
  ·rw [storedH_new (atKey_none_of_get hno)]
   simp [he,entryOfKey]
  ·rw [storedH_new (atKey_none_of_get hno)]
   intro x hx
   rcases List.mem_append.mp hx with hx | hx
   ·exact knd.keeps (his x hx) ho hd (Heap.SameBut.update ..)
   ·simp only [List.mem_singleton] at hx
    subst hx
    exact knd.keeps hkey ho hd (Heap.SameBut.update ..)
  ·rw [storedH_new (atKey_none_of_get hno)]
   rw [List.map_append,List.nodup_append]
   refine ⟨hn,by simp,?_⟩
   intro x hx y hy
   simp only [List.map_cons,List.map_nil,List.mem_singleton] at hy
   subst hy
   exact fun e=>hnot (e ▸ hx)
 ·intro j p hj
  refine wpAny_bind (wpAny_dictEntries (s:={ s with toks:=s.toks + knd.draws k }) ho hd ?_)
  rw [entry_at he j,hj]
  exact wpAny_bind (wpAny_rule (wpAny_pure (h1 _ (by rw [atKey_of_get hn hj]; rfl))))
theorem meetsH_setdef (knd:HeapKind prog w κ) (d a:Addr) (hd:(d == sysModules) = false) (dflt:Value) :
  MeetsIn prog w (Builtin.«dict.setdefault» ⟨[.ref d,.ref a,dflt],[]⟩) (fun A R s=>knd.room A.in1∧∃ k xs,knd.is s.heap k a∧s.heap.DictOfH knd d xs∧xs.length ≤ sizeLine∧
   (∀ v,(atKey xs k).map (·.2) = some v→R (.ok (.ret v)) { s with toks:=s.toks + knd.draws k })∧
   (atKey xs k = none→∀ h',h'.DictOfH knd d (storedH xs k a dflt)→Heap.SameBut d s.heap h'→R (.ok (.ret dflt)) { s with heap:=h',toks:=s.toks + knd.draws k })):=
 .of_wp fun A R s ⟨hu,k,xs,hkey,hm,hz,h1,h2⟩=>by
  unfold Builtin.«dict.setdefault»
  refine wpAny_bind ?_
  unfold Builtin.Dict.keyAndDefault
  refine wpAny_bind (wpAny_notOrdered_dict hm.typeIs ?_)
  show wpAny _ _ (pure (d,Value.ref a,some dflt)) _ _ s
  refine wpAny_pure ?_
  show wpAny _ _ (if (d == sysModules) = true then _ else (dictSetDefault d (.ref a) dflt >>= _)) _ _ s
  rw [if_neg (by rw [hd]; exact Bool.false_ne_true)]
  exact wpAny_bind (setdef_heap hu hkey hm hz (fun v hv=>wpAny_pure ⟨v,rfl,h1 v hv⟩) fun hn h' hm' hs'=>wpAny_pure ⟨dflt,rfl,h2 hn h' hm' hs'⟩)
end
section
variable {X:Cx}
def rSetdefT:V→List V→Hp→VK→Prop:=fun x xs H Q=>∃ a b ks kvs v,x = .ref a∧xs = [.ref b,v]∧H a = some (.dT kvs)∧H b = some (.tup (ks.map kV))∧kvs.length < sizeLine∧(∀ z,valV kvs ks = some z→Q z H)∧(valV kvs ks = none→Q v (upd H a (.dT (putK kvs ks v))))
theorem mt_setdefT {n:Nat} (hr:Room n X.A):MtR X "dict.setdefault" rSetdefT:=by
 intro pins s σ H x vs v us Q I rx rv h
 obtain ⟨a,b,k,kvs,y,rfl,rfl,e,eb,hl,q1,q2⟩:=h
 cases rx
 obtain ⟨u,r,rfl,ru,rr⟩:=vals2 rv
 cases (show u = Value.ref b from ru)
 obtain ⟨z,hd,xs,rel,dd⟩:=dt_of I.hok e
 have hz:xs.length ≤ sizeLine:=by rw [← Paired.length rel]; exact z
 have hl':(putK kvs k y).length ≤ sizeLine:=by have:=length_putK kvs k y; omega
 have rv:=rel.val k
 refine call_meetsIn PySem.F.slot_dict_setdefault dd.typeIs PySem.F.entry_dict_setdefault (PySem.F.args_dict_setdefault_3 _ _ _) (meetsH_setdef (tupleKind (mixKind X.prog X.w)) a b hd r) ⟨tupleKind_room_in1 (by have:=hr.un; omega),k,xs,key_of I.hok eb,dd,hz,fun z' hz'=>?_,fun hn h' dd' hs=>?_⟩
 ·cases ho:valV kvs k with
  | none=>rw [ho,hz'] at rv; exact rv.elim
  | some w'=>
   rw [ho,hz'] at rv
   exact ⟨w',H,I.tok _,rv,q1 w' ho⟩
 ·have ho:valV kvs k = none:=by
   cases ho:valV kvs k with
   | none=>rfl
   | some w'=>rw [ho,hn] at rv; exact rv.elim
  obtain ⟨q,es,ep,hq,h2,h3,h4,_,h5⟩:=dd'
  refine ⟨y,upd H a (.dT (putK kvs k y)),d_write I (by rw [e]; exact True.intro) hs ⟨q,hq⟩ ⟨hl',hd,_,(rel.put k eb rr).keeps fun c ys ec=>?_,q,es,ep,hq,h2,h3,h4,h5⟩,rr,q2 ho⟩
  rw [upd_ne (ne_of ec e (fun z=>nomatch z))]
  exact ec
end
end L2
namespace L2
open PySem PySem.Spec PyProof PyProof.Rows
section
variable {X:Cx} {pins:List (Addr × Obj)} {σ : List (Option V)} {H:Hp} {s:Shared}
theorem Inv.thaw {d:Addr} {o:Obj} {kvs:List (Key × V)} (I:Inv X pins σ H s) (e:H d = some (.frz o (.dK kvs))) (h0:∀ o u,X.H₀ d ≠ some (.frz o u)):Inv X pins σ (upd H d (.dK kvs)) s:=by
 have nn:∀ b,H b = none→upd H d (.dK kvs) b = none:=fun b q=>by rw [upd_ne (fun z=>by rw [z,e] at q; cases q)]; exact q
 have nt:∀ b xs,H b = some (.tup xs)→upd H d (.dK kvs) b = some (.tup xs):=fun b xs q=>by rw [upd_ne (fun z=>by rw [z,e] at q; cases q)]; exact q
 have no:∀ b x,H b = some (.own x)→upd H d (.dK kvs) b = some (.own x):=fun b x q=>by rw [upd_ne (fun z=>by rw [z,e] at q; cases q)]; exact q
 refine ⟨I.ok,I.os,I.bare,⟨I.base.keep,I.base.slot,fun b ob q n hx=>nn b (I.base.free b ob q n hx),I.base.there,fun b xs q=>nt b xs (I.base.tups b xs q),fun b ob u q=>?_,fun b ps q=>?_⟩,I.loc,I.cell,nn _ I.free,fun x c q=>nn c (I.freeC x c q),fun p hp=>?_,fun b u q=>?_,I.len⟩
 ·have hb:b ≠ d:=fun z=>h0 ob u (z ▸ q)
  rw [upd_ne hb]; exact I.base.frzs b ob u q
 ·obtain ⟨more,q'⟩:=I.base.tbls b ps q
  exact ⟨more,by rw [upd_ne (fun z=>by rw [z,e] at q'; cases q')]; exact q'⟩
 ·obtain ⟨p1,p2,p3⟩:=I.pin p hp
  exact ⟨p1,nn _ p2,p3⟩
 ·by_cases hb:b = d
  ·subst hb
   rw [upd_same] at q; cases q
   obtain ⟨_,q2⟩:=(show ObjOk X.prog X.w H s.heap b (.frz o (.dK kvs)) from I.hok b _ e)
   exact ObjOk.stay q2 (fun _ _ _ z=>z) (fun c z=>no c _ z) nt
  ·rw [upd_ne hb] at q
   exact (I.hok b u q).stay (fun _ _ _ z=>z) (fun c z=>no c _ z) nt
def Thawed (H H':Hp) (q:Hp→Prop):Prop:=∃ d o kvs,(∀ o u,H d ≠ some (.frz o u))∧H' d = some (.frz o (.dK kvs))∧q (upd H' d (.dK kvs))
def tThaw (ts:TS):TS:=fun D σ H=>ts { D with nx:=fun σ' H'=>Thawed H H' (D.nx σ') } σ H
theorem ps_thaw {st:Stmt} {ts:TS} (h:PS X st ts):PS X st (tThaw ts):=by
 intro pins s σ H D I q
 refine thn (h pins s σ H _ I q) fun f s' r=>?_
 cases f with
 | next=>
  obtain ⟨σ',H',I',d,o,kvs,n,e,q'⟩:=r
  exact ⟨σ',_,I'.thaw e (fun o u z=>n o u (I.base.frzs d o u z)),q'⟩
 | brk=>exact r
 | cont=>exact r
 | ret u=>exact r
end
section
variable {X:Cx}
def rNotInT:R2:=fun x y H Q=>∃ a b kvs k,y = .ref a∧x = .ref b∧H a = some (.dT kvs)∧H b = some (.tup (k.map kV))∧Q (.bl (!(valV kvs k).isSome)) H
theorem op_notInT {n:Nat} (hr:Room n X.A):OpR X (compareOp .NotIn) rNotInT:=by
 intro pins s σ H x y v u Q I rx ry h
 obtain ⟨a,b,kvs,k,rfl,rfl,e,eb,q⟩:=h
 cases ry
 exact d_notIn (by have:=hr.un; omega) I (DGet.t e eb) rx fun s' I'=>⟨.bl _,H,I',rfl,q⟩
def rSetTk:TSet:=fun o i v H Q=>∃ a b kvs k,o = .ref a∧i = .ref b∧H a = some (.dT kvs)∧H b = some (.tup (k.map kV))∧kvs.length < sizeLine∧Q (upd H a (.dT (putK kvs k v)))
theorem set_Tk {n:Nat} (hr:Room n X.A):PSet X rSetTk:=by
 intro pins s σ H o i v ov iv u Q I ro ri rv h
 obtain ⟨a,b,kvs,k,rfl,rfl,e,eb,hl,q⟩:=h
 cases ro
 exact d_setItem (by have:=hr.un; omega) I (DPut.t e eb hl) ri rv fun s' I'=>⟨_,I',q⟩
def rIxTk:R2:=fun x y H Q=>∃ a b kvs k v,x = .ref a∧y = .ref b∧H a = some (.dT kvs)∧H b = some (.tup (k.map kV))∧valV kvs k = some v∧Q v H
theorem ix_Tk {n:Nat} (hr:Room n X.A):IxR X rIxTk:=by
 intro value slice pins s σ H x y v u Q I rx ry h hs
 obtain ⟨a,b,kvs,k,z,rfl,rfl,e,eb,l,q⟩:=h
 cases rx
 cases (show u = Value.ref b from ry)
 obtain ⟨_,hd,xs,rel,dd⟩:=dt_of I.hok e
 obtain ⟨w',hw,rw'⟩:=RelO.some_of (v:=z) (o:=(atKey xs k).map (·.2)) (by rw [← l]; exact rel.val k)
 obtain ⟨p,hp,hp2⟩:=Option.map_eq_some_iff.mp hw
 have hl:typeLookup (.type "dict") "__getitem__" = pure (some (.builtin "dict.__getitem__")):=PySem.F.slot_dict_getitem.lookup
 refine subscriptTail_builtinR (x:=w') dd.typeIs hl ?_ hs
 refine wpAny_getItem_heap (tupleKind_room_in1 (by have:=hr.un; omega)) (key_of I.hok eb) dd hp ?_
 rw [hp2]
 exact ⟨rfl,z,H,I.tok _,rw',q⟩
end
open PySem.SeqAt
section
variable {X:Cx}
def rEqTI (K:PySem.W.Frag):R2:=fun x y H Q=>∃ (a c:Addr) (xs ys:List Int),x = .ref a∧y = .ref c∧SqT K H a (xs.map V.int)∧SqT K H c (ys.map V.int)∧Q (.bl (decide (xs = ys))) H
theorem op_eqTI (K:PySem.W.Frag) {k:Nat} (hr:Room k X.A) (hK:X.K = K:=by rfl):OpR X (compareOp .Eq) (rEqTI K):=by
 subst hK
 intro pins s σ H x y v u Q I rx ry h
 obtain ⟨a,c,xs,ys,rfl,rfl,q1,q2,q⟩:=h
 cases rx
 cases ry
 obtain ⟨i1,r1,p1,z1⟩:=I.tuple q1
 obtain ⟨i2,r2,p2,z2⟩:=I.tuple q2
 have l1:=r1.length
 have l2:=r2.length
 rw [List.length_map] at l1 l2
 have hit:∀ j (h1:j < i1.toArray.size) (h2:j < i2.toArray.size),EqAt X.A.in1 s i1.toArray[j] i2.toArray[j] (decide (xs.getD j 0 = ys.getD j 0)):=fun j h1 h2=>by
  obtain ⟨x,hx,rx⟩:=r1.of (i:=j) (u:=i1.toArray[j]) (by simp at h1 ⊢)
  obtain ⟨y,hy,ry⟩:=r2.of (i:=j) (u:=i2.toArray[j]) (by simp at h2 ⊢)
  rw [List.getElem?_map] at hx hy
  cases e1:xs[j]? with
  | none=>rw [e1] at hx; cases hx
  | some x'=>
   cases e2:ys[j]? with
   | none=>rw [e2] at hy; cases hy
   | some y'=>
    rw [e1] at hx; rw [e2] at hy
    cases hx; cases hy
    have e3:decide (xs.getD j 0 = ys.getD j 0) = eqV (.int x') (.int y'):=by
     rw [List.getD_eq_getElem?_getD,List.getD_eq_getElem?_getD,e1,e2]
     show decide (x' = y') = (x' == y')
     rfl
    rw [e3]
    exact eqAt_V rx ry rfl rfl
 have ez:decide (xs = ys) = ((List.range (min i1.toArray.size i2.toArray.size)).all (fun j=>decide (xs.getD j 0 = ys.getD j 0)) && i1.toArray.size == i2.toArray.size):=by
  have e1:i1.toArray.size = xs.length:=by simp; omega
  have e2:i2.toArray.size = ys.length:=by simp; omega
  rw [e1,e2,Bool.eq_iff_iff,Bool.and_eq_true,decide_eq_true_eq,List.all_eq_true,beq_iff_eq]
  constructor
  ·rintro rfl; exact ⟨fun j _=>by simp,rfl⟩
  ·rintro ⟨hj,hl⟩
   refine List.ext_getElem hl fun j h1 h2=>?_
   have:=hj j (List.mem_range.mpr (by omega))
   rw [decide_eq_true_eq,List.getD_eq_getElem?_getD,List.getD_eq_getElem?_getD,List.getElem?_eq_getElem h1,List.getElem?_eq_getElem h2] at this
   exact this
 rw [ez] at q
 exact (RcAt.tuples (show s.heap.IsTuple a i1.toArray from p1) (show s.heap.IsTuple c i2.toArray from p2) (by have:=hr.un; omega) hit) _ _ _ _ ⟨.bl _,H,I,rfl,q⟩
end
end L2
namespace PySem.SeqAt
open AutoSeq1 (wpAny_loadPart')
open MeetsSeq MeetsSeq2 MeetsSeq3
open SeqRoads2
def LessAt (A:Around) (s:Shared) (y x:Value) (k:Bool):Prop:=
 ∀ (P:Program) (w:World) (E:Value→Shared→Prop) (Q:Value→Shared→Prop),Q (.bool k) s→wpAny (model P w) A (richCompare .Lt y x) Q E s
def lexW (e l:Nat→Bool) (z:Bool):List Nat→Bool
 | []=>z
 | i :: r=>if e i = true then lexW e l z r else l i
theorem tup_less (p q:Addr) (xs ys:Array Value) (m k:Nat) (d1 d2:Option Addr) (s1 s2:Array (Option Value)) (e lt:Nat→Bool) :
  Meets (Builtin.«tuple.__lt__» ⟨[.ref p,.ref q],[]⟩)
   (fun A R s=>s.heap.get? p = some { cls:=.type "tuple", dict:=d1,data:=.seq xs m,slots:=s1 }∧s.heap.get? q = some { cls:=.type "tuple", dict:=d2,data:=.seq ys k,slots:=s2 }∧
    (∀ j (h1:j < xs.size) (h2:j < ys.size),(∀ i,i < j→e i = true)→EqAt A.in1 s xs[j] ys[j] (e j))∧(∀ j (h1:j < xs.size) (h2:j < ys.size),e j = false→LessAt A.in1 s xs[j] ys[j] (lt j))∧
    R (.ok (.ret (.bool (lexW e lt (decide (xs.size < ys.size)) (List.range (min xs.size ys.size)))))) s):=
 .of_wp fun P w A R s h=>by
  obtain ⟨hp,g,d,tk,os⟩:=s; obtain ⟨hx,hy,he,hlt,h⟩:=h
  have sub:=AutoSeq1.sub_tuple_tuple
  have zl:(xs.toList.zip ys.toList).length = min xs.size ys.size:=by simp
  wp_walk using wpAny_loadPart' hx,wpAny_loadPart' hy,wpAny_forIn_list _ (fun left acc st=>acc.1 = none∧st = ⟨hp,g,d,tk,os⟩∧∃ i,left = (xs.toList.zip ys.toList).drop i∧(∀ j,j < i→e j = true)∧
   R (.ok (.ret (.bool (lexW e lt (decide (xs.size < ys.size)) ((List.range (min xs.size ys.size)).drop i))))) ⟨hp,g,d,tk,os⟩) _
  case turn=>
   rintro ⟨u,v⟩ left acc st ⟨ha,rfl,i,hz,hpre,hR⟩
   have il:i < (xs.toList.zip ys.toList).length:=by
    rcases Nat.lt_or_ge i (xs.toList.zip ys.toList).length with z | z
    ·exact z
    ·rw [List.drop_of_length_le z] at hz; cases hz
   have im:i < min xs.size ys.size:=zl ▸ il
   have i1:i < xs.size:=by omega
   have i2:i < ys.size:=by omega
   rw [List.drop_eq_getElem_cons il] at hz
   injection hz with huv hleft
   have eu:u = xs[i]:=by have:=congrArg Prod.fst huv; simpa using this
   have ev:v = ys[i]:=by have:=congrArg Prod.snd huv; simpa using this
   subst eu ev
   have dd:(List.range (min xs.size ys.size)).drop i = i :: (List.range (min xs.size ys.size)).drop (i + 1):=by simp [List.drop_eq_getElem_cons,im]
   rw [dd] at hR
   refine wpAny_bind (he i i1 i2 hpre P w _ _ ?_)
   cases hei:e i with
   | true=>
    have hR':lexW e lt (decide (xs.size < ys.size)) (i :: (List.range (min xs.size ys.size)).drop (i + 1)) = lexW e lt (decide (xs.size < ys.size)) ((List.range (min xs.size ys.size)).drop (i + 1)):=by
     show (if e i = true then _ else _) = _; rw [hei]; rfl
    rw [hR'] at hR
    wp_walk
    exact ⟨rfl,rfl,i + 1,hleft,fun j hj=>by rcases Nat.lt_or_ge j i with z | z; exact hpre j z; exact (Nat.le_antisymm (Nat.le_of_lt_succ hj) z).symm ▸ hei,hR⟩
   | false=>
    have hR':lexW e lt (decide (xs.size < ys.size)) (i :: (List.range (min xs.size ys.size)).drop (i + 1)) = lt i:=by
     show (if e i = true then _ else _) = _; rw [hei]; rfl
    rw [hR'] at hR
    have hri:∀ (E:Value→Shared→Prop) (Q:Value→Shared→Prop),Q (.bool (lt i)) ⟨hp,g,d,tk,os⟩→wpAny (model P w) A.in1 (richCompare .Lt xs[i] ys[i]) Q E ⟨hp,g,d,tk,os⟩:=hlt i i1 i2 hei P w
    wp_walk using hri
    exact ⟨_,rfl,hR⟩
  case fin=>
   rintro ⟨b1,b2⟩ st ⟨ha,rfl,i,hz,_,hR⟩
   simp only at ha
   subst ha
   have hover:min xs.size ys.size ≤ i:=by
    rcases Nat.lt_or_ge i (xs.toList.zip ys.toList).length with z | z
    ·rw [List.drop_eq_getElem_cons z] at hz; cases hz
    ·exact zl ▸ z
   rw [List.drop_of_length_le (by simpa using hover)] at hR
   wp_walk
   exact ⟨_,rfl,hR⟩
  case h=>
   exact ⟨rfl,rfl,0,rfl,fun j hj=>absurd hj (Nat.not_lt_zero _),h⟩
section
variable {A:Around} {s:Shared}
theorem LessAt.tuples {p q:Addr} {xs ys:Array Value} {e lt:Nat→Bool} (hx:s.heap.IsTuple p xs) (hy:s.heap.IsTuple q ys) (hu:A.units < cLine) (he:∀ j (h1:j < xs.size) (h2:j < ys.size),(∀ i,i < j→e i = true)→EqAt A.in1 s xs[j] ys[j] (e j))
  (hl:∀ j (h1:j < xs.size) (h2:j < ys.size),e j = false→LessAt A.in1 s xs[j] ys[j] (lt j)):LessAt A s (.ref p) (.ref q) (lexW e lt (decide (xs.size < ys.size)) (List.range (min xs.size ys.size))):=fun P w E Q h=>by
 obtain ⟨⟨c1,d1,a1,s1⟩,o1,hc1,n1,hd1⟩:=id hx
 obtain ⟨⟨c2,d2,a2,s2⟩,o2,hc2,n2,hd2⟩:=id hy
 simp only at hc1 hd1 hc2 hd2
 subst hc1 hd1 hc2 hd2
 exact richCompare_meets_room (op:=.Lt) ⟨_,o1,rfl⟩ ⟨_,o2,rfl⟩ F.slot_tuple_lt F.entry_tuple_lt (F.args_tuple_lt_2 _ _) (tup_less p q xs ys n1 n2 d1 d2 s1 s2 e lt) ⟨o1,o2,he,hl,(fun z=>nomatch z),h⟩ hu
end
end PySem.SeqAt
namespace L2
open PySem PySem.Spec PyProof PyProof.Rows PySem.SeqAt
def Lt0 (x y:V) (b:Bool):Prop:=(∃ i j,x = .int i∧y = .int j∧b = decide (i < j))∨∃ u v:Str,x = .str u∧y = .str v∧b = decide (u.cps.toList < v.cps.toList)
def LtN (K:PySem.W.Frag) (H:Hp):Nat→V→V→Bool→Prop
 | 0,x,y,b=>Lt0 x y b
 | n + 1,x,y,b=>Lt0 x y b∨∃ (a c:Addr) (xs ys:List V) (e l:Nat→Bool),x = .ref a∧y = .ref c∧SqT K H a xs∧SqT K H c ys∧(∀ (i:Nat) x y,xs[i]? = some x→ys[i]? = some y→(∀ j,j < i→e j = true)→EqN K H n x y (e i))∧
   (∀ (i:Nat) x y,xs[i]? = some x→ys[i]? = some y→e i = false→LtN K H n x y (l i))∧b = lexW e l (decide (xs.length < ys.length)) (List.range (min xs.length ys.length))
section
variable {X:Cx} {pins:List (Addr × Obj)} {σ : St} {H:Hp} {s:Shared}
theorem less_int {A:Around} {i j:Int} {t u:Tok}:LessAt A s (.int i t) (.int j u) (decide (i < j)):=fun P w E Q h=>HT.rcLt_int A s i t j u P w E Q h
theorem less_str {A:Around} {x y:Str} {t u:Tok}:LessAt A s (.str x t) (.str y u) (decide (x.cps.toList < y.cps.toList)):=fun P w E Q h=>lt_str h
theorem Lt0.at {A:Around} {x y:V} {b:Bool} {u v:Value} (h:Lt0 x y b) (rx:RelV x u) (ry:RelV y v):LessAt A s u v b:=by
 rcases h with ⟨i,j,rfl,rfl,rfl⟩ | ⟨p,q,rfl,rfl,rfl⟩
 ·obtain ⟨t,rfl⟩:=rx
  obtain ⟨t',rfl⟩:=ry
  exact less_int
 ·obtain ⟨t,rfl⟩:=rx
  obtain ⟨t',rfl⟩:=ry
  exact less_str
theorem LtN.at (I:Inv X pins σ H s):∀ {n:Nat} {A:Around} {x y:V} {b:Bool} {u v:Value},A.units + n < cLine→LtN X.K H n x y b→RelV x u→RelV y v→LessAt A s u v b
 | 0,A,x,y,b,u,v,_,h,rx,ry=>Lt0.at h rx ry
 | n + 1,A,x,y,b,u,v,hu,h,rx,ry=>by
  rcases h with h | ⟨a,c,xs,ys,e,l,rfl,rfl,q1,q2,he,hl,rfl⟩
  ·exact Lt0.at h rx ry
  ·cases rx
   cases ry
   obtain ⟨i1,r1,p1,z1⟩:=I.tuple q1
   obtain ⟨i2,r2,p2,z2⟩:=I.tuple q2
   have l1:=r1.length
   have l2:=r2.length
   have hin:A.in1.units + n < cLine:=by show A.units + 1 + n < cLine; omega
   have e1:xs.length = i1.toArray.size:=by simp; omega
   have e2:ys.length = i2.toArray.size:=by simp; omega
   rw [e1,e2]
   refine LessAt.tuples (show s.heap.IsTuple a i1.toArray from p1) (show s.heap.IsTuple c i2.toArray from p2) (by omega) (fun j h1 h2 hp=>?_) (fun j h1 h2 hf=>?_)
   ·obtain ⟨x,hx,rx⟩:=r1.of (i:=j) (u:=i1.toArray[j]) (by simp at h1 ⊢)
    obtain ⟨y,hy,ry⟩:=r2.of (i:=j) (u:=i2.toArray[j]) (by simp at h2 ⊢)
    exact EqN.at I hin (he j x y hx hy hp) rx ry
   ·obtain ⟨x,hx,rx⟩:=r1.of (i:=j) (u:=i1.toArray[j]) (by simp at h1 ⊢)
    obtain ⟨y,hy,ry⟩:=r2.of (i:=j) (u:=i2.toArray[j]) (by simp at h2 ⊢)
    exact LtN.at I hin (hl j x y hx hy hf) rx ry
end
end L2
namespace PySem
section
variable {M:Program} {w:World} {A:Around} {R:Result→Shared→Prop} {I:Addr} {fp wr:List Addr} {n:Nat} {Pv:Nat→Value→Prop} {St:Nat→Heap→Prop}
def KeptBut (wr:List Addr) (S:Addr) (h0 h:Heap):Prop:=∀ b o,b ∉ wr→b ≠ S→h0.get? b = some o→h.get? b = some o
def CmpH (M:Program) (w:World) (A:Around) (wr:List Addr) (S:Addr) (s0:Shared) (h0:Heap) (Pv:Nat→Value→Prop) (bt:Nat→Nat→Bool):Prop:=
 ∀ i j u v (h:Heap) (tk:Nat) (Q:Value→Shared→Prop) (E:Value→Shared→Prop),KeptBut wr S h0 h→Pv i u→Pv j v→Q (.bool (bt i j)) { s0 with heap:=h,toks:=tk }→wpAny (model M w) A (richCompare .Lt u v) Q E { s0 with heap:=h,toks:=tk }
theorem min_turns (W:Walks M w A.in1 I fp wr n Pv St) {bt:Nat→Nat→Bool} {S:Addr} {s0:Shared} {h0:Heap} (far:S ∉ fp) (cmp:CmpH M w A.in1 wr S s0 h0 Pv bt) :
  ∀ (left j:Nat) (h:Heap) (tk0:Nat) (best:Value) (c:Nat),n - (j + 1) = left→j + 1 ≤ n→St (j + 1) h→Pv (argBest bt j) best→h.get? S = some { cls:=.type "list", dict:=none,data:=.seq #[best,best] c,slots:=#[] }→KeptBut wr S h0 h→
  (∀ v h' tk,Pv (argBest bt (n - 1)) v→KeptBut wr S h0 h'→R (.ok (.ret v)) { s0 with heap:=h',toks:=tk })→codeAny (model M w) A (.builtin "min.loop" ⟨[.ref I,.none,.ref S],[]⟩) R { s0 with heap:=h,toks:=tk0 }:=by
 have farw:S ∉ wr:=fun z=>far (W.sub _ z)
 have nm:(toString "min" ++ toString ".loop" : String) = "min.loop" := by decide
 intro left
 induction left with
 | zero=>
  intro j h tk0 best c hl hj hst hbest eS kb hR
  have jn:j + 1 = n:=by omega
  refine codeAny_builtin F.entry_min_loop (by
   rw [Around.under_plainId (F.plain_min_loop) _]
   show wpAny _ (A.in1) (seqItems? (.ref S) >>= _) _ _ _
   refine wpAny_bind (wpAny_seqItems eS rfl ?_)
   show wpAny _ (A.in1) (tryCatch (pyNext (.ref I)) _ >>= _) _ _ _
   refine wpAny_bind (wpAny_tryCatch (W.done _ _ _ (jn ▸ hst) fun h' tk kk=>?_))
   have eS':=kk S _ farw eS
   show wpAny _ (A.in1) (updateSeq S (fun _=>#[]) >>= _) _ _ _
   refine wpAny_bind (wpAny_updateSeq eS' rfl (wpAny_bind (wpAny_letGo (wpAny_pure ?_))))
   exact hR best _ tk (by rw [← jn]; exact hbest) fun b o q1 q2 q3=>(Heap.get?_update_other _ _ (Ne.symm q2)).trans (kk b o q1 (kb b o q1 q2 q3)))
 | succ left ih=>
  intro j h tk0 best c hl hj hst hbest eS kb hR
  have jl:j + 1 < n:=by omega
  refine codeAny_builtin F.entry_min_loop (by
   rw [Around.under_plainId (F.plain_min_loop) _]
   show wpAny _ (A.in1) (seqItems? (.ref S) >>= _) _ _ _
   refine wpAny_bind (wpAny_seqItems eS rfl ?_)
   show wpAny _ (A.in1) (tryCatch (pyNext (.ref I)) _ >>= _) _ _ _
   refine wpAny_bind (wpAny_tryCatch (W.item (j + 1) _ _ _ jl hst fun v h' tk hv st' kk=>?_))
   have eS':=kk S _ farw eS
   have kb':KeptBut wr S h0 h':=fun b o q1 q2 q3=>kk b o q1 (kb b o q1 q2 q3)
   show wpAny _ (A.in1) (tryCatch (holding [v,v] (richCompare .Lt v best >>= _)) _ >>= _) _ _ _
   refine wpAny_bind (wpAny_tryCatch (wpAny_holding (wpAny_bind (cmp (j + 1) (argBest bt j) v best _ _ _ _ kb' hv hbest ?_))))
   refine wpAny_bind (wpAny_holding (wpAny_truthy_bool (wpAny_bind (wpAny_letGo (wpAny_pure ?_)))))
   cases less:bt (j + 1) (argBest bt j) with
   | true=>
    simp only [if_true]
    refine wpAny_bind (wpAny_updateSeq eS' rfl (wpAny_bind (wpAny_letGo ?_)))
    rw [nm]
    refine wpAny_pure ⟨plainId_quiet F.plain_min_loop _,ih (j + 1) _ _ v _ (by omega) jl (W.frame _ _ _ st' fun b hb o q=>(Heap.get?_update_other _ _ (fun z:S = b=>far (by rw [z]; exact hb))).trans q) (by simp only [argBest,less,if_true]; exact hv) (Heap.get?_update_self _ eS' rfl)
     (fun b o q1 q2 q3=>(Heap.get?_update_other _ _ (Ne.symm q2)).trans (kb' b o q1 q2 q3)) hR⟩
   | false=>
    simp only [if_false,Bool.false_eq_true]
    rw [nm]
    exact wpAny_bind <| wpAny_letGo <| wpAny_pure ⟨plainId_quiet F.plain_min_loop _,ih (j + 1) _ _ best c (by omega) jl st' (by simp only [argBest,less,Bool.false_eq_true,if_false]; exact hbest) eS' kb' hR⟩)
end
end PySem
namespace PySem
section
variable {M:Program} {w:World} {A:Around} {E:Value→Shared→Prop} {s:Shared}
theorem min_start {R:Result→Shared→Prop} {I:Addr} {fp wr:List Addr} {n:Nat} {Pv:Nat→Value→Prop} {St:Nat→Heap→Prop} (W:Walks M w A.in1 I fp wr n Pv St) {bt:Nat→Nat→Bool} {S:Addr} {s0:Shared} {h0:Heap} (far:S ∉ fp) (cmp:CmpH M w A.in1 wr S s0 h0 Pv bt) (some1:0 < n) {h:Heap} {tk0 c:Nat} (hst:St 0 h)
  (eS:h.get? S = some { cls:=.type "list", dict:=none,data:=.seq #[] c,slots:=#[] }) (kb:KeptBut wr S h0 h) (hR:∀ v h' tk,Pv (argBest bt (n - 1)) v→KeptBut wr S h0 h'→R (.ok (.ret v)) { s0 with heap:=h',toks:=tk }) :
  codeAny (model M w) A (.builtin "min.loop" ⟨[.ref I,.none,.ref S],[]⟩) R { s0 with heap:=h,toks:=tk0 }:=by
 have farw:S ∉ wr:=fun z=>far (W.sub _ z)
 have nm:(toString "min" ++ toString ".loop" : String) = "min.loop" := by decide
 refine codeAny_builtin F.entry_min_loop (by
  rw [Around.under_plainId (F.plain_min_loop) _]
  show wpAny _ (A.in1) (seqItems? (.ref S) >>= _) _ _ _
  refine wpAny_bind (wpAny_seqItems eS rfl ?_)
  show wpAny _ (A.in1) (tryCatch (pyNext (.ref I)) _ >>= _) _ _ _
  refine wpAny_bind (wpAny_tryCatch (W.item 0 _ _ _ some1 hst fun v h' tk hv st' kk=>?_))
  have eS':=kk S _ farw eS
  show wpAny _ (A.in1) (updateSeq S (fun _=>#[v,v]) >>= _) _ _ _
  refine wpAny_bind (wpAny_updateSeq eS' rfl ?_)
  rw [nm]
  exact wpAny_pure ⟨plainId_quiet F.plain_min_loop _,min_turns W far cmp _ 0 _ _ v _ rfl some1 (W.frame _ _ _ st' fun b hb o q=>(Heap.get?_update_other _ _ (fun z:S = b=>far (by rw [z]; exact hb))).trans q) hv (Heap.get?_update_self _ eS' rfl)
   (fun b o q1 q2 q3=>(Heap.get?_update_other _ _ (Ne.symm q2)).trans (kk b o q1 (kb b o q1 q2 q3))) hR⟩)
theorem min_listH {l:Addr} {its:Array Value} {bt:Nat→Nat→Bool} {Q:Value→Shared→Prop} (hh:A.handled = none) (hl:s.heap.IsList l its) (hz:0 < its.size)
  (cmp:∀ i j u v (h:Heap) (tk:Nat) (Q:Value→Shared→Prop) (E:Value→Shared→Prop),(∀ b o,s.heap.get? b = some o→h.get? b = some o)→its[i]? = some u→its[j]? = some v→Q (.bool (bt i j)) { s with heap:=h,toks:=tk }→wpAny (model M w) A.in1 (richCompare .Lt u v) Q E { s with heap:=h,toks:=tk })
  (q:∀ v h' tk,its[argBest bt (its.size - 1)]? = some v→(∀ b o,s.heap.get? b = some o→h'.get? b = some o)→Q v { s with heap:=h',toks:=tk }) :
  wpAny (model M w) A (call (.builtin "min") [.ref l]) Q E s:=by
 have nm:(toString "min" ++ toString ".loop" : String) = "min.loop" := by decide
 have lz:l < s.heap.objs.size:=by obtain ⟨_,e,_⟩:=hl; exact Heap.lt_size e
 refine call_function_tree F.kind_min F.plain_min F.entry_min (F.args_min1 _) (by
  show wpAny _ (A.in1) (Builtin.Builtins.bindParams "min" ["key", "default"] 0 ⟨[],[]⟩ >>= _) _ _ _
  refine wpAny_bind (wpAny_of_eq (show Builtin.Builtins.bindParams "min" ["key", "default"] 0 ⟨[],[]⟩ = pure [none,none] from rfl) (wpAny_bind (wpAny_pure ?_)))
  refine wpAny_bind (wpAny_pyIter_list hl ?_)
  refine wpAny_bind (wpAny_newObj_type (?_))
  rw [nm]
  have W:=Walks.list (prog:=M) (w:=w) (A:=A.in1) hh s.heap.objs.size l (Nat.ne_of_lt lz) its
  have z2:(s.heap.push { cls:=.type "list_iterator", data:=.fields #[.ref l,.int 0 0] }).objs.size = s.heap.objs.size + 1:=Heap.size_push ..
  have keep:∀ h',KeptBut [s.heap.objs.size] (s.heap.push { cls:=.type "list_iterator", data:=.fields #[.ref l,.int 0 0] }).objs.size s.heap h'→∀ b o,s.heap.get? b = some o→h'.get? b = some o:=fun h' k b o e=>by
   have:=Heap.lt_size e
   exact k b o (fun hm=>by simp at hm; exact Nat.lt_irrefl _ (hm ▸ this)) (fun z=>by rw [z2] at z; exact Nat.not_succ_lt_self (z ▸ this)) e
  refine wpAny_pure ⟨plainId_quiet F.plain_min_loop _,min_start (h0:=s.heap) (s0:=s) W (S:=(s.heap.push { cls:=.type "list_iterator", data:=.fields #[.ref l,.int 0 0] }).objs.size) ?_ (fun i j u v h tk Q E kb hu hv hq=>cmp i j u v h tk Q E (keep h kb) hu hv hq) hz ?_ (Heap.get?_push_size _ rfl) (fun b o q1 q2 q3=>?_) (fun v h' tk hv kb=>q v h' tk hv (keep h' kb))⟩
  ·rw [z2]; intro hm
   rcases List.mem_cons.mp hm with z | hm
   ·exact Nat.succ_ne_self _ z
   ·rcases List.mem_cons.mp hm with z | hm
    ·exact Nat.not_succ_lt_self (z ▸ lz)
    ·cases hm
  ·exact ⟨⟨_,Heap.get?_push_of_some _ (Heap.get?_push_size _ rfl),rfl,rfl⟩,(hl.push _).push _⟩
  ·exact Heap.get?_push_of_some _ (Heap.get?_push_of_some _ q3))
end
end PySem
namespace L2
open PySem PySem.Spec PyProof PyProof.Rows PySem.SeqAt
section
variable {X:Cx}
def rMinT (K:PySem.W.Frag):List V→Hp→VK→Prop:=fun xs H Q=>∃ (p:Addr) (vs:List V) (bt:Nat→Nat→Bool) (n:Nat),xs = [.ref p]∧SqL K H p vs∧vs ≠ []∧n ≤ 50∧(∀ (i j:Nat) x y,vs[i]? = some x→vs[j]? = some y→LtN K H n x y (bt i j))∧∀ v,vs[argBest bt (vs.length - 1)]? = some v→Q v H
theorem call_minT (K:PySem.W.Frag) {k:Nat} (hr:Room k X.A) (hK:X.K = K:=by rfl) (hc:X.calm = true:=by rfl):CallR X (.builtin "min") (rMinT K):=by
 subst hK
 intro pins s σ H xs us Q I r h
 obtain ⟨p,vs,bt,n,rfl,hq,hne,hn,hlt,q⟩:=h
 obtain ⟨u,rfl,ru⟩:=vals1 r
 cases ru
 obtain ⟨its,rv,pl,hz⟩:=I.list hq
 have hl:=rv.length
 have h0:0 < vs.length:=List.length_pos_iff.mpr hne
 have hu:X.A.in1.units + n < cLine:=by have:=hr.un; show X.A.units + 1 + n < cLine; omega
 refine min_listH (bt:=bt) (I.ok.hd hc) pl.isList (by simp; omega) (fun i j a b h tk Q' E' hk ha hb hQ=>?_) (fun v h' tk hv hk=>?_)
 ·obtain ⟨x,hx,rx⟩:=rv.of (i:=i) (u:=a) (by simpa using ha)
  obtain ⟨y,hy,ry⟩:=rv.of (i:=j) (u:=b) (by simpa using hb)
  exact LtN.at (I.kept (t':=tk) hk) hu (hlt i j x y hx hy) rx ry _ _ _ _ hQ
 ·have hv':its[argBest bt (vs.length - 1)]? = some v:=by rw [hl]; simpa using hv
  obtain ⟨x,hx,rx⟩:=rv.of (i:=argBest bt (vs.length - 1)) (u:=v) hv'
  exact ⟨x,H,I.kept (t':=tk) hk,rx,q x hx⟩
end
end L2
namespace L2
open PySem PySem.Spec PyProof PyProof.Rows
section
variable {X:Cx}
def tBMT (r:V→List V→Hp→VK→Prop) (to:TE) (t:TA):TE:=fun σ H Q=>to σ H fun x H1=>∃ p xs,x = .ref p∧H1 p = some (.tup xs)∧t σ H1 fun ys H2=>r x ys H2 Q
theorem tBMT_at {σ : St} {H:Hp} {Q:VK} (r:V→List V→Hp→VK→Prop) (to:TE) (t:TA):tBMT r to t σ H Q = to σ H fun x H1=>∃ p xs,x = .ref p∧H1 p = some (.tup xs)∧t σ H1 fun ys H2=>r x ys H2 Q:=rfl
theorem pe_bmT {o e:Expr} {es:List Expr} {to:TE} {t:TA} {name:Str} {apos cpos:Pos} {id:String} {r:V→List V→Hp→VK→Prop} (pa:PlainAttrs "tuple") (slot:Slot "tuple" name id) (hty:typeOf (.builtin id) = pure (.type "method_descriptor")) (hm:MtR X id r) (ho:PE X o to) (ha:PA X (e :: es) t)
  (hbase:attributeBase o name X.env (eval o X.env) = eval o X.env:=by rfl)
  (hfew:((backTo cpos (starEach (e :: es) X.env)).all (fun x=>!x.1) && (backToKw cpos (keywordEach [] X.env)).all (fun x=>x.1.isSome) && decide ((e :: es).length + ([]:List Keyword).length + (if ([]:List Keyword).isEmpty then 0 else 1) < 30)) = true:=by rfl)
  (hline:(apos.endLine == cpos.line) = true:=by rfl) (hs:starEach (e :: es) X.env = (false,eval e X.env) :: starEach es X.env:=by rfl) (hplain:(backTo cpos (starEach es X.env)).any (·.1) = false:=by rfl) :
  PE X (.Call (.Attribute o name apos) (e :: es) [] cpos) (tBMT r to t):=by
 intro pins s σ H Q I h
 refine wpAny_Call_method_late hbase hfew hline rfl (thn (ho pins s σ H _ I h) fun v s1 ⟨x,H1,I1,r1,p,xs,ex,hp,q1⟩=>?_)
 subst ex
 cases r1
 obtain ⟨_,its,_,ob,e1,e2,e3,_⟩ : xs.length ≤ sizeLine∧∃ its:List Value,Vals xs its∧IsTupN s1.heap p its.toArray:=I1.hok p _ hp
 refine ⟨"tuple", id,pa,slot,hty,⟨ob,e1,e2⟩,fun a ea=>?_,?_⟩
 ·cases ea; exact ⟨ob,e1,e3⟩
 have hA:=ha cpos pins s1 σ H1 _ I1 q1
 rw [hs] at hA ⊢
 refine Calls.callWith_builtin (by show (false || (backTo cpos (starEach es X.env)).any (·.1)) = false; rw [hplain] <;> rfl) (Calls.evalArgs_plain ?_)
 exact thn hA fun us s2 ⟨vs,H2,I2,r2,q2⟩=>hm pins s2 σ H2 (.ref p) vs (.ref p) us Q I2 rfl r2 q2
end
end L2
namespace L2
open PySem PySem.Spec PyProof.Rows
abbrev SNI:=Sum Str (List (Option Int))
def IsSNI (prog:Program) (w:World) (h:Heap):SNI→Value→Prop
 | .inl u,v=>∃ t,v = Value.str u t
 | .inr l,v=>IsTupK (optK prog w) h l v
theorem sn_ll (i j:Str):decide (i = j) = decide ((Sum.inl i:SNI) = Sum.inl j):=by
 by_cases z:i = j
 ·subst z; simp
 ·have z':¬ ((Sum.inl i:SNI) = Sum.inl j):=fun q=>z (Sum.inl.inj q)
  rw [decide_eq_false z',decide_eq_false z]
theorem sn_rr (l l':List (Option Int)):decide (l = l') = decide ((Sum.inr l:SNI) = Sum.inr l'):=by
 by_cases z:l = l'
 ·subst z; simp
 ·have z':¬ ((Sum.inr l:SNI) = Sum.inr l'):=fun q=>z (Sum.inr.inj q)
  rw [decide_eq_false z',decide_eq_false z]
theorem sn_lr (i:Str) (l:List (Option Int)):decide ((Sum.inl i:SNI) = Sum.inr l) = false:=decide_eq_false (fun q=>nomatch q)
theorem sn_rl (i:Str) (l:List (Option Int)):decide ((Sum.inr l:SNI) = Sum.inl i) = false:=decide_eq_false (fun q=>nomatch q)
theorem sn_eq {prog:Program} {w:World} {A:Around} {E:Value→Shared→Prop} {s:Shared} {u v:Value} {Q:Bool→Shared→Prop} (hu:A.units + 1 < cLine):∀ (x y:SNI),IsSNI prog w s.heap x u→IsSNI prog w s.heap y v→Q (decide (x = y)) s→
  wpAny (model prog w) A (PySem.eqBool u v) Q E s
 | .inl i,.inl j,⟨t,e1⟩,⟨t',e2⟩,h=>by
  subst e1 e2
  rw [← sn_ll] at h
  exact wpAny_eqBool_str h
 | .inl i,.inr l,⟨t,e1⟩,hy,h=>by
  subst e1
  obtain ⟨b,its,rfl,ht⟩:=IsTupK.tup (K:=optK prog w) hy
  rw [sn_lr] at h
  exact SeqAt.EqAt.str_tuple i t ht (Nat.lt_of_succ_lt hu) prog w E Q h
 | .inr l,.inl j,hx,⟨t,e1⟩,h=>by
  subst e1
  obtain ⟨b,its,rfl,ht⟩:=IsTupK.tup (K:=optK prog w) hx
  rw [sn_rl] at h
  exact SeqAt.EqAt.tuple_str j t ht (Nat.lt_of_succ_lt hu) prog w E Q h
 | .inr l,.inr l',hx,hy,h=>by
  rw [← sn_rr] at h
  exact eq_tupK (K:=optK prog w) (ni_room hu) hx hy h
def sniK (prog:Program) (w:World):IK prog w SNI where
 is:=IsSNI prog w
 hash:=fun k=>match k with
  | .inl u=>hashStr w u
  | .inr l=>tupH (optK prog w) l
 draws:=fun k=>match k with
  | .inl _=>1
  | .inr l=>sumD (optK prog w) l + 1
 deep:=1
 inj:=fun {h v x y} a b=>by
  cases x with
  | inl i=>
   obtain ⟨t,rfl⟩:=(show ∃ t,v = Value.str i t from a)
   cases y with
   | inl j=>obtain ⟨t',e⟩:=(show ∃ t',Value.str i t = Value.str j t' from b); injection e with e1 _; rw [e1]
   | inr l=>obtain ⟨a,_,e,_⟩:=IsTupK.tup (show IsTupK (optK prog w) h l _ from b); cases e
  | inr l=>
   cases y with
   | inl j=>
    obtain ⟨t,rfl⟩:=(show ∃ t,v = Value.str j t from b)
    obtain ⟨a,_,e,_⟩:=IsTupK.tup (show IsTupK (optK prog w) h l _ from a); cases e
   | inr l'=>rw [(tupK (optK prog w)).inj (show IsTupK (optK prog w) h l v from a) (show IsTupK (optK prog w) h l' v from b)]
 keeps:=fun {h h' k v d o es ep} a ho hd hs=>by
  cases k with
  | inl i=>exact a
  | inr l=>exact (tupK (optK prog w)).keeps (show IsTupK (optK prog w) h l v from a) ho hd hs
 pyHash:=fun {A E s k v Q} hu hk h=>by
  cases k with
  | inl i=>
   obtain ⟨t,rfl⟩:=(show ∃ t,v = Value.str i t from hk)
   exact wpAny_pyHash_str h
  | inr l=>exact hash_tupK (K:=optK prog w) (ni_room hu) hk h
 eqBool:=fun {A E s x y u v Q} hu hx hy h=>sn_eq hu x y hx hy h
 quiet:=fun {A E s k v n Q} hk h=>by
  cases k with
  | inl i=>
   obtain ⟨t,rfl⟩:=(show ∃ t,v = Value.str i t from hk)
   rw [eqIsQuiet_byValue _ rfl]
   exact wpAny_pure h
  | inr l=>exact quiet_tupK (K:=optK prog w) hk h
abbrev SKey:=Str × List (Option Int)
def sk (k:SKey):List SNI:=[.inl k.1,.inr k.2]
theorem sk_inj {k k':SKey} (h:sk k = sk k'):k = k':=by
 obtain ⟨a,b⟩:=k
 obtain ⟨c,d⟩:=k'
 unfold sk at h
 simp at h
 rw [h.1,h.2]
def MS (P:Program) (w:World):HeapKind P w (List SNI):=heapK (sniK P w) (show 1 ≤ 7 by decide)
def SDict (P:Program) (w:World) (a:Addr) (xs:List (List SNI × Addr × Value)):HO:=
 .ext fun h=>∃ o es ep,h.get? a = some o∧o.ExactDict∧o.data = .dict es ep∧es.toList = xs.map (entryOfKey (MS P w))∧(xs.map (·.1)).Nodup
def KeyS (H:Hp) (k:SKey) (b:Addr):Prop:=∃ t,H b = some (.tup [.str k.1,.ref t])∧H t = some (.tup (k.2.map optV))
def SRow (H:Hp) (p:SKey × V) (q:List SNI × Addr × Value):Prop:=q.1 = sk p.1∧KeyS H p.1 q.2.1∧RelV p.2 q.2.2
def DS (P:Program) (w:World) (H:Hp) (a:Addr) (kvs:List (SKey × V)):Prop:=
 ∃ xs,H a = some (SDict P w a xs)∧(a == sysModules) = false∧xs.length ≤ sizeLine∧Paired (SRow H) kvs xs
theorem KeyS.mono {H H':Hp} {k:SKey} {b:Addr} (h:KeyS H k b) (sm:∀ c xs,H c = some (.tup xs)→H' c = some (.tup xs)):KeyS H' k b:=by
 obtain ⟨t,h1,h2⟩:=h
 exact ⟨t,sm _ _ h1,sm _ _ h2⟩
theorem DS.mono {P:Program} {w:World} {H H':Hp} {a:Addr} {kvs:List (SKey × V)} (h:DS P w H a kvs) (sm:Same H H'):DS P w H' a kvs:=by
 obtain ⟨xs,h1,h2,h3,h4⟩:=h
 exact ⟨xs,sm _ _ h1,h2,h3,Paired.imp' (fun p q z=>⟨z.1,z.2.1.mono fun c ys e=>sm _ _ e,z.2.2⟩) h4⟩
theorem DS.ne {P:Program} {w:World} {H:Hp} {a b:Addr} {kvs:List (SKey × V)} {xs:List V} (h:DS P w H a kvs) (e:H b = some (.lst xs)∨H b = some (.tup xs)):b ≠ a:=by
 obtain ⟨ys,h1,_⟩:=h
 rcases e with e | e
 ·exact ne_of e h1 (fun z=>nomatch z)
 ·exact ne_of e h1 (fun z=>nomatch z)
section
variable {P:Program} {w:World} {H:Hp}
theorem SRow.val:∀ {kvs:List (SKey × V)} {xs:List (List SNI × Addr × Value)} (k:SKey),Paired (SRow H) kvs xs→RelO (valV kvs k) ((atKey xs (sk k)).map (·.2))
 | _,_,k,.nil=>True.intro
 | _,_,k,@Paired.cons _ _ _ p q kvs xs r t=>by
  have ih:=SRow.val k t
  obtain ⟨e1,e2,e3⟩:=r
  by_cases h:p.1 = k
  ·have h1:valV (p :: kvs) k = some p.2:=by simp [valV,h]
   have h2:atKey (q :: xs) (sk k) = some q.2:=by simp [atKey,e1,h]
   rw [h1,h2]; exact e3
  ·have hn:¬ q.1 = sk k:=fun z=>h (sk_inj (e1.symm.trans z))
   have h1:valV (p :: kvs) k = valV kvs k:=by simp [valV,h]
   have h2:atKey (q :: xs) (sk k) = atKey xs (sk k):=by simp [atKey,hn]
   rw [h1,h2]; exact ih
theorem SRow.put {k:SKey} {v:V} {u:Value} (rv:RelV v u):∀ {kvs:List (SKey × V)} {xs:List (List SNI × Addr × Value)},Paired (SRow H) kvs xs→Paired (SRow H) (kvs.map fun kv=>if kv.1 = k then (kv.1,v) else kv) (xs.map (putAt (sk k) u))
 | _,_,.nil=>.nil
 | _,_,@Paired.cons _ _ _ p q kvs xs r t=>by
  rw [List.map_cons,List.map_cons]
  refine .cons ?_ (SRow.put rv t)
  obtain ⟨e1,e2,e3⟩:=r
  unfold putAt
  by_cases h:p.1 = k
  ·rw [if_pos h,if_pos (by rw [e1,h])]; exact ⟨e1,e2,rv⟩
  ·rw [if_neg h,if_neg (fun z=>h (sk_inj (e1.symm.trans z)))]; exact ⟨e1,e2,e3⟩
end
section
variable {X:Cx} {pins:List (Addr × Obj)} {σ : St} {H:Hp} {s:Shared} {a b:Addr} {k:SKey} {kvs:List (SKey × V)}
theorem Inv.keyS (I:Inv X pins σ H s) (h:KeyS H k b):(MS X.prog X.w).is s.heap (sk k) b:=by
 obtain ⟨t,h1,h2⟩:=h
 obtain ⟨_,its,r,o,e,c,n,d⟩ : ([V.str k.1,V.ref t]:List V).length ≤ sizeLine∧∃ its:List Value,Vals [V.str k.1,V.ref t] its∧IsTup s.heap b its.toArray:=by obtain ⟨z,its,r,p⟩:=I.hok b _ h1; exact ⟨z,its,r,p.tup⟩
 obtain ⟨_,its2,r2,o2,e2,c2,n2,d2⟩ : (k.2.map optV).length ≤ sizeLine∧∃ its:List Value,Vals (k.2.map optV) its∧IsTup s.heap t its.toArray:=by obtain ⟨z,its,r,p⟩:=I.hok t _ h2; exact ⟨z,its,r,p.tup⟩
 obtain ⟨u,v,rfl,ru,rv⟩:=vals2 r
 cases rv
 refine ⟨b,o,_,n,rfl,e,c,d,?_⟩
 show IsItems (sniK X.prog X.w) s.heap [.inl k.1,.inr k.2] [u,.ref t]
 exact .cons ru (.cons ⟨t,o2,_,n2,rfl,e2,c2,d2,by simpa using items_of_vals r2⟩ .nil)
theorem Inv.dS (I:Inv X pins σ H s) (h:DS X.prog X.w H a kvs):∃ xs,H a = some (SDict X.prog X.w a xs)∧(a == sysModules) = false∧xs.length ≤ sizeLine∧Paired (SRow H) kvs xs∧s.heap.DictOfH (MS X.prog X.w) a xs:=by
 obtain ⟨xs,h1,h2,h3,h4⟩:=h
 obtain ⟨⟨o,es,ep,e1,e2,e3,e4,e5⟩,_,_⟩:=I.hok a _ h1
 refine ⟨xs,h1,h2,h3,h4,o,es,ep,e1,e2,e3,e4,?_,e5⟩
 have all:∀ {l:List (SKey × V)} {m:List (List SNI × Addr × Value)},Paired (SRow H) l m→∀ x ∈ m,(MS X.prog X.w).is s.heap x.1 x.2.1:=by
  intro l m r
  induction r with
  | nil=>intro x hx; simp at hx
  | cons r t ih=>
   intro x hx
   rcases List.mem_cons.mp hx with rfl | hx
   ·rw [r.1]; exact I.keyS r.2.1
   ·exact ih x hx
 exact all h4
theorem sdict_ok {P:Program} {w:World} {H':Hp} {h':Heap} {xs:List (List SNI × Addr × Value)} (m:h'.DictOfH (MS P w) a xs):ObjOk P w H' h' a (SDict P w a xs):=by
 obtain ⟨o,es,ep,e1,e2,e3,e4,_,e5⟩:=m
 exact ⟨⟨o,es,ep,e1,e2,e3,e4,e5⟩,⟨o,e1⟩,fun h1 h2 ⟨o,es,ep,q1,q⟩ z=>⟨o,es,ep,z _ q1,q⟩⟩
def rSetS (P:Program) (w:World):TSet:=fun o i v H Q=>∃ a b k kvs,o = .ref a∧i = .ref b∧DS P w H a kvs∧KeyS H k b∧kvs.length < sizeLine∧∀ u,DS P w (upd H a u) a (putK kvs k v)→Q (upd H a u)
theorem set_S {n:Nat} (hr:Room n X.A):PSet X (rSetS X.prog X.w):=by
 intro pins s σ H o i v ov iv u Q I ro ri rv h
 obtain ⟨a,b,k,kvs,rfl,rfl,hd,hk,hl,q⟩:=h
 cases ro
 cases ri
 obtain ⟨xs,h1,h2,h3,h4,m⟩:=I.dS hd
 refine wpAny_setItem_heap (hsz:=h3) (show (MS X.prog X.w).room X.A.in1 from by show X.A.units + 1 + 2 < cLine; have:=hr.un; omega) (I.keyS hk) m fun h' m' hs=>?_
 have e:=SRow.val k h4
 have keep:∀ xs',∀ c ys,H c = some (.tup ys)→upd H a (SDict X.prog X.w a xs') c = some (.tup ys):=fun xs' c ys e=>by
  rw [upd_ne (ne_of e h1 (fun z=>nomatch z))]; exact e
 cases hq:atKey xs (sk k) with
 | none=>
  have hv:valV kvs k = none:=by
   rw [hq] at e
   cases hv:valV kvs k with
   | none=>rfl
   | some z=>rw [hv] at e; exact e.elim
  rw [storedH_new hq] at m'
  refine ⟨upd H a (SDict X.prog X.w a (xs ++ [(sk k,b,u)])),d_write I (by rw [h1]; exact True.intro) hs (let ⟨o,_,_,e,_⟩:=m'; ⟨o,e⟩) (sdict_ok m'),q _ ⟨_,upd_same,h2,?_,?_⟩⟩
  ·rw [List.length_append,← Paired.length h4]
   show kvs.length + 1 ≤ sizeLine
   omega
  ·unfold putK
   rw [valV_any,hv,if_neg (by simp)]
   exact Paired.snoc ⟨rfl,hk.mono (keep _),rv⟩ (Paired.imp' (fun p q z=>⟨z.1,z.2.1.mono (keep _),z.2.2⟩) h4)
 | some p=>
  have hv:(valV kvs k).isSome = true:=by
   rw [hq] at e
   cases hv:valV kvs k with
   | none=>rw [hv] at e; exact e.elim
   | some z=>rfl
  rw [storedH_old hq] at m'
  refine ⟨upd H a (SDict X.prog X.w a (xs.map (putAt (sk k) u))),d_write I (by rw [h1]; exact True.intro) hs (let ⟨o,_,_,e,_⟩:=m'; ⟨o,e⟩) (sdict_ok m'),q _ ⟨_,upd_same,h2,by rw [List.length_map]; exact h3,?_⟩⟩
  unfold putK
  rw [valV_any,hv,if_pos rfl]
  exact Paired.imp' (fun p q z=>⟨z.1,z.2.1.mono (keep _),z.2.2⟩) (SRow.put rv h4)
def tDNewS (P:Program) (w:World):TE:=fun _ H Q=>∀ p,H p = none→∀ u,DS P w (upd H p u) p []→Q (.ref p) (upd H p u)
theorem pe_dnewS {pos:Pos}:PE X (.Dict [] [] pos) (tDNewS X.prog X.w):=fun pins s σ H Q I h=>by
 have hm:(s.heap.push { cls:=.type "dict", data:=.dict #[] }).DictOfH (MS X.prog X.w) s.heap.objs.size []:=⟨_,#[],0,Heap.get?_push_size _ rfl,⟨rfl,rfl,rfl⟩,rfl,rfl,(fun x hx=>by simp at hx),List.nodup_nil⟩
 exact wpAny_Dict_empty ⟨.ref s.heap.objs.size,_,I.laid (a:=s.heap.objs.size) (o:=SDict X.prog X.w s.heap.objs.size []) (t':=s.toks) (fun _ _ q=>Heap.get?_push_of_some _ q) (Nat.le_refl _) (sdict_ok hm),rfl,
  h _ (I.hok.fresh (Nat.le_refl _)) _ ⟨[],upd_same,beq_eq_false_iff_ne.mpr (Ne.symm (Nat.ne_of_lt I.big)),Nat.zero_le _,.nil⟩⟩
def tDGetS (P:Program) (w:World) (td ty tx:TE):TE:=fun σ H Q=>td σ H fun x H1=>∃ a kvs,x = .ref a∧DS P w H1 a kvs∧ty σ H1 fun y H2=>tx σ H2 fun z H3=>∃ b k kvs',y = .ref b∧DS P w H3 a kvs'∧KeyS H3 k b∧Q ((valV kvs' k).getD z) H3
theorem pe_getS {n:Nat} (hr:Room n X.A) {o e f:Expr} {td ty tx:TE} {apos cpos:Pos} (ho:PE X o td) (he:PE X e ty) (hf:PE X f tx) (m:M2 X o "get" apos e f cpos):PE X (.Call (.Attribute o "get" apos) [e,f] [] cpos) (tDGetS X.prog X.w td ty tx):=by
 intro pins s σ H Q I h
 refine wpAny_Call_method m.base m.few m.line PySem.F.plainAttrs_dict PySem.F.slot_dict_get PySem.F.type_dict_get (thn (ho pins s σ H _ I h) fun u s1 ⟨x,H1,I1,rx,a,kvs,ex,d,q1⟩=>?_)
 subst ex
 obtain rfl:u = Value.ref a:=rx
 obtain ⟨xs,h1,h2,h3,h4,mm⟩:=I1.dS d
 refine ⟨mm.typeIs,fun b q=>?_,?_⟩
 ·cases q
  obtain ⟨ob,_,_,g1,g2,_⟩:=mm
  exact ⟨ob,g1,g2.2.1⟩
 rw [m.trees]
 refine Calls.callWith_builtin rfl (Calls.evalArgs_plain (Calls.spliced_cons (thn (he pins s1 σ H1 _ I1 q1) fun iv s2 ⟨y,H2,I2,ry,q2⟩=>
  Calls.spliced_cons (thn (hf pins s2 σ H2 _ I2 q2) fun fv s3 ⟨z,H3,I3,rz,b,k,kvs',ey,d2,kk,q3⟩=>Calls.spliced_nil ?_))))
 subst ey
 obtain rfl:iv = Value.ref b:=ry
 obtain ⟨xs2,g1,g2,g3,g4,m2⟩:=I3.dS d2
 refine call_meetsIn PySem.F.slot_dict_get m2.typeIs PySem.F.entry_dict_get (PySem.F.args_dict_get_3 _ _ _) (meetsH_dict_get_default (MS X.prog X.w) a b g2 fv) ⟨by show X.A.units + 1 + 2 < cLine; have:=hr.un; omega,sk k,xs2,I3.keyS kk,m2,?_⟩
 exact ⟨_,H3,I3.tok _,(SRow.val k g4).getD (d:=z) rz,q3⟩
end
end L2
section
open PySem PySem.Spec PyProof.Rows L2
seal L2.PE L2.PT L2.PW L2.PA L2.PS L2.PSs L2.PG L2.PGs L2.PSet L2.PI L2.PIfs L2.OpR L2.UnR L2.CallR L2.IxR L2.MtR L2.SlR L2.PO L2.PPs
local macro_rules | `(tactic| walk_at "rd1")=>`(tactic| try simp only [tSeq_at,tDisp_at,tPairs_nil,tPairs_cons,tNext_at,tCont_at,tIfS_at,tRet_at,tRetN_at,tDrop_at,tAsg_at,gName_at,gNil_at,gCons_at,gTup_at,gSub_at,tVar_at,tC_at,tOp_at,tTest_at,tB_at,tAnd_at,tOr_at,tNot_at,tAndV_at,tNotV_at,tIf_at,tCB_at,tCons_at,tNil_at,tTup_at,tLst_at,tCall_at,tBM_at,tBM0_at,tFldC_at,sFldC_at,tMethC_at,tMakeC_at,tDGet2_at,tSl_at,tPart_at,tNoPart_at,tComp_at,tYes_at,iEnum_at,ex_ref1,compT_at,tFmt_at,tFstr_at,tjNil_at,tjCons_at,fmtV_str,fmtV_int,iList_at,iRng1_at,tFor_at,compK_at,rI0_at,rI_at,rAddA_int,rAddA_str,rAddA_ref,rMulB_int,rMulB_str,rIsN_at,rNotN_at,rInt1_bl,rListOf_at,rSlL_at,rEqD_at,rSortS_at,rIndexS_at,rLtA_int,rLtA_str,rInA_str,rInA_ref,rLenA_str,rLenA_ref,rIxA_ref,rIxA_str,rAppend_at,rIsT_at,rExtend_at,iTup_at,rEqA_int,rEqA_str,rNeA_int,rNeA_str,tyV_str,tyV_lst,L2.start,List.map_cons,List.map_nil,List.length_cons,List.length_nil,List.replicate,List.cons_append,List.nil_append,List.append_nil,List.getElem?_cons_zero,List.getElem?_cons_succ,List.set_cons_zero,List.set_cons_succ,Nat.reduceAdd,Nat.reduceSub,Option.some.injEq,exists_eq_left',exists_eq_left,V.int.injEq,V.ref.injEq,V.str.injEq,V.bl.injEq,ex_one,ex_cons,and_true,true_and,decide_eq_true_eq,Bool.not_true,Bool.not_false,if_true,Bool.false_eq_true,if_false,ite_true,ite_false])
local macro_rules | `(tactic| walk_at "nx")=>`(tactic| ((first | rw [rest_at] | (dsimp only; rw [rest_at])); walk_at "rd1"))
local macro_rules | `(tactic| walk_at "lk")=>`(tactic| repeat (first | exact lk_hit | exact lk_nil | rw [lk_miss (by decide +kernel)]))
local macro_rules | `(tactic| walk_at "pf")=>`(tactic| repeat (first | rw [putF_hit] | rw [putF_nil] | rw [putF_miss (by decide +kernel)]))
namespace K42
open PySem L2
abbrev s_sided_text:Stmt:=top 1
theorem sc_sided_text:FnScope ["side", "word"] ["side", "word"] (defScope s_sided_text):=⟨rfl,rfl,rfl,by decide +kernel,rfl,by decide +kernel,by decide +kernel⟩
theorem vz0:Vis (defScope s_sided_text) "side" := Or.inl (by decide +kernel)
theorem vz1:Vis (defScope s_sided_text) "word" := Or.inl (by decide +kernel)
abbrev s_text_in_row:Stmt:=top 2
theorem sc_text_in_row:FnScope ["handles", "handle", "word"] ["handles", "handle", "word"] (defScope s_text_in_row):=⟨rfl,rfl,rfl,by decide +kernel,rfl,by decide +kernel,by decide +kernel⟩
theorem vz2:Vis (defScope s_text_in_row) "handles" := Or.inl (by decide +kernel)
theorem vz3:Vis (defScope s_text_in_row) "handle" := Or.inl (by decide +kernel)
theorem vz4:Vis (defScope s_text_in_row) "word" := Or.inl (by decide +kernel)
theorem gz0:(defScope s_text_in_row).names.lookup ("len" : Str) = some .globalImplicit:=by decide +kernel
theorem gz1:(defScope s_text_in_row).names.lookup ("sided_text" : Str) = some .globalImplicit:=by decide +kernel
abbrev s_row_of:Stmt:=top 3
theorem sc_row_of:FnScope ["entries", "handles", "deeds"] ["entries", "handles"] (defScope s_row_of):=⟨rfl,rfl,rfl,by decide +kernel,rfl,by decide +kernel,by decide +kernel⟩
theorem vz5:Vis (defScope s_row_of) "entries" := Or.inl (by decide +kernel)
theorem vz6:Vis (defScope s_row_of) "deeds" := Or.inl (by decide +kernel)
theorem kz0:(defScope s_row_of).names.lookup ("deeds" : Str) = some .local:=by decide +kernel
abbrev s_starts_behind:Stmt:=top 4
theorem sc_starts_behind:FnScope ["starts", "ways", "behind", "room", "start", "way"] ["starts", "ways"] (defScope s_starts_behind):=⟨rfl,rfl,rfl,by decide +kernel,rfl,by decide +kernel,by decide +kernel⟩
theorem vz7:Vis (defScope s_starts_behind) "starts" := Or.inl (by decide +kernel)
theorem vz8:Vis (defScope s_starts_behind) "ways" := Or.inl (by decide +kernel)
theorem vz9:Vis (defScope s_starts_behind) "behind" := Or.inl (by decide +kernel)
theorem lz0:Loc (defScope s_starts_behind) "behind" := Or.inl (by decide +kernel)
theorem vza:Vis (defScope s_starts_behind) "room" := Or.inl (by decide +kernel)
theorem lz1:Loc (defScope s_starts_behind) "room" := Or.inl (by decide +kernel)
theorem vzb:Vis (defScope s_starts_behind) "start" := Or.inl (by decide +kernel)
theorem lz2:Loc (defScope s_starts_behind) "start" := Or.inl (by decide +kernel)
theorem vzc:Vis (defScope s_starts_behind) "way" := Or.inl (by decide +kernel)
theorem lz3:Loc (defScope s_starts_behind) "way" := Or.inl (by decide +kernel)
abbrev s_Watch___init__:Stmt:=inClass (top 5) 0
theorem sc_Watch___init__:FnScope ["self", "rule", "blames", "column", "place", "word"] ["self", "rule", "blames", "column"] (defScope s_Watch___init__):=⟨rfl,rfl,rfl,by decide +kernel,rfl,by decide +kernel,by decide +kernel⟩
theorem vzd:Vis (defScope s_Watch___init__) "self" := Or.inl (by decide +kernel)
theorem vze:Vis (defScope s_Watch___init__) "rule" := Or.inl (by decide +kernel)
theorem vzf:Vis (defScope s_Watch___init__) "blames" := Or.inl (by decide +kernel)
theorem vzg:Vis (defScope s_Watch___init__) "column" := Or.inl (by decide +kernel)
theorem lz4:Loc (defScope s_Watch___init__) "place" := Or.inr (by decide +kernel)
theorem vzh:Vis (defScope s_Watch___init__) "word" := Or.inl (by decide +kernel)
theorem lz5:Loc (defScope s_Watch___init__) "word" := Or.inl (by decide +kernel)
theorem gz2:(defScope s_Watch___init__).names.lookup ("enumerate" : Str) = some .globalImplicit:=by decide +kernel
abbrev s_Watch_mark_at:Stmt:=inClass (top 5) 1
theorem sc_Watch_mark_at:FnScope ["self", "at"] ["self", "at"] (defScope s_Watch_mark_at):=⟨rfl,rfl,rfl,by decide +kernel,rfl,by decide +kernel,by decide +kernel⟩
theorem vzi:Vis (defScope s_Watch_mark_at) "self" := Or.inl (by decide +kernel)
theorem vzj:Vis (defScope s_Watch_mark_at) "at" := Or.inl (by decide +kernel)
abbrev s_Watch_begin_tie:Stmt:=inClass (top 5) 2
theorem sc_Watch_begin_tie:FnScope ["self", "one", "other", "start", "tied"] ["self", "one", "other", "start"] (defScope s_Watch_begin_tie):=⟨rfl,rfl,rfl,by decide +kernel,rfl,by decide +kernel,by decide +kernel⟩
theorem vzk:Vis (defScope s_Watch_begin_tie) "self" := Or.inl (by decide +kernel)
theorem vzl:Vis (defScope s_Watch_begin_tie) "one" := Or.inl (by decide +kernel)
theorem vzm:Vis (defScope s_Watch_begin_tie) "other" := Or.inl (by decide +kernel)
theorem vzn:Vis (defScope s_Watch_begin_tie) "start" := Or.inl (by decide +kernel)
theorem vzo:Vis (defScope s_Watch_begin_tie) "tied" := Or.inl (by decide +kernel)
theorem lz6:Loc (defScope s_Watch_begin_tie) "tied" := Or.inl (by decide +kernel)
abbrev s_Watch_handles_with:Stmt:=inClass (top 5) 3
theorem sc_Watch_handles_with:FnScope ["self", "handle", "side"] ["self", "handle", "side"] (defScope s_Watch_handles_with):=⟨rfl,rfl,rfl,by decide +kernel,rfl,by decide +kernel,by decide +kernel⟩
theorem vzp:Vis (defScope s_Watch_handles_with) "self" := Or.inl (by decide +kernel)
theorem vzq:Vis (defScope s_Watch_handles_with) "handle" := Or.inl (by decide +kernel)
theorem vzr:Vis (defScope s_Watch_handles_with) "side" := Or.inl (by decide +kernel)
abbrev s_Watch_rows_with:Stmt:=inClass (top 5) 4
theorem sc_Watch_rows_with:FnScope ["self", "handle", "word", "rows", "side", "text"] ["self", "handle", "word"] (defScope s_Watch_rows_with):=⟨rfl,rfl,rfl,by decide +kernel,rfl,by decide +kernel,by decide +kernel⟩
theorem vzs:Vis (defScope s_Watch_rows_with) "self" := Or.inl (by decide +kernel)
theorem vzt:Vis (defScope s_Watch_rows_with) "handle" := Or.inl (by decide +kernel)
theorem vzu:Vis (defScope s_Watch_rows_with) "word" := Or.inl (by decide +kernel)
theorem vzv:Vis (defScope s_Watch_rows_with) "rows" := Or.inl (by decide +kernel)
theorem lz7:Loc (defScope s_Watch_rows_with) "rows" := Or.inl (by decide +kernel)
theorem vzw:Vis (defScope s_Watch_rows_with) "side" := Or.inl (by decide +kernel)
theorem lz8:Loc (defScope s_Watch_rows_with) "side" := Or.inl (by decide +kernel)
theorem vzx:Vis (defScope s_Watch_rows_with) "text" := Or.inr (Or.inl (by decide +kernel))
theorem lz9:Loc (defScope s_Watch_rows_with) "text" := Or.inr (by decide +kernel)
theorem gz3:(defScope s_Watch_rows_with).names.lookup ("sided_text" : Str) = some .globalImplicit:=by decide +kernel
abbrev s_Watch_starts_of:Stmt:=inClass (top 5) 5
theorem sc_Watch_starts_of:FnScope ["self", "handles"] ["self", "handles"] (defScope s_Watch_starts_of):=⟨rfl,rfl,rfl,by decide +kernel,rfl,by decide +kernel,by decide +kernel⟩
theorem vzy:Vis (defScope s_Watch_starts_of) "self" := Or.inl (by decide +kernel)
theorem vzz:Vis (defScope s_Watch_starts_of) "handles" := Or.inl (by decide +kernel)
abbrev s_Watch_broken_by:Stmt:=inClass (top 5) 6
theorem sc_Watch_broken_by:FnScope ["self", "handle", "word", "broken", "handles", "text", "room", "start"] ["self", "handle", "word"] (defScope s_Watch_broken_by):=⟨rfl,rfl,rfl,by decide +kernel,rfl,by decide +kernel,by decide +kernel⟩
theorem vz10:Vis (defScope s_Watch_broken_by) "self" := Or.inl (by decide +kernel)
theorem vz11:Vis (defScope s_Watch_broken_by) "handle" := Or.inl (by decide +kernel)
theorem vz12:Vis (defScope s_Watch_broken_by) "word" := Or.inl (by decide +kernel)
theorem vz13:Vis (defScope s_Watch_broken_by) "broken" := Or.inl (by decide +kernel)
theorem lza:Loc (defScope s_Watch_broken_by) "broken" := Or.inl (by decide +kernel)
theorem vz14:Vis (defScope s_Watch_broken_by) "handles" := Or.inl (by decide +kernel)
theorem lzb:Loc (defScope s_Watch_broken_by) "handles" := Or.inl (by decide +kernel)
theorem vz15:Vis (defScope s_Watch_broken_by) "text" := Or.inl (by decide +kernel)
theorem lzc:Loc (defScope s_Watch_broken_by) "text" := Or.inl (by decide +kernel)
theorem vz16:Vis (defScope s_Watch_broken_by) "room" := Or.inl (by decide +kernel)
theorem lzd:Loc (defScope s_Watch_broken_by) "room" := Or.inl (by decide +kernel)
theorem vz17:Vis (defScope s_Watch_broken_by) "start" := Or.inl (by decide +kernel)
theorem lze:Loc (defScope s_Watch_broken_by) "start" := Or.inl (by decide +kernel)
abbrev s_Watch_go_on:Stmt:=inClass (top 5) 7
theorem sc_Watch_go_on:FnScope ["self", "handle", "word", "handles", "text"] ["self", "handle", "word"] (defScope s_Watch_go_on):=⟨rfl,rfl,rfl,by decide +kernel,rfl,by decide +kernel,by decide +kernel⟩
theorem vz18:Vis (defScope s_Watch_go_on) "self" := Or.inl (by decide +kernel)
theorem vz19:Vis (defScope s_Watch_go_on) "handle" := Or.inl (by decide +kernel)
theorem vz1a:Vis (defScope s_Watch_go_on) "word" := Or.inl (by decide +kernel)
theorem vz1b:Vis (defScope s_Watch_go_on) "handles" := Or.inl (by decide +kernel)
theorem lzf:Loc (defScope s_Watch_go_on) "handles" := Or.inl (by decide +kernel)
theorem vz1c:Vis (defScope s_Watch_go_on) "text" := Or.inl (by decide +kernel)
theorem lzg:Loc (defScope s_Watch_go_on) "text" := Or.inl (by decide +kernel)
theorem gz4:(defScope s_Watch_go_on).names.lookup ("starts_behind" : Str) = some .globalImplicit:=by decide +kernel
abbrev s_watch_of:Stmt:=top 6
theorem sc_watch_of:FnScope ["place", "named", "column", "rule", "blame"] ["place", "named", "column"] (defScope s_watch_of):=⟨rfl,rfl,rfl,by decide +kernel,rfl,by decide +kernel,by decide +kernel⟩
theorem vz1d:Vis (defScope s_watch_of) "place" := Or.inl (by decide +kernel)
theorem vz1e:Vis (defScope s_watch_of) "named" := Or.inl (by decide +kernel)
theorem vz1f:Vis (defScope s_watch_of) "column" := Or.inl (by decide +kernel)
theorem vz1g:Vis (defScope s_watch_of) "rule" := Or.inr (Or.inl (by decide +kernel))
theorem lzh:Loc (defScope s_watch_of) "rule" := Or.inr (by decide +kernel)
theorem lzi:Loc (defScope s_watch_of) "blame" := Or.inr (by decide +kernel)
theorem gz5:(defScope s_watch_of).names.lookup ("Watch" : Str) = some .globalImplicit:=by decide +kernel
abbrev s_watches_of:Stmt:=top 7
theorem sc_watches_of:FnScope ["rules"] ["rules"] (defScope s_watches_of):=⟨rfl,rfl,rfl,by decide +kernel,rfl,by decide +kernel,by decide +kernel⟩
theorem vz1h:Vis (defScope s_watches_of) "rules" := Or.inl (by decide +kernel)
theorem gz6:(defScope s_watches_of).names.lookup ("enumerate" : Str) = some .globalImplicit:=by decide +kernel
abbrev s_all_begin_tie:Stmt:=top 8
theorem sc_all_begin_tie:FnScope ["watches", "one", "other", "start", "watch"] ["watches", "one", "other", "start"] (defScope s_all_begin_tie):=⟨rfl,rfl,rfl,by decide +kernel,rfl,by decide +kernel,by decide +kernel⟩
theorem vz1i:Vis (defScope s_all_begin_tie) "watches" := Or.inl (by decide +kernel)
theorem vz1j:Vis (defScope s_all_begin_tie) "one" := Or.inl (by decide +kernel)
theorem vz1k:Vis (defScope s_all_begin_tie) "other" := Or.inl (by decide +kernel)
theorem vz1l:Vis (defScope s_all_begin_tie) "start" := Or.inl (by decide +kernel)
theorem vz1m:Vis (defScope s_all_begin_tie) "watch" := Or.inl (by decide +kernel)
theorem lzj:Loc (defScope s_all_begin_tie) "watch" := Or.inl (by decide +kernel)
abbrev s_broken_or_gone_on:Stmt:=top 9
theorem sc_broken_or_gone_on:FnScope ["watches", "at", "handle", "word", "broken", "watch", "first"] ["watches", "at", "handle", "word"] (defScope s_broken_or_gone_on):=⟨rfl,rfl,rfl,by decide +kernel,rfl,by decide +kernel,by decide +kernel⟩
theorem vz1n:Vis (defScope s_broken_or_gone_on) "watches" := Or.inl (by decide +kernel)
theorem vz1o:Vis (defScope s_broken_or_gone_on) "at" := Or.inl (by decide +kernel)
theorem vz1p:Vis (defScope s_broken_or_gone_on) "handle" := Or.inl (by decide +kernel)
theorem vz1q:Vis (defScope s_broken_or_gone_on) "word" := Or.inl (by decide +kernel)
theorem vz1r:Vis (defScope s_broken_or_gone_on) "broken" := Or.inl (by decide +kernel)
theorem lzk:Loc (defScope s_broken_or_gone_on) "broken" := Or.inl (by decide +kernel)
theorem vz1s:Vis (defScope s_broken_or_gone_on) "watch" := Or.inl (by decide +kernel)
theorem lzl:Loc (defScope s_broken_or_gone_on) "watch" := Or.inl (by decide +kernel)
theorem vz1t:Vis (defScope s_broken_or_gone_on) "first" := Or.inl (by decide +kernel)
theorem lzm:Loc (defScope s_broken_or_gone_on) "first" := Or.inl (by decide +kernel)
theorem gz7:(defScope s_broken_or_gone_on).names.lookup ("len" : Str) = some .globalImplicit:=by decide +kernel
theorem gz8:(defScope s_broken_or_gone_on).names.lookup ("min" : Str) = some .globalImplicit:=by decide +kernel
abbrev s_breach_by:Stmt:=top 11
theorem sc_breach_by:FnScope ["watches", "log", "at", "entry", "broken", "start", "handles"] ["watches", "log", "at"] (defScope s_breach_by):=⟨rfl,rfl,rfl,by decide +kernel,rfl,by decide +kernel,by decide +kernel⟩
theorem vz1u:Vis (defScope s_breach_by) "watches" := Or.inl (by decide +kernel)
theorem vz1v:Vis (defScope s_breach_by) "log" := Or.inl (by decide +kernel)
theorem vz1w:Vis (defScope s_breach_by) "at" := Or.inl (by decide +kernel)
theorem vz1x:Vis (defScope s_breach_by) "entry" := Or.inl (by decide +kernel)
theorem lzn:Loc (defScope s_breach_by) "entry" := Or.inl (by decide +kernel)
theorem vz1y:Vis (defScope s_breach_by) "broken" := Or.inl (by decide +kernel)
theorem lzo:Loc (defScope s_breach_by) "broken" := Or.inl (by decide +kernel)
theorem vz1z:Vis (defScope s_breach_by) "start" := Or.inl (by decide +kernel)
theorem lzp:Loc (defScope s_breach_by) "start" := Or.inl (by decide +kernel)
theorem vz20:Vis (defScope s_breach_by) "handles" := Or.inl (by decide +kernel)
theorem lzq:Loc (defScope s_breach_by) "handles" := Or.inl (by decide +kernel)
theorem gz9:(defScope s_breach_by).names.lookup ("all_begin_tie" : Str) = some .globalImplicit:=by decide +kernel
theorem gza:(defScope s_breach_by).names.lookup ("broken_or_gone_on" : Str) = some .globalImplicit:=by decide +kernel
theorem gzb:(defScope s_breach_by).names.lookup ("len" : Str) = some .globalImplicit:=by decide +kernel
theorem gzc:(defScope s_breach_by).names.lookup ("list" : Str) = some .globalImplicit:=by decide +kernel
theorem gzd:(defScope s_breach_by).names.lookup ("row_of" : Str) = some .globalImplicit:=by decide +kernel
abbrev s_breach_in:Stmt:=top 12
theorem sc_breach_in:FnScope ["rules", "log", "watches", "at", "breach"] ["rules", "log"] (defScope s_breach_in):=⟨rfl,rfl,rfl,by decide +kernel,rfl,by decide +kernel,by decide +kernel⟩
theorem vz21:Vis (defScope s_breach_in) "rules" := Or.inl (by decide +kernel)
theorem vz22:Vis (defScope s_breach_in) "log" := Or.inl (by decide +kernel)
theorem vz23:Vis (defScope s_breach_in) "watches" := Or.inl (by decide +kernel)
theorem lzr:Loc (defScope s_breach_in) "watches" := Or.inl (by decide +kernel)
theorem vz24:Vis (defScope s_breach_in) "at" := Or.inl (by decide +kernel)
theorem lzs:Loc (defScope s_breach_in) "at" := Or.inl (by decide +kernel)
theorem vz25:Vis (defScope s_breach_in) "breach" := Or.inl (by decide +kernel)
theorem lzt:Loc (defScope s_breach_in) "breach" := Or.inl (by decide +kernel)
theorem gze:(defScope s_breach_in).names.lookup ("breach_by" : Str) = some .globalImplicit:=by decide +kernel
theorem gzf:(defScope s_breach_in).names.lookup ("len" : Str) = some .globalImplicit:=by decide +kernel
theorem gzg:(defScope s_breach_in).names.lookup ("range" : Str) = some .globalImplicit:=by decide +kernel
theorem gzh:(defScope s_breach_in).names.lookup ("watches_of" : Str) = some .globalImplicit:=by decide +kernel
abbrev s_law_cell_at:Stmt:=top 14
theorem sc_law_cell_at:FnScope ["_law_script", "_law_k"] ["_law_script", "_law_k"] (defScope s_law_cell_at):=⟨rfl,rfl,rfl,by decide +kernel,rfl,by decide +kernel,by decide +kernel⟩
theorem vz26:Vis (defScope s_law_cell_at) "_law_script" := Or.inl (by decide +kernel)
theorem vz27:Vis (defScope s_law_cell_at) "_law_k" := Or.inl (by decide +kernel)
theorem gzi:(defScope s_law_cell_at).names.lookup ("len" : Str) = some .globalImplicit:=by decide +kernel
abbrev s_law_whole:Stmt:=top 15
theorem sc_law_whole:FnScope ["_law_found"] ["_law_found"] (defScope s_law_whole):=⟨rfl,rfl,rfl,by decide +kernel,rfl,by decide +kernel,by decide +kernel⟩
theorem vz28:Vis (defScope s_law_whole) "_law_found" := Or.inl (by decide +kernel)
theorem gzj:(defScope s_law_whole).names.lookup ("bool" : Str) = some .globalImplicit:=by decide +kernel
theorem gzk:(defScope s_law_whole).names.lookup ("int" : Str) = some .globalImplicit:=by decide +kernel
theorem gzl:(defScope s_law_whole).names.lookup ("isinstance" : Str) = some .globalImplicit:=by decide +kernel
abbrev s_law_mixed:Stmt:=top 16
theorem sc_law_mixed:FnScope ["_law_cell", "_law_k", "_law_number"] ["_law_cell", "_law_k"] (defScope s_law_mixed):=⟨rfl,rfl,rfl,by decide +kernel,rfl,by decide +kernel,by decide +kernel⟩
theorem vz29:Vis (defScope s_law_mixed) "_law_cell" := Or.inl (by decide +kernel)
theorem vz2a:Vis (defScope s_law_mixed) "_law_k" := Or.inl (by decide +kernel)
theorem vz2b:Vis (defScope s_law_mixed) "_law_number" := Or.inl (by decide +kernel)
theorem lzu:Loc (defScope s_law_mixed) "_law_number" := Or.inl (by decide +kernel)
abbrev s_law_words:Stmt:=top 17
theorem sc_law_words:FnScope ["_law_cell", "_law_many", "_law_letters", "_law_size", "_law_at", "_law_words_here", "_law_k", "_law_word", "_law_j"] ["_law_cell", "_law_many"] (defScope s_law_words):=⟨rfl,rfl,rfl,by decide +kernel,rfl,by decide +kernel,by decide +kernel⟩
theorem vz2c:Vis (defScope s_law_words) "_law_cell" := Or.inl (by decide +kernel)
theorem vz2d:Vis (defScope s_law_words) "_law_many" := Or.inl (by decide +kernel)
theorem vz2e:Vis (defScope s_law_words) "_law_letters" := Or.inl (by decide +kernel)
theorem lzv:Loc (defScope s_law_words) "_law_letters" := Or.inl (by decide +kernel)
theorem vz2f:Vis (defScope s_law_words) "_law_size" := Or.inl (by decide +kernel)
theorem lzw:Loc (defScope s_law_words) "_law_size" := Or.inl (by decide +kernel)
theorem vz2g:Vis (defScope s_law_words) "_law_at" := Or.inl (by decide +kernel)
theorem lzx:Loc (defScope s_law_words) "_law_at" := Or.inl (by decide +kernel)
theorem vz2h:Vis (defScope s_law_words) "_law_words_here" := Or.inl (by decide +kernel)
theorem lzy:Loc (defScope s_law_words) "_law_words_here" := Or.inl (by decide +kernel)
theorem vz2i:Vis (defScope s_law_words) "_law_k" := Or.inl (by decide +kernel)
theorem lzz:Loc (defScope s_law_words) "_law_k" := Or.inl (by decide +kernel)
theorem vz2j:Vis (defScope s_law_words) "_law_word" := Or.inl (by decide +kernel)
theorem lz10:Loc (defScope s_law_words) "_law_word" := Or.inl (by decide +kernel)
theorem vz2k:Vis (defScope s_law_words) "_law_j" := Or.inl (by decide +kernel)
theorem lz11:Loc (defScope s_law_words) "_law_j" := Or.inl (by decide +kernel)
theorem gzm:(defScope s_law_words).names.lookup ("_law_mixed" : Str) = some .globalImplicit:=by decide +kernel
theorem gzn:(defScope s_law_words).names.lookup ("int" : Str) = some .globalImplicit:=by decide +kernel
theorem gzo:(defScope s_law_words).names.lookup ("range" : Str) = some .globalImplicit:=by decide +kernel
abbrev s_law_rule:Stmt:=top 18
theorem sc_law_rule:FnScope ["_law_cell", "_law_words_here", "_law_texts", "_law_many", "_law_rooms", "_law_room", "_law_row", "_law_j", "_law_number"] ["_law_cell", "_law_words_here"] (defScope s_law_rule):=⟨rfl,rfl,rfl,by decide +kernel,rfl,by decide +kernel,by decide +kernel⟩
theorem vz2l:Vis (defScope s_law_rule) "_law_cell" := Or.inr (Or.inl (by decide +kernel))
theorem vz2m:Vis (defScope s_law_rule) "_law_words_here" := Or.inl (by decide +kernel)
theorem vz2n:Vis (defScope s_law_rule) "_law_texts" := Or.inr (Or.inl (by decide +kernel))
theorem lz12:Loc (defScope s_law_rule) "_law_texts" := Or.inr (by decide +kernel)
theorem vz2o:Vis (defScope s_law_rule) "_law_many" := Or.inl (by decide +kernel)
theorem lz13:Loc (defScope s_law_rule) "_law_many" := Or.inl (by decide +kernel)
theorem vz2p:Vis (defScope s_law_rule) "_law_rooms" := Or.inl (by decide +kernel)
theorem lz14:Loc (defScope s_law_rule) "_law_rooms" := Or.inl (by decide +kernel)
theorem vz2q:Vis (defScope s_law_rule) "_law_room" := Or.inl (by decide +kernel)
theorem lz15:Loc (defScope s_law_rule) "_law_room" := Or.inl (by decide +kernel)
theorem vz2r:Vis (defScope s_law_rule) "_law_row" := Or.inl (by decide +kernel)
theorem lz16:Loc (defScope s_law_rule) "_law_row" := Or.inl (by decide +kernel)
theorem vz2s:Vis (defScope s_law_rule) "_law_j" := Or.inl (by decide +kernel)
theorem lz17:Loc (defScope s_law_rule) "_law_j" := Or.inl (by decide +kernel)
theorem vz2t:Vis (defScope s_law_rule) "_law_number" := Or.inl (by decide +kernel)
theorem lz18:Loc (defScope s_law_rule) "_law_number" := Or.inl (by decide +kernel)
theorem gzp:(defScope s_law_rule).names.lookup ("_law_mixed" : Str) = some .globalImplicit:=by decide +kernel
theorem gzq:(defScope s_law_rule).names.lookup ("len" : Str) = some .globalImplicit:=by decide +kernel
theorem gzr:(defScope s_law_rule).names.lookup ("range" : Str) = some .globalImplicit:=by decide +kernel
theorem gzs:(defScope s_law_rule).names.lookup ("sorted" : Str) = some .globalImplicit:=by decide +kernel
abbrev s_law_entry:Stmt:=top 19
theorem sc_law_entry:FnScope ["_law_cell", "_law_first", "_law_many", "_law_words_here", "_law_line", "_law_one", "_law_word"] ["_law_cell", "_law_first", "_law_many", "_law_words_here"] (defScope s_law_entry):=⟨rfl,rfl,rfl,by decide +kernel,rfl,by decide +kernel,by decide +kernel⟩
theorem vz2u:Vis (defScope s_law_entry) "_law_cell" := Or.inl (by decide +kernel)
theorem vz2v:Vis (defScope s_law_entry) "_law_first" := Or.inl (by decide +kernel)
theorem vz2w:Vis (defScope s_law_entry) "_law_many" := Or.inl (by decide +kernel)
theorem vz2x:Vis (defScope s_law_entry) "_law_words_here" := Or.inl (by decide +kernel)
theorem vz2y:Vis (defScope s_law_entry) "_law_line" := Or.inl (by decide +kernel)
theorem lz19:Loc (defScope s_law_entry) "_law_line" := Or.inl (by decide +kernel)
theorem vz2z:Vis (defScope s_law_entry) "_law_one" := Or.inl (by decide +kernel)
theorem lz1a:Loc (defScope s_law_entry) "_law_one" := Or.inl (by decide +kernel)
theorem vz30:Vis (defScope s_law_entry) "_law_word" := Or.inl (by decide +kernel)
theorem lz1b:Loc (defScope s_law_entry) "_law_word" := Or.inl (by decide +kernel)
theorem gzt:(defScope s_law_entry).names.lookup ("_law_mixed" : Str) = some .globalImplicit:=by decide +kernel
theorem gzu:(defScope s_law_entry).names.lookup ("len" : Str) = some .globalImplicit:=by decide +kernel
abbrev s_law_next:Stmt:=top 20
theorem sc_law_next:FnScope ["_law_rule_here", "_law_room", "_law_text"] ["_law_rule_here", "_law_room", "_law_text"] (defScope s_law_next):=⟨rfl,rfl,rfl,by decide +kernel,rfl,by decide +kernel,by decide +kernel⟩
theorem vz31:Vis (defScope s_law_next) "_law_rule_here" := Or.inl (by decide +kernel)
theorem vz32:Vis (defScope s_law_next) "_law_room" := Or.inl (by decide +kernel)
theorem vz33:Vis (defScope s_law_next) "_law_text" := Or.inl (by decide +kernel)
abbrev s_law_row_of:Stmt:=top 21
theorem sc_law_row_of:FnScope ["_law_log", "_law_key", "_law_row", "_law_entry_here"] ["_law_log", "_law_key"] (defScope s_law_row_of):=⟨rfl,rfl,rfl,by decide +kernel,rfl,by decide +kernel,by decide +kernel⟩
theorem vz34:Vis (defScope s_law_row_of) "_law_log" := Or.inl (by decide +kernel)
theorem vz35:Vis (defScope s_law_row_of) "_law_key" := Or.inl (by decide +kernel)
theorem vz36:Vis (defScope s_law_row_of) "_law_row" := Or.inl (by decide +kernel)
theorem lz1c:Loc (defScope s_law_row_of) "_law_row" := Or.inl (by decide +kernel)
theorem vz37:Vis (defScope s_law_row_of) "_law_entry_here" := Or.inl (by decide +kernel)
theorem lz1d:Loc (defScope s_law_row_of) "_law_entry_here" := Or.inl (by decide +kernel)
theorem gzv:(defScope s_law_row_of).names.lookup ("int" : Str) = some .globalImplicit:=by decide +kernel
theorem gzw:(defScope s_law_row_of).names.lookup ("len" : Str) = some .globalImplicit:=by decide +kernel
abbrev s_law_touched:Stmt:=top 22
theorem sc_law_touched:FnScope ["_law_sides", "_law_ties", "_law_entry_here"] ["_law_sides", "_law_ties", "_law_entry_here"] (defScope s_law_touched):=⟨rfl,rfl,rfl,by decide +kernel,rfl,by decide +kernel,by decide +kernel⟩
theorem vz38:Vis (defScope s_law_touched) "_law_sides" := Or.inl (by decide +kernel)
theorem vz39:Vis (defScope s_law_touched) "_law_ties" := Or.inl (by decide +kernel)
theorem vz3a:Vis (defScope s_law_touched) "_law_entry_here" := Or.inr (Or.inl (by decide +kernel))
abbrev s_law_due:Stmt:=top 23
theorem sc_law_due:FnScope ["_law_rules", "_law_log", "_law_ties", "_law_rooms", "_law_at", "_law_entry_here", "_law_name", "_law_rule_here", "_law_key", "_law_text"] ["_law_rules", "_law_log"] (defScope s_law_due):=⟨rfl,rfl,rfl,by decide +kernel,rfl,by decide +kernel,by decide +kernel⟩
theorem vz3b:Vis (defScope s_law_due) "_law_rules" := Or.inl (by decide +kernel)
theorem vz3c:Vis (defScope s_law_due) "_law_log" := Or.inl (by decide +kernel)
theorem vz3d:Vis (defScope s_law_due) "_law_ties" := Or.inl (by decide +kernel)
theorem lz1e:Loc (defScope s_law_due) "_law_ties" := Or.inl (by decide +kernel)
theorem vz3e:Vis (defScope s_law_due) "_law_rooms" := Or.inl (by decide +kernel)
theorem lz1f:Loc (defScope s_law_due) "_law_rooms" := Or.inl (by decide +kernel)
theorem vz3f:Vis (defScope s_law_due) "_law_at" := Or.inl (by decide +kernel)
theorem lz1g:Loc (defScope s_law_due) "_law_at" := Or.inl (by decide +kernel)
theorem vz3g:Vis (defScope s_law_due) "_law_entry_here" := Or.inl (by decide +kernel)
theorem lz1h:Loc (defScope s_law_due) "_law_entry_here" := Or.inl (by decide +kernel)
theorem vz3h:Vis (defScope s_law_due) "_law_name" := Or.inl (by decide +kernel)
theorem lz1i:Loc (defScope s_law_due) "_law_name" := Or.inl (by decide +kernel)
theorem vz3i:Vis (defScope s_law_due) "_law_rule_here" := Or.inl (by decide +kernel)
theorem lz1j:Loc (defScope s_law_due) "_law_rule_here" := Or.inl (by decide +kernel)
theorem vz3j:Vis (defScope s_law_due) "_law_key" := Or.inl (by decide +kernel)
theorem lz1k:Loc (defScope s_law_due) "_law_key" := Or.inl (by decide +kernel)
theorem vz3k:Vis (defScope s_law_due) "_law_text" := Or.inl (by decide +kernel)
theorem lz1l:Loc (defScope s_law_due) "_law_text" := Or.inl (by decide +kernel)
theorem gzx:(defScope s_law_due).names.lookup ("_law_next" : Str) = some .globalImplicit:=by decide +kernel
theorem gzy:(defScope s_law_due).names.lookup ("_law_row_of" : Str) = some .globalImplicit:=by decide +kernel
theorem gzz:(defScope s_law_due).names.lookup ("_law_touched" : Str) = some .globalImplicit:=by decide +kernel
theorem gz10:(defScope s_law_due).names.lookup ("enumerate" : Str) = some .globalImplicit:=by decide +kernel
theorem gz11:(defScope s_law_due).names.lookup ("len" : Str) = some .globalImplicit:=by decide +kernel
theorem gz12:(defScope s_law_due).names.lookup ("list" : Str) = some .globalImplicit:=by decide +kernel
abbrev s_law_alike:Stmt:=top 24
theorem sc_law_alike:FnScope ["_law_found", "_law_due_here"] ["_law_found", "_law_due_here"] (defScope s_law_alike):=⟨rfl,rfl,rfl,by decide +kernel,rfl,by decide +kernel,by decide +kernel⟩
theorem vz3l:Vis (defScope s_law_alike) "_law_found" := Or.inl (by decide +kernel)
theorem vz3m:Vis (defScope s_law_alike) "_law_due_here" := Or.inl (by decide +kernel)
theorem gz13:(defScope s_law_alike).names.lookup ("_law_whole" : Str) = some .globalImplicit:=by decide +kernel
theorem gz14:(defScope s_law_alike).names.lookup ("isinstance" : Str) = some .globalImplicit:=by decide +kernel
theorem gz15:(defScope s_law_alike).names.lookup ("len" : Str) = some .globalImplicit:=by decide +kernel
theorem gz16:(defScope s_law_alike).names.lookup ("list" : Str) = some .globalImplicit:=by decide +kernel
theorem gz17:(defScope s_law_alike).names.lookup ("str" : Str) = some .globalImplicit:=by decide +kernel
theorem gz18:(defScope s_law_alike).names.lookup ("tuple" : Str) = some .globalImplicit:=by decide +kernel
abbrev s_law:Stmt:=top 25
theorem sc_law:FnScope ["_law_script", "_law_words_here", "_law_names", "_law_first", "_law_many", "_law_used", "_law_log", "_law_rules", "_law_k", "_law_kept", "_law_handed", "_law_due_here", "_law_found"] ["_law_script"] (defScope s_law):=⟨rfl,rfl,rfl,by decide +kernel,rfl,by decide +kernel,by decide +kernel⟩
theorem vz3n:Vis (defScope s_law) "_law_script" := Or.inl (by decide +kernel)
theorem vz3o:Vis (defScope s_law) "_law_words_here" := Or.inl (by decide +kernel)
theorem lz1m:Loc (defScope s_law) "_law_words_here" := Or.inl (by decide +kernel)
theorem vz3p:Vis (defScope s_law) "_law_names" := Or.inl (by decide +kernel)
theorem lz1n:Loc (defScope s_law) "_law_names" := Or.inl (by decide +kernel)
theorem lz1o:Loc (defScope s_law) "_law_first" := Or.inr (by decide +kernel)
theorem lz1p:Loc (defScope s_law) "_law_many" := Or.inr (by decide +kernel)
theorem lz1q:Loc (defScope s_law) "_law_used" := Or.inr (by decide +kernel)
theorem vz3q:Vis (defScope s_law) "_law_log" := Or.inl (by decide +kernel)
theorem kz1:(defScope s_law).names.lookup ("_law_log" : Str) = some .local:=by decide +kernel
theorem vz3r:Vis (defScope s_law) "_law_rules" := Or.inl (by decide +kernel)
theorem lz1r:Loc (defScope s_law) "_law_rules" := Or.inl (by decide +kernel)
theorem vz3s:Vis (defScope s_law) "_law_k" := Or.inl (by decide +kernel)
theorem lz1s:Loc (defScope s_law) "_law_k" := Or.inl (by decide +kernel)
theorem vz3t:Vis (defScope s_law) "_law_kept" := Or.inl (by decide +kernel)
theorem kz2:(defScope s_law).names.lookup ("_law_kept" : Str) = some .local:=by decide +kernel
theorem vz3u:Vis (defScope s_law) "_law_handed" := Or.inl (by decide +kernel)
theorem lz1t:Loc (defScope s_law) "_law_handed" := Or.inl (by decide +kernel)
theorem vz3v:Vis (defScope s_law) "_law_due_here" := Or.inl (by decide +kernel)
theorem lz1u:Loc (defScope s_law) "_law_due_here" := Or.inl (by decide +kernel)
theorem vz3w:Vis (defScope s_law) "_law_found" := Or.inl (by decide +kernel)
theorem lz1v:Loc (defScope s_law) "_law_found" := Or.inl (by decide +kernel)
theorem gz19:(defScope s_law).names.lookup ("_law_alike" : Str) = some .globalImplicit:=by decide +kernel
theorem gz1a:(defScope s_law).names.lookup ("_law_cell_at" : Str) = some .globalImplicit:=by decide +kernel
theorem gz1b:(defScope s_law).names.lookup ("_law_due" : Str) = some .globalImplicit:=by decide +kernel
theorem gz1c:(defScope s_law).names.lookup ("_law_mixed" : Str) = some .globalImplicit:=by decide +kernel
theorem gz1d:(defScope s_law).names.lookup ("_law_rule" : Str) = some .globalImplicit:=by decide +kernel
theorem gz1e:(defScope s_law).names.lookup ("_law_words" : Str) = some .globalImplicit:=by decide +kernel
theorem gz1f:(defScope s_law).names.lookup ("breach_in" : Str) = some .globalImplicit:=by decide +kernel
theorem gz1g:(defScope s_law).names.lookup ("list" : Str) = some .globalImplicit:=by decide +kernel
theorem gz1h:(defScope s_law).names.lookup ("range" : Str) = some .globalImplicit:=by decide +kernel
abbrev letters:Str := "abcdefghijklmnopqrstuvwxyz"
def spLaw (K:PySem.W.Frag):Sp:=fun vs H Q _=>∃ (a:Addr) (ns:List Int),vs = [.ref a]∧SqL K H a (ns.map V.int)∧ns.length ≤ 63∧∀ H',Q (.bl true) H'
def spCell (K:PySem.W.Frag):Sp:=fun vs H Q _=>∃ (a:Addr) (ns:List Int) (k:Int),vs = [.ref a,.int k]∧SqL K H a (ns.map V.int)∧0 ≤ k∧Q (.int (ns.getD k.toNat 0)) H
def mixF (c k:Int):Int:=((c % 2147483647 + 7919 * k * k + k) * 48271 % 2147483647) * ((c % 2147483647 + 7919 * k * k + k) * 48271 % 2147483647) % 1000003
theorem mixF_bd (c k:Int):0 ≤ mixF c k∧mixF c k < 1000003:=by unfold mixF; omega
def spMix:Sp:=fun vs H Q _=>∃ (c k:Int),vs = [.int c,.int k]∧0 ≤ k∧k ≤ 100000∧Q (.int (mixF c k)) H
def wayV:Option Nat→V
 | none=>.non
 | some n=>.int n
theorem len_app1 (x:Str) (c:Nat):(x ++ (⟨#[c]⟩ : Str)).length = x.length + 1:=by rw [Str.length_append]; rfl
def letF (z:Int):Nat:=letters.cps.toList.getD (z % 26).toNat 0
theorem letter_at (z:Int):letters.length ≤ sizeLine∧atI letters.cps.toList (z % 26) = some (letF z):=by
 have hz:(z % 26).toNat < letters.cps.toList.length:=by
  show (z % 26).toNat < 26
  omega
 refine ⟨by decide,?_⟩
 have q:=atI_nat (List.getElem?_eq_getElem hz)
 rw [show (((z % 26).toNat:Nat):Int) = z % 26 by omega] at q
 rw [q]
 unfold letF
 rw [List.getD_eq_getElem?_getD,List.getElem?_eq_getElem hz]; rfl
theorem letF_inj {y z:Int} (h:letF y = letF z):y % 26 = z % 26:=by
 have key:∀ i j:Fin 26,letters.cps.toList.getD i.val 0 = letters.cps.toList.getD j.val 0→i = j:=by decide +kernel
 have:=key ⟨(y % 26).toNat,by omega⟩ ⟨(z % 26).toNat,by omega⟩ h
 have:=congrArg Fin.val this
 simp only [] at this
 omega
def spWordsN:Sp:=fun vs H Q _=>∃ (c:Int) (n:Nat),vs = [.int c,.int n]∧n ≤ 26∧∀ (p:Addr) (H':Hp) (ss:List Str),Same H H'→H p = none→H' p = some (.lst (ss.map V.str))→ss.length = n→(∀ x ∈ ss,x.length ≤ 8)→ss.Nodup→Q (.ref p) H'
section
variable {P:Program} {w:World} {K:PySem.W.Frag} {mg:Str→Option Value} {base:Heap}
theorem ok_cell (D:DefAt K mg "_law_cell_at" s_law_cell_at) (z_len:mg "len" = none):Cal P w K mg base 1 "_law_cell_at" ["_law_script", "_law_k"] (spCell K):=by
 refine D.cal sc_law_cell_at (fun _ _ _ _ _ _ us hl=>match us,hl with | [_,_],_=>rfl) (fun vs H Q E h=>by obtain ⟨a,ns,k,rfl,_⟩:=h; rfl) (fun f cdv A outer s H vs Q E hr h=>?_)
 obtain ⟨a,ns,k,rfl,hS,h0,q⟩:=h
 refine ⟨_,(pss_cons (ps_if (pt_cmpR op_ltA (pv 1 (hv:=vz27)) (pe_blt (call_lenK K) z_len bt_len (pa_cons (pv 0 (hv:=vz26)) pa_nil) (hg:=gzi)) (nomark _)) (pss_one (ps_ret (pe_ix (ix_K K) (pv 0 (hv:=vz26)) (pv 1 (hv:=vz27)) (fun _ _=>rfl)))) pss_nil)
   (pss_one (ps_ret pe_int))),?_⟩
 walk_at "rd1"
 refine ⟨_,.inl hS,ite2 (fun c=>?_) (fun c=>?_)⟩
 ·rw [List.length_map] at c
  refine ⟨_,.int (ns.getD k.toNat 0),.inl hS,at_map h0 ?_,q⟩
  rw [List.getD_eq_getElem?_getD,List.getElem?_eq_getElem (by omega)]; rfl
 ·rw [List.length_map] at c
  have e:ns.getD k.toNat 0 = 0:=by
   rw [List.getD_eq_getElem?_getD,List.getElem?_eq_none (by omega)]; rfl
  walk_at "nx"
  rw [e] at q; exact q
theorem ok_mix (D:DefAt K mg "_law_mixed" s_law_mixed):Cal P w K mg base 1 "_law_mixed" ["_law_cell", "_law_k"] spMix:=by
 refine D.cal sc_law_mixed (fun _ _ _ _ _ _ us hl=>match us,hl with | [_,_],_=>rfl) (fun vs H Q E h=>by obtain ⟨c,k,rfl,_⟩:=h; rfl) (fun f cdv A outer s H vs Q E hr h=>?_)
 obtain ⟨c,k,rfl,k0,k1,q⟩:=h
 refine ⟨_,(pss_cons (ps_let 2 sc_law_mixed.nd (pe_op op_mod (pe_op op_mulB (pe_op op_addA (pe_op op_addA (pe_op op_mod (pv 0 (hv:=vz29)) pe_int) (pe_op op_mulB (pe_op op_mulB pe_int (pv 1 (hv:=vz2a))) (pv 1 (hv:=vz2a)))) (pv 1 (hv:=vz2a))) pe_int) pe_int) (hx:=lzu))
   (pss_one (ps_ret (pe_op op_mod (pe_op op_mulB (pv 2 (hv:=vz2b)) (pv 2 (hv:=vz2b))) pe_int)))),?_⟩
 walk_at "rd1"
 have hk:(0:Int) ≤ 7919 * k∧7919 * k ≤ 791900000:=by omega
 refine ⟨by decide,.inl ⟨by decide,by decide⟩,.inl ⟨by omega,by omega⟩,.inr ⟨by decide,by decide⟩,by decide,?_⟩
 unfold mixF at q
 have b:=Int.emod_nonneg ((c % 2147483647 + 7919 * k * k + k) * 48271) (show (2147483647:Int) ≠ 0 by decide)
 have b':=Int.emod_lt_of_pos ((c % 2147483647 + 7919 * k * k + k) * 48271) (show (0:Int) < 2147483647 by decide)
 walk_at "nx"
 exact ⟨.inl ⟨by omega,by omega⟩,by decide,q⟩
end
set_option genInjectivity false in
set_option genSizeOf false in
structure Rl where
 s:Int
 ws:List Str
 rs:List (List (Option Nat))
structure RlOk (r:Rl):Prop where
 s:r.s = 1∨r.s = 2
 nw:r.ws.length ≤ 16
 n0:1 ≤ r.rs.length
 n1:r.rs.length ≤ 60
 row:∀ x ∈ r.rs,x.length = r.ws.length∧∀ k,some k ∈ x→k < r.rs.length
 lw:∀ w ∈ r.ws,w.length ≤ 10
def RoomsAs (H:Hp) (p:Addr) (rs:List (List (Option Nat))) (as:List Addr):Prop:=
 H p = some (.lst (as.map V.ref))∧as.length = rs.length∧∀ (i:Nat) a x,as[i]? = some a→rs[i]? = some x→H a = some (.lst (x.map wayV))
def RuleAt (H:Hp) (p:Addr) (r:Rl):Prop:=∃ pw pr as,H p = some (.tup [.int r.s,.ref pw,.ref pr])∧H pw = some (.lst (r.ws.map V.str))∧RoomsAs H pr r.rs as
theorem RoomsAs.mono {H H':Hp} {p:Addr} {rs:List (List (Option Nat))} {as:List Addr} (sm:Same H H') (h:RoomsAs H p rs as):RoomsAs H' p rs as:=by
 obtain ⟨h1,h2,h3⟩:=h
 exact ⟨sm _ _ h1,h2,fun i a x e1 e2=>sm _ _ (h3 i a x e1 e2)⟩
theorem RuleAt.mono {H H':Hp} {p:Addr} {r:Rl} (sm:Same H H') (h:RuleAt H p r):RuleAt H' p r:=by
 obtain ⟨pw,pr,as,h1,h2,h3⟩:=h
 exact ⟨pw,pr,as,sm _ _ h1,sm _ _ h2,h3.mono sm⟩
theorem ixL {K:PySem.W.Frag} {H:Hp} {p:Addr} {xs:List V} {i:Int} {v:V} {Q:VK} (h:H p = some (.lst xs)) (e:atI xs i = some v) (q:Q v H):∃ xs v,(SqL K H p xs∨SqT K H p xs)∧atI xs i = some v∧Q v H:=⟨_,_,.inl (SqL.of h),e,q⟩
theorem flat_strs (ss:List Str):(ss.map V.str).all flatV = true:=by
 rw [List.all_eq_true]; intro x hx; obtain ⟨s,_,rfl⟩:=List.mem_map.mp hx; rfl
theorem inV_str (y:Str) (ss:List Str):inV (.str y) (ss.map V.str) = decide (y ∈ ss):=by
 rw [Bool.eq_iff_iff]
 unfold inV
 rw [List.any_eq_true,decide_eq_true_eq]
 constructor
 ·rintro ⟨x,hx,e⟩
  obtain ⟨s,hs,rfl⟩:=List.mem_map.mp hx
  have e':(s == y) = true:=e
  rw [← eq_of_beq e']; exact hs
 ·intro h
  exact ⟨.str y,List.mem_map.mpr ⟨y,h,rfl⟩,by show (y == y) = true; simp⟩
def cutS {α : Type} (xs:List α) (lo hi:Option Int):List α:=(xs.drop (HT.sIx xs.length 0 lo)).take (HT.sIx xs.length xs.length hi - HT.sIx xs.length 0 lo)
theorem cut_map {α : Type} (f:α→V) (xs:List α) (lo hi:Option Int):cutV (xs.map f) lo hi = (cutS xs lo hi).map f:=by
 unfold cutV cutS
 rw [List.length_map,List.map_take,List.map_drop]
theorem cutS_len {α : Type} (xs:List α) (lo hi:Option Int):(cutS xs lo hi).length ≤ xs.length:=by
 unfold cutS
 rw [List.length_take,List.length_drop]
 omega
theorem ways_flat (x:List (Option Nat)):∀ v ∈ x.map wayV,flatV v = true:=by
 intro v hv
 obtain ⟨o,_,rfl⟩:=List.mem_map.mp hv
 cases o <;> rfl
theorem strs_flat (x:List Str):∀ v ∈ x.map V.str,flatV v = true:=by
 intro v hv
 obtain ⟨o,_,rfl⟩:=List.mem_map.mp hv
 rfl
theorem rooms_eq {K:PySem.W.Frag} {H:Hp} {p q:Addr} {rs:List (List (Option Nat))} {as bs:List Addr} (h1:RoomsAs H p rs as) (h2:RoomsAs H q rs bs):EqN K H 2 (.ref p) (.ref q) true:=by
 obtain ⟨a1,a2,a3⟩:=h1
 obtain ⟨b1,b2,b3⟩:=h2
 refine EqN.seq (.inl ⟨SqL.of a1,SqL.of b1⟩) (by simp; omega) fun i x y e1 e2=>?_
 rw [List.getElem?_map] at e1 e2
 cases qa:as[i]? with
 | none=>rw [qa] at e1; cases e1
 | some a=>
  cases qb:bs[i]? with
  | none=>rw [qb] at e2; cases e2
  | some b=>
   rw [qa] at e1; rw [qb] at e2
   cases e1; cases e2
   have hi:i < rs.length:=by have:=(List.getElem?_eq_some_iff.mp qa).1; omega
   exact EqN.seqFlat (.inl ⟨SqL.of (a3 i a _ qa (List.getElem?_eq_getElem hi)),SqL.of (b3 i b _ qb (List.getElem?_eq_getElem hi))⟩) (ways_flat _)
theorem rule_eq {K:PySem.W.Frag} {H:Hp} {p q:Addr} {r:Rl} (h1:RuleAt H p r) (h2:RuleAt H q r):EqN K H 3 (.ref p) (.ref q) true:=by
 obtain ⟨pw,pr,as,a1,a2,a3⟩:=h1
 obtain ⟨qw,qr,bs,b1,b2,b3⟩:=h2
 refine EqN.seq (.inr ⟨SqT.of a1,SqT.of b1⟩) rfl fun i x y e1 e2=>?_
 match i,e1,e2 with
 | 0,e1,e2=>cases e1; cases e2; exact EqN.refl rfl
 | 1,e1,e2=>cases e1; cases e2; exact EqN.seqFlat (.inl ⟨SqL.of a2,SqL.of b2⟩) (strs_flat _)
 | 2,e1,e2=>cases e1; cases e2; exact rooms_eq a3 b3
 | i + 3,e1,e2=>simp at e1
theorem copy_rooms {K:PySem.W.Frag} {pr L:Addr} {g:TG} {te:TE} {nT:Nat} {σ : L2.St} {Q:VK} {H:Hp} {rs:List (List (Option Nat))} {as:List Addr} (hR:RoomsAs H pr rs as) (hn:rs.length ≤ 60) (hL:H L = none)
  (hs:∀ (a:Addr) (xs:List V) (H':Hp) (C:VK),H' a = some (.lst xs)→(∀ l,H' l = none→C (.ref l) (upd H' l (.lst xs)))→g (.ref a) (σ ++ List.replicate nT none) H' fun σ2 H2=>te σ2 H2 C)
  (q:∀ H' bs,Same H H'→RoomsAs H' L rs bs→(∀ b ∈ bs,H b = none∧b ≠ L)→bs.Nodup→Q (.ref L) H'):compW (Itl K pr) g tYes te nT σ L Q (upd H L (.lst [])):=by
 obtain ⟨h1,h2,h3⟩:=hR
 refine compW_list (xs:=as.map V.ref) (fun i ys H'=>∃ bs:List Addr,Same H H'∧H' L = some (.lst ys)∧ys = bs.map V.ref∧bs.length = i∧(∀ b ∈ bs,H b = none∧b ≠ L∧∃ o,H' b = some o)∧bs.Nodup∧∀ (j:Nat) b x,bs[j]? = some b→rs[j]? = some x→H' b = some (.lst (x.map wayV)))
  ⟨[],same_new hL _,upd_same,rfl,rfl,by simp,List.nodup_nil,by simp⟩ (fun i ys H' _ h=>by obtain ⟨_,sm,_⟩:=h; exact SqL.of (sm _ _ h1)) ?_ ?_
 ·rintro i ys H' x hx hi ⟨bs,sm,hl,rfl,hb,hbn,hnd,hbx⟩
  rw [List.getElem?_map] at hx
  cases qa:as[i]? with
  | none=>rw [qa] at hx; cases hx
  | some a=>
   rw [qa] at hx; cases hx
   have hi':i < rs.length:=by have:=(List.getElem?_eq_some_iff.mp qa).1; omega
   have ha:=h3 i a _ qa (List.getElem?_eq_getElem hi')
   have e:=hs a _ H' (CStep (as.map V.ref).length i (fun i ys H'=>∃ bs:List Addr,Same H H'∧H' L = some (.lst ys)∧ys = bs.map V.ref∧bs.length = i∧(∀ b ∈ bs,H b = none∧b ≠ L∧∃ o,H' b = some o)∧bs.Nodup∧∀ (j:Nat) b x,bs[j]? = some b→rs[j]? = some x→H' b = some (.lst (x.map wayV))) L (bs.map V.ref)) (sm _ _ ha) ?_
   ·have e2:(compK (as.map V.ref).length i (fun i ys H'=>∃ bs:List Addr,Same H H'∧H' L = some (.lst ys)∧ys = bs.map V.ref∧bs.length = i∧(∀ b ∈ bs,H b = none∧b ≠ L∧∃ o,H' b = some o)∧bs.Nodup∧∀ (j:Nat) b x,bs[j]? = some b→rs[j]? = some x→H' b = some (.lst (x.map wayV))) L (bs.map V.ref) te) = fun σ2 H2=>te σ2 H2 (CStep (as.map V.ref).length i (fun i ys H'=>∃ bs:List Addr,Same H H'∧H' L = some (.lst ys)∧ys = bs.map V.ref∧bs.length = i∧(∀ b ∈ bs,H b = none∧b ≠ L∧∃ o,H' b = some o)∧bs.Nodup∧∀ (j:Nat) b x,bs[j]? = some b→rs[j]? = some x→H' b = some (.lst (x.map wayV))) L (bs.map V.ref)):=by
     funext σ2 H2; exact compK_at
    rw [e2]; exact e
   ·intro l hl0
    have nl:l ≠ L:=by
     rintro rfl
     rw [hl] at hl0; cases hl0
    have hl':upd H' l (.lst ((rs[i]).map wayV)) L = some (.lst (bs.map V.ref)):=by rw [upd_ne (Ne.symm nl)]; exact hl
    refine cstep hi (by rw [List.length_map]; exact hb) (by rw [List.length_map,h2]; exact smallL (by omega)) hl' ⟨bs ++ [l],(sm.trans (same_new hl0 _)).upd hL _,upd_same,by rw [List.map_append]; rfl,by simp [hb],?_,?_,?_⟩
    ·intro b hb'
     rcases List.mem_append.mp hb' with z | z
     ·obtain ⟨z1,z2,o,z3⟩:=hbn b z
      exact ⟨z1,z2,o,by rw [upd_ne z2]; exact (same_new hl0 _) _ _ z3⟩
     ·rw [List.mem_singleton.mp z]
      exact ⟨sm.free hl0,nl,_,by rw [upd_ne nl]; exact upd_same⟩
    ·rw [List.nodup_append]
     refine ⟨hnd,by simp,fun b hb' c hc=>?_⟩
     rw [List.mem_singleton.mp hc]
     rintro rfl
     obtain ⟨_,_,o,z⟩:=hbn b hb'
     rw [hl0] at z; cases z
    ·intro j b x e1 e2
     rcases Nat.lt_or_ge j bs.length with z | z
     ·rw [List.getElem?_append_left z] at e1
      have q1:=hbx j b x e1 e2
      have q2:=(hbn b (List.mem_of_getElem? e1)).2.1
      rw [upd_ne q2]; exact (same_new hl0 _) _ _ q1
     ·rw [List.getElem?_append_right z] at e1
      have hj:j - bs.length = 0:=by
       have:=(List.getElem?_eq_some_iff.mp e1).1
       simp at this; omega
      rw [hj] at e1
      have e1':l = b:=by simpa using e1
      subst e1'
      have hji:j = i:=by omega
      subst hji
      rw [List.getElem?_eq_getElem hi'] at e2
      cases e2
      rw [upd_ne nl]; exact upd_same
 ·rintro ys H' ⟨bs,sm,hl,rfl,hb,hbn,hnd,hbx⟩
  exact q H' bs sm ⟨hl,by rw [hb,List.length_map,h2],hbx⟩ (fun b z=>⟨(hbn b z).1,(hbn b z).2.1⟩) hnd
section
variable {P:Program} {w:World} {K:PySem.W.Frag} {mg:Str→Option Value} {base:Heap}
theorem ok_words (D:DefAt K mg "_law_words" s_law_words) (z_range:mg "range" = none) (z_int:mg "int" = none) (c_law_mixed:Cal P w K mg base 1 "_law_mixed" ["_law_cell", "_law_k"] spMix):Cal P w K mg base 2 "_law_words" ["_law_cell", "_law_many"] spWordsN:=by
 refine D.cal sc_law_words (fun _ _ _ _ _ _ us hl=>match us,hl with | [_,_],_=>rfl) (fun vs H Q E h=>by obtain ⟨c,n,rfl,_⟩:=h; rfl) (fun f cdv A outer s H vs Q E hr h=>?_)
 obtain ⟨c,n,rfl,hn,q⟩:=h
 refine ⟨_,(pss_cons (ps_let 2 sc_law_words.nd pe_str (hx:=lzv))
   (pss_cons (ps_let 3 sc_law_words.nd (pe_op op_addA pe_int (pe_op op_mod (pv 0 (hv:=vz2c)) pe_int)) (hx:=lzw))
   (pss_cons (ps_let 4 sc_law_words.nd (pe_op op_mod (pe_op op_fdiv (pv 0 (hv:=vz2c)) pe_int) (pv 3 (hv:=vz2f))) (hx:=lzx))
   (pss_cons (ps_let 5 sc_law_words.nd (pe_lst pa_nil) (hx:=lzy))
   (pss_cons (ps_for PassesOwn.never rfl (pi_range1 gzo z_range (pa_cons (pv 1 (hv:=vz2d)) pa_nil)) (pg_let 6 sc_law_words.nd (hx:=lzz)) (pss_cons (ps_let 7 sc_law_words.nd pe_str (hx:=lz10))
   (pss_cons (ps_for PassesOwn.never rfl (pi_range1 gzo z_range (pa_cons (pv 3 (hv:=vz2f)) pa_nil)) (pg_let 8 sc_law_words.nd (hx:=lz11)) (pss_one (ps_let 7 sc_law_words.nd (pe_op op_addA (pv 7 (hv:=vz2j)) (pe_ix (ix_K K) (pv 2 (hv:=vz2e)) (pe_op op_mod (pe_op op_addA (pe_cal c_law_mixed hr (pa_cons (pv 0 (hv:=vz2c)) (pa_cons (pv 8 (hv:=vz2k)) pa_nil)) (hg:=gzm)) (pe_op op_mulB (pe_op op_mulB pe_int (pv 6 (hv:=vz2i))) (pe_bty call_intA z_int bt_int (pa_cons (pe_cmpR op_eqA (pv 8 (hv:=vz2k)) (pv 4 (hv:=vz2g)) (nomark _)) pa_nil) (hg:=gzn)))) pe_int) (fun _ _=>rfl))) (hx:=lz10))))
   (pss_one (ps_expr (pe_bmK K PySem.F.plainAttrs_list PySem.F.slot_list_append PySem.F.type_list_append mt_appendA (pv 5 (hv:=vz2h)) (pa_cons (pv 7 (hv:=vz2j)) pa_nil)))))))
   (pss_one (ps_ret (pv 5 (hv:=vz2h))))))))),?_⟩
 walk_at "rd1"
 walk_at "nx"
 refine ⟨by decide,?_⟩
 have hsz0:∃ z:Nat,1 + c % 8 = (z:Int)∧1 ≤ z∧z ≤ 8:=⟨(1 + c % 8).toNat,by omega,by omega,by omega⟩
 obtain ⟨sz,esz,sz0,sz1⟩:=hsz0
 rw [esz]
 walk_at "nx"
 refine ⟨⟨by decide,by decide⟩,by omega,?_⟩
 have hat0:∃ z:Nat,c / 8 % (sz:Int) = (z:Int)∧z < sz:=⟨(c / 8 % (sz:Int)).toNat,by have:=Int.emod_nonneg (c / 8) (show (sz:Int) ≠ 0 by omega); omega,by have:=Int.emod_lt_of_pos (c / 8) (show (0:Int) < sz by omega); have:=Int.emod_nonneg (c / 8) (show (sz:Int) ≠ 0 by omega); omega⟩
 obtain ⟨at',eat,hat⟩:=hat0
 rw [eat]
 walk_at "nx"
 refine ⟨by decide,fun p hp=>?_⟩
 generalize hH1:upd H p _ = H1
 have sm1:=al_same hH1 hp
 have e1:=al_at hH1
 walk_at "nx"
 refine ⟨by omega,by omega,?_⟩
 refine forW_range (fun i σ H'=>∃ (ss:List Str) (o6 o7 o8:Option V),σ = [some (.int c),some (.int n),some (.str letters),some (.int sz),some (.int at'),some (.ref p),o6,o7,o8]∧Same H H'∧H' p = some (.lst (ss.map V.str))∧ss.length = i∧(∀ x ∈ ss,x.length ≤ 8)∧∀ (k:Nat) x,ss[k]? = some x→x.cps.toList[at']? = some (letF (mixF c at' + 5 * k * 1)))
  ⟨[],none,none,none,rfl,sm1,e1,rfl,by simp,by simp⟩ ?_ ?_
 ·rintro i σ H' hi ⟨ss,o6,o7,o8,rfl,sm,hl,hsn,hsl,hsk⟩
  rw [Int.toNat_natCast] at hi
  walk_at "rd1"
  walk_at "nx"
  refine ⟨by omega,by omega,?_⟩
  refine forW_range (fun j σ H2=>∃ (x:Str) (o8:Option V),σ = [some (.int c),some (.int n),some (.str letters),some (.int sz),some (.int at'),some (.ref p),some (.int (0 + (i:Int))),some (.str x),o8]∧H' = H2∧x.length = j∧(at' < j→x.cps.toList[at']? = some (letF (mixF c at' + 5 * i * 1))))
   ⟨_,_,rfl,rfl,rfl,fun h=>absurd h (by omega)⟩ ?_ ?_
  ·rintro j σ H2 hj ⟨x,o8,rfl,rfl,hx,hxa⟩
   rw [Int.toNat_natCast] at hj
   walk_at "rd1"
   refine ⟨c,0 + (j:Int),rfl,by omega,by omega,?_⟩
   walk_at "rd1"
   obtain ⟨l1,l2⟩:=letter_at (mixF c (0 + (j:Int)) + 5 * (0 + (i:Int)) * if 0 + (j:Int) = (at':Int) then 1 else 0)
   refine ⟨.inl ⟨by decide,by decide⟩,.inl ⟨by omega,by omega⟩,by decide,_,l1,l2,?_,x ++ ⟨#[letF (mixF c (0 + (j:Int)) + 5 * (0 + (i:Int)) * if 0 + (j:Int) = (at':Int) then 1 else 0)]⟩,_,rfl,?_,fun hlt=>?_⟩
   ·show x.length + 1 ≤ sizeLine
    exact smallL (by omega)
   ·rw [len_app1,hx]
   ·have hxl:x.cps.toList.length = j:=by rw [Array.length_toList]; exact hx
    rw [cps_app]
    rcases Nat.lt_or_ge at' j with g | g
    ·rw [List.getElem?_append_left (by omega)]; exact hxa g
    ·have e:at' = j:=by omega
     subst e
     rw [List.getElem?_append_right (by omega),hxl,Nat.sub_self,if_pos (by omega),Int.zero_add,Int.zero_add]; rfl
  ·rintro σ H2 ⟨x,o8,rfl,rfl,hx,hxa⟩
   rw [Int.toNat_natCast] at hx hxa
   walk_at "nx"
   refine ⟨⟨_,SqL.of hl⟩,_,hl,by rw [List.length_map]; exact small' (by omega),?_⟩
   refine ⟨ss ++ [x],_,_,_,rfl,sm.upd hp _,by rw [upd_same,List.map_append]; rfl,by simp [hsn],fun y hy=>?_,fun k y e=>?_⟩
   ·rcases List.mem_append.mp hy with z | z
    ·exact hsl y z
    ·rw [List.mem_singleton.mp z]; omega
   ·rcases Nat.lt_or_ge k ss.length with z | z
    ·rw [List.getElem?_append_left z] at e; exact hsk k y e
    ·rw [List.getElem?_append_right z] at e
     have hk:k - ss.length = 0:=by
      have:=(List.getElem?_eq_some_iff.mp e).1
      simp at this; omega
     rw [hk] at e
     have e':x = y:=by simpa using e
     subst e'
     rw [show k = i by omega]
     exact hxa hat
 ·rintro σ H' ⟨ss,o6,o7,o8,rfl,sm,hl,hsn,hsl,hsk⟩
  rw [Int.toNat_natCast] at hsn
  walk_at "nx"
  refine q p H' ss sm hp hl hsn hsl ?_
  rw [List.nodup_iff_pairwise_ne,List.pairwise_iff_getElem]
  intro a b ha hb hab e
  have h1:=hsk a _ (List.getElem?_eq_getElem ha)
  have h2:=hsk b _ (List.getElem?_eq_getElem hb)
  rw [e,h2] at h1
  have h3:=letF_inj (Option.some.inj h1)
  omega
def RoomsTo (H:Hp) (rp:Addr) (n z i:Nat) (as:List Addr) (rows:List (List (Option Nat))):Prop:=H rp = some (.lst (as.map V.ref))∧as.length = i∧rows.length = i∧(∀ (j:Nat) b x,as[j]? = some b→rows[j]? = some x→H b = some (.lst (x.map wayV))∧b ≠ rp)∧∀ x ∈ rows,x.length = n∧∀ k,some k ∈ x→k < z
theorem RoomsTo.push {H H':Hp} {rp L:Addr} {n z i:Nat} {as:List Addr} {rows:List (List (Option Nat))} {x:List (Option Nat)} (h:RoomsTo H rp n z i as rows) (sm:Same H H') (hL:H L = none) (hx:H' L = some (.lst (x.map wayV))) (hn:x.length = n) (hk:∀ k,some k ∈ x→k < z) :
  RoomsTo (upd H' rp (.lst (as.map V.ref ++ [.ref L]))) rp n z (i + 1) (as ++ [L]) (rows ++ [x]):=by
 obtain ⟨hl,h1,h2,h3,h4⟩:=h
 have nL:L ≠ rp:=Ne.symm (ne_of_none hl hL)
 refine ⟨by rw [upd_same,List.map_append]; rfl,by simp [h1],by simp [h2],fun j b y e1 e2=>?_,all_push h4 ⟨hn,hk⟩⟩
 rcases Nat.lt_or_ge j i with z' | z'
 ·rw [List.getElem?_append_left (by omega)] at e1 e2
  obtain ⟨q1,q2⟩:=h3 j b y e1 e2
  exact ⟨by rw [upd_ne q2]; exact sm _ _ q1,q2⟩
 ·rw [List.getElem?_append_right (by omega)] at e1 e2
  have hj0:j - as.length = 0:=by
   have:=(List.getElem?_eq_some_iff.mp e1).1
   simp at this; omega
  have hj1:j - rows.length = 0:=by omega
  rw [hj0] at e1
  rw [hj1] at e2
  have e1':L = b:=by simpa using e1
  have e2':x = y:=by simpa using e2
  subst e1' e2'
  exact ⟨by rw [upd_ne nL]; exact hx,nL⟩
theorem RoomsTo.rule {H H':Hp} {rp wp tp:Addr} {n z:Nat} {as:List Addr} {rows:List (List (Option Nat))} {ws:List Str} {sd:Int} (h:RoomsTo H rp n z z as rows) (sm:Same H H') (hw:H wp = some (.lst (ws.map V.str))) (ht:H' tp = some (.tup [.int sd,.ref wp,.ref rp])) (hsd:sd = 1∨sd = 2) (hn:ws.length = n) (n16:n ≤ 16) (z0:1 ≤ z) (z1:z ≤ 60) (hlw:∀ x ∈ ws,x.length ≤ 10) :
  RuleAt H' tp ⟨sd,ws,rows⟩∧RlOk ⟨sd,ws,rows⟩:=by
 obtain ⟨hl,h1,h2,h3,h4⟩:=h
 refine ⟨⟨wp,rp,as,ht,sm _ _ hw,sm _ _ hl,by show as.length = rows.length; omega,fun j b x e1 e2=>sm _ _ (h3 j b x e1 e2).1⟩,hsd,by show ws.length ≤ 16; omega,by show 1 ≤ rows.length; omega,by show rows.length ≤ 60; omega,fun x hx=>?_,hlw⟩
 obtain ⟨x1,x2⟩:=h4 x hx
 exact ⟨by show x.length = ws.length; omega,fun k hk=>by have:=x2 k hk; show k < rows.length; omega⟩
theorem share_at (l:List Int) (c:Int) (n:Nat) (h:l.length = n) (hn:0 < n) (hb:∀ x ∈ l,0 < x):∃ v,atI (l.map V.int) (c % (n:Int)) = some (.int v)∧0 < v:=by
 have a1:=Int.emod_nonneg c (show (n:Int) ≠ 0 by omega)
 have a2:=Int.emod_lt_of_pos c (show (0:Int) < n by omega)
 obtain ⟨v,hv,_⟩:=at_lst (xs:=l) (i:=c % (n:Int)) a1 (by omega)
 exact ⟨v,at_map a1 hv,hb v (List.mem_of_getElem? hv)⟩
theorem mod_way (mx:Int) {z:Nat} (hz:1 ≤ z):∃ k:Nat,mx % (z:Int) = (k:Int)∧k < z:=by
 have a1:=Int.emod_nonneg mx (show (z:Int) ≠ 0 by omega)
 have a2:=Int.emod_lt_of_pos mx (show (0:Int) < z by omega)
 exact ⟨(mx % (z:Int)).toNat,by omega,by omega⟩
theorem way_push {x:List (Option Nat)} {z:Nat} {o:Option Nat} (h:∀ k,some k ∈ x→k < z) (ho:∀ k,o = some k→k < z):∀ k,some k ∈ x ++ [o]→k < z:=fun k hk=>by
 rcases List.mem_append.mp hk with g | g
 ·exact h k g
 ·exact ho k (List.mem_singleton.mp g).symm
def sdT (side:Int) (u:Str):Str:=if side = 0 then u else Str.empty ++ Str.ofString (toString side) ++ Str.ofString "." ++ u
def spSidedT:Sp:=fun vs H Q _=>∃ (side:Int) (u:Str),vs = [.int side,.str u]∧(side = 0∨side = 1∨side = 2)∧u.length ≤ 1000∧Q (.str (sdT side u)) H
theorem ok_sided_text (D:DefAt K mg "sided_text" s_sided_text):Cal P w K mg base 1 "sided_text" ["side", "word"] spSidedT:=by
 refine D.cal sc_sided_text (fun _ _ _ _ _ _ us hl=>match us,hl with | [_,_],_=>rfl) (fun vs H Q E h=>by obtain ⟨_,_,rfl,_⟩:=h; rfl) (fun f cdv A outer s H vs Q E hr h=>?_)
 obtain ⟨side,u,rfl,hs,hu,q⟩:=h
 refine ⟨_,(pss_one (ps_ret (pe_ifExp (pt_cmpR op_eqA (pv 0 (hv:=vz0)) pe_int (nomark _)) (pv 1 (hv:=vz1)) (pe_fstr (pj_cons (pe_fmt (pv 0 (hv:=vz0))) (pj_cons pe_str (pj_cons (pe_fmt (pv 1 (hv:=vz1))) pj_nil))))))),?_⟩
 walk_at "rd1"
 unfold sdT at q
 refine ite2 (fun c=>by rw [if_pos c] at q; exact q) (fun c=>?_)
 rw [if_neg c] at q
 have hl:side.natAbs.log2 < 1920∧(Str.empty ++ Str.ofString (toString side)).length = 1∧(Str.empty ++ Str.ofString (toString side) ++ Str.ofString ".").length = 2:=by
  rcases hs with e | e | e
  ·exact absurd e c
  ·rw [e]; exact ⟨by decide,by decide +kernel,by decide +kernel⟩
  ·rw [e]; exact ⟨by decide,by decide +kernel,by decide +kernel⟩
 obtain ⟨l1,l2,l3⟩:=hl
 have l4:(Str.empty ++ Str.ofString (toString side) ++ Str.ofString "." ++ u).length ≤ sizeLine:=by rw [Str.length_append,l3]; exact smallL (by omega)
 exact ⟨l1,by rw [l2]; exact smallL (by omega),by rw [l3]; exact smallL (by omega),smallL (by omega),l4,l4,q⟩
def SameB (e:Addr) (H H':Hp):Prop:=∀ b o,b ≠ e→H b = some o→H' b = some o
def getP {α β : Type} [DecidableEq α] (l:List (α × β)) (k:α):Option β:=(l.find? fun p=>decide (p.1 = k)).map (·.2)
def putP {α β : Type} [DecidableEq α] (l:List (α × β)) (k:α) (v:β):List (α × β):=
 if (l.any fun p=>decide (p.1 = k)) = true then l.map (fun p=>if p.1 = k then (p.1,v) else p) else l ++ [(k,v)]
section
variable {α β : Type} [DecidableEq α]
theorem getP_nil {k:α}:getP ([]:List (α × β)) k = none:=rfl
theorem getP_pos {p:α × β} {r:List (α × β)} {k:α} (e:p.1 = k):getP (p :: r) k = some p.2:=by simp [getP,List.find?_cons,e]
theorem getP_neg {p:α × β} {r:List (α × β)} {k:α} (e:¬ p.1 = k):getP (p :: r) k = getP r k:=by simp [getP,List.find?_cons,e]
theorem getP_any (k:α):∀ l:List (α × β),(l.any fun p=>decide (p.1 = k)) = (getP l k).isSome
 | []=>rfl
 | p :: r=>by
  rw [List.any_cons]
  by_cases e:p.1 = k
  ·simp only [getP_pos e,decide_eq_true e,Bool.true_or,Option.isSome_some]
  ·rw [getP_neg e,decide_eq_false e,Bool.false_or]; exact getP_any k r
theorem getP_mem {k:α} {v:β}:∀ {l:List (α × β)},getP l k = some v→(k,v) ∈ l
 | [],h=>nomatch h
 | p :: r,h=>by
  by_cases e:p.1 = k
  ·rw [getP_pos e] at h; cases h; rw [← e]; exact List.mem_cons_self
  ·rw [getP_neg e] at h; exact List.mem_cons_of_mem _ (getP_mem h)
theorem getP_map (k j:α) (y:β):∀ l:List (α × β),getP (l.map fun p=>if p.1 = k then (p.1,y) else p) j = (getP l j).map fun x=>if j = k then y else x
 | []=>rfl
 | p :: r=>by
  have ih:=getP_map k j y r
  rw [List.map_cons]
  by_cases h:p.1 = k
  ·rw [if_pos h]
   by_cases e:p.1 = j
   ·rw [getP_pos (p:=(p.1,y)) e,getP_pos e,Option.map_some,if_pos (e.symm.trans h)]
   ·rw [getP_neg (p:=(p.1,y)) e,getP_neg e,ih]
  ·rw [if_neg h]
   by_cases e:p.1 = j
   ·rw [getP_pos (p:=p) e,getP_pos e,Option.map_some,if_neg (fun z=>h (e.trans z))]
   ·rw [getP_neg (p:=p) e,getP_neg e,ih]
theorem getP_app (k:α) (m:List (α × β)):∀ l:List (α × β),getP (l ++ m) k = match getP l k with | some v=>some v | none=>getP m k
 | []=>by simp [getP_nil]
 | p :: r=>by
  rw [List.cons_append]
  by_cases e:p.1 = k
  ·rw [getP_pos e,getP_pos e]
  ·rw [getP_neg e,getP_neg e]; exact getP_app k m r
theorem getP_put (l:List (α × β)) (k j:α) (y:β):getP (putP l k y) j = if j = k then some y else getP l j:=by
 unfold putP
 rw [getP_any]
 cases h:getP l k with
 | some v=>
  rw [if_pos (by rfl),getP_map]
  by_cases e:j = k
  ·rw [if_pos e,e,h]; simp
  ·rw [if_neg e]; cases getP l j with
   | none=>rfl
   | some x=>simp [e]
 | none=>
  rw [if_neg (by simp),getP_app]
  by_cases e:j = k
  ·rw [if_pos e,e,h]; exact getP_pos rfl
  ·rw [if_neg e]
   cases getP l j with
   | some x=>rfl
   | none=>exact getP_neg (fun z=>e z.symm)
theorem putP_len (l:List (α × β)) (k:α) (v:β):(putP l k v).length ≤ l.length + 1:=by
 unfold putP
 split
 ·rw [List.length_map]; omega
 ·rw [List.length_append,List.length_cons,List.length_nil]; omega
theorem putP_mem {l:List (α × β)} {k:α} {v:β} {p:α × β} (h:p ∈ putP l k v):p = (k,v)∨(p ∈ l∧p.1 ≠ k):=by
 unfold putP at h
 rw [getP_any] at h
 cases hk:getP l k with
 | some x=>
  rw [hk,if_pos (by rfl)] at h
  obtain ⟨q,hq,e⟩:=List.mem_map.mp h
  by_cases z:q.1 = k
  ·rw [if_pos z] at e; left; rw [← e,z]
  ·rw [if_neg z] at e; right; rw [← e]; exact ⟨hq,z⟩
 | none=>
  rw [hk,if_neg (by simp)] at h
  rcases List.mem_append.mp h with h | h
  ·right
   refine ⟨h,fun z=>?_⟩
   have:(l.any fun q=>decide (q.1 = k)) = true:=List.any_eq_true.mpr ⟨p,h,by simp [z]⟩
   rw [getP_any,hk] at this; cases this
  ·left; simpa using h
def RelD {κ : Type} (kf:α→κ) (R:α→V→β→Prop) (kvs:List (κ × V)) (l:List (α × β)):Prop:=Paired (fun (kv:κ × V) (p:α × β)=>kv.1 = kf p.1∧R p.1 kv.2 p.2) kvs l
theorem RelD.val {κ : Type} [DecidableEq κ] {kf:α→κ} (hk:∀ a b,kf a = kf b→a = b) {R:α→V→β→Prop} (k:α):∀ {kvs:List (κ × V)} {l:List (α × β)},RelD kf R kvs l→(valV kvs (kf k) = none∧getP l k = none)∨∃ v x,valV kvs (kf k) = some v∧getP l k = some x∧R k v x
 | _,_,.nil=>.inl ⟨rfl,rfl⟩
 | _,_,.cons (a:=a) (b:=b) h t=>by
  by_cases e:b.1 = k
  ·have e2:a.1 = kf k:=by rw [h.1,e]
   exact .inr ⟨_,_,valV_pos e2,getP_pos e,e ▸ h.2⟩
  ·have e2:¬ a.1 = kf k:=fun z=>e (hk _ _ (h.1 ▸ z))
   rw [valV_neg e2,getP_neg e]
   exact RelD.val hk k t
theorem RelD.imp {κ : Type} {kf:α→κ} {R R':α→V→β→Prop} (h:∀ k v x,R k v x→R' k v x):∀ {kvs:List (κ × V)} {l:List (α × β)},RelD kf R kvs l→RelD kf R' kvs l
 | _,_,.nil=>.nil
 | _,_,.cons a t=>.cons ⟨a.1,h _ _ _ a.2⟩ (RelD.imp h t)
theorem RelD.mapped {κ : Type} [DecidableEq κ] {kf:α→κ} (hk:∀ a b,kf a = kf b→a = b) {R R':α→V→β→Prop} {k:α} {v:V} {x:β} (ho:∀ k' v' x',k' ≠ k→R k' v' x'→R' k' v' x') (new:R' k v x):∀ {kvs:List (κ × V)} {l:List (α × β)},RelD kf R kvs l→
  RelD kf R' (kvs.map fun kv=>if kv.1 = kf k then (kv.1,v) else kv) (l.map fun p=>if p.1 = k then (p.1,x) else p)
 | _,_,.nil=>.nil
 | _,_,.cons (a:=a) (b:=b) h t=>by
  rw [List.map_cons,List.map_cons]
  refine .cons ?_ (RelD.mapped hk ho new t)
  by_cases e:b.1 = k
  ·have e2:a.1 = kf k:=by rw [h.1,e]
   rw [if_pos e,if_pos e2]; exact ⟨h.1,e ▸ new⟩
  ·have e2:¬ a.1 = kf k:=fun z=>e (hk _ _ (h.1 ▸ z))
   rw [if_neg e,if_neg e2]; exact ⟨h.1,ho _ _ _ e h.2⟩
theorem RelD.snoc {κ : Type} {kf:α→κ} {R:α→V→β→Prop} {k:α} {v:V} {x:β} (new:R k v x):∀ {kvs:List (κ × V)} {l:List (α × β)},RelD kf R kvs l→RelD kf R (kvs ++ [(kf k,v)]) (l ++ [(k,x)])
 | _,_,.nil=>.cons ⟨rfl,new⟩ .nil
 | _,_,.cons h t=>.cons h (RelD.snoc new t)
theorem RelD.mem {κ : Type} {kf:α→κ} {R R':α→V→β→Prop}:∀ {kvs:List (κ × V)} {l:List (α × β)},RelD kf R kvs l→(∀ p ∈ l,∀ v,R p.1 v p.2→R' p.1 v p.2)→RelD kf R' kvs l
 | _,_,.nil,_=>.nil
 | _,_,.cons (b:=b) a t,h=>.cons ⟨a.1,h b List.mem_cons_self _ a.2⟩ (RelD.mem t (fun p hp=>h p (List.mem_cons_of_mem _ hp)))
theorem RelD.put {κ : Type} [DecidableEq κ] {kf:α→κ} (hk:∀ a b,kf a = kf b→a = b) {R R':α→V→β→Prop} {k:α} {v:V} {x:β} (ho:∀ k' v' x',k' ≠ k→R k' v' x'→R' k' v' x') (new:R' k v x) {kvs:List (κ × V)} {l:List (α × β)} (h:RelD kf R kvs l) :
  RelD kf R' (putK kvs (kf k) v) (putP l k x):=by
 unfold putK putP
 rw [valV_any,getP_any]
 rcases RelD.val hk k h with ⟨e1,e2⟩ | ⟨v',x',e1,e2,_⟩
 ·rw [e1,e2,if_neg (by simp),if_neg (by simp)]
  refine RelD.snoc new (RelD.mem h (fun p hp v hv=>ho _ _ _ (fun z=>?_) hv))
  have:(l.any fun q=>decide (q.1 = k)) = true:=List.any_eq_true.mpr ⟨p,hp,by simp [z]⟩
  rw [getP_any,e2] at this; cases this
 ·rw [e1,e2,if_pos (by rfl),if_pos (by rfl)]
  exact RelD.mapped hk ho new h
theorem RelD.len {κ : Type} {kf:α→κ} {R:α→V→β→Prop}:∀ {kvs:List (κ × V)} {l:List (α × β)},RelD kf R kvs l→kvs.length = l.length
 | _,_,.nil=>rfl
 | _,_,.cons _ t=>by simp [RelD.len t]
theorem relD_map {κ : Type} (kf:α→κ) (vf:β→V):∀ l:List (α × β),RelD kf (fun _ v x=>v = vf x) (l.map fun p=>(kf p.1,vf p.2)) l
 | []=>.nil
 | _ :: r=>.cons ⟨rfl,rfl⟩ (relD_map kf vf r)
theorem relD_eq {κ : Type} {kf:α→κ} {vf:β→V}:∀ {kvs:List (κ × V)} {l:List (α × β)},RelD kf (fun _ v x=>v = vf x) kvs l→kvs = l.map fun p=>(kf p.1,vf p.2)
 | _,_,.nil=>rfl
 | _,_,.cons h t=>by
  rw [List.map_cons,relD_eq t]
  congr 1
  exact Prod.ext h.1 h.2
end
abbrev Rs:=List (Nat × Nat)
def rsD (rs:Rs):List (Key × V):=rs.map fun p=>((Sum.inl (p.1:Int):Key),V.int (p.2:Int))
theorem inlN_inj' (a b:Nat) (h:(Sum.inl (a:Int):Key) = Sum.inl (b:Int)):a = b:=by
 have:=Sum.inl.inj h; omega
theorem rsD_val (rs:Rs) (k:Nat):valV (rsD rs) (.inl (k:Int)) = (getP rs k).map fun s=>V.int (s:Int):=by
 rcases RelD.val (kf:=fun a:Nat=>(Sum.inl (a:Int):Key)) inlN_inj' k (relD_map (fun a:Nat=>(Sum.inl (a:Int):Key)) (fun s:Nat=>V.int (s:Int)) rs) with ⟨e1,e2⟩ | ⟨v,x,e1,e2,e3⟩
 ·rw [e2]; exact e1
 ·rw [e2]; rw [e3] at e1; exact e1
theorem rsD_put (rs:Rs) (k s:Nat):putK (rsD rs) (.inl (k:Int)) (.int (s:Int)) = rsD (putP rs k s):=
 relD_eq (RelD.put (kf:=fun a:Nat=>(Sum.inl (a:Int):Key)) inlN_inj' (fun _ _ _ _ h=>h) rfl (relD_map (fun a:Nat=>(Sum.inl (a:Int):Key)) (fun s:Nat=>V.int (s:Int)) rs))
def behStep (c:List (Option Nat)) (acc:Rs) (p:Nat × Nat):Rs:=
 match c.getD p.1 none with
 | none=>acc
 | some j=>if p.2 ≤ (getP acc j).getD p.2 then putP acc j p.2 else acc
def behP (c:List (Option Nat)) (rs:Rs):Rs:=rs.foldl (behStep c) []
theorem behStep_len (c:List (Option Nat)) (acc:Rs) (p:Nat × Nat):(behStep c acc p).length ≤ acc.length + 1:=by
 unfold behStep
 split
 ·omega
 ·split
  ·exact putP_len _ _ _
  ·omega
theorem behP_len (c:List (Option Nat)) (rs:Rs):(behP c rs).length ≤ rs.length:=by
 have key:∀ (rs acc:Rs),(rs.foldl (behStep c) acc).length ≤ acc.length + rs.length:=fun rs=>by
  induction rs with
  | nil=>intro acc; exact Nat.le_refl _
  | cons p r ih=>intro acc; rw [List.foldl_cons,List.length_cons]; have:=ih (behStep c acc p); have:=behStep_len c acc p; omega
 have:=key rs []
 rw [List.length_nil,Nat.zero_add] at this
 exact this
def spBeh:Sp:=fun vs H Q _=>∃ (a b:Addr) (rs:Rs) (c:List (Option Nat)),vs = [.ref a,.ref b]∧H a = some (.dK (rsD rs))∧H b = some (.lst (c.map wayV))∧rs.length ≤ 100000∧(∀ p ∈ rs,∃ j,c[p.1]? = some (some j))∧
 ∀ (L:Addr) (H':Hp),Same H H'→H L = none→H' L = some (.dK (rsD (behP c rs)))→Q (.ref L) H'
theorem ok_behind (D:DefAt K mg "starts_behind" s_starts_behind):Cal P w K mg base 1 "starts_behind" ["starts", "ways"] spBeh:=by
 refine D.cal (k:=0) sc_starts_behind (fun _ _ _ _ _ _ us hl=>match us,hl with | [_,_],_=>rfl) (fun vs H Q E h=>by obtain ⟨_,_,_,_,rfl,_⟩:=h; rfl) (fun f cdv A outer s H vs Q E hr h=>?_)
 obtain ⟨a,b,rs,c,rfl,ea,eb,hz,hc,q⟩:=h
 refine ⟨_,(pss_cons (ps_let 2 sc_starts_behind.nd pe_dnewK (hx:=lz0))
   (pss_cons (ps_thaw (ps_for PassesOwn.never rfl (pi_items (pe_bm0K K PySem.F.plainAttrs_dict PySem.F.slot_dict_items PySem.F.type_dict_items mt_items (pv 0 (hv:=vz7)))) (pg_tupK K (n:=2) (pgs_cons (pg_let 3 sc_starts_behind.nd (hx:=lz1)) (pgs_cons (pg_let 4 sc_starts_behind.nd (hx:=lz2)) pgs_nil))) (pss_cons (ps_let 5 sc_starts_behind.nd (pe_ix (ix_K K) (pv 1 (hv:=vz8)) (pv 3 (hv:=vza)) (fun _ _=>rfl)) (hx:=lz3))
   (pss_one (ps_if (pt_cmpR op_le (pv 4 (hv:=vzb)) (pe_dget2 (hu_of hr) (pv 2 (hv:=vz9)) (pv 5 (hv:=vzc)) (pv 4 (hv:=vzb)) ⟨rfl,rfl,rfl,rfl⟩) (nomark _)) (pss_one (ps_asg (pv 4 (hv:=vzb)) (pg_sub (pv 2 (hv:=vz9)) (pv 5 (hv:=vzc)) (set_D hr)))) pss_nil)))))
   (pss_one (ps_ret (pv 2 (hv:=vz9)))))),?_⟩
 walk_at "rd1"
 intro L hL
 have sm:=same_new hL (.dK [])
 have eL:upd H L (.dK []) L = some (.dK (rsD [])):=upd_same
 have ea1:=sm _ _ ea
 have eb1:=sm _ _ eb
 have nLa:L ≠ a:=Ne.symm (ne_of_none ea hL)
 have nba:b ≠ a:=fun z=>by rw [z,ea] at eb; cases eb
 have nbL:b ≠ L:=ne_of_none eb hL
 generalize upd H L (.dK []) = H1 at sm eL ea1 eb1 ⊢
 walk_at "nx"
 unfold tThaw
 rw [tFor_at,iItems_at]
 walk_at "rd1"
 refine ⟨.inr (.inr (.inl ⟨rfl,.inl ⟨_,ea1⟩⟩)),?_⟩
 unfold rItems
 refine ⟨a,_,rfl,rfl,ea1,fun v hv=>?_⟩
 have s2:=same_new hv (viewI v a)
 refine ⟨v,a,_,rfl,upd_same,s2 _ _ ea1,fun ob=>?_⟩
 have nva:v ≠ a:=Ne.symm (ne_of_none ea1 hv)
 have fz:upd (upd H1 v (viewI v a)) a (.frz ob (.dK (rsD rs))) a = some (.frz ob (.dK (rsD rs))):=upd_same
 have eL2:upd (upd H1 v (viewI v a)) a (.frz ob (.dK (rsD rs))) L = some (.dK (rsD [])):=by rw [upd_ne nLa]; exact s2 _ _ eL
 have eb2:upd (upd H1 v (viewI v a)) a (.frz ob (.dK (rsD rs))) b = some (.lst (c.map wayV)):=by rw [upd_ne nba]; exact s2 _ _ eb1
 have sb2:∀ d o,d ≠ a→H d = some o→upd (upd H1 v (viewI v a)) a (.frz ob (.dK (rsD rs))) d = some o:=fun d o hd e=>by rw [upd_ne hd]; exact s2 _ _ (sm _ _ e)
 generalize upd (upd H1 v (viewI v a)) a (.frz ob (.dK (rsD rs))) = H2 at fz eL2 eb2 sb2 ⊢
 refine forW_items (d:=a) (o:=ob) (kvs:=rsD rs) (fun i σ H'=>∃ (o3 o4 o5:Option V),σ = [some (.ref a),some (.ref b),some (.ref L),o3,o4,o5]∧SameB L H2 H'∧H' L = some (.dK (rsD ((rs.take i).foldl (behStep c) []))))
  ⟨_,_,_,rfl,fun _ _ _ z=>z,eL2⟩ (fun i σ H' _ h=>by obtain ⟨_,_,_,_,sb,_⟩:=h; exact sb a _ (Ne.symm nLa) fz) ?_ ?_
 ·rintro i k x t σ H' hi ⟨o3,o4,o5,rfl,sb,eL'⟩ ht
  have hi':∃ p,rs[i]? = some p∧k = .inl (p.1:Int)∧x = .int (p.2:Int):=by
   unfold rsD at hi
   rw [List.getElem?_map] at hi
   cases e:rs[i]? with
   | none=>rw [e] at hi; cases hi
   | some p=>rw [e] at hi; cases hi; exact ⟨p,rfl,rfl,rfl⟩
  obtain ⟨p,hp,rfl,rfl⟩:=hi'
  obtain ⟨j,hj⟩:=hc p (List.mem_of_getElem? hp)
  have st:=same_new ht (.tup [kV (.inl (p.1:Int)),.int (p.2:Int)])
  have et:upd H' t (.tup [kV (.inl (p.1:Int)),.int (p.2:Int)]) t = some (.tup [kV (.inl (p.1:Int)),.int (p.2:Int)]):=upd_same
  have eL3:=st _ _ eL'
  have sb3:SameB L H2 (upd H' t (.tup [kV (.inl (p.1:Int)),.int (p.2:Int)])):=fun d o hd z=>st _ _ (sb d o hd z)
  generalize upd H' t (.tup [kV (.inl (p.1:Int)),.int (p.2:Int)]) = H3 at st et eL3 sb3 ⊢
  have ek:(rs.take (i + 1)).foldl (behStep c) [] = behStep c ((rs.take i).foldl (behStep c) []) p:=by
   rw [List.take_add_one,hp]
   simp
  have hcj:c.getD p.1 none = some j:=by rw [List.getD_eq_getElem?_getD,hj]; rfl
  walk_at "rd1"
  refine ⟨t,_,rfl,SqT.of et,rfl,?_⟩
  walk_at "rd1"
  refine ixL (sb3 b _ nbL eb2) (atI_nat (by rw [List.getElem?_map,hj]; rfl)) ?_
  walk_at "nx"
  have hal:((rs.take i).foldl (behStep c) []).length ≤ 100000:=by
   have h1:=behP_len c (rs.take i)
   have h2:(rs.take i).length ≤ rs.length:=by rw [List.length_take]; exact Nat.min_le_right _ _
   exact Nat.le_trans h1 (Nat.le_trans h2 hz)
  generalize (rs.take i).foldl (behStep c) [] = acc at ek eL3 hal ⊢
  have e1:(valV (rsD acc) (.inl (j:Int))).getD (V.int (p.2:Int)) = V.int (((getP acc j).getD p.2:Nat):Int):=by rw [rsD_val]; cases getP acc j <;> rfl
  refine ⟨isD_of eL3,_,DGet.k (k:=.inl (j:Int)) eL3,?_⟩
  rw [e1]
  walk_at "rd1"
  have eb':behStep c acc p = if p.2 ≤ (getP acc j).getD p.2 then putP acc j p.2 else acc:=by unfold behStep; rw [hcj]
  rw [eb'] at ek
  refine ite2 (fun h=>?_) (fun h=>?_)
  ·have h':p.2 ≤ (getP acc j).getD p.2:=by have:=h; omega
   refine ⟨L,_,.inl (j:Int),rfl,rfl,eL3,small' (by rw [show (rsD acc).length = acc.length from List.length_map _]; omega),_,_,_,rfl,fun d o hd z=>by rw [upd_ne hd]; exact sb3 d o hd z,?_⟩
   rw [upd_same,ek,rsD_put,if_pos h']
  ·have h':¬ p.2 ≤ (getP acc j).getD p.2:=by have:=h; omega
   refine ⟨_,_,_,rfl,sb3,?_⟩
   rw [eL3,ek,if_neg h']
 ·rintro σ H' ⟨o3,o4,o5,rfl,sb,eL'⟩
  rw [show (rsD rs).length = rs.length from List.length_map _,List.take_length] at eL'
  refine ⟨a,ob,rsD rs,(fun o u z=>by rw [ea1] at z; cases z),sb a _ (Ne.symm nLa) fz,?_⟩
  walk_at "nx"
  refine q L _ (fun d o e=>?_) hL (by rw [upd_ne nLa]; exact eL')
  by_cases hd:d = a
  ·rw [hd] at e ⊢; rw [ea] at e; cases e; exact upd_same
  ·rw [upd_ne hd]; exact sb d o (ne_of_none e hL) (sb2 d o hd e)
def sidesOf (r:Rl):List Int:=if r.s = 1 then [0] else [1,2]
def colOf (r:Rl) (i:Nat):List (Option Nat):=r.rs.map fun row=>row.getD i none
set_option genInjectivity false in
set_option genSizeOf false in
structure WE where
 C:Addr
 w:Addr
 dx:Addr
 sa:Addr
 ta:Addr
 sd:Addr
 wd:Addr
 bd:Addr
 bl:Addr
 wk:List (Key × V)
 bk:List (Key × V)
 r:Rl
 pl:Nat
 nm:Str
set_option genInjectivity false in
set_option genSizeOf false in
structure WD where
 S:List (List Int × Rs)
 T:List ((Int × Int) × List (Int × Int))
def wF (e:WE):List (Str × V):=[("sides", .ref e.sd),("column", .non),("ways", .ref e.wd),("blames", .ref e.bd),("starts", .ref e.sa),("ties", .ref e.ta)]
theorem wF_sides (e:WE):(wF e).lookup ("sides" : Str) = some (.ref e.sd):=by unfold wF; walk_at "lk"
theorem wF_column (e:WE):(wF e).lookup ("column" : Str) = some .non:=by unfold wF; walk_at "lk"
theorem wF_ways (e:WE):(wF e).lookup ("ways" : Str) = some (.ref e.wd):=by unfold wF; walk_at "lk"
theorem wF_blames (e:WE):(wF e).lookup ("blames" : Str) = some (.ref e.bd):=by unfold wF; walk_at "lk"
theorem wF_starts (e:WE):(wF e).lookup ("starts" : Str) = some (.ref e.sa):=by unfold wF; walk_at "lk"
theorem wF_ties (e:WE):(wF e).lookup ("ties" : Str) = some (.ref e.ta):=by unfold wF; walk_at "lk"
theorem wF_no (e:WE) {m:Str} (h:(m == "sides" || m == "column" || m == "ways" || m == "blames" || m == "starts" || m == "ties") = false):(wF e).lookup m = none:=by
 simp only [Bool.or_eq_false_iff] at h
 obtain ⟨⟨⟨⟨⟨h1,h2⟩,h3⟩,h4⟩,h5⟩,h6⟩:=h
 unfold wF
 rw [lk_miss h1,lk_miss h2,lk_miss h3,lk_miss h4,lk_miss h5,lk_miss h6]; rfl
structure StatAt (H:Hp) (e:WE):Prop where
 ob:H e.w = some (.ins e.C e.dx (wF e))
 sd:H e.sd = some (.tup ((sidesOf e.r).map V.int))
 wd:H e.wd = some (.dK e.wk)
 bd:H e.bd = some (.dK e.bk)
 bl:H e.bl = some (.tup [.int (e.pl:Int),.str e.nm])
 no:∀ u,u ∉ e.r.ws→valV e.wk (.inr u) = none
 yes:∀ u,u ∈ e.r.ws→∃ a b,valV e.wk (.inr u) = some (.ref a)∧H a = some (.lst ((colOf e.r (e.r.ws.idxOf u)).map wayV))∧valV e.bk (.inr u) = some (.ref b)∧H b = some (.lst (e.r.rs.map fun _=>V.ref e.bl))
 ok:RlOk e.r
section
variable {H H' H0:Hp} {e:WE} {Q:V→Prop}
theorem StatAt.mono (h:StatAt H e) (sm:Same H H'):StatAt H' e:=
 ⟨sm _ _ h.ob,sm _ _ h.sd,sm _ _ h.wd,sm _ _ h.bd,sm _ _ h.bl,h.no,fun u hu=>let ⟨a,b,h1,h2,h3,h4⟩:=h.yes u hu; ⟨a,b,h1,sm _ _ h2,h3,sm _ _ h4⟩,h.ok⟩
theorem StatAt.sides (h:StatAt H e) (q:Q (.ref e.sd)):∃ dx fs v,H e.w = some (.ins e.C dx fs)∧fs.lookup ("sides" : Str) = some v∧Q v:=⟨_,_,_,h.ob,wF_sides e,q⟩
theorem StatAt.column (h:StatAt H e) (q:Q .non):∃ dx fs v,H e.w = some (.ins e.C dx fs)∧fs.lookup ("column" : Str) = some v∧Q v:=⟨_,_,_,h.ob,wF_column e,q⟩
theorem StatAt.ways (h:StatAt H e) (q:Q (.ref e.wd)):∃ dx fs v,H e.w = some (.ins e.C dx fs)∧fs.lookup ("ways" : Str) = some v∧Q v:=⟨_,_,_,h.ob,wF_ways e,q⟩
theorem StatAt.blames (h:StatAt H e) (q:Q (.ref e.bd)):∃ dx fs v,H e.w = some (.ins e.C dx fs)∧fs.lookup ("blames" : Str) = some v∧Q v:=⟨_,_,_,h.ob,wF_blames e,q⟩
theorem StatAt.starts (h:StatAt H e) (q:Q (.ref e.sa)):∃ dx fs v,H e.w = some (.ins e.C dx fs)∧fs.lookup ("starts" : Str) = some v∧Q v:=⟨_,_,_,h.ob,wF_starts e,q⟩
theorem StatAt.ties (h:StatAt H e) (q:Q (.ref e.ta)):∃ dx fs v,H e.w = some (.ins e.C dx fs)∧fs.lookup ("ties" : Str) = some v∧Q v:=⟨_,_,_,h.ob,wF_ties e,q⟩
theorem StatAt.isM (h:StatAt H e) {m:Str} (hm:(m == "sides" || m == "column" || m == "ways" || m == "blames" || m == "starts" || m == "ties") = false):∃ dx fs,H e.w = some (.ins e.C dx fs)∧fs.lookup m = none:=⟨_,_,h.ob,wF_no e hm⟩
end
set_option genSizeOf false in
inductive Role where
 | st (k:Nat)
 | ti (k:Nat)
 | rd (k:Nat) (hs:List Int)
 | tl (k:Nat) (p:Int × Int)
deriving DecidableEq
def hsK (hs:List Int):List Key:=hs.map Sum.inl
def twK (p:Int × Int):List Key:=[.inl p.1,.inl p.2]
theorem hsK_inj (a b:List Int) (h:hsK a = hsK b):a = b:=(List.map_inj_right (f:=(Sum.inl:Int→Key)) (fun x y e=>Sum.inl.inj e)).mp h
theorem twK_inj (a b:Int × Int) (h:twK a = twK b):a = b:=by
 unfold twK at h
 have h1:=(List.cons.inj h).1
 have h2:=(List.cons.inj (List.cons.inj h).2).1
 exact Prod.ext (Sum.inl.inj h1) (Sum.inl.inj h2)
theorem hsK_kV (hs:List Int):(hsK hs).map kV = hs.map V.int:=by unfold hsK; rw [List.map_map]; rfl
structure WAt (H0 H:Hp) (es:List WE) (ds:List WD) (Θ : Addr→Option Role):Prop where
 sm:Same H0 H
 len:es.length = ds.length
 stat:∀ e ∈ es,StatAt H0 e
 fr:∀ a r,Θ a = some r→H0 a = none
 inj:∀ a b r,Θ a = some r→Θ b = some r→a = b
 own:∀ k e,es[k]? = some e→Θ e.sa = some (.st k)∧Θ e.ta = some (.ti k)
 st:∀ a k,Θ a = some (.st k)→∃ d kvs,ds[k]? = some d∧H a = some (.dT kvs)∧RelD hsK (fun hs v _=>∃ b,v = .ref b∧Θ b = some (.rd k hs)) kvs d.S
 ti:∀ a k,Θ a = some (.ti k)→∃ d kvs,ds[k]? = some d∧H a = some (.dT kvs)∧RelD twK (fun p v _=>∃ b,v = .ref b∧Θ b = some (.tl k p)) kvs d.T
 rd:∀ a k hs,Θ a = some (.rd k hs)→∃ d rs,ds[k]? = some d∧getP d.S hs = some rs∧H a = some (.dK (rsD rs))
 tl:∀ a k p,Θ a = some (.tl k p)→∃ d l as,ds[k]? = some d∧getP d.T p = some l∧H a = some (.lst (as.map V.ref))∧Paired (fun b (x:Int × Int)=>H b = some (.tup [.int x.1,.int x.2])) as l
section
variable {H0 H H':Hp} {es:List WE} {ds:List WD} {Θ : Addr→Option Role} {k:Nat} {e:WE} {d:WD}
theorem paired_imp {α β : Type} {R R':α→β→Prop} (h:∀ a b,R a b→R' a b):∀ {xs:List α} {ys:List β},Paired R xs ys→Paired R' xs ys
 | _,_,.nil=>.nil
 | _,_,.cons a t=>.cons (h _ _ a) (paired_imp h t)
theorem paired_snocW {α β : Type} {R:α→β→Prop} {x:α} {y:β} (hxy:R x y):∀ {xs:List α} {ys:List β},Paired R xs ys→Paired R (xs ++ [x]) (ys ++ [y])
 | _,_,.nil=>.cons hxy .nil
 | _,_,.cons a t=>.cons a (paired_snocW hxy t)
theorem WAt.mono (h:WAt H0 H es ds Θ) (s:Same H H'):WAt H0 H' es ds Θ:=
  ⟨h.sm.trans s,h.len,h.stat,h.fr,h.inj,h.own,fun a k q=>let ⟨d,kvs,h1,h2,h3⟩:=h.st a k q; ⟨d,kvs,h1,s _ _ h2,h3⟩,fun a k q=>let ⟨d,kvs,h1,h2,h3⟩:=h.ti a k q; ⟨d,kvs,h1,s _ _ h2,h3⟩,
   fun a k hs q=>let ⟨d,rs,h1,h2,h3⟩:=h.rd a k hs q; ⟨d,rs,h1,h2,s _ _ h3⟩,fun a k p q=>let ⟨d,l,as,h1,h2,h3,h4⟩:=h.tl a k p q; ⟨d,l,as,h1,h2,s _ _ h3,paired_imp (fun b x z=>s _ _ z) h4⟩⟩
theorem WAt.stat' (h:WAt H0 H es ds Θ) (he:es[k]? = some e):StatAt H e:=(h.stat e (List.mem_of_getElem? he)).mono h.sm
theorem WAt.getS (h:WAt H0 H es ds Θ) (he:es[k]? = some e) (hd:ds[k]? = some d) (hs:List Int):∃ kvs,H e.sa = some (.dT kvs)∧kvs.length = d.S.length∧((valV kvs (hsK hs) = none∧getP d.S hs = none)∨∃ b rs,valV kvs (hsK hs) = some (.ref b)∧getP d.S hs = some rs∧Θ b = some (.rd k hs)∧H b = some (.dK (rsD rs))):=by
 obtain ⟨d',kvs,h1,h2,h3⟩:=h.st _ _ (h.own k e he).1
 rw [hd] at h1; cases h1
 refine ⟨kvs,h2,h3.len,?_⟩
 rcases RelD.val hsK_inj hs h3 with ⟨e1,e2⟩ | ⟨v,x,e1,e2,b,rfl,e3⟩
 ·exact .inl ⟨e1,e2⟩
 ·obtain ⟨d'',rs,q1,q2,q3⟩:=h.rd b k hs e3
  rw [hd] at q1; cases q1
  exact .inr ⟨b,rs,e1,q2,e3,q3⟩
theorem WAt.getT (h:WAt H0 H es ds Θ) (he:es[k]? = some e) (hd:ds[k]? = some d) (p:Int × Int):∃ kvs,H e.ta = some (.dT kvs)∧kvs.length = d.T.length∧((valV kvs (twK p) = none∧getP d.T p = none)∨∃ b l as,valV kvs (twK p) = some (.ref b)∧getP d.T p = some l∧Θ b = some (.tl k p)∧H b = some (.lst (as.map V.ref))∧Paired (fun b (x:Int × Int)=>H b = some (.tup [.int x.1,.int x.2])) as l):=by
 obtain ⟨d',kvs,h1,h2,h3⟩:=h.ti _ _ (h.own k e he).2
 rw [hd] at h1; cases h1
 refine ⟨kvs,h2,h3.len,?_⟩
 rcases RelD.val twK_inj p h3 with ⟨e1,e2⟩ | ⟨v,x,e1,e2,b,rfl,e3⟩
 ·exact .inl ⟨e1,e2⟩
 ·obtain ⟨d'',l,as,q1,q2,q3⟩:=h.tl b k p e3
  rw [hd] at q1; cases q1
  exact .inr ⟨b,l,as,e1,q2,e3,q3⟩
theorem WAt.role_some (h:WAt H0 H es ds Θ) {a:Addr} {r:Role} (q:Θ a = some r):∃ o,H a = some o:=by
 cases r with
 | st k=>obtain ⟨_,_,_,h2,_⟩:=h.st a k q; exact ⟨_,h2⟩
 | ti k=>obtain ⟨_,_,_,h2,_⟩:=h.ti a k q; exact ⟨_,h2⟩
 | rd k hs=>obtain ⟨_,_,_,_,h2⟩:=h.rd a k hs q; exact ⟨_,h2⟩
 | tl k p=>obtain ⟨_,_,_,_,_,h2,_⟩:=h.tl a k p q; exact ⟨_,h2⟩
theorem WAt.role_none (h:WAt H0 H es ds Θ) {a:Addr} (q:H a = none):Θ a = none:=by
 cases e:Θ a with
 | none=>rfl
 | some r=>obtain ⟨o,z⟩:=h.role_some e; rw [q] at z; cases z
theorem get_set {α : Type} {l:List α} {k:Nat} {x z:α} (hz:l[k]? = some z):(l.set k x)[k]? = some x:=by
 rw [List.getElem?_set,if_pos rfl,if_pos (List.getElem?_eq_some_iff.mp hz).1]
theorem get_set_ne {α : Type} {l:List α} {k j:Nat} {x:α} (hj:j ≠ k):(l.set k x)[j]? = l[j]?:=by
 rw [List.getElem?_set,if_neg (fun z=>hj z.symm)]
end
section
variable {H0 H H':Hp} {es:List WE} {ds:List WD} {Θ : Addr→Option Role} {k:Nat} {e:WE} {d:WD}
theorem relD_upd {α β κ : Type} [DecidableEq α] {kf:α→κ} {R:α→V→Prop} {k:α} {x:β}:∀ {kvs:List (κ × V)} {l:List (α × β)},RelD kf (fun a v (_:β)=>R a v) kvs l→RelD kf (fun a v (_:β)=>R a v) kvs (l.map fun p=>if p.1 = k then (p.1,x) else p)
 | _,_,.nil=>.nil
 | _,_,.cons (b:=b) h t=>by
  rw [List.map_cons]
  refine .cons ?_ (relD_upd t)
  by_cases e:b.1 = k
  ·rw [if_pos e]; exact h
  ·rw [if_neg e]; exact h
theorem putP_there {α β : Type} [DecidableEq α] {l:List (α × β)} {k:α} {v x:β} (h:getP l k = some v):putP l k x = l.map fun p=>if p.1 = k then (p.1,x) else p:=by
 unfold putP
 rw [getP_any,h,if_pos (by rfl)]
def newR (Θ : Addr→Option Role) (b:Addr) (r:Role):Addr→Option Role:=fun a=>if a = b then some r else if Θ a = some r then none else Θ a
theorem newR_self {b:Addr} {r:Role}:newR Θ b r b = some r:=if_pos rfl
theorem newR_old {a b:Addr} {r r':Role} (h:newR Θ b r a = some r') (hr:r' ≠ r):Θ a = some r':=by
 unfold newR at h
 split at h
 ·cases h; exact absurd rfl hr
 ·split at h
  ·cases h
  ·exact h
theorem newR_keep {a b:Addr} {r r':Role} (h:Θ a = some r') (hr:r' ≠ r) (hb:Θ b = none):newR Θ b r a = some r':=by
 unfold newR
 rw [if_neg (fun z=>by rw [z,hb] at h; cases h),if_neg (fun z=>by rw [h] at z; cases z; exact hr rfl)]
 exact h
theorem newR_is {a b:Addr} {r:Role} (h:newR Θ b r a = some r):a = b:=by
 unfold newR at h
 split at h
 ·assumption
 ·split at h
  ·cases h
  ·rename_i z1 z2; exact absurd h z2
theorem newR_inj (h:WAt H0 H es ds Θ) {b:Addr} {r:Role}:∀ a c r',newR Θ b r a = some r'→newR Θ b r c = some r'→a = c:=fun a c r' h1 h2=>by
 by_cases hr:r' = r
 ·subst hr; rw [newR_is h1,newR_is h2]
 ·exact h.inj a c r' (newR_old h1 hr) (newR_old h2 hr)
theorem newR_fr (h:WAt H0 H es ds Θ) {b:Addr} {r:Role} (hb:H0 b = none):∀ a r',newR Θ b r a = some r'→H0 a = none:=fun a r' q=>by
 by_cases hr:r' = r
 ·subst hr; rw [newR_is q]; exact hb
 ·exact h.fr a r' (newR_old q hr)
theorem role_ne {a b:Addr} {r r':Role} (h1:Θ a = some r) (h2:Θ b = some r') (hr:r ≠ r'):a ≠ b:=fun z=>by
 rw [z,h2] at h1; cases h1; exact hr rfl
theorem WAt.putS (h:WAt H0 H es ds Θ) (he:es[k]? = some e) (hd:ds[k]? = some d) {hs:List Int} {rs:Rs} {b:Addr} {kvs:List (List Key × V)} (hb:Θ b = none) (hb0:H0 b = none) (eb:H b = some (.dK (rsD rs))) (ek:H e.sa = some (.dT kvs)) :
  WAt H0 (upd H e.sa (.dT (putK kvs (hsK hs) (.ref b)))) es (ds.set k ⟨putP d.S hs rs,d.T⟩) (newR Θ b (.rd k hs)):=by
 have hsa:=(h.own k e he).1
 have nba:b ≠ e.sa:=fun z=>by rw [z,hsa] at hb; cases hb
 have tp:∀ c ys,H c = some (.tup ys)→upd H e.sa (.dT (putK kvs (hsK hs) (.ref b))) c = some (.tup ys):=fun c ys q=>by rw [upd_ne (fun z=>by rw [z,ek] at q; cases q)]; exact q
 refine ⟨h.sm.upd (h.fr _ _ hsa) _,by rw [List.length_set]; exact h.len,h.stat,newR_fr h hb0,newR_inj h,fun j e' he'=>?_,fun a j q=>?_,fun a j q=>?_,fun a j hs' q=>?_,fun a j p q=>?_⟩
 ·obtain ⟨q1,q2⟩:=h.own j e' he'
  exact ⟨newR_keep q1 (by simp) hb,newR_keep q2 (by simp) hb⟩
 ·have q':=newR_old q (by simp)
  obtain ⟨d',kvs',h1,h2,h3⟩:=h.st a j q'
  by_cases ej:j = k
  ·subst ej
   rw [hd] at h1; cases h1
   have ea:a = e.sa:=h.inj _ _ _ q' hsa
   subst ea
   rw [ek] at h2; cases h2
   refine ⟨_,_,get_set hd,upd_same,?_⟩
   exact RelD.put hsK_inj (fun hs' v x ne ⟨c,e1,e2⟩=>⟨c,e1,newR_keep e2 (fun z=>ne (Role.rd.inj z).2) hb⟩) ⟨b,rfl,newR_self⟩ h3
  ·refine ⟨d',kvs',by rw [get_set_ne ej]; exact h1,by rw [upd_ne (role_ne q' hsa (fun z=>ej (Role.st.inj z)))]; exact h2,?_⟩
   exact RelD.imp (fun hs' v x ⟨c,e1,e2⟩=>⟨c,e1,newR_keep e2 (fun z=>ej (Role.rd.inj z).1) hb⟩) h3
 ·have q':=newR_old q (by simp)
  obtain ⟨d',kvs',h1,h2,h3⟩:=h.ti a j q'
  have n2:H a = some (.dT kvs')→upd H e.sa (.dT (putK kvs (hsK hs) (.ref b))) a = some (.dT kvs'):=fun z=>by rw [upd_ne (role_ne q' hsa (by simp))]; exact z
  have h3':RelD twK (fun p v (_:List (Int × Int))=>∃ c,v = .ref c∧newR Θ b (.rd k hs) c = some (.tl j p)) kvs' d'.T:=RelD.imp (fun p v x ⟨c,e1,e2⟩=>⟨c,e1,newR_keep e2 (by simp) hb⟩) h3
  by_cases ej:j = k
  ·subst ej
   rw [hd] at h1; cases h1
   exact ⟨_,kvs',get_set hd,n2 h2,h3'⟩
  ·exact ⟨d',kvs',by rw [get_set_ne ej]; exact h1,n2 h2,h3'⟩
 ·by_cases er:Role.rd j hs' = Role.rd k hs
  ·obtain ⟨rfl,rfl⟩:=Role.rd.inj er
   have ea:=newR_is q
   subst ea
   exact ⟨_,rs,get_set hd,by rw [getP_put,if_pos rfl],by rw [upd_ne nba]; exact eb⟩
  ·have q':=newR_old q er
   obtain ⟨d',rs',h1,h2,h3⟩:=h.rd a j hs' q'
   have n3:upd H e.sa (.dT (putK kvs (hsK hs) (.ref b))) a = some (.dK (rsD rs')):=by rw [upd_ne (role_ne q' hsa (by simp))]; exact h3
   by_cases ej:j = k
   ·subst ej
    rw [hd] at h1; cases h1
    exact ⟨_,rs',get_set hd,by rw [getP_put,if_neg (fun z=>er (by rw [z]))]; exact h2,n3⟩
   ·exact ⟨d',rs',by rw [get_set_ne ej]; exact h1,h2,n3⟩
 ·have q':=newR_old q (by simp)
  obtain ⟨d',l,as,h1,h2,h3,h4⟩:=h.tl a j p q'
  have n3:upd H e.sa (.dT (putK kvs (hsK hs) (.ref b))) a = some (.lst (as.map V.ref)):=by rw [upd_ne (role_ne q' hsa (by simp))]; exact h3
  have h4':=paired_imp (fun c (x:Int × Int) z=>tp c _ z) h4
  by_cases ej:j = k
  ·subst ej
   rw [hd] at h1; cases h1
   exact ⟨_,l,as,get_set hd,h2,n3,h4'⟩
  ·exact ⟨d',l,as,by rw [get_set_ne ej]; exact h1,h2,n3,h4'⟩
theorem WAt.putT (h:WAt H0 H es ds Θ) (he:es[k]? = some e) (hd:ds[k]? = some d) {p:Int × Int} {b:Addr} {kvs:List (List Key × V)} (hb:Θ b = none) (hb0:H0 b = none) (eb:H b = some (.lst [])) (ek:H e.ta = some (.dT kvs)) :
  WAt H0 (upd H e.ta (.dT (putK kvs (twK p) (.ref b)))) es (ds.set k ⟨d.S,putP d.T p []⟩) (newR Θ b (.tl k p)):=by
 have hta:=(h.own k e he).2
 have nba:b ≠ e.ta:=fun z=>by rw [z,hta] at hb; cases hb
 have tp:∀ c ys,H c = some (.tup ys)→upd H e.ta (.dT (putK kvs (twK p) (.ref b))) c = some (.tup ys):=fun c ys q=>by rw [upd_ne (fun z=>by rw [z,ek] at q; cases q)]; exact q
 refine ⟨h.sm.upd (h.fr _ _ hta) _,by rw [List.length_set]; exact h.len,h.stat,newR_fr h hb0,newR_inj h,fun j e' he'=>?_,fun a j q=>?_,fun a j q=>?_,fun a j hs' q=>?_,fun a j p' q=>?_⟩
 ·obtain ⟨q1,q2⟩:=h.own j e' he'
  exact ⟨newR_keep q1 (by simp) hb,newR_keep q2 (by simp) hb⟩
 ·have q':=newR_old q (by simp)
  obtain ⟨d',kvs',h1,h2,h3⟩:=h.st a j q'
  have n2:H a = some (.dT kvs')→upd H e.ta (.dT (putK kvs (twK p) (.ref b))) a = some (.dT kvs'):=fun z=>by rw [upd_ne (role_ne q' hta (by simp))]; exact z
  have h3':RelD hsK (fun hs v (_:Rs)=>∃ c,v = .ref c∧newR Θ b (.tl k p) c = some (.rd j hs)) kvs' d'.S:=RelD.imp (fun p v x ⟨c,e1,e2⟩=>⟨c,e1,newR_keep e2 (by simp) hb⟩) h3
  by_cases ej:j = k
  ·subst ej
   rw [hd] at h1; cases h1
   exact ⟨_,kvs',get_set hd,n2 h2,h3'⟩
  ·exact ⟨d',kvs',by rw [get_set_ne ej]; exact h1,n2 h2,h3'⟩
 ·have q':=newR_old q (by simp)
  obtain ⟨d',kvs',h1,h2,h3⟩:=h.ti a j q'
  by_cases ej:j = k
  ·subst ej
   rw [hd] at h1; cases h1
   have ea:a = e.ta:=h.inj _ _ _ q' hta
   subst ea
   rw [ek] at h2; cases h2
   refine ⟨_,_,get_set hd,upd_same,?_⟩
   exact RelD.put twK_inj (fun p' v x ne ⟨c,e1,e2⟩=>⟨c,e1,newR_keep e2 (fun z=>ne (Role.tl.inj z).2) hb⟩) ⟨b,rfl,newR_self⟩ h3
  ·refine ⟨d',kvs',by rw [get_set_ne ej]; exact h1,by rw [upd_ne (role_ne q' hta (fun z=>ej (Role.ti.inj z)))]; exact h2,?_⟩
   exact RelD.imp (fun p' v x ⟨c,e1,e2⟩=>⟨c,e1,newR_keep e2 (fun z=>ej (Role.tl.inj z).1) hb⟩) h3
 ·have q':=newR_old q (by simp)
  obtain ⟨d',rs',h1,h2,h3⟩:=h.rd a j hs' q'
  have n3:upd H e.ta (.dT (putK kvs (twK p) (.ref b))) a = some (.dK (rsD rs')):=by rw [upd_ne (role_ne q' hta (by simp))]; exact h3
  by_cases ej:j = k
  ·subst ej
   rw [hd] at h1; cases h1
   exact ⟨_,rs',get_set hd,h2,n3⟩
  ·exact ⟨d',rs',by rw [get_set_ne ej]; exact h1,h2,n3⟩
 ·by_cases er:Role.tl j p' = Role.tl k p
  ·obtain ⟨rfl,rfl⟩:=Role.tl.inj er
   have ea:=newR_is q
   subst ea
   exact ⟨_,[],[],get_set hd,by rw [getP_put,if_pos rfl],by rw [upd_ne nba]; exact eb,.nil⟩
  ·have q':=newR_old q er
   obtain ⟨d',l,as,h1,h2,h3,h4⟩:=h.tl a j p' q'
   have n3:upd H e.ta (.dT (putK kvs (twK p) (.ref b))) a = some (.lst (as.map V.ref)):=by rw [upd_ne (role_ne q' hta (by simp))]; exact h3
   have h4':=paired_imp (fun c (x:Int × Int) z=>tp c _ z) h4
   by_cases ej:j = k
   ·subst ej
    rw [hd] at h1; cases h1
    exact ⟨_,l,as,get_set hd,by rw [getP_put,if_neg (fun z=>er (by rw [z]))]; exact h2,n3,h4'⟩
   ·exact ⟨d',l,as,by rw [get_set_ne ej]; exact h1,h2,n3,h4'⟩
theorem WAt.setR (h:WAt H0 H es ds Θ) (hd:ds[k]? = some d) {hs:List Int} {rs rs':Rs} {b:Addr} (hb:Θ b = some (.rd k hs)) (hg:getP d.S hs = some rs) :
  WAt H0 (upd H b (.dK (rsD rs'))) es (ds.set k ⟨putP d.S hs rs',d.T⟩) Θ:=by
 obtain ⟨d0,rs0,hd0,_,eb⟩:=h.rd b k hs hb
 have tp:∀ c ys,H c = some (.tup ys)→upd H b (.dK (rsD rs')) c = some (.tup ys):=fun c ys q=>by rw [upd_ne (fun z=>by rw [z,eb] at q; cases q)]; exact q
 refine ⟨h.sm.upd (h.fr _ _ hb) _,by rw [List.length_set]; exact h.len,h.stat,h.fr,h.inj,h.own,fun a j q=>?_,fun a j q=>?_,fun a j hs' q=>?_,fun a j p q=>?_⟩
 ·obtain ⟨d',kvs',h1,h2,h3⟩:=h.st a j q
  have n2:upd H b (.dK (rsD rs')) a = some (.dT kvs'):=by rw [upd_ne (role_ne q hb (by simp))]; exact h2
  by_cases ej:j = k
  ·subst ej
   rw [hd] at h1; cases h1
   refine ⟨_,kvs',get_set hd,n2,?_⟩
   rw [putP_there hg]
   exact relD_upd h3
  ·exact ⟨d',kvs',by rw [get_set_ne ej]; exact h1,n2,h3⟩
 ·obtain ⟨d',kvs',h1,h2,h3⟩:=h.ti a j q
  have n2:upd H b (.dK (rsD rs')) a = some (.dT kvs'):=by rw [upd_ne (role_ne q hb (by simp))]; exact h2
  by_cases ej:j = k
  ·subst ej
   rw [hd] at h1; cases h1
   exact ⟨_,kvs',get_set hd,n2,h3⟩
  ·exact ⟨d',kvs',by rw [get_set_ne ej]; exact h1,n2,h3⟩
 ·obtain ⟨d',rs1,h1,h2,h3⟩:=h.rd a j hs' q
  by_cases er:Role.rd j hs' = Role.rd k hs
  ·obtain ⟨rfl,rfl⟩:=Role.rd.inj er
   have ea:=h.inj _ _ _ q hb
   subst ea
   exact ⟨_,rs',get_set hd,by rw [getP_put,if_pos rfl],upd_same⟩
  ·have n3:upd H b (.dK (rsD rs')) a = some (.dK (rsD rs1)):=by rw [upd_ne (role_ne q hb er)]; exact h3
   by_cases ej:j = k
   ·subst ej
    rw [hd] at h1; cases h1
    exact ⟨_,rs1,get_set hd,by rw [getP_put,if_neg (fun z=>er (by rw [z]))]; exact h2,n3⟩
   ·exact ⟨d',rs1,by rw [get_set_ne ej]; exact h1,h2,n3⟩
 ·obtain ⟨d',l,as,h1,h2,h3,h4⟩:=h.tl a j p q
  have n3:upd H b (.dK (rsD rs')) a = some (.lst (as.map V.ref)):=by rw [upd_ne (role_ne q hb (by simp))]; exact h3
  have h4':=paired_imp (fun c (x:Int × Int) z=>tp c _ z) h4
  by_cases ej:j = k
  ·subst ej
   rw [hd] at h1; cases h1
   exact ⟨_,l,as,get_set hd,h2,n3,h4'⟩
  ·exact ⟨d',l,as,by rw [get_set_ne ej]; exact h1,h2,n3,h4'⟩
theorem WAt.addT (h:WAt H0 H es ds Θ) (hd:ds[k]? = some d) {p x:Int × Int} {l:List (Int × Int)} {as:List Addr} {b t:Addr} (hb:Θ b = some (.tl k p)) (hg:getP d.T p = some l) (eb:H b = some (.lst (as.map V.ref))) (pr:Paired (fun b (x:Int × Int)=>H b = some (.tup [.int x.1,.int x.2])) as l) (et:H t = some (.tup [.int x.1,.int x.2])) :
  WAt H0 (upd H b (.lst (as.map V.ref ++ [.ref t]))) es (ds.set k ⟨d.S,putP d.T p (l ++ [x])⟩) Θ:=by
 have tp:∀ c ys,H c = some (.tup ys)→upd H b (.lst (as.map V.ref ++ [.ref t])) c = some (.tup ys):=fun c ys q=>by rw [upd_ne (fun z=>by rw [z,eb] at q; cases q)]; exact q
 refine ⟨h.sm.upd (h.fr _ _ hb) _,by rw [List.length_set]; exact h.len,h.stat,h.fr,h.inj,h.own,fun a j q=>?_,fun a j q=>?_,fun a j hs' q=>?_,fun a j p' q=>?_⟩
 ·obtain ⟨d',kvs',h1,h2,h3⟩:=h.st a j q
  have n2:upd H b (.lst (as.map V.ref ++ [.ref t])) a = some (.dT kvs'):=by rw [upd_ne (role_ne q hb (by simp))]; exact h2
  by_cases ej:j = k
  ·subst ej
   rw [hd] at h1; cases h1
   exact ⟨_,kvs',get_set hd,n2,h3⟩
  ·exact ⟨d',kvs',by rw [get_set_ne ej]; exact h1,n2,h3⟩
 ·obtain ⟨d',kvs',h1,h2,h3⟩:=h.ti a j q
  have n2:upd H b (.lst (as.map V.ref ++ [.ref t])) a = some (.dT kvs'):=by rw [upd_ne (role_ne q hb (by simp))]; exact h2
  by_cases ej:j = k
  ·subst ej
   rw [hd] at h1; cases h1
   refine ⟨_,kvs',get_set hd,n2,?_⟩
   rw [putP_there hg]
   exact relD_upd h3
  ·exact ⟨d',kvs',by rw [get_set_ne ej]; exact h1,n2,h3⟩
 ·obtain ⟨d',rs1,h1,h2,h3⟩:=h.rd a j hs' q
  have n3:upd H b (.lst (as.map V.ref ++ [.ref t])) a = some (.dK (rsD rs1)):=by rw [upd_ne (role_ne q hb (by simp))]; exact h3
  by_cases ej:j = k
  ·subst ej
   rw [hd] at h1; cases h1
   exact ⟨_,rs1,get_set hd,h2,n3⟩
  ·exact ⟨d',rs1,by rw [get_set_ne ej]; exact h1,h2,n3⟩
 ·obtain ⟨d',l',as',h1,h2,h3,h4⟩:=h.tl a j p' q
  have h4':=paired_imp (fun c (x:Int × Int) z=>tp c _ z) h4
  by_cases er:Role.tl j p' = Role.tl k p
  ·obtain ⟨rfl,rfl⟩:=Role.tl.inj er
   have ea:=h.inj _ _ _ q hb
   subst ea
   refine ⟨_,l ++ [x],as ++ [t],get_set hd,by rw [getP_put,if_pos rfl],by rw [upd_same,List.map_append]; rfl,?_⟩
   exact paired_snocW (R:=fun c (y:Int × Int)=>upd H a (.lst (as.map V.ref ++ [.ref t])) c = some (.tup [.int y.1,.int y.2])) (tp _ _ et) (paired_imp (fun c (x:Int × Int) z=>tp c _ z) pr)
  ·have n3:upd H b (.lst (as.map V.ref ++ [.ref t])) a = some (.lst (as'.map V.ref)):=by rw [upd_ne (role_ne q hb er)]; exact h3
   by_cases ej:j = k
   ·subst ej
    rw [hd] at h1; cases h1
    exact ⟨_,l',as',get_set hd,by rw [getP_put,if_neg (fun z=>er (by rw [z]))]; exact h2,n3,h4'⟩
   ·exact ⟨d',l',as',by rw [get_set_ne ej]; exact h1,h2,n3,h4'⟩
end
def addTo (T:List ((Int × Int) × List (Int × Int))) (p x:Int × Int):List ((Int × Int) × List (Int × Int)):=putP T p ((getP T p).getD [] ++ [x])
def newTie (d:WD) (one other:Int):WD:=if getP d.S [one,other] = none then ⟨putP d.S [one,other] [],addTo (addTo d.T (one,1) (one,other)) (other,2) (one,other)⟩ else d
def setDef (rs:Rs) (start:Nat):Rs:=if getP rs 0 = none then putP rs 0 start else rs
def tieP (d:WD) (one other:Int) (start:Nat):WD:=⟨putP (newTie d one other).S [one,other] (setDef ((getP (newTie d one other).S [one,other]).getD []) start),(newTie d one other).T⟩
def withP (d:WD) (h side:Int):List (List Int):=if side = 0 then [[h]] else ((getP d.T (h,side)).getD []).map fun p=>[p.1,p.2]
def rowsP (r:Rl) (d:WD) (h:Int) (u:Str):List (List Int × Str):=(sidesOf r).flatMap fun s=>if sdT s u ∈ r.ws then (withP d h s).map fun hs=>(hs,sdT s u) else []
def startsP (d:WD) (hs:List Int):Rs:=(getP d.S hs).getD [(0,0)]
def brk1 (r:Rl) (d:WD) (p:List Int × Str):List (Nat × List Int):=((startsP d p.1).filter fun q=>decide ((colOf r (r.ws.idxOf p.2)).getD q.1 none = none)).map fun q=>(q.2,p.1)
def brokenP (r:Rl) (d:WD) (h:Int) (u:Str):List (Nat × List Int):=(rowsP r d h u).flatMap (brk1 r d)
def goStep (r:Rl) (d:WD) (p:List Int × Str):WD:=⟨putP d.S p.1 (behP (colOf r (r.ws.idxOf p.2)) (startsP d p.1)),d.T⟩
def GoOk (r:Rl):WD→List (List Int × Str)→Prop
 | _,[]=>True
 | d,p :: rest=>d.S.length ≤ 100000∧(startsP d p.1).length ≤ 100000∧(∀ q ∈ startsP d p.1,∃ j,(colOf r (r.ws.idxOf p.2))[q.1]? = some (some j))∧GoOk r (goStep r d p) rest
def goP (r:Rl) (d:WD) (h:Int) (u:Str):WD:=(rowsP r d h u).foldl (goStep r) d
def HsAt (H:Hp) (b:Addr) (hs:List Int):Prop:=H b = some (.tup (hs.map V.int))
def spStartsOf (C:Addr):Sp:=fun vs H Q _=>∃ (H0:Hp) (es:List WE) (ds:List WD) (Θ : Addr→Option Role) (k:Nat) (e:WE) (d:WD) (b:Addr) (hs:List Int),e.C = C∧vs = [.ref e.w,.ref b]∧WAt H0 H es ds Θ∧es[k]? = some e∧ds[k]? = some d∧HsAt H b hs∧
 ∀ (a:Addr) (H':Hp),Same H H'→H' a = some (.dK (rsD (startsP d hs)))→H0 a = none→Q (.ref a) H'
def spWith (K:PySem.W.Frag) (C:Addr):Sp:=fun vs H Q _=>∃ (H0:Hp) (es:List WE) (ds:List WD) (Θ : Addr→Option Role) (k:Nat) (e:WE) (d:WD) (h side:Int),e.C = C∧vs = [.ref e.w,.int h,.int side]∧WAt H0 H es ds Θ∧es[k]? = some e∧ds[k]? = some d∧
 ∀ (a:Addr) (as:List Addr) (H':Hp),Same H H'→H' a = some (.lst (as.map V.ref))→Paired (HsAt H') as (withP d h side)→Q (.ref a) H'
section
variable {CW:Addr}
theorem paired_mapW {α β γ : Type} {R:α→β→Prop} {R':α→γ→Prop} {g:β→γ} (h:∀ a b,R a b→R' a (g b)):∀ {xs:List α} {ys:List β},Paired R xs ys→Paired R' xs (ys.map g)
 | _,_,.nil=>.nil
 | _,_,.cons a t=>.cons (h _ _ a) (paired_mapW h t)
theorem ok_mark (D:MethAt K CW "mark_at" "Watch.mark_at" s_Watch_mark_at) (a_column:Fl K CW "column"):Mcal P w K mg base 1 CW "mark_at" ["self", "at"] (fun vs H Q _=>∃ e v,e.C = CW∧vs = [.ref e.w,v]∧StatAt H e∧Q (.str "look") H):=by
 refine D.mcal (k:=0) sc_Watch_mark_at (fun _ _ _ _ _ _ us hl=>match us,hl with | [_,_],_=>rfl) (fun vs H Q E h=>by obtain ⟨e,v,_,rfl,_⟩:=h; rfl) (fun f cdv A outer s H vs Q _ hr h=>?_)
 obtain ⟨e,v,rfl,rfl,R,q⟩:=h
 refine ⟨_,(pss_one (ps_ret (pe_ifExp (pt_cmpR op_isNA (pe_fldC a_column (pv 0 (hv:=vzi))) pe_non (nomark _)) pe_str (pe_ix (ix_K K) (pe_fldC a_column (pv 0 (hv:=vzi))) (pv 1 (hv:=vzj)) (fun _ _=>rfl))))),?_⟩
 walk_at "rd1"
 refine R.column ?_
 walk_at "rd1"
 exact q
theorem ok_startsOf (D:MethAt K CW "starts_of" "Watch.starts_of" s_Watch_starts_of) (a_starts:Fl K CW "starts"):Mcal P w K mg base 1 CW "starts_of" ["self", "handles"] (spStartsOf CW):=by
 refine D.mcal (k:=0) sc_Watch_starts_of (fun _ _ _ _ _ _ us hl=>match us,hl with | [_,_],_=>rfl) (fun vs H Q E h=>by obtain ⟨_,_,_,_,_,_,_,_,_,_,rfl,_⟩:=h; rfl) (fun f cdv A outer s H vs Q _ hr h=>?_)
 obtain ⟨H0,es,ds,Θ,k,e,d,b,hs,rfl,rfl,W,he,hd,hb,q⟩:=h
 refine ⟨_,(pss_one (ps_ret (pe_dget2 (hu_of hr) (pe_fldC a_starts (pv 0 (hv:=vzy))) (pv 1 (hv:=vzz)) (pe_disp (pps_cons pe_int pe_int pps_nil) rfl rfl (by decide) (by decide)) ⟨rfl,rfl,rfl,rfl⟩))),?_⟩
 walk_at "rd1"
 obtain ⟨kvs,e1,e2,e3⟩:=W.getS he hd hs
 refine (W.stat' he).starts ⟨_,rfl,.inr ⟨_,.inl e1⟩,?_⟩
 intro p hp
 refine ⟨upd_same,[(.inl 0,.int 0)],rfl,by decide,?_⟩
 have sm:Same H (upd (upd H p (.dK [])) p (.dK (mergeK [] [(.inl 0,.int 0)]))):=(same_new hp _).upd hp _
 have ep:upd (upd H p (.dK [])) p (.dK (mergeK [] [(.inl 0,.int 0)])) p = some (.dK (rsD [(0,0)])):=upd_same
 generalize upd (upd H p (.dK [])) p (.dK (mergeK [] [(.inl 0,.int 0)])) = H1 at sm ep ⊢
 have hb':H1 b = some (.tup ((hsK hs).map kV)):=by rw [hsK_kV]; exact sm _ _ hb
 refine ⟨_,DGet.t (sm _ _ e1) hb',?_⟩
 rcases e3 with ⟨g1,g2⟩ | ⟨c,rs,g1,g2,g3,g4⟩
 ·rw [g1]
  refine q p H1 sm ?_ (W.sm.free hp)
  rw [show startsP d hs = [(0,0)] by unfold startsP; rw [g2]; rfl]; exact ep
 ·rw [g1]
  refine q c H1 sm ?_ (W.fr _ _ g3)
  rw [show startsP d hs = rs by unfold startsP; rw [g2]; rfl]; exact sm _ _ g4
theorem ok_with (D:MethAt K CW "handles_with" "Watch.handles_with" s_Watch_handles_with) (a_ties:Fl K CW "ties"):Mcal P w K mg base 1 CW "handles_with" ["self", "handle", "side"] (spWith K CW):=by
 refine D.mcal (k:=0) sc_Watch_handles_with (fun _ _ _ _ _ _ us hl=>match us,hl with | [_,_,_],_=>rfl) (fun vs H Q E h=>by obtain ⟨_,_,_,_,_,_,_,_,_,_,rfl,_⟩:=h; rfl) (fun f cdv A outer s H vs Q _ hr h=>?_)
 obtain ⟨H0,es,ds,Θ,k,e,d,h,side,rfl,rfl,W,he,hd,q⟩:=h
 refine ⟨_,(pss_one (ps_ret (pe_ifExp (pt_cmpR op_eqA (pv 2 (hv:=vzr)) pe_int (nomark _)) (pe_lst (pa_cons (pe_tup (pa_cons (pv 1 (hv:=vzq)) pa_nil)) pa_nil)) (pe_dget2 (hu_of hr) (pe_fldC a_ties (pv 0 (hv:=vzp))) (pe_tup (pa_cons (pv 1 (hv:=vzq)) (pa_cons (pv 2 (hv:=vzr)) pa_nil))) (pe_lst pa_nil) ⟨rfl,rfl,rfl,rfl⟩)))),?_⟩
 walk_at "rd1"
 refine ite2 (fun c=>?_) (fun c=>?_)
 ·have es:side = 0:=by simpa using c
  refine ⟨by decide,fun p hp=>⟨by decide,fun l hl=>?_⟩⟩
  have s1:=same_new hp (.tup [.int h])
  have ep:upd H p (.tup [.int h]) p = some (.tup [.int h]):=upd_same
  generalize upd H p (.tup [.int h]) = H1 at s1 ep hl ⊢
  have s2:=same_new hl (.lst [.ref p])
  refine q l [p] _ (s1.trans s2) upd_same ?_
  unfold withP
  rw [if_pos es]
  exact .cons (s2 _ _ ep) .nil
 ·have es:side ≠ 0:=by simpa using c
  obtain ⟨kvs,e1,e2,e3⟩:=W.getT he hd (h,side)
  refine (W.stat' he).ties ⟨_,rfl,.inr ⟨_,.inl e1⟩,by decide,fun p hp=>⟨by decide,fun l hl=>?_⟩⟩
  have s1:=same_new hp (.tup [.int h,.int side])
  have ep:upd H p (.tup [.int h,.int side]) p = some (.tup ((twK (h,side)).map kV)):=upd_same
  generalize upd H p (.tup [.int h,.int side]) = H1 at s1 ep hl ⊢
  have s2:=same_new hl (.lst [])
  have el:upd H1 l (.lst []) l = some (.lst []):=upd_same
  generalize upd H1 l (.lst []) = H2 at s2 el ⊢
  have s3:=s1.trans s2
  refine ⟨_,DGet.t (s3 _ _ e1) (s2 _ _ ep),?_⟩
  unfold withP at q
  rw [if_neg es] at q
  rcases e3 with ⟨g1,g2⟩ | ⟨c,ll,as,g1,g2,g3,g4,g5⟩
  ·rw [g1]
   rw [g2] at q
   exact q l [] _ s3 el .nil
  ·rw [g1]
   rw [g2] at q
   exact q c as _ s3 (s3 _ _ g4) (paired_mapW (R':=HsAt H2) (g:=fun p:Int × Int=>[p.1,p.2]) (fun a b z=>s3 _ _ z) g5)
end
def RowAt (H:Hp) (b:Addr) (p:List Int × Str):Prop:=∃ c,H b = some (.tup [.ref c,.str p.2])∧HsAt H c p.1
theorem RowAt.mono {H H':Hp} {b:Addr} {p:List Int × Str} (h:RowAt H b p) (tp:∀ c ys,H c = some (.tup ys)→H' c = some (.tup ys)):RowAt H' b p:=by
 obtain ⟨c,h1,h2⟩:=h; exact ⟨c,tp _ _ h1,tp _ _ h2⟩
def rowsS (r:Rl) (d:WD) (h:Int) (u:Str) (s:Int):List (List Int × Str):=if sdT s u ∈ r.ws then (withP d h s).map fun hs=>(hs,sdT s u) else []
def spRows (C:Addr):Sp:=fun vs H Q _=>∃ (H0:Hp) (es:List WE) (ds:List WD) (Θ : Addr→Option Role) (k:Nat) (e:WE) (d:WD) (h:Int) (u:Str),e.C = C∧vs = [.ref e.w,.int h,.str u]∧WAt H0 H es ds Θ∧es[k]? = some e∧ds[k]? = some d∧u.length ≤ 1000∧(∀ side,(withP d h side).length ≤ 10000)∧
 ∀ (a:Addr) (as:List Addr) (H':Hp),Same H H'→H a = none→H' a = some (.lst (as.map V.ref))→Paired (RowAt H') as (rowsP e.r d h u)→Q (.ref a) H'
section
variable {CW:Addr}
theorem sides_mem {r:Rl} {s:Int} (h:s ∈ sidesOf r):s = 0∨s = 1∨s = 2:=by
 unfold sidesOf at h
 split at h <;> simp at h <;> omega
theorem sides_len (r:Rl):(sidesOf r).length ≤ 2:=by unfold sidesOf; split <;> simp
theorem paired_appW {α β : Type} {R:α→β→Prop}:∀ {xs zs:List α} {ys us:List β},Paired R xs ys→Paired R zs us→Paired R (xs ++ zs) (ys ++ us)
 | _,_,_,_,.nil,h=>h
 | _,_,_,_,.cons a t,h=>.cons a (paired_appW t h)
theorem paired_lenW {α β : Type} {R:α→β→Prop}:∀ {xs:List α} {ys:List β},Paired R xs ys→xs.length = ys.length
 | _,_,.nil=>rfl
 | _,_,.cons _ t=>by simp [paired_lenW t]
theorem flat_len {α β : Type} (f:α→List β) (n:Nat):∀ l:List α,(∀ x ∈ l,(f x).length ≤ n)→(l.flatMap f).length ≤ l.length * n
 | [],_=>by simp
 | x :: r,h=>by
  rw [List.flatMap_cons,List.length_append,List.length_cons,Nat.succ_mul]
  have:=flat_len f n r (fun y hy=>h y (List.mem_cons_of_mem _ hy))
  have:=h x List.mem_cons_self
  omega
theorem ok_rows (D:MethAt K CW "rows_with" "Watch.rows_with" s_Watch_rows_with) (a_sides:Fl K CW "sides") (a_ways:Fl K CW "ways") (c_sided_text:Cal P w K mg base 1 "sided_text" ["side", "word"] spSidedT) (m_Watch_handles_with:Mcal P w K mg base 1 CW "handles_with" ["self", "handle", "side"] (spWith K CW)):Mcal P w K mg base 2 CW "rows_with" ["self", "handle", "word"] (spRows CW):=by
 refine D.mcal (k:=1) sc_Watch_rows_with (fun _ _ _ _ _ _ us hl=>match us,hl with | [_,_,_],_=>rfl) (fun vs H Q E h=>by obtain ⟨_,_,_,_,_,_,_,_,_,_,rfl,_⟩:=h; rfl) (fun f cdv A outer s H vs Q _ hr h=>?_)
 obtain ⟨H0,es,ds,Θ,k,e,d,h,u,rfl,rfl,W,he,hd,hu,hw,q⟩:=h
 refine ⟨_,(pss_cons (ps_let 3 sc_Watch_rows_with.nd (pe_lst pa_nil) (hx:=lz7))
   (pss_cons (ps_for PassesOwn.never rfl ((pi_tupK K) (pe_fldC a_sides (pv 0 (hv:=vzs)))) (pg_let 4 sc_Watch_rows_with.nd (hx:=lz8)) (pss_cons (ps_let 5 sc_Watch_rows_with.nd (pe_cal c_sided_text hr (pa_cons (pv 4 (hv:=vzw)) (pa_cons (pv 2 (hv:=vzu)) pa_nil)) (hg:=gz3)) (hx:=lz9))
   (pss_one (ps_if (pt_cmpR (op_inD hr) (pv 5 (hv:=vzx)) (pe_fldC a_ways (pv 0 (hv:=vzs))) (by with_unfolding_all rfl)) (pss_one (ps_expr (pe_bmK K PySem.F.plainAttrs_list PySem.F.slot_list_extend PySem.F.type_list_extend mt_extendA (pv 3 (hv:=vzv)) (pa_cons (pe_comp (CompSc.to (fsc:=(defScope s_Watch_rows_with)) (N:=["self", "handle", "word", "rows", "side", "text"]) (N0:=["self", "handle", "word", "rows", "side", "text"]) (T:=["handles"]) ⟨by decide +kernel,by decide +kernel,by decide +kernel,by decide +kernel,by decide +kernel,by decide +kernel,by decide +kernel⟩ rfl rfl) rfl (pi_listK K (pe_mcal m_Watch_handles_with hr (pv 0 (hv:=vzs)) (pa_cons (pv 1 (hv:=vzt)) (pa_cons (pv 4 (hv:=vzw)) pa_nil)))) (fun _ _ _ _=>(pg_let 6 (show (["self", "handle", "word", "rows", "side", "text", "handles"]:List Str).Nodup from by decide +kernel) (hx:=(locC (defScope s_Watch_rows_with) (by decide +kernel))) (hf:=fnC (defScope s_Watch_rows_with) (by decide +kernel)))) (gfr_name (show (["self", "handle", "word", "rows", "side", "text"]:List Str).length ≤ 6 from by decide)) (fun _ _ _ _=>pifs_nil) (fun _ _ _ _=>(pe_tup (pa_cons (pv 6 (hv:=(visC (defScope s_Watch_rows_with) (by decide +kernel)))) (pa_cons (pv 5 (hv:=(visC (defScope s_Watch_rows_with) (by decide +kernel)))) pa_nil))))) pa_nil)))) pss_nil))))
   (pss_one (ps_ret (pv 3 (hv:=vzv)))))),?_⟩
 walk_at "rd1"
 refine ⟨by decide,fun B hB=>?_⟩
 have sm1:=same_new hB (.lst [])
 have eB:upd H B (.lst []) B = some (.lst []):=upd_same
 generalize upd H B (.lst []) = H1 at sm1 eB ⊢
 have W1:=W.mono sm1
 walk_at "nx"
 try rw [iTup_at]
 walk_at "rd1"
 refine (W1.stat' he).sides ⟨_,rfl,⟨_,SqT.of (W1.stat' he).sd⟩,?_⟩
 have hlen:∀ i,(((sidesOf e.r).take i).flatMap (rowsS e.r d h u)).length ≤ 20000:=fun i=>by
  have h1:=flat_len (rowsS e.r d h u) 10000 ((sidesOf e.r).take i) (fun x _=>by
   unfold rowsS; split
   ·rw [List.length_map]; exact hw x
   ·simp)
  have h2:=sides_len e.r
  have h3:((sidesOf e.r).take i).length ≤ 2:=by rw [List.length_take]; omega
  have h4:((sidesOf e.r).take i).length * 10000 ≤ 2 * 10000:=Nat.mul_le_mul_right _ h3
  omega
 refine forW_tup (xs:=(sidesOf e.r).map V.int) (fun i σ H'=>∃ (o4 o5:Option V) (as:List Addr),σ = [some (.ref e.w),some (.int h),some (.str u),some (.ref B),o4,o5]∧SameB B H1 H'∧H' B = some (.lst (as.map V.ref))∧Paired (RowAt H') as (((sidesOf e.r).take i).flatMap (rowsS e.r d h u)))
  ⟨_,_,[],rfl,fun _ _ _ z=>z,eB,.nil⟩ (fun i σ H' _ hh=>?_) (fun i x σ H' hx hh=>?_) (fun σ H' hh=>?_)
 ·obtain ⟨_,_,_,_,sb,_⟩:=hh
  exact SqT.of (sb _ _ (ne_of_none (W.stat' he).sd hB) (W1.stat' he).sd)
 ·obtain ⟨o4,o5,as,rfl,sb,eB',pr⟩:=hh
  have sm:Same H H':=fun c o z=>sb c o (ne_of_none z hB) (sm1 c o z)
  have hx':∃ sd,(sidesOf e.r)[i]? = some sd∧x = .int sd:=by
   rw [List.getElem?_map] at hx
   cases e1:(sidesOf e.r)[i]? with
   | none=>rw [e1] at hx; cases hx
   | some sd=>rw [e1] at hx; cases hx; exact ⟨sd,rfl,rfl⟩
  obtain ⟨sd,hsd,rfl⟩:=hx'
  have ek:((sidesOf e.r).take (i + 1)).flatMap (rowsS e.r d h u) = ((sidesOf e.r).take i).flatMap (rowsS e.r d h u) ++ rowsS e.r d h u sd:=by
   rw [List.take_add_one,hsd]; simp
  have W2:=W.mono sm
  walk_at "rd1"
  refine ⟨sd,u,rfl,sides_mem (List.mem_of_getElem? hsd),hu,?_⟩
  walk_at "nx"
  refine (W2.stat' he).ways ⟨e.wd,e.wk,.inr (sdT sd u),rfl,rfl,(W2.stat' he).wd,?_⟩
  walk_at "rd1"
  refine ite2 (fun c=>?_) (fun c=>?_)
  ·have hm:sdT sd u ∈ e.r.ws:=by
    by_cases hm:sdT sd u ∈ e.r.ws
    ·exact hm
    ·rw [(W.stat' he).no _ hm] at c; cases c
   have er:rowsS e.r d h u sd = (withP d h sd).map fun hs=>(hs,sdT sd u):=by unfold rowsS; rw [if_pos hm]
   refine ⟨⟨_,SqL.of eB'⟩,(W2.stat' he).isM (by decide +kernel),H0,es,ds,Θ,k,e,d,h,sd,rfl,rfl,W2,he,hd,fun a hsA H3 s3 ea pa=>⟨a,rfl,⟨_,SqL.of ea⟩,fun L hL=>?_⟩⟩
   have hla:=paired_lenW pa
   have hw':=hw sd
   refine compW_list (xs:=hsA.map V.ref) (fun j ys H4=>∃ bs:List Addr,ys = bs.map V.ref∧Same H3 H4∧H4 L = some (.lst ys)∧Paired (RowAt H4) bs (((withP d h sd).take j).map fun hs=>(hs,sdT sd u)))
    ⟨[],rfl,same_new hL _,upd_same,.nil⟩ (fun j ys H4 _ hh=>by obtain ⟨_,_,sm4,_⟩:=hh; exact SqL.of (sm4 _ _ ea)) ?_ ?_
   ·rintro j ys H4 v hv hj ⟨bs,rfl,sm4,eL,pb⟩
    rw [List.length_map] at hj
    rw [List.getElem?_map,List.getElem?_eq_getElem hj] at hv
    cases hv
    have hj':j < (withP d h sd).length:=by omega
    have hat:HsAt H3 hsA[j] (withP d h sd)[j]:=paired_get pa (List.getElem?_eq_getElem hj) (List.getElem?_eq_getElem hj')
    have hbl:bs.length = j:=by have:=paired_lenW pb; rw [List.length_map,List.length_take] at this; omega
    walk_at "rd1"
    refine ⟨by decide,fun t ht=>?_⟩
    have s5:=same_new ht (.tup [.ref hsA[j],.str (sdT sd u)])
    have et:upd H4 t (.tup [.ref hsA[j],.str (sdT sd u)]) t = some (.tup [.ref hsA[j],.str (sdT sd u)]):=upd_same
    generalize upd H4 t (.tup [.ref hsA[j],.str (sdT sd u)]) = H5 at s5 et ⊢
    have eL5:=s5 _ _ eL
    have tp:∀ c ys,H5 c = some (.tup ys)→upd H5 L (.lst (bs.map V.ref ++ [.ref t])) c = some (.tup ys):=fun c ys z=>by rw [upd_ne (fun g=>by rw [g,eL5] at z; cases z)]; exact z
    refine cstep (by rw [List.length_map]; exact hj) (by rw [List.length_map]; exact hbl) (by rw [List.length_map]; exact smallL (by omega)) eL5 ⟨bs ++ [t],map_push _ _,(sm4.trans s5).upd hL _,upd_same,?_⟩
    rw [List.take_add_one,List.getElem?_eq_getElem hj',List.map_append]
    have hnew:RowAt (upd H5 L (.lst (bs.map V.ref ++ [.ref t]))) t ((withP d h sd)[j],sdT sd u):=by
     refine ⟨hsA[j],tp _ _ et,?_⟩
     exact tp _ _ (s5 _ _ (sm4 _ _ hat))
    exact paired_snocW (R:=RowAt (upd H5 L (.lst (bs.map V.ref ++ [.ref t])))) hnew (paired_imp (fun b p z=>(RowAt.mono z (fun c ys g=>s5 _ _ g)).mono tp) pb)
   ·rintro ys H4 ⟨bs,rfl,sm4,eL,pb⟩
    rw [List.length_map,hla,List.take_length] at pb
    have eB4:=sm4 _ _ (s3 _ _ eB')
    rw [rExtend_at]
    have l1:=paired_lenW pr
    have l2:=hlen i
    have l3:=paired_lenW pb
    rw [List.length_map] at l3
    have tp:∀ c ys,H4 c = some (.tup ys)→upd H4 B (.lst (as.map V.ref ++ bs.map V.ref)) c = some (.tup ys):=fun c ys z=>by rw [upd_ne (fun g=>by rw [g,eB4] at z; cases z)]; exact z
    refine ⟨_,_,eB4,eL,by rw [List.length_map,List.length_map]; exact smallL (by omega),_,_,as ++ bs,rfl,fun c o hc z=>?_,by rw [upd_same,List.map_append],?_⟩
    ·rw [upd_ne hc]; exact sm4 _ _ (s3 _ _ (sb c o hc z))
    ·rw [ek,er]
     exact paired_appW (paired_imp (fun b p z=>(RowAt.mono z (fun c ys g=>sm4 _ _ (s3 _ _ g))).mono tp) pr) (paired_imp (fun b p z=>RowAt.mono z tp) pb)
  ·have hm:sdT sd u ∉ e.r.ws:=fun hm=>by
    obtain ⟨a,b,h1,_⟩:=(W.stat' he).yes _ hm
    rw [h1] at c; exact c rfl
   have er:rowsS e.r d h u sd = []:=by unfold rowsS; rw [if_neg hm]
   refine ⟨_,_,as,rfl,sb,eB',?_⟩
   rw [ek,er,List.append_nil]; exact pr
 ·obtain ⟨o4,o5,as,rfl,sb,eB',pr⟩:=hh
  rw [List.length_map,List.take_length] at pr
  walk_at "nx"
  exact q B as _ (fun c o z=>sb c o (ne_of_none z hB) (sm1 c o z)) hB eB' pr
end
def BrkAt (H:Hp) (e:WE) (t:Addr) (p:Nat × List Int):Prop:=∃ c,H t = some (.tup [.ref e.bl,.int (p.1:Int),.ref c])∧HsAt H c p.2
theorem BrkAt.mono {H H':Hp} {e:WE} {t:Addr} {p:Nat × List Int} (h:BrkAt H e t p) (tp:∀ c ys,H c = some (.tup ys)→H' c = some (.tup ys)):BrkAt H' e t p:=by
 obtain ⟨c,h1,h2⟩:=h; exact ⟨c,tp _ _ h1,tp _ _ h2⟩
structure DOk (r:Rl) (d:WD) (h:Int) (u:Str):Prop where
 lu:u.length ≤ 1000
 w:∀ side,(withP d h side).length ≤ 10000
 s:∀ p ∈ rowsP r d h u,(startsP d p.1).length ≤ 100000∧∀ q ∈ startsP d p.1,q.1 < r.rs.length
 b:(brokenP r d h u).length ≤ 100000
def spBroken (C:Addr):Sp:=fun vs H Q _=>∃ (H0:Hp) (es:List WE) (ds:List WD) (Θ : Addr→Option Role) (k:Nat) (e:WE) (d:WD) (h:Int) (u:Str),e.C = C∧vs = [.ref e.w,.int h,.str u]∧WAt H0 H es ds Θ∧es[k]? = some e∧ds[k]? = some d∧DOk e.r d h u∧
 ∀ (a:Addr) (as:List Addr) (H':Hp),Same H H'→H a = none→H' a = some (.lst (as.map V.ref))→Paired (BrkAt H' e) as (brokenP e.r d h u)→Q (.ref a) H'
section
variable {CW:Addr}
theorem rows_text {r:Rl} {d:WD} {h:Int} {u:Str} {p:List Int × Str} (hp:p ∈ rowsP r d h u):p.2 ∈ r.ws:=by
 unfold rowsP at hp
 obtain ⟨s,_,hp⟩:=List.mem_flatMap.mp hp
 split at hp
 ·rename_i hm
  obtain ⟨hs,_,rfl⟩:=List.mem_map.mp hp
  exact hm
 ·cases hp
theorem ok_broken (D:MethAt K CW "broken_by" "Watch.broken_by" s_Watch_broken_by) (a_ways:Fl K CW "ways") (a_blames:Fl K CW "blames") (m_Watch_rows_with:Mcal P w K mg base 2 CW "rows_with" ["self", "handle", "word"] (spRows CW)) (m_Watch_starts_of:Mcal P w K mg base 1 CW "starts_of" ["self", "handles"] (spStartsOf CW)):Mcal P w K mg base 3 CW "broken_by" ["self", "handle", "word"] (spBroken CW):=by
 refine D.mcal (k:=2) sc_Watch_broken_by (fun _ _ _ _ _ _ us hl=>match us,hl with | [_,_,_],_=>rfl) (fun vs H Q E h=>by obtain ⟨_,_,_,_,_,_,_,_,_,_,rfl,_⟩:=h; rfl) (fun f cdv A outer s H vs Q _ hr h=>?_)
 obtain ⟨H0,es,ds,Θ,k,e,d,h,u,rfl,rfl,W,he,hd,ok,q⟩:=h
 refine ⟨_,(pss_cons (ps_let 3 sc_Watch_broken_by.nd (pe_lst pa_nil) (hx:=lza))
   (pss_cons (ps_for PassesOwn.never rfl (pi_listK K (pe_mcal m_Watch_rows_with hr (pv 0 (hv:=vz10)) (pa_cons (pv 1 (hv:=vz11)) (pa_cons (pv 2 (hv:=vz12)) pa_nil)))) (pg_tupK K (n:=2) (pgs_cons (pg_let 4 sc_Watch_broken_by.nd (hx:=lzb)) (pgs_cons (pg_let 5 sc_Watch_broken_by.nd (hx:=lzc)) pgs_nil))) (pss_one (ps_thaw (ps_for PassesOwn.never rfl (pi_items (pe_bm0K K PySem.F.plainAttrs_dict PySem.F.slot_dict_items PySem.F.type_dict_items mt_items (pe_mcal m_Watch_starts_of hr (pv 0 (hv:=vz10)) (pa_cons (pv 4 (hv:=vz14)) pa_nil)))) (pg_tupK K (n:=2) (pgs_cons (pg_let 6 sc_Watch_broken_by.nd (hx:=lzd)) (pgs_cons (pg_let 7 sc_Watch_broken_by.nd (hx:=lze)) pgs_nil))) (pss_one (ps_if (pt_cmpR op_isNA (pe_ix (ix_K K) (pe_ix (ix_B K) (pe_fldC a_ways (pv 0 (hv:=vz10))) (pv 5 (hv:=vz15)) (fun _ _=>rfl)) (pv 6 (hv:=vz16)) (fun _ _=>rfl)) pe_non (nomark _)) (pss_one (ps_expr (pe_bmK K PySem.F.plainAttrs_list PySem.F.slot_list_append PySem.F.type_list_append mt_appendA (pv 3 (hv:=vz13)) (pa_cons (pe_tup (pa_cons (pe_ix (ix_K K) (pe_ix (ix_B K) (pe_fldC a_blames (pv 0 (hv:=vz10))) (pv 5 (hv:=vz15)) (fun _ _=>rfl)) (pv 6 (hv:=vz16)) (fun _ _=>rfl)) (pa_cons (pv 7 (hv:=vz17)) (pa_cons (pv 4 (hv:=vz14)) pa_nil)))) pa_nil)))) pss_nil))))))
   (pss_one (ps_ret (pv 3 (hv:=vz13)))))),?_⟩
 walk_at "rd1"
 refine ⟨by decide,fun B hB=>?_⟩
 have sm1:=same_new hB (.lst [])
 have eB:upd H B (.lst []) B = some (.lst []):=upd_same
 generalize upd H B (.lst []) = H1 at sm1 eB ⊢
 have W1:=W.mono sm1
 walk_at "nx"
 refine ⟨(W1.stat' he).isM (by decide +kernel),H0,es,ds,Θ,k,e,d,h,u,rfl,rfl,W1,he,hd,ok.lu,ok.w,fun R ra H2 s2 hR eR pR=>?_⟩
 refine ⟨R,rfl,⟨_,SqL.of eR⟩,?_⟩
 have W2:=W1.mono s2
 have eB2:=s2 _ _ eB
 have nRB:R ≠ B:=fun z=>by rw [z,eB] at hR; cases hR
 have smH2:=sm1.trans s2
 refine forW_list (xs:=ra.map V.ref) (fun i σ H'=>∃ (o4 o5 o6 o7:Option V) (xs:List Addr),σ = [some (.ref e.w),some (.int h),some (.str u),some (.ref B),o4,o5,o6,o7]∧SameB B H2 H'∧H' B = some (.lst (xs.map V.ref))∧Paired (BrkAt H' e) xs (((rowsP e.r d h u).take i).flatMap (brk1 e.r d)))
  ⟨_,_,_,_,[],rfl,fun _ _ _ z=>z,eB2,.nil⟩ (fun i σ H' _ hh=>?_) (fun i x σ H' hx hh=>?_) (fun σ H' hh=>?_)
 ·obtain ⟨_,_,_,_,_,_,sb,_⟩:=hh
  exact SqL.of (sb _ _ nRB eR)
 ·obtain ⟨o4,o5,o6,o7,xs,rfl,sb,eB',pr⟩:=hh
  have smH:Same H H':=fun c o z=>sb c o (ne_of_none z hB) (smH2 c o z)
  have hx':∃ b,ra[i]? = some b∧x = .ref b:=by
   rw [List.getElem?_map] at hx
   cases e1:ra[i]? with
   | none=>rw [e1] at hx; cases hx
   | some b=>rw [e1] at hx; cases hx; exact ⟨b,rfl,rfl⟩
  obtain ⟨b,hb,rfl⟩:=hx'
  have hi:i < (rowsP e.r d h u).length:=by rw [← paired_lenW pR]; exact (List.getElem?_eq_some_iff.mp hb).1
  have hp:=List.getElem?_eq_getElem hi
  generalize (rowsP e.r d h u)[i] = p at hp
  have hpm:p ∈ rowsP e.r d h u:=List.mem_of_getElem? hp
  obtain ⟨c,eb,ec⟩ : RowAt H2 b p:=paired_get pR hb hp
  have nt:∀ c ys,H2 c = some (.tup ys)→H' c = some (.tup ys):=fun c ys z=>sb c _ (fun g=>by rw [g,eB2] at z; cases z) z
  have eb':=nt _ _ eb
  have ec':HsAt H' c p.1:=nt _ _ ec
  have ek:((rowsP e.r d h u).take (i + 1)).flatMap (brk1 e.r d) = ((rowsP e.r d h u).take i).flatMap (brk1 e.r d) ++ brk1 e.r d p:=by
   rw [List.take_add_one,hp]; simp
  have hpre:(((rowsP e.r d h u).take i).flatMap (brk1 e.r d)).length + (brk1 e.r d p).length ≤ 100000:=by
   have h1:=ok.b
   unfold brokenP at h1
   rw [← List.take_append_drop (i + 1) (rowsP e.r d h u),List.flatMap_append,List.length_append,ek,List.length_append] at h1
   omega
  have W3:=W.mono smH
  walk_at "rd1"
  refine ⟨b,_,rfl,SqT.of eb',rfl,?_⟩
  walk_at "rd1"
  unfold tThaw
  rw [tFor_at,iItems_at]
  walk_at "rd1"
  refine ⟨(W3.stat' he).isM (by decide +kernel),H0,es,ds,Θ,k,e,d,c,p.1,rfl,rfl,W3,he,hd,ec',fun a H3 s3 ea ha0=>?_⟩
  refine ⟨.inr (.inr (.inl ⟨rfl,.inl ⟨_,ea⟩⟩)),?_⟩
  unfold rItems
  refine ⟨a,_,rfl,rfl,ea,fun v hv=>?_⟩
  have s4:=same_new hv (viewI v a)
  refine ⟨v,a,_,rfl,upd_same,s4 _ _ ea,fun ob=>?_⟩
  have smH3:=W3.sm.trans s3
  have hv0:H0 v = none:=smH3.free hv
  have nBa:B ≠ a:=fun z=>by have:=s3 _ _ eB'; rw [z,ea] at this; cases this
  have fz:upd (upd H3 v (viewI v a)) a (.frz ob (.dK (rsD (startsP d p.1)))) a = some (.frz ob (.dK (rsD (startsP d p.1)))):=upd_same
  have eB4:upd (upd H3 v (viewI v a)) a (.frz ob (.dK (rsD (startsP d p.1)))) B = some (.lst (xs.map V.ref)):=by rw [upd_ne nBa]; exact s4 _ _ (s3 _ _ eB')
  have sm04:Same H0 (upd (upd H3 v (viewI v a)) a (.frz ob (.dK (rsD (startsP d p.1))))):=(smH3.trans s4).upd ha0 _
  have sb4:∀ g o,g ≠ a→H' g = some o→upd (upd H3 v (viewI v a)) a (.frz ob (.dK (rsD (startsP d p.1)))) g = some o:=fun g o hg z=>by rw [upd_ne hg]; exact s4 _ _ (s3 _ _ z)
  generalize upd (upd H3 v (viewI v a)) a (.frz ob (.dK (rsD (startsP d p.1)))) = H4 at fz eB4 sm04 sb4 ⊢
  have hB0:H0 B = none:=W.sm.free hB
  have stp:∀ c ys,H' c = some (.tup ys)→H4 c = some (.tup ys):=fun c ys z=>sb4 c _ (fun g=>by have:=s3 _ _ z; rw [g,ea] at this; cases this) z
  have ec4:HsAt H4 c p.1:=stp _ _ ec'
  have pr4:Paired (BrkAt H4 e) xs (((rowsP e.r d h u).take i).flatMap (brk1 e.r d)):=paired_imp (fun b x z=>BrkAt.mono z stp) pr
  have hpt:=rows_text hpm
  obtain ⟨hsl,hsr⟩:=ok.s p hpm
  generalize hpre':((rowsP e.r d h u).take i).flatMap (brk1 e.r d) = pre at ek hpre pr4
  refine forW_items (d:=a) (o:=ob) (kvs:=rsD (startsP d p.1)) (fun j σ H5=>∃ (o6 o7:Option V) (ys:List Addr),σ = [some (.ref e.w),some (.int h),some (.str u),some (.ref B),some (.ref c),some (.str p.2),o6,o7]∧SameB B H4 H5∧H5 B = some (.lst (ys.map V.ref))∧Paired (BrkAt H5 e) ys (pre ++ (((startsP d p.1).take j).filter fun q=>decide ((colOf e.r (e.r.ws.idxOf p.2)).getD q.1 none = none)).map fun q=>(q.2,p.1)))
   ⟨_,_,xs,rfl,fun _ _ _ z=>z,eB4,by simpa using pr4⟩ (fun j σ H5 _ hh=>by obtain ⟨_,_,_,_,sb5,_⟩:=hh; exact sb5 a _ (Ne.symm nBa) fz) ?_ ?_
  ·rintro j key x t σ H5 hkx ⟨o6,o7,ys,rfl,sb5,eB5,pr5⟩ ht
   have hi':∃ z,(startsP d p.1)[j]? = some z∧key = .inl (z.1:Int)∧x = .int (z.2:Int):=by
    unfold rsD at hkx
    rw [List.getElem?_map] at hkx
    cases e1:(startsP d p.1)[j]? with
    | none=>rw [e1] at hkx; cases hkx
    | some z=>rw [e1] at hkx; cases hkx; exact ⟨z,rfl,rfl,rfl⟩
   obtain ⟨z,hz,rfl,rfl⟩:=hi'
   have hzr:=hsr z (List.mem_of_getElem? hz)
   have st:=same_new ht (.tup [kV (.inl (z.1:Int)),.int (z.2:Int)])
   have et:upd H5 t (.tup [kV (.inl (z.1:Int)),.int (z.2:Int)]) t = some (.tup [kV (.inl (z.1:Int)),.int (z.2:Int)]):=upd_same
   generalize upd H5 t (.tup [kV (.inl (z.1:Int)),.int (z.2:Int)]) = H6 at st et ⊢
   have sb6:SameB B H4 H6:=fun g o hg y=>st _ _ (sb5 g o hg y)
   have eB6:=st _ _ eB5
   have pr6:=paired_imp (fun b x z=>BrkAt.mono z (fun c ys g=>st _ _ g)) pr5
   have sm06:Same H0 H6:=fun g o y=>sb6 g o (ne_of_none y hB0) (sm04 g o y)
   have S6:=(W.stat e (List.mem_of_getElem? he)).mono sm06
   obtain ⟨aw,ab,w1,w2,w3,w4⟩:=S6.yes p.2 hpt
   have hcl:(colOf e.r (e.r.ws.idxOf p.2))[z.1]? = some ((colOf e.r (e.r.ws.idxOf p.2)).getD z.1 none):=by
    have hl:z.1 < (colOf e.r (e.r.ws.idxOf p.2)).length:=by unfold colOf; rw [List.length_map]; exact hzr
    rw [List.getD_eq_getElem?_getD,List.getElem?_eq_getElem hl]; rfl
   walk_at "rd1"
   refine ⟨t,_,rfl,SqT.of et,rfl,?_⟩
   walk_at "rd1"
   refine S6.ways (.inr ⟨e.wd,e.wk,.inr p.2,.ref aw,rfl,rfl,S6.wd,w1,?_⟩)
   show rIxA K (.ref aw) (.int (z.1:Int)) H6 _
   walk_at "rd1"
   refine ⟨_,_,.inl (SqL.of w2),atI_nat (by rw [List.getElem?_map,hcl]; rfl),?_⟩
   have eft:((startsP d p.1).take (j + 1)).filter (fun q=>decide ((colOf e.r (e.r.ws.idxOf p.2)).getD q.1 none = none)) = ((startsP d p.1).take j).filter (fun q=>decide ((colOf e.r (e.r.ws.idxOf p.2)).getD q.1 none = none)) ++ (if (colOf e.r (e.r.ws.idxOf p.2)).getD z.1 none = none then [z] else []):=by
    rw [List.take_add_one,hz,List.filter_append]
    congr 1
    show List.filter _ [z] = _
    rw [List.filter_cons]
    by_cases g:(colOf e.r (e.r.ws.idxOf p.2)).getD z.1 none = none
    ·rw [if_pos (decide_eq_true g),if_pos g]; rfl
    ·rw [if_neg (by simpa using g),if_neg g]; rfl
   refine ite2 (fun hn=>?_) (fun hn=>?_)
   ·have hnone:(colOf e.r (e.r.ws.idxOf p.2)).getD z.1 none = none:=by
     cases g:(colOf e.r (e.r.ws.idxOf p.2)).getD z.1 none with
     | none=>rfl
     | some y=>rw [g] at hn; cases hn
    refine ⟨⟨_,SqL.of eB6⟩,S6.blames (.inr ⟨e.bd,e.bk,.inr p.2,.ref ab,rfl,rfl,S6.bd,w3,?_⟩)⟩
    show rIxA K (.ref ab) (.int (z.1:Int)) H6 _
    walk_at "rd1"
    refine ⟨_,_,.inl (SqL.of w4),atI_nat (by rw [List.getElem?_map,List.getElem?_eq_getElem hzr]; rfl),?_⟩
    refine ⟨by decide,fun t2 ht2=>?_⟩
    have s7:=same_new ht2 (.tup [.ref e.bl,.int (z.2:Int),.ref c])
    have et2:upd H6 t2 (.tup [.ref e.bl,.int (z.2:Int),.ref c]) t2 = some (.tup [.ref e.bl,.int (z.2:Int),.ref c]):=upd_same
    generalize upd H6 t2 (.tup [.ref e.bl,.int (z.2:Int),.ref c]) = H7 at s7 et2 ⊢
    have eB7:=s7 _ _ eB6
    have tp:∀ c ws,H7 c = some (.tup ws)→upd H7 B (.lst (ys.map V.ref ++ [.ref t2])) c = some (.tup ws):=fun c ws z=>by rw [upd_ne (fun g=>by rw [g,eB7] at z; cases z)]; exact z
    have hyl:ys.length ≤ 100000:=by
     have l1:=paired_lenW pr5
     rw [List.length_append,List.length_map] at l1
     have l2:(((startsP d p.1).take j).filter fun q=>decide ((colOf e.r (e.r.ws.idxOf p.2)).getD q.1 none = none)).length ≤ ((startsP d p.1).filter fun q=>decide ((colOf e.r (e.r.ws.idxOf p.2)).getD q.1 none = none)).length:=((List.take_sublist _ _).filter _).length_le
     have l3:(brk1 e.r d p).length = ((startsP d p.1).filter fun q=>decide ((colOf e.r (e.r.ws.idxOf p.2)).getD q.1 none = none)).length:=by unfold brk1; rw [List.length_map]
     omega
    refine ⟨_,eB7,small' (by rw [List.length_map]; omega),_,_,ys ++ [t2],rfl,fun g o hg y=>by rw [upd_ne hg]; exact s7 _ _ (sb6 g o hg y),by rw [upd_same,List.map_append]; rfl,?_⟩
    rw [eft,if_pos hnone,List.map_append,← List.append_assoc]
    have hnew:BrkAt (upd H7 B (.lst (ys.map V.ref ++ [.ref t2]))) e t2 (z.2,p.1):=by
     refine ⟨c,tp _ _ et2,?_⟩
     exact tp _ _ (s7 _ _ (sb6 c _ (fun g=>by unfold HsAt at ec4; rw [g,eB4] at ec4; cases ec4) ec4))
    exact paired_snocW (R:=BrkAt (upd H7 B (.lst (ys.map V.ref ++ [.ref t2]))) e) hnew (paired_imp (fun b p z=>(BrkAt.mono z (fun c ys g=>s7 _ _ g)).mono tp) pr6)
   ·have hsome:(colOf e.r (e.r.ws.idxOf p.2)).getD z.1 none ≠ none:=fun g=>hn (by rw [g]; rfl)
    refine ⟨_,_,ys,rfl,sb6,eB6,?_⟩
    rw [eft,if_neg hsome,List.append_nil]
    exact pr6
  ·rintro σ H5 ⟨o6,o7,ys,rfl,sb5,eB5,pr5⟩
   rw [show (rsD (startsP d p.1)).length = (startsP d p.1).length from List.length_map _,List.take_length] at pr5
   refine ⟨a,ob,rsD (startsP d p.1),(fun o u z=>by have:=s3 _ _ z; rw [ea] at this; cases this),sb5 a _ (Ne.symm nBa) fz,?_⟩
   have tp:∀ c ys,H5 c = some (.tup ys)→upd H5 a (.dK (rsD (startsP d p.1))) c = some (.tup ys):=fun c ys z=>by rw [upd_ne (fun g=>by rw [g,sb5 a _ (Ne.symm nBa) fz] at z; cases z)]; exact z
   refine ⟨_,_,_,_,ys,rfl,fun g o hg y=>?_,by rw [upd_ne nBa]; exact eB5,?_⟩
   ·have y':=sb g o hg y
    by_cases ga:g = a
    ·rw [ga] at y' ⊢
     have:=s3 _ _ y'
     rw [ea] at this; cases this
     exact upd_same
    ·rw [upd_ne ga]; exact sb5 g o hg (sb4 g o ga y')
   ·rw [ek]
    exact paired_imp (fun b x z=>BrkAt.mono z tp) pr5
 ·obtain ⟨o4,o5,o6,o7,xs,rfl,sb,eB',pr⟩:=hh
  rw [List.length_map,paired_lenW pR,List.take_length] at pr
  walk_at "nx"
  exact q B xs _ (fun c o z=>sb c o (ne_of_none z hB) (smH2 c o z)) hB eB' pr
end
def spGo (C:Addr):Sp:=fun vs H Q _=>∃ (H0:Hp) (es:List WE) (ds:List WD) (Θ : Addr→Option Role) (k:Nat) (e:WE) (d:WD) (h:Int) (u:Str),e.C = C∧vs = [.ref e.w,.int h,.str u]∧WAt H0 H es ds Θ∧es[k]? = some e∧ds[k]? = some d∧u.length ≤ 1000∧(∀ side,(withP d h side).length ≤ 10000)∧GoOk e.r d (rowsP e.r d h u)∧
 ∀ (H':Hp) (Θ':Addr→Option Role),WAt H0 H' es (ds.set k (goP e.r d h u)) Θ'→Q .non H'
section
variable {CW:Addr}
theorem set_self {α : Type}:∀ {l:List α} {k:Nat} {x:α},l[k]? = some x→l.set k x = l:=fun {l k x} h=>by
 apply List.ext_getElem?
 intro i
 rw [List.getElem?_set]
 by_cases e:k = i
 ·subst e; rw [if_pos rfl,if_pos (List.getElem?_eq_some_iff.mp h).1,h]
 ·rw [if_neg e]
theorem ok_go (D:MethAt K CW "go_on" "Watch.go_on" s_Watch_go_on) (a_ways:Fl K CW "ways") (a_starts:Fl K CW "starts") (c_starts_behind:Cal P w K mg base 1 "starts_behind" ["starts", "ways"] spBeh) (m_Watch_rows_with:Mcal P w K mg base 2 CW "rows_with" ["self", "handle", "word"] (spRows CW)) (m_Watch_starts_of:Mcal P w K mg base 1 CW "starts_of" ["self", "handles"] (spStartsOf CW)):Mcal P w K mg base 3 CW "go_on" ["self", "handle", "word"] (spGo CW):=by
 refine D.mcal (k:=2) sc_Watch_go_on (fun _ _ _ _ _ _ us hl=>match us,hl with | [_,_,_],_=>rfl) (fun vs H Q E h=>by obtain ⟨_,_,_,_,_,_,_,_,_,_,rfl,_⟩:=h; rfl) (fun f cdv A outer s H vs Q _ hr h=>?_)
 obtain ⟨H0,es,ds,Θ,k,e,d,h,u,rfl,rfl,W,he,hd,hu,hw,hg,q⟩:=h
 refine ⟨_,(pss_one (ps_for PassesOwn.never rfl (pi_listK K (pe_mcal m_Watch_rows_with hr (pv 0 (hv:=vz18)) (pa_cons (pv 1 (hv:=vz19)) (pa_cons (pv 2 (hv:=vz1a)) pa_nil)))) (pg_tupK K (n:=2) (pgs_cons (pg_let 3 sc_Watch_go_on.nd (hx:=lzf)) (pgs_cons (pg_let 4 sc_Watch_go_on.nd (hx:=lzg)) pgs_nil))) (pss_one (ps_asg (pe_cal c_starts_behind hr (pa_cons (pe_mcal m_Watch_starts_of hr (pv 0 (hv:=vz18)) (pa_cons (pv 3 (hv:=vz1b)) pa_nil)) (pa_cons (pe_ix (ix_B K) (pe_fldC a_ways (pv 0 (hv:=vz18))) (pv 4 (hv:=vz1c)) (fun _ _=>rfl)) pa_nil)) (hg:=gz4)) (pg_sub (pe_fldC a_starts (pv 0 (hv:=vz18))) (pv 3 (hv:=vz1b)) (set_Tk hr)))))),?_⟩
 walk_at "rd1"
 refine ⟨(W.stat' he).isM (by decide +kernel),H0,es,ds,Θ,k,e,d,h,u,rfl,rfl,W,he,hd,hu,hw,fun R ra H2 s2 hR eR pR=>?_⟩
 refine ⟨R,rfl,⟨_,SqL.of eR⟩,?_⟩
 have W2:=W.mono s2
 have hRΘ : Θ R = none:=W.role_none hR
 refine forW_list (xs:=ra.map V.ref) (fun i σ H'=>∃ (o3 o4:Option V) (Θ':Addr→Option Role),σ = [some (.ref e.w),some (.int h),some (.str u),o3,o4]∧WAt H0 H' es (ds.set k (((rowsP e.r d h u).take i).foldl (goStep e.r) d)) Θ'∧GoOk e.r (((rowsP e.r d h u).take i).foldl (goStep e.r) d) ((rowsP e.r d h u).drop i)∧Θ' R = none∧H' R = some (.lst (ra.map V.ref))∧∀ c ys,H2 c = some (.tup ys)→H' c = some (.tup ys))
  ⟨_,_,Θ,rfl,by rw [show ((rowsP e.r d h u).take 0).foldl (goStep e.r) d = d from rfl,set_self hd]; exact W2,hg,hRΘ,eR,fun _ _ z=>z⟩ (fun i σ H' _ hh=>?_) (fun i x σ H' hx hh=>?_) (fun σ H' hh=>?_)
 ·obtain ⟨_,_,_,_,_,_,_,eR',_⟩:=hh
  exact SqL.of eR'
 ·obtain ⟨o3,o4,Θ',rfl,W3,hg3,hRΘ',eR',tp⟩:=hh
  have hx':∃ b,ra[i]? = some b∧x = .ref b:=by
   rw [List.getElem?_map] at hx
   cases e1:ra[i]? with
   | none=>rw [e1] at hx; cases hx
   | some b=>rw [e1] at hx; cases hx; exact ⟨b,rfl,rfl⟩
  obtain ⟨b,hb,rfl⟩:=hx'
  have hi:i < (rowsP e.r d h u).length:=by rw [← paired_lenW pR]; exact (List.getElem?_eq_some_iff.mp hb).1
  have hp:=List.getElem?_eq_getElem hi
  have hdr:(rowsP e.r d h u).drop i = (rowsP e.r d h u)[i] :: (rowsP e.r d h u).drop (i + 1):=List.drop_eq_getElem_cons hi
  generalize (rowsP e.r d h u)[i] = p at hp hdr
  have hpt:=rows_text (List.mem_of_getElem? hp)
  obtain ⟨c,eb,ec⟩ : RowAt H2 b p:=paired_get pR hb hp
  have ek:((rowsP e.r d h u).take (i + 1)).foldl (goStep e.r) d = goStep e.r (((rowsP e.r d h u).take i).foldl (goStep e.r) d) p:=by
   rw [List.take_add_one,hp]; simp
  rw [hdr] at hg3
  rw [ek]
  generalize ((rowsP e.r d h u).take i).foldl (goStep e.r) d = d' at W3 hg3 ⊢
  obtain ⟨g1,g2,g3,g4⟩:=hg3
  have hd':(ds.set k d')[k]? = some d':=get_set hd
  have eb':=tp _ _ eb
  have ec':HsAt H' c p.1:=tp _ _ ec
  walk_at "rd1"
  refine ⟨b,_,rfl,SqT.of eb',rfl,?_⟩
  walk_at "rd1"
  refine ⟨(W3.stat' he).isM (by decide +kernel),H0,es,_,Θ',k,e,d',c,p.1,rfl,rfl,W3,he,hd',ec',fun a H3 s3 ea ha0=>?_⟩
  have W4:=W3.mono s3
  have S4:=W4.stat' he
  obtain ⟨aw,ab,w1,w2,w3,w4⟩:=S4.yes p.2 hpt
  refine S4.ways (.inr ⟨e.wd,e.wk,.inr p.2,.ref aw,rfl,rfl,S4.wd,w1,?_⟩)
  refine ⟨a,aw,_,_,rfl,ea,w2,g2,g3,fun L H4 s4 hL eL=>?_⟩
  have W5:=W4.mono s4
  obtain ⟨kvs,q1,q2,q3⟩:=W5.getS he hd' p.1
  have hbk:H4 c = some (.tup ((hsK p.1).map kV)):=by rw [hsK_kV]; exact s4 _ _ (s3 _ _ ec')
  refine (W5.stat' he).starts ⟨e.sa,c,kvs,hsK p.1,rfl,rfl,q1,hbk,small' (by rw [q2]; omega),?_⟩
  have W6:=W5.putS he hd' (hs:=p.1) (W4.role_none hL) (W4.sm.free hL) eL q1
  rw [List.set_set] at W6
  have nRsa:R ≠ e.sa:=fun z=>by rw [z,(W3.own k e he).1] at hRΘ'; cases hRΘ'
  have eR4:=s4 _ _ (s3 _ _ eR')
  refine ⟨_,_,_,rfl,W6,g4,?_,by rw [upd_ne nRsa]; exact eR4,fun c ys z=>?_⟩
  ·unfold newR
   rw [if_neg (fun z=>by rw [← z,s3 _ _ eR'] at hL; cases hL),if_neg (by rw [hRΘ']; simp)]
   exact hRΘ'
  ·have z':=s4 _ _ (s3 _ _ (tp c ys z))
   rw [upd_ne (fun g=>by rw [g,q1] at z'; cases z')]; exact z'
 ·obtain ⟨o3,o4,Θ',rfl,W3,_⟩:=hh
  rw [List.length_map,paired_lenW pR,List.take_length] at W3
  exact q _ Θ' W3
def spTieW (C:Addr):Sp:=fun vs H Q _=>∃ (H0:Hp) (es:List WE) (ds:List WD) (Θ : Addr→Option Role) (k:Nat) (e:WE) (d:WD) (one other:Int) (start:Nat),e.C = C∧vs = [.ref e.w,.int one,.int other,.int (start:Int)]∧WAt H0 H es ds Θ∧es[k]? = some e∧ds[k]? = some d∧d.S.length ≤ 100000∧d.T.length ≤ 100000∧(∀ p ∈ d.T,p.2.length ≤ 100000)∧(∀ p ∈ d.S,p.2.length ≤ 100000)∧
 ∀ (H':Hp) (Θ':Addr→Option Role),WAt H0 H' es (ds.set k (if e.r.s = 1 then d else tieP d one other start)) Θ'→Q .non H'
theorem putP_putP {α β : Type} [DecidableEq α] (l:List (α × β)) (k:α) (a b:β):putP (putP l k a) k b = putP l k b:=by
 cases h:getP l k with
 | some v=>
  rw [putP_there (x:=b) (getP_put l k k a ▸ if_pos rfl),putP_there h,putP_there h,List.map_map]
  refine List.map_congr_left fun p _=>?_
  by_cases e:p.1 = k
  ·simp [e]
  ·simp [e]
 | none=>
  rw [putP_there (x:=b) (getP_put l k k a ▸ if_pos rfl)]
  have hno:∀ p ∈ l,¬ p.1 = k:=fun p hp z=>by
   have:(l.any fun q=>decide (q.1 = k)) = true:=List.any_eq_true.mpr ⟨p,hp,by simp [z]⟩
   rw [getP_any,h] at this; cases this
  have e1:∀ x,putP l k x = l ++ [(k,x)]:=fun x=>by unfold putP; rw [getP_any,h,if_neg (by simp)]
  rw [e1,e1,List.map_append]
  congr 1
  ·conv=>rhs; rw [← List.map_id l]
   exact List.map_congr_left fun p hp=>by rw [if_neg (hno p hp)]; rfl
  ·simp
theorem addTo_len (T:List ((Int × Int) × List (Int × Int))) (p x:Int × Int):(addTo T p x).length ≤ T.length + 1:=putP_len _ _ _
theorem addTo_lens {T:List ((Int × Int) × List (Int × Int))} {p x:Int × Int} {n:Nat} (h:∀ q ∈ T,q.2.length ≤ n):∀ q ∈ addTo T p x,q.2.length ≤ n + 1:=fun q hq=>by
 rcases putP_mem hq with rfl | ⟨hq,_⟩
 ·show ((getP T p).getD [] ++ [x]).length ≤ n + 1
  rw [List.length_append]
  cases e:getP T p with
  | none=>simp
  | some l=>have:=h _ (getP_mem e); show l.length + 1 ≤ n + 1; exact Nat.succ_le_succ this
 ·have:=h q hq; omega
theorem ok_tieW (D:MethAt K CW "begin_tie" "Watch.begin_tie" s_Watch_begin_tie) (a_sides:Fl K CW "sides") (a_starts:Fl K CW "starts") (a_ties:Fl K CW "ties"):Mcal P w K mg base 1 CW "begin_tie" ["self", "one", "other", "start"] (spTieW CW):=by
 refine D.mcal (k:=0) sc_Watch_begin_tie (fun _ _ _ _ _ _ us hl=>match us,hl with | [_,_,_,_],_=>rfl) (fun vs H Q E h=>by obtain ⟨_,_,_,_,_,_,_,_,_,_,_,rfl,_⟩:=h; rfl) (fun f cdv A outer s H vs Q _ hr h=>?_)
 obtain ⟨H0,es,ds,Θ,k,e,d,one,other,start,rfl,rfl,W,he,hd,hS,hT,hTl,hSl,q⟩:=h
 refine ⟨_,(pss_cons (ps_if (pt_cmpR (op_eqTI K hr) (pe_fldC a_sides (pv 0 (hv:=vzk))) (pe_tup (pa_cons pe_int pa_nil)) (nomark _)) (pss_one ps_retN) pss_nil)
   (pss_cons (ps_let 4 sc_Watch_begin_tie.nd (pe_tup (pa_cons (pv 1 (hv:=vzl)) (pa_cons (pv 2 (hv:=vzm)) pa_nil))) (hx:=lz6))
   (pss_cons (ps_if (pt_cmpR (op_notInT hr) (pv 4 (hv:=vzo)) (pe_fldC a_starts (pv 0 (hv:=vzk))) (by with_unfolding_all rfl)) (pss_cons (ps_asg pe_dnewK (pg_sub (pe_fldC a_starts (pv 0 (hv:=vzk))) (pv 4 (hv:=vzo)) (set_Tk hr)))
   (pss_cons (ps_expr (pe_bmK K PySem.F.plainAttrs_list PySem.F.slot_list_append PySem.F.type_list_append mt_appendA (pe_bmK K PySem.F.plainAttrs_dict PySem.F.slot_dict_setdefault PySem.F.type_dict_setdefault (mt_setdefT hr) (pe_fldC a_ties (pv 0 (hv:=vzk))) (pa_cons (pe_tup (pa_cons (pv 1 (hv:=vzl)) (pa_cons pe_int pa_nil))) (pa_cons (pe_lst pa_nil) pa_nil))) (pa_cons (pv 4 (hv:=vzo)) pa_nil)))
   (pss_one (ps_expr (pe_bmK K PySem.F.plainAttrs_list PySem.F.slot_list_append PySem.F.type_list_append mt_appendA (pe_bmK K PySem.F.plainAttrs_dict PySem.F.slot_dict_setdefault PySem.F.type_dict_setdefault (mt_setdefT hr) (pe_fldC a_ties (pv 0 (hv:=vzk))) (pa_cons (pe_tup (pa_cons (pv 2 (hv:=vzm)) (pa_cons pe_int pa_nil))) (pa_cons (pe_lst pa_nil) pa_nil))) (pa_cons (pv 4 (hv:=vzo)) pa_nil)))))) pss_nil)
   (pss_one (ps_expr (pe_bmK K PySem.F.plainAttrs_dict PySem.F.slot_dict_setdefault PySem.F.type_dict_setdefault mt_setdefK (pe_ix (ix_Tk hr) (pe_fldC a_starts (pv 0 (hv:=vzk))) (pv 4 (hv:=vzo)) (fun _ _=>rfl)) (pa_cons pe_int (pa_cons (pv 3 (hv:=vzn)) pa_nil)))))))),?_⟩
 walk_at "rd1"
 refine (W.stat' he).sides ⟨by decide,fun p hp=>?_⟩
 have s1:=same_new hp (.tup [.int 0])
 have ep:upd H p (.tup [.int 0]) p = some (.tup (([0]:List Int).map V.int)):=upd_same
 generalize upd H p (.tup [.int 0]) = H1 at s1 ep ⊢
 have W1:=W.mono s1
 refine ⟨e.sd,p,sidesOf e.r,[0],rfl,rfl,SqT.of (W1.stat' he).sd,SqT.of ep,_,rfl,?_⟩
 refine ite2 (fun c=>?_) (fun c=>?_)
 ·have hs:e.r.s = 1:=by
   by_cases hs:e.r.s = 1
   ·exact hs
   ·unfold sidesOf at c; rw [if_neg hs] at c; exact absurd c (by decide)
  refine q H1 Θ ?_
  rw [if_pos hs,set_self hd]; exact W1
 ·have hs:¬ e.r.s = 1:=fun hs=>c (by unfold sidesOf; rw [if_pos hs]; rfl)
  rw [if_neg hs] at q
  walk_at "nx"
  refine ⟨by decide,fun t ht=>?_⟩
  have s2:=same_new ht (.tup [.int one,.int other])
  have et:upd H1 t (.tup [.int one,.int other]) t = some (.tup [.int one,.int other]):=upd_same
  generalize upd H1 t (.tup [.int one,.int other]) = H2 at s2 et ⊢
  have W2:=W1.mono s2
  have etk:H2 t = some (.tup ((hsK [one,other]).map kV)):=et
  walk_at "nx"
  obtain ⟨kvs,g1,g2,g3⟩:=W2.getS he hd [one,other]
  refine (W2.stat' he).starts ⟨e.sa,t,kvs,hsK [one,other],rfl,rfl,g1,etk,?_⟩
  have add:∀ (x1 sd:Int) (H4:Hp) (Θ4:Addr→Option Role) (d4:WD) (Post:Hp→Prop),WAt H0 H4 es (ds.set k d4) Θ4→H4 t = some (.tup [.int one,.int other])→d4.T.length ≤ 200000→(∀ p ∈ d4.T,p.2.length ≤ 200000)→(∀ H5 Θ5,WAt H0 H5 es (ds.set k ⟨d4.S,addTo d4.T (x1,sd) (one,other)⟩) Θ5→H5 t = some (.tup [.int one,.int other])→Post H5)→
    ∃ dx fs v,H4 e.w = some (.ins e.C dx fs)∧fs.lookup ("ties" : Str) = some v∧tyV K "dict" v H4∧2 ≤ sizeLine∧∀ p,H4 p = none→0 ≤ sizeLine∧∀ p1,upd H4 p (.tup [.int x1,.int sd]) p1 = none→
     rSetdefT v [.ref p,.ref p1] (upd (upd H4 p (.tup [.int x1,.int sd])) p1 (.lst [])) fun x H1=>tyV K "list" x H1∧rAppend x [.ref t] H1 fun _ H1=>Post H1:=by
   intro x1 sd H4 Θ4 d4 Post W4 et4 hl1 hl2 post
   have hd4:(ds.set k d4)[k]? = some d4:=get_set hd
   obtain ⟨kvs4,f1,f2,f3⟩:=W4.getT he hd4 (x1,sd)
   refine (W4.stat' he).ties ⟨.inr (.inr (.inl ⟨rfl,.inr ⟨_,f1⟩⟩)),by decide,fun p hp=>⟨by decide,fun l hl=>?_⟩⟩
   have s5:=same_new hp (.tup [.int x1,.int sd])
   have ep5:upd H4 p (.tup [.int x1,.int sd]) p = some (.tup ((twK (x1,sd)).map kV)):=upd_same
   generalize upd H4 p (.tup [.int x1,.int sd]) = H5 at s5 ep5 hl ⊢
   have s6:=same_new hl (.lst [])
   have el:upd H5 l (.lst []) l = some (.lst []):=upd_same
   generalize upd H5 l (.lst []) = H6 at s6 el ⊢
   have s7:=s5.trans s6
   have W6:=W4.mono s7
   refine ⟨e.ta,p,twK (x1,sd),kvs4,.ref l,rfl,rfl,s7 _ _ f1,s6 _ _ ep5,small' (by rw [f2]; omega),fun z hz=>?_,fun hz=>?_⟩
   ·rcases f3 with ⟨f3,_⟩ | ⟨b,ll,as,f3,f4,f5,f6,f7⟩
    ·rw [hz] at f3; cases f3
    rw [hz] at f3; cases f3
    have eb:=s7 _ _ f6
    refine ⟨.inl ⟨rfl,_,SqL.of eb⟩,?_⟩
    rw [rAppend_at]
    have W7:=W6.addT hd4 (x:=(one,other)) f5 f4 eb (paired_imp (fun b x z=>s7 _ _ z) f7) (s7 _ _ et4)
    rw [List.set_set] at W7
    have hlen:=paired_lenW f7
    have h9:ll.length ≤ 200000:=hl2 _ (getP_mem f4)
    refine ⟨_,eb,small' (by rw [List.length_map,hlen]; omega),post _ Θ4 ?_ ?_⟩
    ·unfold addTo; rw [f4]; exact W7
    ·rw [upd_ne (fun z=>by have:=s7 _ _ et4; rw [z,eb] at this; cases this)]; exact s7 _ _ et4
   ·have hno:getP d4.T (x1,sd) = none:=by
     rcases f3 with ⟨_,f3⟩ | ⟨b,ll,as,f3,_⟩
     ·exact f3
     ·rw [hz] at f3; cases f3
    have hlΘ : Θ4 l = none:=W4.role_none (s5.free hl)
    have W7:=W6.putT he hd4 (p:=(x1,sd)) hlΘ (W4.sm.free (s5.free hl)) el (s7 _ _ f1)
    rw [List.set_set] at W7
    have nlt:l ≠ e.ta:=fun z=>by rw [z,(W4.own k e he).2] at hlΘ; cases hlΘ
    have el7:upd H6 e.ta (.dT (putK kvs4 (twK (x1,sd)) (.ref l))) l = some (.lst []):=by rw [upd_ne nlt]; exact el
    have et7:upd H6 e.ta (.dT (putK kvs4 (twK (x1,sd)) (.ref l))) t = some (.tup [.int one,.int other]):=by
     rw [upd_ne (fun z=>by have:=et4; rw [z,f1] at this; cases this)]; exact s7 _ _ et4
    generalize upd H6 e.ta (.dT (putK kvs4 (twK (x1,sd)) (.ref l))) = H7 at W7 el7 et7 ⊢
    refine ⟨.inl ⟨rfl,_,SqL.of el7⟩,?_⟩
    rw [rAppend_at]
    have W8:=W7.addT (get_set hd) (x:=(one,other)) newR_self (by rw [getP_put,if_pos rfl]) (as:=[]) el7 .nil et7
    rw [List.set_set] at W8
    have W9:WAt H0 (upd H7 l (.lst ([] ++ [V.ref t]))) es (ds.set k ⟨d4.S,putP (putP d4.T (x1,sd) []) (x1,sd) ([] ++ [(one,other)])⟩) (newR Θ4 l (.tl k (x1,sd))):=W8
    refine ⟨_,el7,small' (by decide),post _ (newR Θ4 l (.tl k (x1,sd))) ?_ ?_⟩
    ·rw [putP_putP] at W9
     unfold addTo; rw [hno]; exact W9
    ·rw [upd_ne (fun z=>by rw [z,el7] at et7; cases et7)]; exact et7
  have fin:∀ (H3:Hp) (Θ3:Addr→Option Role) (d3:WD),WAt H0 H3 es (ds.set k d3) Θ3→H3 t = some (.tup [.int one,.int other])→∀ rs,getP d3.S [one,other] = some rs→rs.length ≤ 100000→(⟨putP d3.S [one,other] (setDef rs start),d3.T⟩ : WD) = tieP d one other start→
    Rest (tDrop (tBM K "dict" rSetdefK (tOp rIxTk (tFldC e.C "starts" (tVar 0)) (tVar 4)) (tCons (tC (V.int 0)) (tCons (tVar 3) tNil)))) { nx:=fun x H'=>Q V.non H',rt:=Q } [some (V.ref e.w),some (V.int one),some (V.int other),some (V.int (start:Int)),some (V.ref t)] H3:=by
   intro H3 Θ3 d3 W3 et3 rs hrs hrl hfin
   have hd3:(ds.set k d3)[k]? = some d3:=get_set hd
   obtain ⟨kvs3,f1,f2,f3⟩:=W3.getS he hd3 [one,other]
   rcases f3 with ⟨_,f3⟩ | ⟨b,rs',f3,f4,f5,f6⟩
   ·rw [hrs] at f3; cases f3
   rw [hrs] at f4; cases f4
   walk_at "nx"
   refine (W3.stat' he).starts ⟨e.sa,t,kvs3,hsK [one,other],.ref b,rfl,rfl,f1,et3,f3,?_⟩
   refine ⟨.inr (.inr (.inl ⟨rfl,.inl ⟨_,f6⟩⟩)),?_⟩
   have W4:=W3.setR (rs':=setDef rs start) hd3 f5 hrs
   rw [List.set_set,hfin] at W4
   refine ⟨b,_,.inl 0,_,rfl,rfl,f6,small' (by rw [show (rsD rs).length = rs.length from List.length_map _]; omega),fun z hz=>?_,fun hz=>?_⟩
   ·rw [show ((.inl 0:Key)) = .inl ((0:Nat):Int) from rfl,rsD_val] at hz
    have h0:¬ getP rs 0 = none:=fun g=>by rw [g] at hz; cases hz
    have e0:setDef rs start = rs:=by unfold setDef; rw [if_neg h0]
    rw [e0] at W4
    have e1:upd H3 b (.dK (rsD rs)) = H3:=by
     funext c
     by_cases hc:c = b
     ·rw [hc,upd_same,f6]
     ·rw [upd_ne hc]
    rw [e1] at W4
    exact q H3 Θ3 W4
   ·rw [show ((.inl 0:Key)) = .inl ((0:Nat):Int) from rfl,rsD_val] at hz
    have h0:getP rs 0 = none:=by
     cases g:getP rs 0 with
     | none=>rfl
     | some y=>rw [g] at hz; cases hz
    have e0:setDef rs start = putP rs 0 start:=by unfold setDef; rw [if_pos h0]
    rw [e0,← rsD_put] at W4
    exact q _ Θ3 W4
  walk_at "rd1"
  refine ite2 (fun c=>?_) (fun c=>?_)
  ·have hno:getP d.S [one,other] = none:=by
    rcases g3 with ⟨_,g⟩ | ⟨b,rs,g,_⟩
    ·exact g
    ·rw [g] at c; cases c
   refine fun b hb=>?_
   have s3:=same_new hb (.dK [])
   have eb:upd H2 b (.dK []) b = some (.dK (rsD [])):=upd_same
   generalize upd H2 b (.dK []) = H3 at s3 eb ⊢
   have W3:=W2.mono s3
   have W4:=W3.putS he hd (hs:=[one,other]) (W2.role_none hb) (W2.sm.free hb) eb (s3 _ _ g1)
   refine (W3.stat' he).starts ⟨e.sa,t,kvs,hsK [one,other],rfl,rfl,s3 _ _ g1,s3 _ _ etk,small' (by rw [g2]; omega),?_⟩
   have et4:upd H3 e.sa (.dT (putK kvs (hsK [one,other]) (.ref b))) t = some (.tup [.int one,.int other]):=by
    rw [upd_ne (fun z=>by have:=s3 _ _ et; rw [z,s3 _ _ g1] at this; cases this)]; exact s3 _ _ et
   generalize upd H3 e.sa (.dT (putK kvs (hsK [one,other]) (.ref b))) = H4 at W4 et4 ⊢
   generalize newR Θ b (.rd k [one,other]) = Θ4 at W4
   walk_at "nx"
   refine add one 1 H4 Θ4 _ _ W4 et4 (by show d.T.length ≤ _; omega) (fun p hp=>Nat.le_trans (hTl p hp) (by decide)) fun H5 Θ5 W5 et5=>?_
   walk_at "nx"
   have hl5:=addTo_len d.T (one,1) (one,other)
   refine add other 2 H5 Θ5 _ _ W5 et5 (by show (addTo d.T (one,1) (one,other)).length ≤ _; omega) (fun p hp=>Nat.le_trans (addTo_lens hTl p hp) (by decide)) fun H6 Θ6 W6 et6=>?_
   have hnt:newTie d one other = ⟨putP d.S [one,other] [],addTo (addTo d.T (one,1) (one,other)) (other,2) (one,other)⟩:=by unfold newTie; rw [if_pos hno]
   have hg:getP (putP d.S [one,other] ([]:Rs)) [one,other] = some []:=by rw [getP_put,if_pos rfl]
   refine fin H6 Θ6 _ W6 et6 [] hg (by decide) ?_
   unfold tieP
   rw [hnt]
   show (⟨putP (putP d.S [one,other] []) [one,other] (setDef [] start),_⟩ : WD) = ⟨putP (putP d.S [one,other] []) [one,other] (setDef ((getP (putP d.S [one,other] []) [one,other]).getD []) start),_⟩
   rw [hg]; rfl
  ·rcases g3 with ⟨g,_⟩ | ⟨b,rs,_,g4,_,_⟩
   ·rw [g] at c; exact absurd rfl c
   ·have hnt:newTie d one other = d:=by unfold newTie; rw [if_neg (by rw [g4]; simp)]
    refine fin H2 Θ d (by rw [set_self hd]; exact W2) et rs g4 (hSl _ (getP_mem g4)) ?_
    unfold tieP
    rw [hnt,g4]; rfl
end
def spWInit (C:Addr):Sp:=fun vs H Q _=>∃ (x dx p bp bl:Addr) (H0:Hp) (r:Rl) (pl:Nat) (nm:Str) (bs:List Addr),vs = [.ref x,.ref p,.ref bp,.non]∧H x = some (.ins C dx [])∧H0 x = none∧Same H0 H∧RuleAt H0 p r∧RlOk r∧r.ws.Nodup∧H0 bp = some (.lst (bs.map V.ref))∧bs.length = r.rs.length∧(∀ b ∈ bs,H0 b = some (.lst (r.ws.map fun _=>V.ref bl)))∧H0 bl = some (.tup [.int (pl:Int),.str nm])∧
 ∀ (e:WE) (H':Hp),e.C = C→e.w = x→e.r = r→e.pl = pl→e.nm = nm→Same H0 H'→StatAt H' e→H' e.sa = some (.dT [])→H' e.ta = some (.dT [])→H0 e.sa = none→H0 e.ta = none→e.sa ≠ e.ta→(∀ u ∈ r.ws,∀ a,(valV e.wk (.inr u) = some (.ref a)∨valV e.bk (.inr u) = some (.ref a))→H0 a = none)→Q .non H'
structure WB (Hb H:Hp) (r:Rl) (bl:Addr) (i:Nat) (wk bk:List (Key × V)):Prop where
 l1:wk.length ≤ i
 l2:bk.length ≤ i
 no:∀ u,u ∉ r.ws.take i→valV wk (.inr u) = none
 nw:∀ u ∈ r.ws.take i,∀ a,(valV wk (.inr u) = some (.ref a)∨valV bk (.inr u) = some (.ref a))→Hb a = none
 yes:∀ u,u ∈ r.ws.take i→∃ a b,valV wk (.inr u) = some (.ref a)∧H a = some (.lst ((colOf r (r.ws.idxOf u)).map wayV))∧valV bk (.inr u) = some (.ref b)∧H b = some (.lst (r.rs.map fun _=>V.ref bl))
theorem WB.keep {Hb H H':Hp} {r:Rl} {bl:Addr} {i:Nat} {wk bk:List (Key × V)} (h:WB Hb H r bl i wk bk) (k:∀ a xs,H a = some (.lst xs)→H' a = some (.lst xs)):WB Hb H' r bl i wk bk:=
 ⟨h.l1,h.l2,h.no,h.nw,fun u hu=>let ⟨a,b,h1,h2,h3,h4⟩:=h.yes u hu; ⟨a,b,h1,k _ _ h2,h3,k _ _ h4⟩⟩
theorem WB.push {Hb H:Hp} {r:Rl} {bl a b:Addr} {i:Nat} {wk bk:List (Key × V)} {u:Str} (h:WB Hb H r bl i wk bk) (na:Hb a = none) (nb:Hb b = none) (nd:r.ws.Nodup) (hu:r.ws[i]? = some u) (ha:H a = some (.lst ((colOf r i).map wayV))) (hb:H b = some (.lst (r.rs.map fun _=>V.ref bl))) :
  WB Hb H r bl (i + 1) (putK wk (.inr u) (.ref a)) (putK bk (.inr u) (.ref b)):=by
 have hi:=(List.getElem?_eq_some_iff.mp hu).1
 have eu:=(List.getElem?_eq_some_iff.mp hu).2
 have hix:r.ws.idxOf u = i:=by rw [← eu]; exact List.Nodup.idxOf_getElem nd i hi
 have htk:r.ws.take (i + 1) = r.ws.take i ++ [u]:=by rw [List.take_add_one,hu]; rfl
 refine ⟨Nat.le_trans (length_putK _ _ _) (Nat.succ_le_succ h.l1),Nat.le_trans (length_putK _ _ _) (Nat.succ_le_succ h.l2),fun v hv=>?_,fun v hv c hc=>?_,fun v hv=>?_⟩
 ·rw [htk,List.mem_append,not_or] at hv
  rw [valV_put,if_neg (fun z=>hv.2 (by rw [Sum.inr.inj z]; exact List.mem_singleton.mpr rfl))]
  exact h.no v hv.1
 ·rw [valV_put,valV_put] at hc
  by_cases e:v = u
  ·subst e
   rw [if_pos rfl,if_pos rfl] at hc
   rcases hc with hc | hc
   ·cases hc; exact na
   ·cases hc; exact nb
  ·rw [if_neg (fun z=>e (Sum.inr.inj z)),if_neg (fun z=>e (Sum.inr.inj z))] at hc
   rw [htk,List.mem_append] at hv
   exact h.nw v (hv.resolve_right (fun z=>e (List.mem_singleton.mp z))) c hc
 ·rw [valV_put,valV_put]
  by_cases e:v = u
  ·subst e
   rw [if_pos rfl,if_pos rfl,hix]
   exact ⟨a,b,rfl,ha,rfl,hb⟩
  ·rw [if_neg (fun z=>e (Sum.inr.inj z)),if_neg (fun z=>e (Sum.inr.inj z))]
   rw [htk,List.mem_append] at hv
   exact h.yes v (hv.resolve_right (fun z=>e (List.mem_singleton.mp z)))
section
variable {CW:Addr}
theorem al_same' {H H':Hp} {p:Addr} {o:HO} (e:upd H p o = H') (h:H p = none):Same H H':=e ▸ same_new h o
theorem al_at' {H H':Hp} {p:Addr} {o:HO} (e:upd H p o = H'):H' p = some o:=by rw [← e]; exact upd_same
theorem comp_ix {a L:Addr} {as:List Addr} {vs:List V} {i:Nat} {s0 s1 s2 s3 s5:Option V} {H1:Hp} {Q:VK} (hL:H1 L = none) (ha:H1 a = some (.lst (as.map V.ref))) (hl:as.length = vs.length) (hn:as.length ≤ 1000) (hi:∀ (j:Nat) b v,as[j]? = some b→vs[j]? = some v→∃ row,H1 b = some (.lst row)∧row[i]? = some v)
  (q:∀ H',Same H1 H'→H' L = some (.lst vs)→Q (.ref L) H'):compW (Itl K a) (gName 6) tYes (tOp (rIxA K) (tVar 6) (tVar 4)) 1 [s0,s1,s2,s3,some (.int (i:Int)),s5] L Q (upd H1 L (.lst [])):=by
 refine compW_list (xs:=as.map V.ref) (fun j ys H4=>ys = vs.take j∧Same H1 H4∧H4 L = some (.lst ys)) ⟨rfl,same_new hL _,upd_same⟩ (fun j ys H4 _ hh=>SqL.of (hh.2.1 _ _ ha)) ?_ ?_
 ·rintro j ys H4 v hv hj ⟨rfl,sm4,eL⟩
  rw [List.length_map] at hj
  rw [List.getElem?_map,List.getElem?_eq_getElem hj] at hv
  cases hv
  have hj':j < vs.length:=by omega
  obtain ⟨row,g1,g2⟩:=hi j as[j] vs[j] (List.getElem?_eq_getElem hj) (List.getElem?_eq_getElem hj')
  walk_at "rd1"
  refine ⟨_,_,.inl (SqL.of (sm4 _ _ g1)),atI_nat g2,?_⟩
  refine cstep (by rw [List.length_map]; exact hj) (by rw [List.length_take]; omega) (by rw [List.length_map]; exact smallL (by omega)) eL ⟨?_,sm4.upd hL _,upd_same⟩
  rw [List.take_add_one,List.getElem?_eq_getElem hj']; rfl
 ·rintro ys H4 ⟨rfl,sm4,eL⟩
  rw [List.length_map,hl,List.take_length] at eL
  exact q _ sm4 eL
theorem ok_winit (D:MakeAt K mg "Watch" CW "Watch.__init__" s_Watch___init__) (z_enumerate:mg "enumerate" = none) (a_sides:Fl K CW "sides") (a_column:Fl K CW "column") (a_ways:Fl K CW "ways") (a_blames:Fl K CW "blames") (a_starts:Fl K CW "starts") (a_ties:Fl K CW "ties"):Mkal P w K mg base 1 "Watch" CW ["self", "rule", "blames", "column"] (spWInit CW):=by
 refine D.mkal (k:=0) sc_Watch___init__ (fun _ _ _ _ _ _ us hl=>match us,hl with | [_,_,_,_],_=>rfl) (fun vs H Q E h=>by obtain ⟨_,_,_,_,_,_,_,_,_,_,rfl,_⟩:=h; rfl) (fun f cdv A outer s H vs Q _ hr h=>?_)
 obtain ⟨x,dx,p,bp,bl,H0,r,pl,nm,bs,rfl,hx,h0x,sm,hR,ok,nd,hbp,hbl,hbs,hbb,q⟩:=h
 obtain ⟨pw,pr,as,r1,r2,r3,r4,r5⟩:=id hR
 refine ⟨_,(pss_cons (ps_fldC a_sides (pv 0 (hv:=vzd)) (pe_ifExp (pt_cmpR op_eqA (pe_ix (ix_K K) (pv 1 (hv:=vze)) pe_int (fun _ _=>rfl)) pe_int (nomark _)) (pe_tup (pa_cons pe_int pa_nil)) (pe_tup (pa_cons pe_int (pa_cons pe_int pa_nil)))))
   (pss_cons (ps_fldC a_column (pv 0 (hv:=vzd)) (pv 3 (hv:=vzg)))
   (pss_cons (ps_fldC a_ways (pv 0 (hv:=vzd)) pe_dnewK)
   (pss_cons (ps_fldC a_blames (pv 0 (hv:=vzd)) pe_dnewK)
   (pss_cons (ps_for PassesOwn.never rfl (pi_enumK K gz2 z_enumerate (pa_cons (pe_ix (ix_K K) (pv 1 (hv:=vze)) pe_int (fun _ _=>rfl)) pa_nil)) (pg_tupK K (n:=2) (pgs_cons (pg_let 4 sc_Watch___init__.nd (hx:=lz4)) (pgs_cons (pg_let 5 sc_Watch___init__.nd (hx:=lz5)) pgs_nil))) (pss_cons (ps_asg (pe_comp (CompSc.to (fsc:=(defScope s_Watch___init__)) (N:=["self", "rule", "blames", "column", "place", "word"]) (N0:=["self", "rule", "blames", "column", "place", "word"]) (T:=["room"]) ⟨by decide +kernel,by decide +kernel,by decide +kernel,by decide +kernel,by decide +kernel,by decide +kernel,by decide +kernel⟩ rfl rfl) rfl (pi_listK K (pe_ix (ix_K K) (pv 1 (hv:=vze)) pe_int (fun _ _=>rfl))) (fun _ _ _ _=>(pg_let 6 (show (["self", "rule", "blames", "column", "place", "word", "room"]:List Str).Nodup from by decide +kernel) (hx:=(locC (defScope s_Watch___init__) (by decide +kernel))) (hf:=fnC (defScope s_Watch___init__) (by decide +kernel)))) (gfr_name (show (["self", "rule", "blames", "column", "place", "word"]:List Str).length ≤ 6 from by decide)) (fun _ _ _ _=>pifs_nil) (fun _ _ _ _=>(pe_ix (ix_K K) (pv 6 (hv:=(visC (defScope s_Watch___init__) (by decide +kernel)))) (pv 4 (hv:=(visC (defScope s_Watch___init__) (by decide +kernel)))) (fun _ _=>rfl)))) (pg_sub (pe_fldC a_ways (pv 0 (hv:=vzd))) (pv 5 (hv:=vzh)) (set_D hr)))
   (pss_one (ps_asg (pe_comp (CompSc.to (fsc:=(defScope s_Watch___init__)) (N:=["self", "rule", "blames", "column", "place", "word"]) (N0:=["self", "rule", "blames", "column", "place", "word"]) (T:=["blamed"]) ⟨by decide +kernel,by decide +kernel,by decide +kernel,by decide +kernel,by decide +kernel,by decide +kernel,by decide +kernel⟩ rfl rfl) rfl (pi_listK K (pv 2 (hv:=vzf))) (fun _ _ _ _=>(pg_let 6 (show (["self", "rule", "blames", "column", "place", "word", "blamed"]:List Str).Nodup from by decide +kernel) (hx:=(locC (defScope s_Watch___init__) (by decide +kernel))) (hf:=fnC (defScope s_Watch___init__) (by decide +kernel)))) (gfr_name (show (["self", "rule", "blames", "column", "place", "word"]:List Str).length ≤ 6 from by decide)) (fun _ _ _ _=>pifs_nil) (fun _ _ _ _=>(pe_ix (ix_K K) (pv 6 (hv:=(visC (defScope s_Watch___init__) (by decide +kernel)))) (pv 4 (hv:=(visC (defScope s_Watch___init__) (by decide +kernel)))) (fun _ _=>rfl)))) (pg_sub (pe_fldC a_blames (pv 0 (hv:=vzd))) (pv 5 (hv:=vzh)) (set_D hr))))))
   (pss_cons (ps_fldC a_starts (pv 0 (hv:=vzd)) pe_dnewT)
   (pss_one (ps_fldC a_ties (pv 0 (hv:=vzd)) pe_dnewT)))))))),?_⟩
 walk_at "rd1"
 refine ⟨_,_,.inr (SqT.of (sm _ _ r1)),rfl,?_⟩
 walk_at "rd1"
 have key:∀ (sd:Addr) (HA:Hp),HA sd = some (.tup ((sidesOf r).map V.int))→Same H0 HA→HA x = some (.ins CW dx [("sides", .ref sd)])→
   Rest (tSeq (sFldC CW "column" (tVar 0) (tVar 3)) (tSeq (sFldC CW "ways" (tVar 0) tDNewK) (tSeq (sFldC CW "blames" (tVar 0) tDNewK) (tSeq (tFor (iEnum K (tCons (tOp (rIxA K) (tVar 1) (tC (V.int 1))) tNil)) (gTup K 2 (gCons (gName 4) (gCons (gName 5) gNil))) (tSeq (tAsg (tComp (iList K (tOp (rIxA K) (tVar 1) (tC (V.int 2)))) (gName 6) tYes (tOp (rIxA K) (tVar 6) (tVar 4)) 1) (gSub (tFldC CW "ways" (tVar 0)) (tVar 5) rSetD)) (tAsg (tComp (iList K (tVar 2)) (gName 6) tYes (tOp (rIxA K) (tVar 6) (tVar 4)) 1) (gSub (tFldC CW "blames" (tVar 0)) (tVar 5) rSetD)))) (tSeq (sFldC CW "starts" (tVar 0) tDNewT) (sFldC CW "ties" (tVar 0) tDNewT)))))) { nx:=fun x H'=>Q V.non H',rt:=Q } [some (V.ref x),some (V.ref p),some (V.ref bp),some V.non,none,none] HA:=by
  intro sd HA esd sA eA
  walk_at "nx"
  refine ⟨dx,_,eA,by simp,?_⟩
  generalize hB:upd HA x _ = HB
  have eB:HB x = some (.ins CW dx [("sides", .ref sd),("column", .non)]):=by rw [← hB,upd_same]; walk_at "pf"
  have sB:Same H0 HB:=by rw [← hB]; exact sA.upd h0x _
  have tB:HB sd = some (.tup ((sidesOf r).map V.int)):=by rw [← hB,upd_ne (ne_of esd eA (fun z=>nomatch z))]; exact esd
  walk_at "nx"
  intro wd hwd
  generalize hC:upd HB wd _ = HC
  have sC:=al_same' hC hwd
  have dC:=al_at' hC
  refine ⟨dx,_,sC _ _ eB,by simp,?_⟩
  have nxw:wd ≠ x:=fun z=>by rw [z,eB] at hwd; cases hwd
  generalize hD:upd HC x _ = HD
  have eD:HD x = some (.ins CW dx [("sides", .ref sd),("column", .non),("ways", .ref wd)]):=by rw [← hD,upd_same]; walk_at "pf"
  have sD:Same H0 HD:=by rw [← hD]; exact (sB.trans sC).upd h0x _
  have tD:HD sd = some (.tup ((sidesOf r).map V.int)):=by rw [← hD,upd_ne (ne_of tB eB (fun z=>nomatch z))]; exact sC _ _ tB
  have wD:HD wd = some (.dK []):=by rw [← hD,upd_ne nxw]; exact dC
  have hw0:H0 wd = none:=sB.free hwd
  walk_at "nx"
  intro bd hbd
  generalize hE:upd HD bd _ = HE
  have sE:=al_same' hE hbd
  have dE:=al_at' hE
  refine ⟨dx,_,sE _ _ eD,by simp,?_⟩
  have nxb:bd ≠ x:=fun z=>by rw [z,eD] at hbd; cases hbd
  have nwb:bd ≠ wd:=fun z=>by rw [z,wD] at hbd; cases hbd
  generalize hF:upd HE x _ = HF
  have eF:HF x = some (.ins CW dx [("sides", .ref sd),("column", .non),("ways", .ref wd),("blames", .ref bd)]):=by rw [← hF,upd_same]; walk_at "pf"
  have sF:Same H0 HF:=by rw [← hF]; exact (sD.trans sE).upd h0x _
  have tF:HF sd = some (.tup ((sidesOf r).map V.int)):=by rw [← hF,upd_ne (ne_of tD eD (fun z=>nomatch z))]; exact sE _ _ tD
  have wF':HF wd = some (.dK []):=by rw [← hF,upd_ne nxw]; exact sE _ _ wD
  have bF:HF bd = some (.dK []):=by rw [← hF,upd_ne nxb]; exact dE
  have hb0:H0 bd = none:=sD.free hbd
  walk_at "nx"
  refine ⟨_,_,.inr (SqT.of (sF _ _ r1)),rfl,?_⟩
  refine ⟨pw,rfl,⟨_,sF _ _ r2⟩,?_⟩
  have nlw:∀ {c:Addr} {ys:List V},H0 c = some (.lst ys)→c ≠ wd∧c ≠ bd:=fun z=>⟨ne_of_none z hw0,ne_of_none z hb0⟩
  refine forW_enum (xs:=r.ws.map V.str) (fun i σ H'=>∃ (o4 o5:Option V) (wk bk:List (Key × V)),σ = [some (.ref x),some (.ref p),some (.ref bp),some .non,o4,o5]∧(∀ c o,c ≠ wd→c ≠ bd→HF c = some o→H' c = some o)∧H' wd = some (.dK wk)∧H' bd = some (.dK bk)∧WB H0 H' r bl i wk bk)
   ⟨_,_,[],[],rfl,fun _ _ _ _ z=>z,wF',bF,⟨Nat.le_refl _,Nat.le_refl _,fun _ _=>rfl,fun u hu=>(by cases hu),fun u hu=>(by cases hu)⟩⟩ (fun i σ H' _ hh=>?_) (fun i v t σ H' hv hh ht=>?_) (fun σ H' hh=>?_)
  ·obtain ⟨_,_,_,_,_,k2,_⟩:=hh
   exact SqL.of (k2 _ _ (nlw r2).1 (nlw r2).2 (sF _ _ r2))
  ·obtain ⟨o4,o5,wk,bk,rfl,k2,ew,eb,wb⟩:=hh
   have hv':∃ u,r.ws[i]? = some u∧v = .str u:=by
    rw [List.getElem?_map] at hv
    cases e1:r.ws[i]? with
    | none=>rw [e1] at hv; cases hv
    | some u=>rw [e1] at hv; cases hv; exact ⟨u,rfl,rfl⟩
   obtain ⟨u,hu,rfl⟩:=hv'
   have hi:=(List.getElem?_eq_some_iff.mp hu).1
   have s0':Same H0 H':=fun c o z=>k2 c o (ne_of_none z hw0) (ne_of_none z hb0) (sF c o z)
   have ex':H' x = some (.ins CW dx [("sides", .ref sd),("column", .non),("ways", .ref wd),("blames", .ref bd)]):=k2 _ _ (Ne.symm nxw) (Ne.symm nxb) eF
   have st:=same_new ht (.tup [.int (i:Int),.str u])
   have et:upd H' t (.tup [.int (i:Int),.str u]) t = some (.tup [.int (i:Int),.str u]):=upd_same
   generalize upd H' t (.tup [.int (i:Int),.str u]) = H1 at st et ⊢
   walk_at "rd1"
   refine ⟨t,_,rfl,SqT.of et,rfl,?_⟩
   walk_at "rd1"
   refine ⟨_,_,.inr (SqT.of (st _ _ (s0' _ _ r1))),rfl,?_⟩
   refine ⟨pr,rfl,⟨_,SqL.of (st _ _ (s0' _ _ r3))⟩,fun L hL=>?_⟩
   refine comp_ix (vs:=(colOf r i).map wayV) hL (st _ _ (s0' _ _ r3)) (by unfold colOf; rw [List.length_map,List.length_map]; exact r4) (by have:=ok.n1; omega) (fun j b v' e1 e2=>?_) (fun H2 s2 eL=>?_)
   ·have hj:j < r.rs.length:=by have:=(List.getElem?_eq_some_iff.mp e1).1; omega
    refine ⟨_,st _ _ (s0' _ _ (r5 j b _ e1 (List.getElem?_eq_getElem hj))),?_⟩
    have hrow:=(ok.row r.rs[j] (List.getElem_mem hj)).1
    unfold colOf at e2
    rw [List.map_map,List.getElem?_map,List.getElem?_eq_getElem hj] at e2
    cases e2
    rw [List.getElem?_map,List.getElem?_eq_getElem (by omega)]
    show some (wayV _) = some (wayV (r.rs[j].getD i none))
    rw [List.getD_eq_getElem?_getD,List.getElem?_eq_getElem (by omega)]; rfl
   have s2':=st.trans s2
   refine ⟨dx,_,_,s2' _ _ ex',by walk_at "lk", ?_⟩
   refine ⟨wd,wk,.inr u,rfl,rfl,s2' _ _ ew,small' (by have:=wb.l1; have:=ok.nw; omega),?_⟩
   have nLw:L ≠ wd:=fun z=>by rw [z,st _ _ ew] at hL; cases hL
   have nLb:L ≠ bd:=fun z=>by rw [z,st _ _ eb] at hL; cases hL
   generalize hG:upd H2 wd _ = HG
   have gw:HG wd = some (.dK (putK wk (.inr u) (.ref L))):=al_at' hG
   have gk:∀ c o,c ≠ wd→H2 c = some o→HG c = some o:=fun c o hc z=>by rw [← hG,upd_ne hc]; exact z
   have gb:=gk _ _ nwb (s2' _ _ eb)
   have gL:=gk _ _ nLw eL
   have gx:=gk _ _ (Ne.symm nxw) (s2' _ _ ex')
   have s0G:Same H0 HG:=fun c o z=>gk c o (ne_of_none z hw0) (s2' _ _ (s0' _ _ z))
   walk_at "nx"
   refine ⟨⟨_,SqL.of (s0G _ _ hbp)⟩,fun L2 hL2=>?_⟩
   refine comp_ix (vs:=r.rs.map fun _=>V.ref bl) hL2 (s0G _ _ hbp) (by rw [List.length_map]; exact hbl) (by have:=ok.n1; omega) (fun j b v' e1 e2=>?_) (fun H3 s3 eL2=>?_)
   ·refine ⟨_,s0G _ _ (hbs b (List.mem_of_getElem? e1)),?_⟩
    rw [List.getElem?_map] at e2
    cases e3:r.rs[j]? with
    | none=>rw [e3] at e2; cases e2
    | some y=>rw [e3] at e2; cases e2; rw [List.getElem?_map,hu]; rfl
   refine ⟨dx,_,_,s3 _ _ gx,by walk_at "lk", ?_⟩
   refine ⟨bd,bk,.inr u,rfl,rfl,s3 _ _ gb,small' (by have:=wb.l2; have:=ok.nw; omega),?_⟩
   have nL2b:L2 ≠ bd:=fun z=>by rw [z,gb] at hL2; cases hL2
   have kl:∀ c ys,H' c = some (.lst ys)→upd H3 bd (.dK (putK bk (.inr u) (.ref L2))) c = some (.lst ys):=fun c ys z=>by
    rw [upd_ne (fun g=>by rw [g,eb] at z; cases z)]
    exact s3 _ _ (gk _ _ (fun g=>by rw [g,ew] at z; cases z) (s2' _ _ z))
   refine ⟨_,_,_,_,rfl,fun c o h1 h2 z=>?_,by rw [upd_ne (Ne.symm nwb)]; exact s3 _ _ gw,upd_same,?_⟩
   ·rw [upd_ne h2]; exact s3 _ _ (gk _ _ h1 (s2' _ _ (k2 c o h1 h2 z)))
   ·exact (wb.keep kl).push ((s0'.trans st).free hL) (s0G.free hL2) nd hu (by rw [upd_ne nLb]; exact s3 _ _ gL) (by rw [upd_ne nL2b]; exact eL2)
  ·obtain ⟨o4,o5,wk,bk,rfl,k2,ew,eb,wb⟩:=hh
   rw [List.length_map] at wb
   have s0':Same H0 H':=fun c o z=>k2 c o (ne_of_none z hw0) (ne_of_none z hb0) (sF c o z)
   have ex':H' x = some (.ins CW dx [("sides", .ref sd),("column", .non),("ways", .ref wd),("blames", .ref bd)]):=k2 _ _ (Ne.symm nxw) (Ne.symm nxb) eF
   have esd':H' sd = some (.tup ((sidesOf r).map V.int)):=k2 _ _ (fun z=>by rw [z,wF'] at tF; cases tF) (fun z=>by rw [z,bF] at tF; cases tF) tF
   walk_at "nx"
   intro sa hsa
   generalize hG:upd H' sa _ = HG
   have sG:=al_same' hG hsa
   have dG:=al_at' hG
   refine ⟨dx,_,sG _ _ ex',by simp,?_⟩
   generalize hI:upd HG x _ = HI
   have eI:HI x = some (.ins CW dx [("sides", .ref sd),("column", .non),("ways", .ref wd),("blames", .ref bd),("starts", .ref sa)]):=by rw [← hI,upd_same]; walk_at "pf"
   have kI:∀ c o,c ≠ x→H' c = some o→HI c = some o:=fun c o hc z=>by rw [← hI,upd_ne hc]; exact sG _ _ z
   have aI:HI sa = some (.dT []):=by rw [← hI,upd_ne (fun z=>by rw [z,ex'] at hsa; cases hsa)]; exact dG
   walk_at "nx"
   intro ta hta
   generalize hJ:upd HI ta _ = HJ
   have sJ:=al_same' hJ hta
   have dJ:=al_at' hJ
   refine ⟨dx,_,sJ _ _ eI,by simp,?_⟩
   generalize hL:upd HJ x _ = HL
   have eL:HL x = some (.ins CW dx [("sides", .ref sd),("column", .non),("ways", .ref wd),("blames", .ref bd),("starts", .ref sa),("ties", .ref ta)]):=by rw [← hL,upd_same]; walk_at "pf"
   have kL:∀ c o,c ≠ x→HI c = some o→HL c = some o:=fun c o hc z=>by rw [← hL,upd_ne hc]; exact sJ _ _ z
   have kk:∀ c o,c ≠ x→H' c = some o→HL c = some o:=fun c o hc z=>kL c o hc (kI c o hc z)
   have tL:HL ta = some (.dT []):=by rw [← hL,upd_ne (fun z=>by rw [z,eI] at hta; cases hta)]; exact dJ
   have nsx:sa ≠ x:=fun z=>by rw [z,ex'] at hsa; cases hsa
   have nst:sa ≠ ta:=fun z=>by rw [z,hta] at aI; cases aI
   have nlx:∀ {c:Addr} {o:HO},H' c = some o→o ≠ (.ins CW dx [("sides", .ref sd),("column", .non),("ways", .ref wd),("blames", .ref bd)])→c ≠ x:=fun z1 z2=>ne_of z1 ex' z2
   have s0L:Same H0 HL:=fun c o z=>kk c o (ne_of_none z h0x) (s0' _ _ z)
   refine q ⟨CW,x,dx,sa,ta,sd,wd,bd,bl,wk,bk,r,pl,nm⟩ HL rfl rfl rfl rfl rfl s0L ⟨eL,kk _ _ (nlx esd' (fun z=>nomatch z)) esd',kk _ _ nxw ew,kk _ _ nxb eb,s0L _ _ hbb,fun u hu=>wb.no u (by rw [List.take_length]; exact hu),fun u hu=>?_,ok⟩ (kL _ _ nsx aI) tL (s0'.free hsa) ?_ nst (fun u hu a ha=>wb.nw u (by rw [List.take_length]; exact hu) a ha)
   ·obtain ⟨a,b,g1,g2,g3,g4⟩:=wb.yes u (by rw [List.take_length]; exact hu)
    exact ⟨a,b,g1,kk _ _ (nlx g2 (fun z=>nomatch z)) g2,g3,kk _ _ (nlx g4 (fun z=>nomatch z)) g4⟩
   ·have:H' ta = none:=by
     cases e1:H' ta with
     | none=>rfl
     | some o=>
      have:ta ≠ x:=fun z=>by rw [z,eI] at hta; cases hta
      have:=kI ta o this e1
      rw [hta] at this; cases this
    exact s0'.free this
 refine ite2 (fun c=>?_) (fun c=>?_)
 ·refine ⟨by decide,fun sd hsd=>⟨dx,_,same_new hsd _ _ _ hx,by simp,?_⟩⟩
  refine key sd _ ?_ ?_ (by rw [upd_same]; walk_at "pf")
  ·rw [upd_ne (fun z=>by rw [z,hx] at hsd; cases hsd),upd_same]
   unfold sidesOf; rw [if_pos c]; rfl
  ·exact (sm.trans (same_new hsd _)).upd h0x _
 ·refine ⟨by decide,fun sd hsd=>⟨dx,_,same_new hsd _ _ _ hx,by simp,?_⟩⟩
  refine key sd _ ?_ ?_ (by rw [upd_same]; walk_at "pf")
  ·rw [upd_ne (fun z=>by rw [z,hx] at hsd; cases hsd),upd_same]
   unfold sidesOf; rw [if_neg c]; rfl
  ·exact (sm.trans (same_new hsd _)).upd h0x _
end
def NmAt (H:Hp) (b:Addr) (x:Str × Rl):Prop:=∃ p,H b = some (.tup [.str x.1,.ref p])∧RuleAt H p x.2
theorem NmAt.mono {H H':Hp} {b:Addr} {x:Str × Rl} (h:NmAt H b x) (s:Same H H'):NmAt H' b x:=let ⟨p,h1,h2⟩:=h; ⟨p,s _ _ h1,h2.mono s⟩
structure MadeW (H H':Hp) (C:Addr) (e:WE) (k:Nat) (x:Str × Rl):Prop where
 C:e.C = C
 r:e.r = x.2
 pl:e.pl = k
 nm:e.nm = x.1
 st:StatAt H' e
 sa:H' e.sa = some (.dT [])
 ta:H' e.ta = some (.dT [])
 fs:H e.sa = none
 ft:H e.ta = none
 ne:e.sa ≠ e.ta
 nw:∀ u ∈ e.r.ws,∀ a,(valV e.wk (.inr u) = some (.ref a)∨valV e.bk (.inr u) = some (.ref a))→H a = none
def spWatchOf (C:Addr):Sp:=fun vs H Q _=>∃ (k:Nat) (b:Addr) (x:Str × Rl),vs = [.int (k:Int),.ref b,.non]∧NmAt H b x∧RlOk x.2∧x.2.ws.Nodup∧∀ (e:WE) (H':Hp),Same H H'→MadeW H H' C e k x→Q (.ref e.w) H'
section
variable {CW:Addr}
theorem ok_watchOf (D:DefAt K mg "watch_of" s_watch_of) (k_Watch:Mkal P w K mg base 1 "Watch" CW ["self", "rule", "blames", "column"] (spWInit CW)):Cal P w K mg base 3 "watch_of" ["place", "named", "column"] (spWatchOf CW):=by
 refine D.cal (k:=2) sc_watch_of (fun _ _ _ _ _ _ us hl=>match us,hl with | [_,_,_],_=>rfl) (fun vs H Q E h=>by obtain ⟨_,_,_,rfl,_⟩:=h; rfl) (fun f cdv A outer s H vs Q _ hr h=>?_)
 obtain ⟨k,b,⟨nm,r⟩,rfl,hN,ok,nd,q⟩:=h
 obtain ⟨p,eb,hR⟩:=hN
 dsimp only at eb hR ok nd
 obtain ⟨pw,pr,as,r1,r2,r3,r4,r5⟩:=id hR
 refine ⟨_,(pss_cons (ps_let 3 sc_watch_of.nd (pe_ix (ix_K K) (pv 1 (hv:=vz1e)) pe_int (fun _ _=>rfl)) (hx:=lzh))
   (pss_cons (ps_let 4 sc_watch_of.nd (pe_tup (pa_cons (pv 0 (hv:=vz1d)) (pa_cons (pe_ix (ix_K K) (pv 1 (hv:=vz1e)) pe_int (fun _ _=>rfl)) pa_nil))) (hx:=lzi))
   (pss_one (ps_ret (pe_mk k_Watch hr (pa_cons (pv 3 (hv:=vz1g)) (pa_cons (pe_comp (CompSc.to (fsc:=(defScope s_watch_of)) (N:=["place", "named", "column", "rule", "blame"]) (N0:=["place", "named", "column", "rule", "blame"]) (T:=["room"]) ⟨by decide +kernel,by decide +kernel,by decide +kernel,by decide +kernel,by decide +kernel,by decide +kernel,by decide +kernel⟩ rfl rfl) rfl (pi_listK K (pe_ix (ix_K K) (pv 3 (hv:=vz1g)) pe_int (fun _ _=>rfl))) (fun _ _ _ _=>(pg_let 5 (show (["place", "named", "column", "rule", "blame", "room"]:List Str).Nodup from by decide +kernel) (hx:=(locC (defScope s_watch_of) (by decide +kernel))) (hf:=fnC (defScope s_watch_of) (by decide +kernel)))) (gfr_name (show (["place", "named", "column", "rule", "blame"]:List Str).length ≤ 5 from by decide)) (fun _ _ _ _=>pifs_nil) (fun _ _ _ _=>(pe_comp (CompSc.to (fsc:=(relabelS _ (defScope s_watch_of))) (N:=["place", "named", "column", "rule", "blame", "room"]) (N0:=["place", "named", "column", "rule", "blame", "room"]) (T:=["word"]) ⟨by decide +kernel,by decide +kernel,by decide +kernel,by decide +kernel,by decide +kernel,by decide +kernel,by decide +kernel⟩ rfl rfl) rfl (pi_listK K (pe_ix (ix_K K) (pv 3 (hv:=(visC (defScope s_watch_of) (by decide +kernel)))) pe_int (fun _ _=>rfl))) (fun _ _ _ _=>(pg_let 6 (show (["place", "named", "column", "rule", "blame", "room", "word"]:List Str).Nodup from by decide +kernel) (hx:=(locC (relabelS _ (defScope s_watch_of)) (e:=rfl) (by decide +kernel))) (hf:=fnC (relabelS _ (defScope s_watch_of)) (e:=rfl) (by decide +kernel)))) (gfr_name (show (["place", "named", "column", "rule", "blame", "room"]:List Str).length ≤ 6 from by decide)) (fun _ _ _ _=>pifs_nil) (fun _ _ _ _=>(pv 4 (hv:=(visC (relabelS _ (defScope s_watch_of)) (e:=rfl) (by decide +kernel)))))))) (pa_cons (pv 2 (hv:=vz1f)) pa_nil))) (hg:=gz5)))))),?_⟩
 walk_at "rd1"
 refine ⟨_,_,.inr (SqT.of eb),rfl,?_⟩
 walk_at "nx"
 refine ⟨_,_,.inr (SqT.of eb),rfl,?_⟩
 walk_at "rd1"
 refine ⟨by decide,fun bl hbl=>?_⟩
 have s1:=same_new hbl (.tup [.int (k:Int),.str nm])
 have ebl:upd H bl (.tup [.int (k:Int),.str nm]) bl = some (.tup [.int (k:Int),.str nm]):=upd_same
 generalize upd H bl (.tup [.int (k:Int),.str nm]) = H1 at s1 ebl ⊢
 walk_at "nx"
 refine ⟨_,_,.inr (SqT.of (s1 _ _ r1)),rfl,?_⟩
 refine ⟨pr,rfl,⟨_,SqL.of (s1 _ _ r3)⟩,fun L hL=>?_⟩
 refine compW_list (xs:=as.map V.ref) (fun j ys H4=>∃ bs:List Addr,ys = bs.map V.ref∧bs.length = j∧Same H1 H4∧H4 L = some (.lst ys)∧∀ b ∈ bs,H4 b = some (.lst (r.ws.map fun _=>V.ref bl))∧b ≠ L) ⟨[],rfl,rfl,same_new hL _,upd_same,fun _ z=>nomatch z⟩ (fun j ys H4 _ hh=>by obtain ⟨_,_,_,sm4,_⟩:=hh; exact SqL.of (sm4 _ _ (s1 _ _ r3))) ?_ ?_
 ·rintro j ys H4 v hv hj ⟨bs,rfl,hbl',sm4,eL,hb⟩
  rw [List.length_map] at hj
  walk_at "rd1"
  refine ⟨_,_,.inr (SqT.of (sm4 _ _ (s1 _ _ r1))),rfl,?_⟩
  refine ⟨pw,rfl,⟨_,SqL.of (sm4 _ _ (s1 _ _ r2))⟩,fun M hM=>?_⟩
  refine compW_list (xs:=r.ws.map V.str) (fun i zs H5=>zs = ((r.ws.take i).map fun _=>V.ref bl)∧Same H4 H5∧H5 M = some (.lst zs)) ⟨rfl,same_new hM _,upd_same⟩ (fun i zs H5 _ hh=>SqL.of (hh.2.1 _ _ (sm4 _ _ (s1 _ _ r2)))) ?_ ?_
  ·rintro i zs H5 v' hv' hi ⟨rfl,sm5,eM⟩
   rw [List.length_map] at hi
   walk_at "rd1"
   refine cstep (by rw [List.length_map]; exact hi) (by rw [List.length_map,List.length_take]; omega) (by rw [List.length_map]; exact smallL (by have:=ok.nw; omega)) eM ⟨?_,sm5.upd hM _,upd_same⟩
   rw [List.take_add_one,List.getElem?_eq_getElem hi,List.map_append]; rfl
  ·rintro zs H5 ⟨rfl,sm5,eM⟩
   rw [List.length_map,List.take_length] at eM
   have nML:M ≠ L:=fun z=>by rw [z,eL] at hM; cases hM
   refine cstep (by rw [List.length_map]; exact hj) (by rw [List.length_map]; exact hbl') (by rw [List.length_map]; exact smallL (by have:=ok.n1; omega)) (sm5 _ _ eL) ⟨bs ++ [M],map_push _ _,by simp [hbl'],(sm4.trans sm5).upd hL _,upd_same,fun b' hb'=>?_⟩
   rcases List.mem_append.mp hb' with z | z
   ·obtain ⟨z1,z2⟩:=hb b' z
    exact ⟨by rw [upd_ne z2]; exact sm5 _ _ z1,z2⟩
   ·have:b' = M:=by simpa using z
    subst this
    exact ⟨by rw [upd_ne nML]; exact eM,nML⟩
 ·rintro ys H4 ⟨bs,rfl,hbl',sm4,eL,hb⟩
  rw [List.length_map] at hbl'
  have s14:=s1.trans sm4
  intro x dx hx hdx hne
  refine ⟨x,dx,p,L,bl,H4,r,k,nm,bs,rfl,upd_same,hx,(same_new hdx _).upd hx _,hR.mono s14,ok,nd,eL,by rw [hbl',r4],fun b hb'=>(hb b hb').1,sm4 _ _ ebl,fun e H' e1 e2 e3 e4 e5 s5 g1 g2 g3 g4 g5 g6 g7=>⟨rfl,?_⟩⟩
  rw [← e2]
  exact q e H' (s14.trans s5) ⟨e1,e3,e4,e5,g1,g2,g3,s14.free g4,s14.free g5,g6,fun u hu a ha=>s14.free (g7 u (by rw [← e3]; exact hu) a ha)⟩
structure Made (H H':Hp) (C:Addr) (es:List WE) (xs:List (Str × Rl)):Prop where
 len:es.length = xs.length
 at':∀ (k:Nat) e x,es[k]? = some e→xs[k]? = some x→MadeW H H' C e k x
 ne:∀ (i j:Nat) e e',es[i]? = some e→es[j]? = some e'→i ≠ j→e.sa ≠ e'.sa∧e.sa ≠ e'.ta∧e.ta ≠ e'.ta
def spWatches (C:Addr):Sp:=fun vs H Q _=>∃ (b:Addr) (bs:List Addr) (xs:List (Str × Rl)),vs = [.ref b]∧H b = some (.lst (bs.map V.ref))∧Paired (NmAt H) bs xs∧xs.length ≤ 1000∧(∀ x ∈ xs,RlOk x.2∧x.2.ws.Nodup)∧
 ∀ (a:Addr) (es:List WE) (H':Hp),Same H H'→H a = none→H' a = some (.lst (es.map fun e=>V.ref e.w))→Made H H' C es xs→Q (.ref a) H'
theorem MadeW.mono {H H1 H' H2:Hp} {C:Addr} {e:WE} {k:Nat} {x:Str × Rl} (h:MadeW H1 H' C e k x) (s:Same H H1) (s2:Same H' H2):MadeW H H2 C e k x:=
 ⟨h.C,h.r,h.pl,h.nm,h.st.mono s2,s2 _ _ h.sa,s2 _ _ h.ta,s.free h.fs,s.free h.ft,h.ne,fun u hu a ha=>s.free (h.nw u hu a ha)⟩
theorem StatAt.keep {H:Hp} {e:WE} {L:Addr} {ys zs:List V} (h:StatAt H e) (eL:H L = some (.lst ys)) (hn:∀ u ∈ e.r.ws,∀ a,(valV e.wk (.inr u) = some (.ref a)∨valV e.bk (.inr u) = some (.ref a))→a ≠ L):StatAt (upd H L (.lst zs)) e:=by
 have k:∀ {c:Addr} {o:HO},H c = some o→o ≠ .lst ys→upd H L (.lst zs) c = some o:=fun z1 z2=>by rw [upd_ne (ne_of z1 eL z2)]; exact z1
 refine ⟨k h.ob (fun z=>nomatch z),k h.sd (fun z=>nomatch z),k h.wd (fun z=>nomatch z),k h.bd (fun z=>nomatch z),k h.bl (fun z=>nomatch z),h.no,fun u hu=>?_,h.ok⟩
 obtain ⟨a,b,h1,h2,h3,h4⟩:=h.yes u hu
 exact ⟨a,b,h1,by rw [upd_ne (hn u hu a (.inl h1))]; exact h2,h3,by rw [upd_ne (hn u hu b (.inr h3))]; exact h4⟩
theorem ok_watches (D:DefAt K mg "watches_of" s_watches_of) (z_enumerate:mg "enumerate" = none) (c_watch_of:Cal P w K mg base 3 "watch_of" ["place", "named", "column"] (spWatchOf CW)):Cal P w K mg base 4 "watches_of" ["rules"] (spWatches CW):=by
 refine D.cal (k:=3) sc_watches_of (fun _ _ _ _ _ _ us hl=>match us,hl with | [_],_=>rfl) (fun vs H Q E h=>by obtain ⟨_,_,_,rfl,_⟩:=h; rfl) (fun f cdv A outer s H vs Q _ hr h=>?_)
 obtain ⟨b,bs,xs,rfl,eb,pb,hxl,hok,q⟩:=h
 have hlb:=paired_lenW pb
 refine ⟨_,(pss_one (ps_ret (pe_comp (CompSc.to (fsc:=(defScope s_watches_of)) (N:=["rules"]) (N0:=["rules"]) (T:=["place", "named"]) ⟨by decide +kernel,by decide +kernel,by decide +kernel,by decide +kernel,by decide +kernel,by decide +kernel,by decide +kernel⟩ rfl rfl) rfl (pi_enumK K gz6 z_enumerate (pa_cons (pv 0 (hv:=vz1h)) pa_nil)) (fun _ _ _ _=>(pg_tupK K (n:=2) (pgs_cons (pg_let 1 (show (["rules", "place", "named"]:List Str).Nodup from by decide +kernel) (hx:=(locC (defScope s_watches_of) (by decide +kernel))) (hf:=fnC (defScope s_watches_of) (by decide +kernel))) (pgs_cons (pg_let 2 (show (["rules", "place", "named"]:List Str).Nodup from by decide +kernel) (hx:=(locC (defScope s_watches_of) (by decide +kernel))) (hf:=fnC (defScope s_watches_of) (by decide +kernel))) pgs_nil)))) (gfr_tup (gsfr_cons (gfr_name (show (["rules"]:List Str).length ≤ 1 from by decide)) gm_name (gsfr_cons (gfr_name (show (["rules"]:List Str).length ≤ 2 from by decide)) gm_name gsfr_nil gsm_nil) (gsm_cons gm_name gsm_nil))) (fun _ _ _ _=>pifs_nil) (fun _ _ _ _=>(pe_cal c_watch_of hr (pa_cons (pv 1 (hv:=(visC (defScope s_watches_of) (by decide +kernel)))) (pa_cons (pv 2 (hv:=(visC (defScope s_watches_of) (by decide +kernel)))) (pa_cons pe_non pa_nil))) (hg:=(glC (defScope s_watches_of) (by decide +kernel)))))))),?_⟩
 walk_at "rd1"
 refine ⟨⟨_,eb⟩,fun L hL=>?_⟩
 refine compW_enum (xs:=bs.map V.ref) (fun j ys H4=>∃ es:List WE,ys = (es.map fun e=>V.ref e.w)∧es.length = j∧Same H H4∧H4 L = some (.lst ys)∧(∀ (k:Nat) e x,es[k]? = some e→xs[k]? = some x→MadeW H H4 CW e k x∧(∀ u ∈ e.r.ws,∀ a,(valV e.wk (.inr u) = some (.ref a)∨valV e.bk (.inr u) = some (.ref a))→a ≠ L))∧(∀ (i j:Nat) e e',es[i]? = some e→es[j]? = some e'→i ≠ j→e.sa ≠ e'.sa∧e.sa ≠ e'.ta∧e.ta ≠ e'.ta))
  ⟨[],rfl,rfl,same_new hL _,upd_same,fun _ _ _ z=>by simp at z,fun _ _ _ _ z=>by simp at z⟩ (fun j ys H4 _ hh=>by obtain ⟨_,_,_,sm4,_⟩:=hh; exact SqL.of (sm4 _ _ eb)) ?_ ?_
 ·rintro j ys H4 v t hv hj ⟨es,rfl,hel,sm4,eL,hm,hne⟩ ht
  rw [List.length_map] at hj
  rw [List.getElem?_map,List.getElem?_eq_getElem hj] at hv
  cases hv
  have hj':j < xs.length:=by omega
  have hx:=List.getElem?_eq_getElem hj'
  generalize xs[j] = x at hx
  have hN:NmAt H bs[j] x:=paired_get pb (List.getElem?_eq_getElem hj) hx
  have s5:=same_new ht (.tup [.int (j:Int),.ref bs[j]])
  have et:upd H4 t (.tup [.int (j:Int),.ref bs[j]]) t = some (.tup [.int (j:Int),.ref bs[j]]):=upd_same
  generalize upd H4 t (.tup [.int (j:Int),.ref bs[j]]) = H5 at s5 et ⊢
  have s45:=sm4.trans s5
  walk_at "rd1"
  refine ⟨t,_,rfl,SqT.of et,rfl,?_⟩
  walk_at "rd1"
  refine ⟨j,bs[j],x,rfl,hN.mono s45,(hok x (List.mem_of_getElem? hx)).1,(hok x (List.mem_of_getElem? hx)).2,fun e H6 s6 M=>?_⟩
  have eL5:=s5 _ _ eL
  have eL6:=s6 _ _ eL5
  have s56:=s5.trans s6
  have hnew:∀ u ∈ e.r.ws,∀ a,(valV e.wk (.inr u) = some (.ref a)∨valV e.bk (.inr u) = some (.ref a))→a ≠ L:=fun u hu a ha=>(ne_of_none eL5 (M.nw u hu a ha)).symm
  refine cstep (by rw [List.length_map]; exact hj) (by rw [List.length_map]; exact hel) (by rw [List.length_map]; exact smallL (by omega)) eL6 ⟨es ++ [e],by rw [List.map_append]; rfl,by simp [hel],(s45.trans s6).upd hL _,upd_same,fun i e' x' g1 g2=>?_,fun i i' e1 e2 g1 g2 hii=>?_⟩
  ·have kd:∀ {c:Addr} {o:HO},H6 c = some o→(∀ zs,o ≠ .lst zs)→upd H6 L (.lst ((es.map fun e=>V.ref e.w) ++ [V.ref e.w])) c = some o:=fun z1 z2=>by rw [upd_ne (ne_of z1 eL6 (z2 _))]; exact z1
   rcases Nat.lt_or_ge i es.length with hi | hi
   ·rw [List.getElem?_append_left hi] at g1
    obtain ⟨m1,m2⟩:=hm i e' x' g1 g2
    have m3:=m1.mono (Same.refl _) s56
    exact ⟨⟨m3.C,m3.r,m3.pl,m3.nm,m3.st.keep eL6 m2,kd m3.sa (fun _ z=>nomatch z),kd m3.ta (fun _ z=>nomatch z),m3.fs,m3.ft,m3.ne,m3.nw⟩,m2⟩
   ·rw [List.getElem?_append_right hi] at g1
    have hi0:i - es.length = 0:=by have:=(List.getElem?_eq_some_iff.mp g1).1; simp at this; omega
    rw [hi0] at g1
    have ee:e = e':=by simpa using g1
    subst ee
    have hij:i = j:=by omega
    subst hij
    rw [hx] at g2; cases g2
    have m3:=M.mono s45 (Same.refl _)
    exact ⟨⟨m3.C,m3.r,m3.pl,m3.nm,m3.st.keep eL6 hnew,kd m3.sa (fun _ z=>nomatch z),kd m3.ta (fun _ z=>nomatch z),m3.fs,m3.ft,m3.ne,m3.nw⟩,hnew⟩
  ·have old:∀ (i:Nat) e1,es[i]? = some e1→e1.sa ≠ e.sa∧e1.sa ≠ e.ta∧e1.ta ≠ e.ta∧e1.ta ≠ e.sa:=fun i e1 g=>by
    have hi:=(List.getElem?_eq_some_iff.mp g).1
    obtain ⟨m1,_⟩:=hm i e1 _ g (List.getElem?_eq_getElem (by omega))
    exact ⟨ne_of_none (s5 _ _ m1.sa) M.fs,ne_of_none (s5 _ _ m1.sa) M.ft,ne_of_none (s5 _ _ m1.ta) M.ft,ne_of_none (s5 _ _ m1.ta) M.fs⟩
   have cl:∀ (i:Nat) e1,(es ++ [e])[i]? = some e1→es[i]? = some e1∨(i = es.length∧e1 = e):=fun i e1 g=>by
    rcases Nat.lt_or_ge i es.length with hi | hi
    ·rw [List.getElem?_append_left hi] at g; exact .inl g
    ·rw [List.getElem?_append_right hi] at g
     have hi0:i - es.length = 0:=by have:=(List.getElem?_eq_some_iff.mp g).1; simp at this; omega
     rw [hi0] at g
     exact .inr ⟨by omega,by simpa using g.symm⟩
   rcases cl i e1 g1 with c1 | ⟨c1,rfl⟩
   ·rcases cl i' e2 g2 with c2 | ⟨c2,rfl⟩
    ·exact hne i i' e1 e2 c1 c2 hii
    ·have:=old i e1 c1; exact ⟨this.1,this.2.1,this.2.2.1⟩
   ·rcases cl i' e2 g2 with c2 | ⟨c2,rfl⟩
    ·have:=old i' e2 c2; exact ⟨this.1.symm,this.2.2.2.symm,this.2.2.1.symm⟩
    ·exact absurd (c1.trans c2.symm) hii
 ·rintro ys H4 ⟨es,rfl,hel,sm4,eL,hm,hne⟩
  rw [List.length_map] at hel
  exact q L es H4 sm4 hL eL ⟨by omega,fun k e x g1 g2=>(hm k e x g1 g2).1,hne⟩
end
set_option genSizeOf false in
inductive LogE where
 | tie (l a b:Int)
 | deed (l h:Int) (u:Str) (x:Int)
def entV:LogE→List V
 | .tie l a b=>[.int l,.int a,.int b]
 | .deed l h u x=>[.int l,.int h,.str u,.int x]
def EntAt (H:Hp) (c:Addr) (e:LogE):Prop:=H c = some (.tup (entV e))
def tirT (hs:List Int) (h:Int) (u:Str):Str:=sdT (if hs.length = 1 then 0 else ((hs.idxOf h:Nat):Int) + 1) u
def isDeed:LogE→Bool
 | .tie _ _ _=>false
 | .deed _ _ _ _=>true
def rowT (hs:List Int):LogE→Option Str
 | .tie _ _ _=>none
 | .deed _ x u _=>if x ∈ hs then some (tirT hs x u) else none
theorem idx_some (h:Int):∀ hs:List Int,(hs.map some).idxOf (some h) = hs.idxOf h
 | []=>rfl
 | x :: r=>by
  rw [List.map_cons,List.idxOf_cons,List.idxOf_cons,idx_some h r]
  by_cases e:x = h
  ·subst e; simp
  ·simp [e]
def HsOk (hs:List Int):Prop:=hs.length = 1∨hs.length = 2
def spTir:Sp:=fun vs H Q _=>∃ (b:Addr) (hs:List Int) (h:Int) (u:Str),vs = [.ref b,.int h,.str u]∧HsAt H b hs∧HsOk hs∧h ∈ hs∧u.length ≤ 1000∧Q (.str (tirT hs h u)) H
theorem ok_tir (D:DefAt K mg "text_in_row" s_text_in_row) (z_len:mg "len" = none) (c_sided_text:Cal P w K mg base 1 "sided_text" ["side", "word"] spSidedT):Cal P w K mg base 2 "text_in_row" ["handles", "handle", "word"] spTir:=by
 refine D.cal (k:=1) sc_text_in_row (fun _ _ _ _ _ _ us hl=>match us,hl with | [_,_,_],_=>rfl) (fun vs H Q E h=>by obtain ⟨_,_,_,_,rfl,_⟩:=h; rfl) (fun f cdv A outer s H vs Q E hr h=>?_)
 obtain ⟨b,hs,h,u,rfl,hb,hh,hm,hu,q⟩:=h
 refine ⟨_,(pss_one (ps_ret (pe_cal c_sided_text hr (pa_cons (pe_ifExp (pt_cmpR op_eqA (pe_blt (call_lenK K) z_len bt_len (pa_cons (pv 0 (hv:=vz2)) pa_nil) (hg:=gz0)) pe_int (nomark _)) pe_int (pe_op op_addA (pe_bmT PySem.F.plainAttrs_tuple PySem.F.slot_tuple_index PySem.F.type_tuple_index (mt_indexOT K) (pv 0 (hv:=vz2)) (pa_cons (pv 1 (hv:=vz3)) pa_nil)) pe_int)) (pa_cons (pv 2 (hv:=vz4)) pa_nil)) (hg:=gz1)))),?_⟩
 walk_at "rd1"
 refine ⟨_,.inr (SqT.of hb),?_⟩
 rw [List.length_map]
 walk_at "rd1"
 unfold tirT at q
 refine ite2 (fun c=>?_) (fun c=>?_)
 ·have h1:hs.length = 1:=by omega
  rw [if_pos h1] at q
  exact ⟨0,u,rfl,.inl rfl,hu,q⟩
 ·have h1:hs.length ≠ 1:=fun z=>c (by omega)
  have h2:hs.length = 2:=hh.resolve_left h1
  rw [if_neg h1] at q
  rw [tBMT_at]
  walk_at "rd1"
  have ht:SqT K H b ((hs.map some).map optV):=by
   rw [List.map_map]
   exact SqT.of hb
  have hi:hs.idxOf h < 2:=by rw [← h2]; exact List.idxOf_lt_length_iff.mpr hm
  refine ⟨b,_,rfl,hb,b,hs.map some,some h,rfl,rfl,ht,List.mem_map.mpr ⟨h,hm,rfl⟩,?_⟩
  rw [idx_some]
  walk_at "rd1"
  refine ⟨_,u,rfl,?_,hu,q⟩
  omega
theorem inV_ints (x:Int) (hs:List Int):inV (.int x) (hs.map V.int) = true ↔ x ∈ hs:=by
 unfold inV
 rw [List.any_map,List.any_eq_true]
 constructor
 ·rintro ⟨y,hy,e⟩
  have e1:(y == x) = true:=e
  rw [beq_iff_eq] at e1; exact e1 ▸ hy
 ·intro h
  exact ⟨x,h,show (x == x) = true from beq_self_eq_true x⟩
def spRowOf:Sp:=fun vs H Q _=>∃ (ep b:Addr) (ls:List Addr) (log:List LogE) (hs:List Int),vs = [.ref ep,.ref b]∧H ep = some (.lst (ls.map V.ref))∧Paired (EntAt H) ls log∧HsAt H b hs∧HsOk hs∧log.length ≤ 1000∧(∀ l x u y,LogE.deed l x u y ∈ log→u.length ≤ 1000)∧
 ∀ (a:Addr) (H':Hp),Same H H'→H a = none→H' a = some (.lst ((log.filterMap (rowT hs)).map V.str))→Q (.ref a) H'
theorem ok_rowof (D:DefAt K mg "row_of" s_row_of) (z_len:mg "len" = none) (c_text_in_row:Cal P w K mg base 2 "text_in_row" ["handles", "handle", "word"] spTir):Cal P w K mg base 3 "row_of" ["entries", "handles"] spRowOf:=by
 refine D.cal (k:=2) sc_row_of (fun _ _ _ _ _ _ us hl=>match us,hl with | [_,_],_=>rfl) (fun vs H Q E h=>by obtain ⟨_,_,_,_,_,rfl,_⟩:=h; rfl) (fun f cdv A outer s H vs Q E hr h=>?_)
 obtain ⟨ep,b,ls,log,hs,rfl,ee,pl,hb,hho,hll,hu,q⟩:=h
 have hlen:=paired_lenW pl
 refine ⟨_,(pss_cons (ps_setcomp (CompSc.to (fsc:=(defScope s_row_of)) (N:=["entries", "handles", "deeds"]) (N0:=["entries", "handles", "deeds"]) (T:=["entry"]) ⟨by decide +kernel,by decide +kernel,by decide +kernel,by decide +kernel,by decide +kernel,by decide +kernel,by decide +kernel⟩ rfl rfl) rfl sc_row_of.nd (i:=2) rfl kz0 (pi_listK K (pv 0 (hv:=vz5))) (fun _ _ _ _=>(pg_let 3 (show (["entries", "handles", "deeds", "entry"]:List Str).Nodup from by decide +kernel) (hx:=(locC (defScope s_row_of) (by decide +kernel))) (hf:=fnC (defScope s_row_of) (by decide +kernel)))) (gfr_name (show (["entries", "handles", "deeds"]:List Str).length ≤ 3 from by decide)) (fun _ _ _ _=>(pifs_one (pt_cmpR op_eqA (pe_blt (call_lenK K) z_len bt_len (pa_cons (pv 3 (hv:=(visC (defScope s_row_of) (by decide +kernel)))) pa_nil) (hg:=(glC (defScope s_row_of) (by decide +kernel)))) pe_int (nomark _)))) (fun _ _ _ _=>(pv 3 (hv:=(visC (defScope s_row_of) (by decide +kernel))))))
   (pss_one (ps_ret (pe_comp (CompSc.to (fsc:=(defScope s_row_of)) (N:=["entries", "handles", "deeds"]) (N0:=["entries", "handles", "deeds"]) (T:=["deed"]) ⟨by decide +kernel,by decide +kernel,by decide +kernel,by decide +kernel,by decide +kernel,by decide +kernel,by decide +kernel⟩ rfl rfl) rfl (pi_listK K (pv 2 (hv:=vz6))) (fun _ _ _ _=>(pg_let 3 (show (["entries", "handles", "deeds", "deed"]:List Str).Nodup from by decide +kernel) (hx:=(locC (defScope s_row_of) (by decide +kernel))) (hf:=fnC (defScope s_row_of) (by decide +kernel)))) (gfr_name (show (["entries", "handles", "deeds"]:List Str).length ≤ 3 from by decide)) (fun _ _ _ _=>(pifs_one (pt_cmpR (op_inK K) (pe_ix (ix_K K) (pv 3 (hv:=(visC (defScope s_row_of) (by decide +kernel)))) pe_int (fun _ _=>rfl)) (pv 1 (hv:=(visC (defScope s_row_of) (by decide +kernel)))) (by with_unfolding_all rfl)))) (fun _ _ _ _=>(pe_cal c_text_in_row hr (pa_cons (pv 1 (hv:=(visC (defScope s_row_of) (by decide +kernel)))) (pa_cons (pe_ix (ix_K K) (pv 3 (hv:=(visC (defScope s_row_of) (by decide +kernel)))) pe_int (fun _ _=>rfl)) (pa_cons (pe_ix (ix_K K) (pv 3 (hv:=(visC (defScope s_row_of) (by decide +kernel)))) pe_int (fun _ _=>rfl)) pa_nil))) (hg:=(glC (defScope s_row_of) (by decide +kernel))))))))),?_⟩
 walk_at "rd1"
 refine ⟨⟨_,SqL.of ee⟩,fun L hL=>?_⟩
 refine compT_list (xs:=ls.map V.ref) (fun i ys H'=>∃ (ms:List Addr),Same H H'∧H' L = some (.lst ys)∧ys = ms.map V.ref∧ms.length ≤ i∧Paired (EntAt H) ms ((log.take i).filter isDeed)) ⟨[],same_new hL _,upd_same,rfl,Nat.le_refl _,.nil⟩ (fun i ys H' _ hh=>by obtain ⟨_,sm,_⟩:=hh; exact SqL.of (sm _ _ ee)) ?_ ?_
 ·rintro i ys H' v hv hi ⟨ms,sm,hl,rfl,hml,pm⟩
  rw [List.length_map] at hi
  rw [List.getElem?_map,List.getElem?_eq_getElem hi] at hv
  cases hv
  have hi':i < log.length:=by omega
  have hx:=List.getElem?_eq_getElem hi'
  generalize log[i] = e at hx
  have hat:H ls[i] = some (.tup (entV e)):=paired_get (F:=EntAt H) pl (List.getElem?_eq_getElem hi) hx
  have etk:(log.take (i + 1)).filter isDeed = (log.take i).filter isDeed ++ (if isDeed e = true then [e] else []):=by
   rw [List.take_add_one,hx,List.filter_append]
   congr 1
   show List.filter isDeed [e] = _
   cases e <;> rfl
  walk_at "rd1"
  refine ⟨_,.inr (SqT.of (sm _ _ hat)),?_⟩
  cases e with
  | tie l x y=>
   refine ite2 (fun c=>absurd c (by simp [entV])) (fun _=>?_)
   exact cskip (by rw [List.length_map]; exact hi) ⟨ms,sm,hl,rfl,by omega,by rw [etk]; simpa [isDeed] using pm⟩
  | deed l x u y=>
   refine ite2 (fun _=>?_) (fun c=>absurd rfl c)
   refine cstepT (by rw [List.length_map]; exact hi) (by rw [List.length_map]; exact hml) (by rw [List.length_map]; exact smallL (by omega)) hl ⟨ms ++ [ls[i]],sm.upd hL _,upd_same,map_push _ _,by simp; omega,?_⟩
   rw [etk]
   exact paired_snocW (R:=EntAt H) hat pm
 ·rintro ys H1 ⟨ms,s1,hl1,rfl,hml,pm⟩
  rw [List.length_map,hlen,List.take_length] at pm
  walk_at "nx"
  refine ⟨⟨_,SqL.of hl1⟩,fun D hD=>?_⟩
  have hml':=paired_lenW pm
  have hdeed:∀ e ∈ log.filter isDeed,isDeed e = true:=fun e he=>(List.mem_filter.mp he).2
  have hin:∀ e ∈ log.filter isDeed,e ∈ log:=fun e he=>(List.mem_filter.mp he).1
  have hfin:(log.filter isDeed).filterMap (rowT hs) = log.filterMap (rowT hs):=by
   rw [List.filterMap_filter]
   congr 1
   funext e
   cases e <;> rfl
  have hdl:(log.filter isDeed).length ≤ 1000:=Nat.le_trans (List.length_filter_le _ _) hll
  generalize log.filter isDeed = ds at pm hml' hdeed hin hfin hdl
  refine compT_list (xs:=ms.map V.ref) (fun i ys H'=>Same H1 H'∧H' D = some (.lst ys)∧ys.length ≤ i∧ys = ((ds.take i).filterMap (rowT hs)).map V.str) ⟨same_new hD _,upd_same,Nat.le_refl _,rfl⟩ (fun i ys H' _ hh=>SqL.of (hh.1 _ _ hl1)) ?_ ?_
  ·rintro i ys H' v hv hi ⟨sm,hl,hyl,hys⟩
   rw [List.length_map] at hi
   rw [List.getElem?_map,List.getElem?_eq_getElem hi] at hv
   cases hv
   have hi':i < ds.length:=by omega
   have hx:=List.getElem?_eq_getElem hi'
   generalize ds[i] = e at hx
   have hat:H ms[i] = some (.tup (entV e)):=paired_get (F:=EntAt H) pm (List.getElem?_eq_getElem hi) hx
   have hat':=sm _ _ (s1 _ _ hat)
   have hb':H' b = some (.tup (hs.map V.int)):=sm _ _ (s1 _ _ hb)
   have etk:(ds.take (i + 1)).filterMap (rowT hs) = (ds.take i).filterMap (rowT hs) ++ (rowT hs e).toList:=by
    rw [List.take_add_one,hx,List.filterMap_append]
    show _ ++ List.filterMap (rowT hs) [e] = _
    rw [List.filterMap_cons]
    cases rowT hs e <;> rfl
   cases e with
   | tie l x y=>exact absurd (hdeed _ (List.mem_of_getElem? hx)) (by simp [isDeed])
   | deed l x u y=>
    walk_at "rd1"
    refine ⟨_,_,.inr (SqT.of hat'),rfl,?_⟩
    walk_at "rd1"
    refine ⟨_,.inr (SqT.of hb'),rfl,by rw [List.all_map]; exact List.all_eq_true.mpr (fun _ _=>rfl),?_⟩
    have hiv:=inV_ints x hs
    refine ite2 (fun c=>?_) (fun c=>?_)
    ·have ex:x ∈ hs:=hiv.mp c
     have er:rowT hs (.deed l x u y) = some (tirT hs x u):=by show (if x ∈ hs then some _ else none) = _; rw [if_pos ex]
     refine ⟨_,_,.inr (SqT.of hat'),rfl,_,_,.inr (SqT.of hat'),rfl,b,hs,x,u,rfl,hb',hho,ex,hu l x u y (hin _ (List.mem_of_getElem? hx)),?_⟩
     refine cstepT (by rw [List.length_map]; exact hi) hyl (by rw [List.length_map]; exact smallL (by omega)) hl ⟨sm.upd hD _,upd_same,by simp; omega,?_⟩
     rw [etk,er,List.map_append,← hys]; rfl
    ·have ex:¬ x ∈ hs:=fun e=>c (hiv.mpr e)
     have er:rowT hs (.deed l x u y) = none:=by show (if x ∈ hs then some _ else none) = _; rw [if_neg ex]
     exact cskip (by rw [List.length_map]; exact hi) ⟨sm,hl,by omega,by rw [etk,er,hys]; simp⟩
  ·rintro ys H2 ⟨s2,e2,_,hys⟩
   rw [List.length_map,hml',List.take_length,hfin] at hys
   rw [hys] at e2
   exact q D H2 (s1.trans s2) (s1.free hD) e2
def role0:Nat→List WE→Addr→Option Role
 | _,[],_=>none
 | k,e :: es,a=>if a = e.sa then some (.st k) else if a = e.ta then some (.ti k) else role0 (k + 1) es a
theorem role0_of:∀ {es:List WE} {n:Nat} {a:Addr} {r:Role},role0 n es a = some r→∃ (k:Nat) (e:WE),es[k]? = some e∧((a = e.sa∧r = .st (n + k))∨(a = e.ta∧r = .ti (n + k)))
 | [],_,_,_,h=>nomatch h
 | e :: es,n,a,r,h=>by
  unfold role0 at h
  split at h
  ·rename_i z; cases h; exact ⟨0,e,rfl,.inl ⟨z,rfl⟩⟩
  ·split at h
   ·rename_i _ z; cases h; exact ⟨0,e,rfl,.inr ⟨z,rfl⟩⟩
   ·obtain ⟨k,e',h1,h2⟩:=role0_of h
    refine ⟨k + 1,e',by simpa using h1,?_⟩
    rcases h2 with ⟨z1,z2⟩ | ⟨z1,z2⟩
    ·exact .inl ⟨z1,by rw [z2]; congr 1; omega⟩
    ·exact .inr ⟨z1,by rw [z2]; congr 1; omega⟩
theorem role0_at:∀ {es:List WE} {n k:Nat} {e:WE},(∀ (i j:Nat) e e',es[i]? = some e→es[j]? = some e'→i ≠ j→e.sa ≠ e'.sa∧e.sa ≠ e'.ta∧e.ta ≠ e'.ta)→(∀ e ∈ es,e.sa ≠ e.ta)→es[k]? = some e→role0 n es e.sa = some (.st (n + k))∧role0 n es e.ta = some (.ti (n + k))
 | [],_,_,_,_,_,h=>by simp at h
 | e0 :: es,n,0,e,hp,hs,h=>by
  have e1:e0 = e:=by simpa using h
  subst e1
  unfold role0
  rw [if_pos rfl,if_neg (Ne.symm (hs e0 List.mem_cons_self)),if_pos rfl]
  exact ⟨rfl,rfl⟩
 | e0 :: es,n,k + 1,e,hp,hs,h=>by
  have h':es[k]? = some e:=by simpa using h
  have q1:=hp 0 (k + 1) e0 e rfl (by simpa using h') (by omega)
  have q2:=hp (k + 1) 0 e e0 (by simpa using h') rfl (by omega)
  have ih:=role0_at (n:=n + 1) (fun i j a b g1 g2 g3=>hp (i + 1) (j + 1) a b (by simpa using g1) (by simpa using g2) (by omega)) (fun e' he'=>hs e' (List.mem_cons_of_mem _ he')) h'
  unfold role0
  rw [if_neg (Ne.symm q1.1),if_neg (fun z=>q2.2.1 z),if_neg (fun z=>q1.2.1 z.symm),if_neg (Ne.symm q1.2.2)]
  rw [show n + (k + 1) = n + 1 + k by omega]
  exact ih
def base0 (es:List WE) (H:Hp):Hp:=fun a=>match role0 0 es a with | some _=>none | none=>H a
theorem base0_none {es:List WE} {H:Hp} {a:Addr} {r:Role} (h:role0 0 es a = some r):base0 es H a = none:=by unfold base0; rw [h]
theorem base0_keep {es:List WE} {H:Hp} {a:Addr} {o:HO} (hd:∀ (k:Nat) (e:WE),es[k]? = some e→H e.sa = some (.dT [])∧H e.ta = some (.dT [])) (h:H a = some o) (ho:o ≠ .dT []):base0 es H a = some o:=by
 unfold base0
 cases e1:role0 0 es a with
 | none=>exact h
 | some r=>
  obtain ⟨k,e,h1,h2⟩:=role0_of e1
  obtain ⟨d1,d2⟩:=hd k e h1
  rcases h2 with ⟨z,_⟩ | ⟨z,_⟩
  ·rw [z,d1] at h; cases h; exact absurd rfl ho
  ·rw [z,d2] at h; cases h; exact absurd rfl ho
def wd0:WD:=⟨[],[]⟩
theorem Made.start {H H':Hp} {C:Addr} {es:List WE} {xs:List (Str × Rl)} (m:Made H H' C es xs):WAt (base0 es H') H' es (es.map fun _=>wd0) (role0 0 es)∧(∀ a o,H' a = some o→o ≠ .dT []→base0 es H' a = some o)∧(Same H H'→Same H (base0 es H')):=by
 have at1:∀ (k:Nat) (e:WE),es[k]? = some e→∃ x,MadeW H H' C e k x:=fun k e he=>by
  have hk:=(List.getElem?_eq_some_iff.mp he).1
  exact ⟨_,m.at' k e _ he (List.getElem?_eq_getElem (by rw [← m.len]; exact hk))⟩
 have hd:∀ (k:Nat) (e:WE),es[k]? = some e→H' e.sa = some (.dT [])∧H' e.ta = some (.dT []):=fun k e he=>let ⟨_,M⟩:=at1 k e he; ⟨M.sa,M.ta⟩
 have hdx:∀ e ∈ es,∃ k:Nat,es[k]? = some e:=fun e he=>let ⟨k,hk,e1⟩:=List.mem_iff_getElem.mp he; ⟨k,by rw [List.getElem?_eq_getElem hk,e1]⟩
 have hs:∀ e ∈ es,e.sa ≠ e.ta:=fun e he=>by
  obtain ⟨k,hk⟩:=hdx e he
  obtain ⟨_,M⟩:=at1 k e hk
  exact M.ne
 have r0:∀ {k:Nat} {e:WE},es[k]? = some e→role0 0 es e.sa = some (.st k)∧role0 0 es e.ta = some (.ti k):=fun {k e} he=>by have:=role0_at (n:=0) m.ne hs he; rw [Nat.zero_add] at this; exact this
 have kp:∀ a o,H' a = some o→o ≠ .dT []→base0 es H' a = some o:=fun a o h1 h2=>base0_keep hd h1 h2
 have dsk:∀ {k:Nat} {e:WE},es[k]? = some e→(es.map fun _=>wd0)[k]? = some wd0:=fun {k e} he=>by rw [List.getElem?_map,he]; rfl
 refine ⟨⟨fun a o h=>?_,by simp,fun e he=>?_,fun a r h=>base0_none h,fun a b r h1 h2=>?_,fun k e he=>r0 he,fun a k h=>?_,fun a k h=>?_,fun a k hs' h=>?_,fun a k p h=>?_⟩,kp,fun s a o h=>?_⟩
 ·unfold base0 at h
  split at h
  ·cases h
  ·exact h
 ·obtain ⟨k,hk⟩:=hdx e he
  obtain ⟨x,M⟩:=at1 k e hk
  have S:=M.st
  exact ⟨kp _ _ S.ob (fun z=>nomatch z),kp _ _ S.sd (fun z=>nomatch z),kp _ _ S.wd (fun z=>nomatch z),kp _ _ S.bd (fun z=>nomatch z),kp _ _ S.bl (fun z=>nomatch z),S.no,fun u hu=>let ⟨a,b,h1,h2,h3,h4⟩:=S.yes u hu; ⟨a,b,h1,kp _ _ h2 (fun z=>nomatch z),h3,kp _ _ h4 (fun z=>nomatch z)⟩,S.ok⟩
 ·obtain ⟨k1,e1,g1,g2⟩:=role0_of h1
  obtain ⟨k2,e2,g3,g4⟩:=role0_of h2
  rw [Nat.zero_add] at g2 g4
  rcases g2 with ⟨z1,z2⟩ | ⟨z1,z2⟩ <;> rcases g4 with ⟨z3,z4⟩ | ⟨z3,z4⟩ <;> rw [z2] at z4 <;> cases z4 <;> (rw [g1] at g3; cases g3; rw [z1,z3])
 ·obtain ⟨k1,e1,g1,g2⟩:=role0_of h
  rw [Nat.zero_add] at g2
  rcases g2 with ⟨z1,z2⟩ | ⟨z1,z2⟩ <;> cases z2
  exact ⟨wd0,[],dsk g1,by rw [z1]; exact (hd _ _ g1).1,.nil⟩
 ·obtain ⟨k1,e1,g1,g2⟩:=role0_of h
  rw [Nat.zero_add] at g2
  rcases g2 with ⟨z1,z2⟩ | ⟨z1,z2⟩ <;> cases z2
  exact ⟨wd0,[],dsk g1,by rw [z1]; exact (hd _ _ g1).2,.nil⟩
 ·obtain ⟨k1,e1,g1,g2⟩:=role0_of h
  rcases g2 with ⟨z1,z2⟩ | ⟨z1,z2⟩ <;> cases z2
 ·obtain ⟨k1,e1,g1,g2⟩:=role0_of h
  rcases g2 with ⟨z1,z2⟩ | ⟨z1,z2⟩ <;> cases z2
 ·unfold base0
  cases e1:role0 0 es a with
  | none=>exact s a o h
  | some r=>
   obtain ⟨k1,e1,g1,g2⟩:=role0_of e1
   obtain ⟨x,M⟩:=at1 k1 e1 g1
   rcases g2 with ⟨z1,z2⟩ | ⟨z1,z2⟩
   ·rw [z1,M.fs] at h; cases h
   ·rw [z1,M.ft] at h; cases h
structure KpW (r:Rl) (n:Nat) (d:WD):Prop where
 sl:d.S.length ≤ 1000 * n
 tl:d.T.length ≤ 2 * n
 tll:∀ p ∈ d.T,p.2.length ≤ 2 * n
 sll:∀ p ∈ d.S,p.2.length ≤ n + 1
 rm:∀ p ∈ d.S,∀ q ∈ p.2,q.1 < r.rs.length
theorem KpW.start (r:Rl):KpW r 0 wd0:=⟨Nat.le_refl _,Nat.le_refl _,fun _ h=>(nomatch h),fun _ h=>(nomatch h),fun _ h=>(nomatch h)⟩
theorem behP_rooms {c:List (Option Nat)} {N:Nat}:∀ {rs acc:Rs},(∀ p ∈ rs,∀ j,c.getD p.1 none = some j→j < N)→(∀ q ∈ acc,q.1 < N)→∀ q ∈ rs.foldl (behStep c) acc,q.1 < N
 | [],acc,_,ha,q,hq=>ha q hq
 | p :: rs,acc,h,ha,q,hq=>by
  refine behP_rooms (fun p' hp'=>h p' (List.mem_cons_of_mem _ hp')) (fun z hz=>?_) q hq
  unfold behStep at hz
  split at hz
  ·exact ha z hz
  ·rename_i j hj
   split at hz
   ·rcases putP_mem hz with rfl | ⟨hz,_⟩
    ·exact h p List.mem_cons_self j hj
    ·exact ha z hz
   ·exact ha z hz
theorem starts_ok {r:Rl} {n:Nat} {d:WD} (h0:1 ≤ r.rs.length) (sll:∀ p ∈ d.S,p.2.length ≤ n + 1) (rm:∀ p ∈ d.S,∀ q ∈ p.2,q.1 < r.rs.length) (hs:List Int):(startsP d hs).length ≤ n + 1∧∀ q ∈ startsP d hs,q.1 < r.rs.length:=by
 unfold startsP
 cases e:getP d.S hs with
 | none=>
  refine ⟨by show 1 ≤ n + 1; omega,fun q hq=>?_⟩
  have hq':q = (0,0):=by simpa using hq
  rw [hq']; exact h0
 | some rs=>exact ⟨sll _ (getP_mem e),rm _ (getP_mem e)⟩
theorem with_len {r:Rl} {n:Nat} {d:WD} (k:KpW r n d) (h side:Int):(withP d h side).length ≤ 2 * n + 1:=by
 unfold withP
 split
 ·simp
 ·rw [List.length_map]
  cases e:getP d.T (h,side) with
  | none=>simp
  | some l=>
   have h9:l.length ≤ 2 * n:=k.tll _ (getP_mem e)
   show l.length ≤ _; omega
theorem rows_len {r:Rl} {n:Nat} {d:WD} (k:KpW r n d) (h:Int) (u:Str):(rowsP r d h u).length ≤ 2 * (2 * n + 1):=by
 have h1:=flat_len (rowsS r d h u) (2 * n + 1) (sidesOf r) (fun x _=>by
  unfold rowsS; split
  ·rw [List.length_map]; exact with_len k h x
  ·simp)
 have h2:=sides_len r
 have h3:(sidesOf r).length * (2 * n + 1) ≤ 2 * (2 * n + 1):=Nat.mul_le_mul_right _ h2
 exact Nat.le_trans h1 h3
theorem KpW.tie {r:Rl} {n:Nat} {d:WD} (k:KpW r n d) (h0:1 ≤ r.rs.length) (one other:Int) (start:Nat):KpW r (n + 1) (tieP d one other start):=by
 have hS:∀ p ∈ (newTie d one other).S,p.2.length ≤ n + 1∧∀ q ∈ p.2,q.1 < r.rs.length:=fun p hp=>by
  unfold newTie at hp
  split at hp
  ·rcases putP_mem hp with rfl | ⟨hp,_⟩
   ·exact ⟨by simp,fun q hq=>(nomatch hq)⟩
   ·exact ⟨k.sll p hp,k.rm p hp⟩
  ·exact ⟨k.sll p hp,k.rm p hp⟩
 have hSl:(newTie d one other).S.length ≤ 1000 * n + 1:=by
  unfold newTie
  split
  ·have:=putP_len d.S [one,other] []; have:=k.sl; show (putP d.S [one,other] []).length ≤ _; omega
  ·have:=k.sl; omega
 have hT:(newTie d one other).T.length ≤ 2 * n + 2∧∀ p ∈ (newTie d one other).T,p.2.length ≤ 2 * n + 2:=by
  unfold newTie
  split
  ·have a1:=addTo_len d.T (one,1) (one,other)
   have a2:=addTo_len (addTo d.T (one,1) (one,other)) (other,2) (one,other)
   have:=k.tl
   exact ⟨by show (addTo (addTo d.T (one,1) (one,other)) (other,2) (one,other)).length ≤ _; omega,addTo_lens (addTo_lens k.tll)⟩
  ·have:=k.tl
   exact ⟨by omega,fun p hp=>by have:=k.tll p hp; omega⟩
 have hsd:∀ rs:Rs,rs.length ≤ n + 1→(∀ q ∈ rs,q.1 < r.rs.length)→(setDef rs start).length ≤ n + 2∧∀ q ∈ setDef rs start,q.1 < r.rs.length:=fun rs h1 h2=>by
  unfold setDef
  split
  ·have:=putP_len rs 0 start
   refine ⟨by omega,fun q hq=>?_⟩
   rcases putP_mem hq with rfl | ⟨hq,_⟩
   ·exact h0
   ·exact h2 q hq
  ·exact ⟨by omega,h2⟩
 have hg:((getP (newTie d one other).S [one,other]).getD []).length ≤ n + 1∧∀ q ∈ (getP (newTie d one other).S [one,other]).getD [],q.1 < r.rs.length:=by
  cases e:getP (newTie d one other).S [one,other] with
  | none=>exact ⟨by simp,fun q hq=>(nomatch hq)⟩
  | some rs=>exact hS _ (getP_mem e)
 have hl:=putP_len (newTie d one other).S [one,other] (setDef ((getP (newTie d one other).S [one,other]).getD []) start)
 refine ⟨by show (putP (newTie d one other).S [one,other] _).length ≤ _; omega,by show (newTie d one other).T.length ≤ _; have:=hT.1; omega,fun p hp=>by have:=hT.2 p hp; omega,fun p hp=>?_,fun p hp=>?_⟩
 ·rcases putP_mem hp with rfl | ⟨hp,_⟩
  ·exact (hsd _ hg.1 hg.2).1
  ·have:=(hS p hp).1; omega
 ·rcases putP_mem hp with rfl | ⟨hp,_⟩
  ·exact (hsd _ hg.1 hg.2).2
  ·exact (hS p hp).2
theorem KpW.up {r:Rl} {n:Nat} {d:WD} (k:KpW r n d):KpW r (n + 1) d:=
 ⟨by have:=k.sl; omega,by have:=k.tl; omega,fun p hp=>by have:=k.tll p hp; omega,fun p hp=>by have:=k.sll p hp; omega,k.rm⟩
theorem starts_put {r:Rl} {d:WD} {p:List Int × Str} {hs:List Int} (h:hs ≠ p.1):startsP (goStep r d p) hs = startsP d hs:=by
 unfold startsP goStep
 rw [getP_put,if_neg h]
theorem col_some {r:Rl} {i q:Nat} (ok:RlOk r) (h:(colOf r i).getD q none ≠ none):∃ j,(colOf r i)[q]? = some (some j)∧j < r.rs.length:=by
 cases e:(colOf r i)[q]? with
 | none=>rw [List.getD_eq_getElem?_getD,e] at h; exact absurd rfl h
 | some o=>
  cases o with
  | none=>rw [List.getD_eq_getElem?_getD,e] at h; exact absurd rfl h
  | some j=>
   refine ⟨j,rfl,?_⟩
   unfold colOf at e
   rw [List.getElem?_map] at e
   cases e2:r.rs[q]? with
   | none=>rw [e2] at e; cases e
   | some row=>
    rw [e2] at e
    have e3:row.getD i none = some j:=by simpa using e
    rw [List.getD_eq_getElem?_getD] at e3
    cases e4:row[i]? with
    | none=>rw [e4] at e3; cases e3
    | some o=>
     rw [e4] at e3
     have e5:o = some j:=e3
     rw [e5] at e4
     exact (ok.row row (List.mem_of_getElem? e2)).2 j (List.mem_of_getElem? e4)
def RowsNd (r:Rl) (d:WD) (h:Int) (u:Str):Prop:=((rowsP r d h u).map Prod.fst).Nodup
theorem go_fold2 {r:Rl} {n m:Nat} {T:List ((Int × Int) × List (Int × Int))} (ok:RlOk r) (hn:n ≤ 1000):∀ {rows:List (List Int × Str)} {d:WD},(rows.map Prod.fst).Nodup→(∀ p ∈ rows,∀ q ∈ startsP d p.1,(colOf r (r.ws.idxOf p.2)).getD q.1 none ≠ none)→d.S.length + rows.length ≤ m→m ≤ 100000→(∀ p ∈ d.S,p.2.length ≤ n + 1)→(∀ p ∈ d.S,∀ q ∈ p.2,q.1 < r.rs.length)→d.T = T→
  GoOk r d rows∧((rows.foldl (goStep r) d).S.length ≤ m∧(∀ p ∈ (rows.foldl (goStep r) d).S,p.2.length ≤ n + 1)∧(∀ p ∈ (rows.foldl (goStep r) d).S,∀ q ∈ p.2,q.1 < r.rs.length)∧(rows.foldl (goStep r) d).T = T)
 | [],d,_,_,hm,_,h2,h3,h4=>⟨trivial,by simpa using hm,h2,h3,h4⟩
 | p :: rows,d,nd,hw,hm,hmm,h2,h3,h4=>by
  obtain ⟨s1,s2⟩:=starts_ok ok.n0 h2 h3 p.1
  have hwp:=hw p List.mem_cons_self
  have g1:=putP_len d.S p.1 (behP (colOf r (r.ws.idxOf p.2)) (startsP d p.1))
  rw [List.length_cons] at hm
  rw [List.map_cons,List.nodup_cons] at nd
  have ih:=go_fold2 ok hn (rows:=rows) (d:=goStep r d p) nd.2 (fun p' hp' q hq=>by
   rw [starts_put (fun z=>nd.1 (z ▸ List.mem_map.mpr ⟨p',hp',rfl⟩))] at hq
   exact hw p' (List.mem_cons_of_mem _ hp') q hq) (by show (putP d.S p.1 _).length + _ ≤ m; omega) hmm (fun p' hp'=>by
   rcases putP_mem hp' with rfl | ⟨hp',_⟩
   ·exact Nat.le_trans (behP_len _ _) s1
   ·exact h2 p' hp') (fun p' hp'=>by
   rcases putP_mem hp' with rfl | ⟨hp',_⟩
   ·refine behP_rooms (fun q hq j hj=>?_) (fun _ z=>nomatch z)
    obtain ⟨j',e1,e2⟩:=col_some ok (hwp q hq)
    rw [List.getD_eq_getElem?_getD,e1] at hj
    cases hj; exact e2
   ·exact h3 p' hp') h4
  refine ⟨⟨by omega,by omega,fun q hq=>?_,ih.1⟩,ih.2⟩
  obtain ⟨j',e1,e2⟩:=col_some ok (hwp q hq)
  exact ⟨j',e1⟩
theorem brk_none {r:Rl} {d:WD} {h:Int} {u:Str} (hb:brokenP r d h u = []):∀ p ∈ rowsP r d h u,∀ q ∈ startsP d p.1,(colOf r (r.ws.idxOf p.2)).getD q.1 none ≠ none:=fun p hp q hq e=>by
 unfold brokenP at hb
 rw [List.flatMap_eq_nil_iff] at hb
 have:=hb p hp
 unfold brk1 at this
 rw [List.map_eq_nil_iff,List.filter_eq_nil_iff] at this
 exact this q hq (by simpa using e)
theorem brk_len {r:Rl} {n:Nat} {d:WD} {h:Int} {u:Str} (k:KpW r n d) (ok:RlOk r) (hn:n ≤ 90):(brokenP r d h u).length ≤ 40000:=by
 have hrl:=rows_len k h u
 have h1:=flat_len (brk1 r d) (n + 1) (rowsP r d h u) (fun p _=>by
  unfold brk1
  rw [List.length_map]
  exact Nat.le_trans (List.length_filter_le _ _) (starts_ok ok.n0 k.sll k.rm p.1).1)
 have h2:(rowsP r d h u).length * (n + 1) ≤ (2 * (2 * n + 1)) * (n + 1):=Nat.mul_le_mul_right _ hrl
 have h3:(2 * (2 * n + 1)) * (n + 1) ≤ (2 * (2 * 90 + 1)) * (90 + 1):=Nat.mul_le_mul (by omega) (by omega)
 unfold brokenP
 omega
theorem KpW.dok {r:Rl} {n:Nat} {d:WD} {h:Int} {u:Str} (k:KpW r n d) (ok:RlOk r) (hn:n ≤ 90) (hu:u.length ≤ 1000):DOk r d h u:=by
 refine ⟨hu,fun side=>by have:=with_len k h side; omega,fun p _=>?_,Nat.le_trans (brk_len k ok hn) (by decide)⟩
 have:=starts_ok ok.n0 k.sll k.rm p.1
 exact ⟨by omega,this.2⟩
theorem KpW.go2 {r:Rl} {n:Nat} {d:WD} {h:Int} {u:Str} (k:KpW r n d) (ok:RlOk r) (hn:n ≤ 90) (nd:RowsNd r d h u) (hb:brokenP r d h u = []):GoOk r d (rowsP r d h u)∧KpW r (n + 1) (goP r d h u):=by
 have hrl:=rows_len k h u
 obtain ⟨g1,g2,g3,g4,g5⟩:=go_fold2 (m:=1000 * (n + 1)) (n:=n) ok (by omega) (rows:=rowsP r d h u) nd (brk_none hb) (by have:=k.sl; omega) (by omega) k.sll k.rm rfl
 refine ⟨g1,g2,?_,?_,fun p hp=>Nat.le_succ_of_le (g3 p hp),g4⟩
 ·show (goP r d h u).T.length ≤ _; unfold goP; rw [g5]; have:=k.tl; omega
 ·intro p hp
  have hp':p ∈ d.T:=by unfold goP at hp; rw [g5] at hp; exact hp
  have:=k.tll p hp'; omega
set_option genInjectivity false in
set_option genSizeOf false in
structure Bk where
 pl:Nat
 nm:Str
 st:Nat
 hs:List Int
def brkE (h:Int) (u:Str) (x:(Nat × Str × Rl) × WD):List Bk:=(brokenP x.1.2.2 x.2 h u).map fun p=>⟨x.1.1,x.1.2.1,p.1,p.2⟩
def allB (xs:List (Nat × Str × Rl)) (ds:List WD) (h:Int) (u:Str):List Bk:=(xs.zip ds).flatMap (brkE h u)
def ltL:List Int→List Int→Bool
 | [],[]=>false
 | [],_ :: _=>true
 | _ :: _,[]=>false
 | x :: xs,y :: ys=>if x = y then ltL xs ys else decide (x < y)
def ltBk (a b:Bk):Bool:=if a.pl = b.pl then (if a.st = b.st then ltL a.hs b.hs else decide (a.st < b.st)) else decide (a.pl < b.pl)
def BkAt (H:Hp) (t:Addr) (p:Bk):Prop:=∃ b c,H t = some (.tup [.ref b,.int (p.st:Int),.ref c])∧H b = some (.tup [.int (p.pl:Int),.str p.nm])∧HsAt H c p.hs
theorem BkAt.mono {H H':Hp} {t:Addr} {p:Bk} (h:BkAt H t p) (tp:∀ c ys,H c = some (.tup ys)→H' c = some (.tup ys)):BkAt H' t p:=by
 obtain ⟨b,c,h1,h2,h3⟩:=h; exact ⟨b,c,tp _ _ h1,tp _ _ h2,tp _ _ h3⟩
def exW (e:WE):Nat × Str × Rl:=(e.pl,e.nm,e.r)
def Step1 (es:List WE) (ds ds':List WD) (f:Rl→WD→WD) (i:Nat):Prop:=∀ (j:Nat) e d,es[j]? = some e→ds[j]? = some d→ds'[j]? = some (if j < i then f e.r d else d)
theorem Step1.next {es:List WE} {ds ds':List WD} {f:Rl→WD→WD} {i:Nat} {e:WE} {d:WD} (h:Step1 es ds ds' f i) (he:es[i]? = some e) (hd:ds[i]? = some d) (hd':ds'[i]? = some d):Step1 es ds (ds'.set i (f e.r d)) f (i + 1):=fun j e' d' h1 h2=>by
 by_cases hj:j = i
 ·subst hj
  rw [he] at h1; cases h1
  rw [hd] at h2; cases h2
  rw [if_pos (Nat.lt_succ_self _)]
  exact get_set hd'
 ·rw [get_set_ne hj,h j e' d' h1 h2]
  by_cases hl:j < i
  ·rw [if_pos hl,if_pos (by omega)]
  ·rw [if_neg hl,if_neg (by omega)]
theorem at_es {es:List WE} {i:Nat} {x:V} (hx:(es.map fun e=>V.ref e.w)[i]? = some x):∃ e,es[i]? = some e∧x = .ref e.w:=by
 rw [List.getElem?_map] at hx
 cases e1:es[i]? with
 | none=>rw [e1] at hx; cases hx
 | some e=>rw [e1] at hx; cases hx; exact ⟨e,rfl,rfl⟩
theorem WAt.at {H0 H:Hp} {es:List WE} {ds:List WD} {Θ : Addr→Option Role} (W:WAt H0 H es ds Θ) {k:Nat} {e:WE} (he:es[k]? = some e):∃ d,ds[k]? = some d:=by
 have:=(List.getElem?_eq_some_iff.mp he).1
 exact ⟨_,List.getElem?_eq_getElem (by rw [← W.len]; exact this)⟩
def stepAll (f:Rl→WD→WD) (xs:List (Nat × Str × Rl)) (ds:List WD):List WD:=List.zipWith (fun x d=>f x.2.2 d) xs ds
def tieF (one other:Int) (start:Nat) (r:Rl) (d:WD):WD:=if r.s = 1 then d else tieP d one other start
theorem step_zip {es:List WE} {ds ds':List WD} {f:Rl→WD→WD} (h:Step1 es ds ds' f es.length) (h1:es.length = ds.length) (h2:es.length = ds'.length):ds' = stepAll f (es.map exW) ds:=by
 apply List.ext_getElem?
 intro i
 unfold stepAll
 rw [List.getElem?_zipWith,List.getElem?_map]
 rcases Nat.lt_or_ge i es.length with z | z
 ·have he:=List.getElem?_eq_getElem z
  have hd:=List.getElem?_eq_getElem (l:=ds) (i:=i) (by omega)
  have:=h i _ _ he hd
  rw [if_pos z] at this
  rw [this,he,hd]; rfl
 ·rw [List.getElem?_eq_none (by omega),List.getElem?_eq_none z]; rfl
def spAllX (C:Addr):Sp:=fun vs H Q _=>∃ (H0:Hp) (es:List WE) (ds:List WD) (Θ : Addr→Option Role) (a:Addr) (n:Nat) (one other:Int) (start:Nat),vs = [.ref a,.int one,.int other,.int (start:Int)]∧WAt H0 H es ds Θ∧H0 a = some (.lst (es.map fun e=>V.ref e.w))∧(∀ e ∈ es,e.C = C)∧n ≤ 90∧(∀ (k:Nat) e d,es[k]? = some e→ds[k]? = some d→KpW e.r n d)∧
 ∀ (H':Hp) (Θ':Addr→Option Role),WAt H0 H' es (stepAll (tieF one other start) (es.map exW) ds) Θ'→Q .non H'
def spBrkX (C:Addr):Sp:=fun vs H Q _=>∃ (H0:Hp) (es:List WE) (ds:List WD) (Θ : Addr→Option Role) (a:Addr) (n:Nat) (h:Int) (u:Str),vs = [.ref a,.non,.int h,.str u]∧WAt H0 H es ds Θ∧H0 a = some (.lst (es.map fun e=>V.ref e.w))∧(∀ e ∈ es,e.C = C)∧n ≤ 90∧u.length ≤ 1000∧(∀ (k:Nat) e d,es[k]? = some e→ds[k]? = some d→KpW e.r n d∧RowsNd e.r d h u)∧es.length ≤ 20∧(∀ (k:Nat) e,es[k]? = some e→e.pl = k)∧
 (allB (es.map exW) ds h u = []→∀ (H':Hp) (Θ':Addr→Option Role),WAt H0 H' es (stepAll (fun r d=>goP r d h u) (es.map exW) ds) Θ'→Q .non H')∧
 ∀ m ∈ allB (es.map exW) ds h u,(∀ x ∈ allB (es.map exW) ds h u,ltBk x m = false)→∀ (t c:Addr) (H':Hp),Same H H'→H' t = some (.tup [.str m.nm,.int (m.st:Int),.ref c])→HsAt H' c m.hs→Q (.ref t) H'
theorem all_at {es:List WE} {ds:List WD} {h:Int} {u:Str} {k:Nat} {e:WE} {d:WD} (he:es[k]? = some e) (hd:ds[k]? = some d):(((es.map exW).zip ds).take (k + 1)).flatMap (brkE h u) = (((es.map exW).zip ds).take k).flatMap (brkE h u) ++ (brokenP e.r d h u).map (fun p=>(⟨e.pl,e.nm,p.1,p.2⟩ : Bk)):=by
 have hz:((es.map exW).zip ds)[k]? = some (exW e,d):=by
  rw [List.getElem?_zip_eq_some]
  exact ⟨by rw [List.getElem?_map,he]; rfl,hd⟩
 rw [List.take_add_one,hz]
 simp [List.flatMap_append,brkE,exW]
theorem all_nil {es:List WE} {ds:List WD} {h:Int} {u:Str} {k:Nat} {e:WE} {d:WD} (hb:allB (es.map exW) ds h u = []) (he:es[k]? = some e) (hd:ds[k]? = some d):brokenP e.r d h u = []:=by
 have hz:((es.map exW).zip ds)[k]? = some (exW e,d):=by
  rw [List.getElem?_zip_eq_some]
  exact ⟨by rw [List.getElem?_map,he]; rfl,hd⟩
 unfold allB at hb
 rw [List.flatMap_eq_nil_iff] at hb
 have:=hb _ (List.mem_of_getElem? hz)
 unfold brkE at this
 exact List.map_eq_nil_iff.mp this
theorem all_len {es:List WE} {ds:List WD} {h:Int} {u:Str} (hb:∀ (k:Nat) e d,es[k]? = some e→ds[k]? = some d→(brokenP e.r d h u).length ≤ 40000) (k:Nat):((((es.map exW).zip ds).take k).flatMap (brkE h u)).length ≤ es.length * 40000:=by
 have h1:=flat_len (brkE h u) 40000 (((es.map exW).zip ds).take k) (fun x hx=>by
  have hx':=List.mem_of_mem_take hx
  obtain ⟨i,hi,e1⟩:=List.mem_iff_getElem.mp hx'
  have hz:((es.map exW).zip ds)[i]? = some x:=by rw [List.getElem?_eq_getElem hi,e1]
  rw [show x = (x.1,x.2) from rfl,List.getElem?_zip_eq_some] at hz
  obtain ⟨z1,z2⟩:=hz
  rw [List.getElem?_map] at z1
  cases e2:es[i]? with
  | none=>rw [e2] at z1; cases z1
  | some e=>
   rw [e2] at z1
   have z3:exW e = x.1:=by simpa using z1
   have:=hb i e x.2 e2 z2
   unfold brkE
   rw [List.length_map,← z3]
   exact this)
 have h2:(((es.map exW).zip ds).take k).length ≤ es.length:=by
  rw [List.length_take,List.length_zip,List.length_map]; omega
 exact Nat.le_trans h1 (Nat.mul_le_mul_right _ h2)
theorem ltL_irr:∀ a,ltL a a = false
 | []=>rfl
 | x :: r=>by unfold ltL; rw [if_pos rfl]; exact ltL_irr r
theorem ltL_as:∀ a b,ltL a b = true→ltL b a = false
 | [],[],_=>rfl
 | [],_ :: _,_=>rfl
 | _ :: _,[],h=>by cases h
 | x :: xs,y :: ys,h=>by
  unfold ltL at h ⊢
  by_cases e:x = y
  ·rw [if_pos e] at h; rw [if_pos e.symm]; exact ltL_as xs ys h
  ·rw [if_neg e] at h; rw [if_neg (fun z=>e z.symm)]
   have:=of_decide_eq_true h
   exact decide_eq_false (by omega)
theorem ltL_tr:∀ a b c,ltL b a = false→ltL c b = false→ltL c a = false
 | [],_,[],_,_=>rfl
 | _ :: _,[],_,h,_=>by cases h
 | _ :: _,_ :: _,[],_,h=>by cases h
 | [],_,_ :: _,_,_=>rfl
 | x :: xs,y :: ys,z :: zs,h1,h2=>by
  unfold ltL at h1 h2 ⊢
  by_cases e1:y = x
  ·rw [if_pos e1] at h1
   by_cases e2:z = y
   ·rw [if_pos e2] at h2; rw [if_pos (e2.trans e1)]; exact ltL_tr xs ys zs h1 h2
   ·rw [if_neg e2] at h2; rw [if_neg (fun q=>e2 (q.trans e1.symm))]; rw [← e1]; exact h2
  ·rw [if_neg e1] at h1
   have g1:=of_decide_eq_false h1
   by_cases e2:z = y
   ·rw [if_neg (fun q=>e1 (e2.symm.trans q))]; exact decide_eq_false (by omega)
   ·rw [if_neg e2] at h2
    have g2:=of_decide_eq_false h2
    rw [if_neg (by omega)]; exact decide_eq_false (by omega)
theorem ltBk_irr (a:Bk):ltBk a a = false:=by unfold ltBk; rw [if_pos rfl,if_pos rfl]; exact ltL_irr _
theorem ltBk_as (a b:Bk) (h:ltBk a b = true):ltBk b a = false:=by
 unfold ltBk at h ⊢
 by_cases e:a.pl = b.pl
 ·rw [if_pos e] at h; rw [if_pos e.symm]
  by_cases e2:a.st = b.st
  ·rw [if_pos e2] at h; rw [if_pos e2.symm]; exact ltL_as _ _ h
  ·rw [if_neg e2] at h; rw [if_neg (fun z=>e2 z.symm)]
   have:=of_decide_eq_true h; exact decide_eq_false (by omega)
 ·rw [if_neg e] at h; rw [if_neg (fun z=>e z.symm)]
  have:=of_decide_eq_true h; exact decide_eq_false (by omega)
theorem ltBk_tr (a b c:Bk) (h1:ltBk b a = false) (h2:ltBk c b = false):ltBk c a = false:=by
 unfold ltBk at h1 h2 ⊢
 by_cases e1:b.pl = a.pl
 ·rw [if_pos e1] at h1
  by_cases e2:c.pl = b.pl
  ·rw [if_pos e2] at h2; rw [if_pos (e2.trans e1)]
   by_cases f1:b.st = a.st
   ·rw [if_pos f1] at h1
    by_cases f2:c.st = b.st
    ·rw [if_pos f2] at h2; rw [if_pos (f2.trans f1)]; exact ltL_tr _ _ _ h1 h2
    ·rw [if_neg f2] at h2; rw [if_neg (by omega),← f1]; exact h2
   ·rw [if_neg f1] at h1
    have g1:=of_decide_eq_false h1
    by_cases f2:c.st = b.st
    ·rw [if_neg (by omega)]; exact decide_eq_false (by omega)
    ·rw [if_neg f2] at h2
     have g2:=of_decide_eq_false h2
     rw [if_neg (by omega)]; exact decide_eq_false (by omega)
  ·rw [if_neg e2] at h2; rw [if_neg (by omega),← e1]; exact h2
 ·rw [if_neg e1] at h1
  have g1:=of_decide_eq_false h1
  by_cases e2:c.pl = b.pl
  ·rw [if_neg (by omega)]; exact decide_eq_false (by omega)
  ·rw [if_neg e2] at h2
   have g2:=of_decide_eq_false h2
   rw [if_neg (by omega)]; exact decide_eq_false (by omega)
theorem argBest_lt (bt:Nat→Nat→Bool):∀ n,argBest bt n ≤ n
 | 0=>Nat.le_refl _
 | n + 1=>by
  unfold argBest
  split
  ·exact Nat.le_refl _
  ·exact Nat.le_succ_of_le (argBest_lt bt n)
theorem argBest_min {bt:Nat→Nat→Bool} {N:Nat} (ir:∀ i,i ≤ N→bt i i = false) (as:∀ i j,i ≤ N→j ≤ N→bt i j = true→bt j i = false) (tr:∀ i j k,i ≤ N→j ≤ N→k ≤ N→bt j i = false→bt k j = false→bt k i = false):∀ n i,n ≤ N→i ≤ n→bt i (argBest bt n) = false
 | 0,i,_,h=>by rw [Nat.le_zero.mp h]; exact ir 0 (Nat.zero_le _)
 | n + 1,i,hN,h=>by
  have hb:=argBest_lt bt n
  unfold argBest
  split
  ·rename_i c
   rcases Nat.lt_or_ge n i with z | z
   ·rw [show i = n + 1 by omega]; exact ir _ hN
   ·exact tr _ _ _ hN (by omega) (by omega) (as _ _ hN (by omega) c) (argBest_min ir as tr n i (by omega) z)
  ·rename_i c
   rcases Nat.lt_or_ge n i with z | z
   ·rw [show i = n + 1 by omega]; simpa using c
   ·exact argBest_min ir as tr n i (by omega) z
theorem lexW_map {e l:Nat→Bool} {z:Bool} (f:Nat→Nat):∀ r:List Nat,PySem.SeqAt.lexW e l z (r.map f) = PySem.SeqAt.lexW (fun i=>e (f i)) (fun i=>l (f i)) z r
 | []=>rfl
 | i :: r=>by rw [List.map_cons]; unfold PySem.SeqAt.lexW; rw [lexW_map f r]
theorem lexW_hs:∀ a b:List Int,PySem.SeqAt.lexW (fun i=>decide (a.getD i 0 = b.getD i 0)) (fun i=>decide (a.getD i 0 < b.getD i 0)) (decide (a.length < b.length)) (List.range (min a.length b.length)) = ltL a b
 | [],[]=>rfl
 | [],y :: ys=>by simp [PySem.SeqAt.lexW,ltL]
 | x :: xs,[]=>by simp [PySem.SeqAt.lexW,ltL]
 | x :: xs,y :: ys=>by
  have ih:=lexW_hs xs ys
  rw [show min (x :: xs).length (y :: ys).length = min xs.length ys.length + 1 by simp only [List.length_cons]; omega,List.range_succ_eq_map]
  unfold PySem.SeqAt.lexW
  rw [lexW_map]
  unfold ltL
  simp only [List.getD_cons_succ,List.getD_cons_zero,List.length_cons,Nat.add_lt_add_iff_right,decide_eq_true_eq,Nat.succ_eq_add_one]
  rw [ih]
theorem eqV_ii (p q:Int):decide (p = q) = eqV (.int p) (.int q):=by
 simp only [eqV]; exact Bool.eq_iff_iff.mpr (by simp)
theorem eqV_nn (p q:Nat):decide (p = q) = eqV (.int (p:Int)) (.int (q:Int)):=by
 rw [← eqV_ii]; exact Bool.eq_iff_iff.mpr (by simp; omega)
theorem eqV_ss (p q:Str):decide (p = q) = eqV (.str p) (.str q):=by
 simp only [eqV]; exact Bool.eq_iff_iff.mpr (by simp)
theorem hs_at {H:Hp} {K:PySem.W.Frag} {c c':Addr} {a b:List Int} (h1:HsAt H c a) (h2:HsAt H c' b):LtN K H 1 (.ref c) (.ref c') (ltL a b):=by
 refine .inr ⟨c,c',a.map V.int,b.map V.int,fun i=>decide (a.getD i 0 = b.getD i 0),fun i=>decide (a.getD i 0 < b.getD i 0),rfl,rfl,SqT.of h1,SqT.of h2,fun i x y e1 e2 _=>?_,fun i x y e1 e2 _=>?_,?_⟩
 ·rw [List.getElem?_map] at e1 e2
  cases z1:a[i]? with
  | none=>rw [z1] at e1; cases e1
  | some p=>
   cases z2:b[i]? with
   | none=>rw [z2] at e2; cases e2
   | some q=>
    rw [z1] at e1; rw [z2] at e2; cases e1; cases e2
    simp only [List.getD_eq_getElem?_getD,z1,z2,Option.getD_some]
    refine ⟨rfl,rfl,?_⟩
    first | exact eqV_ii _ _ | exact eqV_nn _ _ | exact eqV_ss _ _ | (dsimp only; rw [z1,z2]; simp only [Option.some.injEq]; exact eqV_ii _ _)
 ·rw [List.getElem?_map] at e1 e2
  cases z1:a[i]? with
  | none=>rw [z1] at e1; cases e1
  | some p=>
   cases z2:b[i]? with
   | none=>rw [z2] at e2; cases e2
   | some q=>
    rw [z1] at e1; rw [z2] at e2; cases e1; cases e2
    simp only [List.getD_eq_getElem?_getD,z1,z2,Option.getD_some]
    exact .inl ⟨p,q,rfl,rfl,rfl⟩
 ·rw [List.length_map,List.length_map]; exact (lexW_hs a b).symm
theorem hs_eq {H:Hp} {K:PySem.W.Frag} {c c':Addr} {a b:List Int} (h1:HsAt H c a) (h2:HsAt H c' b) (hl:a.length = b.length):EqN K H 1 (.ref c) (.ref c') (decide (a = b)):=by
 refine .inr ⟨c,c',a.map V.int,b.map V.int,rfl,rfl,.inr ⟨SqT.of h1,SqT.of h2⟩,.inl ⟨fun i=>decide (a[i]? = b[i]?),by simp [hl],fun i x y e1 e2=>?_,?_⟩⟩
 ·rw [List.getElem?_map] at e1 e2
  cases z1:a[i]? with
  | none=>rw [z1] at e1; cases e1
  | some p=>
   cases z2:b[i]? with
   | none=>rw [z2] at e2; cases e2
   | some q=>
    rw [z1] at e1; rw [z2] at e2; cases e1; cases e2
    refine ⟨rfl,rfl,?_⟩
    first | exact eqV_ii _ _ | exact eqV_nn _ _ | exact eqV_ss _ _ | (dsimp only; rw [z1,z2]; simp only [Option.some.injEq]; exact eqV_ii _ _)
 ·rw [List.length_map]
  apply Bool.eq_iff_iff.mpr
  rw [decide_eq_true_eq,List.all_eq_true]
  refine ⟨fun e i _=>by rw [e]; simp,fun h=>List.ext_getElem? fun i=>?_⟩
  rcases Nat.lt_or_ge i a.length with z | z
  ·exact of_decide_eq_true (h i (List.mem_range.mpr z))
  ·rw [List.getElem?_eq_none z,List.getElem?_eq_none (by omega)]
theorem bk_lt {H:Hp} {K:PySem.W.Frag} {s t:Addr} {x y:Bk} (h1:BkAt H s x) (h2:BkAt H t y) (hn:x.pl = y.pl→x.nm = y.nm∧x.hs.length = y.hs.length):LtN K H 2 (.ref s) (.ref t) (ltBk x y):=by
 obtain ⟨b1,c1,a1,a2,a3⟩:=h1
 obtain ⟨b2,c2,d1,d2,d3⟩:=h2
 refine .inr ⟨s,t,_,_,fun i=>match i with | 0=>decide (x.pl = y.pl) | 1=>decide (x.st = y.st) | _=>decide (x.hs = y.hs),fun i=>match i with | 0=>decide (x.pl < y.pl) | 1=>decide (x.st < y.st) | _=>ltL x.hs y.hs,rfl,rfl,SqT.of a1,SqT.of d1,?_,?_,?_⟩
 ·rintro (_ | _ | _ | i) p q e1 e2 hp
  ·cases e1; cases e2
   refine .inr ⟨b1,b2,_,_,rfl,rfl,.inr ⟨SqT.of a2,SqT.of d2⟩,.inl ⟨fun i=>match i with | 0=>decide (x.pl = y.pl) | _=>decide (x.nm = y.nm),rfl,?_,?_⟩⟩
   ·rintro (_ | _ | i) p q e1 e2
    ·cases e1; cases e2
     refine ⟨rfl,rfl,?_⟩
     first | exact eqV_ii _ _ | exact eqV_nn _ _ | exact eqV_ss _ _ | (dsimp only; rw [z1,z2]; simp only [Option.some.injEq]; exact eqV_ii _ _)
    ·cases e1; cases e2
     refine ⟨rfl,rfl,?_⟩
     first | exact eqV_ii _ _ | exact eqV_nn _ _ | exact eqV_ss _ _ | (dsimp only; rw [z1,z2]; simp only [Option.some.injEq]; exact eqV_ii _ _)
    ·cases e1
   ·show decide (x.pl = y.pl) = (List.range 2).all _
    rw [show List.range 2 = [0,1] from rfl]
    simp only [List.all_cons,List.all_nil,Bool.and_true]
    by_cases e:x.pl = y.pl
    ·rw [decide_eq_true e,decide_eq_true (hn e).1]; rfl
    ·rw [decide_eq_false e]; rfl
  ·cases e1; cases e2
   refine .inl ⟨rfl,rfl,?_⟩
   first | exact eqV_ii _ _ | exact eqV_nn _ _ | exact eqV_ss _ _ | (dsimp only; rw [z1,z2]; simp only [Option.some.injEq]; exact eqV_ii _ _)
  ·cases e1; cases e2
   exact hs_eq a3 d3 (hn (of_decide_eq_true (hp 0 (by omega)))).2
  ·cases e1
 ·rintro (_ | _ | _ | i) p q e1 e2 hf
  ·cases e1; cases e2
   have hne:¬ x.pl = y.pl:=of_decide_eq_false hf
   refine .inr ⟨b1,b2,_,_,fun i=>match i with | 0=>decide (x.pl = y.pl) | _=>decide (x.nm = y.nm),fun i=>match i with | 0=>decide (x.pl < y.pl) | _=>decide (x.nm.cps.toList < y.nm.cps.toList),rfl,rfl,SqT.of a2,SqT.of d2,?_,?_,?_⟩
   ·rintro (_ | _ | i) p q e1 e2 _
    ·cases e1; cases e2
     refine ⟨rfl,rfl,?_⟩
     first | exact eqV_ii _ _ | exact eqV_nn _ _ | exact eqV_ss _ _ | (dsimp only; rw [z1,z2]; simp only [Option.some.injEq]; exact eqV_ii _ _)
    ·cases e1; cases e2
     refine ⟨rfl,rfl,?_⟩
     first | exact eqV_ii _ _ | exact eqV_nn _ _ | exact eqV_ss _ _ | (dsimp only; rw [z1,z2]; simp only [Option.some.injEq]; exact eqV_ii _ _)
    ·cases e1
   ·rintro (_ | _ | i) p q e1 e2 _
    ·cases e1; cases e2
     exact .inl ⟨_,_,rfl,rfl,Bool.eq_iff_iff.mpr (by simp)⟩
    ·cases e1; cases e2
     exact .inr ⟨_,_,rfl,rfl,rfl⟩
    ·cases e1
   ·show decide (x.pl < y.pl) = PySem.SeqAt.lexW _ _ _ (List.range 2)
    rw [show List.range 2 = [0,1] from rfl]
    simp only [PySem.SeqAt.lexW,decide_eq_true_eq]
    rw [if_neg hne]
  ·cases e1; cases e2
   exact .inl (.inl ⟨_,_,rfl,rfl,Bool.eq_iff_iff.mpr (by simp)⟩)
  ·cases e1; cases e2
   exact hs_at a3 d3
  ·cases e1
 ·show ltBk x y = PySem.SeqAt.lexW _ _ _ (List.range 3)
  rw [show List.range 3 = [0,1,2] from rfl]
  simp only [PySem.SeqAt.lexW,decide_eq_true_eq]
  unfold ltBk
  by_cases g1:x.pl = y.pl
  ·rw [if_pos g1,if_pos g1]
   by_cases g2:x.st = y.st
   ·rw [if_pos g2,if_pos g2]
    by_cases g3:x.hs = y.hs
    ·rw [if_pos g3,g3]; exact ltL_irr _
    ·rw [if_neg g3]
   ·rw [if_neg g2,if_neg g2]
  ·rw [if_neg g1,if_neg g1]
section
variable {CW:Addr}
theorem all_hs {r:Rl} {d:WD} {h:Int} {u:Str} {p:Nat × List Int} (hp:p ∈ brokenP r d h u):p.2.length = if r.s = 1 then 1 else 2:=by
 unfold brokenP at hp
 obtain ⟨q,hq,hp⟩:=List.mem_flatMap.mp hp
 unfold brk1 at hp
 obtain ⟨z,_,rfl⟩:=List.mem_map.mp hp
 unfold rowsP at hq
 obtain ⟨s,hs,hq⟩:=List.mem_flatMap.mp hq
 split at hq
 ·obtain ⟨x,hx,rfl⟩:=List.mem_map.mp hq
  show x.length = _
  unfold sidesOf at hs
  unfold withP at hx
  by_cases e:r.s = 1
  ·rw [if_pos e] at hs ⊢
   rw [List.mem_singleton.mp hs,if_pos rfl] at hx
   rw [List.mem_singleton.mp hx]; rfl
  ·rw [if_neg e] at hs ⊢
   have:s ≠ 0:=by
    rcases List.mem_cons.mp hs with z | z
    ·omega
    ·have:=List.mem_singleton.mp z; omega
   rw [if_neg this] at hx
   obtain ⟨y,_,rfl⟩:=List.mem_map.mp hx
   rfl
 ·cases hq
theorem all_pl {es:List WE} {ds:List WD} {h:Int} {u:Str} (hpl:∀ (k:Nat) e,es[k]? = some e→e.pl = k) {x y:Bk} (hx:x ∈ allB (es.map exW) ds h u) (hy:y ∈ allB (es.map exW) ds h u) (e:x.pl = y.pl):x.nm = y.nm∧x.hs.length = y.hs.length:=by
 have key:∀ {z:Bk},z ∈ allB (es.map exW) ds h u→∃ (k:Nat) (e:WE),es[k]? = some e∧z.pl = e.pl∧z.nm = e.nm∧z.hs.length = if e.r.s = 1 then 1 else 2:=fun {z} hz=>by
  unfold allB at hz
  obtain ⟨q,hq,hz⟩:=List.mem_flatMap.mp hz
  unfold brkE at hz
  obtain ⟨p,hp,rfl⟩:=List.mem_map.mp hz
  have:=(List.of_mem_zip hq).1
  obtain ⟨e,he,e1⟩:=List.mem_map.mp this
  obtain ⟨k,hk,e2⟩:=List.mem_iff_getElem.mp he
  refine ⟨k,e,by rw [List.getElem?_eq_getElem hk,e2],?_,?_,?_⟩
  ·show q.1.1 = _; rw [← e1]; rfl
  ·show q.1.2.1 = _; rw [← e1]; rfl
  ·have:=all_hs hp
   rw [← e1] at this; exact this
 obtain ⟨k1,e1,a1,a2,a3,a4⟩:=key hx
 obtain ⟨k2,e2,b1,b2,b3,b4⟩:=key hy
 have z1:=hpl k1 e1 a1
 have z2:=hpl k2 e2 b1
 have:k1 = k2:=by omega
 subst this
 rw [a1] at b1; cases b1
 exact ⟨by rw [a3,b3],by rw [a4,b4]⟩
def btB (B:List Bk) (i j:Nat):Bool:=match B[i]?,B[j]? with | some x,some y=>ltBk x y | _,_=>false
theorem btB_at {B:List Bk} {i j:Nat} (hi:i < B.length) (hj:j < B.length):btB B i j = ltBk B[i] B[j]:=by
 unfold btB
 rw [List.getElem?_eq_getElem hi,List.getElem?_eq_getElem hj]
theorem ok_allX (D:DefAt K mg "all_begin_tie" s_all_begin_tie) (m_Watch_begin_tie:Mcal P w K mg base 1 CW "begin_tie" ["self", "one", "other", "start"] (spTieW CW)):Cal P w K mg base 2 "all_begin_tie" ["watches", "one", "other", "start"] (spAllX CW):=by
 refine D.cal (k:=1) sc_all_begin_tie (fun _ _ _ _ _ _ us hl=>match us,hl with | [_,_,_,_],_=>rfl) (fun vs H Q E h=>by obtain ⟨_,_,_,_,_,_,_,_,_,rfl,_⟩:=h; rfl) (fun f cdv A outer s H vs Q _ hr h=>?_)
 obtain ⟨H0,es,ds,Θ,a,n,one,other,start,rfl,W,ha,hC,hn,kp,q⟩:=h
 refine ⟨_,(pss_one (ps_for PassesOwn.never rfl (pi_listK K (pv 0 (hv:=vz1i))) (pg_let 4 sc_all_begin_tie.nd (hx:=lzj)) (pss_one (ps_expr (pe_mcal m_Watch_begin_tie hr (pv 4 (hv:=vz1m)) (pa_cons (pv 1 (hv:=vz1j)) (pa_cons (pv 2 (hv:=vz1k)) (pa_cons (pv 3 (hv:=vz1l)) pa_nil)))))))),?_⟩
 walk_at "rd1"
 refine ⟨⟨_,SqL.of (W.sm _ _ ha)⟩,?_⟩
 refine forW_list (xs:=es.map fun e=>V.ref e.w) (fun i σ H'=>∃ (o4:Option V) (Θ':Addr→Option Role) (ds':List WD),σ = [some (.ref a),some (.int one),some (.int other),some (.int (start:Int)),o4]∧WAt H0 H' es ds' Θ'∧Step1 es ds ds' (tieF one other start) i)
  ⟨_,Θ,ds,rfl,W,fun j e d _ h2=>by rw [if_neg (Nat.not_lt_zero _)]; exact h2⟩ (fun i σ H' _ hh=>?_) (fun i x σ H' hx hh=>?_) (fun σ H' hh=>?_)
 ·obtain ⟨_,_,_,_,W',_⟩:=hh
  exact SqL.of (W'.sm _ _ ha)
 ·obtain ⟨o4,Θ',ds',rfl,W',st⟩:=hh
  obtain ⟨e,he,rfl⟩:=at_es hx
  obtain ⟨d,hd⟩:=W.at he
  have hd':=st i e d he hd
  rw [if_neg (Nat.lt_irrefl _)] at hd'
  have k:=kp i e d he hd
  walk_at "rd1"
  have eC:=hC e (List.mem_of_getElem? he)
  refine ⟨eC ▸ (W'.stat' he).isM (by decide +kernel),H0,es,ds',Θ',i,e,d,one,other,start,eC,rfl,W',he,hd',by have:=k.sl; omega,by have:=k.tl; omega,fun p hp=>by have:=k.tll p hp; omega,fun p hp=>by have:=k.sll p hp; omega,fun H2 Θ2 W2=>?_⟩
  exact ⟨_,Θ2,_,rfl,W2,st.next he hd hd'⟩
 ·obtain ⟨o4,Θ',ds',rfl,W',st⟩:=hh
  rw [List.length_map] at st
  refine q H' Θ' ?_
  rw [← step_zip st W.len W'.len]
  exact W'
theorem ok_brkX (D:DefAt K mg "broken_or_gone_on" s_broken_or_gone_on) (z_len:mg "len" = none) (z_min:mg "min" = none) (m_Watch_mark_at:Mcal P w K mg base 1 CW "mark_at" ["self", "at"] (fun vs H Q _=>∃ e v,e.C = CW∧vs = [.ref e.w,v]∧StatAt H e∧Q (.str "look") H)) (m_Watch_broken_by:Mcal P w K mg base 3 CW "broken_by" ["self", "handle", "word"] (spBroken CW)) (m_Watch_go_on:Mcal P w K mg base 3 CW "go_on" ["self", "handle", "word"] (spGo CW)):Cal P w K mg base 4 "broken_or_gone_on" ["watches", "at", "handle", "word"] (spBrkX CW):=by
 refine D.cal (k:=3) sc_broken_or_gone_on (fun _ _ _ _ _ _ us hl=>match us,hl with | [_,_,_,_],_=>rfl) (fun vs H Q E h=>by obtain ⟨_,_,_,_,_,_,_,_,rfl,_⟩:=h; rfl) (fun f cdv A outer s H vs Q _ hr h=>?_)
 obtain ⟨H0,es,ds,Θ,a,n,h,u,rfl,W,ha,hC,hn,hu,kp,hel,hpl,q1,q2⟩:=h
 have rok:∀ {k:Nat} {e:WE},es[k]? = some e→RlOk e.r:=fun he=>(W.stat _ (List.mem_of_getElem? he)).ok
 have dok:∀ (k:Nat) e d,es[k]? = some e→ds[k]? = some d→DOk e.r d h u:=fun k e d he hd=>(kp k e d he hd).1.dok (rok he) hn hu
 have hbl:=all_len (h:=h) (u:=u) (fun k e d he hd=>brk_len (kp k e d he hd).1 (rok he) hn)
 refine ⟨_,(pss_cons (ps_let 4 sc_broken_or_gone_on.nd (pe_lst pa_nil) (hx:=lzk))
   (pss_cons (ps_for PassesOwn.never rfl (pi_listK K (pv 0 (hv:=vz1n))) (pg_let 5 sc_broken_or_gone_on.nd (hx:=lzl)) (pss_one (ps_if (pt_cmpR op_eqA (pe_mcal m_Watch_mark_at hr (pv 5 (hv:=vz1s)) (pa_cons (pv 1 (hv:=vz1o)) pa_nil)) pe_str (nomark _)) (pss_one (ps_expr (pe_bmK K PySem.F.plainAttrs_list PySem.F.slot_list_extend PySem.F.type_list_extend mt_extendA (pv 4 (hv:=vz1r)) (pa_cons (pe_mcal m_Watch_broken_by hr (pv 5 (hv:=vz1s)) (pa_cons (pv 2 (hv:=vz1p)) (pa_cons (pv 3 (hv:=vz1q)) pa_nil))) pa_nil)))) pss_nil)))
   (pss_cons (ps_if (pt_cmpR op_gt (pe_blt (call_lenK K) z_len bt_len (pa_cons (pv 4 (hv:=vz1r)) pa_nil) (hg:=gz7)) pe_int (nomark _)) (pss_cons (ps_let 6 sc_broken_or_gone_on.nd (pe_blt (call_minT K hr) z_min bt_min (pa_cons (pv 4 (hv:=vz1r)) pa_nil) (hg:=gz8)) (hx:=lzm))
   (pss_one (ps_ret (pe_tup (pa_cons (pe_ix (ix_K K) (pe_ix (ix_K K) (pv 6 (hv:=vz1t)) pe_int (fun _ _=>rfl)) pe_int (fun _ _=>rfl)) (pa_cons (pe_ix (ix_K K) (pv 6 (hv:=vz1t)) pe_int (fun _ _=>rfl)) (pa_cons (pe_ix (ix_K K) (pv 6 (hv:=vz1t)) pe_int (fun _ _=>rfl)) pa_nil))))))) pss_nil)
   (pss_cons (ps_for PassesOwn.never rfl (pi_listK K (pv 0 (hv:=vz1n))) (pg_let 5 sc_broken_or_gone_on.nd (hx:=lzl)) (pss_one (ps_if (pt_cmpR op_neA (pe_mcal m_Watch_mark_at hr (pv 5 (hv:=vz1s)) (pa_cons (pv 1 (hv:=vz1o)) pa_nil)) pe_str (nomark _)) (pss_one (ps_expr (pe_mcal m_Watch_go_on hr (pv 5 (hv:=vz1s)) (pa_cons (pv 2 (hv:=vz1p)) (pa_cons (pv 3 (hv:=vz1q)) pa_nil))))) pss_nil)))
   (pss_one (ps_ret pe_non)))))),?_⟩
 walk_at "rd1"
 refine ⟨by decide,fun B hB=>?_⟩
 have s1:=same_new hB (.lst [])
 have eB:upd H B (.lst []) B = some (.lst []):=upd_same
 generalize upd H B (.lst []) = H1 at s1 eB ⊢
 walk_at "nx"
 refine ⟨⟨_,SqL.of (s1 _ _ (W.sm _ _ ha))⟩,?_⟩
 refine forW_list (xs:=es.map fun e=>V.ref e.w) (fun i σ H'=>∃ (o5:Option V) (ts:List Addr),σ = [some (.ref a),some .non,some (.int h),some (.str u),some (.ref B),o5,none]∧Same H H'∧H' B = some (.lst (ts.map V.ref))∧Paired (BkAt H') ts ((((es.map exW).zip ds).take i).flatMap (brkE h u)))
  ⟨_,[],rfl,s1,eB,.nil⟩ (fun i σ H' _ hh=>?_) (fun i x σ H' hx hh=>?_) (fun σ H' hh=>?_)
 ·obtain ⟨_,_,_,sm,_⟩:=hh
  exact SqL.of (sm _ _ (W.sm _ _ ha))
 ·obtain ⟨o5,ts,rfl,sm,eB',pr⟩:=hh
  obtain ⟨e,he,rfl⟩:=at_es hx
  obtain ⟨d,hd⟩:=W.at he
  have eC:=hC e (List.mem_of_getElem? he)
  have W2:=W.mono sm
  walk_at "rd1"
  refine ⟨eC ▸ (W2.stat' he).isM (by decide +kernel),e,.non,eC,rfl,W2.stat' he,?_⟩
  walk_at "rd1"
  refine ⟨⟨_,SqL.of eB'⟩,eC ▸ (W2.stat' he).isM (by decide +kernel),H0,es,ds,Θ,i,e,d,h,u,eC,rfl,W2,he,hd,dok i e d he hd,fun b as H3 s3 hb0 eb pb=>?_⟩
  dsimp only
  rw [rExtend_at]
  have eB3:=s3 _ _ eB'
  have hl1:=hbl i
  have hl2:=brk_len (h:=h) (u:=u) (kp i e d he hd).1 (rok he) hn
  have hl3:=paired_lenW pr
  have hl4:=paired_lenW pb
  refine ⟨_,_,eB3,eb,by rw [List.length_map,List.length_map,hl3,hl4]; exact smallL (by omega),_,ts ++ as,rfl,fun c o z=>?_,by rw [upd_same,List.map_append],?_⟩
  ·rw [upd_ne (ne_of_none z hB)]; exact s3 _ _ (sm _ _ z)
  ·rw [all_at he hd]
   have tp:∀ c ys,H3 c = some (.tup ys)→upd H3 B (.lst (ts.map V.ref ++ as.map V.ref)) c = some (.tup ys):=fun c ys z=>by rw [upd_ne (fun g=>by rw [g,eB3] at z; cases z)]; exact z
   refine paired_appW (paired_imp (fun b x z=>(BkAt.mono z (fun c ys g=>s3 _ _ g)).mono tp) pr) ?_
   have ebl:=tp _ _ ((W2.mono s3).stat' he).bl
   exact paired_mapW (R':=BkAt _) (fun t p z=>by obtain ⟨c,g1,g2⟩:=z; exact ⟨e.bl,c,tp _ _ g1,ebl,tp _ _ g2⟩) pb
 ·obtain ⟨o5,ts,rfl,sm,eB',pr⟩:=hh
  rw [List.length_map] at pr
  have htk:((es.map exW).zip ds).take es.length = (es.map exW).zip ds:=List.take_of_length_le (by rw [List.length_zip,List.length_map]; omega)
  rw [htk] at pr
  have pr':Paired (BkAt H') ts (allB (es.map exW) ds h u):=pr
  have htl:=paired_lenW pr'
  have W2:=W.mono sm
  walk_at "nx"
  refine ⟨_,.inl (SqL.of eB'),?_⟩
  rw [List.length_map]
  walk_at "rd1"
  refine ite2 (fun c=>?_) (fun c=>?_)
  ·refine ⟨B,ts.map V.ref,btB (allB (es.map exW) ds h u),2,rfl,SqL.of eB',?_,by decide,?_,?_⟩
   ·intro z
    have:ts = []:=List.map_eq_nil_iff.mp z
    rw [this] at c
    exact absurd c (by decide)
   ·intro i j x y hx hy
    rw [List.getElem?_map] at hx hy
    cases z1:ts[i]? with
    | none=>rw [z1] at hx; cases hx
    | some s=>
     cases z2:ts[j]? with
     | none=>rw [z2] at hy; cases hy
     | some t=>
      rw [z1] at hx; rw [z2] at hy; cases hx; cases hy
      have i1:i < (allB (es.map exW) ds h u).length:=by rw [← htl]; exact (List.getElem?_eq_some_iff.mp z1).1
      have j1:j < (allB (es.map exW) ds h u).length:=by rw [← htl]; exact (List.getElem?_eq_some_iff.mp z2).1
      have e1:=List.getElem?_eq_getElem i1
      have e2:=List.getElem?_eq_getElem j1
      rw [btB_at i1 j1]
      exact bk_lt (paired_get (F:=BkAt H') pr' z1 e1) (paired_get (F:=BkAt H') pr' z2 e2) (all_pl hpl (List.getElem_mem i1) (List.getElem_mem j1))
   ·intro v hv
    rw [List.length_map] at hv
    have hbl0:0 < ts.length:=by omega
    generalize hBB:allB (es.map exW) ds h u = BB at hv pr' htl q2
    have hbt':∀ i j (hi:i < BB.length) (hj:j < BB.length),btB BB i j = ltBk BB[i] BB[j]:=fun i j hi hj=>btB_at hi hj
    have hmn:=argBest_min (bt:=btB BB) (N:=ts.length - 1) (fun i hi=>by
     rw [hbt' i i (by omega) (by omega)]; exact ltBk_irr _) (fun i j hi hj z=>by
     rw [hbt' i j (by omega) (by omega)] at z; rw [hbt' j i (by omega) (by omega)]; exact ltBk_as _ _ z) (fun i j k hi hj hk z1 z2=>by
     rw [hbt' j i (by omega) (by omega)] at z1; rw [hbt' k j (by omega) (by omega)] at z2; rw [hbt' k i (by omega) (by omega)]; exact ltBk_tr _ _ _ z1 z2) (ts.length - 1)
    have hal:=argBest_lt (btB BB) (ts.length - 1)
    generalize argBest (btB BB) (ts.length - 1) = g at hv hmn hal
    have hg:g < ts.length:=by omega
    rw [List.getElem?_map,List.getElem?_eq_getElem hg] at hv
    cases hv
    have hgB:g < BB.length:=by omega
    obtain ⟨b,c,g1,g2,g3⟩ : BkAt H' ts[g] BB[g]:=paired_get (F:=BkAt H') pr' (List.getElem?_eq_getElem hg) (List.getElem?_eq_getElem hgB)
    walk_at "nx"
    refine ⟨_,_,.inr (SqT.of g1),rfl,?_⟩
    walk_at "rd1"
    refine ⟨_,_,.inr (SqT.of g2),rfl,_,_,.inr (SqT.of g1),rfl,_,_,.inr (SqT.of g1),rfl,?_⟩
    refine ⟨by decide,fun t ht=>?_⟩
    refine q2 BB[g] (List.getElem_mem hgB) (fun x hx=>?_) t c _ (sm.trans (same_new ht _)) upd_same (same_new ht _ _ _ g3)
    obtain ⟨i,hi,rfl⟩:=List.mem_iff_getElem.mp hx
    have:=hmn i (Nat.le_refl _) (by omega)
    rw [hbt' i g hi hgB] at this
    exact this
  ·have hnil:allB (es.map exW) ds h u = []:=by
    rw [← List.length_eq_zero_iff]; omega
   walk_at "nx"
   refine ⟨⟨_,SqL.of (W2.sm _ _ ha)⟩,?_⟩
   refine forW_list (xs:=es.map fun e=>V.ref e.w) (fun i σ H'=>∃ (o5:Option V) (Θ':Addr→Option Role) (ds':List WD),σ = [some (.ref a),some .non,some (.int h),some (.str u),some (.ref B),o5,none]∧WAt H0 H' es ds' Θ'∧Step1 es ds ds' (fun r d=>goP r d h u) i)
    ⟨_,Θ,ds,rfl,W2,fun j e d _ h2=>by rw [if_neg (Nat.not_lt_zero _)]; exact h2⟩ (fun i σ H' _ hh=>?_) (fun i x σ H' hx hh=>?_) (fun σ H' hh=>?_)
   ·obtain ⟨_,_,_,_,W',_⟩:=hh
    exact SqL.of (W'.sm _ _ ha)
   ·obtain ⟨o5,Θ',ds',rfl,W',st⟩:=hh
    obtain ⟨e,he,rfl⟩:=at_es hx
    obtain ⟨d,hd⟩:=W.at he
    have k:=kp i e d he hd
    have hd':=st i e d he hd
    rw [if_neg (Nat.lt_irrefl _)] at hd'
    have eC:=hC e (List.mem_of_getElem? he)
    have dk:=dok i e d he hd
    have gok:=(k.1.go2 (rok he) hn k.2 (all_nil hnil he hd)).1
    walk_at "rd1"
    refine ⟨eC ▸ (W'.stat' he).isM (by decide +kernel),e,.non,eC,rfl,W'.stat' he,?_⟩
    walk_at "rd1"
    refine ite2 (fun _=>?_) (fun c=>absurd (by decide +kernel) c)
    refine ⟨eC ▸ (W'.stat' he).isM (by decide +kernel),H0,es,ds',Θ',i,e,d,h,u,eC,rfl,W',he,hd',dk.lu,dk.w,gok,fun H3 Θ3 W3=>?_⟩
    exact ⟨_,Θ3,_,rfl,W3,st.next he hd hd'⟩
   ·obtain ⟨o5,Θ',ds',rfl,W',st⟩:=hh
    rw [List.length_map] at st
    walk_at "nx"
    refine q1 hnil H' Θ' ?_
    rw [← step_zip st W.len W'.len]
    exact W'
end
def numX (xs:List (Str × Rl)):List (Nat × Str × Rl):=xs.zipIdx.map fun p=>(p.2,p.1)
def stepE (n:Nat):LogE→Rl→WD→WD
 | .tie _ x y=>tieF x y (n + 1)
 | .deed _ h u _=>fun r d=>goP r d h u
def stT (xs:List (Nat × Str × Rl)) (log:List LogE):Nat→List WD
 | 0=>xs.map fun _=>wd0
 | n + 1=>match log[n]? with
  | some e=>stepAll (stepE n e) xs (stT xs log n)
  | none=>stT xs log n
def brkT (xs:List (Nat × Str × Rl)) (log:List LogE) (n:Nat):List Bk:=
 match log[n]? with
 | some (.deed _ h u _)=>allB xs (stT xs log n) h u
 | _=>[]
def rowL (log:List LogE) (st n:Nat) (hs:List Int):List Str:=((log.take (n + 1)).drop st).filterMap (rowT hs)
structure BrAt (H H':Hp) (t:Addr) (n:Nat) (nm:Str) (hs:List Int) (row:List Str):Prop where
 ex:∃ hl rl,H' t = some (.tup [.int (n:Int),.str nm,.ref hl,.ref rl])∧H' hl = some (.lst (hs.map V.int))∧H' rl = some (.lst (row.map V.str))∧H hl = none∧H rl = none∧hl ≠ rl
structure WSt (C:Addr) (H0 H:Hp) (es:List WE) (ds:List WD) (Θ : Addr→Option Role) (a:Addr) (n:Nat):Prop where
 W:WAt H0 H es ds Θ
 a:H0 a = some (.lst (es.map fun e=>V.ref e.w))
 C:∀ e ∈ es,e.C = C
 kp:∀ (k:Nat) e d,es[k]? = some e→ds[k]? = some d→KpW e.r n d
 el:es.length ≤ 20
 pl:∀ (k:Nat) e,es[k]? = some e→e.pl = k
def spByX (C:Addr):Sp:=fun vs H Q _=>∃ (H0:Hp) (es:List WE) (ds:List WD) (Θ : Addr→Option Role) (a lg:Addr) (bs:List Addr) (log:List LogE) (n:Nat),vs = [.ref a,.ref lg,.int (n:Int)]∧WSt C H0 H es ds Θ a n∧H0 lg = some (.lst (bs.map V.ref))∧Paired (EntAt H0) bs log∧log.length ≤ 90∧n < log.length∧(∀ l x u y,LogE.deed l x u y ∈ log→u.length ≤ 1000)∧
 (∀ l x y,log[n]? = some (.tie l x y)→∀ (H':Hp) (Θ':Addr→Option Role),WAt H0 H' es (stepAll (tieF x y (n + 1)) (es.map exW) ds) Θ'→Q .non H')∧
 (∀ l h u y,log[n]? = some (.deed l h u y)→(∀ (k:Nat) e d,es[k]? = some e→ds[k]? = some d→RowsNd e.r d h u)∧(∀ m ∈ allB (es.map exW) ds h u,HsOk m.hs)∧
  (allB (es.map exW) ds h u = []→∀ (H':Hp) (Θ':Addr→Option Role),WAt H0 H' es (stepAll (fun r d=>goP r d h u) (es.map exW) ds) Θ'→Q .non H')∧
  ∀ m ∈ allB (es.map exW) ds h u,(∀ x ∈ allB (es.map exW) ds h u,ltBk x m = false)→∀ (t:Addr) (H':Hp),Same H H'→BrAt H H' t n m.nm m.hs (rowL log m.st n m.hs)→Q (.ref t) H')
theorem paired_take {α β : Type} {R:α→β→Prop}:∀ {xs:List α} {ys:List β},Paired R xs ys→∀ n,Paired R (xs.take n) (ys.take n)
 | _,_,.nil,n=>by rw [List.take_nil,List.take_nil]; exact .nil
 | _,_,.cons a t,0=>.nil
 | _,_,.cons a t,n + 1=>.cons a (paired_take t n)
theorem paired_drop {α β : Type} {R:α→β→Prop}:∀ {xs:List α} {ys:List β},Paired R xs ys→∀ n,Paired R (xs.drop n) (ys.drop n)
 | _,_,.nil,n=>by rw [List.drop_nil,List.drop_nil]; exact .nil
 | _,_,.cons a t,0=>.cons a t
 | _,_,.cons a t,n + 1=>paired_drop t n
theorem cutV_mid (xs:List V) (i j:Nat):cutV xs (some (i:Int)) (some (j:Int)) = (xs.take j).drop i:=by
 unfold cutV
 rw [HT.sIx_nat,HT.sIx_nat,List.drop_take]
 rcases Nat.le_total i xs.length with h | h
 ·rw [Nat.min_eq_left h,List.take_eq_take_min (i:=j - i),List.length_drop]
  congr 1
  omega
 ·rw [Nat.min_eq_right h,List.drop_eq_nil_of_le (Nat.le_refl _),List.drop_eq_nil_of_le h,List.take_nil,List.take_nil]
section
variable {CW:Addr}
theorem ok_byX (D:DefAt K mg "breach_by" s_breach_by) (z_len:mg "len" = none) (z_list:mg "list" = none) (c_all_begin_tie:Cal P w K mg base 2 "all_begin_tie" ["watches", "one", "other", "start"] (spAllX CW)) (c_broken_or_gone_on:Cal P w K mg base 4 "broken_or_gone_on" ["watches", "at", "handle", "word"] (spBrkX CW)) (c_row_of:Cal P w K mg base 3 "row_of" ["entries", "handles"] spRowOf):Cal P w K mg base 5 "breach_by" ["watches", "log", "at"] (spByX CW):=by
 refine D.cal (k:=4) sc_breach_by (fun _ _ _ _ _ _ us hl=>match us,hl with | [_,_,_],_=>rfl) (fun vs H Q E h=>by obtain ⟨_,_,_,_,_,_,_,_,_,rfl,_⟩:=h; rfl) (fun f cdv A outer s H vs Q _ hr h=>?_)
 obtain ⟨H0,es,ds,Θ,a,lg,bs,log,n,rfl,S,hlg,pl,hll,hnl,hws,qt,qd⟩:=h
 have W:=S.W
 have hlen:=paired_lenW pl
 have hnb:n < bs.length:=by omega
 have hb:=List.getElem?_eq_getElem hnb
 have hle:=List.getElem?_eq_getElem hnl
 have eb:H0 bs[n] = some (.tup (entV log[n])):=paired_get (F:=EntAt H0) pl hb hle
 generalize bs[n] = b at hb eb
 generalize log[n] = le at hle eb
 refine ⟨_,(pss_cons (ps_let 3 sc_breach_by.nd (pe_ix (ix_K K) (pv 1 (hv:=vz1v)) (pv 2 (hv:=vz1w)) (fun _ _=>rfl)) (hx:=lzn))
   (pss_cons (ps_if (pt_cmpR op_eqA (pe_blt (call_lenK K) z_len bt_len (pa_cons (pv 3 (hv:=vz1x)) pa_nil) (hg:=gzb)) pe_int (nomark _)) (pss_cons (ps_expr (pe_cal c_all_begin_tie hr (pa_cons (pv 0 (hv:=vz1u)) (pa_cons (pe_ix (ix_K K) (pv 3 (hv:=vz1x)) pe_int (fun _ _=>rfl)) (pa_cons (pe_ix (ix_K K) (pv 3 (hv:=vz1x)) pe_int (fun _ _=>rfl)) (pa_cons (pe_op op_addA (pv 2 (hv:=vz1w)) pe_int) pa_nil)))) (hg:=gz9)))
   (pss_one (ps_ret pe_non))) pss_nil)
   (pss_cons (ps_let 4 sc_breach_by.nd (pe_cal c_broken_or_gone_on hr (pa_cons (pv 0 (hv:=vz1u)) (pa_cons pe_non (pa_cons (pe_ix (ix_K K) (pv 3 (hv:=vz1x)) pe_int (fun _ _=>rfl)) (pa_cons (pe_ix (ix_K K) (pv 3 (hv:=vz1x)) pe_int (fun _ _=>rfl)) pa_nil)))) (hg:=gza)) (hx:=lzo))
   (pss_cons (ps_if (pt_cmpR op_isNA (pv 4 (hv:=vz1y)) pe_non (nomark _)) (pss_one (ps_ret pe_non)) pss_nil)
   (pss_cons (ps_let 5 sc_breach_by.nd (pe_ix (ix_K K) (pv 4 (hv:=vz1y)) pe_int (fun _ _=>rfl)) (hx:=lzp))
   (pss_cons (ps_let 6 sc_breach_by.nd (pe_ix (ix_K K) (pv 4 (hv:=vz1y)) pe_int (fun _ _=>rfl)) (hx:=lzq))
   (pss_one (ps_ret (pe_tup (pa_cons (pv 2 (hv:=vz1w)) (pa_cons (pe_ix (ix_K K) (pv 4 (hv:=vz1y)) pe_int (fun _ _=>rfl)) (pa_cons (pe_bty (call_listA K) z_list bt_list (pa_cons (pv 6 (hv:=vz20)) pa_nil) (hg:=gzc)) (pa_cons (pe_cal c_row_of hr (pa_cons (pe_slice (sl_listK K) (pv 1 (hv:=vz1v)) (po_some (pv 5 (hv:=vz1z))) (po_some (pe_op op_addA (pv 2 (hv:=vz1w)) pe_int))) (pa_cons (pv 6 (hv:=vz20)) pa_nil)) (hg:=gzd)) pa_nil))))))))))))),?_⟩
 walk_at "rd1"
 refine ⟨_,_,.inl (SqL.of (W.sm _ _ hlg)),atI_nat (by rw [List.getElem?_map,hb]; rfl),?_⟩
 walk_at "nx"
 have eb':=W.sm _ _ eb
 refine ⟨_,.inr (SqT.of eb'),?_⟩
 walk_at "rd1"
 cases le with
 | tie l x y=>
  refine ite2 (fun _=>?_) (fun c=>absurd rfl c)
  refine ⟨_,_,.inr (SqT.of eb'),rfl,_,_,.inr (SqT.of eb'),rfl,?_⟩
  walk_at "rd1"
  refine ⟨H0,es,ds,Θ,a,n,x,y,n + 1,by simp,W,S.a,S.C,by omega,S.kp,fun H' Θ' W'=>?_⟩
  walk_at "nx"
  exact qt l x y hle H' Θ' W'
 | deed l x u y=>
  refine ite2 (fun c=>absurd c (by simp [entV])) (fun _=>?_)
  obtain ⟨qn,qh,q1,q2⟩:=qd l x u y hle
  walk_at "nx"
  refine ⟨_,_,.inr (SqT.of eb'),rfl,_,_,.inr (SqT.of eb'),rfl,?_⟩
  refine ⟨H0,es,ds,Θ,a,n,x,u,rfl,W,S.a,S.C,by omega,hws _ _ _ _ (List.mem_of_getElem? hle),fun k e d h1 h2=>⟨S.kp k e d h1 h2,qn k e d h1 h2⟩,S.el,S.pl,fun hnil H' Θ' W'=>?_,fun m hm hmin t c H1 s1 et ec=>?_⟩
  ·walk_at "nx"
   exact q1 hnil H' Θ' W'
  ·walk_at "nx"
   rw [if_neg (fun z=>nomatch z)]
   walk_at "nx"
   refine ⟨_,_,.inr (SqT.of et),rfl,?_⟩
   walk_at "nx"
   refine ⟨_,_,.inr (SqT.of et),rfl,?_⟩
   walk_at "nx"
   refine ⟨_,_,.inr (SqT.of et),rfl,?_⟩
   walk_at "rd1"
   refine ⟨_,.inr (SqT.of ec),fun hl hhl=>?_⟩
   have s2:=same_new hhl (.lst (m.hs.map V.int))
   have ehl:upd H1 hl (.lst (m.hs.map V.int)) hl = some (.lst (m.hs.map V.int)):=upd_same
   generalize upd H1 hl (.lst (m.hs.map V.int)) = H2 at s2 ehl ⊢
   have sm2:Same H0 H2:=(W.sm.trans s1).trans s2
   walk_at "rd1"
   refine ⟨_,SqL.of (sm2 _ _ hlg),fun sp hsp=>?_⟩
   have ecut:cutV (bs.map V.ref) (some (m.st:Int)) (some ((n:Int) + 1)) = ((bs.take (n + 1)).drop m.st).map V.ref:=by
    rw [show ((n:Int) + 1) = ((n + 1:Nat):Int) by simp,cutV_mid,List.map_drop,List.map_take]
   rw [ecut]
   have s3:=same_new hsp (.lst (((bs.take (n + 1)).drop m.st).map V.ref))
   have esp:upd H2 sp (.lst (((bs.take (n + 1)).drop m.st).map V.ref)) sp = some (.lst (((bs.take (n + 1)).drop m.st).map V.ref)):=upd_same
   generalize upd H2 sp (.lst (((bs.take (n + 1)).drop m.st).map V.ref)) = H3 at s3 esp ⊢
   have sm3:=sm2.trans s3
   have hml:∀ e,e ∈ (log.take (n + 1)).drop m.st→e ∈ log:=fun e he=>List.mem_of_mem_take (List.mem_of_mem_drop he)
   refine ⟨sp,c,_,(log.take (n + 1)).drop m.st,m.hs,rfl,esp,paired_imp (fun b x z=>sm3 _ _ z) (paired_drop (paired_take pl _) _),s3 _ _ (s2 _ _ ec),qh m hm,by rw [List.length_drop,List.length_take]; omega,fun l x u y he=>hws l x u y (hml _ he),fun rl H4 s4 hrl erl=>?_⟩
   refine ⟨by decide,fun tp htp=>?_⟩
   have s5:=same_new htp (.tup [.int (n:Int),.str m.nm,.ref hl,.ref rl])
   have s14:=(s2.trans s3).trans s4
   refine q2 m hm hmin tp _ ((s1.trans s14).trans s5) ⟨hl,rl,upd_same,s5 _ _ (s4 _ _ (s3 _ _ ehl)),s5 _ _ erl,s1.free hhl,((s1.trans s2).trans s3).free hrl,fun z=>?_⟩
   rw [← z,s3 _ _ ehl] at hrl; cases hrl
end
def spInX (C:Addr):Sp:=fun vs H Q _=>∃ (b lg:Addr) (bs ls:List Addr) (xs:List (Str × Rl)) (log:List LogE),vs = [.ref b,.ref lg]∧H b = some (.lst (bs.map V.ref))∧Paired (NmAt H) bs xs∧xs.length ≤ 20∧(∀ x ∈ xs,RlOk x.2∧x.2.ws.Nodup)∧H lg = some (.lst (ls.map V.ref))∧Paired (EntAt H) ls log∧log.length ≤ 90∧(∀ l x u y,LogE.deed l x u y ∈ log→u.length ≤ 1000)∧
 (∀ (n:Nat) l h u y,log[n]? = some (.deed l h u y)→(∀ i,i < n→brkT (numX xs) log i = [])→(∀ (k:Nat) x d,xs[k]? = some x→(stT (numX xs) log n)[k]? = some d→RowsNd x.2 d h u)∧∀ m ∈ brkT (numX xs) log n,HsOk m.hs)∧
 ((∀ i,i < log.length→brkT (numX xs) log i = [])→∀ H',Same H H'→Q .non H')∧
 ∀ n m,n < log.length→(∀ i,i < n→brkT (numX xs) log i = [])→m ∈ brkT (numX xs) log n→(∀ x ∈ brkT (numX xs) log n,ltBk x m = false)→∀ (t:Addr) (H':Hp),Same H H'→BrAt H H' t n m.nm m.hs (rowL log m.st n m.hs)→Q (.ref t) H'
theorem numX_at {xs:List (Str × Rl)} {k:Nat}:(numX xs)[k]? = (xs[k]?).map fun x=>(k,x):=by
 unfold numX
 rw [List.getElem?_map,List.getElem?_zipIdx]
 cases xs[k]? with
 | none=>rfl
 | some x=>simp
theorem stT_len (xs:List (Nat × Str × Rl)) (log:List LogE):∀ n,(stT xs log n).length = xs.length
 | 0=>by unfold stT; rw [List.length_map]
 | n + 1=>by
  unfold stT
  have:=stT_len xs log n
  split
  ·unfold stepAll; rw [List.length_zipWith]; omega
  ·exact this
section
variable {CW:Addr}
theorem BrAt.under {H H1 H':Hp} {t:Addr} {n:Nat} {nm:Str} {hs:List Int} {row:List Str} (h:BrAt H1 H' t n nm hs row) (s:Same H H1):BrAt H H' t n nm hs row:=by
 obtain ⟨hl,rl,h1,h2,h3,h4,h5,h6⟩:=h.ex
 exact ⟨hl,rl,h1,h2,h3,s.free h4,s.free h5,h6⟩
theorem ok_inX (D:DefAt K mg "breach_in" s_breach_in) (z_len:mg "len" = none) (z_range:mg "range" = none) (c_watches_of:Cal P w K mg base 4 "watches_of" ["rules"] (spWatches CW)) (c_breach_by:Cal P w K mg base 5 "breach_by" ["watches", "log", "at"] (spByX CW)):Cal P w K mg base 6 "breach_in" ["rules", "log"] (spInX CW):=by
 refine D.cal (k:=5) sc_breach_in (fun _ _ _ _ _ _ us hl=>match us,hl with | [_,_],_=>rfl) (fun vs H Q E h=>by obtain ⟨_,_,_,_,_,_,rfl,_⟩:=h; rfl) (fun f cdv A outer s H vs Q _ hr h=>?_)
 obtain ⟨b,lg,bs,ls,xs,log,rfl,eb,pb,hxl,hok,elg,pl,hll,hws,hnd,qn,qb⟩:=h
 have hlen:=paired_lenW pl
 refine ⟨_,(pss_cons (ps_let 2 sc_breach_in.nd (pe_cal c_watches_of hr (pa_cons (pv 0 (hv:=vz21)) pa_nil) (hg:=gzh)) (hx:=lzr))
   (pss_cons (ps_for PassesOwn.never rfl (pi_range1 gzg z_range (pa_cons (pe_blt (call_lenK K) z_len bt_len (pa_cons (pv 1 (hv:=vz22)) pa_nil) (hg:=gzf)) pa_nil)) (pg_let 3 sc_breach_in.nd (hx:=lzs)) (pss_cons (ps_let 4 sc_breach_in.nd (pe_cal c_breach_by hr (pa_cons (pv 2 (hv:=vz23)) (pa_cons (pv 1 (hv:=vz22)) (pa_cons (pv 3 (hv:=vz24)) pa_nil))) (hg:=gze)) (hx:=lzt))
   (pss_one (ps_if (pt_cmpR op_notNA (pv 4 (hv:=vz25)) pe_non (nomark _)) (pss_one (ps_ret (pv 4 (hv:=vz25)))) pss_nil))))
   (pss_one (ps_ret pe_non)))),?_⟩
 walk_at "rd1"
 refine ⟨b,bs,xs,rfl,eb,pb,by omega,hok,fun a es H1 s1 ha ea M=>?_⟩
 obtain ⟨W,kp,sH⟩:=M.start
 have s0:=sH s1
 generalize base0 es H1 = H0 at W kp s0
 have hat:∀ (k:Nat) e,es[k]? = some e→∃ x,xs[k]? = some x∧MadeW H H1 CW e k x:=fun k e he=>by
  have hk:=(List.getElem?_eq_some_iff.mp he).1
  have hx:=List.getElem?_eq_getElem (l:=xs) (i:=k) (by rw [← M.len]; exact hk)
  exact ⟨_,hx,M.at' k _ _ he hx⟩
 have hC:∀ e ∈ es,e.C = CW:=fun e he=>by
  obtain ⟨k,hk,e1⟩:=List.mem_iff_getElem.mp he
  obtain ⟨x,_,m⟩:=hat k e (by rw [List.getElem?_eq_getElem hk,e1])
  exact m.C
 have hX:es.map exW = numX xs:=by
  apply List.ext_getElem?
  intro k
  rw [numX_at,List.getElem?_map]
  cases e:es[k]? with
  | none=>
   have:=List.getElem?_eq_none_iff.mp e
   rw [List.getElem?_eq_none (by rw [← M.len]; exact this)]; rfl
  | some e'=>
   obtain ⟨x,hx,m⟩:=hat k e' e
   rw [hx]
   show some (exW e') = some (k,x)
   unfold exW
   rw [m.pl,m.nm,m.r]
 have hpl:∀ (k:Nat) e,es[k]? = some e→e.pl = k:=fun k e he=>(hat k e he).choose_spec.2.pl
 walk_at "nx"
 refine ⟨_,.inl (SqL.of (s1 _ _ elg)),?_⟩
 have hz:(ls.map V.ref).length = ls.length:=List.length_map _
 refine ⟨by omega,by rw [hz]; omega,?_⟩
 rw [hz]
 refine forW_range (fun i σ H'=>∃ (o3 o4:Option V) (Θ':Addr→Option Role),σ = [some (.ref b),some (.ref lg),some (.ref a),o3,o4]∧WAt H0 H' es (stT (numX xs) log i) Θ'∧(∀ (k:Nat) e d,es[k]? = some e→(stT (numX xs) log i)[k]? = some d→KpW e.r i d)∧∀ j,j < i→brkT (numX xs) log j = [])
  ⟨_,_,role0 0 es,rfl,?_,fun k e d h1 h2=>?_,fun j hj=>absurd hj (Nat.not_lt_zero _)⟩ (fun i σ H' hi hh=>?_) (fun σ H' hh=>?_)
 ·have:stT (numX xs) log 0 = es.map fun _=>wd0:=by
   show (numX xs).map _ = _
   rw [← hX,List.map_map]; rfl
  rw [this]; exact W
 ·have h3:(stT (numX xs) log 0)[k]? = some d:=h2
  unfold stT at h3
  rw [List.getElem?_map] at h3
  cases e1:(numX xs)[k]? with
  | none=>rw [e1] at h3; cases h3
  | some y=>rw [e1] at h3; cases h3; exact KpW.start e.r
 ·obtain ⟨o3,o4,Θ',rfl,W',kp',hbr⟩:=hh
  have hi':i < ls.length:=by omega
  have hil:i < log.length:=by omega
  have hle:=List.getElem?_eq_getElem hil
  generalize log[i] = le at hle
  have rok:∀ {k:Nat} {e:WE},es[k]? = some e→RlOk e.r:=fun he=>(W.stat _ (List.mem_of_getElem? he)).ok
  walk_at "rd1"
  refine ⟨H0,es,stT (numX xs) log i,Θ',a,lg,ls,log,i,by simp,⟨W',kp _ _ ea (fun z=>nomatch z),hC,kp',by rw [M.len]; exact hxl,hpl⟩,s0 _ _ elg,paired_imp (fun b x z=>s0 _ _ z) pl,hll,hil,hws,fun l x y he H2 Θ2 W2=>?_,fun l h u y he=>?_⟩
  ·walk_at "nx"
   rw [hX] at W2
   have e1:stT (numX xs) log (i + 1) = stepAll (tieF x y (i + 1)) (numX xs) (stT (numX xs) log i):=by
    show (match log[i]? with | some e=>_ | none=>_) = _
    rw [he]; rfl
   refine ⟨_,_,Θ2,rfl,by rw [e1]; exact W2,fun k e d h1 h2=>?_,fun j hj=>?_⟩
   ·rw [e1] at h2
    unfold stepAll at h2
    rw [List.getElem?_zipWith,← hX,List.getElem?_map,h1] at h2
    cases e2:(stT (numX xs) log i)[k]? with
    | none=>rw [hX,e2] at h2; cases h2
    | some d0=>
     rw [hX,e2] at h2
     cases h2
     have k0:=kp' k e d0 h1 e2
     show KpW e.r (i + 1) (tieF x y (i + 1) e.r d0)
     unfold tieF
     split
     ·exact k0.up
     ·exact k0.tie (rok h1).n0 x y (i + 1)
   ·rcases Nat.lt_or_ge j i with z | z
    ·exact hbr j z
    ·rw [show j = i by omega]
     unfold brkT
     rw [he]
  ·have ebk:brkT (numX xs) log i = allB (numX xs) (stT (numX xs) log i) h u:=by unfold brkT; rw [he]
   obtain ⟨nd,hh⟩:=hnd i l h u y he hbr
   rw [ebk] at hh
   have nd':∀ (k:Nat) e d,es[k]? = some e→(stT (numX xs) log i)[k]? = some d→RowsNd e.r d h u:=fun k e d h1 h2=>by
    obtain ⟨x,hx,m⟩:=hat k e h1
    rw [m.r]; exact nd k x d hx h2
   rw [hX]
   refine ⟨nd',hh,fun hnil H2 Θ2 W2=>?_,fun m hm hmin t H2 s2 br=>?_⟩
   ·walk_at "nx"
    have e1:stT (numX xs) log (i + 1) = stepAll (fun r d=>goP r d h u) (numX xs) (stT (numX xs) log i):=by
     show (match log[i]? with | some e=>_ | none=>_) = _
     rw [he]; rfl
    refine ⟨_,_,Θ2,rfl,by rw [e1]; exact W2,fun k e d h1 h2=>?_,fun j hj=>?_⟩
    ·rw [e1] at h2
     unfold stepAll at h2
     rw [List.getElem?_zipWith,← hX,List.getElem?_map,h1] at h2
     cases e2:(stT (numX xs) log i)[k]? with
     | none=>rw [hX,e2] at h2; cases h2
     | some d0=>
      rw [hX,e2] at h2
      cases h2
      rw [← hX] at hnil
      exact ((kp' k e d0 h1 e2).go2 (rok h1) (by omega) (nd' k e d0 h1 e2) (all_nil hnil h1 (by rw [hX]; exact e2))).2
    ·rcases Nat.lt_or_ge j i with z | z
     ·exact hbr j z
     ·rw [show j = i by omega,ebk]; exact hnil
   ·walk_at "nx"
    rw [if_pos (by rw [decide_eq_false (fun z=>nomatch z)]; rfl)]
    rw [← ebk] at hm hmin
    exact qb i m hil hbr hm hmin t H2 ((s0.trans W'.sm).trans s2) (br.under (s0.trans W'.sm))
 ·obtain ⟨o3,o4,Θ',rfl,W',_,hbr⟩:=hh
  walk_at "nx"
  exact qn (fun i hi=>hbr i (by omega)) H' (s0.trans W'.sm)
end
def goR (r:Rl) (q:Nat) (u:Str):Option Nat:=if u ∈ r.ws then (colOf r (r.ws.idxOf u)).getD q none else some q
def aftR (r:Rl):Option Nat→List Str→Option Nat
 | o,[]=>o
 | none,_ :: _=>none
 | some q,u :: us=>aftR r (goR r q u) us
theorem aftR_snoc (r:Rl) (u:Str):∀ (us:List Str) (o:Option Nat),aftR r o (us ++ [u]) = (aftR r o us).bind fun q=>goR r q u
 | [],none=>rfl
 | [],some q=>rfl
 | _ :: _,none=>rfl
 | v :: us,some q=>by
  rw [List.cons_append]
  show aftR r (goR r q v) (us ++ [u]) = (aftR r (goR r q v) us).bind _
  exact aftR_snoc r u us _
def rowH (h:Int) (log:List LogE):List Str:=log.filterMap (rowT [h])
theorem rowT_one (h l x:Int) (u:Str) (y:Int):rowT [h] (.deed l x u y) = if x = h then some u else none:=by
 show (if x ∈ [h] then some (tirT [h] x u) else none) = _
 have e:tirT [h] x u = u:=by unfold tirT; rw [if_pos (by rfl)]; unfold sdT; rw [if_pos rfl]
 rw [e]
 by_cases z:x = h
 ·rw [if_pos (by simp [z]),if_pos z]
 ·rw [if_neg (by simp [z]),if_neg z]
theorem rowH_snoc {h:Int} {log:List LogE} {n:Nat} {e:LogE} (he:log[n]? = some e):rowH h (log.take (n + 1)) = rowH h (log.take n) ++ (rowT [h] e).toList:=by
 unfold rowH
 rw [List.take_add_one,he,List.filterMap_append]
 show _ ++ List.filterMap (rowT [h]) [e] = _
 rw [List.filterMap_cons]
 cases rowT [h] e <;> rfl
def One (r:Rl) (d:WD) (log:List LogE) (n:Nat):Prop:=∀ h,∃ q,aftR r (some 0) (rowH h (log.take n)) = some q∧startsP d [h] = [(q,0)]
theorem One.start {r:Rl} {log:List LogE}:One r wd0 log 0:=fun h=>⟨0,rfl,rfl⟩
theorem rows_one {r:Rl} {d:WD} {h:Int} {u:Str} (hs:r.s = 1):rowsP r d h u = if u ∈ r.ws then [([h],u)] else []:=by
 unfold rowsP sidesOf
 rw [if_pos hs]
 have e:sdT 0 u = u:=by unfold sdT; rw [if_pos rfl]
 simp [e,withP]
theorem rows_nd1 {r:Rl} {d:WD} {h:Int} {u:Str} (hs:r.s = 1):RowsNd r d h u:=by
 unfold RowsNd
 rw [rows_one hs]
 split <;> simp
theorem brk_one {r:Rl} {d:WD} {log:List LogE} {n:Nat} {l h:Int} {u:Str} {y:Int} (hs:r.s = 1) (o:One r d log n) (he:log[n]? = some (.deed l h u y)):brokenP r d h u = if aftR r (some 0) (rowH h (log.take (n + 1))) = none then [(0,[h])] else []:=by
 obtain ⟨q,h1,h2⟩:=o h
 rw [rowH_snoc he,rowT_one,if_pos rfl,Option.toList_some,aftR_snoc,h1]
 show _ = if goR r q u = none then _ else _
 unfold brokenP goR
 rw [rows_one hs]
 by_cases hu:u ∈ r.ws
 ·rw [if_pos hu,if_pos hu]
  show [([h],u)].flatMap (brk1 r d) = _
  rw [List.flatMap_singleton]
  unfold brk1
  show List.map _ (List.filter _ (startsP d [h])) = _
  rw [h2,List.filter_cons]
  by_cases e:(colOf r (r.ws.idxOf u)).getD q none = none
  ·rw [if_pos (decide_eq_true e),if_pos e]; rfl
  ·rw [if_neg (by simpa using e),if_neg e]; rfl
 ·rw [if_neg hu,if_neg hu,if_neg (fun z=>nomatch z)]; rfl
theorem One.tie {r:Rl} {d:WD} {log:List LogE} {n:Nat} {l a b:Int} (hs:r.s = 1) (o:One r d log n) (he:log[n]? = some (.tie l a b)):One r (tieF a b (n + 1) r d) log (n + 1):=fun h=>by
 obtain ⟨q,h1,h2⟩:=o h
 refine ⟨q,?_,?_⟩
 ·rw [rowH_snoc he]
  show aftR r (some 0) (_ ++ []) = _
  rw [List.append_nil]; exact h1
 ·unfold tieF; rw [if_pos hs]; exact h2
theorem One.deed {r:Rl} {d:WD} {log:List LogE} {n:Nat} {l x:Int} {u:Str} {y:Int} (hs:r.s = 1) (o:One r d log n) (he:log[n]? = some (.deed l x u y)) (hb:brokenP r d x u = []):One r (goP r d x u) log (n + 1):=fun h=>by
 obtain ⟨q,h1,h2⟩:=o h
 have hb':=hb
 rw [brk_one hs o he] at hb'
 rw [rowH_snoc he,rowT_one]
 unfold goP
 rw [rows_one hs]
 by_cases e:x = h
 ·subst e
  rw [if_pos rfl,Option.toList_some,aftR_snoc,h1]
  have hk:(aftR r (some 0) (rowH x (log.take (n + 1)))) ≠ none:=fun z=>by rw [if_pos z] at hb'; cases hb'
  rw [rowH_snoc he,rowT_one,if_pos rfl,Option.toList_some,aftR_snoc,h1] at hk
  have hk':goR r q u ≠ none:=hk
  obtain ⟨j,ej⟩:=Option.ne_none_iff_exists'.mp hk'
  refine ⟨j,ej,?_⟩
  unfold goR at ej
  by_cases hu:u ∈ r.ws
  ·rw [if_pos hu] at ej ⊢
   show startsP (goStep r d ([x],u)) [x] = _
   unfold startsP goStep
   show (getP (putP d.S [x] (behP (colOf r (r.ws.idxOf u)) (startsP d [x]))) [x]).getD _ = _
   rw [getP_put,if_pos rfl,h2]
   show behStep _ [] (q,0) = _
   unfold behStep
   show (match (colOf r (r.ws.idxOf u)).getD q none with | none=>_ | some j=>_) = _
   rw [ej]
   rfl
  ·rw [if_neg hu] at ej ⊢
   cases ej
   exact h2
 ·rw [if_neg e]
  refine ⟨q,by rw [Option.toList_none,List.append_nil]; exact h1,?_⟩
  by_cases hu:u ∈ r.ws
  ·rw [if_pos hu]
   show startsP (goStep r d ([x],u)) [h] = _
   rw [starts_put (fun z=>e (List.cons.inj z).1.symm)]; exact h2
  ·rw [if_neg hu]; exact h2
def brkR1 (r:Rl) (row:List Str):Bool:=(aftR r (some 0) row).isNone
theorem fs_none {α : Type} {f:Nat→Option α} {N:Nat} (h:∀ i,i < N→f i = none):(List.range N).findSome? f = none:=by
 rw [List.findSome?_eq_none_iff]
 exact fun i hi=>h i (List.mem_range.mp hi)
theorem fs_some {α : Type} {f:Nat→Option α} {n:Nat} {v:α} (h:∀ i,i < n→f i = none) (hv:f n = some v):∀ {N:Nat},n < N→(List.range N).findSome? f = some v
 | 0,hn=>absurd hn (Nat.not_lt_zero _)
 | N + 1,hn=>by
  rw [List.range_succ,List.findSome?_append]
  rcases Nat.lt_or_ge n N with z | z
  ·rw [fs_some h hv z]; rfl
  ·have:n = N:=by omega
   subst this
   rw [fs_none h]
   show ([n].findSome? f) = _
   rw [List.findSome?_cons,hv]
def Tied (log:List LogE) (n:Nat) (a b:Int) (t:Nat):Prop:=t < n∧∃ l,log[t]? = some (.tie l a b)
def rowP (log:List LogE) (n:Nat) (a b:Int) (t:Nat):List Str:=((log.take n).drop (t + 1)).filterMap (rowT [a,b])
def roomP (r:Rl) (log:List LogE) (n:Nat) (a b:Int) (t:Nat):Option Nat:=aftR r (some 0) (rowP log n a b t)
theorem rowP_snoc {log:List LogE} {n t:Nat} {a b:Int} {e:LogE} (he:log[n]? = some e) (ht:t < n):rowP log (n + 1) a b t = rowP log n a b t ++ (rowT [a,b] e).toList:=by
 have hn:=(List.getElem?_eq_some_iff.mp he).1
 unfold rowP
 rw [List.take_add_one,he,List.drop_append_of_le_length (by rw [List.length_take]; omega),List.filterMap_append]
 show _ ++ List.filterMap (rowT [a,b]) [e] = _
 rw [List.filterMap_cons]
 cases rowT [a,b] e <;> rfl
theorem rowP_end {log:List LogE} {n:Nat} {a b:Int}:rowP log (n + 1) a b n = []:=by
 unfold rowP
 rw [List.drop_eq_nil_of_le (by rw [List.length_take]; omega)]; rfl
theorem beh_dn {c:List (Option Nat)}:∀ {rs acc:Rs} {j s:Nat},(j,s) ∈ rs.foldl (behStep c) acc→(∃ q,(q,s) ∈ rs∧c.getD q none = some j)∨(j,s) ∈ acc
 | [],_,_,_,h=>.inr h
 | p :: rs,acc,j,s,h=>by
  rcases beh_dn (rs:=rs) h with ⟨q,h1,h2⟩ | h
  ·exact .inl ⟨q,List.mem_cons_of_mem _ h1,h2⟩
  ·unfold behStep at h
   split at h
   ·exact .inr h
   ·rename_i i hi
    split at h
    ·rcases putP_mem h with e | ⟨h,_⟩
     ·cases e; exact .inl ⟨p.1,List.mem_cons_self,hi⟩
     ·exact .inr h
    ·exact .inr h
theorem beh_less {c:List (Option Nat)} {acc:Rs} {p:Nat × Nat} {j s:Nat} (h:getP acc j = some s):∃ s',s' ≤ s∧getP (behStep c acc p) j = some s':=by
 unfold behStep
 split
 ·exact ⟨s,Nat.le_refl _,h⟩
 ·rename_i i hi
  split
  ·rename_i hle
   rw [getP_put]
   by_cases e:j = i
   ·rw [if_pos e]
    rw [← e,h] at hle
    exact ⟨_,hle,rfl⟩
   ·rw [if_neg e]; exact ⟨s,Nat.le_refl _,h⟩
  ·exact ⟨s,Nat.le_refl _,h⟩
theorem beh_keep {c:List (Option Nat)}:∀ {rs acc:Rs} {j s:Nat},getP acc j = some s→∃ s',s' ≤ s∧getP (rs.foldl (behStep c) acc) j = some s'
 | [],_,_,s,h=>⟨s,Nat.le_refl _,h⟩
 | p :: rs,acc,j,s,h=>by
  obtain ⟨s1,h1,h2⟩:=beh_less (c:=c) (p:=p) h
  obtain ⟨s2,h3,h4⟩:=beh_keep (rs:=rs) h2
  exact ⟨s2,by omega,h4⟩
theorem beh_up {c:List (Option Nat)}:∀ {rs acc:Rs} {q j s:Nat},(q,s) ∈ rs→c.getD q none = some j→∃ s',s' ≤ s∧getP (rs.foldl (behStep c) acc) j = some s'
 | [],_,_,_,_,h,_=>nomatch h
 | p :: rs,acc,q,j,s,h,hc=>by
  rcases List.mem_cons.mp h with e | h
  ·have e1:p = (q,s):=e.symm
   have:∃ s',s' ≤ s∧getP (behStep c acc p) j = some s':=by
    rw [e1]
    unfold behStep
    show ∃ s',s' ≤ s∧getP (match c.getD q none with | none=>_ | some j=>_) j = _
    rw [hc]
    show ∃ s',s' ≤ s∧getP (if s ≤ (getP acc j).getD s then putP acc j s else acc) j = some s'
    split
    ·rw [getP_put,if_pos rfl]; exact ⟨s,Nat.le_refl _,rfl⟩
    ·rename_i hn
     cases g:getP acc j with
     | none=>rw [g] at hn; exact absurd (Nat.le_refl _) hn
     | some s1=>rw [g] at hn; exact ⟨s1,Nat.le_of_lt (Nat.lt_of_not_le hn),rfl⟩
   obtain ⟨s1,h1,h2⟩:=this
   obtain ⟨s2,h3,h4⟩:=beh_keep (c:=c) (rs:=rs) h2
   exact ⟨s2,by omega,h4⟩
  ·exact beh_up (rs:=rs) h hc
theorem fold_T {r:Rl}:∀ {rows:List (List Int × Str)} {d:WD},(rows.foldl (goStep r) d).T = d.T
 | [],_=>rfl
 | p :: rows,d=>by rw [List.foldl_cons,fold_T (rows:=rows)]; rfl
theorem fold_off {r:Rl} {hs:List Int}:∀ {rows:List (List Int × Str)} {d:WD},hs ∉ rows.map Prod.fst→getP (rows.foldl (goStep r) d).S hs = getP d.S hs
 | [],_,_=>rfl
 | p :: rows,d,h=>by
  rw [List.map_cons,List.mem_cons,not_or] at h
  rw [List.foldl_cons,fold_off (rows:=rows) h.2]
  show getP (putP d.S p.1 _) hs = _
  rw [getP_put,if_neg h.1]
theorem fold_at {r:Rl} {hs:List Int} {x:Str}:∀ {rows:List (List Int × Str)} {d:WD},(rows.map Prod.fst).Nodup→(hs,x) ∈ rows→getP (rows.foldl (goStep r) d).S hs = some (behP (colOf r (r.ws.idxOf x)) (startsP d hs))
 | [],_,_,h=>nomatch h
 | p :: rows,d,nd,h=>by
  rw [List.map_cons,List.nodup_cons] at nd
  rw [List.foldl_cons]
  rcases List.mem_cons.mp h with e | h
  ·subst e
   rw [fold_off nd.1]
   show getP (putP d.S hs _) hs = _
   rw [getP_put,if_pos rfl]
  ·have hne:hs ≠ p.1:=fun e=>nd.1 (e ▸ List.mem_map.mpr ⟨_,h,rfl⟩)
   rw [fold_at nd.2 h,starts_put hne]
structure Two (r:Rl) (d:WD) (log:List LogE) (n:Nat):Prop where
 none:∀ a b,getP d.S [a,b] = none ↔ ∀ t,¬ Tied log n a b t
 up:∀ a b t,Tied log n a b t→∃ rs q s,getP d.S [a,b] = some rs∧roomP r log n a b t = some q∧getP rs q = some s∧s ≤ t + 1
 dn:∀ a b rs q s,getP d.S [a,b] = some rs→(q,s) ∈ rs→∃ t,s = t + 1∧Tied log n a b t∧roomP r log n a b t = some q
 t1:∀ h p,p ∈ (getP d.T (h,1)).getD [] ↔ p.1 = h∧∃ t,Tied log n p.1 p.2 t
 t2:∀ h p,p ∈ (getP d.T (h,2)).getD [] ↔ p.2 = h∧∃ t,Tied log n p.1 p.2 t
 n1:∀ h,((getP d.T (h,1)).getD []).Nodup
 n2:∀ h,((getP d.T (h,2)).getD []).Nodup
theorem Two.start {r:Rl} {log:List LogE}:Two r wd0 log 0:=by
 have nt:∀ {a b t},¬ Tied log 0 a b t:=fun h=>absurd h.1 (Nat.not_lt_zero _)
 refine ⟨fun a b=>⟨fun _ t h=>nt h,fun _=>rfl⟩,fun a b t h=>absurd h nt,fun a b rs q s h=>(by cases h),fun h p=>⟨fun z=>(nomatch z),fun z=>?_⟩,fun h p=>⟨fun z=>(nomatch z),fun z=>?_⟩,fun h=>List.nodup_nil,fun h=>List.nodup_nil⟩
 ·obtain ⟨_,t,z⟩:=z; exact absurd z nt
 ·obtain ⟨_,t,z⟩:=z; exact absurd z nt
def Unlike (log:List LogE):Prop:=∀ (n:Nat) l a b,log[n]? = some (.tie l a b)→a ≠ b
theorem Tied.ne {log:List LogE} {n t:Nat} {a b:Int} (hu:Unlike log) (h:Tied log n a b t):a ≠ b:=let ⟨_,l,e⟩:=h; hu t l a b e
theorem tied_deed {log:List LogE} {n t:Nat} {a b l h:Int} {u:Str} {y:Int} (he:log[n]? = some (.deed l h u y)):Tied log (n + 1) a b t ↔ Tied log n a b t:=by
 constructor
 ·rintro ⟨h1,l',e⟩
  rcases Nat.lt_or_ge t n with z | z
  ·exact ⟨z,l',e⟩
  ·rw [show t = n by omega,he] at e; cases e
 ·rintro ⟨h1,l',e⟩
  exact ⟨by omega,l',e⟩
theorem tied_tie {log:List LogE} {n t:Nat} {a b l x y:Int} (he:log[n]? = some (.tie l x y)):Tied log (n + 1) a b t ↔ Tied log n a b t∨(t = n∧a = x∧b = y):=by
 constructor
 ·rintro ⟨h1,l',e⟩
  rcases Nat.lt_or_ge t n with z | z
  ·exact .inl ⟨z,l',e⟩
  ·have ht:t = n:=by omega
   rw [ht,he] at e; cases e; exact .inr ⟨ht,rfl,rfl⟩
 ·rintro (⟨h1,l',e⟩ | ⟨rfl,rfl,rfl⟩)
  ·exact ⟨by omega,l',e⟩
  ·exact ⟨by omega,l,he⟩
theorem with_at {r:Rl} {d:WD} {log:List LogE} {n:Nat} (o:Two r d log n) (h:Int) {hs:List Int}:(hs ∈ withP d h 1 ↔ ∃ b,hs = [h,b]∧∃ t,Tied log n h b t)∧(hs ∈ withP d h 2 ↔ ∃ a,hs = [a,h]∧∃ t,Tied log n a h t):=by
 unfold withP
 rw [if_neg (by decide),if_neg (by decide)]
 constructor
 ·rw [List.mem_map]
  constructor
  ·rintro ⟨p,hp,rfl⟩
   obtain ⟨e,t,ht⟩:=(o.t1 h p).mp hp
   exact ⟨p.2,by rw [e],t,e ▸ ht⟩
  ·rintro ⟨b,rfl,t,ht⟩
   exact ⟨(h,b),(o.t1 h (h,b)).mpr ⟨rfl,t,ht⟩,rfl⟩
 ·rw [List.mem_map]
  constructor
  ·rintro ⟨p,hp,rfl⟩
   obtain ⟨e,t,ht⟩:=(o.t2 h p).mp hp
   exact ⟨p.1,by rw [e],t,e ▸ ht⟩
  ·rintro ⟨a,rfl,t,ht⟩
   exact ⟨(a,h),(o.t2 h (a,h)).mpr ⟨rfl,t,ht⟩,rfl⟩
theorem tir_fst {a b:Int} (u:Str):tirT [a,b] a u = sdT 1 u:=by
 unfold tirT
 rw [if_neg (by simp),List.idxOf_cons_self]; rfl
theorem tir_snd {a b:Int} (h:a ≠ b) (u:Str):tirT [a,b] b u = sdT 2 u:=by
 unfold tirT
 rw [if_neg (by simp)]
 have e:List.idxOf b [a,b] = 1:=by
  have hb:(a == b) = false:=beq_eq_false_iff_ne.mpr h
  simp [List.idxOf_cons,hb]
 rw [e]; rfl
theorem rows_two {r:Rl} {d:WD} {log:List LogE} {n:Nat} {h:Int} {u:Str} (hs2:r.s ≠ 1) (hu:Unlike log) (o:Two r d log n) {hs:List Int} {x:Str}:(hs,x) ∈ rowsP r d h u ↔ ∃ a b t,hs = [a,b]∧Tied log n a b t∧h ∈ [a,b]∧x = tirT [a,b] h u∧x ∈ r.ws:=by
 unfold rowsP sidesOf
 rw [if_neg hs2,List.mem_flatMap]
 constructor
 ·rintro ⟨s,hsm,hm⟩
  have hs12:s = 1∨s = 2:=by simpa using hsm
  split at hm
  ·rename_i hw
   obtain ⟨hs',hh,e⟩:=List.mem_map.mp hm
   cases e
   rcases hs12 with rfl | rfl
   ·obtain ⟨b,rfl,t,ht⟩:=(with_at o h).1.mp hh
    exact ⟨h,b,t,rfl,ht,by simp,(tir_fst u).symm,hw⟩
   ·obtain ⟨a,rfl,t,ht⟩:=(with_at o h).2.mp hh
    exact ⟨a,h,t,rfl,ht,by simp,(tir_snd (ht.ne hu) u).symm,hw⟩
  ·cases hm
 ·rintro ⟨a,b,t,rfl,ht,hm,rfl,hw⟩
  have hm':h = a∨h = b:=by simpa using hm
  rcases hm' with rfl | rfl
  ·rw [tir_fst] at hw ⊢
   exact ⟨1,by simp,by rw [if_pos hw]; exact List.mem_map.mpr ⟨_,(with_at o h).1.mpr ⟨b,rfl,t,ht⟩,rfl⟩⟩
  ·rw [tir_snd (ht.ne hu)] at hw ⊢
   exact ⟨2,by simp,by rw [if_pos hw]; exact List.mem_map.mpr ⟨_,(with_at o h).2.mpr ⟨a,rfl,t,ht⟩,rfl⟩⟩
theorem rows_nd2 {r:Rl} {d:WD} {log:List LogE} {n:Nat} {h:Int} {u:Str} (hs2:r.s ≠ 1) (hu:Unlike log) (o:Two r d log n):RowsNd r d h u:=by
 unfold RowsNd rowsP sidesOf
 rw [if_neg hs2]
 have inj:∀ {l:List (Int × Int)},l.Nodup→(l.map fun p=>[p.1,p.2]).Nodup:=fun {l} nd=>List.Pairwise.map _ (fun p q hne e=>hne (by
  have e1:=(List.cons.inj e).1
  have e2:=(List.cons.inj (List.cons.inj e).2).1
  exact Prod.ext e1 e2)) nd
 have w1:(withP d h 1).Nodup:=by unfold withP; rw [if_neg (by decide)]; exact inj (o.n1 h)
 have w2:(withP d h 2).Nodup:=by unfold withP; rw [if_neg (by decide)]; exact inj (o.n2 h)
 have part:∀ (s:Int),((if sdT s u ∈ r.ws then (withP d h s).map fun hs=>(hs,sdT s u) else []).map Prod.fst).Sublist (withP d h s):=fun s=>by
  split
  ·rw [List.map_map]
   have:(Prod.fst ∘ fun hs:List Int=>(hs,sdT s u)) = id:=rfl
   rw [this,List.map_id]; exact List.Sublist.refl _
  ·exact List.nil_sublist _
 rw [List.flatMap_cons,List.flatMap_cons,List.flatMap_nil,List.append_nil,List.map_append,List.nodup_append]
 refine ⟨(part 1).nodup w1,(part 2).nodup w2,fun x hx y hy e=>?_⟩
 obtain ⟨b,e1,t,ht⟩:=(with_at o h).1.mp ((part 1).subset hx)
 obtain ⟨a,e2,t',ht'⟩:=(with_at o h).2.mp ((part 2).subset hy)
 rw [e1,e2] at e
 have z1:=(List.cons.inj e).1
 exact (ht'.ne hu) z1.symm
theorem Two.starts {r:Rl} {d:WD} {log:List LogE} {n:Nat} (o:Two r d log n) {a b:Int} {t:Nat} (h:Tied log n a b t):getP d.S [a,b] = some (startsP d [a,b]):=by
 unfold startsP
 cases e:getP d.S [a,b] with
 | none=>exact absurd h ((o.none a b).mp e t)
 | some rs=>rfl
theorem rowT_two {a b h:Int} (l:Int) (u:Str) (y:Int):rowT [a,b] (.deed l h u y) = if h ∈ [a,b] then some (tirT [a,b] h u) else none:=rfl
theorem room_deed {r:Rl} {log:List LogE} {n t:Nat} {a b l h:Int} {u:Str} {y:Int} (he:log[n]? = some (.deed l h u y)) (ht:t < n):roomP r log (n + 1) a b t = if h ∈ [a,b] then (roomP r log n a b t).bind fun q=>goR r q (tirT [a,b] h u) else roomP r log n a b t:=by
 unfold roomP
 rw [rowP_snoc he ht,rowT_two]
 by_cases c:h ∈ [a,b]
 ·rw [if_pos c,if_pos c,Option.toList_some,aftR_snoc]
 ·rw [if_neg c,if_neg c,Option.toList_none,List.append_nil]
theorem brk2_dn {r:Rl} {d:WD} {log:List LogE} {n:Nat} {l h:Int} {u:Str} {y:Int} (hs2:r.s ≠ 1) (hu:Unlike log) (o:Two r d log n) (he:log[n]? = some (.deed l h u y)) {p:Nat × List Int} (hp:p ∈ brokenP r d h u):∃ a b t,p = (t + 1,[a,b])∧Tied log n a b t∧roomP r log (n + 1) a b t = none:=by
 unfold brokenP at hp
 obtain ⟨⟨hs,x⟩,hr,hp⟩:=List.mem_flatMap.mp hp
 obtain ⟨a,b,t,rfl,ht,hm,rfl,hw⟩:=(rows_two hs2 hu o).mp hr
 unfold brk1 at hp
 obtain ⟨⟨q,s⟩,hq,rfl⟩:=List.mem_map.mp hp
 obtain ⟨hq,hc⟩:=List.mem_filter.mp hq
 obtain ⟨t',e1,ht',hr'⟩:=o.dn a b _ q s (o.starts ht) hq
 refine ⟨a,b,t',by rw [← e1],ht',?_⟩
 rw [room_deed he ht'.1,if_pos hm,hr']
 show goR r q (tirT [a,b] h u) = none
 unfold goR
 rw [if_pos hw]
 exact of_decide_eq_true hc
theorem brk2_up {r:Rl} {d:WD} {log:List LogE} {n:Nat} {l h:Int} {u:Str} {y:Int} (hs2:r.s ≠ 1) (hu:Unlike log) (o:Two r d log n) (he:log[n]? = some (.deed l h u y)) {a b:Int} {t:Nat} (ht:Tied log n a b t) (hb:roomP r log (n + 1) a b t = none):∃ s,s ≤ t + 1∧(s,[a,b]) ∈ brokenP r d h u:=by
 obtain ⟨rs,q,s,g1,g2,g3,g4⟩:=o.up a b t ht
 rw [room_deed he ht.1] at hb
 by_cases c:h ∈ [a,b]
 ·rw [if_pos c,g2] at hb
  have hb':goR r q (tirT [a,b] h u) = none:=hb
  unfold goR at hb'
  by_cases hw:tirT [a,b] h u ∈ r.ws
  ·rw [if_pos hw] at hb'
   refine ⟨s,g4,?_⟩
   unfold brokenP
   refine List.mem_flatMap.mpr ⟨([a,b],tirT [a,b] h u),(rows_two hs2 hu o).mpr ⟨a,b,t,rfl,ht,c,rfl,hw⟩,?_⟩
   unfold brk1
   refine List.mem_map.mpr ⟨(q,s),List.mem_filter.mpr ⟨?_,decide_eq_true hb'⟩,rfl⟩
   have e:=o.starts ht
   rw [g1] at e
   rw [← Option.some.inj e]
   exact getP_mem g3
  ·rw [if_neg hw] at hb'; cases hb'
 ·rw [if_neg c,g2] at hb; cases hb
theorem Two.deed {r:Rl} {d:WD} {log:List LogE} {n:Nat} {l h:Int} {u:Str} {y:Int} (hs2:r.s ≠ 1) (hu:Unlike log) (o:Two r d log n) (he:log[n]? = some (.deed l h u y)) (hb:brokenP r d h u = []):Two r (goP r d h u) log (n + 1):=by
 have nd:=rows_nd2 (h:=h) (u:=u) hs2 hu o
 unfold RowsNd at nd
 have hT:(goP r d h u).T = d.T:=fold_T
 have hbn:=brk_none hb
 -- the starts behind the deed
 have hin:∀ {a b t},Tied log n a b t→h ∈ [a,b]→tirT [a,b] h u ∈ r.ws→getP (goP r d h u).S [a,b] = some (behP (colOf r (r.ws.idxOf (tirT [a,b] h u))) (startsP d [a,b])):=fun {a b t} ht c hw=>fold_at nd ((rows_two hs2 hu o).mpr ⟨a,b,t,rfl,ht,c,rfl,hw⟩)
 have hout:∀ {a b},¬ (h ∈ [a,b]∧tirT [a,b] h u ∈ r.ws)→getP (goP r d h u).S [a,b] = getP d.S [a,b]:=fun {a b} c=>fold_off (fun hm=>by
  obtain ⟨⟨hs,x⟩,hp,e⟩:=List.mem_map.mp hm
  obtain ⟨a',b',t,e1,ht,c',rfl,hw⟩:=(rows_two hs2 hu o).mp hp
  have e2:hs = [a,b]:=e
  rw [e1] at e2
  cases e2
  exact c ⟨c',hw⟩)
 have hno:∀ {a b},(∀ t,¬ Tied log n a b t)→getP (goP r d h u).S [a,b] = getP d.S [a,b]:=fun {a b} c=>fold_off (fun hm=>by
  obtain ⟨⟨hs,x⟩,hp,e⟩:=List.mem_map.mp hm
  obtain ⟨a',b',t,e1,ht,c',rfl,hw⟩:=(rows_two hs2 hu o).mp hp
  have e2:hs = [a,b]:=e
  rw [e1] at e2
  cases e2
  exact c t ht)
 refine ⟨fun a b=>?_,fun a b t ht=>?_,fun a b rs q s hg hm=>?_,fun x p=>?_,fun x p=>?_,fun x=>by rw [hT]; exact o.n1 x,fun x=>by rw [hT]; exact o.n2 x⟩
 ·rw [show (∀ t,¬ Tied log (n + 1) a b t) ↔ ∀ t,¬ Tied log n a b t from forall_congr' fun t=>not_congr (tied_deed he)]
  rw [← o.none a b]
  by_cases c:∃ t,Tied log n a b t
  ·obtain ⟨t,ht⟩:=c
   have e1:=o.starts ht
   by_cases c2:h ∈ [a,b]∧tirT [a,b] h u ∈ r.ws
   ·rw [hin ht c2.1 c2.2,e1]; simp
   ·rw [hout c2]
  ·rw [hno (fun t ht=>c ⟨t,ht⟩)]
 ·have ht':=(tied_deed he).mp ht
  obtain ⟨rs,q,s,g1,g2,g3,g4⟩:=o.up a b t ht'
  rw [room_deed he ht'.1,g2]
  by_cases c:h ∈ [a,b]
  ·rw [if_pos c]
   show ∃ rs q' s,_∧goR r q (tirT [a,b] h u) = some q'∧_
   unfold goR
   by_cases hw:tirT [a,b] h u ∈ r.ws
   ·rw [if_pos hw,hin ht' c hw]
    have e1:=o.starts ht'
    rw [g1] at e1
    have e2:=Option.some.inj e1
    have hne:=hbn _ ((rows_two hs2 hu o).mpr ⟨a,b,t,rfl,ht',c,rfl,hw⟩) (q,s) (by show (q,s) ∈ startsP d [a,b]; rw [← e2]; exact getP_mem g3)
    obtain ⟨j,ej⟩:=Option.ne_none_iff_exists'.mp hne
    obtain ⟨s',h1,h2⟩:=beh_up (acc:=[]) (getP_mem g3) ej
    rw [← e2]
    exact ⟨_,j,s',rfl,ej,h2,by omega⟩
   ·rw [if_neg hw,hout (fun z=>hw z.2)]
    exact ⟨rs,q,s,g1,rfl,g3,g4⟩
  ·rw [if_neg c,hout (fun z=>c z.1)]
   exact ⟨rs,q,s,g1,rfl,g3,g4⟩
 ·by_cases ct:∃ t,Tied log n a b t
  ·obtain ⟨t0,ht0⟩:=ct
   by_cases c2:h ∈ [a,b]∧tirT [a,b] h u ∈ r.ws
   ·rw [hin ht0 c2.1 c2.2] at hg
    cases hg
    rcases beh_dn hm with ⟨q0,m1,m2⟩ | m
    ·obtain ⟨t,e1,ht,hr⟩:=o.dn a b _ q0 s (o.starts ht0) m1
     refine ⟨t,e1,(tied_deed he).mpr ht,?_⟩
     rw [room_deed he ht.1,if_pos c2.1,hr]
     show goR r q0 _ = _
     unfold goR
     rw [if_pos c2.2]; exact m2
    ·cases m
   ·rw [hout c2] at hg
    obtain ⟨t,e1,ht,hr⟩:=o.dn a b rs q s hg hm
    refine ⟨t,e1,(tied_deed he).mpr ht,?_⟩
    rw [room_deed he ht.1,hr]
    by_cases c:h ∈ [a,b]
    ·rw [if_pos c]
     show goR r q _ = _
     unfold goR
     rw [if_neg (fun hw=>c2 ⟨c,hw⟩)]
    ·rw [if_neg c]
  ·have hn:∀ t,¬ Tied log n a b t:=fun t ht=>ct ⟨t,ht⟩
   rw [hno hn,(o.none a b).mpr hn] at hg; cases hg
 ·rw [hT,o.t1 x p]
  exact and_congr_right fun _=>exists_congr fun t=>(tied_deed he).symm
 ·rw [hT,o.t2 x p]
  exact and_congr_right fun _=>exists_congr fun t=>(tied_deed he).symm
theorem addTo_get (T:List ((Int × Int) × List (Int × Int))) (p x k:Int × Int):(getP (addTo T p x) k).getD [] = if k = p then (getP T p).getD [] ++ [x] else (getP T k).getD []:=by
 unfold addTo
 rw [getP_put]
 split <;> rfl
theorem Two.tie {r:Rl} {d:WD} {log:List LogE} {n:Nat} {l x y:Int} (hs2:r.s ≠ 1) (hu:Unlike log) (o:Two r d log n) (he:log[n]? = some (.tie l x y)):Two r (tieF x y (n + 1) r d) log (n + 1):=by
 have hxy:x ≠ y:=hu n l x y he
 have eT:tieF x y (n + 1) r d = tieP d x y (n + 1):=by unfold tieF; rw [if_neg hs2]
 rw [eT]
 -- the starts of the handles tied
 have hrs:(getP (newTie d x y).S [x,y]).getD [] = (getP d.S [x,y]).getD []:=by
  unfold newTie
  split
  ·rename_i h
   show (getP (putP d.S [x,y] []) [x,y]).getD [] = _
   rw [getP_put,if_pos rfl,h]; rfl
  ·rfl
 have hS:∀ a b,getP (tieP d x y (n + 1)).S [a,b] = if [a,b] = [x,y] then some (setDef ((getP d.S [x,y]).getD []) (n + 1)) else getP d.S [a,b]:=fun a b=>by
  unfold tieP
  show getP (putP (newTie d x y).S [x,y] _) [a,b] = _
  rw [getP_put,hrs]
  by_cases e:[a,b] = [x,y]
  ·rw [if_pos e,if_pos e]
  ·rw [if_neg e,if_neg e]
   unfold newTie
   split
   ·show getP (putP d.S [x,y] []) [a,b] = _
    rw [getP_put,if_neg e]
   ·rfl
 have hT:∀ k,(getP (tieP d x y (n + 1)).T k).getD [] = if getP d.S [x,y] = Option.none then (if k = (y,2) then (getP d.T (y,2)).getD [] ++ [(x,y)] else if k = (x,1) then (getP d.T (x,1)).getD [] ++ [(x,y)] else (getP d.T k).getD []) else (getP d.T k).getD []:=fun k=>by
  show (getP (newTie d x y).T k).getD [] = _
  unfold newTie
  by_cases c:getP d.S [x,y] = Option.none
  ·rw [if_pos c,if_pos c]
   show (getP (addTo (addTo d.T (x,1) (x,y)) (y,2) (x,y)) k).getD [] = _
   rw [addTo_get,addTo_get,addTo_get]
   by_cases c1:k = (y,2)
   ·rw [if_pos c1,if_pos c1,if_neg (by intro z; have:=(Prod.mk.inj z).2; omega)]
   ·rw [if_neg c1,if_neg c1]
  ·rw [if_neg c,if_neg c]
 have room:∀ {a b t},t < n→roomP r log (n + 1) a b t = roomP r log n a b t:=fun {a b t} ht=>by
  unfold roomP
  rw [rowP_snoc he ht]
  show aftR r (some 0) (_ ++ []) = _
  rw [List.append_nil]
 have room0:∀ {a b},roomP r log (n + 1) a b n = some 0:=fun {a b}=>by unfold roomP; rw [rowP_end]; rfl
 have hxyT:Tied log (n + 1) x y n:=(tied_tie he).mpr (.inr ⟨rfl,rfl,rfl⟩)
 have pair:∀ {a b:Int},[a,b] = [x,y] ↔ a = x∧b = y:=fun {a b}=>⟨fun e=>⟨(List.cons.inj e).1,(List.cons.inj (List.cons.inj e).2).1⟩,fun ⟨h1,h2⟩=>by rw [h1,h2]⟩
 have nof:(∃ t,Tied log n x y t) ↔ getP d.S [x,y] ≠ Option.none:=by
  rw [Ne,o.none x y]
  exact ⟨fun ⟨t,h⟩ z=>z t h,fun h=>Classical.byContradiction fun c=>h fun t ht=>c ⟨t,ht⟩⟩
 have def_get:∀ {rs:Rs} {k j s:Nat},getP rs j = some s→getP (setDef rs k) j = some s:=fun {rs k j s} h=>by
  unfold setDef
  split
  ·rename_i h0
   rw [getP_put,if_neg (fun z=>by rw [z,h0] at h; cases h)]; exact h
  ·exact h
 have def_mem:∀ {rs:Rs} {k:Nat} {p:Nat × Nat},p ∈ setDef rs k→p ∈ rs∨p = (0,k):=fun {rs k p} h=>by
  unfold setDef at h
  split at h
  ·rcases putP_mem h with e | ⟨h,_⟩
   ·exact .inr e
   ·exact .inl h
  ·exact .inl h
 refine ⟨fun a b=>?_,fun a b t ht=>?_,fun a b rs q s hg hm=>?_,fun h p=>?_,fun h p=>?_,fun h=>?_,fun h=>?_⟩
 ·rw [hS]
  by_cases e:[a,b] = [x,y]
  ·rw [if_pos e]
   obtain ⟨rfl,rfl⟩:=pair.mp e
   exact ⟨fun z=>(by cases z),fun z=>absurd hxyT (z n)⟩
  ·rw [if_neg e,o.none a b]
   constructor
   ·intro z t ht
    rcases (tied_tie he).mp ht with ht | ⟨_,h1,h2⟩
    ·exact z t ht
    ·exact e (pair.mpr ⟨h1,h2⟩)
   ·exact fun z t ht=>z t ((tied_tie he).mpr (.inl ht))
 ·rw [hS]
  rcases (tied_tie he).mp ht with ht' | ⟨rfl,rfl,rfl⟩
  ·obtain ⟨rs,q,s,g1,g2,g3,g4⟩:=o.up a b t ht'
   rw [room ht'.1]
   by_cases e:[a,b] = [x,y]
   ·rw [if_pos e]
    rw [e] at g1
    rw [g1]
    exact ⟨_,q,s,rfl,g2,def_get g3,g4⟩
   ·rw [if_neg e]; exact ⟨rs,q,s,g1,g2,g3,g4⟩
  ·rw [if_pos rfl,room0]
   cases g:getP ((getP d.S [a,b]).getD []) 0 with
   | none=>
    refine ⟨_,0,t + 1,rfl,rfl,?_,Nat.le_refl _⟩
    unfold setDef
    rw [if_pos g,getP_put,if_pos rfl]
   | some s=>
    refine ⟨_,0,s,rfl,rfl,def_get g,?_⟩
    cases g1:getP d.S [a,b] with
    | none=>rw [g1] at g; cases g
    | some rs=>
     rw [g1] at g
     obtain ⟨t',e1,ht',_⟩:=o.dn a b rs 0 s g1 (getP_mem g)
     have:=ht'.1
     omega
 ·rw [hS] at hg
  by_cases e:[a,b] = [x,y]
  ·rw [if_pos e] at hg
   cases hg
   obtain ⟨rfl,rfl⟩:=pair.mp e
   rcases def_mem hm with hm | e1
   ·cases g1:getP d.S [a,b] with
    | none=>rw [g1] at hm; cases hm
    | some rs=>
     rw [g1] at hm
     obtain ⟨t,e1,ht,hr⟩:=o.dn a b rs q s g1 hm
     exact ⟨t,e1,(tied_tie he).mpr (.inl ht),by rw [room ht.1]; exact hr⟩
   ·cases e1
    exact ⟨n,rfl,hxyT,room0⟩
  ·rw [if_neg e] at hg
   obtain ⟨t,e1,ht,hr⟩:=o.dn a b rs q s hg hm
   exact ⟨t,e1,(tied_tie he).mpr (.inl ht),by rw [room ht.1]; exact hr⟩
 ·have tn:(∃ t,Tied log (n + 1) p.1 p.2 t) ↔ (∃ t,Tied log n p.1 p.2 t)∨(p.1 = x∧p.2 = y):=by
   constructor
   ·rintro ⟨t,ht⟩
    rcases (tied_tie he).mp ht with ht | ⟨_,h1,h2⟩
    ·exact .inl ⟨t,ht⟩
    ·exact .inr ⟨h1,h2⟩
   ·rintro (⟨t,ht⟩ | ⟨h1,h2⟩)
    ·exact ⟨t,(tied_tie he).mpr (.inl ht)⟩
    ·exact ⟨n,(tied_tie he).mpr (.inr ⟨rfl,h1,h2⟩)⟩
  rw [tn,hT,if_neg (by intro z; have:=(Prod.mk.inj z).2; omega:¬ ((h,(1:Int)) = (y,2)))]
  by_cases c:getP d.S [x,y] = Option.none
  ·rw [if_pos c]
   by_cases c1:(h,(1:Int)) = (x,1)
   ·rw [if_pos c1,List.mem_append,List.mem_singleton,o.t1 x p]
    have hx:=(Prod.mk.inj c1).1
    subst hx
    constructor
    ·rintro (⟨h1,h2⟩ | rfl)
     ·exact ⟨h1,.inl h2⟩
     ·exact ⟨rfl,.inr ⟨rfl,rfl⟩⟩
    ·rintro ⟨h1,h2 | ⟨_,h3⟩⟩
     ·exact .inl ⟨h1,h2⟩
     ·exact .inr (Prod.ext h1 h3)
   ·rw [if_neg c1,o.t1 h p]
    constructor
    ·exact fun ⟨h1,h2⟩=>⟨h1,.inl h2⟩
    ·rintro ⟨h1,h2 | ⟨h3,_⟩⟩
     ·exact ⟨h1,h2⟩
     ·exact absurd (by rw [← h1,h3]) c1
  ·rw [if_neg c,o.t1 h p]
   constructor
   ·exact fun ⟨h1,h2⟩=>⟨h1,.inl h2⟩
   ·rintro ⟨h1,h2 | ⟨h3,h4⟩⟩
    ·exact ⟨h1,h2⟩
    ·exact ⟨h1,by rw [h3,h4]; exact nof.mpr c⟩
 ·have tn:(∃ t,Tied log (n + 1) p.1 p.2 t) ↔ (∃ t,Tied log n p.1 p.2 t)∨(p.1 = x∧p.2 = y):=by
   constructor
   ·rintro ⟨t,ht⟩
    rcases (tied_tie he).mp ht with ht | ⟨_,h1,h2⟩
    ·exact .inl ⟨t,ht⟩
    ·exact .inr ⟨h1,h2⟩
   ·rintro (⟨t,ht⟩ | ⟨h1,h2⟩)
    ·exact ⟨t,(tied_tie he).mpr (.inl ht)⟩
    ·exact ⟨n,(tied_tie he).mpr (.inr ⟨rfl,h1,h2⟩)⟩
  rw [tn,hT,if_neg (by intro z; have:=(Prod.mk.inj z).2; omega:¬ ((h,(2:Int)) = (x,1)))]
  by_cases c:getP d.S [x,y] = Option.none
  ·rw [if_pos c]
   by_cases c1:(h,(2:Int)) = (y,2)
   ·rw [if_pos c1,List.mem_append,List.mem_singleton,o.t2 y p]
    have hx:=(Prod.mk.inj c1).1
    subst hx
    constructor
    ·rintro (⟨h1,h2⟩ | rfl)
     ·exact ⟨h1,.inl h2⟩
     ·exact ⟨rfl,.inr ⟨rfl,rfl⟩⟩
    ·rintro ⟨h1,h2 | ⟨h3,_⟩⟩
     ·exact .inl ⟨h1,h2⟩
     ·exact .inr (Prod.ext h3 h1)
   ·rw [if_neg c1,o.t2 h p]
    constructor
    ·exact fun ⟨h1,h2⟩=>⟨h1,.inl h2⟩
    ·rintro ⟨h1,h2 | ⟨_,h3⟩⟩
     ·exact ⟨h1,h2⟩
     ·exact absurd (by rw [← h1,h3]) c1
  ·rw [if_neg c,o.t2 h p]
   constructor
   ·exact fun ⟨h1,h2⟩=>⟨h1,.inl h2⟩
   ·rintro ⟨h1,h2 | ⟨h3,h4⟩⟩
    ·exact ⟨h1,h2⟩
    ·exact ⟨h1,by rw [h3,h4]; exact nof.mpr c⟩
 ·rw [hT,if_neg (by intro z; have:=(Prod.mk.inj z).2; omega:¬ ((h,(1:Int)) = (y,2)))]
  split
  ·rename_i c
   split
   ·rw [List.nodup_append]
    refine ⟨o.n1 x,by simp,fun p hp q hq e=>?_⟩
    rw [List.mem_singleton.mp hq] at e
    obtain ⟨_,h2⟩:=(o.t1 x p).mp hp
    rw [e] at h2
    exact nof.mp h2 c
   ·exact o.n1 h
  ·exact o.n1 h
 ·rw [hT]
  split
  ·rename_i c
   split
   ·rw [List.nodup_append]
    refine ⟨o.n2 y,by simp,fun p hp q hq e=>?_⟩
    rw [List.mem_singleton.mp hq] at e
    obtain ⟨_,h2⟩:=(o.t2 y p).mp hp
    rw [e] at h2
    exact nof.mp h2 c
   ·rw [if_neg (by intro z; have:=(Prod.mk.inj z).2; omega:¬ ((h,(2:Int)) = (x,1)))]; exact o.n2 h
  ·exact o.n2 h
structure KeepR (r:Rl) (d:WD) (log:List LogE) (n:Nat):Prop where
 one:r.s = 1→One r d log n
 two:r.s ≠ 1→Two r d log n
section
variable {xs:List (Str × Rl)} {log:List LogE} {n:Nat}
theorem brkT_mem {l h:Int} {u:Str} {y:Int} (he:log[n]? = some (.deed l h u y)) {m:Bk}:m ∈ brkT (numX xs) log n ↔ ∃ (k:Nat) (x:Str × Rl) (d:WD),xs[k]? = some x∧(stT (numX xs) log n)[k]? = some d∧m.pl = k∧m.nm = x.1∧(m.st,m.hs) ∈ brokenP x.2 d h u:=by
 unfold brkT
 rw [he]
 show m ∈ allB _ _ _ _ ↔ _
 unfold allB
 rw [List.mem_flatMap]
 constructor
 ·rintro ⟨⟨⟨k,nm,r⟩,d⟩,hz,hm⟩
  obtain ⟨i,hi⟩:=List.mem_iff_getElem?.mp hz
  rw [List.getElem?_zip_eq_some] at hi
  obtain ⟨i1,i2⟩:=hi
  rw [numX_at] at i1
  cases ex:xs[i]? with
  | none=>rw [ex] at i1; cases i1
  | some x=>
   rw [ex] at i1
   have e3:(i,x) = (k,nm,r):=by simpa using i1
   obtain ⟨rfl,rfl⟩:=Prod.mk.inj e3
   unfold brkE at hm
   obtain ⟨p,hp,rfl⟩:=List.mem_map.mp hm
   exact ⟨i,_,d,ex,i2,rfl,rfl,hp⟩
 ·rintro ⟨k,x,d,hx,hd,h1,h2,h3⟩
  refine ⟨((k,x),d),List.mem_of_getElem? (i:=k) (List.getElem?_zip_eq_some.mpr ⟨by rw [numX_at,hx]; rfl,hd⟩),?_⟩
  unfold brkE
  refine List.mem_map.mpr ⟨(m.st,m.hs),h3,?_⟩
  show (⟨k,x.1,m.st,m.hs⟩ : Bk) = m
  rw [← h1,← h2]
theorem brkT_none {l h:Int} {u:Str} {y:Int} (he:log[n]? = some (.deed l h u y)) (hb:brkT (numX xs) log n = []) {k:Nat} {x:Str × Rl} {d:WD} (hx:xs[k]? = some x) (hd:(stT (numX xs) log n)[k]? = some d):brokenP x.2 d h u = []:=by
 rw [List.eq_nil_iff_forall_not_mem]
 intro p hp
 have:(⟨k,x.1,p.1,p.2⟩ : Bk) ∈ brkT (numX xs) log n:=(brkT_mem he).mpr ⟨k,x,d,hx,hd,rfl,rfl,hp⟩
 rw [hb] at this; cases this
theorem stT_keep (hu:Unlike log):∀ {n:Nat},(∀ i,i < n→brkT (numX xs) log i = [])→n ≤ log.length→∀ (k:Nat) x d,xs[k]? = some x→(stT (numX xs) log n)[k]? = some d→KeepR x.2 d log n
 | 0,_,_,k,x,d,hx,hd=>by
  unfold stT at hd
  rw [List.getElem?_map,numX_at,hx] at hd
  cases hd
  exact ⟨fun _=>One.start,fun _=>Two.start⟩
 | n + 1,hb,hn,k,x,d,hx,hd=>by
  have ih:=stT_keep hu (n:=n) (fun i hi=>hb i (by omega)) (by omega)
  have hle:=List.getElem?_eq_getElem (l:=log) (i:=n) (by omega)
  generalize log[n] = e at hle
  have e1:stT (numX xs) log (n + 1) = stepAll (stepE n e) (numX xs) (stT (numX xs) log n):=by
   show (match log[n]? with | some e=>_ | none=>_) = _
   rw [hle]
  rw [e1] at hd
  unfold stepAll at hd
  rw [List.getElem?_zipWith,numX_at,hx] at hd
  cases e2:(stT (numX xs) log n)[k]? with
  | none=>rw [e2] at hd; cases hd
  | some d0=>
   rw [e2] at hd
   cases hd
   have o:=ih k x d0 hx e2
   cases e with
   | tie l a b=>exact ⟨fun c=>(o.one c).tie c hle,fun c=>(o.two c).tie c hu hle⟩
   | deed l h u y=>
    have hz:=brkT_none hle (hb n (by omega)) hx e2
    exact ⟨fun c=>(o.one c).deed c hle hz,fun c=>(o.two c).deed c hu hle hz⟩
end
def hOf:LogE→Option Int
 | .tie _ _ _=>none
 | .deed _ h _ _=>some h
def knownH (log:List LogE):List Int:=log.filterMap hOf
def rowAt (s:Int) (log:List LogE) (i:Nat):Option (List Int × List Str):=
 match log[i]? with
 | some (.tie _ a b)=>if s = 2 then some ([a,b],rowP log log.length a b i) else none
 | some (.deed _ h _ _)=>if s = 1∧h ∉ knownH (log.take i) then some ([h],rowH h log) else none
 | none=>none
abbrev Bro:=Nat × List Int × List Str
def brkRow (xs:List (Str × Rl)) (log:List LogE) (k i:Nat):Option Bro:=
 match xs[k]? with
 | some x=>(rowAt x.2.s log i).bind fun p=>if brkR1 x.2 p.2 = true then some (k,p.1,p.2) else none
 | none=>none
def brokenL (xs:List (Str × Rl)) (log:List LogE):List Bro:=(List.range xs.length).flatMap fun k=>(List.range log.length).filterMap (brkRow xs log k)
theorem fs_uniq {α : Type} {f:Nat→Option α} {N:Nat} {v:α} (ex:∃ i,i < N∧f i ≠ none) (un:∀ i w,i < N→f i = some w→w = v):(List.range N).findSome? f = some v:=by
 cases h:(List.range N).findSome? f with
 | none=>
  obtain ⟨i,hi,hf⟩:=ex
  rw [List.findSome?_eq_none_iff] at h
  exact absurd (h i (List.mem_range.mpr hi)) hf
 | some w=>
  obtain ⟨i,hi,hf⟩:=List.exists_of_findSome?_eq_some h
  rw [un i w (List.mem_range.mp hi) hf]
theorem brokenL_nil {xs:List (Str × Rl)} {log:List LogE} (h:∀ k i,k < xs.length→i < log.length→brkRow xs log k i = none):brokenL xs log = []:=by
 unfold brokenL
 rw [List.flatMap_eq_nil_iff]
 intro k hk
 rw [List.filterMap_eq_nil_iff]
 exact fun i hi=>h k i (List.mem_range.mp hk) (List.mem_range.mp hi)
theorem brokenL_head {xs:List (Str × Rl)} {log:List LogE}:(brokenL xs log).head? = (List.range xs.length).findSome? fun k=>(List.range log.length).findSome? (brkRow xs log k):=by
 unfold brokenL
 rw [List.head?_flatMap]
 congr 1
 funext k
 rw [List.head?_filterMap]
section
variable {xs:List (Str × Rl)} {log:List LogE} {n:Nat}
theorem row_take {a b:Int} {t:Nat} (hn:n ≤ log.length):rowP (log.take n) (log.take n).length a b t = rowP log n a b t:=by
 unfold rowP
 rw [List.take_length]
theorem take_at {i:Nat} {e:LogE} (h:(log.take n)[i]? = some e):i < n∧log[i]? = some e:=by
 rw [List.getElem?_take] at h
 split at h
 ·exact ⟨by assumption,h⟩
 ·cases h
theorem no_broken (hs:∀ x ∈ xs,RlOk x.2) (hn:n ≤ log.length) (ho:∀ (k:Nat) x d,xs[k]? = some x→(stT (numX xs) log n)[k]? = some d→KeepR x.2 d log n):brokenL xs (log.take n) = []:=by
 refine brokenL_nil fun k i hk hi=>?_
 have hx:=List.getElem?_eq_getElem hk
 generalize xs[k] = x at hx
 have hnl:(numX xs).length = xs.length:=by unfold numX; rw [List.length_map,List.length_zipIdx]
 have hd:=List.getElem?_eq_getElem (l:=stT (numX xs) log n) (i:=k) (by rw [stT_len]; omega)
 generalize (stT (numX xs) log n)[k]'(by rw [stT_len]; omega) = d at hd
 have o:=ho k x d hx hd
 unfold brkRow
 rw [hx]
 show (rowAt x.2.s (log.take n) i).bind _ = none
 unfold rowAt
 cases he:(log.take n)[i]? with
 | none=>rfl
 | some e=>
  obtain ⟨hin,he'⟩:=take_at he
  cases e with
  | tie l a b=>
   dsimp only
   by_cases c:x.2.s = 2
   ·rw [if_pos c]
    show (if brkR1 x.2 (rowP (log.take n) (log.take n).length a b i) = true then _ else _) = _
    obtain ⟨_,q,_,_,hq,_⟩:=(o.two (by omega)).up a b i ⟨hin,l,he'⟩
    have:brkR1 x.2 (rowP log n a b i) = false:=by
     unfold brkR1
     have hq':aftR x.2 (some 0) (rowP log n a b i) = some q:=hq
     rw [hq']; rfl
    rw [row_take hn,this]; rfl
   ·rw [if_neg c]; rfl
  | deed l h u y=>
   dsimp only
   split
   ·rename_i c
    show (if brkR1 x.2 (rowH h (log.take n)) = true then _ else _) = _
    obtain ⟨q,hq,_⟩:=o.one c.1 h
    have:brkR1 x.2 (rowH h (log.take n)) = false:=by unfold brkR1; rw [hq]; rfl
    rw [this]; rfl
   ·rfl
theorem row_other {h h' l:Int} {u:Str} {y:Int} (he:log[n]? = some (.deed l h u y)) (hne:h' ≠ h):rowH h' (log.take (n + 1)) = rowH h' (log.take n):=by
 rw [rowH_snoc he,rowT_one,if_neg (fun z=>hne z.symm),Option.toList_none,List.append_nil]
theorem brk_of {l h:Int} {u:Str} {y:Int} (hu:Unlike log) (he:log[n]? = some (.deed l h u y)) (ho:∀ (k:Nat) x d,xs[k]? = some x→(stT (numX xs) log n)[k]? = some d→KeepR x.2 d log n) {k i:Nat} {v:Bro} (hv:brkRow xs (log.take (n + 1)) k i = some v) :
  ∃ x,xs[k]? = some x∧((x.2.s = 1∧v = (k,[h],rowH h (log.take (n + 1)))∧(⟨k,x.1,0,[h]⟩ : Bk) ∈ brkT (numX xs) log n)∨(x.2.s = 2∧∃ a b s,i < n∧Tied log n a b i∧v = (k,[a,b],rowP log (n + 1) a b i)∧s ≤ i + 1∧(⟨k,x.1,s,[a,b]⟩ : Bk) ∈ brkT (numX xs) log n)):=by
 have hn:=(List.getElem?_eq_some_iff.mp he).1
 unfold brkRow at hv
 cases hx:xs[k]? with
 | none=>rw [hx] at hv; cases hv
 | some x=>
  rw [hx] at hv
  have hnl:(numX xs).length = xs.length:=by unfold numX; rw [List.length_map,List.length_zipIdx]
  have hk:=(List.getElem?_eq_some_iff.mp hx).1
  have hd:=List.getElem?_eq_getElem (l:=stT (numX xs) log n) (i:=k) (by rw [stT_len]; omega)
  generalize (stT (numX xs) log n)[k]'(by rw [stT_len]; omega) = d at hd
  have o:=ho k x d hx hd
  refine ⟨x,rfl,?_⟩
  have hv':(rowAt x.2.s (log.take (n + 1)) i).bind (fun p=>if brkR1 x.2 p.2 = true then some (k,p.1,p.2) else none) = some v:=hv
  unfold rowAt at hv'
  cases hi:(log.take (n + 1))[i]? with
  | none=>rw [hi] at hv'; cases hv'
  | some e=>
   rw [hi] at hv'
   obtain ⟨hin,hi'⟩:=take_at hi
   cases e with
   | tie l' a b=>
    dsimp only at hv'
    have hin':i < n:=by
     rcases Nat.lt_or_ge i n with z | z
     ·exact z
     ·rw [show i = n by omega,he] at hi'; cases hi'
    split at hv'
    ·rename_i c
     have hv2:(if brkR1 x.2 (rowP (log.take (n + 1)) (log.take (n + 1)).length a b i) = true then some (k,[a,b],rowP (log.take (n + 1)) (log.take (n + 1)).length a b i) else none) = some v:=hv'
     rw [row_take (by omega)] at hv2
     split at hv2
     ·rename_i cb
      cases hv2
      have ht:Tied log n a b i:=⟨hin',l',hi'⟩
      have hr:roomP x.2 log (n + 1) a b i = none:=by unfold brkR1 at cb; exact Option.isNone_iff_eq_none.mp cb
      obtain ⟨s,h1,h2⟩:=brk2_up (by omega) hu (o.two (by omega)) he ht hr
      exact .inr ⟨c,a,b,s,hin',ht,rfl,h1,(brkT_mem he).mpr ⟨k,x,d,hx,hd,rfl,rfl,h2⟩⟩
     ·cases hv2
    ·cases hv'
   | deed l' h' u' y'=>
    dsimp only at hv'
    split at hv'
    ·rename_i c
     have hv2:(if brkR1 x.2 (rowH h' (log.take (n + 1))) = true then some (k,[h'],rowH h' (log.take (n + 1))) else none) = some v:=hv'
     split at hv2
     ·rename_i cb
      cases hv2
      have hh:h' = h:=by
       refine Classical.byContradiction fun hne=>?_
       rw [row_other he hne] at cb
       obtain ⟨q,hq,_⟩:=o.one c.1 h'
       unfold brkR1 at cb
       rw [hq] at cb; cases cb
      subst hh
      refine .inl ⟨c.1,rfl,(brkT_mem he).mpr ⟨k,x,d,hx,hd,rfl,rfl,?_⟩⟩
      rw [brk_one c.1 (o.one c.1) he,if_pos (by unfold brkR1 at cb; exact Option.isNone_iff_eq_none.mp cb)]
      exact List.mem_singleton.mpr rfl
     ·cases hv2
    ·cases hv'
theorem first_deed {l h:Int} {u:Str} {y:Int} (he:log[n]? = some (.deed l h u y)):∃ i,i ≤ n∧(∃ l' u' y',log[i]? = some (.deed l' h u' y'))∧h ∉ knownH (log.take i):=by
 have key:∀ m,m ≤ n→(h ∈ knownH (log.take m)→∃ i,i < m∧(∃ l' u' y',log[i]? = some (.deed l' h u' y'))∧h ∉ knownH (log.take i)):=fun m=>by
  induction m with
  | zero=>intro _ hm; cases hm
  | succ m ih=>
   intro hmn hm
   by_cases c:h ∈ knownH (log.take m)
   ·obtain ⟨i,h1,h2⟩:=ih (by omega) c
    exact ⟨i,by omega,h2⟩
   ·have hn:=(List.getElem?_eq_some_iff.mp he).1
    have hle:=List.getElem?_eq_getElem (l:=log) (i:=m) (by omega)
    generalize log[m] = e at hle
    unfold knownH at hm c
    rw [List.take_add_one,hle,List.filterMap_append,List.mem_append] at hm
    rcases hm with hm | hm
    ·exact absurd hm c
    ·cases e with
     | tie=>cases hm
     | deed l' h' u' y'=>
      have hh:h = h':=by simpa [hOf] using hm
      subst hh
      exact ⟨m,by omega,⟨l',u',y',hle⟩,c⟩
 by_cases c:h ∈ knownH (log.take n)
 ·obtain ⟨i,h1,h2⟩:=key n (Nat.le_refl _) c
  exact ⟨i,by omega,h2⟩
 ·exact ⟨n,Nat.le_refl _,⟨l,u,y,he⟩,c⟩
theorem first_broken (hs:∀ x ∈ xs,RlOk x.2) (hu:Unlike log) {l h:Int} {u:Str} {y:Int} (he:log[n]? = some (.deed l h u y)) (ho:∀ (k:Nat) x d,xs[k]? = some x→(stT (numX xs) log n)[k]? = some d→KeepR x.2 d log n) {m:Bk} (hm:m ∈ brkT (numX xs) log n) (hmin:∀ x ∈ brkT (numX xs) log n,ltBk x m = false) :
  (brokenL xs (log.take (n + 1))).head? = some (m.pl,m.hs,rowL log m.st n m.hs)∧∃ x,xs[m.pl]? = some x∧x.1 = m.nm:=by
 have hn:=(List.getElem?_eq_some_iff.mp he).1
 obtain ⟨k,x,d,hx,hd,e1,e2,e3⟩:=(brkT_mem he).mp hm
 have o:=ho k x d hx hd
 have hk:=(List.getElem?_eq_some_iff.mp hx).1
 have hlen:(log.take (n + 1)).length = n + 1:=by rw [List.length_take]; omega
 refine ⟨?_,x,by rw [e1]; exact hx,e2.symm⟩
 rw [brokenL_head,e1]
 refine fs_some (n:=k) (fun j hj=>?_) ?_ hk
 ·refine fs_none fun i hi=>?_
  cases hv:brkRow xs (log.take (n + 1)) j i with
  | none=>rfl
  | some v=>
   obtain ⟨x',_,⟨_,_,hb⟩ | ⟨_,a,b,s,_,_,_,_,hb⟩⟩:=brk_of hu he ho hv
   ·have:=hmin _ hb
    unfold ltBk at this
    rw [if_neg (by show j ≠ m.pl; omega)] at this
    exact absurd (show j < m.pl by omega) (of_decide_eq_false this)
   ·have:=hmin _ hb
    unfold ltBk at this
    rw [if_neg (by show j ≠ m.pl; omega)] at this
    exact absurd (show j < m.pl by omega) (of_decide_eq_false this)
 ·rcases (hs x (List.mem_of_getElem? hx)).s with c | c
  ·have hb1:=e3
   rw [brk_one c (o.one c) he] at hb1
   split at hb1
   ·rename_i hnone
    have hb2:=List.mem_singleton.mp hb1
    have z1:m.st = 0:=congrArg Prod.fst hb2
    have z2:m.hs = [h]:=congrArg Prod.snd hb2
    have hv:rowL log m.st n m.hs = rowH h (log.take (n + 1)):=by
     rw [z1,z2]; rfl
    rw [hv,z2]
    refine fs_uniq ?_ (fun i w hi hw=>?_)
    ·obtain ⟨i,hi,⟨l',u',y',hi'⟩,hk'⟩:=first_deed he
     refine ⟨i,by omega,?_⟩
     unfold brkRow
     rw [hx]
     show (rowAt x.2.s (log.take (n + 1)) i).bind _ ≠ none
     unfold rowAt
     have hti:(log.take (n + 1))[i]? = some (.deed l' h u' y'):=by rw [List.getElem?_take,if_pos (by omega)]; exact hi'
     rw [hti]
     dsimp only
     rw [if_pos ⟨c,by rw [List.take_take,Nat.min_eq_left (by omega)]; exact hk'⟩]
     show (if brkR1 x.2 (rowH h (log.take (n + 1))) = true then _ else _) ≠ none
     rw [if_pos (by unfold brkR1; rw [hnone]; rfl)]
     simp
    ·obtain ⟨x',hx',⟨_,ev,_⟩ | ⟨c',_⟩⟩:=brk_of hu he ho hw
     ·exact ev
     ·rw [hx] at hx'; cases hx'; omega
   ·cases hb1
  ·obtain ⟨a,b,t,ep,ht,hr⟩:=brk2_dn (by omega) hu (o.two (by omega)) he e3
   have z1:m.st = t + 1:=congrArg Prod.fst ep
   have z2:m.hs = [a,b]:=congrArg Prod.snd ep
   have hv:rowL log m.st n m.hs = rowP log (n + 1) a b t:=by rw [z1,z2]; rfl
   rw [hv,z2]
   refine fs_some (n:=t) (fun i hi=>?_) ?_ (by have:=ht.1; omega)
   ·cases hw:brkRow xs (log.take (n + 1)) k i with
    | none=>rfl
    | some v=>
     obtain ⟨x',hx',⟨c',_⟩ | ⟨_,a',b',s,_,_,_,hsi,hb⟩⟩:=brk_of hu he ho hw
     ·rw [hx] at hx'; cases hx'; omega
     ·have:=hmin _ hb
      unfold ltBk at this
      rw [if_pos (by show k = m.pl; omega),if_neg (by show s ≠ m.st; omega)] at this
      exact absurd (show s < m.st by omega) (of_decide_eq_false this)
   ·obtain ⟨htn,l',hl'⟩:=ht
    unfold brkRow
    rw [hx]
    show (rowAt x.2.s (log.take (n + 1)) t).bind _ = _
    unfold rowAt
    have hti:(log.take (n + 1))[t]? = some (.tie l' a b):=by rw [List.getElem?_take,if_pos (by omega)]; exact hl'
    rw [hti]
    dsimp only
    rw [if_pos c,row_take (by omega)]
    show (if brkR1 x.2 (rowP log (n + 1) a b t) = true then _ else _) = _
    rw [if_pos (by unfold brkR1; have hr':aftR x.2 (some 0) (rowP log (n + 1) a b t) = none:=hr; rw [hr']; rfl)]
end
abbrev Tie:=Nat × Int × Int
def tieAt (log:List LogE) (t:Nat):Option Tie:=match log[t]? with | some (.tie _ a b)=>some (t,a,b) | _=>none
def tiesL (log:List LogE) (n:Nat):List Tie:=(List.range n).filterMap (tieAt log)
def tchG (h:Int) (u:Str) (p:Tie):Option (Tie × Str):=if h ∈ [p.2.1,p.2.2] then some (p,tirT [p.2.1,p.2.2] h u) else none
def tchL (log:List LogE) (n:Nat) (h:Int) (u:Str):List (Tie × Str):=(tiesL log n).filterMap (tchG h u)
def TieAt (H:Hp) (c:Addr) (p:Tie):Prop:=H c = some (.tup [.int (p.1:Int),.int p.2.1,.int p.2.2])
def TchAt (H:Hp) (c:Addr) (p:Tie × Str):Prop:=∃ d,H c = some (.tup [.ref d,.str p.2])∧TieAt H d p.1
theorem tiesL_mem {log:List LogE} {n:Nat} {p:Tie}:p ∈ tiesL log n ↔ Tied log n p.2.1 p.2.2 p.1:=by
 unfold tiesL
 rw [List.mem_filterMap]
 constructor
 ·rintro ⟨t,ht,e⟩
  unfold tieAt at e
  split at e
  ·rename_i l a b he
   cases e
   exact ⟨List.mem_range.mp ht,l,he⟩
  ·cases e
 ·rintro ⟨h1,l,h2⟩
  refine ⟨p.1,List.mem_range.mpr h1,?_⟩
  unfold tieAt
  rw [h2]
theorem tieAt_fst {log:List LogE} {t:Nat} {p:Tie} (h:tieAt log t = some p):p.1 = t:=by
 unfold tieAt at h
 split at h
 ·cases h; rfl
 ·cases h
theorem tiesL_sorted (log:List LogE) (n:Nat):(tiesL log n).Pairwise fun p q=>p.1 < q.1:=by
 unfold tiesL
 rw [List.pairwise_filterMap]
 refine List.Pairwise.imp ?_ (List.pairwise_lt_range (n:=n))
 intro a b hab p hp q hq
 rw [tieAt_fst hp,tieAt_fst hq]; exact hab
theorem tchG_fst {h:Int} {u:Str} {p:Tie} {q:Tie × Str} (e:tchG h u p = some q):q.1 = p∧h ∈ [p.2.1,p.2.2]∧q.2 = tirT [p.2.1,p.2.2] h u:=by
 unfold tchG at e
 split at e
 ·rename_i c; cases e; exact ⟨rfl,c,rfl⟩
 ·cases e
theorem tchL_mem {log:List LogE} {n:Nat} {h:Int} {u:Str} {q:Tie × Str}:q ∈ tchL log n h u ↔ Tied log n q.1.2.1 q.1.2.2 q.1.1∧h ∈ [q.1.2.1,q.1.2.2]∧q.2 = tirT [q.1.2.1,q.1.2.2] h u:=by
 unfold tchL
 rw [List.mem_filterMap]
 constructor
 ·rintro ⟨p,hp,e⟩
  obtain ⟨e1,e2,e3⟩:=tchG_fst e
  rw [e1]; exact ⟨tiesL_mem.mp hp,e2,e3⟩
 ·rintro ⟨h1,h2,h3⟩
  refine ⟨q.1,tiesL_mem.mpr h1,?_⟩
  unfold tchG
  rw [if_pos h2,← h3]
theorem tchL_sorted (log:List LogE) (n:Nat) (h:Int) (u:Str):(tchL log n h u).Pairwise fun p q=>p.1.1 < q.1.1:=by
 unfold tchL
 rw [List.pairwise_filterMap]
 refine List.Pairwise.imp ?_ (tiesL_sorted log n)
 intro a b hab p hp q hq
 rw [(tchG_fst hp).1,(tchG_fst hq).1]; exact hab
abbrev Due:=Option (Nat × Str × List Int × List Str)
def dueAt (xs:List (Str × Rl)) (log:List LogE) (n:Nat):Due:=(brokenL xs (log.take (n + 1))).head?.bind fun v=>(xs[v.1]?).map fun x=>(n,x.1,v.2.1,v.2.2)
def dueP (xs:List (Str × Rl)) (log:List LogE):Due:=(List.range log.length).findSome? (dueAt xs log)
def OutAt (H H':Hp) (v:V):Due→Prop
 | none=>v = .non
 | some (n,nm,hs,row)=>∃ t,v = .ref t∧BrAt H H' t n nm hs row
theorem due_nil {xs:List (Str × Rl)} {log:List LogE} {n:Nat} (h:brokenL xs (log.take (n + 1)) = []):dueAt xs log n = none:=by
 unfold dueAt; rw [h]; rfl
def spIn3:Sp:=fun vs H Q _=>∃ (b lg:Addr) (bs ls:List Addr) (xs:List (Str × Rl)) (log:List LogE),vs = [.ref b,.ref lg]∧H b = some (.lst (bs.map V.ref))∧Paired (NmAt H) bs xs∧xs.length ≤ 20∧(∀ x ∈ xs,RlOk x.2∧x.2.ws.Nodup)∧H lg = some (.lst (ls.map V.ref))∧Paired (EntAt H) ls log∧log.length ≤ 90∧(∀ l x u y,LogE.deed l x u y ∈ log→u.length ≤ 1000)∧Unlike log∧
 ∀ (v:V) (H':Hp),Same H H'→OutAt H H' v (dueP xs log)→Q v H'
theorem in_three {CW:Addr} (c:Cal P w K mg base 6 "breach_in" ["rules", "log"] (spInX CW)):Cal P w K mg base 6 "breach_in" ["rules", "log"] spIn3:=by
 obtain ⟨f,fd,F,b,kp,m⟩:=c.ex
 refine ⟨f,fd,F.imp (fun vs H Q E h=>?_),b,kp,m⟩
 obtain ⟨b,lg,bs,ls,xs,log,rfl,eb,pb,hxl,hok,elg,pl,hll,hws,hu,q⟩:=h
 have hok':∀ x ∈ xs,RlOk x.2:=fun x hx=>(hok x hx).1
 refine ⟨b,lg,bs,ls,xs,log,rfl,eb,pb,hxl,hok,elg,pl,hll,hws,fun n l h u y he hb=>⟨fun k x d hx hd=>?_,fun m hm=>?_⟩,fun hb H' s=>?_,fun n m hn hb hm hmin t H' s br=>?_⟩
 ·have hn:=(List.getElem?_eq_some_iff.mp he).1
  have o:=stT_keep hu hb (by omega) k x d hx hd
  by_cases c:x.2.s = 1
  ·exact rows_nd1 c
  ·exact rows_nd2 c hu (o.two c)
 ·obtain ⟨k,x,d,hx,hd,_,_,h3⟩:=(brkT_mem he).mp hm
  have:=all_hs h3
  show m.hs.length = 1∨m.hs.length = 2
  have e:m.hs.length = if x.2.s = 1 then 1 else 2:=this
  rw [e]
  split
  ·exact .inl rfl
  ·exact .inr rfl
 ·refine q .non H' s ?_
  have:dueP xs log = none:=fs_none fun i hi=>due_nil (no_broken hok' (by omega) (stT_keep (xs:=xs) hu (fun j hj=>hb j (by omega)) (by omega)))
  rw [this]; rfl
 ·have ho:=stT_keep (xs:=xs) hu hb (by omega)
  have hle:=List.getElem?_eq_getElem hn
  generalize log[n] = e at hle
  cases e with
  | tie=>unfold brkT at hm; rw [hle] at hm; cases hm
  | deed l h u y=>
   obtain ⟨h1,x,hx,ex⟩:=first_broken hok' hu hle ho hm hmin
   have:dueP xs log = some (n,m.nm,m.hs,rowL log m.st n m.hs):=by
    refine fs_some (fun i hi=>due_nil (no_broken hok' (by omega) (stT_keep (xs:=xs) hu (fun j hj=>hb j (by omega)) (by omega)))) ?_ hn
    unfold dueAt
    rw [h1]
    show (xs[m.pl]?).map _ = _
    rw [hx,← ex]; rfl
   refine q (.ref t) H' s ?_
   rw [this]
   exact ⟨t,rfl,br⟩
theorem sdT_1 (u:Str):sdT 1 u = ("1." : Str) ++ u:=by
 unfold sdT
 rw [if_neg (by decide)]
 have:(Str.empty ++ Str.ofString (toString (1:Int)) ++ Str.ofString "." : Str) = ("1." : Str):=by decide +kernel
 rw [this]
theorem sdT_2 (u:Str):sdT 2 u = ("2." : Str) ++ u:=by
 unfold sdT
 rw [if_neg (by decide)]
 have:(Str.empty ++ Str.ofString (toString (2:Int)) ++ Str.ofString "." : Str) = ("2." : Str):=by decide +kernel
 rw [this]
theorem col_at {r:Rl} {q i:Nat} (hq:q < r.rs.length):(colOf r i).getD q none = r.rs[q].getD i none:=by
 unfold colOf
 rw [List.getD_eq_getElem?_getD,List.getElem?_map,List.getElem?_eq_getElem hq]; rfl
def spNext:Sp:=fun vs H Q _=>∃ (p:Addr) (r:Rl) (q:Nat) (u:Str),vs = [.ref p,.int (q:Int),.str u]∧RuleAt H p r∧RlOk r∧q < r.rs.length∧Q (wayV (goR r q u)) H
theorem ok_next (D:DefAt K mg "_law_next" s_law_next):Cal P w K mg base 1 "_law_next" ["_law_rule_here", "_law_room", "_law_text"] spNext:=by
 refine D.cal (k:=0) sc_law_next (fun _ _ _ _ _ _ us hl=>match us,hl with | [_,_,_],_=>rfl) (fun vs H Q E h=>by obtain ⟨_,_,_,_,rfl,_⟩:=h; rfl) (fun f cdv A outer s H vs Q E hr h=>?_)
 obtain ⟨p,r,z,u,rfl,hR,ok,hzr,q⟩:=h
 obtain ⟨pw,pr,as,r1,r2,r3,r4,r5⟩:=hR
 refine ⟨_,(pss_cons (ps_if (pt_cmpR (op_inK K) (pv 2 (hv:=vz33)) (pe_ix (ix_K K) (pv 0 (hv:=vz31)) pe_int (fun _ _=>rfl)) (by with_unfolding_all rfl)) (pss_one (ps_ret (pe_ix (ix_K K) (pe_ix (ix_K K) (pe_ix (ix_K K) (pv 0 (hv:=vz31)) pe_int (fun _ _=>rfl)) (pv 1 (hv:=vz32)) (fun _ _=>rfl)) (pe_bmK K PySem.F.plainAttrs_list PySem.F.slot_list_index PySem.F.type_list_index (mt_indexS K) (pe_ix (ix_K K) (pv 0 (hv:=vz31)) pe_int (fun _ _=>rfl)) (pa_cons (pv 2 (hv:=vz33)) pa_nil)) (fun _ _=>rfl)))) pss_nil)
   (pss_one (ps_ret (pv 1 (hv:=vz32))))),?_⟩
 walk_at "rd1"
 refine ⟨_,_,.inr (SqT.of r1),rfl,?_⟩
 walk_at "rd1"
 refine ⟨_,.inl (SqL.of r2),rfl,flat_strs _,?_⟩
 rw [inV_str]
 refine ite2 (fun c=>?_) (fun c=>?_)
 ·have hu:u ∈ r.ws:=of_decide_eq_true c
  have hgo:goR r z u = r.rs[z].getD (r.ws.idxOf u) none:=by unfold goR; rw [if_pos hu,col_at hzr]
  have hrz:=List.getElem?_eq_getElem hzr
  have haz':z < as.length:=by omega
  have hrow':=r5 z as[z] r.rs[z] (List.getElem?_eq_getElem haz') hrz
  have hxl:=(ok.row r.rs[z] (List.getElem_mem hzr)).1
  have hj:r.ws.idxOf u < r.rs[z].length:=by rw [hxl]; exact List.idxOf_lt_length_iff.mpr hu
  have hval:(r.rs[z].map wayV)[r.ws.idxOf u]? = some (wayV (goR r z u)):=by
   rw [List.getElem?_map,List.getElem?_eq_getElem hj,hgo,List.getD_eq_getElem?_getD,List.getElem?_eq_getElem hj]; rfl
  refine ⟨_,_,.inr (SqT.of r1),rfl,?_⟩
  walk_at "rd1"
  refine ⟨_,_,.inl (SqL.of r3),atI_nat (by rw [List.getElem?_map,List.getElem?_eq_getElem haz']; rfl),?_⟩
  refine ⟨_,_,.inr (SqT.of r1),rfl,?_⟩
  walk_at "rd1"
  refine ⟨⟨_,SqL.of r2⟩,r.ws,SqL.of r2,hu,?_⟩
  exact ⟨_,_,.inl (SqL.of hrow'),atI_nat hval,q⟩
 ·have hu:u ∉ r.ws:=of_decide_eq_false (by simpa using c)
  have hgo:goR r z u = some z:=by unfold goR; rw [if_neg hu]
  rw [hgo] at q
  walk_at "nx"
  exact q
theorem go_lt {r:Rl} {q j:Nat} {u:Str} (ok:RlOk r) (hq:q < r.rs.length) (h:goR r q u = some j):j < r.rs.length:=by
 unfold goR at h
 split at h
 ·obtain ⟨j',e1,e2⟩:=col_some (r:=r) (i:=r.ws.idxOf u) (q:=q) ok (by rw [h]; simp)
  rw [List.getD_eq_getElem?_getD,e1] at h
  cases h; exact e2
 ·cases h; exact hq
def spTouched:Sp:=fun vs H Q _=>∃ (tl ep:Addr) (cs:List Addr) (ties:List Tie) (l h:Int) (u:Str) (y:Int),vs = [.int 2,.ref tl,.ref ep]∧H tl = some (.lst (cs.map V.ref))∧Paired (TieAt H) cs ties∧(∀ p ∈ ties,p.2.1 ≠ p.2.2)∧ties.length ≤ 90∧EntAt H ep (.deed l h u y)∧u.length ≤ 1000∧
 ∀ (a:Addr) (as:List Addr) (H':Hp),Same H H'→H a = none→H' a = some (.lst (as.map V.ref))→Paired (TchAt H') as (ties.filterMap (tchG h u))→Q (.ref a) H'
theorem ok_touched (D:DefAt K mg "_law_touched" s_law_touched) (z_int:mg "int" = none):Cal P w K mg base 1 "_law_touched" ["_law_sides", "_law_ties", "_law_entry_here"] spTouched:=by
 refine D.cal (k:=0) sc_law_touched (fun _ _ _ _ _ _ us hl=>match us,hl with | [_,_,_],_=>rfl) (fun vs H Q E h=>by obtain ⟨_,_,_,_,_,_,_,_,rfl,_⟩:=h; rfl) (fun f cdv A outer s H vs Q E hr h=>?_)
 obtain ⟨tl,ep,cs,ties,l,h,u,y,rfl,etl,pt,hun,hl9,eep,hul,q⟩:=h
 have hlen:=paired_lenW pt
 refine ⟨_,(pss_cons (ps_if (pt_cmpR op_eqA (pv 0 (hv:=vz38)) pe_int (nomark _)) (pss_one (ps_ret (pe_lst (pa_cons (pe_tup (pa_cons (pe_tup (pa_cons pe_int (pa_cons (pe_ix (ix_K K) (pv 2 (hv:=vz3a)) pe_int (fun _ _=>rfl)) pa_nil))) (pa_cons (pe_ix (ix_K K) (pv 2 (hv:=vz3a)) pe_int (fun _ _=>rfl)) pa_nil))) pa_nil)))) pss_nil)
   (pss_one (ps_ret (pe_comp (CompSc.to (fsc:=(defScope s_law_touched)) (N:=["_law_sides", "_law_ties", "_law_entry_here"]) (N0:=["_law_sides", "_law_ties", "_law_entry_here"]) (T:=["_law_tie"]) ⟨by decide +kernel,by decide +kernel,by decide +kernel,by decide +kernel,by decide +kernel,by decide +kernel,by decide +kernel⟩ rfl rfl) rfl (pi_listK K (pv 1 (hv:=vz39))) (fun _ _ _ _=>(pg_let 3 (show (["_law_sides", "_law_ties", "_law_entry_here", "_law_tie"]:List Str).Nodup from by decide +kernel) (hx:=(locC (defScope s_law_touched) (by decide +kernel))) (hf:=fnC (defScope s_law_touched) (by decide +kernel)))) (gfr_name (show (["_law_sides", "_law_ties", "_law_entry_here"]:List Str).length ≤ 3 from by decide)) (fun _ _ _ _=>(pifs_one (pt_cmpR (op_inK K) (pe_ix (ix_K K) (pv 2 (hv:=(visC (defScope s_law_touched) (by decide +kernel)))) pe_int (fun _ _=>rfl)) (pe_slice (sl_tupA K) (pv 3 (hv:=(visC (defScope s_law_touched) (by decide +kernel)))) (po_some pe_int) po_none) (by with_unfolding_all rfl)))) (fun _ _ _ _=>(pe_tup (pa_cons (pv 3 (hv:=(visC (defScope s_law_touched) (by decide +kernel)))) (pa_cons (pe_op op_addA (pe_ix (ix_K K) (pe_lst (pa_cons pe_str (pa_cons pe_str pa_nil))) (pe_bty call_intA z_int bt_int (pa_cons (pe_cmpR op_eqA (pe_ix (ix_K K) (pv 2 (hv:=(visC (defScope s_law_touched) (by decide +kernel)))) pe_int (fun _ _=>rfl)) (pe_ix (ix_K K) (pv 3 (hv:=(visC (defScope s_law_touched) (by decide +kernel)))) pe_int (fun _ _=>rfl)) (nomark _)) pa_nil) (hg:=(glC (defScope s_law_touched) (by decide +kernel)))) (fun _ _=>rfl)) (pe_ix (ix_K K) (pv 2 (hv:=(visC (defScope s_law_touched) (by decide +kernel)))) pe_int (fun _ _=>rfl))) pa_nil)))))))),?_⟩
 walk_at "rd1"
 refine ite2 (fun c=>absurd c (by decide)) (fun _=>?_)
 walk_at "nx"
 refine ⟨⟨_,SqL.of etl⟩,fun L hL=>?_⟩
 refine compT_list (xs:=cs.map V.ref) (fun j ys H5=>∃ as:List Addr,ys = as.map V.ref∧as.length ≤ j∧Same H H5∧H5 L = some (.lst ys)∧Paired (TchAt H5) as ((ties.take j).filterMap (tchG h u))) ⟨[],rfl,Nat.le_refl _,same_new hL _,upd_same,.nil⟩ (fun j ys H5 _ hh=>by obtain ⟨_,_,_,sm,_⟩:=hh; exact SqL.of (sm _ _ etl)) ?_ ?_
 ·rintro j ys H5 v hv hj ⟨as,rfl,hal,sm5,hl,pa⟩
  rw [List.length_map] at hj
  rw [List.getElem?_map,List.getElem?_eq_getElem hj] at hv
  cases hv
  have hj':j < ties.length:=by omega
  have hx:=List.getElem?_eq_getElem hj'
  have hat:TieAt H cs[j] ties[j]:=paired_get (F:=TieAt H) pt (List.getElem?_eq_getElem hj) hx
  have hne:=hun _ (List.getElem_mem hj')
  generalize cs[j] = c at hat
  generalize ties[j] = p at hx hat hne
  obtain ⟨t,a,b⟩:=p
  have hab:a ≠ b:=hne
  have hat5:SqT K H5 c [.int (t:Int),.int a,.int b]:=SqT.of (sm5 _ _ hat)
  have eep5:=sm5 _ _ eep
  have etk:(ties.take (j + 1)).filterMap (tchG h u) = (ties.take j).filterMap (tchG h u) ++ (tchG h u (t,a,b)).toList:=by
   rw [List.take_add_one,hx,List.filterMap_append]
   show _ ++ List.filterMap (tchG h u) [(t,a,b)] = _
   rw [List.filterMap_cons]
   cases tchG h u (t,a,b) <;> rfl
  walk_at "rd1"
  refine ⟨_,_,.inr (SqT.of eep5),rfl,?_⟩
  refine rSlTA_of hat5 (fun tp H6 s6 htp=>?_)
  have ect:cutV [V.int (t:Int),.int a,.int b] (some 1) none = [a,b].map V.int:=rfl
  rw [ect] at htp
  walk_at "rd1"
  refine ⟨_,.inr htp,rfl,rfl,?_⟩
  have hiv:=inV_ints h [a,b]
  have sm6:=sm5.trans s6
  have pa6:Paired (TchAt H6) as ((ties.take j).filterMap (tchG h u)):=paired_imp (fun _ _ z=>by obtain ⟨d,z1,z2⟩:=z; exact ⟨d,s6 _ _ z1,s6 _ _ z2⟩) pa
  refine ite2 (fun cm=>?_) (fun cm=>?_)
  ·have hm:h ∈ [a,b]:=hiv.mp cm
   have er:tchG h u (t,a,b) = some ((t,a,b),tirT [a,b] h u):=by unfold tchG; rw [if_pos hm]
   refine ⟨by decide,fun p2 hp2=>?_⟩
   have s7:=same_new hp2 (.lst [V.str "1.", V.str "2."])
   have ep2:upd H6 p2 (.lst [V.str "1.", V.str "2."]) p2 = some (.lst [V.str "1.", V.str "2."]):=upd_same
   generalize upd H6 p2 (.lst [V.str "1.", V.str "2."]) = H7 at s7 ep2 ⊢
   have s57:=s6.trans s7
   refine ⟨_,_,.inr (SqT.of (s57 _ _ eep5)),rfl,_,_,.inr (SqT.of (s57 _ _ (sm5 _ _ hat))),rfl,?_⟩
   walk_at "rd1"
   have hlen2:(tirT [a,b] h u).length ≤ 1002∧∃ v:Str,atI [V.str "1.", V.str "2."] (if h = b then 1 else 0) = some (.str v)∧v.length = 2∧tirT [a,b] h u = v ++ u:=by
    by_cases hb:h = b
    ·subst hb
     rw [tir_snd hab,sdT_2,Str.length_append,show (("2." : Str).length) = 2 by decide +kernel]
     exact ⟨by omega, "2.", by rw [if_pos rfl]; rfl,by decide +kernel,rfl⟩
    ·have ha:h = a:=by
      have:h = a∨h = b:=by simpa using hm
      exact this.resolve_right hb
     subst ha
     rw [tir_fst,sdT_1,Str.length_append,show (("1." : Str).length) = 2 by decide +kernel]
     exact ⟨by omega, "1.", by rw [if_neg hb]; rfl,by decide +kernel,rfl⟩
   obtain ⟨htl,v,hv,hv2,htv⟩:=hlen2
   refine ⟨_,_,.inl (SqL.of ep2),hv,_,_,.inr (SqT.of (s57 _ _ eep5)),rfl,?_⟩
   walk_at "rd1"
   refine ⟨by rw [hv2]; exact smallL (by omega),by decide,fun tq htq=>?_⟩
   have s8:=same_new htq (.tup [.ref c,.str (v ++ u)])
   have etq:upd H7 tq (.tup [.ref c,.str (v ++ u)]) tq = some (.tup [.ref c,.str (v ++ u)]):=upd_same
   generalize upd H7 tq (.tup [.ref c,.str (v ++ u)]) = H8 at s8 etq ⊢
   have s58:=s57.trans s8
   have hl8:=s58 _ _ hl
   have tp:∀ c ys,H8 c = some (.tup ys)→upd H8 L (.lst (as.map V.ref ++ [.ref tq])) c = some (.tup ys):=fun c ys z=>by rw [upd_ne (fun g=>by rw [g,hl8] at z; cases z)]; exact z
   refine cstepT (by rw [List.length_map]; exact hj) (by rw [List.length_map]; exact hal) (by rw [List.length_map]; exact smallL (by omega)) hl8 ⟨as ++ [tq],map_push _ _,by simp; omega,(sm5.trans s58).upd hL _,upd_same,?_⟩
   rw [etk,er]
   refine paired_snocW (R:=TchAt (upd H8 L (HO.lst (as.map V.ref ++ [V.ref tq])))) (x:=tq) (y:=((t,a,b),tirT [a,b] h u)) ⟨c,by rw [htv]; exact tp _ _ etq,tp _ _ (s58 _ _ (sm5 _ _ hat))⟩ (paired_imp (fun _ _ z=>by obtain ⟨d,z1,z2⟩:=z; exact ⟨d,tp _ _ (s8 _ _ (s7 _ _ z1)),tp _ _ (s8 _ _ (s7 _ _ z2))⟩) pa6)
  ·have hm:¬ h ∈ [a,b]:=fun z=>cm (hiv.mpr z)
   have er:tchG h u (t,a,b) = none:=by unfold tchG; rw [if_neg hm]
   exact cskip (by rw [List.length_map]; exact hj) ⟨as,rfl,by omega,sm6,s6 _ _ hl,by rw [etk,er]; show Paired _ _ (_ ++ []); rw [List.append_nil]; exact pa6⟩
 ·rintro ys H5 ⟨as,rfl,hal,sm5,hl,pa⟩
  rw [List.length_map,hlen,List.take_length] at pa
  exact q L as H5 sm5 hL hl pa
def spRowL:Sp:=fun vs H Q _=>∃ (lg kp:Addr) (ls:List Addr) (log:List LogE) (t:Nat) (a b:Int),vs = [.ref lg,.ref kp]∧H lg = some (.lst (ls.map V.ref))∧Paired (EntAt H) ls log∧TieAt H kp (t,a,b)∧a ≠ b∧log.length ≤ 90∧(∀ l x u y,LogE.deed l x u y ∈ log→u.length ≤ 1000)∧
 ∀ (r:Addr) (H':Hp),Same H H'→H r = none→H' r = some (.lst (((log.drop t).filterMap (rowT [a,b])).map V.str))→Q (.ref r) H'
theorem ok_rowL (D:DefAt K mg "_law_row_of" s_law_row_of) (z_len:mg "len" = none) (z_int:mg "int" = none):Cal P w K mg base 1 "_law_row_of" ["_law_log", "_law_key"] spRowL:=by
 refine D.cal (k:=0) sc_law_row_of (fun _ _ _ _ _ _ us hl=>match us,hl with | [_,_],_=>rfl) (fun vs H Q E h=>by obtain ⟨_,_,_,_,_,_,_,rfl,_⟩:=h; rfl) (fun f cdv A outer s H vs Q E hr h=>?_)
 obtain ⟨lg,kp,ls,log,t,a,b,rfl,elg,pl,ekp,hab,hll,hws,q⟩:=h
 have hlen:=paired_lenW pl
 refine ⟨_,(pss_cons (ps_let 2 sc_law_row_of.nd (pe_lst pa_nil) (hx:=lz1c))
   (pss_cons (ps_for PassesOwn.never rfl (pi_listK K (pe_slice (sl_listK K) (pv 0 (hv:=vz34)) (po_some (pe_ix (ix_K K) (pv 1 (hv:=vz35)) pe_int (fun _ _=>rfl))) po_none)) (pg_let 3 sc_law_row_of.nd (hx:=lz1d)) (pss_cons (ps_if (PW.pt' (pw_and (pt_cmpR op_eqA (pe_blt (call_lenK K) z_len bt_len (pa_cons (pv 3 (hv:=vz37)) pa_nil) (hg:=gzw)) pe_int (nomark _)) (pw_and (pt_cmpR op_eqA (pe_blt (call_lenK K) z_len bt_len (pa_cons (pv 1 (hv:=vz35)) pa_nil) (hg:=gzw)) pe_int (nomark _)) (pw_and1 (pt_cmpR op_eqA (pe_ix (ix_K K) (pv 3 (hv:=vz37)) pe_int (fun _ _=>rfl)) (pe_ix (ix_K K) (pv 1 (hv:=vz35)) pe_int (fun _ _=>rfl)) (nomark _)))))) (pss_one (ps_expr (pe_bmK K PySem.F.plainAttrs_list PySem.F.slot_list_append PySem.F.type_list_append mt_appendA (pv 2 (hv:=vz36)) (pa_cons (pe_ix (ix_K K) (pv 3 (hv:=vz37)) pe_int (fun _ _=>rfl)) pa_nil)))) pss_nil)
   (pss_one (ps_if (PW.pt' (pw_and (pt_cmpR op_eqA (pe_blt (call_lenK K) z_len bt_len (pa_cons (pv 3 (hv:=vz37)) pa_nil) (hg:=gzw)) pe_int (nomark _)) (pw_and (pt_cmpR op_eqA (pe_blt (call_lenK K) z_len bt_len (pa_cons (pv 1 (hv:=vz35)) pa_nil) (hg:=gzw)) pe_int (nomark _)) (pw_and1 (pt_cmpR (op_inK K) (pe_ix (ix_K K) (pv 3 (hv:=vz37)) pe_int (fun _ _=>rfl)) (pe_slice (sl_tupA K) (pv 1 (hv:=vz35)) (po_some pe_int) po_none) (by with_unfolding_all rfl)))))) (pss_one (ps_expr (pe_bmK K PySem.F.plainAttrs_list PySem.F.slot_list_append PySem.F.type_list_append mt_appendA (pv 2 (hv:=vz36)) (pa_cons (pe_op op_addA (pe_ix (ix_K K) (pe_lst (pa_cons pe_str (pa_cons pe_str pa_nil))) (pe_bty call_intA z_int bt_int (pa_cons (pe_cmpR op_eqA (pe_ix (ix_K K) (pv 3 (hv:=vz37)) pe_int (fun _ _=>rfl)) (pe_ix (ix_K K) (pv 1 (hv:=vz35)) pe_int (fun _ _=>rfl)) (nomark _)) pa_nil) (hg:=gzv)) (fun _ _=>rfl)) (pe_ix (ix_K K) (pv 3 (hv:=vz37)) pe_int (fun _ _=>rfl))) pa_nil)))) pss_nil))))
   (pss_one (ps_ret (pv 2 (hv:=vz36)))))),?_⟩
 walk_at "rd1"
 refine ⟨by decide,fun L hL=>?_⟩
 have s3:=same_new hL (.lst [])
 have eL0:upd H L (.lst []) L = some (.lst []):=upd_same
 generalize upd H L (.lst []) = H3 at s3 eL0 ⊢
 walk_at "nx"
 refine ⟨_,_,.inr (SqT.of (s3 _ _ ekp)),rfl,?_⟩
 walk_at "rd1"
 refine ⟨_,SqL.of (s3 _ _ elg),fun sp hsp=>?_⟩
 rw [cutV_from,← List.map_drop]
 have s4:=same_new hsp (.lst ((ls.drop t).map V.ref))
 have esp:upd H3 sp (.lst ((ls.drop t).map V.ref)) sp = some (.lst ((ls.drop t).map V.ref)):=upd_same
 have eL4:=s4 _ _ eL0
 have nspL:sp ≠ L:=fun z=>by rw [z,eL0] at hsp; cases hsp
 generalize upd H3 sp (.lst ((ls.drop t).map V.ref)) = H4 at s4 esp eL4 ⊢
 have s24:=s3.trans s4
 have plt:=paired_drop pl t
 have hdl:(ls.drop t).length = (log.drop t).length:=paired_lenW plt
 have hdl2:(log.drop t).length ≤ 90:=by rw [List.length_drop]; omega
 refine ⟨⟨_,SqL.of esp⟩,?_⟩
 refine forW_list (xs:=(ls.drop t).map V.ref) (fun j σ H5=>∃ (o3:Option V) (ys:List Str),σ = [some (.ref lg),some (.ref kp),some (.ref L),o3]∧SameB L H4 H5∧H5 L = some (.lst (ys.map V.str))∧ys = ((log.drop t).take j).filterMap (rowT [a,b])∧ys.length ≤ j)
  ⟨_,[],rfl,fun _ _ _ z=>z,eL4,rfl,Nat.le_refl _⟩ (fun j σ H5 _ hh=>by obtain ⟨_,_,_,sb,_⟩:=hh; exact SqL.of (sb _ _ nspL esp)) (fun j v σ H5 hv hh=>?_) (fun σ H5 hh=>?_)
 ·obtain ⟨o3,ys,rfl,sb,eL,hys,hyl⟩:=hh
  have sm5:Same H H5:=fun g o z=>sb g o (ne_of_none z hL) (s24 g o z)
  rw [List.getElem?_map] at hv
  cases hj:(ls.drop t)[j]? with
  | none=>rw [hj] at hv; cases hv
  | some e0=>
   rw [hj] at hv; cases hv
   have hj2:j < (log.drop t).length:=by rw [← hdl]; exact (List.getElem?_eq_some_iff.mp hj).1
   have hx:=List.getElem?_eq_getElem hj2
   have hat3:H e0 = some (.tup (entV (log.drop t)[j])):=paired_get (F:=EntAt H) plt hj hx
   have hmem:(log.drop t)[j] ∈ log:=List.mem_of_mem_drop (List.getElem_mem hj2)
   generalize (log.drop t)[j] = e at hx hat3 hmem
   have etk:((log.drop t).take (j + 1)).filterMap (rowT [a,b]) = ((log.drop t).take j).filterMap (rowT [a,b]) ++ (rowT [a,b] e).toList:=by
    rw [List.take_add_one,hx,List.filterMap_append]
    show _ ++ List.filterMap (rowT [a,b]) [e] = _
    rw [List.filterMap_cons]
    cases rowT [a,b] e <;> rfl
   have hat5:=sm5 _ _ hat3
   have hkp5:SqT K H5 kp [.int (t:Int),.int a,.int b]:=SqT.of (sm5 _ _ ekp)
   walk_at "rd1"
   refine ⟨_,.inr (SqT.of hat5),?_⟩
   cases e with
   | tie l' a' b'=>
    refine ite2 (fun c=>absurd c (by simp [entV])) (fun _=>?_)
    walk_at "nx"
    refine ⟨_,.inr (SqT.of hat5),?_⟩
    refine ite2 (fun c=>absurd c (by simp [entV])) (fun _=>?_)
    exact ⟨_,ys,rfl,sb,eL,by rw [etk,hys]; show _ = _ ++ []; rw [List.append_nil],by omega⟩
   | deed l' h u y=>
    refine ite2 (fun _=>?_) (fun c=>absurd rfl c)
    refine ⟨_,.inr hkp5,?_⟩
    refine ite2 (fun c=>absurd c (by simp)) (fun _=>?_)
    walk_at "nx"
    refine ⟨_,.inr (SqT.of hat5),?_⟩
    refine ite2 (fun _=>?_) (fun c=>absurd rfl c)
    refine ⟨_,.inr hkp5,?_⟩
    refine ite2 (fun _=>?_) (fun c=>absurd rfl c)
    refine ⟨_,_,.inr (SqT.of hat5),rfl,?_⟩
    refine rSlTA_of hkp5 (fun tp H6 s6 htp=>?_)
    have ect:cutV [V.int (t:Int),.int a,.int b] (some 1) none = [a,b].map V.int:=rfl
    rw [ect] at htp
    walk_at "rd1"
    refine ⟨_,.inr htp,rfl,rfl,?_⟩
    have hiv:=inV_ints h [a,b]
    have sb6:SameB L H4 H6:=fun g o hg z=>s6 _ _ (sb g o hg z)
    have eL6:=s6 _ _ eL
    refine ite2 (fun cm=>?_) (fun cm=>?_)
    ·have hm:h ∈ [a,b]:=hiv.mp cm
     have er:rowT [a,b] (.deed l' h u y) = some (tirT [a,b] h u):=by show (if h ∈ [a,b] then some _ else none) = _; rw [if_pos hm]
     have hul:=hws l' h u y hmem
     refine ⟨⟨_,SqL.of eL6⟩,by decide,fun p2 hp2=>?_⟩
     have s7:=same_new hp2 (.lst [V.str "1.", V.str "2."])
     have ep2:upd H6 p2 (.lst [V.str "1.", V.str "2."]) p2 = some (.lst [V.str "1.", V.str "2."]):=upd_same
     generalize upd H6 p2 (.lst [V.str "1.", V.str "2."]) = H7 at s7 ep2 ⊢
     have s57:=s6.trans s7
     have eL7:=s7 _ _ eL6
     refine ⟨_,_,.inr (SqT.of (s57 _ _ hat5)),rfl,_,_,.inr (SqT.of (s57 _ _ (sm5 _ _ ekp))),rfl,?_⟩
     walk_at "rd1"
     have hlen2:(tirT [a,b] h u).length ≤ 1002∧∃ v:Str,atI [V.str "1.", V.str "2."] (if h = b then 1 else 0) = some (.str v)∧v.length = 2∧tirT [a,b] h u = v ++ u:=by
      by_cases hb:h = b
      ·subst hb
       rw [tir_snd hab,sdT_2,Str.length_append,show (("2." : Str).length) = 2 by decide +kernel]
       exact ⟨by omega, "2.", by rw [if_pos rfl]; rfl,by decide +kernel,rfl⟩
      ·have ha:h = a:=by
        have:h = a∨h = b:=by simpa using hm
        exact this.resolve_right hb
       subst ha
       rw [tir_fst,sdT_1,Str.length_append,show (("1." : Str).length) = 2 by decide +kernel]
       exact ⟨by omega, "1.", by rw [if_neg hb]; rfl,by decide +kernel,rfl⟩
     obtain ⟨htl,v,hv,hv2,htv⟩:=hlen2
     refine ⟨_,_,.inl (SqL.of ep2),hv,_,_,.inr (SqT.of (s57 _ _ hat5)),rfl,?_⟩
     walk_at "rd1"
     refine ⟨by rw [hv2]; exact smallL (by omega),_,eL7,small' (by rw [List.length_map]; have:=(List.getElem?_eq_some_iff.mp hj).1; omega),_,ys ++ [tirT [a,b] h u],rfl,fun g o hg z=>by rw [upd_ne hg]; exact s7 _ _ (sb6 g o hg z),by rw [upd_same,List.map_append,htv]; rfl,by rw [etk,er,hys]; rfl,by simp; omega⟩
    ·have hm:¬ h ∈ [a,b]:=fun z=>cm (hiv.mpr z)
     have er:rowT [a,b] (.deed l' h u y) = none:=by show (if h ∈ [a,b] then some _ else none) = _; rw [if_neg hm]
     exact ⟨_,ys,rfl,sb6,eL6,by rw [etk,er,hys]; show _ = _ ++ []; rw [List.append_nil],by omega⟩
 ·obtain ⟨o3,ys,rfl,sb,eL,hys,hyl⟩:=hh
  rw [List.length_map,hdl,List.take_length] at hys
  walk_at "nx"
  rw [hys] at eL
  exact q L H5 (fun g o z=>sb g o (ne_of_none z hL) (s24 g o z)) hL eL
def keyT (p:Tie):List (Option Int):=[some (p.1:Int),some p.2.1,some p.2.2]
theorem keyT_inj {p q:Tie} (h:keyT p = keyT q):p = q:=by
 unfold keyT at h
 simp only [List.cons.injEq,Option.some.injEq,and_true] at h
 obtain ⟨h1,h2,h3⟩:=h
 exact Prod.ext (by omega) (Prod.ext h2 h3)
structure RoomsOk (xs:List (Str × Rl)) (log:List LogE) (n:Nat) (kvs:List (SKey × V)):Prop where
 val:∀ (i:Nat) x p,xs[i]? = some x→p ∈ tiesL log n→∃ q:Nat,roomP x.2 log n p.2.1 p.2.2 p.1 = some q∧q < x.2.rs.length∧(valV kvs (x.1,keyT p)).getD (.int 0) = .int (q:Int)
 old:∀ nm p,(valV kvs (nm,keyT p)).isSome = true→p.1 < n
section
variable {xs:List (Str × Rl)} {log:List LogE} {n:Nat} {kvs:List (SKey × V)}
theorem RoomsOk.start:RoomsOk xs log 0 []:=⟨fun i x p _ hp=>(by cases hp),fun nm p h=>(by cases h)⟩
theorem ties_nil (h2:∀ x ∈ xs,x.2.s = 2) (hn:n ≤ log.length) (hk:∀ (i:Nat) x p,xs[i]? = some x→p ∈ tiesL log n→roomP x.2 log n p.2.1 p.2.2 p.1 ≠ none):brokenL xs (log.take n) = []:=by
 refine brokenL_nil fun k i hk' hi=>?_
 have hx:=List.getElem?_eq_getElem hk'
 generalize xs[k] = x at hx
 have hs:=h2 x (List.mem_of_getElem? hx)
 unfold brkRow
 rw [hx]
 show (rowAt x.2.s (log.take n) i).bind _ = none
 unfold rowAt
 cases he:(log.take n)[i]? with
 | none=>rfl
 | some e=>
  obtain ⟨hin,he'⟩:=take_at he
  cases e with
  | tie l a b=>
   dsimp only
   rw [if_pos hs]
   show (if brkR1 x.2 (rowP (log.take n) (log.take n).length a b i) = true then _ else _) = _
   have hr:=hk k x (i,a,b) hx (tiesL_mem.mpr ⟨hin,l,he'⟩)
   have:brkR1 x.2 (rowP log n a b i) = false:=by
    unfold brkR1
    cases hq:aftR x.2 (some 0) (rowP log n a b i) with
    | none=>exact absurd hq hr
    | some q=>rfl
   rw [row_take hn,this]; rfl
  | deed l h u y=>
   dsimp only
   rw [if_neg (fun z=>by omega)]; rfl
theorem RoomsOk.nil (o:RoomsOk xs log n kvs) (h2:∀ x ∈ xs,x.2.s = 2) (hn:n ≤ log.length):brokenL xs (log.take n) = []:=
 ties_nil h2 hn fun i x p hx hp=>by obtain ⟨q,h1,_⟩:=o.val i x p hx hp; rw [h1]; simp
theorem tiesL_tie {l a b:Int} (he:log[n]? = some (.tie l a b)):tiesL log (n + 1) = tiesL log n ++ [(n,a,b)]:=by
 unfold tiesL
 rw [List.range_succ,List.filterMap_append]
 show _ ++ List.filterMap (tieAt log) [n] = _
 rw [List.filterMap_cons]
 unfold tieAt
 rw [he]; rfl
theorem tiesL_deed {l h:Int} {u:Str} {y:Int} (he:log[n]? = some (.deed l h u y)):tiesL log (n + 1) = tiesL log n:=by
 unfold tiesL
 rw [List.range_succ,List.filterMap_append]
 show _ ++ List.filterMap (tieAt log) [n] = _
 rw [List.filterMap_cons]
 have:tieAt log n = none:=by unfold tieAt; rw [he]
 rw [this]; simp
theorem RoomsOk.tie (hok:∀ x ∈ xs,RlOk x.2) {l a b:Int} (o:RoomsOk xs log n kvs) (he:log[n]? = some (.tie l a b)):RoomsOk xs log (n + 1) kvs:=by
 refine ⟨fun i x p hx hp=>?_,fun nm p h=>Nat.lt_succ_of_lt (o.old nm p h)⟩
 rw [tiesL_tie he,List.mem_append] at hp
 rcases hp with hp | hp
 ·obtain ⟨q,h1,h2,h3⟩:=o.val i x p hx hp
  refine ⟨q,?_,h2,h3⟩
  have ht:=(tiesL_mem.mp hp).1
  unfold roomP
  rw [rowP_snoc he ht]
  show aftR x.2 (some 0) (_ ++ []) = _
  rw [List.append_nil]; exact h1
 ·have hp':=List.mem_singleton.mp hp
  subst hp'
  refine ⟨0,by unfold roomP; rw [rowP_end]; rfl,(hok x (List.mem_of_getElem? hx)).n0,?_⟩
  cases hv:valV kvs (x.1,keyT (n,a,b)) with
  | none=>rfl
  | some v=>exact absurd (o.old x.1 (n,a,b) (by rw [hv]; rfl)) (Nat.lt_irrefl _)
theorem row_drop {a b l:Int} {t m:Nat} (he:log[t]? = some (.tie l a b)) (ht:t < m) (hm:m ≤ log.length):((log.take m).drop t).filterMap (rowT [a,b]) = rowP log m a b t:=by
 unfold rowP
 have h1:t < (log.take m).length:=by rw [List.length_take]; omega
 rw [List.drop_eq_getElem_cons h1,List.filterMap_cons]
 have:(log.take m)[t] = .tie l a b:=by
  rw [List.getElem_take]
  exact (List.getElem?_eq_some_iff.mp he).2
 rw [this]
 rfl
theorem tch_room {l h:Int} {u:Str} {y:Int} (he:log[n]? = some (.deed l h u y)) {x:Str × Rl} {q:Tie × Str} (hq:q ∈ tchL log n h u) {z:Nat} (hz:roomP x.2 log n q.1.2.1 q.1.2.2 q.1.1 = some z):roomP x.2 log (n + 1) q.1.2.1 q.1.2.2 q.1.1 = goR x.2 z q.2:=by
 obtain ⟨h1,h2,h3⟩:=tchL_mem.mp hq
 rw [room_deed he h1.1,if_pos h2,hz,h3]; rfl
theorem off_room {l h:Int} {u:Str} {y:Int} (he:log[n]? = some (.deed l h u y)) {x:Str × Rl} {p:Tie} (hp:p ∈ tiesL log n) (hn:∀ s,(p,s) ∉ tchL log n h u):roomP x.2 log (n + 1) p.2.1 p.2.2 p.1 = roomP x.2 log n p.2.1 p.2.2 p.1:=by
 have ht:=tiesL_mem.mp hp
 rw [room_deed he ht.1]
 by_cases c:h ∈ [p.2.1,p.2.2]
 ·exact absurd (tchL_mem.mpr ⟨ht,c,rfl⟩) (hn (tirT [p.2.1,p.2.2] h u))
 ·rw [if_neg c]
theorem due_first (h2:∀ x ∈ xs,x.2.s = 2) (hno:∀ i,i < n→dueAt xs log i = none) {l h:Int} {u:Str} {y:Int} (he:log[n]? = some (.deed l h u y)) (o:RoomsOk xs log n kvs) {k j:Nat} {x:Str × Rl} (hx:xs[k]? = some x)
  (hk:∀ (i:Nat) x' p,i < k→xs[i]? = some x'→p ∈ tiesL log n→roomP x'.2 log (n + 1) p.2.1 p.2.2 p.1 ≠ none) {q:Tie × Str} (hq:(tchL log n h u)[j]? = some q) (hj:∀ q' ∈ (tchL log n h u).take j,roomP x.2 log (n + 1) q'.1.2.1 q'.1.2.2 q'.1.1 ≠ none) (hb:roomP x.2 log (n + 1) q.1.2.1 q.1.2.2 q.1.1 = none) :
  dueP xs log = some (n,x.1,[q.1.2.1,q.1.2.2],rowP log (n + 1) q.1.2.1 q.1.2.2 q.1.1):=by
 have hn:=(List.getElem?_eq_some_iff.mp he).1
 refine fs_some hno ?_ hn
 have hlen:(log.take (n + 1)).length = n + 1:=by rw [List.length_take]; omega
 obtain ⟨ht,hm,_⟩:=tchL_mem.mp (List.mem_of_getElem? hq)
 obtain ⟨htn,l',hl'⟩:=ht
 -- a row of the rule i that is broken
 have hrow:∀ (i:Nat) (x':Str × Rl) (t:Nat),xs[i]? = some x'→t < n + 1→(∀ a b,Tied log n a b t→roomP x'.2 log (n + 1) a b t ≠ none)→brkRow xs (log.take (n + 1)) i t = none:=fun i x' t hx' htt hkp=>by
  unfold brkRow
  rw [hx']
  show (rowAt x'.2.s (log.take (n + 1)) t).bind _ = none
  unfold rowAt
  cases he2:(log.take (n + 1))[t]? with
  | none=>rfl
  | some e=>
   obtain ⟨hin,he'⟩:=take_at he2
   cases e with
   | tie l2 a b=>
    dsimp only
    rw [if_pos (h2 x' (List.mem_of_getElem? hx'))]
    have htn':t < n:=by
     rcases Nat.lt_or_ge t n with z | z
     ·exact z
     ·rw [show t = n by omega,he] at he'; cases he'
    show (if brkR1 x'.2 (rowP (log.take (n + 1)) (log.take (n + 1)).length a b t) = true then _ else _) = _
    have hr:=hkp a b ⟨htn',l2,he'⟩
    have:brkR1 x'.2 (rowP log (n + 1) a b t) = false:=by
     unfold brkR1
     cases hq:aftR x'.2 (some 0) (rowP log (n + 1) a b t) with
     | none=>exact absurd hq hr
     | some q=>rfl
    rw [row_take (by omega),this]; rfl
   | deed l2 h2' u2 y2=>
    dsimp only
    rw [if_neg (fun z=>by have:=h2 x' (List.mem_of_getElem? hx'); omega)]; rfl
 have hhead:(brokenL xs (log.take (n + 1))).head? = some (k,[q.1.2.1,q.1.2.2],rowP log (n + 1) q.1.2.1 q.1.2.2 q.1.1):=by
  rw [brokenL_head]
  refine fs_some (n:=k) (fun i hi=>?_) ?_ (List.getElem?_eq_some_iff.mp hx).1
  ·have hxi:=List.getElem?_eq_getElem (l:=xs) (i:=i) (by have:=(List.getElem?_eq_some_iff.mp hx).1; omega)
   exact fs_none fun t htt=>hrow i _ t hxi (by omega) fun a b hT=>hk i _ (t,a,b) hi hxi (tiesL_mem.mpr hT)
  ·refine fs_some (n:=q.1.1) (fun t htt=>hrow k x t hx (by omega) fun a b hT=>?_) ?_ (by omega)
   ·by_cases c:∃ s,((t,a,b),s) ∈ tchL log n h u
    ·obtain ⟨s,hs⟩:=c
     obtain ⟨i',hi'⟩:=List.mem_iff_getElem?.mp hs
     have hlt:i' < j:=by
      refine Classical.byContradiction fun z=>?_
      have hsort:=tchL_sorted log n h u
      rw [List.pairwise_iff_getElem] at hsort
      obtain ⟨g1,g2⟩:=List.getElem?_eq_some_iff.mp hq
      obtain ⟨g3,g4⟩:=List.getElem?_eq_some_iff.mp hi'
      rcases Nat.lt_or_ge j i' with y | y
      ·have:=hsort j i' g1 g3 y
       rw [g2,g4] at this
       exact absurd this (by show ¬ q.1.1 < t; omega)
      ·have:i' = j:=by omega
       subst this
       rw [hq] at hi'
       cases hi'
       exact absurd htt (Nat.lt_irrefl _)
     exact hj ((t,a,b),s) (List.mem_iff_getElem?.mpr ⟨i',by rw [List.getElem?_take,if_pos hlt]; exact hi'⟩)
    ·have:=off_room (x:=x) (p:=(t,a,b)) he (tiesL_mem.mpr hT) (fun s hs=>c ⟨s,hs⟩)
     rw [this]
     obtain ⟨z,hz,_⟩:=o.val k x (t,a,b) hx (tiesL_mem.mpr hT)
     rw [hz]; simp
   ·unfold brkRow
    rw [hx]
    show (rowAt x.2.s (log.take (n + 1)) q.1.1).bind _ = _
    unfold rowAt
    have hti:(log.take (n + 1))[q.1.1]? = some (.tie l' q.1.2.1 q.1.2.2):=by rw [List.getElem?_take,if_pos (by omega)]; exact hl'
    rw [hti]
    dsimp only
    rw [if_pos (h2 x (List.mem_of_getElem? hx)),row_take (by omega)]
    show (if brkR1 x.2 (rowP log (n + 1) q.1.2.1 q.1.2.2 q.1.1) = true then _ else _) = _
    rw [if_pos (by unfold brkR1; have hr':aftR x.2 (some 0) (rowP log (n + 1) q.1.2.1 q.1.2.2 q.1.1) = none:=hb; rw [hr']; rfl)]
 unfold dueAt
 rw [hhead]
 show (xs[k]?).map _ = _
 rw [hx]; rfl
theorem putK_len {κ : Type} [DecidableEq κ] (kvs:List (κ × V)) (k:κ) (v:V):(putK kvs k v).length ≤ kvs.length + 1:=putP_len kvs k v
end
def Done (tch:List (Tie × Str)) (k j i:Nat) (p:Tie):Prop:=i < k∨(i = k∧∃ s,(p,s) ∈ tch.take j)
structure Upd (xs:List (Str × Rl)) (log:List LogE) (n:Nat) (tch:List (Tie × Str)) (k j:Nat) (kvs:List (SKey × V)):Prop where
 val:∀ (i:Nat) x p,xs[i]? = some x→p ∈ tiesL log n→∃ q:Nat,q < x.2.rs.length∧(valV kvs (x.1,keyT p)).getD (.int 0) = .int (q:Int)∧(Done tch k j i p→roomP x.2 log (n + 1) p.2.1 p.2.2 p.1 = some q)∧(¬ Done tch k j i p→roomP x.2 log n p.2.1 p.2.2 p.1 = some q)
 old:∀ nm p,(valV kvs (nm,keyT p)).isSome = true→p.1 < n
section
variable {xs:List (Str × Rl)} {log:List LogE} {n:Nat} {kvs:List (SKey × V)} {tch:List (Tie × Str)} {k j:Nat}
theorem Upd.start (o:RoomsOk xs log n kvs):Upd xs log n tch 0 0 kvs:=by
 refine ⟨fun i x p hx hp=>?_,o.old⟩
 obtain ⟨q,h1,h2,h3⟩:=o.val i x p hx hp
 refine ⟨q,h2,h3,fun d=>?_,fun _=>h1⟩
 rcases d with d | ⟨_,s,hs⟩
 ·exact absurd d (Nat.not_lt_zero _)
 ·cases hs
theorem Upd.rule {l h:Int} {u:Str} {y:Int} (he:log[n]? = some (.deed l h u y)) (o:Upd xs log n (tchL log n h u) k (tchL log n h u).length kvs):Upd xs log n (tchL log n h u) (k + 1) 0 kvs:=by
 refine ⟨fun i x p hx hp=>?_,o.old⟩
 obtain ⟨q,h1,h2,h3,h4⟩:=o.val i x p hx hp
 rw [show (Done (tchL log n h u) k (tchL log n h u).length i p) = (i < k∨(i = k∧∃ s,(p,s) ∈ tchL log n h u)) by unfold Done; rw [List.take_length]] at h3 h4
 refine ⟨q,h1,h2,fun d=>?_,fun d=>?_⟩
 ·have hik:i ≤ k:=by
   rcases d with d | ⟨_,s,hs⟩
   ·omega
   ·cases hs
  by_cases c:i < k∨(i = k∧∃ s,(p,s) ∈ tchL log n h u)
  ·exact h3 c
  ·have hn:∀ s,(p,s) ∉ tchL log n h u:=fun s hs=>c (by
    rcases Nat.lt_or_ge i k with z | z
    ·exact .inl z
    ·exact .inr ⟨by omega,s,hs⟩)
   rw [off_room he hp hn]; exact h4 c
 ·refine h4 (fun c=>d ?_)
  rcases c with c | ⟨c,_⟩
  ·exact .inl (by omega)
  ·exact .inl (by omega)
theorem Upd.fin {l h:Int} {u:Str} {y:Int} (he:log[n]? = some (.deed l h u y)) (o:Upd xs log n tch xs.length 0 kvs):RoomsOk xs log (n + 1) kvs:=by
 refine ⟨fun i x p hx hp=>?_,fun nm p h=>Nat.lt_succ_of_lt (o.old nm p h)⟩
 rw [tiesL_deed he] at hp
 obtain ⟨q,h1,h2,h3,_⟩:=o.val i x p hx hp
 exact ⟨q,h3 (.inl (List.getElem?_eq_some_iff.mp hx).1),h1,h2⟩
theorem tch_new {h:Int} {u:Str} {q:Tie × Str} (hq:(tchL log n h u)[j]? = some q):∀ s,(q.1,s) ∉ (tchL log n h u).take j:=fun s hs=>by
 obtain ⟨i,hi⟩:=List.mem_iff_getElem?.mp hs
 rw [List.getElem?_take] at hi
 split at hi
 ·rename_i c
  have hsort:=tchL_sorted log n h u
  rw [List.pairwise_iff_getElem] at hsort
  obtain ⟨g1,g2⟩:=List.getElem?_eq_some_iff.mp hq
  obtain ⟨g3,g4⟩:=List.getElem?_eq_some_iff.mp hi
  have:=hsort i j g3 g1 c
  rw [g2,g4] at this
  exact absurd this (Nat.lt_irrefl _)
 ·cases hi
theorem Upd.step (hnd:(xs.map Prod.fst).Nodup) {h:Int} {u:Str} {x:Str × Rl} {q:Tie × Str} {z':Nat} (hx:xs[k]? = some x) (hq:(tchL log n h u)[j]? = some q) (o:Upd xs log n (tchL log n h u) k j kvs) (hz:roomP x.2 log (n + 1) q.1.2.1 q.1.2.2 q.1.1 = some z') (hl:z' < x.2.rs.length):Upd xs log n (tchL log n h u) k (j + 1) (putK kvs (x.1,keyT q.1) (.int (z':Int))):=by
 have hqt:q.1 ∈ tiesL log n:=tiesL_mem.mpr (tchL_mem.mp (List.mem_of_getElem? hq)).1
 refine ⟨fun i x' p hx' hp=>?_,fun nm p hs=>?_⟩
 ·rw [valV_put]
  by_cases c:(x'.1,keyT p) = (x.1,keyT q.1)
  ·obtain ⟨c1,c2⟩:=Prod.mk.inj c
   have hp2:p = q.1:=keyT_inj c2
   have hik:i = k:=by
    have e1:(xs.map Prod.fst)[i]? = some x.1:=by rw [List.getElem?_map,hx']; show some x'.1 = _; rw [c1]
    have e2:(xs.map Prod.fst)[k]? = some x.1:=by rw [List.getElem?_map,hx]; rfl
    obtain ⟨g1,g2⟩:=List.getElem?_eq_some_iff.mp e1
    obtain ⟨g3,g4⟩:=List.getElem?_eq_some_iff.mp e2
    have hp:=hnd
    rw [List.nodup_iff_pairwise_ne,List.pairwise_iff_getElem] at hp
    rcases Nat.lt_or_ge i k with y | y
    ·exact absurd (g2.trans g4.symm) (hp i k g1 g3 y)
    ·rcases Nat.lt_or_ge k i with y' | y'
     ·exact absurd (g4.trans g2.symm) (hp k i g3 g1 y')
     ·omega
   subst hik
   rw [hx] at hx'; cases hx'
   subst hp2
   rw [if_pos c]
   refine ⟨z',hl,rfl,fun _=>hz,fun d=>absurd (.inr ⟨rfl,q.2,?_⟩) d⟩
   exact List.mem_iff_getElem?.mpr ⟨j,by rw [List.getElem?_take,if_pos (by omega)]; exact hq⟩
  ·rw [if_neg c]
   obtain ⟨w,h1,h2,h3,h4⟩:=o.val i x' p hx' hp
   refine ⟨w,h1,h2,fun d=>h3 ?_,fun d=>h4 (fun d'=>d ?_)⟩
   ·rcases d with d | ⟨rfl,s,hs⟩
    ·exact .inl d
    ·obtain ⟨i',hi'⟩:=List.mem_iff_getElem?.mp hs
     rw [List.getElem?_take] at hi'
     split at hi'
     ·rename_i cc
      rcases Nat.lt_or_ge i' j with y | y
      ·exact .inr ⟨rfl,s,List.mem_iff_getElem?.mpr ⟨i',by rw [List.getElem?_take,if_pos y]; exact hi'⟩⟩
      ·have:i' = j:=by omega
       rw [this,hq] at hi'
       cases hi'
       rw [hx] at hx'; cases hx'
       exact absurd rfl c
     ·cases hi'
   ·rcases d' with d' | ⟨rfl,s,hs⟩
    ·exact .inl d'
    ·refine .inr ⟨rfl,s,?_⟩
     exact List.mem_of_mem_take (i:=j) (by rw [List.take_take,Nat.min_eq_left (by omega)]; exact hs)
 ·rw [valV_put] at hs
  by_cases c:(nm,keyT p) = (x.1,keyT q.1)
  ·have:=keyT_inj (Prod.mk.inj c).2
   rw [this]; exact (tiesL_mem.mp hqt).1
  ·rw [if_neg c] at hs; exact o.old nm p hs
end
theorem ds_keep {P:Program} {w:World} {H H':Hp} {a:Addr} {kvs:List (SKey × V)} (h:DS P w H a kvs) (ea:H' a = H a) (tp:∀ c ys,H c = some (.tup ys)→H' c = some (.tup ys)):DS P w H' a kvs:=by
 obtain ⟨xs,h1,h2,h3,h4⟩:=h
 exact ⟨xs,ea.trans h1,h2,h3,Paired.imp' (fun p q z=>⟨z.1,z.2.1.mono tp,z.2.2⟩) h4⟩
def spDue:Sp:=fun vs H Q _=>∃ (b lg:Addr) (bs ls:List Addr) (xs:List (Str × Rl)) (log:List LogE),vs = [.ref b,.ref lg]∧H b = some (.lst (bs.map V.ref))∧Paired (NmAt H) bs xs∧xs.length ≤ 20∧(xs.map Prod.fst).Nodup∧(∀ x ∈ xs,RlOk x.2∧x.2.s = 2)∧H lg = some (.lst (ls.map V.ref))∧Paired (EntAt H) ls log∧log.length ≤ 90∧(∀ l x u y,LogE.deed l x u y ∈ log→u.length ≤ 1000)∧Unlike log∧
 ∀ (v:V) (H':Hp),Same H H'→OutAt H H' v (dueP xs log)→Q v H'
theorem ok_due (D:DefAt K mg "_law_due" s_law_due) (z_len:mg "len" = none) (z_list:mg "list" = none) (z_enumerate:mg "enumerate" = none) (c_law_next:Cal P w K mg base 1 "_law_next" ["_law_rule_here", "_law_room", "_law_text"] spNext) (c_law_row_of:Cal P w K mg base 1 "_law_row_of" ["_law_log", "_law_key"] spRowL) (c_law_touched:Cal P w K mg base 1 "_law_touched" ["_law_sides", "_law_ties", "_law_entry_here"] spTouched):Cal P w K mg base 2 "_law_due" ["_law_rules", "_law_log"] spDue:=by
 refine D.cal (k:=1) sc_law_due (fun _ _ _ _ _ _ us hl=>match us,hl with | [_,_],_=>rfl) (fun vs H Q E h=>by obtain ⟨_,_,_,_,_,_,rfl,_⟩:=h; rfl) (fun f cdv A outer s H vs Q E hr h=>?_)
 obtain ⟨b,lg,bs,ls,xs,log,rfl,eb,pb,hxl,hnd,hok2,elg,pl,hll,hws,hun,q⟩:=h
 have hok:∀ x ∈ xs,RlOk x.2:=fun x hx=>(hok2 x hx).1
 have h2:∀ x ∈ xs,x.2.s = 2:=fun x hx=>(hok2 x hx).2
 have hlen:=paired_lenW pl
 have hlb:=paired_lenW pb
 refine ⟨_,(pss_cons (ps_let 2 sc_law_due.nd (pe_lst pa_nil) (hx:=lz1e))
   (pss_cons (ps_let 3 sc_law_due.nd pe_dnewS (hx:=lz1f))
   (pss_cons (ps_for PassesOwn.never rfl (pi_enumK K gz10 z_enumerate (pa_cons (pv 1 (hv:=vz3c)) pa_nil)) (pg_tupK K (n:=2) (pgs_cons (pg_let 4 sc_law_due.nd (hx:=lz1g)) (pgs_cons (pg_let 5 sc_law_due.nd (hx:=lz1h)) pgs_nil))) (pss_cons (ps_if (pt_cmpR op_eqA (pe_blt (call_lenK K) z_len bt_len (pa_cons (pv 5 (hv:=vz3g)) pa_nil) (hg:=gz11)) pe_int (nomark _)) (pss_cons (ps_expr (pe_bmK K PySem.F.plainAttrs_list PySem.F.slot_list_append PySem.F.type_list_append mt_appendA (pv 2 (hv:=vz3d)) (pa_cons (pe_tup (pa_cons (pv 4 (hv:=vz3f)) (pa_cons (pe_ix (ix_K K) (pv 5 (hv:=vz3g)) pe_int (fun _ _=>rfl)) (pa_cons (pe_ix (ix_K K) (pv 5 (hv:=vz3g)) pe_int (fun _ _=>rfl)) pa_nil)))) pa_nil)))
   (pss_one ps_continue)) pss_nil)
   (pss_cons (ps_for PassesOwn.never rfl (pi_listK K (pv 0 (hv:=vz3b))) (pg_tupK K (n:=2) (pgs_cons (pg_let 6 sc_law_due.nd (hx:=lz1i)) (pgs_cons (pg_let 7 sc_law_due.nd (hx:=lz1j)) pgs_nil))) (pss_one (ps_for PassesOwn.never rfl (pi_listK K (pe_cal c_law_touched hr (pa_cons (pe_ix (ix_K K) (pv 7 (hv:=vz3i)) pe_int (fun _ _=>rfl)) (pa_cons (pv 2 (hv:=vz3d)) (pa_cons (pv 5 (hv:=vz3g)) pa_nil))) (hg:=gzz))) (pg_tupK K (n:=2) (pgs_cons (pg_let 8 sc_law_due.nd (hx:=lz1k)) (pgs_cons (pg_let 9 sc_law_due.nd (hx:=lz1l)) pgs_nil))) (pss_one (ps_if (pt_cmpR op_isNA (pe_cal c_law_next hr (pa_cons (pv 7 (hv:=vz3i)) (pa_cons (pe_getS hr (pv 3 (hv:=vz3e)) (pe_tup (pa_cons (pv 6 (hv:=vz3h)) (pa_cons (pv 8 (hv:=vz3j)) pa_nil))) pe_int ⟨rfl,rfl,rfl,rfl⟩) (pa_cons (pv 9 (hv:=vz3k)) pa_nil))) (hg:=gzx)) pe_non (nomark _)) (pss_one (ps_ret (pe_tup (pa_cons (pv 4 (hv:=vz3f)) (pa_cons (pv 6 (hv:=vz3h)) (pa_cons (pe_bty (call_listA K) z_list bt_list (pa_cons (pe_slice (sl_tupA K) (pv 8 (hv:=vz3j)) (po_some pe_int) po_none) pa_nil) (hg:=gz12)) (pa_cons (pe_cal c_law_row_of hr (pa_cons (pe_slice (sl_listK K) (pv 1 (hv:=vz3c)) po_none (po_some (pe_op op_addA (pv 4 (hv:=vz3f)) pe_int))) (pa_cons (pv 8 (hv:=vz3j)) pa_nil)) (hg:=gzy)) pa_nil))))))) pss_nil)))))
   (pss_one (ps_for PassesOwn.never rfl (pi_listK K (pv 0 (hv:=vz3b))) (pg_tupK K (n:=2) (pgs_cons (pg_let 6 sc_law_due.nd (hx:=lz1i)) (pgs_cons (pg_let 7 sc_law_due.nd (hx:=lz1j)) pgs_nil))) (pss_one (ps_for PassesOwn.never rfl (pi_listK K (pe_cal c_law_touched hr (pa_cons (pe_ix (ix_K K) (pv 7 (hv:=vz3i)) pe_int (fun _ _=>rfl)) (pa_cons (pv 2 (hv:=vz3d)) (pa_cons (pv 5 (hv:=vz3g)) pa_nil))) (hg:=gzz))) (pg_tupK K (n:=2) (pgs_cons (pg_let 8 sc_law_due.nd (hx:=lz1k)) (pgs_cons (pg_let 9 sc_law_due.nd (hx:=lz1l)) pgs_nil))) (pss_one (ps_asg (pe_cal c_law_next hr (pa_cons (pv 7 (hv:=vz3i)) (pa_cons (pe_getS hr (pv 3 (hv:=vz3e)) (pe_tup (pa_cons (pv 6 (hv:=vz3h)) (pa_cons (pv 8 (hv:=vz3j)) pa_nil))) pe_int ⟨rfl,rfl,rfl,rfl⟩) (pa_cons (pv 9 (hv:=vz3k)) pa_nil))) (hg:=gzx)) (pg_sub (pv 3 (hv:=vz3e)) (pe_tup (pa_cons (pv 6 (hv:=vz3h)) (pa_cons (pv 8 (hv:=vz3j)) pa_nil))) (set_S hr)))))))))))
   (pss_one (ps_ret pe_non))))),?_⟩
 walk_at "rd1"
 refine ⟨by decide,fun TL hTL=>?_⟩
 have s1:=same_new hTL (.lst [])
 have eTL:upd H TL (.lst []) TL = some (.lst []):=upd_same
 generalize upd H TL (.lst []) = H1 at s1 eTL ⊢
 walk_at "nx"
 intro RD hRD uR dR
 have s2:Same H (upd H1 RD uR):=s1.trans (same_new hRD uR)
 have eTL2:upd H1 RD uR TL = some (.lst []):=same_new hRD uR _ _ eTL
 have hRD0:H RD = none:=s1.free hRD
 have nTR:TL ≠ RD:=ne_of_none eTL hRD
 generalize upd H1 RD uR = H2 at s2 eTL2 dR ⊢
 walk_at "nx"
 refine ⟨⟨_,s2 _ _ elg⟩,?_⟩
 refine forW_enum (xs:=ls.map V.ref) (fun n σ H'=>∃ (o4 o5 o6 o7 o8 o9:Option V) (cs:List Addr) (kvs:List (SKey × V)),σ = [some (.ref b),some (.ref lg),some (.ref TL),some (.ref RD),o4,o5,o6,o7,o8,o9]∧Same H H'∧H' TL = some (.lst (cs.map V.ref))∧Paired (TieAt H') cs (tiesL log n)∧DS P w H' RD kvs∧RoomsOk xs log n kvs∧kvs.length ≤ n * 2000∧∀ i,i < n→dueAt xs log i = none)
  ⟨_,_,_,_,_,_,[],[],rfl,s2,eTL2,.nil,dR,RoomsOk.start,Nat.le_refl _,fun i hi=>absurd hi (Nat.not_lt_zero _)⟩ (fun n σ H' _ hh=>by obtain ⟨_,_,_,_,_,_,_,_,_,sm,_⟩:=hh; exact SqL.of (sm _ _ elg)) (fun n v tp σ H3 hv hh htp=>?_) (fun σ H' hh=>?_)
 ·obtain ⟨o4,o5,o6,o7,o8,o9,cs,kvs,rfl,sm3,eT3,pc3,d3,ro,hkl,hno⟩:=hh
  rw [List.getElem?_map] at hv
  cases hi:ls[n]? with
  | none=>rw [hi] at hv; cases hv
  | some ep=>
   rw [hi] at hv; cases hv
   have hnb:=(List.getElem?_eq_some_iff.mp hi).1
   have hnl:n < log.length:=by omega
   have hle:=List.getElem?_eq_getElem hnl
   have hat:H ep = some (.tup (entV log[n])):=paired_get (F:=EntAt H) pl hi hle
   have hmem:=List.getElem_mem hnl
   generalize log[n] = le at hle hat hmem
   have s4:=same_new htp (.tup [.int (n:Int),.ref ep])
   have etp:upd H3 tp (.tup [.int (n:Int),.ref ep]) tp = some (.tup [.int (n:Int),.ref ep]):=upd_same
   generalize upd H3 tp (.tup [.int (n:Int),.ref ep]) = H4 at s4 etp ⊢
   have sm4:=sm3.trans s4
   have eT4:=s4 _ _ eT3
   have pc4:Paired (TieAt H4) cs (tiesL log n):=paired_imp (fun _ _ z=>s4 _ _ z) pc3
   have d4:=d3.mono s4
   have hcl:=paired_lenW pc4
   have htl:(tiesL log n).length ≤ 90:=by
    have:=List.length_filterMap_le (tieAt log) (List.range n)
    rw [List.length_range] at this
    unfold tiesL; omega
   have hat4:=sm4 _ _ hat
   walk_at "rd1"
   refine ⟨tp,_,rfl,SqT.of etp,rfl,?_⟩
   walk_at "rd1"
   refine ⟨_,.inr (SqT.of hat4),?_⟩
   walk_at "rd1"
   cases le with
   | tie l a b'=>
    refine ite2 (fun _=>?_) (fun c=>absurd rfl c)
    refine ⟨⟨_,SqL.of eT4⟩,_,_,.inr (SqT.of hat4),rfl,_,_,.inr (SqT.of hat4),rfl,by decide,fun c hc=>?_⟩
    have s5:=same_new hc (.tup [.int (n:Int),.int a,.int b'])
    have ec:upd H4 c (.tup [.int (n:Int),.int a,.int b']) c = some (.tup [.int (n:Int),.int a,.int b']):=upd_same
    generalize upd H4 c (.tup [.int (n:Int),.int a,.int b']) = H5 at s5 ec ⊢
    have eT5:=s5 _ _ eT4
    refine ⟨_,eT5,small' (by rw [List.length_map]; omega),?_⟩
    walk_at "nx"
    have tpk:∀ c' ys,H5 c' = some (.tup ys)→upd H5 TL (.lst (cs.map V.ref ++ [.ref c])) c' = some (.tup ys):=fun c' ys z=>by rw [upd_ne (fun g=>by rw [g,eT5] at z; cases z)]; exact z
    have ro':=ro.tie hok hle
    refine ⟨_,_,_,_,_,_,cs ++ [c],kvs,rfl,(sm4.trans s5).upd hTL _,by rw [upd_same,List.map_append]; rfl,?_,ds_keep (d4.mono s5) (upd_ne (Ne.symm nTR)) tpk,ro',by omega,fun i hi=>?_⟩
    ·rw [tiesL_tie hle]
     exact paired_snocW (R:=TieAt (upd H5 TL (HO.lst (cs.map V.ref ++ [V.ref c])))) (x:=c) (y:=(n,a,b')) (tpk _ _ ec) (paired_imp (fun _ _ z=>tpk _ _ (s5 _ _ z)) pc4)
    ·rcases Nat.lt_or_ge i n with y | y
     ·exact hno i y
     ·rw [show i = n by omega]
      exact due_nil (ro'.nil h2 (by omega))
   | deed l h u y=>
    refine ite2 (fun c=>absurd c (by simp [entV])) (fun _=>?_)
    walk_at "nx"
    have hul:=hws l h u y hmem
    have hunt:∀ p ∈ tiesL log n,p.2.1 ≠ p.2.2:=fun p hp=>(tiesL_mem.mp hp).ne hun
    have htchl:(tchL log n h u).length ≤ 90:=by
     have:=List.length_filterMap_le (tchG h u) (tiesL log n)
     unfold tchL; omega
    refine ⟨⟨_,SqL.of (sm4 _ _ eb)⟩,?_⟩
    refine forW_list (xs:=bs.map V.ref) (fun k σ H'=>∃ (o6 o7 o8 o9:Option V),σ = [some (.ref b),some (.ref lg),some (.ref TL),some (.ref RD),some (.int (n:Int)),some (.ref ep),o6,o7,o8,o9]∧Same H4 H'∧∀ (i:Nat) x' p,i < k→xs[i]? = some x'→p ∈ tiesL log n→roomP x'.2 log (n + 1) p.2.1 p.2.2 p.1 ≠ none)
     ⟨_,_,_,_,rfl,Same.refl _,fun i x' p hi=>absurd hi (Nat.not_lt_zero _)⟩ (fun k σ H' _ hh=>by obtain ⟨_,_,_,_,_,sm,_⟩:=hh; exact SqL.of (sm _ _ (sm4 _ _ eb))) (fun k v σ H5 hv hh=>?_) (fun σ H5 hh=>?_)
    ·obtain ⟨o6,o7,o8,o9,rfl,s5,hkk⟩:=hh
     rw [List.getElem?_map] at hv
     cases hbk:bs[k]? with
     | none=>rw [hbk] at hv; cases hv
     | some c=>
      rw [hbk] at hv; cases hv
      have hkx:k < xs.length:=by rw [← hlb]; exact (List.getElem?_eq_some_iff.mp hbk).1
      have hx:=List.getElem?_eq_getElem hkx
      obtain ⟨p,n1,n2⟩ : NmAt H c xs[k]:=paired_get pb hbk hx
      have ok:=hok _ (List.getElem_mem hkx)
      have hs2:=h2 _ (List.getElem_mem hkx)
      generalize xs[k] = x at hx n1 n2 ok hs2
      obtain ⟨pw,pr,rs,r1,r2,r3⟩:=id n2
      have sm5:=sm4.trans s5
      walk_at "rd1"
      refine ⟨c,_,rfl,SqT.of (sm5 _ _ n1),rfl,?_⟩
      walk_at "rd1"
      refine ⟨_,_,.inr (SqT.of (sm5 _ _ r1)),rfl,?_⟩
      rw [hs2]
      refine ⟨TL,ep,cs,tiesL log n,l,h,u,y,rfl,s5 _ _ eT4,paired_imp (fun _ _ z=>s5 _ _ z) pc4,hunt,htl,s5 _ _ hat4,hul,fun TC tas H6 s6 hTC eTC pTC=>?_⟩
      have pTC':Paired (TchAt H6) tas (tchL log n h u):=pTC
      have htas:=paired_lenW pTC'
      refine ⟨TC,rfl,⟨_,SqL.of eTC⟩,?_⟩
      refine forW_list (xs:=tas.map V.ref) (fun j σ H'=>∃ (o8 o9:Option V),σ = [some (.ref b),some (.ref lg),some (.ref TL),some (.ref RD),some (.int (n:Int)),some (.ref ep),some (.str x.1),some (.ref p),o8,o9]∧Same H6 H'∧∀ q' ∈ (tchL log n h u).take j,roomP x.2 log (n + 1) q'.1.2.1 q'.1.2.2 q'.1.1 ≠ none)
       ⟨_,_,rfl,Same.refl _,fun q' hq'=>by cases hq'⟩ (fun j σ H' _ hh=>by obtain ⟨_,_,_,sm,_⟩:=hh; exact SqL.of (sm _ _ eTC)) (fun j v σ H7 hv hh=>?_) (fun σ H7 hh=>?_)
      ·obtain ⟨o8,o9,rfl,s7,hjj⟩:=hh
       rw [List.getElem?_map] at hv
       cases hj:tas[j]? with
       | none=>rw [hj] at hv; cases hv
       | some t1=>
        rw [hj] at hv; cases hv
        have hj2:j < (tchL log n h u).length:=by rw [← htas]; exact (List.getElem?_eq_some_iff.mp hj).1
        have hq:=List.getElem?_eq_getElem hj2
        obtain ⟨d,e1,e2⟩ : TchAt H6 t1 (tchL log n h u)[j]:=paired_get (F:=TchAt H6) pTC' hj hq
        generalize (tchL log n h u)[j] = tq at hq e1 e2
        have hqm:=List.mem_of_getElem? hq
        have hqt:tq.1 ∈ tiesL log n:=tiesL_mem.mpr (tchL_mem.mp hqm).1
        obtain ⟨z,hz1,hz2,hz3⟩:=ro.val k x tq.1 hx hqt
        have s57:=(s5.trans s6).trans s7
        have sm7:=sm4.trans s57
        walk_at "rd1"
        refine ⟨t1,_,rfl,SqT.of (s7 _ _ e1),rfl,?_⟩
        walk_at "rd1"
        unfold tDGetS
        walk_at "rd1"
        refine ⟨RD,kvs,rfl,d4.mono s57,by decide,fun kp hkp=>?_⟩
        have s8:=same_new hkp (.tup [.str x.1,.ref d])
        have ekp:upd H7 kp (.tup [.str x.1,.ref d]) kp = some (.tup [.str x.1,.ref d]):=upd_same
        generalize upd H7 kp (.tup [.str x.1,.ref d]) = H8 at s8 ekp ⊢
        have e2':=s8 _ _ (s7 _ _ e2)
        refine ⟨kp,(x.1,keyT tq.1),kvs,rfl,(d4.mono s57).mono s8,⟨d,ekp,e2'⟩,?_⟩
        rw [hz3]
        walk_at "rd1"
        refine ⟨p,x.2,z,tq.2,rfl,(n2.mono sm7).mono s8,ok,hz2,?_⟩
        walk_at "rd1"
        have hroom:=tch_room hle hqm hz1
        have hab:tq.1.2.1 ≠ tq.1.2.2:=hunt _ hqt
        obtain ⟨htt,l',hl'⟩:=tiesL_mem.mp hqt
        refine ite2 (fun cn=>?_) (fun cn=>?_)
        ·have hg:goR x.2 z tq.2 = none:=by
          cases g:goR x.2 z tq.2 with
          | none=>rfl
          | some w=>rw [g] at cn; cases cn
         have hdp:=due_first h2 hno hle ro hx hkk hq hjj (hroom.trans hg)
         refine rSlTA_of (SqT.of e2') (fun kq H9 s9 hkq=>?_)
         have ect:cutV [V.int (tq.1.1:Int),.int tq.1.2.1,.int tq.1.2.2] (some 1) none = [tq.1.2.1,tq.1.2.2].map V.int:=rfl
         rw [ect] at hkq
         have s49:=(s57.trans s8).trans s9
         have sm9:=sm4.trans s49
         walk_at "rd1"
         refine ⟨_,.inr hkq,fun hl hhl=>?_⟩
         have s10:=same_new hhl (.lst ([tq.1.2.1,tq.1.2.2].map V.int))
         have ehl:upd H9 hl (.lst ([tq.1.2.1,tq.1.2.2].map V.int)) hl = some (.lst ([tq.1.2.1,tq.1.2.2].map V.int)):=upd_same
         have hhl0:H hl = none:=sm9.free hhl
         generalize upd H9 hl (.lst ([tq.1.2.1,tq.1.2.2].map V.int)) = H10 at s10 ehl ⊢
         have sm10:=sm9.trans s10
         refine ⟨_,SqL.of (sm10 _ _ elg),fun sp hsp=>?_⟩
         have ecut:cutV (ls.map V.ref) none (some ((n:Int) + 1)) = (ls.take (n + 1)).map V.ref:=by
          rw [show ((n:Int) + 1) = ((n + 1:Nat):Int) by simp,cutV_to,List.map_take]
         rw [ecut]
         have s11:=same_new hsp (.lst ((ls.take (n + 1)).map V.ref))
         have esp:upd H10 sp (.lst ((ls.take (n + 1)).map V.ref)) sp = some (.lst ((ls.take (n + 1)).map V.ref)):=upd_same
         generalize upd H10 sp (.lst ((ls.take (n + 1)).map V.ref)) = H11 at s11 esp ⊢
         have sm11:=sm10.trans s11
         refine ⟨sp,d,ls.take (n + 1),log.take (n + 1),tq.1.1,tq.1.2.1,tq.1.2.2,rfl,esp,paired_imp (fun _ _ w=>sm11 _ _ w) (paired_take pl (n + 1)),s11 _ _ (s10 _ _ (s9 _ _ e2')),hab,by rw [List.length_take]; omega,fun l x u y he=>hws l x u y (List.mem_of_mem_take he),fun rl H12 s12 hrl erl=>?_⟩
         rw [row_drop hl' (by omega) (by omega)] at erl
         refine ⟨by decide,fun tz htz=>?_⟩
         have s13:=same_new htz (.tup [.int (n:Int),.str x.1,.ref hl,.ref rl])
         refine q (.ref tz) _ ((sm11.trans s12).trans s13) ?_
         rw [hdp]
         refine ⟨tz,rfl,hl,rl,upd_same,s13 _ _ (s12 _ _ (s11 _ _ ehl)),s13 _ _ erl,hhl0,sm11.free hrl,fun zz=>?_⟩
         rw [← zz,s11 _ _ ehl] at hrl; cases hrl
        ·refine ⟨_,_,rfl,s7.trans s8,fun q' hq'=>?_⟩
         rw [List.take_add_one,hq] at hq'
         rcases List.mem_append.mp hq' with hq' | hq'
         ·exact hjj q' hq'
         ·have:q' = tq:=by simpa using hq'
          rw [this,hroom]
          intro g
          exact cn (by rw [g]; rfl)
      ·obtain ⟨o8,o9,rfl,s7,hjj⟩:=hh
       rw [List.length_map,htas,List.take_length] at hjj
       refine ⟨_,_,_,_,rfl,(s5.trans s6).trans s7,fun i x' p' hi hx' hp'=>?_⟩
       rcases Nat.lt_or_ge i k with yy | yy
       ·exact hkk i x' p' yy hx' hp'
       ·have:i = k:=by omega
        subst this
        rw [hx] at hx'; cases hx'
        by_cases cc:∃ s,(p',s) ∈ tchL log n h u
        ·obtain ⟨s,hs⟩:=cc; exact hjj _ hs
        ·rw [off_room hle hp' (fun s hs=>cc ⟨s,hs⟩)]
         obtain ⟨z,hz1,_⟩:=ro.val i x p' hx hp'
         rw [hz1]; simp
    ·obtain ⟨o6,o7,o8,o9,rfl,s5,hkk⟩:=hh
     rw [List.length_map,hlb] at hkk
     have sm5:=sm4.trans s5
     have d5:=d4.mono s5
     have nRDt:∀ {c:Addr} {ys:List V},H5 c = some (.tup ys)→c ≠ RD:=fun e=>d5.ne (.inr e)
     walk_at "nx"
     refine ⟨⟨_,SqL.of (sm5 _ _ eb)⟩,?_⟩
     refine forW_list (xs:=bs.map V.ref) (fun k σ H'=>∃ (o6 o7 o8 o9:Option V) (kv:List (SKey × V)),σ = [some (.ref b),some (.ref lg),some (.ref TL),some (.ref RD),some (.int (n:Int)),some (.ref ep),o6,o7,o8,o9]∧SameB RD H5 H'∧DS P w H' RD kv∧Upd xs log n (tchL log n h u) k 0 kv∧kv.length ≤ n * 2000 + k * 90)
      ⟨_,_,_,_,kvs,rfl,fun _ _ _ z=>z,d5,Upd.start ro,by omega⟩ (fun k σ H' _ hh=>by obtain ⟨_,_,_,_,_,_,sb,_⟩:=hh; exact SqL.of (sb _ _ (d5.ne (.inl (sm5 _ _ eb))) (sm5 _ _ eb))) (fun k v σ H6 hv hh=>?_) (fun σ H6 hh=>?_)
     ·obtain ⟨o6,o7,o8,o9,kv,rfl,sb,d6,up,hkv⟩:=hh
      have smH:Same H H6:=fun g o z=>sb g o (ne_of_none z hRD0) (sm5 g o z)
      rw [List.getElem?_map] at hv
      cases hbk:bs[k]? with
      | none=>rw [hbk] at hv; cases hv
      | some c=>
       rw [hbk] at hv; cases hv
       have hkx:k < xs.length:=by rw [← hlb]; exact (List.getElem?_eq_some_iff.mp hbk).1
       have hx:=List.getElem?_eq_getElem hkx
       obtain ⟨p,n1,n2⟩ : NmAt H c xs[k]:=paired_get pb hbk hx
       have ok:=hok _ (List.getElem_mem hkx)
       have hs2:=h2 _ (List.getElem_mem hkx)
       generalize xs[k] = x at hx n1 n2 ok hs2
       obtain ⟨pw,pr,rs,r1,r2,r3⟩:=id n2
       walk_at "rd1"
       refine ⟨c,_,rfl,SqT.of (smH _ _ n1),rfl,?_⟩
       walk_at "rd1"
       refine ⟨_,_,.inr (SqT.of (smH _ _ r1)),rfl,?_⟩
       rw [hs2]
       have eT6:H6 TL = some (.lst (cs.map V.ref)):=sb _ _ nTR (s5 _ _ eT4)
       refine ⟨TL,ep,cs,tiesL log n,l,h,u,y,rfl,eT6,paired_imp (fun _ _ z=>sb _ _ (nRDt (s5 _ _ z)) (s5 _ _ z)) pc4,hunt,htl,smH _ _ hat,hul,fun TC tas H7 s7 hTC eTC pTC=>?_⟩
       have pTC':Paired (TchAt H7) tas (tchL log n h u):=pTC
       have htas:=paired_lenW pTC'
       have d7:=d6.mono s7
       have nTC:TC ≠ RD:=d7.ne (.inl eTC)
       refine ⟨TC,rfl,⟨_,SqL.of eTC⟩,?_⟩
       refine forW_list (xs:=tas.map V.ref) (fun j σ H'=>∃ (o8 o9:Option V) (kv':List (SKey × V)),σ = [some (.ref b),some (.ref lg),some (.ref TL),some (.ref RD),some (.int (n:Int)),some (.ref ep),some (.str x.1),some (.ref p),o8,o9]∧SameB RD H7 H'∧DS P w H' RD kv'∧Upd xs log n (tchL log n h u) k j kv'∧kv'.length ≤ n * 2000 + k * 90 + j)
        ⟨_,_,kv,rfl,fun _ _ _ z=>z,d7,up,by omega⟩ (fun j σ H' _ hh=>by obtain ⟨_,_,_,_,sb',_⟩:=hh; exact SqL.of (sb' _ _ nTC eTC)) (fun j v σ H8 hv hh=>?_) (fun σ H8 hh=>?_)
       ·obtain ⟨o8,o9,kv',rfl,sb',d8,up',hkv'⟩:=hh
        rw [List.getElem?_map] at hv
        cases hj:tas[j]? with
        | none=>rw [hj] at hv; cases hv
        | some t1=>
         rw [hj] at hv; cases hv
         have hj2:j < (tchL log n h u).length:=by rw [← htas]; exact (List.getElem?_eq_some_iff.mp hj).1
         have hq:=List.getElem?_eq_getElem hj2
         obtain ⟨d,e1,e2⟩ : TchAt H7 t1 (tchL log n h u)[j]:=paired_get (F:=TchAt H7) pTC' hj hq
         generalize (tchL log n h u)[j] = tq at hq e1 e2
         have hqm:=List.mem_of_getElem? hq
         have hqt:tq.1 ∈ tiesL log n:=tiesL_mem.mpr (tchL_mem.mp hqm).1
         obtain ⟨z,hz2,hz3,_,hz1'⟩:=up'.val k x tq.1 hx hqt
         have hz1:=hz1' (fun dd=>by
          rcases dd with dd | ⟨_,s,hs⟩
          ·omega
          ·exact tch_new hq s hs)
         have hroom:=tch_room hle hqm hz1
         obtain ⟨z',hz'⟩:=Option.ne_none_iff_exists'.mp (hkk k x tq.1 hkx hx hqt)
         rw [hz'] at hroom
         have hzl:=go_lt ok hz2 hroom.symm
         have u1:=sb' _ _ (d7.ne (.inr e1)) e1
         have u2:TieAt H8 d tq.1:=sb' _ _ (d7.ne (.inr e2)) e2
         have sm8:Same H H8:=fun g o zz=>sb' g o (ne_of_none zz hRD0) (s7 _ _ (smH g o zz))
         walk_at "rd1"
         refine ⟨t1,_,rfl,SqT.of u1,rfl,?_⟩
         walk_at "rd1"
         unfold tDGetS
         walk_at "rd1"
         refine ⟨RD,kv',rfl,d8,by decide,fun kp hkp=>?_⟩
         have s9:=same_new hkp (.tup [.str x.1,.ref d])
         have ekp:upd H8 kp (.tup [.str x.1,.ref d]) kp = some (.tup [.str x.1,.ref d]):=upd_same
         generalize upd H8 kp (.tup [.str x.1,.ref d]) = H9 at s9 ekp ⊢
         refine ⟨kp,(x.1,keyT tq.1),kv',rfl,d8.mono s9,⟨d,ekp,s9 _ _ u2⟩,?_⟩
         rw [hz3]
         walk_at "rd1"
         refine ⟨p,x.2,z,tq.2,rfl,(n2.mono sm8).mono s9,ok,hz2,?_⟩
         rw [← hroom]
         walk_at "rd1"
         refine ⟨by decide,fun kr hkr=>?_⟩
         have s10:=same_new hkr (.tup [.str x.1,.ref d])
         have ekr:upd H9 kr (.tup [.str x.1,.ref d]) kr = some (.tup [.str x.1,.ref d]):=upd_same
         generalize upd H9 kr (.tup [.str x.1,.ref d]) = H10 at s10 ekr ⊢
         have s810:=s9.trans s10
         have hlk:=putK_len kv' (x.1,keyT tq.1) (.int (z':Int))
         refine ⟨RD,kr,(x.1,keyT tq.1),kv',rfl,rfl,d8.mono s810,⟨d,ekr,s810 _ _ u2⟩,small' (by omega),fun uu du=>?_⟩
         exact ⟨_,_,putK kv' (x.1,keyT tq.1) (.int (z':Int)),rfl,fun g o hg zz=>by rw [upd_ne hg]; exact s810 _ _ (sb' g o hg zz),du,up'.step hnd hx hq hz' hzl,by omega⟩
       ·obtain ⟨o8,o9,kv',rfl,sb',d8,up',hkv'⟩:=hh
        rw [List.length_map,htas] at up' hkv'
        refine ⟨_,_,_,_,kv',rfl,fun g o hg zz=>sb' g o hg (s7 _ _ (sb g o hg zz)),d8,up'.rule hle,by omega⟩
     ·obtain ⟨o6,o7,o8,o9,kv,rfl,sb,d6,up,hkv⟩:=hh
      rw [List.length_map,hlb] at up hkv
      have ro':=up.fin hle
      refine ⟨_,_,_,_,_,_,cs,kv,rfl,fun g o z=>sb g o (ne_of_none z hRD0) (sm5 g o z),sb _ _ nTR (s5 _ _ eT4),?_,d6,ro',by omega,fun i hi=>?_⟩
      ·rw [tiesL_deed hle]
       exact paired_imp (fun _ _ z=>sb _ _ (nRDt (s5 _ _ z)) (s5 _ _ z)) pc4
      ·rcases Nat.lt_or_ge i n with yy | yy
       ·exact hno i yy
       ·rw [show i = n by omega]
        exact due_nil (ro'.nil h2 (by omega))
 ·obtain ⟨o4,o5,o6,o7,o8,o9,cs,kvs,rfl,sm,_,_,_,_,_,hno⟩:=hh
  rw [List.length_map,hlen] at hno
  walk_at "nx"
  refine q .non H' sm ?_
  have:dueP xs log = none:=fs_none hno
  rw [this]; rfl
def spWhole:Sp:=fun vs H Q _=>∃ n:Int,vs = [.int n]∧Q (.bl true) H
theorem ok_whole (D:DefAt K mg "_law_whole" s_law_whole) (z_isinstance:mg "isinstance" = none) (z_int:mg "int" = none) (z_bool:mg "bool" = none):Cal P w K mg base 1 "_law_whole" ["_law_found"] spWhole:=by
 refine D.cal sc_law_whole (fun _ _ _ _ _ _ us hl=>match us,hl with | [_],_=>rfl) (fun vs H Q E h=>by obtain ⟨n,rfl,_⟩:=h; rfl) (fun f cdv A outer s H vs Q E hr h=>?_)
 obtain ⟨n,rfl,q⟩:=h
 refine ⟨_,(pss_one (ps_ret (pe_and (pe_blt call_isT z_isinstance bt_isinstance (pa_cons (pv 0 (hv:=vz28)) (pa_cons (pe_gty z_int bt_int (hg:=gzk)) pa_nil)) (hg:=gzl)) (pe_one (pe_not (pe_blt call_isT z_isinstance bt_isinstance (pa_cons (pv 0 (hv:=vz28)) (pa_cons (pe_gty z_bool bt_bool (hg:=gzj)) pa_nil)) (hg:=gzl))))))),?_⟩
 walk_at "rd1"
 refine ⟨"int", rfl,by decide,?_⟩
 refine ite2 (fun _=>?_) (fun c=>absurd (by decide) c)
 refine ⟨"int", rfl,by decide,?_⟩
 exact q
theorem BrAt.mono {H H' H2:Hp} {t:Addr} {n:Nat} {nm:Str} {hs:List Int} {row:List Str} (h:BrAt H H' t n nm hs row) (s:Same H' H2):BrAt H H2 t n nm hs row:=by
 obtain ⟨hl,rl,h1,h2,h3,h4⟩:=h.ex
 exact ⟨hl,rl,s _ _ h1,s _ _ h2,s _ _ h3,h4⟩
theorem OutAt.mono {H H' H2:Hp} {v:V}:∀ {d:Due},OutAt H H' v d→Same H' H2→OutAt H H2 v d
 | none,h,_=>h
 | some (_,_,_,_),⟨t,e,h⟩,s=>⟨t,e,h.mono s⟩
def DueOk:Due→Prop
 | none=>True
 | some (_,_,hs,_)=>hs.length = 2
def spAlike:Sp:=fun vs H Q _=>∃ (v v':V) (H1 H2:Hp) (d:Due),vs = [v,v']∧OutAt H1 H v d∧OutAt H2 H v' d∧DueOk d∧Q (.bl true) H
theorem ok_alike (D:DefAt K mg "_law_alike" s_law_alike) (z_isinstance:mg "isinstance" = none) (z_tuple:mg "tuple" = none) (z_list:mg "list" = none) (z_str:mg "str" = none) (z_len:mg "len" = none) (c_law_whole:Cal P w K mg base 1 "_law_whole" ["_law_found"] spWhole):Cal P w K mg base 2 "_law_alike" ["_law_found", "_law_due_here"] spAlike:=by
 refine D.cal (k:=1) sc_law_alike (fun _ _ _ _ _ _ us hl=>match us,hl with | [_,_],_=>rfl) (fun vs H Q E h=>by obtain ⟨_,_,_,_,_,rfl,_⟩:=h; rfl) (fun f cdv A outer s H vs Q E hr h=>?_)
 obtain ⟨v,v',H1,H2,d,rfl,o1,o2,dk,q⟩:=h
 refine ⟨_,(pss_cons (ps_if (pt_cmpR op_isNA (pv 1 (hv:=vz3m)) pe_non (nomark _)) (pss_one (ps_ret (pe_cmpR op_isNA (pv 0 (hv:=vz3l)) pe_non (nomark _)))) pss_nil)
   (pss_cons (ps_if (PW.pt' (pw_or (pt_not (pt_val (pe_blt call_isT z_isinstance bt_isinstance (pa_cons (pv 0 (hv:=vz3l)) (pa_cons (pe_gty z_tuple bt_tuple (hg:=gz18)) pa_nil)) (hg:=gz14)))) (pw_or (pt_cmpR op_neA (pe_blt (call_lenK K) z_len bt_len (pa_cons (pv 0 (hv:=vz3l)) pa_nil) (hg:=gz15)) pe_int (nomark _)) (pw_or (pt_not (pt_val (pe_cal c_law_whole hr (pa_cons (pe_ix (ix_K K) (pv 0 (hv:=vz3l)) pe_int (fun _ _=>rfl)) pa_nil) (hg:=gz13)))) (pw_or1 (pt_not (pt_val (pe_blt call_isT z_isinstance bt_isinstance (pa_cons (pe_ix (ix_K K) (pv 0 (hv:=vz3l)) pe_int (fun _ _=>rfl)) (pa_cons (pe_gty z_str bt_str (hg:=gz17)) pa_nil)) (hg:=gz14))))))))) (pss_one (ps_ret pe_bl)) pss_nil)
   (pss_cons (ps_if (PW.pt' (pw_or (pt_not (pt_val (pe_blt call_isT z_isinstance bt_isinstance (pa_cons (pe_ix (ix_K K) (pv 0 (hv:=vz3l)) pe_int (fun _ _=>rfl)) (pa_cons (pe_gty z_list bt_list (hg:=gz16)) pa_nil)) (hg:=gz14)))) (pw_or (pt_not (pt_val (pe_blt call_isT z_isinstance bt_isinstance (pa_cons (pe_ix (ix_K K) (pv 0 (hv:=vz3l)) pe_int (fun _ _=>rfl)) (pa_cons (pe_gty z_list bt_list (hg:=gz16)) pa_nil)) (hg:=gz14)))) (pw_or1 (pt_cmpR op_neA (pe_blt (call_lenK K) z_len bt_len (pa_cons (pe_ix (ix_K K) (pv 0 (hv:=vz3l)) pe_int (fun _ _=>rfl)) pa_nil) (hg:=gz15)) pe_int (nomark _)))))) (pss_one (ps_ret pe_bl)) pss_nil)
   (pss_one (ps_ret (pe_and (pe_cal c_law_whole hr (pa_cons (pe_ix (ix_K K) (pe_ix (ix_K K) (pv 0 (hv:=vz3l)) pe_int (fun _ _=>rfl)) pe_int (fun _ _=>rfl)) pa_nil) (hg:=gz13)) (pe_and (pe_cal c_law_whole hr (pa_cons (pe_ix (ix_K K) (pe_ix (ix_K K) (pv 0 (hv:=vz3l)) pe_int (fun _ _=>rfl)) pe_int (fun _ _=>rfl)) pa_nil) (hg:=gz13)) (pe_one (pe_cmpR (op_eqKD K hr) (pv 0 (hv:=vz3l)) (pv 1 (hv:=vz3m)) (nomark _)))))))))),?_⟩
 walk_at "rd1"
 cases d with
 | none=>
  have e1:v = .non:=o1
  have e2:v' = .non:=o2
  subst e1 e2
  rw [if_pos rfl]
  exact q
 | some x=>
  obtain ⟨n,nm,hs,row⟩:=x
  obtain ⟨t,rfl,b1⟩:=o1
  obtain ⟨t',rfl,b2⟩:=o2
  obtain ⟨hl,rl,a1,a2,a3,_⟩:=b1.ex
  obtain ⟨hl',rl',c1,c2,c3,_⟩:=b2.ex
  have hone:hs.length = 2:=dk
  have no:∀ {m n:Int},m = n→¬ ((!decide (m = n)) = true):=fun e c=>by rw [decide_eq_true e] at c; cases c
  rw [if_neg (fun z=>nomatch z)]
  walk_at "nx"
  refine ⟨"tuple", by simp [tyName,a1],by decide,ite2 (fun c=>absurd c (by decide)) (fun _=>?_)⟩
  refine ⟨_,.inr (SqT.of a1),ite2 (fun c=>absurd c (no rfl)) (fun _=>?_)⟩
  refine ⟨_,_,.inr (SqT.of a1),rfl,_,rfl,true,rfl,ite2 (fun c=>absurd c (by decide)) (fun _=>?_)⟩
  refine ⟨_,_,.inr (SqT.of a1),rfl,?_⟩
  walk_at "rd1"
  refine ⟨"str", rfl,by decide,ite2 (fun c=>absurd c (by decide)) (fun _=>?_)⟩
  walk_at "nx"
  refine ⟨_,_,.inr (SqT.of a1),rfl,?_⟩
  walk_at "rd1"
  refine ⟨"list", by simp [tyName,a2],by decide,ite2 (fun c=>absurd c (by decide)) (fun _=>?_)⟩
  refine ⟨_,_,.inr (SqT.of a1),rfl,?_⟩
  walk_at "rd1"
  refine ⟨"list", by simp [tyName,a3],by decide,ite2 (fun c=>absurd c (by decide)) (fun _=>?_)⟩
  refine ⟨_,_,.inr (SqT.of a1),rfl,?_⟩
  walk_at "rd1"
  refine ⟨_,.inl (SqL.of a2),?_⟩
  rw [List.length_map,hone]
  walk_at "rd1"
  refine ite2 (fun c=>absurd c (no rfl)) (fun _=>?_)
  walk_at "nx"
  refine ⟨_,_,.inr (SqT.of a1),rfl,?_⟩
  walk_at "rd1"
  match hs,hone with
  | [h,h'],_=>
   refine ⟨_,_,.inl (SqL.of a2),rfl,_,rfl,?_⟩
   walk_at "rd1"
   refine ⟨_,_,.inr (SqT.of a1),rfl,?_⟩
   walk_at "rd1"
   refine ⟨_,_,.inl (SqL.of a2),rfl,_,rfl,?_⟩
   walk_at "rd1"
   refine ⟨1,true,by decide,EqN.seq (.inr ⟨SqT.of a1,SqT.of c1⟩) rfl fun i x y e1 e2=>?_,q⟩
   match i,e1,e2 with
   | 0,e1,e2=>cases e1; cases e2; exact EqN.refl rfl
   | 1,e1,e2=>cases e1; cases e2; exact EqN.refl rfl
   | 2,e1,e2=>cases e1; cases e2; exact EqN.seqFlat (.inl ⟨SqL.of a2,SqL.of c2⟩) (fun x hx=>by obtain ⟨_,_,rfl⟩:=List.mem_map.mp hx; rfl)
   | 3,e1,e2=>cases e1; cases e2; exact EqN.seqFlat (.inl ⟨SqL.of a3,SqL.of c3⟩) (fun x hx=>by obtain ⟨_,_,rfl⟩:=List.mem_map.mp hx; rfl)
   | i + 4,e1,e2=>simp at e1
def EntW (ss:List Str):LogE→Prop
 | .tie _ a b=>a ≠ b
 | .deed _ _ u _=>u ∈ ss
def spEntry:Sp:=fun vs H Q _=>∃ (c first many:Int) (wp:Addr) (ss:List Str),vs = [.int c,.int first,.int many,.ref wp]∧2 ≤ many∧many ≤ 5∧H wp = some (.lst (ss.map V.str))∧1 ≤ ss.length∧∀ (t:Addr) (le:LogE),H t = none→EntW ss le→Q (.ref t) (upd H t (.tup (entV le)))
theorem ok_entry (D:DefAt K mg "_law_entry" s_law_entry) (z_len:mg "len" = none) (c_law_mixed:Cal P w K mg base 1 "_law_mixed" ["_law_cell", "_law_k"] spMix):Cal P w K mg base 2 "_law_entry" ["_law_cell", "_law_first", "_law_many", "_law_words_here"] spEntry:=by
 refine D.cal (k:=1) sc_law_entry (fun _ _ _ _ _ _ us hl=>match us,hl with | [_,_,_,_],_=>rfl) (fun vs H Q E h=>by obtain ⟨_,_,_,_,_,rfl,_⟩:=h; rfl) (fun f cdv A outer s H vs Q E hr h=>?_)
 obtain ⟨c,first,many,wp,ss,rfl,hm,hm5,hS,hss,q⟩:=h
 refine ⟨_,(pss_cons (ps_let 4 sc_law_entry.nd (pe_op op_mod (pe_op op_mulB (pv 0 (hv:=vz2u)) pe_int) pe_int) (hx:=lz19))
   (pss_cons (ps_let 5 sc_law_entry.nd (pe_op op_mod (pv 0 (hv:=vz2u)) (pv 2 (hv:=vz2w))) (hx:=lz1a))
   (pss_cons (ps_if (pt_cmpR op_eqA (pe_op op_mod (pe_op op_fdiv (pv 0 (hv:=vz2u)) pe_int) pe_int) pe_int (nomark _)) (pss_one (ps_ret (pe_tup (pa_cons (pv 4 (hv:=vz2y)) (pa_cons (pe_op op_addA (pv 1 (hv:=vz2v)) (pv 5 (hv:=vz2z))) (pa_cons (pe_op op_addA (pv 1 (hv:=vz2v)) (pe_op op_mod (pe_op op_addA (pe_op op_addA (pv 5 (hv:=vz2z)) pe_int) (pe_op op_mod (pe_op op_fdiv (pv 0 (hv:=vz2u)) pe_int) (pe_op op_sub (pv 2 (hv:=vz2w)) pe_int))) (pv 2 (hv:=vz2w)))) pa_nil)))))) pss_nil)
   (pss_cons (ps_let 6 sc_law_entry.nd (pe_ix (ix_K K) (pv 3 (hv:=vz2x)) (pe_op op_mod (pe_cal c_law_mixed hr (pa_cons (pv 0 (hv:=vz2u)) (pa_cons pe_int pa_nil)) (hg:=gzt)) (pe_blt (call_lenK K) z_len bt_len (pa_cons (pv 3 (hv:=vz2x)) pa_nil) (hg:=gzu))) (fun _ _=>rfl)) (hx:=lz1b))
   (pss_one (ps_ret (pe_tup (pa_cons (pv 4 (hv:=vz2y)) (pa_cons (pe_op op_addA (pv 1 (hv:=vz2v)) (pv 5 (hv:=vz2z))) (pa_cons (pv 6 (hv:=vz30)) (pa_cons (pe_op op_sub (pe_op op_mod (pe_op op_mulB (pv 0 (hv:=vz2u)) pe_int) (pe_op op_addA (pe_op op_mulB pe_int (pe_op op_pow pe_int pe_int)) pe_int)) (pe_op op_pow pe_int pe_int)) pa_nil))))))))))),?_⟩
 walk_at "rd1"
 refine ⟨.inr ⟨by decide,by decide⟩,by decide,?_⟩
 walk_at "nx"
 refine ⟨by omega,?_⟩
 walk_at "nx"
 refine ⟨⟨by decide,by decide⟩,by decide,ite2 (fun _=>?_) (fun _=>?_)⟩
 ·refine ⟨⟨by decide,by decide⟩,by omega,by omega,by decide,fun t ht=>?_⟩
  refine q t (.tie _ _ _) ht ?_
  show first + c % many ≠ first + (c % many + 1 + c / 20 % (many - 1)) % many
  have a1:=Int.emod_nonneg c (show many ≠ 0 by omega)
  have a2:=Int.emod_lt_of_pos c (show 0 < many by omega)
  have b1:=Int.emod_nonneg (c / 20) (show many - 1 ≠ 0 by omega)
  have b2:=Int.emod_lt_of_pos (c / 20) (show 0 < many - 1 by omega)
  generalize c % many = p at a1 a2
  generalize c / 20 % (many - 1) = r at b1 b2
  intro e
  have e':p = (p + 1 + r) % many:=by omega
  have hmc:many = 2∨many = 3∨many = 4∨many = 5:=by omega
  rcases hmc with rfl | rfl | rfl | rfl <;> omega
 ·walk_at "nx"
  refine ⟨c,3,rfl,by decide,by decide,?_⟩
  walk_at "rd1"
  refine ⟨_,.inl (SqL.of hS),?_⟩
  rw [List.length_map]
  walk_at "rd1"
  have a1:=Int.emod_nonneg (mixF c 3) (show (ss.length:Int) ≠ 0 by omega)
  have a2:=Int.emod_lt_of_pos (mixF c 3) (show (0:Int) < ss.length by omega)
  obtain ⟨v,hv,hvm⟩:=at_lst (xs:=ss) (i:=mixF c 3 % (ss.length:Int)) a1 (by omega)
  refine ⟨by omega,_,_,.inl (SqL.of hS),at_map (f:=V.str) a1 hv,?_⟩
  walk_at "nx"
  refine ⟨.inr ⟨by decide,by decide⟩,⟨by decide,by decide,by decide⟩,.inl ⟨by decide,by decide⟩,by decide,⟨by decide,by decide,by decide⟩,by decide,fun t ht=>?_⟩
  exact q t (.deed _ _ v _) ht (List.mem_of_getElem? hv)
def NmOff (L:Addr) (H:Hp) (b:Addr) (x:Str × Rl):Prop:=∃ p pw pr as,H b = some (.tup [.str x.1,.ref p])∧H p = some (.tup [.int x.2.s,.ref pw,.ref pr])∧H pw = some (.lst (x.2.ws.map V.str))∧RoomsAs H pr x.2.rs as∧pw ≠ L∧pr ≠ L∧∀ a ∈ as,a ≠ L
theorem NmOff.at {L:Addr} {H:Hp} {b:Addr} {x:Str × Rl} (h:NmOff L H b x):NmAt H b x:=let ⟨p,pw,pr,as,h1,h2,h3,h4,_⟩:=h; ⟨p,h1,pw,pr,as,h2,h3,h4⟩
theorem NmOff.mono {L:Addr} {H H':Hp} {b:Addr} {x:Str × Rl} (h:NmOff L H b x) (s:Same H H'):NmOff L H' b x:=let ⟨p,pw,pr,as,h1,h2,h3,h4,h5⟩:=h; ⟨p,pw,pr,as,s _ _ h1,s _ _ h2,s _ _ h3,h4.mono s,h5⟩
theorem NmOff.put {L:Addr} {H:Hp} {b:Addr} {x:Str × Rl} {ys zs:List V} (h:NmOff L H b x) (eL:H L = some (.lst ys)):NmOff L (upd H L (.lst zs)) b x:=by
 obtain ⟨p,pw,pr,as,h1,h2,h3,⟨g1,g2,g3⟩,n1,n2,n3⟩:=h
 refine ⟨p,pw,pr,as,by rw [upd_ne (ne_of h1 eL (fun z=>nomatch z))]; exact h1,by rw [upd_ne (ne_of h2 eL (fun z=>nomatch z))]; exact h2,by rw [upd_ne n1]; exact h3,⟨by rw [upd_ne n2]; exact g1,g2,fun i a y e1 e2=>?_⟩,n1,n2,n3⟩
 rw [upd_ne (n3 a (List.mem_of_getElem? e1))]; exact g3 i a y e1 e2
def RuleNew (H H':Hp) (p:Addr) (r:Rl):Prop:=∃ pw pr as,H' p = some (.tup [.int r.s,.ref pw,.ref pr])∧H' pw = some (.lst (r.ws.map V.str))∧RoomsAs H' pr r.rs as∧H pw = none∧H pr = none∧∀ a ∈ as,H a = none
theorem al_same {H H':Hp} {p:Addr} {o:HO} (e:upd H p o = H') (h:H p = none):Same H H':=e ▸ same_new h o
theorem al_at {H H':Hp} {p:Addr} {o:HO} (e:upd H p o = H'):H' p = some o:=by rw [← e]; exact upd_same
theorem app_inj2 {a b x y:Str} (ha:a.length = 2) (hb:b.length = 2) (h:a ++ x = b ++ y):x = y:=by
 have e:=congrArg (fun s:Str=>s.cps.toList) h
 simp only [cps_app] at e
 have ha':a.cps.toList.length = 2:=by rw [Array.length_toList]; exact ha
 have hb':b.cps.toList.length = 2:=by rw [Array.length_toList]; exact hb
 exact str_ext (List.append_inj e (by omega)).2
theorem app_left {a b x y:Str} (ha:a.length = b.length) (h:a ++ x = b ++ y):a = b:=by
 have e:=congrArg (fun s:Str=>s.cps.toList) h
 simp only [cps_app] at e
 have ha':a.cps.toList.length = b.cps.toList.length:=by rw [Array.length_toList,Array.length_toList]; exact ha
 exact str_ext (List.append_inj e ha').1
theorem side_nodup {ss:List Str} (X Y:Str) (hX:X.length = 2) (hY:Y.length = 2) (hne:X ≠ Y) (nd:ss.Nodup):(ss.map (fun s=>X ++ s) ++ ss.map (fun s=>Y ++ s)).Nodup:=by
 rw [List.nodup_append]
 refine ⟨?_,?_,fun a ha b hb e=>?_⟩
 ·exact List.Pairwise.map _ (fun a b h e=>h (app_inj2 hX hX e)) nd
 ·exact List.Pairwise.map _ (fun a b h e=>h (app_inj2 hY hY e)) nd
 ·obtain ⟨x,_,rfl⟩:=List.mem_map.mp ha
  obtain ⟨y,_,rfl⟩:=List.mem_map.mp hb
  exact hne (app_left (hX.trans hY.symm) e)
theorem comp_pre {P:Program} {w:World} {K:PySem.W.Frag} {a L:Addr} {ss:List Str} {X:Str} {s0 s1 s2 s3 s4 s5 s6 s7 s8:Option V} {H1:Hp} {Q:VK} (hX:X.length = 2) (hL:H1 L = none) (ha:H1 a = some (.lst (ss.map V.str))) (hn:ss.length ≤ 1000) (hl:∀ x ∈ ss,x.length ≤ 8)
  (q:∀ H',Same H1 H'→H' L = some (.lst ((ss.map fun s=>X ++ s).map V.str))→Q (.ref L) H'):compW (Itl K a) (gName 9) tYes (tOp rAddA (tC (.str X)) (tVar 9)) 1 [s0,s1,s2,s3,s4,s5,s6,s7,s8] L Q (upd H1 L (.lst [])):=by
 refine compW_list (xs:=ss.map V.str) (fun j ys H4=>ys = (((ss.take j).map fun s=>X ++ s).map V.str)∧Same H1 H4∧H4 L = some (.lst ys)) ⟨rfl,same_new hL _,upd_same⟩ (fun j ys H4 _ hh=>SqL.of (hh.2.1 _ _ ha)) ?_ ?_
 ·rintro j ys H4 v hv hj ⟨rfl,sm4,eL⟩
  rw [List.length_map] at hj
  rw [List.getElem?_map,List.getElem?_eq_getElem hj] at hv
  cases hv
  have h8:=hl _ (List.getElem_mem hj)
  walk_at "rd1"
  refine ⟨by rw [hX]; exact smallL (by omega),?_⟩
  refine cstep (by rw [List.length_map]; exact hj) (by rw [List.length_map,List.length_map,List.length_take]; omega) (by rw [List.length_map]; exact smallL (by omega)) eL ⟨?_,sm4.upd hL _,upd_same⟩
  rw [List.take_add_one,List.getElem?_eq_getElem hj,List.map_append,List.map_append]; rfl
 ·rintro ys H4 ⟨rfl,sm4,eL⟩
  rw [List.length_map,List.take_length] at eL
  exact q _ sm4 eL
def spRule3:Sp:=fun vs H Q _=>∃ (c:Int) (wp:Addr) (ss:List Str),vs = [.int c,.ref wp]∧H wp = some (.lst (ss.map V.str))∧ss.length ≤ 5∧(∀ x ∈ ss,x.length ≤ 8)∧ss.Nodup∧∀ (p:Addr) (H':Hp) (r:Rl),Same H H'→RuleNew H H' p r→RlOk r→r.ws.Nodup→r.s = 2→Q (.ref p) H'
theorem ok_rule3 (D:DefAt K mg "_law_rule" s_law_rule) (z_range:mg "range" = none) (z_len:mg "len" = none) (z_sorted:mg "sorted" = none) (c_law_mixed:Cal P w K mg base 1 "_law_mixed" ["_law_cell", "_law_k"] spMix):Cal P w K mg base 2 "_law_rule" ["_law_cell", "_law_words_here"] spRule3:=by
 refine D.cal (k:=1) sc_law_rule (fun _ _ _ _ _ _ us hl=>match us,hl with | [_,_],_=>rfl) (fun vs H Q E h=>by obtain ⟨c,wp,ss,rfl,_⟩:=h; rfl) (fun f cdv A outer s H vs Q E hr h=>?_)
 obtain ⟨c,wp,ss,rfl,hS,hss,hsl,hnd,q⟩:=h
 refine ⟨_,(pss_cons (ps_let 2 sc_law_rule.nd (pe_op op_addA (pe_comp (CompSc.to (fsc:=(defScope s_law_rule)) (N:=["_law_cell", "_law_words_here", "_law_texts", "_law_many", "_law_rooms", "_law_room", "_law_row", "_law_j", "_law_number"]) (N0:=["_law_cell", "_law_words_here", "_law_texts", "_law_many", "_law_rooms", "_law_room", "_law_row", "_law_j", "_law_number"]) (T:=["_law_word"]) ⟨by decide +kernel,by decide +kernel,by decide +kernel,by decide +kernel,by decide +kernel,by decide +kernel,by decide +kernel⟩ rfl rfl) rfl (pi_listK K (pv 1 (hv:=vz2m))) (fun _ _ _ _=>(pg_let 9 (show (["_law_cell", "_law_words_here", "_law_texts", "_law_many", "_law_rooms", "_law_room", "_law_row", "_law_j", "_law_number", "_law_word"]:List Str).Nodup from by decide +kernel) (hx:=(locC (defScope s_law_rule) (by decide +kernel))) (hf:=fnC (defScope s_law_rule) (by decide +kernel)))) (gfr_name (show (["_law_cell", "_law_words_here", "_law_texts", "_law_many", "_law_rooms", "_law_room", "_law_row", "_law_j", "_law_number"]:List Str).length ≤ 9 from by decide)) (fun _ _ _ _=>pifs_nil) (fun _ _ _ _=>(pe_op op_addA pe_str (pv 9 (hv:=(visC (defScope s_law_rule) (by decide +kernel))))))) (pe_comp (CompSc.to (fsc:=(defScope s_law_rule)) (N:=["_law_cell", "_law_words_here", "_law_texts", "_law_many", "_law_rooms", "_law_room", "_law_row", "_law_j", "_law_number"]) (N0:=["_law_cell", "_law_words_here", "_law_texts", "_law_many", "_law_rooms", "_law_room", "_law_row", "_law_j", "_law_number"]) (T:=["_law_word"]) ⟨by decide +kernel,by decide +kernel,by decide +kernel,by decide +kernel,by decide +kernel,by decide +kernel,by decide +kernel⟩ rfl rfl) rfl (pi_listK K (pv 1 (hv:=vz2m))) (fun _ _ _ _=>(pg_let 9 (show (["_law_cell", "_law_words_here", "_law_texts", "_law_many", "_law_rooms", "_law_room", "_law_row", "_law_j", "_law_number", "_law_word"]:List Str).Nodup from by decide +kernel) (hx:=(locC (defScope s_law_rule) (by decide +kernel))) (hf:=fnC (defScope s_law_rule) (by decide +kernel)))) (gfr_name (show (["_law_cell", "_law_words_here", "_law_texts", "_law_many", "_law_rooms", "_law_room", "_law_row", "_law_j", "_law_number"]:List Str).length ≤ 9 from by decide)) (fun _ _ _ _=>pifs_nil) (fun _ _ _ _=>(pe_op op_addA pe_str (pv 9 (hv:=(visC (defScope s_law_rule) (by decide +kernel)))))))) (hx:=lz12))
   (pss_cons (ps_let 2 sc_law_rule.nd (pe_blt (call_sortS K) z_sorted bt_sorted (pa_cons (pe_comp (CompSc.to (fsc:=(defScope s_law_rule)) (N:=["_law_cell", "_law_words_here", "_law_texts", "_law_many", "_law_rooms", "_law_room", "_law_row", "_law_j", "_law_number"]) (N0:=["_law_cell", "_law_words_here", "_law_texts", "_law_many", "_law_rooms", "_law_room", "_law_row", "_law_j", "_law_number"]) (T:=["_law_k"]) ⟨by decide +kernel,by decide +kernel,by decide +kernel,by decide +kernel,by decide +kernel,by decide +kernel,by decide +kernel⟩ rfl rfl) rfl (pi_range1 gzr z_range (pa_cons (pe_blt (call_lenK K) z_len bt_len (pa_cons (pv 2 (hv:=vz2n)) pa_nil) (hg:=gzq)) pa_nil)) (fun _ _ _ _=>(pg_let 9 (show (["_law_cell", "_law_words_here", "_law_texts", "_law_many", "_law_rooms", "_law_room", "_law_row", "_law_j", "_law_number", "_law_k"]:List Str).Nodup from by decide +kernel) (hx:=(locC (defScope s_law_rule) (by decide +kernel))) (hf:=fnC (defScope s_law_rule) (by decide +kernel)))) (gfr_name (show (["_law_cell", "_law_words_here", "_law_texts", "_law_many", "_law_rooms", "_law_room", "_law_row", "_law_j", "_law_number"]:List Str).length ≤ 9 from by decide)) (fun _ _ _ _=>(pifs_one (pt_cmpR op_gt (pe_op op_mod (pe_cal c_law_mixed hr (pa_cons (pv 0 (hv:=(visC (defScope s_law_rule) (by decide +kernel)))) (pa_cons (pe_op op_addA pe_int (pv 9 (hv:=(visC (defScope s_law_rule) (by decide +kernel))))) pa_nil)) (hg:=(glC (defScope s_law_rule) (by decide +kernel)))) pe_int) pe_int (nomark _)))) (fun _ _ _ _=>(pe_ix (ix_K K) (pv 2 (hv:=(visC (defScope s_law_rule) (by decide +kernel)))) (pv 9 (hv:=(visC (defScope s_law_rule) (by decide +kernel)))) (fun _ _=>rfl)))) pa_nil) (hg:=gzs)) (hx:=lz12))
   (pss_cons (ps_let 3 sc_law_rule.nd (pe_op op_addA pe_int (pe_op op_mod (pe_op op_fdiv (pv 0 (hv:=vz2l)) pe_int) pe_int)) (hx:=lz13))
   (pss_cons (ps_if (pt_cmpR op_eqA (pe_op op_mod (pe_op op_fdiv (pv 0 (hv:=vz2l)) pe_int) pe_int) pe_int (nomark _)) (pss_one (ps_let 3 sc_law_rule.nd (pe_op op_addA pe_int (pe_op op_mod (pe_op op_fdiv (pv 0 (hv:=vz2l)) pe_int) pe_int)) (hx:=lz13))) pss_nil)
   (pss_cons (ps_let 4 sc_law_rule.nd (pe_lst pa_nil) (hx:=lz14))
   (pss_cons (ps_for PassesOwn.never rfl (pi_range1 gzr z_range (pa_cons (pv 3 (hv:=vz2o)) pa_nil)) (pg_let 5 sc_law_rule.nd (hx:=lz15)) (pss_cons (ps_let 6 sc_law_rule.nd (pe_lst pa_nil) (hx:=lz16))
   (pss_cons (ps_for PassesOwn.never rfl (pi_range1 gzr z_range (pa_cons (pe_blt (call_lenK K) z_len bt_len (pa_cons (pv 2 (hv:=vz2n)) pa_nil) (hg:=gzq)) pa_nil)) (pg_let 7 sc_law_rule.nd (hx:=lz17)) (pss_cons (ps_let 8 sc_law_rule.nd (pe_cal c_law_mixed hr (pa_cons (pv 0 (hv:=vz2l)) (pa_cons (pe_op op_addA (pe_op op_addA pe_int (pe_op op_mulB pe_int (pv 5 (hv:=vz2q)))) (pv 7 (hv:=vz2s))) pa_nil)) (hg:=gzp)) (hx:=lz18))
   (pss_one (ps_if (pt_cmpR op_eqA (pe_op op_mod (pe_op op_fdiv (pv 8 (hv:=vz2t)) pe_int) (pe_ix (ix_K K) (pe_lst (pa_cons pe_int (pa_cons pe_int (pa_cons pe_int pa_nil)))) (pe_op op_mod (pv 0 (hv:=vz2l)) pe_int) (fun _ _=>rfl))) pe_int (nomark _)) (pss_one (ps_expr (pe_bmK K PySem.F.plainAttrs_list PySem.F.slot_list_append PySem.F.type_list_append mt_appendA (pv 6 (hv:=vz2r)) (pa_cons pe_non pa_nil)))) (pss_one (ps_expr (pe_bmK K PySem.F.plainAttrs_list PySem.F.slot_list_append PySem.F.type_list_append mt_appendA (pv 6 (hv:=vz2r)) (pa_cons (pe_op op_mod (pv 8 (hv:=vz2t)) (pv 3 (hv:=vz2o))) pa_nil))))))))
   (pss_one (ps_expr (pe_bmK K PySem.F.plainAttrs_list PySem.F.slot_list_append PySem.F.type_list_append mt_appendA (pv 4 (hv:=vz2p)) (pa_cons (pv 6 (hv:=vz2r)) pa_nil)))))))
   (pss_one (ps_ret (pe_tup (pa_cons pe_int (pa_cons (pv 2 (hv:=vz2n)) (pa_cons (pv 4 (hv:=vz2p)) pa_nil)))))))))))),?_⟩
 walk_at "rd1"
 refine ⟨⟨_,SqL.of hS⟩,fun L1 hL1=>?_⟩
 refine comp_pre (P:=P) (w:=w) (X := "1.") (by decide +kernel) hL1 hS (by omega) hsl (fun Ha sa ea=>?_)
 refine ⟨⟨_,SqL.of (sa _ _ hS)⟩,fun L2 hL2=>?_⟩
 refine comp_pre (P:=P) (w:=w) (X := "2.") (by decide +kernel) hL2 (sa _ _ hS) (by omega) hsl (fun Hb sb eb=>?_)
 rw [rAddA_ref]
 refine ⟨_,_,sb _ _ ea,eb,by simp only [List.length_map]; exact smallL (by omega),fun xp0 hxp0=>?_⟩
 generalize hH2:upd Hb xp0 _ = H2
 have sm2:Same H H2:=(sa.trans sb).trans (al_same hH2 hxp0)
 have e2:=al_at hH2
 rw [← List.map_append] at e2
 have htl0:(ss.map (fun s:Str=>("1." : Str) ++ s) ++ ss.map (fun s:Str=>("2." : Str) ++ s)).length ≤ 10:=by simp; omega
 have htd0:=side_nodup ("1." : Str) ("2." : Str) (by decide +kernel) (by decide +kernel) (by decide +kernel) hnd
 have htb0:∀ x ∈ ss.map (fun s:Str=>("1." : Str) ++ s) ++ ss.map (fun s:Str=>("2." : Str) ++ s),x.length ≤ 10:=fun x hx=>by
  rcases List.mem_append.mp hx with hx | hx <;> obtain ⟨y,hy,rfl⟩:=List.mem_map.mp hx <;> rw [Str.length_append] <;> have:=hsl y hy
  ·rw [show (("1." : Str).length) = 2 by decide +kernel]; omega
  ·rw [show (("2." : Str).length) = 2 by decide +kernel]; omega
 generalize ss.map (fun s:Str=>("1." : Str) ++ s) ++ ss.map (fun s:Str=>("2." : Str) ++ s) = ts0 at e2 htl0 htd0 htb0
 walk_at "nx"
 refine ⟨_,.inl (SqL.of e2),?_⟩
 rw [List.length_map]
 walk_at "rd1"
 refine ⟨by omega,by omega,fun L hL=>?_⟩
 rw [Int.toNat_natCast]
 refine compT_range (n:=ts0.length) (fun i ys H'=>∃ us:List Str,Same H2 H'∧H' L = some (.lst ys)∧ys = us.map V.str∧us.length ≤ i∧us.Sublist (ts0.take i)) ⟨[],same_new hL _,upd_same,rfl,Nat.le_refl _,List.nil_sublist _⟩ ?_ ?_
 ·rintro i ys H' hi ⟨us,sm,hl,rfl,hul,hus⟩
  have hst:(ts0.take (i + 1)) = ts0.take i ++ [ts0[i]]:=by rw [List.take_add_one,List.getElem?_eq_getElem hi]; rfl
  walk_at "rd1"
  refine ⟨c,_,rfl,by omega,by omega,?_⟩
  walk_at "rd1"
  refine ⟨by decide,ite2 (fun _=>?_) (fun _=>?_)⟩
  ·refine ⟨_,_,.inl (SqL.of (sm _ _ e2)),by rw [Int.zero_add]; exact atI_nat (v:=.str ts0[i]) (by rw [List.getElem?_map,List.getElem?_eq_getElem hi]; rfl),?_⟩
   exact cstepT hi (by rw [List.length_map]; exact hul) (smallL (by omega)) hl ⟨us ++ [ts0[i]],sm.upd hL _,upd_same,map_push _ _,by simp; omega,by rw [hst]; exact hus.append (List.Sublist.refl _)⟩
  ·exact cskip hi ⟨us,sm,hl,rfl,by omega,by rw [hst]; exact hus.trans (List.sublist_append_left _ _)⟩
 rintro ys H3 ⟨us,sm3,hl3,rfl,hul,hus⟩
 have hus':us.Sublist ts0:=hus.trans (List.take_sublist _ _)
 walk_at "rd1"
 refine ⟨us,SqL.of hl3,by omega,fun xp ts hxp hperm _=>?_⟩
 obtain ⟨m,htl,m1⟩ : ∃ m:Nat,ts.length = m∧m ≤ 10:=⟨_,rfl,by rw [hperm.length_eq]; omega⟩
 have htd:ts.Nodup:=hperm.nodup_iff.mpr (hus'.nodup htd0)
 have htb:∀ x ∈ ts,x.length ≤ 10:=fun x hx=>htb0 x (hus'.subset (hperm.mem_iff.mp hx))
 generalize hH4:upd H3 xp _ = H4
 have sm4:=al_same hH4 hxp
 have e4:=al_at hH4
 have s03:=sm2.trans sm3
 have s04:=s03.trans sm4
 walk_at "nx"
 refine ⟨⟨by decide,by decide⟩,by decide,?_⟩
 refine seq_by (fun σ' H'=>∃ z:Nat,1 ≤ z∧z ≤ 60∧σ' = [some (.int c),some (.ref wp),some (.ref xp),some (.int (z:Int)),none,none,none,none,none]∧H4 = H') (fun k hk=>?_) ?_
 ·walk_at "rd1"
  refine ⟨⟨by decide,by decide⟩,by decide,ite2 (fun _=>?_) (fun _=>?_)⟩
  ·refine ⟨⟨by decide,by decide⟩,by decide,hk _ _ ⟨(1 + c / 96 % 60).toNat,by omega,by omega,?_,rfl⟩⟩
   rw [show (((1 + c / 96 % 60).toNat:Nat):Int) = 1 + c / 96 % 60 by omega]
  ·refine hk _ _ ⟨(1 + c / 3 % 4).toNat,by omega,by omega,?_,rfl⟩
   rw [show (((1 + c / 3 % 4).toNat:Nat):Int) = 1 + c / 3 % 4 by omega]
 rintro σ' H' ⟨z,z0,z1,rfl,rfl⟩
 walk_at "nx"
 refine ⟨by decide,fun rp hrp=>?_⟩
 generalize hH5:upd H4 rp _ = H5
 have sm5:=al_same hH5 hrp
 have e5:=al_at hH5
 walk_at "nx"
 refine ⟨by omega,by omega,?_⟩
 rw [Int.toNat_natCast]
 refine forW_range (fun i σ H'=>∃ (as:List Addr) (rows:List (List (Option Nat))) (o5 o6 o7 o8:Option V),σ = [some (.int c),some (.ref wp),some (.ref xp),some (.int z),some (.ref rp),o5,o6,o7,o8]∧Same H4 H'∧RoomsTo H' rp m z i as rows∧∀ a ∈ as,H4 a = none)
  ⟨[],[],none,none,none,none,rfl,sm5,⟨e5,rfl,rfl,by simp,by simp⟩,(fun _ h=>nomatch h)⟩ ?_ ?_
 ·rintro i σ H' hi ⟨as,rows,o5,o6,o7,o8,rfl,sm,hRm,hnw⟩
  walk_at "rd1"
  refine ⟨by decide,fun L' hL'=>?_⟩
  generalize hH6:upd H' L' _ = H6
  have sm6:=al_same hH6 hL'
  have e6:=al_at hH6
  walk_at "nx"
  refine ⟨_,.inl (SqL.of ((sm.trans sm6) _ _ e4)),?_⟩
  rw [List.length_map,htl]
  walk_at "rd1"
  refine ⟨by omega,by omega,?_⟩
  rw [Int.toNat_natCast]
  refine forW_range (fun j σ H5=>∃ (x:List (Option Nat)) (o7 o8:Option V),σ = [some (.int c),some (.ref wp),some (.ref xp),some (.int z),some (.ref rp),some (.int (0 + (i:Int))),some (.ref L'),o7,o8]∧Same H' H5∧H5 L' = some (.lst (x.map wayV))∧x.length = j∧∀ k,some k ∈ x→k < z)
   ⟨[],_,_,rfl,sm6,e6,rfl,by simp⟩ ?_ ?_
  ·rintro j σ H5 hj ⟨x,o7,o8,rfl,sm5,hx,hxl,hxk⟩
   walk_at "rd1"
   refine ⟨.inl ⟨by decide,by decide⟩,c,_,rfl,by omega,by omega,?_⟩
   obtain ⟨m0',m1'⟩:=mixF_bd c (100 + 17 * (0 + (i:Int)) + (0 + (j:Int)))
   generalize mixF c (100 + 17 * (0 + (i:Int)) + (0 + (j:Int))) = mx at m0' m1'
   walk_at "nx"
   obtain ⟨sh,hsh,sh0⟩:=share_at [3,9,30] c 3 rfl (by decide) (by decide)
   refine ⟨⟨by decide,by decide⟩,by decide,fun lp hlp=>⟨by decide,_,_,.inl (SqL.of upd_same),hsh,?_⟩⟩
   have s6:=same_new hlp (.lst [V.int 3,V.int 9,V.int 30])
   have hx6:=s6 _ _ hx
   have sm6:=sm5.trans s6
   generalize upd H5 lp (.lst [V.int 3,V.int 9,V.int 30]) = H6 at s6 hx6 sm6 ⊢
   walk_at "rd1"
   refine ⟨sh0,ite2 (fun _=>?_) (fun _=>?_)⟩
   ·refine ⟨⟨_,SqL.of hx6⟩,_,hx6,by rw [List.length_map]; exact small' (by omega),?_⟩
    exact ⟨x ++ [none],_,_,rfl,sm6.upd hL' _,by rw [upd_same,List.map_append]; rfl,len_push hxl,way_push hxk fun k e=>by cases e⟩
   ·obtain ⟨k,ek,hk⟩:=mod_way mx z0
    refine ⟨⟨_,SqL.of hx6⟩,by omega,?_⟩
    rw [ek]
    refine ⟨_,hx6,by rw [List.length_map]; exact small' (by omega),?_⟩
    exact ⟨x ++ [some k],_,_,rfl,sm6.upd hL' _,by rw [upd_same,List.map_append]; rfl,len_push hxl,way_push hxk fun k' e=>by cases e; exact hk⟩
  ·rintro σ H5 ⟨x,o7,o8,rfl,sm5,hx,hxl,hxk⟩
   walk_at "nx"
   refine ⟨⟨_,SqL.of (sm5 _ _ hRm.1)⟩,_,sm5 _ _ hRm.1,by rw [List.length_map,hRm.2.1]; exact small' (by omega),?_⟩
   refine ⟨_,_,_,_,_,_,rfl,(sm.trans sm5).upd hrp _,hRm.push sm5 hL' hx hxl hxk,fun a ha=>?_⟩
   rcases List.mem_append.mp ha with h | h
   ·exact hnw a h
   ·have:a = L':=by simpa using h
    rw [this]; exact sm.free hL'
 ·rintro σ H' ⟨as,rows,o5,o6,o7,o8,rfl,sm,hRm,hnw⟩
  walk_at "nx"
  refine ⟨by decide,fun tp htp=>?_⟩
  have smt:=same_new htp (.tup [.int 2,.ref xp,.ref rp])
  obtain ⟨hR,ok⟩:=hRm.rule smt (sm _ _ e4) upd_same (.inr rfl) htl (by omega) z0 z1 htb
  refine q tp _ ⟨2,ts,rows⟩ ((s04.trans sm).trans smt) ⟨xp,rp,as,upd_same,smt _ _ (sm _ _ e4),⟨smt _ _ hRm.1,by show as.length = rows.length; rw [hRm.2.1,hRm.2.2.1],fun i a x e1 e2=>smt _ _ (hRm.2.2.2.1 i a x e1 e2).1⟩,s03.free hxp,s04.free hrp,fun a ha=>s04.free (hnw a ha)⟩ ok htd rfl
theorem cut_to {α : Type} {xs:List α} {k:Nat} (h:k ≤ xs.length):cutS xs none (some (k:Int)) = xs.take k:=by
 unfold cutS; rw [HT.sIx_nat,HT.sIx_none,List.drop_zero,Nat.sub_zero,Nat.min_eq_left h]
theorem named_eq {H:Hp} {b c:Addr} {x:Str × Rl} (h1:NmAt H b x) (h2:NmAt H c x):EqN K H 4 (.ref b) (.ref c) true:=by
 obtain ⟨p,a1,a2⟩:=h1
 obtain ⟨q,b1,b2⟩:=h2
 refine EqN.seq (.inr ⟨SqT.of a1,SqT.of b1⟩) rfl fun i x y e1 e2=>?_
 match i,e1,e2 with
 | 0,e1,e2=>cases e1; cases e2; exact EqN.refl rfl
 | 1,e1,e2=>cases e1; cases e2; exact rule_eq a2 b2
 | i + 2,e1,e2=>simp at e1
theorem rules_eq {H:Hp} {p q:Addr} {bs cs:List Addr} {xs:List (Str × Rl)} (h1:H p = some (.lst (bs.map V.ref))) (h2:H q = some (.lst (cs.map V.ref))) (p1:Paired (NmAt H) bs xs) (p2:Paired (NmAt H) cs xs):EqN K H 5 (.ref p) (.ref q) true:=by
 have l1:=paired_lenW p1
 have l2:=paired_lenW p2
 refine EqN.seq (.inl ⟨SqL.of h1,SqL.of h2⟩) (by simp; omega) fun i x y e1 e2=>?_
 rw [List.getElem?_map] at e1 e2
 cases qa:bs[i]? with
 | none=>rw [qa] at e1; cases e1
 | some a=>
  cases qb:cs[i]? with
  | none=>rw [qb] at e2; cases e2
  | some b=>
   rw [qa] at e1; rw [qb] at e2
   cases e1; cases e2
   have hi:i < xs.length:=by have:=(List.getElem?_eq_some_iff.mp qa).1; omega
   exact named_eq (paired_get p1 qa (List.getElem?_eq_getElem hi)) (paired_get p2 qb (List.getElem?_eq_getElem hi))
theorem log_eq {H:Hp} {p q:Addr} {ls:List Addr} {log:List LogE} (h1:H p = some (.lst (ls.map V.ref))) (h2:H q = some (.lst (ls.map V.ref))) (pl:Paired (EntAt H) ls log):EqN K H 5 (.ref p) (.ref q) true:=by
 have l1:=paired_lenW pl
 refine EqN.seq (.inl ⟨SqL.of h1,SqL.of h2⟩) rfl fun i x y e1 e2=>?_
 rw [List.getElem?_map] at e1 e2
 cases qa:ls[i]? with
 | none=>rw [qa] at e1; cases e1
 | some a=>
  rw [qa] at e1 e2
  cases e1; cases e2
  have hi:i < log.length:=by have:=(List.getElem?_eq_some_iff.mp qa).1; omega
  have hat:H a = some (.tup (entV log[i])):=paired_get (F:=EntAt H) pl qa (List.getElem?_eq_getElem hi)
  refine EqN.seqFlat (.inr ⟨SqT.of hat,SqT.of hat⟩) fun v hv=>?_
  generalize log[i] = le at hv
  cases le <;> simp [entV] at hv
  ·rcases hv with rfl | rfl | rfl <;> rfl
  ·rcases hv with rfl | rfl | rfl | rfl <;> rfl
theorem due_mem {xs:List (Str × Rl)} {log:List LogE} {n:Nat} {x:Nat × Str × List Int × List Str} (h:dueAt xs log n = some x):∃ (k i:Nat) (y:Str × Rl),xs[k]? = some y∧brkRow xs (log.take (n + 1)) k i = some (k,x.2.2.1,x.2.2.2):=by
 unfold dueAt at h
 obtain ⟨v,hv,hx⟩:=Option.bind_eq_some_iff.mp h
 obtain ⟨y,hy,rfl⟩:=Option.map_eq_some_iff.mp hx
 rw [brokenL_head] at hv
 obtain ⟨k,_,hk⟩:=List.exists_of_findSome?_eq_some hv
 obtain ⟨i,_,hi⟩:=List.exists_of_findSome?_eq_some hk
 have hkv:v.1 = k:=by
  unfold brkRow at hi
  split at hi
  ·obtain ⟨p,_,hp⟩:=Option.bind_eq_some_iff.mp hi
   split at hp
   ·cases hp; rfl
   ·cases hp
  ·cases hi
 refine ⟨k,i,y,hkv ▸ hy,?_⟩
 rw [hi,← hkv]
theorem due_hs {xs:List (Str × Rl)} {log:List LogE} {n:Nat} {x:Nat × Str × List Int × List Str} (h2:∀ x ∈ xs,x.2.s = 2) (h:dueAt xs log n = some x):x.2.2.1.length = 2:=by
 obtain ⟨k,i,y,hy,hi⟩:=due_mem h
 have hs:=h2 y (List.mem_of_getElem? hy)
 unfold brkRow at hi
 rw [hy] at hi
 obtain ⟨p,hp,hq⟩:=Option.bind_eq_some_iff.mp hi
 split at hq
 ·have e:p.1 = x.2.2.1:=congrArg (fun z=>z.2.1) (Option.some.inj hq)
  rw [← e]
  unfold rowAt at hp
  rw [hs] at hp
  split at hp
  ·rw [if_pos rfl] at hp; cases hp; rfl
  ·rw [if_neg (fun z=>absurd z.1 (by decide))] at hp; cases hp
  ·cases hp
 ·cases hq
theorem row_len {s:Int} {log:List LogE} {i:Nat} {p:List Int × List Str} (h:rowAt s log i = some p):p.2.length ≤ log.length:=by
 unfold rowAt at h
 split at h
 ·split at h
  ·cases h
   show (rowP _ _ _ _ _).length ≤ _
   unfold rowP
   refine Nat.le_trans (List.length_filterMap_le _ _) ?_
   rw [List.length_drop,List.length_take]; omega
  ·cases h
 ·split at h
  ·cases h
   show (rowH _ _).length ≤ _
   unfold rowH
   exact List.length_filterMap_le _ _
  ·cases h
 ·cases h
theorem due_one {xs:List (Str × Rl)} {log:List LogE} (h2:∀ x ∈ xs,x.2.s = 2):DueOk (dueP xs log):=by
 cases h:dueP xs log with
 | none=>trivial
 | some x=>
  unfold dueP at h
  obtain ⟨i,_,hi⟩:=List.exists_of_findSome?_eq_some h
  exact due_hs h2 hi
theorem due_row {xs:List (Str × Rl)} {log:List LogE} {n:Nat} {nm:Str} {hs:List Int} {row:List Str} (h:dueP xs log = some (n,nm,hs,row)):row.length ≤ log.length:=by
 unfold dueP at h
 obtain ⟨m,_,hi⟩:=List.exists_of_findSome?_eq_some h
 obtain ⟨k,i,y,hy,hb⟩:=due_mem hi
 unfold brkRow at hb
 rw [hy] at hb
 obtain ⟨p,hp,hq⟩:=Option.bind_eq_some_iff.mp hb
 split at hq
 ·have e:p.2 = row:=congrArg (fun z=>z.2.2) (Option.some.inj hq)
  rw [← e]
  refine Nat.le_trans (row_len hp) ?_
  rw [List.length_take]; omega
 ·cases hq
theorem unlike_drop {log:List LogE} {n:Nat} (h:Unlike log):Unlike (log.drop n):=fun i l a b e=>by
 rw [List.getElem?_drop] at e
 exact h _ l a b e
theorem ok_law {f:Addr} {fd:FuncData} (F:Fun K "law" "law" s_law f fd) (z_len:mg "len" = none) (z_list:mg "list" = none) (z_range:mg "range" = none)
  (c_law_cell_at:Cal P w K mg base 1 "_law_cell_at" ["_law_script", "_law_k"] (spCell K)) (c_law_mixed:Cal P w K mg base 1 "_law_mixed" ["_law_cell", "_law_k"] spMix) (c_law_words:Cal P w K mg base 2 "_law_words" ["_law_cell", "_law_many"] spWordsN)
  (c_law_rule:Cal P w K mg base 2 "_law_rule" ["_law_cell", "_law_words_here"] spRule3) (c_law_entry:Cal P w K mg base 2 "_law_entry" ["_law_cell", "_law_first", "_law_many", "_law_words_here"] spEntry)
  (c_law_due:Cal P w K mg base 2 "_law_due" ["_law_rules", "_law_log"] spDue) (c_law_alike:Cal P w K mg base 2 "_law_alike" ["_law_found", "_law_due_here"] spAlike) (c_breach_in:Cal P w K mg base 6 "breach_in" ["rules", "log"] spIn3):FnOk P w K mg base CX0 7 f fd ["_law_script"] (spLaw K):=by
 refine F.ok sc_law (fun vs H Q E h=>by obtain ⟨a,ns,rfl,_⟩:=h; rfl) (fun cdv A outer s H vs Q E hr h=>?_)
 obtain ⟨a,ns,rfl,hS,h63,q⟩:=h
 refine ⟨_,(pss_cons (ps_let 1 sc_law.nd (pe_cal c_law_words hr (pa_cons (pe_cal c_law_cell_at hr (pa_cons (pv 0 (hv:=vz3n)) (pa_cons pe_int pa_nil)) (hg:=gz1a)) (pa_cons pe_int pa_nil)) (hg:=gz1e)) (hx:=lz1m))
   (pss_cons (ps_let 2 sc_law.nd (pe_cal c_law_words hr (pa_cons (pe_cal c_law_cell_at hr (pa_cons (pv 0 (hv:=vz3n)) (pa_cons pe_int pa_nil)) (hg:=gz1a)) (pa_cons pe_int pa_nil)) (hg:=gz1e)) (hx:=lz1n))
   (pss_cons (ps_let 3 sc_law.nd (pe_op op_mod (pe_cal c_law_cell_at hr (pa_cons (pv 0 (hv:=vz3n)) (pa_cons pe_int pa_nil)) (hg:=gz1a)) (pe_op op_pow pe_int pe_int)) (hx:=lz1o))
   (pss_cons (ps_if (pt_cmpR op_eqA (pe_op op_mod (pe_op op_fdiv (pe_cal c_law_cell_at hr (pa_cons (pv 0 (hv:=vz3n)) (pa_cons pe_int pa_nil)) (hg:=gz1a)) pe_int) pe_int) pe_int (nomark _)) (pss_one (ps_let 3 sc_law.nd (pe_op op_mod (pe_cal c_law_cell_at hr (pa_cons (pv 0 (hv:=vz3n)) (pa_cons pe_int pa_nil)) (hg:=gz1a)) (pe_op op_pow pe_int pe_int)) (hx:=lz1o))) pss_nil)
   (pss_cons (ps_let 4 sc_law.nd (pe_op op_addA pe_int (pe_op op_mod (pe_cal c_law_cell_at hr (pa_cons (pv 0 (hv:=vz3n)) (pa_cons pe_int pa_nil)) (hg:=gz1a)) pe_int)) (hx:=lz1p))
   (pss_cons (ps_let 5 sc_law.nd (pe_slice (sl_listK K) (pv 1 (hv:=vz3o)) po_none (po_some (pe_op op_addA pe_int (pe_op op_mod (pe_op op_fdiv (pe_cal c_law_cell_at hr (pa_cons (pv 0 (hv:=vz3n)) (pa_cons pe_int pa_nil)) (hg:=gz1a)) pe_int) pe_int)))) (hx:=lz1q))
   (pss_cons (ps_setcomp (CompSc.to (fsc:=(defScope s_law)) (N:=["_law_script", "_law_words_here", "_law_names", "_law_first", "_law_many", "_law_used", "_law_log", "_law_rules", "_law_k", "_law_kept", "_law_handed", "_law_due_here", "_law_found"]) (N0:=["_law_script", "_law_words_here", "_law_names", "_law_first", "_law_many", "_law_used", "_law_log", "_law_rules", "_law_k", "_law_kept", "_law_handed", "_law_due_here", "_law_found"]) (T:=["_law_cell"]) ⟨by decide +kernel,by decide +kernel,by decide +kernel,by decide +kernel,by decide +kernel,by decide +kernel,by decide +kernel⟩ rfl rfl) rfl sc_law.nd (i:=6) rfl kz1 (pi_listK K (pe_slice (sl_listK K) (pv 0 (hv:=vz3n)) (po_some pe_int) (po_some pe_int))) (fun _ _ _ _=>(pg_let 13 (show (["_law_script", "_law_words_here", "_law_names", "_law_first", "_law_many", "_law_used", "_law_log", "_law_rules", "_law_k", "_law_kept", "_law_handed", "_law_due_here", "_law_found", "_law_cell"]:List Str).Nodup from by decide +kernel) (hx:=(locC (defScope s_law) (by decide +kernel))) (hf:=fnC (defScope s_law) (by decide +kernel)))) (gfr_name (show (["_law_script", "_law_words_here", "_law_names", "_law_first", "_law_many", "_law_used", "_law_log", "_law_rules", "_law_k", "_law_kept", "_law_handed", "_law_due_here", "_law_found"]:List Str).length ≤ 13 from by decide)) (fun _ _ _ _=>pifs_nil) (fun _ _ _ _=>(pe_cal c_law_entry hr (pa_cons (pv 13 (hv:=(visC (defScope s_law) (by decide +kernel)))) (pa_cons (pv 3 (hv:=(visC (defScope s_law) (by decide +kernel)))) (pa_cons (pv 4 (hv:=(visC (defScope s_law) (by decide +kernel)))) (pa_cons (pv 5 (hv:=(visC (defScope s_law) (by decide +kernel)))) pa_nil)))) (hg:=(glC (defScope s_law) (by decide +kernel))))))
   (pss_cons (ps_let 7 sc_law.nd (pe_lst pa_nil) (hx:=lz1r))
   (pss_cons (ps_for PassesOwn.never rfl (pi_range1 gz1h z_range (pa_cons (pe_op op_addA pe_int (pe_op op_mod (pe_cal c_law_cell_at hr (pa_cons (pv 0 (hv:=vz3n)) (pa_cons pe_int pa_nil)) (hg:=gz1a)) pe_int)) pa_nil)) (pg_let 8 sc_law.nd (hx:=lz1s)) (pss_one (ps_expr (pe_bmK K PySem.F.plainAttrs_list PySem.F.slot_list_append PySem.F.type_list_append mt_appendA (pv 7 (hv:=vz3r)) (pa_cons (pe_tup (pa_cons (pe_ix (ix_K K) (pv 2 (hv:=vz3p)) (pv 8 (hv:=vz3s)) (fun _ _=>rfl)) (pa_cons (pe_cal c_law_rule hr (pa_cons (pe_cal c_law_mixed hr (pa_cons (pe_cal c_law_cell_at hr (pa_cons (pv 0 (hv:=vz3n)) (pa_cons pe_int pa_nil)) (hg:=gz1a)) (pa_cons (pe_op op_addA pe_int (pv 8 (hv:=vz3s))) pa_nil)) (hg:=gz1c)) (pa_cons (pe_slice (sl_listK K) (pv 1 (hv:=vz3o)) po_none (po_some pe_int)) pa_nil)) (hg:=gz1d)) pa_nil))) pa_nil)))))
   (pss_cons (ps_setcomp (CompSc.to (fsc:=(defScope s_law)) (N:=["_law_script", "_law_words_here", "_law_names", "_law_first", "_law_many", "_law_used", "_law_log", "_law_rules", "_law_k", "_law_kept", "_law_handed", "_law_due_here", "_law_found"]) (N0:=["_law_script", "_law_words_here", "_law_names", "_law_first", "_law_many", "_law_used", "_law_log", "_law_rules", "_law_k", "_law_kept", "_law_handed", "_law_due_here", "_law_found"]) (T:=["_law_name", "_law_rule_here"]) ⟨by decide +kernel,by decide +kernel,by decide +kernel,by decide +kernel,by decide +kernel,by decide +kernel,by decide +kernel⟩ rfl rfl) rfl sc_law.nd (i:=9) rfl kz2 (pi_listK K (pv 7 (hv:=vz3r))) (fun _ _ _ _=>(pg_tupK K (n:=2) (pgs_cons (pg_let 13 (show (["_law_script", "_law_words_here", "_law_names", "_law_first", "_law_many", "_law_used", "_law_log", "_law_rules", "_law_k", "_law_kept", "_law_handed", "_law_due_here", "_law_found", "_law_name", "_law_rule_here"]:List Str).Nodup from by decide +kernel) (hx:=(locC (defScope s_law) (by decide +kernel))) (hf:=fnC (defScope s_law) (by decide +kernel))) (pgs_cons (pg_let 14 (show (["_law_script", "_law_words_here", "_law_names", "_law_first", "_law_many", "_law_used", "_law_log", "_law_rules", "_law_k", "_law_kept", "_law_handed", "_law_due_here", "_law_found", "_law_name", "_law_rule_here"]:List Str).Nodup from by decide +kernel) (hx:=(locC (defScope s_law) (by decide +kernel))) (hf:=fnC (defScope s_law) (by decide +kernel))) pgs_nil)))) (gfr_tup (gsfr_cons (gfr_name (show (["_law_script", "_law_words_here", "_law_names", "_law_first", "_law_many", "_law_used", "_law_log", "_law_rules", "_law_k", "_law_kept", "_law_handed", "_law_due_here", "_law_found"]:List Str).length ≤ 13 from by decide)) gm_name (gsfr_cons (gfr_name (show (["_law_script", "_law_words_here", "_law_names", "_law_first", "_law_many", "_law_used", "_law_log", "_law_rules", "_law_k", "_law_kept", "_law_handed", "_law_due_here", "_law_found"]:List Str).length ≤ 14 from by decide)) gm_name gsfr_nil gsm_nil) (gsm_cons gm_name gsm_nil))) (fun _ _ _ _=>pifs_nil) (fun _ _ _ _=>(pe_tup (pa_cons (pv 13 (hv:=(visC (defScope s_law) (by decide +kernel)))) (pa_cons (pe_tup (pa_cons pe_int (pa_cons (pe_bty (call_listA K) z_list bt_list (pa_cons (pe_ix (ix_K K) (pv 14 (hv:=(visC (defScope s_law) (by decide +kernel)))) pe_int (fun _ _=>rfl)) pa_nil) (hg:=(glC (defScope s_law) (by decide +kernel)))) (pa_cons (pe_comp (CompSc.to (fsc:=(relabelS _ (defScope s_law))) (N:=["_law_script", "_law_words_here", "_law_names", "_law_first", "_law_many", "_law_used", "_law_log", "_law_rules", "_law_k", "_law_kept", "_law_handed", "_law_due_here", "_law_found", "_law_name", "_law_rule_here"]) (N0:=["_law_script", "_law_words_here", "_law_names", "_law_first", "_law_many", "_law_used", "_law_log", "_law_rules", "_law_k", "_law_kept", "_law_handed", "_law_due_here", "_law_found", "_law_name", "_law_rule_here"]) (T:=["_law_room"]) ⟨by decide +kernel,by decide +kernel,by decide +kernel,by decide +kernel,by decide +kernel,by decide +kernel,by decide +kernel⟩ rfl rfl) rfl (pi_listK K (pe_ix (ix_K K) (pv 14 (hv:=(visC (defScope s_law) (by decide +kernel)))) pe_int (fun _ _=>rfl))) (fun _ _ _ _=>(pg_let 15 (show (["_law_script", "_law_words_here", "_law_names", "_law_first", "_law_many", "_law_used", "_law_log", "_law_rules", "_law_k", "_law_kept", "_law_handed", "_law_due_here", "_law_found", "_law_name", "_law_rule_here", "_law_room"]:List Str).Nodup from by decide +kernel) (hx:=(locC (relabelS _ (defScope s_law)) (e:=rfl) (by decide +kernel))) (hf:=fnC (relabelS _ (defScope s_law)) (e:=rfl) (by decide +kernel)))) (gfr_name (show (["_law_script", "_law_words_here", "_law_names", "_law_first", "_law_many", "_law_used", "_law_log", "_law_rules", "_law_k", "_law_kept", "_law_handed", "_law_due_here", "_law_found", "_law_name", "_law_rule_here"]:List Str).length ≤ 15 from by decide)) (fun _ _ _ _=>pifs_nil) (fun _ _ _ _=>(pe_bty (call_listA K) z_list bt_list (pa_cons (pv 15 (hv:=(visC (relabelS _ (defScope s_law)) (e:=rfl) (by decide +kernel)))) pa_nil) (hg:=(glC (relabelS _ (defScope s_law)) (e:=rfl) (by decide +kernel)))))) pa_nil)))) pa_nil)))))
   (pss_cons (ps_let 10 sc_law.nd (pe_bty (call_listA K) z_list bt_list (pa_cons (pv 6 (hv:=vz3q)) pa_nil) (hg:=gz1g)) (hx:=lz1t))
   (pss_cons (ps_let 11 sc_law.nd (pe_cal c_law_due hr (pa_cons (pv 9 (hv:=vz3t)) (pa_cons (pv 6 (hv:=vz3q)) pa_nil)) (hg:=gz1b)) (hx:=lz1u))
   (pss_cons (ps_let 12 sc_law.nd (pe_cal c_breach_in hr (pa_cons (pv 7 (hv:=vz3r)) (pa_cons (pv 10 (hv:=vz3u)) pa_nil)) (hg:=gz1f)) (hx:=lz1v))
   (pss_cons (ps_if (PW.pt' (pw_or (pt_not (pt_val (pe_cal c_law_alike hr (pa_cons (pv 12 (hv:=vz3w)) (pa_cons (pv 11 (hv:=vz3v)) pa_nil)) (hg:=gz19)))) (pw_or1 (pt_not (pt_val (pe_cal c_law_alike hr (pa_cons (pe_cal c_breach_in hr (pa_cons (pv 7 (hv:=vz3r)) (pa_cons (pe_slice (sl_listK K) (pv 6 (hv:=vz3q)) (po_some pe_int) po_none) pa_nil)) (hg:=gz1f)) (pa_cons (pe_cal c_law_due hr (pa_cons (pv 9 (hv:=vz3t)) (pa_cons (pe_slice (sl_listK K) (pv 6 (hv:=vz3q)) (po_some pe_int) po_none) pa_nil)) (hg:=gz1b)) pa_nil)) (hg:=gz19))))))) (pss_one (ps_ret pe_bl)) pss_nil)
   (pss_cons (ps_if (pt_cmpR op_notNA (pv 11 (hv:=vz3v)) pe_non (nomark _)) (pss_cons (ps_expr (pe_bmK K PySem.F.plainAttrs_list PySem.F.slot_list_append PySem.F.type_list_append mt_appendA (pe_ix (ix_K K) (pv 12 (hv:=vz3w)) pe_int (fun _ _=>rfl)) (pa_cons pe_int pa_nil)))
   (pss_one (ps_expr (pe_bmK K PySem.F.plainAttrs_list PySem.F.slot_list_append PySem.F.type_list_append mt_appendA (pe_ix (ix_K K) (pv 12 (hv:=vz3w)) pe_int (fun _ _=>rfl)) (pa_cons (pe_op op_addA pe_str (pe_ix (ix_K K) (pv 1 (hv:=vz3o)) pe_int (fun _ _=>rfl))) pa_nil))))) pss_nil)
   (pss_one (ps_ret (pe_and (pe_cal c_law_alike hr (pa_cons (pe_cal c_breach_in hr (pa_cons (pv 7 (hv:=vz3r)) (pa_cons (pv 10 (hv:=vz3u)) pa_nil)) (hg:=gz1f)) (pa_cons (pv 11 (hv:=vz3v)) pa_nil)) (hg:=gz19)) (pe_and (pe_cmpR (op_eqKD K hr) (pv 10 (hv:=vz3u)) (pv 6 (hv:=vz3q)) (nomark _)) (pe_one (pe_cmpR (op_eqKD K hr) (pv 7 (hv:=vz3r)) (pv 9 (hv:=vz3t)) (nomark _)))))))))))))))))))))),?_⟩
 walk_at "rd1"
 refine ⟨a,ns,0,rfl,hS,by decide,?_⟩
 refine ⟨_,4,rfl,by decide,fun wp H1 ss sm1 hwp hwl hwn hwb hwd=>?_⟩
 walk_at "nx"
 refine ⟨a,ns,1,rfl,sm1.seq hS,by decide,?_⟩
 refine ⟨_,3,rfl,by decide,fun np H2 nms sm2 hnp hnl hnn hnb hnd=>?_⟩
 have s12:=sm1.trans sm2
 have hwl2:=sm2 _ _ hwl
 have h3n:(ss.take 3).length = 3:=by rw [List.length_take]; omega
 walk_at "nx"
 refine ⟨a,ns,2,rfl,s12.seq hS,by decide,?_⟩
 walk_at "rd1"
 refine ⟨⟨by decide,by decide,by decide⟩,by decide,?_⟩
 refine seq_by (fun σ' H'=>∃ first:Int,H2 = H'∧σ' = [some (.ref a),some (.ref wp),some (.ref np),some (.int first),none,none,none,none,none,none,none,none,none]) (fun k' hk'=>?_) ?_
 ·walk_at "rd1"
  refine ⟨a,ns,2,rfl,s12.seq hS,by decide,?_⟩
  walk_at "rd1"
  refine ⟨⟨by decide,by decide⟩,by decide,?_⟩
  refine ite2 (fun _=>?_) (fun _=>?_)
  ·refine ⟨a,ns,2,rfl,s12.seq hS,by decide,?_⟩
   walk_at "rd1"
   refine ⟨⟨by decide,by decide,by decide⟩,by decide,?_⟩
   exact hk' _ _ ⟨_,rfl,rfl⟩
  ·exact hk' _ _ ⟨_,rfl,rfl⟩
 rintro σ' H' ⟨first,rfl,rfl⟩
 walk_at "nx"
 refine ⟨a,ns,3,rfl,s12.seq hS,by decide,?_⟩
 walk_at "rd1"
 refine ⟨by decide,?_⟩
 generalize ns.getD (Int.toNat 3) 0 = c3
 obtain ⟨many,em,hm2,hm5⟩ : ∃ many:Int,2 + c3 % 3 = many∧2 ≤ many∧many ≤ 5:=⟨_,rfl,by omega,by omega⟩
 rw [em]
 walk_at "nx"
 refine ⟨a,ns,3,rfl,s12.seq hS,by decide,?_⟩
 walk_at "rd1"
 refine ⟨⟨by decide,by decide⟩,by decide,_,SqL.of hwl2,fun up hup=>?_⟩
 generalize ns.getD (Int.toNat 3) 0 = c3'
 obtain ⟨uz,euz,hu1,hu4⟩ : ∃ uz:Nat,1 + c3' / 3 % 4 = (uz:Int)∧1 ≤ uz∧uz ≤ 4:=⟨(1 + c3' / 3 % 4).toNat,by omega,by omega,by omega⟩
 rw [euz]
 generalize hH2b:upd H2 up _ = H2b
 have s2b:=al_same hH2b hup
 have eup:=al_at hH2b
 rw [cut_map,cut_to (k:=uz) (by omega)] at eup
 have hun4:(ss.take uz).length = uz:=by rw [List.length_take]; omega
 have s12:=s12.trans s2b
 have hwl2:=s2b _ _ hwl2
 have hnl:=s2b _ _ hnl
 clear hup hH2b
 generalize H2b = H2 at *
 walk_at "nx"
 refine ⟨_,s12.seq hS,fun cp hcp=>?_⟩
 generalize hH3:upd H2 cp _ = H3
 have s3:=al_same hH3 hcp
 have e3:=al_at hH3
 rw [cut_map] at e3
 have hcl:=cutS_len ns (some 5) (some 85)
 generalize cutS ns (some 5) (some 85) = cs at e3 hcl
 have s13:=s12.trans s3
 refine ⟨⟨_,SqL.of e3⟩,fun LG hLG=>?_⟩
 refine compW_list (xs:=cs.map V.int) (fun j ys H4=>∃ (ls:List Addr) (log:List LogE),ys = ls.map V.ref∧ls.length = j∧Same H3 H4∧H4 LG = some (.lst ys)∧Paired (EntAt H4) ls log∧∀ e ∈ log,EntW (ss.take uz) e) ⟨[],[],rfl,rfl,same_new hLG _,upd_same,.nil,fun _ h=>nomatch h⟩ (fun j ys H4 _ hh=>by obtain ⟨_,_,_,_,sm4,_⟩:=hh; exact SqL.of (sm4 _ _ e3)) ?_ ?_
 ·rintro j ys H4 v hv hj ⟨ls,log,rfl,hll,sm4,eL,pl,hle⟩
  rw [List.length_map] at hj
  rw [List.getElem?_map,List.getElem?_eq_getElem hj] at hv
  cases hv
  walk_at "rd1"
  refine ⟨_,first,many,up,ss.take uz,rfl,hm2,hm5,(s3.trans sm4) _ _ eup,by omega,fun t le ht hle'=>?_⟩
  have s6:=same_new ht (.tup (entV le))
  have et:upd H4 t (.tup (entV le)) t = some (.tup (entV le)):=upd_same
  generalize upd H4 t (.tup (entV le)) = H6 at s6 et ⊢
  have s56:=s6
  have eL6:=s56 _ _ eL
  have tp:∀ c ys,H6 c = some (.tup ys)→upd H6 LG (.lst (ls.map V.ref ++ [.ref t])) c = some (.tup ys):=fun c ys z=>by rw [upd_ne (fun g=>by rw [g,eL6] at z; cases z)]; exact z
  refine cstep (by rw [List.length_map]; exact hj) (by rw [List.length_map]; exact hll) (by rw [List.length_map]; exact smallL (by omega)) eL6 ⟨ls ++ [t],log ++ [le],map_push _ _,by simp [hll],(sm4.trans s56).upd hLG _,upd_same,?_,fun e he=>?_⟩
  ·exact paired_snocW (R:=EntAt (upd H6 LG (HO.lst (ls.map V.ref ++ [V.ref t])))) (x:=t) (y:=le) (tp _ _ et) (paired_imp (fun b e z=>tp _ _ (s56 _ _ z)) pl)
  ·rcases List.mem_append.mp he with h | h
   ·exact hle e h
   ·have:e = le:=by simpa using h
    rw [this]; exact hle'
 rintro ys H4 ⟨ls,log,rfl,hll,sm4,eLG,plog,hlog⟩
 rw [List.length_map] at hll
 have s14:=s13.trans sm4
 have hloglen:log.length ≤ 90:=by have:=paired_lenW plog; omega
 have hwords:∀ l x u y,LogE.deed l x u y ∈ log→u.length ≤ 1000:=fun l x u y he=>by
  have:u ∈ ss.take uz:=hlog _ he
  exact Nat.le_trans (hwb u (List.mem_of_mem_take this)) (by decide)
 have hun:Unlike log:=fun n l a b e=>hlog _ (List.mem_of_getElem? e)
 walk_at "nx"
 refine ⟨by decide,fun RL hRL=>?_⟩
 generalize hH5:upd H4 RL _ = H5
 have s5:=al_same hH5 hRL
 have e5:=al_at hH5
 have s15:=s14.trans s5
 walk_at "nx"
 refine ⟨a,ns,4,rfl,s15.seq hS,by decide,?_⟩
 walk_at "rd1"
 generalize ns.getD (Int.toNat 4) 0 = c4
 obtain ⟨z,ez,hz1,hz3⟩ : ∃ z:Nat,1 + c4 % 3 = (z:Int)∧1 ≤ z∧z ≤ 3:=⟨(1 + c4 % 3).toNat,by omega,by omega,by omega⟩
 rw [ez]
 refine ⟨by decide,by omega,by omega,?_⟩
 rw [Int.toNat_natCast]
 refine forW_range (fun i σ H'=>∃ (o6:Option V) (bs:List Addr) (xs:List (Str × Rl)),σ = [some (.ref a),some (.ref wp),some (.ref np),some (.int first),some (.int many),some (.ref up),some (.ref LG),some (.ref RL),o6,none,none,none,none]∧SameB RL H5 H'∧H' RL = some (.lst (bs.map V.ref))∧Paired (NmOff RL H') bs xs∧xs.map Prod.fst = nms.take i∧xs.length = i∧∀ x ∈ xs,RlOk x.2∧x.2.ws.Nodup∧x.2.s = 2)
  ⟨_,[],[],rfl,fun _ _ _ z=>z,e5,.nil,rfl,rfl,fun _ h=>nomatch h⟩ (fun i σ H' hi hh=>?_) (fun σ H' hh=>?_)
 ·obtain ⟨o6,bs,xs,rfl,sb,eRL,pb,hxm,hxl,hxs⟩:=hh
  have smH:Same H4 H':=fun c o y=>sb c o (ne_of_none y hRL) (s5 c o y)
  have s1':=s14.trans smH
  have s3':=(s3.trans sm4).trans smH
  have hbl:=paired_lenW pb
  walk_at "rd1"
  have hin:i < nms.length:=by omega
  refine ⟨⟨_,SqL.of eRL⟩,_,_,.inl (SqL.of (s3' _ _ hnl)),by rw [Int.zero_add]; exact atI_nat (v:=.str nms[i]) (by rw [List.getElem?_map,List.getElem?_eq_getElem hin]; rfl),a,ns,4,rfl,s1'.seq hS,by decide,?_⟩
  walk_at "rd1"
  refine ⟨_,_,rfl,by omega,by omega,?_⟩
  refine ⟨_,SqL.of (s3' _ _ hwl2),fun w3 hw3=>?_⟩
  generalize hH6:upd H' w3 _ = H6
  have s6:=al_same hH6 hw3
  have e6:=al_at hH6
  rw [cut_map,show cutS ss none (some 3) = ss.take 3 from cut_to (k:=3) (by omega)] at e6
  have eRL6:=s6 _ _ eRL
  refine ⟨_,w3,ss.take 3,rfl,e6,by omega,fun x hx=>hwb x (List.mem_of_mem_take hx),(List.take_sublist _ _).nodup hwd,fun rp H7 r s7 hN ok nd one=>?_⟩
  obtain ⟨pw,pr,as,n1,n2,n3,n4,n5,n6⟩:=hN
  walk_at "rd1"
  refine ⟨by decide,fun t ht=>?_⟩
  have s8:=same_new ht (.tup [.str nms[i],.ref rp])
  have et:upd H7 t (.tup [.str nms[i],.ref rp]) t = some (.tup [.str nms[i],.ref rp]):=upd_same
  generalize upd H7 t (.tup [.str nms[i],.ref rp]) = H8 at s8 et ⊢
  have s68:=(s6.trans s7).trans s8
  have eRL8:=s68 _ _ eRL
  have hnew:NmOff RL H8 t (nms[i],r):=⟨rp,pw,pr,as,et,s8 _ _ n1,s8 _ _ n2,n3.mono s8,(ne_of_none eRL6 n4).symm,(ne_of_none eRL6 n5).symm,fun b hb=>(ne_of_none eRL6 (n6 b hb)).symm⟩
  refine ⟨_,eRL8,small' (by rw [List.length_map]; omega),_,bs ++ [t],xs ++ [(nms[i],r)],rfl,fun c o hc y=>by rw [upd_ne hc]; exact s68 _ _ (sb c o hc y),by rw [upd_same,List.map_append]; rfl,?_,by rw [List.map_append,hxm,List.take_add_one,List.getElem?_eq_getElem hin]; rfl,by simp [hxl],fun x hx=>?_⟩
  ·exact paired_snocW (R:=NmOff RL (upd H8 RL (.lst (bs.map V.ref ++ [.ref t])))) (hnew.put eRL8) (paired_imp (fun b y w=>(NmOff.mono w s68).put eRL8) pb)
  ·rcases List.mem_append.mp hx with h | h
   ·exact hxs x h
   ·have:x = (nms[i],r):=by simpa using h
    rw [this]; exact ⟨ok,nd,one⟩
 ·obtain ⟨o6,bs,xs,rfl,sb,eRL,pb0,hxm,hxl,hxs⟩:=hh
  have hnds:(xs.map Prod.fst).Nodup:=by rw [hxm]; exact (List.take_sublist _ _).nodup hnd
  have hxs2:∀ x ∈ xs,RlOk x.2∧x.2.ws.Nodup:=fun x hx=>⟨(hxs x hx).1,(hxs x hx).2.1⟩
  have hok2:∀ x ∈ xs,RlOk x.2∧x.2.s = 2:=fun x hx=>⟨(hxs x hx).1,(hxs x hx).2.2⟩
  have h2:∀ x ∈ xs,x.2.s = 2:=fun x hx=>(hxs x hx).2.2
  have smH:Same H4 H':=fun c o y=>sb c o (ne_of_none y hRL) (s5 c o y)
  have pb:Paired (NmAt H') bs xs:=paired_imp (fun b y w=>NmOff.at w) pb0
  have s1':=s14.trans smH
  have s3':=(s3.trans sm4).trans smH
  have hbl:=paired_lenW pb
  have eLG':=smH _ _ eLG
  have plog':Paired (EntAt H') ls log:=paired_imp (fun b y w=>smH _ _ w) plog
  have hwl':=s3' _ _ hwl2
  clear hRL sb pb0 plog
  generalize H' = H6 at *
  walk_at "nx"
  refine ⟨⟨_,SqL.of eRL⟩,fun KL hKL=>?_⟩
  refine compW_list (xs:=bs.map V.ref) (fun j ys H4=>∃ as:List Addr,ys = as.map V.ref∧as.length = j∧Same H6 H4∧H4 KL = some (.lst ys)∧Paired (NmOff KL H4) as (xs.take j)) ⟨[],rfl,rfl,same_new hKL _,upd_same,.nil⟩ (fun j ys H4 _ hh=>by obtain ⟨_,_,_,sm4,_⟩:=hh; exact SqL.of (sm4 _ _ eRL)) ?_ ?_
  ·rintro j ys H4 v hv hj ⟨as,rfl,hal,sm4,eL,pa⟩
   rw [List.length_map] at hj
   rw [List.getElem?_map,List.getElem?_eq_getElem hj] at hv
   cases hv
   have hj':j < xs.length:=by omega
   have hx:=List.getElem?_eq_getElem hj'
   generalize xs[j] = x at hx
   have ok:=(hxs x (List.mem_of_getElem? hx)).1
   have hone:=(hxs x (List.mem_of_getElem? hx)).2.2
   obtain ⟨p,n1,pw,pr,rs,n2,n3,n4⟩ : NmAt H6 bs[j] x:=paired_get pb (List.getElem?_eq_getElem hj) hx
   have n1':=sm4 _ _ n1
   have n2':=sm4 _ _ n2
   walk_at "rd1"
   refine ⟨bs[j],_,rfl,SqT.of n1',rfl,?_⟩
   walk_at "rd1"
   refine ⟨_,_,.inr (SqT.of n2'),rfl,?_⟩
   walk_at "rd1"
   refine ⟨_,.inl (SqL.of (sm4 _ _ n3)),fun wl hwl=>?_⟩
   generalize hH5:upd H4 wl _ = H5
   have s5:=al_same hH5 hwl
   have e5:=al_at hH5
   refine ⟨_,_,.inr (SqT.of (s5 _ _ n2')),rfl,pr,rfl,⟨_,SqL.of (s5 _ _ (sm4 _ _ n4.1))⟩,fun M hM=>?_⟩
   have n4':=n4.mono (sm4.trans s5)
   refine copy_rooms n4' ok.n1 hM (fun a xs H' C z1 z2=>?_) (fun H6 cs s6 hB hcs _=>?_)
   ·walk_at "rd1"
    exact ⟨_,.inl (SqL.of z1),z2⟩
   walk_at "rd1"
   refine ⟨by decide,fun t1 ht1=>?_⟩
   generalize hH7:upd H6 t1 _ = H7
   have s7:=al_same hH7 ht1
   have e7:=al_at hH7
   refine ⟨by decide,fun t2 ht2=>?_⟩
   generalize hH8:upd H7 t2 _ = H8
   have s8:=al_same hH8 ht2
   have e8:=al_at hH8
   have s68:=s7.trans s8
   have eL5:=s5 _ _ eL
   have hnew:NmOff KL H8 t2 x:=⟨t1,wl,M,cs,e8,by rw [hone]; exact s8 _ _ e7,s68 _ _ (s6 _ _ e5),hB.mono s68,(ne_of_none eL hwl).symm,(ne_of_none eL5 hM).symm,fun a ha=>(ne_of_none eL5 (hcs a ha).1).symm⟩
   have s48:=(s5.trans s6).trans s68
   have eL8:=s48 _ _ eL
   refine cstep (by rw [List.length_map]; exact hj) (by rw [List.length_map]; exact hal) (by rw [List.length_map]; exact smallL (by omega)) eL8 ⟨as ++ [t2],map_push _ _,by simp [hal],(sm4.trans s48).upd hKL _,upd_same,?_⟩
   rw [List.take_add_one,hx]
   exact paired_snocW (R:=NmOff KL (upd H8 KL (.lst (as.map V.ref ++ [.ref t2])))) (hnew.put eL8) (paired_imp (fun b y z=>(NmOff.mono z s48).put eL8) pa)
  rintro ys H7 ⟨ks,rfl,hkl,s7,eKL,pk0⟩
  rw [List.length_map,hbl,List.take_length] at pk0
  have pk:Paired (NmAt H7) ks xs:=paired_imp (fun b y z=>NmOff.at z) pk0
  have hok:∀ x ∈ xs,RlOk x.2:=fun x hx=>(hxs x hx).1
  walk_at "nx"
  refine ⟨_,.inl (SqL.of (s7 _ _ eLG')),fun HD hHD=>?_⟩
  generalize hH8:upd H7 HD _ = H8
  have s8:=al_same hH8 hHD
  have eHD:=al_at hH8
  have s78:=s7.trans s8
  have pl8:Paired (EntAt H8) ls log:=paired_imp (fun b y w=>s78 _ _ w) plog'
  walk_at "nx"
  refine ⟨KL,LG,ks,ls,xs,log,rfl,s8 _ _ eKL,paired_imp (fun b y w=>NmAt.mono w s8) pk,by omega,hnds,hok2,s78 _ _ eLG',pl8,hloglen,hwords,hun,fun dv H9 s9 od=>?_⟩
  have s79:=s78.trans s9
  have pb9:Paired (NmAt H9) bs xs:=paired_imp (fun b y w=>NmAt.mono w s79) pb
  have pk9:Paired (NmAt H9) ks xs:=paired_imp (fun b y w=>NmAt.mono w (s8.trans s9)) pk
  have pl9:Paired (EntAt H9) ls log:=paired_imp (fun b y w=>s79 _ _ w) plog'
  have eRL9:=s79 _ _ eRL
  have eLG9:=s79 _ _ eLG'
  have eHD9:=s9 _ _ eHD
  have eKL9:=(s8.trans s9) _ _ eKL
  have hwl9:=s79 _ _ hwl'
  clear pb pk pk0 plog' pl8
  walk_at "nx"
  refine ⟨RL,HD,bs,ls,xs,log,rfl,eRL9,pb9,by omega,hxs2,eHD9,pl9,hloglen,hwords,hun,fun fv H10 s10 of=>?_⟩
  walk_at "nx"
  refine ⟨fv,dv,_,_,_,rfl,of,od.mono s10,due_one h2,?_⟩
  walk_at "rd1"
  refine ⟨_,SqL.of (s10 _ _ eLG9),fun c1 hc1=>?_⟩
  have ecut:cutV (ls.map V.ref) (some 2) none = (ls.drop 2).map V.ref:=by rw [show (2:Int) = ((2:Nat):Int) from rfl,cutV_from,List.map_drop]
  rw [ecut]
  have sc1:=same_new hc1 (.lst ((ls.drop 2).map V.ref))
  have ec1:upd H10 c1 (.lst ((ls.drop 2).map V.ref)) c1 = some (.lst ((ls.drop 2).map V.ref)):=upd_same
  generalize upd H10 c1 (.lst ((ls.drop 2).map V.ref)) = H11 at sc1 ec1 ⊢
  have s911:=s10.trans sc1
  have pld:Paired (EntAt H9) (ls.drop 2) (log.drop 2):=paired_drop pl9 2
  refine ⟨RL,c1,bs,ls.drop 2,xs,log.drop 2,rfl,s911 _ _ eRL9,paired_imp (fun b y w=>NmAt.mono w s911) pb9,by omega,hxs2,ec1,paired_imp (fun b y w=>s911 _ _ w) pld,by rw [List.length_drop]; omega,fun l x u y he=>hwords l x u y (List.mem_of_mem_drop he),unlike_drop hun,fun fv2 H12 s12' of2=>?_⟩
  have s912:=s911.trans s12'
  walk_at "rd1"
  refine ⟨_,SqL.of (s912 _ _ eLG9),fun c2 hc2=>?_⟩
  rw [ecut]
  have sc2:=same_new hc2 (.lst ((ls.drop 2).map V.ref))
  have ec2:upd H12 c2 (.lst ((ls.drop 2).map V.ref)) c2 = some (.lst ((ls.drop 2).map V.ref)):=upd_same
  generalize upd H12 c2 (.lst ((ls.drop 2).map V.ref)) = H13 at sc2 ec2 ⊢
  have s913:=s912.trans sc2
  refine ⟨KL,c2,ks,ls.drop 2,xs,log.drop 2,rfl,s913 _ _ eKL9,paired_imp (fun b y w=>NmAt.mono w s913) pk9,by omega,hnds,hok2,ec2,paired_imp (fun b y w=>s913 _ _ w) pld,by rw [List.length_drop]; omega,fun l x u y he=>hwords l x u y (List.mem_of_mem_drop he),unlike_drop hun,fun dv2 H14 s14' od2=>?_⟩
  have s914:=s913.trans s14'
  refine ⟨fv2,dv2,_,_,_,rfl,of2.mono (sc2.trans s14'),od2,due_one h2,?_⟩
  walk_at "rd1"
  rw [rest_at]
  have s1014:Same H10 H14:=((sc1.trans s12').trans sc2).trans s14'
  refine seq_by (fun σ' H'=>Same H9 H'∧σ' = [some (.ref a),some (.ref wp),some (.ref np),some (.int first),some (.int many),some (.ref up),some (.ref LG),some (.ref RL),o6,some (.ref KL),some (.ref HD),some dv,some fv]) (fun k' hk'=>?_) ?_
  ·walk_at "rd1"
   cases hdp:dueP xs log with
   | none=>
    rw [hdp] at od
    have e1:dv = .non:=od
    rw [e1]
    refine ite2 (fun c=>absurd c (by decide)) (fun _=>?_)
    exact hk' _ _ ⟨s914,by rw [e1]⟩
   | some x=>
    obtain ⟨n,nm,hs,row⟩:=x
    rw [hdp] at od of
    obtain ⟨dt,rfl,_⟩:=od
    obtain ⟨ft,rfl,fb⟩:=of
    obtain ⟨hl,rl,b1,b2,b3,b4,b5,b6⟩:=fb.ex
    have r1:=s1014 _ _ b1
    have r2:=s1014 _ _ b2
    have r3:=s1014 _ _ b3
    have hhs:hs.length ≤ 2:=by have:=due_one (xs:=xs) (log:=log) h2; rw [hdp] at this; exact Nat.le_of_eq this
    rw [if_pos (by rw [decide_eq_false (fun z=>nomatch z)]; rfl)]
    walk_at "rd1"
    refine ⟨_,_,.inr (SqT.of r1),rfl,?_⟩
    walk_at "rd1"
    refine ⟨⟨_,SqL.of r2⟩,_,r2,small' (by rw [List.length_map]; omega),?_⟩
    have nft:ft ≠ hl:=ne_of r1 r2 (fun z=>nomatch z)
    have t1:=(upd_ne (H:=H14) (o:=.lst (hs.map V.int ++ [.int 0])) nft).trans r1
    have t3:=(upd_ne (H:=H14) (o:=.lst (hs.map V.int ++ [.int 0])) (Ne.symm b6)).trans r3
    have s15a:Same H9 (upd H14 hl (.lst (hs.map V.int ++ [.int 0]))):=s914.upd b4 _
    generalize upd H14 hl (.lst (hs.map V.int ++ [.int 0])) = H15 at t1 t3 s15a ⊢
    walk_at "nx"
    refine ⟨_,_,.inr (SqT.of t1),rfl,?_⟩
    walk_at "rd1"
    have hw0:0 < ss.length:=by omega
    refine ⟨⟨_,SqL.of t3⟩,_,_,.inl (SqL.of (s15a _ _ hwl9)),atI_nat (j:=0) (v:=.str ss[0]) (by rw [List.getElem?_map,List.getElem?_eq_getElem hw0]; rfl),?_⟩
    walk_at "rd1"
    refine ⟨by rw [show (("1." : Str).length) = 2 by decide +kernel]; have:=hwb _ (List.getElem_mem hw0); exact smallL (by omega),_,t3,?_,hk' _ _ ⟨s15a.upd b5 _,rfl⟩⟩
    rw [List.length_map]
    have hrl:row.length ≤ 90:=by
     have:=due_row (xs:=xs) (log:=log) hdp
     omega
    exact small' (by omega)
  rintro σ' H15 ⟨s15',rfl⟩
  walk_at "nx"
  refine ⟨RL,HD,bs,ls,xs,log,rfl,s15' _ _ eRL9,paired_imp (fun b y w=>NmAt.mono w s15') pb9,by omega,hxs2,s15' _ _ eHD9,paired_imp (fun b y w=>s15' _ _ w) pl9,hloglen,hwords,hun,fun fv3 H16 s16 of3=>?_⟩
  have s916:=s15'.trans s16
  refine ⟨fv3,dv,_,_,_,rfl,of3,od.mono s916,due_one h2,?_⟩
  walk_at "rd1"
  refine ⟨4,true,by decide,log_eq (s916 _ _ eHD9) (s916 _ _ eLG9) (paired_imp (fun b y w=>s916 _ _ w) pl9),?_⟩
  refine ite2 (fun _=>?_) (fun c=>absurd rfl c)
  exact ⟨4,true,by decide,rules_eq (s916 _ _ eRL9) (s916 _ _ eKL9) (paired_imp (fun b y w=>NmAt.mono w s916) pb9) (paired_imp (fun b y w=>NmAt.mono w s916) pk9),q _⟩
end
theorem all_mk {l:PySem.W.OpenLaw} {w:World} {K:PySem.W.Frag} {h:Heap} {mg:Str→Option Value} {fa:Addr} (X:K.In h) (G:h.Ns mainGlobals mg) (hfa:mg "law" = some (.ref fa))
  {f0:Addr} {od0 an0:Option Addr} {sl0:Array (Option Value)} {oc0 kV0 dc0 pm0 cd0 ct0:Value} {f1:Addr} {od1 an1:Option Addr} {sl1:Array (Option Value)} {oc1 kV1 dc1 pm1 cd1 ct1:Value} {f2:Addr} {od2 an2:Option Addr} {sl2:Array (Option Value)} {oc2 kV2 dc2 pm2 cd2 ct2:Value} {f3:Addr} {od3 an3:Option Addr} {sl3:Array (Option Value)} {oc3 kV3 dc3 pm3 cd3 ct3:Value} {f4:Addr} {od4 an4:Option Addr} {sl4:Array (Option Value)} {oc4 kV4 dc4 pm4 cd4 ct4:Value} {f5:Addr} {od5 an5:Option Addr} {sl5:Array (Option Value)} {oc5 kV5 dc5 pm5 cd5 ct5:Value} {f6:Addr} {od6 an6:Option Addr} {sl6:Array (Option Value)} {oc6 kV6 dc6 pm6 cd6 ct6:Value} {f7:Addr} {od7 an7:Option Addr} {sl7:Array (Option Value)} {oc7 kV7 dc7 pm7 cd7 ct7:Value} {f8:Addr} {od8 an8:Option Addr} {sl8:Array (Option Value)} {oc8 kV8 dc8 pm8 cd8 ct8:Value} {f9:Addr} {od9 an9:Option Addr} {sl9:Array (Option Value)} {oc9 kV9 dc9 pm9 cd9 ct9:Value} {f10:Addr} {od10 an10:Option Addr} {sl10:Array (Option Value)} {oc10 kV10 dc10 pm10 cd10 ct10:Value} {f11:Addr} {od11 an11:Option Addr} {sl11:Array (Option Value)} {oc11 kV11 dc11 pm11 cd11 ct11:Value} {f12:Addr} {od12 an12:Option Addr} {sl12:Array (Option Value)} {oc12 kV12 dc12 pm12 cd12 ct12:Value} {f13:Addr} {od13 an13:Option Addr} {sl13:Array (Option Value)} {oc13 kV13 dc13 pm13 cd13 ct13:Value} {f14:Addr} {od14 an14:Option Addr} {sl14:Array (Option Value)} {oc14 kV14 dc14 pm14 cd14 ct14:Value} {f15:Addr} {od15 an15:Option Addr} {sl15:Array (Option Value)} {oc15 kV15 dc15 pm15 cd15 ct15:Value} {f16:Addr} {od16 an16:Option Addr} {sl16:Array (Option Value)} {oc16 kV16 dc16 pm16 cd16 ct16:Value} {f17:Addr} {od17 an17:Option Addr} {sl17:Array (Option Value)} {oc17 kV17 dc17 pm17 cd17 ct17:Value} {f18:Addr} {od18 an18:Option Addr} {sl18:Array (Option Value)} {oc18 kV18 dc18 pm18 cd18 ct18:Value} {f19:Addr} {od19 an19:Option Addr} {sl19:Array (Option Value)} {oc19 kV19 dc19 pm19 cd19 ct19:Value} {f20:Addr} {od20 an20:Option Addr} {sl20:Array (Option Value)} {oc20 kV20 dc20 pm20 cd20 ct20:Value} {f21:Addr} {od21 an21:Option Addr} {sl21:Array (Option Value)} {oc21 kV21 dc21 pm21 cd21 ct21:Value} {C_Watch:Addr} {fWatch___init__:Addr} {odWatch___init__ anWatch___init__:Option Addr} {slWatch___init__:Array (Option Value)} {ocWatch___init__ kVWatch___init__ dcWatch___init__ pmWatch___init__ cdWatch___init__ ctWatch___init__:Value} {fWatch_mark_at:Addr} {odWatch_mark_at anWatch_mark_at:Option Addr} {slWatch_mark_at:Array (Option Value)} {ocWatch_mark_at kVWatch_mark_at dcWatch_mark_at pmWatch_mark_at cdWatch_mark_at ctWatch_mark_at:Value} {fWatch_begin_tie:Addr} {odWatch_begin_tie anWatch_begin_tie:Option Addr} {slWatch_begin_tie:Array (Option Value)} {ocWatch_begin_tie kVWatch_begin_tie dcWatch_begin_tie pmWatch_begin_tie cdWatch_begin_tie ctWatch_begin_tie:Value} {fWatch_handles_with:Addr} {odWatch_handles_with anWatch_handles_with:Option Addr} {slWatch_handles_with:Array (Option Value)} {ocWatch_handles_with kVWatch_handles_with dcWatch_handles_with pmWatch_handles_with cdWatch_handles_with ctWatch_handles_with:Value} {fWatch_rows_with:Addr} {odWatch_rows_with anWatch_rows_with:Option Addr} {slWatch_rows_with:Array (Option Value)} {ocWatch_rows_with kVWatch_rows_with dcWatch_rows_with pmWatch_rows_with cdWatch_rows_with ctWatch_rows_with:Value} {fWatch_starts_of:Addr} {odWatch_starts_of anWatch_starts_of:Option Addr} {slWatch_starts_of:Array (Option Value)} {ocWatch_starts_of kVWatch_starts_of dcWatch_starts_of pmWatch_starts_of cdWatch_starts_of ctWatch_starts_of:Value} {fWatch_broken_by:Addr} {odWatch_broken_by anWatch_broken_by:Option Addr} {slWatch_broken_by:Array (Option Value)} {ocWatch_broken_by kVWatch_broken_by dcWatch_broken_by pmWatch_broken_by cdWatch_broken_by ctWatch_broken_by:Value} {fWatch_go_on:Addr} {odWatch_go_on anWatch_go_on:Option Addr} {slWatch_go_on:Array (Option Value)} {ocWatch_go_on kVWatch_go_on dcWatch_go_on pmWatch_go_on cdWatch_go_on ctWatch_go_on:Value}
  (a0:PySem.W.nsIn K mainGlobals "sided_text" = some (some (.ref f0))) (l0:K.lookup f0 = some ⟨oc0,od0,.func (PySem.W.fnOf "sided_text" "sided_text" (defArgs s_sided_text) (defBody s_sided_text) (defScope s_sided_text) .none kV0 dc0 pm0 an0 cd0 ct0),sl0⟩) (c0:PySem.W.codeIn K cd0 "sided_text" = true) (k0:PySem.W.keepIn K (.ref f0) = true)
  (a1:PySem.W.nsIn K mainGlobals "text_in_row" = some (some (.ref f1))) (l1:K.lookup f1 = some ⟨oc1,od1,.func (PySem.W.fnOf "text_in_row" "text_in_row" (defArgs s_text_in_row) (defBody s_text_in_row) (defScope s_text_in_row) .none kV1 dc1 pm1 an1 cd1 ct1),sl1⟩) (c1:PySem.W.codeIn K cd1 "text_in_row" = true) (k1:PySem.W.keepIn K (.ref f1) = true)
  (a2:PySem.W.nsIn K mainGlobals "row_of" = some (some (.ref f2))) (l2:K.lookup f2 = some ⟨oc2,od2,.func (PySem.W.fnOf "row_of" "row_of" (defArgs s_row_of) (defBody s_row_of) (defScope s_row_of) .none kV2 dc2 pm2 an2 cd2 ct2),sl2⟩) (c2:PySem.W.codeIn K cd2 "row_of" = true) (k2:PySem.W.keepIn K (.ref f2) = true)
  (a3:PySem.W.nsIn K mainGlobals "starts_behind" = some (some (.ref f3))) (l3:K.lookup f3 = some ⟨oc3,od3,.func (PySem.W.fnOf "starts_behind" "starts_behind" (defArgs s_starts_behind) (defBody s_starts_behind) (defScope s_starts_behind) .none kV3 dc3 pm3 an3 cd3 ct3),sl3⟩) (c3:PySem.W.codeIn K cd3 "starts_behind" = true) (k3:PySem.W.keepIn K (.ref f3) = true)
  (a4:PySem.W.nsIn K mainGlobals "watch_of" = some (some (.ref f4))) (l4:K.lookup f4 = some ⟨oc4,od4,.func (PySem.W.fnOf "watch_of" "watch_of" (defArgs s_watch_of) (defBody s_watch_of) (defScope s_watch_of) .none kV4 dc4 pm4 an4 cd4 ct4),sl4⟩) (c4:PySem.W.codeIn K cd4 "watch_of" = true) (k4:PySem.W.keepIn K (.ref f4) = true)
  (a5:PySem.W.nsIn K mainGlobals "watches_of" = some (some (.ref f5))) (l5:K.lookup f5 = some ⟨oc5,od5,.func (PySem.W.fnOf "watches_of" "watches_of" (defArgs s_watches_of) (defBody s_watches_of) (defScope s_watches_of) .none kV5 dc5 pm5 an5 cd5 ct5),sl5⟩) (c5:PySem.W.codeIn K cd5 "watches_of" = true) (k5:PySem.W.keepIn K (.ref f5) = true)
  (a6:PySem.W.nsIn K mainGlobals "all_begin_tie" = some (some (.ref f6))) (l6:K.lookup f6 = some ⟨oc6,od6,.func (PySem.W.fnOf "all_begin_tie" "all_begin_tie" (defArgs s_all_begin_tie) (defBody s_all_begin_tie) (defScope s_all_begin_tie) .none kV6 dc6 pm6 an6 cd6 ct6),sl6⟩) (c6:PySem.W.codeIn K cd6 "all_begin_tie" = true) (k6:PySem.W.keepIn K (.ref f6) = true)
  (a7:PySem.W.nsIn K mainGlobals "broken_or_gone_on" = some (some (.ref f7))) (l7:K.lookup f7 = some ⟨oc7,od7,.func (PySem.W.fnOf "broken_or_gone_on" "broken_or_gone_on" (defArgs s_broken_or_gone_on) (defBody s_broken_or_gone_on) (defScope s_broken_or_gone_on) .none kV7 dc7 pm7 an7 cd7 ct7),sl7⟩) (c7:PySem.W.codeIn K cd7 "broken_or_gone_on" = true) (k7:PySem.W.keepIn K (.ref f7) = true)
  (a8:PySem.W.nsIn K mainGlobals "breach_by" = some (some (.ref f8))) (l8:K.lookup f8 = some ⟨oc8,od8,.func (PySem.W.fnOf "breach_by" "breach_by" (defArgs s_breach_by) (defBody s_breach_by) (defScope s_breach_by) .none kV8 dc8 pm8 an8 cd8 ct8),sl8⟩) (c8:PySem.W.codeIn K cd8 "breach_by" = true) (k8:PySem.W.keepIn K (.ref f8) = true)
  (a9:PySem.W.nsIn K mainGlobals "breach_in" = some (some (.ref f9))) (l9:K.lookup f9 = some ⟨oc9,od9,.func (PySem.W.fnOf "breach_in" "breach_in" (defArgs s_breach_in) (defBody s_breach_in) (defScope s_breach_in) .none kV9 dc9 pm9 an9 cd9 ct9),sl9⟩) (c9:PySem.W.codeIn K cd9 "breach_in" = true) (k9:PySem.W.keepIn K (.ref f9) = true)
  (a10:PySem.W.nsIn K mainGlobals "_law_cell_at" = some (some (.ref f10))) (l10:K.lookup f10 = some ⟨oc10,od10,.func (PySem.W.fnOf "_law_cell_at" "_law_cell_at" (defArgs s_law_cell_at) (defBody s_law_cell_at) (defScope s_law_cell_at) .none kV10 dc10 pm10 an10 cd10 ct10),sl10⟩) (c10:PySem.W.codeIn K cd10 "_law_cell_at" = true) (k10:PySem.W.keepIn K (.ref f10) = true)
  (a11:PySem.W.nsIn K mainGlobals "_law_whole" = some (some (.ref f11))) (l11:K.lookup f11 = some ⟨oc11,od11,.func (PySem.W.fnOf "_law_whole" "_law_whole" (defArgs s_law_whole) (defBody s_law_whole) (defScope s_law_whole) .none kV11 dc11 pm11 an11 cd11 ct11),sl11⟩) (c11:PySem.W.codeIn K cd11 "_law_whole" = true) (k11:PySem.W.keepIn K (.ref f11) = true)
  (a12:PySem.W.nsIn K mainGlobals "_law_mixed" = some (some (.ref f12))) (l12:K.lookup f12 = some ⟨oc12,od12,.func (PySem.W.fnOf "_law_mixed" "_law_mixed" (defArgs s_law_mixed) (defBody s_law_mixed) (defScope s_law_mixed) .none kV12 dc12 pm12 an12 cd12 ct12),sl12⟩) (c12:PySem.W.codeIn K cd12 "_law_mixed" = true) (k12:PySem.W.keepIn K (.ref f12) = true)
  (a13:PySem.W.nsIn K mainGlobals "_law_words" = some (some (.ref f13))) (l13:K.lookup f13 = some ⟨oc13,od13,.func (PySem.W.fnOf "_law_words" "_law_words" (defArgs s_law_words) (defBody s_law_words) (defScope s_law_words) .none kV13 dc13 pm13 an13 cd13 ct13),sl13⟩) (c13:PySem.W.codeIn K cd13 "_law_words" = true) (k13:PySem.W.keepIn K (.ref f13) = true)
  (a14:PySem.W.nsIn K mainGlobals "_law_rule" = some (some (.ref f14))) (l14:K.lookup f14 = some ⟨oc14,od14,.func (PySem.W.fnOf "_law_rule" "_law_rule" (defArgs s_law_rule) (defBody s_law_rule) (defScope s_law_rule) .none kV14 dc14 pm14 an14 cd14 ct14),sl14⟩) (c14:PySem.W.codeIn K cd14 "_law_rule" = true) (k14:PySem.W.keepIn K (.ref f14) = true)
  (a15:PySem.W.nsIn K mainGlobals "_law_entry" = some (some (.ref f15))) (l15:K.lookup f15 = some ⟨oc15,od15,.func (PySem.W.fnOf "_law_entry" "_law_entry" (defArgs s_law_entry) (defBody s_law_entry) (defScope s_law_entry) .none kV15 dc15 pm15 an15 cd15 ct15),sl15⟩) (c15:PySem.W.codeIn K cd15 "_law_entry" = true) (k15:PySem.W.keepIn K (.ref f15) = true)
  (a16:PySem.W.nsIn K mainGlobals "_law_next" = some (some (.ref f16))) (l16:K.lookup f16 = some ⟨oc16,od16,.func (PySem.W.fnOf "_law_next" "_law_next" (defArgs s_law_next) (defBody s_law_next) (defScope s_law_next) .none kV16 dc16 pm16 an16 cd16 ct16),sl16⟩) (c16:PySem.W.codeIn K cd16 "_law_next" = true) (k16:PySem.W.keepIn K (.ref f16) = true)
  (a17:PySem.W.nsIn K mainGlobals "_law_row_of" = some (some (.ref f17))) (l17:K.lookup f17 = some ⟨oc17,od17,.func (PySem.W.fnOf "_law_row_of" "_law_row_of" (defArgs s_law_row_of) (defBody s_law_row_of) (defScope s_law_row_of) .none kV17 dc17 pm17 an17 cd17 ct17),sl17⟩) (c17:PySem.W.codeIn K cd17 "_law_row_of" = true) (k17:PySem.W.keepIn K (.ref f17) = true)
  (a18:PySem.W.nsIn K mainGlobals "_law_touched" = some (some (.ref f18))) (l18:K.lookup f18 = some ⟨oc18,od18,.func (PySem.W.fnOf "_law_touched" "_law_touched" (defArgs s_law_touched) (defBody s_law_touched) (defScope s_law_touched) .none kV18 dc18 pm18 an18 cd18 ct18),sl18⟩) (c18:PySem.W.codeIn K cd18 "_law_touched" = true) (k18:PySem.W.keepIn K (.ref f18) = true)
  (a19:PySem.W.nsIn K mainGlobals "_law_due" = some (some (.ref f19))) (l19:K.lookup f19 = some ⟨oc19,od19,.func (PySem.W.fnOf "_law_due" "_law_due" (defArgs s_law_due) (defBody s_law_due) (defScope s_law_due) .none kV19 dc19 pm19 an19 cd19 ct19),sl19⟩) (c19:PySem.W.codeIn K cd19 "_law_due" = true) (k19:PySem.W.keepIn K (.ref f19) = true)
  (a20:PySem.W.nsIn K mainGlobals "_law_alike" = some (some (.ref f20))) (l20:K.lookup f20 = some ⟨oc20,od20,.func (PySem.W.fnOf "_law_alike" "_law_alike" (defArgs s_law_alike) (defBody s_law_alike) (defScope s_law_alike) .none kV20 dc20 pm20 an20 cd20 ct20),sl20⟩) (c20:PySem.W.codeIn K cd20 "_law_alike" = true) (k20:PySem.W.keepIn K (.ref f20) = true)
  (a21:PySem.W.nsIn K mainGlobals "law" = some (some (.ref f21))) (l21:K.lookup f21 = some ⟨oc21,od21,.func (PySem.W.fnOf "law" "law" (defArgs s_law) (defBody s_law) (defScope s_law) .none kV21 dc21 pm21 an21 cd21 ct21),sl21⟩) (c21:PySem.W.codeIn K cd21 "law" = true) (k21:PySem.W.keepIn K (.ref f21) = true)
  (y_len:PySem.W.nsIn K mainGlobals "len" = some none)
  (y_range:PySem.W.nsIn K mainGlobals "range" = some none)
  (y_int:PySem.W.nsIn K mainGlobals "int" = some none)
  (y_list:PySem.W.nsIn K mainGlobals "list" = some none)
  (y_sorted:PySem.W.nsIn K mainGlobals "sorted" = some none)
  (y_enumerate:PySem.W.nsIn K mainGlobals "enumerate" = some none)
  (y_min:PySem.W.nsIn K mainGlobals "min" = some none)
  (y_isinstance:PySem.W.nsIn K mainGlobals "isinstance" = some none)
  (y_bool:PySem.W.nsIn K mainGlobals "bool" = some none)
  (y_tuple:PySem.W.nsIn K mainGlobals "tuple" = some none)
  (y_str:PySem.W.nsIn K mainGlobals "str" = some none)
  (n_Watch:PySem.W.nsIn K mainGlobals "Watch" = some (some (.ref C_Watch))) (pg_Watch:PySem.W.plainGet K C_Watch Str.empty = true) (hd_Watch:PySem.W.hasDictIn K C_Watch = true) (po_Watch:PySem.W.plainOver K C_Watch = true) (sa_Watch:PySem.W.findIn K (.ref C_Watch) "__setattr__" = some (some (.builtin "object.__setattr__"))) (mk_Watch:PySem.W.makesIn K C_Watch = true) (kc_Watch:PySem.W.keepIn K (.ref C_Watch) = true)
  (nf_sides:PySem.W.findIn K (.ref C_Watch) "sides" = some none)
  (nf_column:PySem.W.findIn K (.ref C_Watch) "column" = some none)
  (nf_ways:PySem.W.findIn K (.ref C_Watch) "ways" = some none)
  (nf_blames:PySem.W.findIn K (.ref C_Watch) "blames" = some none)
  (nf_starts:PySem.W.findIn K (.ref C_Watch) "starts" = some none)
  (nf_ties:PySem.W.findIn K (.ref C_Watch) "ties" = some none)
  (aWatch___init__:PySem.W.findIn K (.ref C_Watch) "__init__" = some (some (.ref fWatch___init__))) (iWatch___init__:PySem.W.isFn K (.ref fWatch___init__) = true) (lWatch___init__:K.lookup fWatch___init__ = some ⟨ocWatch___init__,odWatch___init__,.func (PySem.W.fnOf "__init__" "Watch.__init__" (defArgs s_Watch___init__) (defBody s_Watch___init__) (defScope s_Watch___init__) .none kVWatch___init__ dcWatch___init__ pmWatch___init__ anWatch___init__ cdWatch___init__ ctWatch___init__),slWatch___init__⟩) (cWatch___init__:PySem.W.codeIn K cdWatch___init__ "Watch.__init__" = true) (kWatch___init__:PySem.W.keepIn K (.ref fWatch___init__) = true)
  (aWatch_mark_at:PySem.W.findIn K (.ref C_Watch) "mark_at" = some (some (.ref fWatch_mark_at))) (iWatch_mark_at:PySem.W.isFn K (.ref fWatch_mark_at) = true) (lWatch_mark_at:K.lookup fWatch_mark_at = some ⟨ocWatch_mark_at,odWatch_mark_at,.func (PySem.W.fnOf "mark_at" "Watch.mark_at" (defArgs s_Watch_mark_at) (defBody s_Watch_mark_at) (defScope s_Watch_mark_at) .none kVWatch_mark_at dcWatch_mark_at pmWatch_mark_at anWatch_mark_at cdWatch_mark_at ctWatch_mark_at),slWatch_mark_at⟩) (cWatch_mark_at:PySem.W.codeIn K cdWatch_mark_at "Watch.mark_at" = true) (kWatch_mark_at:PySem.W.keepIn K (.ref fWatch_mark_at) = true)
  (aWatch_begin_tie:PySem.W.findIn K (.ref C_Watch) "begin_tie" = some (some (.ref fWatch_begin_tie))) (iWatch_begin_tie:PySem.W.isFn K (.ref fWatch_begin_tie) = true) (lWatch_begin_tie:K.lookup fWatch_begin_tie = some ⟨ocWatch_begin_tie,odWatch_begin_tie,.func (PySem.W.fnOf "begin_tie" "Watch.begin_tie" (defArgs s_Watch_begin_tie) (defBody s_Watch_begin_tie) (defScope s_Watch_begin_tie) .none kVWatch_begin_tie dcWatch_begin_tie pmWatch_begin_tie anWatch_begin_tie cdWatch_begin_tie ctWatch_begin_tie),slWatch_begin_tie⟩) (cWatch_begin_tie:PySem.W.codeIn K cdWatch_begin_tie "Watch.begin_tie" = true) (kWatch_begin_tie:PySem.W.keepIn K (.ref fWatch_begin_tie) = true)
  (aWatch_handles_with:PySem.W.findIn K (.ref C_Watch) "handles_with" = some (some (.ref fWatch_handles_with))) (iWatch_handles_with:PySem.W.isFn K (.ref fWatch_handles_with) = true) (lWatch_handles_with:K.lookup fWatch_handles_with = some ⟨ocWatch_handles_with,odWatch_handles_with,.func (PySem.W.fnOf "handles_with" "Watch.handles_with" (defArgs s_Watch_handles_with) (defBody s_Watch_handles_with) (defScope s_Watch_handles_with) .none kVWatch_handles_with dcWatch_handles_with pmWatch_handles_with anWatch_handles_with cdWatch_handles_with ctWatch_handles_with),slWatch_handles_with⟩) (cWatch_handles_with:PySem.W.codeIn K cdWatch_handles_with "Watch.handles_with" = true) (kWatch_handles_with:PySem.W.keepIn K (.ref fWatch_handles_with) = true)
  (aWatch_rows_with:PySem.W.findIn K (.ref C_Watch) "rows_with" = some (some (.ref fWatch_rows_with))) (iWatch_rows_with:PySem.W.isFn K (.ref fWatch_rows_with) = true) (lWatch_rows_with:K.lookup fWatch_rows_with = some ⟨ocWatch_rows_with,odWatch_rows_with,.func (PySem.W.fnOf "rows_with" "Watch.rows_with" (defArgs s_Watch_rows_with) (defBody s_Watch_rows_with) (defScope s_Watch_rows_with) .none kVWatch_rows_with dcWatch_rows_with pmWatch_rows_with anWatch_rows_with cdWatch_rows_with ctWatch_rows_with),slWatch_rows_with⟩) (cWatch_rows_with:PySem.W.codeIn K cdWatch_rows_with "Watch.rows_with" = true) (kWatch_rows_with:PySem.W.keepIn K (.ref fWatch_rows_with) = true)
  (aWatch_starts_of:PySem.W.findIn K (.ref C_Watch) "starts_of" = some (some (.ref fWatch_starts_of))) (iWatch_starts_of:PySem.W.isFn K (.ref fWatch_starts_of) = true) (lWatch_starts_of:K.lookup fWatch_starts_of = some ⟨ocWatch_starts_of,odWatch_starts_of,.func (PySem.W.fnOf "starts_of" "Watch.starts_of" (defArgs s_Watch_starts_of) (defBody s_Watch_starts_of) (defScope s_Watch_starts_of) .none kVWatch_starts_of dcWatch_starts_of pmWatch_starts_of anWatch_starts_of cdWatch_starts_of ctWatch_starts_of),slWatch_starts_of⟩) (cWatch_starts_of:PySem.W.codeIn K cdWatch_starts_of "Watch.starts_of" = true) (kWatch_starts_of:PySem.W.keepIn K (.ref fWatch_starts_of) = true)
  (aWatch_broken_by:PySem.W.findIn K (.ref C_Watch) "broken_by" = some (some (.ref fWatch_broken_by))) (iWatch_broken_by:PySem.W.isFn K (.ref fWatch_broken_by) = true) (lWatch_broken_by:K.lookup fWatch_broken_by = some ⟨ocWatch_broken_by,odWatch_broken_by,.func (PySem.W.fnOf "broken_by" "Watch.broken_by" (defArgs s_Watch_broken_by) (defBody s_Watch_broken_by) (defScope s_Watch_broken_by) .none kVWatch_broken_by dcWatch_broken_by pmWatch_broken_by anWatch_broken_by cdWatch_broken_by ctWatch_broken_by),slWatch_broken_by⟩) (cWatch_broken_by:PySem.W.codeIn K cdWatch_broken_by "Watch.broken_by" = true) (kWatch_broken_by:PySem.W.keepIn K (.ref fWatch_broken_by) = true)
  (aWatch_go_on:PySem.W.findIn K (.ref C_Watch) "go_on" = some (some (.ref fWatch_go_on))) (iWatch_go_on:PySem.W.isFn K (.ref fWatch_go_on) = true) (lWatch_go_on:K.lookup fWatch_go_on = some ⟨ocWatch_go_on,odWatch_go_on,.func (PySem.W.fnOf "go_on" "Watch.go_on" (defArgs s_Watch_go_on) (defBody s_Watch_go_on) (defScope s_Watch_go_on) .none kVWatch_go_on dcWatch_go_on pmWatch_go_on anWatch_go_on cdWatch_go_on ctWatch_go_on),slWatch_go_on⟩) (cWatch_go_on:PySem.W.codeIn K cdWatch_go_on "Watch.go_on" = true) (kWatch_go_on:PySem.W.keepIn K (.ref fWatch_go_on) = true) :
  ∃ fd:FuncData,(∀ (s:Shared) (v:Value),BindsTo s fd ⟨[v],[]⟩ [("_law_script", v)])∧∀ base:Heap,K.In base→base.Ns mainGlobals mg→FnOk l.prog w K mg base CX0 7 fa fd ["_law_script"] (spLaw K):=by
 have e:=hfa.symm.trans (PySem.W.mg_of X G a21)
 cases e
 have D_sided_text:DefAt K mg "sided_text" s_sided_text:=⟨f0,_,fun_mk (st:=s_sided_text) l0 c0 k0,PySem.W.mg_of X G a0⟩
 have D_text_in_row:DefAt K mg "text_in_row" s_text_in_row:=⟨f1,_,fun_mk (st:=s_text_in_row) l1 c1 k1,PySem.W.mg_of X G a1⟩
 have D_row_of:DefAt K mg "row_of" s_row_of:=⟨f2,_,fun_mk (st:=s_row_of) l2 c2 k2,PySem.W.mg_of X G a2⟩
 have D_starts_behind:DefAt K mg "starts_behind" s_starts_behind:=⟨f3,_,fun_mk (st:=s_starts_behind) l3 c3 k3,PySem.W.mg_of X G a3⟩
 have D_watch_of:DefAt K mg "watch_of" s_watch_of:=⟨f4,_,fun_mk (st:=s_watch_of) l4 c4 k4,PySem.W.mg_of X G a4⟩
 have D_watches_of:DefAt K mg "watches_of" s_watches_of:=⟨f5,_,fun_mk (st:=s_watches_of) l5 c5 k5,PySem.W.mg_of X G a5⟩
 have D_all_begin_tie:DefAt K mg "all_begin_tie" s_all_begin_tie:=⟨f6,_,fun_mk (st:=s_all_begin_tie) l6 c6 k6,PySem.W.mg_of X G a6⟩
 have D_broken_or_gone_on:DefAt K mg "broken_or_gone_on" s_broken_or_gone_on:=⟨f7,_,fun_mk (st:=s_broken_or_gone_on) l7 c7 k7,PySem.W.mg_of X G a7⟩
 have D_breach_by:DefAt K mg "breach_by" s_breach_by:=⟨f8,_,fun_mk (st:=s_breach_by) l8 c8 k8,PySem.W.mg_of X G a8⟩
 have D_breach_in:DefAt K mg "breach_in" s_breach_in:=⟨f9,_,fun_mk (st:=s_breach_in) l9 c9 k9,PySem.W.mg_of X G a9⟩
 have D_law_cell_at:DefAt K mg "_law_cell_at" s_law_cell_at:=⟨f10,_,fun_mk (st:=s_law_cell_at) l10 c10 k10,PySem.W.mg_of X G a10⟩
 have D_law_whole:DefAt K mg "_law_whole" s_law_whole:=⟨f11,_,fun_mk (st:=s_law_whole) l11 c11 k11,PySem.W.mg_of X G a11⟩
 have D_law_mixed:DefAt K mg "_law_mixed" s_law_mixed:=⟨f12,_,fun_mk (st:=s_law_mixed) l12 c12 k12,PySem.W.mg_of X G a12⟩
 have D_law_words:DefAt K mg "_law_words" s_law_words:=⟨f13,_,fun_mk (st:=s_law_words) l13 c13 k13,PySem.W.mg_of X G a13⟩
 have D_law_rule:DefAt K mg "_law_rule" s_law_rule:=⟨f14,_,fun_mk (st:=s_law_rule) l14 c14 k14,PySem.W.mg_of X G a14⟩
 have D_law_entry:DefAt K mg "_law_entry" s_law_entry:=⟨f15,_,fun_mk (st:=s_law_entry) l15 c15 k15,PySem.W.mg_of X G a15⟩
 have D_law_next:DefAt K mg "_law_next" s_law_next:=⟨f16,_,fun_mk (st:=s_law_next) l16 c16 k16,PySem.W.mg_of X G a16⟩
 have D_law_row_of:DefAt K mg "_law_row_of" s_law_row_of:=⟨f17,_,fun_mk (st:=s_law_row_of) l17 c17 k17,PySem.W.mg_of X G a17⟩
 have D_law_touched:DefAt K mg "_law_touched" s_law_touched:=⟨f18,_,fun_mk (st:=s_law_touched) l18 c18 k18,PySem.W.mg_of X G a18⟩
 have D_law_due:DefAt K mg "_law_due" s_law_due:=⟨f19,_,fun_mk (st:=s_law_due) l19 c19 k19,PySem.W.mg_of X G a19⟩
 have D_law_alike:DefAt K mg "_law_alike" s_law_alike:=⟨f20,_,fun_mk (st:=s_law_alike) l20 c20 k20,PySem.W.mg_of X G a20⟩
 have z_len:mg "len" = none:=PySem.W.mg_none_of X G y_len
 have z_range:mg "range" = none:=PySem.W.mg_none_of X G y_range
 have z_int:mg "int" = none:=PySem.W.mg_none_of X G y_int
 have z_list:mg "list" = none:=PySem.W.mg_none_of X G y_list
 have z_sorted:mg "sorted" = none:=PySem.W.mg_none_of X G y_sorted
 have z_enumerate:mg "enumerate" = none:=PySem.W.mg_none_of X G y_enumerate
 have z_min:mg "min" = none:=PySem.W.mg_none_of X G y_min
 have z_isinstance:mg "isinstance" = none:=PySem.W.mg_none_of X G y_isinstance
 have z_bool:mg "bool" = none:=PySem.W.mg_none_of X G y_bool
 have z_tuple:mg "tuple" = none:=PySem.W.mg_none_of X G y_tuple
 have z_str:mg "str" = none:=PySem.W.mg_none_of X G y_str
 have cl_Watch:Cls K C_Watch:=⟨pg_Watch,hd_Watch,po_Watch,sa_Watch⟩
 have a_sides:Fl K C_Watch "sides" := ⟨cl_Watch,nf_sides⟩
 have a_column:Fl K C_Watch "column" := ⟨cl_Watch,nf_column⟩
 have a_ways:Fl K C_Watch "ways" := ⟨cl_Watch,nf_ways⟩
 have a_blames:Fl K C_Watch "blames" := ⟨cl_Watch,nf_blames⟩
 have a_starts:Fl K C_Watch "starts" := ⟨cl_Watch,nf_starts⟩
 have a_ties:Fl K C_Watch "ties" := ⟨cl_Watch,nf_ties⟩
 have D_Watch:MakeAt K mg "Watch" C_Watch "Watch.__init__" s_Watch___init__:=⟨fWatch___init__,_,fun_mk (st:=s_Watch___init__) lWatch___init__ cWatch___init__ kWatch___init__,⟨mk_Watch,aWatch___init__,iWatch___init__,kc_Watch⟩,PySem.W.mg_of X G n_Watch⟩
 have D_Watch_mark_at:MethAt K C_Watch "mark_at" "Watch.mark_at" s_Watch_mark_at:=⟨⟨fWatch_mark_at,_,fun_mk (st:=s_Watch_mark_at) lWatch_mark_at cWatch_mark_at kWatch_mark_at,⟨aWatch_mark_at,iWatch_mark_at,kWatch_mark_at⟩⟩,cl_Watch⟩
 have D_Watch_begin_tie:MethAt K C_Watch "begin_tie" "Watch.begin_tie" s_Watch_begin_tie:=⟨⟨fWatch_begin_tie,_,fun_mk (st:=s_Watch_begin_tie) lWatch_begin_tie cWatch_begin_tie kWatch_begin_tie,⟨aWatch_begin_tie,iWatch_begin_tie,kWatch_begin_tie⟩⟩,cl_Watch⟩
 have D_Watch_handles_with:MethAt K C_Watch "handles_with" "Watch.handles_with" s_Watch_handles_with:=⟨⟨fWatch_handles_with,_,fun_mk (st:=s_Watch_handles_with) lWatch_handles_with cWatch_handles_with kWatch_handles_with,⟨aWatch_handles_with,iWatch_handles_with,kWatch_handles_with⟩⟩,cl_Watch⟩
 have D_Watch_rows_with:MethAt K C_Watch "rows_with" "Watch.rows_with" s_Watch_rows_with:=⟨⟨fWatch_rows_with,_,fun_mk (st:=s_Watch_rows_with) lWatch_rows_with cWatch_rows_with kWatch_rows_with,⟨aWatch_rows_with,iWatch_rows_with,kWatch_rows_with⟩⟩,cl_Watch⟩
 have D_Watch_starts_of:MethAt K C_Watch "starts_of" "Watch.starts_of" s_Watch_starts_of:=⟨⟨fWatch_starts_of,_,fun_mk (st:=s_Watch_starts_of) lWatch_starts_of cWatch_starts_of kWatch_starts_of,⟨aWatch_starts_of,iWatch_starts_of,kWatch_starts_of⟩⟩,cl_Watch⟩
 have D_Watch_broken_by:MethAt K C_Watch "broken_by" "Watch.broken_by" s_Watch_broken_by:=⟨⟨fWatch_broken_by,_,fun_mk (st:=s_Watch_broken_by) lWatch_broken_by cWatch_broken_by kWatch_broken_by,⟨aWatch_broken_by,iWatch_broken_by,kWatch_broken_by⟩⟩,cl_Watch⟩
 have D_Watch_go_on:MethAt K C_Watch "go_on" "Watch.go_on" s_Watch_go_on:=⟨⟨fWatch_go_on,_,fun_mk (st:=s_Watch_go_on) lWatch_go_on cWatch_go_on kWatch_go_on,⟨aWatch_go_on,iWatch_go_on,kWatch_go_on⟩⟩,cl_Watch⟩
 have F:=fun_mk (st:=s_law) l21 c21 k21
 refine ⟨PySem.W.fnOf "law" "law" (defArgs s_law) (defBody s_law) (defScope s_law) .none kV21 dc21 pm21 an21 cd21 ct21,fun s v=>.of_eq rfl,fun base _ _=>?_⟩
 have c1:=ok_cell (P:=l.prog) (w:=w) (base:=base) D_law_cell_at z_len
 have c2:=ok_mix (P:=l.prog) (w:=w) (base:=base) D_law_mixed
 have c3:=ok_words D_law_words z_range z_int c2
 have c4:=ok_rule3 D_law_rule z_range z_len z_sorted c2
 have c5:=ok_entry D_law_entry z_len c2
 have c6:=ok_due D_law_due z_len z_list z_enumerate (ok_next (P:=l.prog) (w:=w) (base:=base) D_law_next) (ok_rowL (P:=l.prog) (w:=w) (base:=base) D_law_row_of z_len z_int) (ok_touched (P:=l.prog) (w:=w) (base:=base) D_law_touched z_int)
 have c7:=ok_alike D_law_alike z_isinstance z_tuple z_list z_str z_len (ok_whole (P:=l.prog) (w:=w) (base:=base) D_law_whole z_isinstance z_int z_bool)
 have s1:=ok_sided_text (P:=l.prog) (w:=w) (base:=base) D_sided_text
 have s2:=ok_behind (P:=l.prog) (w:=w) (base:=base) D_starts_behind
 have m1:=ok_mark (P:=l.prog) (w:=w) (mg:=mg) (base:=base) D_Watch_mark_at a_column
 have m2:=ok_startsOf (P:=l.prog) (w:=w) (mg:=mg) (base:=base) D_Watch_starts_of a_starts
 have m3:=ok_with (P:=l.prog) (w:=w) (mg:=mg) (base:=base) D_Watch_handles_with a_ties
 have m4:=ok_rows D_Watch_rows_with a_sides a_ways s1 m3
 have m5:=ok_broken D_Watch_broken_by a_ways a_blames m4 m2
 have m6:=ok_go D_Watch_go_on a_ways a_starts s2 m4 m2
 have m7:=ok_tieW (P:=l.prog) (w:=w) (mg:=mg) (base:=base) D_Watch_begin_tie a_sides a_starts a_ties
 have k1:=ok_winit (P:=l.prog) (w:=w) (base:=base) D_Watch z_enumerate a_sides a_column a_ways a_blames a_starts a_ties
 have w1:=ok_watches D_watches_of z_enumerate (ok_watchOf D_watch_of k1)
 have r1:=ok_rowof D_row_of z_len (ok_tir D_text_in_row z_len s1)
 have b1:=ok_byX D_breach_by z_len z_list (ok_allX D_all_begin_tie m7) (ok_brkX D_broken_or_gone_on z_len z_min m1 m5 m6) r1
 exact ok_law F z_len z_list z_range c1 c2 c3 c4 c5 c6 c7 (in_three (ok_inX D_breach_in z_len z_range w1 b1))
theorem walk {l:PySem.W.OpenLaw} {q:Program} {loose:List Str} {XP:(Str→Option Value)→Heap→Prop} {YP:World→Heap→Prop} {d:DefRec} {K:Params→PySem.W.Frag} (hn:l.most = some 63) (hdf:d.params.defaults = [])
  (hY:∀ (w:World) (h:Heap),YP w h→(K w.params).In h)
  (F:∀ (w:World) (mg:Str→Option Value) (fa:Addr) (h:Heap),(K w.params).In h→h.Ns mainGlobals mg→mg d.name = some (.ref fa)→
   ∃ fd:FuncData,(∀ (s:Shared) (u:Value),BindsTo s fd ⟨[u],[]⟩ [("_law_script", u)])∧∀ base:Heap,(K w.params).In base→base.Ns mainGlobals mg→FnOk l.prog w (K w.params) mg base CX0 7 fa fd ["_law_script"] (spLaw (K w.params))) :
  PySem.W.WalkO q loose XP YP l.row.toRowW d [] (fun f vs=>PySem.call f vs):=
 L2.walk_of (n:=63) (k:=7) (x := "_law_script") (CX:=fun _=>CX0) (sp:=fun w=>spLaw (K w.params)) hn (by decide) hdf ⟨rfl,by decide,by decide⟩ hY F (fun _ _ a ns hl _ hS=>⟨a,ns,rfl,hS,hl,fun _=>rfl⟩) fun _ _ _ _ _ z=>z
end K42
end
open PySem PySem.W PyProof.Rows
set_option maxRecDepth 100000 in
set_option maxHeartbeats 0 in
theorem PySem.Challenge.cw_usewarden_k42_breach_of_ties_holds : PySem.Challenge.rw_usewarden_k42_breach_of_ties.Holds := by
 w_on
 refine holds_law (by decide +kernel) fun said=>?_
 refine holds_open (q:=K42.qq) (loose:=K42.loo) (Xt:=K42.xt) (XP:=XL K42.qq []) (Yf:=Hook.obs (kHook K42.KK K42.kk K42.kk_eq)) (Ya:=Hook.val (kHook K42.KK K42.kk K42.kk_eq)) (YP:=Hook.says (kHook K42.KK K42.kk K42.kk_eq)) (N:=2452) K42.hl (Hook.of (kHook K42.KK K42.kk K42.kk_eq)) (Hook.keeps (kHook K42.KK K42.kk K42.kk_eq)) (fun s e=>xl_of s (Bool.and_eq_true_iff.mp e).1) XL.keeps (by rfl) (by rfl) (by rfl) (fun s e=>recFacts_of (Bool.and_eq_true_iff.mp e).2) (by rfl) said (by decide +kernel) ⟨rfl,rfl,rfl,rfl,rfl,by decide +kernel⟩ ?hw ?hc
 (case hw=>w_witness2)
 k_fill
 refine K42.walk (l:=PySem.Challenge.rw_usewarden_k42_breach_of_ties) rfl rfl (fun w h Y=>PySem.W.kIn_of Y) ?F
 case F=>
  intro w mg fa h KX G hmg
  refine' K42.all_mk KX G hmg ?a0 ?l0 ?c0 ?k0 ?a1 ?l1 ?c1 ?k1 ?a2 ?l2 ?c2 ?k2 ?a3 ?l3 ?c3 ?k3 ?a4 ?l4 ?c4 ?k4 ?a5 ?l5 ?c5 ?k5 ?a6 ?l6 ?c6 ?k6 ?a7 ?l7 ?c7 ?k7 ?a8 ?l8 ?c8 ?k8 ?a9 ?l9 ?c9 ?k9 ?a10 ?l10 ?c10 ?k10 ?a11 ?l11 ?c11 ?k11 ?a12 ?l12 ?c12 ?k12 ?a13 ?l13 ?c13 ?k13 ?a14 ?l14 ?c14 ?k14 ?a15 ?l15 ?c15 ?k15 ?a16 ?l16 ?c16 ?k16 ?a17 ?l17 ?c17 ?k17 ?a18 ?l18 ?c18 ?k18 ?a19 ?l19 ?c19 ?k19 ?a20 ?l20 ?c20 ?k20 ?a21 ?l21 ?c21 ?k21 ?y_len ?y_range ?y_int ?y_list ?y_sorted ?y_enumerate ?y_min ?y_isinstance ?y_bool ?y_tuple ?y_str ?n_Watch ?pg_Watch ?hd_Watch ?po_Watch ?sa_Watch ?mk_Watch ?kc_Watch ?nf_sides ?nf_column ?nf_ways ?nf_blames ?nf_starts ?nf_ties ?aWatch___init__ ?iWatch___init__ ?lWatch___init__ ?cWatch___init__ ?kWatch___init__ ?aWatch_mark_at ?iWatch_mark_at ?lWatch_mark_at ?cWatch_mark_at ?kWatch_mark_at ?aWatch_begin_tie ?iWatch_begin_tie ?lWatch_begin_tie ?cWatch_begin_tie ?kWatch_begin_tie ?aWatch_handles_with ?iWatch_handles_with ?lWatch_handles_with ?cWatch_handles_with ?kWatch_handles_with ?aWatch_rows_with ?iWatch_rows_with ?lWatch_rows_with ?cWatch_rows_with ?kWatch_rows_with ?aWatch_starts_of ?iWatch_starts_of ?lWatch_starts_of ?cWatch_starts_of ?kWatch_starts_of ?aWatch_broken_by ?iWatch_broken_by ?lWatch_broken_by ?cWatch_broken_by ?kWatch_broken_by ?aWatch_go_on ?iWatch_go_on ?lWatch_go_on ?cWatch_go_on ?kWatch_go_on
  (case a0=>k_is)
  (case l0=>k_is)
  (case c0=>k_is)
  (case k0=>k_is)
  (case a1=>k_is)
  (case l1=>k_is)
  (case c1=>k_is)
  (case k1=>k_is)
  (case a2=>k_is)
  (case l2=>k_is)
  (case c2=>k_is)
  (case k2=>k_is)
  (case a3=>k_is)
  (case l3=>k_is)
  (case c3=>k_is)
  (case k3=>k_is)
  (case a4=>k_is)
  (case l4=>k_is)
  (case c4=>k_is)
  (case k4=>k_is)
  (case a5=>k_is)
  (case l5=>k_is)
  (case c5=>k_is)
  (case k5=>k_is)
  (case a6=>k_is)
  (case l6=>k_is)
  (case c6=>k_is)
  (case k6=>k_is)
  (case a7=>k_is)
  (case l7=>k_is)
  (case c7=>k_is)
  (case k7=>k_is)
  (case a8=>k_is)
  (case l8=>k_is)
  (case c8=>k_is)
  (case k8=>k_is)
  (case a9=>k_is)
  (case l9=>k_is)
  (case c9=>k_is)
  (case k9=>k_is)
  (case a10=>k_is)
  (case l10=>k_is)
  (case c10=>k_is)
  (case k10=>k_is)
  (case a11=>k_is)
  (case l11=>k_is)
  (case c11=>k_is)
  (case k11=>k_is)
  (case a12=>k_is)
  (case l12=>k_is)
  (case c12=>k_is)
  (case k12=>k_is)
  (case a13=>k_is)
  (case l13=>k_is)
  (case c13=>k_is)
  (case k13=>k_is)
  (case a14=>k_is)
  (case l14=>k_is)
  (case c14=>k_is)
  (case k14=>k_is)
  (case a15=>k_is)
  (case l15=>k_is)
  (case c15=>k_is)
  (case k15=>k_is)
  (case a16=>k_is)
  (case l16=>k_is)
  (case c16=>k_is)
  (case k16=>k_is)
  (case a17=>k_is)
  (case l17=>k_is)
  (case c17=>k_is)
  (case k17=>k_is)
  (case a18=>k_is)
  (case l18=>k_is)
  (case c18=>k_is)
  (case k18=>k_is)
  (case a19=>k_is)
  (case l19=>k_is)
  (case c19=>k_is)
  (case k19=>k_is)
  (case a20=>k_is)
  (case l20=>k_is)
  (case c20=>k_is)
  (case k20=>k_is)
  (case a21=>k_is)
  (case l21=>k_is)
  (case c21=>k_is)
  (case k21=>k_is)
  (case y_len=>k_is)
  (case y_range=>k_is)
  (case y_int=>k_is)
  (case y_list=>k_is)
  (case y_sorted=>k_is)
  (case y_enumerate=>k_is)
  (case y_min=>k_is)
  (case y_isinstance=>k_is)
  (case y_bool=>k_is)
  (case y_tuple=>k_is)
  (case y_str=>k_is)
  (case n_Watch=>k_is)
  (case pg_Watch=>k_is)
  (case hd_Watch=>k_is)
  (case po_Watch=>k_is)
  (case sa_Watch=>k_is)
  (case mk_Watch=>k_is)
  (case kc_Watch=>k_is)
  (case nf_sides=>k_is)
  (case nf_column=>k_is)
  (case nf_ways=>k_is)
  (case nf_blames=>k_is)
  (case nf_starts=>k_is)
  (case nf_ties=>k_is)
  (case aWatch___init__=>k_is)
  (case iWatch___init__=>k_is)
  (case lWatch___init__=>k_is)
  (case cWatch___init__=>k_is)
  (case kWatch___init__=>k_is)
  (case aWatch_mark_at=>k_is)
  (case iWatch_mark_at=>k_is)
  (case lWatch_mark_at=>k_is)
  (case cWatch_mark_at=>k_is)
  (case kWatch_mark_at=>k_is)
  (case aWatch_begin_tie=>k_is)
  (case iWatch_begin_tie=>k_is)
  (case lWatch_begin_tie=>k_is)
  (case cWatch_begin_tie=>k_is)
  (case kWatch_begin_tie=>k_is)
  (case aWatch_handles_with=>k_is)
  (case iWatch_handles_with=>k_is)
  (case lWatch_handles_with=>k_is)
  (case cWatch_handles_with=>k_is)
  (case kWatch_handles_with=>k_is)
  (case aWatch_rows_with=>k_is)
  (case iWatch_rows_with=>k_is)
  (case lWatch_rows_with=>k_is)
  (case cWatch_rows_with=>k_is)
  (case kWatch_rows_with=>k_is)
  (case aWatch_starts_of=>k_is)
  (case iWatch_starts_of=>k_is)
  (case lWatch_starts_of=>k_is)
  (case cWatch_starts_of=>k_is)
  (case kWatch_starts_of=>k_is)
  (case aWatch_broken_by=>k_is)
  (case iWatch_broken_by=>k_is)
  (case lWatch_broken_by=>k_is)
  (case cWatch_broken_by=>k_is)
  (case kWatch_broken_by=>k_is)
  (case aWatch_go_on=>k_is)
  (case iWatch_go_on=>k_is)
  (case lWatch_go_on=>k_is)
  (case cWatch_go_on=>k_is)
  (case kWatch_go_on=>k_is)
#print axioms PySem.Challenge.cw_usewarden_k42_breach_of_ties_holds
