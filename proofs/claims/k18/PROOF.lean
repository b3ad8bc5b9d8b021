import PyProof.Rows.All
import Wide.All
import OpenK.AllK
import Wide.FinOn
import Lean
import PyProof.EqAt
import PyProof.EqKinds
import PyProof.TupleCall
import PyProof.SetScanFacts
import PyProof.SetKind
import PyProof.SetRoads
import PyProof.Rows.SetFrom
import PyProof.FactsBase
import PyProof.TableTree
import PyProof.FactsTree
import PyProof.PlainAttrs
import PyProof.FactsAll.set_1
import PyProof.CollectIter
import PyProof.FactsAll.set
import PyProof.ZipIter
import PyProof.EnumIter
import PyProof.TupleIter
import KE.KRevIter
import KE.KDictList
import PyProof.Rows.SumAny
import KE.KIntText
import PyProof.StrLawsTight
import PyProof.StrLawsChain
import PyProof.Rows.SortStr
import PyProof.Rows.StrNews2
import PyProof.StrLawsFirst
import PyProof.AutoSeq1
import OpenK.KOwn
import PyProof.Rows.CatchOwn
import KE.KDictOf
import PyProof.DictItems
import PyProof.NeKinds
import KE.KPairComp
import PyProof.FactsAll.tuple_2
import PyProof.FactsAll.tuple_3
import KE.KDictLaws
import PyProof.FactsAll.dict_3
import PyProof.MinMaxWalk
import PyProof.WalkInts
import PyProof.Cells
import KE.KUnpack
import PySem.Challenge.RW_usewarden_k18_rules_that_do_not_fit
set_option Elab.async false
set_option linter.all false
set_option maxRecDepth 100000
set_option maxHeartbeats 4000000
namespace L2
open PySem
def inClass(s:Stmt)(j:Nat):Stmt:=match s with
 | .ClassDef _ _ _ body _ _ _ _ _ _ _=>body.getD j (.Pass ⟨0,0,0,0⟩)
 | _=>.Pass ⟨0,0,0,0⟩
def defArgs(s:Stmt):Arguments:=match s with
 | .FunctionDef _ a _ _ _ _ _ _ _ _=>a
 | _=>{ posonlyargs:=[],args:=[],vararg:=none,kwonlyargs:=[],kw_defaults:=[],kwarg:=none,defaults:=[] }
def defBody(s:Stmt):List Stmt:=match s with
 | .FunctionDef _ _ b _ _ _ _ _ _ _=>b
 | _=>[]
def defScope(s:Stmt):Scope:=match s with
 | .FunctionDef _ _ _ _ _ _ sc _ _ _=>sc
 | _=>{ kind:=.function,names:=[],isGenerator:=false,isCoroutine:=false }
end L2
namespace K18
open PySem PySem.W
def top (i:Nat):Stmt:=PySem.Challenge.pw_usewarden_k18_rules_that_do_not_fit.main.body.getD i (.Pass ⟨0,0,0,0⟩)
abbrev tUp(x:Array Value):Obj:=⟨.type "tuple", none,.seq x 0,#[]⟩
abbrev cOd(n:Str)(a b c:Nat)(l g:Int)(p q r s u:Addr)(i:Int)(d:Nat):Obj:=⟨.type "code", none,.fields #[.str n a,.str n b,.str "/claim/cut.py" c,.int l 0,.int g 0,.int 0 0,.int 0 0,.int 3 0,.ref p,.bool true,.int 181 0,.ref q,.none,.ref r,.ref s,.ref u,.int i 0,.int l 0,.str "/claim/cut.py" d],#[]⟩
abbrev fUn(n:Str)(i:Nat)(m:Str)(a:Nat)(c:Addr):Obj:=⟨.type "function", none,.func ⟨n,n,L2.defArgs (top i),.stmts (L2.defBody (top i)),L2.defScope (top i),3,[],.none,.none,.none,.str m a,none,.ref c,.none,0⟩,#[]⟩
noncomputable def KK(P:Params):Frag:=
 (nat_lit 2,⟨.none,none,.dict #[] 0,#[]⟩) ::
 (nat_lit 3,⟨.type "dict", none,.dict #[⟨PyData.keyHash P "__name__", .str "__name__" 165,.str "law_usewarden_k18_rules_that_do_not_fit" 541⟩,⟨PyData.keyHash P "__doc__", .str "__doc__" 166,.none⟩,⟨PyData.keyHash P "__package__", .str "__package__" 167,.none⟩,⟨PyData.keyHash P "__loader__", .str "__loader__" 168,.builtin "__main__.__loader__#opaque"⟩,⟨PyData.keyHash P "__spec__", .str "__spec__" 169,.none⟩,⟨PyData.keyHash P "__annotations__", .str "__annotations__" 170,.ref 6⟩,⟨PyData.keyHash P "__builtins__", .str "__builtins__" 171,.ref 4⟩,⟨PyData.keyHash P "__file__", .str "__file__" 173,.str "/claim/cut.py" 172⟩,⟨PyData.keyHash P "__cached__", .str "__cached__" 174,.none⟩,⟨PyData.keyHash P "UseError", .str "UseError" 206,.ref 24⟩,⟨PyData.keyHash P "NoRule", .str "NoRule" 222,.ref 37⟩,⟨PyData.keyHash P "NoText", .str "NoText" 238,.ref 49⟩,⟨PyData.keyHash P "NoFit", .str "NoFit" 254,.ref 61⟩,⟨PyData.keyHash P "TooGreat", .str "TooGreat" 270,.ref 73⟩,⟨PyData.keyHash P "Breach", .str "Breach" 303,.ref 92⟩,⟨PyData.keyHash P "ways_by", .str "ways_by" 311,.ref 99⟩,⟨PyData.keyHash P "finer_kinds", .str "finer_kinds" 324,.ref 106⟩,⟨PyData.keyHash P "kinds_upto", .str "kinds_upto" 330,.ref 111⟩,⟨PyData.keyHash P "merged_rooms", .str "merged_rooms" 341,.ref 118⟩,⟨PyData.keyHash P "rooms_led_to", .str "rooms_led_to" 353,.ref 125⟩,⟨PyData.keyHash P "numbered_rooms", .str "numbered_rooms" 359,.ref 130⟩,⟨PyData.keyHash P "does_something", .str "does_something" 365,.ref 135⟩,⟨PyData.keyHash P "picked", .str "picked" 371,.ref 140⟩,⟨PyData.keyHash P "least_upto", .str "least_upto" 377,.ref 145⟩,⟨PyData.keyHash P "refuse_unlike", .str "refuse_unlike" 387,.ref 152⟩,⟨PyData.keyHash P "words_of_both", .str "words_of_both" 395,.ref 159⟩,⟨PyData.keyHash P "ways_for", .str "ways_for" 401,.ref 164⟩,⟨PyData.keyHash P "ways_by_room", .str "ways_by_room" 407,.ref 169⟩,⟨PyData.keyHash P "pairs_behind", .str "pairs_behind" 416,.ref 176⟩,⟨PyData.keyHash P "MOST_WORDS", .str "MOST_WORDS" 420,.int 16 419⟩,⟨PyData.keyHash P "MOST_ROOMS", .str "MOST_ROOMS" 422,.int 60 421⟩,⟨PyData.keyHash P "next_room", .str "next_room" 432,.ref 183⟩,⟨PyData.keyHash P "room_from", .str "room_from" 442,.ref 190⟩,⟨PyData.keyHash P "room_after", .str "room_after" 450,.ref 197⟩,⟨PyData.keyHash P "breaks_one", .str "breaks_one" 459,.ref 204⟩,⟨PyData.keyHash P "breaks_both", .str "breaks_both" 466,.ref 211⟩,⟨PyData.keyHash P "rule_of_pairs", .str "rule_of_pairs" 484,.ref 218⟩,⟨PyData.keyHash P "least_of_pairs", .str "least_of_pairs" 494,.ref 225⟩,⟨PyData.keyHash P "joined_rule", .str "joined_rule" 502,.ref 232⟩,⟨PyData.keyHash P "either_rule", .str "either_rule" 510,.ref 239⟩,⟨PyData.keyHash P "row_to", .str "row_to" 522,.ref 246⟩,⟨PyData.keyHash P "row_apart", .str "row_apart" 540,.ref 253⟩,⟨PyData.keyHash P "_law_cell_at", .str "_law_cell_at" 550,.ref 260⟩,⟨PyData.keyHash P "_law_words", .str "_law_words" 567,.ref 267⟩,⟨PyData.keyHash P "_law_counter", .str "_law_counter" 581,.ref 274⟩,⟨PyData.keyHash P "_law_other", .str "_law_other" 588,.ref 281⟩,⟨PyData.keyHash P "_law_made", .str "_law_made" 600,.ref 288⟩,⟨PyData.keyHash P "_law_kept", .str "_law_kept" 613,.ref 295⟩,⟨PyData.keyHash P "_law_counted", .str "_law_counted" 619,.ref 300⟩,⟨PyData.keyHash P "_law_worded", .str "_law_worded" 634,.ref 307⟩,⟨PyData.keyHash P "_law_unlike", .str "_law_unlike" 645,.ref 314⟩,⟨PyData.keyHash P "_law_small", .str "_law_small" 651,.ref 319⟩,⟨PyData.keyHash P "law", .str "law" 660,.ref 326⟩] 53,#[]⟩) ::
 (nat_lit 15,tUp #[.type "ValueError"]) ::
 (nat_lit 22,tUp #[]) ::
 (nat_lit 23,⟨.type "dict", none,.dict #[⟨PyData.keyHash P "__module__", .str "__module__" 196,.str "usewarden.errors" 187⟩,⟨PyData.keyHash P "__firstlineno__", .str "__firstlineno__" 200,.int 2 199⟩,⟨PyData.keyHash P "__static_attributes__", .str "__static_attributes__" 201,.ref 22⟩,⟨PyData.keyHash P "__weakref__", .str "__weakref__" 203,.ref 25⟩,⟨PyData.keyHash P "__doc__", .str "__doc__" 204,.none⟩] 3,#[]⟩) ::
 (nat_lit 24,⟨.type "type", none,.cls ⟨"UseError", [.type "ValueError"],[.ref 24,.type "ValueError", .type "Exception", .type "BaseException", .type "object"],23, "UseError", true,[],[.ref 37,.ref 49,.ref 61,.ref 73,.ref 92],false,none,false⟩,#[some (.ref 15),none,some (.str "UseError" 189),some (.str "UseError" 197),some (.builtin "ValueError.__new__"),some (.bool true)]⟩) ::
 (nat_lit 25,⟨.type "getset_descriptor", none,.fields #[.str "__weakref__" 202,.ref 24,.builtin "ExceptionGroup.__weakref__", .none],#[]⟩) ::
 (nat_lit 28,tUp #[.ref 24]) ::
 (nat_lit 35,tUp #[]) ::
 (nat_lit 36,⟨.type "dict", none,.dict #[⟨PyData.keyHash P "__module__", .str "__module__" 214,.str "usewarden.errors" 187⟩,⟨PyData.keyHash P "__firstlineno__", .str "__firstlineno__" 218,.int 4 217⟩,⟨PyData.keyHash P "__static_attributes__", .str "__static_attributes__" 219,.ref 35⟩,⟨PyData.keyHash P "__doc__", .str "__doc__" 220,.none⟩] 2,#[]⟩) ::
 (nat_lit 37,⟨.type "type", none,.cls ⟨"NoRule", [.ref 24],[.ref 37,.ref 24,.type "ValueError", .type "Exception", .type "BaseException", .type "object"],36, "NoRule", true,[],[],false,none,false⟩,#[some (.ref 28),none,some (.str "NoRule" 207),some (.str "NoRule" 215),some (.builtin "ValueError.__new__"),some (.bool true)]⟩) ::
 (nat_lit 40,tUp #[.ref 24]) ::
 (nat_lit 47,tUp #[]) ::
 (nat_lit 48,⟨.type "dict", none,.dict #[⟨PyData.keyHash P "__module__", .str "__module__" 230,.str "usewarden.errors" 187⟩,⟨PyData.keyHash P "__firstlineno__", .str "__firstlineno__" 234,.int 6 233⟩,⟨PyData.keyHash P "__static_attributes__", .str "__static_attributes__" 235,.ref 47⟩,⟨PyData.keyHash P "__doc__", .str "__doc__" 236,.none⟩] 2,#[]⟩) ::
 (nat_lit 49,⟨.type "type", none,.cls ⟨"NoText", [.ref 24],[.ref 49,.ref 24,.type "ValueError", .type "Exception", .type "BaseException", .type "object"],48, "NoText", true,[],[],false,none,false⟩,#[some (.ref 40),none,some (.str "NoText" 223),some (.str "NoText" 231),some (.builtin "ValueError.__new__"),some (.bool true)]⟩) ::
 (nat_lit 52,tUp #[.ref 24]) ::
 (nat_lit 59,tUp #[]) ::
 (nat_lit 60,⟨.type "dict", none,.dict #[⟨PyData.keyHash P "__module__", .str "__module__" 246,.str "usewarden.errors" 187⟩,⟨PyData.keyHash P "__firstlineno__", .str "__firstlineno__" 250,.int 8 249⟩,⟨PyData.keyHash P "__static_attributes__", .str "__static_attributes__" 251,.ref 59⟩,⟨PyData.keyHash P "__doc__", .str "__doc__" 252,.none⟩] 2,#[]⟩) ::
 (nat_lit 61,⟨.type "type", none,.cls ⟨"NoFit", [.ref 24],[.ref 61,.ref 24,.type "ValueError", .type "Exception", .type "BaseException", .type "object"],60, "NoFit", true,[],[],false,none,false⟩,#[some (.ref 52),none,some (.str "NoFit" 239),some (.str "NoFit" 247),some (.builtin "ValueError.__new__"),some (.bool true)]⟩) ::
 (nat_lit 64,tUp #[.ref 24]) ::
 (nat_lit 71,tUp #[]) ::
 (nat_lit 72,⟨.type "dict", none,.dict #[⟨PyData.keyHash P "__module__", .str "__module__" 262,.str "usewarden.errors" 187⟩,⟨PyData.keyHash P "__firstlineno__", .str "__firstlineno__" 266,.int 10 265⟩,⟨PyData.keyHash P "__static_attributes__", .str "__static_attributes__" 267,.ref 71⟩,⟨PyData.keyHash P "__doc__", .str "__doc__" 268,.none⟩] 2,#[]⟩) ::
 (nat_lit 73,⟨.type "type", none,.cls ⟨"TooGreat", [.ref 24],[.ref 73,.ref 24,.type "ValueError", .type "Exception", .type "BaseException", .type "object"],72, "TooGreat", true,[],[],false,none,false⟩,#[some (.ref 64),none,some (.str "TooGreat" 255),some (.str "TooGreat" 263),some (.builtin "ValueError.__new__"),some (.bool true)]⟩) ::
 (nat_lit 76,tUp #[.ref 24]) ::
 (nat_lit 83,tUp #[]) ::
 (nat_lit 85,tUp #[.str "self" 286,.str "rule" 287,.str "line" 288,.str "handles" 289,.str "row" 290,.str "log" 291]) ::
 (nat_lit 86,tUp #[]) ::
 (nat_lit 88,⟨.type "code", none,.fields #[.str "__init__" 283,.str "Breach.__init__" 284,.str "/claim/cut.py" 285,.int 14 0,.int 6 0,.int 0 0,.int 0 0,.int 3 0,.ref 83,.bool true,.int 181 0,.ref 84,.none,.ref 85,.ref 86,.ref 87,.int 292 0,.int 14 0,.str "/claim/cut.py" 293],#[]⟩) ::
 (nat_lit 89,⟨.type "function", none,.func ⟨"__init__", "Breach.__init__", L2.defArgs (L2.inClass (top 6) 0),.stmts (L2.defBody (L2.inClass (top 6) 0)),L2.defScope (L2.inClass (top 6) 0),3,[],.none,.none,.none,.str "usewarden.errors" 187,none,.ref 88,.none,0⟩,#[]⟩) ::
 (nat_lit 90,tUp #[.str "handles" 295,.str "line" 296,.str "log" 297,.str "row" 298,.str "rule" 299]) ::
 (nat_lit 91,⟨.type "dict", none,.dict #[⟨PyData.keyHash P "__module__", .str "__module__" 278,.str "usewarden.errors" 187⟩,⟨PyData.keyHash P "__firstlineno__", .str "__firstlineno__" 282,.int 12 281⟩,⟨PyData.keyHash P "__init__", .str "__init__" 294,.ref 89⟩,⟨PyData.keyHash P "__static_attributes__", .str "__static_attributes__" 300,.ref 90⟩,⟨PyData.keyHash P "__doc__", .str "__doc__" 301,.none⟩] 2,#[]⟩) ::
 (nat_lit 92,⟨.type "type", none,.cls ⟨"Breach", [.ref 24],[.ref 92,.ref 24,.type "ValueError", .type "Exception", .type "BaseException", .type "object"],91, "Breach", true,[],[],false,none,false⟩,#[some (.ref 76),none,some (.str "Breach" 271),some (.str "Breach" 279),some (.builtin "ValueError.__new__"),some (.bool true)]⟩) ::
 (nat_lit 95,tUp #[]) ::
 (nat_lit 98,⟨.type "code", none,.fields #[.str "ways_by" 306,.str "ways_by" 307,.str "/claim/cut.py" 308,.int 22 0,.int 2 0,.int 0 0,.int 0 0,.int 3 0,.ref 95,.bool true,.int 181 0,.ref 96,.none,.none,.none,.ref 97,.int 309 0,.int 22 0,.str "/claim/cut.py" 310],#[]⟩) ::
 (nat_lit 99,fUn "ways_by" 8 "usewarden.leastrules" 304 98) ::
 (nat_lit 100,tUp #[]) ::
 (nat_lit 102,tUp #[.str "rooms" 315,.str "kinds" 316,.str "seen" 317,.str "finer" 318,.str "at" 319,.str "room" 320,.str "mark" 321]) ::
 (nat_lit 103,tUp #[]) ::
 (nat_lit 105,cOd "finer_kinds" 312 313 314 24 2 100 101 102 103 104 322 323) ::
 (nat_lit 106,fUn "finer_kinds" 9 "usewarden.leastrules" 304 105) ::
 (nat_lit 107,tUp #[]) ::
 (nat_lit 110,⟨.type "code", none,.fields #[.str "kinds_upto" 325,.str "kinds_upto" 326,.str "/claim/cut.py" 327,.int 33 0,.int 2 0,.int 0 0,.int 0 0,.int 3 0,.ref 107,.bool true,.int 181 0,.ref 108,.none,.none,.none,.ref 109,.int 328 0,.int 33 0,.str "/claim/cut.py" 329],#[]⟩) ::
 (nat_lit 111,fUn "kinds_upto" 10 "usewarden.leastrules" 304 110) ::
 (nat_lit 112,tUp #[]) ::
 (nat_lit 114,tUp #[.str "rooms" 334,.str "kinds" 335,.str "merged" 336,.str "at" 337,.str "room" 338]) ::
 (nat_lit 115,tUp #[]) ::
 (nat_lit 117,cOd "merged_rooms" 331 332 333 42 2 112 113 114 115 116 339 340) ::
 (nat_lit 118,fUn "merged_rooms" 11 "usewarden.leastrules" 304 117) ::
 (nat_lit 119,tUp #[]) ::
 (nat_lit 121,tUp #[.str "rooms" 345,.str "order" 346,.str "met" 347,.str "at" 348,.str "room" 349,.str "way" 350]) ::
 (nat_lit 122,tUp #[]) ::
 (nat_lit 124,cOd "rooms_led_to" 342 343 344 48 1 119 120 121 122 123 351 352) ::
 (nat_lit 125,fUn "rooms_led_to" 12 "usewarden.leastrules" 304 124) ::
 (nat_lit 126,tUp #[]) ::
 (nat_lit 129,⟨.type "code", none,.fields #[.str "numbered_rooms" 354,.str "numbered_rooms" 355,.str "/claim/cut.py" 356,.int 60 0,.int 1 0,.int 0 0,.int 0 0,.int 3 0,.ref 126,.bool true,.int 181 0,.ref 127,.none,.none,.none,.ref 128,.int 357 0,.int 60 0,.str "/claim/cut.py" 358],#[]⟩) ::
 (nat_lit 130,fUn "numbered_rooms" 13 "usewarden.leastrules" 304 129) ::
 (nat_lit 131,tUp #[]) ::
 (nat_lit 134,⟨.type "code", none,.fields #[.str "does_something" 360,.str "does_something" 361,.str "/claim/cut.py" 362,.int 66 0,.int 2 0,.int 0 0,.int 0 0,.int 3 0,.ref 131,.bool true,.int 181 0,.ref 132,.none,.none,.none,.ref 133,.int 363 0,.int 66 0,.str "/claim/cut.py" 364],#[]⟩) ::
 (nat_lit 135,fUn "does_something" 14 "usewarden.leastrules" 304 134) ::
 (nat_lit 136,tUp #[]) ::
 (nat_lit 139,⟨.type "code", none,.fields #[.str "picked" 366,.str "picked" 367,.str "/claim/cut.py" 368,.int 68 0,.int 2 0,.int 0 0,.int 0 0,.int 3 0,.ref 136,.bool true,.int 181 0,.ref 137,.none,.none,.none,.ref 138,.int 369 0,.int 68 0,.str "/claim/cut.py" 370],#[]⟩) ::
 (nat_lit 140,fUn "picked" 15 "usewarden.leastrules" 304 139) ::
 (nat_lit 141,tUp #[]) ::
 (nat_lit 144,⟨.type "code", none,.fields #[.str "least_upto" 372,.str "least_upto" 373,.str "/claim/cut.py" 374,.int 70 0,.int 2 0,.int 0 0,.int 0 0,.int 3 0,.ref 141,.bool true,.int 181 0,.ref 142,.none,.none,.none,.ref 143,.int 375 0,.int 70 0,.str "/claim/cut.py" 376],#[]⟩) ::
 (nat_lit 145,fUn "least_upto" 16 "usewarden.leastrules" 304 144) ::
 (nat_lit 146,tUp #[]) ::
 (nat_lit 148,tUp #[.str "one" 383,.str "other" 384]) ::
 (nat_lit 149,tUp #[]) ::
 (nat_lit 151,cOd "refuse_unlike" 380 381 382 79 2 146 147 148 149 150 385 386) ::
 (nat_lit 152,fUn "refuse_unlike" 18 "usewarden.pairs" 378 151) ::
 (nat_lit 153,tUp #[]) ::
 (nat_lit 155,tUp #[.str "one" 391,.str "other" 392]) ::
 (nat_lit 156,tUp #[]) ::
 (nat_lit 158,cOd "words_of_both" 388 389 390 82 2 153 154 155 156 157 393 394) ::
 (nat_lit 159,fUn "words_of_both" 19 "usewarden.pairs" 378 158) ::
 (nat_lit 160,tUp #[]) ::
 (nat_lit 163,⟨.type "code", none,.fields #[.str "ways_for" 396,.str "ways_for" 397,.str "/claim/cut.py" 398,.int 84 0,.int 4 0,.int 0 0,.int 0 0,.int 3 0,.ref 160,.bool true,.int 181 0,.ref 161,.none,.none,.none,.ref 162,.int 399 0,.int 84 0,.str "/claim/cut.py" 400],#[]⟩) ::
 (nat_lit 164,fUn "ways_for" 20 "usewarden.pairs" 378 163) ::
 (nat_lit 165,tUp #[]) ::
 (nat_lit 168,⟨.type "code", none,.fields #[.str "ways_by_room" 402,.str "ways_by_room" 403,.str "/claim/cut.py" 404,.int 86 0,.int 2 0,.int 0 0,.int 0 0,.int 3 0,.ref 165,.bool true,.int 181 0,.ref 166,.none,.none,.none,.ref 167,.int 405 0,.int 86 0,.str "/claim/cut.py" 406],#[]⟩) ::
 (nat_lit 169,fUn "ways_by_room" 21 "usewarden.pairs" 378 168) ::
 (nat_lit 170,tUp #[]) ::
 (nat_lit 172,tUp #[.str "ones" 411,.str "others" 412,.str "pair" 413]) ::
 (nat_lit 173,tUp #[]) ::
 (nat_lit 175,cOd "pairs_behind" 408 409 410 95 3 170 171 172 173 174 414 415) ::
 (nat_lit 176,fUn "pairs_behind" 22 "usewarden.pairs" 378 175) ::
 (nat_lit 177,tUp #[]) ::
 (nat_lit 179,tUp #[.str "rule" 426,.str "room" 427,.str "text" 428,.str "words" 429]) ::
 (nat_lit 180,tUp #[]) ::
 (nat_lit 182,cOd "next_room" 423 424 425 100 3 177 178 179 180 181 430 431) ::
 (nat_lit 183,fUn "next_room" 26 "usewarden.rules" 417 182) ::
 (nat_lit 184,tUp #[]) ::
 (nat_lit 186,tUp #[.str "rule" 436,.str "room" 437,.str "row" 438,.str "text" 439]) ::
 (nat_lit 187,tUp #[]) ::
 (nat_lit 189,cOd "room_from" 433 434 435 105 3 184 185 186 187 188 440 441) ::
 (nat_lit 190,fUn "room_from" 27 "usewarden.rules" 417 189) ::
 (nat_lit 191,tUp #[]) ::
 (nat_lit 193,tUp #[.str "rule" 446,.str "row" 447]) ::
 (nat_lit 194,tUp #[]) ::
 (nat_lit 196,cOd "room_after" 443 444 445 111 2 191 192 193 194 195 448 449) ::
 (nat_lit 197,fUn "room_after" 28 "usewarden.rules" 417 196) ::
 (nat_lit 198,tUp #[]) ::
 (nat_lit 200,tUp #[.str "pair" 456]) ::
 (nat_lit 201,tUp #[]) ::
 (nat_lit 203,cOd "breaks_one" 453 454 455 114 1 198 199 200 201 202 457 458) ::
 (nat_lit 204,fUn "breaks_one" 30 "usewarden.joins" 451 203) ::
 (nat_lit 205,tUp #[]) ::
 (nat_lit 207,tUp #[.str "pair" 463]) ::
 (nat_lit 208,tUp #[]) ::
 (nat_lit 210,cOd "breaks_both" 460 461 462 116 1 205 206 207 208 209 464 465) ::
 (nat_lit 211,fUn "breaks_both" 31 "usewarden.joins" 451 210) ::
 (nat_lit 212,tUp #[]) ::
 (nat_lit 214,tUp #[.str "one" 470,.str "other" 471,.str "breaks" 472,.str "words" 473,.str "ones" 474,.str "others" 475,.str "order" 476,.str "numbers" 477,.str "rooms" 478,.str "here" 479,.str "room" 480,.str "pair" 481]) ::
 (nat_lit 215,tUp #[]) ::
 (nat_lit 217,cOd "rule_of_pairs" 467 468 469 118 3 212 213 214 215 216 482 483) ::
 (nat_lit 218,fUn "rule_of_pairs" 32 "usewarden.joins" 451 217) ::
 (nat_lit 219,tUp #[]) ::
 (nat_lit 221,tUp #[.str "one" 488,.str "other" 489,.str "breaks" 490,.str "least" 491]) ::
 (nat_lit 222,tUp #[]) ::
 (nat_lit 224,cOd "least_of_pairs" 485 486 487 135 3 219 220 221 222 223 492 493) ::
 (nat_lit 225,fUn "least_of_pairs" 33 "usewarden.joins" 451 224) ::
 (nat_lit 226,tUp #[]) ::
 (nat_lit 228,tUp #[.str "one" 498,.str "other" 499]) ::
 (nat_lit 229,tUp #[]) ::
 (nat_lit 231,cOd "joined_rule" 495 496 497 141 2 226 227 228 229 230 500 501) ::
 (nat_lit 232,fUn "joined_rule" 34 "usewarden.joins" 451 231) ::
 (nat_lit 233,tUp #[]) ::
 (nat_lit 235,tUp #[.str "one" 506,.str "other" 507]) ::
 (nat_lit 236,tUp #[]) ::
 (nat_lit 238,cOd "either_rule" 503 504 505 143 2 233 234 235 236 237 508 509) ::
 (nat_lit 239,fUn "either_rule" 35 "usewarden.joins" 451 238) ::
 (nat_lit 240,tUp #[]) ::
 (nat_lit 242,tUp #[.str "came" 516,.str "at" 517,.str "row" 518,.str "place" 519]) ::
 (nat_lit 243,tUp #[]) ::
 (nat_lit 245,cOd "row_to" 513 514 515 146 2 240 241 242 243 244 520 521) ::
 (nat_lit 246,fUn "row_to" 37 "usewarden.follows" 511 245) ::
 (nat_lit 247,tUp #[]) ::
 (nat_lit 249,tUp #[.str "other" 526,.str "one" 527,.str "words" 528,.str "others" 529,.str "ones" 530,.str "order" 531,.str "came" 532,.str "met" 533,.str "at" 534,.str "here" 535,.str "word" 536,.str "pair" 537]) ::
 (nat_lit 250,tUp #[]) ::
 (nat_lit 252,cOd "row_apart" 523 524 525 153 2 247 248 249 250 251 538 539) ::
 (nat_lit 253,fUn "row_apart" 38 "usewarden.follows" 511 252) ::
 (nat_lit 254,tUp #[]) ::
 (nat_lit 256,tUp #[.str "_law_script" 546,.str "_law_k" 547]) ::
 (nat_lit 257,tUp #[]) ::
 (nat_lit 259,cOd "_law_cell_at" 543 544 545 175 2 254 255 256 257 258 548 549) ::
 (nat_lit 260,fUn "_law_cell_at" 40 "law_usewarden_k18_rules_that_do_not_fit" 541 259) ::
 (nat_lit 261,tUp #[]) ::
 (nat_lit 263,tUp #[.str "_law_cell" 554,.str "_law_many" 555,.str "_law_sides" 556,.str "_law_letters" 557,.str "_law_size" 558,.str "_law_at" 559,.str "_law_words_here" 560,.str "_law_k" 561,.str "_law_word" 562,.str "_law_j" 563,.str "_law_step" 564]) ::
 (nat_lit 264,tUp #[]) ::
 (nat_lit 266,cOd "_law_words" 551 552 553 179 3 261 262 263 264 265 565 566) ::
 (nat_lit 267,fUn "_law_words" 41 "law_usewarden_k18_rules_that_do_not_fit" 541 266) ::
 (nat_lit 268,tUp #[]) ::
 (nat_lit 270,tUp #[.str "_law_sides" 571,.str "_law_step" 572,.str "_law_zero" 573,.str "_law_many" 574,.str "_law_rooms" 575,.str "_law_i" 576,.str "_law_room" 577,.str "_law_word" 578]) ::
 (nat_lit 271,tUp #[]) ::
 (nat_lit 273,cOd "_law_counter" 568 569 570 193 4 268 269 270 271 272 579 580) ::
 (nat_lit 274,fUn "_law_counter" 42 "law_usewarden_k18_rules_that_do_not_fit" 541 273) ::
 (nat_lit 275,tUp #[]) ::
 (nat_lit 277,tUp #[.str "_law_e" 585]) ::
 (nat_lit 278,tUp #[]) ::
 (nat_lit 280,cOd "_law_other" 582 583 584 206 1 275 276 277 278 279 586 587) ::
 (nat_lit 281,fUn "_law_other" 43 "law_usewarden_k18_rules_that_do_not_fit" 541 280) ::
 (nat_lit 282,tUp #[]) ::
 (nat_lit 284,tUp #[.str "_law_way" 592,.str "_law_one" 593,.str "_law_other_here" 594,.str "_law_other_class" 595,.str "_law_told" 596,.str "_law_e" 597]) ::
 (nat_lit 285,tUp #[]) ::
 (nat_lit 287,cOd "_law_made" 589 590 591 212 3 282 283 284 285 286 598 599) ::
 (nat_lit 288,fUn "_law_made" 44 "law_usewarden_k18_rules_that_do_not_fit" 541 287) ::
 (nat_lit 289,tUp #[]) ::
 (nat_lit 291,tUp #[.str "_law_way" 604,.str "_law_words_here" 605,.str "_law_counts" 606,.str "_law_row" 607,.str "_law_at" 608,.str "_law_word" 609,.str "_law_k" 610]) ::
 (nat_lit 292,tUp #[]) ::
 (nat_lit 294,cOd "_law_kept" 601 602 603 231 4 289 290 291 292 293 611 612) ::
 (nat_lit 295,fUn "_law_kept" 45 "law_usewarden_k18_rules_that_do_not_fit" 541 294) ::
 (nat_lit 296,tUp #[]) ::
 (nat_lit 299,⟨.type "code", none,.fields #[.str "_law_counted" 614,.str "_law_counted" 615,.str "/claim/cut.py" 616,.int 242 0,.int 4 0,.int 0 0,.int 0 0,.int 3 0,.ref 296,.bool true,.int 181 0,.ref 297,.none,.none,.none,.ref 298,.int 617 0,.int 242 0,.str "/claim/cut.py" 618],#[]⟩) ::
 (nat_lit 300,fUn "_law_counted" 46 "law_usewarden_k18_rules_that_do_not_fit" 541 299) ::
 (nat_lit 301,tUp #[]) ::
 (nat_lit 303,tUp #[.str "_law_script" 623,.str "_law_way" 624,.str "_law_sides" 625,.str "_law_words_here" 626,.str "_law_cut" 627,.str "_law_one" 628,.str "_law_many" 629,.str "_law_other_here" 630,.str "_law_found" 631]) ::
 (nat_lit 304,tUp #[]) ::
 (nat_lit 306,cOd "_law_worded" 620 621 622 261 3 301 302 303 304 305 632 633) ::
 (nat_lit 307,fUn "_law_worded" 47 "law_usewarden_k18_rules_that_do_not_fit" 541 306) ::
 (nat_lit 308,tUp #[]) ::
 (nat_lit 310,tUp #[.str "_law_script" 638,.str "_law_words_here" 639,.str "_law_one" 640,.str "_law_other_here" 641,.str "_law_way" 642]) ::
 (nat_lit 311,tUp #[]) ::
 (nat_lit 313,cOd "_law_unlike" 635 636 637 274 2 308 309 310 311 312 643 644) ::
 (nat_lit 314,fUn "_law_unlike" 48 "law_usewarden_k18_rules_that_do_not_fit" 541 313) ::
 (nat_lit 315,tUp #[]) ::
 (nat_lit 318,⟨.type "code", none,.fields #[.str "_law_small" 646,.str "_law_small" 647,.str "/claim/cut.py" 648,.int 281 0,.int 2 0,.int 0 0,.int 0 0,.int 3 0,.ref 315,.bool true,.int 181 0,.ref 316,.none,.none,.none,.ref 317,.int 649 0,.int 281 0,.str "/claim/cut.py" 650],#[]⟩) ::
 (nat_lit 319,fUn "_law_small" 49 "law_usewarden_k18_rules_that_do_not_fit" 541 318) ::
 (nat_lit 320,tUp #[]) ::
 (nat_lit 322,tUp #[.str "_law_script" 655,.str "_law_first" 656,.str "_law_sides" 657]) ::
 (nat_lit 323,tUp #[]) ::
 (nat_lit 325,cOd "law" 652 653 654 296 1 320 321 322 323 324 658 659) ::
 (nat_lit 326,fUn "law" 50 "law_usewarden_k18_rules_that_do_not_fit" 541 325)::[]
def kk:List Addr:=[2,3,15,22,23,24,25,28,35,36,37,40,47,48,49,52,59,60,61,64,71,72,73,76,83,85,86,88,89,90,91,92,95,98,99,100,102,103,105,106,107,110,111,112,114,115,117,118,119,121,122,124,125,126,129,130,131,134,135,136,139,140,141,144,145,146,148,149,151,152,153,155,156,158,159,160,163,164,165,168,169,170,172,173,175,176,177,179,180,182,183,184,186,187,189,190,191,193,194,196,197,198,200,201,203,204,205,207,208,210,211,212,214,215,217,218,219,221,222,224,225,226,228,229,231,232,233,235,236,238,239,240,242,243,245,246,247,249,250,252,253,254,256,257,259,260,261,263,264,266,267,268,270,271,273,274,275,277,278,280,281,282,284,285,287,288,289,291,292,294,295,296,299,300,301,303,304,306,307,308,310,311,313,314,315,318,319,320,322,323,325,326]
theorem kk_eq:∀ P,kk=(KK P).map (·.1):=fun _=>by kernel_rfl
noncomputable abbrev HH:Hook:=kHook KK kk kk_eq
def qq:Program:=view PySem.Challenge.pw_usewarden_k18_rules_that_do_not_fit [1,2,3,4,5,6,8,9,10,11,12,13,14,15,16,18,19,20,21,22,24,25,26,27,28,30,31,32,33,34,35,37,38,40,41,42,43,44,45,46,47,48,49,50]
def loo:List Str:=[]
noncomputable def xt(s:Shared):Bool:=xlAt qq [] s&&recOk (RowW.records (OpenRow.toRowW (OpenLaw.row PySem.Challenge.rw_usewarden_k18_rules_that_do_not_fit))) s
def Ek(w:World):Prop:=(openEnds treeTable PySem.Challenge.pw_usewarden_k18_rules_that_do_not_fit w 5096).map (fun s=>openSeen qq loo (importedModules (Program.main PySem.Challenge.pw_usewarden_k18_rules_that_do_not_fit).body) xt true s)=some (openGood qq loo)
def Ea(w:World):Prop:=(openEnds treeTable PySem.Challenge.pw_usewarden_k18_rules_that_do_not_fit w 5096).map (fun s=>Hook.obs HH s)=some (Hook.val HH w)
set_option maxRecDepth 1000000 in
theorem ER(w:World):Ek w:=by unfold Ek; kernel_rfl
set_option maxRecDepth 1000000 in
theorem EC(w:World):Ea w:=by unfold Ea; kernel_rfl
theorem y0{α β γ : Type}{o:Option α}{f:α→β}{g:α→γ}{a:β}{b:γ}(h1:o.map f=some a)(h2:o.map g=some b):o.map (fun s=>(f s,g s))=some (a,b):=by
 cases o with
 | none=>cases h1
 | some s=>cases h1; cases h2; rfl
theorem hl(w:World):(openEnds treeTable PySem.Challenge.pw_usewarden_k18_rules_that_do_not_fit w 5096).map (fun s=>(openSeen qq loo (importedModules (Program.main PySem.Challenge.pw_usewarden_k18_rules_that_do_not_fit).body) xt true s,Hook.obs HH s))=some (openGood qq loo,Hook.val HH w):=y0 (ER w) (EC w)
end K18
-- CHANGE: your row's module here, as the last of these rows
namespace L2
open PySem PySem.Spec PyProof.Rows
abbrev bD:=Sum Int Str
def jF:bD→Value→Bool
 | .inl k,v=>Value.isInt k v
 | .inr x,v=>Value.isStrOf x v
def FD(w:World):bD→Int
 | .inl k=>hashInt k
 | .inr x=>hashStr w x
theorem cG:∀ {k:bD} {v:Value},jF k v=true→(∃ i t,k=Sum.inl i∧v=Value.int i t)∨(∃ x t,k=Sum.inr x∧v=Value.str x t)
 | .inl i,v,h=>by
  obtain⟨t,e⟩:=Value.isInt_shape (k:=i) (v:=v) h
  exact .inl ⟨i,t,rfl,e⟩
 | .inr x,v,h=>by
  obtain⟨t,e⟩:=Value.isStrOf_shape (x:=x) (v:=v) h
  exact .inr ⟨x,t,rfl,e⟩
theorem vS(i:Int)(t:Tok):jF (.inl i) (.int i t)=true:=by simp[jF,Value.isInt]
theorem wX(x:Str)(t:Tok):jF (.inr x) (.str x t)=true:=by simp[jF,Value.isStrOf]
theorem Dy(a b:Int):decide ((Sum.inl a:bD)=Sum.inl b)=(a == b):=by
 by_cases e:a=b
 ·subst e; simp
 ·have h:¬ (Sum.inl a:bD)=Sum.inl b:=fun q=>e (Sum.inl.inj q)
  rw[decide_eq_false h];exact(beq_eq_false_iff_ne.mpr e).symm
theorem Dc(a b:Str):decide ((Sum.inr a:bD)=Sum.inr b)=decide (a=b):=by
 by_cases e:a=b
 ·subst e; simp
 ·have h:¬ (Sum.inr a:bD)=Sum.inr b:=fun q=>e (Sum.inr.inj q)
  rw[decide_eq_false h,decide_eq_false e]
theorem CQ(a:Int)(b:Str):decide ((Sum.inl a:bD)=Sum.inr b)=false:=decide_eq_false (fun q=>nomatch q)
theorem BU(a:Str)(b:Int):decide ((Sum.inr a:bD)=Sum.inl b)=false:=decide_eq_false (fun q=>nomatch q)
def cF(prog:Program)(w:World):PySem.KeyKind prog w bD where
 is:=jF
 hash:=FD w
 inj:=fun v a b ha hb=>by
  rcases cG ha with ⟨i,t,rfl,rfl⟩ | ⟨x,t,rfl,rfl⟩
  ·rcases cG hb with ⟨j,u,rfl,e⟩ | ⟨y,u,rfl,e⟩
   ·injection e with e1 _; rw[e1]
   ·exact nomatch e
  ·rcases cG hb with ⟨j,u,rfl,e⟩ | ⟨y,u,rfl,e⟩
   ·exact nomatch e
   ·injection e with e1 _; rw[e1]
 byValue:=fun k v h=>by
  rcases cG h with ⟨i,t,rfl,rfl⟩ | ⟨x,t,rfl,rfl⟩ <;> rfl
 pyHash:=fun hv h=>by
  rcases cG hv with ⟨i,t,rfl,rfl⟩ | ⟨x,t,rfl,rfl⟩
  ·exact wpAny_pyHash_int h
  ·exact wpAny_pyHash_str h
 eqBool:=fun hu hv h=>by
  rcases cG hu with ⟨i,t,rfl,rfl⟩ | ⟨x,t,rfl,rfl⟩
  ·rcases cG hv with ⟨j,u,rfl,rfl⟩ | ⟨y,u,rfl,rfl⟩
   ·rw[Dy]at h; exact wpAny_eqBool_int h
   ·rw[CQ]at h; exact SeqAt.EqAt.int_str i t y u _ _ _ _ h
  ·rcases cG hv with ⟨j,u,rfl,rfl⟩ | ⟨y,u,rfl,rfl⟩
   ·rw[BU]at h; exact SeqAt.EqAt.str_int x t j u _ _ _ _ h
   ·rw[Dc]at h; exact wpAny_eqBool_str h
 «strs»:=fun k x t v h=>by
  rcases cG h with ⟨i,u,rfl,e⟩ | ⟨y,u,rfl,e⟩
  ·exact nomatch e
  ·injection e with e1 _
   subst e1
   cases v <;> rfl
theorem rj(prog:Program)(w:World)(i:Int)(t:Tok):(cF prog w).is (.inl i) (.int i t)=true:=vS i t
theorem q8(prog:Program)(w:World)(x:Str)(t:Tok):(cF prog w).is (.inr x) (.str x t)=true:=wX x t
end L2
namespace L2
open PySem PySem.Spec PyProof.Rows
set_option genSizeOf false in
inductive V where
 | non | bl (b:Bool) | int (i:Int) | str (x:Str) | byt (b:Array UInt8) | flt (b:UInt64) | ref (a:Addr) | ty (n:String)
 deriving DecidableEq
def RelV:V→Value→Prop
 | .non,u=>u=Value.none
 | .bl b,u=>u=Value.bool b
 | .int i,u=>∃ t,u=Value.int i t
 | .str x,u=>∃ t,u=Value.str x t
 | .byt b,u=>∃ t,u=Value.bytes b t
 | .flt b,u=>∃ t,u=Value.float b t
 | .ref a,u=>u=Value.ref a
 | .ty n,u=>u=Value.type n
abbrev Vals:List V→List Value→Prop:=Paired RelV
theorem Vals.length{xs:List V}{us:List Value}(r:Vals xs us):xs.length=us.length:=Paired.length r
theorem Vals.get:∀ {xs:List V} {us:List Value} {i:Nat} {x:V},Vals xs us→xs[i]? = some x→∃ u,us[i]? = some u∧RelV x u
 | _,_,_,_,.nil,e=>by simp at e
 | _,_,0,_,.cons r _,e=>by simp at e; subst e; exact⟨_,rfl,r⟩
 | _,_,i+1,x,.cons _ t,e=>by
  obtain⟨u,h1,h2⟩:=Vals.get (i:=i) (x:=x) t (by simpa using e)
  exact⟨u,by simpa using h1,h2⟩
theorem Vals.set{x:V}{u:Value}(r:RelV x u):∀ {xs:List V} {us:List Value} (i:Nat),Vals xs us→Vals (xs.set i x) (us.set i u)
 | _,_,_,.nil=>.nil
 | _,_,0,.cons _ t=>.cons r t
 | _,_,i+1,.cons q t=>.cons q (Vals.set r i t)
theorem Vals.append:∀ {xs ys:List V} {us ws:List Value},Vals xs us→Vals ys ws→Vals (xs++ys) (us++ws)
 | _,_,_,_,.nil,s=>s
 | _,_,_,_,.cons r t,s=>.cons r (Vals.append t s)
theorem Vals.take:∀ {xs:List V} {us:List Value} (n:Nat),Vals xs us→Vals (xs.take n) (us.take n)
 | _,_,0,_=>.nil
 | _,_,_+1,.nil=>.nil
 | _,_,n+1,.cons r t=>.cons r (Vals.take n t)
theorem Vals.drop:∀ {xs:List V} {us:List Value} (n:Nat),Vals xs us→Vals (xs.drop n) (us.drop n)
 | _,_,0,r=>r
 | _,_,_+1,.nil=>.nil
 | _,_,n+1,.cons _ t=>Vals.drop n t
def RelO:Option V→Option Value→Prop
 | some v,some u=>RelV v u
 | none,none=>True
 | _,_=>False
def KV{κ : Type}:List (κ × V)→List (κ × Value)→Prop:=Paired fun (p:κ × V) (q:κ × Value)=>p.1=q.1∧RelV p.2 q.2
def kV:bD→V
 | .inl i=>.int i
 | .inr x=>.str x
set_option genSizeOf false in
inductive HO where
 /-- a list -/
 | lst (xs:List V)
 /-- a tuple (never changes) -/
 | tup (xs:List V)
 /-- a dict whose keys are ints and texts; one whose keys are tuples of ints and texts (the empty one is both) -/
 | dK (kvs:List (bD × V)) | dT (kvs:List (List bD × V))
 /-- a set of ints: its members, its size -/
 | set (S:Int→Bool) (n:Nat)
 /-- an instance of the class at C, its dict at dx, its attributes -/
 | ins (C dx:Addr) (fs:List (Str × V))
 /-- the dict of the instance at x -/
 | own (x:Addr)
 /-- the dict of an exception -/
 | xd (fs:List (Str × V))
 /-- a bound method, f of x -/
 | met (f x:Addr)
 /-- a range object lo, lo+1, .. below hi -/
 | rng (lo hi:Int)
 /-- a thing that is known to the object (the script; a dict while a loop walks it): read, never written while it is so -/
 | frz (o:Obj) (u:HO)
 /-- a code object's table -/
 | tbl (ps:Array Value)
 /-- any other thing, by what is true of its one object (a def of one's own: SetO a S n := HO.ext fun h => ..) -/
 | ext (φ : Heap→Prop)
abbrev Hp:=Addr→Option HO
def upd(H:Hp)(a:Addr)(o:HO):Hp:=fun b=>if b=a then some o else H b
theorem ar{H:Hp}{a:Addr}{o:HO}:upd H a o a=some o:=by unfold upd; rw[if_pos rfl]
theorem am{H:Hp}{a b:Addr}{o:HO}(h:b≠a):upd H a o b=H b:=by unfold upd; rw[if_neg h]
theorem AW{H:Hp}{a:Addr}{o u:HO}:upd (upd H a o) a u=upd H a u:=by
 funext b; unfold upd; split <;> rfl
theorem gq{H:Hp}{a b:Addr}{o u:HO}(h:H a=some o)(h':H b=some u)(d:o≠u):a≠b:=by
 intro e; subst e; rw[h]at h'; exact d (Option.some.inj h')
theorem aF{H:Hp}{a b:Addr}{o:HO}(h:H a=some o)(h':H b=none):a≠b:=by
 intro e; subst e; rw[h]at h'; cases h'
def IsTupN(h:Heap)(a:Addr)(items:Array Value):Prop:=∃ o,h.get? a=some o∧o.cls = .type "tuple" ∧ o.dict=none∧∃ n,o.data = .seq items n
theorem IsTupN.tup{h:Heap}{a:Addr}{items:Array Value}(x:IsTupN h a items):IsTup h a items:=let ⟨o,e,c,_,d⟩:=x; ⟨o,e,c,d⟩
theorem IsTupN.lt{h:Heap}{a:Addr}{items:Array Value}(x:IsTupN h a items):a<h.objs.size:=let ⟨_,e,_⟩:=x; Heap.lt_size e
theorem IsTupN.new(h:Heap)(items:Array Value):IsTupN (h.push { cls:=.type "tuple", data:=.seq items }) h.objs.size items:=⟨_,Heap.get?_push_size _ rfl,rfl,rfl,_,rfl⟩
section
variable(P:Program)(w:World)
def ObjOk(H:Hp)(h:Heap)(a:Addr):HO→Prop
 | .lst xs=>xs.length≤sizeLine∧∃ (its:List Value) (n:Nat),Vals xs its∧h.get? a=some { cls:=.type "list", data:=.seq its.toArray n }
 | .tup xs=>xs.length≤sizeLine∧∃ its:List Value,Vals xs its∧IsTupN h a its.toArray
 | .dK kvs=>kvs.length≤sizeLine∧(a == sysModules)=false∧∃ vs,KV kvs vs∧h.DictOf (cF P w) a vs
 | .dT kvs=>kvs.length≤sizeLine∧(a == sysModules)=false∧∃ xs:List (List bD × Addr × Value),
   Paired (fun (p:List bD × V) (q:List bD × Addr × Value)=>p.1=q.1∧H q.2.1=some (.tup (p.1.map kV))∧RelV p.2 q.2.2) kvs xs∧
   ∃ o es ep,h.get? a=some o∧o.ExactDict∧o.data = .dict es ep∧es.toList=xs.map (entryOfKey (tupleKind (cF P w)))∧(xs.map (·.1)).Nodup
 | .set S n=>h.SetOf (intKind P w) a S n
 | .ins C dx fs=>H dx=some (.own a)∧fs.length≤1000∧dx≠a∧h.get? a=some (PySem.W.instObj C dx)∧
   ∃ mA,h.Ns1 dx mA∧(∀ f,RelO (fs.lookup f) (mA f))∧PySem.Within mA (fs.map (·.1))
 | .own _=>∃ o,h.get? a=some o
 | .xd fs=>∃ mA,h.Ns1 a mA∧∀ f,RelO (fs.lookup f) (mA f)
 | .rng lo hi=>∃ t u v,h.get? a=some { cls:=.type "range", data:=.fields #[.int lo t,.int hi u,.int 1 v] }
 | .frz o u=>h.get? a=some o∧ObjOk H h a u
 | .tbl ps=>h.get? a=some { cls:=.none,data:=.fields ps }
 | .met f x=>h.get? a=some (PySem.W.methodObj (.ref f) (.ref x))
 | .ext φ=>φ h∧(∃ o,h.get? a=some o)∧∀ h1 h2:Heap,φ h1→(∀ o,h1.get? a=some o→h2.get? a=some o)→φ h2
def HOk(H:Hp)(h:Heap):Prop:=∀ a o,H a=some o→ObjOk P w H h a o
end
section
variable{P:Program}{w:World}{H H':Hp}{h h':Heap}{a:Addr}{o:HO}
theorem ObjOk.lt(x:ObjOk P w H h a o):a<h.objs.size:=by
 cases o with
 | lst xs=>obtain⟨_,_,_,_,e⟩:=x; exact Heap.lt_size e
 | tup xs=>obtain⟨_,_,_,p⟩:=x; exact p.lt
 | dK kvs=>obtain⟨_,_,_,_,o,_,_,e,_⟩:=x; exact Heap.lt_size e
 | dT kvs=>obtain⟨_,_,_,_,o,_,_,e,_⟩:=x; exact Heap.lt_size e
 | set S n=>obtain⟨o,_,_,_,e,_⟩:=x; exact Heap.lt_size e
 | ins C dx fs=>obtain⟨_,_,_,e,_⟩:=x; exact Heap.lt_size e
 | own y=>obtain⟨_,e⟩:=x; exact Heap.lt_size e
 | xd fs=>obtain⟨_,⟨_,_,_,e,_⟩,_⟩:=x; exact Heap.lt_size e
 | rng lo hi=>obtain⟨_,_,_,e⟩:=x; exact Heap.lt_size e
 | frz ob u=>obtain⟨e,_⟩:=x; exact Heap.lt_size e
 | tbl ps=>exact Heap.lt_size (show h.get? a=some _ from x)
 | met f y=>exact Heap.lt_size (show h.get? a=some _ from x)
 | ext φ=>obtain⟨_,⟨_,e⟩,_⟩:=x; exact Heap.lt_size e
theorem Paired.mapP{α β : Type}{F G:α→β→Prop}:∀ {l₁:List α} {l₂:List β},Paired F l₁ l₂→(∀ a b,F a b→G a b)→Paired G l₁ l₂
 | _,_,.nil,_=>.nil
 | _,_,.cons r t,f=>.cons (f _ _ r) (Paired.mapP t f)
theorem Paired.imp'{α β : Type}{F G:α→β→Prop}(f:∀ a b,F a b→G a b){l₁:List α}{l₂:List β}(r:Paired F l₁ l₂):Paired G l₁ l₂:=Paired.mapP r f
theorem ObjOk.stay(x:ObjOk P w H h a o)(k:∀ b u,(b=a∨H b=some (.own a))→h.get? b=some u→h'.get? b=some u)
  (ho:∀ b,H b=some (.own a)→H' b=some (.own a)) (ht:∀ b xs,H b=some (.tup xs)→H' b=some (.tup xs)):ObjOk P w H' h' a o:=by
 induction o with
 | lst xs=>obtain⟨z,its,n,r,e⟩:=x; exact⟨z,its,n,r,k _ _ (.inl rfl) e⟩
 | tup xs=>obtain⟨z,its,r,ob,e,c⟩:=x; exact⟨z,its,r,ob,k _ _ (.inl rfl) e,c⟩
 | dK kvs=>obtain⟨z,y,vs,r,ob,es,ep,e,c⟩:=x; exact⟨z,y,vs,r,ob,es,ep,k _ _ (.inl rfl) e,c⟩
 | dT kvs=>
  obtain⟨z,y,xs,r,ob,es,ep,e,c⟩:=x
  exact⟨z,y,xs,Paired.mapP r fun p q z=>⟨z.1,ht _ _ z.2.1,z.2.2⟩,ob,es,ep,k _ _ (.inl rfl) e,c⟩
 | set S n=>obtain⟨ob,es,ep,t,e,c⟩:=x; exact⟨ob,es,ep,t,k _ _ (.inl rfl) e,c⟩
 | ins C dx fs=>
  obtain⟨d,z,ne,e,mA,⟨od,es,ep,e2,c⟩,r⟩:=x
  exact⟨ho _ d,z,ne,k _ _ (.inl rfl) e,mA,⟨od,es,ep,k _ _ (.inr d) e2,c⟩,r⟩
 | own y=>obtain⟨ob,e⟩:=x; exact⟨ob,k _ _ (.inl rfl) e⟩
 | xd fs=>obtain⟨mA,⟨od,es,ep,e,c⟩,r⟩:=x; exact⟨mA,⟨od,es,ep,k _ _ (.inl rfl) e,c⟩,r⟩
 | rng lo hi=>obtain⟨t,u,v,e⟩:=x; exact⟨t,u,v,k _ _ (.inl rfl) e⟩
 | frz ob u ih=>obtain⟨e,q⟩:=x; exact⟨k _ _ (.inl rfl) e,ih q⟩
 | tbl ps=>
  have e:h.get? a=some { cls:=.none,data:=.fields ps }:=x
  show h'.get? a=some { cls:=.none,data:=.fields ps }
  exact k a _ (.inl rfl) e
 | met f y=>
  have e:h.get? a=some (PySem.W.methodObj (.ref f) (.ref y)):=x
  show h'.get? a=some (PySem.W.methodObj (.ref f) (.ref y))
  exact k a _ (.inl rfl) e
 | ext φ=>obtain⟨p,⟨o,e⟩,st⟩:=x; exact⟨st _ _ p fun o q=>k _ _ (.inl rfl) q,⟨o,k _ _ (.inl rfl) e⟩,st⟩
theorem HOk.lt(x:HOk P w H h)(e:H a=some o):a<h.objs.size:=(x a o e).lt
theorem HOk.fresh(x:HOk P w H h)(e:h.objs.size≤a):H a=none:=by
 cases q:H a with
 | none=>rfl
 | some u=>exact absurd (Nat.lt_of_lt_of_le (x.lt q) e) (Nat.lt_irrefl _)
theorem HOk.kept(x:HOk P w H h)(k:∀ b u,h.get? b=some u→h'.get? b=some u):HOk P w H h':=fun a o e=>
 (x a o e).stay (fun b u _ q=>k b u q) (fun _ q=>q) fun _ _ q=>q
theorem HOk.laid(x:HOk P w H h)(k:∀ b u,h.get? b=some u→h'.get? b=some u)(hp:h.objs.size≤a)(new:ObjOk P w (upd H a o) h' a o):HOk P w (upd H a o) h':=fun b u e=>by
 have hn:=x.fresh hp
 by_cases hb:b=a
 ·subst hb; rw[ar]at e; cases e; exact new
 ·rw[am hb]at e
  exact(x b u e).stay (fun c v _ q=>k c v q) (fun c q=>by rw[am (aF q hn)]; exact q) fun c xs q=>by rw[am (aF q hn)]; exact q
end
def Rd(H:Hp)(a:Addr)(u:HO):Prop:=H a=some u∨∃ o,H a=some (.frz o u)
theorem Rd.ok{P:Program}{w:World}{H:Hp}{h:Heap}{a:Addr}{u:HO}(r:Rd H a u)(x:HOk P w H h):ObjOk P w H h a u:=by
 rcases r with r | ⟨o,r⟩
 ·exact x a u r
 ·obtain⟨_,q⟩:=x a _ r
  exact q
def wC:Option HO→Prop
 | some (.lst _)=>True
 | some (.dK _)=>True
 | some (.dT _)=>True
 | some (.set _ _)=>True
 | some (.ins _ _ _)=>True
 | some (.ext _)=>True
 | _=>False
section
variable{P:Program}{w:World}{H:Hp}{h h':Heap}{x e:Addr}{o':HO}
theorem HOk.write(ok:HOk P w H h)(mu:wC (H x))(he:e=x∨H e=some (.own x))(k:∀ b u,b≠e→h.get? b=some u→h'.get? b=some u)(heo:∃ u,h'.get? e=some u)
  (new:ObjOk P w (upd H x o') h' x o'):HOk P w (upd H x o') h':=fun b u q=>by
 have nown:∀ c y,H c=some (.own y)→c≠x:=fun c y r z=>by subst z; rw[r]at mu; exact mu
 have ntup:∀ c xs,H c=some (.tup xs)→c≠x:=fun c xs r z=>by subst z; rw[r]at mu; exact mu
 by_cases hb:b=x
 ·subst hb; rw[ar]at q; cases q; exact new
 ·rw[am hb]at q
  by_cases hbe:b=e
  ·have q':H b=some (.own x):=by
    rcases he with z | z
    ·exact absurd (hbe.trans z) hb
    ·rw[hbe]; exact z
   rw[q]at q'; cases q'
   obtain⟨v,hv⟩:=heo
   exact⟨v,by rw[hbe]; exact hv⟩
  ·refine(ok b u q).stay (fun c v hc r=>k c v ?_ r) (fun c r=>by rw[am (nown c b r)]; exact r) fun c xs r=>by rw[am (ntup c xs r)]; exact r
   rcases hc with rfl | hc
   ·exact hbe
   ·rintro rfl
    rcases he with z | z
    ·exact nown c b hc z
    ·rw[hc]at z; cases z; exact hb rfl
end
structure Un (fs ex:List Addr) (H H':Hp) (h h':Heap):Prop where
 keep:∀ b o,h.get? b=some o→H b=none→b∉fs→b∉ex→h'.get? b=some o
 slot:∀ b o,h.get? b=some o→H b=none→b∈fs→b∉ex→∃ sl,h'.get? b=some { o with slots:=sl }
 free:∀ b o,h.get? b=some o→H b=none→b∉ex→H' b=none
 there:∀ b o,h.get? b=some o→b∉ex→∃ o',h'.get? b=some o'
 tups:∀ b xs,H b=some (.tup xs)→H' b=some (.tup xs)
 frzs:∀ b o u,H b=some (.frz o u)→H' b=some (.frz o u)
 tbls:∀ b ps,H b=some (.tbl ps)→∃ more,H' b=some (.tbl (ps++more))
section
variable{fs fs' ex ex':List Addr}{H H1 H2:Hp}{h h1 h2 h':Heap}{a x e:Addr}{o:HO}
theorem Un.any(u:Un fs ex H H1 h h1){b:Addr}{ob:Obj}(q:h.get? b=some ob)(n:H b=none)(hx:b∉ex):∃ sl,h1.get? b=some { ob with slots:=sl }:=by
 by_cases hb:b∈fs
 ·exact u.slot b ob q n hb hx
 ·exact⟨ob.slots,u.keep b ob q n hb hx⟩
theorem Un.kept(k:∀ b u,h.get? b=some u→h'.get? b=some u):Un fs ex H H h h':=
 ⟨fun b ob q _ _ _=>k b ob q,fun b ob q _ _ _=>⟨ob.slots,k b ob q⟩,fun _ _ _ n _=>n,fun b ob q _=>⟨ob,k b ob q⟩,fun _ _ q=>q,fun _ _ _ q=>q,fun _ ps q=>⟨#[],by rw[q]; simp⟩⟩
theorem Un.refl:Un fs ex H H h h:=Un.kept fun _ _ q=>q
theorem Un.laid(k:∀ b u,h.get? b=some u→h'.get? b=some u)(hp:h.objs.size≤a)(hn:H a=none):Un fs ex H (upd H a o) h h' where
 keep:=fun b u q _ _ _=>k b u q
 slot:=fun b u q _ _ _=>⟨u.slots,k b u q⟩
 free:=fun b u q n _=>by rw[am (Nat.ne_of_lt (Nat.lt_of_lt_of_le (Heap.lt_size q) hp))]; exact n
 there:=fun b u q _=>⟨u,k b u q⟩
 tups:=fun b xs q=>by rw[am (aF q hn)]; exact q
 frzs:=fun b u xs q=>by rw[am (aF q hn)]; exact q
 tbls:=fun b ps q=>⟨#[],by rw[am (aF q hn),q]; simp⟩
theorem Un.write(mu:wC (H x))(he:e=x∨H e=some (.own x))(k:∀ b u,b≠e→h.get? b=some u→h'.get? b=some u)(heo:∃ u,h'.get? e=some u):Un fs ex H (upd H x o) h h':=by
 have hx:∀ b,H b=none→b≠x:=fun b n z=>by subst z; rw[n]at mu; exact mu
 have hb:∀ b,H b=none→b≠e:=fun b n z=>by
  subst z;rcases he with r | r
  ·exact hx b n r
  ·rw[n]at r; cases r
 have hm:∀ b u,H b=some u→¬ wC (some u)→b≠x:=fun b u q nm z=>by subst z; rw[q]at mu; exact nm mu
 refine⟨fun b u q n _ _=>k b u (hb b n) q,fun b u q n _ _=>⟨u.slots,k b u (hb b n) q⟩,fun b u q n _=>by rw[am (hx b n)]; exact n,fun b u q _=>?_,
  fun b xs q=>by rw[am (hm b _ q fun z=>z)]; exact q,fun b u xs q=>by rw[am (hm b _ q fun z=>z)]; exact q,fun b ps q=>⟨#[],by rw[am (hm b _ q fun z=>z),q]; simp⟩⟩
 by_cases hbe:b=e
 ·subst hbe; exact heo
 ·exact⟨u,k b u hbe q⟩
end
def trk(h:Heap)(H:Hp):List Addr:=(List.range h.objs.size).filter fun a=>(H a).isSome
def iV(h:Heap)(H:Hp):Heap:=PySem.W.hideAll h (trk h H)
theorem wR(h:Heap)(H:Hp):(iV h H).objs.size=h.objs.size:=PySem.W.hideAll_size _ _
theorem yB{h:Heap}{H:Hp}{b:Addr}{o:Obj}(e:h.get? b=some o)(n:H b=none):(iV h H).get? b=some o:=
 PySem.W.hideAll_get _ e fun hm=>by
  have q:(H b).isSome=true:=(List.mem_filter.mp hm).2
  rw[n]at q; simp at q
theorem Ay{h:Heap}{H:Hp}{b:Addr}{o:Obj}(e:(iV h H).get? b=some o):h.get? b=some o∧H b=none:=by
 have e':h.get? b=some o:=PySem.W.of_hideAll (trk h H) e
 refine⟨e',?_⟩
 cases q:H b with
 | none=>rfl
 | some x=>
  have hm:b∈trk h H:=List.mem_filter.mpr ⟨List.mem_range.mpr (Heap.lt_size e'),by simp[q]⟩
  have z:(iV h H).get? b=none:=PySem.W.hideAll_none (trk h H) hm
  rw[z]at e; cases e
def Bi(g h:Heap)(L:Addr):List (Addr × Obj):=(List.range h.objs.size).filterMap fun a=>if a=L∨(g.get? a).isSome=true then none else (h.get? a).map fun o=>(a,o)
def rest(g h:Heap)(L d:Addr):List (Addr × Obj):=(Bi g h L).filter fun p=>decide (p.1≠d)
end L2
namespace L2
open PySem PySem.Spec PyProof.Rows
structure Mod (K:PySem.W.Frag) (mg:Str→Option Value) (base:Heap):Prop where
 kin:K.In base
 glob:base.Ns mainGlobals mg
 blt:∃ mb,base.Ns builtinsNs mb∧∀ x:Str,x ≠ "__name__" → mb x=bootBuiltins x
 nolimit:base.NoLimit
set_option genInjectivity false in
set_option genSizeOf false in
structure Cx where
 prog:Program
 w:World
 K:PySem.W.Frag
 mg:Str→Option Value
 base:Heap
 A:Around
 N:List Str
 s₀ : Shared
 H₀ : Hp
 env:Env
 outer:List Env
 stack:List Env
 ex:List Addr
 fn:Str→Bool
 calm:Bool
 pn:List (Addr × Obj)
 xe:Value→Shared→Prop
def eD(l:List Env):List Addr:=l.filterMap (·.frame)
abbrev Cx.fs (X:Cx):List Addr:=eD X.outer
def au(sc:Scope)(x:Str):Prop:=sc.names.lookup x=some .local∨sc.names.lookup x=some .cell∨sc.names.lookup x=some .free
def bb(sc:Scope)(x:Str):Prop:=sc.names.lookup x=some .local∨sc.names.lookup x=some .cell
def Ci(env:Env)(h:Heap)(m:Str→Option Value)(x:Str)(u:Value):Prop:=
 (env.kindOf x=some .local∧m x=some u)∨((env.kindOf x=some .cell∨env.kindOf x=some .free)∧∃ c,env.cells.lookup x=some c∧h.IsCell c (some u))
structure Cx.Ok (X:Cx):Prop where
 mod:Mod X.K X.mg X.base
 kind:X.env.scope.kind = .function
 glob:X.env.globals=mainGlobals
 blt:X.env.builtins=builtinsNs
 above:X.s₀.heap.objs.size≤X.env.locals
 inj:∀ x y c,X.env.cells.lookup x=some c→X.env.cells.lookup y=some c→x=y
 has:∀ x,(X.env.kindOf x=some .cell∨X.env.kindOf x=some .free)→∃ c,X.env.cells.lookup x=some c
 cab:∀ x c,X.fn x=true→X.env.cells.lookup x=some c→X.s₀.heap.objs.size≤c
 hd:X.calm=true→X.A.handled=none
 frames:X.A.frames=some X.stack
 stk:X.stack=X.outer∨(X.stack=X.env::X.outer∧X.env.frame=some X.env.locals)
 exf:∀ b∈X.ex,b≠X.env.locals∧∀ x c,X.env.cells.lookup x=some c→c≠b
 bs:∀ b o,X.base.get? b=some o→X.s₀.heap.get? b=some o∧X.H₀ b=none
 bsz:X.base.objs.size≤X.s₀.heap.objs.size
 noex:∀ b o,X.base.get? b=some o→b∉X.ex
 exfs:∀ b∈X.ex,b∉X.fs
 funs:X.s₀.heap.FunFrames X.base X.outer
 frf:∀ b∈X.fs,X.H₀ b=none
structure Inv (X:Cx) (pins:List (Addr × Obj)) (σ : List (Option V)) (H:Hp) (s:Shared):Prop where
 ok:X.Ok
 os:s.os=X.s₀.os
 bare:AllBare s.gens
 base:Un X.fs X.ex X.H₀ H X.s₀.heap s.heap
 loc:∃ m,s.heap.Ns X.env.locals m∧∀ (i:Nat) (x:Str) (v:V),X.N[i]? = some x→σ[i]? = some (some v)→au X.env.scope x→∃ u,RelV v u∧Ci X.env s.heap m x u
 cell:∀ x c,X.env.cells.lookup x=some c→∃ v,s.heap.IsCell c v
 free:H X.env.locals=none
 freeC:∀ x c,X.env.cells.lookup x=some c→H c=none
 pin:∀ p∈X.pn++pins,s.heap.get? p.1=some p.2∧H p.1=none∧p.1≠X.env.locals∧p.1∉X.fs∧∀ v,p.2.data ≠ .cell v
 hok:HOk X.prog X.w H s.heap
 len:σ.length=X.N.length
section
variable{X:Cx}{pins:List (Addr × Obj)}{σ : List (Option V)}{H H':Hp}{s:Shared}{h':Heap}
theorem Cx.Ok.nofr(ok:X.Ok){b:Addr}{o:Obj}(e:X.base.get? b=some o):b∉X.fs:=fun hb=>by
 have:=(ok.funs.mem hb).1
 rw[e]at this; cases this
theorem Inv.bs(I:Inv X pins σ H s):∀ b o,X.base.get? b=some o→s.heap.get? b=some o∧H b=none:=fun b o e=>
 ⟨I.base.keep b o (I.ok.bs b o e).1 (I.ok.bs b o e).2 (I.ok.nofr e) (I.ok.noex b o e),I.base.free b o (I.ok.bs b o e).1 (I.ok.bs b o e).2 (I.ok.noex b o e)⟩
theorem Inv.bk(I:Inv X pins σ H s):∀ b o,X.base.get? b=some o→s.heap.get? b=some o:=fun b o e=>(I.bs b o e).1
theorem Inv.mod(I:Inv X pins σ H s):Mod X.K X.mg X.base:=I.ok.mod
theorem Inv.kIn(I:Inv X pins σ H s):X.K.In s.heap:=I.ok.mod.kin.keeps I.bk
theorem Inv.lt(I:Inv X pins σ H s):X.env.locals<s.heap.objs.size:=let ⟨_,hn,_⟩:=I.loc; hn.lt
theorem Inv.sz(I:Inv X pins σ H s):X.s₀.heap.objs.size≤s.heap.objs.size:=Nat.le_trans I.ok.above (Nat.le_of_lt I.lt)
theorem Inv.nofs(I:Inv X pins σ H s){a:Addr}(h:s.heap.objs.size≤a):a∉X.fs:=fun hb=>by
 obtain⟨_,o,ho,_⟩:=I.ok.funs.mem hb
 exact absurd (Nat.lt_of_lt_of_le (Heap.lt_size ho) (Nat.le_trans I.sz h)) (Nat.lt_irrefl _)
theorem Inv.cne(I:Inv X pins σ H s):∀ x c,X.env.cells.lookup x=some c→c≠X.env.locals:=fun x c e z=>by
 obtain⟨v,o,ho,hd⟩:=I.cell x c e
 obtain⟨m,⟨o',es,ep,ho',hd',_⟩,_⟩:=I.loc
 rw[z,ho']at ho; cases ho; rw[hd']at hd; cases hd
theorem Inv.funs(I:Inv X pins σ H s):s.heap.FunFrames X.base X.outer:=by
 have all:∀ (l:List Env),(∀ b∈eD l,b∈X.fs)→X.s₀.heap.FunFrames X.base l→s.heap.FunFrames X.base l:=by
  intro l
  induction l with
  | nil=>intro _ _; trivial
  | cons env r ih=>
   intro hs hl
   obtain⟨hk,⟨L,o,hf,hn,ho,hd⟩,hr⟩:=hl
   have hL:L∈X.fs:=hs L (by unfold eD; rw[List.filterMap_cons,hf]; exact List.mem_cons_self)
   obtain⟨sl,e⟩:=I.base.slot L o ho (I.ok.frf L hL) hL fun z=>I.ok.exfs L z hL
   exact⟨hk,⟨L,_,hf,hn,e,hd⟩,ih (fun b hb=>hs b (by unfold eD; rw[List.filterMap_cons,hf]; exact List.mem_cons_of_mem _ hb)) hr⟩
 exact all X.outer (fun _ hb=>hb) I.ok.funs
theorem Inv.stack(I:Inv X pins σ H s):s.heap.FunFrames X.base X.stack:=by
 rcases I.ok.stk with e | ⟨e,hf⟩
 ·rw[e]; exact I.funs
 ·rw[e]
  obtain⟨m,hn,_⟩:=I.loc
  refine .cons (by rw[I.ok.kind]; decide) hf hn ?_ I.funs
  exact Heap.get?_none_of_le (Nat.le_trans I.ok.bsz I.ok.above)
theorem Inv.stkSub(I:Inv X pins σ H s):∀ b∈eD X.stack,b∈X.env.locals::X.fs:=fun b hb=>by
 rcases I.ok.stk with e | ⟨e,hf⟩
 ·rw[e]at hb; exact List.mem_cons_of_mem _ hb
 ·rw[e]at hb
  unfold eD at hb;rw[List.filterMap_cons,hf]at hb
  exact hb
theorem Inv.stkFree(I:Inv X pins σ H s):∀ b∈eD X.stack,H b=none:=fun b hb=>by
 rcases List.mem_cons.mp (I.stkSub b hb) with e | hb
 ·rw[e]; exact I.free
 ·obtain⟨_,o,ho,_⟩:=I.ok.funs.mem hb
  exact I.base.free b o ho (I.ok.frf b hb) fun z=>I.ok.exfs b z hb
theorem Inv.step{g':Array GenState}{t':Nat}{d':Drawn}{ch:List Addr}(I:Inv X pins σ H s)
  (hch:∀ b∈ch,(b∈X.ex∨X.s₀.heap.objs.size≤b)∧b≠X.env.locals∧(∀ x c,X.env.cells.lookup x=some c→c≠b)∧∀ p∈X.pn++pins,p.1≠b)
  (keep:∀ b o,b≠X.env.locals→b∉X.fs→b∉ch→s.heap.get? b=some o→H b=none→h'.get? b=some o)
  (slot:∀ b o,b≠X.env.locals→b∈X.fs→b∉ch→s.heap.get? b=some o→H b=none→∃ sl,h'.get? b=some { o with slots:=sl }) (free:∀ b o,b∉ch→s.heap.get? b=some o→H b=none→H' b=none)
  (there:∀ b o,b∉ch→s.heap.get? b=some o→∃ o',h'.get? b=some o')
  (tups:∀ b xs,H b=some (.tup xs)→H' b=some (.tup xs)) (frzs:∀ b o u,H b=some (.frz o u)→H' b=some (.frz o u)) (tbls:∀ b ps,H b=some (.tbl ps)→∃ more,H' b=some (.tbl (ps++more)))
  (ns:∀ m,s.heap.Ns X.env.locals m→h'.Ns X.env.locals m) (hok:HOk X.prog X.w H' h') (hg:AllBare g') :
  Inv X pins σ H' { s with heap:=h',gens:=g',drawn:=d',toks:=t' }:=by
 have neL:∀ b o,X.s₀.heap.get? b=some o→b≠X.env.locals:=fun b o e=>Nat.ne_of_lt (Nat.lt_of_lt_of_le (Heap.lt_size e) I.ok.above)
 have neC:∀ b o,X.s₀.heap.get? b=some o→b∉X.ex→b∉ch:=fun b o e hx hb=>by
  rcases(hch b hb).1 with z | z
  ·exact hx z
  ·exact absurd (Nat.lt_of_lt_of_le (Heap.lt_size e) z) (Nat.lt_irrefl _)
 have cellK:∀ x c,X.env.cells.lookup x=some c→∀ v,s.heap.IsCell c v→h'.IsCell c v:=fun x c e v ⟨o,ho,hd⟩=>by
  have nch:c∉ch:=fun z=>(hch c z).2.2.1 x c e rfl
  by_cases hc:c∈X.fs
  ·obtain⟨sl,q⟩:=slot c o (I.cne x c e) hc nch ho (I.freeC x c e)
   exact⟨_,q,hd⟩
  ·exact⟨o,keep c o (I.cne x c e) hc nch ho (I.freeC x c e),hd⟩
 refine⟨I.ok,I.os,hg,⟨fun b o e n hb hx=>?_,fun b o e n hb hx=>?_,fun b o e n hx=>?_,fun b o e hx=>?_,fun b xs e=>tups b xs (I.base.tups b xs e),fun b o xs e=>frzs b o xs (I.base.frzs b o xs e),fun b ps e=>?_⟩,?_,fun x c e=>?_,?_,fun x c e=>?_,fun p hp=>?_,hok,I.len⟩
 ·exact keep b o (neL b o e) hb (neC b o e hx) (I.base.keep b o e n hb hx) (I.base.free b o e n hx)
 ·obtain⟨sl,e1⟩:=I.base.slot b o e n hb hx
  obtain⟨sl',e2⟩:=slot b _ (neL b o e) hb (neC b o e hx) e1 (I.base.free b o e n hx)
  exact⟨sl',e2⟩
 ·obtain⟨o',e1⟩:=I.base.there b o e hx
  exact free b o' (neC b o e hx) e1 (I.base.free b o e n hx)
 ·obtain⟨o',e1⟩:=I.base.there b o e hx
  exact there b o' (neC b o e hx) e1
 ·obtain⟨m1,e1⟩:=I.base.tbls b ps e
  obtain⟨m2,e2⟩:=tbls b _ e1
  exact⟨m1++m2,by rw[e2,Array.append_assoc]⟩
 ·obtain⟨m,hn,hl⟩:=I.loc
  refine⟨m,ns m hn,fun i x v e1 e2 e3=>?_⟩
  obtain⟨u,r,l⟩:=hl i x v e1 e2 e3
  refine⟨u,r,?_⟩
  rcases l with l | ⟨k,c,e,z⟩
  ·exact .inl l
  ·exact .inr ⟨k,c,e,cellK x c e _ z⟩
 ·obtain⟨v,z⟩:=I.cell x c e
  exact⟨v,cellK x c e v z⟩
 ·obtain⟨m,⟨o,_,_,ho,_⟩,_⟩:=I.loc
  exact free _ o (fun z=>(hch _ z).2.1 rfl) ho I.free
 ·obtain⟨v,o,ho,hd⟩:=I.cell x c e
  exact free c o (fun z=>(hch c z).2.2.1 x c e rfl) ho (I.freeC x c e)
 ·obtain⟨e,n,ne,nf,d⟩:=I.pin p hp
  have nch:p.1∉ch:=fun z=>(hch p.1 z).2.2.2 p hp rfl
  exact⟨keep p.1 p.2 ne nf nch e n,free p.1 p.2 nch e n,ne,nf,d⟩
theorem Inv.un{t':Nat}(I:Inv X pins σ H s)(u:Un X.fs [] H H' s.heap h')(hok:HOk X.prog X.w H' h'):Inv X pins σ H' { s with heap:=h',toks:=t' }:=by
 obtain⟨m,⟨o,es,ep,ho,r⟩,_⟩:=id I.loc
 obtain⟨sl,hL⟩:=u.any ho I.free (by simp)
 exact I.step (g':=s.gens) (d':=s.drawn) (ch:=[]) (fun _ z=>nomatch z) (fun b o _ hb _ e n=>u.keep b o e n hb (by simp)) (fun b o _ hb _ e n=>u.slot b o e n hb (by simp)) (fun b o _ e n=>u.free b o e n (by simp)) (fun b o _ e=>u.there b o e (by simp)) u.tups u.frzs u.tbls (fun m' hm=>by
  obtain⟨o',es',ep',ho',r'⟩:=hm
  rw[ho]at ho'; cases ho'
  exact⟨_,es',ep',hL,r'⟩) hok I.bare
theorem Inv.call{g':Array GenState}{t':Nat}{d':Drawn}{ch:List Addr}(I:Inv X pins σ H s)(u:Un (eD X.stack) ch H H' s.heap h')(hok:HOk X.prog X.w H' h')(hg:AllBare g')
  (hch:∀ b∈ch,(b∈X.ex∨X.s₀.heap.objs.size≤b)∧b≠X.env.locals∧(∀ x c,X.env.cells.lookup x=some c→c≠b)∧∀ p∈X.pn++pins,p.1≠b) :
  Inv X pins σ H' { s with heap:=h',gens:=g',drawn:=d',toks:=t' }:=by
 obtain⟨m,⟨o,es,ep,ho,r⟩,_⟩:=id I.loc
 obtain⟨sl,hL⟩:=u.any ho I.free fun z=>(hch _ z).2.1 rfl
 exact I.step (ch:=ch) hch (fun b o hL hb hc e n=>u.keep b o e n (fun z=>(List.mem_cons.mp (I.stkSub b z)).elim hL hb) hc) (fun b o _ _ hc e n=>u.any e n hc) (fun b o hc e n=>u.free b o e n hc) (fun b o hc e=>u.there b o e hc) u.tups u.frzs u.tbls (fun m' hm=>by
  obtain⟨o',es',ep',ho',r'⟩:=hm
  rw[ho]at ho'; cases ho'
  exact⟨_,es',ep',hL,r'⟩) hok hg
theorem Inv.turned{t':Nat}{it:Addr}(I:Inv X pins σ H s)(k:∀ b o,b≠it→s.heap.get? b=some o→h'.get? b=some o)(hn:H it=none)(hL:it≠X.env.locals)
  (h1:it∈X.ex∨X.s₀.heap.objs.size≤it) (h2:∀ x c,X.env.cells.lookup x=some c→c≠it) (h3:∀ p∈X.pn++pins,p.1≠it):Inv X pins σ H { s with heap:=h',toks:=t' }:=by
 have nit:∀ b u,H b=some u→b≠it:=fun b u e z=>by rw[z,hn]at e; cases e
 refine I.step (g':=s.gens) (d':=s.drawn) (ch:=[it]) (fun b hb=>?_) (fun b o _ _ hc e _=>k b o (fun z=>hc (by simp[z])) e) (fun b o _ _ hc e _=>⟨o.slots,k b o (fun z=>hc (by simp[z])) e⟩) (fun _ _ _ _ n=>n)
  (fun b o hc e=>⟨o,k b o (fun z=>hc (by simp[z])) e⟩) (fun _ _ e=>e) (fun _ _ _ e=>e) (fun b ps e=>⟨#[],by rw[e]; simp⟩) (fun m hm=>?_) (fun b u e=>?_) I.bare
 ·have e:b=it:=by simpa using hb
  subst e;exact⟨h1,hL,h2,h3⟩
 ·obtain⟨o,es,ep,ho,r⟩:=hm
  exact⟨o,es,ep,k _ o (Ne.symm hL) ho,r⟩
 ·refine(I.hok b u e).stay (fun c v hc q=>k c v ?_ q) (fun _ q=>q) fun _ _ q=>q
  rcases hc with z | z
  ·rw[z]; exact nit b u e
  ·exact nit c _ z
theorem Inv.tok(I:Inv X pins σ H s)(t:Nat):Inv X pins σ H { s with toks:=t }:=I.un (h':=s.heap) (t':=t) Un.refl I.hok
theorem Inv.kept{t':Nat}(I:Inv X pins σ H s)(k:∀ b u,s.heap.get? b=some u→h'.get? b=some u):Inv X pins σ H { s with heap:=h',toks:=t' }:=I.un (Un.kept k) (I.hok.kept k)
theorem Inv.laid{a:Addr}{o:HO}{t':Nat}(I:Inv X pins σ H s)(k:∀ b u,s.heap.get? b=some u→h'.get? b=some u)(hp:s.heap.objs.size≤a)(new:ObjOk X.prog X.w (upd H a o) h' a o) :
  Inv X pins σ (upd H a o) { s with heap:=h',toks:=t' }:=I.un (Un.laid k hp (I.hok.fresh hp)) (I.hok.laid k hp new)
theorem Inv.write{x e:Addr}{o:HO}{t':Nat}(I:Inv X pins σ H s)(mu:wC (H x))(he:e=x∨H e=some (.own x))(k:∀ b u,b≠e→s.heap.get? b=some u→h'.get? b=some u)(heo:∃ u,h'.get? e=some u)
  (new:ObjOk X.prog X.w (upd H x o) h' x o):Inv X pins σ (upd H x o) { s with heap:=h',toks:=t' }:=I.un (Un.write mu he k heo) (I.hok.write mu he k heo new)
theorem Inv.weak{σ':List (Option V)}(I:Inv X pins σ H s)(hl:σ'.length=σ.length)(w:∀ (i:Nat) v,σ'[i]? = some (some v)→σ[i]? = some (some v)):Inv X pins σ' H s:=
 ⟨I.ok,I.os,I.bare,I.base,let ⟨m,hn,hl'⟩:=I.loc; ⟨m,hn,fun i x v e1 e2 e3=>hl' i x v e1 (w i v e2) e3⟩,I.cell,I.free,I.freeC,I.pin,I.hok,hl.trans I.len⟩
theorem Inv.pins_of{pins':List (Addr × Obj)}(I:Inv X pins σ H s)(h:∀ p∈pins',s.heap.get? p.1=some p.2∧H p.1=none∧p.1≠X.env.locals∧p.1∉X.fs∧∀ v,p.2.data ≠ .cell v):Inv X pins' σ H s:=
 ⟨I.ok,I.os,I.bare,I.base,I.loc,I.cell,I.free,I.freeC,fun p hp=>(List.mem_append.mp hp).elim (fun z=>I.pin p (List.mem_append_left _ z)) (h p),I.hok,I.len⟩
theorem kA{N:List Str}(hN:N.Nodup){i j:Nat}{x:Str}(a:N[i]? = some x)(b:N[j]? = some x):i=j:=by
 obtain⟨h1,e1⟩:=List.getElem?_eq_some_iff.mp a
 obtain⟨h2,e2⟩:=List.getElem?_eq_some_iff.mp b
 exact(List.getElem_inj hN).mp (e1.trans e2.symm)
theorem ny{M:Model}{A:Around}{E:Value→Shared→Prop}{i:Nat}{x:Str}{v:V}{u:Value}{Q:Unit→Shared→Prop}(I:Inv X pins σ H s)(hN:X.N.Nodup)(hi:X.N[i]? = some x)(hx:bb X.env.scope x)(r:RelV v u)
  (h:∀ s',Inv X pins (σ.set i (some v)) H s'→(∃ a,Heap.SameBut a s.heap s'.heap∧(a=X.env.locals∨X.env.cells.lookup x=some a))→Q () s') (hf:X.fn x=true∨X.env.scope.names.lookup x=some .local:=by first | exact .inl rfl | exact .inr rfl | assumption):wpAny M A (storeName X.env x u) Q E s:=by
 obtain⟨m,hn,hl⟩:=id I.loc
 have hcls:(X.env.scope.kind == .class||(X.env.scope.kind == .module&&X.env.locals != X.env.globals))=false:=by rw[I.ok.kind]; rfl
 have hiσ : i<σ.length:=by rw[I.len]; exact(List.getElem?_eq_some_iff.mp hi).1
 have cne:=I.cne
 have tracked:∀ {a:Addr} {h':Heap},(∃ o,s.heap.get? a=some o∧H a=none)→Heap.SameBut a s.heap h'→HOk X.prog X.w H h':=fun {a h'} ha hs b ob e=>by
  obtain⟨_,_,hfree⟩:=ha
  refine(I.hok b ob e).stay (fun c w' hc q=>(hs.2 c ?_).trans q) (fun _ q=>q) fun _ _ q=>q
  rintro rfl
  rcases hc with rfl | hc
  ·rw[hfree]at e; cases e
  ·rw[hfree]at hc; cases hc
 rcases hx with hk | hk
 ·refine wpAny_storeName_local hk hn (fun h' hn' hs=>?_) hcls
  obtain⟨oL,_,_,hoL,_⟩:=id hn
  refine h _ ⟨I.ok,I.os,I.bare,⟨fun b o e n hb hx=>?_,fun b o e n hb hx=>?_,I.base.free,fun b o e hx=>?_,I.base.tups,I.base.frzs,I.base.tbls⟩,⟨_,hn',fun j y v' e1 e2 e3=>?_⟩,fun y c e=>?_,I.free,I.freeC,fun p hp=>?_,tracked ⟨oL,hoL,I.free⟩ hs,by simpa using I.len⟩ ⟨_,hs,.inl rfl⟩
  ·exact(hs.2 b (Nat.ne_of_lt (Nat.lt_of_lt_of_le (Heap.lt_size e) I.ok.above))).trans (I.base.keep b o e n hb hx)
  ·obtain⟨sl,e1⟩:=I.base.slot b o e n hb hx
   exact⟨sl,(hs.2 b (Nat.ne_of_lt (Nat.lt_of_lt_of_le (Heap.lt_size e) I.ok.above))).trans e1⟩
  ·obtain⟨o',e1⟩:=I.base.there b o e hx
   exact⟨o',(hs.2 b (Nat.ne_of_lt (Nat.lt_of_lt_of_le (Heap.lt_size e) I.ok.above))).trans e1⟩
  ·by_cases hj:j=i
   ·subst hj
    rw[hi]at e1; cases e1
    rw[List.getElem?_set_self hiσ]at e2
    cases e2;exact⟨u,r,.inl ⟨hk,by simp⟩⟩
   ·rw[List.getElem?_set_ne (Ne.symm hj)]at e2
    obtain⟨u',r',q⟩:=hl j y v' e1 e2 e3
    refine⟨u',r',?_⟩
    rcases q with ⟨k,e⟩ | ⟨k,c,e,z⟩
    ·refine .inl ⟨k,?_⟩
     have:y≠x:=fun e=>hj (kA hN e1 (e ▸ hi))
     simp[this,e]
    ·exact .inr ⟨k,c,e,z.sameBut hs (cne y c e)⟩
  ·obtain⟨w',z⟩:=I.cell y c e
   exact⟨w',z.sameBut hs (cne y c e)⟩
  ·obtain⟨e,n,ne,nf,d⟩:=I.pin p hp
   exact⟨(hs.2 p.1 ne).trans e,n,ne,nf,d⟩
 ·have hfn:X.fn x=true:=by
   rcases hf with z | z
   ·exact z
   ·rw[z]at hk; cases hk
  obtain⟨c,hc⟩:=I.ok.has x (.inl hk)
  obtain⟨w',z⟩:=I.cell x c hc
  refine wpAny_storeName_cell I.ok.kind hk hc z (fun h' hc' hs=>?_)
  obtain⟨oc,hoc,hocd⟩:=id z
  refine h { s with heap:=h' } ⟨I.ok,I.os,I.bare,⟨fun b o e n hb hx=>?_,fun b o e n hb hx=>?_,I.base.free,fun b o e hx=>?_,I.base.tups,I.base.frzs,I.base.tbls⟩,⟨m,hn.sameBut hs (Ne.symm (cne x c hc)),fun j y v' e1 e2 e3=>?_⟩,fun y c' e=>?_,I.free,I.freeC,fun p hp=>?_,tracked ⟨oc,hoc,I.freeC x c hc⟩ hs,by simpa using I.len⟩ ⟨c,hs,.inr hc⟩
  ·exact(hs.2 b (Nat.ne_of_lt (Nat.lt_of_lt_of_le (Heap.lt_size e) (I.ok.cab x c hfn hc)))).trans (I.base.keep b o e n hb hx)
  ·obtain⟨sl,e1⟩:=I.base.slot b o e n hb hx
   exact⟨sl,(hs.2 b (Nat.ne_of_lt (Nat.lt_of_lt_of_le (Heap.lt_size e) (I.ok.cab x c hfn hc)))).trans e1⟩
  ·obtain⟨o',e1⟩:=I.base.there b o e hx
   exact⟨o',(hs.2 b (Nat.ne_of_lt (Nat.lt_of_lt_of_le (Heap.lt_size e) (I.ok.cab x c hfn hc)))).trans e1⟩
  ·by_cases hj:j=i
   ·subst hj
    rw[hi]at e1; cases e1
    rw[List.getElem?_set_self hiσ]at e2
    cases e2;exact⟨u,r,.inr ⟨.inl hk,c,hc,hc'⟩⟩
   ·rw[List.getElem?_set_ne (Ne.symm hj)]at e2
    obtain⟨u',r',q⟩:=hl j y v' e1 e2 e3
    refine⟨u',r',?_⟩
    rcases q with q | ⟨k,c',e,z'⟩
    ·exact .inl q
    ·refine .inr ⟨k,c',e,z'.sameBut hs ?_⟩
     rintro rfl
     exact hj (kA hN e1 (I.ok.inj _ _ _ e hc ▸ hi))
  ·by_cases hcc:c'=c
   ·subst hcc; exact⟨_,hc'⟩
   ·obtain⟨w2,z2⟩:=I.cell y c' e
    exact⟨w2,z2.sameBut hs hcc⟩
  ·obtain⟨e,n,ne,nf,d⟩:=I.pin p hp
   refine⟨(hs.2 p.1 ?_).trans e,n,ne,nf,d⟩
   intro q
   rw[q,hoc]at e
   have q':oc=p.2:=Option.some.inj e
   exact d w' (by rw[← q']; exact hocd)
theorem iZ{M:Model}{A:Around}{E:Value→Shared→Prop}{i:Nat}{x:Str}{v:V}{u:Value}{Q:Unit→Shared→Prop}(I:Inv X pins σ H s)(hN:X.N.Nodup)(hi:X.N[i]? = some x)(hx:bb X.env.scope x)(r:RelV v u)
  (h:∀ s',Inv X pins (σ.set i (some v)) H s'→Q () s') (hf:X.fn x=true∨X.env.scope.names.lookup x=some .local:=by first | exact .inl rfl | exact .inr rfl | assumption):wpAny M A (storeName X.env x u) Q E s:=
 ny I hN hi hx r (fun s' I' _=>h s' I') hf
theorem Inv.call'{s':Shared}{ch:List Addr}(I:Inv X pins σ H s)(ho:s'.os=s.os)(u:Un (eD X.stack) ch H H' s.heap s'.heap)(hok:HOk X.prog X.w H' s'.heap)(hg:AllBare s'.gens)
  (hch:∀ b∈ch,(b∈X.ex∨X.s₀.heap.objs.size≤b)∧b≠X.env.locals∧(∀ x c,X.env.cells.lookup x=some c→c≠b)∧∀ p∈X.pn++pins,p.1≠b):Inv X pins σ H' s':=by
 obtain⟨h',g',d',t',o'⟩:=s'
 have e:o'=s.os:=ho
 subst e;exact I.call (g':=g') (t':=t') (d':=d') u hok hg hch
end
abbrev XK:=Value→Option Addr→Hp→Prop
abbrev St:=List (Option V)
abbrev VK:=V→Hp→Prop
abbrev TE:=St→Hp→VK→Prop
abbrev TT:=St→Hp→(Bool→Hp→Prop)→Prop
abbrev TA:=St→Hp→(List V→Hp→Prop)→Prop
set_option genInjectivity false in
set_option genSizeOf false in
structure db where
 nx:St→Hp→Prop
 rt:VK
 bk:St→Hp→Prop:=fun _ _=>False
 ct:St→Hp→Prop:=fun _ _=>False
abbrev TS:=db→St→Hp→Prop
def EP(X:Cx)(pins:List (Addr × Obj))(σ : St)(Q:VK)(u:Value)(s':Shared):Prop:=∃ v H',Inv X pins σ H' s'∧RelV v u∧Q v H'
def TP(X:Cx)(pins:List (Addr × Obj))(σ : St)(Q:Bool→Hp→Prop)(b:Bool)(s':Shared):Prop:=∃ H',Inv X pins σ H' s'∧Q b H'
def AP(X:Cx)(pins:List (Addr × Obj))(σ : St)(Q:List V→Hp→Prop)(us:List Value)(s':Shared):Prop:=∃ vs H',Inv X pins σ H' s'∧Vals vs us∧Q vs H'
def SP(X:Cx)(pins:List (Addr × Obj))(D:db)(f:Flow)(s':Shared):Prop:=
 match f with
 | .next=>∃ σ' H',Inv X pins σ' H' s'∧D.nx σ' H'
 | .brk=>∃ σ' H',Inv X pins σ' H' s'∧D.bk σ' H'
 | .cont=>∃ σ' H',Inv X pins σ' H' s'∧D.ct σ' H'
 | .ret u=>∃ v σ' H',Inv X pins σ' H' s'∧RelV v u∧D.rt v H'
def PE(X:Cx)(e:Expr)(t:TE):Prop:=
 ∀ (pins:List (Addr × Obj)) (s:Shared) (σ : St) (H:Hp) (Q:VK),Inv X pins σ H s→t σ H Q→wpAny (model X.prog X.w) X.A (eval e X.env) (EP X pins σ Q) X.xe s
def PT(X:Cx)(e:Expr)(t:TT):Prop:=
 ∀ (pins:List (Addr × Obj)) (s:Shared) (σ : St) (H:Hp) (Q:Bool→Hp→Prop),Inv X pins σ H s→t σ H Q→wpAny (model X.prog X.w) X.A (isTrue e X.env (eval e X.env)) (TP X pins σ Q) X.xe s
def PW(X:Cx)(e:Expr)(t:TT):Prop:=
 ∀ (whole:Sem Value) (pins:List (Addr × Obj)) (s:Shared) (σ : St) (H:Hp) (Q:Bool→Hp→Prop),Inv X pins σ H s→t σ H Q→wpAny (model X.prog X.w) X.A (isTrue e X.env whole) (TP X pins σ Q) X.xe s
theorem PW.pt{X:Cx}{e:Expr}{t:TT}(h:PW X e t):PT X e t:=h _
def PA(X:Cx)(es:List Expr)(t:TA):Prop:=
 ∀ (pos:Pos) (pins:List (Addr × Obj)) (s:Shared) (σ : St) (H:Hp) (Q:List V→Hp→Prop),Inv X pins σ H s→t σ H Q→wpAny (model X.prog X.w) X.A (spliced (backTo pos (starEach es X.env))) (AP X pins σ Q) X.xe s
def PS(X:Cx)(st:Stmt)(t:TS):Prop:=
 ∀ (pins:List (Addr × Obj)) (s:Shared) (σ : St) (H:Hp) (D:db),Inv X pins σ H s→t D σ H→wpAny (model X.prog X.w) X.A (exec st X.env) (SP X pins D) X.xe s
def PSs(X:Cx)(st:List Stmt)(t:TS):Prop:=
 ∀ (pins:List (Addr × Obj)) (s:Shared) (σ : St) (H:Hp) (D:db),Inv X pins σ H s→t D σ H→wpAny (model X.prog X.w) X.A (execs st X.env) (SP X pins D) X.xe s
theorem bq{α : Type}{t:Sem α}{Q Q':α→Shared→Prop}{M:Model}{A:Around}{E:Value→Shared→Prop}{s:Shared}(h:wpAny M A t Q E s)(hQ:∀ a s,Q a s→Q' a s):wpAny M A t Q' E s:=wpAny_mono h hQ fun _ _ x=>x
end L2
namespace L2
open PySem PySem.Spec PyProof.Rows
section
variable{X:Cx}
def lZ(i:Nat):TE:=fun σ H Q=>∃ v,σ[i]? = some (some v)∧Q v H
def tC(v:V):TE:=fun _ H Q=>Q v H
theorem vQ{i:Nat}{x:Str}{pos:Pos}(hN:X.N[i]? = some x)(hv:au X.env.scope x)(hd:(x == ("__debug__" : Str))=false:=by decide) (hcd:(x == ("__classdict__" : Str))=false:=by decide):PE X (.Name x pos) (lZ i):=by
 intro pins s σ H Q I h
 obtain⟨v,e,h⟩:=h
 obtain⟨m,hn,hl⟩:=I.loc
 obtain⟨u,r,l⟩:=hl i x v hN e hv
 have fin:EP X pins σ Q u s:=⟨v,H,I,r,h⟩
 rcases l with ⟨hk,hm⟩ | ⟨hk,c,hc,hcell⟩
 ·exact wpAny_Name (wpAny_loadName_local I.ok.kind hk hn hm fin) hd
 ·rcases hk with hk | hk
  ·exact wpAny_Name (wpAny_loadName_cell I.ok.kind hk hc hcell fin) hd
  ·exact wpAny_Name (wpAny_loadName_free I.ok.kind hk hc hcell fin hcd) hd
theorem af{i j pos}:PE X (.Constant (.int i) j pos) (tC (.int i)):=fun _ _ _ H _ I h=>wpAny_Constant_int ⟨.int i,H,I.tok _,⟨_,rfl⟩,h⟩
theorem cO{b j pos}:PE X (.Constant (.bool b) j pos) (tC (.bl b)):=fun _ _ _ H _ I h=>Constant_bool ⟨.bl b,H,I,rfl,h⟩
theorem bZ{j pos}:PE X (.Constant .none j pos) (tC .non):=fun _ _ _ H _ I h=>Constant_none ⟨.non,H,I,rfl,h⟩
theorem dh{x j pos}:PE X (.Constant (.str x) j pos) (tC (.str x)):=fun _ _ _ H _ I h=>Calls.Constant_str ⟨.str x,H,I.tok _,⟨_,rfl⟩,h⟩
def Gl(X:Cx)(x:Str):Prop:=X.env.kindOf x=some .globalImplicit
theorem vSs{s:Stmt}{x:Str}(h:(L2.defScope s).names.lookup x=some .local):au (L2.defScope s) x:=Or.inl h
theorem vLl{s:Stmt}{x:Str}(h:(L2.defScope s).names.lookup x=some .local):bb (L2.defScope s) x:=Or.inl h
theorem vGg{s:Stmt}{x:Str}(h:(L2.defScope s).names.lookup x=some .globalImplicit):(L2.defScope s).names.lookup x=some .globalImplicit:=h
theorem fN{E:Value→Shared→Prop}{pins:List (Addr × Obj)}{s:Shared}{σ : St}{H:Hp}{x:Str}{u:Value}{pos:Pos}{Q:Value→Shared→Prop}(I:Inv X pins σ H s)(hg:Gl X x)(hm:X.mg x=some u)(h:Q u s)
  (hd:(x == ("__debug__" : Str))=false:=by decide):wpAny (model X.prog X.w) X.A (eval (.Name x pos) X.env) Q E s:=
 Calls.Name_function_global I.ok.kind hg (Calls.loadGlobal_global (by rw[I.ok.glob]; exact I.mod.glob.keeps I.bk) hm h) hd
theorem gK{E:Value→Shared→Prop}{pins:List (Addr × Obj)}{s:Shared}{σ : St}{H:Hp}{x:Str}{u:Value}{pos:Pos}{Q:Value→Shared→Prop}(I:Inv X pins σ H s)(hg:Gl X x)(hm:X.mg x=none)(hv:bootBuiltins x=some u)(h:Q u s)
  (hn:x ≠ "__name__" := by decide) (hd:(x == ("__debug__" : Str))=false:=by decide):wpAny (model X.prog X.w) X.A (eval (.Name x pos) X.env) Q E s:=by
 obtain⟨mb,h1,h2⟩:=I.mod.blt
 exact Calls.Name_function_global I.ok.kind hg (Calls.loadGlobal_builtin (by rw[I.ok.glob]; exact I.mod.glob.keeps I.bk) hm (by rw[I.ok.blt]; exact h1.keeps I.bk) ((h2 x hn).trans hv) h) hd
theorem lS{x:Str}{v:V}{u:Value}{pos:Pos}(hg:Gl X x)(hm:X.mg x=some u)(r:RelV v u)(hd:(x == ("__debug__" : Str))=false:=by decide):PE X (.Name x pos) (tC v):=
 fun _ _ _ H _ I h=>fN I hg hm ⟨v,H,I,r,h⟩ hd
theorem AC{x:Str}{v:V}{u:Value}{pos:Pos}(hg:Gl X x)(hm:X.mg x=none)(hv:bootBuiltins x=some u)(r:RelV v u)(hn:x ≠ "__name__" := by decide) (hd:(x == ("__debug__" : Str))=false:=by decide):PE X (.Name x pos) (tC v):=
 fun _ _ _ H _ I h=>gK I hg hm hv ⟨v,H,I,r,h⟩ hn hd
variable{a b:Expr}{ta tb:TE}{pos:Pos}
def tB(t:TE):TT:=fun σ H Q=>t σ H fun x H1=>∃ c,x = .bl c∧Q c H1
theorem eG{e:Expr}{t:TE}(h:PE X e t)(he:∀ whole,isTrue e X.env whole=(do let v ← whole; standAt e.pos; holding [v] (truthy v)):=by intro _; rfl):PT X e (tB t):=by
 intro pins s σ H Q I hw
 refine isTrue_plain (bq (h pins s σ H _ I hw) fun v s1 ⟨x,H1,I1,r1,q1⟩=>?_) (he _)
 obtain⟨d,rfl,q⟩:=q1
 cases r1;exact wpAny_truthy_bool ⟨H1,I1,q⟩
variable{tA tB':TT}{rest:List Expr}
def BB(t u:TT):TT:=fun σ H Q=>t σ H fun c H1=>if c=true then u σ H1 Q else Q false H1
def Ef(t u:TT):TT:=fun σ H Q=>t σ H fun c H1=>if c=true then Q true H1 else u σ H1 Q
def CC(t:TT):TT:=fun σ H Q=>t σ H fun c H1=>Q (!c) H1
theorem il(ha:PT X a tA):PW X (.BoolOp .And [a] pos) tA:=by
 intro wh pins s σ H Q I h
 refine isTrue_and (bq (ha pins s σ H Q I h) fun c s1 e=>?_)
 cases c with
 | true=>exact isTrue_and_nil e
 | false=>exact e
theorem f_(ha:PT X a tA):PW X (.BoolOp .Or [a] pos) tA:=by
 intro wh pins s σ H Q I h
 refine isTrue_or (bq (ha pins s σ H Q I h) fun c s1 e=>?_)
 cases c with
 | false=>exact isTrue_or_nil e
 | true=>exact e
theorem jc(ha:PT X a tA)(hb:PW X (.BoolOp .And (b::rest) pos) tB'):PW X (.BoolOp .And (a::b::rest) pos) (BB tA tB'):=by
 intro wh pins s σ H Q I h
 refine isTrue_and (bq (ha pins s σ H _ I h) fun c s1 ⟨H1,I1,q1⟩=>?_)
 cases c with
 | true=>exact hb wh pins s1 σ H1 Q I1 q1
 | false=>exact⟨H1,I1,q1⟩
theorem fo(ha:PT X a tA)(hb:PW X (.BoolOp .Or (b::rest) pos) tB'):PW X (.BoolOp .Or (a::b::rest) pos) (Ef tA tB'):=by
 intro wh pins s σ H Q I h
 refine isTrue_or (bq (ha pins s σ H _ I h) fun c s1 ⟨H1,I1,q1⟩=>?_)
 cases c with
 | true=>exact⟨H1,I1,q1⟩
 | false=>exact hb wh pins s1 σ H1 Q I1 q1
theorem pI(ha:PT X a tA):PT X (.UnaryOp .Not a pos) (CC tA):=by
 intro pins s σ H Q I h
 exact isTrue_not (ha pins s σ H (fun c H1=>Q (!c) H1) I h)
def Ar(ta tb:TE):TE:=fun σ H Q=>ta σ H fun x H1=>∃ c,x = .bl c∧if c=true then tb σ H1 Q else Q (.bl false) H1
def CG(ta tb:TE):TE:=fun σ H Q=>ta σ H fun x H1=>∃ c,x = .bl c∧if c=true then Q (.bl true) H1 else tb σ H1 Q
def zZ(ta:TE):TE:=fun σ H Q=>ta σ H fun x H1=>∃ c,x = .bl c∧Q (.bl (!c)) H1
theorem oF{op}{t:TE}(h:PE X a t):PE X (.BoolOp op [a] pos) t:=fun pins s σ H Q I hw=>BoolOp_one (h pins s σ H Q I hw)
theorem Cg(ha:PE X a ta)(hb:PE X (.BoolOp .And (b::rest) pos) tb):PE X (.BoolOp .And (a::b::rest) pos) (Ar ta tb):=by
 intro pins s σ H Q I h
 refine BoolOp_and (bq (ha pins s σ H _ I h) fun v s1 ⟨x,H1,I1,r1,q1⟩=>?_)
 obtain⟨c,rfl,q1⟩:=q1
 cases r1;refine wpAny_truthy_bool ?_
 cases c with
 | true=>exact hb pins s1 σ H1 Q I1 q1
 | false=>exact⟨.bl false,H1,I1,rfl,q1⟩
theorem zO(ha:PE X a ta)(hb:PE X (.BoolOp .Or (b::rest) pos) tb):PE X (.BoolOp .Or (a::b::rest) pos) (CG ta tb):=by
 intro pins s σ H Q I h
 refine BoolOp_or (bq (ha pins s σ H _ I h) fun v s1 ⟨x,H1,I1,r1,q1⟩=>?_)
 obtain⟨c,rfl,q1⟩:=q1
 cases r1;refine wpAny_truthy_bool ?_
 cases c with
 | false=>exact hb pins s1 σ H1 Q I1 q1
 | true=>exact⟨.bl true,H1,I1,rfl,q1⟩
theorem wg(ha:PE X a ta):PE X (.UnaryOp .Not a pos) (zZ ta):=by
 intro pins s σ H Q I h
 refine UnaryOp_ (bq (ha pins s σ H _ I h) fun v s1 ⟨x,H1,I1,r1,q1⟩=>?_)
 obtain⟨c,rfl,q1⟩:=q1
 cases r1;exact not_of (wpAny_truthy_bool ⟨.bl (!c),H1,I1,rfl,q1⟩)
def Ed(t:TT)(ta tb:TE):TE:=fun σ H Q=>t σ H fun c H1=>if c=true then ta σ H1 Q else tb σ H1 Q
theorem qN{c:Expr}(hc:PT X c tA)(ha:PE X a ta)(hb:PE X b tb):PE X (.IfExp c a b pos) (Ed tA ta tb):=by
 intro pins s σ H Q I h
 refine wpAny_IfExp (bq (hc pins s σ H _ I h) fun d s1 ⟨H1,I1,q1⟩=>?_)
 cases d with
 | true=>exact ha pins s1 σ H1 Q I1 q1
 | false=>exact hb pins s1 σ H1 Q I1 q1
end
end L2
namespace L2
open PySem PySem.Spec PyProof.Rows
def SqL(K:PySem.W.Frag)(H:Hp)(a:Addr)(xs:List V):Prop:=
 Rd H a (.lst xs)∨
  ∃ (o:Obj) (its:Array Value) (n:Nat),K.lookup a=some o∧o.cls = .type "list" ∧ o.dict=none∧o.data = .seq its n∧its.size≤sizeLine∧Vals xs its.toList
def SqT(K:PySem.W.Frag)(H:Hp)(a:Addr)(xs:List V):Prop:=
 Rd H a (.tup xs)∨
  ∃ (o:Obj) (its:Array Value) (n:Nat),K.lookup a=some o∧o.cls = .type "tuple" ∧ o.data = .seq its n∧its.size≤sizeLine∧Vals xs its.toList
def Fq:Value→Option V
 | .none=>some .non
 | .bool b=>some (.bl b)
 | .int i _=>some (.int i)
 | .str x _=>some (.str x)
 | .bytes b _=>some (.byt b)
 | .float b _=>some (.flt b)
 | .ref a=>some (.ref a)
 | .type n=>some (.ty n)
 | _=>none
theorem RelV.abs{x:V}{u:Value}(r:RelV x u):Fq u=some x:=by
 cases x with
 | non=>cases r; rfl
 | bl _=>cases r; rfl
 | int _=>obtain⟨t,rfl⟩:=r; rfl
 | str _=>obtain⟨t,rfl⟩:=r; rfl
 | byt _=>obtain⟨t,rfl⟩:=r; rfl
 | flt _=>obtain⟨t,rfl⟩:=r; rfl
 | ref _=>cases r; rfl
 | ty _=>cases r; rfl
theorem RelV.inj{x y:V}{u:Value}(r:RelV x u)(q:RelV y u):x=y:=Option.some.inj (r.abs.symm.trans q.abs)
theorem Vals.inj:∀ {xs ys:List V} {us:List Value},Vals xs us→Vals ys us→xs=ys
 | _,_,_,.nil,.nil=>rfl
 | _,_,_,.cons r t,.cons r' t'=>by rw[r.inj r',Vals.inj t t']
section
variable{X:Cx}{pins:List (Addr × Obj)}{σ : St}{H:Hp}{s:Shared}{a:Addr}{xs ys:List V}
theorem SqL.of{K:PySem.W.Frag}(h:H a=some (.lst xs)):SqL K H a xs:=.inl (.inl h)
theorem SqT.of{K:PySem.W.Frag}(h:H a=some (.tup xs)):SqT K H a xs:=.inl (.inl h)
theorem Inv.list(I:Inv X pins σ H s)(h:SqL X.K H a xs):∃ its:List Value,Vals xs its∧PlainL s.heap a its.toArray∧xs.length≤sizeLine:=by
 rcases h with h | ⟨o,its,n,hk,hc,hd,hs,hz,r⟩
 ·obtain⟨z,its,n,r,e⟩:=h.ok I.hok
  exact⟨its,r,⟨_,n,e,rfl,rfl,rfl⟩,z⟩
 ·refine⟨its.toList,r,⟨o,n,I.kIn a o hk,hc,hd,by simpa using hs⟩,?_⟩
  have e:=r.length;simp only[Array.length_toList]at e
  omega
theorem Inv.tuple(I:Inv X pins σ H s)(h:SqT X.K H a xs):∃ its:List Value,Vals xs its∧IsTup s.heap a its.toArray∧xs.length≤sizeLine:=by
 rcases h with h | ⟨o,its,n,hk,hc,hs,hz,r⟩
 ·obtain⟨z,its,r,p⟩:=h.ok I.hok
  exact⟨its,r,p.tup,z⟩
 ·refine⟨its.toList,r,⟨o,I.kIn a o hk,hc,n,by simpa using hs⟩,?_⟩
  have e:=r.length;simp only[Array.length_toList]at e
  omega
theorem Inv.list_inj(I:Inv X pins σ H s)(h:SqL X.K H a xs)(h':SqL X.K H a ys):xs=ys:=by
 obtain⟨its,r,⟨o,n,e,_,_,d⟩,_⟩:=I.list h
 obtain⟨its',r',⟨o',n',e',_,_,d'⟩,_⟩:=I.list h'
 rw[e]at e'; cases e'
 rw[d]at d'
 injection d' with d1 _
 have:its=its':=by simpa using congrArg Array.toList d1
 subst this;exact r.inj r'
theorem Inv.tuple_inj(I:Inv X pins σ H s)(h:SqT X.K H a xs)(h':SqT X.K H a ys):xs=ys:=by
 obtain⟨its,r,⟨o,e,_,n,d⟩,_⟩:=I.tuple h
 obtain⟨its',r',⟨o',e',_,n',d'⟩,_⟩:=I.tuple h'
 rw[e]at e'; cases e'
 rw[d]at d'
 injection d' with d1 _
 have:its=its':=by simpa using congrArg Array.toList d1
 subst this;exact r.inj r'
end
abbrev Cx.wish (X:Cx) (E:Value→Shared→Prop):Cx:={ X with xe:=E }
abbrev Cx.nox (X:Cx):Cx:=X.wish fun _ _=>False
theorem Cx.Ok.wish{X:Cx}(ok:X.Ok)(E:Value→Shared→Prop):(X.wish E).Ok:=
 ⟨ok.mod,ok.kind,ok.glob,ok.blt,ok.above,ok.inj,ok.has,ok.cab,ok.hd,ok.frames,ok.stk,ok.exf,ok.bs,ok.bsz,ok.noex,ok.exfs,ok.funs,ok.frf⟩
theorem Cx.Ok.unwish{X:Cx}{E:Value→Shared→Prop}(ok:(X.wish E).Ok):X.Ok:=
 ⟨ok.mod,ok.kind,ok.glob,ok.blt,ok.above,ok.inj,ok.has,ok.cab,ok.hd,ok.frames,ok.stk,ok.exf,ok.bs,ok.bsz,ok.noex,ok.exfs,ok.funs,ok.frf⟩
section
variable{X:Cx}{pins:List (Addr × Obj)}{σ : St}{H:Hp}{s:Shared}{E:Value→Shared→Prop}
theorem Inv.wish(I:Inv X pins σ H s)(E:Value→Shared→Prop):Inv (X.wish E) pins σ H s:=⟨I.ok.wish E,I.os,I.bare,I.base,I.loc,I.cell,I.free,I.freeC,I.pin,I.hok,I.len⟩
theorem Inv.unwish(I:Inv (X.wish E) pins σ H s):Inv X pins σ H s:=⟨I.ok.unwish,I.os,I.bare,I.base,I.loc,I.cell,I.free,I.freeC,I.pin,I.hok,I.len⟩
theorem SP.unwish{D:db}{f:Flow}{s':Shared}(h:SP (X.wish E) pins D f s'):SP X pins D f s':=by
 cases f with
 | next=>obtain⟨σ',H',I,q⟩:=h; exact⟨σ',H',I.unwish,q⟩
 | brk=>obtain⟨σ',H',I,q⟩:=h; exact⟨σ',H',I.unwish,q⟩
 | cont=>obtain⟨σ',H',I,q⟩:=h; exact⟨σ',H',I.unwish,q⟩
 | ret u=>obtain⟨v,σ',H',I,r,q⟩:=h; exact⟨v,σ',H',I.unwish,r,q⟩
theorem PSs.nox{st:List Stmt}{t:TS}(h:PSs X.nox st t):PSs X st t:=fun pins s σ H D I hw=>
 wpAny_mono (h pins s σ H D (I.wish _) hw) (fun _ _ q=>q.unwish) fun _ _ z=>False.elim z
end
section
variable{X:Cx}{st:Stmt}{rest:List Stmt}{t u:TS}{e:Expr}{te:TE}{pos:Pos}
def zQ:TS:=fun D σ H=>D.nx σ H
def yy(t u:TS):TS:=fun D σ H=>t { D with nx:=u D } σ H
theorem bv:PSs X [] zQ:=fun _ _ σ H _ I h=>wpAny_execs_nil ⟨σ,H,I,h⟩
theorem ah(h1:PS X st t)(h2:PSs X rest u):PSs X (st::rest) (yy t u):=by
 intro pins s σ H D I h
 refine wpAny_execs_cons (bq (h1 pins s σ H { D with nx:=u D } I h) fun f s1 q=>?_)
 cases f with
 | next=>
  obtain⟨σ',H',I',q⟩:=q
  exact h2 pins s1 σ' H' D I' q
 | ret v=>exact q
 | brk=>exact q
 | cont=>exact q
theorem aj(h1:PS X st t):PSs X [st] t:=by
 intro pins s σ H D I h
 refine wpAny_execs_cons (bq (h1 pins s σ H D I h) fun f s1 q=>?_)
 cases f with
 | next=>exact wpAny_execs_nil q
 | ret v=>exact q
 | brk=>exact q
 | cont=>exact q
def Af:TS:=fun D σ H=>D.ct σ H
theorem rM:PS X (.Continue pos) Af:=fun _ _ σ H _ I h=>wpAny_Continue ⟨σ,H,I,h⟩
theorem Inv.quiet{pins:List (Addr × Obj)}{σ : St}{H:Hp}{s:Shared}(I:Inv X pins σ H s):interactive X.env=false:=by simp[interactive,I.ok.kind]
def ub(te:TE):TS:=fun D σ H=>te σ H fun _ H1=>D.nx σ H1
theorem cM(he:PE X e te)(hs:swapsWith e none pos.line X.env=pure false:=by rfl):PS X (.Expr e pos) (ub te):=by
 intro pins s σ H D I h
 exact wpAny_Expr_any (bq (he pins s σ H _ I h) fun v s1 ⟨x,H1,I1,r1,q1⟩=>⟨σ,H1,I1,q1⟩) I.quiet hs
def C1(te:TE):TS:=fun D σ H=>te σ H D.rt
theorem aN(he:PE X e te):PS X (.Return (some e) pos) (C1 te):=by
 intro pins s σ H D I h
 exact wpAny_Return_some (bq (he pins s σ H _ I h) fun v s1 ⟨x,H1,I1,r1,q1⟩=>⟨x,σ,H1,I1,r1,q1⟩)
def yG(c:TT)(t u:TS):TS:=fun D σ H=>c σ H fun b H1=>if b=true then t D σ H1 else u D σ H1
theorem bT{c:Expr}{a b:List Stmt}{tc:TT}(hc:PT X c tc)(ha:PSs X a t)(hb:PSs X b u):PS X (.If c a b pos) (yG tc t u):=by
 intro pins s σ H D I h
 refine wpAny_If (bq (hc pins s σ H _ I h) fun d s1 ⟨H1,I1,q1⟩=>?_)
 cases d with
 | true=>exact ha pins s1 σ H1 D I1 q1
 | false=>exact hb pins s1 σ H1 D I1 q1
def BS:TS:=fun _ _ _=>False
theorem vV{sts:List Stmt}:PSs X sts BS:=fun _ _ _ _ _ _ h=>h.elim
end
abbrev TG:=V→St→Hp→(St→Hp→Prop)→Prop
abbrev gO:=List V→St→Hp→(St→Hp→Prop)→Prop
def PG(X:Cx)(target:Expr)(t:TG):Prop:=
 ∀ (pins:List (Addr × Obj)) (s:Shared) (σ : St) (H:Hp) (v:V) (u:Value) (Q:St→Hp→Prop),Inv X pins σ H s→RelV v u→t v σ H Q→
  wpAny (model X.prog X.w) X.A (assign target X.env u) (fun _ s'=>∃ σ' H',Inv X pins σ' H' s'∧Q σ' H') X.xe s
def PGs(X:Cx)(ts:List Expr)(t:gO):Prop:=
 ∀ (pins:List (Addr × Obj)) (s:Shared) (σ : St) (H:Hp) (vs:List V) (us:List Value) (Q:St→Hp→Prop),Inv X pins σ H s→Vals vs us→t vs σ H Q→
  wpAny (model X.prog X.w) X.A (assignInOrder ((assignEach ts X.env).map (·.2)) us) (fun _ s'=>∃ σ' H',Inv X pins σ' H' s'∧Q σ' H') X.xe s
abbrev jg:=V→V→V→Hp→(Hp→Prop)→Prop
def PSet(X:Cx)(t:jg):Prop:=
 ∀ (pins:List (Addr × Obj)) (s:Shared) (σ : St) (H:Hp) (o i v:V) (ov iv u:Value) (Q:Hp→Prop),Inv X pins σ H s→RelV o ov→RelV i iv→RelV v u→t o i v H Q→
  wpAny (model X.prog X.w) X.A (setItem ov iv u) (fun _ s'=>∃ H',Inv X pins σ H' s'∧Q H') X.xe s
section
variable{X:Cx}{pos:Pos}
def gw(i:Nat):TG:=fun v σ H Q=>Q (σ.set i (some v)) H
theorem Bc{i:Nat}{x:Str}(hN:X.N.Nodup)(hi:X.N[i]? = some x)(hx:bb X.env.scope x)(hf:X.fn x=true∨X.env.scope.names.lookup x=some .local:=by first | exact .inl rfl | exact .inr rfl | assumption):PG X (.Name x pos) (gw i):=by
 intro pins s σ H v u Q I r h
 exact wpAny_assign_Name (iZ I hN hi hx r (fun s' I'=>⟨_,H,I',h⟩) hf)
def t9:gO:=fun vs σ H Q=>vs=[]∧Q σ H
def oC(t:TG)(u:gO):gO:=fun vs σ H Q=>∃ v r,vs=v::r∧t v σ H fun σ' H'=>u r σ' H' Q
theorem gI:PGs X [] t9:=by
 intro pins s σ H vs us Q I r h
 obtain⟨e,h⟩:=h
 subst e
 cases r;exact assignInOrder_nil ⟨σ,H,I,h⟩
theorem cQ{e:Expr}{es:List Expr}{t:TG}{u:gO}(h1:PG X e t)(h2:PGs X es u)
  (hs:(assignEach (e::es) X.env).map (·.2)=assign e X.env::(assignEach es X.env).map (·.2):=by rfl):PGs X (e::es) (oC t u):=by
 intro pins s σ H vs us Q I r h
 obtain⟨v,vr,e1,h⟩:=h
 subst e1
 cases r with
 | cons r rr=>
  rw[hs];refine assignInOrder_cons (bq (h1 pins s σ H _ _ _ I r h) fun _ s1 ⟨σ1,H1,I1,q1⟩=>?_)
  exact h2 pins s1 σ1 H1 _ _ Q I1 rr q1
def uw(K:PySem.W.Frag)(n:Nat)(t:gO):TG:=fun v σ H Q=>∃ a xs,v = .ref a∧SqT K H a xs∧xs.length=n∧t xs σ H Q
theorem B_{es:List Expr}{k:Nat}{t:gO}{n:Nat}(hc:X.calm=true)(h:PGs X es t)
  (hn:(assignEach es X.env).length=n:=by rfl) (hst:(assignEach es X.env).findIdx? (·.1)=none:=by rfl):PG X (.Tuple es k pos) (uw X.K n t):=by
 intro pins s σ H v u Q I r hw
 obtain⟨a,xs,e1,hq,hl,hw⟩:=hw
 subst e1
 cases r;obtain⟨its,rv,ht,hz⟩:=I.tuple hq
 refine assign_Tuple_tuple (I.ok.hd hc) ht (by simp[hn,← hl,rv.length]) hst fun h' hx=>?_
 have I1:Inv X pins σ H { s with heap:=h' }:=I.kept (t':=s.toks) fun b o e=>hx b o (Nat.ne_of_lt (Heap.lt_size e)) e
 exact h pins _ σ H xs _ Q I1 (by simpa using rv) hw
def CO(to ti:TE)(t:jg):TG:=fun v σ H Q=>to σ H fun o H1=>ti σ H1 fun i H2=>t o i v H2 fun H3=>Q σ H3
theorem fq{o i:Expr}{to ti:TE}{t:jg}(ho:PE X o to)(hi:PE X i ti)(hs:PSet X t)
  (ha:∀ v,assign (.Subscript o i pos) X.env v=(do
   let ov ← holding [v] (eval o X.env)
   let iv ← holding [v,ov] (eval i X.env)
   standAt pos
   holding [v,ov,iv] (setItem ov iv v)
   release [v,ov,iv] []):=by intro _; rfl):PG X (.Subscript o i pos) (CO to ti t):=by
 intro pins s σ H v u Q I r h
 rw[ha];refine wpAny_bind (wpAny_holding (bq (ho pins s σ H _ I h) fun ov s1 ⟨x,H1,I1,r1,q1⟩=>?_))
 refine wpAny_bind (wpAny_holding (bq (hi pins s1 σ H1 _ I1 q1) fun iv s2 ⟨y,H2,I2,r2,q2⟩=>?_))
 refine wpAny_bind (wpAny_standAt (wpAny_bind (wpAny_holding (bq (hs pins s2 σ H2 x y v ov iv u _ I2 r1 r2 r q2) fun _ s3 ⟨H3,I3,q3⟩=>?_))))
 exact wpAny_release ⟨σ,H3,I3,q3⟩
def mH(te:TE)(g:TG):TS:=fun D σ H=>te σ H fun x H1=>g x σ H1 D.nx
theorem fg{tg e:Expr}{te:TE}{g:TG}(he:PE X e te)(hg:PG X tg g)(hs:swapsWithSole [tg] e pos.line X.env=pure false:=by rfl)(hw:swappedStores [tg] e X.env=pure none:=by rfl)
  (h1:(assignEach [tg] X.env).map (·.2)=[assign tg X.env]:=by rfl):PS X (.Assign [tg] e pos) (mH te g):=by
 intro pins s σ H D I h
 refine wpAny_Assign_stores (bq (he pins s σ H _ I h) fun v s1 ⟨x,H1,I1,r1,q1⟩=>?_) hs hw
 rw[h1];exact bq (hg pins s1 σ H1 x v _ I1 r1 q1) fun _ s2 q=>q
theorem BD{i:Nat}{x:Str}{e:Expr}{te:TE}{pos':Pos}(hN:X.N.Nodup)(hi:X.N[i]? = some x)(hx:bb X.env.scope x)(he:PE X e te)(hs:swapsWith e (some (.Name x pos')) pos.line X.env=pure false:=by rfl)(hf:X.fn x=true∨X.env.scope.names.lookup x=some .local:=by first | exact .inl rfl | exact .inr rfl | assumption) :
  PS X (.Assign [.Name x pos'] e pos) (mH te (gw i)):=by
 intro pins s σ H D I h
 refine wpAny_Assign_Name (bq (he pins s σ H _ I h) fun v s1 ⟨y,H1,I1,r1,q1⟩=>?_) hs
 exact iZ I1 hN hi hx r1 (fun s2 I2=>⟨_,H1,I2,q1⟩) hf
end
section
variable{X:Cx}{pos:Pos}
def BV(c:TT)(tb:TS):TS:=fun D σ H=>∃ W:Nat→St→Hp→Prop,(∃ m,W m σ H)∧∀ m σ H,W m σ H→
 c σ H fun b H1=>if b=true then ∃ N:St→Hp→Prop,(∀ σ' H',N σ' H'→∃ m',m'<m∧W m' σ' H')∧tb { D with nx:=N,ct:=N,bk:=D.nx } σ H1 else D.nx σ H1
theorem kE{c:Expr}{body:List Stmt}{tc:TT}{tb:TS}(hp:PassesOwn (model X.prog X.w) X.A X.env X.xe)(hc:PT X c tc)(hb:PSs X body tb):PS X (.While c body [] pos) (BV tc tb):=by
 intro pins s σ H D I h
 obtain⟨W,⟨m0,w0⟩,turn⟩:=h
 refine wpAny_While (codeAny_whileLoop (fun n s'=>∃ σ' H',Inv X pins σ' H' s'∧W n σ' H') ?_ m0 ⟨σ,H,I,w0⟩)
 rintro n s1 ⟨σ1,H1,I1,w1⟩
 refine wpAny_passesOwn hp (bq (hc pins s1 σ1 H1 _ I1 (turn n σ1 H1 w1)) fun b s2 ⟨H2,I2,q2⟩=>?_)
 cases b with
 | true=>
  obtain⟨N,hN,q2⟩:=q2
  rw[if_pos rfl];refine wpAny_passesOwn hp (bq (hb pins s2 σ1 H2 _ I2 q2) fun f s3 q3=>?_)
  cases f with
  | next=>
   obtain⟨σ3,H3,I3,n3⟩:=q3
   obtain⟨m',hm,w3⟩:=hN σ3 H3 n3
   exact⟨m',hm,σ3,H3,I3,w3⟩
  | cont=>
   obtain⟨σ3,H3,I3,n3⟩:=q3
   obtain⟨m',hm,w3⟩:=hN σ3 H3 n3
   exact⟨m',hm,σ3,H3,I3,w3⟩
  | brk=>exact q3
  | ret v=>exact q3
 | false=>
  rw[if_neg Bool.false_ne_true];exact wpAny_execs_nil ⟨σ1,H2,I2,q2⟩
end
set_option genInjectivity false in
set_option genSizeOf false in
structure It where
 go:Nat→Hp→Prop
 yld:Nat→Hp→V→Hp→Prop
 stop:Nat→Hp→Prop
def ii(X:Cx)(pins:List (Addr × Obj))(H:Hp)(b:Addr):Prop:=
 H b=none∧b≠X.env.locals∧b∉X.fs∧(b∈X.ex∨X.s₀.heap.objs.size≤b)∧(∀ x c,X.env.cells.lookup x=some c→c≠b)∧∀ p∈X.pn++pins,p.1≠b
theorem Inv.fpOk{X:Cx}{pins:List (Addr × Obj)}{σ : St}{H H':Hp}{s:Shared}{b:Addr}(I:Inv X pins σ H s)(hb:s.heap.objs.size≤b)(hn:H' b=none):ii X pins H' b:=by
 refine⟨hn,Nat.ne_of_gt (Nat.lt_of_lt_of_le I.lt hb),I.nofs hb,.inr (Nat.le_trans I.sz hb),fun x c e z=>?_,fun p hp z=>?_⟩
 ·obtain⟨v,q⟩:=I.cell x c e
  exact absurd (Nat.lt_of_lt_of_le q.lt (by rw[z]; exact hb)) (Nat.lt_irrefl _)
 ·exact absurd (Nat.lt_of_lt_of_le (Heap.lt_size (I.pin p hp).1) (by rw[z]; exact hb)) (Nat.lt_irrefl _)
structure oT (P:Program) (w:World) (K:PySem.W.Frag) (tg:Expr) (J:It) (fp:List Addr) (it:Addr) (tn:Nat→Heap→Prop):Prop where
 mem:it∈fp
 obj:∀ i h,tn i h→∀ b∈fp,∃ o,h.get? b=some o∧∀ v,o.data ≠ .cell v
 keep:∀ i h h',tn i h→(∀ b∈fp,∀ o,h.get? b=some o→h'.get? b=some o)→tn i h'
 item:∀ (X:Cx),X.prog=P→X.w=w→X.K=K→X.calm=true→∀ (i:Nat) (pins:List (Addr × Obj)) (s:Shared) (σ : St) (H:Hp) (E:Value→Shared→Prop),Inv X pins σ H s→(∀ b∈fp,ii X pins H b)→tn i s.heap→J.go i H→
  wpAny (model P w) X.A (pyNext (.ref it)) (fun r s1=>∃ u,r=some u∧
   wpAny (model P w) X.A (letOwnedTupleGo tg (.ref it) u) (fun _ s2=>∃ x H',Inv X pins σ H' s2∧RelV x u∧J.yld i H x H'∧tn (i+1) s2.heap∧∀ b∈fp,H' b=none) E s1) E s
 done:∀ (X:Cx),X.prog=P→X.w=w→X.K=K→X.calm=true→∀ (i:Nat) (pins:List (Addr × Obj)) (s:Shared) (σ : St) (H:Hp) (E:Value→Shared→Prop),Inv X pins σ H s→(∀ b∈fp,ii X pins H b)→tn i s.heap→J.stop i H→
  wpAny (model P w) X.A (pyNext (.ref it)) (fun r s1=>r=none∧Inv X pins σ H s1) E s
 self:∀ (A:Around) (i:Nat) (s:Shared) (Q:Value→Shared→Prop) (E:Value→Shared→Prop),tn i s.heap→Q (.ref it) s→wpAny (model P w) A (pyIter (.ref it)) Q E s
abbrev TI:=St→Hp→(It→Hp→Prop)→Prop
def Es(X:Cx)(pins:List (Addr × Obj))(σ : St)(tg:Expr)(R:It→Hp→Prop)(itv:Value)(s2:Shared):Prop:=
 ∃ (it:Addr) (fp:List Addr) (tn:Nat→Heap→Prop) (J:It) (H':Hp),itv = .ref it∧Inv X pins σ H' s2∧oT X.prog X.w X.K tg J fp it tn∧tn 0 s2.heap∧(∀ b∈fp,ii X pins H' b)∧R J H'
def PI(X:Cx)(tg iter:Expr)(wi:TI):Prop:=
 ∀ (pins:List (Addr × Obj)) (s:Shared) (σ : St) (H:Hp) (R:It→Hp→Prop),Inv X pins σ H s→wi σ H R→
  wpAny (model X.prog X.w) X.A (eval iter X.env) (fun v s1=>wpAny (model X.prog X.w) X.A (pyIter v) (Es X pins σ tg R) X.xe s1) X.xe s
theorem zW{M:Model}{A:Around}{E:Value→Shared→Prop}{s:Shared}{tg:Expr}{it:Addr}{u:Value}{o:Obj}{n:String}{vs:Array Value}{Q:Unit→Shared→Prop}(ho:s.heap.get? it=some o)(hc:o.cls = .type n)(hd:o.data = .fields vs)
    (hn:["enumerate", "zip", "dict_itemiterator", "dict_reverseitemiterator", "odict_iterator", "itertools.zip_longest", "itertools.pairwise"].contains n=false) (hQ:Q () s):wpAny M A (letOwnedTupleGo tg (.ref it) u) Q E s:=by
  unfold letOwnedTupleGo
  cases tg <;> first
    | exact wpAny_pure hQ
    | (cases u <;> first
        | exact wpAny_pure hQ
        | (refine wpAny_bind (wpAny_load ho ?_)
           rw[hc,hd];show wpAny M A (if (["enumerate", "zip", "dict_itemiterator", "dict_reverseitemiterator", "odict_iterator", "itertools.zip_longest", "itertools.pairwise"].contains n&&vs[0]? == some (rawInt _))=true then _ else _) Q E s
           rw[if_neg (by intro h; rw[hn,Bool.false_and]at h; cases h)]
           exact wpAny_pure hQ))
def m5(K:PySem.W.Frag)(a:Addr):It:=
 ⟨fun i H=>∃ xs x,SqL K H a xs∧xs[i]? = some x,fun i H x H'=>H'=H∧∀ xs,SqL K H a xs→xs[i]? = some x,fun i H=>∃ xs,SqL K H a xs∧xs.length≤i⟩
def lz(lo:Int)(n:Nat):It:=⟨fun i _=>i<n,fun i H x H'=>H'=H∧x = .int (lo+i),fun i _=>n≤i⟩
theorem xg{P:Program}{w:World}{K:PySem.W.Frag}{tg:Expr}(a it:Addr):oT P w K tg (m5 K a) [it] it (fun i h=>h.IsListIter it a i) where
 mem:=by simp
 obj:=fun i h st b hb=>by
  have e:b=it:=by simpa using hb
  subst e;obtain⟨o,e,c,d⟩:=st
  exact⟨o,e,fun v z=>by rw[d]at z; cases z⟩
 keep:=fun i h h' st k=>st.at fun o e=>k it (by simp) o e
 item:=by
  intro X hP hw hK hc i pins s σ H E I hf st hg
  subst hP hw hK;obtain⟨xs,x,hq,hx⟩:=hg
  obtain⟨its,rv,p,hz⟩:=I.list hq
  obtain⟨u,hu,ru⟩:=rv.get hx
  obtain⟨f0,f1,f2,f3,f4,f5⟩:=hf it (by simp)
  refine wpAny_pyNext_list_item st p.isList (x:=u) (by simpa using hu) fun h' st' sb=>?_
  have I1:Inv X pins σ H { s with heap:=h' }:=I.turned (t':=s.toks) (fun b o hb e=>(sb.2 b hb).trans e) f0 f1 f3 f4 f5
  obtain⟨o,e,c,d⟩:=id st'
  exact⟨u,rfl,zW (s:={ s with heap:=h' }) e c d (by decide) ⟨x,H,I1,ru,⟨rfl,fun ys hy=>by rw[I.list_inj hy hq]; exact hx⟩,st',fun b hb=>(hf b hb).1⟩⟩
 done:=by
  intro X hP hw hK hc i pins s σ H E I hf st hg
  subst hP hw hK;obtain⟨xs,hq,hx⟩:=hg
  obtain⟨its,rv,p,hz⟩:=I.list hq
  obtain⟨f0,f1,f2,f3,f4,f5⟩:=hf it (by simp)
  have hl:=rv.length;exact wpAny_pyNext_list_end (I.ok.hd hc) st p.isList (by simp; omega) fun h' eb=>⟨rfl,I.turned (t':=s.toks) (fun b o hb e=>eb b o hb e) f0 f1 f3 f4 f5⟩
 self:=fun _ _ _ _ _ st h=>wpAny_pyIter_listiter st h
theorem u_{P:Program}{w:World}{K:PySem.W.Frag}{tg:Expr}(it:Addr)(lo:Int)(n:Nat):oT P w K tg (lz lo n) [it] it (fun i h=>IsRangeIter h it (lo+(i:Nat) * 1) ((n:Int) - (i:Nat)) 1) where
 mem:=by simp
 obj:=fun i h st b hb=>by
  have e:b=it:=by simpa using hb
  subst e
  exact⟨_,st,fun v z=>by
   have z':Data.fields _=Data.cell v:=z
   cases z'⟩
 keep:=fun i h h' st k=>k it (by simp) _ st
 item:=by
  intro X hP hw hK hc i pins s σ H E I hf st hg
  subst hP hw hK;obtain⟨f0,f1,f2,f3,f4,f5⟩:=hf it (by simp)
  have W:=Walks.range (prog:=X.prog) (w:=X.w) (I.ok.hd hc) it lo 1 n;refine W.item i s _ _ hg st fun v h' tk hv st' kk=>?_
  obtain⟨t,rfl⟩:=hv
  have I1:Inv X pins σ H { s with heap:=h',toks:=tk }:=I.turned (fun b o hb e=>kk b o (by simpa using hb) e) f0 f1 f3 f4 f5
  refine⟨_,rfl,zW (s:={ s with heap:=h',toks:=tk }) (n := "range_iterator") st' rfl rfl (by decide) ⟨.int (lo+i),H,I1,⟨t,?_⟩,⟨rfl,rfl⟩,st',fun b hb=>(hf b hb).1⟩⟩
  rw[Int.mul_one]
 done:=by
  intro X hP hw hK hc i pins s σ H E I hf st hg
  subst hP hw hK;obtain⟨f0,f1,f2,f3,f4,f5⟩:=hf it (by simp)
  exact wpAny_pyNext_range_end (I.ok.hd hc) st (by have:n≤i:=hg; omega) fun h' eb=>⟨rfl,I.turned (t':=s.toks) (fun b o hb e=>eb b o hb e) f0 f1 f3 f4 f5⟩
 self:=fun _ _ _ _ _ st h=>wpAny_pyIter_rangeiter st h
end L2
namespace L2
open PySem PySem.Spec PyProof.Rows
section
variable{X:Cx}{tg:Expr}
def uB(K:PySem.W.Frag)(tl:TE):TI:=fun σ H R=>tl σ H fun x H1=>∃ a,x = .ref a∧(∃ xs,SqL K H1 a xs)∧R (m5 K a) H1
theorem Bd{l:Expr}{tl:TE}(hl:PE X l tl):PI X tg l (uB X.K tl):=by
 intro pins s σ H R I h
 refine bq (hl pins s σ H _ I h) fun v s1 ⟨x,H1,I1,r1,q1⟩=>?_
 obtain⟨a,e,⟨xs,hq⟩,q⟩:=q1
 subst e
 cases r1;obtain⟨its,rv,p,hz⟩:=I1.list hq
 refine wpAny_pyIter_list p.isList ?_
 refine⟨s1.heap.objs.size,[s1.heap.objs.size],_,_,H1,rfl,I1.kept (t':=s1.toks) fun b o e=>Heap.get?_push_of_some _ e,xg a _,⟨_,Heap.get?_push_size _ rfl,rfl,rfl⟩,fun b hb=>?_,q⟩
 have e:b=s1.heap.objs.size:=by simpa using hb
 subst e;exact I1.fpOk (Nat.le_refl _) (I1.hok.fresh (Nat.le_refl _))
theorem yv{pins:List (Addr × Obj)}{σ : St}{H:Hp}{s:Shared}{R:It→Hp→Prop}{E:Value→Shared→Prop}{lo hi:Int}{t u v:Tok}{tk:Nat}(I:Inv X pins σ H s)(h1:-(2 ^ 62)≤lo)(h2:lo<2 ^ 62)(h3:-(2 ^ 62)≤hi)(h4:hi<2 ^ 62)
  (q:R (lz lo (hi - lo).toNat) H):wpAny (model X.prog X.w) X.A (pyIter (.ref s.heap.objs.size)) (Es X pins σ tg R) E { s with heap:=s.heap.push { cls:=.type "range", data:=.fields #[.int lo t,.int hi u,.int 1 v] },toks:=tk }:=by
 refine wpAny_pyIter_range (IsRange.new ..) (small_one h1 h2 h3 h4) ?_
 have I1:Inv X pins σ H { s with heap:=s.heap.push { cls:=.type "range", data:=.fields #[.int lo t,.int hi u,.int 1 v] },toks:=tk }:=I.kept fun b o e=>Heap.get?_push_of_some _ e
 refine⟨(s.heap.push { cls:=.type "range", data:=.fields #[.int lo t,.int hi u,.int 1 v] }).objs.size,[(s.heap.push { cls:=.type "range", data:=.fields #[.int lo t,.int hi u,.int 1 v] }).objs.size],_,_,H,rfl,
  I1.kept (t':=tk) fun b o e=>Heap.get?_push_of_some _ e,u_ _ lo (hi - lo).toNat,?_,fun b hb=>?_,q⟩
 ·have e1:lo+((0:Nat):Int) * 1=lo:=by simp
  have e2:(((hi - lo).toNat:Nat):Int) - ((0:Nat):Int)=Builtin.Range.rangeSize lo hi 1:=by rw[rangeSize_one]; split <;> omega
  show IsRangeIter _ _ (lo+((0:Nat):Int) * 1) ((((hi - lo).toNat:Nat):Int) - ((0:Nat):Int)) 1
  rw[e1,e2];exact Heap.get?_push_size _ rfl
 ·have e:b=(s.heap.push { cls:=.type "range", data:=.fields #[.int lo t,.int hi u,.int 1 v] }).objs.size:=by simpa using hb
  subst e;exact I1.fpOk (Nat.le_refl _) (I1.hok.fresh (Nat.le_refl _))
def Au(ta:TA):TI:=fun σ H R=>ta σ H fun vs H1=>∃ j:Int,vs=[.int j]∧-(2 ^ 62)≤j∧j<2 ^ 62∧R (lz 0 j.toNat) H1
theorem eW{a:Expr}{ta:TA}{p pos:Pos}(hg:Gl X "range") (hm:X.mg "range" = none) (ha:PA X [a] ta) (hs:starEach [a] X.env=[(false,eval a X.env)]:=by rfl):PI X tg (.Call (.Name "range" p) [a] [] pos) (Au ta):=by
 intro pins s σ H R I h
 refine Call_ (gK I hg hm boot_range (PyProof.Rows.callWith_type1 (bq (ha pos pins s σ H _ I h) fun us s1 ⟨vs,H1,I1,r1,q1⟩=>?_) hs rfl))
 obtain⟨j,e,q1,q2,q⟩:=q1
 subst e
 cases r1 with
 | cons r rr=>
  cases rr;obtain⟨t,rfl⟩:=r
  exact call_range_1 (yv I1 (by omega) (by omega) q1 q2 (by simpa using q))
def DE(wi:TI)(g:TG)(tb:TS):TS:=fun D σ H=>wi σ H fun J H1=>∃ W:Nat→Nat→St→Hp→Prop,(∃ m,W 0 m σ H1)∧∀ i m σ H,W i m σ H→
 (J.stop i H∧D.nx σ H)∨(J.go i H∧∃ N:St→Hp→Prop,(∀ σ' H',N σ' H'→∃ m',m'<m∧W (i+1) m' σ' H')∧∀ x H',J.yld i H x H'→g x σ H' fun σ2 H2=>tb { D with nx:=N,ct:=N,bk:=D.nx } σ2 H2)
def jk(fp:List Addr)(h:Heap):List (Addr × Obj):=fp.filterMap fun b=>(h.get? b).map fun o=>(b,o)
theorem gx{fp:List Addr}{h:Heap}{b:Addr}{o:Obj}(hb:b∈fp)(e:h.get? b=some o):(b,o)∈jk fp h:=List.mem_filterMap.mpr ⟨b,hb,by rw[e]; rfl⟩
theorem wY{fp:List Addr}{h:Heap}{p:Addr × Obj}(hp:p∈jk fp h):p.1∈fp∧h.get? p.1=some p.2:=by
 obtain⟨b,hb,e⟩:=List.mem_filterMap.mp hp
 cases q:h.get? b with
 | none=>rw[q]at e; cases e
 | some o=>
  rw[q]at e
  have e':(b,o)=p:=Option.some.inj e
  subst e';exact⟨hb,q⟩
theorem Inv.pinned{pins:List (Addr × Obj)}{σ : St}{H:Hp}{s:Shared}{fp:List Addr}(I:Inv X pins σ H s)(hf:∀ b∈fp,ii X pins H b)(ho:∀ b∈fp,∃ o,s.heap.get? b=some o∧∀ v,o.data ≠ .cell v):Inv X (pins++jk fp s.heap) σ H s:=
 I.pins_of fun p hp=>(List.mem_append.mp hp).elim (fun z=>I.pin p (List.mem_append_right _ z)) fun z=>by
  obtain⟨hb,e⟩:=wY z
  obtain⟨f0,f1,f2,_⟩:=hf p.1 hb
  obtain⟨o,e',d⟩:=ho p.1 hb
  rw[e]at e'; cases e'
  exact⟨e,f0,f1,f2,d⟩
theorem Inv.unpinned{pins pl:List (Addr × Obj)}{σ : St}{H:Hp}{s:Shared}(I:Inv X (pins++pl) σ H s):Inv X pins σ H s:=I.pins_of fun p hp=>I.pin p (List.mem_append_right _ (List.mem_append_left _ hp))
theorem cB{iter:Expr}{body:List Stmt}{wi:TI}{g:TG}{tb:TS}{pos:Pos}(hp:PassesOwn (model X.prog X.w) X.A X.env X.xe)(hc:X.calm=true)(hi:PI X tg iter wi)(hg:PG X tg g)(hb:PSs X body tb)
  (hs:∀ x,foldedSetIterable iter X.env x=pure x:=by intro _; rfl):PS X (.For tg iter body [] pos) (DE wi g tb):=by
 intro pins s σ H D I h
 refine wpAny_For (bq (hi pins s σ H _ I h) fun v s1 h1=>bq h1 fun itv s2 h2=>?_) hs
 obtain⟨it,fp,tn,J,H2,e,I2,T,st2,f2,W,⟨m0,w0⟩,turn⟩:=h2
 subst e
 -- what stays true of the iterator's objects through the loop
 have stat:∀ {H':Hp},(∀ b∈fp,H' b=none)→∀ b∈fp,ii X pins H' b:=fun hn b hb=>⟨hn b hb,(f2 b hb).2⟩
 refine codeAny_forLoop_any (fun n s'=>∃ i σ' H',Inv X pins σ' H' s'∧tn i s'.heap∧(∀ b∈fp,H' b=none)∧W i n σ' H') ?_ m0 ⟨0,σ,H2,I2,st2,fun b hb=>(f2 b hb).1,w0⟩
 rintro n s3 ⟨i,σ3,H3,I3,st3,fr3,w3⟩
 rcases turn i n σ3 H3 w3 with ⟨stop,qn⟩ | ⟨go,N,hN,step⟩
 ·refine wpAny_passesOwn hp (bq (T.done X rfl rfl rfl hc i pins s3 σ3 H3 X.xe I3 (stat fr3) st3 stop) fun r s4 ⟨hr,I4⟩=>?_)
  subst hr;exact wpAny_execs_nil ⟨σ3,H3,I4,qn⟩
 ·refine wpAny_passesOwn hp (bq (T.item X rfl rfl rfl hc i pins s3 σ3 H3 X.xe I3 (stat fr3) st3 go) fun r s4 ⟨u,hr,h4⟩=>?_)
  subst hr;refine wpAny_passesOwn hp (bq h4 fun _ s5 ⟨x,H5,I5,r5,y5,st5,fr5⟩=>?_)
  have I5':=I5.pinned (stat fr5) (T.obj _ _ st5);refine wpAny_passesOwn hp (bq (hg _ s5 σ3 H5 x u _ I5' r5 (step x H5 y5)) fun _ s6 ⟨σ6,H6,I6,q6⟩=>?_)
  refine wpAny_passesOwn hp (bq (hb _ s6 σ6 H6 _ I6 q6) fun f s7 q7=>?_)
  have again:∀ {σ7:St} {H7:Hp},Inv X (pins++jk fp s5.heap) σ7 H7 s7→N σ7 H7→∃ m,m<n∧∃ i σ' H',Inv X pins σ' H' s7∧tn i s7.heap∧(∀ b∈fp,H' b=none)∧W i m σ' H':=fun {σ7 H7} I7 n7=>by
   obtain⟨m',hm,w7⟩:=hN σ7 H7 n7
   refine⟨m',hm,i+1,σ7,H7,I7.unpinned,T.keep _ _ _ st5 fun b hb o e=>(I7.pin (b,o) (List.mem_append_right _ (List.mem_append_right _ (gx hb e)))).1,fun b hb=>?_,w7⟩
   obtain⟨o,e,d⟩:=T.obj _ _ st5 b hb
   exact(I7.pin (b,o) (List.mem_append_right _ (List.mem_append_right _ (gx hb e)))).2.1
  cases f with
  | next=>obtain⟨σ7,H7,I7,n7⟩:=q7; exact again I7 n7
  | cont=>obtain⟨σ7,H7,I7,n7⟩:=q7; exact again I7 n7
  | brk=>obtain⟨σ7,H7,I7,q7⟩:=q7; exact⟨σ7,H7,I7.unpinned,q7⟩
  | ret v=>obtain⟨x7,σ7,H7,I7,r7,q7⟩:=q7; exact⟨x7,σ7,H7,I7.unpinned,r7,q7⟩
end
theorem yF{K:PySem.W.Frag}{a:Addr}{xs:List V}{g:TG}{tb:TS}{D:db}{σ : St}{H:Hp}(Pv:Nat→St→Hp→Prop)(h0:Pv 0 σ H)(hl:∀ i σ H,i≤xs.length→Pv i σ H→SqL K H a xs)
  (hs:∀ i x σ H,xs[i]? = some x→Pv i σ H→g x σ H fun σ2 H2=>tb { D with nx:=Pv (i+1),ct:=Pv (i+1),bk:=D.nx } σ2 H2) (hd:∀ σ H,Pv xs.length σ H→D.nx σ H) :
  ∃ W:Nat→Nat→St→Hp→Prop,(∃ m,W 0 m σ H)∧∀ i m σ H,W i m σ H→
   ((m5 K a).stop i H∧D.nx σ H)∨((m5 K a).go i H∧∃ N:St→Hp→Prop,(∀ σ' H',N σ' H'→∃ m',m'<m∧W (i+1) m' σ' H')∧∀ x H',(m5 K a).yld i H x H'→g x σ H' fun σ2 H2=>tb { D with nx:=N,ct:=N,bk:=D.nx } σ2 H2):=by
 refine⟨fun i m σ H=>m=xs.length - i∧i≤xs.length∧Pv i σ H,⟨xs.length,by simp,Nat.zero_le _,h0⟩,?_⟩
 rintro i m σ H ⟨rfl,hi,p⟩
 have q:=hl i σ H hi p
 by_cases hlt:i<xs.length
 ·refine .inr ⟨⟨xs,xs[i],q,by simp[hlt]⟩,Pv (i+1),fun σ' H' p'=>⟨xs.length - (i+1),by omega,rfl,hlt,p'⟩,fun x H' y=>?_⟩
  obtain⟨e,y⟩:=y
  subst e;exact hs i x σ _ (y xs q) p
 ·have e:i=xs.length:=by omega
  subst e;exact .inl ⟨⟨xs,q,Nat.le_refl _⟩,hd σ H p⟩
theorem wc{lo:Int}{n:Nat}{g:TG}{tb:TS}{D:db}{σ : St}{H:Hp}(Pv:Nat→St→Hp→Prop)(h0:Pv 0 σ H)
  (hs:∀ i σ H,i<n→Pv i σ H→g (.int (lo+i)) σ H fun σ2 H2=>tb { D with nx:=Pv (i+1),ct:=Pv (i+1),bk:=D.nx } σ2 H2) (hd:∀ σ H,Pv n σ H→D.nx σ H) :
  ∃ W:Nat→Nat→St→Hp→Prop,(∃ m,W 0 m σ H)∧∀ i m σ H,W i m σ H→
   ((lz lo n).stop i H∧D.nx σ H)∨((lz lo n).go i H∧∃ N:St→Hp→Prop,(∀ σ' H',N σ' H'→∃ m',m'<m∧W (i+1) m' σ' H')∧∀ x H',(lz lo n).yld i H x H'→g x σ H' fun σ2 H2=>tb { D with nx:=N,ct:=N,bk:=D.nx } σ2 H2):=by
 refine⟨fun i m σ H=>m=n - i∧i≤n∧Pv i σ H,⟨n,by simp,Nat.zero_le _,h0⟩,?_⟩
 rintro i m σ H ⟨rfl,hi,p⟩
 by_cases hlt:i<n
 ·refine .inr ⟨hlt,Pv (i+1),fun σ' H' p'=>⟨n - (i+1),by omega,rfl,hlt,p'⟩,fun x H' y=>?_⟩
  obtain⟨e,y⟩:=y
  subst e y;exact hs i σ _ hlt p
 ·have e:i=n:=by omega
  subst e;exact .inl ⟨Nat.le_refl _,hd σ H p⟩
end L2
namespace L2
open PySem PySem.Spec PyProof.Rows
abbrev R2:=V→V→Hp→VK→Prop
def OpR(X:Cx)(f:Value→Value→Sem Value)(r:R2):Prop:=
 ∀ (pins:List (Addr × Obj)) (s:Shared) (σ : St) (H:Hp) (x y:V) (v u:Value) (Q:VK),Inv X pins σ H s→RelV x v→RelV y u→r x y H Q→
  wpAny (model X.prog X.w) X.A (f v u) (EP X pins σ Q) X.xe s
def UnR(X:Cx)(f:Value→Sem Value)(r:V→Hp→VK→Prop):Prop:=
 ∀ (pins:List (Addr × Obj)) (s:Shared) (σ : St) (H:Hp) (x:V) (v:Value) (Q:VK),Inv X pins σ H s→RelV x v→r x H Q→
  wpAny (model X.prog X.w) X.A (f v) (EP X pins σ Q) X.xe s
def CallR(X:Cx)(f:Value)(r:List V→Hp→VK→Prop):Prop:=
 ∀ (pins:List (Addr × Obj)) (s:Shared) (σ : St) (H:Hp) (xs:List V) (us:List Value) (Q:VK),Inv X pins σ H s→Vals xs us→r xs H Q→
  wpAny (model X.prog X.w) X.A (call f us) (EP X pins σ Q) X.xe s
def wm(r:R2)(ta tb:TE):TE:=fun σ H Q=>ta σ H fun x H1=>tb σ H1 fun y H2=>r x y H2 Q
def rI(C:Int→Int→Prop)(g:Int→Int→V):R2:=fun x y H Q=>∃ i j,x = .int i∧y = .int j∧C i j∧Q (g i j) H
def mQ(g:Int→Int→V):R2:=fun x y H Q=>∃ i j,x = .int i∧y = .int j∧Q (g i j) H
section
variable{X:Cx}{a b c:Expr}{ta tb tc:TE}{pos:Pos}
theorem yL(ha:PE X a ta)(hb:PE X b tb){pins:List (Addr × Obj)}{s:Shared}{σ : St}{H:Hp}{R:V→V→Hp→Prop}(I:Inv X pins σ H s)
  (h:ta σ H fun x H1=>tb σ H1 fun y H2=>R x y H2) {Q:Value→Shared→Prop} {f:Value→Value→Sem Value}
  (hf:∀ v u s2 x y H2,Inv X pins σ H2 s2→RelV x v→RelV y u→R x y H2→wpAny (model X.prog X.w) X.A (f v u) Q X.xe s2) :
  wpAny (model X.prog X.w) X.A (eval a X.env) (fun v s₁=>wpAny (model X.prog X.w) X.A (eval b X.env) (fun u s₂=>wpAny (model X.prog X.w) X.A (f v u) Q X.xe s₂) X.xe s₁) X.xe s:=by
 refine bq (ha pins s σ H _ I h) fun v s1 ⟨x,H1,I1,r1,q1⟩=>?_
 refine bq (hb pins s1 σ H1 _ I1 q1) fun u s2 ⟨y,H2,I2,r2,q2⟩=>?_
 exact hf v u s2 x y H2 I2 r1 r2 q2
theorem aE{op:Operator}{r:R2}(ho:OpR X (binaryOp op) r)(ha:PE X a ta)(hb:PE X b tb):PE X (.BinOp a op b pos) (wm r ta tb):=by
 intro pins s σ H Q I h
 exact wpAny_BinOp (yL ha hb I h fun v u s2 x y H2 I2 rx ry q=>ho pins s2 σ H2 x y v u Q I2 rx ry q)
theorem Dm{f:Value→Value→Sem Value}{C:Int→Int→Prop}{g:Int→Int→Int}
  (rule:∀ (i j:Int) (t u:Tok) (s:Shared) (Q:Value→Shared→Prop) (E:Value→Shared→Prop),C i j→Q (.int (g i j) s.toks) { s with toks:=s.toks+1 }→wpAny (model X.prog X.w) X.A (f (.int i t) (.int j u)) Q E s) :
  OpR X f (rI C fun i j=>.int (g i j)):=by
 intro pins s σ H x y v u Q I rx ry h
 obtain⟨i,j,rfl,rfl,hc,q⟩:=h
 obtain⟨t,rfl⟩:=rx
 obtain⟨t',rfl⟩:=ry
 exact rule i j t t' s _ _ hc ⟨.int (g i j),H,I.tok _,⟨_,rfl⟩,q⟩
theorem Bu{f:Value→Value→Sem Value}{g:Int→Int→Int}
  (rule:∀ (i j:Int) (t u:Tok) (s:Shared) (Q:Value→Shared→Prop) (E:Value→Shared→Prop),Q (.int (g i j) s.toks) { s with toks:=s.toks+1 }→wpAny (model X.prog X.w) X.A (f (.int i t) (.int j u)) Q E s) :
  OpR X f (mQ fun i j=>.int (g i j)):=by
 intro pins s σ H x y v u Q I rx ry h
 obtain⟨i,j,rfl,rfl,q⟩:=h
 obtain⟨t,rfl⟩:=rx
 obtain⟨t',rfl⟩:=ry
 exact rule i j t t' s _ _ ⟨.int (g i j),H,I.tok _,⟨_,rfl⟩,q⟩
theorem y4{f:Value→Value→Sem Value}{g:Int→Int→Bool}
  (rule:∀ (i j:Int) (t u:Tok) (s:Shared) (Q:Value→Shared→Prop) (E:Value→Shared→Prop),Q (.bool (g i j)) s→wpAny (model X.prog X.w) X.A (f (.int i t) (.int j u)) Q E s) :
  OpR X f (mQ fun i j=>.bl (g i j)):=by
 intro pins s σ H x y v u Q I rx ry h
 obtain⟨i,j,rfl,rfl,q⟩:=h
 obtain⟨t,rfl⟩:=rx
 obtain⟨t',rfl⟩:=ry
 exact rule i j t t' s _ _ ⟨.bl (g i j),H,I,rfl,q⟩
def tW(i j:Int):Prop:=0<j∧j<1073741824
def CMul(i j:Int):Prop:=(-(2 ^ 64)<i∧i<2 ^ 64)∨(-(2 ^ 64)<j∧j<2 ^ 64)
theorem CMul.ok{i j:Int}(h:CMul i j):IntMulOk i j:=by
 rcases h with ⟨h1,h2⟩ | ⟨h1,h2⟩
 ·exact .of_left (intBits_le_64 h1 h2)
 ·exact .of_right (intBits_le_64 h1 h2)
theorem C3:OpR X (binaryOp .Add) (mQ fun i j=>.int (i+j)):=Bu fun _ _ _ _ _ _ _ q=>add_int q
theorem jd:OpR X (binaryOp .Sub) (mQ fun i j=>.int (i - j)):=Bu fun _ _ _ _ _ _ _ q=>sub_int q
theorem BE:OpR X (binaryOp .Mult) (rI CMul fun i j=>.int (i * j)):=Dm fun _ _ _ _ _ _ _ hc q=>mul_int q hc.ok
theorem cE:OpR X (binaryOp .FloorDiv) (rI tW fun i j=>.int (i / j)):=Dm fun i j _ _ _ _ _ hc q=>by
 have h1:(0:Int)<j:=hc.1
 have h2:j<1073741824:=hc.2
 exact floordiv_int (by omega) (by rw[Int.fdiv_eq_ediv_of_nonneg i (by omega)]; exact q) (.inl (PyProof.noPylong_small (by omega)))
theorem b9:OpR X (binaryOp .Mod) (rI (fun _ j=>0<j) fun i j=>.int (i % j)):=Dm fun i j _ _ _ _ _ hc q=>by
 have h1:(0:Int)<j:=hc
 exact mod_int' (by omega) (by rw[Int.fmod_eq_emod_of_nonneg i (by omega)]; exact q)
end
def km:V→V→Bool
 | .non,.non=>true | .non,.int _=>true | .int _,.non=>true | .non,.bl _=>true | .bl _,.non=>true | .non,.str _=>true | .str _,.non=>true
 | .int _,.int _=>true | .bl _,.bl _=>true | .str _,.str _=>true | .byt _,.byt _=>true
 | .int _,.str _=>true | .str _,.int _=>true | .bl _,.str _=>true | .str _,.bl _=>true
 | _,_=>false
def Ey:R2:=fun x y H Q=>km x y=true∧Q (.bl (decide (x=y))) H
def Ew:R2:=fun x y H Q=>km x y=true∧Q (.bl (!decide (x=y))) H
theorem sq{i j:Int}:decide (V.int i=V.int j)=(i == j):=by
 rw[Bool.eq_iff_iff];simp
theorem p7{i j:Bool}:decide (V.bl i=V.bl j)=(i == j):=by
 rw[Bool.eq_iff_iff];simp
theorem sQ{i j:Str}:decide (V.str i=V.str j)=(i == j):=by
 rw[Bool.eq_iff_iff];simp
theorem tQ{i j:Array UInt8}:decide (V.byt i=V.byt j)=(i.toList == j.toList):=by
 rw[Bool.eq_iff_iff]
 cases i
 cases j;simp
section
variable{X:Cx}{a b c:Expr}{ta tb tc:TE}{pos:Pos}
theorem bC{pins:List (Addr × Obj)}{σ : St}{H:Hp}{s:Shared}{Q:VK}{k k':Bool}(I:Inv X pins σ H s)(q:Q (.bl k) H)(e:k=k'):EP X pins σ Q (.bool k') s:=by
 subst e;exact⟨.bl k,H,I,rfl,q⟩
theorem DL:OpR X (compareOp .Eq) Ey:=by
 intro pins s σ H x y v u Q I rx ry h
 obtain⟨hs,q⟩:=h
 cases x with
 | non=>
  cases rx
  cases y with
  | non=>cases ry; exact PySem.EqNone.eq_none_none (bC I q (by simp))
  | bl j=>cases ry; exact PySem.EqNone.eq_none_bool (bC I q (by simp))
  | int j=>obtain⟨t',rfl⟩:=ry; exact PySem.EqNone.eq_none_int (bC I q (by simp))
  | str j=>obtain⟨t',rfl⟩:=ry; exact PySem.EqNone.eq_none_str (bC I q (by simp))
  | _=>exact absurd (show false=true from hs) Bool.false_ne_true
 | bl i=>
  cases rx
  cases y with
  | non=>cases ry; exact PySem.EqNone.eq_bool_none (bC I q (by simp))
  | bl j=>cases ry; exact eq_bool (bC I q p7)
  | str j=>obtain⟨t',rfl⟩:=ry; exact PySem.EqMixed.eq_bool_str (bC I q (by simp))
  | _=>exact absurd (show false=true from hs) Bool.false_ne_true
 | int i=>
  obtain⟨t,rfl⟩:=rx
  cases y with
  | non=>cases ry; exact PySem.EqNone.eq_int_none (bC I q (by simp))
  | int j=>obtain⟨t',rfl⟩:=ry; exact eq_int (bC I q sq)
  | str j=>obtain⟨t',rfl⟩:=ry; exact PySem.EqMixed.eq_int_str (bC I q (by simp))
  | _=>exact absurd (show false=true from hs) Bool.false_ne_true
 | str i=>
  obtain⟨t,rfl⟩:=rx
  cases y with
  | non=>cases ry; exact PySem.EqNone.eq_str_none (bC I q (by simp))
  | bl j=>cases ry; exact PySem.EqMixed.eq_str_bool (bC I q (by simp))
  | int j=>obtain⟨t',rfl⟩:=ry; exact PySem.EqMixed.eq_str_int (bC I q (by simp))
  | str j=>obtain⟨t',rfl⟩:=ry; exact eq_str (bC I q sQ)
  | _=>exact absurd (show false=true from hs) Bool.false_ne_true
 | byt i=>
  obtain⟨t,rfl⟩:=rx
  cases y with
  | byt j=>obtain⟨t',rfl⟩:=ry; exact PySem.W.eq_bytes (bC I q tQ)
  | _=>exact absurd (show false=true from hs) Bool.false_ne_true
 | _=>cases y <;> exact absurd (show false=true from hs) Bool.false_ne_true
theorem D3:OpR X (compareOp .NotEq) Ew:=by
 intro pins s σ H x y v u Q I rx ry h
 obtain⟨hs,q⟩:=h
 cases x with
 | non=>
  cases rx
  cases y with
  | non=>cases ry; exact PySem.EqNone.ne_none_none (bC I q (by simp))
  | bl j=>cases ry; exact PySem.EqNone.ne_none_bool (bC I q (by simp))
  | int j=>obtain⟨t',rfl⟩:=ry; exact PySem.EqNone.ne_none_int (bC I q (by simp))
  | str j=>obtain⟨t',rfl⟩:=ry; exact PySem.EqNone.ne_none_str (bC I q (by simp))
  | _=>exact absurd (show false=true from hs) Bool.false_ne_true
 | bl i=>
  cases rx
  cases y with
  | non=>cases ry; exact PySem.EqNone.ne_bool_none (bC I q (by simp))
  | bl j=>cases ry; exact ne_bool (bC I q (congrArg not p7))
  | str j=>obtain⟨t',rfl⟩:=ry; exact PySem.EqMixed.ne_bool_str (bC I q (by simp))
  | _=>exact absurd (show false=true from hs) Bool.false_ne_true
 | int i=>
  obtain⟨t,rfl⟩:=rx
  cases y with
  | non=>cases ry; exact PySem.EqNone.ne_int_none (bC I q (by simp))
  | int j=>obtain⟨t',rfl⟩:=ry; exact ne_int (bC I q (congrArg not sq))
  | str j=>obtain⟨t',rfl⟩:=ry; exact PySem.EqMixed.ne_int_str (bC I q (by simp))
  | _=>exact absurd (show false=true from hs) Bool.false_ne_true
 | str i=>
  obtain⟨t,rfl⟩:=rx
  cases y with
  | non=>cases ry; exact PySem.EqNone.ne_str_none (bC I q (by simp))
  | bl j=>cases ry; exact PySem.EqMixed.ne_str_bool (bC I q (by simp))
  | int j=>obtain⟨t',rfl⟩:=ry; exact PySem.EqMixed.ne_str_int (bC I q (by simp))
  | str j=>obtain⟨t',rfl⟩:=ry; exact ne_str (bC I q (congrArg not sQ))
  | _=>exact absurd (show false=true from hs) Bool.false_ne_true
 | byt i=>
  obtain⟨t,rfl⟩:=rx
  cases y with
  | byt j=>obtain⟨t',rfl⟩:=ry; exact PySem.W.ne_bytes (bC I q (congrArg not tQ))
  | _=>exact absurd (show false=true from hs) Bool.false_ne_true
 | _=>cases y <;> exact absurd (show false=true from hs) Bool.false_ne_true
theorem DU:OpR X (compareOp .Lt) (mQ fun i j=>.bl (decide (i<j))):=y4 fun _ _ _ _ _ _ _ q=>lt_int q
theorem Ae:OpR X (compareOp .Gt) (mQ fun i j=>.bl (decide (j<i))):=y4 fun _ _ _ _ _ _ _ q=>gt_int q
theorem DZ:OpR X (compareOp .GtE) (mQ fun i j=>.bl (decide (j≤i))):=y4 fun _ _ _ _ _ _ _ q=>ge_int q
theorem vH:OpR X (compareOp .Lt) (fun x y H Q=>∃ i j,x = .str i∧y = .str j∧Q (.bl (decide (i.cps.toList<j.cps.toList))) H):=by
 intro pins s σ H x y v u Q I rx ry h
 obtain⟨i,j,rfl,rfl,q⟩:=h
 obtain⟨t,rfl⟩:=rx
 obtain⟨t',rfl⟩:=ry
 exact lt_str (bC I q rfl)
theorem vF:OpR X (compareOp .In) (fun x y H Q=>∃ i j,x = .str i∧y = .str j∧Q (.bl (!(Builtin.Str.occurrences j i 0 j.length 1).isEmpty)) H):=by
 intro pins s σ H x y v u Q I rx ry h
 obtain⟨i,j,rfl,rfl,q⟩:=h
 obtain⟨t,rfl⟩:=rx
 obtain⟨t',rfl⟩:=ry
 exact in_str (bC I q rfl)
theorem Dt:OpR X (compareOp .Is) (fun x y H Q=>y = .non∧Q (.bl (decide (x = .non))) H):=by
 intro pins s σ H x y v u Q I rx ry h
 obtain⟨rfl,q⟩:=h
 cases ry;refine is_none_gen (bC I q ?_)
 cases x <;> first
  | (cases rx; rfl)
  | (obtain⟨t,rfl⟩:=rx; rfl)
theorem AI:OpR X (compareOp .IsNot) (fun x y H Q=>y = .non∧Q (.bl (!decide (x = .non))) H):=by
 intro pins s σ H x y v u Q I rx ry h
 obtain⟨rfl,q⟩:=h
 cases ry;refine isnot_none_gen (bC I q ?_)
 cases x <;> first
  | (cases rx; rfl)
  | (obtain⟨t,rfl⟩:=rx; rfl)
theorem qu:OpR X (compareOp .NotIn) (fun x y H Q=>∃ i j,x = .str i∧y = .str j∧Q (.bl (!(!(Builtin.Str.occurrences j i 0 j.length 1).isEmpty))) H):=by
 intro pins s σ H x y v u Q I rx ry h
 obtain⟨i,j,rfl,rfl,q⟩:=h
 obtain⟨t,rfl⟩:=rx
 obtain⟨t',rfl⟩:=ry
 exact notIn_str (bC I q rfl)
theorem aV(b:Expr){op:CmpOp}(h:op ≠ .In:=by decide)(h2:op ≠ .NotIn:=by decide):behindInMarks op b=false:=by
 have e1:(op == CmpOp.In)=false:=by cases op <;> first | rfl | exact absurd rfl h
 have e2:(op == CmpOp.NotIn)=false:=by cases op <;> first | rfl | exact absurd rfl h2
 cases b <;> simp[behindInMarks,e1,e2]
theorem e_{op:CmpOp}{r:R2}(ho:OpR X (compareOp op) r)(ha:PE X a ta)(hb:PE X b tb)(hm:behindInMarks op b=false):PE X (.Compare a [op] [b] pos) (wm r ta tb):=by
 intro pins s σ H Q I h
 exact wpAny_Compare1 (yL ha hb I h fun v u s2 x y H2 I2 rx ry q=>ho pins s2 σ H2 x y v u Q I2 rx ry q) hm
def Ag(t:TE):TT:=fun σ H Q=>t σ H fun x H'=>∃ k,x = .bl k∧Q k H'
theorem aM{op:CmpOp}{r:R2}(ho:OpR X (compareOp op) r)(ha:PE X a ta)(hb:PE X b tb)(hm:behindInMarks op b=false):PT X (.Compare a [op] [b] pos) (Ag (wm r ta tb)):=by
 intro pins s σ H Q I h
 refine wpAny_isTrue_Compare1 (bq (ha pins s σ H _ I h) fun v s1 ⟨x,H1,I1,r1,q1⟩=>bq (hb pins s1 σ H1 _ I1 q1) fun u s2 ⟨y,H2,I2,r2,q2⟩=>
  bq (ho pins s2 σ H2 x y v u _ I2 r1 r2 q2) fun c s3 ⟨z,H3,I3,r3,k,e,q3⟩=>?_) hm
 subst e
 cases r3;exact wpAny_truthy_bool ⟨H3,I3,q3⟩
theorem ir:(sizeLine:Nat)<2 ^ 63:=by rw[sizeLine_eq]; decide
theorem ur:OpR X (binaryOp .Add) (fun x y H Q=>∃ i j,x = .str i∧y = .str j∧i.length+j.length≤sizeLine∧Q (.str (i++j)) H):=by
 intro pins s σ H x y v u Q I rx ry h
 obtain⟨i,j,rfl,rfl,hz,q⟩:=h
 obtain⟨t,rfl⟩:=rx
 obtain⟨t',rfl⟩:=ry
 exact add_str (fun t' tk=>⟨.str (i++j),H,I.tok _,⟨_,rfl⟩,q⟩) hz
theorem dS{x:V}{us:List Value}(r:Vals [x] us):∃ u,us=[u]∧RelV x u:=by
 cases r with
 | cons r1 r2=>cases r2; exact⟨_,rfl,r1⟩
theorem ow{x y:V}{us:List Value}(r:Vals [x,y] us):∃ u w',us=[u,w']∧RelV x u∧RelV y w':=by
 cases r with
 | cons r1 r2=>
  cases r2 with
  | cons r3 r4=>cases r4; exact⟨_,_,rfl,r1,r3⟩
theorem wj:CallR X (.type "int") (fun xs H Q=>(∃ i,xs=[.int i]∧Q (.int i) H)∨∃ k,xs=[.bl k]∧Q (.int (if k then 1 else 0)) H):=by
 intro pins s σ H xs us Q I r h
 rcases h with ⟨i,rfl,q⟩ | ⟨k,rfl,q⟩
 ·obtain⟨u,rfl,t,rfl⟩:=dS r
  exact call_int_int ⟨.int i,H,I,⟨_,rfl⟩,q⟩
 ·obtain⟨u,rfl,r1⟩:=dS r
  cases r1;exact call_int_bool ⟨.int (if k then 1 else 0),H,I.tok _,⟨_,rfl⟩,q⟩
theorem qz:CallR X (.type "str") (fun xs H Q=>∃ i,xs=[.int i]∧i.natAbs.log2<1920∧Q (.str (toString i)) H):=by
 intro pins s σ H xs us Q I r h
 obtain⟨i,rfl,hz,q⟩:=h
 obtain⟨u,rfl,t,rfl⟩:=dS r
 exact PySem.P.str_of_int hz ⟨.str _,H,I.tok _,⟨_,rfl⟩,q⟩
end
end L2
namespace L2
open PySem PySem.Spec PyProof.Rows
structure ObjM (h:Heap) (x dx C:Addr) (mA:Str→Option Value):Prop where
 obj:h.get? x=some (PySem.W.instObj C dx)
 ns:h.Ns1 dx mA
 ne:dx≠x
theorem wd{h:Heap}{dx:Addr}{mA:Str→Option Value}(n:h.Ns1 dx mA):∃ od,h.get? dx=some od∧∀ name,PySem.W.lookIn name od=some (mA name):=by
 obtain⟨o,es,ep,ho,hd,hk,_,hm⟩:=n
 refine⟨o,ho,fun name=>?_⟩
 have e:=hm name;unfold nsFind findBy at e;rw[← Array.find?_toList]at e
 unfold PySem.W.lookIn;rw[hd]
 dsimp only
 split
 ·rename_i y q
  rw[q]at e
  exact congrArg some e
 ·rename_i q
  rw[q]at e
  have a:es.toList.any (·.refKey)=false:=by
   rw[List.any_eq_false];intro y hy
   obtain⟨z,t,hkey⟩:=hk y (Array.mem_toList_iff.mp hy)
   simp[DictEntry.refKey,hkey]
  have a':¬ es.toList.any (·.refKey)=true:=by rw[a]; exact Bool.false_ne_true
  rw[if_neg a'];exact congrArg some e
theorem ObjM.look{h:Heap}{x dx C:Addr}{mA:Str→Option Value}(I:ObjM h x dx C mA):∃ od,PySem.W.InstAt h x (PySem.W.instObj C dx) C (some od)∧∀ name,PySem.W.lookIn name od=some (mA name):=
 let ⟨od,ho,hl⟩:=wd I.ns
 ⟨od,⟨I.obj,rfl,rfl,ho⟩,hl⟩
section
variable{prog:Program}{w:World}{A:Around}{E:Value→Shared→Prop}{s:Shared}{K:PySem.W.Frag}{x dx C f:Addr}{mA:Str→Option Value}{name:Str}{v:Value}
end
def CL(f:Str)(v:V):List (Str × V)→List (Str × V)
 | []=>[(f,v)]
 | (g,x)::r=>if g=f then (g,v)::r else (g,x)::CL f v r
theorem RelO.some_of{v:V}{o:Option Value}(r:RelO (some v) o):∃ u,o=some u∧RelV v u:=by
 cases o with
 | none=>exact(show False from r).elim
 | some u=>exact⟨u,rfl,r⟩
section
variable{P:Program}{w:World}{H H':Hp}{h h':Heap}{a C dx:Addr}{fs fs':List (Str × V)}
theorem AD(hok:HOk P w H h)(e:H a=some (.ins C dx fs)):∃ mA,ObjM h a dx C mA∧(∀ f,RelO (fs.lookup f) (mA f))∧PySem.Within mA (fs.map (·.1))∧fs.length≤1000∧H dx=some (.own a):=by
 obtain⟨d,z,ne,ob,mA,n,r,q⟩:=(show ObjOk P w H h a (.ins C dx fs) from hok a _ e)
 exact⟨mA,⟨ob,n,ne⟩,r,q,z,d⟩
end
structure Cls (K:PySem.W.Frag) (C:Addr):Prop where
 pg:PySem.W.plainGet K C Str.empty=true
 hd:PySem.W.hasDictIn K C=true
 po:PySem.W.plainOver K C=true
 sa:PySem.W.findIn K (.ref C) "__setattr__" = some (some (.builtin "object.__setattr__"))
theorem Cls.get{K:PySem.W.Frag}{C:Addr}(c:Cls K C)(f:Str):PySem.W.plainGet K C f=true:=c.pg
section
variable{X:Cx}{pins:List (Addr × Obj)}{σ : St}{H:Hp}{s:Shared}{a C dx:Addr}{fs:List (Str × V)}{f:Str}{v:V}{A:Around}{E:Value→Shared→Prop}
end
section
variable{X:Cx}{o e value:Expr}{f:Str}{pos pos' tpos:Pos}{ta tv:TE}
end
section
variable{X:Cx}{pins:List (Addr × Obj)}{σ : St}{H:Hp}{s:Shared}{A:Around}{E:Value→Shared→Prop}{Q:Value→Shared→Prop}{c:Value}{b:Bool}
inductive fF (K:PySem.W.Frag) (H:Hp):V→Value→Prop where
 | non:fF K H .non (.type "NoneType")
 | bl (x:Bool):fF K H (.bl x) (.type "bool")
 | int (i:Int):fF K H (.int i) (.type "int")
 | str (x:Str):fF K H (.str x) (.type "str")
 | flt (x:UInt64):fF K H (.flt x) (.type "float")
 | lst {a:Addr} {xs:List V} (e:H a=some (.lst xs)):fF K H (.ref a) (.type "list")
 | frz {a:Addr} {o:Obj} {xs:List V} (e:H a=some (.frz o (.lst xs))):fF K H (.ref a) (.type "list")
 | tup {a:Addr} {xs:List V} (e:H a=some (.tup xs)):fF K H (.ref a) (.type "tuple")
 | dK {a:Addr} {kvs:List (bD × V)} (e:H a=some (.dK kvs)):fF K H (.ref a) (.type "dict")
 | dT {a:Addr} {kvs:List (List bD × V)} (e:H a=some (.dT kvs)):fF K H (.ref a) (.type "dict")
 | ins {a C dx:Addr} {fs:List (Str × V)} (e:H a=some (.ins C dx fs)) (cl:Cls K C) (ha:PySem.W.findIn K (.ref C) "__class__" = some (some (.builtin "object.__class__")))
   (hn:PySem.W.specialIn K (.builtin "object.__class__") "__get__" = some (some (.builtin "getset_descriptor.__get__"))) (htk:PySem.W.takesIn K (.builtin "object.__class__")=some true)
   (hm:PySem.W.mroIn K C (.type "object")=some true):fF K H (.ref a) (.ref C)
theorem xK{x:V}{u t:Value}(I:Inv X pins σ H s)(rx:RelV x u)(ty:fF X.K H x t)(e:PySem.W.kitOne X.K t c=some b)(h:∀ tk,Q (.bool b) { s with toks:=tk }) :
  wpAny (model X.prog X.w) A (call (.builtin "isinstance") [u,c]) Q E s:=by
 cases ty with
 | non=>cases (show u=Value.none from rx); exact PySem.W.kia_one PySem.W.kitx_none I.kIn True.intro e (fun z=>nomatch z) h
 | bl y=>cases (show u=Value.bool y from rx); exact PySem.W.kia_one PySem.W.kitx_bool I.kIn True.intro e (fun z=>nomatch z) h
 | int i=>obtain⟨t,q⟩:=(show ∃ t,u=Value.int i t from rx); cases q; exact PySem.W.kia_one PySem.W.kitx_int I.kIn True.intro e (fun z=>nomatch z) h
 | str y=>obtain⟨t,q⟩:=(show ∃ t,u=Value.str y t from rx); cases q; exact PySem.W.kia_one PySem.W.kitx_str I.kIn True.intro e (fun z=>nomatch z) h
 | flt y=>obtain⟨t,q⟩:=(show ∃ t,u=Value.float y t from rx); cases q; exact PySem.W.kia_one PySem.W.kitx_float I.kIn True.intro e (fun z=>nomatch z) h
 | @lst a xs ea=>
  cases (show u=Value.ref a from rx)
  obtain⟨_,_,n,_,h1⟩:=(show ObjOk X.prog X.w H s.heap a (.lst xs) from I.hok a _ ea)
  exact PySem.W.kia_one PySem.W.kitx_list I.kIn ⟨_,h1,rfl⟩ e (fun z=>nomatch z) h
 | @frz a ob xs ea=>
  cases (show u=Value.ref a from rx)
  obtain⟨_,_,_,n,_,h1⟩:=(show ObjOk X.prog X.w H s.heap a (.frz ob (.lst xs)) from I.hok a _ ea)
  exact PySem.W.kia_one PySem.W.kitx_list I.kIn ⟨_,h1,rfl⟩ e (fun z=>nomatch z) h
 | @tup a xs ea=>
  cases (show u=Value.ref a from rx)
  obtain⟨_,_,_,p⟩:=(show ObjOk X.prog X.w H s.heap a (.tup xs) from I.hok a _ ea)
  obtain⟨o,h1,h2,_⟩:=p
  exact PySem.W.kia_one PySem.W.kitx_tuple I.kIn ⟨o,h1,h2⟩ e (fun z=>nomatch z) h
 | @dK a kvs ea=>
  cases (show u=Value.ref a from rx)
  obtain⟨_,_,vs,_,p⟩:=(show ObjOk X.prog X.w H s.heap a (.dK kvs) from I.hok a _ ea)
  obtain⟨o,es,ep,h1,h2,_⟩:=p
  exact PySem.W.kia_one PySem.W.kitx_dict I.kIn ⟨o,h1,h2.1⟩ e (fun z=>nomatch z) h
 | @dT a kvs ea=>
  cases (show u=Value.ref a from rx)
  obtain⟨_,_,xs,_,o,es,ep,h1,h2,_⟩:=(show ObjOk X.prog X.w H s.heap a (.dT kvs) from I.hok a _ ea)
  exact PySem.W.kia_one PySem.W.kitx_dict I.kIn ⟨o,h1,h2.1⟩ e (fun z=>nomatch z) h
 | @ins a C dx fs ea cl ha hn htk hm=>
  cases (show u=Value.ref a from rx)
  obtain⟨mA,O,_⟩:=AD I.hok ea
  obtain⟨od,J,_⟩:=O.look
  exact PySem.W.kia_one (PySem.W.kitx_own (cl.get _) cl.hd ha hn htk hm) I.kIn J e (fun z=>nomatch z) h
end
end L2
namespace L2
open PySem PySem.Spec PyProof.Rows
structure Room (k:Nat) (A:Around):Prop where
 hd:A.handled=none
 dp:A.depth+3 * k+5<recursionLimit
 un:A.units+16 * k+200<cLine
theorem Room.mono{j k:Nat}{A:Around}(r:Room k A)(h:j≤k):Room j A:=⟨r.hd,by have:=r.dp; omega,by have:=r.un; omega⟩
theorem Room.deeper{k:Nat}{A:Around}(r:Room (k+1) A)(env:Env):Room k (A.deeper env):=
 ⟨r.hd,by have:=r.dp; show A.depth+1+3 * k+5<_; omega,by have:=r.un; show A.units+3+16 * k+200<_; omega⟩
theorem Room.depth{k:Nat}{A:Around}(r:Room k A):A.depth<recursionLimit:=by have:=r.dp; omega
def yz:TA:=fun _ H Q=>Q [] H
def uf(ta:TE)(tr:TA):TA:=fun σ H Q=>ta σ H fun x H1=>tr σ H1 fun xs H2=>Q (x::xs) H2
section
variable{X:Cx}{e:Expr}{es:List Expr}{te:TE}{t:TA}{pos:Pos}
theorem ac:PA X [] yz:=fun _ _ _ _ H Q I h=>Calls.spliced_nil ⟨[],H,I,.nil,h⟩
theorem aa(ha:PE X e te)(hr:PA X es t)(hs:starEach (e::es) X.env=(false,eval e X.env)::starEach es X.env:=by rfl):PA X (e::es) (uf te t):=by
 intro pos pins s σ H Q I h
 rw[hs];show wpAny _ _ (spliced ((false,eval e X.env)::backTo pos (starEach es X.env))) _ _ s
 refine Calls.spliced_cons (bq (ha pins s σ H _ I h) fun u s1 ⟨x,H1,I1,r1,q1⟩=>?_)
 exact bq (hr pos pins s1 σ H1 _ I1 q1) fun us s2 ⟨xs,H2,I2,r2,q2⟩=>⟨x::xs,H2,I2,.cons r1 r2,q2⟩
def DB(t:TA):TE:=fun σ H Q=>t σ H fun xs H1=>xs.length≤sizeLine∧∀ p,H1 p=none→Q (.ref p) (upd H1 p (.tup xs))
def CS(t:TA):TE:=fun σ H Q=>t σ H fun xs H1=>xs.length≤sizeLine∧∀ p,H1 p=none→Q (.ref p) (upd H1 p (.lst xs))
theorem dP{x1}(h:PA X es t):PE X (.Tuple es x1 pos) (DB t):=by
 intro pins s σ H Q I hq
 refine wpAny_Tuple_spliced (bq (h pos pins s σ H _ I hq) fun us s1 ⟨xs,H1,I1,r,z,q⟩=>⟨by rw[← r.length]; exact z,?_⟩)
 have hf:H1 s1.heap.objs.size=none:=I1.hok.fresh (Nat.le_refl _)
 refine⟨.ref s1.heap.objs.size,upd H1 s1.heap.objs.size (.tup xs),I1.laid (t':=s1.toks) (fun b u e=>Heap.get?_push_of_some _ e) (Nat.le_refl _) ?_,rfl,q _ hf⟩
 exact⟨z,us,r,⟨_,Heap.get?_push_size _ rfl,rfl,rfl,_,rfl⟩⟩
theorem bw(h:PA X es t):PE X (.List es pos) (CS t):=by
 intro pins s σ H Q I hq
 refine wpAny_List_spliced (bq (h pos pins s σ H _ I hq) fun us s1 ⟨xs,H1,I1,r,z,q⟩=>⟨by rw[← r.length]; exact z,?_⟩)
 have hf:H1 s1.heap.objs.size=none:=I1.hok.fresh (Nat.le_refl _)
 refine⟨.ref s1.heap.objs.size,upd H1 s1.heap.objs.size (.lst xs),I1.laid (t':=s1.toks) (fun b u e=>Heap.get?_push_of_some _ e) (Nat.le_refl _) ?_,rfl,q _ hf⟩
 exact⟨z,us,0,r,Heap.get?_push_size _ rfl⟩
end
abbrev Sp:=List V→Hp→VK→XK→Prop
abbrev im:=List Env→Hp→Shared→XK→Value→Shared→Prop
structure kD (P:Program) (w:World) (K:PySem.W.Frag) (mg:Str→Option Value) (base:Heap) (A:Around) (outer:List Env) (s:Shared) (H:Hp):Prop where
 frames:A.frames=some outer
 mod:Mod K mg base
 bs:∀ b o,base.get? b=some o→s.heap.get? b=some o∧H b=none
 bsz:base.objs.size≤s.heap.objs.size
 funs:s.heap.FunFrames base outer
 frf:∀ b∈eD outer,H b=none
 hok:HOk P w H s.heap
 bare:AllBare s.gens
def CE(outer:List Env)(P:Program)(w:World)(H:Hp)(s:Shared)(Q:VK)(u:Value)(s':Shared):Prop:=
 ∃ v H',s'.os=s.os∧AllBare s'.gens∧Un (eD outer) [] H H' s.heap s'.heap∧HOk P w H' s'.heap∧RelV v u∧Q v H'
def CR(CX:im)(outer:List Env)(P:Program)(w:World)(H:Hp)(s:Shared)(Q:VK)(E:XK)(r:Result)(s':Shared):Prop:=
 match r with
 | .ok (.ret u)=>CE outer P w H s Q u s'
 | .ok _=>False
 | .error e=>CX outer H s E e s'
structure FnOk (P:Program) (w:World) (K:PySem.W.Frag) (mg:Str→Option Value) (base:Heap) (CX:im) (k:Nat) (f:Addr) (fd:FuncData) (ps:List Str) (sp:Sp):Prop where
 len:∀ vs H Q E,sp vs H Q E→vs.length=ps.length
 run:∀ (A:Around) (outer:List Env) (s:Shared) (H:Hp) (args:Args) (us:List Value) (vs:List V) (Q:VK) (E:XK),Room k A→kD P w K mg base A outer s H→BindsTo s fd args (ps.zip us)→Vals vs us→sp vs H Q E→
  codeAny (model P w) A (.call (.ref f) args) (CR CX outer P w H s Q E) s
theorem FnOk.imp{P:Program}{w:World}{K:PySem.W.Frag}{mg:Str→Option Value}{base:Heap}{CX:im}{k:Nat}{f:Addr}{fd:FuncData}{ps:List Str}{sp sp':Sp}(F:FnOk P w K mg base CX k f fd ps sp)
  (h:∀ vs H Q E,sp' vs H Q E→sp vs H Q E):FnOk P w K mg base CX k f fd ps sp':=
 ⟨fun vs H Q E q=>F.len vs H Q E (h _ _ _ _ q),fun A outer s H args us vs Q E hr he hb hv hs=>F.run A outer s H args us vs Q E hr he hb hv (h _ _ _ _ hs)⟩
section
variable{X:Cx}{pins:List (Addr × Obj)}{σ : St}{H:Hp}{s s':Shared}
theorem Inv.env0(I:Inv X pins σ H s):kD X.prog X.w X.K X.mg X.base X.A X.stack s H:=
 ⟨I.ok.frames,I.ok.mod,I.bs,Nat.le_trans I.ok.bsz I.sz,I.stack,I.stkFree,I.hok,I.bare⟩
theorem Inv.after{Q:VK}{u:Value}(I:Inv X pins σ H s)(h:CE X.stack X.prog X.w H s Q u s'):EP X pins σ Q u s':=by
 obtain⟨v,H',os,bare,un,hok,r,q⟩:=h
 obtain⟨hh,g,d,t,os'⟩:=s'
 obtain rfl:os'=s.os:=os
 exact⟨v,H',I.call (h':=hh) (g':=g) (d':=d) (t':=t) (ch:=[]) un hok bare (fun b z=>absurd z (by simp)),r,q⟩
end
def iO(sp:Sp)(dvs:List V)(E:XK)(t:TA):TE:=fun σ H Q=>t σ H fun vs H1=>sp (vs++dvs) H1 Q E
def Binds(K:PySem.W.Frag)(fd:FuncData)(ps:List Str)(ds:List Value):Prop:=
 ∀ (s:Shared) (us:List Value),K.In s.heap→(us++ds).length=ps.length→BindsTo s fd ⟨us,[]⟩ (ps.zip (us++ds))
theorem Binds.all{K:PySem.W.Frag}{fd:FuncData}{ps:List Str}(h:∀ us:List Value,us.length=ps.length→bindArgs fd ⟨us,[]⟩=pure (ps.zip us)):Binds K fd ps []:=fun s us _ hl=>by
 rw[List.append_nil]at hl ⊢
 exact .of_eq (h us hl)
def kW(CX:im)(X:Cx)(E:XK):Prop:=∀ (pins:List (Addr × Obj)) (σ : St) (H:Hp) (s:Shared) (e:Value) (s':Shared),Inv X pins σ H s→CX X.stack H s E e s'→X.xe e s'
section
variable{X:Cx}{CX:im}{k:Nat}{f C:Addr}{fd:FuncData}{ps:List Str}{sp:Sp}{dvs:List V}{ds:List Value}{E:XK}{x m:Str}{p pos apos:Pos}{e o:Expr}{es:List Expr}{ta:TE}{t:TA}
theorem vE{pins:List (Addr × Obj)}{σ : St}{H:Hp}{s:Shared}{Q:VK}{us:List Value}{vs:List V}(F:FnOk X.prog X.w X.K X.mg X.base CX k f fd ps sp)(hr:Room k X.A)(hb:Binds X.K fd ps ds)(hd:Vals dvs ds)(hx:kW CX X E)
  (I:Inv X pins σ H s) (r:Vals vs us) (h:sp (vs++dvs) H Q E):wpAny (model X.prog X.w) X.A (call (.ref f) us) (EP X pins σ Q) X.xe s:=by
 have r2:Vals (vs++dvs) (us++ds):=r.append hd
 have hl:(us++ds).length=ps.length:=by rw[← r2.length]; exact F.len _ _ _ _ h
 refine wpAny_call (codeAny_mono (F.run X.A X.stack s H ⟨us,[]⟩ (us++ds) (vs++dvs) Q E hr I.env0 (hb s us I.kIn hl) r2 h) fun r s' hq=>?_)
 cases r with
 | error e=>exact hx pins σ H s e s' I hq
 | ok fl=>
  cases fl with
  | ret u=>exact I.after hq
  | next=>exact False.elim hq
  | brk=>exact False.elim hq
  | cont=>exact False.elim hq
theorem sy(F:FnOk X.prog X.w X.K X.mg X.base CX k f fd ps sp)(hr:Room k X.A)(hg:Gl X x)(hm:X.mg x=some (.ref f))(hk:PySem.W.keepIn X.K (.ref f)=true)(hb:Binds X.K fd ps ds)(hd:Vals dvs ds)(hx:kW CX X E)
  (ha:PA X (e::es) t) (hdb:(x == ("__debug__" : Str))=false:=by decide) (he:starEach (e::es) X.env=(false,eval e X.env)::starEach es X.env:=by rfl) (hpl:(backTo pos (starEach es X.env)).any (·.1)=false:=by rfl) :
  PE X (.Call (.Name x p) (e::es) [] pos) (iO sp dvs E t):=by
 intro pins s σ H Q I h
 refine wpAny_Call_Name_kw (fN I hg hm ?_ hdb)
 refine PySem.W.callWith_K (h₀:=X.base) I.ok.mod.kin hk (bq (ha pos pins s σ H _ I h) fun us s1 ⟨vs,H1,I1,r,q⟩=>⟨I1.kIn,?_⟩) he hpl
 exact vE F hr hb hd hx I1 r q
end
section
variable{X:Cx}{CX:im}{k:Nat}{f C:Addr}{fd:FuncData}{ps ks:List Str}{sp:Sp}{E:XK}{x m:Str}{p pos apos kpos:Pos}{e o:Expr}{es:List Expr}{kws:List Keyword}{te ta:TE}{t tk:TA}{nm:Option Str}
variable{g:List Value→List Value→List Value}{gV:List V→List V→List V}
end
structure aU (N P:List Str) (sc:Scope):Prop where
 kind:sc.kind = .function
 co:sc.isCoroutine=false
 gen:sc.isGenerator=false
 nd:N.Nodup
 pre:N.take P.length=P
 par:∀ x∈P,sc.names.lookup x=some .local∨sc.names.lookup x=some .cell
 nofree:∀ y∈sc.names,y.2 ≠ .free
theorem mKk{N P:List Str}{s:Stmt}(h1:(L2.defScope s).kind = .function:=by rfl)(h2:(L2.defScope s).isCoroutine=false:=by rfl)(h3:(L2.defScope s).isGenerator=false:=by rfl)(h4:N.Nodup:=by decide +kernel)(h5:N.take P.length=P:=by rfl)(h6:∀ x∈P,(L2.defScope s).names.lookup x=some .local∨(L2.defScope s).names.lookup x=some .cell:=by decide +kernel)(h7:∀ y∈(L2.defScope s).names,y.2 ≠ .free:=by decide +kernel):aU N P (L2.defScope s):=⟨h1,h2,h3,h4,h5,h6,h7⟩
theorem mZ{kindOf:Str→Option NameKind}{x:Str}:∀ {binds:List (Str × Value)} {m:Str→Option Value},(∀ v,(x,v)∉binds)→bindL kindOf binds m x=m x
 | [],_,_=>rfl
 | (n,v)::r,m,h=>by
  unfold bindL;rw[mZ fun w hw=>h w (List.mem_cons_of_mem _ hw)]
  split
  ·have:x≠n:=by rintro rfl; exact h v List.mem_cons_self
   simp[this]
  ·rfl
theorem nQ{kindOf:Str→Option NameKind}{x:Str}:∀ {binds:List (Str × Value)} {m:Str→Option Value},(∀ v,(x,v)∉binds)→bindC kindOf binds m x=m x
 | [],_,_=>rfl
 | (n,v)::r,m,h=>by
  unfold bindC;rw[nQ fun w hw=>h w (List.mem_cons_of_mem _ hw)]
  split
  ·rfl
  ·have:x≠n:=by rintro rfl; exact h v List.mem_cons_self
   simp[this]
theorem nn{kindOf:Str→Option NameKind}{x:Str}{v:Value}:∀ {P:List Str} {vs:List Value} {i:Nat} {m:Str→Option Value},P.Nodup→P[i]? = some x→vs[i]? = some v→kindOf x=some .local→
  bindL kindOf (P.zip vs) m x=some v
 | [],_,_,_,_,h,_,_=>by simp at h
 | _::_,[],_,_,_,_,h,_=>by simp at h
 | p::P,w::vs,0,m,nd,h1,h2,hk=>by
  simp at h1 h2; subst h1; subst h2
  show bindL kindOf ((p,w)::P.zip vs) m p=_
  unfold bindL;rw[mZ fun v hv=>(List.nodup_cons.mp nd).1 (List.of_mem_zip hv).1,if_pos hk]
  simp
 | p::P,w::vs,i+1,m,nd,h1,h2,hk=>by
  show bindL kindOf ((p,w)::P.zip vs) m x=_
  unfold bindL;exact nn (i:=i) (List.nodup_cons.mp nd).2 (by simpa using h1) (by simpa using h2) hk
theorem nD{kindOf:Str→Option NameKind}{x:Str}{v:Value}:∀ {P:List Str} {vs:List Value} {i:Nat} {m:Str→Option Value},P.Nodup→P[i]? = some x→vs[i]? = some v→kindOf x≠some .local→
  bindC kindOf (P.zip vs) m x=some v
 | [],_,_,_,_,h,_,_=>by simp at h
 | _::_,[],_,_,_,_,h,_=>by simp at h
 | p::P,w::vs,0,m,nd,h1,h2,hk=>by
  simp at h1 h2; subst h1; subst h2
  show bindC kindOf ((p,w)::P.zip vs) m p=_
  unfold bindC;rw[nQ fun v hv=>(List.nodup_cons.mp nd).1 (List.of_mem_zip hv).1,if_neg hk]
  simp
 | p::P,w::vs,i+1,m,nd,h1,h2,hk=>by
  show bindC kindOf ((p,w)::P.zip vs) m x=_
  unfold bindC;exact nD (i:=i) (List.nodup_cons.mp nd).2 (by simpa using h1) (by simpa using h2) hk
def start(N:List Str)(vs:List V):St:=vs.map some++List.replicate (N.length - vs.length) none
def ie(CX:im)(P:Program)(w:World)(K:PySem.W.Frag)(mg:Str→Option Value)(base:Heap)(N:List Str)(qual:Str)(scope:Scope)(f:Addr)(cd:Value)(A:Around)(outer:List Env)(s:Shared)(H:Hp)(E:XK):Cx where
 prog:=P
 w:=w
 K:=K
 mg:=mg
 base:=base
 A:=A.deeper (envOfC qual scope s.heap.objs.size f cd)
 N:=N
 s₀:=s
 H₀:=H
 env:=envOfC qual scope s.heap.objs.size f cd
 outer:=outer
 stack:=envOfC qual scope s.heap.objs.size f cd::outer
 ex:=[]
 calm:=true
 fn:=fun _=>true
 pn:=[]
 xe:=fun e s'=>wpAny (model P w) (A.deeper (envOfC qual scope s.heap.objs.size f cd)) (leaving (envOfC qual scope s.heap.objs.size f cd) e) (fun _ s''=>CX outer H s E e s'') (fun e' s''=>CX outer H s E e' s'') s'
theorem pq{sc:Scope}{n:Nat}{x:Str}(h:sc.names.lookup x=some .cell):∃ c,(cellsFrom n sc.names []).lookup x=some c:=by
 have q:=PySem.W.cellsFrom_some sc.names n [] (.inl h);exact Option.isSome_iff_exists.mp q
theorem nH{CX:im}{P:Program}{w:World}{K:PySem.W.Frag}{mg:Str→Option Value}{base:Heap}{N ps:List Str}{qual:Str}{scope:Scope}{f:Addr}{cd:Value}{A:Around}{outer:List Env}{s s1:Shared}{H:Hp}{E:XK}{us:List Value}{vs:List V}
  (S:aU N ps scope) (hd:A.handled=none) (e0:kD P w K mg base A outer s H) (hl:vs.length=ps.length) (r:Vals vs us)
  (x:InCallC s s.heap.objs.size (bindL (envOfC qual scope s.heap.objs.size f cd).kindOf (ps.zip us) fun _=>none) (cellsFrom (s.heap.objs.size+1) scope.names []) (bindC (envOfC qual scope s.heap.objs.size f cd).kindOf (ps.zip us) fun _=>none) s1) :
  Inv (ie CX P w K mg base N qual scope f cd A outer s H E) [] (start N vs) H s1:=by
 have hpl:ps.length≤N.length:=by have:=congrArg List.length S.pre; rw[List.length_take]at this; omega
 obtain⟨h1,tk,rfl,hk⟩:=x.done
 have noA:∀ b:Addr,b∉(ie CX P w K mg base N qual scope f cd A outer s H E).ex:=fun b z=>absurd (show b∈([]:List Addr) from z) (by simp)
 refine⟨⟨e0.mod,S.kind,rfl,rfl,Nat.le_refl _,fun y z c h1 h2=>?_,fun y hy=>?_,fun y c _ h=>?_,fun _=>hd,Around.frames_deeper e0.frames,.inr ⟨rfl,rfl⟩,fun b z=>absurd z (noA b),e0.bs,e0.bsz,fun b _ _=>noA b,fun b z=>absurd z (noA b),e0.funs,e0.frf⟩,
  rfl,e0.bare,Un.kept hk,⟨_,x.toInCall.ns,fun i y v h1 h2 h3=>?_⟩,fun y c h=>⟨_,x.cell y c h⟩,e0.hok.fresh (Nat.le_refl _),fun y c h=>?_,fun p hp=>absurd (show p∈([]:List (Addr × Obj)) from hp) (by simp),e0.hok.kept hk,?_⟩
 ·exact name_of_addr x.apart (PySem.mem_of_lookup h1) (PySem.mem_of_lookup h2)
 ·have hy:scope.names.lookup y=some .cell∨scope.names.lookup y=some .free:=hy
  rcases hy with hy | hy
  ·exact pq hy
  ·exact absurd rfl (S.nofree _ (PySem.mem_of_lookup hy))
 ·exact Nat.le_of_lt (x.above y c (PySem.mem_of_lookup h))
 ·have hi:i<vs.length:=by
   unfold start at h2
   by_cases hi:i<vs.length
   ·exact hi
   ·rw[List.getElem?_append_right (by simpa using hi)]at h2
    rw[List.getElem?_replicate]at h2
    split at h2 <;> cases h2
  have ha:vs[i]? = some v:=by
   unfold start at h2;rw[List.getElem?_append_left (by simpa using hi),List.getElem?_map]at h2
   cases e:vs[i]? with
   | none=>rw[e]at h2; cases h2
   | some a=>rw[e]at h2; cases h2; rfl
  obtain⟨u,hu,rv⟩:=r.get ha
  have hp:ps[i]? = some y:=by
   rw[← S.pre,List.getElem?_take_of_lt (by omega)]; exact h1
  have ndP:ps.Nodup:=by rw[← S.pre]; exact S.nd.sublist (List.take_sublist _ _)
  refine⟨u,rv,?_⟩
  rcases S.par y (List.mem_of_getElem? hp) with k | k
  ·exact .inl ⟨k,nn ndP hp hu k⟩
  ·obtain⟨c,e⟩:=pq (n:=s.heap.objs.size+1) k
   refine .inr ⟨.inl k,c,e,?_⟩
   have q:=x.cell y c e;rw[nD ndP hp hu (by show scope.names.lookup y≠_; rw[k]; decide)]at q
   exact q
 ·exact e0.hok.fresh (Nat.le_of_lt (x.above y c (PySem.mem_of_lookup h)))
 ·unfold start
  show _=N.length
  rw[List.length_append,List.length_map,List.length_replicate];omega
theorem Aq{CX:im}{P:Program}{w:World}{K:PySem.W.Frag}{mg:Str→Option Value}{base:Heap}{k:Nat}{f:Addr}{name qual:Str}{params:Arguments}{body:List Stmt}{scope:Scope}{dV kV doc pm cdv ct oc:Value}{an od:Option Addr}
  {osl:Array (Option Value)} {N ps:List Str} {sp:Sp} (lk:K.lookup f=some ⟨oc,od,.func (PySem.W.fnOf name qual params body scope dV kV doc pm an cdv ct),osl⟩) (hcd:PySem.W.codeIn K cdv qual=true) (S:aU N ps scope)
  (len:∀ vs H Q E,sp vs H Q E→vs.length=ps.length)
  (hbody:∀ (A:Around) (outer:List Env) (s:Shared) (H:Hp) (vs:List V) (Q:VK) (E:XK),Room k (A.deeper (envOfC qual scope s.heap.objs.size f cdv))→sp vs H Q E→
   ∃ t,PSs (ie CX P w K mg base N qual scope f cdv A outer s H E) body t∧t { nx:=fun _ H'=>Q .non H',rt:=Q } (start N vs) H) :
  FnOk P w K mg base CX (k+1) f (PySem.W.fnOf name qual params body scope dV kV doc pm an cdv ct) ps sp:=by
 refine⟨len,fun A outer s H args us vs Q E hr e0 hb r hsp=>?_⟩
 have hl:=len _ _ _ _ hsp;have KX:K.In s.heap:=e0.mod.kin.keeps fun b o e=>(e0.bs b o e).1
 have lim:s.heap.NoLimit:=e0.mod.nolimit.keeps fun b o e=>(e0.bs b o e).1
 have hkind:∀ y∈ps.zip us,scope.names.lookup y.1=some .local∨(scope.names.lookup y.1=some .cell∧((cellsFrom (s.heap.objs.size+1) scope.names []).lookup y.1).isSome=true):=fun ⟨n,v⟩ hy=>by
  rcases S.par n (List.of_mem_zip hy).1 with q | q
  ·exact .inl q
  ·exact .inr ⟨q,PySem.W.cellsFrom_some _ _ _ (.inl q)⟩
 refine codeAny_call_function hr.depth (KX _ _ lk) rfl S.co S.gen rfl (PySem.W.codeRec_of KX hcd) (hb _ _ _ _ ?_)
 refine wpAny_newFunctionEnv_cells S.kind hkind fun env he s1 x=>?_
 subst he;refine⟨lim.keeps x.toInCall.keep,codeAny_func ?_⟩
 obtain⟨t,ht,hq⟩:=hbody A outer s H vs Q E (hr.deeper _) hsp
 have I:Inv (ie CX P w K mg base N qual scope f cdv A outer s H E) [] (start N vs) H s1:=nH S hr.hd e0 hl r x
 refine wpAny_mono (ht [] s1 (start N vs) H _ I hq) (fun fl s' hs=>?_) fun e s' hs=>hs
 have fin:∀ {σ':St} {H':Hp} {v:V} {u:Value},Inv (ie CX P w K mg base N qual scope f cdv A outer s H E) [] σ' H' s'→RelV v u→Q v H'→CE outer P w H s Q u s':=
  fun {σ' H' v u} J rv q=>⟨v,H',J.os,J.bare,J.base,J.hok,rv,q⟩
 cases fl with
 | ret u=>
  obtain⟨v,σ',H',J,rv,q⟩:=hs
  exact fin J rv q
 | next=>
  obtain⟨σ',H',J,q⟩:=hs
  exact fin (v:=V.non) (u:=Value.none) J rfl q
 | brk=>
  obtain⟨_,_,_,q⟩:=hs
  exact False.elim q
 | cont=>
  obtain⟨_,_,_,q⟩:=hs
  exact False.elim q
end L2
namespace L2
open PySem PySem.Spec PyProof.Rows
section
variable{X:Cx}{x:Str}{p pos:Pos}{e:Expr}{es:List Expr}{t:TA}{id T:String}{r:List V→Hp→VK→Prop}
def vt(r:List V→Hp→VK→Prop)(t:TA):TE:=fun σ H Q=>t σ H fun vs H1=>r vs H1 Q
theorem yY(hc:CallR X (.builtin id) r)(hg:Gl X x)(hm:X.mg x=none)(hv:bootBuiltins x=some (.builtin id))(ha:PA X (e::es) t)(hn:x ≠ "__name__" := by decide) (hdb:(x == ("__debug__" : Str))=false:=by decide)
  (he:starEach (e::es) X.env=(false,eval e X.env)::starEach es X.env:=by rfl) (hpl:(backTo pos (starEach es X.env)).any (·.1)=false:=by rfl):PE X (.Call (.Name x p) (e::es) [] pos) (vt r t):=by
 intro pins s σ H Q I h
 refine wpAny_Call_Name_kw (gK I hg hm hv ?_ hn hdb)
 exact PyProof.Rows.callWith_builtin1 (bq (ha pos pins s σ H _ I h) fun us s1 ⟨vs,H1,I1,r1,q1⟩=>hc pins s1 σ H1 vs us Q I1 r1 q1) he hpl
theorem wQ(hc:CallR X (.type T) r)(hg:Gl X x)(hm:X.mg x=none)(hv:bootBuiltins x=some (.type T))(ha:PA X (e::es) t)(hn:x ≠ "__name__" := by decide) (hdb:(x == ("__debug__" : Str))=false:=by decide)
  (he:starEach (e::es) X.env=(false,eval e X.env)::starEach es X.env:=by rfl) (hpl:(backTo pos (starEach es X.env)).any (·.1)=false:=by rfl):PE X (.Call (.Name x p) (e::es) [] pos) (vt r t):=by
 intro pins s σ H Q I h
 refine wpAny_Call_Name_kw (gK I hg hm hv ?_ hn hdb)
 exact PyProof.Rows.callWith_type1 (bq (ha pos pins s σ H _ I h) fun us s1 ⟨vs,H1,I1,r1,q1⟩=>hc pins s1 σ H1 vs us Q I1 r1 q1) he hpl
end
end L2
namespace HT
open PySem PyProof.Rows
section
open PySem.SeqAt
open PySem.AutoSeq1 (wpAny_loadPart')
open PySem.MeetsSeq PySem.MeetsSeq2 PySem.MeetsSeq3
end
section
variable{prog:Program}{w:World}{A:Around}{E:Value→Shared→Prop}{s:Shared}
def sIx(n d:Nat):Option Int→Nat
 | none=>d
 | some v=>if v<0 then (v+(n:Int)).toNat else min v.toNat n
theorem sIx_none(n d:Nat):sIx n d none=d:=rfl
theorem sIx_nat(n d k:Nat):sIx n d (some (k:Int))=min k n:=by
 show (if (k:Int)<0 then ((k:Int)+(n:Int)).toNat else min (k:Int).toNat n)=min k n
 rw[if_neg (by omega),Int.toNat_natCast]
end
end HT
namespace L2
open PySem PySem.Spec PyProof.Rows
abbrev TO:=St→Hp→(Option Int→Hp→Prop)→Prop
def PO(X:Cx)(e:Option Expr)(t:TO):Prop:=
 ∀ (pins:List (Addr × Obj)) (s:Shared) (σ : St) (H:Hp) (Q:Option Int→Hp→Prop),Inv X pins σ H s→t σ H Q→
  wpAny (model X.prog X.w) X.A (evalPart e X.env) (fun u s'=>∃ o H',Inv X pins σ H' s'∧IsPart u o∧Q o H') X.xe s
def tE:TO:=fun _ H Q=>Q none H
def Aj(t:TE):TO:=fun σ H Q=>t σ H fun x H1=>∃ i,x = .int i∧Q (some i) H1
theorem va{ns:List Int}:∀ {us:List Value},Vals (ns.map V.int) us→IntsAre us ns:=by
 induction ns with
 | nil=>intro us r; rw[List.map_nil]at r; cases r; exact .nil
 | cons n ns ih=>
  intro us r
  rw[List.map_cons]at r
  cases r with
  | cons r1 r2=>
   obtain⟨t,e⟩:=r1
   subst e;exact .cons n t (ih r2)
section
variable{X:Cx}{e:Expr}{te:TE}{lo hi:Option Expr}{tl th:TO}{pos p2:Pos}
theorem ml:PO X none tE:=by
 intro pins s σ H Q I h
 rw[evalPart_none];exact wpAny_pure ⟨none,H,I,.none,h⟩
theorem ef(h:PE X e te):PO X (some e) (Aj te):=by
 intro pins s σ H Q I hw
 rw[evalPart_some];refine bq (h pins s σ H _ I hw) fun u s1 ⟨x,H1,I1,r1,q1⟩=>?_
 obtain⟨i,rfl,q⟩:=q1
 obtain⟨t,rfl⟩:=r1
 exact⟨some i,H1,I1,.int i t,q⟩
def SlR(X:Cx)(r:V→Option Int→Option Int→Hp→VK→Prop):Prop:=
 ∀ (pins:List (Addr × Obj)) (s:Shared) (σ : St) (H:Hp) (x:V) (v vl vu:Value) (lo hi:Option Int) (sl:Addr) (Q:VK),Inv X pins σ H s→RelV x v→s.heap.IsSliceOf sl vl vu .none→IsPart vl lo→IsPart vu hi→r x lo hi H Q→
  ∃ T id,typeLookup (.type T) "__getitem__" = pure (some (.builtin id))∧s.TypeIs v T∧wpAny (model X.prog X.w) X.A (getItem v (.ref sl)) (EP X pins σ Q) X.xe s
def Ej(r:V→Option Int→Option Int→Hp→VK→Prop)(te:TE)(tl th:TO):TE:=fun σ H Q=>te σ H fun x H1=>tl σ H1 fun l H2=>th σ H2 fun u H3=>r x l u H3 Q
theorem fK{r:V→Option Int→Option Int→Hp→VK→Prop}(hr:SlR X r)(he:PE X e te)(hl:PO X lo tl)(hu:PO X hi th):PE X (.Subscript e (.Slice lo hi none p2) pos) (Ej r te tl th):=by
 intro pins s σ H Q I h
 refine Subscript_ (bq (he pins s σ H _ I h) fun v s1 ⟨x,H1,I1,r1,q1⟩=>?_)
 refine wpAny_Slice (bq (hl pins s1 σ H1 _ I1 q1) fun vl s2 ⟨l,H2,I2,pl,q2⟩=>bq (hu pins s2 σ H2 _ I2 q2) fun vu s3 ⟨u,H3,I3,pu,q3⟩=>?_)
 rw[evalPart_none];refine wpAny_pure ?_
 have I4:Inv X pins σ H3 { s3 with heap:=s3.heap.push { cls:=.type "slice", data:=.fields #[vl,vu,.none] } }:=I3.kept (t':=s3.toks) fun b ob q=>Heap.get?_push_of_some _ q
 obtain⟨T,id,hT,ht,hg⟩:=hr pins { s3 with heap:=s3.heap.push { cls:=.type "slice", data:=.fields #[vl,vu,.none] } } σ H3 x v vl vu l u s3.heap.objs.size Q I4 r1 (Heap.IsSliceOf.new ..) pl pu q3
 show wpAny (model X.prog X.w) X.A (subscriptTail e (.Slice lo hi none p2) v (.ref s3.heap.objs.size)) (EP X pins σ Q) X.xe { s3 with heap:=s3.heap.push { cls:=.type "slice", data:=.fields #[vl,vu,.none] } }
 exact tail_any (ops:=[.ref s3.heap.objs.size,v]) ht hT hg (by with_unfolding_all rfl)
def kx(xs:List V)(lo hi:Option Int):List V:=(xs.drop (HT.sIx xs.length 0 lo)).take (HT.sIx xs.length xs.length hi - HT.sIx xs.length 0 lo)
theorem rH(xs:List V)(lo hi:Option Int):(kx xs lo hi).length≤xs.length:=by
 unfold kx;rw[List.length_take,List.length_drop];omega
end
end L2
namespace L2
open PySem PySem.Spec PyProof.Rows
def j5(n:Nat)(i:Int):Option Nat:=if 0≤i then (if i<n then some i.toNat else none) else if -(n:Int)≤i then some (i+n).toNat else none
def eC{α : Type}(xs:List α)(i:Int):Option α:=(j5 xs.length i).bind fun j=>xs[j]?
theorem rW{n:Nat}{i:Int}{j:Nat}(h:j5 n i=some j):seqIndex? i n=some j∧j<n∧-(n:Int)≤i∧i<n:=by
 unfold j5 at h
 by_cases h0:0≤i
 ·rw[if_pos h0]at h
  by_cases h1:i<n
  ·rw[if_pos h1]at h
   have e:i.toNat=j:=Option.some.inj h
   exact⟨by rw[seqIndex_of h0 h1,e],by omega,by omega,h1⟩
  ·rw[if_neg h1]at h; cases h
 ·rw[if_neg h0]at h
  by_cases h1:-(n:Int)≤i
  ·rw[if_pos h1]at h
   have e:(i+n).toNat=j:=Option.some.inj h
   exact⟨by rw[seqIndex_neg (by omega) h1,e],by omega,h1,by omega⟩
  ·rw[if_neg h1]at h; cases h
theorem mG{α : Type}{xs:List α}{i:Int}{v:α}(h:eC xs i=some v):∃ j,seqIndex? i xs.length=some j∧xs[j]? = some v∧j<xs.length∧-(xs.length:Int)≤i∧i<xs.length:=by
 unfold eC at h
 cases e:j5 xs.length i with
 | none=>rw[e]at h; cases h
 | some j=>
  rw[e]at h
  obtain⟨h1,h2,h3,h4⟩:=rW e
  exact⟨j,h1,h,h2,h3,h4⟩
theorem aZ{α : Type}{xs:List α}{j:Nat}{v:α}(h:xs[j]? = some v):eC xs (j:Int)=some v:=by
 have hj:j<xs.length:=(List.getElem?_eq_some_iff.mp h).1
 have e:j5 xs.length (j:Int)=some j:=by
  unfold j5;rw[if_pos (by omega),if_pos (by omega)]; simp
 unfold eC; rw[e]; exact h
def A3(b:Expr):Prop:=∀ o i,subscripted b false o i=operate [o,i] (getItem o i)
def IxR(X:Cx)(r:R2):Prop:=
 ∀ (value slice:Expr) (pins:List (Addr × Obj)) (s:Shared) (σ : St) (H:Hp) (x y:V) (v u:Value) (Q:VK),Inv X pins σ H s→RelV x v→RelV y u→r x y H Q→
  subscripted slice false v u=operate [v,u] (getItem v u)→wpAny (model X.prog X.w) X.A (subscriptTail value slice v u) (EP X pins σ Q) X.xe s
def MtR(X:Cx)(id:String)(r:V→List V→Hp→VK→Prop):Prop:=
 ∀ (pins:List (Addr × Obj)) (s:Shared) (σ : St) (H:Hp) (x:V) (xs:List V) (v:Value) (us:List Value) (Q:VK),Inv X pins σ H s→RelV x v→Vals xs us→r x xs H Q→
  wpAny (model X.prog X.w) X.A (call (.builtin id) (v::us)) (EP X pins σ Q) X.xe s
section
variable{X:Cx}{a b:Expr}{ta tb:TE}{pos:Pos}
theorem IxR.or{r r':R2}(h:IxR X r)(h':IxR X r'):IxR X (fun x y H Q=>r x y H Q∨r' x y H Q):=by
 intro value slice pins s σ H x y v u Q I rx ry q hs
 rcases q with q | q
 ·exact h value slice pins s σ H x y v u Q I rx ry q hs
 ·exact h' value slice pins s σ H x y v u Q I rx ry q hs
theorem aP{r:R2}(hr:IxR X r)(ha:PE X a ta)(hb:PE X b tb)(hs:A3 b):PE X (.Subscript a b pos) (wm r ta tb):=by
 intro pins s σ H Q I h
 exact Subscript_ (yL ha hb I h fun v u s2 x y H2 I2 rx ry q=>hr a b pins s2 σ H2 x y v u Q I2 rx ry q (hs _ _))
def B7(K:PySem.W.Frag):R2:=fun x y H Q=>∃ p xs i v,x = .ref p∧y = .int i∧SqL K H p xs∧eC xs i=some v∧Q v H
def BM(K:PySem.W.Frag):R2:=fun x y H Q=>∃ p xs i v,x = .ref p∧y = .int i∧SqT K H p xs∧eC xs i=some v∧Q v H
def Dw:R2:=fun x y H Q=>∃ z i c,x = .str z∧y = .int i∧z.length≤sizeLine∧eC z.cps.toList i=some c∧Q (.str ⟨#[c]⟩) H
theorem ix_list:IxR X (B7 X.K):=by
 intro value slice pins s σ H x y v u Q I rx ry h hs
 obtain⟨p,xs,i,z,rfl,rfl,hq,he,q⟩:=h
 cases rx;obtain⟨t,rfl⟩:=ry
 obtain⟨its,r,pl,hz⟩:=I.list hq
 obtain⟨j,h1,h2,h3,h4,h5⟩:=mG he
 obtain⟨w,ew,rw'⟩:=r.get h2
 have hl:=r.length;have hn:=ir;have fin:EP X pins σ Q w s:=⟨z,H,I,rw',q⟩
 by_cases h0:0≤i
 ·have hj:i.toNat=j:=by
   rw[seqIndex_of h0 h5]at h1
   exact Option.some.inj h1
  exact item_listR pl.isList h0 (by omega) (by rw[hj]; simpa using ew) fin hs
 ·have hj:(i+(its.toArray.size:Int)).toNat=j:=by
   rw[seqIndex_neg (by omega) h4]at h1
   rw[List.size_toArray,← hl];exact Option.some.inj h1
  exact subscriptTail_builtinR (x:=w) pl.isList.typeIs slot_list_getitem.lookup
   (wpAny_getItem_list_neg (Q:=fun r s'=>r=w∧EP X pins σ Q r s') pl.isList (by omega) (by rw[List.size_toArray] <;> omega) (by omega) (by rw[hj]; simpa using ew) ⟨rfl,fin⟩) hs
theorem ix_tup:IxR X (BM X.K):=by
 intro value slice pins s σ H x y v u Q I rx ry h hs
 obtain⟨p,xs,i,z,rfl,rfl,hq,he,q⟩:=h
 cases rx;obtain⟨t,rfl⟩:=ry
 obtain⟨its,r,pl,hz⟩:=I.tuple hq
 obtain⟨j,h1,h2,h3,h4,h5⟩:=mG he
 obtain⟨w,ew,rw'⟩:=r.get h2
 have hl:=r.length;have hn:=ir;have fin:EP X pins σ Q w s:=⟨z,H,I,rw',q⟩
 exact subscriptTail_builtinR (x:=w) pl.typeIs slot_tuple_getitem.lookup
  (getItem_tuple (j:=j) (Q:=fun r s'=>r=w∧EP X pins σ Q r s') pl (by omega) (by omega) (by rw[List.size_toArray,← hl]; exact h1) (by simpa using ew) ⟨rfl,fin⟩) hs
theorem Dq:IxR X Dw:=by
 intro value slice pins s σ H x y v u Q I rx ry h hs
 obtain⟨z,i,c,rfl,rfl,hz,he,q⟩:=h
 obtain⟨t,rfl⟩:=rx
 obtain⟨t',rfl⟩:=ry
 obtain⟨j,h1,h2,h3,h4,h5⟩:=mG he
 have hl:z.cps.toList.length=z.length:=by simp[Str.length]
 rw[hl]at h1 h4 h5
 have hn:=ir
 exact tail_any (typeIs_str s z t) slot_str_getitem.lookup (getItem_str (c:=c) (by
  have e1:decide (i < -(2 ^ 63:Int))=false:=decide_eq_false (by omega)
  have e2:decide (i≥2 ^ 63)=false:=decide_eq_false (by omega)
  rw[e1,e2,Bool.or_false]) (by rw[h1]; simpa using h2) ⟨.str ⟨#[c]⟩,H,I.tok _,⟨_,rfl⟩,q⟩) hs
def Hg(K:PySem.W.Frag):R2:=fun x y H Q=>B7 K x y H Q∨BM K x y H Q∨Dw x y H Q
theorem DC:IxR X (Hg X.K):=ix_list.or (ix_tup.or Dq)
theorem vk(its:List Value)(n j:Nat)(u:Value):Obj.mapSeq (·.setIfInBounds j u) { cls:=.type "list", data:=.seq its.toArray n }={ cls:=.type "list", data:=.seq (its.set j u).toArray n }:=by
 simp[Obj.mapSeq]
theorem Inv.lst{pins:List (Addr × Obj)}{σ : St}{H:Hp}{s:Shared}{p:Addr}{xs:List V}(I:Inv X pins σ H s)(h:H p=some (.lst xs)) :
  ∃ (its:List Value) (n:Nat),Vals xs its∧s.heap.get? p=some { cls:=.type "list", data:=.seq its.toArray n }∧xs.length≤sizeLine:=by
 obtain⟨z,its,n,r,e⟩:=I.hok p _ h
 exact⟨its,n,r,e,z⟩
theorem Inv.lstUpd{pins:List (Addr × Obj)}{σ : St}{H:Hp}{s:Shared}{p:Addr}{xs ys:List V}{its its':List Value}{n n':Nat}{f:Obj→Obj}(I:Inv X pins σ H s)(h:H p=some (.lst xs))
  (ho:s.heap.get? p=some { cls:=.type "list", data:=.seq its.toArray n }) (hf:f { cls:=.type "list", data:=.seq its.toArray n }={ cls:=.type "list", data:=.seq its'.toArray n' }) (r:Vals ys its') (hz:ys.length≤sizeLine) (t:Nat) :
  Inv X pins σ (upd H p (.lst ys)) { s with heap:=s.heap.update p f,toks:=t }:=by
 have e:(s.heap.update p f).get? p=some { cls:=.type "list", data:=.seq its'.toArray n' }:=by
  rw[Heap.get?_update_self f ho (by rw[hf] <;> rfl),hf]
 refine I.write (x:=p) (e:=p) (by rw[h]; trivial) (.inl rfl) (fun b u hb q=>(Heap.get?_update_other _ _ (Ne.symm hb)).trans q) ⟨_,e⟩ ?_
 exact⟨hz,its',n',r,e⟩
def uc:V→V→V→Hp→(Hp→Prop)→Prop:=fun o i v H Q=>∃ p xs k j,o = .ref p∧i = .int k∧H p=some (.lst xs)∧j5 xs.length k=some j∧Q (upd H p (.lst (xs.set j v)))
theorem x8:PSet X uc:=by
 intro pins s σ H o i v ov iv u Q I ro ri rv h
 obtain⟨p,xs,k,j,rfl,rfl,hp,hj,q⟩:=h
 cases ro;obtain⟨t,rfl⟩:=ri
 obtain⟨its,n,r,ho,hz⟩:=I.lst hp
 obtain⟨h1,h2,h3,h4⟩:=rW hj
 have hl:=r.length;have hn:=ir
 have I':Inv X pins σ (upd H p (.lst (xs.set j v))) { s with heap:=s.heap.update p (Obj.mapSeq (·.setIfInBounds j u)) }:=
  I.lstUpd hp ho (vk its n j u) (r.set rv j) (by rw[List.length_set]; exact hz) s.toks
 by_cases h0:0≤k
 ·have hk:k.toNat=j:=by
   rw[seqIndex_of h0 h4]at h1
   exact Option.some.inj h1
  exact PySem.W.ki_setAt ho h0 (by omega) (by rw[List.size_toArray,← hl]; exact h4) (by rw[hk]; exact⟨_,I',q⟩)
 ·have hk:(k+(its.toArray.size:Int)).toNat=j:=by
   rw[seqIndex_neg (by omega) h3]at h1
   rw[List.size_toArray,← hl];exact Option.some.inj h1
  exact PySem.W.ki_setBack ho (by omega) (by rw[List.size_toArray,← hl]; exact h3) (by omega) (by rw[hk]; exact⟨_,I',q⟩)
theorem oP(lo hi:Option Int)(n:Nat):(sliceBounds lo hi none n).1=((HT.sIx n 0 lo:Nat):Int)∧(sliceBounds lo hi none n).2.1=((HT.sIx n n hi:Nat):Int)∧(sliceBounds lo hi none n).2.2=1:=by
 refine⟨?_,?_,rfl⟩
 ·cases lo with
  | none=>simp[sliceBounds,HT.sIx]
  | some i=>
   simp only[sliceBounds,HT.sIx,Option.getD_none,show (1:Int)>0 by decide,if_true]
   by_cases h:i<0
   ·simp only[h,if_true] <;> omega
   ·simp only[h,if_false] <;> omega
 ·cases hi with
  | none=>simp[sliceBounds,HT.sIx]
  | some i=>
   simp only[sliceBounds,HT.sIx,Option.getD_none,show (1:Int)>0 by decide,if_true]
   by_cases h:i<0
   ·simp only[h,if_true] <;> omega
   ·simp only[h,if_false] <;> omega
theorem nZ(its:List Value)(lo hi:Option Int):slicePick its.toArray lo hi none=((its.drop (HT.sIx its.length 0 lo)).take (HT.sIx its.length its.length hi - HT.sIx its.length 0 lo)).toArray:=by
 obtain⟨h1,h2,h3⟩:=oP lo hi its.toArray.size
 unfold slicePick;rw[h1,h2,h3];simp only[sliceRange_one,pick_run,List.size_toArray] <;> rfl
def zi(K:PySem.W.Frag):V→Option Int→Option Int→Hp→VK→Prop:=fun x lo hi H Q=>∃ a xs,x = .ref a∧SqL K H a xs∧∀ p,H p=none→Q (.ref p) (upd H p (.lst (kx xs lo hi)))
theorem A4:SlR X (zi X.K):=by
 intro pins s σ H x v vl vu lo hi sl Q I rx hs pl pu h
 obtain⟨a,xs,rfl,hx,q⟩:=h
 cases rx;obtain⟨its,r,ht,hz⟩:=I.list hx
 have hlen:=r.length;refine⟨"list", _,slot_list_getitem.lookup,ht.isList.typeIs,?_⟩
 refine wpAny_getItem_list_slice ht.isList hs pl pu .none (by simp) ?_ (by rw[List.size_toArray] <;> omega)
 rw[nZ,← hlen];refine⟨.ref s.heap.objs.size,_,I.laid (t':=s.toks) (o:=.lst (kx xs lo hi)) (fun b ob q=>Heap.get?_push_of_some _ q) (Nat.le_refl _) ?_,rfl,q _ (I.hok.fresh (Nat.le_refl _))⟩
 exact⟨Nat.le_trans (rH xs lo hi) hz,_,0,(r.drop (HT.sIx xs.length 0 lo)).take (HT.sIx xs.length xs.length hi - HT.sIx xs.length 0 lo),Heap.get?_push_size _ rfl⟩
def bR:V→Bool
 | .non=>true
 | .bl _=>true
 | .int _=>true
 | .str _=>true
 | _=>false
def gb:V→V→Bool
 | .non,.non=>true
 | .bl a,.bl b=>a == b
 | .bl a,.int b=>(if a then 1 else 0) == b
 | .int a,.bl b=>a == (if b then 1 else 0)
 | .int a,.int b=>a == b
 | .str a,.str b=>a == b
 | _,_=>false
theorem iy{A:Around}{s:Shared}{y x:V}{u v:Value}(ry:RelV y u)(rx:RelV x v)(fy:bR y=true)(fx:bR x=true):SeqAt.EqAt A s u v (gb y x):=by
 cases y with
 | non=>
  cases ry
  cases x with
  | non=>cases rx; exact SeqAt.EqAt.same _
  | bl b=>cases rx; exact SeqAt.EqAt.none_bool b
  | int b=>obtain⟨t,rfl⟩:=rx; exact SeqAt.EqAt.none_int b t
  | str b=>obtain⟨t,rfl⟩:=rx; exact SeqAt.EqAt.none_str b t
  | _=>exact absurd (show false=true from fx) Bool.false_ne_true
 | bl a=>
  cases ry
  cases x with
  | non=>cases rx; exact SeqAt.EqAt.bool_none a
  | bl b=>cases rx; exact SeqAt.EqAt.bool_bool a b
  | int b=>obtain⟨t,rfl⟩:=rx; exact SeqAt.EqAt.bool_int a b t
  | str b=>obtain⟨t,rfl⟩:=rx; exact SeqAt.EqAt.bool_str a b t
  | _=>exact absurd (show false=true from fx) Bool.false_ne_true
 | int a=>
  obtain⟨t',rfl⟩:=ry
  cases x with
  | non=>cases rx; exact SeqAt.EqAt.int_none a t'
  | bl b=>cases rx; exact SeqAt.EqAt.int_bool a t' b
  | int b=>obtain⟨t,rfl⟩:=rx; exact SeqAt.EqAt.int_int a t' b t
  | str b=>obtain⟨t,rfl⟩:=rx; exact SeqAt.EqAt.int_str a t' b t
  | _=>exact absurd (show false=true from fx) Bool.false_ne_true
 | str a=>
  obtain⟨t',rfl⟩:=ry
  cases x with
  | non=>cases rx; exact SeqAt.EqAt.str_none a t'
  | bl b=>cases rx; exact SeqAt.EqAt.str_bool a t' b
  | int b=>obtain⟨t,rfl⟩:=rx; exact SeqAt.EqAt.str_int a t' b t
  | str b=>obtain⟨t,rfl⟩:=rx; exact SeqAt.EqAt.str_str a t' b t
  | _=>exact absurd (show false=true from fx) Bool.false_ne_true
 | _=>exact absurd (show false=true from fy) Bool.false_ne_true
def fB(x:V)(u:Value):Bool:=match u with
 | .none=>gb .non x
 | .bool b=>gb (.bl b) x
 | .int i _=>gb (.int i) x
 | .str z _=>gb (.str z) x
 | _=>false
theorem xB{x y:V}{u:Value}(r:RelV y u)(f:bR y=true):fB x u=gb y x:=by
 cases y with
 | non=>cases r; rfl
 | bl b=>cases r; rfl
 | int i=>obtain⟨t,rfl⟩:=r; rfl
 | str z=>obtain⟨t,rfl⟩:=r; rfl
 | _=>exact absurd (show false=true from f) Bool.false_ne_true
theorem iu{x:V}:∀ {xs:List V} {us:List Value},Vals xs us→xs.all bR=true→us.any (fB x)=xs.any fun y=>gb y x
 | _,_,.nil,_=>rfl
 | y::xs,u::us,.cons r t,f=>by
  rw[List.all_cons,Bool.and_eq_true]at f
  rw[List.any_cons,List.any_cons,xB r f.1,iu t f.2]
theorem gJ{A:Around}{s:Shared}{x:V}{v:Value}(rx:RelV x v)(fx:bR x=true):∀ {xs:List V} {us:List Value},Vals xs us→xs.all bR=true→∀ u∈us,SeqAt.EqAt A s u v (fB x u)
 | _,_,.nil,_=>fun u hu=>by cases hu
 | y::xs,u::us,.cons r t,f=>fun u' hu=>by
  rw[List.all_cons,Bool.and_eq_true]at f
  rcases List.mem_cons.mp hu with rfl | hu
  ·rw[xB r f.1]; exact iy r rx f.1 fx
  ·exact gJ rx fx t f.2 u' hu
def ja(x:V)(xs:List V):Bool:=xs.any fun y=>gb y x
def Ep(K:PySem.W.Frag)(neg:Bool):R2:=fun x y H Q=>∃ p xs,y = .ref p∧(SqL K H p xs∨SqT K H p xs)∧bR x=true∧xs.all bR=true∧Q (.bl (if neg then !ja x xs else ja x xs)) H
theorem wq:OpR X (compareOp .In) (Ep X.K false):=by
 intro pins s σ H x y v u Q I rx ry h
 obtain⟨p,xs,rfl,hq,fx,fs,q⟩:=h
 cases ry;rcases hq with hq | hq
 ·obtain⟨its,r,pl,hz⟩:=I.list hq
  refine SeqAt.in_listAt (fB x) pl.isList (fun w hw=>gJ rx fx r fs w (by simpa using hw)) ⟨.bl _,H,I,rfl,?_⟩
  rw[show its.toArray.any (fB x)=its.any (fB x) by simp,iu r fs]
  exact q
 ·obtain⟨its,r,pl,hz⟩:=I.tuple hq
  refine SeqAt.in_tupleAt (fB x) pl (fun w hw=>gJ rx fx r fs w (by simpa using hw)) ⟨.bl _,H,I,rfl,?_⟩
  rw[show its.toArray.any (fB x)=its.any (fB x) by simp,iu r fs]
  exact q
theorem pX:OpR X (compareOp .NotIn) (Ep X.K true):=by
 intro pins s σ H x y v u Q I rx ry h
 obtain⟨p,xs,rfl,hq,fx,fs,q⟩:=h
 cases ry;rcases hq with hq | hq
 ·obtain⟨its,r,pl,hz⟩:=I.list hq
  refine SeqAt.notIn_listAt (fB x) pl.isList (fun w hw=>gJ rx fx r fs w (by simpa using hw)) ⟨.bl _,H,I,rfl,?_⟩
  rw[show its.toArray.any (fB x)=its.any (fB x) by simp,iu r fs]
  exact q
 ·obtain⟨its,r,pl,hz⟩:=I.tuple hq
  refine SeqAt.notIn_tupleAt (fB x) pl (fun w hw=>gJ rx fx r fs w (by simpa using hw)) ⟨.bl _,H,I,rfl,?_⟩
  rw[show its.toArray.any (fB x)=its.any (fB x) by simp,iu r fs]
  exact q
theorem qO:CallR X (.builtin "len") (fun xs H Q=>∃ p ys,xs=[.ref p]∧(SqL X.K H p ys∨SqT X.K H p ys)∧Q (.int ys.length) H):=by
 intro pins s σ H xs us Q I r h
 obtain⟨p,ys,rfl,hq,q⟩:=h
 obtain⟨u,rfl,rx⟩:=dS r
 cases rx;have hn:=ir;rcases hq with hq | hq
 ·obtain⟨its,r',pl,hz⟩:=I.list hq
  have hlen:=r'.length;exact Calls.call_len_list pl.isList (by simp only[List.size_toArray] <;> omega) ⟨.int ys.length,H,I.tok _,⟨s.toks+1,by rw[List.size_toArray,hlen]⟩,q⟩
 ·obtain⟨its,r',pl,hz⟩:=I.tuple hq
  have hlen:=r'.length;exact len_tuple pl (by simp only[List.size_toArray] <;> omega) ⟨.int ys.length,H,I.tok _,⟨s.toks+1,by rw[List.size_toArray,hlen]⟩,q⟩
theorem p6:CallR X (.builtin "len") (fun xs H Q=>∃ z,xs=[.str z]∧z.length≤sizeLine∧Q (.int z.length) H):=by
 intro pins s σ H xs us Q I r h
 obtain⟨z,rfl,hz,q⟩:=h
 obtain⟨u,rfl,t,rfl⟩:=dS r
 have hn:=ir;exact len_str (by omega) ⟨.int z.length,H,I.tok _,⟨_,rfl⟩,q⟩
theorem nX:CallR X (.type "tuple") (fun xs H Q=>∃ p ys,xs=[.ref p]∧((SqL X.K H p ys∧∀ l,H l=none→Q (.ref l) (upd H l (.tup ys)))∨(SqT X.K H p ys∧Q (.ref p) H))):=by
 intro pins s σ H xs us Q I r h
 obtain⟨p,ys,rfl,h⟩:=h
 obtain⟨u,rfl,rx⟩:=dS r
 cases rx;rcases h with ⟨hq,q⟩ | ⟨hq,q⟩
 ·obtain⟨its,r',pl,hz⟩:=I.list hq
  have hlen:=r'.length;refine call_tuple_list pl.isList (fun h' kp=>?_) (by simp only[List.size_toArray] <;> omega)
  have I1:Inv X pins σ H { s with heap:=h' }:=I.kept (t':=s.toks) kp
  have I2:Inv X pins σ (upd H h'.objs.size (.tup ys)) { s with heap:=h'.push { cls:=.type "tuple", data:=.seq its.toArray } }:=
   I1.laid (t':=s.toks) (fun b o e=>Heap.get?_push_of_some _ e) (Nat.le_refl _) (show ObjOk X.prog X.w _ _ _ (.tup ys) from ⟨hz,its,r',IsTupN.new _ _⟩)
  exact⟨.ref h'.objs.size,_,I2,rfl,q _ (I1.hok.fresh (Nat.le_refl _))⟩
 ·obtain⟨its,r',pl,hz⟩:=I.tuple hq
  exact call_tuple_same pl ⟨.ref p,H,I,rfl,q⟩
def vM(K:PySem.W.Frag)(T:String)(x:V)(H:Hp):Prop:=match x with
 | .str _=>T = "str"
 | .int _=>T = "int"
 | .ref p=>(T = "list" ∧ ∃ xs,SqL K H p xs)∨(T = "tuple" ∧ ∃ o,K.lookup p=some o∧o.cls = .type "tuple" ∧ o.dict=none)∨
   (T = "dict" ∧ ((∃ kvs,H p=some (.dK kvs))∨∃ kvs,H p=some (.dT kvs)))∨(T = "set" ∧ ∃ S n,H p=some (.set S n))
 | _=>False
theorem B9{pins:List (Addr × Obj)}{σ : St}{H:Hp}{s:Shared}{T:String}{x:V}{v:Value}(I:Inv X pins σ H s)(r:RelV x v)(ty:vM X.K T x H) :
  s.TypeIs v T∧∀ a,v = .ref a→∃ ob,s.heap.get? a=some ob∧ob.dict=none:=by
 cases x with
 | str z=>
  obtain⟨t,rfl⟩:=r
  cases (show T = "str" from ty)
  exact⟨typeIs_str s z t,fun _ e=>nomatch e⟩
 | int i=>
  obtain⟨t,rfl⟩:=r
  cases (show T = "int" from ty)
  exact⟨typeIs_int s i t,fun _ e=>nomatch e⟩
 | ref p=>
  cases r;rcases ty with ⟨rfl,xs,hq⟩ | ⟨rfl,o,hk,hc,hd⟩ | ⟨rfl,hk⟩ | ⟨rfl,S,n,hk⟩
  ·obtain⟨its,_,pl,_⟩:=I.list hq
   refine⟨pl.isList.typeIs,fun a e=>?_⟩
   cases e;obtain⟨o,n,e,c,hd,_⟩:=pl
   exact⟨o,e,hd⟩
  ·refine⟨⟨o,I.kIn p o hk,hc⟩,fun a e=>?_⟩
   cases e;exact⟨o,I.kIn _ o hk,hd⟩
  ·have z:∃ o,s.heap.get? p=some o∧o.ExactDict:=by
    rcases hk with ⟨kvs,hk⟩ | ⟨kvs,hk⟩
    ·obtain⟨_,_,_,_,o,_,_,e,ex,_⟩:=I.hok p _ hk
     exact⟨o,e,ex⟩
    ·obtain⟨_,_,_,_,o,_,_,e,ex,_⟩:=I.hok p _ hk
     exact⟨o,e,ex⟩
   obtain⟨o,e,ex⟩:=z
   refine⟨⟨o,e,ex.1⟩,fun a e2=>?_⟩
   cases e2;exact⟨o,e,ex.2.1⟩
  ·obtain⟨o,_,_,_,e,ex,_⟩:=I.hok p _ hk
   refine⟨⟨o,e,ex.1⟩,fun a e2=>?_⟩
   cases e2;exact⟨o,e,ex.2.1⟩
 | _=>exact False.elim ty
def zN(K:PySem.W.Frag)(T:String)(r:V→List V→Hp→VK→Prop)(to:TE)(t:TA):TE:=fun σ H Q=>to σ H fun x H1=>vM K T x H1∧t σ H1 fun xs H2=>r x xs H2 Q
variable{o e:Expr}{es:List Expr}{to:TE}{t:TA}{name:Str}{apos cpos:Pos}{T id:String}{r:V→List V→Hp→VK→Prop}
theorem DQ(pa:PlainAttrs T)(slot:Slot T name id)(hty:typeOf (.builtin id)=pure (.type "method_descriptor")) (hm:MtR X id r) (ho:PE X o to) (ha:PA X (e::es) t)
  (hbase:attributeBase o name X.env (eval o X.env)=eval o X.env:=by rfl)
  (hfew:((backTo cpos (starEach (e::es) X.env)).all (fun x=>!x.1)&&(backToKw cpos (keywordEach [] X.env)).all (fun x=>x.1.isSome)
   && decide ((e::es).length+([]:List Keyword).length+(if ([]:List Keyword).isEmpty then 0 else 1)<30))=true:=by rfl)
  (hline:(apos.endLine == cpos.line)=true:=by rfl) (hs:starEach (e::es) X.env=(false,eval e X.env)::starEach es X.env:=by rfl) (hplain:(backTo cpos (starEach es X.env)).any (·.1)=false:=by rfl) :
  PE X (.Call (.Attribute o name apos) (e::es) [] cpos) (zN X.K T r to t):=by
 intro pins s σ H Q I h
 refine wpAny_Call_method_late hbase hfew hline rfl (bq (ho pins s σ H _ I h) fun v s1 ⟨x,H1,I1,r1,ty,q1⟩=>?_)
 obtain⟨h1,h2⟩:=B9 I1 r1 ty
 refine⟨T,id,pa,slot,hty,h1,h2,?_⟩
 have hA:=ha cpos pins s1 σ H1 _ I1 q1;rw[hs]at hA ⊢
 refine Calls.callWith_builtin (by show (false||(backTo cpos (starEach es X.env)).any (·.1))=false; rw[hplain] <;> rfl) (Calls.evalArgs_plain ?_)
 exact bq hA fun us s2 ⟨vs,H2,I2,r2,q2⟩=>hm pins s2 σ H2 x vs v us Q I2 r1 r2 q2
/- xs.append(e), list.index on a module's tuple .. are MtR facts of 06m -/
end
end L2
namespace L2
open PySem PySem.Spec PyProof.Rows
def Ia(X:Cx)(id:String)(r:V→List V→Hp→VK→Prop):Prop:=
 ∀ (pins:List (Addr × Obj)) (s:Shared) (σ : St) (H:Hp) (x:V) (xs:List V) (v:Value) (us:List Value) (Q:VK),Inv X pins σ H s→RelV x v→Vals xs us→r x xs H Q→
  wpAny (model X.prog X.w) X.A (call (.builtin id) (v::us)) (EP X pins σ Q) X.xe s
theorem Vals.one:∀ {x:V} {us:List Value},Vals [x] us→∃ u,us=[u]∧RelV x u
 | _,_,.cons r .nil=>⟨_,rfl,r⟩
theorem Vals.rep{xs:List V}{us:List Value}(h:Vals xs us):∀ k:Nat,Vals (List.replicate k xs).flatten (List.replicate k us).flatten
 | 0=>.nil
 | k+1=>by
  rw[List.replicate_succ,List.replicate_succ,List.flatten_cons,List.flatten_cons];exact Vals.append h (Vals.rep h k)
theorem nc(its:List Value):∀ (k:Nat) (acc:List Value),
  List.foldl (fun x1 x2=>x1++x2) acc.toArray (List.replicate k its.toArray)=(acc++(List.replicate k its).flatten).toArray
 | 0,acc=>by simp
 | k+1,acc=>by
  have e:acc.toArray++its.toArray=(acc++its).toArray:=by simp
  have e2:(acc++its)++(List.replicate k its).flatten=acc++(List.replicate (k+1) its).flatten:=by
   rw[List.replicate_succ,List.flatten_cons,List.append_assoc]
  rw[← e2,← nc its k (acc++its),← e,List.replicate_succ,List.foldl_cons]
section
variable{X:Cx}{pins:List (Addr × Obj)}{σ : St}{H:Hp}{s:Shared}{l b:Addr}{xs ys zs:List V}
theorem Inv.lset{its its':List Value}{n:Nat}{f:Array Value→Array Value}{t':Nat}(I:Inv X pins σ H s)(hH:H l=some (.lst xs))
  (e:s.heap.get? l=some { cls:=.type "list", data:=.seq its.toArray n }) (hf:f its.toArray=its'.toArray) (hv:Vals ys its') (hz:ys.length≤sizeLine) :
  Inv X pins σ (upd H l (.lst ys)) { s with heap:=s.heap.update l (Obj.mapSeq f),toks:=t' }:=by
 have q:=PySem.IsL.update e f;rw[hf]at q
 refine I.write (x:=l) (e:=l) (by rw[hH]; exact trivial) (.inl rfl) (fun b' u hb hu=>(Heap.get?_update_other s.heap (Obj.mapSeq f) (Ne.symm hb)).trans hu) ⟨_,q⟩ ?_
 exact⟨hz,its',_,hv,q⟩
theorem Inv.lnew{its:List Value}{t':Nat}(I:Inv X pins σ H s)(hv:Vals ys its)(hz:ys.length≤sizeLine) :
  Inv X pins σ (upd H s.heap.objs.size (.lst ys)) { s with heap:=s.heap.push { cls:=.type "list", data:=.seq its.toArray },toks:=t' }:=
 I.laid (fun _ _ q=>Heap.get?_push_of_some _ q) (Nat.le_refl _) ⟨hz,its,0,hv,Heap.get?_push_size _ rfl⟩
theorem Inv.fresh(I:Inv X pins σ H s):H s.heap.objs.size=none:=I.hok.fresh (Nat.le_refl _)
theorem Inv.lstM(I:Inv X pins σ H s)(hH:H l=some (.lst xs)):xs.length≤sizeLine∧∃ (its:List Value) (n:Nat),Vals xs its∧xs.length=its.length∧s.heap.get? l=some { cls:=.type "list", data:=.seq its.toArray n }:=by
 obtain⟨z,its,n,r,e⟩:=I.hok l _ hH
 exact⟨z,its,n,r,r.length,e⟩
theorem zq{n:Nat}(h:n≤sizeLine):Builtin.List.listTooLong n=false:=by
 unfold Builtin.List.listTooLong;exact decide_eq_false (by omega)
end
section
variable{X:Cx}
def jz:V→List V→Hp→VK→Prop:=fun x vs H Q=>∃ l xs y,x = .ref l∧vs=[y]∧H l=some (.lst xs)∧xs.length<sizeLine∧Q .non (upd H l (.lst (xs++[y])))
theorem nr:Ia X "list.append" jz:=by
 intro pins s σ H x vs v us Q I rx rv h
 obtain⟨l,xs,y,rfl,rfl,hH,hz,q⟩:=h
 cases rx;obtain⟨u,rfl,ru⟩:=rv.one
 obtain⟨z,its,n,r,hl,e⟩:=I.lstM hH
 refine call_meets F.slot_list_append ⟨_,e,rfl⟩ F.entry_list_append (F.args_list_append_2 _ _) (PySem.list_append l its.toArray n u (by rw[List.size_toArray]; omega)) ⟨e,?_⟩
 refine⟨.non,_,I.lset (its':=its++[u]) hH e (by simp) (r.append (.cons ru .nil)) ?_,rfl,q⟩
 rw[List.length_append,List.length_singleton];omega
def EV:R2:=fun x y H Q=>∃ l b xs zs,x = .ref l∧y = .ref b∧H l=some (.lst xs)∧H b=some (.lst zs)∧xs.length+zs.length≤sizeLine∧∀ p,H p=none→Q (.ref p) (upd H p (.lst (xs++zs)))
theorem Ce:OpR X (binaryOp .Add) EV:=by
 intro pins s σ H x y v u Q I rx ry h
 obtain⟨l,b,xs,zs,rfl,rfl,hH,hB,hz,q⟩:=h
 cases rx
 cases ry;obtain⟨z,its,n,r,hl,e⟩:=I.lstM hH
 obtain⟨z2,its2,n2,r2,hl2,e2⟩:=I.lstM hB
 refine PySem.P.add_list e e2 ?_ (by rw[List.size_toArray,List.size_toArray]; omega)
 have ea:its.toArray++its2.toArray=(its++its2).toArray:=by simp
 rw[ea];exact⟨.ref _,_,I.lnew (t':=s.toks) (r.append r2) (by rw[List.length_append]; omega),rfl,q _ I.fresh⟩
def Fc:R2:=fun x y H Q=>∃ l k xs,x = .ref l∧y = .int k∧H l=some (.lst xs)∧-(2 ^ 63)≤k∧k<2 ^ 63∧xs.length * k.toNat≤sizeLine∧
 ∀ p,H p=none→Q (.ref p) (upd H p (.lst (List.replicate k.toNat xs).flatten))
theorem Bg{α : Type}(xs:List α)(k:Nat):(List.replicate k xs).flatten.length=k * xs.length:=by
 induction k with
 | zero=>simp
 | succ k ih=>rw[List.replicate_succ,List.flatten_cons,List.length_append,ih,Nat.succ_mul,Nat.add_comm]
theorem qC:OpR X (binaryOp .Mult) Fc:=by
 intro pins s σ H x y v u Q I rx ry h
 obtain⟨l,k,xs,rfl,rfl,hH,h1,h2,hz,q⟩:=h
 cases rx;obtain⟨t,rfl⟩:=ry
 obtain⟨z,its,n,r,hl,e⟩:=I.lstM hH
 have hlen:its.toArray.size * k.toNat≤sizeLine:=by rw[List.size_toArray,← hl]; exact hz
 have hcap:¬ its.toArray.size * k.toNat>(2 ^ 63 - 1) / 8:=by
  have:(sizeLine:Nat)≤(2 ^ 63 - 1) / 8:=by decide
  omega
 have hfit:¬ (!Builtin.List.listFitsIndex k)=true:=by
  rw[fitsIndex_both h1 h2];exact Bool.false_ne_true
 have hlong:¬ Builtin.List.listTooLong (its.toArray.size * k.toNat)=true:=by
  rw[zq hlen];exact Bool.false_ne_true
 have hnew:List.foldl (fun x1 x2=>x1++x2) #[] (List.replicate (if its.toArray.isEmpty=true then 0 else k.toNat) its.toArray)=(List.replicate k.toNat its).flatten.toArray:=by
  have f0:∀ m:Nat,List.foldl (fun x1 x2=>x1++x2) #[] (List.replicate m its.toArray)=(List.replicate m its).flatten.toArray:=fun m=>by
   have:=nc its m []
   rw[List.nil_append]at this
   exact this
  rw[f0]
  cases its with
  | nil=>simp
  | cons a r'=>rw[if_neg (by simp)]
 refine wpAny_binaryOp_repeat_ref (T := "list") (U := "int") (by decide) ⟨_,e,rfl⟩ (fun s'=>typeIs_int s' k t) noFill_list_mul F.fills_int_mul F.slot_int_rmul repeat_list F.slot_int_index.lookup
  (call_meets F.slot_int_rmul (typeIs_int s k t) F.entry_int_rmul (F.args_int_rmul_2 _ _) (int___rmul___int_list k t l its.toArray n)
   ⟨e,rfl,⟨_,e,rfl⟩,call_meets F.slot_list_mul ⟨_,e,rfl⟩ F.entry_list_mul (F.args_list_mul_2 _ _) (AutoListH.list___mul___list_int_3 l its.toArray n k t hfit hcap hlong) ⟨e,?_⟩⟩)
 rw[hnew];exact⟨.ref _,_,I.lnew (t':=s.toks) (r.rep k.toNat) (by rw[Bg,Nat.mul_comm]; exact hz),rfl,q _ I.fresh⟩
end
section
variable{prog:Program}{w:World}{A:Around}{E:Value→Shared→Prop}{s:Shared}
end
section
variable{X:Cx}
end
end L2
namespace L2
open PySem PySem.Spec PyProof.Rows
section
variable{κ : Type}[DecidableEq κ]
def aX(kvs:List (κ × V))(k:κ):Option V:=(kvs.find? fun kv=>decide (kv.1=k)).map (·.2)
def cI(kvs:List (κ × V))(k:κ)(v:V):List (κ × V):=
 if (kvs.any fun kv=>decide (kv.1=k))=true then kvs.map (fun kv=>if kv.1=k then (kv.1,v) else kv) else kvs++[(k,v)]
theorem yE{k:κ}:aX ([]:List (κ × V)) k=none:=rfl
theorem cP{p:κ × V}{r:List (κ × V)}{k:κ}(e:p.1=k):aX (p::r) k=some p.2:=by simp[aX,List.find?_cons,e]
theorem cU{p:κ × V}{r:List (κ × V)}{k:κ}(e:¬ p.1=k):aX (p::r) k=aX r k:=by simp[aX,List.find?_cons,e]
theorem iU(k:κ):∀ kvs:List (κ × V),(kvs.any fun kv=>decide (kv.1=k))=(aX kvs k).isSome
 | []=>rfl
 | p::r=>by
  rw[List.any_cons]
  by_cases e:p.1=k
  ·simp only[cP e,decide_eq_true e,Bool.true_or,Option.isSome_some]
  ·rw[cU e,decide_eq_false e,Bool.false_or]; exact iU k r
theorem qt(k j:κ)(y:V):∀ kvs:List (κ × V),aX (kvs.map fun kv=>if kv.1=k then (kv.1,y) else kv) j=(aX kvs j).map fun x=>if j=k then y else x
 | []=>rfl
 | p::r=>by
  have ih:=qt k j y r;rw[List.map_cons]
  by_cases h:p.1=k
  ·rw[if_pos h]
   by_cases e:p.1=j
   ·rw[cP (p:=(p.1,y)) e,cP e,Option.map_some,if_pos (e.symm.trans h)]
   ·rw[cU (p:=(p.1,y)) e,cU e,ih]
  ·rw[if_neg h]
   by_cases e:p.1=j
   ·rw[cP (p:=p) e,cP e,Option.map_some,if_neg (fun z=>h (e.trans z))]
   ·rw[cU (p:=p) e,cU e,ih]
theorem h9(k j:κ)(y:V):∀ kvs:List (κ × V),aX kvs k=none→aX (kvs++[(k,y)]) j=if j=k then some y else aX kvs j
 | [],_=>by
  by_cases e:k=j
  ·rw[if_pos e.symm]; exact cP (p:=(k,y)) e
  ·rw[if_neg (fun z=>e z.symm)]; exact cU (p:=(k,y)) e
 | p::r,hn=>by
  rw[List.cons_append];have hk:¬ p.1=k:=fun z=>by rw[cP z]at hn; cases hn
  rw[cU hk]at hn
  have ih:=h9 k j y r hn
  by_cases e:p.1=j
  ·rw[cP e,cP e,if_neg (fun z=>hk (e.trans z))]
  ·rw[cU e,cU e,ih]
theorem iQ(kvs:List (κ × V))(k j:κ)(y:V):aX (cI kvs k y) j=if j=k then some y else aX kvs j:=by
 unfold cI
 by_cases a:(kvs.any fun kv=>decide (kv.1=k))=true
 ·rw[if_pos a,qt]
  rw[iU]at a
  by_cases e:j=k
  ·obtain⟨x,hx⟩:=Option.isSome_iff_exists.mp a
   rw[if_pos e,e,hx,Option.map_some,if_pos rfl]
  ·rw[if_neg e]
   cases aX kvs j with
   | none=>rfl
   | some x=>rw[Option.map_some,if_neg e]
 ·rw[if_neg a]
  refine h9 k j y kvs ?_
  rw[iU]at a
  cases q:aX kvs k with
  | none=>rfl
  | some x=>rw[q]at a; exact(a rfl).elim
theorem dR(kvs:List (κ × V))(k:κ)(v:V):(cI kvs k v).length≤kvs.length+1:=by
 unfold cI;split
 ·rw[List.length_map]; omega
 ·rw[List.length_append,List.length_cons,List.length_nil]; omega
theorem RelO.isSome_eq{o:Option V}{u:Option Value}(r:RelO o u):o.isSome=u.isSome:=by
 cases o with
 | none=>cases u with
  | none=>rfl
  | some _=>exact(show False from r).elim
 | some _=>cases u with
  | none=>exact(show False from r).elim
  | some _=>rfl
theorem RelO.getD{o:Option V}{u:Option Value}{d:V}{d':Value}(r:RelO o u)(rd:RelV d d'):RelV (o.getD d) (u.getD d'):=by
 cases o with
 | none=>cases u with
  | none=>exact rd
  | some _=>exact(show False from r).elim
 | some _=>cases u with
  | none=>exact(show False from r).elim
  | some _=>exact r
theorem KV.val{kvs:List (κ × V)}{vs:List (κ × Value)}(r:KV kvs vs)(k:κ):RelO (aX kvs k) (valueAt vs k):=by
 unfold KV at r
 induction r with
 | nil=>exact True.intro
 | @cons p q ps qs h t ih=>
  obtain⟨h1,h2⟩:=h
  by_cases e:p.1=k
  ·have e':q.1=k:=h1.symm.trans e
   have b:valueAt (q::qs) k=some q.2:=by simp[valueAt,List.find?_cons,e']
   rw[cP e,b]; exact h2
  ·have e':¬ q.1=k:=fun z=>e (h1.trans z)
   have b:valueAt (q::qs) k=valueAt qs k:=by simp[valueAt,List.find?_cons,e']
   rw[cU e,b]; exact ih
theorem KV.any{kvs:List (κ × V)}{vs:List (κ × Value)}(r:KV kvs vs)(k:κ):(kvs.any fun kv=>decide (kv.1=k))=vs.any fun kv=>decide (kv.1=k):=by
 unfold KV at r
 induction r with
 | nil=>rfl
 | cons h t ih=>rw[List.any_cons,List.any_cons,ih,h.1]
theorem KV.repl{kvs:List (κ × V)}{vs:List (κ × Value)}(r:KV kvs vs)(k:κ){y:V}{u:Value}(ry:RelV y u) :
  KV (kvs.map fun kv=>if kv.1=k then (kv.1,y) else kv) (vs.map fun kv=>if kv.1=k then (kv.1,u) else kv):=by
 unfold KV at r ⊢
 induction r with
 | nil=>exact .nil
 | @cons p q ps qs h t ih=>
  rw[List.map_cons,List.map_cons];refine .cons ?_ ih
  obtain⟨h1,h2⟩:=h
  by_cases e:p.1=k
  ·rw[if_pos e,if_pos (h1.symm.trans e)]; exact⟨h1,ry⟩
  ·rw[if_neg e,if_neg (fun z=>e (h1.trans z))]; exact⟨h1,h2⟩
theorem KV.put{kvs:List (κ × V)}{vs:List (κ × Value)}(r:KV kvs vs)(k:κ){y:V}{u:Value}(ry:RelV y u):KV (cI kvs k y) (stored vs k u):=by
 unfold cI stored;rw[r.any k]
 by_cases e:(vs.any fun kv=>decide (kv.1=k))=true
 ·rw[if_pos e,if_pos e]; exact r.repl k ry
 ·rw[if_neg e,if_neg e]; exact Paired.snoc r ⟨rfl,ry⟩
theorem KV.length{kvs:List (κ × V)}{vs:List (κ × Value)}(r:KV kvs vs):kvs.length=vs.length:=Paired.length r
end
theorem jI{P:Program}{w:World}{k:bD}{u:Value}(r:RelV (kV k) u):(cF P w).is k u=true:=by
 cases k with
 | inl i=>obtain⟨t,e⟩:=(show ∃ t,u=Value.int i t from r); subst e; exact rj P w i t
 | inr x=>obtain⟨t,e⟩:=(show ∃ t,u=Value.str x t from r); subst e; exact q8 P w x t
theorem nh{P:Program}{w:World}:∀ {ks:List bD} {us:List Value},Vals (ks.map kV) us→ItemsAre (cF P w) ks us
 | [],_,r=>by rw[List.map_nil]at r; cases r; exact .nil
 | k::ks,_,r=>by
  rw[List.map_cons]at r
  cases r with
  | cons h t=>exact .cons (jI h) (nh t)
abbrev KT (H:Hp):List (List bD × V)→List (List bD × Addr × Value)→Prop:=Paired fun p q=>p.1=q.1∧H q.2.1=some (.tup (p.1.map kV))∧RelV p.2 q.2.2
theorem KT.val{H:Hp}{kvs:List (List bD × V)}{xs:List (List bD × Addr × Value)}(r:KT H kvs xs)(k:List bD):RelO (aX kvs k) ((atKey xs k).map (·.2)):=by
 induction r with
 | nil=>exact True.intro
 | @cons p q ps qs h t ih=>
  obtain⟨h1,_,h2⟩:=h
  by_cases e:p.1=k
  ·have e':q.1=k:=h1.symm.trans e
   have b:atKey (q::qs) k=some q.2:=by simp[atKey,List.find?_cons,e']
   rw[cP e,b]; exact h2
  ·have e':¬ q.1=k:=fun z=>e (h1.trans z)
   have b:atKey (q::qs) k=atKey qs k:=by simp[atKey,List.find?_cons,e']
   rw[cU e,b]; exact ih
theorem KT.repl{H:Hp}{kvs:List (List bD × V)}{xs:List (List bD × Addr × Value)}(r:KT H kvs xs)(k:List bD){y:V}{u:Value}(ry:RelV y u) :
  KT H (kvs.map fun kv=>if kv.1=k then (kv.1,y) else kv) (xs.map (putAt k u)):=by
 induction r with
 | nil=>exact .nil
 | @cons p q ps qs h t ih=>
  rw[List.map_cons,List.map_cons];refine .cons ?_ ih
  obtain⟨h1,h2,h3⟩:=h
  unfold putAt
  by_cases e:p.1=k
  ·rw[if_pos e,if_pos (h1.symm.trans e)]; exact⟨h1,h2,ry⟩
  ·rw[if_neg e,if_neg (fun z=>e (h1.trans z))]; exact⟨h1,h2,h3⟩
theorem KT.put{H:Hp}{kvs:List (List bD × V)}{xs:List (List bD × Addr × Value)}(r:KT H kvs xs)(k:List bD){b:Addr}{y:V}{u:Value}(hb:H b=some (.tup (k.map kV)))(ry:RelV y u) :
  KT H (cI kvs k y) (storedH xs k b u):=by
 have e:(kvs.any fun kv=>decide (kv.1=k))=(atKey xs k).isSome:=by
  rw[iU,(r.val k).isSome_eq,Option.isSome_map]
 unfold cI storedH;rw[e]
 by_cases q:(atKey xs k).isSome=true
 ·rw[if_pos q,if_pos q]; exact r.repl k ry
 ·rw[if_neg q,if_neg q]; exact Paired.snoc r ⟨rfl,hb,ry⟩
theorem KT.keeps{H H':Hp}{kvs:List (List bD × V)}{xs:List (List bD × Addr × Value)}(r:KT H kvs xs)(ht:∀ b ys,H b=some (.tup ys)→H' b=some (.tup ys)):KT H' kvs xs:=
 Paired.mapP r fun _ _ z=>⟨z.1,ht _ _ z.2.1,z.2.2⟩
section
variable{P:Program}{w:World}{H:Hp}{h:Heap}{a:Addr}
theorem z8{u:HO}(ok:HOk P w H h)(e:Rd H a u):ObjOk P w H h a u:=e.ok ok
theorem oA{kvs:List (bD × V)}(ok:HOk P w H h)(e:Rd H a (.dK kvs)):kvs.length≤sizeLine∧(a == sysModules)=false∧∃ vs,KV kvs vs∧h.DictOf (cF P w) a vs:=
 show ObjOk P w H h a (.dK kvs) from z8 ok e
theorem z6{kvs:List (bD × V)}(ok:HOk P w H h)(e:H a=some (.dK kvs)):kvs.length≤sizeLine∧(a == sysModules)=false∧∃ vs,KV kvs vs∧h.DictOf (cF P w) a vs:=oA ok (.inl e)
theorem lG{ks:List bD}(ok:HOk P w H h)(e:H a=some (.tup (ks.map kV))):(tupleKind (cF P w)).is h ks a:=by
 obtain⟨_,its,r,o,h1,h2,_,n,h3⟩:=(show ObjOk P w H h a (.tup (ks.map kV)) from ok a _ e)
 exact⟨o,its.toArray,n,h1,h2,h3,by simpa using nh r⟩
theorem uG{kvs:List (List bD × V)}(ok:HOk P w H h)(e:Rd H a (.dT kvs)):kvs.length≤sizeLine∧(a == sysModules)=false∧
  ∃ xs,KT H kvs xs∧h.DictOfH (tupleKind (cF P w)) a xs:=by
 obtain⟨z,y,xs,r,o,es,ep,h1,h2,h3,h4,h5⟩:=(show ObjOk P w H h a (.dT kvs) from z8 ok e)
 refine⟨z,y,xs,r,o,es,ep,h1,h2,h3,h4,fun x hx=>?_,h5⟩
 have all:∀ {l:List (List bD × V)} {m:List (List bD × Addr × Value)},KT H l m→∀ x∈m,(tupleKind (cF P w)).is h x.1 x.2.1:=by
  intro l m q
  induction q with
  | nil=>intro x hx; exact nomatch hx
  | @cons p q ps qs hq t ih=>
   intro x hx
   rcases List.mem_cons.mp hx with e | hx
   ·subst e
    exact lG ok (by rw[← hq.1]; exact hq.2.1)
   ·exact ih x hx
 exact all r x hx
theorem DR{kvs:List (List bD × V)}(ok:HOk P w H h)(e:H a=some (.dT kvs)):kvs.length≤sizeLine∧(a == sysModules)=false∧
  ∃ xs,KT H kvs xs∧h.DictOfH (tupleKind (cF P w)) a xs:=uG ok (.inl e)
end
def DGet(H:Hp)(a:Addr)(y:V)(r:Option V):Prop:=
 (∃ kvs k,Rd H a (.dK kvs)∧y=kV k∧r=aX kvs k)∨∃ kvs k b,Rd H a (.dT kvs)∧y = .ref b∧H b=some (.tup (k.map kV))∧r=aX kvs k
def DPut(H:Hp)(a:Addr)(y v:V)(H':Hp):Prop:=
 (∃ kvs k,H a=some (.dK kvs)∧y=kV k∧kvs.length<sizeLine∧H'=upd H a (.dK (cI kvs k v)))∨
 ∃ kvs k b,H a=some (.dT kvs)∧y = .ref b∧H b=some (.tup (k.map kV))∧kvs.length<sizeLine∧H'=upd H a (.dT (cI kvs k v))
theorem DGet.k{H:Hp}{a:Addr}{kvs:List (bD × V)}{k:bD}(e:H a=some (.dK kvs)):DGet H a (kV k) (aX kvs k):=.inl ⟨kvs,k,.inl e,rfl,rfl⟩
theorem DPut.k{H:Hp}{a:Addr}{kvs:List (bD × V)}{k:bD}{v:V}(e:H a=some (.dK kvs))(hl:kvs.length<sizeLine):DPut H a (kV k) v (upd H a (.dK (cI kvs k v))):=.inl ⟨kvs,k,e,rfl,hl,rfl⟩
section
variable{X:Cx}{pins:List (Addr × Obj)}{σ : St}{H:Hp}{s:Shared}{a:Addr}{y v:V}{u r:Value}{o:Option V}{A:Around}{E:Value→Shared→Prop}
theorem Inv.big(I:Inv X pins σ H s):sysModules<s.heap.objs.size:=by
 have h:mainGlobals<s.heap.objs.size:=(I.mod.glob.keeps I.bk).lt
 exact Nat.lt_trans (by decide) h
theorem Gw{Q:Value→Shared→Prop}(hu:A.units+1<cLine)(I:Inv X pins σ H s)(g:DGet H a y o)(ry:RelV y u)(h:∀ s',Inv X pins σ H s'→Q (.bool o.isSome) s') :
  wpAny (model X.prog X.w) A (compareOp .In u (.ref a)) Q E s:=by
 rcases g with ⟨kvs,k,e,ey,l⟩ | ⟨kvs,k,b,e,ey,eb,l⟩
 ·subst ey
  obtain⟨z,hd,vs,rel,dd⟩:=oA I.hok e
  refine wpAny_in_of (jI ry) hd dd.mapOf ?_
  rw[← (rel.val k).isSome_eq,← l];exact h _ (I.tok _)
 ·subst ey
  cases (show u=Value.ref b from ry)
  obtain⟨z,hd,xs,rel,dd⟩:=uG I.hok e
  refine wpAny_in_heap (tupleKind_room_in1 hu) (lG I.hok eb) hd dd ?_
  have q:=(rel.val k).isSome_eq;rw[Option.isSome_map]at q
  rw[← q,← l];exact h _ (I.tok _)
theorem Bh{Q:Value→Shared→Prop}(hu:A.units+1<cLine)(I:Inv X pins σ H s)(g:DGet H a y o)(ry:RelV y u)(h:∀ s',Inv X pins σ H s'→Q (.bool (!o.isSome)) s') :
  wpAny (model X.prog X.w) A (compareOp .NotIn u (.ref a)) Q E s:=by
 rcases g with ⟨kvs,k,e,ey,l⟩ | ⟨kvs,k,b,e,ey,eb,l⟩
 ·subst ey
  obtain⟨z,hd,vs,rel,dd⟩:=oA I.hok e
  refine wpAny_notIn_of (jI ry) hd dd.mapOf ?_
  rw[← (rel.val k).isSome_eq,← l];exact h _ (I.tok _)
 ·subst ey
  cases (show u=Value.ref b from ry)
  obtain⟨z,hd,xs,rel,dd⟩:=uG I.hok e
  refine wpAny_notIn_heap (tupleKind_room_in1 hu) (lG I.hok eb) hd dd ?_
  have q:=(rel.val k).isSome_eq;rw[Option.isSome_map]at q
  rw[← q,← l];exact h _ (I.tok _)
theorem fH{h':Heap}{t':Nat}{ob:HO}(I:Inv X pins σ H s)(mu:wC (H a))(hs:Heap.SameBut a s.heap h')(he:∃ q,h'.get? a=some q)(new:ObjOk X.prog X.w (upd H a ob) h' a ob) :
  Inv X pins σ (upd H a ob) { s with heap:=h',toks:=t' }:=
 I.write (x:=a) (e:=a) mu (.inl rfl) (fun b q hb z=>(hs.2 b hb).trans z) he new
theorem vp{P:Program}{w:World}{H':Hp}{h':Heap}{kvs:List (bD × V)}{vs:List (bD × Value)}(z:kvs.length≤sizeLine)(hd:(a == sysModules)=false)(rel:KV kvs vs)(dd:h'.DictOf (cF P w) a vs) :
  ObjOk P w H' h' a (.dK kvs):=⟨z,hd,vs,rel,dd⟩
theorem wO{H':Hp}{Q:Unit→Shared→Prop}(hu:A.units+1<cLine)(I:Inv X pins σ H s)(g:DPut H a y v H')(ry:RelV y u)(rv:RelV v r)(h:∀ s',Inv X pins σ H' s'→Q () s') :
  wpAny (model X.prog X.w) A (setItem (.ref a) u r) Q E s:=by
 rcases g with ⟨kvs,k,e,ey,l,eH⟩ | ⟨kvs,k,b,e,ey,eb,l,eH⟩
 ·subst ey eH
  obtain⟨z,hd,vs,rel,dd⟩:=z6 I.hok e
  have hz:vs.length≤sizeLine:=by rw[← rel.length]; exact z
  have hl:(cI kvs k v).length≤sizeLine:=by have:=dR kvs k v; omega
  refine wpAny_setItem_pairs (hsz:=hz) (jI ry) dd fun h' dd' hs=>h _ ?_
  have he:∃ q,h'.get? a=some q:=let ⟨q,_,_,hq,_⟩:=dd'; ⟨q,hq⟩
  exact fH I (by rw[e]; exact True.intro) hs he (vp hl hd (rel.put k rv) dd')
 ·subst ey eH
  cases (show u=Value.ref b from ry)
  obtain⟨z,hd,xs,rel,dd⟩:=DR I.hok e
  have hz:xs.length≤sizeLine:=by rw[← Paired.length rel]; exact z
  have hl:(cI kvs k v).length≤sizeLine:=by have:=dR kvs k v; omega
  refine wpAny_setItem_heap (hsz:=hz) (tupleKind_room_in1 hu) (lG I.hok eb) dd fun h' dd' hs=>h _ ?_
  obtain⟨q,es,ep,hq,h2,h3,h4,_,h5⟩:=dd'
  refine fH I (by rw[e]; exact True.intro) hs ⟨q,hq⟩ ⟨hl,hd,_,(rel.put k eb rv).keeps fun c ys ec=>?_,q,es,ep,hq,h2,h3,h4,h5⟩
  rw[am (gq ec e (fun z=>nomatch z))]
  exact ec
end
section
variable{X:Cx}{pins:List (Addr × Obj)}{σ : St}{H:Hp}{s:Shared}{a:Addr}{kvs:List (bD × V)}{k:bD}{u:Value}{A:Around}{E:Value→Shared→Prop}
end
section
variable{X:Cx}{o i e value:Expr}{pos pos' tpos:Pos}{td ty tv:TE}
end
theorem oV{P:Program}{w:World}{H:Hp}(h:Heap)(hb:sysModules<h.objs.size):ObjOk P w H (h.push { cls:=.type "dict", data:=.dict #[] }) h.objs.size (.dK []):=
 ⟨Nat.zero_le _,beq_eq_false_iff_ne.mpr (Ne.symm (Nat.ne_of_lt hb)),[],.nil,Heap.DictOf.new h⟩
def CV:TE:=fun _ H Q=>∀ p,H p=none→Q (.ref p) (upd H p (.dK []))
section
variable{X:Cx}{pos:Pos}
theorem qk:PE X (.Dict [] [] pos) CV:=fun pins s σ H Q I h=>
 wpAny_Dict_empty ⟨.ref s.heap.objs.size,_,I.laid (a:=s.heap.objs.size) (o:=.dK []) (t':=s.toks) (fun _ _ q=>Heap.get?_push_of_some _ q) (Nat.le_refl _) (oV s.heap I.big),rfl,h _ (I.hok.fresh (Nat.le_refl _))⟩
end
def gW:List (TE × TE)→St→Hp→(List (V × V)→Hp→Prop)→Prop
 | [],_,H,Q=>Q [] H
 | (tk,tv)::r,σ,H,Q=>tk σ H fun x H1=>tv σ H1 fun y H2=>gW r σ H2 fun ps H3=>Q ((x,y)::ps) H3
abbrev VV:List (V × V)→List (Value × Value)→Prop:=Paired fun p q=>RelV p.1 q.1∧RelV p.2 q.2
def PPs(X:Cx)(pos:Pos)(keys:List (Option Expr))(values:List Expr)(trs:List (TE × TE)):Prop:=
 ∀ (pins:List (Addr × Obj)) (s:Shared) (σ : St) (H:Hp) (Q:List (V × V)→Hp→Prop),Inv X pins σ H s→gW trs σ H Q→
  wpAny (model X.prog X.w) X.A (evalPairs (pairTrees keys values X.env pos)) (fun vs s'=>∃ ps H',Inv X pins σ H' s'∧VV ps vs∧Q ps H') X.xe s
theorem AS{X:Cx}{pos:Pos}:PPs X pos [] [] []:=fun pins s σ H Q I h=>pairTrees_nil_walk ⟨[],H,I,.nil,h⟩
theorem zv{X:Cx}{pos:Pos}{k v:Expr}{ks:List (Option Expr)}{vs:List Expr}{tk tv:TE}{trs:List (TE × TE)}(hk:PE X k tk)(hv:PE X v tv)(hr:PPs X pos ks vs trs) :
  PPs X pos (some k::ks) (v::vs) ((tk,tv)::trs):=fun pins s σ H Q I h=>
 pairTrees_cons_walk (bq (hk pins s σ H _ I h) fun u s1 ⟨x,H1,I1,rx,q1⟩=>bq (hv pins s1 σ H1 _ I1 q1) fun w2 s2 ⟨y,H2,I2,ry,q2⟩=>
  bq (hr pins s2 σ H2 _ I2 q2) fun ws s3 ⟨ps,H3,I3,rel,q3⟩=>⟨(x,y)::ps,H3,I3,.cons ⟨rx,ry⟩ rel,q3⟩)
def ik(kvs more:List (bD × V)):List (bD × V):=more.foldl (fun acc kv=>cI acc kv.1 kv.2) kvs
theorem KV.merge:∀ {more:List (bD × V)} {rs:List (bD × Value)} {kvs:List (bD × V)} {vs:List (bD × Value)},KV more rs→KV kvs vs→KV (ik kvs more) (merged vs rs):=by
 intro more rs kvs vs r
 unfold KV at r
 induction r generalizing kvs vs with
 | nil=>intro q; exact q
 | @cons p q ps qs h t ih=>
  intro r0
  have e:KV (cI kvs p.1 p.2) (stored vs q.1 q.2):=by
   have:=r0.put p.1 h.2
   rw[← h.1]; exact this
  exact ih e
theorem i8:∀ (more kvs:List (bD × V)),(ik kvs more).length≤kvs.length+more.length
 | [],kvs=>by show kvs.length≤kvs.length+0; omega
 | p::r,kvs=>by
  have h1:=i8 r (cI kvs p.1 p.2);have h2:=dR kvs p.1 p.2;show (ik (cI kvs p.1 p.2) r).length≤_
  rw[List.length_cons]; omega
theorem lK{P:Program}{w:World}:∀ {kvs:List (bD × V)} {ws:List (Value × Value)},VV (kvs.map fun kv=>(kV kv.1,kv.2)) ws→∃ rs,Carries (cF P w) ws rs∧KV kvs rs
 | [],_,r=>by rw[List.map_nil]at r; cases r; exact⟨[],True.intro,.nil⟩
 | p::kvs,_,r=>by
  rw[List.map_cons]at r
  cases r with
  | @cons a b as bs h t=>
   obtain⟨rs,c,q⟩:=lK (P:=P) (w:=w) t
   obtain⟨b1,b2⟩:=b
   exact⟨(p.1,b2)::rs,⟨jI h.1,rfl,c⟩,.cons ⟨rfl,h.2⟩ q⟩
def z0(trs:List (TE × TE)):TE:=fun σ H Q=>∀ p,H p=none→gW trs σ (upd H p (.dK [])) fun ps H2=>H2 p=some (.dK [])∧∃ kvs:List (bD × V),ps=kvs.map (fun kv=>(kV kv.1,kv.2))∧kvs.length≤15∧Q (.ref p) (upd H2 p (.dK (ik [] kvs)))
theorem A8{X:Cx}{pos:Pos}{keys:List (Option Expr)}{values:List Expr}{trs:List (TE × TE)}(h:PPs X pos keys values trs)(hall:keys.all (·.isSome)=true)(hl:keys.length=values.length)(h0:keys≠[])
  (h15:keys.length≤15):PE X (.Dict keys values pos) (z0 trs):=by
 intro pins s σ H Q I q
 have hn:=I.hok.fresh (Nat.le_refl s.heap.objs.size);have I1:=I.laid (a:=s.heap.objs.size) (o:=.dK []) (h':=s.heap.push { cls:=.type "dict", data:=.dict #[] }) (t':=s.toks) (fun _ _ q=>Heap.get?_push_of_some _ q) (Nat.le_refl _) (oV s.heap I.big)
 refine wpAny_Dict_walk (knd:=cF X.prog X.w) hall hl h0 h15 (bq (h pins _ σ _ _ I1 (q _ hn)) fun ws s2 ⟨ps,H2,I2,rel,e,kvs,ep,lk,q2⟩=>?_)
 subst ep;obtain⟨rs,c,rk⟩:=lK (P:=X.prog) (w:=X.w) rel
 obtain⟨z,hd,vs0,r0,dd⟩:=z6 I2.hok e
 cases r0;refine⟨rs,c,dd,fun h' dd' hs=>⟨.ref s.heap.objs.size,_,?_,rfl,q2⟩⟩
 have hz:(ik [] kvs).length≤sizeLine:=by
  have h1:=i8 kvs [];rw[List.length_nil]at h1
  rw[sizeLine_eq]; omega
 have he:∃ q,h'.get? s.heap.objs.size=some q:=let ⟨q,_,_,hq,_⟩:=dd'; ⟨q,hq⟩
 exact fH I2 (by rw[e]; exact True.intro) hs he (vp hz hd (rk.merge .nil) dd')
structure M1 (X:Cx) (o:Expr) (m:Str) (apos:Pos) (e:Expr) (cpos:Pos):Prop where
 base:attributeBase o m X.env (eval o X.env)=eval o X.env
 few:((backTo cpos (starEach [e] X.env)).all (fun x=>!x.1)&&(backToKw cpos (keywordEach [] X.env)).all (fun x=>x.1.isSome)
  && decide (([e]:List Expr).length+([]:List Keyword).length+(if ([]:List Keyword).isEmpty then 0 else 1)<30))=true
 line:(apos.endLine == cpos.line)=true
 trees:backTo cpos (starEach [e] X.env)=[(false,eval e X.env)]
structure M2 (X:Cx) (o:Expr) (m:Str) (apos:Pos) (e f:Expr) (cpos:Pos):Prop where
 base:attributeBase o m X.env (eval o X.env)=eval o X.env
 few:((backTo cpos (starEach [e,f] X.env)).all (fun x=>!x.1)&&(backToKw cpos (keywordEach [] X.env)).all (fun x=>x.1.isSome)
  && decide (([e,f]:List Expr).length+([]:List Keyword).length+(if ([]:List Keyword).isEmpty then 0 else 1)<30))=true
 line:(apos.endLine == cpos.line)=true
 trees:backTo cpos (starEach [e,f] X.env)=[(false,eval e X.env),(false,eval f X.env)]
section
variable{X:Cx}{pins:List (Addr × Obj)}{σ : St}{H:Hp}{s:Shared}{a:Addr}{y d:V}{u r:Value}{o:Option V}{A:Around}{E:Value→Shared→Prop}
end
section
variable{X:Cx}{o e f:Expr}{apos cpos:Pos}{td ty tx:TE}
end
section
variable{X:Cx}{pins:List (Addr × Obj)}{σ : St}{H:Hp}{s:Shared}{a:Addr}{kvs:List (bD × V)}{A:Around}{E:Value→Shared→Prop}
end
section
variable{X:Cx}{pins:List (Addr × Obj)}{σ : St}{H:Hp}{s:Shared}{a:Addr}{y:V}{u:Value}{A:Around}{E:Value→Shared→Prop}
end
end L2
namespace Att
open PySem PySem.W PySem.Calls PyProof.Rows
theorem lL{P:Params}{h:Heap}:∀ (ns:List Int) (vs:List Value),WellAll P h vs (ns.map WData.int)→IntsAre vs ns:=by
 intro ns
 induction ns with
 | nil=>
  intro vs w
  rw[List.map_nil]at w
  cases w;exact .nil
 | cons n ns ih=>
  intro vs w
  rw[List.map_cons]at w
  cases w with
  | cons a b=>
   cases a;exact .cons _ _ (ih _ b)
theorem vR{l:OpenLaw}{n:Nat}(hn:l.most=some n){P:Params}{h:Heap}{args:List WData}{vals:List Value}
  (hpre:l.row.toRowW.claim.pre args=true) (hwl:WellAll P h vals args) :
  ∃ a vs ns,vals=[Value.ref a]∧args=[WData.list (ns.map WData.int)]∧h.get? a=some { cls:=.type "list", data:=.seq vs.toArray }∧IntsAre vs ns∧ns.length≤n:=by
 have hsh:WShape.hasAll [] args [.list .int]=true:=(pre_splitW hpre).1
 have hc:l.pre.holds [] { args:=args }=true:=(pre_splitW hpre).2
 obtain⟨d,r,rfl,h1,h2⟩:=hasAllW_cons hsh
 obtain rfl:=hasAllW_nil h2
 obtain⟨xs,rfl,h3⟩:=hasW_list h1
 obtain⟨ns,rfl⟩:=items_int h3
 have hlen:ns.length≤n:=by
  unfold OpenLaw.pre at hc
  have h4:(WTm.not (.lt (.lit (.int (n:Int))) (.len (.arg 0)))).holds [] { args:=[.list (ns.map .int)] }=true:=by
   have h4:=(holds_andW hc).1;rw[hn]at h4
   exact h4
  have h5:=condW_of h4 (w_not (w_lt w_lit (w_len_list (w_arg rfl))));rw[List.length_map]at h5
  refine Nat.le_of_not_lt fun q=>?_
  have q':(n:Int)<((ns.length:Nat):Int):=by omega
  first
   | (rw[decide_eq_true q']at h5; exact absurd h5 (by decide))
   | (simp at h5; omega)
 cases hwl with
 | cons w1 w2=>
  cases w2
  cases w1 with
  | list ho hall=>exact⟨_,_,ns,rfl,rfl,ho,lL ns _ hall,hlen⟩
theorem w_(l:OpenLaw)(args:List WData):l.row.toRowW.claim.post args (.bool true) args=true:=
 postW_of (r:=l.row.toRowW) (X:=(true == true))
  (show WShape.has [] (.bool true) .bool=true by first | rfl | decide | simp[WShape.has,WShape.arms,WShape.armsAll])
  (show (WTm.eq .res (.lit (.bool true))).value [] { args:=args,res:=some (.bool true),after:=args }=some (.bool (true == true)) from w_eq_bool (w_res rfl) w_lit) rfl
theorem attach_call{l:OpenLaw}{n:Nat}{q:Program}{loose:List Str}{XP:(Str→Option Value)→Heap→Prop}{YP:World→Heap→Prop}{d:DefRec}
  (hn:l.most=some n) (hdf:d.params.defaults=[])
  (call:∀ (w:World) (s₀ s₁:Shared) (mg mb:Str→Option Value) (fa:Addr) (o:Obj) (pm cd doc:Value) (a:Addr) (vs:List Value) (ns:List Int),
   Ground q loose [] XP w s₀ mg mb s₁.heap→YP w s₁.heap→
   s₁.heap.get? fa=some o→o.data = .func (docDef d.name d.params d.body d.scope pm cd doc)→s₁.heap.CodeRec cd d.name→mg d.name=some (.ref fa)→
   s₁.heap.get? a=some { cls:=.type "list", data:=.seq vs.toArray }→IntsAre vs ns→ns.length≤n→s₁.gens = #[]→
   codeAny (model l.prog w) callerA (.call (.ref fa) ⟨[.ref a],[]⟩) (fun r s'=>r = .ok (.ret (.bool true))∧OldK s₁.heap s'.heap∧s'.os=s₁.os∧AllBare s'.gens) s₁) :
  WalkO q loose XP YP l.row.toRowW d [] (fun f vs=>PySem.call f vs):=by
 intro w s₀ s₁ mg mb G Y fa o pm cd doc dV kV ho hd hcd hD hmg hg args vals as hpre hlay hrd hwl hlo
 obtain rfl:dV = .none:=Dflts.none hD hdf
 obtain rfl:kV = .none:=Dflts.noKw hD
 obtain⟨a,vs,ns,rfl,rfl,hobj,hints,hlen⟩:=vR hn hpre hwl
 refine enter_call (codeAny_mono (call w s₀ s₁ mg mb fa o pm cd doc a vs ns G Y ho (fd_plain hd) hcd hmg hobj hints hlen hg) fun r s' hq=>?_)
 obtain⟨rfl,h2,h3,h4⟩:=hq
 exact⟨.inl ⟨.bool true,.bool true,[],rfl,fun _=>rfl,.bool true,w_ l _,fun _=>⟨List.Pairwise.nil,fun _ hm=>(nomatch hm)⟩⟩,h2,h3,h4⟩
section
variable{prog:Program}{w:World}{A:Around}{E:Value→Shared→Prop}{s:Shared}{K:Frag}
end
end Att
namespace L2
open PySem PySem.Spec PyProof.Rows
theorem mW:∀ {vs:List Value} {ns:List Int},IntsAre vs ns→Vals (ns.map V.int) vs
 | _,_,.nil=>.nil
 | _,_,.cons n t h=>.cons ⟨t,rfl⟩ (mW h)
def ya(H:Hp):Prop:=∀ b,H b=none∨∃ o xs,H b=some (.frz o (.lst xs))
theorem x5{P:Program}{w:World}{K:PySem.W.Frag}{mg mb:Str→Option Value}{CX:im}{k:Nat}{fa a:Addr}{fd:FuncData}{x:Str}{sp:Sp}{s₁:Shared}{vs:List Value}{ns:List Int}
  (KX:K.In s₁.heap) (hns:s₁.heap.Ns mainGlobals mg) (hb:s₁.heap.Ns builtinsNs mb) (hbb:∀ x:Str,x ≠ "__name__" → mb x=bootBuiltins x) (hlim:s₁.heap.NoLimit) (hg:s₁.gens = #[])
  (ha:s₁.heap.get? a=some { cls:=.type "list", data:=.seq vs.toArray }) (hi:IntsAre vs ns) (hl:ns.length≤sizeLine) (hr:Room k callerA)
  (F:∀ base:Heap,K.In base→base.Ns mainGlobals mg→FnOk P w K mg base CX k fa fd [x] sp) (hbind:∀ (s:Shared) (u:Value),BindsTo s fd ⟨[u],[]⟩ [(x,u)])
  (hsp:∀ H:Hp,ya H→SqL K H a (ns.map V.int)→sp [.ref a] H (fun v _=>v = .bl true) fun _ _ _=>False)
  (hCX:∀ H e s',CX [] H s₁ (fun _ _ _=>False) e s'→False) :
  codeAny (model P w) callerA (.call (.ref fa) ⟨[.ref a],[]⟩) (fun r s'=>r = .ok (.ret (.bool true))∧OldK s₁.heap s'.heap∧s'.os=s₁.os∧AllBare s'.gens) s₁:=by
 have rv:=mW hi;have lenV:=hi.length
 -- from an abstract heap in which nothing but the script may be tracked
 have core:∀ H:Hp,ya H→SqL K H a (ns.map V.int)→HOk P w H s₁.heap→(∀ b,H b≠none→b=a)→(H a≠none→K.lookup a=none)→
   codeAny (model P w) callerA (.call (.ref fa) ⟨[.ref a],[]⟩) (fun r s'=>r = .ok (.ret (.bool true))∧OldK s₁.heap s'.heap∧s'.os=s₁.os∧AllBare s'.gens) s₁:=by
  intro H hO hS hok hA hK
  have base_of:∀ {b:Addr} {o:Obj},s₁.heap.get? b=some o→H b=none→(iV s₁.heap H).get? b=some o:=fun e n=>yB e n
  have noA:∀ {b:Addr} {o:Obj} {es:Array DictEntry} {ep:Nat},s₁.heap.get? b=some o→o.data = .dict es ep→H b=none:=fun {b o es ep} e d=>by
   cases q:H b with
   | none=>rfl
   | some u=>
    have e':b=a:=hA b (by rw[q]; simp)
    subst e';rw[ha]at e; cases e
    have d':Data.seq vs.toArray _=Data.dict es ep:=d
    cases d'
  have nsK:∀ {b:Addr} {m:Str→Option Value},s₁.heap.Ns b m→(iV s₁.heap H).Ns b m:=fun {b m} ⟨o,es,ep,e,d,r⟩=>⟨o,es,ep,base_of e (noA e d),d,r⟩
  have hKb:K.In (iV s₁.heap H):=fun b o e=>base_of (KX b o e) (by
   cases q:H b with
   | none=>rfl
   | some u=>
    have e':b=a:=hA b (by rw[q]; simp)
    subst e';rw[hK (by rw[q]; simp)]at e; cases e)
  have hM:Mod K mg (iV s₁.heap H):=⟨hKb,nsK hns,⟨mb,nsK hb,hbb⟩,let ⟨mc,h1,h2⟩:=hlim; ⟨mc,nsK h1,h2⟩⟩
  have e0:kD P w K mg (iV s₁.heap H) callerA [] s₁ H:=⟨rfl,hM,fun b o e=>Ay e,Nat.le_of_eq (wR _ _),trivial,fun b hb=>absurd (show b∈([]:List Addr) from hb) (by simp),hok,.of_eq hg⟩
  refine codeAny_mono ((F _ hKb (nsK hns)).run callerA [] s₁ H ⟨[.ref a],[]⟩ [.ref a] [.ref a] _ _ hr e0 (hbind s₁ (.ref a)) (.cons rfl .nil) (hsp H hO hS)) fun r s' h=>?_
  cases r with
  | error e=>exact(hCX H e s' h).elim
  | ok fl=>
   cases fl with
   | next=>exact False.elim h
   | brk=>exact False.elim h
   | cont=>exact False.elim h
   | ret u=>
    obtain⟨v,H',os,bare,un,hok',r',q⟩:=h
    have q':v = .bl true:=q
    subst q';obtain rfl:u=Value.bool true:=r'
    refine⟨rfl,OldK.of_keep fun b o e=>?_,os,bare⟩
    cases q:H b with
    | none=>exact un.keep b o e q (by intro z; exact absurd (show b∈([]:List Addr) from z) (by simp)) (by simp)
    | some u=>
     rcases hO b with z | ⟨ob,xs,z⟩
     ·rw[q]at z; cases z
     ·have z2:=un.frzs b ob _ z
      obtain⟨e1,_⟩:=hok b _ z
      obtain⟨e2,_⟩:=hok' b _ z2
      rw[e]at e1; cases e1
      exact e2
 cases hk:K.lookup a with
 | some o=>
  -- the script is one of the module's own objects
  have e:=KX a o hk;rw[ha]at e
  cases e;refine core (fun _=>none) (fun _=>.inl rfl) (.inr ⟨_,vs.toArray,_,hk,rfl,rfl,rfl,by rw[List.size_toArray,lenV]; exact hl,by simpa using rv⟩) (fun b u z=>by have z':(none:Option HO)=some u:=z; cases z') (fun b z=>absurd rfl z) fun z=>absurd rfl z
 | none=>
  refine core (fun b=>if b=a then some (.frz { cls:=.type "list", data:=.seq vs.toArray } (.lst (ns.map V.int))) else none) (fun b=>?_) (.inl (.inr ⟨{ cls:=.type "list", data:=.seq vs.toArray },if_pos rfl⟩)) (fun b u z=>?_) (fun b z=>?_) fun _=>hk
  ·by_cases hb:b=a
   ·exact .inr ⟨_,_,if_pos hb⟩
   ·exact .inl (if_neg hb)
  ·by_cases hb:b=a
   ·have z':=(if_pos hb).symm.trans z
    cases z';subst hb;exact⟨ha,by rw[List.length_map]; exact hl,vs,_,rv,ha⟩
   ·have z':=(if_neg hb).symm.trans z
    cases z'
  ·by_cases hb:b=a
   ·exact hb
   ·exact absurd (if_neg hb) z
end L2
namespace L2
open PySem PySem.Spec PyProof.Rows
abbrev KOf {K:PySem.W.Frag} {h:Heap} (_:K.In h):PySem.W.Frag:=K
theorem walk_of{l:PySem.W.OpenLaw}{n k:Nat}{q:Program}{loose:List Str}{XP:(Str→Option Value)→Heap→Prop}{YP:World→Heap→Prop}{d:DefRec}{K:Params→PySem.W.Frag}{CX:World→im}{sp:World→Sp}{x:Str}
  (hn:l.most=some n) (hn2:n≤sizeLine) (hdf:d.params.defaults=[]) (hr:Room k callerA)
  (hY:∀ (w:World) (h:Heap),YP w h→(K w.params).In h)
  (F:∀ (w:World) (mg:Str→Option Value) (fa:Addr) (h:Heap),(K w.params).In h→h.Ns mainGlobals mg→mg d.name=some (.ref fa)→
   ∃ fd:FuncData,(∀ (s:Shared) (u:Value),BindsTo s fd ⟨[u],[]⟩ [(x,u)])∧
    ∀ base:Heap,(K w.params).In base→base.Ns mainGlobals mg→FnOk l.prog w (K w.params) mg base (CX w) k fa fd [x] (sp w))
  (hsp:∀ (w:World) (H:Hp) (a:Addr) (ns:List Int),ns.length≤n→ya H→SqL (K w.params) H a (ns.map V.int)→sp w [.ref a] H (fun v _=>v = .bl true) fun _ _ _=>False)
  (hCX:∀ (w:World) (H:Hp) (s:Shared) (e:Value) (s':Shared),CX w [] H s (fun _ _ _=>False) e s'→False) :
  PySem.W.WalkO q loose XP YP l.row.toRowW d [] (fun f vs=>PySem.call f vs):=by
 refine Att.attach_call hn hdf fun w s₀ s₁ mg mb fa o pm cd doc a vs ns G Y ho hd hcd hmg hobj hints hlen hg=>?_
 have KX:=hY w _ Y;obtain⟨fd,hb,hF⟩:=F w mg fa _ KX G.T.g hmg
 exact x5 KX G.T.g G.T.b G.T.builtins G.T.nolimit hg hobj hints (Nat.le_trans hlen hn2) hr hF hb (fun H hO hS=>hsp w H a ns hlen hO hS) fun H e s'=>hCX w H s₁ e s'
end L2
/- THE LAST THEOREM (shape; LID, My.* are yours):
   My.Adr: a structure of the addresses that your layer names (classes,functions); My.Txt K t: a structure (Prop) of the equations over K;
   My.txt_mk:{K} {implicit addresses ..} (e1:nsIn K mainGlobals "law" = some (some (.ref f))) (e2:K.lookup f=some ⟨oc,od,.func (fnOf "law" "law" params body scope dV kV doc pm an cdv ct),sl⟩) (e3:codeIn K cdv "law" = true) .. : ∃ t,My.Txt K t
set_option maxRecDepth 100000 in
set_option maxHeartbeats 0 in
theorem PySem.Challenge.cw_LID_holds : PySem.Challenge.rw_LID.Holds := by
 w_on; o_law; k_head; (case hw=>w_witness2)
 k_fill
 refine L2.walk_of (l:=PySem.Challenge.rw_LID) (n:=63) (k:=40) (x := "script") (CX:=fun w=>..) (sp:=fun _=>My.sp_law) rfl (by decide) rfl ⟨rfl,by decide,by decide⟩ (fun w h Y=>PySem.W.kIn_of Y) ?F ?S ?C
 case F=>
  intro w mg fa h KX G hmg
  have T:∃ t,My.Txt (L2.KOf KX) t:=by
   dsimp only[L2.KOf]                          -- K must stand as «<heap const> w.params» for k_is
   refine' My.txt_mk ?e1 ?e2 ?e3 ..
   (case e1=>PySem.W.k_is)                    -- in the order: a name -> its address -> its object -> its parts
   (case e2=>PySem.W.k_is)
   ..
  obtain⟨t,T⟩:=T
  have e0:=hmg.symm.trans (PySem.W.mg_of KX G T.law)
  cases e0                                       -- fa is the law's own address
  exact⟨_,fun s u=>.of_eq rfl,fun base kb nb=>My.law_fn T kb nb⟩     -- if «.of_eq rfl» comes too early: refine' ⟨_,?b,fun base kb nb=>My.law_fn T kb nb⟩; exact fun s u=>.of_eq rfl
 case S=>exact fun w H a ns hl hO hS=>..
 case C=>exact ..
(the tactic k_is has no namespace: write k_is) -/
namespace L2
open PySem PySem.Spec PyProof.Rows
abbrev iq:im:=fun _ _ _ _ _ _=>False
abbrev E0:XK:=fun _ _ _=>False
theorem Ap{X:Cx}:kW iq X E0:=fun _ _ _ _ _ _ _ h=>h.elim
structure Fun (K:PySem.W.Frag) (x qual:Str) (st:Stmt) (f:Addr) (fd:FuncData):Prop where
 ex:∃ (oc:Value) (od:Option Addr) (kV doc pm:Value) (an:Option Addr) (cdv ct:Value) (osl:Array (Option Value)),
  fd=PySem.W.fnOf x qual (defArgs st) (defBody st) (defScope st) .none kV doc pm an cdv ct∧K.lookup f=some ⟨oc,od,.func fd,osl⟩∧PySem.W.codeIn K cdv qual=true
 kp:PySem.W.keepIn K (.ref f)=true
section
variable{P:Program}{w:World}{K:PySem.W.Frag}{mg:Str→Option Value}{base:Heap}
theorem Fun.ok{x qual:Str}{st:Stmt}{f:Addr}{fd:FuncData}{N ps:List Str}{k:Nat}{sp:Sp}(F:Fun K x qual st f fd)(S:aU N ps (defScope st))(len:∀ vs H Q E,sp vs H Q E→vs.length=ps.length)
  (hbody:∀ (cdv:Value) (A:Around) (outer:List Env) (s:Shared) (H:Hp) (vs:List V) (Q:VK) (E:XK),Room k (A.deeper (envOfC qual (defScope st) s.heap.objs.size f cdv))→sp vs H Q E→
   ∃ t,PSs (ie iq P w K mg base N qual (defScope st) f cdv A outer s H E).nox (defBody st) t∧t { nx:=fun _ H'=>Q .non H',rt:=Q } (start N vs) H):FnOk P w K mg base iq (k+1) f fd ps sp:=by
 obtain⟨oc,od,kV,doc,pm,an,cdv,ct,osl,rfl,lk,hcd⟩:=F.ex
 refine Aq lk hcd S len fun A outer s H vs Q E hr hsp=>?_
 obtain⟨t,h,q⟩:=hbody cdv A outer s H vs Q E hr hsp
 exact⟨t,h.nox,q⟩
theorem Fun.binds{x qual:Str}{st:Stmt}{f:Addr}{fd:FuncData}{ps:List Str}(F:Fun K x qual st f fd)
  (h:∀ (kV doc pm:Value) (an:Option Addr) (cdv ct:Value) (us:List Value),us.length=ps.length→bindArgs (PySem.W.fnOf x qual (defArgs st) (defBody st) (defScope st) .none kV doc pm an cdv ct) ⟨us,[]⟩=pure (ps.zip us)):Binds K fd ps []:=by
 obtain⟨oc,od,kV,doc,pm,an,cdv,ct,osl,rfl,lk,hcd⟩:=F.ex
 exact .all (h kV doc pm an cdv ct)
theorem bx{x qual:Str}{st:Stmt}{f:Addr}{oc:Value}{od an:Option Addr}{osl:Array (Option Value)}{kV doc pm cdv ct:Value}(l:K.lookup f=some ⟨oc,od,.func (PySem.W.fnOf x qual (defArgs st) (defBody st) (defScope st) .none kV doc pm an cdv ct),osl⟩)
  (c:PySem.W.codeIn K cdv qual=true) (k:PySem.W.keepIn K (.ref f)=true):Fun K x qual st f (PySem.W.fnOf x qual (defArgs st) (defBody st) (defScope st) .none kV doc pm an cdv ct):=⟨⟨oc,od,kV,doc,pm,an,cdv,ct,osl,rfl,l,c⟩,k⟩
end
section
variable{X:Cx}
theorem pv(i:Nat){x:Str}{pos:Pos}(hN:X.N[i]? = some x:=by rfl)(hv:au X.env.scope x:=by first | exact vSs (by decide +kernel) | exact Or.inl rfl)(hd:(x == ("__debug__" : Str))=false:=by decide)
  (hcd:(x == ("__classdict__" : Str))=false:=by decide):PE X (.Name x pos) (lZ i):=vQ hN hv hd hcd
end
theorem ia{A B:Prop}(h:B):if false=true then A else B:=by
 rw[if_neg Bool.false_ne_true];exact h
theorem GL{A B:Prop}(h:A):if true=true then A else B:=by
 rw[if_pos rfl];exact h
theorem bg{c A B:Prop}[Decidable c](h1:c→A)(h2:¬ c→B):if c then A else B:=by
 by_cases h:c
 ·rw[if_pos h]
  exact h1 h
 ·rw[if_neg h]
  exact h2 h
def Same(H H':Hp):Prop:=∀ b o,H b=some o→H' b=some o
theorem Same.refl(H:Hp):Same H H:=fun _ _ h=>h
theorem Same.trans{H H1 H2:Hp}(a:Same H H1)(b:Same H1 H2):Same H H2:=fun c o h=>b c o (a c o h)
theorem Same.free{H H':Hp}(e:Same H H'){l:Addr}(h:H' l=Option.none):H l=Option.none:=by
 cases q:H l with
 | none=>rfl
 | some o=>
  rw[e l o q]at h
  cases h
theorem Same.seq{K:PySem.W.Frag}{H H':Hp}{a:Addr}{xs:List V}(e:Same H H')(h:SqL K H a xs):SqL K H' a xs:=by
 rcases h with (h | ⟨o,h⟩) | h
 ·exact .inl (.inl (e _ _ h))
 ·exact .inl (.inr ⟨o,e _ _ h⟩)
 ·exact .inr h
section
variable{κ : Type}[DecidableEq κ]
end
end L2
namespace L2
open PySem PySem.Spec PyProof.Rows
def dM(cells:List (Str × Addr)):List (Str × NameKind)→List (Str × Addr)→List (Str × Addr)
 | [],acc=>acc
 | (n,k)::r,acc=>dM cells r (if k == .free then (n,(cells.lookup n).getD 0)::acc else acc)
theorem qJ{env:Env}{f:(Str × NameKind)→List (Str × Addr)→Sem (ForInStep (List (Str × Addr)))}
  (hf:∀ n k cs,f (n,k) cs=if (k == NameKind.free)=true then (cellOf env n >>= fun c=>pure (ForInStep.yield ((n,c)::cs))) else pure (ForInStep.yield cs)) :
  ∀ (names:List (Str × NameKind)) (acc:List (Str × Addr)),(∀ x∈names,x.2 = .free→∃ c,env.cells.lookup x.1=some c)→
  forIn names acc f=(pure (dM env.cells names acc):Sem _)
 | [],acc,_=>rfl
 | (n,k)::r,acc,h=>by
  rw[List.forIn_cons,hf];have ih:=fun acc=>qJ hf r acc fun x hx=>h x (List.mem_cons_of_mem _ hx)
  by_cases hk:(k == NameKind.free)=true
  ·rw[if_pos hk]
   obtain⟨c,hc⟩:=h (n,k) List.mem_cons_self (by simpa using hk)
   have e:cellOf env n=pure c:=by unfold cellOf; rw[hc]
   rw[e,pure_bind,pure_bind];show forIn r ((n,c)::acc) f=_
   rw[ih];show _=pure (dM env.cells r (if (k == NameKind.free)=true then (n,(env.cells.lookup n).getD 0)::acc else acc))
   rw[if_pos hk,hc]; rfl
  ·rw[if_neg hk,pure_bind]
   show forIn r acc f=_
   rw[ih];show _=pure (dM env.cells r (if (k == NameKind.free)=true then (n,(env.cells.lookup n).getD 0)::acc else acc))
   rw[if_neg hk]
theorem i7{env:Env}{scope:Scope}(h:∀ x∈scope.names,x.2 = .free→∃ c,env.cells.lookup x.1=some c):closureFor scope env=pure (dM env.cells scope.names []):=by
 unfold closureFor;show (forIn scope.names ([]:List (Str × Addr)) _ >>= fun cs=>pure cs)=_
 rw[qJ (env:=env) (fun n k cs=>?_) _ _ h]
 ·rfl
 ·rfl
theorem j9{cells:List (Str × Addr)}:∀ {names:List (Str × NameKind)} {acc:List (Str × Addr)} {x:Str} {c:Addr},(∀ y∈names,y.2 = .free→∃ c,cells.lookup y.1=some c)→
  (∀ y c,acc.lookup y=some c→cells.lookup y=some c)→(dM cells names acc).lookup x=some c→cells.lookup x=some c
 | [],acc,x,c,_,ha,h=>ha x c h
 | (n,k)::r,acc,x,c,hn,ha,h=>by
  refine j9 (names:=r) (fun y hy=>hn y (List.mem_cons_of_mem _ hy)) ?_ h
  intro y d hy
  by_cases hk:(k == NameKind.free)=true
  ·rw[if_pos hk]at hy
   obtain⟨e,he⟩:=hn (n,k) List.mem_cons_self (by simpa using hk)
   have he':cells.lookup n=some e:=he
   rw[List.lookup_cons]at hy
   by_cases hyn:(y == n)=true
   ·rw[hyn]at hy
    have hy':(cells.lookup n).getD 0=d:=Option.some.inj hy
    rw[he']at hy'
    have e1:y=n:=by simpa using hyn
    rw[e1,he',← hy']; rfl
   ·have hf:(y == n)=false:=by simpa using hyn
    rw[hf]at hy
    exact ha y d hy
  ·rw[if_neg hk]at hy
   exact ha y d hy
theorem ll{cells:List (Str × Addr)}:∀ {names:List (Str × NameKind)} {acc:List (Str × Addr)} {x:Str},(∃ c,acc.lookup x=some c)→∃ c,(dM cells names acc).lookup x=some c
 | [],_,_,h=>h
 | (n,k)::r,acc,x,h=>by
  refine ll (names:=r) ?_
  by_cases hk:(k == NameKind.free)=true
  ·rw[if_pos hk,List.lookup_cons]
   cases hx:(x == n) with
   | true=>exact⟨_,rfl⟩
   | false=>exact h
  ·rw[if_neg hk]; exact h
theorem iL{cells:List (Str × Addr)}:∀ {names:List (Str × NameKind)} {acc:List (Str × Addr)} {x:Str},(x,NameKind.free)∈names→∃ c,(dM cells names acc).lookup x=some c
 | (n,k)::r,acc,x,h=>by
  rcases List.mem_cons.mp h with e | h
  ·have e1:x=n:=congrArg (·.1) e
   have e2:NameKind.free=k:=congrArg (·.2) e
   subst e1 e2;refine ll (names:=r) ?_
   rw[if_pos (by rfl),List.lookup_cons]
   rw[beq_self_eq_true];exact⟨_,rfl⟩
  ·exact iL (names:=r) h
theorem d0{env:Env}:∀ {names:List (Str × NameKind)} {x:Str} {k:NameKind},(∀ y∈names,y.2 ≠ .cell)→
  (names.map fun (n,k)=>if (k == NameKind.free&&env.scope.kind == .function&&env.kindOf n == some .cell) then (n,NameKind.cell) else (n,k)).lookup x=some k→(k = .cell∨k = .free)→(x,NameKind.free)∈names
 | [],_,_,_,h,_=>by simp at h
 | (n,k0)::r,x,k,hc,h,hk=>by
  have ih:=@d0 env r x k (fun y hy=>hc y (List.mem_cons_of_mem _ hy))
  rw[List.map_cons]at h
  by_cases hf:(k0 == NameKind.free&&env.scope.kind == .function&&env.kindOf n == some .cell)=true
  ·have hk0:k0 = .free:=by
    have:(k0 == NameKind.free)=true:=by
     rw[Bool.and_eq_true,Bool.and_eq_true]at hf; exact hf.1.1
    simpa using this
   dsimp only at h
   rw[if_pos hf,List.lookup_cons]at h
   cases hx:(x == n) with
   | true=>
    have:x=n:=by simpa using hx
    rw[this,hk0]; exact List.mem_cons_self
   | false=>rw[hx]at h; exact List.mem_cons_of_mem _ (ih h hk)
  ·dsimp only at h
   rw[if_neg hf,List.lookup_cons]at h
   cases hx:(x == n) with
   | true=>
    rw[hx]at h
    have e:k0=k:=Option.some.inj h
    have:x=n:=by simpa using hx
    rcases hk with z | z
    ·exact absurd (e.trans z) (hc (n,k0) List.mem_cons_self)
    ·rw[this,e,z]; exact List.mem_cons_self
   | false=>rw[hx]at h; exact List.mem_cons_of_mem _ (ih h hk)
def bY(X:Cx)(N0 T:List Str)(scope:Scope)(C:Addr)(fp:List Addr)(s:Shared)(H:Hp):Cx:=
 { X with N:=N0++T,s₀:=s,H₀:=H,env:=compEnvC scope (dM X.env.cells scope.names []) C X.env,outer:=X.stack,stack:=X.stack,ex:=fp,fn:=fun _=>false,pn:=[],xe:=fun _ _=>False }
structure gX (X:Cx) (N0 T:List Str) (scope:Scope):Prop where
 kind:scope.kind = .function
 nocell:∀ y∈scope.names,y.2 ≠ .cell
 names:∀ y∈scope.names,y.2 = .local→scope.names.lookup y.1=some .local
 free:∀ y∈scope.names,y.2 = .free→X.env.kindOf y.1=some .cell∨X.env.kindOf y.1=some .free
 apart:∀ y∈scope.names,y.2 = .local→y.1∉N0
 len0:N0.length=X.N.length
 same:∀ (i:Nat) (x:Str) (k:NameKind),N0[i]? = some x→(x,k)∈scope.names→X.N[i]? = some x
theorem i9{prog:Program}{w:World}{A:Around}{R:Result→Shared→Prop}{s:Shared}{elt target iter:Expr}{ifs:List Expr}{scope:Scope}{pos:Pos}{it acc:Value}{env:Env}(I:Nat→Shared→Prop)
  (turn:∀ n s,I n s→wpAny (model prog w) A (pyNext it) (fun r s₁=>match r with
   | none=>R (.ok .next) s₁
   | some v=>wpAny (model prog w) A (letOwnedTupleGo target it v) (fun _ s₀=>wpAny (model prog w) A (assign target env v) (fun _ s₂=>
     wpAny (model prog w) A (forIn ifs true fun c r=>if r=true then do let ok ← isTrue c env (eval c env); pure (ForInStep.yield ok) else pure (ForInStep.yield r)) (fun ok s₃=>
      if ok=true then wpAny (model prog w) A (eval elt env) (fun x s₄=>
       wpAny (model prog w) A (call (.builtin "list.append") [acc,x]) (fun _ s₅=>∃ m,m<n∧I m s₅) (fun _ _=>False) s₄) (fun _ _=>False) s₃
      else ∃ m,m<n∧I m s₃) (fun _ _=>False) s₂) (fun _ _=>False) s₀) (fun _ _=>False) s₁) (fun _ _=>False) s)
  (n:Nat) (h:I n s) :
  codeAny (model prog w) A (.compLoop (.ListComp elt [⟨target,iter,ifs,0⟩] scope pos) 0 it acc env) R s:=by
 refine codeAny_loop rfl I (fun n s hI=>?_) n h
 show wpAny _ A ((compTurn (.ListComp elt [⟨target,iter,ifs,0⟩] scope pos) 0 it acc env).onRaise (fun x=>do noteFrame x env; theTreesLotGoes x)) _ _ s
 refine wpAny_noted ?_
 rw[compTurn_list];refine wpAny_bind (wpAny_standAt (wpAny_bind (wpAny_mono (turn n s hI) (fun r s₁ h₁=>?_) fun _ _ h'=>h'.elim)))
 cases r with
 | none=>exact wpAny_pure h₁
 | some v=>
  refine wpAny_bind (wpAny_mono h₁ (fun _ s₀ h₀=>?_) fun _ _ h'=>h'.elim)
  refine wpAny_bind (wpAny_mono h₀ (fun _ s₂ h₂=>wpAny_bind (wpAny_mono h₂ (fun ok s₃ h₃=>?_) fun _ _ h'=>h'.elim)) fun _ _ h'=>h'.elim)
  cases ok with
  | false=>exact wpAny_pure ⟨rfl,h₃⟩
  | true=>
   exact wpAny_bind (wpAny_bind (wpAny_mono h₃ (fun x s₄ h₄=>wpAny_bind (wpAny_mono h₄ (fun _ s₅ h₅=>wpAny_pure (wpAny_pure ⟨rfl,h₅⟩)) fun _ _ h'=>h'.elim)) fun _ _ h'=>h'.elim))
def PIfs(X:Cx)(ifs:List Expr)(tc:TT):Prop:=
 ∀ (pins:List (Addr × Obj)) (s:Shared) (σ : St) (H:Hp) (Q:Bool→Hp→Prop),Inv X pins σ H s→tc σ H Q→
  wpAny (model X.prog X.w) X.A (forIn ifs true fun c r=>if r=true then do let ok ← isTrue c X.env (eval c X.env); pure (ForInStep.yield ok) else pure (ForInStep.yield r)) (TP X pins σ Q) X.xe s
def pB:TT:=fun _ H Q=>Q true H
theorem du{X:Cx}:PIfs X [] pB:=fun _ _ _ H _ I h=>wpAny_tests_nil ⟨H,I,h⟩
theorem zp{X:Cx}{c:Expr}{tc:TT}(hc:PT X c tc):PIfs X [c] tc:=fun pins s σ H Q I h=>wpAny_tests_one (hc pins s σ H Q I h)
def tu(g:TG)(n:Nat):Prop:=∀ x σ H Q,g x σ H Q→g x σ H fun σ' H'=>Q σ' H'∧σ'.length=σ.length∧∀ k,k<n→σ'[k]? = σ[k]?
def vh(g:gO)(n:Nat):Prop:=∀ x σ H Q,g x σ H Q→g x σ H fun σ' H'=>Q σ' H'∧σ'.length=σ.length∧∀ k,k<n→σ'[k]? = σ[k]?
theorem cS{i n:Nat}(h:n≤i):tu (gw i) n:=fun x σ H Q q=>⟨q,by simp,fun k hk=>by rw[List.getElem?_set_ne (by omega)]⟩
theorem y7{n:Nat}:vh t9 n:=fun x σ H Q q=>⟨q.1,q.2,rfl,fun _ _=>rfl⟩
def tX(g:TG):Prop:=∀ x σ H Q Q',(∀ σ' H',Q σ' H'→Q' σ' H')→g x σ H Q→g x σ H Q'
def ly(g:gO):Prop:=∀ x σ H Q Q',(∀ σ' H',Q σ' H'→Q' σ' H')→g x σ H Q→g x σ H Q'
theorem mD{i:Nat}:tX (gw i):=fun x σ H Q Q' h q=>h _ _ q
theorem sF:ly t9:=fun x σ H Q Q' h q=>⟨q.1,h _ _ q.2⟩
theorem zl{t:TG}{u:gO}(h1:tX t)(h2:ly u):ly (oC t u):=fun x σ H Q Q' h ⟨v,r,e,q⟩=>⟨v,r,e,h1 _ _ _ _ _ (fun σ' H' z=>h2 _ _ _ _ _ h z) q⟩
theorem mV{t:TG}{u:gO}{n:Nat}(h1:tu t n)(m1:tX t)(h2:vh u n)(m2:ly u):vh (oC t u) n:=fun x σ H Q ⟨v,r,e,q⟩=>by
 refine⟨v,r,e,?_⟩
 refine m1 _ _ _ _ _ (fun σ' H' z=>?_) (h1 _ _ _ _ q)
 obtain⟨z,l1,k1⟩:=z
 exact m2 _ _ _ _ _ (fun σ2 H2 y=>⟨y.1,y.2.1.trans l1,fun k hk=>(y.2.2 k hk).trans (k1 k hk)⟩) (h2 _ _ _ _ z)
theorem AG{K:PySem.W.Frag}{m n:Nat}{t:gO}(h:vh t n):tu (uw K m t) n:=fun x σ H Q ⟨a,xs,e,q,l,z⟩=>⟨a,xs,e,q,l,h _ _ _ _ z⟩
def g_(J:It)(g:TG)(tc:TT)(te:TE)(nT:Nat)(σ : St)(D:Addr)(Q:VK)(H:Hp):Prop:=
 ∃ W:Nat→Nat→List V→Hp→Prop,(∃ m,W 0 m [] H)∧∀ i m ys H2,W i m ys H2→
  (J.stop i H2∧Q (.ref D) H2)∨(J.go i H2∧∀ x H',J.yld i H2 x H'→g x (σ++List.replicate nT none) H' fun σ2 H3=>tc σ2 H3 fun b H4=>
   if b=true then te σ2 H4 fun y H5=>H5 D=some (.lst ys)∧ys.length<sizeLine∧∃ m',m'<m∧W (i+1) m' (ys++[y]) (upd H5 D (.lst (ys++[y]))) else ∃ m',m'<m∧W (i+1) m' ys H4)
def uU(wi:TI)(g:TG)(tc:TT)(te:TE)(nT:Nat):TE:=fun σ H Q=>wi σ H fun J H1=>∀ D,H1 D=none→g_ J g tc te nT σ D Q (upd H1 D (.lst []))
theorem HOk.sameBut{P:Program}{w:World}{H:Hp}{h h':Heap}{C:Addr}(x:HOk P w H h)(hs:Heap.SameBut C h h')(hC:H C=none):HOk P w H h':=fun a o e=>
 (x a o e).stay (fun b u hb q=>(hs.2 b (by
  rintro rfl
  rcases hb with z | z
  ·rw[z]at hC; rw[hC]at e; cases e
  ·rw[hC]at z; cases z)).trans q) (fun _ q=>q) fun _ _ q=>q
section
variable{X:Cx}{N0 T:List Str}{scope:Scope}{tg elt iter:Expr}{ifs:List Expr}{pos:Pos}{wi:TI}{g:TG}{tc:TT}{te:TE}
theorem ng{pins:List (Addr × Obj)}{σ : St}{H:Hp}{s:Shared}{E:Value→Shared→Prop}{it:Addr}{fp:List Addr}{tn:Nat→Heap→Prop}{J:It}{Q:VK}{RR:Value→Addr→Result→Shared→Prop}
  (S:gX X N0 T scope) (hc:X.calm=true)
  (hg:∀ C fp s H,PG (bY X N0 T scope C fp s H) tg g) (hfr:tu g X.N.length) (hi:∀ C fp s H,PIfs (bY X N0 T scope C fp s H) ifs tc) (he:∀ C fp s H,PE (bY X N0 T scope C fp s H) elt te)
  (I:Inv X pins σ H s) (Tn:oT X.prog X.w X.K tg J fp it tn) (st:tn 0 s.heap) (hf:∀ b∈fp,ii X pins H b)
  (h:∀ D,H D=none→g_ J g tc te T.length σ D Q (upd H D (.lst [])))
  (hRR:∀ D C s' H' m,s'.heap.Ns C m→H' C=none→C≠X.env.locals→(∀ x c,X.env.cells.lookup x=some c→c≠C)→(∀ p∈X.pn++pins,p.1≠C)→X.s₀.heap.objs.size≤C→Inv X pins σ H' s'→
   (∀ h',Heap.SameBut C s'.heap h'→Inv X pins σ H' { s' with heap:=h' })→Q (.ref D) H'→RR (.ref D) C (.ok .next) s') :
  wpAny (model X.prog X.w) X.A (newList []) (fun acc s₃=>wpAny (model X.prog X.w) X.A (newFunctionEnv scope X.env.globals (dM X.env.cells scope.names []) [] X.env.qual none .none (some X.env)) (fun cenv s₄=>
   codeAny (model X.prog X.w) X.A (.compStart (.ListComp elt [⟨tg,iter,ifs,0⟩] scope pos) 0 (.ref it) acc { cenv with scope:=relabel scope X.env }) (RR acc cenv.locals) s₄) E s₃) E s:=by
 refine wpAny_newObj_type (wpAny_newFunctionEnv S.nocell (by intro y hy; simp at hy) (fun h₁ hns₁ hsb₁=>?_) S.kind)
 dsimp only at hns₁ hsb₁ ⊢
 generalize hH2:s.heap.push { cls:=.type "list", dict:=none,data:=.seq ([]:List Value).toArray }=P2 at hns₁ hsb₁ ⊢;have hC:P2.objs.size=s.heap.objs.size+1:=by rw[← hH2,Heap.size_push]
 -- the new list D, the block's names C
 obtain⟨D,hD⟩ : ∃ D:Nat,D=s.heap.objs.size:=⟨_,rfl⟩
 obtain⟨C,hCC⟩ : ∃ C:Nat,C=P2.objs.size:=⟨_,rfl⟩
 rw[← hCC]at hns₁ hsb₁ hC ⊢
 rw[← hD]at hC ⊢
 have hDC:D≠C:=by omega
 have hDlt:D<C:=by omega
 have neD:∀ b o,s.heap.get? b=some o→b≠D:=fun b o e=>hD ▸ Nat.ne_of_lt (Heap.lt_size e)
 have neC:∀ b o,s.heap.get? b=some o→b≠C:=fun b o e=>Nat.ne_of_lt (Nat.lt_trans (hD ▸ Heap.lt_size e) hDlt)
 have old:∀ b o,s.heap.get? b=some o→h₁.get? b=some o:=fun b o e=>hsb₁.extBut b o (neC b o e) (Heap.get?_push_of_some _ (hH2 ▸ Heap.get?_push_of_some _ e))
 have hHD:H D=none:=I.hok.fresh (by omega)
 have hHC:H C=none:=I.hok.fresh (by omega)
 have dat:h₁.get? D=some { cls:=.type "list", data:=.seq ([]:List Value).toArray 0 }:=by
  refine hsb₁.extBut _ _ hDC (Heap.get?_push_of_some _ ?_)
  rw[← hH2,hD];exact Heap.get?_push_size _ rfl
 -- the block's context stands
 have hcl:∀ x c,(dM X.env.cells scope.names []).lookup x=some c→X.env.cells.lookup x=some c:=fun x c e=>
  j9 (fun y hy hk=>I.ok.has y.1 (S.free y hy hk)) (fun y c z=>by simp at z) e
 have okC:(bY X N0 T scope C fp s H).Ok:=by
  refine⟨I.ok.mod,?_,I.ok.glob,I.ok.blt,?_,fun x y c e1 e2=>I.ok.inj x y c (hcl x c e1) (hcl y c e2),fun x hx=>?_,fun x c z _=>(by cases z),I.ok.hd,I.ok.frames,.inl rfl,fun b hb=>⟨?_,fun x c e=>(hf b hb).2.2.2.2.1 x c (hcl x c e)⟩,
   I.bs,?_,fun b o e hb=>?_,fun b hb z=>?_,I.stack,I.stkFree⟩
  ·show (relabel scope X.env).kind = .function
   exact S.kind
  ·show s.heap.objs.size≤C
   omega
  ·have hx':(relabel scope X.env).names.lookup x=some .cell∨(relabel scope X.env).names.lookup x=some .free:=hx
   have m:(x,NameKind.free)∈scope.names:=by
    rcases hx' with z | z
    ·exact d0 S.nocell z (.inl rfl)
    ·exact d0 S.nocell z (.inr rfl)
   exact iL m
  ·show b≠C
   obtain⟨o,e,_⟩:=Tn.obj 0 _ st b hb
   exact neC b o e
  ·exact Nat.le_trans I.ok.bsz I.sz
  ·obtain⟨_,_,_,z,_⟩:=hf b hb
   rcases z with z | z
   ·exact I.ok.noex b o e z
   ·exact absurd (Nat.lt_of_lt_of_le (Nat.lt_of_lt_of_le (Heap.lt_size e) I.ok.bsz) z) (Nat.lt_irrefl _)
  ·obtain⟨_,z1,z2,_⟩:=hf b hb
   rcases List.mem_cons.mp (I.stkSub b z) with q | q
   ·exact z1 q
   ·exact z2 q
 have I1:Inv (bY X N0 T scope C fp s H) [] (σ++List.replicate T.length none) (upd H D (.lst [])) { s with heap:=h₁,toks:=s.toks+([]:List (Str × Value)).length }:=by
  refine⟨okC,rfl,I.bare,Un.laid (h:=s.heap) old (by omega) hHD,⟨_,hns₁,fun i x v e1 e2 e3=>?_⟩,fun x c e=>?_,?_,fun x c e=>?_,fun p hp=>(by simp[bY]at hp),I.hok.laid old (by omega) ?_,?_⟩
  ·have e1':(N0++T)[i]? = some x:=e1
   have hl:=I.len;have hl0:=S.len0
   have hi:i<σ.length:=by
    rcases Nat.lt_or_ge i σ.length with z | z
    ·exact z
    ·rw[List.getElem?_append_right z]at e2
     rw[List.getElem?_replicate]at e2
     split at e2 <;> cases e2
   rw[List.getElem?_append_left hi]at e2
   rw[List.getElem?_append_left (by omega)]at e1'
   have hxN:x∈N0:=List.mem_of_getElem? e1'
   have e3':(relabel scope X.env).names.lookup x=some .local∨(relabel scope X.env).names.lookup x=some .cell∨(relabel scope X.env).names.lookup x=some .free:=e3
   have fr:(relabel scope X.env).names.lookup x=some .cell∨(relabel scope X.env).names.lookup x=some .free:=by
    rcases e3' with z | z | z
    ·exfalso
     -- a local of the block is no tracked name
     have key:∀ (names:List (Str × NameKind)),(names.map fun (n,k)=>if (k == NameKind.free&&X.env.scope.kind == .function&&X.env.kindOf n == some .cell) then (n,NameKind.cell) else (n,k)).lookup x=some .local→(x,NameKind.local)∈names:=by
      intro names
      induction names with
      | nil=>intro z; simp at z
      | cons y r ih=>
       obtain⟨n,k⟩:=y
       intro z
       rw[List.map_cons]at z
       dsimp only at z
       by_cases hfk:(k == NameKind.free&&X.env.scope.kind == .function&&X.env.kindOf n == some .cell)=true
       ·rw[if_pos hfk,List.lookup_cons]at z
        cases hx:(x == n) with
        | true=>rw[hx]at z; cases z
        | false=>rw[hx]at z; exact List.mem_cons_of_mem _ (ih z)
       ·rw[if_neg hfk,List.lookup_cons]at z
        cases hx:(x == n) with
        | true=>
         rw[hx]at z
         have ek:k = .local:=Option.some.inj z
         have en:x=n:=by simpa using hx
         rw[ek,en]; exact List.mem_cons_self
        | false=>rw[hx]at z; exact List.mem_cons_of_mem _ (ih z)
     exact S.apart (x,.local) (key _ z) rfl hxN
    ·exact .inl z
    ·exact .inr z
   have m:(x,NameKind.free)∈scope.names:=by
    rcases fr with z | z
    ·exact d0 S.nocell z (.inl rfl)
    ·exact d0 S.nocell z (.inr rfl)
   have kX:=S.free _ m rfl;obtain⟨mm,hn,hl'⟩:=I.loc
   obtain⟨u,r,lk⟩:=hl' i x v (S.same i x _ e1' m) e2 (.inr kX)
   refine⟨u,r,.inr ⟨fr,?_⟩⟩
   rcases lk with ⟨z,_⟩ | ⟨_,c,ec,cc⟩
   ·rcases kX with q | q
    ·rw[q]at z; cases z
    ·rw[q]at z; cases z
   ·obtain⟨c',ec'⟩:=iL (cells:=X.env.cells) (acc:=[]) m
    have:=hcl x c' ec'
    rw[ec]at this; cases this
    exact⟨c,ec',cc.keeps old⟩
  ·obtain⟨v,z⟩:=I.cell x c (hcl x c e)
   exact⟨v,z.keeps old⟩
  ·show upd H D (.lst []) C=none
   rw[am (Ne.symm hDC)]; exact hHC
  ·have q:=I.freeC x c (hcl x c e)
   obtain⟨v,o,z,_⟩:=I.cell x c (hcl x c e)
   rw[am (neD c o z)]; exact q
  ·exact⟨Nat.zero_le _,[],0,.nil,dat⟩
  ·show (σ++List.replicate T.length none).length=(N0++T).length
   rw[List.length_append,List.length_append,List.length_replicate,I.len,S.len0]
 have st1:tn 0 h₁:=Tn.keep _ _ _ st fun b _ o e=>old b o e
 have fp1:∀ {H':Hp},(∀ b∈fp,H' b=none)→∀ b∈fp,ii (bY X N0 T scope C fp s H) [] H' b:=fun hn b hb=>
  ⟨hn b hb,(okC.exf b hb).1,okC.exfs b hb,.inl hb,(okC.exf b hb).2,fun p hp=>(by simp[bY]at hp)⟩
 have fp0:∀ b∈fp,upd H D (.lst []) b=none:=fun b hb=>by
  obtain⟨o,e,_⟩:=Tn.obj 0 _ st b hb
  rw[am (neD b o e)]; exact(hf b hb).1
 obtain⟨W,⟨m0,w0⟩,turn⟩:=h D hHD
 have loop:∀ s₃ : Shared,s₃={ s with heap:=h₁,toks:=s.toks+([]:List (Str × Value)).length }→
   codeAny (model X.prog X.w) X.A (.compLoop (.ListComp elt [⟨tg,iter,ifs,0⟩] scope pos) 0 (.ref it) (.ref D) (compEnvC scope (dM X.env.cells scope.names []) C X.env)) (RR (.ref D) C) s₃:=by
  rintro s₃ rfl
  refine i9 (fun n s'=>∃ i H' ys,Inv (bY X N0 T scope C fp s H) [] (σ++List.replicate T.length none) H' s'∧tn i s'.heap∧(∀ b∈fp,H' b=none)∧W i n ys H') ?_ m0 ⟨0,_,[],I1,st1,fp0,w0⟩
  rintro n s3 ⟨i,H3,ys,I3,st3,fr3,w3⟩
  rcases turn i n ys H3 w3 with ⟨stop,qn⟩ | ⟨go,step⟩
  ·refine bq (Tn.done (bY X N0 T scope C fp s H) rfl rfl rfl hc i [] s3 _ H3 (fun _ _=>False) I3 (fp1 fr3) st3 stop) fun r s4 ⟨hr,I4⟩=>?_
   subst hr;obtain⟨m,hm,_⟩:=I4.loc
   have hch:∀ b∈fp,(b∈X.ex∨X.s₀.heap.objs.size≤b)∧b≠X.env.locals∧(∀ x c,X.env.cells.lookup x=some c→c≠b)∧∀ p∈X.pn++pins,p.1≠b:=fun b hb=>
    ⟨(hf b hb).2.2.2.1,(hf b hb).2.1,(hf b hb).2.2.2.2.1,(hf b hb).2.2.2.2.2⟩
   have u4:Un (eD X.stack) fp H H3 s.heap s4.heap:=I4.base
   refine hRR D C s4 H3 m hm I4.free (Ne.symm (Nat.ne_of_lt (Nat.lt_trans (hD ▸ I.lt) hDlt))) (fun x c e=>?_) (fun p hp=>?_) (Nat.le_trans (hD ▸ I.sz) (Nat.le_of_lt hDlt)) (I.call' (ch:=fp) I4.os u4 I4.hok I4.bare hch) (fun h' hs'=>?_) qn
   ·obtain⟨v,o,q,_⟩:=I.cell x c e
    exact neC c o q
   ·exact neC _ _ (I.pin p hp).1
   ·refine I.call' (ch:=fp) (s':={ s4 with heap:=h' }) I4.os ⟨fun b o q n' hb hx=>(hs'.2 b (neC b o q)).trans (u4.keep b o q n' hb hx),fun b o q n' hb hx=>?_,u4.free,fun b o q hx=>?_,u4.tups,u4.frzs,u4.tbls⟩ (I4.hok.sameBut hs' I4.free) I4.bare hch
    ·obtain⟨sl,e⟩:=u4.slot b o q n' hb hx
     exact⟨sl,(hs'.2 b (neC b o q)).trans e⟩
    ·obtain⟨o',e⟩:=u4.there b o q hx
     exact⟨o',(hs'.2 b (neC b o q)).trans e⟩
  ·refine bq (Tn.item (bY X N0 T scope C fp s H) rfl rfl rfl hc i [] s3 _ H3 (fun _ _=>False) I3 (fp1 fr3) st3 go) fun r s4 ⟨u,hr,h4⟩=>?_
   subst hr;refine bq h4 fun _ s5 ⟨x,H5,I5,r5,y5,st5,fr5⟩=>?_
   have I5':=I5.pinned (fp1 fr5) (Tn.obj _ _ st5);refine bq (hg C fp s H _ s5 _ H5 x u _ I5' r5 (hfr _ _ _ _ (step x H5 y5))) fun _ s6 ⟨σ6,H6,I6,q6,l6,k6⟩=>?_
   have back:∀ {H7:Hp} {s7:Shared},Inv (bY X N0 T scope C fp s H) ([]++jk fp s5.heap) σ6 H7 s7→(∀ {m':Nat} {zs:List V},m'<n→W (i+1) m' zs H7→∃ m,m<n∧∃ i H' ys,Inv (bY X N0 T scope C fp s H) [] (σ++List.replicate T.length none) H' s7∧tn i s7.heap∧(∀ b∈fp,H' b=none)∧W i m ys H'):=fun {H7 s7} I7 {m' zs} hm w7=>by
    refine⟨m',hm,i+1,H7,zs,I7.unpinned.weak (by rw[l6]) (fun j v e=>?_),Tn.keep _ _ _ st5 fun b hb o e=>(I7.pin (b,o) (List.mem_append_right _ (List.mem_append_right _ (gx hb e)))).1,fun b hb=>?_,w7⟩
    ·have hj:j<σ.length:=by
      rcases Nat.lt_or_ge j σ.length with z | z
      ·exact z
      ·rw[List.getElem?_append_right z,List.getElem?_replicate]at e
       split at e <;> cases e
     rw[k6 j (by rw[← I.len]; exact hj)]
     exact e
    ·obtain⟨o,e,d⟩:=Tn.obj _ _ st5 b hb
     exact(I7.pin (b,o) (List.mem_append_right _ (List.mem_append_right _ (gx hb e)))).2.1
   refine bq (hi C fp s H _ s6 σ6 H6 _ I6 q6) fun b s7 ⟨H7,I7,q7⟩=>?_
   cases b with
   | false=>
    obtain⟨m',hm,w7⟩:=(show ∃ m',m'<n∧W (i+1) m' ys H7 from by simpa using q7)
    exact back I7 hm w7
   | true=>
    rw[if_pos rfl]at q7
    refine bq (he C fp s H _ s7 σ6 H7 _ I7 q7) fun v s8 ⟨y,H8,I8,r8,hD8,hz,m',hm,w8⟩=>?_
    refine bq (nr (X:=bY X N0 T scope C fp s H) _ s8 σ6 H8 (.ref D) [y] (.ref D) [v] (fun _ H9=>H9=upd H8 D (.lst (ys++[y]))) I8 rfl (.cons r8 .nil) ⟨D,ys,y,rfl,rfl,hD8,hz,rfl⟩) fun v9 s9 ⟨y9,H9,I9,_,e9⟩=>?_
    subst e9;exact back I9 hm w8
 exact codeAny_compStart_list (loop _ rfl) (Tn.self X.A 0 _ _ _ st1 (loop _ rfl))
theorem ee(S:gX X N0 T scope)(hc:X.calm=true)(hI:PI X tg iter wi)
  (hg:∀ C fp s H,PG (bY X N0 T scope C fp s H) tg g) (hfr:tu g X.N.length) (hi:∀ C fp s H,PIfs (bY X N0 T scope C fp s H) ifs tc) (he:∀ C fp s H,PE (bY X N0 T scope C fp s H) elt te)
  (hs:∀ x,foldedSetIterable iter X.env x=pure x:=by intro _; rfl):PE X (.ListComp elt [⟨tg,iter,ifs,0⟩] scope pos) (uU wi g tc te T.length):=by
 intro pins s σ H Q I h
 rw[eval_ListComp];refine wpAny_comprehension_free (use:=none) rfl hs (i7 fun x hx hk=>I.ok.has x.1 (S.free x hx hk)) S.kind S.names (bq (hI pins s σ H _ I h) fun v s1 h1=>bq h1 fun itv s2 h2=>?_)
 obtain⟨it,fp,tn,J,H2,e,I2,Tn,st2,f2,q2⟩:=h2
 subst e;refine ng (RR:=fun acc C=>compPost (model X.prog X.w) X.A X.xe none (EP X pins σ Q) acc C) S hc hg hfr hi he I2 Tn st2 f2 q2 ?_
 intro D C s' H' m hn hC hL hcells hpins hfresh I' hI' q
 exact⟨m,hn,fun h' hs'=>⟨.ref D,H',hI' h' hs',rfl,q⟩⟩
theorem kR{i:Nat}{x:Str}{pos' spos:Pos}(S:gX X N0 T scope)(hc:X.calm=true)(hN:X.N.Nodup)(hi':X.N[i]? = some x)(hx:X.env.scope.names.lookup x=some .local)(hI:PI X tg iter wi)
  (hg:∀ C fp s H,PG (bY X N0 T scope C fp s H) tg g) (hfr:tu g X.N.length) (hi:∀ C fp s H,PIfs (bY X N0 T scope C fp s H) ifs tc) (he:∀ C fp s H,PE (bY X N0 T scope C fp s H) elt te)
  (hsw:swapsWith (.ListComp elt [⟨tg,iter,ifs,0⟩] scope pos) (some (.Name x pos')) spos.line X.env=pure true:=by rfl)
  (hs:∀ x,foldedSetIterable iter X.env x=pure x:=by intro _; rfl):PS X (.Assign [.Name x pos'] (.ListComp elt [⟨tg,iter,ifs,0⟩] scope pos) spos) (mH (uU wi g tc te T.length) (gw i)):=by
 intro pins s σ H D I h
 rw[exec_Assign_Name_used _ _ _ _ hsw];refine wpAny_bind (wpAny_standAt (wpAny_bind ?_))
 show wpAny _ X.A (do let _ ← comprehension (.ListComp elt [⟨tg,iter,ifs,0⟩] scope pos) scope X.env _ (newList []) false (eval iter X.env) (some (assign (.Name x pos') X.env))) _ _ s
 refine wpAny_bind (wpAny_mono (wpAny_comprehension_free (use:=some (assign (.Name x pos') X.env)) (Q:=fun _ s'=>SP X pins D .next s') rfl hs (i7 fun x hx hk=>I.ok.has x.1 (S.free x hx hk)) S.kind S.names
  (bq (hI pins s σ H _ I h) fun v s1 h1=>bq h1 fun itv s2 h2=>?_)) (fun _ s' hq=>wpAny_pure (wpAny_pure hq)) fun _ _ e=>e)
 obtain⟨it,fp,tn,J,H2,e,I2,Tn,st2,f2,q2⟩:=h2
 subst e;refine ng (RR:=fun acc C=>compPost (model X.prog X.w) X.A X.xe (some (assign (.Name x pos') X.env)) (fun _ s'=>SP X pins D .next s') acc C) S hc hg hfr hi he I2 Tn st2 f2 q2 ?_
 intro L C s' H' m hn hC hL hcells hpins hfresh I' hI' q
 show wpAny _ X.A (assign (.Name x pos') X.env (.ref L)) _ _ _
 refine wpAny_assign_Name (ny (v:=.ref L) I' hN hi' (.inl hx) rfl (fun s'' I'' ⟨a,hsa,ha⟩=>?_) (.inr hx))
 have hCa:C≠a:=by
  rintro rfl
  rcases ha with z | z
  ·exact hL z
  ·exact hcells x C z rfl
 refine⟨m,hn.sameBut hsa hCa,fun h' hs'=>?_⟩
 exact⟨σ.set i (some (.ref L)),H',I''.turned (t':=s''.toks) (fun b o hb e=>(hs'.2 b hb).trans e) hC hL (.inr hfresh) hcells hpins,q⟩
end
end L2
namespace L2
open PySem PySem.Spec PyProof.Rows
theorem Vals.of:∀ {xs:List V} {us:List Value} {i:Nat} {u:Value},Vals xs us→us[i]? = some u→∃ x,xs[i]? = some x∧RelV x u
 | _,_,0,u,.cons r _,e=>⟨_,rfl,by simp at e; subst e; exact r⟩
 | _,_,i+1,u,.cons _ rr,e=>by
  obtain⟨x,hx,r⟩:=Vals.of (i:=i) rr (by simpa using e)
  exact⟨x,by simpa using hx,r⟩
theorem ju:∀ {ss:List Str} {us:List Value},Vals (ss.map V.str) us→StrsAre us ss
 | [],_,.nil=>.nil
 | s::ss,_,.cons r rr=>by
  obtain⟨t,rfl⟩:=r
  exact .cons s t (ju rr)
theorem jw:∀ {us:List Value} {ss:List Str},StrsAre us ss→Vals (ss.map V.str) us
 | _,_,.nil=>.nil
 | _,_,.cons y t h=>.cons ⟨t,rfl⟩ (jw h)
theorem xc(bs:List Bool):(List.range bs.length).any (fun i=>bs.getD i false)=bs.any id:=by
 rw[Bool.eq_iff_iff,List.any_eq_true,List.any_eq_true]
 constructor
 ·rintro⟨i,hi,h⟩
  have hi':=List.mem_range.mp hi;rw[List.getD_eq_getElem?_getD,List.getElem?_eq_getElem hi']at h
  exact⟨_,List.getElem_mem hi',h⟩
 ·rintro⟨b,hb,h⟩
  obtain⟨i,hi,rfl⟩:=List.mem_iff_getElem.mp hb
  refine⟨i,List.mem_range.mpr hi,?_⟩
  rw[List.getD_eq_getElem?_getD,List.getElem?_eq_getElem hi];exact h
theorem zt{bs:List Bool}{us:List Value}(r:Vals (bs.map V.bl) us){i:Nat}{v:Value}(e:us.toArray[i]? = some v):v = .bool (bs.getD i false):=by
 obtain⟨x,hx,rx⟩:=r.of (i:=i) (by simpa using e)
 rw[List.getElem?_map]at hx
 cases hb:bs[i]? with
 | none=>rw[hb]at hx; cases hx
 | some b=>
  rw[hb]at hx
  have hx':V.bl b=x:=Option.some.inj hx
  subst hx';rw[List.getD_eq_getElem?_getD,hb];exact rx
section
variable{X:Cx}
def xT(K:PySem.W.Frag):List V→Hp→VK→Prop:=fun xs H Q=>∃ (p:Addr) (bs:List Bool),xs=[.ref p]∧SqL K H p (bs.map V.bl)∧Q (.bl (bs.any id)) H
theorem sY{K:PySem.W.Frag}{H:Hp}{Q:VK}(p:Addr):xT K [.ref p] H Q=∃ bs:List Bool,SqL K H p (bs.map V.bl)∧Q (.bl (bs.any id)) H:=propext ⟨fun ⟨_,bs,e,q⟩=>by cases e; exact⟨bs,q⟩,fun ⟨bs,q⟩=>⟨p,bs,rfl,q⟩⟩
theorem vY(hc:X.calm=true):CallR X (.builtin "any") (xT X.K):=by
 intro pins s σ H xs us Q I r h
 obtain⟨p,bs,rfl,hq,q⟩:=h
 obtain⟨u,rfl,ru⟩:=dS r
 cases ru;obtain⟨its,rv,pl,hz⟩:=I.list hq
 have hlen:its.length=bs.length:=by rw[← rv.length,List.length_map]
 refine call_any_walk (wpAny_pyIter_list pl.isList ?_)
 refine⟨_,_,_,_,_,_,fun i=>bs.getD i false,rfl,Walks.list (A:=X.A.in1) (I.ok.hd hc) s.heap.objs.size p (Nat.ne_of_lt pl.lt) its.toArray,⟨⟨_,Heap.get?_push_size _ rfl,rfl,rfl⟩,(pl.keeps fun b o e=>Heap.get?_push_of_some _ e).isList⟩,?_,fun h' tk hk=>?_⟩
 ·intro i v s' Q' E' hP hQ
  rw[zt rv hP];exact wpAny_truthy_bool hQ
 ·refine⟨.bl (bs.any id),H,I.kept (t':=tk) fun b o e=>hk b o (fun z=>?_) (Heap.get?_push_of_some _ e),?_,q⟩
  ·exact Nat.ne_of_lt (Heap.lt_size e) (by simpa using z)
  ·have e:(List.range its.toArray.size).any (fun i=>bs.getD i false)=bs.any id:=by rw[List.size_toArray,hlen,xc]
   show Value.bool ((List.range its.toArray.size).any fun i=>bs.getD i false)=Value.bool (bs.any id)
   rw[e]
def cL(H:Hp):V→Option String
 | .non=>some "NoneType"
 | .bl _=>some "bool"
 | .int _=>some "int"
 | .str _=>some "str"
 | .ref a=>match H a with
  | some (.lst _)=>some "list"
  | some (.frz _ (.lst _))=>some "list"
  | some (.tup _)=>some "tuple"
  | some (.dK _)=>some "dict"
  | some (.dT _)=>some "dict"
  | _=>none
 | _=>none
theorem xP{K:PySem.W.Frag}{H:Hp}:∀ {x:V} {T:String},cL H x=some T→fF K H x (.type T)
 | .non,T,h=>by cases h; exact .non
 | .bl b,T,h=>by cases h; exact .bl b
 | .int i,T,h=>by cases h; exact .int i
 | .str y,T,h=>by cases h; exact .str y
 | .byt _,T,h=>by cases h
 | .flt _,T,h=>by cases h
 | .ty _,T,h=>by cases h
 | .ref a,T,h=>by
  cases e:H a with
  | none=>simp[cL,e]at h
  | some o=>
   cases o with
   | lst xs=>simp[cL,e]at h; subst h; exact .lst e
   | tup xs=>simp[cL,e]at h; subst h; exact .tup e
   | dK xs=>simp[cL,e]at h; subst h; exact .dK e
   | dT xs=>simp[cL,e]at h; subst h; exact .dT e
   | frz ob u=>
    cases u with
    | lst xs=>simp[cL,e]at h; subst h; exact .frz e
    | _=>simp[cL,e]at h
   | _=>simp[cL,e]at h
def An(T C:String):Bool:=T == C||(T == "bool" && C == "int")
theorem zm(K:PySem.W.Frag){T C:String}(hT:T∈["NoneType", "bool", "int", "str", "list", "tuple", "dict"]) (hC:C∈["bool", "int", "str", "list", "tuple"]):PySem.W.kitOne K (.type T) (.type C)=some (An T C):=by
 simp only[List.mem_cons,List.mem_nil_iff,or_false]at hT hC
 rcases hT with rfl | rfl | rfl | rfl | rfl | rfl | rfl <;> rcases hC with rfl | rfl | rfl | rfl | rfl <;> (with_unfolding_all rfl)
theorem tU{H:Hp}{x:V}{T:String}(h:cL H x=some T):T∈["NoneType", "bool", "int", "str", "list", "tuple", "dict"]:=by
 cases x with
 | ref a=>
  cases e:H a with
  | none=>simp[cL,e]at h
  | some o=>
   cases o with
   | frz ob u=>cases u <;> simp[cL,e]at h <;> subst h <;> decide
   | _=>simp[cL,e]at h <;> subst h <;> decide
 | _=>first | (cases h; decide) | cases h
def DG:List V→Hp→VK→Prop:=fun xs H Q=>∃ (x:V) (T C:String),xs=[x,.ty C]∧cL H x=some T∧C∈["bool", "int", "str", "list", "tuple"]∧Q (.bl (An T C)) H
theorem tO{H:Hp}{Q:VK}(x:V)(C:String):DG [x,.ty C] H Q=∃ T,cL H x=some T∧C∈["bool", "int", "str", "list", "tuple"]∧Q (.bl (An T C)) H:=
 propext ⟨fun ⟨_,T,_,e,q⟩=>by cases e; exact⟨T,q⟩,fun ⟨T,q⟩=>⟨x,T,C,rfl,q⟩⟩
theorem oS:CallR X (.builtin "isinstance") DG:=by
 intro pins s σ H xs us Q I r h
 obtain⟨x,T,C,rfl,hT,hC,q⟩:=h
 obtain⟨u,w',rfl,ru,rw'⟩:=ow r
 cases rw';exact xK I ru (xP hT) (zm X.K (tU hT) hC) fun tk=>⟨.bl (An T C),H,I.tok tk,rfl,q⟩
end
def qB(J:It)(g:TG)(tb:TS)(D:db)(σ : St)(H:Hp):Prop:=∃ W:Nat→Nat→St→Hp→Prop,(∃ m,W 0 m σ H)∧∀ i m σ H,W i m σ H→
 (J.stop i H∧D.nx σ H)∨(J.go i H∧∃ N:St→Hp→Prop,(∀ σ' H',N σ' H'→∃ m',m'<m∧W (i+1) m' σ' H')∧∀ x H',J.yld i H x H'→g x σ H' fun σ2 H2=>tb { D with nx:=N,ct:=N,bk:=D.nx } σ2 H2)
theorem sk(wi:TI)(g:TG)(tb:TS)(D:db)(σ : St)(H:Hp):DE wi g tb D σ H=wi σ H fun J H1=>qB J g tb D σ H1:=rfl
theorem AQ{J:It}{g:TG}{tb:TS}{D:db}{σ : St}{H:Hp}(n:Nat)(Pv:Nat→St→Hp→Prop)(h0:Pv 0 σ H)(hgo:∀ i σ H,i<n→Pv i σ H→J.go i H)(hst:∀ σ H,Pv n σ H→J.stop n H)
  (hs:∀ i σ H x H',i<n→Pv i σ H→J.yld i H x H'→g x σ H' fun σ2 H2=>tb { D with nx:=Pv (i+1),ct:=Pv (i+1),bk:=D.nx } σ2 H2) (hd:∀ σ H,Pv n σ H→D.nx σ H):qB J g tb D σ H:=by
 refine⟨fun i m σ H=>m=n - i∧i≤n∧Pv i σ H,⟨n,by simp,Nat.zero_le _,h0⟩,?_⟩
 rintro i m σ H ⟨rfl,hi,p⟩
 by_cases hlt:i<n
 ·exact .inr ⟨hgo i σ H hlt p,Pv (i+1),fun σ' H' p'=>⟨n - (i+1),by omega,rfl,hlt,p'⟩,fun x H' y=>hs i σ H x H' hlt p y⟩
 ·have e:i=n:=by omega
  subst e;exact .inl ⟨hst σ H p,hd σ H p⟩
theorem dL{K:PySem.W.Frag}{a:Addr}{xs:List V}{g:TG}{tb:TS}{D:db}{σ : St}{H:Hp}(Pv:Nat→St→Hp→Prop)(h0:Pv 0 σ H)(hl:∀ i σ H,i≤xs.length→Pv i σ H→SqL K H a xs)
  (hs:∀ i x σ H,xs[i]? = some x→Pv i σ H→g x σ H fun σ2 H2=>tb { D with nx:=Pv (i+1),ct:=Pv (i+1),bk:=D.nx } σ2 H2) (hd:∀ σ H,Pv xs.length σ H→D.nx σ H):qB (m5 K a) g tb D σ H:=
 yF Pv h0 hl hs hd
theorem fv{lo:Int}{n:Nat}{g:TG}{tb:TS}{D:db}{σ : St}{H:Hp}(Pv:Nat→St→Hp→Prop)(h0:Pv 0 σ H)
  (hs:∀ i σ H,i<n→Pv i σ H→g (.int (lo+i)) σ H fun σ2 H2=>tb { D with nx:=Pv (i+1),ct:=Pv (i+1),bk:=D.nx } σ2 H2) (hd:∀ σ H,Pv n σ H→D.nx σ H):qB (lz lo n) g tb D σ H:=
 wc Pv h0 hs hd
def gs(n i:Nat)(Pv:Nat→List V→Hp→Prop)(D:Addr)(ys:List V)(y:V)(H:Hp):Prop:=
 H D=some (.lst ys)∧ys.length<sizeLine∧∃ m',m'<n - i∧(m'=n - (i+1)∧i+1≤n∧Pv (i+1) (ys++[y]) (upd H D (.lst (ys++[y]))))
theorem fS{n i:Nat}{Pv:Nat→List V→Hp→Prop}{D:Addr}{ys:List V}{y:V}{H:Hp}(hi:i<n)(hlen:ys.length=i)(hz:n≤sizeLine)(h1:H D=some (.lst ys))(h2:Pv (i+1) (ys++[y]) (upd H D (.lst (ys++[y])))):gs n i Pv D ys y H:=
 ⟨h1,by omega,n - (i+1),by omega,rfl,hi,h2⟩
def lm(n i:Nat)(Pv:Nat→List V→Hp→Prop)(D:Addr)(ys:List V)(te:TE)(σ : St)(H:Hp):Prop:=
 if true=true then te σ H (gs n i Pv D ys) else ∃ m',m'<n - i∧(m'=n - (i+1)∧i+1≤n∧Pv (i+1) ys H)
theorem qL{n i:Nat}{Pv:Nat→List V→Hp→Prop}{D:Addr}{ys:List V}{te:TE}{σ : St}{H:Hp}:lm n i Pv D ys te σ H=te σ H (gs n i Pv D ys):=by
 unfold lm; rw[if_pos rfl]
theorem qg{J:It}{g:TG}{te:TE}{nT:Nat}{σ : St}{D:Addr}{Q:VK}{H:Hp}(n:Nat)(Pv:Nat→List V→Hp→Prop)(h0:Pv 0 [] H)(hgo:∀ i ys H,i<n→Pv i ys H→J.go i H)(hst:∀ ys H,Pv n ys H→J.stop n H)
  (hs:∀ i ys H x H',i<n→Pv i ys H→J.yld i H x H'→g x (σ++List.replicate nT none) H' (lm n i Pv D ys te))
  (hd:∀ ys H,Pv n ys H→Q (.ref D) H):g_ J g pB te nT σ D Q H:=by
 refine⟨fun i m ys H=>m=n - i∧i≤n∧Pv i ys H,⟨n,by simp,Nat.zero_le _,h0⟩,?_⟩
 rintro i m ys H ⟨rfl,hi,p⟩
 by_cases hlt:i<n
 ·exact .inr ⟨hgo i ys H hlt p,fun x H' y=>hs i ys H x H' hlt p y⟩
 ·have e:i=n:=by omega
  subst e;exact .inl ⟨hst ys H p,hd ys H p⟩
theorem cW{K:PySem.W.Frag}{a:Addr}{xs:List V}{g:TG}{te:TE}{nT:Nat}{σ : St}{D:Addr}{Q:VK}{H:Hp}(Pv:Nat→List V→Hp→Prop)(h0:Pv 0 [] H)(hl:∀ i ys H,i≤xs.length→Pv i ys H→SqL K H a xs)
  (hs:∀ i ys H x,xs[i]? = some x→i<xs.length→Pv i ys H→g x (σ++List.replicate nT none) H (lm xs.length i Pv D ys te))
  (hd:∀ ys H,Pv xs.length ys H→Q (.ref D) H):g_ (m5 K a) g pB te nT σ D Q H:=by
 refine qg xs.length Pv h0 (fun i ys H hi p=>⟨xs,xs[i],hl i ys H (Nat.le_of_lt hi) p,by simp[hi]⟩) (fun ys H p=>⟨xs,hl _ ys H (Nat.le_refl _) p,Nat.le_refl _⟩) (fun i ys H x H' hi p yl=>?_) hd
 obtain⟨rfl,y⟩:=yl
 exact hs i ys _ x (y xs (hl i ys _ (Nat.le_of_lt hi) p)) hi p
end L2
namespace L2
open PySem PySem.Spec PyProof.Rows
def qK(u:TS)(D:db)(σ : St)(H:Hp):Prop:=u D σ H
section
variable{D:db}{σ : St}{H:Hp}{Q:VK}{B:Bool→Hp→Prop}{L:List V→Hp→Prop}{R:It→Hp→Prop}{G:St→Hp→Prop}
theorem rN(t u:TS):yy t u D σ H=t { D with nx:=qK u D } σ H:=rfl
theorem me(u:TS):qK u D σ H=u D σ H:=rfl
theorem qp:zQ D σ H=D.nx σ H:=rfl
theorem pA:Af D σ H=D.ct σ H:=rfl
theorem sV(c:TT)(t u:TS):yG c t u D σ H=c σ H fun b H1=>if b=true then t D σ H1 else u D σ H1:=rfl
theorem tG(t:TE):C1 t D σ H=t σ H D.rt:=rfl
theorem pT(t:TE):ub t D σ H=t σ H fun _ H1=>D.nx σ H1:=rfl
theorem sH(t:TE)(g:TG):mH t g D σ H=t σ H fun x H1=>g x σ H1 D.nx:=rfl
theorem o_(i:Nat)(v:V):gw i v σ H G=G (σ.set i (some v)) H:=rfl
theorem tH(vs:List V):t9 vs σ H G=(vs=[]∧G σ H):=rfl
theorem qP(t:TG)(u:gO)(vs:List V):oC t u vs σ H G=∃ v r,vs=v::r∧t v σ H fun σ' H'=>u r σ' H' G:=rfl
theorem sO(K:PySem.W.Frag)(n:Nat)(t:gO)(v:V):uw K n t v σ H G=∃ a xs,v = .ref a∧SqT K H a xs∧xs.length=n∧t xs σ H G:=rfl
theorem rX(to ti:TE)(t:jg)(v:V):CO to ti t v σ H G=to σ H fun o H1=>ti σ H1 fun i H2=>t o i v H2 fun H3=>G σ H3:=rfl
theorem sD(i:Nat):lZ i σ H Q=∃ v,σ[i]? = some (some v)∧Q v H:=rfl
theorem Ac(v:V):tC v σ H Q=Q v H:=rfl
theorem wG(r:R2)(ta tb:TE):wm r ta tb σ H Q=ta σ H fun x H1=>tb σ H1 fun y H2=>r x y H2 Q:=rfl
theorem pQ(t:TE):Ag t σ H B=t σ H fun x H'=>∃ k,x = .bl k∧B k H':=rfl
theorem z7(t:TE):tB t σ H B=t σ H fun x H'=>∃ k,x = .bl k∧B k H':=rfl
theorem se(t u:TT):BB t u σ H B=t σ H fun c H1=>if c=true then u σ H1 B else B false H1:=rfl
theorem xj(t u:TT):Ef t u σ H B=t σ H fun c H1=>if c=true then B true H1 else u σ H1 B:=rfl
theorem rV(t:TT):CC t σ H B=t σ H fun c H1=>B (!c) H1:=rfl
theorem qj(ta tb:TE):Ar ta tb σ H Q=ta σ H fun x H1=>∃ c,x = .bl c∧if c=true then tb σ H1 Q else Q (.bl false) H1:=rfl
theorem tI(ta tb:TE):CG ta tb σ H Q=ta σ H fun x H1=>∃ c,x = .bl c∧if c=true then Q (.bl true) H1 else tb σ H1 Q:=rfl
theorem pM(ta:TE):zZ ta σ H Q=ta σ H fun x H1=>∃ c,x = .bl c∧Q (.bl (!c)) H1:=rfl
theorem xC(t:TT)(ta tb:TE):Ed t ta tb σ H Q=t σ H fun c H1=>if c=true then ta σ H1 Q else tb σ H1 Q:=rfl
theorem wx(r:List V→Hp→VK→Prop)(t:TA):vt r t σ H Q=t σ H fun vs H1=>r vs H1 Q:=rfl
theorem qv(ta:TE)(tr:TA):uf ta tr σ H L=ta σ H fun x H1=>tr σ H1 fun xs H2=>L (x::xs) H2:=rfl
theorem tD:yz σ H L=L [] H:=rfl
theorem tz(t:TA):DB t σ H Q=t σ H fun xs H1=>xs.length≤sizeLine∧∀ p,H1 p=none→Q (.ref p) (upd H1 p (.tup xs)):=rfl
theorem tK(t:TA):CS t σ H Q=t σ H fun xs H1=>xs.length≤sizeLine∧∀ p,H1 p=none→Q (.ref p) (upd H1 p (.lst xs)):=rfl
theorem px(sp:Sp)(dvs:List V)(E:XK)(t:TA):iO sp dvs E t σ H Q=t σ H fun vs H1=>sp (vs++dvs) H1 Q E:=rfl
theorem xQ(K:PySem.W.Frag)(T:String)(r:V→List V→Hp→VK→Prop)(to:TE)(t:TA):zN K T r to t σ H Q=to σ H fun x H1=>vM K T x H1∧t σ H1 fun xs H2=>r x xs H2 Q:=rfl
theorem wZ(r:V→Option Int→Option Int→Hp→VK→Prop)(te:TE)(tl th:TO):Ej r te tl th σ H Q=te σ H fun x H1=>tl σ H1 fun l H2=>th σ H2 fun u H3=>r x l u H3 Q:=rfl
theorem pc(t:TE)(O:Option Int→Hp→Prop):Aj t σ H O=t σ H fun x H1=>∃ i,x = .int i∧O (some i) H1:=rfl
theorem lA(O:Option Int→Hp→Prop):tE σ H O=O none H:=rfl
theorem oJ(wi:TI)(g:TG)(tc:TT)(te:TE)(nT:Nat):uU wi g tc te nT σ H Q=wi σ H fun J H1=>∀ D,H1 D=none→g_ J g tc te nT σ D Q (upd H1 D (.lst [])):=rfl
theorem tL:pB σ H B=B true H:=rfl
theorem qx(K:PySem.W.Frag)(tl:TE):uB K tl σ H R=tl σ H fun x H1=>∃ a,x = .ref a∧(∃ xs,SqL K H1 a xs)∧R (m5 K a) H1:=rfl
theorem qV(ta:TA):Au ta σ H R=ta σ H fun vs H1=>∃ j:Int,vs=[.int j]∧-(2 ^ 62)≤j∧j<2 ^ 62∧R (lz 0 j.toNat) H1:=rfl
theorem vw(g:Int→Int→V)(i j:Int):mQ g (.int i) (.int j) H Q=Q (g i j) H:=propext ⟨fun ⟨_,_,e1,e2,q⟩=>by cases e1; cases e2; exact q,fun q=>⟨i,j,rfl,rfl,q⟩⟩
theorem zT(C:Int→Int→Prop)(g:Int→Int→V)(i j:Int):rI C g (.int i) (.int j) H Q=(C i j∧Q (g i j) H):=propext ⟨fun ⟨_,_,e1,e2,q⟩=>by cases e1; cases e2; exact q,fun q=>⟨i,j,rfl,rfl,q⟩⟩
end
structure DefAt (K:PySem.W.Frag) (mg:Str→Option Value) (x:Str) (st:Stmt):Prop where
 ex:∃ f fd,Fun K x x st f fd∧mg x=some (.ref f)
structure Cal (P:Program) (w:World) (K:PySem.W.Frag) (mg:Str→Option Value) (base:Heap) (k:Nat) (x:Str) (ps:List Str) (sp:Sp):Prop where
 ex:∃ f fd,FnOk P w K mg base iq k f fd ps sp∧Binds K fd ps []∧PySem.W.keepIn K (.ref f)=true∧mg x=some (.ref f)
section
variable{P:Program}{w:World}{K:PySem.W.Frag}{mg:Str→Option Value}{base:Heap}
theorem DefAt.cal{x:Str}{st:Stmt}{N ps:List Str}{k:Nat}{sp:Sp}(D:DefAt K mg x st)(S:aU N ps (defScope st))
  (hb:∀ (kV doc pm:Value) (an:Option Addr) (cdv ct:Value) (us:List Value),us.length=ps.length→bindArgs (PySem.W.fnOf x x (defArgs st) (defBody st) (defScope st) .none kV doc pm an cdv ct) ⟨us,[]⟩=pure (ps.zip us))
  (len:∀ vs H Q E,sp vs H Q E→vs.length=ps.length)
  (hbody:∀ (f:Addr) (cdv:Value) (A:Around) (outer:List Env) (s:Shared) (H:Hp) (vs:List V) (Q:VK) (E:XK),Room k (A.deeper (envOfC x (defScope st) s.heap.objs.size f cdv))→sp vs H Q E→
   ∃ t,PSs (ie iq P w K mg base N x (defScope st) f cdv A outer s H E).nox (defBody st) t∧t { nx:=fun _ H'=>Q .non H',rt:=Q } (start N vs) H):Cal P w K mg base (k+1) x ps sp:=by
 obtain⟨f,fd,F,m⟩:=D.ex
 exact⟨f,fd,F.ok S len fun cdv A outer s H vs Q E hr h=>hbody f cdv A outer s H vs Q E hr h,F.binds hb,F.kp,m⟩
end
section
variable{X:Cx}
theorem aL{j k:Nat}{x:Str}{ps:List Str}{sp:Sp}{p pos:Pos}{e:Expr}{es:List Expr}{t:TA}(c:Cal X.prog X.w X.K X.mg X.base j x ps sp)(hr:Room k X.A)(ha:PA X (e::es) t)(hle:j≤k:=by decide)(hg:Gl X x:=by first | exact vGg (by decide +kernel) | rfl)
  (hdb:(x == ("__debug__" : Str))=false:=by decide) (he:starEach (e::es) X.env=(false,eval e X.env)::starEach es X.env:=by rfl) (hpl:(backTo pos (starEach es X.env)).any (·.1)=false:=by rfl) :
  PE X (.Call (.Name x p) (e::es) [] pos) (iO sp [] E0 t):=by
 obtain⟨f,fd,F,b,kp,m⟩:=c.ex
 exact sy F (hr.mono hle) hg m kp b .nil Ap ha hdb he hpl
theorem sG{x:Str}{i:Int}{pos:Pos}(h:∃ t,X.mg x=some (.int i t))(hg:Gl X x:=by first | exact vGg (by decide +kernel) | rfl)(hd:(x == ("__debug__" : Str))=false:=by decide):PE X (.Name x pos) (tC (.int i)):=by
 obtain⟨t,h⟩:=h
 exact lS hg h ⟨t,rfl⟩ hd
theorem pj{x:Str}{T:String}{pos:Pos}(hm:X.mg x=none)(hv:bootBuiltins x=some (.type T))(hg:Gl X x:=by first | exact vGg (by decide +kernel) | rfl)(hn:x ≠ "__name__" := by decide) (hd:(x == ("__debug__" : Str))=false:=by decide):PE X (.Name x pos) (tC (.ty T)):=
 AC hg hm hv rfl hn hd
theorem bF{x:Str}{p pos:Pos}{e:Expr}{es:List Expr}{t:TA}{id:String}{r:List V→Hp→VK→Prop}(hc:CallR X (.builtin id) r)(hm:X.mg x=none)(hv:bootBuiltins x=some (.builtin id))(ha:PA X (e::es) t)(hg:Gl X x:=by first | exact vGg (by decide +kernel) | rfl)
  (hn:x ≠ "__name__" := by decide) (hdb:(x == ("__debug__" : Str))=false:=by decide) (he:starEach (e::es) X.env=(false,eval e X.env)::starEach es X.env:=by rfl) (hpl:(backTo pos (starEach es X.env)).any (·.1)=false:=by rfl) :
  PE X (.Call (.Name x p) (e::es) [] pos) (vt r t):=yY hc hg hm hv ha hn hdb he hpl
theorem iz{x:Str}{p pos:Pos}{e:Expr}{es:List Expr}{t:TA}{T:String}{r:List V→Hp→VK→Prop}(hc:CallR X (.type T) r)(hm:X.mg x=none)(hv:bootBuiltins x=some (.type T))(ha:PA X (e::es) t)(hg:Gl X x:=by first | exact vGg (by decide +kernel) | rfl)
  (hn:x ≠ "__name__" := by decide) (hdb:(x == ("__debug__" : Str))=false:=by decide) (he:starEach (e::es) X.env=(false,eval e X.env)::starEach es X.env:=by rfl) (hpl:(backTo pos (starEach es X.env)).any (·.1)=false:=by rfl) :
  PE X (.Call (.Name x p) (e::es) [] pos) (vt r t):=wQ hc hg hm hv ha hn hdb he hpl
end
section
variable{X:Cx}
def ou:R2:=fun x y H Q=>match x,y with
 | .int i,.int j=>Q (.int (i+j)) H
 | .str a,.str b=>a.length+b.length≤sizeLine∧Q (.str (a++b)) H
 | .ref l,.ref b=>∃ xs zs,H l=some (.lst xs)∧H b=some (.lst zs)∧xs.length+zs.length≤sizeLine∧∀ p,H p=none→Q (.ref p) (upd H p (.lst (xs++zs)))
 | _,_=>False
theorem bH:OpR X (binaryOp .Add) ou:=by
 intro pins s σ H x y v u Q I rx ry h
 cases x <;> cases y <;> first
  | exact(show False from h).elim
  | exact C3 pins s σ H _ _ v u Q I rx ry ⟨_,_,rfl,rfl,h⟩
  | exact ur pins s σ H _ _ v u Q I rx ry ⟨_,_,rfl,rfl,h⟩
  | (obtain⟨xs,zs,h1,h2,h3,h4⟩:=h; exact Ce pins s σ H _ _ v u Q I rx ry ⟨_,_,xs,zs,rfl,rfl,h1,h2,h3,h4⟩)
def xW:R2:=fun x y H Q=>match x,y with
 | .int i,.int j=>Q (.bl (decide (i<j))) H
 | .str i,.str j=>Q (.bl (decide (i.cps.toList<j.cps.toList))) H
 | _,_=>False
theorem lr:OpR X (compareOp .Lt) xW:=by
 intro pins s σ H x y v u Q I rx ry h
 cases x <;> cases y <;> first
  | exact(show False from h).elim
  | exact DU pins s σ H _ _ v u Q I rx ry ⟨_,_,rfl,rfl,h⟩
  | exact vH pins s σ H _ _ v u Q I rx ry ⟨_,_,rfl,rfl,h⟩
def uX(K:PySem.W.Frag):R2:=fun x y H Q=>match x,y with
 | .str i,.str j=>Q (.bl (!(Builtin.Str.occurrences j i 0 j.length 1).isEmpty)) H
 | x,.ref p=>∃ xs,(SqL K H p xs∨SqT K H p xs)∧bR x=true∧xs.all bR=true∧Q (.bl (ja x xs)) H
 | _,_=>False
theorem Du:OpR X (compareOp .In) (uX X.K):=by
 intro pins s σ H x y v u Q I rx ry h
 cases y with
 | str j=>
  cases x with
  | str i=>exact vF pins s σ H _ _ v u Q I rx ry ⟨i,j,rfl,rfl,h⟩
  | _=>exact(show False from h).elim
 | ref p=>
  have h':∃ xs,(SqL X.K H p xs∨SqT X.K H p xs)∧bR x=true∧xs.all bR=true∧Q (.bl (ja x xs)) H:=by cases x <;> exact h
  obtain⟨xs,h1,h2,h3,h4⟩:=h'
  exact wq pins s σ H _ _ v u Q I rx ry ⟨p,xs,rfl,h1,h2,h3,h4⟩
 | _=>cases x <;> exact(show False from h).elim
def jC(K:PySem.W.Frag):R2:=fun x y H Q=>match x,y with
 | .str i,.str j=>Q (.bl (!(!(Builtin.Str.occurrences j i 0 j.length 1).isEmpty))) H
 | x,.ref p=>∃ xs,(SqL K H p xs∨SqT K H p xs)∧bR x=true∧xs.all bR=true∧Q (.bl (!ja x xs)) H
 | _,_=>False
theorem wN:OpR X (compareOp .NotIn) (jC X.K):=by
 intro pins s σ H x y v u Q I rx ry h
 cases y with
 | str j=>
  cases x with
  | str i=>exact qu pins s σ H _ _ v u Q I rx ry ⟨i,j,rfl,rfl,h⟩
  | _=>exact(show False from h).elim
 | ref p=>
  have h':∃ xs,(SqL X.K H p xs∨SqT X.K H p xs)∧bR x=true∧xs.all bR=true∧Q (.bl (!ja x xs)) H:=by cases x <;> exact h
  obtain⟨xs,h1,h2,h3,h4⟩:=h'
  exact pX pins s σ H _ _ v u Q I rx ry ⟨p,xs,rfl,h1,h2,h3,h4⟩
 | _=>cases x <;> exact(show False from h).elim
def oB(K:PySem.W.Frag):List V→Hp→VK→Prop:=fun xs H Q=>match xs with
 | [.str z]=>z.length≤sizeLine∧Q (.int z.length) H
 | [.ref p]=>∃ ys,(SqL K H p ys∨SqT K H p ys)∧Q (.int ys.length) H
 | _=>False
theorem vq:CallR X (.builtin "len") (oB X.K):=by
 intro pins s σ H xs us Q I r h
 match xs,h with
 | [.str z],h=>exact p6 pins s σ H _ us Q I r ⟨z,rfl,h⟩
 | [.ref p],h=>obtain⟨ys,h1,h2⟩:=h; exact qO pins s σ H _ us Q I r ⟨p,ys,rfl,h1,h2⟩
def pH(K:PySem.W.Frag):R2:=fun x y H Q=>match x,y with
 | .ref p,.int i=>∃ xs v,(SqL K H p xs∨SqT K H p xs)∧eC xs i=some v∧Q v H
 | .str z,.int i=>∃ c,z.length≤sizeLine∧eC z.cps.toList i=some c∧Q (.str ⟨#[c]⟩) H
 | _,_=>False
theorem Gz:IxR X (pH X.K):=by
 intro value slice pins s σ H x y v u Q I rx ry h hs
 refine DC value slice pins s σ H x y v u Q I rx ry ?_ hs
 match x,y,h with
 | .ref p,.int i,h=>
  obtain⟨xs,v',h1,h2,h3⟩:=h
  rcases h1 with h1 | h1
  ·exact .inl ⟨p,xs,i,v',rfl,rfl,h1,h2,h3⟩
  ·exact .inr (.inl ⟨p,xs,i,v',rfl,rfl,h1,h2,h3⟩)
 | .str z,.int i,h=>
  obtain⟨c,h1,h2,h3⟩:=h
  exact .inr (.inr ⟨z,i,c,rfl,rfl,h1,h2,h3⟩)
end
section
variable{K:PySem.W.Frag}{H:Hp}{Q:VK}
theorem nU(i j:Int):ou (.int i) (.int j) H Q=Q (.int (i+j)) H:=rfl
theorem nz(a b:Str):ou (.str a) (.str b) H Q=(a.length+b.length≤sizeLine∧Q (.str (a++b)) H):=rfl
theorem nN(l b:Addr):ou (.ref l) (.ref b) H Q=∃ xs zs,H l=some (.lst xs)∧H b=some (.lst zs)∧xs.length+zs.length≤sizeLine∧∀ p,H p=none→Q (.ref p) (upd H p (.lst (xs++zs))):=rfl
theorem qR(i j:Int):xW (.int i) (.int j) H Q=Q (.bl (decide (i<j))) H:=rfl
theorem pF(i j:Str):xW (.str i) (.str j) H Q=Q (.bl (decide (i.cps.toList<j.cps.toList))) H:=rfl
theorem oW(i j:Str):uX K (.str i) (.str j) H Q=Q (.bl (!(Builtin.Str.occurrences j i 0 j.length 1).isEmpty)) H:=rfl
theorem pD(x:V)(p:Addr):uX K x (.ref p) H Q=∃ xs,(SqL K H p xs∨SqT K H p xs)∧bR x=true∧xs.all bR=true∧Q (.bl (ja x xs)) H:=by cases x <;> rfl
theorem jX(i j:Str):jC K (.str i) (.str j) H Q=Q (.bl (!(!(Builtin.Str.occurrences j i 0 j.length 1).isEmpty))) H:=rfl
theorem j0(x:V)(p:Addr):jC K x (.ref p) H Q=∃ xs,(SqL K H p xs∨SqT K H p xs)∧bR x=true∧xs.all bR=true∧Q (.bl (!ja x xs)) H:=by cases x <;> rfl
theorem mY(z:Str):oB K [.str z] H Q=(z.length≤sizeLine∧Q (.int z.length) H):=rfl
theorem nK(p:Addr):oB K [.ref p] H Q=∃ ys,(SqL K H p ys∨SqT K H p ys)∧Q (.int ys.length) H:=rfl
theorem oK(p:Addr)(i:Int):pH K (.ref p) (.int i) H Q=∃ xs v,(SqL K H p xs∨SqT K H p xs)∧eC xs i=some v∧Q v H:=rfl
theorem qT(z:Str)(i:Int):pH K (.str z) (.int i) H Q=∃ c,z.length≤sizeLine∧eC z.cps.toList i=some c∧Q (.str ⟨#[c]⟩) H:=rfl
theorem oY(p:Addr)(k:Int)(v:V)(G:Hp→Prop):uc (.ref p) (.int k) v H G=∃ xs j,H p=some (.lst xs)∧j5 xs.length k=some j∧G (upd H p (.lst (xs.set j v))):=
 propext ⟨fun ⟨_,xs,_,j,e1,e2,q⟩=>by cases e1; cases e2; exact⟨xs,j,q⟩,fun ⟨xs,j,q⟩=>⟨p,xs,k,j,rfl,rfl,q⟩⟩
theorem kS(p:Addr)(y:V):jz (.ref p) [y] H Q=∃ xs,H p=some (.lst xs)∧xs.length<sizeLine∧Q .non (upd H p (.lst (xs++[y]))):=
 propext ⟨fun ⟨_,xs,_,e1,e2,q⟩=>by cases e1; cases e2; exact⟨xs,q⟩,fun ⟨xs,q⟩=>⟨p,xs,y,rfl,rfl,q⟩⟩
theorem tP(y:Str):vM K "str" (.str y) H=True:=eq_true rfl
theorem tq(p:Addr):(vM K "list" (.ref p) H)=∃ xs,SqL K H p xs:=by
 refine propext ⟨fun h=>?_,fun h=>.inl ⟨rfl,h⟩⟩
 rcases h with ⟨_,h⟩ | ⟨h,_⟩ | ⟨h,_⟩ | ⟨h,_⟩
 ·exact h
 ·exact absurd h (by decide)
 ·exact absurd h (by decide)
 ·exact absurd h (by decide)
end
theorem dB:bootBuiltins "len" = some (.builtin "len"):=by decide +kernel
theorem cn:bootBuiltins "isinstance" = some (.builtin "isinstance"):=by decide +kernel
theorem Bv:bootBuiltins "any" = some (.builtin "any"):=by decide +kernel
theorem de:bootBuiltins "sorted" = some (.builtin "sorted"):=by decide +kernel
theorem Bt:bootBuiltins "str" = some (.type "str"):=by decide +kernel
theorem xA:bootBuiltins "int" = some (.type "int"):=by decide +kernel
theorem AZ:bootBuiltins "list" = some (.type "list"):=by decide +kernel
theorem kh:bootBuiltins "tuple" = some (.type "tuple"):=by decide +kernel
theorem aA{X:Cx}(i:Nat){x:Str}{e:Expr}{te:TE}{pos pos':Pos}(hN:X.N.Nodup)(he:PE X e te)(hi:X.N[i]? = some x:=by rfl)(hx:bb X.env.scope x:=by first | exact vLl (by decide +kernel) | exact Or.inl rfl)(hs:swapsWith e (some (.Name x pos')) pos.line X.env=pure false:=by rfl)
  (hf:X.fn x=true∨X.env.scope.names.lookup x=some .local:=by first | exact .inl rfl | exact .inr rfl | assumption):PS X (.Assign [.Name x pos'] e pos) (mH te (gw i)):=BD hN hi hx he hs hf
theorem bA{X:Cx}(i:Nat){x:Str}{pos:Pos}(hN:X.N.Nodup)(hi:X.N[i]? = some x:=by rfl)(hx:bb X.env.scope x:=by first | exact vLl (by decide +kernel) | exact Or.inl rfl)
  (hf:X.fn x=true∨X.env.scope.names.lookup x=some .local:=by first | exact .inl rfl | exact .inr rfl | assumption):PG X (.Name x pos) (gw i):=Bc hN hi hx hf
structure CompSc (fsc:Scope) (N N0 T:List Str) (scope:Scope):Prop where
 kind:scope.kind = .function
 nocell:∀ y∈scope.names,y.2 ≠ .cell
 names:∀ y∈scope.names,y.2 = .local→scope.names.lookup y.1=some .local
 free:∀ y∈scope.names,y.2 = .free→fsc.names.lookup y.1=some .cell∨fsc.names.lookup y.1=some .free
 apart:∀ y∈scope.names,y.2 = .local→y.1∉N0
 len0:N0.length=N.length
 same:((N0.zip N).all fun p=>p.1 == p.2 || !(scope.names.any fun y=>y.1 == p.1))=true
theorem CompSc.to{X:Cx}{fsc:Scope}{N N0 T:List Str}{scope:Scope}(S:CompSc fsc N N0 T scope)(h1:X.env.scope=fsc)(h2:X.N=N):gX X N0 T scope:=by
 subst h1 h2;refine⟨S.kind,S.nocell,S.names,S.free,S.apart,S.len0,fun i x k e m=>?_⟩
 have hl:=S.len0;have hi:i<N0.length:=(List.getElem?_eq_some_iff.mp e).1
 have hN:X.N[i]? = some X.N[i]:=List.getElem?_eq_getElem (by omega)
 have hz:(x,X.N[i])∈N0.zip X.N:=List.mem_of_getElem? (i:=i) (by rw[List.getElem?_zip_eq_some]; exact⟨e,hN⟩)
 have q:=List.all_eq_true.mp S.same _ hz;simp only[Bool.or_eq_true,beq_iff_eq,Bool.not_eq_true']at q
 rcases q with q | q
 ·rw[hN,← q]
 ·have:(scope.names.any fun y=>y.1 == x)=true:=List.any_eq_true.mpr ⟨_,m,by simp⟩
  rw[this]at q; cases q
def zz:R2:=Ey
def uS:R2:=Ew
theorem dG{X:Cx}:OpR X (compareOp .Eq) zz:=DL
theorem eF{X:Cx}:OpR X (compareOp .NotEq) uS:=D3
section
variable{K:PySem.W.Frag}{H:Hp}{Q:VK}
theorem pC(i j:Int):zz (.int i) (.int j) H Q=Q (.bl (decide (i=j))) H:=by
 have e:decide (V.int i=V.int j)=decide (i=j):=by by_cases h:i=j <;> simp[h]
 show (km (.int i) (.int j)=true∧Q (.bl (decide (V.int i=V.int j))) H)=_
 rw[e]; exact propext ⟨fun h=>h.2,fun h=>⟨rfl,h⟩⟩
theorem oG(i j:Str):zz (.str i) (.str j) H Q=Q (.bl (decide (i=j))) H:=by
 have e:decide (V.str i=V.str j)=decide (i=j):=by by_cases h:i=j <;> simp[h]
 show (km (.str i) (.str j)=true∧Q (.bl (decide (V.str i=V.str j))) H)=_
 rw[e]; exact propext ⟨fun h=>h.2,fun h=>⟨rfl,h⟩⟩
theorem kl(i j:Int):uS (.int i) (.int j) H Q=Q (.bl (!decide (i=j))) H:=by
 have e:decide (V.int i=V.int j)=decide (i=j):=by by_cases h:i=j <;> simp[h]
 show (km (.int i) (.int j)=true∧Q (.bl (!decide (V.int i=V.int j))) H)=_
 rw[e]; exact propext ⟨fun h=>h.2,fun h=>⟨rfl,h⟩⟩
theorem pL(i j:Str):uS (.str i) (.str j) H Q=Q (.bl (!decide (i=j))) H:=by
 have e:decide (V.str i=V.str j)=decide (i=j):=by by_cases h:i=j <;> simp[h]
 show (km (.str i) (.str j)=true∧Q (.bl (!decide (V.str i=V.str j))) H)=_
 rw[e]; exact propext ⟨fun h=>h.2,fun h=>⟨rfl,h⟩⟩
end
theorem zS{X:Cx}:PSet X uc:=x8
section
variable{X:Cx}(K:PySem.W.Frag)
theorem Ct(hK:X.K=K:=by rfl):OpR X (compareOp .In) (uX K):=hK ▸ Du
theorem xH(hK:X.K=K:=by rfl):OpR X (compareOp .NotIn) (jC K):=hK ▸ wN
theorem cz(hK:X.K=K:=by rfl):CallR X (.builtin "len") (oB K):=hK ▸ vq
theorem bi(hK:X.K=K:=by rfl):IxR X (pH K):=hK ▸ Gz
theorem xx(hK:X.K=K:=by rfl)(hc:X.calm=true:=by rfl):CallR X (.builtin "any") (xT K):=hK ▸ vY hc
theorem fG(hK:X.K=K:=by rfl):SlR X (zi K):=hK ▸ A4
theorem b_{tg l:Expr}{tl:TE}(hl:PE X l tl)(hK:X.K=K:=by rfl):PI X tg l (uB K tl):=hK ▸ Bd hl
theorem gD{es:List Expr}{k n:Nat}{t:gO}{pos:Pos}(h:PGs X es t)(hn:(assignEach es X.env).length=n:=by rfl)(hst:(assignEach es X.env).findIdx? (·.1)=none:=by rfl)(hK:X.K=K:=by rfl)(hc:X.calm=true:=by rfl):PG X (.Tuple es k pos) (uw K n t):=hK ▸ B_ hc h hn hst
theorem dc{o e:Expr}{es:List Expr}{to:TE}{t:TA}{name:Str}{apos cpos:Pos}{T id:String}{r:V→List V→Hp→VK→Prop}(pa:PlainAttrs T)(slot:Slot T name id)(hty:typeOf (.builtin id)=pure (.type "method_descriptor")) (hm:MtR X id r) (ho:PE X o to) (ha:PA X (e::es) t)
  (hbase:attributeBase o name X.env (eval o X.env)=eval o X.env:=by rfl)
  (hfew:((backTo cpos (starEach (e::es) X.env)).all (fun x=>!x.1)&&(backToKw cpos (keywordEach [] X.env)).all (fun x=>x.1.isSome)&&decide ((e::es).length+([]:List Keyword).length+(if ([]:List Keyword).isEmpty then 0 else 1)<30))=true:=by rfl)
  (hline:(apos.endLine == cpos.line)=true:=by rfl) (hs:starEach (e::es) X.env=(false,eval e X.env)::starEach es X.env:=by rfl) (hplain:(backTo cpos (starEach es X.env)).any (·.1)=false:=by rfl) (hK:X.K=K:=by rfl) :
  PE X (.Call (.Attribute o name apos) (e::es) [] cpos) (zN K T r to t):=hK ▸ DQ pa slot hty hm ho ha hbase hfew hline hs hplain
theorem qX(hK:X.K=K:=by rfl):CallR X (.type "tuple") (fun xs H Q=>∃ p ys,xs=[.ref p]∧((SqL K H p ys∧∀ l,H l=none→Q (.ref l) (upd H l (.tup ys)))∨(SqT K H p ys∧Q (.ref p) H))):=hK ▸ nX
end
theorem xu(n:Int)(P:Int→Prop):(∃ j,[V.int n]=[V.int j]∧P j)=P n:=propext ⟨fun ⟨_,e,h⟩=>by cases e; exact h,fun h=>⟨n,rfl,h⟩⟩
theorem sN(x:V)(xs:List V)(P:V→List V→Prop):(∃ v r,x::xs=v::r∧P v r)=P x xs:=propext ⟨fun ⟨_,_,e,h⟩=>by cases e; exact h,fun h=>⟨x,xs,rfl,h⟩⟩
def fJ(scope fsc:Scope):Scope:={ scope with names:=scope.names.map fun (n,k)=>if (k == .free&&fsc.kind == .function&&fsc.names.lookup n == some .cell) then (n,.cell) else (n,k) }
section
variable{X:Cx}{N0 T:List Str}{scope:Scope}{C:Addr}{fp:List Addr}{s:Shared}{H:Hp}{x:Str}
theorem Ab(fsc:Scope)(h:(fJ scope fsc).names.lookup x=some .globalImplicit)(e:X.env.scope=fsc:=by rfl):Gl (bY X N0 T scope C fp s H) x:=by subst e; exact h
theorem cx(fsc:Scope)(h:((fJ scope fsc).names.lookup x=some .local||(fJ scope fsc).names.lookup x=some .cell||(fJ scope fsc).names.lookup x=some .free)=true)(e:X.env.scope=fsc:=by rfl):au (bY X N0 T scope C fp s H).env.scope x:=by
 subst e;simp only[Bool.or_eq_true,decide_eq_true_eq]at h
 rcases h with (h | h) | h
 ·exact .inl h
 ·exact .inr (.inl h)
 ·exact .inr (.inr h)
theorem gf(fsc:Scope)(h:(fJ scope fsc).names.lookup x=some .local)(e:X.env.scope=fsc:=by rfl):bb (bY X N0 T scope C fp s H).env.scope x:=by subst e; exact .inl h
theorem i5(fsc:Scope)(h:(fJ scope fsc).names.lookup x=some .local)(e:X.env.scope=fsc:=by rfl):(bY X N0 T scope C fp s H).fn x=true∨(bY X N0 T scope C fp s H).env.scope.names.lookup x=some .local:=by subst e; exact .inr h
end
theorem cq{X:Cx}:MtR X "list.append" jz:=nr
theorem PW.pt'{X:Cx}{e:Expr}{t:TT}(h:PW X e t):PT X e t:=h.pt
theorem pk{t u:TS}{D:db}{σ : St}{H:Hp}(I:St→Hp→Prop)(h:∀ k:St→Hp→Prop,(∀ σ' H',I σ' H'→k σ' H')→t { D with nx:=k } σ H)(hu:∀ σ' H',I σ' H'→qK u D σ' H'):qK (yy t u) D σ H:=h _ hu
theorem pU{σ : St}{H:Hp}{Q:VK}(trs:List (TE × TE)):z0 trs σ H Q=∀ p,H p=none→gW trs σ (upd H p (.dK [])) fun ps H2=>H2 p=some (.dK [])∧∃ kvs:List (bD × V),ps=kvs.map (fun kv=>(kV kv.1,kv.2))∧kvs.length≤15∧Q (.ref p) (upd H2 p (.dK (ik [] kvs))):=rfl
theorem kY{σ : St}{H:Hp}{Q:List (V × V)→Hp→Prop}:gW [] σ H Q=Q [] H:=rfl
theorem jY{σ : St}{H:Hp}{Q:List (V × V)→Hp→Prop}(tk tv:TE)(r:List (TE × TE)):gW ((tk,tv)::r) σ H Q=tk σ H fun x H1=>tv σ H1 fun y H2=>gW r σ H2 fun ps H3=>Q ((x,y)::ps) H3:=rfl
theorem Same.upd{H H':Hp}{p:Addr}(sm:Same H H')(h:H p=none)(o:HO):Same H (upd H' p o):=fun b u q=>by rw[am (aF q h)]; exact sm b u q
theorem bh{H:Hp}{p:Addr}(h:H p=none)(o:HO):Same H (upd H p o):=fun b u q=>by rw[am (aF q h)]; exact q
end L2
namespace L2
open PySem PySem.Spec PyProof.Rows PySem.SeqAt
def EqN(K:PySem.W.Frag)(H:Hp):Nat→V→V→Bool→Prop
 | 0,x,y,b=>bR x=true∧bR y=true∧b=gb x y
 | n+1,x,y,b=>(bR x=true∧bR y=true∧b=gb x y)∨∃ a c xs ys,x = .ref a∧y = .ref c∧((SqL K H a xs∧SqL K H c ys)∨(SqT K H a xs∧SqT K H c ys))∧
   ((∃ e:Nat→Bool,xs.length=ys.length∧(∀ (i:Nat) x y,xs[i]? = some x→ys[i]? = some y→EqN K H n x y (e i))∧b=(List.range xs.length).all e)∨
    (SqL K H a xs∧SqL K H c ys∧xs.length≠ys.length∧b=false))
theorem ke:∀ {x:V},bR x=true→gb x x=true
 | .non,_=>rfl
 | .bl b,_=>by simp[gb]
 | .int i,_=>by simp[gb]
 | .str y,_=>by simp[gb]
section
variable{X:Cx}{pins:List (Addr × Obj)}{σ : St}{H:Hp}{s:Shared}
theorem EqN.self(I:Inv X pins σ H s):∀ {n:Nat} {x:V} {b:Bool},EqN X.K H n x x b→b=true
 | 0,x,b,h=>by obtain⟨h1,_,rfl⟩:=h; exact ke h1
 | n+1,x,b,h=>by
  rcases h with ⟨h1,_,rfl⟩ | ⟨a,c,xs,ys,rfl,e,hq,h⟩
  ·exact ke h1
  ·cases e
   have exy:xs=ys:=by
    rcases hq with ⟨q1,q2⟩ | ⟨q1,q2⟩
    ·exact I.list_inj q1 q2
    ·exact I.tuple_inj q1 q2
   subst exy;rcases h with ⟨e,_,he,rfl⟩ | ⟨_,_,z,_⟩
   ·rw[List.all_eq_true]
    intro i hi
    have hi':=List.mem_range.mp hi;have q:=he i xs[i] xs[i] (List.getElem?_eq_getElem hi') (List.getElem?_eq_getElem hi');exact EqN.self I q
   ·exact absurd rfl z
theorem EqN.rc(I:Inv X pins σ H s){n:Nat}(ih:∀ {A:Around} {x y:V} {b:Bool} {u v:Value},A.units+n<cLine→EqN X.K H n x y b→RelV x u→RelV y v→EqAt A s u v b)
  {A:Around} {a c:Addr} {xs ys:List V} {b:Bool} (hu:A.units+(n+1)<cLine) (hq:(SqL X.K H a xs∧SqL X.K H c ys)∨(SqT X.K H a xs∧SqT X.K H c ys))
  (h:(∃ e:Nat→Bool,xs.length=ys.length∧(∀ (i:Nat) x y,xs[i]? = some x→ys[i]? = some y→EqN X.K H n x y (e i))∧b=(List.range xs.length).all e)∨(SqL X.K H a xs∧SqL X.K H c ys∧xs.length≠ys.length∧b=false)) :
  RcAt A s (.ref a) (.ref c) b∧RcNeAt A s (.ref a) (.ref c) (!b):=by
 have hin:A.in1.units+n<cLine:=by
  have:A.in1.units=A.units+1:=rfl
  omega
 rcases h with ⟨e,hl,he,rfl⟩ | ⟨q1,q2,hl,rfl⟩
 ·rcases hq with ⟨q1,q2⟩ | ⟨q1,q2⟩
  ·obtain⟨i1,r1,p1,z1⟩:=I.list q1
   obtain⟨i2,r2,p2,z2⟩:=I.list q2
   have l1:=r1.length;have l2:=r2.length
   have hit:∀ j (h1:j<i1.toArray.size) (h2:j<i2.toArray.size),EqAt A.in1 s i1.toArray[j] i2.toArray[j] (e j):=fun j h1 h2=>by
    obtain⟨x,hx,rx⟩:=r1.of (i:=j) (u:=i1.toArray[j]) (by simp at h1 ⊢)
    obtain⟨y,hy,ry⟩:=r2.of (i:=j) (u:=i2.toArray[j]) (by simp at h2 ⊢)
    exact ih hin (he j x y hx hy) rx ry
   have ez:xs.length=i1.toArray.size:=by simp; omega
   rw[ez];exact⟨RcAt.lists p1.isList p2.isList (by simp; omega) (by omega) hit,RcNeAt.lists p1.isList p2.isList (by simp; omega) (by omega) hit⟩
  ·obtain⟨i1,r1,p1,z1⟩:=I.tuple q1
   obtain⟨i2,r2,p2,z2⟩:=I.tuple q2
   have l1:=r1.length;have l2:=r2.length
   have hit:∀ j (h1:j<i1.toArray.size) (h2:j<i2.toArray.size),EqAt A.in1 s i1.toArray[j] i2.toArray[j] (e j):=fun j h1 h2=>by
    obtain⟨x,hx,rx⟩:=r1.of (i:=j) (u:=i1.toArray[j]) (by simp at h1 ⊢)
    obtain⟨y,hy,ry⟩:=r2.of (i:=j) (u:=i2.toArray[j]) (by simp at h2 ⊢)
    exact ih hin (he j x y hx hy) rx ry
   have ez:(List.range xs.length).all e=((List.range (min i1.toArray.size i2.toArray.size)).all e&&i1.toArray.size == i2.toArray.size):=by
    have e1:i1.toArray.size=xs.length:=by simp; omega
    have e2:i2.toArray.size=xs.length:=by simp; omega
    rw[e1,e2,Nat.min_self]; simp
   rw[ez];exact⟨RcAt.tuples (show s.heap.IsTuple a i1.toArray from p1) (show s.heap.IsTuple c i2.toArray from p2) (by omega) hit,RcNeAt.tuples (show s.heap.IsTuple a i1.toArray from p1) (show s.heap.IsTuple c i2.toArray from p2) (by omega) hit⟩
 ·obtain⟨i1,r1,p1,z1⟩:=I.list q1
  obtain⟨i2,r2,p2,z2⟩:=I.list q2
  have l1:=r1.length;have l2:=r2.length
  have hne:(i1.toArray.size != i2.toArray.size)=true:=by
   rw[bne_iff_ne]; simp; omega
  exact⟨RcAt.lists_lengths p1.isList p2.isList hne (by omega),RcNeAt.lists_lengths p1.isList p2.isList hne (by omega)⟩
theorem EqN.at(I:Inv X pins σ H s):∀ {n:Nat} {A:Around} {x y:V} {b:Bool} {u v:Value},A.units+n<cLine→EqN X.K H n x y b→RelV x u→RelV y v→EqAt A s u v b
 | 0,A,x,y,b,u,v,_,h,rx,ry=>by obtain⟨h1,h2,rfl⟩:=h; exact iy rx ry h1 h2
 | n+1,A,x,y,b,u,v,hu,h,rx,ry=>by
  have h0:=h;rcases h with ⟨h1,h2,rfl⟩ | ⟨a,c,xs,ys,rfl,rfl,hq,h⟩
  ·exact iy rx ry h1 h2
  ·cases rx
   cases ry
   by_cases hac:a=c
   ·subst hac
    rw[EqN.self I h0];exact EqAt.same _
   ·exact EqAt.of_refs hac (EqN.rc I (fun hu' q rx ry=>EqN.at I hu' q rx ry) hu hq h).1
end
section
variable{X:Cx}
def x6(K:PySem.W.Frag):R2:=fun x y H Q=>∃ (a c:Addr) (n:Nat) (b:Bool),x = .ref a∧y = .ref c∧n≤100∧EqN K H (n+1) x y b∧Q (.bl b) H
def uL(K:PySem.W.Frag):R2:=fun x y H Q=>∃ (a c:Addr) (n:Nat) (b:Bool),x = .ref a∧y = .ref c∧n≤100∧EqN K H (n+1) x y b∧Q (.bl (!b)) H
theorem Cb(hu:X.A.units+101<cLine):OpR X (compareOp .Eq) (x6 X.K):=by
 intro pins s σ H x y v u Q I rx ry h
 obtain⟨a,c,n,b,rfl,rfl,hn,he,q⟩:=h
 cases rx
 cases ry;rcases he with ⟨h1,_⟩ | ⟨a',c',xs,ys,e1,e2,hq,h⟩
 ·cases h1
 ·cases e1
  cases e2;exact(EqN.rc I (fun hu' q rx ry=>EqN.at I hu' q rx ry) (by omega) hq h).1 _ _ _ _ ⟨.bl b,H,I,rfl,q⟩
theorem Do(hu:X.A.units+101<cLine):OpR X (compareOp .NotEq) (uL X.K):=by
 intro pins s σ H x y v u Q I rx ry h
 obtain⟨a,c,n,b,rfl,rfl,hn,he,q⟩:=h
 cases rx
 cases ry;rcases he with ⟨h1,_⟩ | ⟨a',c',xs,ys,e1,e2,hq,h⟩
 ·cases h1
 ·cases e1
  cases e2;exact(EqN.rc I (fun hu' q rx ry=>EqN.at I hu' q rx ry) (by omega) hq h).2 _ _ _ _ ⟨.bl (!b),H,I,rfl,q⟩
theorem Aw(K:PySem.W.Frag){k:Nat}(hr:Room k X.A)(hK:X.K=K:=by rfl):OpR X (compareOp .Eq) (x6 K):=by subst hK; exact Cb (by have:=hr.un; omega)
theorem fP(K:PySem.W.Frag){k:Nat}(hr:Room k X.A)(hK:X.K=K:=by rfl):OpR X (compareOp .NotEq) (uL K):=by subst hK; exact Do (by have:=hr.un; omega)
end
section
variable{K:PySem.W.Frag}{H:Hp}{Q:VK}
theorem tS(a c:Addr):x6 K (.ref a) (.ref c) H Q=∃ (n:Nat) (b:Bool),n≤100∧EqN K H (n+1) (.ref a) (.ref c) b∧Q (.bl b) H:=
 propext ⟨fun ⟨_,_,n,b,e1,e2,q⟩=>⟨n,b,q⟩,fun ⟨n,b,q⟩=>⟨a,c,n,b,rfl,rfl,q⟩⟩
theorem fR(a c:Addr):uL K (.ref a) (.ref c) H Q=∃ (n:Nat) (b:Bool),n≤100∧EqN K H (n+1) (.ref a) (.ref c) b∧Q (.bl (!b)) H:=
 propext ⟨fun ⟨_,_,n,b,e1,e2,q⟩=>⟨n,b,q⟩,fun ⟨n,b,q⟩=>⟨a,c,n,b,rfl,rfl,q⟩⟩
theorem EqN.flat{n:Nat}{x y:V}(hx:bR x=true)(hy:bR y=true):EqN K H n x y (gb x y):=by
 cases n with
 | zero=>exact⟨hx,hy,rfl⟩
 | succ n=>exact .inl ⟨hx,hy,rfl⟩
theorem EqN.refl{n:Nat}{x:V}(hx:bR x=true):EqN K H n x x true:=by
 have q:EqN K H n x x (gb x x):=EqN.flat hx hx
 rwa [ke hx]at q
theorem EqN.seq{n:Nat}{a c:Addr}{xs ys:List V}(hq:(SqL K H a xs∧SqL K H c ys)∨(SqT K H a xs∧SqT K H c ys))(hl:xs.length=ys.length)(he:∀ (i:Nat) x y,xs[i]? = some x→ys[i]? = some y→EqN K H n x y true):EqN K H (n+1) (.ref a) (.ref c) true:=
 .inr ⟨a,c,xs,ys,rfl,rfl,hq,.inl ⟨fun _=>true,hl,he,by simp⟩⟩
theorem EqN.seqFlat{n:Nat}{a c:Addr}{xs:List V}(hq:(SqL K H a xs∧SqL K H c xs)∨(SqT K H a xs∧SqT K H c xs))(hf:∀ x∈xs,bR x=true):EqN K H (n+1) (.ref a) (.ref c) true:=
 EqN.seq hq rfl fun i x y e1 e2=>by
  rw[e1]at e2; cases e2
  exact EqN.refl (hf x (List.mem_of_getElem? e1))
theorem EqN.strs{n:Nat}{a c:Addr}{ss ts:List Str}(h1:SqL K H a (ss.map V.str))(h2:SqL K H c (ts.map V.str)):EqN K H (n+1) (.ref a) (.ref c) (decide (ss=ts)):=by
 refine .inr ⟨a,c,_,_,rfl,rfl,.inl ⟨h1,h2⟩,?_⟩
 by_cases hl:ss.length=ts.length
 ·refine .inl ⟨fun i=>ss.getD i default == ts.getD i default,by simp[hl],fun i x y e1 e2=>?_,?_⟩
  ·rw[List.getElem?_map]at e1 e2
   cases q1:ss[i]? with
   | none=>rw[q1]at e1; cases e1
   | some u=>
    cases q2:ts[i]? with
    | none=>rw[q2]at e2; cases e2
    | some v=>
     rw[q1]at e1; rw[q2]at e2
     cases e1; cases e2
     dsimp only
     rw[List.getD_eq_getElem?_getD,List.getD_eq_getElem?_getD,q1,q2];exact EqN.flat rfl rfl
  ·rw[List.length_map]
   by_cases e:ss=ts
   ·subst e
    rw[decide_eq_true rfl]
    symm
    rw[List.all_eq_true];intro i _
    simp
   ·rw[decide_eq_false e]
    symm
    rw[List.all_eq_false]
    have:∃ i:Nat,ss[i]? ≠ ts[i]?:=by
     refine Classical.byContradiction fun hn=>e (List.ext_getElem? fun i=>?_)
     exact Classical.byContradiction fun h=>hn ⟨i,h⟩
    obtain⟨i,hi⟩:=this
    have hlt:i<ss.length:=by
     refine Classical.byContradiction fun hn=>hi ?_
     rw[List.getElem?_eq_none (by omega),List.getElem?_eq_none (by omega)]
    refine⟨i,List.mem_range.mpr hlt,?_⟩
    rw[List.getD_eq_getElem?_getD,List.getD_eq_getElem?_getD,List.getElem?_eq_getElem hlt,List.getElem?_eq_getElem (by omega)]
    rw[List.getElem?_eq_getElem hlt,List.getElem?_eq_getElem (by omega)]at hi
    simpa using hi
 ·have e:ss≠ts:=fun e=>hl (by rw[e])
  rw[decide_eq_false e];exact .inr ⟨h1,h2,by simpa using hl,rfl⟩
end
theorem v_{y:Str}:∀ {l:List Str} {j:Nat},j<l.idxOf y→∀ (h:j<l.length),l[j]≠y
 | n::r,0,h,_=>by
  intro e
  have e':n=y:=e
  subst e';simp at h
 | n::r,j+1,h,h2=>by
  by_cases e:n=y
  ·subst e; simp at h
  ·rw[List.idxOf_cons]at h
   have hb:(n == y)=false:=beq_eq_false_iff_ne.mpr e
   rw[hb]at h
   have h':j+1<r.idxOf y+1:=h
   have q:=v_ (y:=y) (l:=r) (j:=j) (by omega) (by simpa using h2)
   simpa using q
section
variable{X:Cx}
def vP(K:PySem.W.Frag):List V→Hp→VK→Prop:=fun xs H Q=>∃ (p:Addr) (ss:List Str),xs=[.ref p]∧SqL K H p (ss.map V.str)∧ss.length<64∧∀ (l:Addr) (ts:List Str),H l=none→ts.Perm ss→sortedS ts=true→Q (.ref l) (upd H l (.lst (ts.map V.str)))
theorem nA{K:PySem.W.Frag}{H:Hp}{Q:VK}(p:Addr):vP K [.ref p] H Q=∃ ss:List Str,SqL K H p (ss.map V.str)∧ss.length<64∧∀ (l:Addr) (ts:List Str),H l=none→ts.Perm ss→sortedS ts=true→Q (.ref l) (upd H l (.lst (ts.map V.str))):=
 propext ⟨fun ⟨_,ss,e,q⟩=>by cases e; exact⟨ss,q⟩,fun ⟨ss,q⟩=>⟨p,ss,rfl,q⟩⟩
theorem dg(K:PySem.W.Frag)(hK:X.K=K:=by rfl):CallR X (.builtin "sorted") (vP K):=by
 subst hK;intro pins s σ H xs us Q I r h
 obtain⟨p,ss,rfl,hq,h64,q⟩:=h
 obtain⟨u,rfl,ru⟩:=dS r
 cases ru;obtain⟨its,rv,pl,hz⟩:=I.list hq
 have hlen:its.length=ss.length:=by rw[← rv.length,List.length_map]
 refine sorted_strs pl.isList (ju rv) (by omega) fun out ts h1 h2 h3=>?_
 obtain⟨e,he⟩:=sortedAll_at s.heap its out
 have hl:ts.length=ss.length:=h2.length_eq
 have hs:sizeLine=16777216:=sizeLine_eq
 exact⟨.ref (s.heap.objs.size+1),_,I.laid (t':=s.toks) (fun b o e=>sortedAll_old e) (Nat.le_succ _) (show ObjOk X.prog X.w _ _ _ (.lst (ts.map V.str)) from ⟨by rw[List.length_map]; omega,out.toList,e,jw h1,by simpa using he⟩),rfl,
  q _ ts (I.hok.fresh (Nat.le_succ _)) h2 h3⟩
def sC(K:PySem.W.Frag):V→List V→Hp→VK→Prop:=fun x vs H Q=>∃ (p:Addr) (ss:List Str) (y:Str),x = .ref p∧vs=[.str y]∧SqL K H p (ss.map V.str)∧y∈ss∧Q (.int (ss.idxOf y:Nat)) H
theorem lE{K:PySem.W.Frag}{H:Hp}{Q:VK}(p:Addr)(y:Str):sC K (.ref p) [.str y] H Q=∃ ss:List Str,SqL K H p (ss.map V.str)∧y∈ss∧Q (.int (ss.idxOf y:Nat)) H:=
 propext ⟨fun ⟨_,ss,_,e1,e2,q⟩=>by cases e1; cases e2; exact⟨ss,q⟩,fun ⟨ss,q⟩=>⟨p,ss,y,rfl,rfl,q⟩⟩
theorem m9(K:PySem.W.Frag)(hK:X.K=K:=by rfl):MtR X "list.index" (sC K):=by
 subst hK;intro pins s σ H x xs v us Q I rx r h
 obtain⟨p,ss,y,rfl,rfl,hq,hy,q⟩:=h
 cases rx;obtain⟨u,rfl,ru⟩:=dS r
 obtain⟨t,rfl⟩:=ru
 obtain⟨its,rv,pl,hz⟩:=I.list hq
 have hlen:its.length=ss.length:=by rw[← rv.length,List.length_map]
 rw[List.length_map]at hz
 have hs:sizeLine=16777216:=sizeLine_eq
 obtain⟨⟨cls,dd,data,sl⟩,ho,hc,n,hd⟩:=pl.isList
 simp only at hc hd
 subst hc hd;have hj:ss.idxOf y<ss.length:=List.idxOf_lt_length_iff.mpr hy
 have rel:∀ (i:Nat) (h:i<its.length),∃ t',its[i] = .str ss[i] t':=fun i h=>by
  obtain⟨x,hx,rx⟩:=rv.of (i:=i) (u:=its[i]) (List.getElem?_eq_getElem h)
  rw[List.getElem?_map,List.getElem?_eq_getElem (by omega)]at hx
  have hx':V.str ss[i]=x:=Option.some.inj hx
  subst hx';exact rx
 refine call_meets PySem.F.slot_list_index ⟨_,ho,rfl⟩ PySem.F.entry_list_index (PySem.F.args_list_index_2 _ _)
  (list_indexAt p its.toArray n dd sl (.str y t) (fB (.str y)) (ss.idxOf y) (by simpa [hlen] using hj) (by omega) ?_ ?_) ⟨ho,fun z hz=>?_,⟨.int _,H,I.tok _,⟨_,rfl⟩,q⟩⟩
 ·show fB (.str y) its[ss.idxOf y]=true
  obtain⟨t',e⟩:=rel (ss.idxOf y) (by omega)
  rw[e];show (ss[ss.idxOf y] == y)=true
  rw[List.getElem_idxOf hj]; simp
 ·intro j hjs hlt
  have hj':j<its.length:=by simpa using hjs
  show fB (.str y) its[j]=false
  obtain⟨t',e⟩:=rel j hj'
  rw[e];show (ss[j] == y)=false
  exact beq_eq_false_iff_ne.mpr (v_ hlt _)
 ·have hz':z∈its:=by simpa using hz
  obtain⟨i,hi,rfl⟩:=List.mem_iff_getElem.mp hz'
  obtain⟨t',e⟩:=rel i hi
  have q':=iy (A:=X.A.in1) (s:=s) (y:=.str ss[i]) (x:=.str y) (u:=its[i]) (v:=.str y t) ⟨t',e⟩ ⟨t,rfl⟩ rfl rfl;rw[e]; rw[e]at q'
  exact q'
end
section
variable{X:Cx}
def BX:R2:=fun x y H Q=>y = .non∧Q (.bl (decide (x = .non))) H
def zK:R2:=fun x y H Q=>y = .non∧Q (.bl (!decide (x = .non))) H
theorem eZ:OpR X (compareOp .Is) BX:=Dt
theorem kM:OpR X (compareOp .IsNot) zK:=AI
def Ad:List V→Hp→VK→Prop:=fun xs H Q=>∃ i,xs=[.int i]∧i.natAbs.log2<1920∧Q (.str (toString i)) H
theorem xw:CallR X (.type "str") Ad:=qz
def Ai:List V→Hp→VK→Prop:=fun xs H Q=>(∃ i,xs=[.int i]∧Q (.int i) H)∨∃ k,xs=[.bl k]∧Q (.int (if k then 1 else 0)) H
theorem nv:CallR X (.type "int") Ai:=wj
def wL(K:PySem.W.Frag):List V→Hp→VK→Prop:=fun xs H Q=>∃ p ys,xs=[.ref p]∧((SqL K H p ys∧∀ l,H l=none→Q (.ref l) (upd H l (.tup ys)))∨(SqT K H p ys∧Q (.ref p) H))
theorem wA(K:PySem.W.Frag)(hK:X.K=K:=by rfl):CallR X (.type "tuple") (wL K):=qX K hK
def uC:R2:=fun x y H Q=>match x,y with
 | .int i,.int j=>CMul i j∧Q (.int (i * j)) H
 | .str z,.int n=>0≤n∧n≤4096∧z.length≤4096∧Q (.str (Txt.mul z n)) H
 | _,_=>False
theorem jN:OpR X (binaryOp .Mult) uC:=by
 intro pins s σ H x y v u Q I rx ry h
 match x,y,h with
 | .int i,.int j,h=>exact BE pins s σ H _ _ v u Q I rx ry ⟨_,_,rfl,rfl,h⟩
 | .str z,.int n,h=>
  obtain⟨t,rfl⟩:=rx
  obtain⟨t',rfl⟩:=ry
  obtain⟨h0,h1,h2,q⟩:=h
  exact SB.mul (mulOk_of 4096 4096 h2 (by omega) (by omega) (by decide) (by decide)) fun t' k=>⟨.str (Txt.mul z n),H,I.tok k,⟨t',rfl⟩,q⟩
end
section
variable{K:PySem.W.Frag}{H:Hp}{Q:VK}
theorem rT(x:V):BX x .non H Q=Q (.bl (decide (x = .non))) H:=propext ⟨fun h=>h.2,fun h=>⟨rfl,h⟩⟩
theorem pW(x:V):zK x .non H Q=Q (.bl (!decide (x = .non))) H:=propext ⟨fun h=>h.2,fun h=>⟨rfl,h⟩⟩
theorem qU(i:Int):Ad [.int i] H Q=(i.natAbs.log2<1920∧Q (.str (toString i)) H):=propext ⟨fun ⟨_,e,q⟩=>by cases e; exact q,fun q=>⟨i,rfl,q⟩⟩
theorem qF(k:Bool):Ai [.bl k] H Q=Q (.int (if k then 1 else 0)) H:=propext ⟨fun h=>by rcases h with ⟨_,e,q⟩ | ⟨_,e,q⟩ <;> cases e; exact q,fun q=>.inr ⟨k,rfl,q⟩⟩
theorem mT(p:Addr):wL K [.ref p] H Q=∃ ys,((SqL K H p ys∧∀ l,H l=none→Q (.ref l) (upd H l (.tup ys)))∨(SqT K H p ys∧Q (.ref p) H)):=propext ⟨fun ⟨_,ys,e,q⟩=>by cases e; exact⟨ys,q⟩,fun ⟨ys,q⟩=>⟨p,ys,rfl,q⟩⟩
theorem nG(i j:Int):uC (.int i) (.int j) H Q=(CMul i j∧Q (.int (i * j)) H):=rfl
theorem m4(z:Str)(n:Int):uC (.str z) (.int n) H Q=(0≤n∧n≤4096∧z.length≤4096∧Q (.str (Txt.mul z n)) H):=rfl
theorem tm(a:Addr)(lo hi:Option Int):zi K (.ref a) lo hi H Q=∃ xs,SqL K H a xs∧∀ p,H p=none→Q (.ref p) (upd H p (.lst (kx xs lo hi))):=propext ⟨fun ⟨_,xs,e,q⟩=>by cases e; exact⟨xs,q⟩,fun ⟨xs,q⟩=>⟨a,xs,rfl,q⟩⟩
end
theorem cA{n:Nat}(h:n≤1000000):n<sizeLine:=by
 have:sizeLine=16777216:=sizeLine_eq
 omega
theorem cJ{n:Nat}(h:n≤1000000):n≤sizeLine:=Nat.le_of_lt (cA h)
theorem vA{α : Type}{f:α→V}{xs:List α}{i:Int}{x:α}(h0:0≤i)(h:xs[i.toNat]? = some x):eC (xs.map f) i=some (f x):=by
 have q:(xs.map f)[i.toNat]? = some (f x):=by rw[List.getElem?_map,h]; rfl
 have q':=aZ q
 rwa [show ((i.toNat:Nat):Int)=i by omega]at q'
theorem aw{H H':Hp}{p:Addr}{o:HO}(h:upd H p o=H')(hp:H p=none):Same H H':=h ▸ bh hp o
theorem aS{H H':Hp}{p:Addr}{o:HO}(h:upd H p o=H'):H' p=some o:=h ▸ ar
end L2
namespace L2
open PySem PySem.Spec PyProof.Rows
theorem Inv.turnedL{X:Cx}{pins:List (Addr × Obj)}{σ : St}{H:Hp}{s:Shared}{h':Heap}{t':Nat}{ch:List Addr}(I:Inv X pins σ H s)(k:∀ b o,b∉ch→s.heap.get? b=some o→h'.get? b=some o)
  (hf:∀ b∈ch,ii X pins H b):Inv X pins σ H { s with heap:=h',toks:=t' }:=by
 have nit:∀ b u,H b=some u→b∉ch:=fun b u e z=>by rw[(hf b z).1]at e; cases e
 refine I.step (g':=s.gens) (d':=s.drawn) (ch:=ch) (fun b hb=>?_) (fun b o _ _ hc e _=>k b o hc e) (fun b o _ _ hc e _=>⟨o.slots,k b o hc e⟩) (fun _ _ _ _ n=>n)
  (fun b o hc e=>⟨o,k b o hc e⟩) (fun _ _ e=>e) (fun _ _ _ e=>e) (fun b ps e=>⟨#[],by rw[e]; simp⟩) (fun m hm=>?_) (fun b u e=>?_) I.bare
 ·obtain⟨_,f1,_,f3,f4,f5⟩:=hf b hb
  exact⟨f3,f1,f4,f5⟩
 ·obtain⟨o,es,ep,ho,r⟩:=hm
  exact⟨o,es,ep,k _ o (fun z=>(hf _ z).2.1 rfl) ho,r⟩
 ·refine(I.hok b u e).stay (fun c v hc q=>k c v ?_ q) (fun _ q=>q) fun _ _ q=>q
  rcases hc with z | z
  ·rw[z]; exact nit b u e
  ·exact nit c _ z
theorem Inv.turnedLaid{X:Cx}{pins:List (Addr × Obj)}{σ : St}{H:Hp}{s:Shared}{h':Heap}{t':Nat}{ch:List Addr}{a:Addr}{o:HO}(I:Inv X pins σ H s)(k:∀ b o,b∉ch→s.heap.get? b=some o→h'.get? b=some o)
  (hf:∀ b∈ch,ii X pins H b) (hp:s.heap.objs.size≤a) (new:ObjOk X.prog X.w (upd H a o) h' a o):Inv X pins σ (upd H a o) { s with heap:=h',toks:=t' }:=by
 have hn:H a=none:=I.hok.fresh hp
 have nit:∀ b u,H b=some u→b∉ch:=fun b u e z=>by rw[(hf b z).1]at e; cases e
 refine I.step (g':=s.gens) (d':=s.drawn) (ch:=ch) (fun b hb=>?_) (fun b o _ _ hc e _=>k b o hc e) (fun b o _ _ hc e _=>⟨o.slots,k b o hc e⟩) (fun b u _ q n=>?_)
  (fun b o hc e=>⟨o,k b o hc e⟩) (fun b xs q=>?_) (fun b u xs q=>?_) (fun b ps q=>⟨#[],?_⟩) (fun m hm=>?_) (fun b u e=>?_) I.bare
 ·obtain⟨_,f1,_,f3,f4,f5⟩:=hf b hb
  exact⟨f3,f1,f4,f5⟩
 ·rw[am (Nat.ne_of_lt (Nat.lt_of_lt_of_le (Heap.lt_size q) hp))]; exact n
 ·rw[am (aF q hn)]; exact q
 ·rw[am (aF q hn)]; exact q
 ·rw[am (aF q hn),q]; simp
 ·obtain⟨o,es,ep,ho,r⟩:=hm
  exact⟨o,es,ep,k _ o (fun z=>(hf _ z).2.1 rfl) ho,r⟩
 ·by_cases hb:b=a
  ·subst hb; rw[ar]at e; cases e; exact new
  ·rw[am hb]at e
   refine(I.hok b u e).stay (fun c v hc q=>k c v ?_ q) (fun c q=>by rw[am (aF q hn)]; exact q) fun c xs q=>by rw[am (aF q hn)]; exact q
   rcases hc with z | z
   ·rw[z]; exact nit b u e
   ·exact nit c _ z
structure Bs (z TI TO i1 i2:Addr):Prop where
 TIz:TI≠z
 TOz:TO≠z
 i1z:i1≠z
 i2z:i2≠z
 TITO:TI≠TO
 TIi1:TI≠i1
 TIi2:TI≠i2
 TOi1:TO≠i1
 TOi2:TO≠i2
 i12:i1≠i2
theorem Hb(n:Nat):Bs (n+4) (n+2) (n+3) n (n+1):=⟨(show (@Ne Nat (n+2) (n+4):Prop) by omega),(show (@Ne Nat (n+3) (n+4):Prop) by omega),(show (@Ne Nat (n) (n+4):Prop) by omega),(show (@Ne Nat (n+1) (n+4):Prop) by omega),(show (@Ne Nat (n+2) (n+3):Prop) by omega),(show (@Ne Nat (n+2) (n):Prop) by omega),(show (@Ne Nat (n+2) (n+1):Prop) by omega),(show (@Ne Nat (n+3) (n):Prop) by omega),(show (@Ne Nat (n+3) (n+1):Prop) by omega),(show (@Ne Nat (n) (n+1):Prop) by omega)⟩
theorem zh:bootBuiltins "zip" = some (.type "zip"):=by decide +kernel
section
variable{X:Cx}
end
section
variable{σ : St}{H:Hp}{Q:VK}
end
end L2
namespace L2
open PySem PySem.Spec PyProof.Rows
def vK(K:PySem.W.Frag)(a:Addr):It:=
  ⟨fun i H=>∃ xs x,SqL K H a xs∧xs[i]? = some x,
   fun i H v H'=>∃ t x,H t=none∧v = .ref t∧H'=upd H t (.tup [.int i,x])∧∀ xs,SqL K H a xs→xs[i]? = some x,
   fun i H=>∃ xs,SqL K H a xs∧xs.length≤i⟩
def Iq(e it l:Addr)(i:Nat)(h:Heap):Prop:=(∃ old,IsEnum h e it i old)∧h.IsListIter it l i
theorem vI{P:Program}{w:World}{K:PySem.W.Frag}{elts:List Expr}{k:Nat}{pos:Pos}{e it l:Addr}(hei:e≠it):oT P w K (.Tuple elts k pos) (vK K l) [e,it] e (Iq e it l) where
 mem:=by simp
 obj:=fun i h st b hb=>by
  obtain⟨⟨old,s1⟩,⟨o4,s4,c4,d4⟩⟩:=st
  simp only[List.mem_cons,List.mem_nil_iff,or_false]at hb
  rcases hb with rfl | rfl
  ·exact⟨_,s1,fun v e=>by cases e⟩
  ·exact⟨_,s4,fun v e=>by rw[d4]at e; cases e⟩
 keep:=fun i h h' st kk=>by
  obtain⟨⟨old,s1⟩,s4⟩:=st
  exact⟨⟨old,kk e (by simp) _ s1⟩,s4.at fun o z=>kk it (by simp) o z⟩
 item:=by
  intro X hP hw hK hc i pins s σ H E I hf st hg
  subst hP hw hK;obtain⟨xs,x,q1,hx⟩:=hg
  obtain⟨is1,rv1,p1,_⟩:=I.list q1
  obtain⟨u1,hu1,ru1⟩:=rv1.get hx
  obtain⟨⟨old,s1⟩,s4⟩:=st
  refine wpAny_pyNext_enum_item s1 s4 p1.isList (x:=u1) (by simpa using hu1) hei fun h' a1 a3 a5 a6 kk=>?_
  refine⟨_,rfl,wpAny_letOwnedTupleGo_enum a1 fun h'' hz' hs'=>?_⟩
  have lt:∀ {c o},s.heap.get? c=some o→s.heap.objs.size≠c:=fun z=>Nat.ne_of_gt (Heap.lt_size z)
  have zne:s.heap.objs.size≠e:=lt s1
  have keep2:∀ b o,b∉[e,it]→s.heap.get? b=some o→h''.get? b=some o:=fun b o hb z=>by
   simp only[List.mem_cons,List.mem_nil_iff,or_false,not_or]at hb
   exact hs'.extBut _ _ hb.1 (kk b o hb.1 hb.2 z)
  have hsz:H s.heap.objs.size=none:=I.hok.fresh (Nat.le_refl _)
  have tupN:=hs'.extBut _ _ zne a5
  have nlt:∀ c∈[e,it],c≠s.heap.objs.size:=fun c hc'=>by
   obtain⟨o4,e4,_⟩:=id s4
   simp only[List.mem_cons,List.mem_nil_iff,or_false]at hc'
   rcases hc' with rfl | rfl
   ·exact(lt s1).symm
   ·exact(lt e4).symm
  refine⟨.ref s.heap.objs.size,upd H s.heap.objs.size (.tup [.int i,x]),I.turnedLaid (t':=s.toks+1) keep2 hf (Nat.le_refl _) ⟨cJ (by show 2≤1000000; decide),[.int i s.toks,u1],.cons ⟨_,rfl⟩ (.cons ru1 .nil),⟨_,tupN,rfl,rfl,0,rfl⟩⟩,rfl,⟨_,x,hsz,rfl,rfl,fun xs' q'=>?_⟩,
   ⟨⟨_,by simpa using hz'⟩,a3.extBut hs'.extBut hei.symm⟩,fun c hc'=>?_⟩
  ·rw[I.list_inj q' q1]; exact hx
  ·rw[am (nlt c hc')]; exact(hf c hc').1
 done:=by
  intro X hP hw hK hc i pins s σ H E I hf st hg
  subst hP hw hK;obtain⟨xs,q1,hlen⟩:=hg
  obtain⟨is1,rv1,p1,_⟩:=I.list q1
  have l1:=rv1.length;obtain⟨⟨old,s1⟩,s4⟩:=st
  refine wpAny_pyNext_enum_end (I.ok.hd hc) s1 s4 p1.isList (by simp; omega) fun h' kk=>⟨rfl,I.turnedL (t':=s.toks) (fun b o hb z=>?_) hf⟩
  simp only[List.mem_cons,List.mem_nil_iff,or_false,not_or]at hb
  exact kk b o hb.2 z
 self:=fun A i s Q E st h=>by
  obtain⟨⟨old,s1⟩,_⟩:=st
  exact wpAny_pyIter_enum s1 h
theorem lW:bootBuiltins "enumerate" = some (.type "enumerate"):=by decide +kernel
def zG(K:PySem.W.Frag)(ta:TA):TI:=fun σ H R=>ta σ H fun vs H1=>∃ a:Addr,vs=[.ref a]∧(∃ xs,H1 a=some (.lst xs))∧R (vK K a) H1
theorem qh(K:PySem.W.Frag)(ta:TA){σ : St}{H:Hp}{R:It→Hp→Prop}:zG K ta σ H R=ta σ H fun vs H1=>∃ a:Addr,vs=[.ref a]∧(∃ xs,H1 a=some (.lst xs))∧R (vK K a) H1:=rfl
theorem sf(n:Addr)(P:Addr→Prop):(∃ i,[V.ref n]=[V.ref i]∧P i)=P n:=propext ⟨fun ⟨_,e,h⟩=>by cases e; exact h,fun h=>⟨n,rfl,h⟩⟩
theorem fE(K:PySem.W.Frag){X:Cx}{elts:List Expr}{k:Nat}{tpos:Pos}{a:Expr}{ta:TA}{p pos:Pos}(hg:Gl X "enumerate") (hm:X.mg "enumerate" = none) (ha:PA X [a] ta) (hs:starEach [a] X.env=[(false,eval a X.env)]:=by rfl) (hK:X.K=K:=by rfl) :
  PI X (.Tuple elts k tpos) (.Call (.Name "enumerate" p) [a] [] pos) (zG K ta):=by
 subst hK;intro pins s σ H R I h
 refine Call_ (gK I hg hm lW (PyProof.Rows.callWith_type1 (bq (ha pos pins s σ H _ I h) fun us s1 ⟨vs,H1,I1,r1,q1⟩=>?_) hs rfl))
 obtain⟨l,e,⟨xs,h1⟩,q⟩:=q1
 subst e;obtain⟨u1,rfl,r1'⟩:=dS r1
 obtain rfl:u1=Value.ref l:=r1'
 obtain⟨hz,its,n,rv,hl⟩ : xs.length≤sizeLine∧∃ (its:List Value) (n:Nat),Vals xs its∧s1.heap.get? l=some { cls:=.type "list", data:=.seq its.toArray n }:=I1.hok l _ h1
 refine call_enumerate_1 hl fun h' a1 a4 a6 kk=>?_
 refine wpAny_pyIter_enum a1 ⟨_,[s1.heap.objs.size+1,s1.heap.objs.size],_,_,H1,rfl,I1.kept (t':=s1.toks) kk,
  vI (e:=s1.heap.objs.size+1) (it:=s1.heap.objs.size) (Nat.ne_of_gt (Nat.lt_succ_self _)),⟨⟨_,a1⟩,a4⟩,fun b hb=>?_,q⟩
 have hb':s1.heap.objs.size≤b:=by
  simp only[List.mem_cons,List.mem_nil_iff,or_false]at hb
  rcases hb with rfl | rfl <;> first | exact Nat.le_refl _ | exact Nat.le_add_right _ _
 exact I1.fpOk hb' (I1.hok.fresh hb')
section
variable{K:PySem.W.Frag}{a b:Addr}{xs ys:List V}{g:TG}{te:TE}{nT:Nat}{σ : St}{D:Addr}{Q:VK}{H:Hp}
theorem tV(Pv:Nat→List V→Hp→Prop)(h0:Pv 0 [] H)(hl:∀ i zs H,i≤xs.length→Pv i zs H→SqL K H a xs)
  (hs:∀ i zs H x t,xs[i]? = some x→i<xs.length→Pv i zs H→H t=none→g (.ref t) (σ++List.replicate nT none) (upd H t (.tup [.int i,x])) (lm xs.length i Pv D zs te))
  (hd:∀ zs H,Pv xs.length zs H→Q (.ref D) H):g_ (vK K a) g pB te nT σ D Q H:=by
 refine qg xs.length Pv h0 (fun i zs H hi p=>⟨xs,xs[i],hl i zs H (Nat.le_of_lt hi) p,by simp[hi]⟩) (fun zs H p=>⟨xs,hl _ zs H (Nat.le_refl _) p,Nat.le_refl _⟩) (fun i zs H v H' hi p yl=>?_) hd
 obtain⟨t,x,ht,rfl,rfl,y1⟩:=yl
 exact hs i zs H x t (y1 xs (hl i zs H (Nat.le_of_lt hi) p)) hi p ht
theorem fW{tb:TS}{D:db}(Pv:Nat→St→Hp→Prop)(h0:Pv 0 σ H)(hl:∀ i σ H,i≤xs.length→Pv i σ H→SqL K H a xs)
  (hs:∀ i x t σ H,xs[i]? = some x→Pv i σ H→H t=none→g (.ref t) σ (upd H t (.tup [.int i,x])) fun σ2 H2=>tb { D with nx:=Pv (i+1),ct:=Pv (i+1),bk:=D.nx } σ2 H2) (hd:∀ σ H,Pv xs.length σ H→D.nx σ H):qB (vK K a) g tb D σ H:=by
 refine AQ xs.length Pv h0 (fun i σ H hi p=>⟨xs,xs[i],hl i σ H (Nat.le_of_lt hi) p,by simp[hi]⟩) (fun σ H p=>⟨xs,hl _ σ H (Nat.le_refl _) p,Nat.le_refl _⟩) (fun i σ H v H' hi p yl=>?_) hd
 obtain⟨t,x,ht,rfl,rfl,y1⟩:=yl
 exact hs i x t σ H (y1 xs (hl i σ H (Nat.le_of_lt hi) p)) p ht
def uD(n i:Nat)(Pv:Nat→List V→Hp→Prop)(ys:List V)(H:Hp):Prop:=∃ m',m'<n - i∧(m'=n - (i+1)∧i+1≤n∧Pv (i+1) ys H)
theorem D4{n i:Nat}{Pv:Nat→List V→Hp→Prop}{ys:List V}{H:Hp}(hi:i<n)(h:Pv (i+1) ys H):uD n i Pv ys H:=⟨n - (i+1),by omega,rfl,hi,h⟩
theorem Cu{n i:Nat}{Pv:Nat→List V→Hp→Prop}{D:Addr}{ys:List V}{y:V}{H:Hp}(hi:i<n)(hlen:ys.length≤i)(hz:n≤sizeLine)(h1:H D=some (.lst ys))(h2:Pv (i+1) (ys++[y]) (upd H D (.lst (ys++[y])))):gs n i Pv D ys y H:=
 ⟨h1,by omega,n - (i+1),by omega,rfl,hi,h2⟩
def uE(n i:Nat)(Pv:Nat→List V→Hp→Prop)(D:Addr)(ys:List V)(tc:TT)(te:TE)(σ : St)(H:Hp):Prop:=
 tc σ H fun b H4=>if b=true then te σ H4 (gs n i Pv D ys) else uD n i Pv ys H4
theorem pG{n i:Nat}{Pv:Nat→List V→Hp→Prop}{D:Addr}{ys:List V}{tc:TT}{te:TE}{σ : St}{H:Hp}:uE n i Pv D ys tc te σ H=tc σ H fun b H4=>if b=true then te σ H4 (gs n i Pv D ys) else uD n i Pv ys H4:=rfl
theorem zr{J:It}{tc:TT}(n:Nat)(Pv:Nat→List V→Hp→Prop)(h0:Pv 0 [] H)(hgo:∀ i ys H,i<n→Pv i ys H→J.go i H)(hst:∀ ys H,Pv n ys H→J.stop n H)
  (hs:∀ i ys H x H',i<n→Pv i ys H→J.yld i H x H'→g x (σ++List.replicate nT none) H' (uE n i Pv D ys tc te))
  (hd:∀ ys H,Pv n ys H→Q (.ref D) H):g_ J g tc te nT σ D Q H:=by
 refine⟨fun i m ys H=>m=n - i∧i≤n∧Pv i ys H,⟨n,by simp,Nat.zero_le _,h0⟩,?_⟩
 rintro i m ys H ⟨rfl,hi,p⟩
 by_cases hlt:i<n
 ·exact .inr ⟨hgo i ys H hlt p,fun x H' y=>hs i ys H x H' hlt p y⟩
 ·have e:i=n:=by omega
  subst e;exact .inl ⟨hst ys H p,hd ys H p⟩
theorem rh{tc:TT}{lo:Int}{n:Nat}(Pv:Nat→List V→Hp→Prop)(h0:Pv 0 [] H)
  (hs:∀ i ys H,i<n→Pv i ys H→g (.int (lo+i)) (σ++List.replicate nT none) H (uE n i Pv D ys tc te))
  (hd:∀ ys H,Pv n ys H→Q (.ref D) H):g_ (lz lo n) g tc te nT σ D Q H:=by
 refine zr n Pv h0 (fun i ys H hi p=>hi) (fun ys H p=>Nat.le_refl _) (fun i ys H x H' hi p yl=>?_) hd
 obtain⟨rfl,rfl⟩:=yl
 exact hs i ys _ hi p
end
end L2
namespace L2
open PySem PySem.Spec PyProof.Rows
end L2
namespace L2
open PySem PySem.Spec PyProof.Rows
set_option genInjectivity false in
set_option genSizeOf false in
structure IK (prog:Program) (w:World) (κ : Type) [DecidableEq κ] where
 is:Heap→κ→Value→Prop
 hash:κ→Int
 draws:κ→Nat
 deep:Nat
 inj:∀ {h:Heap} {v:Value} {x y:κ},is h x v→is h y v→x=y
 keeps:∀ {h h':Heap} {k:κ} {v:Value} {d:Addr} {o:Obj} {es ep},is h k v→h.get? d=some o→o.data = .dict es ep→Heap.SameBut d h h'→is h' k v
 pyHash:∀ {A:Around} {E:Value→Shared→Prop} {s:Shared} {k:κ} {v:Value} {Q:Int→Shared→Prop},A.units+deep<cLine→is s.heap k v→Q (hash k) { s with toks:=s.toks+draws k }→
  wpAny (model prog w) A (PySem.pyHash v) Q E s
 eqBool:∀ {A:Around} {E:Value→Shared→Prop} {s:Shared} {x y:κ} {u v:Value} {Q:Bool→Shared→Prop},A.units+deep<cLine→is s.heap x u→is s.heap y v→Q (decide (x=y)) s→
  wpAny (model prog w) A (PySem.eqBool u v) Q E s
 quiet:∀ {A:Around} {E:Value→Shared→Prop} {s:Shared} {k:κ} {v:Value} {n:Nat} {Q:Bool→Shared→Prop},is s.heap k v→Q true s→wpAny (model prog w) A (eqIsQuiet (n+deep) v) Q E s
section
variable{prog:Program}{w:World}{κ : Type}[DecidableEq κ](K:IK prog w κ)
inductive IsItems (h:Heap):List κ→List Value→Prop
 | nil:IsItems h [] []
 | cons {k:κ} {v:Value} {ks:List κ} {vs:List Value}:K.is h k v→IsItems h ks vs→IsItems h (k::ks) (v::vs)
def IsTupK(h:Heap)(ks:List κ)(v:Value):Prop:=∃ a o items n,v = .ref a∧h.get? a=some o∧o.cls = .type "tuple" ∧ o.data = .seq items n∧IsItems K h ks items.toList
variable{K}
theorem IsItems.inj{h:Heap}:∀ {x y:List κ} {vs:List Value},IsItems K h x vs→IsItems K h y vs→x=y
 | _,_,_,.nil,.nil=>rfl
 | _,_,_,.cons a b,.cons c d=>by rw[K.inj a c,IsItems.inj b d]
theorem IsItems.keeps{h h':Heap}{d:Addr}{o:Obj}{es ep}(ho:h.get? d=some o)(hd:o.data = .dict es ep)(hs:Heap.SameBut d h h'):∀ {x:List κ} {vs:List Value},IsItems K h x vs→IsItems K h' x vs
 | _,_,.nil=>.nil
 | _,_,.cons a b=>.cons (K.keeps a ho hd hs) (b.keeps ho hd hs)
theorem IsItems.len{h:Heap}:∀ {x:List κ} {vs:List Value},IsItems K h x vs→x.length=vs.length
 | _,_,.nil=>rfl
 | _,_,.cons _ b=>by rw[List.length_cons,List.length_cons,b.len]
def ig(K:IK prog w κ)(ks:List κ):Nat:=(ks.map K.draws).sum
def qm(K:IK prog w κ)(ks:List κ):Int:=reduceHash (Builtin.Tuple.tupleHashOf (ks.map K.hash))
theorem jb{A:Around}{E:Value→Shared→Prop}{s:Shared}{ks:List κ}{v:Value}{Q:Int→Shared→Prop}(hu:A.units+(K.deep+1)<cLine)(hk:IsTupK K s.heap ks v)(h:Q (qm K ks) { s with toks:=s.toks+(ig K ks+1) }) :
  wpAny (model prog w) A (PySem.pyHash v) Q E s:=by
 obtain⟨a,o,items,n,rfl,ho,hc,hd,hi⟩:=hk
 have hT:s.TypeIs (.ref a) "tuple" := ⟨o,ho,hc⟩
 unfold PySem.pyHash
 first | unfold pyHashByItsType | skip
 first | refine wpAny_bind (wpAny_cRoomFor_or (.inr (by omega)) ?_) | skip
 refine wpAny_bind (wpAny_specialOf hT PySem.F.slot_tuple_hash.lookup ?_)
 rw[if_neg (by rw[beq_builtin_none]; exact Bool.false_ne_true)]
 refine wpAny_bind (wpAny_specialOf hT PySem.F.slot_tuple_hash.lookup ?_)
 show wpAny _ _ (callSpecialIfBoundUnlessNone? (.ref a) "__hash__" _ >>= _) Q E s
 refine wpAny_bind (wpAny_callSpecialIfBoundUnlessNone?_slot hT PySem.F.slot_tuple_hash (wpAny_call_entry PySem.F.slot_tuple_hash hT
  PySem.F.entry_tuple_hash ?_ (PySem.F.args_tuple_hash_1 _)))
 show wpAny _ _ (Builtin.Tuple.tupleItemsOf (.ref a) >>= _) _ _ s
 refine wpAny_bind (wpAny_tupleItemsOf ho hd (wpAny_bind ?_))
 rw[← Array.forIn_toList];refine wpAny_forIn_list _ (fun rest (b:Array Int) s'=>∃ done left,ks=done++left∧IsItems K s.heap left rest∧b.toList=done.map K.hash∧s'={ s with toks:=s.toks+ig K done }) _ ?_ ?_ _ _ ⟨[],ks,rfl,hi,rfl,rfl⟩
 ·rintro x rest b s' ⟨done,left,rfl,hl,hb,rfl⟩
  cases hl with
  | @cons k _ ks' _ h1 hl'=>
   have e:ig K (done++[k])=ig K done+K.draws k:=by simp[ig]
   refine wpAny_bind (K.pyHash (show A.in1.units+K.deep<cLine from by show A.units+1+K.deep<cLine; omega) h1 ?_)
   have fin:∃ done' left',done++k::ks'=done'++left'∧IsItems K s.heap left' rest∧(b.push (K.hash k)).toList=done'.map K.hash∧({ s with toks:=s.toks+ig K done+K.draws k }:Shared)={ s with toks:=s.toks+ig K done' }:=
    ⟨done++[k],ks',by simp,hl',by simp[hb],by rw[e,Nat.add_assoc]⟩
   first
    | exact wpAny_pure fin
    | exact wpAny_bind (wpAny_pure (wpAny_pure fin))
 ·rintro b s' ⟨done,left,rfl,hl,hb,rfl⟩
  cases hl;rw[List.append_nil]at h
  show wpAny _ _ (retInt (Builtin.Tuple.tupleHashOf b.toList)) _ _ _
  rw[hb];refine wpAny_ret_mkInt ?_
  unfold qm reduceHash at h;show wpAny _ _ (if (decide (-(2:Int) ^ 63≤Builtin.Tuple.tupleHashOf (done.map K.hash))&&decide (Builtin.Tuple.tupleHashOf (done.map K.hash)<2 ^ 63))=true then _ else _) Q E _
  by_cases hr:(decide (-(2:Int) ^ 63≤Builtin.Tuple.tupleHashOf (done.map K.hash))&&decide (Builtin.Tuple.tupleHashOf (done.map K.hash)<2 ^ 63))=true
  ·rw[if_pos hr]at h ⊢
   exact wpAny_pure (by simpa [Nat.add_assoc] using h)
  ·rw[if_neg hr]at h ⊢
   exact wpAny_bind (wpAny_rule (wpAny_pure (by simpa [Nat.add_assoc] using h)))
theorem uj{A:Around}{E:Value→Shared→Prop}{s:Shared}{x y:List κ}{a b:Addr}{P:Fin→Shared→Prop}(hu:A.units+K.deep<cLine)(hx:IsTupK K s.heap x (.ref a))(hy:IsTupK K s.heap y (.ref b))(h:P (.done (.ret (.bool (decide (x=y))))) s) :
  wpAny (model prog w) A (Builtin.«tuple.__eq__» ⟨[.ref a,.ref b],[]⟩) P E s:=by
 obtain⟨_,oa,xs,na,e1,hoa,ca,hda,hia⟩:=hx
 obtain⟨_,ob,ys,nb,e2,hob,cb,hdb,hib⟩:=hy
 cases e1
 cases e2;show wpAny _ _ (isInstance (.ref b) (.type "tuple") >>= _) _ _ s
 refine wpAny_bind (wpAny_isInstance ⟨ob,hob,cb⟩ isSubtype_tuple_tuple ?_)
 simp only[Bool.not_true,Bool.false_eq_true,if_false]
 refine wpAny_bind (wpAny_tupleItemsOf hoa hda (wpAny_bind (wpAny_tupleItemsOf hob hdb (wpAny_bind ?_))))
 refine wpAny_forIn_list _ (fun rest r s'=>r.1=none∧s'=s∧∃ x' y' xs' ys',rest=List.zip xs' ys'∧IsItems K s.heap x' xs'∧IsItems K s.heap y' ys'∧decide (x'=y')=decide (x=y)∧(xs'.length == ys'.length)=(xs.size == ys.size)) _ ?_ ?_ _ _
  ⟨rfl,rfl,x,y,xs.toList,ys.toList,rfl,hia,hib,rfl,by simp⟩
 ·rintro⟨u,v⟩ rest r s' ⟨hr,rfl,x',y',xs',ys',hz,hx',hy',hdec,hlen⟩
  cases hx' with
  | nil=>simp at hz
  | @cons k1 u' x'' xs'' h1 hx''=>
   cases hy' with
   | nil=>simp at hz
   | @cons k2 v' y'' ys'' h2 hy''=>
    simp only[List.zip_cons_cons,List.cons.injEq,Prod.mk.injEq]at hz
    obtain⟨⟨rfl,rfl⟩,rfl⟩:=hz
    refine wpAny_bind (K.eqBool (x:=k1) (y:=k2) hu h1 h2 ?_)
    by_cases hk:k1=k2
    ·subst hk
     rw[decide_eq_true rfl];simp only[Bool.not_true,Bool.false_eq_true,if_false]
     refine wpAny_pure ⟨rfl,rfl,x'',y'',xs'',ys'',rfl,hx'',hy'',?_,by simpa using hlen⟩
     rw[← hdec]
     by_cases hxy:x''=y'' <;> simp[hxy]
    ·rw[decide_eq_false hk]
     simp only[Bool.not_false,if_true]
     have hf:decide (x=y)=false:=by rw[← hdec]; simp[hk]
     rw[hf]at h
     exact wpAny_bind (wpAny_pure (wpAny_pure (wpAny_pure h)))
 ·rintro⟨r1,r2⟩ s' ⟨hr,rfl,x',y',xs',ys',hz,hx',hy',hdec,hlen⟩
  simp only at hr
  subst hr;refine wpAny_pure ?_
  have hfin:(xs.size == ys.size)=decide (x=y):=by
   rw[← hdec,← hlen]
   cases hx' with
   | nil=>cases hy' <;> simp
   | cons _ _=>
    cases hy' with
    | nil=>simp
    | cons _ _=>simp at hz
  show P (.done (.ret (.bool (xs.size == ys.size)))) s'
  rw[hfin]; exact h
theorem lR{A:Around}{E:Value→Shared→Prop}{s:Shared}{x y:List κ}{u v:Value}{Q:Bool→Shared→Prop}(hu:A.units+(K.deep+1)<cLine)(hx:IsTupK K s.heap x u)(hy:IsTupK K s.heap y v)(h:Q (decide (x=y)) s) :
  wpAny (model prog w) A (PySem.eqBool u v) Q E s:=by
 have hx0:=hx;have hy0:=hy;obtain⟨a,oa,xs,na,rfl,hoa,ca,hda,hia⟩:=hx
 obtain⟨b,ob,ys,nb,rfl,hob,cb,hdb,hib⟩:=hy
 unfold PySem.eqBool
 try with_reducible refine wpAny_holding ?_
 show wpAny _ _ (if (Value.ref a == Value.ref b)=true then _ else _) Q E s
 by_cases hab:(Value.ref a == Value.ref b)=true
 ·rw[if_pos hab]
  have e:a=b:=by have:=eq_of_beq hab; injection this
  subst e;rw[hoa]at hob
  cases hob;rw[hda]at hdb
  injection hdb with e1 _
  subst e1;rw[decide_eq_true (hia.inj hib)]at h
  exact wpAny_bind (wpAny_rule (wpAny_pure h))
 ·rw[if_neg hab]
  have ta:s.TypeIs (.ref a) "tuple" := ⟨oa,hoa,ca⟩
  have tb:s.TypeIs (.ref b) "tuple" := ⟨ob,hob,cb⟩
  refine wpAny_bind (wpAny_richCompare_same_room (op:=.Eq) ta tb PySem.F.slot_tuple_eq (wpAny_call_entry PySem.F.slot_tuple_eq ta PySem.F.entry_tuple_eq ?_ (PySem.F.args_tuple_eq_2 _ _)) (by omega))
  refine uj (K:=K) ?_ hx0 hy0 ⟨_,rfl,(fun e=>nomatch e),wpAny_truthy_bool h⟩
  show A.units+1+K.deep<cLine
  omega
theorem iG{A:Around}{E:Value→Shared→Prop}{s:Shared}{ks:List κ}{v:Value}{n:Nat}{Q:Bool→Shared→Prop}(hk:IsTupK K s.heap ks v)(h:Q true s):wpAny (model prog w) A (eqIsQuiet (n+(K.deep+1)) v) Q E s:=by
 obtain⟨a,o,items,m,rfl,ho,hc,hd,hi⟩:=hk
 have hT:s.TypeIs (.ref a) "tuple" := ⟨o,ho,hc⟩
 rw[show n+(K.deep+1)=(n+K.deep)+1 from rfl];unfold eqIsQuiet;refine wpAny_bind (wpAny_specialOf hT PySem.F.slot_tuple_eq.lookup ?_)
 show wpAny _ _ (isInstance (.ref a) (.type "tuple") >>= _) _ _ s
 refine wpAny_bind (wpAny_isInstance hT isSubtype_tuple_tuple ?_)
 simp only[Bool.not_true,Bool.false_eq_true,if_false]
 refine wpAny_bind (wpAny_seqItems ho hd (wpAny_bind ?_))
 show wpAny _ _ (forIn items _ _) _ _ s
 rw[← Array.forIn_toList];refine wpAny_forIn_list _ (fun rest r s'=>r.1=none∧s'=s∧∃ ks',IsItems K s.heap ks' rest) _ ?_ ?_ _ _ ⟨rfl,rfl,ks,hi⟩
 ·rintro v rest r s' ⟨hr,rfl,ks',hall⟩
  cases hall with
  | cons h1 h2=>
   refine wpAny_bind (K.quiet h1 ?_)
   simp only[Bool.not_true,Bool.false_eq_true,if_false]
   exact wpAny_pure ⟨rfl,rfl,_,h2⟩
 ·rintro⟨r1,r2⟩ s' ⟨hr,rfl,_⟩
  simp only at hr
  subst hr;exact wpAny_pure h
def uH(K:IK prog w κ):IK prog w (List κ) where
 is:=IsTupK K
 hash:=qm K
 draws:=fun ks=>ig K ks+1
 deep:=K.deep+1
 inj:=by
  rintro h v x y ⟨a,oa,xs,na,rfl,hoa,ca,hda,hia⟩ ⟨b,ob,ys,nb,e,hob,cb,hdb,hib⟩
  cases e;rw[hoa]at hob
  cases hob;rw[hda]at hdb
  injection hdb with e1 _
  subst e1;exact hia.inj hib
 keeps:=by
  rintro h h' k v d o es ep ⟨a,oa,xs,na,rfl,hoa,ca,hda,hia⟩ ho hd hs
  have hne:a≠d:=by
   rintro rfl
   rw[hoa]at ho
   cases ho;rw[hd]at hda; cases hda
  exact⟨a,oa,xs,na,rfl,(hs.2 a hne).trans hoa,ca,hda,hia.keeps ho hd hs⟩
 pyHash:=fun hu hk h=>jb hu hk h
 eqBool:=fun hu hx hy h=>lR hu hx hy h
 quiet:=fun hk h=>iG hk h
def Al(K:IK prog w κ)(hd:K.deep≤7):HeapKind prog w (List κ) where
 is:=fun h k a=>IsTupK K h k (.ref a)
 hash:=qm K
 draws:=fun ks=>ig K ks+1
 room:=fun A=>A.units+(K.deep+1)<cLine
 inj:=(uH K).inj
 keeps:=(uH K).keeps
 pyHash:=fun hu hk h=>jb hu hk h
 eqBool:=fun hu hx hy h=>lR hu hx hy h
 quiet:=fun {A E s k a Q} hk h=>by
  have q:=iG (n:=7 - K.deep) (A:=A) (E:=E) hk h
  rwa [show 7 - K.deep+(K.deep+1)=8 by omega]at q
end
end L2
namespace L2
open PySem PySem.Spec PyProof.Rows
def cT:Option Int→V
 | none=>.non
 | some i=>.int i
theorem x_{x y:Option Int}{v:Value}(a:RelV (cT x) v)(b:RelV (cT y) v):x=y:=by
 have e:=a.inj b
 cases x <;> cases y <;> simp_all [cT]
theorem h_(x:Option Int):bR (cT x)=true:=by cases x <;> rfl
theorem sS(x y:Option Int):gb (cT x) (cT y)=decide (x=y):=by
 cases x with
 | none=>cases y <;> rfl
 | some i=>
  cases y with
  | none=>rfl
  | some j=>
   show (i == j)=_
   by_cases h:i=j <;> simp[h]
theorem nB{prog:Program}{w:World}{A:Around}{E:Value→Shared→Prop}{s:Shared}{Q:Int→Shared→Prop}(h:Q 0xFCA86420 { s with toks:=s.toks+1 }):wpAny (model prog w) A (PySem.pyHash .none) Q E s:=by
 have hT:s.TypeIs .none "NoneType" := rfl
 unfold PySem.pyHash
 first | unfold pyHashByItsType | skip
 refine wpAny_bind ?_
 rw[cRoomFor,if_neg (by decide)]
 refine wpAny_pure (wpAny_bind (wpAny_specialOf hT PySem.F.slot_NoneType_hash.lookup ?_))
 rw[if_neg (by rw[beq_builtin_none]; exact Bool.false_ne_true)]
 refine wpAny_bind (wpAny_specialOf hT PySem.F.slot_NoneType_hash.lookup ?_)
 show wpAny _ _ (callSpecialIfBoundUnlessNone? .none "__hash__" _ >>= _) Q E s
 refine wpAny_bind (wpAny_callSpecialIfBoundUnlessNone?_slot hT PySem.F.slot_NoneType_hash (wpAny_call_entry PySem.F.slot_NoneType_hash hT
  PySem.F.entry_NoneType_hash ?_ (PySem.F.args_NoneType_hash_1 _)))
 show wpAny _ _ (retInt 0xFCA86420) _ _ s
 refine wpAny_ret_mkInt ?_
 exact wpAny_pure h
def dC(prog:Program)(w:World):IK prog w (Option Int) where
 is:=fun _ k v=>RelV (cT k) v
 hash:=fun k=>match k with
  | none=>0xFCA86420
  | some i=>hashInt i
 draws:=fun _=>1
 deep:=0
 inj:=fun a b=>x_ a b
 keeps:=fun a _ _ _=>a
 pyHash:=fun {A E s k v Q} _ hk h=>by
  cases k with
  | none=>
   obtain rfl:v=Value.none:=hk
   exact nB h
  | some i=>
   obtain⟨t,rfl⟩:=(show ∃ t,v=Value.int i t from hk)
   exact wpAny_pyHash_int h
 eqBool:=fun {A E s x y u v Q} _ hx hy h=>by
  have q:=iy (A:=A) (s:=s) hx hy (h_ x) (h_ y);rw[sS]at q
  exact q prog w E Q h
 quiet:=fun {A E s k v n Q} hk h=>by
  have e:carriedByValue v=true:=by
   cases k with
   | none=>obtain rfl:v=Value.none:=hk; rfl
   | some i=>obtain⟨t,rfl⟩:=(show ∃ t,v=Value.int i t from hk); rfl
  rw[eqIsQuiet_byValue _ e];exact wpAny_pure h
abbrev NI:=Sum Int (List (Option Int))
def yg(prog:Program)(w:World)(h:Heap):NI→Value→Prop
 | .inl i,v=>∃ t,v=Value.int i t
 | .inr l,v=>IsTupK (dC prog w) h l v
theorem IsTupK.tup{prog:Program}{w:World}{κ : Type}[DecidableEq κ]{K:IK prog w κ}{h:Heap}{l:List κ}{v:Value}(x:IsTupK K h l v):∃ a its,v = .ref a∧h.IsTuple a its:=by
 obtain⟨a,o,items,n,rfl,ho,hc,hd,hi⟩:=x
 exact⟨a,items,rfl,o,ho,hc,n,hd⟩
theorem sP{A:Around}{prog:Program}{w:World}(hu:A.units+1<cLine):A.units+((dC prog w).deep+1)<cLine:=hu
theorem DJ(i j:Int):(i == j)=decide ((Sum.inl i:NI)=Sum.inl j):=by
 by_cases z:i=j
 ·subst z; simp
 ·have z':¬ ((Sum.inl i:NI)=Sum.inl j):=fun q=>z (Sum.inl.inj q)
  rw[decide_eq_false z']; simpa using z
theorem DS(l l':List (Option Int)):decide (l=l')=decide ((Sum.inr l:NI)=Sum.inr l'):=by
 by_cases z:l=l'
 ·subst z; simp
 ·have z':¬ ((Sum.inr l:NI)=Sum.inr l'):=fun q=>z (Sum.inr.inj q)
  rw[decide_eq_false z',decide_eq_false z]
theorem DW(i:Int)(l:List (Option Int)):decide ((Sum.inl i:NI)=Sum.inr l)=false:=decide_eq_false (fun q=>nomatch q)
theorem DI(i:Int)(l:List (Option Int)):decide ((Sum.inr l:NI)=Sum.inl i)=false:=decide_eq_false (fun q=>nomatch q)
theorem DV{prog:Program}{w:World}{A:Around}{E:Value→Shared→Prop}{s:Shared}{u v:Value}{Q:Bool→Shared→Prop}(hu:A.units+1<cLine):∀ (x y:NI),yg prog w s.heap x u→yg prog w s.heap y v→Q (decide (x=y)) s→
  wpAny (model prog w) A (PySem.eqBool u v) Q E s
 | .inl i,.inl j,⟨t,e1⟩,⟨t',e2⟩,h=>by
  subst e1 e2;rw[← DJ]at h
  exact wpAny_eqBool_int h
 | .inl i,.inr l,⟨t,e1⟩,hy,h=>by
  subst e1;obtain⟨b,its,rfl,ht⟩:=IsTupK.tup (K:=dC prog w) hy
  rw[DW]at h
  exact SeqAt.EqAt.int_tuple i t ht (Nat.lt_of_succ_lt hu) prog w E Q h
 | .inr l,.inl j,hx,⟨t,e1⟩,h=>by
  subst e1;obtain⟨b,its,rfl,ht⟩:=IsTupK.tup (K:=dC prog w) hx
  rw[DI]at h
  exact SeqAt.EqAt.tuple_int j t ht (Nat.lt_of_succ_lt hu) prog w E Q h
 | .inr l,.inr l',hx,hy,h=>by
  rw[← DS]at h
  exact lR (K:=dC prog w) (sP hu) hx hy h
def El(prog:Program)(w:World):IK prog w NI where
 is:=yg prog w
 hash:=fun k=>match k with
  | .inl i=>hashInt i
  | .inr l=>qm (dC prog w) l
 draws:=fun k=>match k with
  | .inl _=>1
  | .inr l=>ig (dC prog w) l+1
 deep:=1
 inj:=fun {h v x y} a b=>by
  cases x with
  | inl i=>
   obtain⟨t,rfl⟩:=(show ∃ t,v=Value.int i t from a)
   cases y with
   | inl j=>obtain⟨t',e⟩:=(show ∃ t',Value.int i t=Value.int j t' from b); injection e with e1 _; rw[e1]
   | inr l=>obtain⟨a,_,e,_⟩:=IsTupK.tup (show IsTupK (dC prog w) h l _ from b); cases e
  | inr l=>
   cases y with
   | inl j=>
    obtain⟨t,rfl⟩:=(show ∃ t,v=Value.int j t from b)
    obtain⟨a,_,e,_⟩:=IsTupK.tup (show IsTupK (dC prog w) h l _ from a); cases e
   | inr l'=>rw[(uH (dC prog w)).inj (show IsTupK (dC prog w) h l v from a) (show IsTupK (dC prog w) h l' v from b)]
 keeps:=fun {h h' k v d o es ep} a ho hd hs=>by
  cases k with
  | inl i=>exact a
  | inr l=>exact(uH (dC prog w)).keeps (show IsTupK (dC prog w) h l v from a) ho hd hs
 pyHash:=fun {A E s k v Q} hu hk h=>by
  cases k with
  | inl i=>
   obtain⟨t,rfl⟩:=(show ∃ t,v=Value.int i t from hk)
   exact wpAny_pyHash_int h
  | inr l=>exact jb (K:=dC prog w) (sP hu) hk h
 eqBool:=fun {A E s x y u v Q} hu hx hy h=>DV hu x y hx hy h
 quiet:=fun {A E s k v n Q} hk h=>by
  cases k with
  | inl i=>
   obtain⟨t,rfl⟩:=(show ∃ t,v=Value.int i t from hk)
   rw[eqIsQuiet_byValue _ rfl];exact wpAny_pure h
  | inr l=>exact iG (K:=dC prog w) hk h
end L2
namespace L2
open PySem PySem.Spec PyProof.Rows
abbrev dU:=Int × List (Option Int)
def nk(k:dU):List NI:=[.inl k.1,.inr k.2]
theorem BF{k k':dU}(h:nk k=nk k'):k=k':=by
 obtain⟨a,b⟩:=k
 obtain⟨c,d⟩:=k'
 unfold nk at h;simp at h
 rw[h.1,h.2]
def MK(P:Program)(w:World):HeapKind P w (List NI):=Al (El P w) (show 1≤7 by decide)
def jL(P:Program)(w:World)(a:Addr)(xs:List (List NI × Addr × Value)):HO:=
 .ext fun h=>∃ o es ep,h.get? a=some o∧o.ExactDict∧o.data = .dict es ep∧es.toList=xs.map (entryOfKey (MK P w))∧(xs.map (·.1)).Nodup
def KeyAt(H:Hp)(k:dU)(b:Addr):Prop:=∃ t,H b=some (.tup [.int k.1,.ref t])∧H t=some (.tup (k.2.map cT))
def NRow(H:Hp)(p:dU × V)(q:List NI × Addr × Value):Prop:=q.1=nk p.1∧KeyAt H p.1 q.2.1∧RelV p.2 q.2.2
def DN(P:Program)(w:World)(H:Hp)(a:Addr)(kvs:List (dU × V)):Prop:=
 ∃ xs,H a=some (jL P w a xs)∧(a == sysModules)=false∧xs.length≤sizeLine∧Paired (NRow H) kvs xs
theorem KeyAt.mono{H H':Hp}{k:dU}{b:Addr}(h:KeyAt H k b)(sm:∀ c xs,H c=some (.tup xs)→H' c=some (.tup xs)):KeyAt H' k b:=by
 obtain⟨t,h1,h2⟩:=h
 exact⟨t,sm _ _ h1,sm _ _ h2⟩
theorem DN.mono{P:Program}{w:World}{H H':Hp}{a:Addr}{kvs:List (dU × V)}(h:DN P w H a kvs)(sm:Same H H'):DN P w H' a kvs:=by
 obtain⟨xs,h1,h2,h3,h4⟩:=h
 exact⟨xs,sm _ _ h1,h2,h3,Paired.imp' (fun p q z=>⟨z.1,z.2.1.mono fun c ys e=>sm _ _ e,z.2.2⟩) h4⟩
section
variable{P:Program}{w:World}{H:Hp}
theorem NRow.val:∀ {kvs:List (dU × V)} {xs:List (List NI × Addr × Value)} (k:dU),Paired (NRow H) kvs xs→RelO (aX kvs k) ((atKey xs (nk k)).map (·.2))
 | _,_,k,.nil=>True.intro
 | _,_,k,@Paired.cons _ _ _ p q kvs xs r t=>by
  have ih:=NRow.val k t;obtain⟨e1,e2,e3⟩:=r
  by_cases h:p.1=k
  ·have h1:aX (p::kvs) k=some p.2:=by simp[aX,h]
   have h2:atKey (q::xs) (nk k)=some q.2:=by simp[atKey,e1,h]
   rw[h1,h2]; exact e3
  ·have hn:¬ q.1=nk k:=fun z=>h (BF (e1.symm.trans z))
   have h1:aX (p::kvs) k=aX kvs k:=by simp[aX,h]
   have h2:atKey (q::xs) (nk k)=atKey xs (nk k):=by simp[atKey,hn]
   rw[h1,h2]; exact ih
theorem gg{h:Heap}:∀ {l:List (Option Int)} {us:List Value},Vals (l.map cT) us→IsItems (dC P w) h l us
 | [],_,.nil=>.nil
 | x::l,_,.cons r t=>.cons r (gg t)
end
section
variable{X:Cx}{pins:List (Addr × Obj)}{σ : St}{H:Hp}{s:Shared}{a b:Addr}{k:dU}{kvs:List (dU × V)}
theorem Inv.key(I:Inv X pins σ H s)(h:KeyAt H k b):(MK X.prog X.w).is s.heap (nk k) b:=by
 obtain⟨t,h1,h2⟩:=h
 obtain⟨_,its,r,o,e,c,n,d⟩ : ([V.int k.1,V.ref t]:List V).length≤sizeLine∧∃ its:List Value,Vals [V.int k.1,V.ref t] its∧IsTup s.heap b its.toArray:=by obtain⟨z,its,r,p⟩:=I.hok b _ h1; exact⟨z,its,r,p.tup⟩
 obtain⟨_,its2,r2,o2,e2,c2,n2,d2⟩ : (k.2.map cT).length≤sizeLine∧∃ its:List Value,Vals (k.2.map cT) its∧IsTup s.heap t its.toArray:=by obtain⟨z,its,r,p⟩:=I.hok t _ h2; exact⟨z,its,r,p.tup⟩
 obtain⟨u,v,rfl,ru,rv⟩:=ow r
 cases rv;refine⟨b,o,_,n,rfl,e,c,d,?_⟩
 show IsItems (El X.prog X.w) s.heap [.inl k.1,.inr k.2] [u,.ref t]
 exact .cons ru (.cons ⟨t,o2,_,n2,rfl,e2,c2,d2,by simpa using gg r2⟩ .nil)
theorem Inv.dn(I:Inv X pins σ H s)(h:DN X.prog X.w H a kvs):∃ xs,H a=some (jL X.prog X.w a xs)∧(a == sysModules)=false∧xs.length≤sizeLine∧Paired (NRow H) kvs xs∧s.heap.DictOfH (MK X.prog X.w) a xs:=by
 obtain⟨xs,h1,h2,h3,h4⟩:=h
 obtain⟨⟨o,es,ep,e1,e2,e3,e4,e5⟩,_,_⟩:=I.hok a _ h1
 refine⟨xs,h1,h2,h3,h4,o,es,ep,e1,e2,e3,e4,?_,e5⟩
 have all:∀ {l:List (dU × V)} {m:List (List NI × Addr × Value)},Paired (NRow H) l m→∀ x∈m,(MK X.prog X.w).is s.heap x.1 x.2.1:=by
  intro l m r
  induction r with
  | nil=>intro x hx; simp at hx
  | cons r t ih=>
   intro x hx
   rcases List.mem_cons.mp hx with rfl | hx
   ·rw[r.1]; exact I.key r.2.1
   ·exact ih x hx
 exact all h4
theorem p8{P:Program}{w:World}{H':Hp}{h':Heap}{xs:List (List NI × Addr × Value)}(m:h'.DictOfH (MK P w) a xs):ObjOk P w H' h' a (jL P w a xs):=by
 obtain⟨o,es,ep,e1,e2,e3,e4,_,e5⟩:=m
 exact⟨⟨o,es,ep,e1,e2,e3,e4,e5⟩,⟨o,e1⟩,fun h1 h2 ⟨o,es,ep,q1,q⟩ z=>⟨o,es,ep,z _ q1,q⟩⟩
def A6(P:Program)(w:World):R2:=fun x y H Q=>∃ b a k kvs,x = .ref b∧y = .ref a∧DN P w H a kvs∧KeyAt H k b∧Q (.bl (!(aX kvs k).isSome)) H
theorem vL{n:Nat}(hr:Room n X.A):OpR X (compareOp .NotIn) (A6 X.prog X.w):=by
 intro pins s σ H x y v u Q I rx ry h
 obtain⟨b,a,k,kvs,rfl,rfl,hd,hk,q⟩:=h
 cases rx
 cases ry;obtain⟨xs,h1,h2,h3,h4,m⟩:=I.dn hd
 refine wpAny_notIn_heap (show (MK X.prog X.w).room X.A.in1 from by show X.A.units+1+2<cLine; have:=hr.un; omega) (I.key hk) h2 m ?_
 have e:=(NRow.val k h4).isSome_eq;rw[Option.isSome_map]at e
 rw[← e];exact⟨.bl _,H,I.tok _,rfl,q⟩
def GC(P:Program)(w:World):R2:=fun x y H Q=>∃ a b k kvs v,x = .ref a∧y = .ref b∧DN P w H a kvs∧KeyAt H k b∧aX kvs k=some v∧Q v H
theorem Gv{n:Nat}(hr:Room n X.A):IxR X (GC X.prog X.w):=by
 intro value slice pins s σ H x y v u Q I rx ry h hs
 obtain⟨a,b,k,kvs,z,rfl,rfl,hd,hk,hv,q⟩:=h
 cases rx
 cases ry;obtain⟨xs,h1,h2,h3,h4,m⟩:=I.dn hd
 obtain⟨w',hw,rw'⟩:=RelO.some_of (v:=z) (o:=(atKey xs (nk k)).map (·.2)) (by rw[← hv]; exact NRow.val k h4)
 obtain⟨p,hp,hp2⟩:=Option.map_eq_some_iff.mp hw
 have hl:typeLookup (.type "dict") "__getitem__" = pure (some (.builtin "dict.__getitem__")):=PySem.F.slot_dict_getitem.lookup
 refine subscriptTail_builtinR (x:=w') m.typeIs hl ?_ hs
 refine wpAny_getItem_heap (show (MK X.prog X.w).room X.A.in1 from by show X.A.units+1+2<cLine; have:=hr.un; omega) (I.key hk) m hp ?_
 rw[hp2];exact⟨rfl,z,H,I.tok _,rw',q⟩
def D7(P:Program)(w:World):jg:=fun o i v H Q=>∃ a b k kvs,o = .ref a∧i = .ref b∧DN P w H a kvs∧KeyAt H k b∧aX kvs k=none∧kvs.length<sizeLine∧∀ u,DN P w (upd H a u) a (kvs++[(k,v)])→Q (upd H a u)
theorem Paired.snoc{α β : Type}{F:α→β→Prop}{x:α}{y:β}(h:F x y):∀ {l:List α} {m:List β},Paired F l m→Paired F (l++[x]) (m++[y])
 | _,_,.nil=>.cons h .nil
 | _,_,.cons r t=>.cons r (Paired.snoc h t)
theorem DK{n:Nat}(hr:Room n X.A):PSet X (D7 X.prog X.w):=by
 intro pins s σ H o i v ov iv u Q I ro ri rv h
 obtain⟨a,b,k,kvs,rfl,rfl,hd,hk,hv,hl,q⟩:=h
 cases ro
 cases ri;obtain⟨xs,h1,h2,h3,h4,m⟩:=I.dn hd
 have hx:atKey xs (nk k)=none:=by
  have e:=NRow.val k h4;rw[hv]at e
  cases hq:atKey xs (nk k) with
  | none=>rfl
  | some p=>rw[hq]at e; exact e.elim
 refine wpAny_setItem_heap (hsz:=h3) (show (MK X.prog X.w).room X.A.in1 from by show X.A.units+1+2<cLine; have:=hr.un; omega) (I.key hk) m fun h' m' hs=>?_
 rw[storedH_new hx]at m'
 have keep:∀ c ys,H c=some (.tup ys)→upd H a (jL X.prog X.w a (xs++[(nk k,b,u)])) c=some (.tup ys):=fun c ys e=>by
  rw[am (gq e h1 (fun z=>nomatch z))]; exact e
 refine⟨upd H a (jL X.prog X.w a (xs++[(nk k,b,u)])),fH I (by rw[h1]; exact True.intro) hs (let ⟨o,_,_,e,_⟩:=m'; ⟨o,e⟩) (p8 m'),q _ ⟨_,ar,h2,?_,?_⟩⟩
 ·rw[List.length_append,← Paired.length h4]
  show kvs.length+1≤sizeLine
  omega
 ·exact Paired.snoc ⟨rfl,hk.mono keep,rv⟩ (Paired.imp' (fun p q z=>⟨z.1,z.2.1.mono keep,z.2.2⟩) h4)
def DM(P:Program)(w:World):List V→Hp→VK→Prop:=fun xs H Q=>∃ a kvs,xs=[.ref a]∧DN P w H a kvs∧Q (.int kvs.length) H
theorem BY{P:Program}{w:World}{A:Around}{E:Value→Shared→Prop}{Q:Value→Shared→Prop}{xs:List (List NI × Addr × Value)}(hd:(a == sysModules)=false)(m:s.heap.DictOfH (MK P w) a xs)(hz:xs.length≤sizeLine)
  (h:∀ t tk,Q (.int xs.length t) { s with toks:=tk }):wpAny (model P w) A (call (.builtin "len") [.ref a]) Q E s:=by
 have hs:sizeLine=16777216:=sizeLine_eq
 refine Calls.call_function_entry kind_len plain_len entry_len (args_len1 _) ?_
 unfold Builtin.«len»
 refine wpAny_bind (m:=oneArg "len" _) (wpAny_pure ?_)
 have body:MeetsIn P w (Builtin.«dict.__len__» ⟨[.ref a],[]⟩) (fun _ R s'=>s'=s∧R (.ok (.ret (.int xs.length s'.toks))) { s' with toks:=s'.toks+1 }):=.of_wp fun A R s' ⟨e,hR⟩=>by
  subst e;obtain⟨o,es,ep,ho,hc,hdat,hk,_⟩:=id m
  show wpAny _ _ (dictSize a >>= _) _ _ s'
  unfold dictSize;refine wpAny_bind (wpAny_bind (wpAny_dictEntries ho hdat (wpAny_pure ?_)))
  show wpAny _ _ (Builtin.Dict.pendingCount a >>= _) _ _ s'
  refine wpAny_bind (wpAny_pendingCount_other hd (wpAny_ret_mkInt ?_))
  have e:es.size=xs.length:=by rw[← Array.length_toList,hk,List.length_map]
  rw[Nat.add_zero,e]; exact hR
 refine wpAny_bind (m:=callSpecial? (.ref a) (Str.ofString "__len__")) (wpAny_callSpecial?_slot (name:=Str.ofString "__len__") m.typeIs PySem.F.slot_dict_len
  (call_meetsIn PySem.F.slot_dict_len m.typeIs PySem.F.entry_dict_len (PySem.F.args_dict_len_1 _) body ⟨rfl,?_⟩))
 refine wpAny_bind (wpAny_holding (wpAny_pure (wpAny_bind (wpAny_letGo ?_))))
 show wpAny _ _ (if ((xs.length:Nat):Int)<0 then _ else _) _ _ _
 rw[if_neg (by omega)]
 show wpAny _ _ (if ((xs.length:Nat):Int)≥2 ^ 63 then _ else _) _ _ _
 rw[if_neg (by omega)]
 exact wpAny_bind (wpAny_mkInt (wpAny_pure ⟨_,rfl,h _ _⟩))
theorem xy:CallR X (.builtin "len") (DM X.prog X.w):=by
 intro pins s σ H xs us Q I r h
 obtain⟨a,kvs,rfl,hd,q⟩:=h
 obtain⟨u,rfl,ru⟩:=dS r
 cases ru;obtain⟨ys,h1,h2,h3,h4,m⟩:=I.dn hd
 refine BY h2 m h3 fun t tk=>⟨.int kvs.length,H,I.tok tk,?_,q⟩
 rw[← Paired.length h4];exact⟨t,rfl⟩
def Dj(P:Program)(w:World):TE:=fun _ H Q=>∀ p,H p=none→∀ u,DN P w (upd H p u) p []→Q (.ref p) (upd H p u)
theorem yA{pos:Pos}:PE X (.Dict [] [] pos) (Dj X.prog X.w):=fun pins s σ H Q I h=>by
 have hm:(s.heap.push { cls:=.type "dict", data:=.dict #[] }).DictOfH (MK X.prog X.w) s.heap.objs.size []:=⟨_,#[],0,Heap.get?_push_size _ rfl,⟨rfl,rfl,rfl⟩,rfl,rfl,(fun x hx=>by simp at hx),List.nodup_nil⟩
 exact wpAny_Dict_empty ⟨.ref s.heap.objs.size,_,I.laid (a:=s.heap.objs.size) (o:=jL X.prog X.w s.heap.objs.size []) (t':=s.toks) (fun _ _ q=>Heap.get?_push_of_some _ q) (Nat.le_refl _) (p8 hm),rfl,
  h _ (I.hok.fresh (Nat.le_refl _)) _ ⟨[],ar,beq_eq_false_iff_ne.mpr (Ne.symm (Nat.ne_of_lt I.big)),Nat.zero_le _,.nil⟩⟩
end
end L2
namespace L2
open PySem PySem.Spec PyProof.Rows PySem.SeqAt
section
variable{X:Cx}
def Gf(K:PySem.W.Frag):R2:=fun x y H Q=>pH K x y H Q∨∃ a kvs k v,x = .ref a∧y=kV k∧H a=some (.dK kvs)∧aX kvs k=some v∧Q v H
theorem BP(K:PySem.W.Frag)(hK:X.K=K:=by rfl):IxR X (Gf K):=by
 intro value slice pins s σ H x y v u Q I rx ry h hs
 rcases h with h | ⟨a,kvs,k,z,rfl,rfl,e,l,q⟩
 ·exact bi K hK value slice pins s σ H x y v u Q I rx ry h hs
 ·cases rx
  obtain⟨_,hd,vs,rel,dd⟩:=oA I.hok (.inl e)
  obtain⟨w',hw,rw'⟩:=RelO.some_of (v:=z) (o:=valueAt vs k) (by rw[← l]; exact rel.val k)
  have hl:typeLookup (.type "dict") "__getitem__" = pure (some (.builtin "dict.__getitem__")):=PySem.F.slot_dict_getitem.lookup
  exact subscriptTail_builtinR (x:=w') dd.typeIs hl (wpAny_getItem_of (jI ry) dd.mapOf hw ⟨rfl,z,H,I.tok _,rw',q⟩) hs
def Az:R2:=fun x y H Q=>∃ a kvs k,y = .ref a∧x=kV k∧H a=some (.dK kvs)∧Q (.bl (!(aX kvs k).isSome)) H
theorem wD{n:Nat}(hr:Room n X.A):OpR X (compareOp .NotIn) Az:=by
 intro pins s σ H x y v u Q I rx ry h
 obtain⟨a,kvs,k,rfl,rfl,e,q⟩:=h
 cases ry;exact Bh (by have:=hr.un; omega) I (DGet.k e) rx fun s' I'=>⟨.bl _,H,I',rfl,q⟩
def D5:jg:=fun o i v H Q=>∃ a kvs k,o = .ref a∧i=kV k∧H a=some (.dK kvs)∧kvs.length<sizeLine∧Q (upd H a (.dK (cI kvs k v)))
theorem ua{n:Nat}(hr:Room n X.A):PSet X D5:=by
 intro pins s σ H o i v ov iv u Q I ro ri rv h
 obtain⟨a,kvs,k,rfl,rfl,e,hl,q⟩:=h
 cases ro;exact wO (by have:=hr.un; omega) I (DPut.k e hl) ri rv fun s' I'=>⟨_,I',q⟩
end
section
variable{K:PySem.W.Frag}{H:Hp}{Q:VK}
theorem EqN.ints{n:Nat}{a c:Addr}{ss ts:List Int}(h1:SqL K H a (ss.map V.int))(h2:SqL K H c (ts.map V.int)):EqN K H (n+1) (.ref a) (.ref c) (decide (ss=ts)):=by
 refine .inr ⟨a,c,_,_,rfl,rfl,.inl ⟨h1,h2⟩,?_⟩
 by_cases hl:ss.length=ts.length
 ·refine .inl ⟨fun i=>ss.getD i 0 == ts.getD i 0,by simp[hl],fun i x y e1 e2=>?_,?_⟩
  ·rw[List.getElem?_map]at e1 e2
   cases q1:ss[i]? with
   | none=>rw[q1]at e1; cases e1
   | some u=>
    cases q2:ts[i]? with
    | none=>rw[q2]at e2; cases e2
    | some v=>
     rw[q1]at e1; rw[q2]at e2
     cases e1; cases e2
     dsimp only
     rw[List.getD_eq_getElem?_getD,List.getD_eq_getElem?_getD,q1,q2];exact EqN.flat rfl rfl
  ·rw[List.length_map]
   by_cases e:ss=ts
   ·subst e
    rw[decide_eq_true rfl]
    symm
    rw[List.all_eq_true];intro i _
    simp
   ·rw[decide_eq_false e]
    symm
    rw[List.all_eq_false]
    have:∃ i:Nat,ss[i]? ≠ ts[i]?:=by
     refine Classical.byContradiction fun hn=>e (List.ext_getElem? fun i=>?_)
     exact Classical.byContradiction fun h=>hn ⟨i,h⟩
    obtain⟨i,hi⟩:=this
    have hlt:i<ss.length:=by
     refine Classical.byContradiction fun hn=>hi ?_
     rw[List.getElem?_eq_none (by omega),List.getElem?_eq_none (by omega)]
    refine⟨i,List.mem_range.mpr hlt,?_⟩
    rw[List.getD_eq_getElem?_getD,List.getD_eq_getElem?_getD,List.getElem?_eq_getElem hlt,List.getElem?_eq_getElem (by omega)]
    rw[List.getElem?_eq_getElem hlt,List.getElem?_eq_getElem (by omega)]at hi
    simpa using hi
 ·have e:ss≠ts:=fun e=>hl (by rw[e])
  rw[decide_eq_false e];exact .inr ⟨h1,h2,by simpa using hl,rfl⟩
end
section
variable{X:Cx}
def DF:R2:=fun x y H Q=>∃ o j,x=cT o∧y = .int j∧Q (.bl (decide (o≠some j))) H
theorem xi:OpR X (compareOp .NotEq) DF:=by
 intro pins s σ H x y v u Q I rx ry h
 obtain⟨o,j,rfl,rfl,q⟩:=h
 obtain⟨t,rfl⟩:=ry
 cases o with
 | none=>
  cases (show v=Value.none from rx)
  rw[decide_eq_true (by simp)]at q
  exact RcNeAt.none_int j t _ _ _ _ ⟨.bl true,H,I,rfl,q⟩
 | some i=>
  have e:(!decide (i=j))=decide ((some i:Option Int)≠some j):=by by_cases h:i=j <;> simp[h]
  rw[← e]at q
  refine eF pins s σ H (.int i) (.int j) v _ Q I rx ⟨t,rfl⟩ ?_
  rw[kl]; exact q
end
end L2
namespace L2
open PySem PySem.Spec PyProof.Rows PySem.SeqAt
section
variable{K:PySem.W.Frag}{H:Hp}{Q:VK}
theorem rR(i j:Bool):uS (.bl i) (.bl j) H Q=Q (.bl (!(i == j))) H:=by
 show (km (.bl i) (.bl j)=true∧Q (.bl (!decide (V.bl i=V.bl j))) H)=_
 rw[p7]; exact propext ⟨fun h=>h.2,fun h=>⟨rfl,h⟩⟩
end
end L2
namespace L2
open PySem PySem.Spec PyProof.Rows PySem.SeqAt
theorem tJ:∀ (xs:List V) (us:List Value),xs.length=us.length→(∀ (j:Nat) x u,xs[j]? = some x→us[j]? = some u→RelV x u)→Vals xs us
 | [],[],_,_=>.nil
 | [],u::us,hl,_=>by simp at hl
 | x::xs,[],hl,_=>by simp at hl
 | x::xs,u::us,hl,h=>.cons (h 0 x u rfl rfl) (tJ xs us (by simpa using hl) fun j a b e1 e2=>h (j+1) a b e1 e2)
section
variable{X:Cx}
end
section
variable{X:Cx}
end
section
variable{prog:Program}{w:World}{K:Type}[DecidableEq K]{knd:KeyKind prog w K}{A:Around}{E:Value→Shared→Prop}{s:Shared}
end
section
variable{X:Cx}
theorem iT{α β : Type}{F:α→β→Prop}:∀ {l:List α} {m:List β} {j:Nat} {a:α} {b:β},Paired F l m→l[j]? = some a→m[j]? = some b→F a b
 | _,_,0,_,_,.cons h _,e1,e2=>by
  cases e1; cases e2; exact h
 | _,_,j+1,_,_,.cons _ t,e1,e2=>iT (j:=j) t e1 e2
 | _,_,0,_,_,.nil,e1,_=>by cases e1
 | _,_,_+1,_,_,.nil,e1,_=>by cases e1
theorem ww:bootBuiltins "set" = some (.type "set"):=by decide +kernel
end
end L2
namespace L2
open PySem PySem.Spec PyProof.Rows PySem.SeqAt
def fk(xs:Array Nat):Prop:=∀ (a b:Nat) (ha:a<xs.size) (hb:b<xs.size),a<b→xs[a]<xs[b]
theorem ku{xs:Array Nat}(h:fk xs)(j:Nat):∀ (fuel lo hi:Nat),lo≤hi→hi≤xs.size→hi - lo≤fuel→(∀ k (hk:k<xs.size),k<lo→xs[k]<j)→(∀ k (hk:k<xs.size),hi≤k→j≤xs[k])→
  SetTable.below.go xs j fuel lo hi≤xs.size∧(∀ k (hk:k<xs.size),k<SetTable.below.go xs j fuel lo hi→xs[k]<j)∧(∀ k (hk:k<xs.size),SetTable.below.go xs j fuel lo hi≤k→j≤xs[k])
 | 0,lo,hi,h1,h2,h3,h4,h5=>by
  have e:lo=hi:=by omega
  subst e;exact⟨h2,h4,h5⟩
 | fuel+1,lo,hi,h1,h2,h3,h4,h5=>by
  unfold SetTable.below.go;split
  ·rename_i hlt
   have hm:(lo+hi) / 2<xs.size:=by omega
   have eg:xs.getD ((lo+hi) / 2) j=xs[(lo+hi) / 2]:=by simp[Array.getD,hm]
   dsimp only
   rw[eg];split
   ·rename_i hj
    refine ku h j fuel _ hi (by omega) h2 (by omega) (fun k hk hkm=>?_) h5
    rcases Nat.lt_or_ge k ((lo+hi) / 2) with z | z
    ·exact Nat.lt_trans (h k _ hk hm z) hj
    ·have:k=(lo+hi) / 2:=by omega
     subst this; exact hj
   ·rename_i hj
    refine ku h j fuel lo _ (by omega) (by omega) (by omega) h4 (fun k hk hkm=>?_)
    rcases Nat.lt_or_ge ((lo+hi) / 2) k with z | z
    ·exact Nat.le_trans (Nat.le_of_not_lt hj) (Nat.le_of_lt (h _ k hm hk z))
    ·have:k=(lo+hi) / 2:=by omega
     subst this; exact Nat.le_of_not_lt hj
  ·have e:lo=hi:=by omega
   subst e;exact⟨h2,h4,h5⟩
theorem gk{xs:Array Nat}(h:fk xs)(j:Nat):SetTable.below xs j≤xs.size∧(∀ k (hk:k<xs.size),k<SetTable.below xs j→xs[k]<j)∧(∀ k (hk:k<xs.size),SetTable.below xs j≤k→j≤xs[k]):=
 ku h j xs.size 0 xs.size (Nat.zero_le _) (Nat.le_refl _) (by omega) (fun k _ z=>absurd z (Nat.not_lt_zero _)) (fun k hk z=>absurd hk (by omega))
theorem uq{xs:Array Nat}(h:fk xs):SetTable.below xs 0=0:=by
 obtain⟨h1,h2,h3⟩:=gk h 0
 refine Classical.byContradiction fun hn=>?_
 exact absurd (h2 0 (by omega) (by omega)) (Nat.not_lt_zero _)
theorem ud{xs:Array Nat}(h:fk xs){i:Nat}(hi:i<xs.size):SetTable.below xs (xs[i]+1)=i+1:=by
 obtain⟨h1,h2,h3⟩:=gk h (xs[i]+1)
 rcases Nat.lt_trichotomy (SetTable.below xs (xs[i]+1)) (i+1) with z | z | z
 ·have:=h3 i hi (by omega); omega
 ·exact z
 ·have h4:=h2 (i+1) (by omega) z
  have h5:=h i (i+1) hi (by omega) (by omega)
  omega
theorem m8{xs:Array Nat}{p x k:Nat}(hp:p≤xs.size)(hk:k<(SetTable.insertAt xs p x).size):(SetTable.insertAt xs p x)[k]=if h:k<p then xs[k]'(by omega) else if k=p then x else xs.getD (k - 1) 0:=by
 have hs:(SetTable.insertAt xs p x).size=xs.size+1:=by
  unfold SetTable.insertAt; simp; omega
 have e:(SetTable.insertAt xs p x)[k]? = some (if h:k<p then xs[k]'(by omega) else if k=p then x else xs.getD (k - 1) 0):=by
  unfold SetTable.insertAt;rw[Array.getElem?_append];simp only[Array.size_push,Array.size_extract]
  split
  ·rename_i h
   rw[Array.getElem?_push];simp only[Array.size_extract]
   by_cases hkp:k<p
   ·rw[if_neg (by omega),dif_pos hkp,Array.getElem?_extract]
    simp; omega
   ·have:k=p:=by omega
    subst this;rw[if_pos (by omega),dif_neg hkp,if_pos rfl]
  ·rename_i h
   rw[dif_neg (by omega),if_neg (by omega),Array.getElem?_extract]
   have hk':k - 1<xs.size:=by omega
   rw[if_pos (by omega),show p+(k - (min p xs.size - 0+1))=k - 1 by omega]
   simp[Array.getD,hk']
 rw[Array.getElem?_eq_getElem hk]at e
 exact Option.some.inj e
theorem pN{xs:Array Nat}(h:fk xs){j:Nat}(hj:∀ k (hk:k<xs.size),xs[k]≠j):fk (SetTable.insertAt xs (SetTable.below xs j) j):=by
 obtain⟨h1,h2,h3⟩:=gk h j
 have hs:(SetTable.insertAt xs (SetTable.below xs j) j).size=xs.size+1:=by
  unfold SetTable.insertAt; simp; omega
 generalize SetTable.below xs j=p at h1 h2 h3 hs;intro a b ha hb hab
 rw[m8 h1 ha,m8 h1 hb];have gd:∀ k,k<xs.size→∃ hk:k<xs.size,xs.getD k 0=xs[k]:=fun k hk=>⟨hk,by simp[Array.getD,hk]⟩
 by_cases a1:a<p
 ·rw[dif_pos a1]
  by_cases b1:b<p
  ·rw[dif_pos b1]; exact h a b _ _ hab
  ·rw[dif_neg b1]
   by_cases b2:b=p
   ·rw[if_pos b2]; exact h2 a (by omega) a1
   ·rw[if_neg b2]
    obtain⟨hk,e⟩:=gd (b - 1) (by omega)
    rw[e]; exact h a (b - 1) _ _ (by omega)
 ·rw[dif_neg a1,dif_neg (by omega)]
  by_cases a2:a=p
  ·rw[if_pos a2,if_neg (by omega)]
   obtain⟨hk,e⟩:=gd (b - 1) (by omega)
   rw[e];have:=h3 (b - 1) hk (by omega)
   have:=hj (b - 1) hk
   omega
  ·rw[if_neg a2,if_neg (by omega)]
   obtain⟨hk,e⟩:=gd (b - 1) (by omega)
   obtain⟨hk2,e2⟩:=gd (a - 1) (by omega)
   rw[e,e2]; exact h _ _ _ _ (by omega)
theorem xm{t:SetTable}{j:Nat}(h:fk t.place)(e:∀ i,t.slot j ≠ .live i):∀ k (hk:k<t.place.size),t.place[k]≠j:=fun k hk ek=>by
 obtain⟨h1,h2,h3⟩:=gk h j
 have hb:SetTable.below t.place j=k:=by
  rcases Nat.lt_trichotomy (SetTable.below t.place j) k with z | z | z
  ·have:=h3 (SetTable.below t.place j) (by omega) (Nat.le_refl _)
   have:=h (SetTable.below t.place j) k (by omega) hk z
   omega
  ·exact z
  ·have:=h2 k hk z; omega
 refine e k ?_
 unfold SetTable.slot;rw[hb]
 dsimp only
 rw[Array.getElem?_eq_getElem hk,ek];simp
theorem ko{t:SetTable}{hashAt:Nat→Int}{h:Int}:∀ (fuel:Nat) (p:SetTable.Probe),(∀ d,p.dummy=some d→t.slot d = .dummy)→∀ j dm,SetTable.probe.go t hashAt h fuel p=some (.empty j dm)→t.slot j = .empty∧∀ d,dm=some d→t.slot d = .dummy
 | 0,p,_,j,dm,e=>by unfold SetTable.probe.go at e; cases e
 | fuel+1,p,hp,j,dm,e=>by
  unfold SetTable.probe.go at e;have adv:∀ q:SetTable.Probe,(t.advance q).dummy=q.dummy:=fun q=>by unfold SetTable.advance; split <;> rfl
  cases hs:t.slot p.j with
  | empty=>
   rw[hs]at e
   cases e;exact⟨hs,hp⟩
  | dummy=>
   rw[hs]at e
   refine ko fuel _ (fun d hd=>?_) j dm e
   rw[adv]at hd
   cases hd;exact hs
  | live i=>
   rw[hs]at e
   dsimp only at e
   split at e
   ·cases e
   ·exact ko fuel _ (fun d hd=>by rw[adv]at hd; exact hp d hd) j dm e
structure bB (L:Bool) (t:SetTable):Prop where
 led:t.led=L
 rise:fk t.place
theorem rz(n:Nat):fk (Array.range n):=fun a b ha hb hab=>by simpa using hab
theorem fm{L:Bool}{t:SetTable}(h:bB L t)(n:Nat):bB L (t.standIn n):=⟨h.led,rz n⟩
theorem xk{L:Bool}{t:SetTable}(h:bB L t){hh:Int}{j:Nat}{b:Bool}(e:t.freeSlot hh=some (j,b)):bB L (t.put j).1:=by
 refine⟨h.led,pN h.rise (xm h.rise ?_)⟩
 unfold SetTable.freeSlot at e;split at e
 ·rename_i j' dm hpr
  have:=ko (t:=t) _ (t.probeStart hh) (fun d hd=>by cases hd) j' dm hpr
  cases dm with
  | none=>
   cases e;exact fun i z=>by have:=this.1; rw[show (none:Option Nat).getD j'=j' from rfl,this]at z; cases z
  | some d=>
   cases e;exact fun i z=>by have:=this.2 d rfl; rw[show (some d:Option Nat).getD j'=d from rfl,this]at z; cases z
 ·cases e
theorem jS{L:Bool}{t:SetTable}(h:bB L t)(es:Array (Int × Value))(hh:Int)(x:Value):bB L (layNew t es hh x).2.1:=by
 unfold layNew
 cases e:t.freeSlot hh with
 | none=>exact fm h _
 | some q=>
  obtain⟨j,b⟩:=q
  have hg:=xk h e;show bB L ((t.put j).1.orStandIn _)
  unfold SetTable.orStandIn;split
  ·exact hg
  ·exact fm hg _
theorem gh{l:List Nat}(h:l.Pairwise (· < ·)):fk l.toArray:=fun a b ha hb hab=>by
 have:=(List.pairwise_iff_getElem.mp h) a b (by simpa using ha) (by simpa using hb) hab
 simpa using this
theorem lJ{L:Bool}{t:SetTable}(h:bB L t)(es:Array (Int × Value))(n:Nat):bB L (relayAll t es n).2.1:=by
 unfold relayAll;split
 ·rename_i t' order e
  dsimp only
  split
  ·unfold SetTable.relaid SetTable.laid at e
   cases ho:SetTable.layClean (SetTable.sizeAbove n - 1) (es.map (·.1)) with
   | none=>rw[ho]at e; cases e
   | some owner=>
    rw[ho]at e
    cases e;refine⟨h.led,gh ?_⟩
    refine List.pairwise_map.mpr ?_
    refine List.Pairwise.filterMap _ ?_ List.pairwise_lt_range
    intro a b hab x hx y hy
    obtain⟨k,_,rfl⟩:=Option.map_eq_some_iff.mp hx
    obtain⟨k',_,rfl⟩:=Option.map_eq_some_iff.mp hy
    exact hab
  ·exact fm h _
 ·exact fm h _
end L2
namespace L2
open PySem PySem.Spec PyProof.Rows PySem.SeqAt
section
variable{prog:Program}{w:World}{K:Type}[DecidableEq K]{knd:KeyKind prog w K}{A:Around}{E:Value→Shared→Prop}{s:Shared}{G:SetTable→Prop}
def Apart(knd:KeyKind prog w K)(l:List (Int × Value)):Prop:=l.Pairwise fun e e'=>∀ k,knd.is k e.2=true→knd.is k e'.2=false
theorem Apart.perm{l l':List (Int × Value)}(h:Apart knd l)(p:l'.Perm l):Apart knd l':=
 (p.pairwise_iff fun {x y} hxy k hk=>by
  cases e:knd.is k x.2 with
  | false=>rfl
  | true=>rw[hxy k e]at hk; cases hk).mpr h
theorem Apart.push{l:List (Int × Value)}{k:K}{x:Value}{hh:Int}(h:Apart knd l)(hn:∀ e∈l,knd.is k e.2=false)(hk:knd.is k x=true):Apart knd (l++[(hh,x)]):=by
 refine List.pairwise_append.mpr ⟨h,List.pairwise_singleton _ _,fun e he b hb k' hk'=>?_⟩
 rw[List.mem_singleton.mp hb];show knd.is k' x=false
 rw[KeyKind.is_eq_decide hk k'];refine decide_eq_false fun e'=>?_
 subst e';rw[hn e he]at hk'; cases hk'
structure jj (knd:KeyKind prog w K) (G:SetTable→Prop) (o:Obj) (es:Array (Int × Value)) (ep:Nat) (t:SetTable) (S:K→Bool) (n:Nat):Prop where
 ex:o.ExactSet
 dat:o.data = .set es ep t
 el:ElemsOf knd es.toList
 mem:∀ k,S k=true ↔ ∃ e∈es.toList,knd.is k e.2=true
 few:es.size<scanBound
 fit:t.fits es.size=true
 num:es.size=n
 good:G t
 apart:Apart knd es.toList
def SetG(knd:KeyKind prog w K)(G:SetTable→Prop)(h:Heap)(a:Addr)(S:K→Bool)(n:Nat):Prop:=∃ o es ep t,h.get? a=some o∧jj knd G o es ep t S n
theorem stored{h:Heap}{a:Addr}{o:Obj}{es:Array (Int × Value)}{ep:Nat}{t:SetTable}{S:K→Bool}{n:Nat}{es':Array (Int × Value)}{t':SetTable}{S':K→Bool}{n':Nat}(ho:h.get? a=some o)(T:jj knd G o es ep t S n)
  (T':∀ o',o'.ExactSet→o'.data = .set es' (ep+1) t'→jj knd G o' es' (ep+1) t' S' n'):∃ o',(h.update a (Obj.putSet es' t')).get? a=some o'∧jj knd G o' es' (ep+1) t' S' n':=by
 have hp:=putSet_of es' t' T.dat;have hg:=Heap.get?_update_self (Obj.putSet es' t') ho (by rw[hp]; rfl)
 rw[hp]at hg
 exact⟨_,hg,T' _ T.ex rfl⟩
theorem pY(gr:∀ t es n,G t→G (relayAll t es n).2.1){g:Bool→Sem Unit}(hg:∀ (b:Bool) (s₁:Shared) (Q':Unit→Shared→Prop),Q' () s₁→wpAny (model prog w) A (g b) Q' E s₁)
  {a:Addr} {o:Obj} {es:Array (Int × Value)} {ep:Nat} {t:SetTable} {S:K→Bool} {n:Nat} (ho:s.heap.get? a=some o) (T:jj knd G o es ep t S n)
  {es1:Array (Int × Value)} {t2:SetTable} {S':K→Bool} {n':Nat} (T1:∀ o',o'.ExactSet→o'.data = .set es1 (ep+1) t2→jj knd G o' es1 (ep+1) t2 S' n') {wasDummy:Bool} {R:Option Bool→Shared→Prop}
  (h:∀ h',Heap.SameBut a s.heap h'→SetG knd G h' a S' n'→R (some true) { s with heap:=h' }) :
  wpAny (model prog w) A (do
    storeSet a es1 t2
    if (!wasDummy&&t2.tooFull)=true then do
      g (relayAll t2 es1 (SetTable.grown es1.size)).2.2
      storeSet a (relayAll t2 es1 (SetTable.grown es1.size)).1 (relayAll t2 es1 (SetTable.grown es1.size)).2.1
      pure (some true)
     else pure (some true)) R E s:=by
 obtain⟨o1,ho1,U1⟩:=stored ho T T1
 refine wpAny_bind (wpAny_storeSet_of ho T.dat ?_ (fits_of_scanBound U1.few))
 have hsb1:=Heap.SameBut.update s.heap a (Obj.putSet es1 t2);split
 ·have hp:=relayAll_perm t2 es1 (SetTable.grown es1.size)
  have hfr:=relayAll_fits t2 es1 (SetTable.grown es1.size);have hgr:=gr t2 es1 (SetTable.grown es1.size) U1.good;generalize relayAll t2 es1 (SetTable.grown es1.size)=Rl at hp hfr hgr ⊢;obtain⟨es2,t3,gave2⟩:=Rl
  dsimp only at hp hfr hgr ⊢
  have hsz:es2.size=es1.size:=by rw[← Array.length_toList,hp.length_eq,Array.length_toList]
  obtain⟨o2,ho2,U2⟩:=stored (es':=es2) (t':=t3) (S':=S') (n':=n') ho1 U1 fun o' ex da=>⟨ex,da,U1.el.perm hp,fun k'=>(U1.mem k').trans ⟨fun ⟨e,he,q⟩=>⟨e,hp.mem_iff.mpr he,q⟩,fun ⟨e,he,q⟩=>⟨e,hp.mem_iff.mp he,q⟩⟩,by rw[hsz]; exact U1.few,hfr,by rw[hsz]; exact U1.num,hgr,U1.apart.perm hp⟩
  refine wpAny_bind (hg _ _ _ ?_)
  refine wpAny_bind (wpAny_storeSet_of ho1 U1.dat ?_ (fits_of_scanBound U2.few))
  exact wpAny_pure (h _ (hsb1.trans (Heap.SameBut.update _ a _)) ⟨_,_,_,_,ho2,U2⟩)
 ·exact wpAny_pure (h _ hsb1 ⟨_,_,_,_,ho1,U1⟩)
theorem Cp(gl:∀ t es h x,G t→G (layNew t es h x).2.1)(gr:∀ t es n,G t→G (relayAll t es n).2.1)(gp:∀ t:SetTable,G t→G { t with plain:=false })
  {a:Addr} {S:K→Bool} {n:Nat} {k:K} {x:Value} {Q:Bool→Shared→Prop} (hkey:knd.is k x=true) (hsc:x.scannable=true) (hS:SetG knd G s.heap a S n) (hroom:n+1<scanBound)
  (h:∀ h',Heap.SameBut a s.heap h'→SetG knd G h' a (fun k'=>S k'||decide (k'=k)) (if S k then n else n+1)→Q (!S k) { s with heap:=h' }) :
  wpAny (model prog w) A (setAddHashed a x (knd.hash k)) Q E s:=by
 obtain⟨o,es,ep,t,ho,T⟩:=hS
 have hb1:es.size+1<scanBound:=by rw[T.num]; exact hroom
 unfold setAddHashed setAddHashedIn;refine wpAny_holding (wpAny_bind (wpAny_setState_of ho T.dat T.fit ?_))
 dsimp only
 rw[byScan_of hsc T.few T.el];simp only[↓reduceIte]
 unfold setAddByScan;refine wpAny_bind ?_
 refine wpAny_bind (wpAny_rule ?_)
 refine wpAny_bind (wpAny_setScan_of hkey ho T.dat T.fit T.el ?_)
 cases hr:List.findIdx? (fun e=>knd.is k e.2) es.toList with
 | some j=>
  dsimp only
  obtain⟨hj,hpj,_⟩:=List.findIdx?_eq_some_iff_getElem.mp hr
  have hSk:S k=true:=(T.mem k).mpr ⟨es.toList[j],List.getElem_mem hj,hpj⟩
  refine wpAny_pure (wpAny_pure ?_)
  have e:s={ s with heap:=s.heap }:=by cases s; rfl
  have q:=h s.heap (Heap.SameBut.refl a s.heap) ⟨o,es,ep,t,ho,T.ex,T.dat,T.el,fun k'=>by
   rw[Bool.or_eq_true,decide_eq_true_eq,← T.mem k'];exact⟨fun hk=>hk.elim id (fun e=>e ▸ hSk),.inl⟩,T.few,T.fit,by rw[hSk]; exact T.num,T.good,T.apart⟩
  rw[hSk]at q; rw[e]; exact q
 | none=>
  dsimp only
  have hno:=List.findIdx?_eq_none_iff.mp hr
  have hSk:S k=false:=by
   cases hk:S k with
   | false=>rfl
   | true=>obtain⟨e,he,hp⟩:=(T.mem k).mp hk; rw[hno e he]at hp; cases hp
  have hgw:∀ (b:Bool) {s₁:Shared} {Q':Unit→Shared→Prop},Q' () s₁→wpAny (model prog w) A (match b with | true=>rule "set.scan.the-table-gave-way" | false=>pure ()) Q' E s₁:=fun b s₁ Q' hq=>by
   cases b <;> first | exact wpAny_pure hq | exact wpAny_rule hq
  have hperm:=layNew_perm t es (knd.hash k) x;have hfits:=layNew_fits t es (knd.hash k) x;have hgood:=gl t es (knd.hash k) x T.good;generalize layNew t es (knd.hash k) x=Ly at hperm hfits hgood ⊢;obtain⟨es1,t1,wasDummy,gave⟩:=Ly
  dsimp only at hperm hfits hgood ⊢
  rw[Array.toList_push]at hperm
  have hsz1:es1.size=n+1:=by rw[← Array.length_toList,hperm.length_eq,List.length_append,Array.length_toList,T.num]; rfl
  have mk:∀ t2:SetTable,t2.fits es1.size=true→G t2→∀ o',o'.ExactSet→o'.data = .set es1 (ep+1) t2→jj knd G o' es1 (ep+1) t2 (fun k'=>S k'||decide (k'=k)) (n+1):=fun t2 hf2 g2 o' ex da=>
   ⟨ex,da,(T.el.push hkey hsc).perm hperm,mem_push_iff hkey T.mem hperm,by rw[hsz1]; exact hroom,hf2,hsz1,g2,(T.apart.push (fun e he=>by have:=hno e he; simpa using this) hkey).perm hperm⟩
  refine wpAny_bind (hgw _ ?_)
  have hend:∀ h',Heap.SameBut a s.heap h'→SetG knd G h' a (fun k'=>S k'||decide (k'=k)) (n+1)→Q true { s with heap:=h' }:=by
   intro h' hsb hS'; have:=h h' hsb; rw[hSk]at this; exact this hS'
  split
  ·refine wpAny_bind ?_
   rw[hashByValue_scannable 8 hsc];refine wpAny_pure ?_
   refine pY gr ?_ ho T (mk _ ?_ ?_) ?_
   ·intro b s₁ Q' hq; cases b <;> first | exact wpAny_pure hq | exact wpAny_rule hq
   ·split
    ·exact hfits
    ·exact SetTable.fits_plain_off hfits
   ·split
    ·exact hgood
    ·exact gp _ hgood
   ·intro h' hsb hS'; dsimp only; exact wpAny_pure (hend h' hsb hS')
  ·refine wpAny_bind (wpAny_pure ?_)
   simp only[↓reduceIte]
   refine pY gr ?_ ho T (mk _ hfits hgood) ?_
   ·intro b s₁ Q' hq; cases b <;> first | exact wpAny_pure hq | exact wpAny_rule hq
   ·intro h' hsb hS'; dsimp only; exact wpAny_pure (hend h' hsb hS')
end
end L2
namespace L2
open PySem PySem.Spec PyProof.Rows PySem.SeqAt
section
variable{prog:Program}{w:World}{A:Around}{R:Result→Shared→Prop}{I:Addr}{fp wr:List Addr}{Gm:Array GenState→Array GenState→Prop}{n:Nat}{P:Nat→Value→Prop}{St:Nat→Shared→Prop}{L:Bool}
theorem k_{t:SetTable}(h:bB L t):bB L { t with plain:=false }:=⟨h.led,h.rise⟩
theorem SetG.at'{K:Type}[DecidableEq K]{knd:KeyKind prog w K}{G:SetTable→Prop}{h h':Heap}{a:Addr}{S S':K→Bool}{m m':Nat}(x:SetG knd G h a S m)(e:∀ o,h.get? a=some o→h'.get? a=some o)(eS:∀ k,S k=S' k)(em:m=m'):SetG knd G h' a S' m':=by
 obtain⟨o,es,ep,t,ho,T⟩:=x
 have:S=S':=funext eS
 subst this; subst em
 exact⟨o,es,ep,t,e o ho,T⟩
end
section
variable{prog:Program}{w:World}{A:Around}{E:Value→Shared→Prop}{s:Shared}
def bu(w:World):Bool:=!(w.params.followText "set-order")
theorem y8(a:Value){Q₁:Value→Shared→Prop}
  (h:Q₁ (.ref s.heap.objs.size) { s with heap:=s.heap.push { cls:=.type "set", dict:=none,data:=.set #[] 0 (.fresh 0 0 (bu w)) } }) :
  codeAny (model prog w) A (.call (.builtin "set.__new__") ⟨[.type "set", a],[]⟩) (wants Q₁ E) s:=by
 refine codeAny_of_tree ?_
 show wpAny _ A.in1 (do checkBuiltinCall "set.__new__" ⟨[.type "set", a],[]⟩; again (.builtin "set.__new__" ⟨[.type "set", a],[]⟩)) _ _ s
 refine wpAny_bind (wpAny_of_eq (F.newCall_set_1 a) (wpAny_pure ⟨plainId_quiet F.plain_set_new _,codeAny_builtin F.entry_set_new ?_⟩))
 rw[Around.under_plainId F.plain_set_new _];unfold Builtin.«set.__new__» Builtin.Frozenset.newClass
 have hsub:=sub_set_self;obtain⟨hp,g,d,tk,os⟩:=s
 dsimp only
 wp_walk
 refine wpAny_askSetting (wpAny_pure ?_)
 dsimp only
 simp only[newObj]
 refine wpAny_bind (wpAny_alloc (wpAny_pure ?_))
 exact wpAny_pure h
end
end L2
namespace L2
open PySem PySem.Spec PyProof.Rows PySem.SeqAt
section
variable{X:Cx}
end
end L2
namespace L2
open PySem PySem.Spec PyProof.Rows PySem.SeqAt
theorem iM{α : Type}:∀ (l:List α) (i:Nat) (hi:i<l.length),(l[i]::l.eraseIdx i).Perm l
 | x::l,0,_=>.rfl
 | x::l,i+1,hi=>(List.Perm.swap x (l[i]'(by simpa using hi)) (l.eraseIdx i)).trans (List.Perm.cons x (iM l i (by simpa using hi)))
theorem sW{α : Type}(next:Nat→Nat):∀ (fuel k:Nat) (left:List α) (out:Array α),fuel=left.length→(pickOrder.go next fuel k left out).toList.Perm (out.toList++left)
 | 0,k,left,out,h=>by
  have:left=[]:=List.eq_nil_of_length_eq_zero h.symm
  subst this;unfold pickOrder.go; simp
 | fuel+1,k,left,out,h=>by
  unfold pickOrder.go;have hi:next k % left.length<left.length:=Nat.mod_lt _ (by omega)
  rw[List.getElem?_eq_getElem hi]
  dsimp only
  refine(sW next fuel (k+1) _ _ (by rw[List.length_eraseIdx]; rw[if_pos hi]; omega)).trans ?_
  rw[Array.toList_push,List.append_assoc];refine List.Perm.append_left _ ?_
  exact iM _ _ hi
theorem m7{α : Type}(next:Nat→Nat)(xs:Array α):(pickOrder next xs).toList.Perm xs.toList:=by
 unfold pickOrder;have:=sW next xs.size 0 xs.toList #[] (by simp)
 simpa using this
section
variable{M:Model}{A:Around}{E:Value→Shared→Prop}
theorem qZ{s:Shared}{n:Nat}{Q:Nat→Shared→Prop}(hn:n≠0)(h:∀ i d',i<n→Q i { s with drawn:=d' }):wpAny M A (choose .order n) Q E s:=fun Γ p hΓ=>by
 show Sem.wp M Γ (.choose .order n .pure) _ _ _ _
 rw[Sem.wp_choose];refine⟨hn,?_⟩
 rw[Sem.wp_pure];exact h _ _ (Nat.mod_lt _ (by omega))
theorem mR{α : Type}:∀ (n:Nat) (xs:List α) (s:Shared) (Q:List α→Shared→Prop),n=xs.length→(∀ ys d',ys.Perm xs→Q ys { s with drawn:=d' })→wpAny M A (drawOrder n xs) Q E s
 | 0,xs,s,Q,hn,h=>by
  have:xs=[]:=List.eq_nil_of_length_eq_zero hn.symm
  subst this;unfold drawOrder;exact wpAny_pure (by have:=h [] s.drawn .nil; cases s; exact this)
 | n+1,[],s,Q,hn,h=>by simp at hn
 | n+1,x::xs,s,Q,hn,h=>by
  unfold drawOrder;refine wpAny_bind (qZ (by simp) fun i d' hi=>?_)
  rw[List.getElem?_eq_getElem hi]
  dsimp only
  refine wpAny_bind (mR n _ _ _ (by rw[List.length_eraseIdx,if_pos hi]; omega) fun ys d'' hp=>?_)
  refine wpAny_pure ?_
  exact h _ d'' ((List.Perm.cons _ hp).trans (iM _ _ hi))
end
end L2
namespace L2
open PySem PySem.Spec PyProof.Rows PySem.SeqAt
theorem slot_si_next:Slot "set_iterator" "__next__" "set_iterator.__next__" :=
 .of (owner := "set_iterator") (n := "__next__") (by rw[typeLookup_type,builtinLookup_eq_fast]; kernel_rfl) (by decide +kernel) (by decide +kernel) (by decide +kernel)
  (by first | exact .inl (by decide +kernel) | exact .inr (by decide +kernel)) (by rw[isSubtype_type]; kernel_rfl)
theorem eI:entryFor table "set_iterator.__next__" = some Builtin.«set_iterator.__next__»:=entryFor_of_tree (by kernel_rfl)
theorem mE:entryFor table "set.__iter__" = some Builtin.«frozenset.__iter__»:=
 entryFor_alias (id' := "frozenset.__iter__") (by kernel_rfl) rfl (by decide +kernel) (by kernel_rfl)
theorem pJ : Manifest.owners.lookup (String.ofList ['r', 'o', 't', 'a', 'r', 'e', 't', 'i', '_', 't', 'e', 's'].reverse) = some Manifest.sig_set_iterator := by kernel_rfl
theorem fj(a:Value):argsOk "set_iterator.__next__" ⟨[a],[]⟩:=by
 unfold argsOk; rw [signature?_of (id := "set_iterator.__next__") (n:=['_','_','t','x','e','n','_','_']) (o:=['r','o','t','a','r','e','t','i','_','t','e','s']) (by kernel_rfl) pJ]; kernel_rfl
section
variable{prog:Program}{w:World}{A:Around}{E:Value→Shared→Prop}{s:Shared}
def fU(w:World)(a:Addr)(ep:Nat)(es:Array (Int × Value)):List Value:=((if w.params.followText "set-order" then pickOrder (w.params.setOrder a ep) es else es).toList.map (·.2))
def dF(w:World)(t:SetTable)(i:Nat):Nat:=if w.params.followText "set-order" then 0 else if i=0 then 0 else t.place.getD (i - 1) 0+1
theorem iC(a:Addr)(ep:Nat)(es:Array (Int × Value)):(fU w a ep es).Perm (es.toList.map (·.2)):=by
 unfold fU;split
 ·exact(m7 _ _).map _
 ·exact .rfl
theorem nP{a:Addr}{o:Obj}{es:Array (Int × Value)}{ep:Nat}{t:SetTable}{i:Nat}{Q:Option (Value × Nat)→Shared→Prop}(ho:s.heap.get? a=some o)(hd:o.data = .set es ep t)(hf:t.fits es.size=true)(hg:bB (bu w) t)(hi:i≤es.size)
  (hn:w.params.followText "set-order" = true∨(!t.plain&&decide (es.size>1))=false) (h:Q (((fU w a ep es)[i]?).map fun x=>(x,dF w t (i+1))) s):wpAny (model prog w) A (setNext a (dF w t i) i ep) Q E s:=by
 have hps:t.place.size=es.size:=by
  unfold SetTable.fits at hf;simp only[Bool.and_eq_true,beq_iff_eq]at hf
  exact hf.1
 unfold setNext;refine wpAny_bind (wpAny_setState_of ho hd hf ?_)
 refine wpAny_bind ?_
 unfold setsByText;refine wpAny_bind (wpAny_askSetting (wpAny_pure ?_))
 show wpAny _ _ (if w.params.followText "set-order" = true then _ else _) _ _ _
 unfold fU dF at h;unfold dF
 cases hb:w.params.followText "set-order" with
 | true=>
  rw[hb]at h
  simp only[if_true]at h ⊢
  rw[if_neg (by simp)]
  refine wpAny_bind ?_
  unfold setWalk;refine wpAny_bind (wpAny_setState_of ho hd hf ?_)
  refine wpAny_bind ?_
  unfold setsByText;refine wpAny_bind (wpAny_askSetting (wpAny_pure ?_))
  show wpAny _ _ (if w.params.followText "set-order" = true then _ else _) _ _ _
  rw[if_pos hb];refine wpAny_bind (wpAny_askSetting (wpAny_pure ?_))
  refine wpAny_pure ?_
  rw[List.getElem?_map,Option.map_map,Array.getElem?_toList]at h
  exact h
 | false=>
  rw[hb]at h
  simp only[Bool.false_eq_true,if_false]at h ⊢
  have hled:t.led=true:=by rw[hg.led]; unfold bu; rw[hb]; rfl
  refine wpAny_ite_split (fun hab=>?_) (fun _=>?_)
  ·rcases hn with z | z
   ·rw[hb]at z; cases z
   ·exact absurd (z.symm.trans hab) (by decide)
  refine wpAny_bind ?_
  show wpAny _ _ (if (!t.led && !es.isEmpty)=true then unsupported "set:maker-not-led" else pure ()) _ _ _
  rw[if_neg (by rw[hled]; simp)]
  refine wpAny_pure (wpAny_pure ?_)
  have hbel:SetTable.below t.place (if i=0 then 0 else t.place.getD (i - 1) 0+1)=i:=by
   by_cases h0:i=0
   ·rw[if_pos h0,uq hg.rise,h0]
   ·have hi1:i - 1<t.place.size:=by omega
    rw[if_neg h0,show t.place.getD (i - 1) 0=t.place[i - 1] by simp[Array.getD,hi1],ud hg.rise hi1]
    omega
  rw[hbel];rw[List.getElem?_map,Array.getElem?_toList,if_neg (by omega),Nat.add_sub_cancel]at h
  by_cases hlt:i<es.size
  ·have hlp:i<t.place.size:=by omega
   rw[Array.getElem?_eq_getElem hlt,Array.getElem?_eq_getElem hlp];rw[Array.getElem?_eq_getElem hlt,show t.place.getD i 0=t.place[i] by simp[Array.getD,hlp]]at h
   exact h
  ·rw[Array.getElem?_eq_none (by omega)]
   rw[Array.getElem?_eq_none (by omega)]at h
   exact h
end
end L2
namespace L2
open PySem PySem.Spec PyProof.Rows PySem.SeqAt
section
variable{prog:Program}{w:World}{A:Around}{E:Value→Shared→Prop}{s:Shared}
def IsSI(h:Heap)(it:Addr)(first:Value)(i:Nat)(a:Addr)(n ep:Nat):Prop:=∃ o,h.get? it=some o∧o.cls = .type "set_iterator" ∧ o.data = .fields #[first,.int i 0,.ref a,.int n 0,.int ep 0]
theorem IsSI.typeIs{it a:Addr}{first:Value}{i n ep:Nat}(x:IsSI s.heap it first i a n ep):s.TypeIs (.ref it) "set_iterator" := let ⟨o,ho,hc,_⟩:=x; ⟨o,ho,hc⟩
theorem AK{it a:Addr}{o:Obj}{es:Array (Int × Value)}{ep:Nat}{t:SetTable}{i:Nat}{v:Value}{Q:Option Value→Shared→Prop}(hit:IsSI s.heap it (.int (dF w t i) 0) i a es.size ep)(ho:s.heap.get? a=some o)(hd:o.data = .set es ep t)(hf:t.fits es.size=true)(hg:bB (bu w) t)
  (hn:w.params.followText "set-order" = true∨(!t.plain&&decide (es.size>1))=false) (hi:i<es.size) (hv:(fU w a ep es)[i]? = some v)
  (hQ:∀ h',IsSI h' it (.int (dF w t (i+1)) 0) (i+1) a es.size ep→Heap.SameBut it s.heap h'→Q (some v) { s with heap:=h' }):wpAny (model prog w) A (pyNext (.ref it)) Q E s:=by
 obtain⟨oi,hoi,hci,hdi⟩:=id hit
 unfold pyNext;refine wpAny_bind (wpAny_attempt (wpAny_callSpecial?_slot (name:=Str.ofString "__next__") hit.typeIs slot_si_next (wpAny_call_entry slot_si_next hit.typeIs eI ?_ (fj _))))
 unfold Builtin.«set_iterator.__next__»
 refine wpAny_bind (wpAny_pure ?_)
 refine wpAny_bind (wpAny_fieldsOf hoi hdi ?_)
 dsimp only
 refine wpAny_bind (wpAny_setEntries_of ho hd hf ?_)
 rw[if_neg (by simp)]
 simp only[Int.toNat_natCast]
 refine wpAny_bind (nP ho hd hf hg (by omega) hn ?_)
 rw[hv];show wpAny _ _ (setField (.ref it) 0 (rawInt (dF w t (i+1):Nat)) >>= fun _=>setField (.ref it) 1 (rawInt ((i:Int)+1)) >>= fun _=>ret v) _ _ _
 refine wpAny_bind (wpAny_setField hoi hdi (by simp) ?_)
 have hdi1:=Obj.data_mapFields hdi (fun xs=>xs.setIfInBounds 0 (rawInt (dF w t (i+1):Nat)))
 have hoi1:=Heap.get?_update_self (Obj.mapFields (fun xs=>xs.setIfInBounds 0 (rawInt (dF w t (i+1):Nat)))) hoi (Obj.isFreed_of_fields hdi1)
 refine wpAny_bind (wpAny_setField hoi1 hdi1 (by simp) ?_)
 have hdi2:=Obj.data_mapFields hdi1 (fun xs=>xs.setIfInBounds 1 (rawInt ((i:Int)+1)))
 have hoi2:=Heap.get?_update_self (Obj.mapFields (fun xs=>xs.setIfInBounds 1 (rawInt ((i:Int)+1)))) hoi1 (Obj.isFreed_of_fields hdi2)
 refine wpAny_pure ⟨_,rfl,wpAny_pure (hQ _ ⟨_,hoi2,?_,?_⟩ ((Heap.SameBut.update ..).trans (Heap.SameBut.update ..)))⟩
 ·rw[Obj.cls_mapFields,Obj.cls_mapFields]; exact hci
 ·rw[hdi2]; simp[rawInt]
theorem Cz{it a:Addr}{o:Obj}{es:Array (Int × Value)}{ep:Nat}{t:SetTable}{Q:Option Value→Shared→Prop}(hh:A.handled=none)(hit:IsSI s.heap it (.int (dF w t es.size) 0) es.size a es.size ep)(ho:s.heap.get? a=some o)(hd:o.data = .set es ep t)(hf:t.fits es.size=true)(hg:bB (bu w) t)
  (hn:w.params.followText "set-order" = true∨(!t.plain&&decide (es.size>1))=false)
  (hQ:∀ h',Heap.ExtBut it s.heap h'→Q none { s with heap:=h' }):wpAny (model prog w) A (pyNext (.ref it)) Q E s:=by
 obtain⟨oi,hoi,hci,hdi⟩:=id hit
 have hv:(fU w a ep es)[es.size]? = none:=List.getElem?_eq_none (by rw[(iC (w:=w) a ep es).length_eq]; simp)
 unfold pyNext;refine wpAny_bind (wpAny_attempt (wpAny_callSpecial?_slot (name:=Str.ofString "__next__") hit.typeIs slot_si_next (wpAny_call_entry slot_si_next hit.typeIs eI ?_ (fj _))))
 unfold Builtin.«set_iterator.__next__»
 refine wpAny_bind (wpAny_pure ?_)
 refine wpAny_bind (wpAny_fieldsOf hoi hdi ?_)
 dsimp only
 refine wpAny_bind (wpAny_setEntries_of ho hd hf ?_)
 rw[if_neg (by simp)]
 simp only[Int.toNat_natCast]
 refine wpAny_bind (nP ho hd hf hg (Nat.le_refl _) hn ?_)
 rw[hv];show wpAny _ _ (setField (.ref it) 2 .none >>= fun _=>newExc (.type "StopIteration") [] >>= fun e=>raiseNew e) _ _ _
 refine wpAny_bind (wpAny_setField hoi hdi (by simp) ?_)
 refine wpAny_bind ?_
 simp only[newExc,newTuple]
 refine wpAny_bind (wpAny_newObj_type ?_ (by size_fits))
 refine wpAny_bind (m:=firstArgMember _ _) (wpAny_of_eq (a:=Value.none) (by first | rfl | (simp only[firstArgMember]; rfl)) ?_)
 refine wpAny_newObj_type ?_ (by size_fits)
 simp only[raiseNew]
 refine wpAny_bind (wpAny_handled ?_)
 rw[show A.in1.handled=none from hh];refine wpAny_bind (wpAny_pure (wpAny_throw ?_))
 refine wpAny_bind (wpAny_isInstance (T := "StopIteration") (b:=true) ⟨_,Heap.get?_push_size _ rfl,rfl⟩ isSubtype_stop ?_)
 exact wpAny_pure (hQ _ (((Heap.SameBut.update ..).extBut.push _).push _))
end
end L2
namespace L2
open PySem PySem.Spec PyProof.Rows PySem.SeqAt
section
variable{prog:Program}{w:World}{A:Around}{E:Value→Shared→Prop}{s:Shared}
theorem uK{a:Addr}{o:Obj}{es:Array (Int × Value)}{ep:Nat}{t:SetTable}{Q:Bool→Shared→Prop}(ho:s.heap.get? a=some o)(hd:o.data = .set es ep t)(hf:t.fits es.size=true)
  (h:Q (!(w.params.followText "set-order")&&(!t.plain&&decide (es.size>1))) s):wpAny (model prog w) A (setDrawn a) Q E s:=by
 unfold setDrawn;refine wpAny_bind (wpAny_setState_of ho hd hf ?_)
 refine wpAny_bind ?_
 unfold setsByText;refine wpAny_bind (wpAny_askSetting (wpAny_pure ?_))
 exact wpAny_pure h
theorem A1{a:Addr}{o:Obj}{es:Array (Int × Value)}{ep:Nat}{t:SetTable}{Q:Value→Shared→Prop}(ho:s.heap.get? a=some o)(hx:o.ExactSet)(hd:o.data = .set es ep t)(hf:t.fits es.size=true)(hfew:es.size<scanBound)
  (h1:(!(w.params.followText "set-order")&&(!t.plain&&decide (es.size>1)))=false→Q (.ref s.heap.objs.size) { s with heap:=s.heap.push { cls:=.type "set_iterator", data:=.fields #[.int 0 0,.int 0 0,.ref a,.int es.size 0,.int ep 0] } })
  (h2:∀ (ps:List Nat) d',ps.Perm (List.range es.size)→Q (.ref (s.heap.objs.size+1)) { s with heap:=(s.heap.push { cls:=.type "tuple", data:=.seq (ps.map fun i:Nat=>rawInt i).toArray }).push { cls:=.type "set_iterator", data:=.fields #[.ref s.heap.objs.size,.int 0 0,.ref a,.int es.size 0,.int ep 0] },drawn:=d' }) :
  wpAny (model prog w) A (pyIter (.ref a)) Q E s:=by
 have hT:s.TypeIs (.ref a) "set" := ⟨o,ho,hx.1⟩
 refine wpAny_pyIter_slot hT F.slot_set_iter (wpAny_call_entry F.slot_set_iter hT mE ?_ (F.args_set_iter_1 _))
 unfold Builtin.«frozenset.__iter__»
 refine wpAny_bind (wpAny_pure ?_)
 refine wpAny_bind ?_
 unfold Builtin.Frozenset.sizeOf;refine wpAny_bind (wpAny_setEntries_of ho hd hf (wpAny_pure ?_))
 refine wpAny_bind (uK ho hd hf ?_)
 dsimp only
 refine wpAny_ite_split (fun hab=>?_) (fun hab=>?_)
 ·refine wpAny_bind (mR _ _ _ _ (by simp) fun ps d' hp=>?_)
  have hlen:ps.length=es.size:=by rw[hp.length_eq]; simp
  refine wpAny_bind ?_
  unfold newTuple;have hz:=fits_of_scanBound hfew;refine wpAny_newObj_type ?_ (by show (List.map _ ps).toArray.size≤sizeLine; simp; omega)
  refine wpAny_bind ?_
  unfold setEpoch;refine wpAny_bind (wpAny_setState_of (Heap.get?_push_of_some _ ho) hd hf (wpAny_pure ?_))
  refine wpAny_bind ?_
  unfold newFields;refine wpAny_newObj_type (wpAny_pure ⟨_,rfl, "set_iterator", _,⟨_,Heap.get?_push_size _ rfl,rfl⟩,slot_si_next.lookup,?_⟩)
  rw[Heap.size_push];exact h2 ps d' hp
 ·refine wpAny_bind (wpAny_pure ?_)
  refine wpAny_bind ?_
  unfold setEpoch;refine wpAny_bind (wpAny_setState_of ho hd hf (wpAny_pure ?_))
  refine wpAny_bind ?_
  unfold newFields;refine wpAny_newObj_type (wpAny_pure ⟨_,rfl, "set_iterator", _,⟨_,Heap.get?_push_size _ rfl,rfl⟩,slot_si_next.lookup,?_⟩)
  exact h1 (by simpa using hab)
end
end L2
namespace L2
open PySem PySem.Spec PyProof.Rows PySem.SeqAt
section
variable{prog:Program}{w:World}{A:Around}{E:Value→Shared→Prop}{s:Shared}
theorem Ax{it a tp:Addr}{o ot:Obj}{es:Array (Int × Value)}{ep ct:Nat}{t:SetTable}{i k:Nat}{ps:List Nat}{v:Value}{hh:Int}{Q:Option Value→Shared→Prop}(hit:IsSI s.heap it (.ref tp) i a es.size ep)(ho:s.heap.get? a=some o)(hd:o.data = .set es ep t)(hf:t.fits es.size=true)
  (hot:s.heap.get? tp=some ot) (hdt:ot.data = .seq (ps.map fun i:Nat=>rawInt i).toArray ct) (hk:ps[i]? = some k) (hv:es[k]? = some (hh,v))
  (hQ:∀ h',IsSI h' it (.ref tp) (i+1) a es.size ep→Heap.SameBut it s.heap h'→Q (some v) { s with heap:=h' }):wpAny (model prog w) A (pyNext (.ref it)) Q E s:=by
 obtain⟨oi,hoi,hci,hdi⟩:=id hit
 unfold pyNext;refine wpAny_bind (wpAny_attempt (wpAny_callSpecial?_slot (name:=Str.ofString "__next__") hit.typeIs slot_si_next (wpAny_call_entry slot_si_next hit.typeIs eI ?_ (fj _))))
 unfold Builtin.«set_iterator.__next__»
 refine wpAny_bind (wpAny_pure ?_)
 refine wpAny_bind (wpAny_fieldsOf hoi hdi ?_)
 dsimp only
 refine wpAny_bind (wpAny_setEntries_of ho hd hf ?_)
 rw[if_neg (by simp)]
 refine wpAny_bind (wpAny_seqItems hot hdt ?_)
 simp only[Int.toNat_natCast]
 have e1:(List.map (fun i:Nat=>rawInt (i:Int)) ps).toArray[i]? = some (.int (k:Int) 0):=by
  rw[List.getElem?_toArray,List.getElem?_map,hk]; rfl
 rw[e1]
 dsimp only
 refine wpAny_bind ?_
 unfold setNextDrawn;refine wpAny_bind (wpAny_setState_of ho hd hf ?_)
 dsimp only
 simp only[Int.toNat_natCast]
 rw[if_neg (by simp)]
 rw[hv];refine wpAny_pure ?_
 refine wpAny_bind (wpAny_setField hoi hdi (by simp) ?_)
 have hdi1:=Obj.data_mapFields hdi (fun xs=>xs.setIfInBounds 1 (rawInt ((i:Int)+1)))
 have hoi1:=Heap.get?_update_self (Obj.mapFields (fun xs=>xs.setIfInBounds 1 (rawInt ((i:Int)+1)))) hoi (Obj.isFreed_of_fields hdi1)
 refine wpAny_pure ⟨_,rfl,wpAny_pure (hQ _ ⟨_,hoi1,?_,?_⟩ (Heap.SameBut.update ..))⟩
 ·rw[Obj.cls_mapFields]; exact hci
 ·rw[hdi1]; simp[rawInt]
theorem BJ{it a tp:Addr}{o ot:Obj}{es:Array (Int × Value)}{ep ct:Nat}{t:SetTable}{ps:List Nat}{Q:Option Value→Shared→Prop}(hh:A.handled=none)(hit:IsSI s.heap it (.ref tp) es.size a es.size ep)(ho:s.heap.get? a=some o)(hd:o.data = .set es ep t)(hf:t.fits es.size=true)
  (hot:s.heap.get? tp=some ot) (hdt:ot.data = .seq (ps.map fun i:Nat=>rawInt i).toArray ct) (hp:ps.length=es.size)
  (hQ:∀ h',Heap.ExtBut it s.heap h'→Q none { s with heap:=h' }):wpAny (model prog w) A (pyNext (.ref it)) Q E s:=by
 obtain⟨oi,hoi,hci,hdi⟩:=id hit
 unfold pyNext;refine wpAny_bind (wpAny_attempt (wpAny_callSpecial?_slot (name:=Str.ofString "__next__") hit.typeIs slot_si_next (wpAny_call_entry slot_si_next hit.typeIs eI ?_ (fj _))))
 unfold Builtin.«set_iterator.__next__»
 refine wpAny_bind (wpAny_pure ?_)
 refine wpAny_bind (wpAny_fieldsOf hoi hdi ?_)
 dsimp only
 refine wpAny_bind (wpAny_setEntries_of ho hd hf ?_)
 rw[if_neg (by simp)]
 refine wpAny_bind (wpAny_seqItems hot hdt ?_)
 simp only[Int.toNat_natCast]
 have e1:(List.map (fun i:Nat=>rawInt (i:Int)) ps).toArray[es.size]? = none:=by
  rw[List.getElem?_toArray,List.getElem?_eq_none (by simp; omega)]
 rw[e1]
 dsimp only
 refine wpAny_bind (wpAny_setField hoi hdi (by simp) ?_)
 have hdi1:=Obj.data_mapFields hdi (fun xs=>xs.setIfInBounds 0 (rawInt 0))
 have hoi1:=Heap.get?_update_self (Obj.mapFields (fun xs=>xs.setIfInBounds 0 (rawInt 0))) hoi (Obj.isFreed_of_fields hdi1)
 refine wpAny_bind (wpAny_setField hoi1 hdi1 (by simp) ?_)
 refine wpAny_bind ?_
 simp only[newExc,newTuple]
 refine wpAny_bind (wpAny_newObj_type ?_ (by size_fits))
 refine wpAny_bind (m:=firstArgMember _ _) (wpAny_of_eq (a:=Value.none) (by first | rfl | (simp only[firstArgMember]; rfl)) ?_)
 refine wpAny_newObj_type ?_ (by size_fits)
 simp only[raiseNew]
 refine wpAny_bind (wpAny_handled ?_)
 rw[show A.in1.handled=none from hh];refine wpAny_bind (wpAny_pure (wpAny_throw ?_))
 refine wpAny_bind (wpAny_isInstance (T := "StopIteration") (b:=true) ⟨_,Heap.get?_push_size _ rfl,rfl⟩ isSubtype_stop ?_)
 exact wpAny_pure (hQ _ ((((Heap.SameBut.update ..).trans (Heap.SameBut.update ..)).extBut.push _).push _))
end
end L2
namespace L2
open PySem PySem.Spec PyProof.Rows PySem.SeqAt
theorem js:Slot "set_iterator" "__iter__" "set_iterator.__iter__" :=
 .of (owner := "set_iterator") (n := "__iter__") (by rw[typeLookup_type,builtinLookup_eq_fast]; kernel_rfl) (by decide +kernel) (by decide +kernel) (by decide +kernel)
  (by first | exact .inl (by decide +kernel) | exact .inr (by decide +kernel)) (by rw[isSubtype_type]; kernel_rfl)
theorem n6:entryFor table "set_iterator.__iter__" = some Builtin.«dict_keyiterator.__iter__»:=
 entryFor_alias (id' := "dict_keyiterator.__iter__") (by kernel_rfl) rfl (by decide +kernel) (by kernel_rfl)
theorem qW(a:Value):argsOk "set_iterator.__iter__" ⟨[a],[]⟩:=by
 unfold argsOk; rw [signature?_of (id := "set_iterator.__iter__") (n:=['_','_','r','e','t','i','_','_']) (o:=['r','o','t','a','r','e','t','i','_','t','e','s']) (by kernel_rfl) pJ]; kernel_rfl
section
variable{prog:Program}{w:World}{A:Around}{E:Value→Shared→Prop}{s:Shared}
theorem sL{it a:Addr}{first:Value}{i n ep:Nat}{Q:Value→Shared→Prop}(hit:IsSI s.heap it first i a n ep)(h:Q (.ref it) s):wpAny (model prog w) A (pyIter (.ref it)) Q E s:=
 wpAny_pyIter_slot hit.typeIs js (wpAny_call_entry js hit.typeIs n6 (wpAny_bind (wpAny_pure (wpAny_pure ⟨_,rfl, "set_iterator", _,hit.typeIs,slot_si_next.lookup,h⟩))) (qW _))
theorem IsSI.at'{h h':Heap}{it a:Addr}{first:Value}{i n ep:Nat}(x:IsSI h it first i a n ep)(e:∀ o,h.get? it=some o→h'.get? it=some o):IsSI h' it first i a n ep:=let ⟨o,ho,r⟩:=x; ⟨o,e _ ho,r⟩
theorem D8(hh:A.handled=none)(I a:Addr)(hne:a≠I){o:Obj}{es:Array (Int × Value)}{ep:Nat}{t:SetTable}(hd:o.data = .set es ep t)(hf:t.fits es.size=true)(hg:bB (bu w) t)(hn:w.params.followText "set-order" = true∨(!t.plain&&decide (es.size>1))=false) :
  Walks prog w A I [I,a] [I] es.size (fun i v=>(fU w a ep es)[i]? = some v) (fun i h=>IsSI h I (.int (dF w t i) 0) i a es.size ep∧h.get? a=some o) where
 sub:=fun b hb=>by simp at hb; simp[hb]
 frame:=fun _ _ _ st hk=>⟨st.1.at' fun o e=>hk I (by simp) o e,hk a (by simp) o st.2⟩
 item:=fun i s Q E hi st hQ=>by
  have hl:(fU w a ep es).length=es.size:=by rw[(iC (w:=w) a ep es).length_eq]; simp
  have hv:(fU w a ep es)[i]? = some (fU w a ep es)[i]:=List.getElem?_eq_getElem (by omega)
  refine AK st.1 st.2 hd hf hg hn hi hv fun h' hit' hs'=>?_
  exact hQ _ h' s.toks hv ⟨hit',hs'.extBut a o hne st.2⟩ (fun b o hb e=>hs'.extBut b o (fun h=>hb (by simp[h])) e)
 done:=fun s Q E st hQ=>Cz hh st.1 st.2 hd hf hg hn fun h' he'=>hQ h' s.toks fun b o hb e=>he' b o (fun h=>hb (by simp[h])) e
 self:=fun _ _ _ _ st hQ=>sL st.1 hQ
theorem D6(hh:A.handled=none)(I a tp:Addr)(hne:a≠I)(hnt:tp≠I){o ot:Obj}{es:Array (Int × Value)}{ep ct:Nat}{t:SetTable}{ps:List Nat}(hd:o.data = .set es ep t)(hf:t.fits es.size=true)(hdt:ot.data = .seq (ps.map fun i:Nat=>rawInt i).toArray ct)(hp:ps.Perm (List.range es.size)) :
  Walks prog w A I [I,a,tp] [I] es.size (fun i v=>(ps.map fun k=>(es.getD k (0,.none)).2)[i]? = some v) (fun i h=>IsSI h I (.ref tp) i a es.size ep∧h.get? a=some o∧h.get? tp=some ot) where
 sub:=fun b hb=>by simp at hb; simp[hb]
 frame:=fun _ _ _ st hk=>⟨st.1.at' fun o e=>hk I (by simp) o e,hk a (by simp) o st.2.1,hk tp (by simp) ot st.2.2⟩
 item:=fun i s Q E hi st hQ=>by
  have hl:ps.length=es.size:=by rw[hp.length_eq]; simp
  have hk:ps[i]? = some (ps[i]'(by omega)):=List.getElem?_eq_getElem (by omega)
  have hlt:ps[i]'(by omega)<es.size:=List.mem_range.mp (hp.mem_iff.mp (List.getElem_mem _))
  have hv:(ps.map fun k=>(es.getD k (0,.none)).2)[i]? = some (es[ps[i]'(by omega)]'hlt).2:=by
   rw[List.getElem?_map,hk];simp[Array.getD,hlt]
  refine Ax st.1 st.2.1 hd hf st.2.2 hdt hk (hh:=(es[ps[i]'(by omega)]'hlt).1) (v:=(es[ps[i]'(by omega)]'hlt).2) (Array.getElem?_eq_getElem hlt) fun h' hit' hs'=>?_
  exact hQ _ h' s.toks hv ⟨hit',hs'.extBut a o hne st.2.1,hs'.extBut tp ot hnt st.2.2⟩ (fun b o hb e=>hs'.extBut b o (fun h=>hb (by simp[h])) e)
 done:=fun s Q E st hQ=>BJ hh st.1 st.2.1 hd hf st.2.2 hdt (by rw[hp.length_eq]; simp) fun h' he'=>hQ h' s.toks fun b o hb e=>he' b o (fun h=>hb (by simp[h])) e
 self:=fun _ _ _ _ st hQ=>sL st.1 hQ
end
end L2
namespace L2
open PySem PySem.Spec PyProof.Rows PySem.SeqAt
section
variable{prog:Program}{w:World}{A:Around}{E:Value→Shared→Prop}{s:Shared}
theorem qe{a:Addr}{Q:Bool→Shared→Prop}(hT:s.TypeIs (.ref a) "set") (h:Q false s):wpAny (model prog w) A (Builtin.List.listLengthHint (.ref a)) Q E s:=by
 unfold Builtin.List.listLengthHint;refine wpAny_bind (wpAny_specialOf hT F.slot_set_len.lookup ?_)
 generalize hid:("set.__len__" : String)=id0
 wp_delta
 rw[show splitId id0=some ("set", "__len__") from by subst hid; decide +kernel]
 subst hid;refine wpAny_bind (wpAny_isInstance (T := "set") (b:=true) hT (by rw[isSubtype_type]; kernel_rfl) ?_)
 refine wpAny_ite_split (fun hab=>absurd hab (by decide)) (fun _=>?_)
 refine wpAny_ite_split (fun _=>?_) (fun hab=>absurd (by decide +kernel) hab)
 refine wpAny_bind (wpAny_typeOf hT ?_)
 exact wpAny_pure h
theorem yZ{l:List Value}{acc:Array Value}(h:ItemsOf (fun i v=>l[i]? = some v) acc l.length):acc.toList=l:=by
 refine List.ext_getElem? fun i=>?_
 rw[Array.getElem?_toList]
 cases e:acc[i]? with
 | some v=>exact(h.2 i v e).symm
 | none=>
  have:acc.size≤i:=by simpa using e
  exact(List.getElem?_eq_none (by have:=h.1; omega)).symm
theorem rK{es:Array (Int × Value)}{ps:List Nat}(hp:ps.Perm (List.range es.size)):(ps.map fun k=>(es.getD k (0,.none)).2).Perm (es.toList.map (·.2)):=by
 refine(hp.map _).trans ?_
 refine List.Perm.of_eq ?_
 refine List.ext_getElem (by simp) fun i h1 h2=>?_
 have hi:i<es.size:=by simpa using h1
 simp[Array.getD,hi]
theorem um{R:Result→Shared→Prop}{a:Addr}{o:Obj}{es:Array (Int × Value)}{ep:Nat}{t:SetTable}(hh:A.handled=none)(ho:s.heap.get? a=some o)(hx:o.ExactSet)(hd:o.data = .set es ep t)(hf:t.fits es.size=true)(hfew:es.size<scanBound)(hg:bB (bu w) t)
  (S:Addr) (res:Value) (c₀ : Nat) (hS:s.heap.get? S=some { cls:=.type "list", data:=.seq #[] c₀ })
  (hR:∀ h' d' tk acc' c',(∀ b o,b≠S→s.heap.get? b=some o→h'.get? b=some o)→h'.get? S=some { cls:=.type "list", dict:=none,data:=.seq acc' c',slots:=#[] }→acc'.toList.Perm (es.toList.map (·.2))→R (.ok (.ret res)) { s with heap:=h',drawn:=d',toks:=tk }) :
  wpAny (model prog w) A.in1 (Builtin.List.listExtendWith (.ref S) (.ref a) res)
   (fun fin s'=>match fin with | .done f=>R (.ok f) s' | .again c'=>c'.quiet=true∧codeAny (model prog w) A c' R s') (fun e s'=>R (.error e) s') s:=by
 have hz:=fits_of_scanBound hfew;have halt:a<s.heap.objs.size:=Heap.lt_size ho
 have hSlt:S<s.heap.objs.size:=Heap.lt_size hS
 have hSa:S≠a:=fun e=>by
  rw[e,ho]at hS
  cases hS
  cases hd
 have hT:s.TypeIs (.ref a) "set" := ⟨o,ho,hx.1⟩
 have e1:Builtin.List.listSameRef (.ref S) (.ref a)=false:=by simp[Builtin.List.listSameRef,hSa]
 have key:∀ (h2:Heap) (d2:Drawn) (c tk:Nat) (I:Addr) (fp:List Addr) (l:List Value) (St:Nat→Heap→Prop),l.length=es.size→l.Perm (es.toList.map (·.2))→Walks prog w A.in1 I fp [I] es.size (fun i v=>l[i]? = some v) St→S∉fp→s.heap.objs.size≤I→
   (∀ b o,b≠S→s.heap.get? b=some o→h2.get? b=some o)→h2.get? S=some { cls:=.type "list", data:=.seq #[] c }→St 0 h2→codeAny (model prog w) A (.builtin "list.extend.loop" ⟨[.ref S,.ref I,res],[]⟩) R { s with heap:=h2,drawn:=d2,toks:=tk }:=by
  intro h2 d2 c tk I fp l St hl hp W hSf hI hk hS2 hst
  refine codeAny_extend_loopS W.toS hz S hSf res es.size 0 _ #[] c rfl (Nat.zero_le _) hst hS2 (ItemsOf.nil _) fun s' acc' c' hm hS' hacc=>?_
  rw[Moved.eq_with hm];refine hR s'.heap d2 s'.toks acc' c' (fun b o hb e=>hm.heap b o (fun hmem=>?_) (hk b o hb e)) hS' (by rw[yZ (by rw[hl]; exact hacc)]; exact hp)
  rcases List.mem_cons.mp hmem with e' | hmem
  ·exact hb e'
  ·have:=Heap.lt_size e
   rw[List.mem_singleton.mp hmem]at this
   exact absurd this (Nat.not_lt.mpr hI)
 unfold Builtin.List.listExtendWith;refine wpAny_bind (wpAny_typeOf hT ?_)
 rw[if_neg (by rw[e1]; decide)]
 /- the list makes room, then the loop -/
 have touch:∀ (h2:Heap) (d2:Drawn) (I:Addr) (fp:List Addr) (l:List Value) (St:Nat→Heap→Prop),l.length=es.size→l.Perm (es.toList.map (·.2))→Walks prog w A.in1 I fp [I] es.size (fun i v=>l[i]? = some v) St→S∉fp→s.heap.objs.size≤I→
   (∀ b o,s.heap.get? b=some o→h2.get? b=some o)→St 0 h2→
   wpAny (model prog w) A.in1 (updateSeq S (·.push .none) >>= fun _=>updateSeq S (·.pop)) (fun _ s'=>codeAny (model prog w) A (.builtin "list.extend.loop" ⟨[.ref S,.ref I,res],[]⟩) R s') (fun e s'=>R (.error e) s') { s with heap:=h2,drawn:=d2 }:=by
  intro h2 d2 I fp l St hl hp W hSf hI hk hst
  have hS₁:=hk _ _ hS;refine wpAny_bind (wpAny_updateSeq hS₁ rfl ?_)
  have hS₂:=Heap.get?_update_self (Obj.mapSeq (·.push Value.none)) hS₁ rfl;refine wpAny_updateSeq (hz:=by seq_fits) hS₂ rfl ?_
  have hS₃:=Heap.get?_update_self (Obj.mapSeq (·.pop)) hS₂ rfl
  have oth:∀ b o,b≠S→h2.get? b=some o→((h2.update S (Obj.mapSeq (·.push Value.none))).update S (Obj.mapSeq (·.pop))).get? b=some o:=fun b o hb e=>
   (Heap.get?_update_other _ _ (Ne.symm hb)).trans ((Heap.get?_update_other _ _ (Ne.symm hb)).trans e)
  exact key _ d2 _ s.toks I fp l St hl hp W hSf hI (fun b o hb e=>oth b o hb (hk b o e)) hS₃ (W.frame 0 _ _ hst fun b hb o e=>oth b o (fun z=>hSf (z ▸ hb)) e)
 refine wpAny_bind (A1 ho hx hd hf hfew (fun hnd=>?_) fun ps d' hp=>?_)
 ·have hTi:Shared.TypeIs { s with heap:=s.heap.push { cls:=.type "set_iterator", data:=.fields #[.int 0 0,.int 0 0,.ref a,.int es.size 0,.int ep 0] } } (.ref a) "set" := ⟨o,Heap.get?_push_of_some _ ho,hx.1⟩
  refine wpAny_bind (wpAny_holding (qe hTi ?_))
  have hn:w.params.followText "set-order" = true∨(!t.plain&&decide (es.size>1))=false:=by
   cases hb:w.params.followText "set-order" with
   | true=>exact .inl rfl
   | false=>rw[hb]at hnd; exact .inr (by simpa using hnd)
  have hst:IsSI (s.heap.push { cls:=.type "set_iterator", data:=.fields #[.int 0 0,.int 0 0,.ref a,.int es.size 0,.int ep 0] }) s.heap.objs.size (.int (dF w t 0) 0) 0 a es.size ep:=by
   refine⟨_,Heap.get?_push_size _ rfl,rfl,?_⟩
   unfold dF;split <;> simp
  refine wpAny_ite_split (fun _=>?_) (fun hab=>absurd (by decide +kernel) hab)
  refine wpAny_bind (wpAny_rule ?_)
  refine wpAny_bind (wpAny_mono (touch _ s.drawn _ _ _ _ (by rw[(iC (w:=w) a ep es).length_eq]; simp) (iC a ep es) (D8 (A:=A.in1) hh s.heap.objs.size a (Nat.ne_of_lt halt) hd hf hg hn) (fun hm=>?_) (Nat.le_refl _) (fun b o e=>Heap.get?_push_of_some _ e) ⟨hst,Heap.get?_push_of_some _ ho⟩) (fun _ s' hc=>wpAny_pure ⟨plainId_quiet F.plain_extend_loop _,hc⟩) (fun _ _ he=>he))
  rcases List.mem_cons.mp hm with z | z
  ·exact absurd z (Nat.ne_of_lt hSlt)
  ·exact hSa (List.mem_singleton.mp z)
 ·have hTi:Shared.TypeIs { s with heap:=(s.heap.push { cls:=.type "tuple", data:=.seq (ps.map fun i:Nat=>rawInt i).toArray }).push { cls:=.type "set_iterator", data:=.fields #[.ref s.heap.objs.size,.int 0 0,.ref a,.int es.size 0,.int ep 0] },drawn:=d' } (.ref a) "set" := ⟨o,Heap.get?_push_of_some _ (Heap.get?_push_of_some _ ho),hx.1⟩
  refine wpAny_bind (wpAny_holding (qe hTi ?_))
  refine wpAny_ite_split (fun _=>?_) (fun hab=>absurd (by decide +kernel) hab)
  refine wpAny_bind (wpAny_rule ?_)
  have hst:IsSI ((s.heap.push { cls:=.type "tuple", data:=.seq (ps.map fun i:Nat=>rawInt i).toArray }).push { cls:=.type "set_iterator", data:=.fields #[.ref s.heap.objs.size,.int 0 0,.ref a,.int es.size 0,.int ep 0] }) (s.heap.objs.size+1) (.ref s.heap.objs.size) 0 a es.size ep:=by
   have:=Heap.get?_push_size (s.heap.push { cls:=.type "tuple", data:=.seq (ps.map fun i:Nat=>rawInt i).toArray }) (rfl:Obj.isFreed { cls:=.type "set_iterator", data:=.fields #[.ref s.heap.objs.size,.int 0 0,.ref a,.int es.size 0,.int ep 0] }=false)
   rw[Heap.size_push]at this
   exact⟨_,this,rfl,rfl⟩
  refine wpAny_bind (wpAny_mono (touch _ d' _ _ _ _ (by rw[List.length_map,hp.length_eq]; simp) (rK hp) (D6 (A:=A.in1) hh (s.heap.objs.size+1) a s.heap.objs.size (Nat.ne_of_lt (Nat.lt_succ_of_lt halt)) (Nat.ne_of_lt (Nat.lt_succ_self _)) hd hf rfl hp) (fun hm=>?_) (Nat.le_succ _) (fun b o e=>Heap.get?_push_of_some _ (Heap.get?_push_of_some _ e)) ⟨hst,Heap.get?_push_of_some _ (Heap.get?_push_of_some _ ho),Heap.get?_push_of_some _ (Heap.get?_push_size _ rfl)⟩) (fun _ s' hc=>wpAny_pure ⟨plainId_quiet F.plain_extend_loop _,hc⟩) (fun _ _ he=>he))
  rcases List.mem_cons.mp hm with z | z
  ·exact absurd z (Nat.ne_of_lt (Nat.lt_succ_of_lt hSlt))
  ·rcases List.mem_cons.mp z with z | z
   ·exact hSa z
   ·exact absurd (List.mem_singleton.mp z) (Nat.ne_of_lt hSlt)
theorem tY{a:Addr}{o:Obj}{es:Array (Int × Value)}{ep:Nat}{t:SetTable}{Q:List Value→Shared→Prop}(hh:A.handled=none)(ho:s.heap.get? a=some o)(hx:o.ExactSet)(hd:o.data = .set es ep t)(hf:t.fits es.size=true)(hfew:es.size<scanBound)(hg:bB (bu w) t)
  (hQ:∀ h' d' tk acc,(∀ b o,s.heap.get? b=some o→h'.get? b=some o)→s.heap.objs.size<h'.objs.size→acc.Perm (es.toList.map (·.2))→Q acc { s with heap:=h',drawn:=d',toks:=tk }):wpAny (model prog w) A (collect (.ref a)) Q E s:=by
 have ext:∀ R:Result→Shared→Prop,(∀ h' d' tk acc' c',(∀ b o,s.heap.get? b=some o→h'.get? b=some o)→h'.get? s.heap.objs.size=some { cls:=.type "list", dict:=none,data:=.seq acc' c',slots:=#[] }→acc'.toList.Perm (es.toList.map (·.2))→R (.ok (.ret (.ref s.heap.objs.size))) { s with heap:=h',drawn:=d',toks:=tk })→
   codeAny (model prog w) A (.builtin "proto.collect" ⟨[.ref a],[]⟩) R s:=fun R hR=>by
  refine codeAny_builtin F.entry_proto_collect ?_
  rw[Around.under_plainId F.plain_proto_collect _];show wpAny _ A.in1 (newList [] >>= fun l=>again (.builtin "list.__iadd__" ⟨[l,.ref a],[]⟩)) _ _ s
  refine wpAny_bind (wpAny_newObj_type ?_)
  refine wpAny_pure ⟨plainId_quiet F.plain_list_iadd _,codeAny_builtin F.entry_list_iadd ?_⟩
  rw[Around.under_plainId F.plain_list_iadd _];show wpAny _ A.in1 (Builtin.List.listExtendWith (.ref s.heap.objs.size) (.ref a) (.ref s.heap.objs.size)) _ _ _
  refine um (R:=R) (s:={ s with heap:=s.heap.push { cls:=.type "list", data:=.seq ([]:List Value).toArray } }) hh (Heap.get?_push_of_some _ ho) hx hd hf hfew hg s.heap.objs.size _ 0 (Heap.get?_push_size _ rfl) fun h' d' tk acc' c' hk hS' hp=>?_
  exact hR h' d' tk acc' c' (fun b o e=>hk b o (Nat.ne_of_lt (Heap.lt_size e)) (Heap.get?_push_of_some _ e)) hS' hp
 unfold collect;refine wpAny_bind (wpAny_runValue (ext _ fun h' d' tk acc' c' hk hS' hp=>?_))
 show wpAny _ A (load s.heap.objs.size >>= _) _ _ _
 refine wpAny_bind (wpAny_load hS' ?_)
 exact wpAny_pure (hQ h' d' tk acc'.toList hk (Heap.lt_size hS') hp)
end
section
variable{X:Cx}
end
end L2
namespace L2
open PySem PySem.Spec PyProof PyProof.Rows
section
variable{X:Cx}
def uM(K:PySem.W.Frag):List V→Hp→VK→Prop:=fun xs H Q=>∃ (p:Addr) (ns:List Int),xs=[.ref p]∧SqL K H p (ns.map V.int)∧ns≠[]∧∀ M,M∈ns→(∀ a∈ns,a≤M)→Q (.int M) H
theorem oN{K:PySem.W.Frag}{H:Hp}{Q:VK}(p:Addr):uM K [.ref p] H Q=∃ ns:List Int,SqL K H p (ns.map V.int)∧ns≠[]∧∀ M,M∈ns→(∀ a∈ns,a≤M)→Q (.int M) H:=propext ⟨fun ⟨_,bs,e,q⟩=>by cases e; exact⟨bs,q⟩,fun ⟨bs,q⟩=>⟨p,bs,rfl,q⟩⟩
theorem uR(hc:X.calm=true):CallR X (.builtin "max") (uM X.K):=by
 intro pins s σ H xs us Q I r h
 obtain⟨p,ns,rfl,hq,hne,q⟩:=h
 obtain⟨u,rfl,ru⟩:=dS r
 cases ru;obtain⟨its,rv,pl,hz⟩:=I.list hq
 have hi:IntsAre its ns:=va rv
 obtain⟨xs,e⟩:=hi.allInts.items
 have hns:ns=xs.toList.map (·.1):=by
  rw[← hi.numsOf,← nums_intItems,← e]
 have hsz:0<xs.size:=by
  have h3:=List.length_pos_iff.mpr hne; rw[hns,List.length_map,Array.length_toList]at h3; exact h3
 have hl:=pl.isList;rw[e]at hl
 refine max_intList (I.ok.hd hc) hl hsz fun v h' tk hv hk=>?_
 obtain⟨t,rfl⟩:=intItems_at hv
 obtain⟨h1,h2⟩:=argBest_gt (numAt xs) (xs.size - 1)
 refine⟨.int (numAt xs (argBest (fun i j=>decide (numAt xs i>numAt xs j)) (xs.size - 1))),H,I.kept (t':=tk) hk,⟨t,rfl⟩,q _ ?_ fun a ha=>?_⟩
 ·rw[hns,numAt_eq]; exact getD_mem (by rw[List.length_map,Array.length_toList]; omega)
 ·rw[hns]at ha
  obtain⟨j,hj,rfl⟩:=mem_getD ha
  rw[List.length_map,Array.length_toList]at hj
  rw[← numAt_eq]; exact h2 j (by omega)
theorem vT(K:PySem.W.Frag)(hK:X.K=K:=by rfl)(hc:X.calm=true:=by rfl):CallR X (.builtin "max") (uM K):=hK ▸ uR hc
theorem Cs:bootBuiltins "max" = some (.builtin "max"):=by decide +kernel
end
end L2
namespace L2
open PySem PySem.Spec PyProof PyProof.Rows
section
variable{X:Cx}{pins:List (Addr × Obj)}{σ : St}{H:Hp}{s:Shared}{d:Addr}{kvs:List (Str × V)}
end
section
variable{X:Cx}
end
end L2
namespace L2
open PySem PySem.Spec PyProof PyProof.Rows
section
variable{prog:Program}{w:World}{A:Around}{E:Value→Shared→Prop}{s:Shared}
variable{z TI TO i1 i2 t1 t2:Addr}{xs ys:Array Value}{k1 k2:Nat}{a b:Value}
end
end L2
namespace L2
open PySem PySem.Spec PyProof PyProof.Rows
section
variable{prog:Program}{w:World}{A:Around}{E:Value→Shared→Prop}{s:Shared}{z TI TO i1 i2 t1 t2:Addr}{xs ys:Array Value}{k1 k2:Nat}{a b:Value}
end
end L2
namespace L2
open PySem PySem.Spec PyProof PyProof.Rows
end L2
namespace L2
open PySem PySem.Spec PyProof PyProof.Rows
section
variable{prog:Program}{w:World}{A:Around}{E:Value→Shared→Prop}{s:Shared}
end
section
variable{X:Cx}
end
section
variable{K:PySem.W.Frag}{a b:Addr}{xs ys:List V}{g:TG}{te:TE}{nT:Nat}{σ : St}{D:Addr}{Q:VK}{H:Hp}
end
theorem jU{α : Type}{x:α}{xs:List α}:eC (x::xs) 0=some x:=aZ (j:=0) rfl
end L2
namespace L2
open PySem PySem.Spec PyProof PyProof.Rows
section
variable{X:Cx}
end
end L2
namespace L2
open PySem PySem.Spec PyProof PyProof.Rows
section
variable{K:PySem.W.Frag}{a:Addr}{xs:List V}{g:TG}{σ : St}{H:Hp}
end
end L2
namespace L2
open PySem PySem.Spec PyProof PyProof.Rows
section
variable{X:Cx}
end
end L2
namespace L2
open PySem PySem.Spec PyProof PyProof.Rows PySem.SeqAt
section
variable{X:Cx}
end
end L2
namespace L2
open PySem PySem.Spec PyProof.Rows PySem.SeqAt
section
variable{P:Program}{w:World}{K:PySem.W.Frag}{mg:Str→Option Value}{base:Heap}
end
section
variable{X:Cx}{o e value:Expr}{es:List Expr}{f m:Str}{pos pos' apos p:Pos}{ta tv:TE}{t:TA}{C:Addr}{x:Str}{ps:List Str}{sp:Sp}{j k:Nat}
end
section
variable{C:Addr}{f m:Str}{sp:Sp}{ta tv:TE}{t:TA}{σ : St}{H:Hp}{Q:VK}
end
theorem BW{f:Str}:List.lookup f ([]:List (Str × V))=none:=rfl
theorem yQ{f:Str}{v:V}:CL f v []=[(f,v)]:=rfl
end L2
namespace L2
open PySem PySem.Spec PyProof.Rows PySem.SeqAt
section
variable{X:Cx}
end
end L2
namespace L2
open PySem PySem.Spec PyProof.Rows
section
variable{X:Cx}{tg e:Expr}
end
end L2
namespace L2
open PySem PySem.Spec PyProof.Rows PySem.SeqAt
def iB(l:List Str)(x:Str):List Str:=if l.any (· == x)=true then l else l++[x]
def fX(val:Nat→Str)(i:Nat):List Str:=((List.range i).map val).foldl iB []
theorem oQ(val:Nat→Str):fX val 0=[]:=rfl
theorem iY(val:Nat→Str)(i:Nat):fX val (i+1)=iB (fX val i) (val i):=by
 unfold fX; rw[List.range_succ,List.map_append,List.foldl_append]; rfl
theorem mI(val:Nat→Str):∀ i,(fX val i).length≤i
 | 0=>by rw[oQ]; exact Nat.le_refl _
 | i+1=>by
  rw[iY]; unfold iB
  have ih:=mI val i;split
  ·omega
  ·rw[List.length_append,List.length_singleton]; omega
theorem nO(l:List Str)(v k:Str):(iB l v).any (· == k)=(l.any (· == k)||decide (k=v)):=by
 unfold iB
 by_cases h:l.any (· == v)=true
 ·rw[if_pos h]
  by_cases e:k=v
  ·subst e; rw[h]; simp
  ·simp[e]
 ·rw[if_neg h,List.any_append]
  by_cases e:k=v
  ·subst e; simp
  ·have hb:(v == k)=false:=by simpa [beq_iff_eq] using (fun h':v=k=>e h'.symm)
   simp[hb,e]
theorem vC(l:List Str)(v:Str):(iB l v).length=if l.any (· == v) then l.length else l.length+1:=by
 unfold iB; split <;> simp
theorem tM(val:Nat→Str):∀ (i:Nat) (k:Str),(fX val i).any (· == k)=((List.range i).map val).any (· == k)
 | 0,k=>rfl
 | i+1,k=>by
  rw[iY,nO,tM val i k,List.range_succ,List.map_append,List.any_append]
  congr 1
  by_cases e:k=val i
  ·simp[e]
  ·simp[e]; exact fun h=>e h.symm
theorem tR:∀ {vs:List Value} {ss:List Str},StrsAre vs ss→∀ (i:Nat) (v:Value),vs[i]? = some v→∃ t,v = .str (ss.getD i "") t
 | _,_,.nil,i,v,h=>by simp at h
 | _,_,.cons n t hr,0,v,h=>by simp at h; exact⟨t,by rw[← h]; rfl⟩
 | _,_,.cons n t hr,i+1,v,h=>by
  simp only[List.getElem?_cons_succ]at h
  obtain⟨t',e⟩:=tR hr i v h
  exact⟨t',by rw[e]; rfl⟩
theorem mC(prog:Program)(w:World)(x:Str)(t:Tok):(strKind prog w).is x (.str x t)=true:=by
 show Value.isStrOf x (.str x t)=true
 simp[Value.isStrOf]
section
variable{prog:Program}{w:World}{A:Around}{R:Result→Shared→Prop}{I:Addr}{fp wr:List Addr}{Gm:Array GenState→Array GenState→Prop}{n:Nat}{P:Nat→Value→Prop}{St:Nat→Shared→Prop}{L:Bool}
theorem ze(W:WalksS prog w A.in1 I fp wr Gm n P St)(S:Addr)(hSf:S∉fp)(val:Nat→Str)(hval:∀ i v,P i v→∃ t,v = .str (val i) t)(hb:n+1<scanBound) :
  ∀ (k i:Nat) (s:Shared),n - i=k→i≤n→St i s→SetG (strKind prog w) (bB L) s.heap S (fun k'=>(fX val i).any (· == k')) (fX val i).length→
   (∀ s',Moved (S::wr) Gm s s'→SetG (strKind prog w) (bB L) s'.heap S (fun k'=>(fX val n).any (· == k')) (fX val n).length→R (.ok (.ret .none)) s')→
   codeAny (model prog w) A (.builtin "set.update.loop" ⟨[.ref S,.ref I],[]⟩) R s:=by
 have hSw:S∉wr:=fun h=>hSf (W.sub _ h)
 have hsub:∀ b∈wr,b∈S::wr:=fun b hb=>List.mem_cons_of_mem _ hb
 intro k
 induction k with
 | zero=>
  intro i s hk hi hst hS hR
  have hin:i=n:=by omega
  subst hin;refine codeAny_builtin F.entry_set_update_loop ?_
  rw[Around.under_plainId F.plain_set_update_loop _];show wpAny _ A.in1 (pyNext (.ref I) >>= _) _ _ s
  refine wpAny_bind (W.done s _ _ hst fun s' hm=>?_)
  show wpAny _ A.in1 (ret Value.none) _ _ s'
  exact wpAny_pure (hR s' (hm.mono hsub) (hS.at' (fun o e=>hm.heap S _ hSw e) (fun _=>rfl) rfl))
 | succ k ih=>
  intro i s hk hi hst hS hR
  have hlt:i<n:=by omega
  refine codeAny_builtin F.entry_set_update_loop ?_
  rw[Around.under_plainId F.plain_set_update_loop _];show wpAny _ A.in1 (pyNext (.ref I) >>= _) _ _ s
  refine wpAny_bind (W.item i s _ _ hlt hst fun v s' hP hst' hm=>?_)
  obtain⟨t,rfl⟩:=hval i v hP
  have hS':=hS.at' (h':=s'.heap) (fun o e=>hm.heap S _ hSw e) (fun _=>rfl) rfl
  show wpAny _ A.in1 (holding [Value.str (val i) t] (setAdd S (.str (val i) t)) >>= _) _ _ s'
  refine wpAny_bind (wpAny_holding ?_)
  unfold setAdd;refine wpAny_holding ?_
  refine wpAny_bind ((strKind prog w).pyHash (k:=val i) (mC _ _ _ _) ?_)
  have hroom:(fX val i).length+1<scanBound:=by have:=mI val i; omega
  refine Cp (G:=bB L) (knd:=strKind prog w) (s:={ s' with toks:=s'.toks+1 }) (fun t es h x g=>jS g es h x) (fun t es m g=>lJ g es m) (fun t g=>k_ g) (mC _ _ _ _) rfl hS' hroom fun h' hsb hS2=>?_
  have hSi:=hS2.at' (h':=h') (fun o e=>e) (S':=fun k'=>(fX val (i+1)).any (· == k')) (m':=(fX val (i+1)).length) (fun k'=>by rw[iY,nO]) (by rw[iY,vC])
  refine wpAny_pure ⟨plainId_quiet F.plain_set_update_loop _,ih (i+1) _ (by omega) hlt (W.frame _ s' _ _ hst' (Nat.le_succ _) fun b hb o e=>?_) hSi fun s'' hm'' hS''=>?_⟩
  ·rw[hsb.2 b (fun h:b=S=>hSf (by rw[← h]; exact hb))]; exact e
  ·refine hR s'' (Moved.trans W.gtrans ((hm.mono hsub).then_heap (Nat.le_succ _) fun b o hb e=>?_) hm'') hS''
   rw[hsb.2 b (fun h:b=S=>hb (by rw[h]; exact List.mem_cons_self))]; exact e
end
section
variable{prog:Program}{w:World}{A:Around}{E:Value→Shared→Prop}{s:Shared}
theorem wM{l:Addr}{items:Array Value}{ns:List Str}{Q:Value→Shared→Prop}(hh:A.handled=none)(hl:s.heap.IsList l items)(hi:StrsAre items.toList ns)(hb:items.size+1<scanBound)
  (h:∀ (h':Heap) (tk:Nat),SetG (strKind prog w) (bB (bu w)) h' s.heap.objs.size (fun k'=>(fX (fun i=>ns.getD i "") items.size).any (· == k')) (fX (fun i=>ns.getD i "") items.size).length→
   (∀ b o,b<s.heap.objs.size→s.heap.get? b=some o→h'.get? b=some o)→Q (.ref s.heap.objs.size) { s with heap:=h',toks:=tk }) :
  wpAny (model prog w) A (call (.type "set") [.ref l]) Q E s:=by
 obtain⟨c,tl,hmro⟩:=F.called_set.mro
 have hmade:=F.called_set.made;have hsub:=F.called_set.sub;refine wpAny_call (codeAny_of_tree ?_)
 show wpAny _ _ (callAny (.type "set") _) _ _ _
 refine wpAny_pure ⟨Code.quiet_builtin _ (by decide +kernel),codeAny_builtin F.entry_type_call ?_⟩
 rw[Around.under_plain (weight_type_call_type "set" [.ref l] []) rfl];have h1:=F.called_set.notType;have h2:=F.called_set.canCreate;have hct:=F.typeCall_set_1 (.ref l)
 repeat (any_goals (first | assumption | wp_step))
 refine codeAny_mono (y8 (.ref l) (E:=E) (Q₁:=fun obj s₁=>obj = .ref s.heap.objs.size∧s₁={ s with heap:=s.heap.push { cls:=.type "set", dict:=none,data:=.set #[] 0 (.fresh 0 0 (bu w)) } }) ⟨rfl,rfl⟩) fun r s₁ hr=>?_
 cases r with
 | error e=>exact hr
 | ok fl=>
  cases fl with
  | ret obj=>
   obtain⟨rfl,rfl⟩:=hr
   have hS:(s.heap.push { cls:=.type "set", dict:=none,data:=.set #[] 0 (.fresh 0 0 (bu w)) }).get? s.heap.objs.size=some { cls:=.type "set", dict:=none,data:=.set #[] 0 (.fresh 0 0 (bu w)) }:=Heap.get?_push_size _ rfl
   have hT:Shared.TypeIs { s with heap:=s.heap.push { cls:=.type "set", dict:=none,data:=.set #[] 0 (.fresh 0 0 (bu w)) } } (.ref s.heap.objs.size) "set" := ⟨_,hS,rfl⟩
   have hli:=F.called_set.init.lookup;have hbi:=F.called_set.init.bind (.ref s.heap.objs.size)
   repeat (any_goals (first | assumption | wp_step))
   refine codeAny_mono (codeAny_call_builtin (R:=wants (fun r s₂=>r = .none∧∃ h' tk,s₂={ s with heap:=h',toks:=tk }∧
     SetG (strKind prog w) (bB (bu w)) h' s.heap.objs.size (fun k'=>(fX (fun i=>ns.getD i "") items.size).any (· == k')) (fX (fun i=>ns.getD i "") items.size).length∧
     (∀ b o,b<s.heap.objs.size→s.heap.get? b=some o→h'.get? b=some o)) E) F.called_set.init.plain F.entry_set_init (check_set_init_1 hT ?_)) fun r₂ s₂ hr₂=>?_
   ·obtain⟨ol,hol,hcl,nl,hdl⟩:=hl
    obtain⟨ocls,odict,odata,oslots⟩:=ol
    simp only at hcl hdl
    subst hcl; subst hdl
    have hol':(s.heap.push { cls:=.type "set", dict:=none,data:=.set #[] 0 (.fresh 0 0 (bu w)) }).get? l=some { cls:=.type "list", dict:=odict,data:=.seq items nl,slots:=oslots }:=Heap.get?_push_of_some _ hol
    have hsls:=F.sub_list_set;have hslf:=F.sub_list_frozenset;have hne:(Value.type "list" == Value.type "dict")=false:=by decide
    have hl1:(s.heap.push { cls:=.type "set", dict:=none,data:=.set #[] 0 (.fresh 0 0 (bu w)) }).IsList l items:=⟨_,hol',rfl,nl,rfl⟩
    unfold Builtin.«set.__init__» noKeywords Builtin.Frozenset.updateFrom
    generalize hPI:pyIter=PI
    wp_walk
    subst hPI;refine wpAny_pyIter_list hl1 ?_
    refine wpAny_bind (wpAny_runValue ?_)
    have hlS:l<s.heap.objs.size:=Heap.lt_size hol
    have hh3:A.in1.in1.in1.handled=none:=by simp[hh]
    have hneI:l≠(s.heap.push { cls:=.type "set", dict:=none,data:=.set #[] 0 (.fresh 0 0 (bu w)) }).objs.size:=by
     rw[Heap.size_push]; exact Nat.ne_of_lt (Nat.lt_succ_of_lt hlS)
    have hSf:s.heap.objs.size∉[(s.heap.push { cls:=.type "set", dict:=none,data:=.set #[] 0 (.fresh 0 0 (bu w)) }).objs.size,l]:=by
     rw[Heap.size_push]; simp only[List.mem_cons,List.mem_singleton,List.not_mem_nil,or_false,not_or]
     exact⟨Nat.ne_of_lt (Nat.lt_succ_self _),Nat.ne_of_gt hlS⟩
    have hval:∀ (i:Nat) (v:Value),items[i]? = some v→∃ t,v = .str ((fun i=>ns.getD i "") i) t:=fun i v hv=>tR hi i v (by rw[Array.getElem?_toList]; exact hv)
    refine ze (L:=bu w) ((Walks.list hh3 _ l hneI items).toS) s.heap.objs.size hSf (fun i=>ns.getD i "") hval hb (items.size - 0) 0 _ (by omega) (Nat.zero_le _) ⟨⟨_,Heap.get?_push_size _ rfl,rfl,rfl⟩,(hl1.push _)⟩ ?hS0 ?hR
    case hS0=>
     refine⟨{ cls:=.type "set", dict:=none,data:=.set #[] 0 (.fresh 0 0 (bu w)) },#[],0,.fresh 0 0 (bu w),Heap.get?_push_of_some _ hS,?_⟩
     exact⟨⟨rfl,rfl,rfl⟩,rfl,fun e he=>by simp at he,fun k=>by simp[oQ],by decide,rfl,rfl,⟨rfl,fun a b ha=>absurd ha (Nat.not_lt_zero _)⟩,List.Pairwise.nil⟩
    case hR=>
     intro s' hm hS'
     obtain⟨h',g',d',tk',os'⟩:=s'
     have eg:g'=s.gens:=hm.gens
     have ed:d'=s.drawn:=hm.drawn
     have eo:os'=s.os:=hm.os
     subst eg; subst ed; subst eo
     show wpAny _ _ _ _ _ _
     refine wpAny_pure ?_
     show wpAny _ _ (ret Value.none) _ _ _
     refine wpAny_pure ⟨rfl,h',tk',rfl,hS',fun b o hb e=>?_⟩
     have hb1:b≠s.heap.objs.size:=Nat.ne_of_lt hb
     have hb2:b≠(s.heap.push { cls:=.type "set", dict:=none,data:=.set #[] 0 (.fresh 0 0 (bu w)) }).objs.size:=by
      rw[Heap.size_push]; exact Nat.ne_of_lt (Nat.lt_succ_of_lt hb)
     exact hm.heap b o (by simp only[List.mem_cons,List.mem_singleton,List.not_mem_nil,or_false,not_or]; exact⟨hb1,hb2⟩) (Heap.get?_push_of_some _ (Heap.get?_push_of_some _ e))
   ·cases r₂ with
    | error e=>exact hr₂
    | ok fl₂=>
     cases fl₂ with
     | ret r=>
      obtain⟨rfl,h',tk,rfl,hS',hk'⟩:=hr₂
      repeat (any_goals (first | assumption | wp_step))
      exact h _ _ hS' hk'
     | _=>exact hr₂.elim
  | _=>exact hr.elim
end
def ni(SO:Addr→List Str→HO):List V→Hp→VK→Prop:=fun xs H Q=>∃ p,∃ ds:List Str,xs=[.ref p]∧H p=some (SO p ds)∧ds.length≤60∧∀ (l:Addr) (ts:List Str),H l=none→ts.Perm ds→sortedS ts=true→Q (.ref l) (upd H l (.lst (ts.map V.str)))
def ic(e:Int × Value):Str:=match e.2 with
 | .str d _=>d
 | _ => ""
def Hv(w:World)(h:Heap)(a:Addr)(ds:List Str):Prop:=∃ o es ep t,h.get? a=some o∧o.ExactSet∧o.data = .set es ep t∧es.size<scanBound∧t.fits es.size=true∧bB (bu w) t∧(∀ e∈es.toList,∃ tk,e.2 = .str (ic e) tk)∧es.toList.map ic=ds
theorem qA{prog:Program}{w:World}{h:Heap}{a:Addr}{S:Str→Bool}{n:Nat}(x:SetG (strKind prog w) (bB (bu w)) h a S n):∃ ds,Hv w h a ds∧ds.Nodup∧(∀ k,k∈ds ↔ S k=true)∧ds.length=n:=by
 obtain⟨o,es,ep,t,ho,T⟩:=x
 have hk:∀ e∈es.toList,∃ tk,e.2 = .str (ic e) tk:=fun e he=>by
  obtain⟨⟨k,hk,_⟩,_⟩:=T.el e he
  obtain⟨tk,e2⟩:=Value.isStrOf_shape hk
  exact⟨tk,by unfold ic; rw[e2]⟩
 have his:∀ e∈es.toList,∀ k,(strKind prog w).is k e.2=true ↔ k=ic e:=fun e he k=>by
  obtain⟨tk,e2⟩:=hk e he
  constructor
  ·intro z
   obtain⟨tk',e3⟩:=Value.isStrOf_shape z
   rw[e3]at e2
   cases e2; rfl
  ·rintro rfl; rw[e2]; exact mC _ _ _ _
 refine⟨es.toList.map ic,⟨o,es,ep,t,ho,T.ex,T.dat,T.few,T.fit,T.good,hk,rfl⟩,?_,fun k=>?_,by rw[List.length_map,Array.length_toList]; exact T.num⟩
 ·refine List.pairwise_map.mpr (List.Pairwise.imp_of_mem (fun {x y} hx hy hab e=>?_) T.apart)
  have h1:=hab (ic x) ((his x hx _).mpr rfl);rw[(his y hy _).mpr e]at h1; cases h1
 ·rw[T.mem,List.mem_map]
  constructor
  ·rintro⟨e,he,rfl⟩; exact⟨e,he,(his e he _).mpr rfl⟩
  ·rintro⟨e,he,z⟩; exact⟨e,he,((his e he _).mp z).symm⟩
section
variable{X:Cx}
end
def jx(v:Value):Str:=match v with
 | .str d _=>d
 | _ => ""
theorem sZ:∀ (l:List Value),(∀ v∈l,∃ tk,v = .str (jx v) tk)→StrsAre l (l.map jx)
 | [],_=>.nil
 | v::l,h=>by
  obtain⟨tk,e⟩:=h v List.mem_cons_self
  have r:=sZ l fun u hu=>h u (List.mem_cons_of_mem _ hu)
  rw[List.map_cons];generalize jx v=d at e ⊢;subst e;exact .cons d tk r
section
variable{prog:Program}{w:World}{A:Around}{E:Value→Shared→Prop}{s:Shared}
theorem vd{a:Addr}{o:Obj}{es:Array (Int × Value)}{ep:Nat}{t:SetTable}{Q:Value→Shared→Prop}(hh:A.handled=none)(ho:s.heap.get? a=some o)(hx:o.ExactSet)(hd:o.data = .set es ep t)(hf:t.fits es.size=true)(h64:es.size<64)(hg:bB (bu w) t)
  (hint:∀ e∈es.toList,∃ tk,e.2 = .str (ic e) tk)
  (hQ:∀ h' d' tk q out c ns',(∀ b o,s.heap.get? b=some o→h'.get? b=some o)→s.heap.objs.size≤q→h'.get? q=some (seqObj "list" out c)→StrsAre out.toList ns'→ns'.Perm (es.toList.map ic)→sortedS ns'=true→Q (.ref q) { s with heap:=h',drawn:=d',toks:=tk }) :
  wpAny (model prog w) A (call (.builtin "sorted") [.ref a]) Q E s:=by
 refine Calls.call_function_entry kind_sorted plain_sorted entry_sorted (args_sorted1 _) ?_
 unfold Builtin.«sorted»
 refine wpAny_bind (m:=checkCount "sorted" 1 1 _) (wpAny_pure ?_)
 refine wpAny_bind (tY hh ho hx hd hf (by unfold scanBound; omega) hg fun h' d' tk acc hk hlt hp=>?_)
 have hal:acc.length=es.size:=by rw[hp.length_eq]; simp
 have hI:StrsAre acc (acc.map jx):=sZ acc fun v hv=>by
  obtain⟨e,he,rfl⟩:=List.mem_map.mp (hp.mem_iff.mp hv)
  exact hint e he
 have hperm:(acc.map jx).Perm (es.toList.map ic):=by
  have:=hp.map jx
  rw[List.map_map]at this
  exact this
 refine wpAny_bind (wpAny_newList ?_ (by rw[hal,sizeLine_eq]; omega))
 have hoL:(h'.push (seqObj "list" acc.toArray 0)).get? h'.objs.size=some (seqObj "list" acc.toArray 0):=Heap.get?_push_size _ rfl
 show wpAny _ _ _ _ _ { s with heap:=h'.push (seqObj "list" acc.toArray 0),drawn:=d',toks:=tk }
 refine wpAny_bind (wpAny_holding (wpAny_call_entry slot_list_sort ⟨_,hoL,rfl⟩ entry_list_sort (list_sort_treeK strKind_oneLt hoL hI.keysOf (fun v₁ v₂ rest e=>keyKind_strs (by rw[← e]; exact hI)) (by omega) fun st' b1 b2=>⟨_,rfl,?_⟩) (args_list_sort _)))
 obtain⟨ns',a1,a2,a3⟩:=sorted_out_str hI b1 b2
 generalize (arrOf st').map (·.2)=out at a1 ⊢;obtain⟨c,hc⟩:=sortedHeap_at (out:=out) hoL
 refine wpAny_pure ⟨_,rfl,hQ _ d' tk h'.objs.size out c ns' (fun b o e=>?_) (Nat.le_of_lt hlt) hc a1 (a2.trans hperm) a3⟩
 have hb:=Heap.lt_size (hk b o e);rw[sortedHeap_old (Nat.ne_of_lt hb) (by rw[Heap.size_push]; exact Nat.lt_succ_of_lt hb)]
 exact Heap.get?_push_of_some _ (hk b o e)
end
section
variable{X:Cx}
end
section
variable{X:Cx}{c a b:Expr}{tA tB1 tB2:TT}{pos:Pos}
end
end L2
namespace L2
open PySem PySem.Spec PyProof.Rows PySem.SeqAt PySem.Builtin PySem.Builtin.Str PySem.StrLaws
section
variable{X:Cx}
end
end L2
namespace L2
open PySem PySem.Spec PyProof.Rows PySem.SeqAt PySem.Builtin PySem.Builtin.Str PySem.StrLaws
end L2
namespace L2
open PySem PySem.Spec PyProof.Rows
section
variable{X:Cx}
end
end L2
namespace L2
open PySem PySem.Spec PyProof.Rows
abbrev cC:=List (Option Int)
def MO(P:Program)(w:World):HeapKind P w (cC):=Al (dC P w) (show 0≤7 by decide)
def gz(P:Program)(w:World)(a:Addr)(xs:List (cC × Addr × Value)):HO:=
 .ext fun h=>∃ o es ep,h.get? a=some o∧o.ExactDict∧o.data = .dict es ep∧es.toList=xs.map (entryOfKey (MO P w))∧(xs.map (·.1)).Nodup
def KeyO(H:Hp)(k:cC)(b:Addr):Prop:=H b=some (.tup (k.map cT))
def ORow(H:Hp)(p:cC × V)(q:cC × Addr × Value):Prop:=q.1=p.1∧KeyO H p.1 q.2.1∧RelV p.2 q.2.2
def DO(P:Program)(w:World)(H:Hp)(a:Addr)(kvs:List (cC × V)):Prop:=
 ∃ xs,H a=some (gz P w a xs)∧(a == sysModules)=false∧xs.length≤sizeLine∧Paired (ORow H) kvs xs
theorem KeyO.mono{H H':Hp}{k:cC}{b:Addr}(h:KeyO H k b)(sm:∀ c xs,H c=some (.tup xs)→H' c=some (.tup xs)):KeyO H' k b:=by
 exact sm _ _ h
theorem DO.mono{P:Program}{w:World}{H H':Hp}{a:Addr}{kvs:List (cC × V)}(h:DO P w H a kvs)(sm:Same H H'):DO P w H' a kvs:=by
 obtain⟨xs,h1,h2,h3,h4⟩:=h
 exact⟨xs,sm _ _ h1,h2,h3,Paired.imp' (fun p q z=>⟨z.1,z.2.1.mono fun c ys e=>sm _ _ e,z.2.2⟩) h4⟩
section
variable{P:Program}{w:World}{H:Hp}
theorem ORow.val:∀ {kvs:List (cC × V)} {xs:List (cC × Addr × Value)} (k:cC),Paired (ORow H) kvs xs→RelO (aX kvs k) ((atKey xs k).map (·.2))
 | _,_,k,.nil=>True.intro
 | _,_,k,@Paired.cons _ _ _ p q kvs xs r t=>by
  have ih:=ORow.val k t;obtain⟨e1,e2,e3⟩:=r
  by_cases h:p.1=k
  ·have h1:aX (p::kvs) k=some p.2:=by simp[aX,h]
   have h2:atKey (q::xs) k=some q.2:=by simp[atKey,e1,h]
   rw[h1,h2]; exact e3
  ·have hn:¬ q.1=k:=fun z=>h (e1.symm.trans z)
   have h1:aX (p::kvs) k=aX kvs k:=by simp[aX,h]
   have h2:atKey (q::xs) k=atKey xs k:=by simp[atKey,hn]
   rw[h1,h2]; exact ih
end
section
variable{X:Cx}{pins:List (Addr × Obj)}{σ : St}{H:Hp}{s:Shared}{a b:Addr}{k:cC}{kvs:List (cC × V)}
theorem Inv.keyO(I:Inv X pins σ H s)(h:KeyO H k b):(MO X.prog X.w).is s.heap k b:=by
 obtain⟨_,its2,r2,o2,e2,c2,n2,d2⟩ : (k.map cT).length≤sizeLine∧∃ its:List Value,Vals (k.map cT) its∧IsTup s.heap b its.toArray:=by obtain⟨z,its,r,p⟩:=I.hok b _ h; exact⟨z,its,r,p.tup⟩
 exact⟨b,o2,_,n2,rfl,e2,c2,d2,by simpa using gg r2⟩
theorem Inv.dO(I:Inv X pins σ H s)(h:DO X.prog X.w H a kvs):∃ xs,H a=some (gz X.prog X.w a xs)∧(a == sysModules)=false∧xs.length≤sizeLine∧Paired (ORow H) kvs xs∧s.heap.DictOfH (MO X.prog X.w) a xs:=by
 obtain⟨xs,h1,h2,h3,h4⟩:=h
 obtain⟨⟨o,es,ep,e1,e2,e3,e4,e5⟩,_,_⟩:=I.hok a _ h1
 refine⟨xs,h1,h2,h3,h4,o,es,ep,e1,e2,e3,e4,?_,e5⟩
 have all:∀ {l:List (cC × V)} {m:List (cC × Addr × Value)},Paired (ORow H) l m→∀ x∈m,(MO X.prog X.w).is s.heap x.1 x.2.1:=by
  intro l m r
  induction r with
  | nil=>intro x hx; simp at hx
  | cons r t ih=>
   intro x hx
   rcases List.mem_cons.mp hx with rfl | hx
   ·rw[r.1]; exact I.keyO r.2.1
   ·exact ih x hx
 exact all h4
theorem kI{P:Program}{w:World}{H':Hp}{h':Heap}{xs:List (cC × Addr × Value)}(m:h'.DictOfH (MO P w) a xs):ObjOk P w H' h' a (gz P w a xs):=by
 obtain⟨o,es,ep,e1,e2,e3,e4,_,e5⟩:=m
 exact⟨⟨o,es,ep,e1,e2,e3,e4,e5⟩,⟨o,e1⟩,fun h1 h2 ⟨o,es,ep,q1,q⟩ z=>⟨o,es,ep,z _ q1,q⟩⟩
def sX(P:Program)(w:World):R2:=fun x y H Q=>∃ b a k kvs,x = .ref b∧y = .ref a∧DO P w H a kvs∧KeyO H k b∧Q (.bl (!(aX kvs k).isSome)) H
theorem vD{n:Nat}(hr:Room n X.A):OpR X (compareOp .NotIn) (sX X.prog X.w):=by
 intro pins s σ H x y v u Q I rx ry h
 obtain⟨b,a,k,kvs,rfl,rfl,hd,hk,q⟩:=h
 cases rx
 cases ry;obtain⟨xs,h1,h2,h3,h4,m⟩:=I.dO hd
 refine wpAny_notIn_heap (show (MO X.prog X.w).room X.A.in1 from by show X.A.units+1+1<cLine; have:=hr.un; omega) (I.keyO hk) h2 m ?_
 have e:=(ORow.val k h4).isSome_eq;rw[Option.isSome_map]at e
 rw[← e];exact⟨.bl _,H,I.tok _,rfl,q⟩
def zI(P:Program)(w:World):jg:=fun o i v H Q=>∃ a b k kvs,o = .ref a∧i = .ref b∧DO P w H a kvs∧KeyO H k b∧aX kvs k=none∧kvs.length<sizeLine∧∀ u,DO P w (upd H a u) a (kvs++[(k,v)])→Q (upd H a u)
theorem D1{n:Nat}(hr:Room n X.A):PSet X (zI X.prog X.w):=by
 intro pins s σ H o i v ov iv u Q I ro ri rv h
 obtain⟨a,b,k,kvs,rfl,rfl,hd,hk,hv,hl,q⟩:=h
 cases ro
 cases ri;obtain⟨xs,h1,h2,h3,h4,m⟩:=I.dO hd
 have hx:atKey xs k=none:=by
  have e:=ORow.val k h4;rw[hv]at e
  cases hq:atKey xs k with
  | none=>rfl
  | some p=>rw[hq]at e; exact e.elim
 refine wpAny_setItem_heap (hsz:=h3) (show (MO X.prog X.w).room X.A.in1 from by show X.A.units+1+1<cLine; have:=hr.un; omega) (I.keyO hk) m fun h' m' hs=>?_
 rw[storedH_new hx]at m'
 have keep:∀ c ys,H c=some (.tup ys)→upd H a (gz X.prog X.w a (xs++[(k,b,u)])) c=some (.tup ys):=fun c ys e=>by
  rw[am (gq e h1 (fun z=>nomatch z))]; exact e
 refine⟨upd H a (gz X.prog X.w a (xs++[(k,b,u)])),fH I (by rw[h1]; exact True.intro) hs (let ⟨o,_,_,e,_⟩:=m'; ⟨o,e⟩) (kI m'),q _ ⟨_,ar,h2,?_,?_⟩⟩
 ·rw[List.length_append,← Paired.length h4]
  show kvs.length+1≤sizeLine
  omega
 ·exact Paired.snoc ⟨rfl,hk.mono keep,rv⟩ (Paired.imp' (fun p q z=>⟨z.1,z.2.1.mono keep,z.2.2⟩) h4)
def lH(P:Program)(w:World)(td ty:TE):TE:=fun σ H Q=>td σ H fun x H1=>∃ a kvs,x = .ref a∧DO P w H1 a kvs∧ty σ H1 fun y H2=>∃ b k kvs',y = .ref b∧DO P w H2 a kvs'∧KeyO H2 k b∧Q ((aX kvs' k).getD .non) H2
theorem AV{n:Nat}(hr:Room n X.A){o e:Expr}{td ty:TE}{apos cpos:Pos}(ho:PE X o td)(he:PE X e ty)(m:M1 X o "get" apos e cpos):PE X (.Call (.Attribute o "get" apos) [e] [] cpos) (lH X.prog X.w td ty):=by
 intro pins s σ H Q I h
 refine wpAny_Call_method m.base m.few m.line PySem.F.plainAttrs_dict PySem.F.slot_dict_get PySem.F.type_dict_get (bq (ho pins s σ H _ I h) fun u s1 ⟨x,H1,I1,rx,a,kvs,ex,d,q1⟩=>?_)
 subst ex;obtain rfl:u=Value.ref a:=rx
 obtain⟨xs,h1,h2,h3,h4,mm⟩:=I1.dO d
 refine⟨mm.typeIs,fun b q=>?_,?_⟩
 ·cases q
  obtain⟨ob,_,_,g1,g2,_⟩:=mm
  exact⟨ob,g1,g2.2.1⟩
 rw[m.trees];refine Calls.callWith_builtin rfl (Calls.evalArgs_plain (Calls.spliced_cons (bq (he pins s1 σ H1 _ I1 q1) fun iv s2 ⟨y,H2,I2,ry,b,k,kvs',ey,d2,kk,q2⟩=>Calls.spliced_nil ?_)))
 subst ey;obtain rfl:iv=Value.ref b:=ry
 obtain⟨xs2,g1,g2,g3,g4,m2⟩:=I2.dO d2
 refine call_meetsIn PySem.F.slot_dict_get m2.typeIs PySem.F.entry_dict_get (PySem.F.args_dict_get_2 _ _) (meetsH_dict_get (MO X.prog X.w) a b g2) ⟨by show X.A.units+1+1<cLine; have:=hr.un; omega,k,xs2,I2.keyO kk,m2,?_⟩
 exact⟨_,H2,I2.tok _,(ORow.val k g4).getD (d:=V.non) (show RelV .non Value.none from rfl),q2⟩
def mi(P:Program)(w:World)(tk tv:TE):TE:=fun σ H Q=>∀ p,H p=none→∀ u,DO P w (upd H p u) p []→tk σ (upd H p u) fun y H1=>tv σ H1 fun z H2=>∃ b k,y = .ref b∧KeyO H2 k b∧DO P w H2 p []∧∀ u',DO P w (upd H2 p u') p [(k,z)]→Q (.ref p) (upd H2 p u')
theorem xM{n:Nat}(hr:Room n X.A){ek ev:Expr}{tk tv:TE}{pos:Pos}(hk:PE X ek tk)(hv:PE X ev tv):PE X (.Dict [some ek] [ev] pos) (mi X.prog X.w tk tv):=by
 intro pins s σ H Q I q
 have hn:=I.hok.fresh (Nat.le_refl s.heap.objs.size);have hm:(s.heap.push { cls:=.type "dict", data:=.dict #[] }).DictOfH (MO X.prog X.w) s.heap.objs.size []:=⟨_,#[],0,Heap.get?_push_size _ rfl,⟨rfl,rfl,rfl⟩,rfl,rfl,(fun x hx=>by simp at hx),List.nodup_nil⟩
 have I1:=I.laid (a:=s.heap.objs.size) (o:=gz X.prog X.w s.heap.objs.size []) (t':=s.toks) (fun _ _ q=>Heap.get?_push_of_some _ q) (Nat.le_refl _) (kI hm)
 have hD:DO X.prog X.w (upd H s.heap.objs.size (gz X.prog X.w s.heap.objs.size [])) s.heap.objs.size []:=⟨[],ar,beq_eq_false_iff_ne.mpr (Ne.symm (Nat.ne_of_lt I.big)),Nat.zero_le _,.nil⟩
 refine wpAny_Dict_any rfl rfl (by simp) (by simp) (pairTrees_cons_walk (bq (hk pins _ σ _ _ I1 (q _ hn _ hD)) fun u s1 ⟨x,H1,I1',rx,q1⟩=>bq (hv pins s1 σ H1 _ I1' q1) fun w2 s2 ⟨y,H2,I2,ry,b,k,ex,kk,d2,q2⟩=>pairTrees_nil_walk ?_))
 subst ex;obtain rfl:u=Value.ref b:=rx
 obtain⟨xs,h1,h2,h3,h4,m⟩:=I2.dO d2
 cases h4;unfold storeAll;rw[List.forIn_cons];refine wpAny_bind (wpAny_bind (wpAny_dictSet_heap (knd:=MO X.prog X.w) (k:=k) (xs:=[]) (hsz:=Nat.zero_le _) (show (MO X.prog X.w).room X.A from by show X.A.units+1<cLine; have:=hr.un; omega) (I2.keyO kk) m fun h' m' hs=>wpAny_pure ?_))
 dsimp only
 rw[List.forIn_nil];refine wpAny_pure ?_
 have keep:∀ c ys,H2 c=some (.tup ys)→upd H2 s.heap.objs.size (gz X.prog X.w s.heap.objs.size [(k,b,w2)]) c=some (.tup ys):=fun c ys e=>by
  rw[am (gq e h1 (fun z=>nomatch z))]; exact e
 have m2:h'.DictOfH (MO X.prog X.w) s.heap.objs.size [(k,b,w2)]:=m'
 exact⟨.ref s.heap.objs.size,upd H2 s.heap.objs.size (gz X.prog X.w s.heap.objs.size [(k,b,w2)]),fH I2 (by rw[h1]; exact True.intro) hs (let ⟨o,_,_,e,_⟩:=m2; ⟨o,e⟩) (kI m2),rfl,q2 _ ⟨_,ar,h2,by rw[sizeLine_eq]; simp,.cons ⟨rfl,kk.mono keep,ry⟩ .nil⟩⟩
end
end L2
namespace L2
open PySem PySem.Spec PyProof.Rows
def pK(P:Program)(w:World):im:=fun outer H s E e s'=>
 ∃ (H':Hp) (hR:Heap) (a:Addr) (C a0:Value) (fl:List Addr),e = .ref a∧s'.os=s.os∧AllBare s'.gens∧
  Un (eD outer) [] H H' s.heap hR∧HOk P w H' hR∧(∀ b∈fl,H' b=none∧(b∈eD outer∨s.heap.get? b=none))∧(∀ b∈eD outer,b∈fl)∧
  Heap.FlyingW (PySem.W.hideAll hR fl) outer a C a0 s'.heap∧hR.UpToSlots s'.heap∧E C none H'
theorem kG{P:Program}{w:World}{H:Hp}{h h':Heap}{fl:List Addr}(x:HOk P w H h)(hf:∀ b∈fl,H b=none)(k:(PySem.W.hideAll h fl).StaysIn h'):HOk P w H h':=fun a o e=>by
 refine(x a o e).stay (fun b u hb q=>k b u (PySem.W.hideAll_get _ q fun z=>?_)) (fun _ q=>q) fun _ _ q=>q
 have:=hf b z
 rcases hb with rfl | hb
 ·rw[e]at this; cases this
 ·rw[hb]at this; cases this
theorem A2{P:Program}{w:World}{H:Hp}{h:Heap}{fl:List Addr}{a:Addr}(x:HOk P w H h)(hf:∀ b∈fl,H b=none)(n:(PySem.W.hideAll h fl).get? a=none):H a=none:=by
 cases q:H a with
 | none=>rfl
 | some o=>
  exfalso
  have y:ObjOk P w H (PySem.W.hideAll h fl) a o:=kG x hf (fun b o z=>z) a o q
  have:∃ ob,(PySem.W.hideAll h fl).get? a=some ob:=by
   cases o with
   | lst xs=>obtain⟨_,_,_,_,e⟩:=y; exact⟨_,e⟩
   | tup xs=>obtain⟨_,_,_,ob,e,_⟩:=y; exact⟨_,e⟩
   | dK kvs=>obtain⟨_,_,_,_,o,_,_,e,_⟩:=y; exact⟨_,e⟩
   | dT kvs=>obtain⟨_,_,_,_,o,_,_,e,_⟩:=y; exact⟨_,e⟩
   | set S n=>obtain⟨o,_,_,_,e,_⟩:=y; exact⟨_,e⟩
   | ins C dx fs=>obtain⟨_,_,_,e,_⟩:=y; exact⟨_,e⟩
   | own y'=>obtain⟨_,e⟩:=y; exact⟨_,e⟩
   | xd fs=>obtain⟨_,⟨_,_,_,e,_⟩,_⟩:=y; exact⟨_,e⟩
   | rng lo hi=>obtain⟨t,u,v,e⟩:=y; exact⟨_,e⟩
   | frz ob u=>exact⟨_,y.1⟩
   | tbl ps=>exact⟨_,y⟩
   | met f z=>exact⟨_,y⟩
   | ext φ=>exact y.2.1
  obtain⟨ob,e⟩:=this
  rw[n]at e; cases e
theorem v0{P:Program}{w:World}{fs:List Addr}{H H':Hp}{h hR h':Heap}{fl:List Addr}(u:Un fs [] H H' h hR)(hf:∀ b∈fl,H' b=none∧(b∈fs∨h.get? b=none))(hs:∀ b∈fs,b∈fl)
  (nf:∀ b∈fs,H b=none∧∃ o,h.get? b=some o∧∀ vs,o.data ≠ .fields vs) (k:(PySem.W.hideAll hR fl).StaysIn h') (sl:hR.UpToSlots h'):Un fs [] H H' h h':=by
 have nfl:∀ b o,h.get? b=some o→b∉fs→b∉fl:=fun b o q hb z=>by
  rcases(hf b z).2 with y | y
  ·exact hb y
  ·rw[q]at y; cases y
 refine⟨fun b o q n hb hx=>k b o (PySem.W.hideAll_get _ (u.keep b o q n hb hx) (nfl b o q hb)),fun b o q n hb hx=>?_,u.free,fun b o q hx=>?_,u.tups,u.frzs,u.tbls⟩
 ·obtain⟨s1,e1⟩:=u.slot b o q n hb hx
  obtain⟨_,o',e',nd⟩:=nf b hb
  rw[q]at e'; cases e'
  obtain⟨s2,e2⟩:=sl b _ e1 nd
  exact⟨s2,e2⟩
 ·by_cases hb:b∈fs
  ·obtain⟨n,o',e',nd⟩:=nf b hb
   rw[q]at e'; cases e'
   obtain⟨s1,e1⟩:=u.slot b o q n hb hx
   obtain⟨s2,e2⟩:=sl b _ e1 nd
   exact⟨_,e2⟩
  ·obtain⟨o',e⟩:=u.there b o q hx
   exact⟨o',k b o' (PySem.W.hideAll_get _ e (nfl b o q hb))⟩
structure Lv (X:Cx) (E:XK):Prop where
 st:X.stack=X.env::X.outer
 fr:X.env.frame=some X.env.locals
 ex:X.ex=[]
 calm:X.calm=true
 xe:∀ e s',wpAny (model X.prog X.w) X.A (leaving X.env e) (fun _ s''=>pK X.prog X.w X.outer X.H₀ X.s₀ E e s'') (fun e' s''=>pK X.prog X.w X.outer X.H₀ X.s₀ E e' s'') s'→X.xe e s'
theorem jA{P:Program}{w:World}{K:PySem.W.Frag}{mg:Str→Option Value}{base:Heap}{N:List Str}{qual:Str}{scope:Scope}{f:Addr}{cd:Value}{A:Around}{outer:List Env}{s:Shared}{H:Hp}{E:XK} :
  Lv (ie (pK P w) P w K mg base N qual scope f cd A outer s H E) E:=⟨rfl,rfl,rfl,rfl,fun _ _ h=>h⟩
section
variable{X:Cx}{E:XK}{x:Str}{C:Addr}{bmB:List Value}{B newId initId:String}{np cpos pos:Pos}{e:Expr}{es:List Expr}{t:TA}
def qH(C:Addr)(E:XK)(ta:TA):TS:=fun _ σ H=>ta σ H fun vs H1=>vs.length≤sizeLine∧E (.ref C) none H1
theorem Lv.sub(L:Lv X E){b:Addr}(h:b∈eD X.outer):b∈eD X.stack:=by
 rw[L.st]; unfold eD; rw[List.filterMap_cons,L.fr]; exact List.mem_cons_of_mem _ h
theorem yO(L:Lv X E)(O:OwnCls x C bmB newId X.mg X.base)(FB:ExcBaseFacts B newId initId bmB)(ha:PA X (e::es) t)(hg:Gl X x:=by first | exact vGg (by decide +kernel) | rfl)(hd:(x == ("__debug__" : Str))=false:=by decide)
  (he:starEach (e::es) X.env=(false,eval e X.env)::starEach es X.env:=by rfl) (hpl:(backTo cpos (starEach es X.env)).any (·.1)=false:=by rfl) :
  PS X (.Raise (some (.Call (.Name x np) (e::es) [] cpos)) none pos) (qH C E t):=by
 intro pins s σ H D I h
 obtain⟨tl,N,nm,q,bs,hdct,sn,sub,ab,col,dd,k0,k1,k2,k3,k5,mN,hC,hN,hni,T⟩:=O.obj
 refine wpAny_Raise_call_subT (C:=C) (nm:=nm) (q:=q) (N:=N) (bs:=bs) (bm:=tl) (hdct:=hdct) (sn:=sn) (sub:=sub) (ab:=ab) (col:=col) (dd:=dd) (k0:=k0) (k1:=k1) (k2:=k2) (k3:=k3) (k5:=k5)
  FB (mN:=mN) (T.hasType FB.hasBase) (I.ok.hd L.calm) (by rw[he]; show (false||(backTo cpos (starEach es X.env)).any (·.1))=false; rw[hpl]; rfl) hni (fN I hg O.bound ⟨rfl,?_⟩ hd)
 have h0:=ha cpos pins s σ H _ I h;rw[he]at h0 ⊢
 refine Calls.evalArgs_plain (wpAny_mono h0 (fun us s₂ ⟨vs,H2,I2,r,z,q⟩=>⟨rfl,(by rw[← r.length]; exact z),I2.bk _ _ hC,hN.keeps I2.bk,T.keeps I2.bk,fun h' a hm=>L.xe _ _ ?_⟩) fun _ _ y=>y)
 have hin:∀ env∈(X.env::X.outer),∀ b,env.frame=some b→b∈eD X.stack:=fun env hm b hb=>by
  rw[L.st]; exact List.mem_filterMap.mpr ⟨env,hm,hb⟩
 have hfr:=I2.stack;rw[L.st]at hfr
 refine wpAny_leaves_madeW (base:=PySem.W.hideAll s₂.heap (eD X.stack)) (by rw[I.ok.frames,L.st]) L.fr (fun b o q=>PySem.W.of_hideAll _ q) (PySem.W.funFrames_hide hfr hin) hm fun h'' t0 x1 x2 x3 x4=>?_
 refine⟨H2,s₂.heap,a,.ref C,.ref t0,eD X.stack,rfl,I2.os,I2.bare,(by have:=I2.base; rw[L.ex]at this; exact this),I2.hok,fun b hb=>⟨I2.stkFree b hb,?_⟩,fun b hb=>L.sub hb,x1,(Heap.UpToSlots.of_keeps hm.keeps).trans x4,q⟩
 rcases List.mem_cons.mp (I2.stkSub b hb) with rfl | hb
 ·exact .inr (Heap.get?_none_of_le I2.ok.above)
 ·exact .inl hb
theorem DX(L:Lv X E){E':XK}(hE:∀ C a H,E' C a H→E C a H):kW (pK X.prog X.w) X E':=by
 intro pins σ H s e s' I h
 obtain⟨H',hR,a,C,a0,fl,rfl,os,bare,un,hok,hf,hs,fly,sl,q⟩:=h
 refine L.xe _ _ ?_
 have J:Inv X pins σ H' { s' with heap:=hR }:=I.call' (ch:=[]) os un hok bare (fun b z=>absurd z (by simp))
 rw[L.st]at fly
 refine wpAny_leaves_onW (by rw[I.ok.frames,L.st]) L.fr fly fun h'' x1 x2=>?_
 refine⟨H',hR,a,C,a0,fl,rfl,J.os,bare,(by have:=J.base; rw[L.ex]at this; exact this),hok,fun b hb=>⟨(hf b hb).1,?_⟩,fun b hb=>hs b (L.sub hb),x1,sl.trans x2,hE _ _ _ q⟩
 rcases(hf b hb).2 with z | z
 ·rcases List.mem_cons.mp (I.stkSub b z) with rfl | z
  ·exact .inr (Heap.get?_none_of_le I.ok.above)
  ·exact .inl z
 ·refine .inr ?_
  cases y:X.s₀.heap.get? b with
  | none=>rfl
  | some o=>
   obtain⟨o',y'⟩:=I.base.there b o y (by rw[L.ex]; simp)
   rw[z]at y'; cases y'
end
structure eP (P:Program) (w:World) (K:PySem.W.Frag) (mg:Str→Option Value) (base:Heap) (k:Nat) (x:Str) (ps:List Str) (sp:Sp):Prop where
 ex:∃ f fd,FnOk P w K mg base (pK P w) k f fd ps sp∧Binds K fd ps []∧PySem.W.keepIn K (.ref f)=true∧mg x=some (.ref f)
section
variable{P:Program}{w:World}{K:PySem.W.Frag}{mg:Str→Option Value}{base:Heap}
theorem DefAt.calX{x:Str}{st:Stmt}{N ps:List Str}{k:Nat}{sp:Sp}(D:DefAt K mg x st)(S:aU N ps (defScope st))
  (hb:∀ (kV doc pm:Value) (an:Option Addr) (cdv ct:Value) (us:List Value),us.length=ps.length→bindArgs (PySem.W.fnOf x x (defArgs st) (defBody st) (defScope st) .none kV doc pm an cdv ct) ⟨us,[]⟩=pure (ps.zip us))
  (len:∀ vs H Q E,sp vs H Q E→vs.length=ps.length)
  (hbody:∀ (f:Addr) (cdv:Value) (A:Around) (outer:List Env) (s:Shared) (H:Hp) (vs:List V) (Q:VK) (E:XK),Room k (A.deeper (envOfC x (defScope st) s.heap.objs.size f cdv))→sp vs H Q E→
   ∃ t,PSs (ie (pK P w) P w K mg base N x (defScope st) f cdv A outer s H E) (defBody st) t∧t { nx:=fun _ H'=>Q .non H',rt:=Q } (start N vs) H):eP P w K mg base (k+1) x ps sp:=by
 obtain⟨f,fd,F,m⟩:=D.ex
 have fb:=F.binds hb;have kp:=F.kp;obtain⟨oc,od,kV,doc,pm,an,cdv,ct,osl,rfl,lk,hcd⟩:=F.ex
 exact⟨f,_,Aq lk hcd S len fun A outer s H vs Q E hr hsp=>hbody f cdv A outer s H vs Q E hr hsp,fb,kp,m⟩
end
section
variable{X:Cx}
theorem jK{E E':XK}{j k:Nat}{x:Str}{ps:List Str}{sp:Sp}{p pos:Pos}{e:Expr}{es:List Expr}{t:TA}(L:Lv X E)(c:eP X.prog X.w X.K X.mg X.base j x ps sp)(hE:∀ C a H,E' C a H→E C a H)(hr:Room k X.A)(ha:PA X (e::es) t)(hle:j≤k:=by decide)(hg:Gl X x:=by first | exact vGg (by decide +kernel) | rfl)
  (hdb:(x == ("__debug__" : Str))=false:=by decide) (he:starEach (e::es) X.env=(false,eval e X.env)::starEach es X.env:=by rfl) (hpl:(backTo pos (starEach es X.env)).any (·.1)=false:=by rfl) :
  PE X (.Call (.Name x p) (e::es) [] pos) (iO sp [] E' t):=by
 obtain⟨f,fd,F,b,kp,m⟩:=c.ex
 exact sy F (hr.mono hle) hg m kp b .nil (DX L hE) ha hdb he hpl
end
def XA(X:Cx)(Ee:XK)(pins:List (Addr × Obj))(σ : St):Value→Shared→Prop:=fun e s'=>∃ H0 s0,Inv X pins σ H0 s0∧pK X.prog X.w X.stack H0 s0 Ee e s'
def Er(X:Cx)(Ee:XK)(e:Expr)(t:TE):Prop:=
 ∀ (pins:List (Addr × Obj)) (s:Shared) (σ : St) (H:Hp) (Q:VK),Inv X pins σ H s→t σ H Q→wpAny (model X.prog X.w) X.A (eval e X.env) (EP X pins σ Q) (XA X Ee pins σ) s
def BZ(X:Cx)(Ee:XK)(st:Stmt)(t:TS):Prop:=
 ∀ (pins:List (Addr × Obj)) (s:Shared) (σ : St) (H:Hp) (D:db),Inv X pins σ H s→t D σ H→wpAny (model X.prog X.w) X.A (exec st X.env) (SP X pins D) (XA X Ee pins σ) s
def uY(X:Cx)(Ee:XK)(st:List Stmt)(t:TS):Prop:=
 ∀ (pins:List (Addr × Obj)) (s:Shared) (σ : St) (H:Hp) (D:db),Inv X pins σ H s→t D σ H→wpAny (model X.prog X.w) X.A (execs st X.env) (SP X pins D) (XA X Ee pins σ) s
section
variable{X:Cx}{Ee:XK}
theorem mh{j k:Nat}{x:Str}{ps:List Str}{sp:Sp}{p pos:Pos}{e:Expr}{es:List Expr}{t:TA}(c:eP X.prog X.w X.K X.mg X.base j x ps sp)(hr:Room k X.A)(ha:PA X.nox (e::es) t)(hle:j≤k:=by decide)(hg:Gl X x:=by first | exact vGg (by decide +kernel) | rfl)
  (hdb:(x == ("__debug__" : Str))=false:=by decide) (he:starEach (e::es) X.env=(false,eval e X.env)::starEach es X.env:=by rfl) (hpl:(backTo pos (starEach es X.env)).any (·.1)=false:=by rfl) :
  Er X Ee (.Call (.Name x p) (e::es) [] pos) (iO sp [] Ee t):=by
 obtain⟨f,fd,F,b,kp,m⟩:=c.ex
 intro pins s σ H Q I h
 refine wpAny_Call_Name_kw (fN I hg m ?_ hdb)
 refine PySem.W.callWith_K (h₀:=X.base) I.ok.mod.kin kp (wpAny_mono (ha pos pins s σ H _ (I.wish _) h) (fun us s1 ⟨vs,H1,I1,r,q⟩=>⟨I1.kIn,?_⟩) fun _ _ z=>False.elim z) he hpl
 have I1:=I1.unwish;have q:sp vs H1 Q Ee:=by have:=q; simp only[List.append_nil]at this; exact this
 have hl:us.length=ps.length:=by rw[← r.length]; exact F.len _ _ _ _ q
 have hb:=b s1 us I1.kIn (by rw[List.append_nil]; exact hl)
 rw[List.append_nil]at hb
 refine wpAny_call (codeAny_mono (F.run X.A X.stack s1 H1 ⟨us,[]⟩ us vs Q Ee (hr.mono hle) I1.env0 hb r q) fun r s' hq=>?_)
 cases r with
 | error e=>exact⟨H1,s1,I1,hq⟩
 | ok fl=>
  cases fl with
  | ret u=>exact I1.after hq
  | next=>exact False.elim hq
  | brk=>exact False.elim hq
  | cont=>exact False.elim hq
theorem ph(i:Nat){x:Str}{e:Expr}{te:TE}{pos pos':Pos}(hN:X.N.Nodup)(he:Er X Ee e te)(hi:X.N[i]? = some x:=by rfl)(hx:bb X.env.scope x:=by first | exact vLl (by decide +kernel) | exact Or.inl rfl)(hs:swapsWith e (some (.Name x pos')) pos.line X.env=pure false:=by rfl)
  (hf:X.fn x=true∨X.env.scope.names.lookup x=some .local:=by first | exact .inl rfl | exact .inr rfl | assumption):BZ X Ee (.Assign [.Name x pos'] e pos) (mH te (gw i)):=by
 intro pins s σ H D I h
 refine wpAny_Assign_Name (bq (he pins s σ H _ I h) fun v s1 ⟨y,H1,I1,r1,q1⟩=>?_) hs
 exact iZ I1 hN hi hx r1 (fun s2 I2=>⟨_,H1,I2,q1⟩) hf
theorem Ah{c:Expr}{a b:List Stmt}{tc:TT}{t u:TS}{pos:Pos}(hc:PT X.nox c tc)(ha:uY X Ee a t)(hb:uY X Ee b u):BZ X Ee (.If c a b pos) (yG tc t u):=by
 intro pins s σ H D I h
 refine wpAny_If (wpAny_mono (hc pins s σ H _ (I.wish _) h) (fun d s1 ⟨H1,I1,q1⟩=>?_) fun _ _ z=>False.elim z)
 cases d with
 | true=>exact ha pins s1 σ H1 D I1.unwish q1
 | false=>exact hb pins s1 σ H1 D I1.unwish q1
theorem iw{st:Stmt}{t:TS}(h:BZ X Ee st t):uY X Ee [st] t:=by
 intro pins s σ H D I h'
 refine wpAny_execs_cons (bq (h pins s σ H D I h') fun f s1 q=>?_)
 cases f with
 | next=>exact wpAny_execs_nil q
 | ret v=>exact q
 | brk=>exact q
 | cont=>exact q
end
abbrev Cx.held (X:Cx) (a:Addr):Cx:={ X with A:=X.A.mark (some (.ref a)),calm:=false,xe:=fun _ _=>False }
section
variable{X:Cx}{pins:List (Addr × Obj)}{σ : St}{H:Hp}{s:Shared}
theorem Inv.held(I:Inv X pins σ H s)(a:Addr):Inv (X.held a) pins σ H s:=
 ⟨⟨I.ok.mod,I.ok.kind,I.ok.glob,I.ok.blt,I.ok.above,I.ok.inj,I.ok.has,I.ok.cab,fun z=>Bool.noConfusion (show false=true from z),I.ok.frames,I.ok.stk,I.ok.exf,I.ok.bs,I.ok.bsz,I.ok.noex,I.ok.exfs,I.ok.funs,I.ok.frf⟩,I.os,I.bare,I.base,I.loc,I.cell,I.free,I.freeC,I.pin,I.hok,I.len⟩
theorem Inv.unheld{a:Addr}(I:Inv (X.held a) pins σ H s)(ok:X.Ok):Inv X pins σ H s:=⟨ok,I.os,I.bare,I.base,I.loc,I.cell,I.free,I.freeC,I.pin,I.hok,I.len⟩
theorem Inv.track{a:Addr}{o:HO}(I:Inv X pins σ H s)(hn:H a=none)(h0:∀ b ob,X.s₀.heap.get? b=some ob→b≠a)(hl:X.env.locals≠a)(hc:∀ x c,X.env.cells.lookup x=some c→c≠a)
  (hp:∀ p∈X.pn++pins,p.1≠a) (ok:ObjOk X.prog X.w (upd H a o) s.heap a o) (hx:X.ex=[]):Inv X pins σ (upd H a o) s:=by
 refine⟨I.ok,I.os,I.bare,⟨I.base.keep,I.base.slot,fun b ob q n z=>?_,I.base.there,fun b xs q=>?_,fun b ob xs q=>?_,fun b ps q=>?_⟩,I.loc,I.cell,?_,fun x c q=>?_,fun p hm=>?_,fun b ob q=>?_,I.len⟩
 ·rw[am (h0 b ob q)]; exact I.base.free b ob q n z
 ·have:=I.base.tups b xs q; rw[am (aF this hn)]; exact this
 ·have:=I.base.frzs b ob xs q; rw[am (aF this hn)]; exact this
 ·obtain⟨m,e⟩:=I.base.tbls b ps q; exact⟨m,by rw[am (aF e hn)]; exact e⟩
 ·rw[am hl]; exact I.free
 ·rw[am (hc x c q)]; exact I.freeC x c q
 ·obtain⟨e1,e2,e3⟩:=I.pin p hm
  exact⟨e1,by rw[am (hp p hm)]; exact e2,e3⟩
 ·by_cases e:b=a
  ·subst e; rw[show upd H b o b=some o from if_pos rfl]at q; cases q; exact ok
  ·rw[am e]at q
   exact(I.hok b ob q).stay (fun _ _ _ z=>z) (fun c z=>by rw[am (aF z hn)]; exact z) fun c xs z=>by rw[am (aF z hn)]; exact z
theorem Inv.goes{i:Nat}{x:Str}{v:Option Value}{h':Heap}{m:Str→Option Value}{t':Nat}(I:Inv X pins σ H s)(hN:X.N.Nodup)(hi:X.N[i]? = some x)(hk:X.env.kindOf x=some .local)
  (hl:∀ (i:Nat) (x:Str) (v:V),X.N[i]? = some x→σ[i]? = some (some v)→au X.env.scope x→∃ u,RelV v u∧Ci X.env s.heap m x u)
  (hn':h'.Ns X.env.locals (fun y=>if y=x then v else m y)) (hn:s.heap.Ns X.env.locals m) (hs:Heap.SameBut X.env.locals s.heap h'):Inv X pins (σ.set i none) H { s with heap:=h',toks:=t' }:=by
 have cne:=I.cne;have neL:∀ b o,X.s₀.heap.get? b=some o→b≠X.env.locals:=fun b o e=>Nat.ne_of_lt (Nat.lt_of_lt_of_le (Heap.lt_size e) I.ok.above)
 have hiσ : i<σ.length:=by rw[I.len]; exact(List.getElem?_eq_some_iff.mp hi).1
 refine⟨I.ok,I.os,I.bare,⟨fun b o e n hb hx=>?_,fun b o e n hb hx=>?_,I.base.free,fun b o e hx=>?_,I.base.tups,I.base.frzs,I.base.tbls⟩,⟨_,hn',fun j y v' e1 e2 e3=>?_⟩,fun y c e=>?_,I.free,I.freeC,fun p hp=>?_,fun b ob e=>?_,by simpa using I.len⟩
 ·exact(hs.2 b (neL b o e)).trans (I.base.keep b o e n hb hx)
 ·obtain⟨sl,e1⟩:=I.base.slot b o e n hb hx
  exact⟨sl,(hs.2 b (neL b o e)).trans e1⟩
 ·obtain⟨o',e1⟩:=I.base.there b o e hx
  exact⟨o',(hs.2 b (neL b o e)).trans e1⟩
 ·by_cases hj:j=i
  ·subst hj
   rw[List.getElem?_set_self hiσ]at e2
   cases e2
  ·rw[List.getElem?_set_ne (Ne.symm hj)]at e2
   obtain⟨u',r',q⟩:=hl j y v' e1 e2 e3
   refine⟨u',r',?_⟩
   rcases q with ⟨k,e⟩ | ⟨k,c,e,z⟩
   ·refine .inl ⟨k,?_⟩
    have:y≠x:=fun e=>hj (kA hN e1 (e ▸ hi))
    simp[this,e]
   ·exact .inr ⟨k,c,e,z.sameBut hs (cne y c e)⟩
 ·obtain⟨w',z⟩:=I.cell y c e
  exact⟨w',z.sameBut hs (cne y c e)⟩
 ·obtain⟨e,n,ne,nf,d⟩:=I.pin p hp
  exact⟨(hs.2 p.1 ne).trans e,n,ne,nf,d⟩
 ·refine(I.hok b ob e).stay (fun c w' hc q=>(hs.2 c ?_).trans q) (fun _ q=>q) fun _ _ q=>q
  rintro rfl
  have hfree:=I.free;rcases hc with rfl | hc
  ·rw[hfree]at e; cases e
  ·rw[hfree]at hc; cases hc
end
abbrev rU (a:Addr) (C:Value):HO:=.ext fun h=>∃ o,h.get? a=some o∧o.cls=C
section
variable{X:Cx}{x n:Str}{C:Addr}{bmB:List Value}{B newId initId:String}{np hp pos:Pos}{body suite:List Stmt}{b₀ : Stmt}{tb:XK→TS}{th:TS}{rest:List ExceptHandler}
end
end L2
namespace L2
open PySem PySem.Spec PyProof.Rows
def oz(K:PySem.W.Frag)(bmB:List Value):List Value→Bool
 | []=>bmB == []
 | v::r=>(v::r) == bmB||match v with
  | .ref A=>(match K.lookup A with
   | some ⟨_,_,.cls cd,_⟩=>PySem.W.nsOkIn K cd.ns&&quietNames.all (fun n=>PySem.W.nsIn K cd.ns n == some none)&&oz K bmB r
   | _=>false)
  | _=>false
theorem oI{K:PySem.W.Frag}{h:Heap}{bmB:List Value}(X:K.In h):∀ {l:List Value},oz K bmB l=true→OwnTailQ h bmB l
 | [],e=>by rw[← beq_iff_eq.mp e]; exact .base
 | v::r,e=>by
  unfold oz at e;rcases Bool.or_eq_true_iff.mp e with q | q
  ·rw[beq_iff_eq.mp q]; exact .base
  ·split at q
   ·split at q
    ·rename_i ho
     rw[Bool.and_eq_true,Bool.and_eq_true]at q
     exact .own (X _ _ ho) (.of_isNs (PySem.W.isNs_of_in X q.1.1)) (fun n hn=>PySem.W.nsMap_none_of_in X q.1.1 (beq_iff_eq.mp (List.all_eq_true.mp q.1.2 n hn))) (oI X q.2)
    ·cases q
   ·cases q
def lX(K:PySem.W.Frag)(C:Addr)(bmB:List Value)(newId:String):Bool:=match K.lookup C with
 | some ⟨.type "type", _,.cls cd,sl⟩=>(match cd.mro,sl.toList with
  | .ref C'::bm,[_,_,_,_,some (.builtin n),_]=>C' == C&&n == newId && !cd.hasDel&&oz K bmB bm&&PySem.W.nsOkIn K cd.ns&&quietNames.all fun n=>PySem.W.nsIn K cd.ns n == some none
  | _,_=>false)
 | _=>false
theorem gG{K:PySem.W.Frag}{h:Heap}{mg:Str→Option Value}{x:Str}{C:Addr}{bmB:List Value}{newId:String}(X:K.In h)(m:mg x=some (.ref C))(q:lX K C bmB newId=true):OwnClsQ x C bmB newId mg h:=by
 refine⟨m,?_⟩
 unfold lX at q;split at q
 ·rename_i dd cd sl ho
  split at q
  ·rename_i C' bm k0 k1 k2 k3 n k5 hm hs
   simp only[Bool.and_eq_true,beq_iff_eq,Bool.not_eq_true']at q
   obtain⟨⟨⟨⟨⟨rfl,rfl⟩,hdel⟩,ht⟩,hok⟩,hni⟩:=q
   obtain⟨nm,bs,mro,ns,qn,hd,sn,sub,ab,col,del⟩:=cd
   dsimp only at hm hdel hok hni
   subst hm hdel
   have hsl:sl = #[k0,k1,k2,k3,some (.builtin n),k5]:=by
    obtain⟨l⟩:=sl
    simp only at hs
    rw[hs]
   subst hsl;exact⟨bm,ns,nm,qn,bs,hd,sn,sub,ab,col,dd,k0,k1,k2,k3,k5,_,X _ _ ho,.of_isNs (PySem.W.isNs_of_in X hok),fun n hn=>PySem.W.nsMap_none_of_in X hok (beq_iff_eq.mp (List.all_eq_true.mp hni n hn)),oI X ht⟩
  ·cases q
 ·cases q
section
variable{prog:Program}{w:World}{A:Around}{E:Value→Shared→Prop}{h:Heap}{g:Array GenState}{d:Drawn}{t:Nat}{os:OsState}{a:Addr}{o:Obj}{K:PySem.W.Frag}
 {x:Str} {C:Addr} {bmB:List Value} {B newId:String} {mg:Str→Option Value}
theorem oq{R:Result→Shared→Prop}(X:K.In h)(hx:h.get? a=some o)(hc:o.cls = .ref C)(hm:PySem.W.subIn K (.ref C) (.type "object")=some true) (hq:R (.ok (.ret (.ref C))) ⟨h,g,d,t,os⟩) :
  codeAny (model prog w) A (.call (.builtin "getset_descriptor.__get__") ⟨[.builtin "object.__class__", .ref a,.ref C],[]⟩) R ⟨h,g,d,t,os⟩:=by
 have hT5:(⟨h,g,d,t,os⟩ : Shared).TypeIs (.builtin "object.__class__") "getset_descriptor" := F.typeOf_object_class
 have f8:PySem.W.Looks (model prog w) h (isSubtype (.ref C) (.type (".".intercalate ("object.__class__".cutAt '.').dropLast))) true:=by
  rw[F.owner_object_class]; exact PySem.W.looks_subIn X hm
 refine codeAny_call_builtin F.slot_gs_get.plain F.entry_gs_get (F.slot_gs_get.check _ _ _ _ _ _ _ _ hT5 (F.args_gs_get _ _ _) ?_)
 repeat (any_goals (first | assumption | (with_reducible refine wpAny_loadPart_at hx ?_; rw[hc]) | with_reducible refine PySem.W.Looks.at f8 ?_ | wp_step))
 refine⟨Code.quiet_builtin _ (by decide +kernel),codeAny_builtin F.entry_object_class ?_⟩
 repeat (any_goals (first | assumption | (with_reducible refine wpAny_loadPart_at hx ?_; rw[hc]) | wp_step))
theorem lO{tk:Tok}{Q:Fin→Shared→Prop}(X:K.In h)(hx:h.get? a=some o)(hc:o.cls = .ref C)(hm:PySem.W.subIn K (.ref C) (.type "object")=some true) (hf:PySem.W.findIn K (.ref C) "__class__" = some (some (.builtin "object.__class__")))
  (hq:Q (.done (.ret (.ref C))) ⟨h,g,d,t,os⟩) :
  wpAny (model prog w) A (Builtin.«object.__getattribute__» ⟨[.ref a,.str "__class__" tk],[]⟩) Q E ⟨h,g,d,t,os⟩:=by
 have hT5:(⟨h,g,d,t,os⟩ : Shared).TypeIs (.builtin "object.__class__") "getset_descriptor" := F.typeOf_object_class
 have f4:PySem.W.Looks (model prog w) h _ _:=PySem.W.looks_findIn X hf
 have f5:=F.typeOf_object_class;have f6:=F.slot_gs_get.lookup;have f7:=F.slot_gs_set.lookup
 repeat (any_goals (first | assumption | (with_reducible refine wpAny_loadPart_at hx ?_; rw[hc]) | with_reducible refine PySem.W.Looks.at f4 ?_ | wp_step))
 refine oq X hx hc hm ?_
 repeat (any_goals (first | assumption | wp_step))
theorem mK{tk:Tok}{R:Result→Shared→Prop}(X:K.In h)(O:OwnClsQ x C bmB newId mg h)(FB:ExcAttrBase B bmB)(hx:h.get? a=some o)(hc:o.cls = .ref C)(hm:PySem.W.subIn K (.ref C) (.type "object")=some true) (hf:PySem.W.findIn K (.ref C) "__class__" = some (some (.builtin "object.__class__")))
  (hq:R (.ok (.ret (.ref C))) ⟨h,g,d,t,os⟩):codeAny (model prog w) A (.call (.builtin "BaseException.__getattribute__") ⟨[.ref a,.str "__class__" tk],[]⟩) R ⟨h,g,d,t,os⟩:=by
 obtain⟨bm,N,nm,q,bs,hdct,sn,sub,ab,col,dd,k0,k1,k2,k3,k5,mN,hC,hN,hmN,T⟩:=O.obj
 exact codeAny_call_builtin FB.ga.plain F.entry_bexc_ga (wpAny_check_ga_own FB hC T hx hc (lO X hx hc hm hf hq))
theorem ql{tk:Tok}{fill expr:Bool}{Q:Value→Shared→Prop}(X:K.In h)(O:OwnClsQ x C bmB newId mg h)(FB:ExcAttrBase B bmB)(hx:h.get? a=some o)(hc:o.cls = .ref C)(hm:PySem.W.subIn K (.ref C) (.type "object")=some true) (hf:PySem.W.findIn K (.ref C) "__class__" = some (some (.builtin "object.__class__")))
  (hq:Q (.ref C) ⟨h,g,d,t,os⟩):wpAny (model prog w) A (getAttrBy (.ref a) (.str "__class__" tk) fill expr) Q E ⟨h,g,d,t,os⟩:=by
 obtain⟨bm,N,nm,q,bs,hdct,sn,sub,ab,col,dd,k0,k1,k2,k3,k5,mN,hC,hN,hmN,T⟩:=id O.obj
 have f3:=FB.ga.bind (.ref a);have hx0:(expr&&onTheHeap (Value.builtin "BaseException.__getattribute__"))=false:=by cases expr <;> rfl
 have hx2:(Value.builtin "BaseException.__getattribute__" == Value.builtin "object.__getattribute__")=false:=by decide +kernel
 have hx1:(onTheHeap (Value.ref C)&&Value.builtin "BaseException.__getattribute__" == Value.builtin "object.__getattribute__")=false:=by rw[hx2]; rfl
 have hm1:("__getattribute__" : Str)∈quietNames:=.tail _ (.head _)
 have hm2:("__getattr__" : Str)∈quietNames:=.tail _ (.tail _ (.head _))
 repeat (any_goals (first | assumption | (with_reducible refine wpAny_loadPart_at hx ?_; rw[hc]) | with_reducible refine wpAny_typeLookup_tailQ hm1 hC hN hmN T FB.mro FB.ga.lookup ?_ | with_reducible refine wpAny_typeLookup_tailQ hm2 hC hN hmN T FB.mro FB.noGetattr ?_ | wp_step))
 refine mK X O FB hx hc hm hf ?_
 repeat (any_goals (first | assumption | wp_step))
theorem lY{Q:Option Value→Shared→Prop}(X:K.In h)(O:OwnClsQ x C bmB newId mg h)(FB:ExcAttrBase B bmB)(hx:h.get? a=some o)(hc:o.cls = .ref C)(hm:PySem.W.subIn K (.ref C) (.type "object")=some true) (hf:PySem.W.findIn K (.ref C) "__class__" = some (some (.builtin "object.__class__")))
  (hq:Q (some (.ref C)) ⟨h,g,d,t+1,os⟩):wpAny (model prog w) A (getAttr? (.ref a) "__class__") Q E ⟨h,g,d,t,os⟩:=by
 unfold getAttr? getAttrBy?
 repeat (any_goals (first | assumption | with_reducible apply ql X O FB hx hc hm hf | wp_step))
theorem za{a:Addr}(FB:ExcAttrBase B bmB)(q:lX K C bmB newId=true)(hm:PySem.W.subIn K (.ref C) (.type "object")=some true) (hf:PySem.W.findIn K (.ref C) "__class__" = some (some (.builtin "object.__class__"))) :
  PySem.W.KitX K (.ref a) (.ref C) (fun h=>∃ o,h.get? a=some o∧o.cls = .ref C) where
 ty:=fun _ _ _ ⟨o,h1,h2⟩=>h2 ▸ (PySem.W.Looks.ld h1).andThen .now
 it:=fun _ h X _=>by
  obtain⟨bm,N,nm,q,bs,hdct,sn,sub,ab,col,dd,k0,k1,k2,k3,k5,mN,hC,_⟩:=(gG (x := "") (mg:=fun _=>some (.ref C)) X rfl q).obj
  intro A' Q' E' s' k q
  unfold isType loadHead;exact wpAny_bind (wpAny_loadPart (k _ _ hC) (wpAny_pure q))
 ne:=fun h tp dd its n sl X htp=>by
  obtain⟨bm,N,nm,q,bs,hdct,sn,sub,ab,col,dd,k0,k1,k2,k3,k5,mN,hC,_⟩:=(gG (x := "") (mg:=fun _=>some (.ref C)) X rfl q).obj
  refine Bool.eq_false_iff.mpr fun q=>?_
  have e:C=tp:=Value.ref.inj (beq_iff_eq.mp q)
  subst e;rw[hC]at htp
  have:=congrArg Obj.data (Option.some.inj htp)
  cases this
 ca:=fun {prog w A E Q s} X ⟨o,h1,h2⟩ k=>by
  obtain⟨h,g,d,t,os⟩:=s
  exact lY X (gG (x := "") (mg:=fun _=>some (.ref C)) X rfl q) FB h1 h2 hm hf k
end
section
variable{X:Cx}
structure yM (K:PySem.W.Frag) (C:Addr):Prop where
 q:lX K C [.type "ValueError", .type "Exception", .type "BaseException", .type "object"] "ValueError.__new__" = true
 sub:PySem.W.subIn K (.ref C) (.type "object")=some true
 cls:PySem.W.findIn K (.ref C) "__class__" = some (some (.builtin "object.__class__"))
def zu:V→Option Value
 | .ref C=>some (.ref C)
 | .ty T=>some (.type T)
 | _=>none
def Ds(K:PySem.W.Frag):List V→Hp→VK→Prop:=fun vs H Q=>∃ a C c u b,vs=[.ref a,c]∧H a=some (rU a (.ref C))∧yM K C∧zu c=some u∧PySem.W.kitOne K (.ref C) u=some b∧Q (.bl b) H
theorem eR(K:PySem.W.Frag)(hK:X.K=K:=by rfl):CallR X (.builtin "isinstance") (Ds K):=by
 subst hK;intro pins s σ H vs us Q I r h
 obtain⟨a,C,c,u,b,rfl,ha,ec,hc,hk,q⟩:=h
 obtain⟨u1,u2,rfl,r1,r2⟩:=ow r
 cases r1
 have hu:u2=u:=by
  cases c <;> simp only[zu,Option.some.injEq,reduceCtorEq]at hc
  ·subst hc; exact r2
  ·subst hc; exact r2
 subst hu;obtain⟨p,_,_⟩:=(show ObjOk X.prog X.w H s.heap a (rU a (.ref C)) from I.hok a _ ha)
 exact PySem.W.kia_one (za F.attrBase_ValueError ec.q ec.sub ec.cls) I.kIn p hk (fun z=>nomatch z) fun tk=>⟨.bl b,H,I.tok tk,rfl,q⟩
theorem gB{x:Str}{C:Addr}{pos:Pos}(h:X.mg x=some (.ref C))(hg:Gl X x:=by first | exact vGg (by decide +kernel) | rfl)(hd:(x == ("__debug__" : Str))=false:=by decide):PE X (.Name x pos) (tC (.ref C)):=lS hg h rfl hd
end
end L2
namespace L2
open PySem PySem.Spec PyProof.Rows
structure RoomH (k:Nat) (A:Around):Prop where
 dp:A.depth+3 * k+5<recursionLimit
 un:A.units+16 * k+200<cLine
theorem Room.h{k:Nat}{A:Around}(r:Room k A):RoomH k A:=⟨r.dp,r.un⟩
theorem RoomH.mono{j k:Nat}{A:Around}(r:RoomH k A)(h:j≤k):RoomH j A:=⟨by have:=r.dp; omega,by have:=r.un; omega⟩
theorem RoomH.deeper{k:Nat}{A:Around}(r:RoomH (k+1) A)(env:Env):RoomH k (A.deeper env):=
 ⟨by have:=r.dp; show A.depth+1+3 * k+5<_; omega,by have:=r.un; show A.units+3+16 * k+200<_; omega⟩
theorem RoomH.held{k:Nat}{A:Around}(r:RoomH k A)(v:Option Value):RoomH k (A.mark v):=⟨r.dp,r.un⟩
theorem RoomH.depth{k:Nat}{A:Around}(r:RoomH k A):A.depth<recursionLimit:=by have:=r.dp; omega
abbrev wF (P:Program) (w:World) (K:PySem.W.Frag) (mg:Str→Option Value) (base:Heap) (N:List Str) (qual:Str) (scope:Scope) (f:Addr) (cd:Value) (A:Around) (outer:List Env) (s:Shared) (H:Hp):Cx:=
 { ie iq P w K mg base N qual scope f cd A outer s H E0 with calm:=false,xe:=fun _ _=>False }
structure Ao (P:Program) (w:World) (K:PySem.W.Frag) (mg:Str→Option Value) (base:Heap) (k:Nat) (f:Addr) (fd:FuncData) (ps:List Str) (sp:Sp):Prop where
 len:∀ vs H Q E,sp vs H Q E→vs.length=ps.length
 run:∀ (A:Around) (outer:List Env) (s:Shared) (H:Hp) (args:Args) (us:List Value) (vs:List V) (Q:VK),RoomH k A→kD P w K mg base A outer s H→BindsTo s fd args (ps.zip us)→Vals vs us→sp vs H Q E0→
  codeAny (model P w) A (.call (.ref f) args) (CR iq outer P w H s Q E0) s
structure uZ (P:Program) (w:World) (K:PySem.W.Frag) (mg:Str→Option Value) (base:Heap) (k:Nat) (x:Str) (ps:List Str) (sp:Sp):Prop where
 ex:∃ f fd,Ao P w K mg base k f fd ps sp∧Binds K fd ps []∧PySem.W.keepIn K (.ref f)=true∧mg x=some (.ref f)
section
variable{P:Program}{w:World}{K:PySem.W.Frag}{mg:Str→Option Value}{base:Heap}
theorem uA{N ps:List Str}{qual:Str}{scope:Scope}{f:Addr}{cd:Value}{A:Around}{outer:List Env}{s s1:Shared}{H:Hp}{us:List Value}{vs:List V}
  (S:aU N ps scope) (e0:kD P w K mg base A outer s H) (hl:vs.length=ps.length) (r:Vals vs us)
  (x:InCallC s s.heap.objs.size (bindL (envOfC qual scope s.heap.objs.size f cd).kindOf (ps.zip us) fun _=>none) (cellsFrom (s.heap.objs.size+1) scope.names []) (bindC (envOfC qual scope s.heap.objs.size f cd).kindOf (ps.zip us) fun _=>none) s1) :
  Inv (wF P w K mg base N qual scope f cd A outer s H) [] (start N vs) H s1:=by
 have e1:kD P w K mg base { A with handled:=none } outer s H:=⟨e0.frames,e0.mod,e0.bs,e0.bsz,e0.funs,e0.frf,e0.hok,e0.bare⟩
 have I:=nH (CX:=iq) (E:=E0) (A:={ A with handled:=none }) S rfl e1 hl r x;exact⟨⟨I.ok.mod,I.ok.kind,I.ok.glob,I.ok.blt,I.ok.above,I.ok.inj,I.ok.has,I.ok.cab,fun z=>Bool.noConfusion (show false=true from z),Around.frames_deeper e0.frames,I.ok.stk,I.ok.exf,I.ok.bs,I.ok.bsz,I.ok.noex,I.ok.exfs,I.ok.funs,I.ok.frf⟩,I.os,I.bare,I.base,I.loc,I.cell,I.free,I.freeC,I.pin,I.hok,I.len⟩
theorem BR{k:Nat}{f:Addr}{name qual:Str}{params:Arguments}{body:List Stmt}{scope:Scope}{dV kV doc pm cdv ct oc:Value}{an od:Option Addr}
  {osl:Array (Option Value)} {N ps:List Str} {sp:Sp} (lk:K.lookup f=some ⟨oc,od,.func (PySem.W.fnOf name qual params body scope dV kV doc pm an cdv ct),osl⟩) (hcd:PySem.W.codeIn K cdv qual=true) (S:aU N ps scope)
  (len:∀ vs H Q E,sp vs H Q E→vs.length=ps.length)
  (hbody:∀ (A:Around) (outer:List Env) (s:Shared) (H:Hp) (vs:List V) (Q:VK),RoomH k (A.deeper (envOfC qual scope s.heap.objs.size f cdv))→sp vs H Q E0→
   ∃ t,PSs (wF P w K mg base N qual scope f cdv A outer s H) body t∧t { nx:=fun _ H'=>Q .non H',rt:=Q } (start N vs) H) :
  Ao P w K mg base (k+1) f (PySem.W.fnOf name qual params body scope dV kV doc pm an cdv ct) ps sp:=by
 refine⟨len,fun A outer s H args us vs Q hr e0 hb r hsp=>?_⟩
 have hl:=len _ _ _ _ hsp;have KX:K.In s.heap:=e0.mod.kin.keeps fun b o e=>(e0.bs b o e).1
 have lim:s.heap.NoLimit:=e0.mod.nolimit.keeps fun b o e=>(e0.bs b o e).1
 have hkind:∀ y∈ps.zip us,scope.names.lookup y.1=some .local∨(scope.names.lookup y.1=some .cell∧((cellsFrom (s.heap.objs.size+1) scope.names []).lookup y.1).isSome=true):=fun ⟨n,v⟩ hy=>by
  rcases S.par n (List.of_mem_zip hy).1 with q | q
  ·exact .inl q
  ·exact .inr ⟨q,PySem.W.cellsFrom_some _ _ _ (.inl q)⟩
 refine codeAny_call_function hr.depth (KX _ _ lk) rfl S.co S.gen rfl (PySem.W.codeRec_of KX hcd) (hb _ _ _ _ ?_)
 refine wpAny_newFunctionEnv_cells S.kind hkind fun env he s1 x=>?_
 subst he;refine⟨lim.keeps x.toInCall.keep,codeAny_func ?_⟩
 obtain⟨t,ht,hq⟩:=hbody A outer s H vs Q (hr.deeper _) hsp
 have I:Inv (wF P w K mg base N qual scope f cdv A outer s H) [] (start N vs) H s1:=uA S e0 hl r x
 refine wpAny_mono (ht [] s1 (start N vs) H _ I hq) (fun fl s' hs=>?_) fun e s' hs=>False.elim hs
 have fin:∀ {σ':St} {H':Hp} {v:V} {u:Value},Inv (wF P w K mg base N qual scope f cdv A outer s H) [] σ' H' s'→RelV v u→Q v H'→CE outer P w H s Q u s':=
  fun {σ' H' v u} J rv q=>⟨v,H',J.os,J.bare,J.base,J.hok,rv,q⟩
 cases fl with
 | ret u=>
  obtain⟨v,σ',H',J,rv,q⟩:=hs
  exact fin J rv q
 | next=>
  obtain⟨σ',H',J,q⟩:=hs
  exact fin (v:=V.non) (u:=Value.none) J rfl q
 | brk=>
  obtain⟨_,_,_,q⟩:=hs
  exact False.elim q
 | cont=>
  obtain⟨_,_,_,q⟩:=hs
  exact False.elim q
theorem DefAt.calH{x:Str}{st:Stmt}{N ps:List Str}{k:Nat}{sp:Sp}(D:DefAt K mg x st)(S:aU N ps (defScope st))
  (hb:∀ (kV doc pm:Value) (an:Option Addr) (cdv ct:Value) (us:List Value),us.length=ps.length→bindArgs (PySem.W.fnOf x x (defArgs st) (defBody st) (defScope st) .none kV doc pm an cdv ct) ⟨us,[]⟩=pure (ps.zip us))
  (len:∀ vs H Q E,sp vs H Q E→vs.length=ps.length)
  (hbody:∀ (f:Addr) (cdv:Value) (A:Around) (outer:List Env) (s:Shared) (H:Hp) (vs:List V) (Q:VK),RoomH k (A.deeper (envOfC x (defScope st) s.heap.objs.size f cdv))→sp vs H Q E0→
   ∃ t,PSs (wF P w K mg base N x (defScope st) f cdv A outer s H) (defBody st) t∧t { nx:=fun _ H'=>Q .non H',rt:=Q } (start N vs) H):uZ P w K mg base (k+1) x ps sp:=by
 obtain⟨f,fd,F,m⟩:=D.ex
 have fb:=F.binds hb;have kp:=F.kp;obtain⟨oc,od,kV,doc,pm,an,cdv,ct,osl,rfl,lk,hcd⟩:=F.ex
 exact⟨f,_,BR lk hcd S len fun A outer s H vs Q hr hsp=>hbody f cdv A outer s H vs Q hr hsp,fb,kp,m⟩
end
section
variable{X:Cx}
theorem sE{j k:Nat}{x:Str}{ps:List Str}{sp:Sp}{p pos:Pos}{e:Expr}{es:List Expr}{t:TA}(c:uZ X.prog X.w X.K X.mg X.base j x ps sp)(hr:RoomH k X.A)(ha:PA X (e::es) t)(hle:j≤k:=by decide)(hg:Gl X x:=by first | exact vGg (by decide +kernel) | rfl)
  (hdb:(x == ("__debug__" : Str))=false:=by decide) (he:starEach (e::es) X.env=(false,eval e X.env)::starEach es X.env:=by rfl) (hpl:(backTo pos (starEach es X.env)).any (·.1)=false:=by rfl) :
  PE X (.Call (.Name x p) (e::es) [] pos) (iO sp [] E0 t):=by
 obtain⟨f,fd,F,b,kp,m⟩:=c.ex
 intro pins s σ H Q I h
 refine wpAny_Call_Name_kw (fN I hg m ?_ hdb)
 refine PySem.W.callWith_K (h₀:=X.base) I.ok.mod.kin kp (bq (ha pos pins s σ H _ I h) fun us s1 ⟨vs,H1,I1,r,q⟩=>⟨I1.kIn,?_⟩) he hpl
 have q:sp vs H1 Q E0:=by have:=q; simp only[List.append_nil]at this; exact this
 have hl:us.length=ps.length:=by rw[← r.length]; exact F.len _ _ _ _ q
 have hb:=b s1 us I1.kIn (by rw[List.append_nil]; exact hl)
 rw[List.append_nil]at hb
 refine wpAny_call (codeAny_mono (F.run X.A X.stack s1 H1 ⟨us,[]⟩ us vs Q (hr.mono hle) I1.env0 hb r q) fun r s' hq=>?_)
 cases r with
 | error e=>exact False.elim hq
 | ok fl=>
  cases fl with
  | ret u=>exact I1.after hq
  | next=>exact False.elim hq
  | brk=>exact False.elim hq
  | cont=>exact False.elim hq
end
structure eK (K:PySem.W.Frag) (mg:Str→Option Value) (x:Str) (C:Addr):Prop where
 c:yM K C
 m:mg x=some (.ref C)
section
variable{X:Cx}{E:XK}{x n:Str}{C:Addr}{np cpos hp pos:Pos}{e:Expr}{es body suite:List Stmt}{b₀ : Stmt}{t:TA}{tb:XK→TS}{th:TS}{rest:List ExceptHandler}
theorem nE{e:Expr}{es:List Expr}(L:Lv X E)(o:eK X.K X.mg x C)(ha:PA X (e::es) t)(hg:Gl X x:=by first | exact vGg (by decide +kernel) | rfl)(hd:(x == ("__debug__" : Str))=false:=by decide)
  (he:starEach (e::es) X.env=(false,eval e X.env)::starEach es X.env:=by rfl) (hpl:(backTo cpos (starEach es X.env)).any (·.1)=false:=by rfl) :
  PS X (.Raise (some (.Call (.Name x np) (e::es) [] cpos)) none pos) (qH C E t):=fun pins s σ H D I h=>
 yO L (gG I.ok.mod.kin o.m o.c.q).own F.excBase_ValueError ha hg hd he hpl pins s σ H D I h
end
structure hU (mg:Str→Option Value) (x:Str) (C:Addr):Prop where
 m:mg x=some (.ref C)
theorem dD{K:PySem.W.Frag}{a C:Addr}{c:V}{u:Value}{b:Bool}{H:Hp}{Q:VK}(ha:H a=some (rU a (.ref C)))(ec:yM K C)(hk:PySem.W.kitOne K (.ref C) u=some b)(q:Q (.bl b) H)(hc:zu c=some u:=by rfl):Ds K [.ref a,c] H Q:=
 ⟨a,C,c,u,b,rfl,ha,ec,hc,hk,q⟩
theorem jv{C:Addr}{E:XK}{ta:TA}{D:db}{σ : St}{H:Hp}:qH C E ta D σ H=ta σ H fun vs H1=>vs.length≤sizeLine∧E (.ref C) none H1:=rfl
section
variable{X:Cx}{x:Str}{C:Addr}{np hp pos:Pos}{body suite:List Stmt}{b₀ : Stmt}{tb:XK→TS}{th:TS}{rest:List ExceptHandler}
end
end L2
namespace L2
open PySem PySem.Spec PyProof PyProof.Rows
section
variable{K:PySem.W.Frag}{a b:Addr}{xs ys:List V}{g:TG}{te:TE}{nT:Nat}{σ : St}{D:Addr}{Q:VK}{H:Hp}
end
section
variable{prog:Program}{w:World}{A:Around}{E:Value→Shared→Prop}{s:Shared}
end
end L2
namespace L2
open PySem PySem.Spec PyProof PyProof.Rows
section
variable{X:Cx}
end
section
variable{X:Cx}
end
section
variable{d:Addr}{o:Obj}{kvs:List (bD × V)}{g:TG}{σ : St}{H:Hp}
end
end L2
namespace PySem.SeqAt
open AutoSeq1 (wpAny_loadPart')
open MeetsSeq MeetsSeq2 MeetsSeq3
end PySem.SeqAt
namespace L2
open PySem PySem.Spec PyProof PyProof.Rows
section
variable{X:Cx}
end
end L2
namespace L2
open PySem PySem.Spec PyProof PyProof.Rows
section
variable{X:Cx}
end
end L2
namespace L2
open PySem PySem.Spec PyProof.Rows
def wH:Option Int→Value→Bool
 | none,v=>(match v with | .none=>true | _=>false)
 | some i,v=>Value.isInt i v
theorem gF:∀ {k:Option Int} {v:Value},wH k v=true→RelV (cT k) v
 | none,v,h=>by
  cases v <;> first | rfl | cases h
 | some i,v,h=>Value.isInt_shape (k:=i) (v:=v) h
theorem wn:∀ {k:Option Int} {v:Value},RelV (cT k) v→wH k v=true
 | none,v,h=>by
  obtain rfl:v=Value.none:=h
  rfl
 | some i,v,h=>by
  obtain⟨t,rfl⟩:=(show ∃ t,v=Value.int i t from h)
  simp[wH,Value.isInt]
def gE(prog:Program)(w:World):PySem.KeyKind prog w (Option Int) where
 is:=wH
 hash:=(dC prog w).hash
 inj:=fun v a b ha hb=>(dC prog w).inj (h:=default) (gF ha) (gF hb)
 byValue:=fun k v h=>by
  have r:=gF h
  cases k with
  | none=>obtain rfl:v=Value.none:=r; rfl
  | some i=>obtain⟨t,rfl⟩:=(show ∃ t,v=Value.int i t from r); rfl
 pyHash:=fun {A E s k v Q} hv h=>by
  have r:=gF hv
  cases k with
  | none=>
   obtain rfl:v=Value.none:=r
   exact nB h
  | some i=>
   obtain⟨t,rfl⟩:=(show ∃ t,v=Value.int i t from r)
   exact wpAny_pyHash_int h
 eqBool:=fun {A E s a b u v Q} hu hv h=>by
  have q:=iy (A:=A) (s:=s) (gF hu) (gF hv) (h_ a) (h_ b);rw[sS]at q
  exact q prog w E Q h
 «strs»:=fun k x t v h=>by
  cases k with
  | none=>cases h
  | some i=>simp[wH,Value.isInt]at h
def jR(P:Program)(w:World)(a:Addr)(kvs:List (Option Int × V)):HO:=
 .ext fun h=>kvs.length≤sizeLine∧(a == sysModules)=false∧∃ vs,KV kvs vs∧h.DictOf (gE P w) a vs
theorem wJ{P:Program}{w:World}{H':Hp}{h':Heap}{a:Addr}{kvs:List (Option Int × V)}{vs:List (Option Int × Value)}(z:kvs.length≤sizeLine)(hd:(a == sysModules)=false)(rel:KV kvs vs)(m:h'.DictOf (gE P w) a vs):ObjOk P w H' h' a (jR P w a kvs):=by
 obtain⟨o,es,ep,e1,e⟩:=id m
 exact⟨⟨z,hd,vs,rel,m⟩,⟨o,e1⟩,fun h1 h2 ⟨z',hd',vs',rel',o',es',ep',q1,q⟩ y=>⟨z',hd',vs',rel',o',es',ep',y _ q1,q⟩⟩
section
variable{X:Cx}{pins:List (Addr × Obj)}{σ : St}{H:Hp}{s:Shared}{a:Addr}{kvs:List (Option Int × V)}
theorem Inv.op(I:Inv X pins σ H s)(h:H a=some (jR X.prog X.w a kvs)):kvs.length≤sizeLine∧(a == sysModules)=false∧∃ vs,KV kvs vs∧s.heap.DictOf (gE X.prog X.w) a vs:=(I.hok a _ h).1
def Am(P:Program)(w:World):R2:=fun x y H Q=>∃ a k kvs v,x = .ref a∧y=cT k∧H a=some (jR P w a kvs)∧aX kvs k=some v∧Q v H
theorem D2:IxR X (Am X.prog X.w):=by
 intro value slice pins s σ H x y v u Q I rx ry h hs
 obtain⟨a,k,kvs,z,rfl,rfl,e,l,q⟩:=h
 cases rx;obtain⟨_,hd,vs,rel,dd⟩:=I.op e
 obtain⟨w',hw,rw'⟩:=RelO.some_of (v:=z) (o:=valueAt vs k) (by rw[← l]; exact rel.val k)
 have hl:typeLookup (.type "dict") "__getitem__" = pure (some (.builtin "dict.__getitem__")):=PySem.F.slot_dict_getitem.lookup
 exact subscriptTail_builtinR (x:=w') dd.typeIs hl (wpAny_getItem_of (knd:=gE X.prog X.w) (wn ry) dd.mapOf hw ⟨rfl,z,H,I.tok _,rw',q⟩) hs
def w4(P:Program)(w:World):jg:=fun o i v H Q=>∃ a k kvs,o = .ref a∧i=cT k∧H a=some (jR P w a kvs)∧kvs.length<sizeLine∧Q (upd H a (jR P w a (cI kvs k v)))
theorem BO:PSet X (w4 X.prog X.w):=by
 intro pins s σ H o i v ov iv u Q I ro ri rv h
 obtain⟨a,k,kvs,rfl,rfl,e,hl,q⟩:=h
 cases ro;obtain⟨z,hd,vs,rel,dd⟩:=I.op e
 have hz:vs.length≤sizeLine:=by rw[← rel.length]; exact z
 have hl':(cI kvs k v).length≤sizeLine:=by have:=dR kvs k v; omega
 refine wpAny_setItem_pairs (knd:=gE X.prog X.w) (hsz:=hz) (wn ri) dd fun h' dd' hs=>⟨_,?_,q⟩
 have he:∃ q,h'.get? a=some q:=let ⟨q,_,_,hq,_⟩:=dd'; ⟨q,hq⟩
 exact fH I (by rw[e]; exact True.intro) hs he (wJ hl' hd (rel.put k rv) dd')
def tj(P:Program)(w:World):TE:=fun _ H Q=>∀ p,H p=none→Q (.ref p) (upd H p (jR P w p []))
theorem xb{pos:Pos}:PE X (.Dict [] [] pos) (tj X.prog X.w):=fun pins s σ H Q I h=>by
 have hb:(s.heap.objs.size == sysModules)=false:=beq_eq_false_iff_ne.mpr (Ne.symm (Nat.ne_of_lt I.big))
 have hm:(s.heap.push { cls:=.type "dict", data:=.dict #[] }).DictOf (gE X.prog X.w) s.heap.objs.size []:=⟨_,#[],0,Heap.get?_push_size _ rfl,⟨rfl,rfl,rfl⟩,rfl,(fun x hx=>by simp at hx),.nil,List.nodup_nil⟩
 exact wpAny_Dict_empty ⟨.ref s.heap.objs.size,_,I.laid (a:=s.heap.objs.size) (o:=jR X.prog X.w s.heap.objs.size []) (t':=s.toks) (fun _ _ q=>Heap.get?_push_of_some _ q) (Nat.le_refl _) (wJ (Nat.zero_le _) hb .nil hm),rfl,h _ (I.hok.fresh (Nat.le_refl _))⟩
end
section
variable{X:Cx}(P:Program)(w:World)
theorem wf(hP:X.prog=P:=by rfl)(hw:X.w=w:=by rfl):IxR X (Am P w):=by subst hP hw; exact D2
theorem tF(hP:X.prog=P:=by rfl)(hw:X.w=w:=by rfl):PSet X (w4 P w):=by subst hP hw; exact BO
theorem ve{pos:Pos}(hP:X.prog=P:=by rfl)(hw:X.w=w:=by rfl):PE X (.Dict [] [] pos) (tj P w):=by subst hP hw; exact xb
end
end L2
namespace L2
open PySem PySem.Spec PyProof PyProof.Rows
section
variable{prog:Program}{w:World}{A:Around}{E:Value→Shared→Prop}{s:Shared}
variable{z TI TO i1 i2 t1 t2:Addr}{xs ys:Array Value}{k1 k2:Nat}{a b:Value}
end
section
variable{K:PySem.W.Frag}{a b:Addr}{xs ys:List V}{g:TG}{te:TE}{nT:Nat}{σ : St}{D:Addr}{Q:VK}{H:Hp}
end
end L2
namespace L2
open PySem PySem.Spec PyProof PyProof.Rows PySem.SeqAt
section
variable{X:Cx}
end
section
variable{X:Cx}
end
section
variable{X:Cx}
def Fm:R2:=fun x y H Q=>∃ a kvs k,y = .ref a∧x=kV k∧H a=some (.dK kvs)∧Q (.bl (aX kvs k).isSome) H
theorem Cj{n:Nat}(hr:Room n X.A):OpR X (compareOp .In) Fm:=by
 intro pins s σ H x y v u Q I rx ry h
 obtain⟨a,kvs,k,rfl,rfl,e,q⟩:=h
 cases ry;exact Gw (by have:=hr.un; omega) I (DGet.k e) rx fun s' I'=>⟨.bl _,H,I',rfl,q⟩
end
end L2
namespace L2
open PySem PySem.Spec PyProof PyProof.Rows
section
variable{X:Cx}
end
section
variable{prog:Program}{w:World}{κ : Type}[DecidableEq κ]{knd:HeapKind prog w κ}{A:Around}{E:Value→Shared→Prop}{s:Shared}
end
section
variable{X:Cx}
end
end L2
namespace L2
open PySem PySem.Spec PyProof PyProof.Rows
section
variable{X:Cx}{pins:List (Addr × Obj)}{σ : List (Option V)}{H:Hp}{s:Shared}
end
section
variable{X:Cx}
end
open PySem.SeqAt
section
variable{X:Cx}
end
end L2
namespace PySem.SeqAt
open AutoSeq1 (wpAny_loadPart')
open MeetsSeq MeetsSeq2 MeetsSeq3
open SeqRoads2
section
variable{A:Around}{s:Shared}
end
end PySem.SeqAt
namespace L2
open PySem PySem.Spec PyProof PyProof.Rows PySem.SeqAt
section
variable{X:Cx}{pins:List (Addr × Obj)}{σ : St}{H:Hp}{s:Shared}
end
end L2
namespace PySem
section
variable{M:Program}{w:World}{A:Around}{R:Result→Shared→Prop}{I:Addr}{fp wr:List Addr}{n:Nat}{Pv:Nat→Value→Prop}{St:Nat→Heap→Prop}
end
end PySem
namespace PySem
section
variable{M:Program}{w:World}{A:Around}{E:Value→Shared→Prop}{s:Shared}
end
end PySem
namespace L2
open PySem PySem.Spec PyProof PyProof.Rows PySem.SeqAt
section
variable{X:Cx}
end
end L2
namespace L2
open PySem PySem.Spec PyProof PyProof.Rows
section
variable{X:Cx}
end
end L2
namespace L2
open PySem PySem.Spec PyProof.Rows
abbrev C9:=Str × List (Option Int)
section
variable{P:Program}{w:World}{H:Hp}
end
section
variable{X:Cx}{pins:List (Addr × Obj)}{σ : St}{H:Hp}{s:Shared}{a b:Addr}{k:C9}{kvs:List (C9 × V)}
end
end L2
namespace L2
open PySem PySem.Spec PyProof.Rows
abbrev gU (h:Heap) (z TI TO T:Addr) (f:Bool):Prop:=
 h.get? z=some { cls:=.type "zip", dict:=none,data:=.fields #[rawInt T,.bool f,.bool false,.ref TI,.ref TO],slots:=#[] }
section
variable{prog:Program}{w:World}{A:Around}{E:Value→Shared→Prop}{s:Shared}
theorem jP{a:Addr}{Q:Option Obj→Shared→Prop}(h:Q (s.heap.get? a) s):wpAny (model prog w) A (loadIfAlive a) Q E s:=fun _ _ _=>h
theorem mS{z TI TO T:Addr}{f:Bool}{Q:Bool→Shared→Prop}(hz:gU s.heap z TI TO T f)(hT:∃ o,s.heap.get? T=some o)(hQ:∀ h',gU h' z TI TO T true→Heap.SameBut z s.heap h'→Q false { s with heap:=h' }) :
  wpAny (model prog w) A (Builtin.SmallTypes.ownedTupleIsFree (.ref z)) Q E s:=by
 obtain⟨o,ho⟩:=hT
 unfold Builtin.SmallTypes.ownedTupleIsFree;refine wpAny_bind (wpAny_field hz rfl (x:=rawInt T) rfl ?_)
 show wpAny _ _ (loadIfAlive T >>= _) _ _ _
 refine wpAny_bind (jP ?_)
 rw[ho];show wpAny _ _ (field (.ref z) 1 >>= _) _ _ _
 refine wpAny_bind (wpAny_field hz rfl (x:=.bool f) rfl ?_)
 cases f with
 | false=>
  show wpAny _ _ (setField (.ref z) 1 (.bool true) >>= _) _ _ _
  refine wpAny_bind (wpAny_setField_rec hz (by simp) fun h1 hz1 hs1=>wpAny_pure (hQ h1 hz1 hs1))
 | true=>
  refine wpAny_pure (hQ s.heap hz ⟨rfl,fun _ _=>rfl⟩)
theorem xD{z TI TO T i1 i2 l1 l2:Addr}{f:Bool}{k1 k2:Nat}{xs ys:Array Value}{x y:Value}{Q:Value→Shared→Prop}(D:ZipApart z TI TO i1 i2 l1 l2)
  (hz:gU s.heap z TI TO T f) (hT:∃ o,s.heap.get? T=some o) (hTI:IsPair s.heap TI (.ref i1) (.ref i2))
  (h1:s.heap.IsListIter i1 l1 k1) (h2:s.heap.IsListIter i2 l2 k2) (hl1:s.heap.IsList l1 xs) (hl2:s.heap.IsList l2 ys) (hx:xs[k1]? = some x) (hy:ys[k2]? = some y)
  (hQ:∀ h',gU h' z TI TO T true→h'.IsListIter i1 l1 (k1+1)→h'.IsListIter i2 l2 (k2+1)→IsPair h' s.heap.objs.size x y→h'.objs.size=s.heap.objs.size+1→
   (∀ c o,c≠z→c≠i1→c≠i2→s.heap.get? c=some o→h'.get? c=some o)→Q (.ref s.heap.objs.size) { s with heap:=h' }) :
  wpAny (model prog w) A (Builtin.«zip.__next__» ⟨[.ref z],[]⟩) (fun fin s'=>∃ v,fin = .done (.ret v)∧Q v s') E s:=by
 show wpAny _ _ (field (.ref z) 2 >>= _) _ _ _
 refine wpAny_bind (wpAny_field hz rfl (x:=.bool false) rfl ?_)
 show wpAny _ _ (field (.ref z) 3 >>= _) _ _ _
 refine wpAny_bind (wpAny_field hz rfl (x:=.ref TI) rfl ?_)
 refine wpAny_bind (wpAny_seqItems hTI rfl ?_)
 show wpAny _ _ (Builtin.SmallTypes.ownedTupleIsFree (.ref z) >>= _) _ _ _
 refine wpAny_bind (mS hz hT fun ha hza hsa=>?_)
 simp only[Bool.false_eq_true,if_false]
 refine wpAny_bind ?_
 rw[← Array.forIn_toList];simp only[List.forIn_cons,List.forIn_nil]
 refine wpAny_bind (wpAny_bind (wpAny_holding ?_))
 show wpAny _ _ (Builtin.SmallTypes.nextOf (.ref i1) >>= _) _ _ _
 refine wpAny_bind (wpAny_nextOf_list_item (h1.extBut hsa.extBut D.i1z) (hl1.extBut hsa.extBut D.l1z) hx fun hb h1b hsb=>wpAny_pure ?_)
 refine wpAny_pure ?_
 refine wpAny_bind (wpAny_bind (wpAny_holding ?_))
 show wpAny _ _ (Builtin.SmallTypes.nextOf (.ref i2) >>= _) _ _ _
 refine wpAny_bind (wpAny_nextOf_list_item ((h2.extBut hsa.extBut D.i2z).extBut hsb.extBut D.i12.symm) ((hl2.extBut hsa.extBut D.l2z).extBut hsb.extBut D.l2i1) hy fun hc h2c hsc=>wpAny_pure ?_)
 refine wpAny_pure (wpAny_pure ?_)
 refine wpAny_bind (wpAny_newTuple ?_ (by show 2≤sizeLine; rw[sizeLine_eq]; decide))
 have hsz:hc.objs.size=s.heap.objs.size:=by rw[hsc.1,hsb.1,hsa.1]
 have hzc:gU hc z TI TO T true:=hsc.extBut _ _ D.i2z.symm (hsb.extBut _ _ D.i1z.symm hza)
 have kc:∀ c o,c≠z→c≠i1→c≠i2→s.heap.get? c=some o→hc.get? c=some o:=fun c o c1 c3 c4 e=>hsc.extBut _ _ c4 (hsb.extBut _ _ c3 (hsa.extBut _ _ c1 e))
 have h1c:hc.IsListIter i1 l1 (k1+1):=h1b.extBut hsc.extBut D.i12
 refine wpAny_pure ⟨_,rfl,?_⟩
 show Q (.ref hc.objs.size) _
 rw[hsz];refine hQ (hc.push { cls:=.type "tuple", data:=.seq #[x,y] }) (Heap.get?_push_of_some _ hzc) (h1c.at fun o e=>Heap.get?_push_of_some _ e) (h2c.at fun o e=>Heap.get?_push_of_some _ e) ?_ (by rw[Heap.size_push,hsz]) fun c o c1 c3 c4 e=>Heap.get?_push_of_some _ (kc c o c1 c3 c4 e)
 show (hc.push _).get? s.heap.objs.size=_
 rw[← hsz];exact Heap.get?_push_size _ rfl
theorem xX{z TI TO T i1 i2 l1 l2:Addr}{f:Bool}{k1 k2:Nat}{xs ys:Array Value}{Q:Fin→Shared→Prop}(hh:A.handled=none)(D:ZipApart z TI TO i1 i2 l1 l2)
  (hz:gU s.heap z TI TO T f) (hT:∃ o,s.heap.get? T=some o) (hTI:IsPair s.heap TI (.ref i1) (.ref i2))
  (h1:s.heap.IsListIter i1 l1 k1) (h2:s.heap.IsListIter i2 l2 k2) (hl1:s.heap.IsList l1 xs) (hl2:s.heap.IsList l2 ys) (hend:xs[k1]? = none∨ys[k2]? = none)
  (hE:∀ h' e,(∀ c o,c≠z→c≠i1→c≠i2→s.heap.get? c=some o→h'.get? c=some o)→(∃ o,h'.get? e=some o∧o.cls = .type "StopIteration")→E (.ref e) { s with heap:=h' }) :
  wpAny (model prog w) A (Builtin.«zip.__next__» ⟨[.ref z],[]⟩) Q E s:=by
 show wpAny _ _ (field (.ref z) 2 >>= _) _ _ _
 refine wpAny_bind (wpAny_field hz rfl (x:=.bool false) rfl ?_)
 show wpAny _ _ (field (.ref z) 3 >>= _) _ _ _
 refine wpAny_bind (wpAny_field hz rfl (x:=.ref TI) rfl ?_)
 refine wpAny_bind (wpAny_seqItems hTI rfl ?_)
 show wpAny _ _ (Builtin.SmallTypes.ownedTupleIsFree (.ref z) >>= _) _ _ _
 refine wpAny_bind (mS hz hT fun ha hza hsa=>?_)
 simp only[Bool.false_eq_true,if_false]
 refine wpAny_bind ?_
 rw[← Array.forIn_toList];simp only[List.forIn_cons,List.forIn_nil]
 refine wpAny_bind (wpAny_bind (wpAny_holding ?_))
 show wpAny _ _ (Builtin.SmallTypes.nextOf (.ref i1) >>= _) _ _ _
 cases hx:xs[k1]? with
 | none=>
  refine wpAny_bind (wpAny_nextOf_list_end hh (h1.extBut hsa.extBut D.i1z) (hl1.extBut hsa.extBut D.l1z) hx fun hb e hsb he=>?_)
  exact hE hb e (fun c o c1 c3 _ x=>hsb _ _ c3 (hsa.extBut _ _ c1 x)) he
 | some x=>
  have hy:ys[k2]? = none:=by rcases hend with h | h; rw[hx]at h; cases h; exact h
  refine wpAny_bind (wpAny_nextOf_list_item (h1.extBut hsa.extBut D.i1z) (hl1.extBut hsa.extBut D.l1z) hx fun hb h1b hsb=>wpAny_pure ?_)
  refine wpAny_pure ?_
  refine wpAny_bind (wpAny_bind (wpAny_holding ?_))
  show wpAny _ _ (Builtin.SmallTypes.nextOf (.ref i2) >>= _) _ _ _
  refine wpAny_bind (wpAny_nextOf_list_end hh ((h2.extBut hsa.extBut D.i2z).extBut hsb.extBut D.i12.symm) ((hl2.extBut hsa.extBut D.l2z).extBut hsb.extBut D.l2i1) hy fun hc e hsc he=>?_)
  exact hE hc e (fun c o c1 c3 c4 x=>hsc _ _ c4 (hsb.extBut _ _ c3 (hsa.extBut _ _ c1 x))) he
def ZOs(z TI TO i1 i2 l1 l2:Addr)(xs ys:Array Value)(i:Nat)(h:Heap):Prop:=
 (IsZip h z TI TO .none∨∃ T f,gU h z TI TO T f∧∃ o,h.get? T=some o)∧IsPair h TI (.ref i1) (.ref i2)∧(∃ a b,IsPair h TO a b)∧h.IsListIter i1 l1 i∧h.IsListIter i2 l2 i∧h.IsList l1 xs∧h.IsList l2 ys
theorem yk{z TI TO i1 i2 l1 l2:Addr}{i:Nat}{xs ys:Array Value}{x y:Value}{Q:Option Value→Shared→Prop}(D:ZipApart z TI TO i1 i2 l1 l2)(h:ZOs z TI TO i1 i2 l1 l2 xs ys i s.heap)(hx:xs[i]? = some x)(hy:ys[i]? = some y)
  (hQ:∀ h',ZOs z TI TO i1 i2 l1 l2 xs ys (i+1) h'→IsPair h' s.heap.objs.size x y→h'.objs.size=s.heap.objs.size+1→(∀ c o,c≠z→c≠TO→c≠i1→c≠i2→s.heap.get? c=some o→h'.get? c=some o)→Q (some (.ref s.heap.objs.size)) { s with heap:=h' }) :
  wpAny (model prog w) A (pyNext (.ref z)) Q E s:=by
 obtain⟨hz,hTI,⟨a,b,hTO⟩,h1,h2,hl1,hl2⟩:=h
 rcases hz with hz | ⟨T,f,hz,hT⟩
 ·refine wpAny_pyNext_zip_item D hz hTI hTO h1 h2 hl1 hl2 hx hy fun h' a1 a2 a3 a4 a5 a6 hk=>?_
  exact hQ h' ⟨.inr ⟨s.heap.objs.size,false,a1,_,a5⟩,hk _ _ D.TIz D.TITO D.TIi1 D.TIi2 hTI,⟨_,_,a2⟩,a3,a4,hl1.at fun o e=>hk _ o D.l1z D.l1TO D.l1i1 D.l1i2 e,hl2.at fun o e=>hk _ o D.l2z D.l2TO D.l2i1 D.l2i2 e⟩ a5 a6 hk
 ·have hTy:s.TypeIs (.ref z) "zip" := ⟨_,hz,rfl⟩
  unfold pyNext
  refine wpAny_bind (wpAny_attempt (wpAny_callSpecial?_slot (name:=Str.ofString "__next__") hTy F.slot_zip_next
   (wpAny_call_entry F.slot_zip_next hTy F.entry_zip_next
    (xD D hz hT hTI h1 h2 hl1 hl2 hx hy fun h' a1 a3 a4 a5 a6 hk=>wpAny_pure (hQ h' ⟨.inr ⟨T,true,a1,?_⟩,hk _ _ D.TIz D.TIi1 D.TIi2 hTI,⟨_,_,hk _ _ D.TOz D.TOi1 D.TOi2 hTO⟩,a3,a4,hl1.at fun o e=>hk _ o D.l1z D.l1i1 D.l1i2 e,hl2.at fun o e=>hk _ o D.l2z D.l2i1 D.l2i2 e⟩ a5 a6 fun c o c1 _ c3 c4 e=>hk c o c1 c3 c4 e)) (F.args_zip_next_1 _))))
  obtain⟨o,ho⟩:=hT
  by_cases c1:T=z
  ·exact⟨_,by rw[c1]; exact a1⟩
  by_cases c2:T=i1
  ·obtain⟨o',e',_⟩:=a3; exact⟨o',by rw[c2]; exact e'⟩
  by_cases c3:T=i2
  ·obtain⟨o',e',_⟩:=a4; exact⟨o',by rw[c3]; exact e'⟩
  exact⟨o,hk _ _ c1 c2 c3 ho⟩
theorem Be{z TI TO i1 i2 l1 l2:Addr}{i:Nat}{xs ys:Array Value}{Q:Option Value→Shared→Prop}(hh:A.handled=none)(D:ZipApart z TI TO i1 i2 l1 l2)(h:ZOs z TI TO i1 i2 l1 l2 xs ys i s.heap)(hend:xs[i]? = none∨ys[i]? = none)
  (hQ:∀ h',(∀ c o,c≠z→c≠TO→c≠i1→c≠i2→s.heap.get? c=some o→h'.get? c=some o)→Q none { s with heap:=h' }):wpAny (model prog w) A (pyNext (.ref z)) Q E s:=by
 obtain⟨hz,hTI,⟨a,b,hTO⟩,h1,h2,hl1,hl2⟩:=h
 rcases hz with hz | ⟨T,f,hz,hT⟩
 ·exact wpAny_pyNext_zip_end hh D hz hTI hTO h1 h2 hl1 hl2 hend hQ
 ·have hTy:s.TypeIs (.ref z) "zip" := ⟨_,hz,rfl⟩
  unfold pyNext
  refine wpAny_bind (wpAny_attempt (wpAny_callSpecial?_slot (name:=Str.ofString "__next__") hTy F.slot_zip_next
   (wpAny_call_entry F.slot_zip_next hTy F.entry_zip_next (xX hh D hz hT hTI h1 h2 hl1 hl2 hend fun h' e hk he=>?_) (F.args_zip_next_1 _))))
  obtain⟨o,ho,hc⟩:=he
  refine wpAny_bind (wpAny_isInstance (T := "StopIteration") (b:=true) ⟨o,ho,hc⟩ isSubtype_stop ?_)
  exact wpAny_pure (hQ _ fun c o c1 _ c3 c4 e=>hk c o c1 c3 c4 e)
theorem ZOs.at{z TI TO i1 i2 l1 l2:Addr}{xs ys:Array Value}{i:Nat}{h h':Heap}(x:ZOs z TI TO i1 i2 l1 l2 xs ys i h)(k:∀ b o,h.get? b=some o→((b=z∨b=TI∨b=TO∨b=i1∨b=i2∨b=l1∨b=l2)→h'.get? b=some o)∧∃ o',h'.get? b=some o'):ZOs z TI TO i1 i2 l1 l2 xs ys i h':=by
 obtain⟨hz,hTI,⟨a,b,hTO⟩,h1,h2,hl1,hl2⟩:=x
 refine⟨?_,(k _ _ hTI).1 (by simp),⟨a,b,(k _ _ hTO).1 (by simp)⟩,h1.at fun o e=>(k _ _ e).1 (by simp),h2.at fun o e=>(k _ _ e).1 (by simp),hl1.at fun o e=>(k _ _ e).1 (by simp),hl2.at fun o e=>(k _ _ e).1 (by simp)⟩
 rcases hz with hz | ⟨T,f,hz,o,hT⟩
 ·exact .inl ((k _ _ hz).1 (by simp))
 ·exact .inr ⟨T,f,(k _ _ hz).1 (by simp),(k _ _ hT).2⟩
def wW(xs ys:Array Value)(B:Nat)(acc:Array Value)(i:Nat)(h:Heap):Prop:=acc.size=i∧∀ j v,acc[j]? = some v→∃ x y,v = .ref (B+j)∧xs[j]? = some x∧ys[j]? = some y∧IsPair h (B+j) x y
theorem ug{R:Result→Shared→Prop}{z TI TO i1 i2 l1 l2:Addr}{xs ys:Array Value}{n:Nat}(hh:A.handled=none)(D:ZipApart z TI TO i1 i2 l1 l2)(hn:n≤1000)(hxy:∀ i,i<n→∃ x y,xs[i]? = some x∧ys[i]? = some y)(hend:xs[n]? = none∨ys[n]? = none)
  (S:Addr) (B:Nat) (hSB:S<B) (hS:∀ b,(b=z∨b=TI∨b=TO∨b=i1∨b=i2∨b=l1∨b=l2)→b<S) (res:Value) :
  ∀ (k i:Nat) (s:Shared) (acc:Array Value) (c:Nat),n - i=k→i≤n→ZOs z TI TO i1 i2 l1 l2 xs ys i s.heap→s.heap.get? S=some { cls:=.type "list", dict:=none,data:=.seq acc c,slots:=#[] }→wW xs ys B acc i s.heap→s.heap.objs.size=B+i→
  (∀ h' acc' c',(∀ b o,b≠S→b≠z→b≠TO→b≠i1→b≠i2→s.heap.get? b=some o→h'.get? b=some o)→h'.get? S=some { cls:=.type "list", dict:=none,data:=.seq acc' c',slots:=#[] }→wW xs ys B acc' n h'→R (.ok (.ret res)) { s with heap:=h' })→
  codeAny (model prog w) A (.builtin "list.extend.loop" ⟨[.ref S,.ref z,res],[]⟩) R s:=by
 have sz:S≠z:=Nat.ne_of_gt (hS z (by simp))
 have sTO:S≠TO:=Nat.ne_of_gt (hS TO (by simp))
 have si1:S≠i1:=Nat.ne_of_gt (hS i1 (by simp))
 have si2:S≠i2:=Nat.ne_of_gt (hS i2 (by simp))
 have bz:∀ j,B+j≠z:=fun j=>Nat.ne_of_gt (Nat.lt_of_lt_of_le (Nat.lt_trans (hS z (by simp)) hSB) (Nat.le_add_right _ _))
 have bTO:∀ j,B+j≠TO:=fun j=>Nat.ne_of_gt (Nat.lt_of_lt_of_le (Nat.lt_trans (hS TO (by simp)) hSB) (Nat.le_add_right _ _))
 have bi1:∀ j,B+j≠i1:=fun j=>Nat.ne_of_gt (Nat.lt_of_lt_of_le (Nat.lt_trans (hS i1 (by simp)) hSB) (Nat.le_add_right _ _))
 have bi2:∀ j,B+j≠i2:=fun j=>Nat.ne_of_gt (Nat.lt_of_lt_of_le (Nat.lt_trans (hS i2 (by simp)) hSB) (Nat.le_add_right _ _))
 have bS:∀ j,B+j≠S:=fun j=>Nat.ne_of_gt (Nat.lt_of_lt_of_le hSB (Nat.le_add_right _ _))
 intro k
 induction k with
 | zero=>
  intro i s acc c hk hi hst hSs hacc hsz hR
  have hin:i=n:=by omega
  subst hin;refine codeAny_builtin F.entry_extend_loop ?_
  rw[Around.under_plainId F.plain_extend_loop _];show wpAny _ A.in1 (pyNext (.ref z) >>= _) _ _ s
  refine wpAny_bind (Be (A:=A.in1) hh D hst hend fun h' hk'=>?_)
  refine wpAny_pure (hR h' acc c (fun b o _ c1 c2 c3 c4 e=>hk' b o c1 c2 c3 c4 e) (hk' _ _ sz sTO si1 si2 hSs) ⟨hacc.1,fun j v e=>?_⟩)
  obtain⟨x,y,e1,e2,e3,e4⟩:=hacc.2 j v e
  exact⟨x,y,e1,e2,e3,hk' _ _ (bz j) (bTO j) (bi1 j) (bi2 j) e4⟩
 | succ k ih=>
  intro i s acc c hk hi hst hSs hacc hsz hR
  have hlt:i<n:=by omega
  obtain⟨x,y,hx,hy⟩:=hxy i hlt
  refine codeAny_builtin F.entry_extend_loop ?_
  rw[Around.under_plainId F.plain_extend_loop _];show wpAny _ A.in1 (pyNext (.ref z) >>= _) _ _ s
  refine wpAny_bind (yk (A:=A.in1) D hst hx hy fun h' hst' hp hsz' hk'=>?_)
  have hS':=hk' _ _ sz sTO si1 si2 hSs;have hs16:sizeLine=16777216:=sizeLine_eq
  show wpAny _ A.in1 (updateSeq S (·.push (.ref s.heap.objs.size)) >>= _) _ _ _
  refine wpAny_bind ?_
  refine wpAny_updateSeq hS' rfl (wpAny_pure ⟨plainId_quiet F.plain_extend_loop _,?_⟩) (by rw[hacc.1]; omega) (by show (acc.push _).size≤sizeLine+1; rw[Array.size_push,hacc.1]; omega)
  have oth:∀ b o,b≠S→h'.get? b=some o→(h'.update S (Obj.mapSeq (·.push (.ref s.heap.objs.size)))).get? b=some o:=fun b o hb e=>(Heap.get?_update_other _ _ (Ne.symm hb)).trans e
  have hself:=Heap.get?_update_self (Obj.mapSeq (·.push (.ref s.heap.objs.size))) hS' rfl;have hszu:(h'.update S (Obj.mapSeq (·.push (.ref s.heap.objs.size)))).objs.size=h'.objs.size:=(Heap.SameBut.update ..).1
  refine ih (i+1) _ (acc.push (.ref s.heap.objs.size)) _ (by omega) hlt (hst'.at fun b o e=>⟨fun hb=>oth b o (Nat.ne_of_lt (hS b hb)) e,?_⟩) hself ⟨by rw[Array.size_push,hacc.1],fun j v e=>?_⟩ ?_ fun h'' acc' c' hk2 hS2 hacc2=>?_
  ·by_cases hb:b=S
   ·subst hb; exact⟨_,hself⟩
   ·exact⟨o,oth b o hb e⟩
  ·rw[Array.getElem?_push]at e
   split at e
   ·rename_i ej
    rw[hacc.1]at ej
    subst ej
    cases e;refine⟨x,y,by rw[hsz],hx,hy,?_⟩
    rw[← hsz];exact oth _ _ (by rw[hsz]; exact bS _) hp
   ·obtain⟨x',y',e1,e2,e3,e4⟩:=hacc.2 j v e
    exact⟨x',y',e1,e2,e3,oth _ _ (bS j) (hk' _ _ (bz j) (bTO j) (bi1 j) (bi2 j) e4)⟩
  ·show (h'.update S _).objs.size=_
   rw[hszu,hsz',hsz]; omega
  ·refine hR h'' acc' c' (fun b o c0 c1 c2 c3 c4 e=>hk2 b o c0 c1 c2 c3 c4 (oth b o c0 (hk' b o c1 c2 c3 c4 e))) hS2 hacc2
theorem u5:typeLookup (.type "zip") "__len__" = pure none:=by rw[typeLookup_type,builtinLookup_eq_fast]; kernel_rfl
theorem rC:typeLookup (.type "zip") "__length_hint__" = pure none:=by rw[typeLookup_type,builtinLookup_eq_fast]; kernel_rfl
theorem ZOs.typ{z TI TO i1 i2 l1 l2:Addr}{xs ys:Array Value}{i:Nat}(h:ZOs z TI TO i1 i2 l1 l2 xs ys i s.heap):s.TypeIs (.ref z) "zip" := by
 rcases h.1 with hz | ⟨T,f,hz,_⟩
 ·exact⟨_,hz,rfl⟩
 ·exact⟨_,hz,rfl⟩
theorem rJ{R:Result→Shared→Prop}{z TI TO i1 i2 l1 l2:Addr}{xs ys:Array Value}{n:Nat}(hh:A.handled=none)(D:ZipApart z TI TO i1 i2 l1 l2)(hn:n≤1000)(hxy:∀ i,i<n→∃ x y,xs[i]? = some x∧ys[i]? = some y)(hend:xs[n]? = none∨ys[n]? = none)
  (S:Addr) (hS:∀ b,(b=z∨b=TI∨b=TO∨b=i1∨b=i2∨b=l1∨b=l2)→b<S) (res:Value) (c₀ : Nat) (hz:IsZip s.heap z TI TO .none) (hst:ZOs z TI TO i1 i2 l1 l2 xs ys 0 s.heap) (hSs:s.heap.get? S=some { cls:=.type "list", data:=.seq #[] c₀ }) (hsz:s.heap.objs.size=S+1)
  (hR:∀ h' acc' c',(∀ b o,b≠S→b≠z→b≠TO→b≠i1→b≠i2→s.heap.get? b=some o→h'.get? b=some o)→h'.get? S=some { cls:=.type "list", dict:=none,data:=.seq acc' c',slots:=#[] }→wW xs ys (S+1) acc' n h'→R (.ok (.ret res)) { s with heap:=h' }) :
  wpAny (model prog w) A.in1 (Builtin.List.listExtendWith (.ref S) (.ref z) res)
   (fun fin s'=>match fin with | .done f=>R (.ok f) s' | .again c'=>c'.quiet=true∧codeAny (model prog w) A c' R s') (fun e s'=>R (.error e) s') s:=by
 have sz:S≠z:=Nat.ne_of_gt (hS z (by simp))
 have hty:=hst.typ;unfold Builtin.List.listExtendWith;refine wpAny_bind (wpAny_typeOf hty ?_)
 have h1:Builtin.List.listSameRef (.ref S) (.ref z)=false:=by simp[Builtin.List.listSameRef,sz]
 have h2:(Value.type "zip" == Value.type "list")=false:=by decide
 have h3:(Value.type "zip" == Value.type "tuple")=false:=by decide
 simp only[h1,h2,h3,Bool.or_false,Bool.false_eq_true,if_false]
 refine wpAny_bind (wpAny_pyIter_zip hz ?_)
 refine wpAny_bind (wpAny_holding ?_)
 unfold Builtin.List.listLengthHint;refine wpAny_bind (wpAny_specialOf hty u5 ?_)
 show wpAny _ A.in1 (specialOf (Value.ref z) (Str.ofString "__length_hint__") >>= _) _ _ _
 refine wpAny_bind (wpAny_specialOf hty rC ?_)
 refine wpAny_pure ?_
 show wpAny _ A.in1 (rule "list.extend.makes-room" >>= fun _=>Builtin.List.listTouch (.ref S) >>= fun _=>
  again (.builtin "list.extend.loop" ⟨[.ref S,.ref z,res],[]⟩)) _ _ _
 refine wpAny_bind (wpAny_rule ?_)
 refine wpAny_bind ?_
 show wpAny _ A.in1 (updateSeq S (·.push .none) >>= fun _=>updateSeq S (·.pop)) _ _ _
 refine wpAny_bind (wpAny_updateSeq hSs rfl ?_)
 have hS₂:=Heap.get?_update_self (Obj.mapSeq (·.push Value.none)) hSs rfl;refine wpAny_updateSeq hS₂ rfl ?_
 have hS₃:=Heap.get?_update_self (Obj.mapSeq (·.pop)) hS₂ rfl
 have oth:∀ b o,b≠S→s.heap.get? b=some o→((s.heap.update S (Obj.mapSeq (·.push Value.none))).update S (Obj.mapSeq (·.pop))).get? b=some o:=
  fun b o hb e=>(Heap.get?_update_other _ _ (Ne.symm hb)).trans ((Heap.get?_update_other _ _ (Ne.symm hb)).trans e)
 have hz3:((s.heap.update S (Obj.mapSeq (·.push Value.none))).update S (Obj.mapSeq (·.pop))).objs.size=S+1:=by
  rw[(Heap.SameBut.update ..).1,(Heap.SameBut.update ..).1,hsz]
 refine wpAny_pure ⟨plainId_quiet F.plain_extend_loop _,ug (A:=A) hh D hn hxy hend S (S+1) (Nat.lt_succ_self _) hS res n 0 _ _ _ rfl (Nat.zero_le _) (hst.at fun b o e=>⟨fun hb=>oth b o (Nat.ne_of_lt (hS b hb)) e,?_⟩) hS₃ ⟨rfl,fun j v e=>by simp at e⟩ hz3 fun h' acc' c' hk hS' hacc=>?_⟩
 ·by_cases hb:b=S
  ·subst hb; exact⟨_,hS₃⟩
  ·exact⟨o,oth b o hb e⟩
 ·exact hR h' acc' c' (fun b o c0 c1 c2 c3 c4 e=>hk b o c0 c1 c2 c3 c4 (oth b o c0 e)) hS' hacc
theorem n8{Q:Value→Shared→Prop}{z TI TO i1 i2 l1 l2:Addr}{xs ys:Array Value}{n:Nat}(hh:A.handled=none)(D:ZipApart z TI TO i1 i2 l1 l2)(hn:n≤1000)(hxy:∀ i,i<n→∃ x y,xs[i]? = some x∧ys[i]? = some y)(hend:xs[n]? = none∨ys[n]? = none)
  (hz:IsZip s.heap z TI TO .none) (hst:ZOs z TI TO i1 i2 l1 l2 xs ys 0 s.heap)
  (hQ:∀ h' acc' c',(∀ b o,b≠z→b≠TO→b≠i1→b≠i2→s.heap.get? b=some o→h'.get? b=some o)→
   h'.get? s.heap.objs.size=some { cls:=.type "list", dict:=none,data:=.seq acc' c',slots:=#[] }→wW xs ys (s.heap.objs.size+1) acc' n h'→Q (.ref s.heap.objs.size) { s with heap:=h' }) :
  wpAny (model prog w) A (call (.type "list") [.ref z]) Q E s:=by
 have lt:∀ b,(b=z∨b=TI∨b=TO∨b=i1∨b=i2∨b=l1∨b=l2)→b<s.heap.objs.size:=fun b hb=>by
  obtain⟨_,hTI,⟨a',b',hTO⟩,⟨_,h1,_⟩,⟨_,h2,_⟩,⟨_,hl1,_⟩,⟨_,hl2,_⟩⟩:=id hst
  rcases hb with rfl | rfl | rfl | rfl | rfl | rfl | rfl
  ·exact Heap.lt_size hz
  ·exact Heap.lt_size hTI
  ·exact Heap.lt_size hTO
  ·exact Heap.lt_size h1
  ·exact Heap.lt_size h2
  ·exact Heap.lt_size hl1
  ·exact Heap.lt_size hl2
 refine callType_codes (Q₁:=fun obj s₁=>obj = .ref s.heap.objs.size∧s₁={ s with heap:=s.heap.push { cls:=.type "list", data:=.seq #[] } }) F.called_list (F.typeCall_list_1 _) F.entry_list_init
  (code_list_new _ ⟨rfl,rfl⟩) fun obj s₁ h₁=>?_
 obtain⟨rfl,rfl⟩:=h₁
 have hS:(s.heap.push { cls:=.type "list", data:=.seq #[] }).get? s.heap.objs.size=some { cls:=.type "list", data:=.seq #[] }:=Heap.get?_push_size _ rfl
 refine⟨⟨_,hS,rfl⟩,F.args_list_init_2 _ _,?_⟩
 show wpAny _ _ (do let old ← Builtin.List.listItems (.ref s.heap.objs.size); Builtin.List.listUpdate (.ref s.heap.objs.size) (fun _=>#[]); letGo old.toList.reverse; Builtin.List.listExtendWith (.ref s.heap.objs.size) (.ref z) .none) _ _ _
 refine wpAny_bind ?_
 unfold Builtin.List.listItems;refine wpAny_bind (wpAny_seqItems hS rfl (wpAny_pure ?_))
 show wpAny _ _ (updateSeq s.heap.objs.size (fun _=>#[]) >>= fun _=>letGo (#[]:Array Value).toList.reverse >>= fun _=>Builtin.List.listExtendWith (.ref s.heap.objs.size) (.ref z) .none) _ _ _
 refine wpAny_bind (wpAny_updateSeq hS rfl ?_)
 have hS₂:=Heap.get?_update_self (Obj.mapSeq (fun _=>(#[]:Array Value))) hS rfl
 have oth:∀ b o,b≠s.heap.objs.size→s.heap.get? b=some o→((s.heap.push { cls:=.type "list", data:=.seq #[] }).update s.heap.objs.size (Obj.mapSeq (fun _=>(#[]:Array Value)))).get? b=some o:=
  fun b o hb e=>(Heap.get?_update_other _ _ (Ne.symm hb)).trans (Heap.get?_push_of_some _ e)
 refine wpAny_bind (wpAny_letGo ?_)
 have hk0:∀ b o,s.heap.get? b=some o→((s.heap.push { cls:=.type "list", data:=.seq #[] }).update s.heap.objs.size (Obj.mapSeq (fun _=>(#[]:Array Value)))).get? b=some o:=fun b o e=>oth b o (Nat.ne_of_lt (Heap.lt_size e)) e
 refine rJ (A:=A.in1) hh D hn hxy hend s.heap.objs.size lt .none _ (hk0 _ _ hz) (hst.at fun b o e=>⟨fun _=>hk0 b o e,o,hk0 b o e⟩) hS₂ (by show (Heap.update _ _ _).objs.size=_; rw[(Heap.SameBut.update ..).1,Heap.size_push]) fun h' acc' c' hk hS' hacc=>?_
 exact⟨rfl,hQ h' acc' c' (fun b o c1 c2 c3 c4 e=>hk b o (Nat.ne_of_lt (Heap.lt_size e)) c1 c2 c3 c4 (hk0 b o e)) hS' hacc⟩
end
section
variable{X:Cx}{pins:List (Addr × Obj)}{σ : St}{H:Hp}{s:Shared}
theorem Inv.trk{a:Addr}{o:HO}(I:Inv X pins σ H s)(hn:H a=none)(h0:∀ b ob,X.s₀.heap.get? b=some ob→b≠a)(hl:X.env.locals≠a)(hc:∀ x c,X.env.cells.lookup x=some c→c≠a)
  (hp:∀ p∈X.pn++pins,p.1≠a) (ok:ObjOk X.prog X.w (upd H a o) s.heap a o):Inv X pins σ (upd H a o) s:=by
 refine⟨I.ok,I.os,I.bare,⟨I.base.keep,I.base.slot,fun b ob q n z=>?_,I.base.there,fun b xs q=>?_,fun b ob xs q=>?_,fun b ps q=>?_⟩,I.loc,I.cell,?_,fun x c q=>?_,fun p hm=>?_,fun b ob q=>?_,I.len⟩
 ·rw[am (h0 b ob q)]; exact I.base.free b ob q n z
 ·have:=I.base.tups b xs q; rw[am (aF this hn)]; exact this
 ·have:=I.base.frzs b ob xs q; rw[am (aF this hn)]; exact this
 ·obtain⟨m,e⟩:=I.base.tbls b ps q; exact⟨m,by rw[am (aF e hn)]; exact e⟩
 ·rw[am hl]; exact I.free
 ·rw[am (hc x c q)]; exact I.freeC x c q
 ·obtain⟨e1,e2,e3⟩:=I.pin p hm
  exact⟨e1,by rw[am (hp p hm)]; exact e2,e3⟩
 ·by_cases e:b=a
  ·subst e; rw[show upd H b o b=some o from if_pos rfl]at q; cases q; exact ok
  ·rw[am e]at q
   exact(I.hok b ob q).stay (fun _ _ _ z=>z) (fun c z=>by rw[am (aF z hn)]; exact z) fun c xs z=>by rw[am (aF z hn)]; exact z
end
def zR(K:PySem.W.Frag)(ta:TA):TE:=fun σ H Q=>ta σ H fun vs H1=>∃ (a b:Addr) (xs ys:List V),vs=[.ref a,.ref b]∧SqL K H1 a xs∧SqL K H1 b ys∧xs.length=ys.length∧xs.length≤1000∧
 ∀ (p:Addr) (ts:List Addr) (H2:Hp),Same H1 H2→H1 p=none→H2 p=some (.lst (ts.map V.ref))→ts.length=xs.length→(∀ (j:Nat) (t:Addr),ts[j]? = some t→∃ x y,xs[j]? = some x∧ys[j]? = some y∧H2 t=some (.tup [x,y])∧H1 t=none)→Q (.ref p) H2
section
variable{X:Cx}{pins:List (Addr × Obj)}{σ : St}{H H1:Hp}{s s1:Shared}
theorem Inv.trkF{a:Addr}{o:HO}(I:Inv X pins σ H s)(I1:Inv X pins σ H1 s1)(hb:s1.heap.objs.size≤a)(hn:H a=none)(ok:ObjOk X.prog X.w (upd H a o) s.heap a o):Inv X pins σ (upd H a o) s:=by
 obtain⟨_,f1,_,_,f4,f5⟩:=I1.fpOk (H':=H) hb hn
 exact I.trk hn (fun b ob e=>Nat.ne_of_lt (Nat.lt_of_lt_of_le (Heap.lt_size e) (Nat.le_trans I1.sz hb))) (fun z=>f1 z.symm) f4 f5 ok
theorem sw(I1:Inv X pins σ H1 s1)(B:Nat)(hB:s1.heap.objs.size≤B):∀ (L:List (V × V)) (j:Nat) (H:Hp),Inv X pins σ H s→(∀ i,j≤i→H (B+i)=none)→(∀ i p,L[i]? = some p→∃ u v,RelV p.1 u∧RelV p.2 v∧IsPair s.heap (B+(j+i)) u v)→
  ∃ H2,Inv X pins σ H2 s∧Same H H2∧∀ i p,L[i]? = some p→H2 (B+(j+i))=some (.tup [p.1,p.2])
 | [],j,H,I,_,_=>⟨H,I,fun _ _ e=>e,fun i p e=>by simp at e⟩
 | p::L,j,H,I,hn,hp=>by
  obtain⟨u,v,ru,rv,e0⟩:=hp 0 p rfl
  have hs:sizeLine=16777216:=sizeLine_eq
  have hnj:=hn j (Nat.le_refl _);have I2:=I.trkF (a:=B+j) (o:=.tup [p.1,p.2]) I1 (Nat.le_trans hB (Nat.le_add_right _ _)) hnj ⟨by simp[hs],[u,v],.cons ru (.cons rv .nil),_,e0,rfl,rfl,_,rfl⟩
  obtain⟨H2,J,sm,hh⟩:=sw I1 B hB L (j+1) (upd H (B+j) (.tup [p.1,p.2])) I2 (fun i hi=>by
   have ne:B+i≠B+j:=(show (@Ne Nat (B+i) (B+j):Prop) by omega)
   rw[am ne]; exact hn i (by omega)) (fun i q e=>by
   obtain⟨u',v',r1,r2,r3⟩:=hp (i+1) q (by rw[List.getElem?_cons_succ]; exact e)
   refine⟨u',v',r1,r2,?_⟩
   rw[show B+(j+1+i)=B+(j+(i+1)) by omega]; exact r3)
  refine⟨H2,J,(bh hnj _).trans sm,fun i q e=>?_⟩
  cases i with
  | zero=>cases e; exact sm _ _ ar
  | succ i=>
   rw[show B+(j+(i+1))=B+(j+1+i) by omega]
   exact hh i q (by rw[List.getElem?_cons_succ]at e; exact e)
end
theorem FO{n l1 l2:Addr}(h1:l1<n)(h2:l2<n):ZipApart (n+4) (n+2) (n+3) n (n+1) l1 l2:=by
 have a:=Hb n;have k1:∀ j,l1≠n+j:=fun j=>Nat.ne_of_lt (Nat.lt_of_lt_of_le h1 (Nat.le_add_right _ _))
 have k2:∀ j,l2≠n+j:=fun j=>Nat.ne_of_lt (Nat.lt_of_lt_of_le h2 (Nat.le_add_right _ _))
 exact⟨a.TIz,a.TOz,a.i1z,a.i2z,a.TITO,a.TIi1,a.TIi2,a.TOi1,a.TOi2,a.i12,k1 4,k1 3,Nat.ne_of_lt h1,k1 1,k2 4,k2 3,Nat.ne_of_lt h2,k2 1⟩
theorem uJ(K:PySem.W.Frag){X:Cx}{m:Nat}{a b:Expr}{ta:TA}{p p2 pos pos2:Pos}(hr:Room m X.A)(hg:Gl X "list") (hm:X.mg "list" = none) (hg2:Gl X "zip") (hm2:X.mg "zip" = none) (ha:PA X [a,b] ta)
  (hs:starEach [a,b] X.env=[(false,eval a X.env),(false,eval b X.env)]:=by rfl) (hs1:starEach [b] X.env=[(false,eval b X.env)]:=by rfl) (hs2:starEach [.Call (.Name "zip" p2) [a,b] [] pos2] X.env=[(false,eval (.Call (.Name "zip" p2) [a,b] [] pos2) X.env)]:=by rfl) (hK:X.K=K:=by rfl) :
  PE X (.Call (.Name "list" p) [.Call (.Name "zip" p2) [a,b] [] pos2] [] pos) (zR K ta):=by
 subst hK;intro pins s σ H Q I h
 refine Call_ (gK I hg hm AZ (PyProof.Rows.callWith_type1 ?_ hs2 rfl))
 rw[hs2];show wpAny _ _ (spliced ((false,eval (.Call (.Name "zip" p2) [a,b] [] pos2) X.env)::[])) _ _ s
 refine Calls.spliced_cons ?_
 refine Call_ (gK I hg2 hm2 zh (PyProof.Rows.callWith_type1 (bq (ha pos2 pins s σ H _ I h) fun us s1 ⟨vs,H1,I1,r1,q1⟩=>?_) (by rw[hs,hs1]) (by rw[hs1]; rfl)))
 obtain⟨l1,l2,xs,ys,e,h1,h2,hlen,hle,q⟩:=q1
 subst e;obtain⟨u1,u2,rfl,r1,r2⟩:=ow r1
 cases r1
 cases r2;obtain⟨is1,v1,p1,_⟩:=I1.list h1
 obtain⟨is2,v2,p2,_⟩:=I1.list h2
 have n1:is1.length=xs.length:=v1.length.symm
 have n2:is2.length=xs.length:=by rw[hlen]; exact v2.length.symm
 refine call_zip_2 p1.isList p2.isList fun h' a1 a2 a3 a4 a5 a6 kk=>?_
 refine Calls.spliced_nil ?_
 obtain⟨_,b1,_⟩:=id p1.isList
 obtain⟨_,b2,_⟩:=id p2.isList
 refine n8 (s:={ s1 with heap:=h' }) (xs:=is1.toArray) (ys:=is2.toArray) (n:=xs.length) hr.hd (FO (Heap.lt_size b1) (Heap.lt_size b2)) hle (fun i hi=>⟨is1[i]'(by omega),is2[i]'(by omega),by simp[n1,hi],by simp[n2,hi]⟩) (.inl (by simp[n1])) a1 ⟨.inl a1,a2,⟨_,_,a3⟩,a4,a5,p1.isList.at fun o e=>kk _ o e,p2.isList.at fun o e=>kk _ o e⟩ fun h'' acc' c' hk hS hacc=>?_
 have I2:Inv X pins σ H1 { s1 with heap:=h'' }:=I1.kept (t':=s1.toks) fun b o e=>by
  have hb:=Heap.lt_size e;have ne:∀ j,b≠s1.heap.objs.size+j:=fun j=>Nat.ne_of_lt (Nat.lt_of_lt_of_le hb (Nat.le_add_right _ _))
  exact hk b o (ne 4) (ne 3) (Nat.ne_of_lt hb) (ne 1) (kk b o e)
 have hS':h''.get? h'.objs.size=some { cls:=.type "list", dict:=none,data:=.seq acc' c',slots:=#[] }:=hS
 have hacc':wW is1.toArray is2.toArray (h'.objs.size+1) acc' xs.length h'':=hacc
 have hsz:s1.heap.objs.size≤h'.objs.size:=by rw[a6]; exact Nat.le_add_right _ _
 have hsl:sizeLine=16777216:=sizeLine_eq
 have hn0:∀ b,h'.objs.size≤b→H1 b=none:=fun b hb=>I1.hok.fresh (Nat.le_trans hsz hb)
 have hat:∀ j,j<xs.length→acc'[j]? = some (.ref (h'.objs.size+1+j))∧∃ u v,is1[j]? = some u∧is2[j]? = some v∧IsPair h'' (h'.objs.size+1+j) u v:=fun j hj=>by
  have hj':j<acc'.size:=by rw[hacc'.1]; exact hj
  have e:=Array.getElem?_eq_getElem hj';obtain⟨x,y,e1,e2,e3,e4⟩:=hacc'.2 j _ e
  exact⟨by rw[e,e1],x,y,by simpa using e2,by simpa using e3,e4⟩
 have I3:=I2.trkF (a:=h'.objs.size) (o:=.lst (((List.range xs.length).map fun j=>h'.objs.size+1+j).map V.ref)) I1 hsz (hn0 _ (Nat.le_refl _)) ⟨by simp; omega,acc'.toList,c',tJ _ _ (by simp[hacc'.1]) fun j x w' e1 e2=>by
  have hj:j<xs.length:=by
   refine Classical.byContradiction fun hn=>?_
   rw[List.getElem?_eq_none (by simp; omega)]at e1; cases e1
  rw[List.getElem?_map,List.getElem?_map,List.getElem?_range hj]at e1
  cases e1;have e3:=(hat j hj).1;rw[← Array.getElem?_toList,e2]at e3
  cases e3;exact rfl,by simpa using hS'⟩
 obtain⟨H2,I4,sm,ht⟩:=sw I1 (h'.objs.size+1) (Nat.le_trans hsz (Nat.le_succ _)) (xs.zip ys) 0 _ I3 (fun i _=>by
  have ne:h'.objs.size+1+i≠h'.objs.size:=(show (@Ne Nat (h'.objs.size+1+i) (h'.objs.size):Prop) by omega)
  rw[am ne]
  exact hn0 _ (Nat.le_trans (Nat.le_succ _) (Nat.le_add_right _ _))) (fun i p e=>by
  have hi:i<xs.length:=by have:=(List.getElem?_eq_some_iff.mp e).1; rw[List.length_zip,← hlen,Nat.min_self]at this; exact this
  obtain⟨_,u,v,f1,f2,f3⟩:=hat i hi
  rw[List.getElem?_zip_eq_some]at e
  refine⟨u,v,iT v1 e.1 f1,iT v2 e.2 f2,?_⟩
  rw[Nat.zero_add]; exact f3)
 refine⟨.ref h'.objs.size,H2,I4,rfl,q h'.objs.size ((List.range xs.length).map fun j=>h'.objs.size+1+j) H2 ((bh (hn0 _ (Nat.le_refl _)) _).trans sm) (hn0 _ (Nat.le_refl _)) (sm _ _ ar) (by simp) (fun j t e=>?_)⟩
 have hj:j<xs.length:=by have:=(List.getElem?_eq_some_iff.mp e).1; simpa using this
 rw[List.getElem?_map,List.getElem?_range hj]at e
 cases e;have hj2:j<ys.length:=by omega
 refine⟨xs[j],ys[j],List.getElem?_eq_getElem hj,List.getElem?_eq_getElem hj2,?_,hn0 _ (Nat.le_trans (Nat.le_succ _) (Nat.le_add_right _ _))⟩
 have:=ht j (xs[j],ys[j]) (by rw[List.getElem?_zip_eq_some]; exact⟨List.getElem?_eq_getElem hj,List.getElem?_eq_getElem hj2⟩)
 rw[Nat.zero_add]at this
 exact this
end L2
namespace L2
open PySem PySem.Spec PyProof.Rows PySem.SeqAt PySem.Builtin PySem.Builtin.Str PySem.StrLaws
end L2
namespace L2
open PySem
def gM(M i:Nat):Nat:=(i * 5+1) % M
def jQ(M:Nat):Nat→Nat→Nat
 | 0,i=>i
 | t+1,i=>jQ M t (gM M i)
theorem jH(M:Nat):∀ (a b i:Nat),jQ M (a+b) i=jQ M b (jQ M a i)
 | 0,b,i=>by rw[Nat.zero_add]; rfl
 | a+1,b,i=>by rw[show a+1+b=(a+b)+1 by omega]; exact jH M a b (gM M i)
def yr(M:Nat):Nat→Nat→List Nat
 | 0,_=>[]
 | n+1,i=>i::yr M n (gM M i)
theorem sI(M:Nat):∀ (n i e:Nat),e∈yr M n i→∃ t,t<n∧jQ M t i=e
 | 0,i,e,h=>by cases h
 | n+1,i,e,h=>by
  rcases List.mem_cons.mp h with rfl | h
  ·exact⟨0,by omega,rfl⟩
  ·obtain⟨t,ht,q⟩:=sI M n (gM M i) e h
   exact⟨t+1,by omega,q⟩
theorem AU{M:Nat}(hM:M∈[8,16,32,64,128,256]){i e:Nat}(hi:i<M)(he:e<M):∃ t,t<M∧jQ M t i=e:=by
 have h1:∀ M∈[8,16,32,64,128,256],jQ M M 0=0∧(List.range M).all (fun e=>(yr M M 0).contains e)=true:=by decide +kernel
 obtain⟨h0,hall⟩:=h1 M hM
 rw[List.all_eq_true]at hall
 have meet:∀ e,e<M→∃ t,t<M∧jQ M t 0=e:=fun e he=>sI M M 0 e (by have:=hall e (List.mem_range.mpr he); simpa using this)
 obtain⟨a,ha,ea⟩:=meet i hi
 obtain⟨b,hb,eb⟩:=meet e he
 rcases Nat.lt_or_ge b a with z | z
 ·refine⟨b+M - a,by omega,?_⟩
  rw[← ea,← jH,show a+(b+M - a)=M+b by omega,jH,h0,eb]
 ·refine⟨b - a,by omega,?_⟩
  rw[← ea,← jH,show a+(b - a)=b by omega,eb]
def i6(mask:Nat):Nat→Nat→Nat→Nat
 | 0,i,p=>i
 | t+1,i,p=>i6 mask t ((i * 5+1+p / 32) % (mask+1)) (p / 32)
theorem oE(mask:Nat):∀ (t i:Nat),i6 mask t i 0=jQ (mask+1) t i
 | 0,i=>rfl
 | t+1,i=>by
  show i6 mask t ((i * 5+1+0 / 32) % (mask+1)) (0 / 32)=jQ (mask+1) t (gM (mask+1) i)
  rw[Nat.zero_div,Nat.add_zero];exact oE mask t _
theorem sK(mask:Nat):∀ (a b i p:Nat),i6 mask (a+b) i p=i6 mask b (i6 mask a i p) (p / 32 ^ a)
 | 0,b,i,p=>by rw[Nat.zero_add,Nat.pow_zero,Nat.div_one]; rfl
 | a+1,b,i,p=>by
  rw[show a+1+b=(a+b)+1 by omega]
  show i6 mask (a+b) _ (p / 32)=i6 mask b (i6 mask a _ (p / 32)) _
  rw[sK mask a b,Nat.div_div_eq_div_mul,Nat.pow_succ,Nat.mul_comm (32 ^ a) 32]
theorem vy(mask:Nat):∀ (t i p:Nat),i≤mask→i6 mask t i p≤mask
 | 0,i,p,h=>h
 | t+1,i,p,h=>vy mask t _ _ (by have:=Nat.mod_lt (i * 5+1+p / 32) (show 0<mask+1 by omega); omega)
theorem DA(mask i:Nat):i≤SetTable.runEnd mask i:=by unfold SetTable.runEnd; split <;> omega
theorem nu{mask:Nat}{owner:Array (Option Nat)}:∀ (f i p:Nat),SetTable.layClean.free mask owner f i p=none→∀ t,t<f→(owner.getD (i6 mask t i p) (some 0)).isNone=false
 | 0,i,p,h,t,ht=>by omega
 | f+1,i,p,h,t,ht=>by
  unfold SetTable.layClean.free at h;split at h
  ·cases h
  ·rename_i hf
   rw[List.find?_eq_none]at hf
   cases t with
   | zero=>
    have t:=hf 0 (List.mem_range.mpr (by have:=DA mask i; omega))
    rw[Nat.add_zero]at t
    exact Bool.eq_false_iff.mpr t
   | succ t=>exact nu f _ _ h t (by omega)
theorem nC{mask:Nat}{owner:Array (Option Nat)}{j:Nat}:∀ (f i p:Nat),SetTable.layClean.free mask owner f i p=some j→(owner.getD j (some 0)).isNone=true
 | 0,i,p,h=>by unfold SetTable.layClean.free at h; cases h
 | f+1,i,p,h=>by
  unfold SetTable.layClean.free at h;split at h
  ·rename_i k hf
   cases h;exact @List.find?_some _ (fun k=>(owner.getD (i+k) (some 0)).isNone) _ _ hf
  ·exact nC f _ _ h
theorem Bb(h:Int):SetTable.bits h<2 ^ 64:=by
 unfold SetTable.bits;omega
theorem A7{mask:Nat}(hM:mask+1∈[8,16,32,64,128,256]){owner:Array (Option Nat)}{e:Nat}(he:e≤mask)(hn:(owner.getD e (some 0)).isNone=true)(h:Int) :
  ∃ j,SetTable.layClean.free mask owner (SetTable.turns mask) (SetTable.bits h % (mask+1)) (SetTable.bits h)=some j∧(owner.getD j (some 0)).isNone=true:=by
 cases q:SetTable.layClean.free mask owner (SetTable.turns mask) (SetTable.bits h % (mask+1)) (SetTable.bits h) with
 | some j=>exact⟨j,rfl,nC _ _ _ q⟩
 | none=>
  exfalso
  have hno:=nu _ _ _ q;have hi:SetTable.bits h % (mask+1)≤mask:=by have:=Nat.mod_lt (SetTable.bits h) (show 0<mask+1 by omega); omega
  obtain⟨t,ht,et⟩:=AU hM (i:=i6 mask 13 (SetTable.bits h % (mask+1)) (SetTable.bits h)) (e:=e) (by have:=vy mask 13 _ (SetTable.bits h) hi; omega) (by omega)
  have z:=hno (13+t) (by unfold SetTable.turns; omega)
  have hz:SetTable.bits h / 32 ^ 13=0:=Nat.div_eq_of_lt (Nat.lt_of_lt_of_le (Bb h) (by decide))
  rw[sK,hz,oE,et,hn]at z
  cases z
theorem vW{α : Type}(f g:Nat→Option α)(j:Nat)(k:α)(hf:f j=none)(hg:g j=some k)(he:∀ i,i≠j→g i=f i):∀ (l:List Nat),l.Nodup→(j∈l→(l.filterMap g).Perm (k::l.filterMap f))∧(j∉l→l.filterMap g=l.filterMap f)
 | [],_=>⟨fun h=>(nomatch h),fun _=>rfl⟩
 | a::l,nd=>by
  rw[List.nodup_cons]at nd
  have ih:=vW f g j k hf hg he l nd.2
  by_cases e:a=j
  ·subst e
   refine⟨fun _=>?_,fun h=>absurd List.mem_cons_self h⟩
   rw[List.filterMap_cons_some hg,List.filterMap_cons_none hf,ih.2 nd.1]
  ·refine⟨fun h=>?_,fun h=>?_⟩
   ·have hl:j∈l:=by
     rcases List.mem_cons.mp h with z | z
     ·exact absurd z.symm e
     ·exact z
    have:=ih.1 hl
    cases q:f a with
    | none=>rw[List.filterMap_cons_none (by rw[he a e]; exact q),List.filterMap_cons_none q]; exact this
    | some x=>
     rw[List.filterMap_cons_some (by rw[he a e]; exact q),List.filterMap_cons_some q]
     exact(this.cons x).trans (List.Perm.swap _ _ _)
   ·have hl:j∉l:=fun z=>h (List.mem_cons_of_mem _ z)
    cases q:f a with
    | none=>rw[List.filterMap_cons_none (by rw[he a e]; exact q),List.filterMap_cons_none q,ih.2 hl]
    | some x=>rw[List.filterMap_cons_some (by rw[he a e]; exact q),List.filterMap_cons_some q,ih.2 hl]
structure rY (mask:Nat) (owner:Array (Option Nat)) (k:Nat):Prop where
 sz:owner.size=mask+1
 pm:((List.range (mask+1)).filterMap (fun j=>owner.getD j none)).Perm (List.range k)
theorem yn{mask:Nat}{owner:Array (Option Nat)}{k j:Nat}(h:rY mask owner k)(hj:(owner.getD j (some 0)).isNone=true):rY mask (owner.setIfInBounds j (some k)) (k+1):=by
 have hlt:j<owner.size:=by
  rcases Nat.lt_or_ge j owner.size with z | z
  ·exact z
  ·rw[Array.getD_eq_getD_getElem?,Array.getElem?_eq_none z]at hj; cases hj
 have hjn:owner.getD j none=none:=by
  rw[Array.getD_eq_getD_getElem?,Array.getElem?_eq_getElem hlt]at hj ⊢
  simpa using hj
 refine⟨by rw[Array.size_setIfInBounds]; exact h.sz,?_⟩
 have:=(vW (fun i=>owner.getD i none) (fun i=>(owner.setIfInBounds j (some k)).getD i none) j k hjn (by simp[Array.getD_eq_getD_getElem?,Array.getElem?_setIfInBounds,hlt]) (fun i hi=>by simp[Array.getD_eq_getD_getElem?,Array.getElem?_setIfInBounds,Ne.symm hi]) (List.range (mask+1)) List.nodup_range).1 (List.mem_range.mpr (by have:=h.sz; omega))
 refine this.trans ((h.pm.cons k).trans ?_)
 rw[List.range_succ];exact(List.perm_append_comm (l₁:=[k]) (l₂:=List.range k))
theorem yK{mask:Nat}{owner:Array (Option Nat)}{k:Nat}(h:rY mask owner k)(hk:k≤mask):∃ e,e≤mask∧(owner.getD e (some 0)).isNone=true:=by
 refine Classical.byContradiction fun hn=>?_
 have hall:∀ e∈List.range (mask+1),(owner.getD e none).isSome=true:=fun e he=>by
  have he':=List.mem_range.mp he;have hlt:e<owner.size:=by rw[h.sz]; exact he'
  cases q:(owner.getD e (some 0)).isNone with
  | true=>exact absurd ⟨e,by omega,q⟩ hn
  | false=>
   rw[Array.getD_eq_getD_getElem?,Array.getElem?_eq_getElem hlt]at q ⊢
   cases z:owner[e] with
   | none=>rw[z]at q; cases q
   | some x=>simp[z]
 have hl:((List.range (mask+1)).filterMap (fun j=>owner.getD j none)).length=mask+1:=by
  have gen:∀ (l:List Nat),(∀ e∈l,(owner.getD e none).isSome=true)→(l.filterMap (fun j=>owner.getD j none)).length=l.length:=by
   intro l
   induction l with
   | nil=>intro _; rfl
   | cons a l ih=>
    intro ha
    obtain⟨x,hx⟩:=Option.isSome_iff_exists.mp (ha a List.mem_cons_self)
    rw[List.filterMap_cons_some (f:=fun j=>owner.getD j none) hx,List.length_cons,List.length_cons,ih fun e he=>ha e (List.mem_cons_of_mem _ he)]
  rw[gen _ hall,List.length_range]
 have:=h.pm.length_eq
 rw[hl,List.length_range]at this
 omega
theorem pR{mask:Nat}(hM:mask+1∈[8,16,32,64,128,256]):∀ (hs:List Int) (owner:Array (Option Nat)) (k:Nat),rY mask owner k→k+hs.length≤mask+1→
  ∃ owner',hs.foldl (fun (acc:Option (Array (Option Nat) × Nat)) h=>do
   let (owner,k) ← acc
   let j ← SetTable.layClean.free mask owner (SetTable.turns mask) (SetTable.bits h % (mask+1)) (SetTable.bits h)
   pure (owner.setIfInBounds j (some k),k+1)) (some (owner,k))=some (owner',k+hs.length)∧rY mask owner' (k+hs.length)
 | [],owner,k,h,_=>⟨owner,rfl,h⟩
 | x::hs,owner,k,h,hl=>by
  rw[List.length_cons]at hl
  obtain⟨e,he,hn⟩:=yK h (by omega)
  obtain⟨j,ej,hj⟩:=A7 hM he hn x
  obtain⟨o',e',h'⟩:=pR hM hs _ (k+1) (yn h hj) (by omega)
  refine⟨o',?_,by rw[List.length_cons,show k+(hs.length+1)=k+1+hs.length by omega]; exact h'⟩
  rw[List.foldl_cons,List.length_cons,show k+(hs.length+1)=k+1+hs.length by omega,← e']
  congr 1
  show (some (owner,k)).bind _=_
  rw[Option.bind_some];show (SetTable.layClean.free mask owner (SetTable.turns mask) (SetTable.bits x % (mask+1)) (SetTable.bits x)).bind _=_
  rw[ej]; rfl
theorem A0(mask:Nat):rY mask (Array.replicate (mask+1) none) 0:=by
 refine⟨by simp,?_⟩
 have:(List.range (mask+1)).filterMap (fun j=>(Array.replicate (mask+1) (none:Option Nat)).getD j none)=[]:=by
  rw[List.filterMap_eq_nil_iff];intro j _
  rw[Array.getD_eq_getD_getElem?,Array.getElem?_replicate];split <;> rfl
 rw[this];exact List.Perm.refl _
theorem rZ{mask:Nat}(hM:mask+1∈[8,16,32,64,128,256])(f m:Nat)(led plain:Bool)(hs:Array Int)(hl:hs.size≤mask) :
  ∃ t order,SetTable.laid mask f m led plain hs=some (t,order)∧order.toList.Perm (List.range hs.size)∧t.mask=mask∧t.place.size=hs.size∧t.dummies = #[]∧t.led=led:=by
 obtain⟨owner,e,h⟩:=pR hM hs.toList _ 0 (A0 mask) (by simp; omega)
 rw[Nat.zero_add]at e h
 have ec:SetTable.layClean mask hs=some owner:=by
  unfold SetTable.layClean;rw[← Array.foldl_toList];rw[e]; rfl
 unfold SetTable.laid;rw[ec];refine⟨_,_,rfl,?_,rfl,?_,rfl,rfl⟩
 ·show (((List.range (mask+1)).filterMap fun j=>(owner.getD j none).map (j,·)).map (·.2)).toArray.toList.Perm _
  rw[List.map_filterMap]
  have:(fun j=>Option.map (fun x:Nat × Nat=>x.2) ((owner.getD j none).map (j,·)))=fun j=>owner.getD j none:=by
   funext j
   cases owner.getD j none <;> rfl
  rw[this]
  simpa using h.pm
 ·show (((List.range (mask+1)).filterMap fun j=>(owner.getD j none).map (j,·)).map (·.1)).toArray.size=_
  have h2:=h.pm.length_eq
  have h3:((List.range (mask+1)).filterMap fun j=>(owner.getD j none).map (j,·)).length=((List.range (mask+1)).filterMap fun j=>owner.getD j none).length:=by
   have:((List.range (mask+1)).filterMap fun j=>owner.getD j none)=((List.range (mask+1)).filterMap fun j=>(owner.getD j none).map (j,·)).map (·.2):=by
    rw[List.map_filterMap]
    congr 1
    funext j
    cases owner.getD j none <;> rfl
   rw[this,List.length_map]
  simp only[List.size_toArray,List.length_map]
  rw[h3,h2,List.length_range]; simp
theorem xS:∀ n,n≤240→SetTable.sizeAbove n - 1+1∈[8,16,32,64,128,256]∧n≤SetTable.sizeAbove n - 1:=by decide +kernel
end L2
namespace L2
open PySem PySem.Spec PyProof.Rows PySem.SeqAt
section
variable{prog:Program}{w:World}{K:Type}[DecidableEq K]{knd:KeyKind prog w K}{A:Around}{E:Value→Shared→Prop}{s:Shared}{L:Bool}
theorem vO{es:Array (Int × Value)}{order:Array Nat}(hp:order.toList.Perm (List.range es.size)):(order.filterMap (es[·]?)).toList.Perm es.toList:=by
 rw[Array.toList_filterMap];exact(hp.filterMap _).trans (by rw[filterMap_getElem?_range])
theorem kT{mask f m:Nat}{led plain:Bool}{hs:Array Int}{t:SetTable}{order:Array Nat}(e:SetTable.laid mask f m led plain hs=some (t,order)):fk t.place:=by
 unfold SetTable.laid at e
 cases ho:SetTable.layClean mask hs with
 | none=>rw[ho]at e; cases e
 | some owner=>
  rw[ho]at e
  cases e;refine gh ?_
  refine List.pairwise_map.mpr ?_
  refine List.Pairwise.filterMap _ ?_ List.pairwise_lt_range
  intro a b hab x hx y hy
  obtain⟨k,_,rfl⟩:=Option.map_eq_some_iff.mp hx
  obtain⟨k',_,rfl⟩:=Option.map_eq_some_iff.mp hy
  exact hab
def CK(mask:Nat):Prop:=mask+1∈[8,16,32,64,128,256]
def SetX(knd:KeyKind prog w K)(L:Bool)(h:Heap)(a:Addr)(S:K→Bool)(n m:Nat):Prop:=∃ o es ep t,h.get? a=some o∧jj knd (bB L) o es ep t S n∧CK t.mask∧m≤t.mask∧t.dummies = #[]
theorem SetX.g{h:Heap}{a:Addr}{S:K→Bool}{n m:Nat}(x:SetX knd L h a S n m):SetG knd (bB L) h a S n:=let ⟨o,es,ep,t,ho,T,_⟩:=x; ⟨o,es,ep,t,ho,T⟩
theorem kL{o:Obj}{es es':Array (Int × Value)}{ep:Nat}{t t':SetTable}{S:K→Bool}{n:Nat}(T:jj knd (bB L) o es ep t S n)(hp:es'.toList.Perm es.toList)(hf:t'.fits es'.size=true)(hg:bB L t'):∀ {o':Obj} {ep':Nat},o'.ExactSet→o'.data = .set es' ep' t'→jj knd (bB L) o' es' ep' t' S n:=fun {o' ep'} ex da=>by
 have hsz:es'.size=es.size:=by rw[← Array.length_toList,hp.length_eq,Array.length_toList]
 exact⟨ex,da,T.el.perm hp,fun k'=>(T.mem k').trans ⟨fun ⟨e,he,q⟩=>⟨e,hp.mem_iff.mpr he,q⟩,fun ⟨e,he,q⟩=>⟨e,hp.mem_iff.mp he,q⟩⟩,by rw[hsz]; exact T.few,hf,by rw[hsz]; exact T.num,hg,T.apart.perm hp⟩
theorem tT{t:SetTable}{n:Nat}(h1:t.place.size=n)(h2:t.dummies = #[])(h3:n≤t.mask):t.fits n=true:=by
 unfold SetTable.fits SetTable.fill;rw[h1,h2];simp
 omega
theorem xG{a:Addr}{S:K→Bool}{n wanted:Nat}{Q:Unit→Shared→Prop}(hS:SetG knd (bB L) s.heap a S n)(hw:wanted≤240)(hn:n≤wanted)
  (h:∀ h',Heap.SameBut a s.heap h'→SetX knd L h' a S n wanted→Q () { s with heap:=h' }):wpAny (model prog w) A (setRelay a wanted) Q E s:=by
 obtain⟨o,es,ep,t,ho,T⟩:=hS
 obtain⟨hM,hm⟩:=xS wanted hw
 unfold setRelay;refine wpAny_bind (wpAny_setState_of ho T.dat T.fit ?_)
 dsimp only
 have hsa:¬ SetTable.sizeAbove wanted>sizeLine:=by
  have:SetTable.sizeAbove wanted - 1+1≤256:=by
   simp only[List.mem_cons,List.not_mem_nil,or_false]at hM
   omega
  have hs:sizeLine=16777216:=sizeLine_eq
  omega
 rw[if_neg hsa];obtain⟨t',order,e,hp,hmask,hpl,hdu,hled⟩:=rZ hM t.finger (t.movedTo (SetTable.sizeAbove wanted - 1)) t.led t.plain (es.map (·.1)) (by rw[Array.size_map,T.num]; omega)
 rw[Array.size_map]at hp hpl
 have hr:t.relaid (es.map (·.1)) wanted=some (t',order):=e
 rw[hr];have hpm:=vO hp;have hsz:(order.filterMap (es[·]?)).size=es.size:=by rw[← Array.length_toList,hpm.length_eq,Array.length_toList]
 refine wpAny_bind ?_
 show wpAny _ _ (if ((order.filterMap (es[·]?)).size != es.size)=true then _ else pure (order.filterMap (es[·]?),t')) _ _ _
 rw[if_neg (by rw[hsz]; simp)]
 refine wpAny_pure ?_
 dsimp only
 have hf':t'.fits (order.filterMap (es[·]?)).size=true:=by rw[hsz]; exact tT hpl hdu (by rw[hmask,T.num]; omega)
 have hg':bB L t':=⟨hled.trans T.good.led,kT e⟩
 obtain⟨o1,ho1,U1⟩:=stored (es':=order.filterMap (es[·]?)) (t':=t') (S':=S) (n':=n) ho T fun o' ex da=>kL T hpm hf' hg' ex da
 refine wpAny_storeSet_of ho T.dat ?_ (fits_of_scanBound U1.few)
 exact h _ (Heap.SameBut.update ..) ⟨o1,_,_,_,ho1,U1,by unfold CK; rw[hmask]; exact hM,by rw[hmask]; exact hm,hdu⟩
theorem DP{a:Addr}{S:K→Bool}{more:Nat}{Q:Unit→Shared→Prop}(hS:SetX knd L s.heap a S 0 7)(hm:more≤60)
  (h:∀ h',Heap.SameBut a s.heap h'→SetX knd L h' a S 0 more→Q () { s with heap:=h' }):wpAny (model prog w) A (setRoomFor a more) Q E s:=by
 obtain⟨o,es,ep,t,ho,T,hP,h7,hd⟩:=id hS
 have hpl:t.place.size=0:=by
  have:=T.fit
  unfold SetTable.fits at this;simp only[Bool.and_eq_true,beq_iff_eq]at this
  rw[this.1]; exact T.num
 have hfill:t.fill=0:=by unfold SetTable.fill; rw[hpl,hd]; rfl
 unfold setRoomFor;refine wpAny_bind (wpAny_setState_of ho T.dat T.fit ?_)
 dsimp only
 unfold SetTable.roomFor;rw[hfill,hpl,Nat.zero_add]
 by_cases c:more * 5≥t.mask * 3
 ·rw[if_pos c]
  refine xG hS.g (by omega) (by omega) fun h' sb x=>h h' sb ?_
  obtain⟨o1,es1,ep1,t1,z1,z2,z3,z4,z5⟩:=x
  exact⟨o1,es1,ep1,t1,z1,z2,z3,by omega,z5⟩
 ·rw[if_neg c]
  refine wpAny_pure ?_
  have e:s={ s with heap:=s.heap }:=by cases s; rfl
  rw[e];exact h s.heap (Heap.SameBut.refl _ _) ⟨o,es,ep,t,ho,T,hP,by omega,hd⟩
theorem D0{a:Addr}{S:K→Bool}{n more:Nat}{Q:Unit→Shared→Prop}(hS:SetG knd (bB L) s.heap a S n)(hm:n+more≤120)
  (h:∀ h',Heap.SameBut a s.heap h'→SetG knd (bB L) h' a S n→Q () { s with heap:=h' }):wpAny (model prog w) A (setRoomFor a more) Q E s:=by
 obtain⟨o,es,ep,t,ho,T⟩:=id hS
 have hpl:t.place.size=n:=by
  have:=T.fit
  unfold SetTable.fits at this;simp only[Bool.and_eq_true,beq_iff_eq]at this
  rw[this.1]; exact T.num
 unfold setRoomFor;refine wpAny_bind (wpAny_setState_of ho T.dat T.fit ?_)
 dsimp only
 unfold SetTable.roomFor;rw[hpl]
 by_cases c:(t.fill+more) * 5≥t.mask * 3
 ·rw[if_pos c]
  exact xG hS (by omega) (by omega) fun h' sb x=>h h' sb x.g
 ·rw[if_neg c]
  refine wpAny_pure ?_
  have e:s={ s with heap:=s.heap }:=by cases s; rfl
  rw[e];exact h s.heap (Heap.SameBut.refl _ _) hS
theorem v5{a b:Addr}{S0 S:K→Bool}{n:Nat}{each:Sem Unit}{Q:Unit→Shared→Prop}(hab:a≠b)(h0:SetX knd L s.heap a S0 0 7)(hS:SetG knd (bB L) s.heap b S n)(hn:n≤60)
  (h:∀ h',Heap.SameBut a s.heap h'→(n=0→h'=s.heap)→SetG knd (bB L) h' a S n→Q () { s with heap:=h' }):wpAny (model prog w) A (setMerge a b each) Q E s:=by
 obtain⟨o,es,ep,t,ho,T⟩:=id hS
 unfold setMerge;rw[if_neg (by simpa using hab)]
 refine wpAny_bind (wpAny_setState_of ho T.dat T.fit ?_)
 dsimp only
 by_cases he:es.isEmpty=true
 ·rw[if_pos he]
  have hn0:n=0:=by rw[← T.num]; simpa using he
  refine wpAny_pure ?_
  have e:s={ s with heap:=s.heap }:=by cases s; rfl
  rw[e];refine h s.heap (Heap.SameBut.refl _ _) (fun _=>rfl) ?_
  obtain⟨o0,es0,ep0,t0,ho0,T0,_⟩:=h0
  have hS0:S0=S:=by
   funext k
   have e1:S0 k=false:=by
    cases q:S0 k with
    | false=>rfl
    | true=>
     obtain⟨x,hx,_⟩:=(T0.mem k).mp q; have:es0 = #[]:=by simpa using T0.num
     rw[this]at hx; cases hx
   have e2:S k=false:=by
    cases q:S k with
    | false=>rfl
    | true=>
     obtain⟨x,hx,_⟩:=(T.mem k).mp q; have:es = #[]:=by simpa using he
     rw[this]at hx; cases hx
   rw[e1,e2]
  subst hS0; subst hn0
  exact⟨o0,es0,ep0,t0,ho0,T0⟩
 ·rw[if_neg he]
  refine wpAny_bind (DP h0 (by rw[T.num]; exact hn) fun h1 sb1 x1=>?_)
  rw[T.num]at x1
  obtain⟨o1,es1,ep1,t1,ho1,T1,hP1,hm1,hd1⟩:=x1
  refine wpAny_bind (wpAny_setState_of ho1 T1.dat T1.fit ?_)
  dsimp only
  have hpl1:t1.place.size=0:=by
   have:=T1.fit
   unfold SetTable.fits at this;simp only[Bool.and_eq_true,beq_iff_eq]at this
   rw[this.1]; exact T1.num
  have hroad:t1.road t=if (t1.mask == t.mask&&t.dummies.isEmpty)=true then .slotForSlot else .clean:=by
   unfold SetTable.road SetTable.fill;rw[hpl1,hd1]; rfl
  have fin:∀ (es':Array (Int × Value)) (t':SetTable),es'.toList.Perm es.toList→t'.fits es'.size=true→bB L t'→wpAny (model prog w) A (storeSet a es' t') Q E { s with heap:=h1 }:=fun es' t' hp hf hg=>by
   have hp1:=putSet_of es' t' T1.dat;have hget:=Heap.get?_update_self (Obj.putSet es' t') ho1 (by rw[hp1]; rfl)
   rw[hp1]at hget
   have U:=kL T hp hf hg (o':={ o1 with data:=.set es' (ep1+1) t' }) (ep':=ep1+1) T1.ex rfl;refine wpAny_storeSet_of ho1 T1.dat ?_ (fits_of_scanBound U.few)
   exact h _ (sb1.trans (Heap.SameBut.update ..)) (fun z=>absurd (by simpa using T.num.trans z) (by simpa using he)) ⟨_,_,_,_,hget,U⟩
  rw[hroad]
  by_cases c:(t1.mask == t.mask&&t.dummies.isEmpty)=true
  ·rw[if_pos c]
   refine fin es _ (List.Perm.refl _) ?_ ?_
   ·have:=T.fit
    exact this
   ·exact⟨by show (t1.led&&t.led)=L; rw[T1.good.led,T.good.led,Bool.and_self],T.good.rise⟩
  ·rw[if_neg c]
   obtain⟨t',order,e,hp,hmask,hpl,hdu,hled⟩:=rZ hP1 t1.finger t1.moves (t1.led&&t.led) (t1.plain&&t.plain) (es.map (·.1)) (by rw[Array.size_map,T.num]; omega)
   rw[Array.size_map]at hp hpl
   dsimp only
   rw[e];have hpm:=vO hp;have hsz:(order.filterMap (es[·]?)).size=es.size:=by rw[← Array.length_toList,hpm.length_eq,Array.length_toList]
   refine wpAny_bind ?_
   show wpAny _ _ (if ((order.filterMap (es[·]?)).size != es.size)=true then _ else pure (order.filterMap (es[·]?),t')) _ _ _
   rw[if_neg (by rw[hsz]; simp)]
   refine wpAny_pure ?_
   dsimp only
   exact fin _ _ hpm (by rw[hsz]; exact tT hpl hdu (by rw[hmask,T.num]; exact hm1)) ⟨by rw[hled,T1.good.led,T.good.led,Bool.and_self],kT e⟩
theorem DH{a:Addr}{o:Obj}{es:Array (Int × Value)}{ep:Nat}{t:SetTable}{Q:Array (Int × Value)→Shared→Prop}(ho:s.heap.get? a=some o)(hd:o.data = .set es ep t)(hf:t.fits es.size=true)(hg:bB (bu w) t)(hp:w.params.followText "set-order" = true∨t.plain=true∨es.size≤1)
  (h:∀ arr,arr.toList.Perm es.toList→Q arr s):wpAny (model prog w) A (setWalk a) Q E s:=by
 unfold setWalk;refine wpAny_bind (wpAny_setState_of ho hd hf ?_)
 dsimp only
 refine wpAny_bind ?_
 unfold setsByText;refine wpAny_bind (wpAny_askSetting (wpAny_pure ?_))
 show wpAny _ _ (if w.params.followText "set-order" = true then _ else _) _ _ _
 cases hb:w.params.followText "set-order" with
 | true=>
  simp only[if_true]
  refine wpAny_bind (wpAny_askSetting (wpAny_pure ?_))
  exact h _ (m7 _ _)
 | false=>
  simp only[Bool.false_eq_true,if_false]
  have hnd:¬ ((!t.plain&&decide (es.size>1))=true):=by
   rw[hb]at hp
   rcases hp with z | z | z
   ·cases z
   ·rw[z]; simp
   ·simp; omega
  show wpAny _ _ (if (!t.plain&&decide (es.size>1))=true then _ else _) _ _ _
  rw[if_neg hnd];have hled:t.led=true:=by rw[hg.led]; unfold bu; rw[hb]; rfl
  refine wpAny_bind ?_
  show wpAny _ _ (if (!t.led&&decide (es.size>1))=true then _ else _) _ _ _
  rw[hled];refine wpAny_pure (wpAny_pure ?_)
  exact h es (List.Perm.refl _)
theorem Cy{Q:Bool→Shared→Prop}:∀ (sets:List Addr),(∀ a∈sets,∃ o es ep t,s.heap.get? a=some o∧o.data = .set es ep t∧t.fits es.size=true∧∀ e∈es.toList,e.2.scannable=true)→Q true s→wpAny (model prog w) A (setsQuiet sets) Q E s:=by
 intro sets hs h
 unfold setsQuiet;refine wpAny_bind (wpAny_forIn_list _ (fun rest b s'=>b.1=none∧s'=s∧∀ a∈rest,a∈sets) _ ?_ ?_ _ _ ⟨rfl,rfl,fun _ z=>z⟩)
 ·rintro a rest b s' ⟨hb,rfl,hm⟩
  obtain⟨o,es,ep,t,ho,hd,hf,hsc⟩:=hs a (hm a List.mem_cons_self)
  refine wpAny_bind (wpAny_setEntries_of ho hd hf ?_)
  refine wpAny_bind (MeetsSeq2.wpAny_forIn_array _ (fun rest' b' s2=>b'.1=none∧s2=s'∧∀ e∈rest',e∈es.toList) _ ?_ ?_ _ _ ⟨rfl,rfl,fun _ z=>z⟩)
  ·rintro⟨hh,x⟩ rest' b' s2 ⟨hb',rfl,hm'⟩
   have hx:=hsc _ (hm' _ List.mem_cons_self)
   dsimp only at hx ⊢
   cases x with
   | ref c=>cases hx
   | _=>exact wpAny_pure ⟨rfl,rfl,fun e he=>hm' e (List.mem_cons_of_mem _ he)⟩
  ·rintro b' s2 ⟨hb',rfl,_⟩
   obtain⟨b1,b2⟩:=b'
   cases hb';exact wpAny_pure ⟨rfl,rfl,fun a' ha'=>hm a' (List.mem_cons_of_mem _ ha')⟩
 ·rintro b s' ⟨hb,rfl,_⟩
  obtain⟨b1,b2⟩:=b
  cases hb;exact wpAny_pure h
theorem A_{a f:Addr}{S1 S2:K→Bool}{n1 n2:Nat}{Q:Array (Int × Value)→Shared→Prop}(haf:a≠f)(hA:SetG knd (bB (bu w)) s.heap a S2 n2)(hF:SetG knd (bB (bu w)) s.heap f S1 n1)
  (h:∀ arr h' es,(∃ o ep t,s.heap.get? a=some o∧jj knd (bB (bu w)) o es ep t S2 n2)→arr.toList.Perm es.toList→Heap.SameBut f s.heap h'→SetG knd (bB (bu w)) h' f S1 n1→Q arr { s with heap:=h' }):wpAny (model prog w) A (setWalkUnseen a [f] (some f)) Q E s:=by
 obtain⟨o,es,ep,t,ho,T⟩:=id hA
 obtain⟨of,esf,epf,tf,hof,Tf⟩:=id hF
 have es0:s={ s with heap:=s.heap }:=by cases s; rfl
 have keep:∀ arr:Array (Int × Value),arr.toList.Perm es.toList→Q arr s:=fun arr hp=>by
  rw[es0]; exact h arr s.heap es ⟨o,ep,t,ho,T⟩ hp (Heap.SameBut.refl _ _) hF
 unfold setWalkUnseen;refine wpAny_bind (wpAny_setState_of ho T.dat T.fit ?_)
 dsimp only
 refine wpAny_bind ?_
 unfold setsByText;refine wpAny_bind (wpAny_askSetting (wpAny_pure ?_))
 show wpAny _ _ (if (w.params.followText "set-order" || t.led&&t.plain||decide (es.size≤1))=true then _ else _) _ _ _
 by_cases c:(w.params.followText "set-order" || t.led&&t.plain||decide (es.size≤1))=true
 ·rw[if_pos c]
  refine DH ho T.dat T.fit T.good ?_ keep
  simp only[Bool.or_eq_true,Bool.and_eq_true,decide_eq_true_eq]at c
  rcases c with (z | z) | z
  ·exact .inl z
  ·exact .inr (.inl z.2)
  ·exact .inr (.inr z)
 ·rw[if_neg c]
  refine wpAny_bind (Cy [a,f] (fun b hb=>?_) ?_)
  ·simp only[List.mem_cons,List.not_mem_nil,or_false]at hb
   rcases hb with rfl | rfl
   ·exact⟨o,es,ep,t,ho,T.dat,T.fit,fun e he=>(T.el e he).2⟩
   ·exact⟨of,esf,epf,tf,hof,Tf.dat,Tf.fit,fun e he=>(Tf.el e he).2⟩
  ·simp only[Bool.not_true,Bool.false_eq_true,if_false]
   refine wpAny_bind (wpAny_rule ?_)
   refine wpAny_bind (wpAny_setState_of hof Tf.dat Tf.fit ?_)
   dsimp only
   by_cases c2:(tf.led && !t.led||tf.plain && !t.plain)=true
   ·rw[if_pos c2]
    obtain⟨o1,ho1,U1⟩:=stored (es':=esf) (t':={ tf with led:=tf.led&&t.led,plain:=tf.plain&&t.plain }) (S':=S1) (n':=n1) hof Tf fun o' ex da=>kL (t':={ tf with led:=tf.led&&t.led,plain:=tf.plain&&t.plain }) Tf (List.Perm.refl _) Tf.fit ⟨by show (tf.led&&t.led)=_; rw[Tf.good.led,T.good.led,Bool.and_self],Tf.good.rise⟩ ex da
    refine wpAny_bind (wpAny_storeSet_of hof Tf.dat ?_ (fits_of_scanBound U1.few))
    exact wpAny_pure (h es _ es ⟨o,ep,t,ho,T⟩ (List.Perm.refl _) (Heap.SameBut.update ..) ⟨_,_,_,_,ho1,U1⟩)
   ·rw[if_neg c2]
    exact wpAny_pure (keep es (List.Perm.refl _))
theorem Cv{a b:Addr}{S1 S2:K→Bool}{n1 n2:Nat}{each:Sem Unit}{Q:Unit→Shared→Prop}(hab:a≠b)(h1:SetG knd (bB (bu w)) s.heap a S1 n1)(h2:SetG knd (bB (bu w)) s.heap b S2 n2)(hn1:1≤n1)(hn:n1+n2≤60)
  (heach:∀ (s':Shared) (R:Unit→Shared→Prop),(∀ o,s.heap.get? b=some o→s'.heap.get? b=some o)→R () s'→wpAny (model prog w) A each R E s')
  (h:∀ h' m,Heap.SameBut a s.heap h'→m≤n1+n2→SetG knd (bB (bu w)) h' a (fun k=>S1 k||S2 k) m→Q () { s with heap:=h' }):wpAny (model prog w) A (setMerge a b each) Q E s:=by
 obtain⟨o,es,ep,t,ho,T⟩:=id h2
 unfold setMerge;rw[if_neg (by simpa using hab)]
 refine wpAny_bind (wpAny_setState_of ho T.dat T.fit ?_)
 dsimp only
 by_cases he:es.isEmpty=true
 ·rw[if_pos he]
  have hn0:n2=0:=by rw[← T.num]; simpa using he
  refine wpAny_pure ?_
  have e:s={ s with heap:=s.heap }:=by cases s; rfl
  rw[e];refine h s.heap n1 (Heap.SameBut.refl _ _) (by omega) (h1.at' (fun _ z=>z) (fun k=>?_) rfl)
  have e2:S2 k=false:=by
   cases q:S2 k with
   | false=>rfl
   | true=>
    obtain⟨x,hx,_⟩:=(T.mem k).mp q; have:es = #[]:=by simpa using he
    rw[this]at hx; cases hx
  rw[e2,Bool.or_false]
 ·rw[if_neg he]
  refine wpAny_bind (D0 h1 (by rw[T.num]; omega) fun g1 sb1 x1=>?_)
  have hb1:g1.get? b=some o:=by rw[sb1.2 b (Ne.symm hab)]; exact ho
  obtain⟨o1,es1,ep1,t1,ho1,T1⟩:=id x1
  refine wpAny_bind (wpAny_setState_of ho1 T1.dat T1.fit ?_)
  dsimp only
  have hroad:t1.road t = .oneByOne:=by
   have hpl1:t1.place.size=n1:=by
    have:=T1.fit
    unfold SetTable.fits at this;simp only[Bool.and_eq_true,beq_iff_eq]at this
    rw[this.1]; exact T1.num
   unfold SetTable.road SetTable.fill;rw[if_pos (by rw[hpl1]; simp; omega)]
  rw[hroad]
  dsimp only
  refine wpAny_bind (A_ (s:={ s with heap:=g1 }) (Ne.symm hab) ⟨o,es,ep,t,hb1,T⟩ x1 fun arr g2 es' hes hp sb2 x2=>?_)
  obtain⟨o',ep',t',ho',T'⟩:=hes
  have eo:o'=o:=by
   have:g1.get? b=some o':=ho'
   rw[hb1]at this; cases this; rfl
  subst eo
  have ees:es'=es:=by
   have q1:=T'.dat;rw[T.dat]at q1
   cases q1; rfl
  subst ees;have sb12:Heap.SameBut a s.heap g2:=sb1.trans sb2
  have fin:∀ (done:List (Int × Value)),done.Perm es'.toList→∀ k,(S1 k||done.any fun e=>knd.is k e.2)=(S1 k||S2 k):=fun done hd k=>by
   congr 1
   rw[Bool.eq_iff_iff,T.mem k,List.any_eq_true];exact⟨fun ⟨e,z,q⟩=>⟨e,hd.mem_iff.mp z,q⟩,fun ⟨e,z,q⟩=>⟨e,hd.mem_iff.mpr z,q⟩⟩
  refine wpAny_bind (MeetsSeq2.wpAny_forIn_array _ (fun rest _ s'=>∃ h' m done,s'={ s with heap:=h' }∧Heap.SameBut a s.heap h'∧(done++rest).Perm es'.toList∧m+rest.length≤n1+n2∧SetG knd (bB (bu w)) h' a (fun k=>S1 k||done.any fun e=>knd.is k e.2) m) _ ?_ ?_ _ _
   ⟨g2,n1,[],rfl,sb12,hp,by rw[hp.length_eq,Array.length_toList,T.num]; exact Nat.le_refl _,x2.at' (fun _ z=>z) (fun k=>by simp) rfl⟩)
  ·rintro⟨hh,v⟩ rest u s' ⟨h',m,done,rfl,sb,hpm,hm,hS⟩
   obtain⟨⟨k,hk,ehh⟩,hsc⟩:=T.el (hh,v) (hpm.mem_iff.mp (by simp))
   dsimp only at hk ehh hsc ⊢
   subst ehh;rw[List.length_cons]at hm
   refine wpAny_bind (wpAny_holding (Cp (G:=bB (bu w)) (knd:=knd) (s:={ s with heap:=h' }) (fun t es h x g=>jS g es h x) (fun t es m g=>lJ g es m) (fun t g=>k_ g) hk hsc hS (by unfold scanBound; omega) fun h2 sb2' hS2=>?_))
   have sb':Heap.SameBut a s.heap h2:=sb.trans sb2'
   have hb2:h2.get? b=some o':=by rw[sb'.2 b (Ne.symm hab)]; exact ho
   refine wpAny_bind (heach _ _ (fun o z=>by rw[ho]at z; cases z; exact hb2) ?_)
   refine wpAny_bind (wpAny_setState_of hb2 T.dat T.fit ?_)
   rw[if_neg (by simp)]
   refine wpAny_pure ⟨h2,_,done++[(knd.hash k,v)],rfl,sb',by rw[List.append_assoc]; exact hpm,?_,hS2.at' (fun _ z=>z) (fun k'=>?_) rfl⟩
   ·split <;> omega
   ·rw[List.any_append,Bool.or_assoc]
    congr 2
    rw[List.any_cons,List.any_nil,Bool.or_false,KeyKind.is_eq_decide hk k']
  ·rintro u s' ⟨h',m,done,rfl,sb,hpm,hm,hS⟩
   rw[List.append_nil]at hpm
   exact wpAny_pure (h h' m sb (by simpa using hm) (hS.at' (fun _ z=>z) (fin done hpm) rfl))
end
end L2
namespace L2
open PySem PySem.Spec PyProof.Rows PySem.SeqAt
theorem qc:entryFor table "set.__or__" = some Builtin.«frozenset.__or__»:=entryFor_alias (id' := "frozenset.__or__") (by kernel_rfl) rfl (by decide +kernel) (by kernel_rfl)
section
variable{prog:Program}{w:World}{K:Type}[DecidableEq K]{knd:KeyKind prog w K}{A:Around}{E:Value→Shared→Prop}{s:Shared}
theorem SetG.ty{G:SetTable→Prop}{h:Heap}{a:Addr}{S:K→Bool}{n:Nat}(x:SetG knd G h a S n)(s:Shared)(e:s.heap=h):s.TypeIs (.ref a) "set" := by
 obtain⟨o,es,ep,t,ho,T⟩:=x
 subst e;exact⟨o,ho,T.ex.1⟩
theorem Co{a b:Addr}{S1 S2:K→Bool}{n1 n2:Nat}{Q:Value→Shared→Prop}(hab:a≠b)(ha:SetG knd (bB (bu w)) s.heap a S1 n1)(hb:SetG knd (bB (bu w)) s.heap b S2 n2)(hn:n1+n2≤60)
  (h:∀ h' m tk,(∀ c o,s.heap.get? c=some o→h'.get? c=some o)→m≤n1+n2→SetG knd (bB (bu w)) h' s.heap.objs.size (fun k=>S1 k||S2 k) m→Q (.ref s.heap.objs.size) { s with heap:=h',toks:=tk }) :
  wpAny (model prog w) A (binaryOp .BitOr (.ref a) (.ref b)) Q E s:=by
 have ta:s.TypeIs (.ref a) "set" := ha.ty s rfl
 have tb:s.TypeIs (.ref b) "set" := hb.ty s rfl
 refine wpAny_binaryOp_same (T := "set") ta tb F.fills_set_or F.slot_set_or (wpAny_call_entry F.slot_set_or ta qc ?_ (F.args_set_or_2 _ _))
 unfold Builtin.«frozenset.__or__»
 show wpAny _ _ (Builtin.Frozenset.slot1 "__or__" ⟨[.ref a,.ref b],[]⟩ >>= _) _ _ _
 refine wpAny_bind (m:=Builtin.Frozenset.slot1 "__or__" ⟨[.ref a,.ref b],[]⟩) (wpAny_pure (a:=(Value.ref a,Value.ref b)) ?_)
 dsimp only
 simp only[Bool.false_eq_true,if_false]
 have isA:∀ (c:Addr) (s':Shared) (R:Bool→Shared→Prop),s'.TypeIs (.ref c) "set" → R true s'→wpAny (model prog w) A.in1 (Builtin.Frozenset.isAnySet (.ref c)) R E s':=fun c s' R ht hR=>by
  unfold Builtin.Frozenset.isAnySet;show wpAny _ _ (isInstance (Value.ref c) (Value.type "set") >>= _) _ _ _
  refine wpAny_bind (wpAny_isInstance ht sub_set_self ?_)
  exact wpAny_pure hR
 have es0:s={ s with heap:=s.heap }:=by cases s; rfl
 refine wpAny_bind ?_
 show wpAny _ _ (Builtin.Frozenset.isAnySet (Value.ref a) >>= _) _ _ _
 refine wpAny_bind (isA a s _ ta ?_)
 refine isA b s _ tb ?_
 simp only[Bool.not_true,Bool.false_eq_true,if_false]
 refine wpAny_bind (wpAny_pure ?_)
 refine wpAny_bind ?_
 show wpAny _ _ (Builtin.Frozenset.copyOf a >>= _) _ _ _
 unfold Builtin.Frozenset.copyOf Builtin.Frozenset.baseOf;refine wpAny_bind ?_
 refine wpAny_bind ?_
 refine wpAny_bind (wpAny_isInstance ta sub_set_self ?_)
 refine wpAny_pure ?_
 simp only[if_true]
 unfold newSet setsByText;refine wpAny_bind ?_
 refine wpAny_bind (wpAny_bind (wpAny_askSetting (wpAny_pure ?_)))
 dsimp only
 simp only[newObj]
 refine wpAny_bind (wpAny_alloc (wpAny_pure ?_))
 generalize hh0:s.heap.push _=g0
 have k0:∀ c o,s.heap.get? c=some o→g0.get? c=some o:=fun c o e=>by rw[← hh0]; exact Heap.get?_push_of_some _ e
 have n0:g0.get? s.heap.objs.size=some { cls:=.type "set", dict:=none,data:=.set #[] 0 (.fresh 0 0 (bu w)) }:=by rw[← hh0]; exact Heap.get?_push_size _ rfl
 have x0:SetX knd (bu w) g0 s.heap.objs.size (fun _=>false) 0 7:=⟨_,#[],0,_,n0,⟨⟨rfl,rfl,rfl⟩,rfl,fun e he=>by simp at he,fun k=>by simp,by decide,rfl,rfl,⟨rfl,fun a b ha=>absurd ha (Nat.not_lt_zero _)⟩,List.Pairwise.nil⟩,by show (7:Nat)+1∈[8,16,32,64,128,256]; decide,Nat.le_refl _,rfl⟩
 have na:s.heap.objs.size≠a:=by
  obtain⟨o,_,_,_,ho,_⟩:=ha
  exact Ne.symm (Nat.ne_of_lt (Heap.lt_size ho))
 have nb:s.heap.objs.size≠b:=by
  obtain⟨o,_,_,_,ho,_⟩:=hb
  exact Ne.symm (Nat.ne_of_lt (Heap.lt_size ho))
 refine wpAny_bind (wpAny_pure ?_)
 refine wpAny_bind (v5 (s:={ s with heap:=g0 }) na x0 (ha.at' (fun o e=>k0 a o e) (fun _=>rfl) rfl) (by omega) fun g1 sb1 hz1 x1=>?_)
 refine wpAny_pure ?_
 rw[if_pos (by simpa using Ne.symm hab)]
 refine wpAny_bind (wpAny_pure ?_)
 have k1:∀ c o,s.heap.get? c=some o→g1.get? c=some o:=fun c o e=>by
  have hc:c≠s.heap.objs.size:=Nat.ne_of_lt (Heap.lt_size e)
  rw[sb1.2 c hc]; exact k0 c o e
 have hb1:=hb.at' (h':=g1) (fun o e=>k1 b o e) (fun _=>rfl) rfl
 refine wpAny_bind (wpAny_holding ?_)
 unfold Builtin.Frozenset.updateFrom;refine wpAny_bind (isA b _ _ (hb1.ty _ rfl) ?_)
 simp only[if_true]
 refine wpAny_bind (wpAny_pure ?_)
 unfold Builtin.Frozenset.merge;obtain⟨ob,eb,pb,tb',hob,Tb⟩:=id hb1
 have epo:∀ (s':Shared) (R:Nat→Shared→Prop),s'.heap.get? b=some ob→R pb s'→wpAny (model prog w) A.in1 (setEpoch b) R E s':=fun s' R hg hR=>by
  unfold setEpoch;exact wpAny_bind (wpAny_setState_of hg Tb.dat Tb.fit (wpAny_pure hR))
 refine wpAny_bind (epo _ _ hob ?_)
 have fin:∀ h' m,Heap.SameBut s.heap.objs.size g1 h'→m≤n1+n2→SetG knd (bB (bu w)) h' s.heap.objs.size (fun k=>S1 k||S2 k) m→wpAny (model prog w) A.in1 (pure (Value.ref s.heap.objs.size)) (fun a s'=>wpAny (model prog w) A.in1 (ret a) (fun fin s'=>∃ v,fin=Fin.done (Flow.ret v)∧v≠Value.notImplemented∧Q v s') E s') E { s with heap:=h' }:=fun h' m sb hm x=>by
  refine wpAny_pure (wpAny_pure ⟨_,rfl,fun z=>(nomatch z),h h' m s.toks (fun c o e=>?_) hm x⟩)
  have hc:c≠s.heap.objs.size:=Nat.ne_of_lt (Heap.lt_size e)
  rw[sb.2 c hc]; exact k1 c o e
 by_cases hn0:n1=0
 ·have eg:=hz1 hn0
  have eg':g1=g0:=eg
  subst eg'
  have hS1:∀ k,S1 k=false:=fun k=>by
   obtain⟨o,es,ep,t,ho,T⟩:=x1
   cases q:S1 k with
   | false=>rfl
   | true=>
    obtain⟨x,hx,_⟩:=(T.mem k).mp q
    have:es = #[]:=by have:=T.num; rw[hn0]at this; simpa using this
    rw[this]at hx; cases hx
  refine v5 (s:={ s with heap:=g1 }) nb x0 hb1 (by omega) fun h' sb _ x=>fin h' n2 sb (by omega) (x.at' (fun _ z=>z) (fun k=>by rw[hS1 k]; rfl) rfl)
 ·refine Cv (s:={ s with heap:=g1 }) nb x1 hb1 (by omega) hn (fun s' R hg hR=>?_) fun h' m sb hm x=>fin h' m sb hm x
  unfold Builtin.Frozenset.unchanged;refine wpAny_bind (epo s' _ (hg ob hob) ?_)
  rw[if_neg (by simp)]
  exact wpAny_pure hR
end
def dA(P:Program)(w:World)(a:Addr)(ds:List Str):HO:=.ext fun h=>∃ S n,SetG (strKind P w) (bB (bu w)) h a S n∧(∀ k,S k=true ↔ k∈ds)∧ds.Nodup∧ds.length=n
def zX(K:PySem.W.Frag)(SO:Addr→List Str→HO):List V→Hp→VK→Prop:=fun xs H Q=>∃ p,∃ ns:List Str,xs=[.ref p]∧SqL K H p (ns.map V.str)∧ns.length≤60∧∀ (l:Addr) (ds:List Str),H l=none→ds.Nodup→(∀ x,x∈ds ↔ x∈ns)→ds.length≤ns.length→Q (.ref l) (upd H l (SO l ds))
def De(SO:Addr→List Str→HO):R2:=fun x y H Q=>∃ a b ds es,x = .ref a∧y = .ref b∧a≠b∧H a=some (SO a ds)∧H b=some (SO b es)∧ds.length+es.length≤60∧∀ (l:Addr) (us:List Str),H l=none→us.Nodup→(∀ x,x∈us ↔ x∈ds∨x∈es)→us.length≤ds.length+es.length→Q (.ref l) (upd H l (SO l us))
section
variable{X:Cx}
theorem sA{P:Program}{w:World}{H:Hp}{h:Heap}{a:Addr}{ds:List Str}{S:Str→Bool}{n:Nat}(x:SetG (strKind P w) (bB (bu w)) h a S n)(hm:∀ k,S k=true ↔ k∈ds)(nd:ds.Nodup)(hl:ds.length=n):ObjOk P w H h a (dA P w a ds):=by
 obtain⟨o,es,ep,t,ho,T⟩:=id x
 exact⟨⟨S,n,x,hm,nd,hl⟩,⟨o,ho⟩,fun h1 h2 ⟨S,n,g,r⟩ k=>⟨S,n,g.at' (fun o e=>k o e) (fun _=>rfl) rfl,r⟩⟩
theorem wy{m:Nat}(hr:Room m X.A){K:PySem.W.Frag}(hK:X.K=K):CallR X (.type "set") (zX K (dA X.prog X.w)):=by
 subst hK;intro pins s σ H xs us Q I r h
 obtain⟨p,ns,rfl,hq,h60,q⟩:=h
 obtain⟨u,rfl,ru⟩:=dS r
 cases ru;obtain⟨its,rv,pl,hz⟩:=I.list hq
 have hlen:its.length=ns.length:=by rw[← rv.length,List.length_map]
 refine wM (ns:=ns) hr.hd pl.isList (by simpa using ju rv) (by simp only[List.size_toArray]; unfold scanBound; omega) fun h' tk hS hk=>?_
 obtain⟨ds,hg,hnd,hmem,hdl⟩:=qA hS
 refine⟨.ref s.heap.objs.size,_,I.laid (fun b o e=>hk b o (Heap.lt_size e) e) (Nat.le_refl _) (show ObjOk X.prog X.w _ h' _ (dA X.prog X.w s.heap.objs.size ds) from sA hS (fun k=>(hmem k).symm) hnd hdl),rfl,q _ ds (I.hok.fresh (Nat.le_refl _)) hnd (fun x=>?_) ?_⟩
 ·rw[hmem,tM]
  simp only[List.size_toArray,List.any_map,List.any_eq_true,List.mem_range]
  constructor
  ·rintro⟨i,hi,e⟩
   have e':ns.getD i "" = x:=by simpa using e
   rw[← e',List.getD_eq_getElem?_getD,List.getElem?_eq_getElem (by omega)]
   exact List.getElem_mem _
  ·intro hx
   obtain⟨i,hi,e⟩:=List.mem_iff_getElem.mp hx
   exact⟨i,by omega,by simp[List.getD_eq_getElem?_getD,List.getElem?_eq_getElem hi,e]⟩
 ·rw[hdl]
  have:=mI (fun i=>ns.getD i "") its.toArray.size
  simp only[List.size_toArray]at this ⊢
  omega
theorem Br:OpR X (binaryOp .BitOr) (De (dA X.prog X.w)):=by
 intro pins s σ H x y v u Q I rx ry h
 obtain⟨a,b,ds,es,rfl,rfl,hab,ha,hb,hn,q⟩:=h
 cases rx
 cases ry;obtain⟨S1,n1,g1,m1,d1,l1⟩:=(show ObjOk X.prog X.w H s.heap a (dA X.prog X.w a ds) from I.hok a _ ha).1
 obtain⟨S2,n2,g2,m2,d2,l2⟩:=(show ObjOk X.prog X.w H s.heap b (dA X.prog X.w b es) from I.hok b _ hb).1
 refine Co hab g1 g2 (by omega) fun h' m tk hk hm hS=>?_
 obtain⟨us,hg,hnd,hmem,hul⟩:=qA hS
 refine⟨.ref s.heap.objs.size,_,I.laid (t':=tk) hk (Nat.le_refl _) (show ObjOk X.prog X.w _ h' _ (dA X.prog X.w s.heap.objs.size us) from sA hS (fun k=>(hmem k).symm) hnd hul),rfl,q _ us (I.hok.fresh (Nat.le_refl _)) hnd (fun x=>?_) (by omega)⟩
 rw[hmem,Bool.or_eq_true,m1,m2]
theorem ut{m:Nat}(hr:Room m X.A):CallR X (.builtin "sorted") (ni (dA X.prog X.w)):=by
 intro pins s σ H xs us Q I r h
 obtain⟨p,ds,rfl,e,h60,q⟩:=h
 obtain⟨u,rfl,ru⟩:=dS r
 cases ru;obtain⟨S,n,g,hm,nd,hl⟩:=(show ObjOk X.prog X.w H s.heap p (dA X.prog X.w p ds) from I.hok p _ e).1
 obtain⟨es',hg,hnd,hmem,hul⟩:=qA g
 obtain⟨o,es,ep,t,ho,hx,hd,hfew,hf,hgd,hint,hds⟩:=hg
 have hpm:es'.Perm ds:=(List.perm_ext_iff_of_nodup hnd nd).mpr fun k=>by rw[hmem,hm]
 have hz:es.size≤60:=by
  have:=hpm.length_eq
  rw[← hds,List.length_map,Array.length_toList]at this
  omega
 have hs:sizeLine=16777216:=sizeLine_eq
 refine vd hr.hd ho hx hd hf (by omega) hgd hint fun h' d' tk qa out c ns' hk hq hc a1 a2 a3=>?_
 have hl:ns'.length≤60:=by rw[a2.length_eq,List.length_map,Array.length_toList]; exact hz
 have I2:=I.laid (t':=tk) (a:=qa) (o:=.lst (ns'.map V.str)) hk hq (show ObjOk X.prog X.w _ h' _ (.lst (ns'.map V.str)) from ⟨by rw[List.length_map]; omega,out.toList,c,jw a1,by simpa using hc⟩)
 refine⟨.ref qa,_,?_,rfl,q _ ns' (I.hok.fresh hq) ((by rw[← hds]at hpm; exact a2.trans hpm)) a3⟩
 exact⟨I2.ok,I2.os,I2.bare,I2.base,I2.loc,I2.cell,I2.free,I2.freeC,I2.pin,I2.hok,I2.len⟩
theorem kQ{m:Nat}(K:PySem.W.Frag)(P:Program)(w:World)(hr:Room m X.A)(hK:X.K=K:=by rfl)(hw:X.w=w:=by rfl)(hP:X.prog=P:=by rfl):CallR X (.type "set") (zX K (dA P w)):=hP ▸ hw ▸ wy hr hK
theorem rb{m:Nat}(P:Program)(w:World)(hr:Room m X.A)(hw:X.w=w:=by rfl)(hP:X.prog=P:=by rfl):CallR X (.builtin "sorted") (ni (dA P w)):=hP ▸ hw ▸ ut hr
theorem Av(P:Program)(w:World)(hw:X.w=w:=by rfl)(hP:X.prog=P:=by rfl):OpR X (binaryOp .BitOr) (De (dA P w)):=hP ▸ hw ▸ Br
end
end L2
namespace L2
open PySem PySem.Spec PyProof.Rows PySem.SeqAt PySem.Builtin PySem.Builtin.Str PySem.StrLaws
end L2
namespace L2
open PySem PySem.Spec PyProof.Rows PySem.SeqAt
section
variable{X:Cx}{x n:Str}{C:Addr}{bmB:List Value}{B newId initId:String}{np hp pos:Pos}{body suite orelse:List Stmt}{b₀ : Stmt}{tb:XK→TS}{th te:TS}{rest:List ExceptHandler}
end
end L2
namespace L2
open PySem PySem.Spec PyProof.Rows
section
variable{M:Model}{A:Around}{E:Value→Shared→Prop}{s:Shared}
end
section
variable{X:Cx}{N0 T:List Str}{scope:Scope}{tg elt iter:Expr}{ifs:List Expr}{pos:Pos}{wi:TI}{g:TG}{tc:TT}{te:TE}
end
section
variable{X:Cx}{N0 T:List Str}{scope:Scope}{C:Addr}{fp:List Addr}{s:Shared}{H:Hp}{E1:XK}{x:Str}
end
end L2
namespace L2
open PySem PySem.Spec PyProof.Rows PySem.SeqAt
section
variable{X:Cx}{e:Expr}{te:TE}{lo hi:Option Expr}{st:Expr}{tl th ts:TO}{pos p2:Pos}
end
section
variable{X:Cx}
end
end L2
namespace L2
open PySem PySem.Spec PyProof.Rows
section
variable{X:Cx}{n:Nat}(P:Program)(w:World)(hr:Room n X.A)
include hr
theorem uk(hP:X.prog=P:=by rfl)(hw:X.w=w:=by rfl):OpR X (compareOp .NotIn) (sX P w):=by subst hP hw; exact vD hr
theorem Bx(hP:X.prog=P:=by rfl)(hw:X.w=w:=by rfl):PSet X (zI P w):=by subst hP hw; exact D1 hr
theorem ul{ek ev:Expr}{tk tv:TE}{pos:Pos}(hk:PE X ek tk)(hv:PE X ev tv)(hP:X.prog=P:=by rfl)(hw:X.w=w:=by rfl):PE X (.Dict [some ek] [ev] pos) (mi P w tk tv):=by subst hP hw; exact xM hr hk hv
end
end L2
namespace L2
open PySem PySem.Spec PyProof.Rows
section
variable{X:Cx}{N0 T:List Str}{scope:Scope}{tg elt iter:Expr}{ifs:List Expr}{pos:Pos}{wi:TI}{g:TG}{tc:TT}{te:TE}
end
section
variable{X:Cx}{N0 T:List Str}{scope:Scope}{C:Addr}{fp:List Addr}{s:Shared}{H:Hp}{x:Str}
end
theorem yu{X:Cx}{n:Nat}(P:Program)(w:World)(hr:Room n X.A){o e:Expr}{td ty:TE}{apos cpos:Pos}(ho:PE X o td)(he:PE X e ty)(m:M1 X o "get" apos e cpos) (hP:X.prog=P:=by rfl) (hw:X.w=w:=by rfl):PE X (.Call (.Attribute o "get" apos) [e] [] cpos) (lH P w td ty):=by subst hP hw; exact AV hr ho he m
theorem xO(P:Program)(w:World)(td ty:TE){σ : St}{H:Hp}{Q:VK}:lH P w td ty σ H Q=td σ H fun x H1=>∃ a kvs,x = .ref a∧DO P w H1 a kvs∧ty σ H1 fun y H2=>∃ b k kvs',y = .ref b∧DO P w H2 a kvs'∧KeyO H2 k b∧Q ((aX kvs' k).getD .non) H2:=rfl
theorem uI(P:Program)(w:World)(tk tv:TE){σ : St}{H:Hp}{Q:VK}:mi P w tk tv σ H Q=∀ p,H p=none→∀ u,DO P w (upd H p u) p []→tk σ (upd H p u) fun y H1=>tv σ H1 fun z H2=>∃ b k,y = .ref b∧KeyO H2 k b∧DO P w H2 p []∧∀ u',DO P w (upd H2 p u') p [(k,z)]→Q (.ref p) (upd H2 p u'):=rfl
end L2
namespace L2
open PySem PySem.Spec PyProof.Rows
structure tZ (P:Program) (w:World) (K:PySem.W.Frag) (mg:Str→Option Value) (base:Heap) (k:Nat) (f:Addr) (ps:List Str) (sp:Sp):Prop where
 ex:∃ fd,FnOk P w K mg base iq k f fd ps sp∧Binds K fd ps []∧PySem.W.keepIn K (.ref f)=true
theorem Cal.f{P:Program}{w:World}{K:PySem.W.Frag}{mg:Str→Option Value}{base:Heap}{k:Nat}{x:Str}{ps:List Str}{sp:Sp}(c:Cal P w K mg base k x ps sp):∃ f,mg x=some (.ref f)∧tZ P w K mg base k f ps sp:=by
 obtain⟨f,fd,F,b,kp,m⟩:=c.ex
 exact⟨f,m,fd,F,b,kp⟩
def Di(i:Nat)(f:Addr)(sp:Sp)(t:TA):TE:=fun σ H Q=>σ[i]? = some (some (.ref f))∧iO sp [] E0 t σ H Q
section
variable{X:Cx}
theorem Bj{i j k:Nat}{f:Addr}{x:Str}{ps:List Str}{sp:Sp}{p pos:Pos}{e:Expr}{es:List Expr}{t:TA}(c:tZ X.prog X.w X.K X.mg X.base j f ps sp)(hr:Room k X.A)(ha:PA X (e::es) t)(hle:j≤k:=by decide)(hN:X.N[i]? = some x:=by rfl)(hv:au X.env.scope x:=by first | exact vSs (by decide +kernel) | exact Or.inl rfl)
  (hd:(x == ("__debug__" : Str))=false:=by decide) (hcd:(x == ("__classdict__" : Str))=false:=by decide) (he:starEach (e::es) X.env=(false,eval e X.env)::starEach es X.env:=by rfl) (hpl:(backTo pos (starEach es X.env)).any (·.1)=false:=by rfl) :
  PE X (.Call (.Name x p) (e::es) [] pos) (Di i f sp t):=by
 intro pins s σ H Q I h
 obtain⟨hσ,h⟩:=h
 obtain⟨fd,F,hb,kp⟩:=c.ex
 refine wpAny_Call_Name_kw (bq (vQ (pos:=p) hN hv hd hcd pins s σ H (fun v H'=>v = .ref f∧H'=H) I ⟨_,hσ,rfl,rfl⟩) fun u s0 ⟨v,H0,I0,r0,hv0,hH0⟩=>?_)
 subst hv0 hH0;obtain rfl:u=Value.ref f:=r0
 refine PySem.W.callWith_K (h₀:=X.base) I0.ok.mod.kin kp (bq (ha pos pins s0 σ H0 _ I0 h) fun us s1 ⟨vs,H1,I1,r,q⟩=>⟨I1.kIn,?_⟩) he hpl
 exact vE F (hr.mono hle) hb .nil Ap I1 r q
theorem wI{x:Str}{f:Addr}{pos:Pos}(hm:X.mg x=some (.ref f))(hg:Gl X x:=by first | exact vGg (by decide +kernel) | rfl)(hd:(x == ("__debug__" : Str))=false:=by decide):PE X (.Name x pos) (tC (.ref f)):=lS hg hm rfl hd
end
end L2
namespace L2
open PySem PySem.Spec PyProof PyProof.Rows
section
variable{prog:Program}{w:World}{A:Around}{E:Value→Shared→Prop}{s:Shared}{d:Addr}{es:Array DictEntry}{ep:Nat}
end
section
variable{X:Cx}
end
end L2
namespace L2
open PySem PySem.Spec PyProof PyProof.Rows
section
variable{X:Cx}
end
end L2
namespace L2
open PySem PySem.Spec PyProof PyProof.Rows
section
variable{prog:Program}{w:World}{A:Around}{E:Value→Shared→Prop}{s:Shared}{d:Addr}{es:Array DictEntry}{ep:Nat}
end
section
variable{X:Cx}
end
end L2
namespace L2
open PySem PySem.Spec PyProof PyProof.Rows
section
variable{X:Cx}
end
end L2
namespace L2
open PySem PySem.Spec PyProof.Rows PySem.SeqAt
section
variable{M:Model}{A:Around}{E:Value→Shared→Prop}{K:PySem.W.Frag}
variable{nm q:Str}{C D N:Addr}{bs bm:List Value}{hdct:Bool}{sn:List Str}{sub:List Value}{ab:Bool}{col:Option Bool}{dd:Option Addr}{k0 k1 k2 k3 k5:Option Value}{newId:String}
theorem kn{h:Heap}{g:Array GenState}{d:Drawn}{t:Nat}{os:OsState}{e:Addr}{oe:Obj}{Q:Bool→Shared→Prop}(X:K.In h)
  (hD:h.get? D=some (excClassObj nm q D N bs bm hdct sn sub ab col dd k0 k1 k2 k3 k5 newId)) (he:h.get? e=some oe) (hcls:oe.cls = .ref C) (hbase:bm.contains (.type "BaseException")=true)
  (hs:PySem.W.subIn K (.ref C) (.ref D)=some false) (hq:Q false ⟨h,g,d,t,os⟩):wpAny M A (excMatches (.ref e) (.ref D)) Q E ⟨h,g,d,t,os⟩:=by
 have hcB:(Value.ref D::bm).contains (.type "BaseException")=true:=by rw[List.contains_cons,hbase,Bool.or_true]
 have L:PySem.W.Looks M h _ _:=PySem.W.looks_subIn X hs
 have f:=tc_notTuple;unfold excMatches
 repeat (first | (with_reducible refine PySem.W.Looks.at L ?_) | (with_reducible refine wpAny_loadPart_at he ?_; rw[hcls]) | with_reducible refine wpAny_loadPart_at hD ?_ | (with_reducible refine wpAny_isSubtype_exc hD ?_; rw[hcB]) | wp_step)
 exact hq
theorem Ba(h:PySem.W.kitOne K (.ref C) (.ref D)=some false):PySem.W.subIn K (.ref C) (.ref D)=some false:=by
 unfold PySem.W.kitOne PySem.W.kitCls at h;split at h
 ·cases h
 ·dsimp only at h
  split at h
  ·exact h
  ·cases h
end
section
variable{prog:Program}{w:World}{A:Around}{E:Value→Shared→Prop}{s:Shared}{env:Env}{K:PySem.W.Frag}
theorem mO{e C D:Addr}{x:Str}{bmB:List Value}{newId:String}{mg:Str→Option Value}{t:Expr}{n:Option Str}{suite:List Stmt}{pos:Pos}{rest:List ExceptHandler}{Q:Flow→Shared→Prop}
  (hbase:bmB.contains (.type "BaseException")=true) (hs:PySem.W.subIn K (.ref C) (.ref D)=some false)
  (h:wpAny (model prog w) (A.mark (some (.ref e))) (eval t env) (fun c s₁=>c = .ref D∧K.In s₁.heap∧OwnClsQ x D bmB newId mg s₁.heap∧(∃ oe,s₁.heap.get? e=some oe∧oe.cls = .ref C)∧
   wpAny (model prog w) A (handleBy (.ref e) env rest) Q E s₁) (notedBy (model prog w) (A.mark (some (.ref e))) env (cameBackBy (model prog w) A env E)) s) :
  wpAny (model prog w) A (handleBy (.ref e) env (.ExceptHandler (some t) n suite pos::rest)) Q E s:=by
 refine wpAny_handleBy_cons (codeAny_handlers_test (wpAny_mono h (fun c s₁ h₁=>?_) fun _ _ y=>y)) (by intro q; cases q)
 obtain⟨rfl,X,O,⟨oe,he,hcls⟩,hk⟩:=h₁
 obtain⟨bm,N,nm,q,bs,hdct,sn,sub,ab,col,dd,k0,k1,k2,k3,k5,mN,hC,hN,hq,T⟩:=O.obj
 obtain⟨hh,g,d,tk,os⟩:=s₁
 exact kn X hC he hcls (T.tail.hasType hbase) hs hk
end
abbrev hx2 (C:Addr) (i:Nat) (th:TS) (D:db) (σ : St) (H':Hp):Prop:=
 ∀ a,H' a=none→th { nx:=fun σ' H2=>D.nx (σ'.set i none) H2,rt:=D.rt,bk:=fun σ' H2=>D.bk (σ'.set i none) H2,ct:=fun σ' H2=>D.ct (σ'.set i none) H2 } (σ.set i (some (.ref a))) (upd H' a (rU a (.ref C)))
def zJ(C C':Addr)(i:Nat)(tb:XK→TS)(th th':TS):TS:=fun D σ H=>
 tb (fun c _ H'=>(c = .ref C∧hx2 C i th D σ H')∨(c = .ref C'∧hx2 C' i th' D σ H')) D σ H
theorem zc{C C':Addr}{i:Nat}{tb:XK→TS}{th th':TS}{D:db}{σ : St}{H:Hp}:zJ C C' i tb th th' D σ H=tb (fun c _ H'=>(c = .ref C∧hx2 C i th D σ H')∨(c = .ref C'∧hx2 C' i th' D σ H')) D σ H:=rfl
section
variable{X:Cx}{x x' n:Str}{C C':Addr}{np hp np' hp' pos:Pos}{body suite suite':List Stmt}{b₀ b₀':Stmt}{tb:XK→TS}{th th':TS}{rest:List ExceptHandler}
theorem AJ(i:Nat)(o:eK X.K X.mg x C)(o':eK X.K X.mg x' C')(kt:PySem.W.kitOne X.K (.ref C') (.ref C)=some false)(hN:X.N.Nodup)(hb:∀ Ee,uY X Ee body (tb Ee))
  (hs:∀ a,PSs (X.held a) (b₀::suite) th) (hs':∀ a,PSs (X.held a) (b₀'::suite') th') (hk:X.env.kindOf n=some .local) (hst:X.stack=X.env::X.outer:=by rfl) (hfr:X.env.frame=some X.env.locals:=by rfl) (hex:X.ex=[]:=by rfl)
  (hi:X.N[i]? = some n:=by rfl) (hg:Gl X x:=by first | exact vGg (by decide +kernel) | rfl) (hd:(x == ("__debug__" : Str))=false:=by decide) (hg':Gl X x':=by rfl) (hd':(x' == ("__debug__" : Str))=false:=by decide) :
  PS X (.Try body (.ExceptHandler (some (.Name x np)) (some n) (b₀::suite) hp :: .ExceptHandler (some (.Name x' np')) (some n) (b₀'::suite') hp'::rest) [] [] pos) (zJ C C' i tb th th'):=by
 intro pins s σ H D I h
 refine wpAny_Try_except (wpAny_mono (hb _ pins s σ H D I h) (fun f s1 q=>?_) fun e s1 q=>?_)
 ·cases f with
  | next=>obtain⟨σ',H',I',q⟩:=q; exact bv pins s1 σ' H' D I' q
  | ret v=>exact q
  | brk=>exact q
  | cont=>exact q
 obtain⟨H0,s0,I0,H',hR,a,C0,a0,fl,rfl,os,bare,un,hok,hf,hsub,fly,sl,q⟩:=q
 have fly':=fly;rw[hst]at fly'
 refine wpAny_looks_onW (by rw[I.ok.frames,hst]) hfr fly' fun h4 held sm4=>wpAny_landsW held fun h5 fly5 sm5=>?_
 have sl5:=sl.trans (sm4.trans sm5);have nf:∀ b∈eD X.stack,H0 b=none∧∃ o,s0.heap.get? b=some o∧∀ vs,o.data ≠ .fields vs:=fun b hb=>⟨I0.stkFree b hb,(I0.stack.mem hb).2⟩
 have I5:Inv X pins σ H' { s1 with heap:=h5 }:=I0.call' (ch:=[]) (s':={ s1 with heap:=h5 }) os (v0 (P:=X.prog) (w:=X.w) un hf hsub nf fly5.1 sl5) (kG hok (fun b hb=>(hf b hb).1) fly5.1) bare (fun b z=>absurd z (by simp))
 have land:∀ {x:Str} {C:Addr} {np hp:Pos} {b₀ : Stmt} {suite:List Stmt} {th:TS} {rest:List ExceptHandler} (o:eK X.K X.mg x C) (hg:Gl X x) (hd:(x == ("__debug__" : Str))=false) (hs:∀ a,PSs (X.held a) (b₀::suite) th) (ec:C0 = .ref C) (qq:hx2 C i th D σ H'),
   wpAny (model X.prog X.w) X.A (handleBy (.ref a) X.env (.ExceptHandler (some (.Name x np)) (some n) (b₀::suite) hp::rest)) (SP X pins D) X.xe { s1 with heap:=h5 }:=by
  intro x C np hp b₀ suite th rest o hg hd hs ec qq
  subst ec;have O:=gG (x:=x) I.ok.mod.kin o.m o.c.q;refine handleBy_own_as (x:=x) (C:=C) (bmB:=[.type "ValueError", .type "Exception", .type "BaseException", .type "object"]) (newId := "ValueError.__new__") (mg:=X.mg) rfl (fN (X:=X.held a) (I5.held a) hg O.bound ⟨rfl,O.keeps I5.bk,?_,?_⟩ hd)
  ·obtain⟨oe,vs,e1,e2,_⟩:=fly5.first; exact⟨oe,e1,e2⟩
  refine lands_againW fly5 fun h6 fly6 sm6=>?_
  have sl6:=sl5.trans sm6;have I6:Inv X pins σ H' { s1 with heap:=h6 }:=I0.call' (ch:=[]) (s':={ s1 with heap:=h6 }) os (v0 (P:=X.prog) (w:=X.w) un hf hsub nf fly6.1 sl6) (kG hok (fun b hb=>(hf b hb).1) fly6.1) bare (fun b z=>absurd z (by simp))
  obtain⟨oe,vs,e1,e2,e3,_⟩:=fly6.first
  have key:∀ b o,s0.heap.get? b=some o→b≠a:=by
   intro b o e z
   subst z
   by_cases hbl:b∈fl
   ·rcases(hf b hbl).2 with y | y
    ·obtain⟨_,o',y1,y2⟩:=I0.stack.mem y
     have:b∈(X.env::X.outer).filterMap (·.frame):=by rw[← hst]; exact y
     obtain⟨_,o2,z1,z2⟩:=fly6.2.2.1.mem this
     rw[e1]at z1; cases z1
     exact z2 vs e3
    ·rw[e]at y; cases y
   ·obtain⟨o',y⟩:=un.there b o e (by simp)
    have:=PySem.W.hideAll_get fl y hbl
    rw[fly6.2.1]at this; cases this
  have hna:H' a=none:=A2 hok (fun b hb=>(hf b hb).1) fly6.2.1
  have I7:Inv X pins σ (upd H' a (rU a (.ref C))) { s1 with heap:=h6 }:=by
   refine I6.track hna (fun b ob z=>?_) (fun z=>?_) (fun y c z=>?_) (fun p z=>?_) ?_ hex
   ·obtain⟨o',y⟩:=I0.base.there b ob z (by rw[hex]; simp)
    exact key b o' y
   ·obtain⟨m,⟨o,_,_,ho,_⟩,_⟩:=I0.loc
    exact key _ o ho z
   ·obtain⟨v,o,ho,_⟩:=I0.cell y c z
    exact key c o ho
   ·exact key _ _ (I0.pin p z).1
   ·exact⟨⟨oe,e1,e2⟩,⟨oe,e1⟩,fun h1 h2 ⟨o,y1,y2⟩ k=>⟨o,k o y1,y2⟩⟩
  refine iZ I7 hN hi (.inl hk) (show RelV (.ref a) (.ref a) from rfl) (fun s7 I8=>?_) (.inr hk)
  refine wpAny_mono (hs a pins s7 _ _ _ (I8.held a) (qq a hna)) (fun f s8 z=>?_) fun _ _ z=>False.elim z
  have go:∀ {σ' H2},Inv (X.held a) pins σ' H2 s8→(∀ s9,Inv X pins (σ'.set i none) H2 s9→SP X pins D f s9)→
    wpAny (model X.prog X.w) X.A (do bindName X.env n .none; unbindBehindTheSuite X.env n hp) (fun _ s₅=>SP X pins D f s₅) X.xe s8:=by
   intro σ' H2 J k
   have J:=J.unheld I.ok;obtain⟨m,hn,hl⟩:=id J.loc
   exact wpAny_nameGoes_keeps hk hn (by rw[I.ok.kind]; rfl) fun h' v hn' hs'=>k _ (J.goes hN hi hk hl hn' hn hs')
  cases f with
  | next=>obtain⟨σ',H2,J,z⟩:=z; exact go J fun s9 J9=>⟨_,H2,J9,z⟩
  | ret v=>obtain⟨v',σ',H2,J,r,z⟩:=z; exact go J fun s9 J9=>⟨v',_,H2,J9,r,z⟩
  | brk=>obtain⟨σ',H2,J,z⟩:=z; exact go J fun s9 J9=>⟨_,H2,J9,z⟩
  | cont=>obtain⟨σ',H2,J,z⟩:=z; exact go J fun s9 J9=>⟨_,H2,J9,z⟩
 rcases q with ⟨ec,q⟩ | ⟨ec,q⟩
 ·exact land o hg hd hs ec q
 ·have O:=gG (x:=x) I.ok.mod.kin o.m o.c.q
  refine mO (K:=X.K) (C:=C') (x:=x) (bmB:=[.type "ValueError", .type "Exception", .type "BaseException", .type "object"]) (newId := "ValueError.__new__") (mg:=X.mg) rfl (Ba kt) (fN (X:=X.held a) (I5.held a) hg O.bound ⟨rfl,I5.kIn,O.keeps I5.bk,?_,land o' hg' hd' hs' ec q⟩ hd)
  obtain⟨oe,vs,e1,e2,_⟩:=fly5.first
  exact⟨oe,e1,by rw[e2,ec]⟩
end
end L2
section
open PySem PySem.Spec PyProof.Rows L2
seal L2.PE L2.PT L2.PW L2.PA L2.PS L2.PSs L2.PG L2.PGs L2.PSet L2.PI L2.PIfs L2.OpR L2.UnR L2.CallR L2.IxR L2.MtR L2.SlR L2.PO L2.PPs
local macro_rules | `(tactic| walk_at "rd1")=>`(tactic| try simp only [rN,pU,kY,jY,qp,pA,sV,tG,pT,sH,o_,tH,qP,sO,rX,sD,Ac,wG,pQ,z7,se,xj,rV,qj,tI,pM,xC,wx,qv,tD,tz,tK,px,xQ,wZ,pc,lA,oJ,tL,qh,sf,pG,qx,qV,sk,qL,vw,zT,nU,nz,nN,nG,m4,rT,pW,qU,qF,mT,tm,tS,fR,nA,lE,qR,pF,oW,pD,jX,j0,mY,nK,oK,qT,oY,kS,tO,sY,oN,pC,oG,kl,pL,rR,tP,tq,L2.start,List.map_cons,List.map_nil,List.length_cons,List.length_nil,List.replicate,List.cons_append,List.nil_append,List.append_nil,List.getElem?_cons_zero,List.getElem?_cons_succ,List.set_cons_zero,List.set_cons_succ,Nat.reduceAdd,Nat.reduceSub,Option.some.injEq,exists_eq_left',exists_eq_left,V.int.injEq,V.ref.injEq,V.str.injEq,V.bl.injEq,xu,sN,and_true,true_and,decide_eq_true_eq,Bool.not_true,Bool.not_false,if_true,Bool.false_eq_true,if_false,ite_true,ite_false])
local macro_rules | `(tactic| walk_at "nx")=>`(tactic| ((first | rw [me] | (dsimp only; rw [me])); walk_at "rd1"))
local macro_rules | `(tactic| walk_at "lk")=>`(tactic| repeat (first | exact lk_hit | exact BW | rw [lk_miss (by decide +kernel)]))
local macro_rules | `(tactic| walk_at "pf")=>`(tactic| repeat (first | rw [putF_hit] | rw [yQ] | rw [putF_miss (by decide +kernel)]))
namespace K18
open PySem L2
abbrev ck:Stmt:=top 8
theorem uP:aU ["numbers", "ways"] ["numbers", "ways"] (defScope ck):=mKk
abbrev gLk (s : Stmt) (n : Str) : Prop:=(defScope s).names.lookup n=some .globalImplicit
theorem oIn {a b : Prop} (h : a) : a ∨ b:=.inl h
abbrev aT:Stmt:=top 9
theorem sc_finer_kinds:aU ["rooms", "kinds", "seen", "finer", "at", "room", "mark"] ["rooms", "kinds"] (defScope aT):=mKk
theorem Ip:gLk aT "enumerate":=by decide +kernel
abbrev bn:Stmt:=top 10
theorem sc_kinds_upto:aU ["rooms", "most", "kinds", "finer"] ["rooms", "most"] (defScope bn):=mKk
theorem HL:(defScope bn).names.lookup ("kinds" : Str)=some .local:=by decide +kernel
abbrev bd:Stmt:=top 11
theorem sc_merged_rooms:aU ["rooms", "kinds", "merged", "at", "room"] ["rooms", "kinds"] (defScope bd):=mKk
theorem He:gLk bd "enumerate":=by decide +kernel
abbrev ba:Stmt:=top 12
theorem sc_rooms_led_to:aU ["rooms", "order", "met", "at", "room", "way"] ["rooms"] (defScope ba):=mKk
abbrev aB:Stmt:=top 13
theorem sc_numbered_rooms:aU ["rooms", "order", "numbers", "number", "room"] ["rooms"] (defScope aB):=mKk
theorem IU:au (defScope aB) "rooms" := Or.inr (Or.inl (by decide +kernel))
theorem HS:au (defScope aB) "numbers" := Or.inr (Or.inl (by decide +kernel))
theorem IG:bb (defScope aB) "numbers" := Or.inr (by decide +kernel)
theorem HF:gLk aB "enumerate":=by decide +kernel
abbrev aW:Stmt:=top 14
theorem jO:aU ["rooms", "place"] ["rooms", "place"] (defScope aW):=mKk
theorem IE:gLk aW "enumerate":=by decide +kernel
abbrev cD:Stmt:=top 15
theorem xa:aU ["things", "places"] ["things", "places"] (defScope cD):=mKk
abbrev ay:Stmt:=top 16
theorem sc_least_upto:aU ["rule", "most", "kinds", "words", "rooms", "places"] ["rule", "most"] (defScope ay):=mKk
theorem HQ:au (defScope ay) "rooms" := Or.inr (Or.inl (by decide +kernel))
theorem HZ:bb (defScope ay) "rooms" := Or.inr (by decide +kernel)
theorem Hd:au (defScope ay) "places" := Or.inr (Or.inl (by decide +kernel))
theorem Ha:bb (defScope ay) "places" := Or.inr (by decide +kernel)
theorem IS:gLk ay "range":=by decide +kernel
abbrev bW:Stmt:=top 18
theorem kf:aU ["one", "other"] ["one", "other"] (defScope bW):=mKk
abbrev bO:Stmt:=top 19
theorem kB:aU ["one", "other"] ["one", "other"] (defScope bO):=mKk
abbrev bN:Stmt:=top 20
theorem rF:aU ["words", "places", "number", "room"] ["words", "places", "number", "room"] (defScope bN):=mKk
abbrev aI:Stmt:=top 21
theorem sc_ways_by_room:aU ["rule", "words", "places", "place", "word", "ways", "number", "room"] ["rule", "words"] (defScope aI):=mKk
theorem Eo:gLk aI "enumerate":=by decide +kernel
abbrev bK:Stmt:=top 22
theorem kU:aU ["ones", "others", "pair"] ["ones", "others", "pair"] (defScope bK):=mKk
theorem Hk:gLk bK "list":=by decide +kernel
theorem HB:gLk bK "zip":=by decide +kernel
abbrev ce:Stmt:=top 26
theorem sc_next_room:aU ["rule", "room", "text", "words"] ["rule", "room", "text"] (defScope ce):=mKk
abbrev bV:Stmt:=top 27
theorem sc_room_from:aU ["rule", "room", "row", "text"] ["rule", "room", "row"] (defScope bV):=mKk
abbrev cm:Stmt:=top 28
theorem nY:aU ["rule", "row"] ["rule", "row"] (defScope cm):=mKk
abbrev cK:Stmt:=top 30
theorem og:aU ["pair"] ["pair"] (defScope cK):=mKk
abbrev cy:Stmt:=top 31
theorem ma:aU ["pair"] ["pair"] (defScope cy):=mKk
abbrev av:Stmt:=top 32
theorem sc_rule_of_pairs:aU ["one", "other", "breaks", "words", "ones", "others", "order", "numbers", "rooms", "here", "room", "pair"] ["one", "other", "breaks"] (defScope av):=mKk
abbrev aQ:Stmt:=top 33
theorem sc_least_of_pairs:aU ["one", "other", "breaks", "least"] ["one", "other", "breaks"] (defScope aQ):=mKk
abbrev b6:Stmt:=top 34
theorem mv:aU ["one", "other"] ["one", "other"] (defScope b6):=mKk
abbrev b5:Stmt:=top 35
theorem mJ:aU ["one", "other"] ["one", "other"] (defScope b5):=mKk
abbrev cw:Stmt:=top 38
theorem pS:aU ["other", "one", "words", "others", "ones", "order", "came", "met", "at", "here", "word", "pair"] ["other", "one"] (defScope cw):=mKk
abbrev cg:Stmt:=top 40
theorem mB:aU ["_law_script", "_law_k"] ["_law_script", "_law_k"] (defScope cg):=mKk
abbrev aO:Stmt:=top 41
theorem sc_law_words:aU ["_law_cell", "_law_many", "_law_sides", "_law_letters", "_law_size", "_law_at", "_law_words_here", "_law_k", "_law_word", "_law_j", "_law_step"] ["_law_cell", "_law_many", "_law_sides"] (defScope aO):=mKk
theorem Cd:gLk aO "range":=by decide +kernel
abbrev a_:Stmt:=top 42
theorem sc_law_counter:aU ["_law_sides", "_law_step", "_law_zero", "_law_many", "_law_rooms", "_law_i", "_law_room", "_law_word"] ["_law_sides", "_law_step", "_law_zero", "_law_many"] (defScope a_):=mKk
theorem Fz:gLk a_ "range":=by decide +kernel
abbrev bI:Stmt:=top 43
theorem oH:aU ["_law_e"] ["_law_e"] (defScope bI):=mKk
abbrev bt:Stmt:=top 44
theorem sc_law_made:aU ["_law_way", "_law_one", "_law_other_here", "_law_other_class", "_law_told", "_law_e"] ["_law_way", "_law_one", "_law_other_here"] (defScope bt):=mKk
theorem G_:(defScope bt).names.lookup ("_law_e" : Str)=some .local:=by decide +kernel
theorem FY:gLk bt "TooGreat":=by decide +kernel
abbrev bM:Stmt:=top 45
theorem sc_law_kept:aU ["_law_way", "_law_words_here", "_law_counts", "_law_row", "_law_at", "_law_word", "_law_k"] ["_law_way", "_law_words_here", "_law_counts", "_law_row"] (defScope bM):=mKk
abbrev aq:Stmt:=top 46
theorem sc_law_counted:aU ["_law_script", "_law_way", "_law_words_here", "_law_sides", "_law_one", "_law_more", "_law_most", "_law_row", "_law_other_here", "_law_rules", "_law_found"] ["_law_script", "_law_way", "_law_words_here", "_law_sides"] (defScope aq):=mKk
theorem mM:au (defScope aq) "_law_words_here" := Or.inr (Or.inl (by decide +kernel))
theorem IY:(defScope aq).names.lookup ("_law_row" : Str)=some .local:=by decide +kernel
abbrev aJ:Stmt:=top 47
theorem sc_law_worded:aU ["_law_script", "_law_way", "_law_sides", "_law_words_here", "_law_cut", "_law_one", "_law_many", "_law_other_here", "_law_found"] ["_law_script", "_law_way", "_law_sides"] (defScope aJ):=mKk
abbrev bo:Stmt:=top 48
theorem sc_law_unlike:aU ["_law_script", "_law_words_here", "_law_one", "_law_other_here", "_law_way"] ["_law_script", "_law_words_here"] (defScope bo):=mKk
theorem EF:gLk bo "range":=by decide +kernel
abbrev az:Stmt:=top 49
theorem sc_law_small:aU ["_law_script", "_law_sides", "_law_words_here", "_law_one", "_law_other_here", "_law_due", "_law_ring", "_law_i", "_law_still", "_law_rule"] ["_law_script", "_law_sides"] (defScope az):=mKk
theorem uy:au (defScope az) "_law_words_here" := Or.inr (Or.inl (by decide +kernel))
theorem EX:bb (defScope az) "_law_words_here" := Or.inr (by decide +kernel)
theorem FN:au (defScope az) "_law_other_here" := Or.inr (Or.inl (by decide +kernel))
theorem GO:bb (defScope az) "_law_other_here" := Or.inr (by decide +kernel)
theorem Fi:bb (defScope az) "_law_i" := Or.inr (by decide +kernel)
theorem EL:gLk az "range":=by decide +kernel
abbrev cN:Stmt:=top 50
theorem sc_law:aU ["_law_script", "_law_first", "_law_sides"] ["_law_script"] (defScope cN):=mKk
abbrev letters:Str := "abcdefghijklmnopqrstuvwxyz"
def oD(K:PySem.W.Frag):Sp:=fun vs H Q _=>∃ (a:Addr) (ns:List Int),vs=[.ref a]∧SqL K H a (ns.map V.int)∧ns.length≤63∧∀ H',Q (.bl true) H'
def ip(K:PySem.W.Frag):Sp:=fun vs H Q _=>∃ (a:Addr) (ns:List Int) (k:Int),vs=[.ref a,.int k]∧SqL K H a (ns.map V.int)∧0≤k∧Q (.int (ns.getD k.toNat 0)) H
def ak:Option Nat→V
 | none=>.non
 | some n=>.int n
theorem xY(x:Str)(c:Nat):(x++(⟨#[c]⟩ : Str)).length=x.length+1:=by rw[Str.length_append]; rfl
section
variable{P:Program}{w:World}{K:PySem.W.Frag}{mg:Str→Option Value}{base:Heap}
theorem AH(D:DefAt K mg "_law_cell_at" cg) (z_len:mg "len" = none):Cal P w K mg base 1 "_law_cell_at" ["_law_script", "_law_k"] (ip K):=by
 refine D.cal mB (fun _ _ _ _ _ _ us hl=>match us,hl with | [_,_],_=>rfl) (fun vs H Q E h=>by obtain⟨a,ns,k,rfl,_⟩:=h; rfl) (fun f cdv A outer s H vs Q E hr h=>?_)
 obtain⟨a,ns,k,rfl,hS,h0,q⟩:=h
 refine⟨_,(ah (bT (aM lr (pv 1) (bF (cz K) z_len dB (aa (pv 0) ac)) (aV _)) (aj (aN (aP (bi K) (pv 0) (pv 1) (fun _ _=>rfl)))) bv)
   (aj (aN af))),?_⟩
 try simp only[me,rN,pU,kY,jY,qp,pA,sV,tG,pT,sH,o_,tH,qP,sO,rX,sD,Ac,wG,pQ,z7,se,xj,rV,qj,tI,pM,xC,wx,qv,tD,tz,tK,px,xQ,wZ,pc,lA,oJ,tL,qh,sf,pG,qx,qV,sk,qL,vw,zT,nU,nz,nN,nG,m4,rT,pW,qU,qF,mT,tm,tS,fR,nA,lE,qR,pF,oW,pD,jX,j0,mY,nK,oK,qT,oY,kS,tO,sY,oN,pC,oG,kl,pL,rR,tP,tq,L2.start,List.map_cons,List.map_nil,List.length_cons,List.length_nil,List.replicate,List.cons_append,List.nil_append,List.append_nil,List.getElem?_cons_zero,List.getElem?_cons_succ,List.set_cons_zero,List.set_cons_succ,Nat.reduceAdd,Nat.reduceSub,Option.some.injEq,exists_eq_left',exists_eq_left,V.int.injEq,V.ref.injEq,V.str.injEq,V.bl.injEq,xu,sN,and_true,true_and,decide_eq_true_eq,Bool.not_true,Bool.not_false,if_true,Bool.false_eq_true,if_false,ite_true,ite_false]
 refine⟨_,.inl hS,bg (fun c=>?_) (fun c=>?_)⟩
 ·rw[List.length_map]at c
  refine⟨_,.int (ns.getD k.toNat 0),.inl hS,vA h0 ?_,q⟩
  rw[List.getD_eq_getElem?_getD,List.getElem?_eq_getElem (by omega)]; rfl
 ·rw[List.length_map]at c
  have e:ns.getD k.toNat 0=0:=by
   rw[List.getD_eq_getElem?_getD,List.getElem?_eq_none (by omega)]; rfl
  rw[e]at q; exact q
end
set_option genInjectivity false in
set_option genSizeOf false in
structure Rl where
 s:Int
 ws:List Str
 rs:List (List (Option Nat))
structure bj (r:Rl):Prop where
 s:r.s=1∨r.s=2
 nw:r.ws.length≤18
 n0:1≤r.rs.length
 n1:r.rs.length≤140
 row:∀ x∈r.rs,x.length=r.ws.length∧∀ k,some k∈x→k<r.rs.length
 lw:∀ w∈r.ws,w.length≤10
def RoomsAs(H:Hp)(p:Addr)(rs:List (List (Option Nat)))(as:List Addr):Prop:=
 H p=some (.lst (as.map V.ref))∧as.length=rs.length∧∀ (i:Nat) a x,as[i]? = some a→rs[i]? = some x→H a=some (.lst (x.map ak))
def RuleAt(H:Hp)(p:Addr)(r:Rl):Prop:=∃ pw pr as,H p=some (.tup [.int r.s,.ref pw,.ref pr])∧H pw=some (.lst (r.ws.map V.str))∧RoomsAs H pr r.rs as
theorem RoomsAs.mono{H H':Hp}{p:Addr}{rs:List (List (Option Nat))}{as:List Addr}(sm:Same H H')(h:RoomsAs H p rs as):RoomsAs H' p rs as:=by
 obtain⟨h1,h2,h3⟩:=h
 exact⟨sm _ _ h1,h2,fun i a x e1 e2=>sm _ _ (h3 i a x e1 e2)⟩
theorem RuleAt.mono{H H':Hp}{p:Addr}{r:Rl}(sm:Same H H')(h:RuleAt H p r):RuleAt H' p r:=by
 obtain⟨pw,pr,as,h1,h2,h3⟩:=h
 exact⟨pw,pr,as,sm _ _ h1,sm _ _ h2,h3.mono sm⟩
theorem wK(ss:List Str):(ss.map V.str).all bR=true:=by
 rw[List.all_eq_true]; intro x hx; obtain⟨s,_,rfl⟩:=List.mem_map.mp hx; rfl
theorem AN(y:Str)(ss:List Str):ja (.str y) (ss.map V.str)=decide (y∈ss):=by
 rw[Bool.eq_iff_iff];unfold ja;rw[List.any_eq_true,decide_eq_true_eq]
 constructor
 ·rintro⟨x,hx,e⟩
  obtain⟨s,hs,rfl⟩:=List.mem_map.mp hx
  have e':(s == y)=true:=e
  rw[← eq_of_beq e']; exact hs
 ·intro h
  exact⟨.str y,List.mem_map.mpr ⟨y,h,rfl⟩,by show (y == y)=true; simp⟩
def fD{α : Type}(xs:List α)(lo hi:Option Int):List α:=(xs.drop (HT.sIx xs.length 0 lo)).take (HT.sIx xs.length xs.length hi - HT.sIx xs.length 0 lo)
theorem gC{α : Type}(f:α→V)(xs:List α)(lo hi:Option Int):kx (xs.map f) lo hi=(fD xs lo hi).map f:=by
 unfold kx fD;rw[List.length_map,List.map_take,List.map_drop]
theorem yc{α : Type}(xs:List α)(lo hi:Option Int):(fD xs lo hi).length≤xs.length:=by
 unfold fD;rw[List.length_take,List.length_drop];omega
theorem vJ(x:List (Option Nat)):∀ v∈x.map ak,bR v=true:=by
 intro v hv
 obtain⟨o,_,rfl⟩:=List.mem_map.mp hv
 cases o <;> rfl
theorem wV(x:List Str):∀ v∈x.map V.str,bR v=true:=by
 intro v hv
 obtain⟨o,_,rfl⟩:=List.mem_map.mp hv
 rfl
theorem zo{K:PySem.W.Frag}{H:Hp}{p q:Addr}{rs:List (List (Option Nat))}{as bs:List Addr}(h1:RoomsAs H p rs as)(h2:RoomsAs H q rs bs):EqN K H 2 (.ref p) (.ref q) true:=by
 obtain⟨a1,a2,a3⟩:=h1
 obtain⟨b1,b2,b3⟩:=h2
 refine EqN.seq (.inl ⟨SqL.of a1,SqL.of b1⟩) (by simp; omega) fun i x y e1 e2=>?_
 rw[List.getElem?_map]at e1 e2
 cases qa:as[i]? with
 | none=>rw[qa]at e1; cases e1
 | some a=>
  cases qb:bs[i]? with
  | none=>rw[qb]at e2; cases e2
  | some b=>
   rw[qa]at e1; rw[qb]at e2
   cases e1; cases e2
   have hi:i<rs.length:=by have:=(List.getElem?_eq_some_iff.mp qa).1; omega
   exact EqN.seqFlat (.inl ⟨SqL.of (a3 i a _ qa (List.getElem?_eq_getElem hi)),SqL.of (b3 i b _ qb (List.getElem?_eq_getElem hi))⟩) (vJ _)
theorem md{K:PySem.W.Frag}{H:Hp}{p q:Addr}{r:Rl}(h1:RuleAt H p r)(h2:RuleAt H q r):EqN K H 3 (.ref p) (.ref q) true:=by
 obtain⟨pw,pr,as,a1,a2,a3⟩:=h1
 obtain⟨qw,qr,bs,b1,b2,b3⟩:=h2
 refine EqN.seq (.inr ⟨SqT.of a1,SqT.of b1⟩) rfl fun i x y e1 e2=>?_
 match i,e1,e2 with
 | 0,e1,e2=>cases e1; cases e2; exact EqN.refl rfl
 | 1,e1,e2=>cases e1; cases e2; exact EqN.seqFlat (.inl ⟨SqL.of a2,SqL.of b2⟩) (wV _)
 | 2,e1,e2=>cases e1; cases e2; exact zo a3 b3
 | i+3,e1,e2=>simp at e1
abbrev aY:=List (List (Option Nat))
def al{α : Type}[DecidableEq α]:List α→List α→List α
 | acc,[]=>acc
 | acc,m::ms=>al (if m∈acc then acc else acc++[m]) ms
section
variable{α : Type}[DecidableEq α]
theorem di:∀ (ms acc:List α) (m:α),al acc (ms++[m])=if m∈al acc ms then al acc ms else al acc ms++[m]
 | [],acc,m=>rfl
 | x::ms,acc,m=>by
  show al _ (ms++[m])=_
  rw[di ms]; rfl
theorem iE:∀ (ms acc:List α),∃ t,al acc ms=acc++t
 | [],acc=>⟨[],by simp[al]⟩
 | m::ms,acc=>by
  obtain⟨t,e⟩:=iE ms (if m∈acc then acc else acc++[m])
  show ∃ t,al (if m∈acc then acc else acc++[m]) ms=acc++t
  by_cases h:m∈acc
  ·rw[if_pos h]at e ⊢; exact⟨t,e⟩
  ·rw[if_neg h]at e ⊢; exact⟨[m]++t,by rw[e,List.append_assoc]⟩
theorem bL:∀ (ms acc:List α) (x:α),x∈al acc ms ↔ x∈acc∨x∈ms
 | [],acc,x=>by simp[al]
 | m::ms,acc,x=>by
  show x∈al (if m∈acc then acc else acc++[m]) ms ↔ _
  rw[bL ms]
  by_cases h:m∈acc
  ·rw[if_pos h]
   constructor
   ·rintro(z | z)
    ·exact .inl z
    ·exact .inr (List.mem_cons_of_mem _ z)
   ·rintro(z | z)
    ·exact .inl z
    ·rcases List.mem_cons.mp z with rfl | z
     ·exact .inl h
     ·exact .inr z
  ·rw[if_neg h,List.mem_append,List.mem_singleton,List.mem_cons,or_assoc]
theorem gP:∀ (ms acc:List α),acc.Nodup→(al acc ms).Nodup
 | [],acc,h=>h
 | m::ms,acc,h=>by
  show (al (if m∈acc then acc else acc++[m]) ms).Nodup
  refine gP ms _ ?_
  by_cases hm:m∈acc
  ·rw[if_pos hm]; exact h
  ·rw[if_neg hm,List.nodup_append]
   exact⟨h,by simp,fun x hx y hy e=>by rw[List.mem_singleton.mp hy]at e; exact hm (e ▸ hx)⟩
theorem w9{l t:List α}{x:α}(h:x∈l):(l++t).idxOf x=l.idxOf x:=by
 rw[List.idxOf_append,if_pos h]
def cR(ms:List α):List Nat:=ms.map fun m=>(al [] ms).idxOf m
theorem rn{ms:List α}{i:Nat}{m:α}(h:ms[i]? = some m):(al [] (ms.take (i+1))).idxOf m=(al [] ms).idxOf m:=by
 have e:ms=ms.take (i+1)++ms.drop (i+1):=(List.take_append_drop _ _).symm
 have hm:m∈ms.take (i+1):=by
  rw[List.take_add_one,h]; simp
 have step:∀ (a b acc:List α),al acc (a++b)=al (al acc a) b:=by
  intro a
  induction a with
  | nil=>intro b acc; rfl
  | cons x a ih=>intro b acc; exact ih b _
 have q:al [] ms=al (al [] (ms.take (i+1))) (ms.drop (i+1)):=by
  rw[← step,← e]
 obtain⟨t,ht⟩:=iE (ms.drop (i+1)) (al [] (ms.take (i+1)))
 rw[q,ht,w9 ((bL _ _ _).mpr (.inr hm))]
def jl(x:α)(l:List α):Nat:=l.idxOf x
theorem rG{ms:List α}{i:Nat}{m:α}(h:ms[i]? = some m):(cR ms)[i]? = some (jl m (al [] (ms.take (i+1)))):=by
 unfold jl;rw[rn h];unfold cR;rw[List.getElem?_map,h]; rfl
theorem xU(x:α)(l:List α):jl x (x::l)=0:=by unfold jl; simp
theorem v8{x y:α}(h:y≠x)(l:List α):jl x (y::l)=jl x l+1:=by
 unfold jl;rw[List.idxOf_cons];have hb:(y == x)=false:=beq_eq_false_iff_ne.mpr h
 rw[hb]; rfl
theorem rm{ms:List α}{i j:Nat}{m m':α}(h:ms[i]? = some m)(h':ms[j]? = some m'):(cR ms)[i]? = (cR ms)[j]? ↔ m=m':=by
 unfold cR;rw[List.getElem?_map,List.getElem?_map,h,h'];show some _=some _ ↔ _
 have hm:m∈al [] ms:=(bL _ _ _).mpr (.inr (List.mem_of_getElem? h))
 have hm':m'∈al [] ms:=(bL _ _ _).mpr (.inr (List.mem_of_getElem? h'))
 constructor
 ·intro e
  have e':(al [] ms).idxOf m=(al [] ms).idxOf m':=Option.some.inj e
  have h1:=List.getElem_idxOf (List.idxOf_lt_length_iff.mpr hm);have h2:=List.getElem_idxOf (List.idxOf_lt_length_iff.mpr hm');rw[← h1,← h2]
  congr 1
 ·rintro rfl; rfl
def df(l:List Nat):Prop:=∀ i,al [] (l.take i)=List.range (al [] (l.take i)).length
theorem dN:∀ (ms acc:List α),(al acc ms).length≤acc.length+ms.length
 | [],acc=>by simp[al]
 | m::ms,acc=>by
  have h:=dN ms (if m∈acc then acc else acc++[m])
  show (al (if m∈acc then acc else acc++[m]) ms).length≤_
  by_cases hm:m∈acc
  ·rw[if_pos hm]at h ⊢; rw[List.length_cons]; omega
  ·rw[if_neg hm]at h ⊢; rw[List.length_append]at h; rw[List.length_cons]; simp at h; omega
end
section
variable{α β : Type}[DecidableEq α][DecidableEq β]
theorem i0(f:α→β):∀ (ms acc:List α),(∀ x∈acc++ms,∀ y∈acc++ms,f x=f y→x=y)→al (acc.map f) (ms.map f)=(al acc ms).map f
 | [],acc,_=>rfl
 | m::ms,acc,h=>by
  show al (if f m∈acc.map f then acc.map f else acc.map f++[f m]) (ms.map f)=(al (if m∈acc then acc else acc++[m]) ms).map f
  by_cases hm:m∈acc
  ·rw[if_pos hm,if_pos (List.mem_map.mpr ⟨m,hm,rfl⟩)]
   exact i0 f ms acc fun x hx y hy=>h x (by simp at hx ⊢; rcases hx with z | z <;> simp[z]) y (by simp at hy ⊢; rcases hy with z | z <;> simp[z])
  ·have hn:f m∉acc.map f:=fun z=>by
    obtain⟨x,hx,e⟩:=List.mem_map.mp z
    have:=h x (by simp[hx]) m (by simp) e
    exact hm (this ▸ hx)
   rw[if_neg hm,if_neg hn];have ih:=i0 f ms (acc++[m]) fun x hx y hy=>h x (by simp at hx ⊢; rcases hx with z | z | z <;> simp[z]) y (by simp at hy ⊢; rcases hy with z | z | z <;> simp[z])
   rw[List.map_append]at ih
   exact ih
end
theorem lF{α : Type}[DecidableEq α]{l:List α}(nd:l.Nodup)(c:Nat)(hc:c≤l.length):(l.take c).map (fun x=>l.idxOf x)=List.range c:=by
 refine List.ext_getElem (by simp; omega) fun i h1 h2=>?_
 have hi:i<l.length:=by simp at h1; omega
 rw[List.getElem_map,List.getElem_take,List.getElem_range];exact nd.idxOf_getElem _ hi
theorem fL{α : Type}[DecidableEq α](ms:List α):df (cR ms):=by
 intro i
 have hnd:=gP ms [] List.nodup_nil;have e1:(cR ms).take i=(ms.take i).map fun m=>(al [] ms).idxOf m:=by unfold cR; rw[List.map_take]
 have inj:∀ x∈[]++ms.take i,∀ y∈[]++ms.take i,(al [] ms).idxOf x=(al [] ms).idxOf y→x=y:=fun x hx y hy e=>by
  have hx':x∈al [] ms:=(bL _ _ _).mpr (.inr (List.mem_of_mem_take (by simpa using hx)))
  have hy':y∈al [] ms:=(bL _ _ _).mpr (.inr (List.mem_of_mem_take (by simpa using hy)))
  have h1:=List.getElem_idxOf (List.idxOf_lt_length_iff.mpr hx');have h2:=List.getElem_idxOf (List.idxOf_lt_length_iff.mpr hy');rw[← h1,← h2]; congr 1
 have e2:=i0 (fun m=>(al [] ms).idxOf m) (ms.take i) [] inj
 rw[List.map_nil]at e2
 have step:∀ (a b acc:List α),al acc (a++b)=al (al acc a) b:=by
  intro a
  induction a with
  | nil=>intro b acc; rfl
  | cons x a ih=>intro b acc; exact ih b _
 have q:al [] ms=al (al [] (ms.take i)) (ms.drop i):=by rw[← step,List.take_append_drop]
 obtain⟨t,ht⟩:=iE (ms.drop i) (al [] (ms.take i))
 have e3:al [] (ms.take i)=(al [] ms).take (al [] (ms.take i)).length:=by rw[q,ht,List.take_left]
 have hlen:(al [] (ms.take i)).length≤(al [] ms).length:=by rw[q,ht,List.length_append]; omega
 rw[e1,e2,List.length_map]
 conv=>lhs; rw[e3]
 exact lF hnd _ hlen
theorem jo{l:List Nat}{i:Nat}{x:Nat}(h:df l)(hx:l[i]? = some x)(hn:x∉l.take i):x=(al [] (l.take i)).length:=by
 have h1:=h i;have h2:=h (i+1);rw[List.take_add_one,hx]at h2
 show _=_
 have hn':x∉al [] (l.take i):=fun z=>by
  rcases(bL _ _ _).mp z with z | z
  ·cases z
  ·exact hn z
 have e:al [] (l.take i++(some x).toList)=al [] (l.take i)++[x]:=by
  show al [] (l.take i++[x])=_
  rw[di,if_neg hn']
 rw[e,List.length_append,List.length_singleton,List.range_succ,← h1]at h2
 have:=List.append_cancel_left h2
 simpa using this
theorem m6{a b:List Nat}(ha:df a)(hb:df b)(hl:a.length=b.length)(h:∀ i j:Nat,i<a.length→j<a.length→(a[i]? = a[j]? ↔ b[i]? = b[j]?)):a=b:=by
 have key:∀ i,i≤a.length→a.take i=b.take i:=by
  intro i
  induction i with
  | zero=>intro _; simp
  | succ i ih=>
   intro hi
   have ih':=ih (by omega)
   have hai:i<a.length:=by omega
   have hbi:i<b.length:=by omega
   rw[List.take_add_one,List.take_add_one,ih',List.getElem?_eq_getElem hai,List.getElem?_eq_getElem hbi]
   congr 2
   by_cases hm:a[i]∈a.take i
   ·obtain⟨j,hj,e⟩:=List.mem_iff_getElem.mp hm
    have hj':j<i:=by simp at hj; omega
    rw[List.getElem_take]at e
    have q:=(h j i (by omega) hai).mp (by rw[List.getElem?_eq_getElem (by omega),List.getElem?_eq_getElem hai,e])
    rw[List.getElem?_eq_getElem (by omega),List.getElem?_eq_getElem hbi]at q
    have q':b[j]=b[i]:=Option.some.inj q
    rw[← q',← e];have e1:(a.take i)[j]? = (b.take i)[j]?:=by rw[ih']
    rw[List.getElem?_take_of_lt hj',List.getElem?_take_of_lt hj',List.getElem?_eq_getElem (by omega),List.getElem?_eq_getElem (by omega)]at e1
    exact e1
   ·have hn:b[i]∉b.take i:=fun z=>by
     obtain⟨j,hj,e⟩:=List.mem_iff_getElem.mp z
     have hj':j<i:=by simp at hj; omega
     rw[List.getElem_take]at e
     have q:=(h j i (by omega) hai).mpr (by rw[List.getElem?_eq_getElem (by omega),List.getElem?_eq_getElem hbi,e])
     rw[List.getElem?_eq_getElem (by omega),List.getElem?_eq_getElem hai]at q
     have q':a[j]=a[i]:=Option.some.inj q
     exact hm (q' ▸ List.mem_iff_getElem.mpr ⟨j,by simp; omega,by rw[List.getElem_take]⟩)
    rw[jo ha (List.getElem?_eq_getElem hai) hm,jo hb (List.getElem?_eq_getElem hbi) hn,ih']
 have:=key a.length (Nat.le_refl _)
 rw[List.take_length]at this
 rw[this,hl,List.take_length]
def mark(R:aY)(ks:List Nat)(i:Nat):Nat × List (Option Nat):=(ks.getD i 0,(R.getD i []).map (Option.map fun k=>ks.getD k 0))
def dz(R:aY)(ks:List Nat):List (Nat × List (Option Nat)):=(List.range R.length).map (mark R ks)
def finer(R:aY)(ks:List Nat):List Nat:=cR (dz R ks)
def iter(R:aY):Nat→List Nat
 | 0=>R.map fun _=>0
 | t+1=>finer R (iter R t)
def ae(R:aY):List Nat:=iter R (R.length * R.length)
theorem xL(R:aY)(ks:List Nat):(dz R ks).length=R.length:=by simp[dz]
theorem fY(R:aY)(ks:List Nat):(finer R ks).length=R.length:=by simp[finer,cR,dz]
theorem bJ(R:aY):∀ t,(iter R t).length=R.length
 | 0=>by simp[iter]
 | t+1=>fY R _
theorem kO{R:aY}{ks:List Nat}{i:Nat}(h:i<R.length):(dz R ks)[i]? = some (mark R ks i):=by
 unfold dz; rw[List.getElem?_map,List.getElem?_range h]; rfl
theorem fM{R:aY}{ks:List Nat}{i j:Nat}(hi:i<R.length)(hj:j<R.length):(finer R ks)[i]? = (finer R ks)[j]? ↔ mark R ks i=mark R ks j:=rm (kO hi) (kO hj)
theorem rB(n:Nat):df (List.replicate n 0):=by
 intro i
 rw[List.take_replicate]
 have:∀ k,al ([0]:List Nat) (List.replicate k 0)=[0]:=by
  intro k
  induction k with
  | zero=>rfl
  | succ k ih=>rw[List.replicate_succ]; show al (if 0∈[0] then [0] else [0]++[0]) _=_; rw[if_pos (by simp)]; exact ih
 cases h:min i n with
 | zero=>rfl
 | succ k=>
  rw[List.replicate_succ];show al (if (0:Nat)∈[] then [] else []++[0]) (List.replicate k 0)=List.range (al (if (0:Nat)∈[] then [] else []++[0]) (List.replicate k 0)).length
  rw[if_neg (by simp),List.nil_append,this]; rfl
theorem b8(R:aY):∀ t,df (iter R t)
 | 0=>by
  show df (R.map fun _=>0)
  rw[List.map_const'];exact rB _
 | t+1=>fL _
def dH(n:Nat)(ks:List Nat):Nat:=((List.range n).flatMap fun i=>(List.range n).map fun j=>(i,j)).countP fun p=>decide (ks[p.1]? = ks[p.2]?)
theorem m_{α : Type}{p q:α→Bool}:∀ {l:List α},(∀ x∈l,p x=true→q x=true)→(∃ x∈l,q x=true∧p x=false)→l.countP p<l.countP q
 | [],_,⟨x,hx,_⟩=>by simp at hx
 | y::l,h,⟨x,hx,h1,h2⟩=>by
  have mono:∀ {l:List α},(∀ x∈l,p x=true→q x=true)→l.countP p≤l.countP q:=by
   intro l hl
   exact List.countP_mono_left hl
  rw[List.countP_cons,List.countP_cons];rcases List.mem_cons.mp hx with rfl | hx
  ·have:=mono (l:=l) fun z hz=>h z (List.mem_cons_of_mem _ hz)
   rw[h1,h2]; simp; omega
  ·have:=m_ (fun z hz=>h z (List.mem_cons_of_mem _ hz)) ⟨x,hx,h1,h2⟩
   have hy:=h y List.mem_cons_self
   cases hp:p y with
   | true=>rw[hy hp]; simp; omega
   | false=>cases q y <;> simp <;> omega
theorem ki{R:aY}{ks:List Nat}(hl:ks.length=R.length)(hc:df ks)(hne:finer R ks≠ks):dH R.length (finer R ks)<dH R.length ks:=by
 have sub:∀ i j,i<R.length→j<R.length→(finer R ks)[i]? = (finer R ks)[j]?→ks[i]? = ks[j]?:=fun i j hi hj e=>by
  have m:=(fM hi hj).mp e;have m1:ks.getD i 0=ks.getD j 0:=congrArg (·.1) m
  rw[List.getD_eq_getElem?_getD,List.getD_eq_getElem?_getD,List.getElem?_eq_getElem (by omega),List.getElem?_eq_getElem (by omega)]at m1
  rw[List.getElem?_eq_getElem (by omega),List.getElem?_eq_getElem (by omega)]
  exact congrArg some m1
 refine m_ (fun x hx e=>?_) ?_
 ·obtain⟨i,hi,hx⟩:=List.mem_flatMap.mp hx
  obtain⟨j,hj,rfl⟩:=List.mem_map.mp hx
  exact decide_eq_true (sub i j (List.mem_range.mp hi) (List.mem_range.mp hj) (of_decide_eq_true e))
 ·refine Classical.byContradiction fun hno=>hne ?_
  refine m6 (fL _) hc (by rw[fY,hl]) fun i j hi hj=>?_
  rw[fY]at hi hj
  refine⟨sub i j hi hj,fun e=>Classical.byContradiction fun e2=>hno ⟨(i,j),?_,decide_eq_true e,decide_eq_false e2⟩⟩
  exact List.mem_flatMap.mpr ⟨i,List.mem_range.mpr hi,List.mem_map.mpr ⟨j,List.mem_range.mpr hj,rfl⟩⟩
theorem qf(n:Nat)(ks:List Nat):dH n ks≤n * n:=by
 unfold dH;refine Nat.le_trans List.countP_le_length ?_
 have:∀ (l:List Nat),(l.flatMap fun i=>(List.range n).map fun j=>(i,j)).length=l.length * n:=by
  intro l
  induction l with
  | nil=>simp
  | cons x l ih=>rw[List.flatMap_cons,List.length_append,ih,List.length_map,List.length_range,List.length_cons,Nat.succ_mul]; omega
 rw[this,List.length_range]; exact Nat.le_refl _
theorem qD{R:aY}{t:Nat}(h:iter R (t+1)=iter R t):∀ s,iter R (t+s)=iter R t
 | 0=>rfl
 | s+1=>by
  show finer R (iter R (t+s))=_
  rw[qD h s]; exact h
theorem gS{R:aY}{t:Nat}(h:iter R (t+1)=iter R t)(ht:t≤R.length * R.length):iter R t=ae R:=by
 unfold ae;have:=qD h (R.length * R.length - t)
 rw[show t+(R.length * R.length - t)=R.length * R.length by omega]at this
 exact this.symm
def cZ(ks:List Nat)(x:List (Option Nat)):List (Option Nat):=x.map (Option.map fun k=>ks.getD k 0)
def bX(R:aY)(ks:List Nat)(i:Nat):aY:=(List.range (al [] (ks.take i)).length).map fun k=>cZ ks (R.getD (ks.idxOf k) [])
def merged(R:aY):aY:=bX R (ae R) R.length
theorem rL{l:List Nat}{i x:Nat}(hx:l[i]? = some x)(hn:x∉l.take i):l.idxOf x=i:=by
 obtain⟨hi,e⟩:=List.getElem?_eq_some_iff.mp hx
 have h0:l=l.take i++l.drop i:=(List.take_append_drop _ _).symm
 have h1:l.drop i=x::l.drop (i+1):=by rw[List.drop_eq_getElem_cons hi,e]
 rw[h0,List.idxOf_append,if_neg hn,h1,List.idxOf_cons_self,List.length_take];omega
theorem rE{R:aY}{ks:List Nat}(hc:df ks)(hl:ks.length=R.length){i:Nat}(hi:i<R.length) :
  bX R ks (i+1)=if ks.getD i 0=(bX R ks i).length then bX R ks i++[cZ ks (R.getD i [])] else bX R ks i:=by
 have hik:i<ks.length:=by omega
 have hk:ks[i]? = some ks[i]:=List.getElem?_eq_getElem hik
 have hg:ks.getD i 0=ks[i]:=by rw[List.getD_eq_getElem?_getD,hk]; rfl
 have hml:(bX R ks i).length=(al [] (ks.take i)).length:=by simp[bX]
 rw[hg,hml];have ht:ks.take (i+1)=ks.take i++[ks[i]]:=by rw[List.take_add_one,hk]; rfl
 by_cases hm:ks[i]∈ks.take i
 ·have hf:ks[i]∈al [] (ks.take i):=(bL _ _ _).mpr (.inr hm)
  have hlt:ks[i]<(al [] (ks.take i)).length:=by
   have:=hc i
   rw[this]at hf
   exact List.mem_range.mp hf
  rw[if_neg (by omega)]
  unfold bX;rw[ht,di,if_pos hf]
 ·have hn:ks[i]∉al [] (ks.take i):=fun z=>by
   rcases(bL _ _ _).mp z with z | z
   ·cases z
   ·exact hm z
  have e:=jo hc hk hm;rw[if_pos e];unfold bX;rw[ht,di,if_neg hn,List.length_append,List.length_singleton,List.range_succ,List.map_append]
  congr 1
  rw[← e];show [cZ ks (R.getD (ks.idxOf ks[i]) [])]=_
  rw[rL hk hm]
def aH:List Nat→List (Option Nat)→List Nat
 | o,[]=>o
 | o,none::x=>aH o x
 | o,some k::x=>aH (if k∈o then o else o++[k]) x
theorem ij:∀ (x:List (Option Nat)) (o:List Nat) (w:Option Nat),aH o (x++[w])=match w with
  | none=>aH o x
  | some k=>if k∈aH o x then aH o x else aH o x++[k]
 | [],o,none=>rfl
 | [],o,some k=>rfl
 | none::x,o,w=>ij x o w
 | some k::x,o,w=>ij x _ w
theorem iN:∀ (x:List (Option Nat)) (o:List Nat),∃ t,aH o x=o++t
 | [],o=>⟨[],by simp[aH]⟩
 | none::x,o=>iN x o
 | some k::x,o=>by
  obtain⟨t,e⟩:=iN x (if k∈o then o else o++[k])
  show ∃ t,aH (if k∈o then o else o++[k]) x=o++t
  by_cases h:k∈o
  ·rw[if_pos h]at e ⊢; exact⟨t,e⟩
  ·rw[if_neg h]at e ⊢; exact⟨[k]++t,by rw[e,List.append_assoc]⟩
theorem eh:∀ (x:List (Option Nat)) (o:List Nat) (k:Nat),k∈aH o x ↔ k∈o∨some k∈x
 | [],o,k=>by simp[aH]
 | none::x,o,k=>by rw[show aH o (none::x)=aH o x from rfl,eh x]; simp
 | some j::x,o,k=>by
  rw[show aH o (some j::x)=aH (if j∈o then o else o++[j]) x from rfl,eh x]
  by_cases h:j∈o
  ·rw[if_pos h]
   constructor
   ·rintro(z | z)
    ·exact .inl z
    ·exact .inr (List.mem_cons_of_mem _ z)
   ·rintro(z | z)
    ·exact .inl z
    ·rcases List.mem_cons.mp z with e | z
     ·cases e; exact .inl h
     ·exact .inr z
  ·rw[if_neg h]; simp[or_assoc]
theorem fz:∀ (x:List (Option Nat)) (o:List Nat),o.Nodup→(aH o x).Nodup
 | [],o,h=>h
 | none::x,o,h=>fz x o h
 | some k::x,o,h=>by
  refine fz x _ ?_
  by_cases hm:k∈o
  ·rw[if_pos hm]; exact h
  ·rw[if_neg hm,List.nodup_append]
   exact⟨h,by simp,fun a ha b hb e=>by rw[List.mem_singleton.mp hb]at e; exact hm (e ▸ ha)⟩
def aC(M:aY):Nat→List Nat
 | 0=>[0]
 | t+1=>match (aC M t)[t]? with
  | some r=>aH (aC M t) (M.getD r [])
  | none=>aC M t
def aD(M:aY):List Nat:=aC M M.length
def d9(M:aY):Prop:=∀ x∈M,∀ k,some k∈x→k<M.length
theorem eO:∀ (m:Nat) (l:List Nat),l.Nodup→(∀ x∈l,x<m)→l.length≤m
 | 0,l,_,h=>by
  cases l with
  | nil=>exact Nat.le_refl _
  | cons x l=>exact absurd (h x List.mem_cons_self) (Nat.not_lt_zero _)
 | m+1,l,nd,h=>by
  have h1:=eO m (l.filter (fun x=>decide (x≠m))) (nd.filter _) fun x hx=>by
   obtain⟨hx,hd⟩:=List.mem_filter.mp hx
   have:=h x hx
   have:=of_decide_eq_true hd
   omega
  have h2:l.length≤(l.filter (fun x=>decide (x≠m))).length+1:=by
   have:∀ (l:List Nat),l.Nodup→l.length≤(l.filter (fun x=>decide (x≠m))).length+1:=by
    intro l
    induction l with
    | nil=>intro _; simp
    | cons y l ih=>
     intro nd
     by_cases e:y=m
     ·subst e
      have hy:y∉l:=(List.nodup_cons.mp nd).1
      have e2:l.filter (fun x=>decide (x≠y))=l:=List.filter_eq_self.mpr fun x hx=>decide_eq_true (fun z=>hy (z ▸ hx))
      rw[List.filter_cons_of_neg (by simp),e2,List.length_cons]; exact Nat.le_refl _
     ·rw[List.filter_cons_of_pos (by simpa using e),List.length_cons,List.length_cons]
      have:=ih (List.nodup_cons.mp nd).2
      omega
   exact this l nd
  omega
theorem dJ{M:aY}(hi:d9 M)(h0:1≤M.length):∀ t,(aC M t).Nodup∧∀ x∈aC M t,x<M.length
 | 0=>⟨by simp[aC],fun x hx=>by simp[aC]at hx; omega⟩
 | t+1=>by
  obtain⟨nd,lt⟩:=dJ hi h0 t
  show (match (aC M t)[t]? with | some r=>aH (aC M t) (M.getD r []) | none=>aC M t).Nodup∧∀ x∈(match (aC M t)[t]? with | some r=>aH (aC M t) (M.getD r []) | none=>aC M t),x<M.length
  cases e:(aC M t)[t]? with
  | none=>exact⟨nd,lt⟩
  | some r=>
   refine⟨fz _ _ nd,fun x hx=>?_⟩
   rcases(eh _ _ _).mp hx with z | z
   ·exact lt x z
   ·have hr:r<M.length:=lt r (List.mem_of_getElem? e)
    rw[List.getD_eq_getElem?_getD,List.getElem?_eq_getElem hr]at z
    exact hi _ (List.getElem_mem hr) x z
theorem jE{M:aY}(hi:d9 M)(h0:1≤M.length)(t:Nat):(aC M t).length≤M.length:=eO _ _ (dJ hi h0 t).1 (dJ hi h0 t).2
theorem mL{M:aY}{t:Nat}(h:(aC M t).length≤t):∀ s,aC M (t+s)=aC M t
 | 0=>rfl
 | s+1=>by
  have ih:=mL h s;show (match (aC M (t+s))[t+s]? with | some r=>aH (aC M (t+s)) (M.getD r []) | none=>aC M (t+s))=_
  rw[ih,List.getElem?_eq_none (by omega)]
theorem i_{M:aY}{t:Nat}(h:(aC M t).length≤t)(ht:t≤M.length):aC M t=aD M:=by
 unfold aD;have:=mL h (M.length - t)
 rw[show t+(M.length - t)=M.length by omega]at this
 exact this.symm
def fw(o:List Nat)(x:List (Option Nat)):List (Option Nat):=x.map (Option.map fun k=>o.idxOf k)
def bc(M:aY):aY:=(aD M).map fun r=>fw (aD M) (M.getD r [])
def d8(N:aY)(p:Nat):Bool:=(List.range N.length).any fun i=>decide ((N.getD i []).getD p none≠some i)
def places(N:aY)(w:Nat):List Nat:=(List.range w).filter (d8 N)
def ai(R:aY):aY:=bc (merged R)
theorem jD{M:aY}(t:Nat):∃ u,aC M (t+1)=aC M t++u:=by
 show ∃ u,(match (aC M t)[t]? with | some r=>aH (aC M t) (M.getD r []) | none=>aC M t)=aC M t++u
 cases e:(aC M t)[t]? with
 | none=>exact⟨[],by simp⟩
 | some r=>exact iN _ _
theorem kZ{M:aY}:∀ (t j r:Nat),j<t→(aC M t)[j]? = some r→∀ k,some k∈M.getD r []→k∈aC M t
 | 0,j,r,h,_,_,_=>absurd h (Nat.not_lt_zero _)
 | t+1,j,r,h,hr,k,hk=>by
  obtain⟨u,hu⟩:=jD (M:=M) t
  rcases Nat.lt_or_ge j (aC M t).length with hj | hj
  ·have hr':(aC M t)[j]? = some r:=by rw[hu,List.getElem?_append_left hj]at hr; exact hr
   rcases Nat.lt_or_ge j t with hjt | hjt
   ·rw[hu]; exact List.mem_append_left _ (kZ t j r hjt hr' k hk)
   ·have e:j=t:=by omega
    subst e;show k∈(match (aC M j)[j]? with | some r=>aH (aC M j) (M.getD r []) | none=>aC M j)
    rw[hr'];exact(eh _ _ _).mpr (.inr hk)
  ·have hn:(aC M t)[t]? = none:=List.getElem?_eq_none (by omega)
   have e:aC M (t+1)=aC M t:=by
    show (match (aC M t)[t]? with | some r=>aH (aC M t) (M.getD r []) | none=>aC M t)=_
    rw[hn]
   rw[e,List.getElem?_eq_none hj]at hr
   cases hr
theorem dZ{M:aY}(hi:d9 M)(h0:1≤M.length){r k:Nat}(hr:r∈aD M)(hk:some k∈M.getD r []):k∈aD M:=by
 obtain⟨j,hj,e⟩:=List.mem_iff_getElem.mp hr
 have hl:=jE hi h0 M.length;exact kZ M.length j r (Nat.lt_of_lt_of_le hj hl) (by rw[← e]; exact List.getElem?_eq_getElem hj) k hk
theorem dQ{M:aY}(hi:d9 M)(h0:1≤M.length):(aD M).Nodup∧(∀ x∈aD M,x<M.length)∧(aD M).length≤M.length:=⟨(dJ hi h0 _).1,(dJ hi h0 _).2,jE hi h0 _⟩
theorem i3(M:aY):∀ t,(aC M t)[0]? = some 0
 | 0=>rfl
 | t+1=>by
  obtain⟨u,hu⟩:=jD (M:=M) t
  have h:=i3 M t;have hl:0<(aC M t).length:=(List.getElem?_eq_some_iff.mp h).1
  rw[hu,List.getElem?_append_left hl]; exact h
theorem eJ{R:aY}(hc:1≤R.length)(hi:d9 R):d9 (merged R)∧1≤(merged R).length∧(merged R).length≤R.length:=by
 have hl:(ae R).length=R.length:=bJ R _
 have hcn:df (ae R):=b8 R _
 have hall:=hcn R.length;rw[← hl,List.take_length]at hall
 have hml:(merged R).length=(al [] (ae R)).length:=by
  unfold merged bX;rw[List.length_map,List.length_range,← hl,List.take_length]
 have hle:(merged R).length≤R.length:=by
  have:=dN (ae R) []
  rw[hml]; simp at this; omega
 have mem:∀ k∈ae R,k<(merged R).length:=fun k hk=>by
  have:k∈al [] (ae R):=(bL _ _ _).mpr (.inr hk)
  rw[hall]at this
  rw[hml]; exact List.mem_range.mp this
 refine⟨fun x hx k hk=>?_,?_,hle⟩
 ·unfold merged bX at hx
  obtain⟨j,hj,rfl⟩:=List.mem_map.mp hx
  unfold cZ at hk;obtain⟨o,ho,e⟩:=List.mem_map.mp hk
  cases o with
  | none=>cases e
  | some k'=>
   have e':(ae R).getD k' 0=k:=Option.some.inj e
   refine mem k ?_
   have hk':k'<R.length:=by
    by_cases hjj:(ae R).idxOf j<R.length
    ·rw[List.getD_eq_getElem?_getD,List.getElem?_eq_getElem hjj]at ho
     exact hi _ (List.getElem_mem hjj) k' ho
    ·rw[List.getD_eq_getElem?_getD,List.getElem?_eq_none (by omega)]at ho
     cases ho
   rw[← e',List.getD_eq_getElem?_getD,List.getElem?_eq_getElem (by omega)]
   exact List.getElem_mem _
 ·have h0:(ae R)[0]∈ae R:=List.getElem_mem (by omega)
  have:=mem _ h0
  omega
theorem kP{R:aY}{m:Nat}(hr:∀ x∈R,x.length=m):∀ x∈merged R,x.length=m:=by
 have hl:(ae R).length=R.length:=bJ R _
 have hcn:df (ae R):=b8 R _
 intro x hx
 unfold merged bX at hx;obtain⟨j,hj,rfl⟩:=List.mem_map.mp hx
 have hj':j∈al [] ((ae R).take R.length):=by
  have:=hcn R.length
  rw[this]; exact hj
 have hjk:j∈ae R:=by
  rcases(bL _ _ _).mp hj' with z | z
  ·cases z
  ·exact List.mem_of_mem_take z
 have hlt:(ae R).idxOf j<R.length:=by rw[← hl]; exact List.idxOf_lt_length_iff.mpr hjk
 unfold cZ;rw[List.length_map,List.getD_eq_getElem?_getD,List.getElem?_eq_getElem hlt];exact hr _ (List.getElem_mem hlt)
theorem eN{M:aY}{m:Nat}(hi:d9 M)(h0:1≤M.length)(hr:∀ x∈M,x.length=m):d9 (bc M)∧1≤(bc M).length∧(bc M).length≤M.length∧∀ x∈bc M,x.length=m:=by
 obtain⟨nd,lt,le⟩:=dQ hi h0
 have hol:(bc M).length=(aD M).length:=by simp[bc]
 have h1:0<(aD M).length:=(List.getElem?_eq_some_iff.mp (i3 M M.length)).1
 have row:∀ r∈aD M,∃ x,M.getD r []=x∧x∈M:=fun r hr'=>by
  have:=lt r hr'
  exact⟨_,rfl,by rw[List.getD_eq_getElem?_getD,List.getElem?_eq_getElem this]; exact List.getElem_mem _⟩
 refine⟨fun x hx k hk=>?_,by omega,by omega,fun x hx=>?_⟩
 ·unfold bc at hx
  obtain⟨r,hr',rfl⟩:=List.mem_map.mp hx
  unfold fw at hk;obtain⟨o,ho,e⟩:=List.mem_map.mp hk
  cases o with
  | none=>cases e
  | some k'=>
   have e':(aD M).idxOf k'=k:=Option.some.inj e
   rw[← e',hol];exact List.idxOf_lt_length_iff.mpr (dZ hi h0 hr' ho)
 ·unfold bc at hx
  obtain⟨r,hr',rfl⟩:=List.mem_map.mp hx
  obtain⟨y,e,hy⟩:=row r hr'
  unfold fw;rw[List.length_map,e]; exact hr y hy
theorem gA{R:aY}(E:Nat→Nat→Prop)(hE:∀ u v,E u v→u<R.length→v<R.length→∀ p:Nat,((R.getD u [])[p]? = none∧(R.getD v [])[p]? = none)∨((R.getD u [])[p]? = some none∧(R.getD v [])[p]? = some none)∨
   ∃ x y,(R.getD u [])[p]? = some (some x)∧(R.getD v [])[p]? = some (some y)∧E x y∧x<R.length∧y<R.length) :
  ∀ (t u v:Nat),E u v→u<R.length→v<R.length→(iter R t)[u]? = (iter R t)[v]?
 | 0,u,v,_,hu,hv=>by
  show (R.map fun _=>0)[u]? = (R.map fun _=>0)[v]?
  rw[List.getElem?_map,List.getElem?_map,List.getElem?_eq_getElem hu,List.getElem?_eq_getElem hv]; rfl
 | t+1,u,v,h,hu,hv=>by
  have ih:=gA E hE t;refine(fM hu hv).mpr ?_
  have gd:∀ x y,E x y→x<R.length→y<R.length→(iter R t).getD x 0=(iter R t).getD y 0:=fun x y e hx hy=>by
   rw[List.getD_eq_getElem?_getD,List.getD_eq_getElem?_getD,ih x y e hx hy]
  refine Prod.ext (gd u v h hu hv) ?_
  show (R.getD u []).map _=(R.getD v []).map _
  refine List.ext_getElem? fun p=>?_
  rw[List.getElem?_map,List.getElem?_map];rcases hE u v h hu hv p with ⟨h1,h2⟩ | ⟨h1,h2⟩ | ⟨x,y,h1,h2,hxy,hx,hy⟩
  ·rw[h1,h2]
  ·rw[h1,h2]
  ·rw[h1,h2]
   exact congrArg (fun z=>some (some z)) (gd x y hxy hx hy)
theorem ib(R:aY):finer R (ae R)=ae R:=by
 -- the pairs can't get fewer for ever
 have key:∀ t,(∃ s,s≤t∧iter R (s+1)=iter R s)∨dH R.length (iter R (t+1))+(t+1)≤R.length * R.length:=by
  intro t
  induction t with
  | zero=>
   by_cases h:iter R 1=iter R 0
   ·exact .inl ⟨0,Nat.le_refl _,h⟩
   ·have:=ki (R:=R) (bJ R 0) (b8 R 0) h
    have:=qf R.length (iter R 0)
    refine .inr ?_
    show dH R.length (finer R (iter R 0))+1≤_
    omega
  | succ t ih=>
   rcases ih with ⟨s,hs,e⟩ | ih
   ·exact .inl ⟨s,by omega,e⟩
   ·by_cases h:iter R (t+1+1)=iter R (t+1)
    ·exact .inl ⟨t+1,Nat.le_refl _,h⟩
    ·have:=ki (R:=R) (bJ R (t+1)) (b8 R (t+1)) h
     refine .inr ?_
     show dH R.length (finer R (iter R (t+1)))+(t+1+1)≤_
     omega
 rcases key (R.length * R.length) with ⟨s,hs,e⟩ | h
 ·have e1:=gS e hs
  rw[← e1]; exact e
 ·omega
theorem nM{l:List Nat}(hc:df l)(hi:∀ i j,i<l.length→j<l.length→l[i]? = l[j]?→i=j):l=List.range l.length:=by
 refine m6 hc ?_ (by simp) fun i j h1 h2=>?_
 ·have:List.range l.length=cR (List.range l.length):=by
   have hf:∀ (n:Nat),al [] (List.range n)=List.range n:=by
    intro n
    induction n with
    | zero=>rfl
    | succ n ih=>
     rw[List.range_succ,di,ih,if_neg (by simp)]
   unfold cR;rw[hf];refine List.ext_getElem (by simp) fun i h1 h2=>?_
   rw[List.getElem_map];have:=(List.nodup_range (n:=l.length)).idxOf_getElem i (by simpa using h1)
   rw[this,List.getElem_range]
  rw[this]; exact fL _
 ·rw[List.getElem?_range h1,List.getElem?_range h2]
  constructor
  ·intro e; rw[hi i j h1 h2 e]
  ·intro e
   have:i=j:=Option.some.inj e
   rw[this]
def dy(l:List Nat):Nat:=(al [] l).length
def dq(N:aY)(ps:List Nat):aY:=N.map fun y=>ps.map fun x=>y.getD x none
theorem ax{α : Type}{l:List α}{i:Nat}{d:α}(h:i<l.length):l.getD i d=l[i]:=by rw[List.getD_eq_getElem?_getD,List.getElem?_eq_getElem h]; rfl
theorem eX{R:aY}{u:Nat}(hu:u<R.length):(ae R).getD u 0<(merged R).length∧cZ (ae R) (R.getD u [])=(merged R).getD ((ae R).getD u 0) []:=by
 have hl:(ae R).length=R.length:=bJ R _
 have hcn:df (ae R):=b8 R _
 have hk:(ae R).getD u 0=(ae R)[u]'(by omega):=ax (by omega)
 have hmem:(ae R).getD u 0∈ae R:=by rw[hk]; exact List.getElem_mem _
 generalize (ae R).getD u 0=k at hk hmem;have hall:=hcn R.length;rw[← hl,List.take_length]at hall
 have hml:(merged R).length=(al [] (ae R)).length:=by
  unfold merged bX;rw[List.length_map,List.length_range,← hl,List.take_length]
 have hlt:k<(merged R).length:=by
  have:k∈al [] (ae R):=(bL _ _ _).mpr (.inr hmem)
  rw[hall]at this
  rw[hml]; exact List.mem_range.mp this
 refine⟨hlt,?_⟩
 have hix:(ae R).idxOf k<R.length:=by rw[← hl]; exact List.idxOf_lt_length_iff.mpr hmem
 have hki:(ae R)[(ae R).idxOf k]'(by omega)=k:=List.getElem_idxOf (List.idxOf_lt_length_iff.mpr hmem)
 have e:(merged R).getD k []=cZ (ae R) (R.getD ((ae R).idxOf k) []):=by
  rw[List.getD_eq_getElem?_getD];unfold merged bX;rw[List.getElem?_map,List.getElem?_range (by rw[← hl,List.take_length,← hml]; exact hlt)]; rfl
 rw[e]
 have q:(finer R (ae R))[u]? = (finer R (ae R))[(ae R).idxOf k]?:=by
  rw[ib,List.getElem?_eq_getElem (by omega),List.getElem?_eq_getElem (by omega),hki]
  exact congrArg some hk.symm
 exact congrArg (·.2) ((fM hu hix).mp q)
theorem mU{R:aY}{k:Nat}(h:k<(merged R).length):∃ u,u<R.length∧(ae R).getD u 0=k:=by
 have hl:(ae R).length=R.length:=bJ R _
 have hcn:df (ae R):=b8 R _
 have hall:=hcn R.length;rw[← hl,List.take_length]at hall
 have hml:(merged R).length=(al [] (ae R)).length:=by
  unfold merged bX;rw[List.length_map,List.length_range,← hl,List.take_length]
 have hm:k∈al [] (ae R):=by rw[hall]; exact List.mem_range.mpr (by omega)
 have hk:k∈ae R:=by
  rcases(bL _ _ _).mp hm with z | z
  ·cases z
  ·exact z
 obtain⟨u,hu,e⟩:=List.mem_iff_getElem.mp hk
 exact⟨u,by omega,by rw[ax hu]; exact e⟩
structure Rm (R:aY) (m:Nat):Prop where
 n0:1≤R.length
 row:∀ x∈R,x.length=m
 ins:d9 R
theorem Rm.merged{R:aY}{m:Nat}(h:Rm R m):Rm (merged R) m:=⟨(eJ h.n0 h.ins).2.1,kP h.row,(eJ h.n0 h.ins).1⟩
theorem Rm.ordered{R:aY}{m:Nat}(h:Rm R m):Rm (bc R) m:=⟨(eN h.ins h.n0 h.row).2.1,(eN h.ins h.n0 h.row).2.2.2,(eN h.ins h.n0 h.row).1⟩
theorem Rm.least{R:aY}{m:Nat}(h:Rm R m):Rm (ai R) m:=h.merged.ordered
theorem iD{N:aY}{ps:List Nat}{i:Nat}(h:i<N.length):(dq N ps).getD i []=ps.map fun x=>(N.getD i []).getD x none:=by
 unfold dq;rw[ax (by simpa using h),List.getElem_map,ax h]
theorem dY(N:aY)(ps:List Nat):(dq N ps).length=N.length:=by simp[dq]
theorem AB{N:aY}{m:Nat}(h:Rm N m)(ps:List Nat)(hp:∀ x∈ps,x<m):Rm (dq N ps) ps.length:=by
 refine⟨by rw[dY]; exact h.n0,fun x hx=>?_,fun x hx k hk=>?_⟩
 ·obtain⟨y,hy,rfl⟩:=List.mem_map.mp hx
  simp
 ·obtain⟨y,hy,rfl⟩:=List.mem_map.mp hx
  obtain⟨p,hpm,e⟩:=List.mem_map.mp hk
  have hlt:p<y.length:=by rw[h.row y hy]; exact hp p hpm
  rw[ax hlt]at e
  rw[dY];exact h.ins y hy k (e ▸ List.getElem_mem hlt)
theorem iH{N:aY}{p i:Nat}(h:d8 N p=false)(hi:i<N.length):(N.getD i []).getD p none=some i:=by
 unfold d8 at h;rw[List.any_eq_false]at h
 have:=h i (List.mem_range.mpr hi)
 simpa using this
theorem leastN_len{R:aY}:(ai R).length=(aD (merged R)).length:=by unfold ai bc; rw[List.length_map]
theorem lC{R:aY}{i:Nat}(h:i<(ai R).length):(ai R).getD i []=fw (aD (merged R)) ((merged R).getD ((aD (merged R))[i]'(by rw[← leastN_len]; exact h)) []):=by
 rw[List.getD_eq_getElem?_getD];show (((aD (merged R)).map fun r=>fw (aD (merged R)) ((merged R).getD r []))[i]?).getD []=_
 rw[List.getElem?_map,List.getElem?_eq_getElem (by rw[← leastN_len]; exact h)]; rfl
theorem vU{R:aY}{m:Nat}(h:Rm R m):∀ i j,i<(ai R).length→j<(ai R).length→(ae (dq (ai R) (places (ai R) m)))[i]? = (ae (dq (ai R) (places (ai R) m)))[j]?→i=j:=by
 have hM:=h.merged;have hN:=h.least;obtain⟨ond,olt,ole⟩:=dQ hM.ins hM.n0
 have hplt:∀ x∈places (ai R) m,x<m:=fun x hx=>List.mem_range.mp (List.mem_filter.mp hx).1
 have hF:=AB hN (places (ai R) m) hplt;generalize hFd:dq (ai R) (places (ai R) m)=F at hF ⊢;have hFl:F.length=(ai R).length:=by rw[← hFd,dY]
 have hkl:(ae F).length=F.length:=bJ F _
 let o:=aD (merged R)
 let K:=ae R
 have hol:o.length=(ai R).length:=leastN_len.symm
 -- a word's way from two least rooms of one kind
 have way:∀ i j,i<(ai R).length→j<(ai R).length→(ae F)[i]? = (ae F)[j]?→∀ p,p<m→
   (((ai R).getD i []).getD p none=none∧((ai R).getD j []).getD p none=none)∨∃ x y,((ai R).getD i []).getD p none=some x∧((ai R).getD j []).getD p none=some y∧x<(ai R).length∧y<(ai R).length∧(ae F)[x]? = (ae F)[y]?:=by
  intro i j hi hj e p hp
  by_cases hd:d8 (ai R) p=true
  ·have hpm:p∈places (ai R) m:=List.mem_filter.mpr ⟨List.mem_range.mpr hp,hd⟩
   obtain⟨q,hq,eq⟩:=List.mem_iff_getElem.mp hpm
   have mk:mark F (ae F) i=mark F (ae F) j:=(fM (by omega) (by omega)).mp (by rw[ib]; exact e)
   have rows:(F.getD i []).map (Option.map fun k=>(ae F).getD k 0)=(F.getD j []).map (Option.map fun k=>(ae F).getD k 0):=congrArg (·.2) mk
   have at':∀ i,i<(ai R).length→((F.getD i []).map (Option.map fun k=>(ae F).getD k 0))[q]? = some ((((ai R).getD i []).getD p none).map fun k=>(ae F).getD k 0):=fun i hi=>by
    rw[← hFd,iD hi,List.getElem?_map,List.getElem?_map,List.getElem?_eq_getElem hq,eq]; rfl
   have r1:=at' i hi;have r2:=at' j hj;rw[rows,r2]at r1
   have r3:=Option.some.inj r1
   have mem:∀ i,i<(ai R).length→∀ x,((ai R).getD i []).getD p none=some x→x<(ai R).length:=fun i hi x hx=>by
    rw[ax hi]at hx
    have hlt:p<((ai R)[i]).length:=by rw[hN.row _ (List.getElem_mem hi)]; exact hp
    rw[ax hlt]at hx
    exact hN.ins _ (List.getElem_mem hi) x (hx ▸ List.getElem_mem hlt)
   cases e1:((ai R).getD i []).getD p none with
   | none=>
    cases e2:((ai R).getD j []).getD p none with
    | none=>exact .inl ⟨rfl,rfl⟩
    | some y=>rw[e1,e2]at r3; cases r3
   | some x=>
    cases e2:((ai R).getD j []).getD p none with
    | none=>rw[e1,e2]at r3; cases r3
    | some y=>
     rw[e1,e2]at r3
     have hx:=mem i hi x e1;have hy:=mem j hj y e2;have r4:(ae F).getD y 0=(ae F).getD x 0:=Option.some.inj r3
     refine .inr ⟨x,y,rfl,rfl,hx,hy,?_⟩
     rw[ax (by omega),ax (by omega)]at r4
     rw[List.getElem?_eq_getElem (by omega),List.getElem?_eq_getElem (by omega),r4]
  ·have hd':d8 (ai R) p=false:=by simpa using hd
   exact .inr ⟨i,j,iH hd' hi,iH hd' hj,hi,hj,e⟩
 let E:Nat→Nat→Prop:=fun u v=>K.getD u 0=K.getD v 0∨∃ i j,i<(ai R).length∧j<(ai R).length∧o[i]? = some (K.getD u 0)∧o[j]? = some (K.getD v 0)∧(ae F)[i]? = (ae F)[j]?
 have bis:∀ u v,E u v→u<R.length→v<R.length→∀ p:Nat,((R.getD u [])[p]? = none∧(R.getD v [])[p]? = none)∨((R.getD u [])[p]? = some none∧(R.getD v [])[p]? = some none)∨
   ∃ x y,(R.getD u [])[p]? = some (some x)∧(R.getD v [])[p]? = some (some y)∧E x y∧x<R.length∧y<R.length:=by
  intro u v he hu hv p
  have ru:=h.row _ (List.getElem_mem hu);have rv:=h.row _ (List.getElem_mem hv);have gu:R.getD u []=R[u]:=ax hu
  have gv:R.getD v []=R[v]:=ax hv
  rcases Nat.lt_or_ge p m with hp | hp
  ·have ins:∀ u (hu:u<R.length) x,(R[u])[p]? = some (some x)→x<R.length:=fun u hu x hx=>h.ins _ (List.getElem_mem hu) x (List.mem_of_getElem? hx)
   obtain⟨_,wu⟩:=eX hu
   obtain⟨_,wv⟩:=eX hv
   rw[gu]at wu ⊢
   rw[gv]at wv ⊢
   obtain⟨a,ha⟩ : ∃ a,(R[u])[p]? = some a:=⟨(R[u])[p]'(by omega),List.getElem?_eq_getElem (by omega)⟩
   obtain⟨b,hb⟩ : ∃ b,(R[v])[p]? = some b:=⟨(R[v])[p]'(by omega),List.getElem?_eq_getElem (by omega)⟩
   have wua:(cZ K R[u])[p]? = some (a.map fun k=>K.getD k 0):=by unfold cZ; rw[List.getElem?_map,ha]; rfl
   have wvb:(cZ K R[v])[p]? = some (b.map fun k=>K.getD k 0):=by unfold cZ; rw[List.getElem?_map,hb]; rfl
   rw[ha,hb];rcases he with he | ⟨i,j,hi,hj,oi,oj,eij⟩
   ·have q:(cZ K R[u])[p]? = (cZ K R[v])[p]?:=by
     show (cZ (ae R) R[u])[p]? = (cZ (ae R) R[v])[p]?
     rw[wu,wv];have he':(ae R).getD u 0=(ae R).getD v 0:=he
     rw[he']
    rw[wua,wvb]at q
    have q':=Option.some.inj q
    cases a with
    | none=>cases b with
     | none=>exact .inr (.inl ⟨rfl,rfl⟩)
     | some y=>cases q'
    | some x=>cases b with
     | none=>cases q'
     | some y=>exact .inr (.inr ⟨x,y,rfl,rfl,.inl (Option.some.inj q'),ins u hu x ha,ins v hv y hb⟩)
   ·have row:∀ i (hi:i<(ai R).length) u (hu:u<R.length),o[i]? = some (K.getD u 0)→∀ a:Option Nat,(cZ K R[u])[p]? = some (a.map fun k=>K.getD k 0)→((ai R).getD i []).getD p none=(a.map fun k=>K.getD k 0).map (fun k=>o.idxOf k):=fun i hi u hu oi a wa=>by
     have hio:i<o.length:=by omega
     rw[lC hi]
     have e1:(aD (merged R))[i]'hio=K.getD u 0:=by
      have:=oi
      rw[List.getElem?_eq_getElem hio]at this
      exact Option.some.inj this
     rw[e1];obtain⟨_,wu⟩:=eX hu
     rw[ax hu]at wu
     rw[← wu];unfold fw;rw[List.getD_eq_getElem?_getD,List.getElem?_map];have wa':(cZ (ae R) R[u])[p]? = some (a.map fun k=>K.getD k 0):=wa
     rw[wa']; rfl
    have na:=row i hi u hu oi a wua;have nb:=row j hj v hv oj b wvb
    have inO:∀ i (hi:i<(ai R).length) u (hu:u<R.length),o[i]? = some (K.getD u 0)→∀ x,(R[u])[p]? = some (some x)→K.getD x 0∈o:=fun i hi u hu oi x hx=>by
     refine dZ hM.ins hM.n0 (List.mem_of_getElem? oi) ?_
     obtain⟨_,wu⟩:=eX hu
     rw[ax hu]at wu
     show some (K.getD x 0)∈(merged R).getD ((ae R).getD u 0) []
     rw[← wu];refine List.mem_map.mpr ⟨some x,List.mem_of_getElem? hx,rfl⟩
    rcases way i j hi hj eij p hp with ⟨w1,w2⟩ | ⟨x',y',w1,w2,hx',hy',exy⟩
    ·cases a with
     | none=>cases b with
      | none=>exact .inr (.inl ⟨rfl,rfl⟩)
      | some y=>rw[w2]at nb; cases nb
     | some x=>rw[w1]at na; cases na
    ·cases a with
     | none=>rw[w1]at na; cases na
     | some x=>cases b with
      | none=>rw[w2]at nb; cases nb
      | some y=>
       rw[w1]at na
       rw[w2]at nb
       have na':x'=o.idxOf (K.getD x 0):=Option.some.inj na
       have nb':y'=o.idxOf (K.getD y 0):=Option.some.inj nb
       have mx:=inO i hi u hu oi x ha;have my:=inO j hj v hv oj y hb;refine .inr (.inr ⟨x,y,rfl,rfl,.inr ⟨x',y',hx',hy',?_,?_,exy⟩,ins u hu x ha,ins v hv y hb⟩)
       ·rw[na',List.getElem?_eq_getElem (List.idxOf_lt_length_iff.mpr mx),List.getElem_idxOf]
       ·rw[nb',List.getElem?_eq_getElem (List.idxOf_lt_length_iff.mpr my),List.getElem_idxOf]
  ·exact .inl ⟨by rw[gu]; exact List.getElem?_eq_none (by omega),by rw[gv]; exact List.getElem?_eq_none (by omega)⟩
 intro i j hi hj e
 have hio:i<o.length:=by omega
 have hjo:j<o.length:=by omega
 obtain⟨u,hu,eu⟩:=mU (olt _ (List.getElem_mem hio))
 obtain⟨v,hv,ev⟩:=mU (olt _ (List.getElem_mem hjo))
 have q:=gA E bis (R.length * R.length) u v (.inr ⟨i,j,hi,hj,by rw[List.getElem?_eq_getElem hio]; exact congrArg some eu.symm,by rw[List.getElem?_eq_getElem hjo]; exact congrArg some ev.symm,e⟩) hu hv
 have hkR:(ae R).length=R.length:=bJ R _
 have q':(ae R)[u]? = (ae R)[v]?:=q
 have q2:(ae R).getD u 0=(ae R).getD v 0:=by rw[List.getD_eq_getElem?_getD,List.getD_eq_getElem?_getD,q']
 rw[eu,ev]at q2
 exact(List.getElem_inj ond).mp q2
theorem gj(f:Nat→Nat):∀ (x:List (Option Nat)) (o:List Nat),(∀ a,(a∈o∨some a∈x)→∀ b,(b∈o∨some b∈x)→f a=f b→a=b)→aH (o.map f) (x.map (Option.map f))=(aH o x).map f
 | [],o,_=>rfl
 | none::x,o,h=>gj f x o fun a ha b hb=>h a (by rcases ha with z | z <;> simp[z]) b (by rcases hb with z | z <;> simp[z])
 | some k::x,o,h=>by
  show aH (if f k∈o.map f then o.map f else o.map f++[f k]) (x.map (Option.map f))=(aH (if k∈o then o else o++[k]) x).map f
  by_cases hm:k∈o
  ·rw[if_pos hm,if_pos (List.mem_map.mpr ⟨k,hm,rfl⟩)]
   exact gj f x o fun a ha b hb=>h a (by rcases ha with z | z <;> simp[z]) b (by rcases hb with z | z <;> simp[z])
  ·have hn:f k∉o.map f:=fun z=>by
    obtain⟨a,ha,e⟩:=List.mem_map.mp z
    have:=h a (.inl ha) k (.inr (by simp)) e
    exact hm (this ▸ ha)
   rw[if_neg hm,if_neg hn]
   have conv:∀ a,(a∈o++[k]∨some a∈x)→(a∈o∨some a∈some k::x):=fun a ha=>by
    rcases ha with z | z
    ·rcases List.mem_append.mp z with z | z
     ·exact .inl z
     ·rw[List.mem_singleton.mp z]; exact .inr List.mem_cons_self
    ·exact .inr (List.mem_cons_of_mem _ z)
   have ih:=gj f x (o++[k]) fun a ha b hb=>h a (conv a ha) b (conv b hb)
   rw[List.map_append]at ih
   exact ih
theorem jW(P:Nat→Bool)(f:Nat→Option Nat)(t:Nat):∀ (l o:List Nat),t∈o→(∀ p∈l,P p=false→f p=some t)→aH o ((l.filter P).map f)=aH o (l.map f)
 | [],_,_,_=>rfl
 | p::l,o,ht,h=>by
  have ih:=fun o ht=>jW P f t l o ht fun q hq=>h q (List.mem_cons_of_mem _ hq)
  cases hp:P p with
  | true=>
   rw[List.filter_cons_of_pos hp,List.map_cons,List.map_cons]
   cases hf:f p with
   | none=>exact ih o ht
   | some k=>
    show aH (if k∈o then o else o++[k]) _=aH (if k∈o then o else o++[k]) _
    by_cases hk:k∈o
    ·rw[if_pos hk]; exact ih o ht
    ·rw[if_neg hk]; exact ih _ (List.mem_append_left _ ht)
  | false=>
   rw[List.filter_cons_of_neg (by simp[hp]),List.map_cons,h p List.mem_cons_self hp]
   show _=aH (if t∈o then o else o++[t]) _
   rw[if_pos ht]; exact ih o ht
theorem lD{M:aY}(t:Nat):∀ s,∃ u,aC M (t+s)=aC M t++u
 | 0=>⟨[],by simp⟩
 | s+1=>by
  obtain⟨u,hu⟩:=lD t s
  obtain⟨v,hv⟩:=jD (M:=M) (t+s)
  exact⟨u++v,by rw[show t+(s+1)=t+s+1 by omega,hv,hu,List.append_assoc]⟩
theorem mX{M:aY}(hi:d9 M)(h0:1≤M.length)(t:Nat):∃ u,aD M=aC M t++u:=by
 rcases Nat.lt_or_ge t M.length with h | h
 ·obtain⟨u,hu⟩:=lD (M:=M) t (M.length - t)
  rw[show t+(M.length - t)=M.length by omega]at hu
  exact⟨u,hu⟩
 ·have hl:=jE hi h0 M.length
  have:=mL (M:=M) (t:=M.length) hl (t - M.length)
  rw[show M.length+(t - M.length)=t by omega]at this
  exact⟨[],by rw[this]; unfold aD; simp⟩
theorem rq{l a b:List Nat}(nd:l.Nodup)(h:l=a++b):a.map (fun x=>l.idxOf x)=List.range a.length:=by
 have:=lF nd a.length (by rw[h,List.length_append]; omega)
 have e:l.take a.length=a:=by rw[h,List.take_left]
 rwa [e]at this
theorem rD{M:aY}{m:Nat}(h:Rm M m):∀ t,aC (bc M) t=List.range (aC M t).length:=by
 obtain⟨ond,olt,ole⟩:=dQ h.ins h.n0
 have main:∀ t,aC (bc M) t=(aC M t).map fun x=>(aD M).idxOf x:=by
  intro t
  induction t with
  | zero=>
   show [0]=[(aD M).idxOf 0]
   have h0:=i3 M M.length;obtain⟨hl,e⟩:=List.getElem?_eq_some_iff.mp h0
   have:=ond.idxOf_getElem 0 hl
   have e':(aD M)[0]'hl=0:=e
   rw[e']at this
   rw[this]
  | succ t ih=>
   obtain⟨u,hu⟩:=mX h.ins h.n0 t
   show (match (aC (bc M) t)[t]? with | some r=>aH (aC (bc M) t) ((bc M).getD r []) | none=>aC (bc M) t)=List.map _ (match (aC M t)[t]? with | some r=>aH (aC M t) (M.getD r []) | none=>aC M t)
   rw[ih,List.getElem?_map]
   cases e:(aC M t)[t]? with
   | none=>rfl
   | some r=>
    show aH _ ((bc M).getD ((aD M).idxOf r) [])=_
    have hro:r∈aD M:=by rw[hu]; exact List.mem_append_left _ (List.mem_of_getElem? e)
    have hlt:=List.idxOf_lt_length_iff.mpr hro
    have hrow:(bc M).getD ((aD M).idxOf r) []=fw (aD M) (M.getD r []):=by
     unfold bc;rw[List.getD_eq_getElem?_getD,List.getElem?_map,List.getElem?_eq_getElem hlt,List.getElem_idxOf]; rfl
    rw[hrow];unfold fw;refine gj _ _ _ fun a ha b hb e2=>?_
    have mem:∀ a,(a∈aC M t∨some a∈M.getD r [])→a∈aD M:=fun a ha=>by
     rcases ha with z | z
     ·rw[hu]; exact List.mem_append_left _ z
     ·exact dZ h.ins h.n0 hro z
    have h1:=List.getElem_idxOf (List.idxOf_lt_length_iff.mpr (mem a ha));have h2:=List.getElem_idxOf (List.idxOf_lt_length_iff.mpr (mem b hb));rw[← h1,← h2]; congr 1
 intro t
 obtain⟨u,hu⟩:=mX h.ins h.n0 t
 rw[main,rq ond hu]
theorem xv{x:List (Option Nat)}{m:Nat}(h:x.length=m):(List.range m).map (fun p=>x.getD p none)=x:=by
 refine List.ext_getElem (by simp[h]) fun i h1 h2=>?_
 rw[List.getElem_map,List.getElem_range,ax h2]
theorem nj{R:aY}{m:Nat}(h:Rm R m):∀ t,aC (dq (ai R) (places (ai R) m)) t=List.range (aC (merged R) t).length:=by
 have hN:=h.least;have hb:=rD h.merged;intro t
 have:aC (dq (ai R) (places (ai R) m)) t=aC (ai R) t:=by
  induction t with
  | zero=>rfl
  | succ t ih=>
   show (match (aC (dq (ai R) (places (ai R) m)) t)[t]? with | some r=>aH (aC (dq (ai R) (places (ai R) m)) t) ((dq (ai R) (places (ai R) m)).getD r []) | none=>aC (dq (ai R) (places (ai R) m)) t)=(match (aC (ai R) t)[t]? with | some r=>aH (aC (ai R) t) ((ai R).getD r []) | none=>aC (ai R) t)
   rw[ih]
   cases e:(aC (ai R) t)[t]? with
   | none=>rfl
   | some r=>
    have hr:r<(ai R).length:=(dJ hN.ins hN.n0 t).2 r (List.mem_of_getElem? e)
    show aH _ ((dq (ai R) (places (ai R) m)).getD r [])=aH _ ((ai R).getD r [])
    rw[iD hr];have e2:=jW (d8 (ai R)) (fun p=>((ai R).getD r []).getD p none) r (List.range m) (aC (ai R) t) (List.mem_of_getElem? e) fun p _ hp=>iH hp hr
    have e3:(List.range m).map (fun p=>((ai R).getD r []).getD p none)=(ai R).getD r []:=xv (by rw[ax hr]; exact hN.row _ (List.getElem_mem hr))
    rw[e3]at e2
    exact e2
 rw[this];exact hb t
theorem om{R:aY}{m:Nat}(h:Rm R m){t:Nat}(ht:t<(ai R).length):t<(aC (merged R) t).length:=by
 have hM:=h.merged;refine Classical.byContradiction fun hn=>?_
 have hl:(ai R).length=(aD (merged R)).length:=leastN_len
 obtain⟨ond,olt,ole⟩:=dQ hM.ins hM.n0
 have:=i_ (M:=merged R) (t:=t) (by omega) (by omega)
 rw[this]at hn
 omega
theorem q_{R:aY}{m:Nat}(h:Rm R m):ae (dq (ai R) (places (ai R) m))=List.range (ai R).length:=by
 have hkl:(ae (dq (ai R) (places (ai R) m))).length=(ai R).length:=by
  rw[show ae (dq (ai R) (places (ai R) m))=iter _ _ from rfl,bJ,dY]
 have:=nM (l:=ae (dq (ai R) (places (ai R) m))) (b8 _ _) fun i j hi hj e=>vU h i j (by omega) (by omega) e
 rw[hkl]at this
 exact this
abbrev nV (k:Nat):V:=.int (k:Int)
structure eL (R:aY) (m:Nat):Prop where
 n0:1≤R.length
 n1:R.length≤140
 m1:m≤18
 row:∀ x∈R,x.length=m
 ins:d9 R
def NumAt(H:Hp)(p:Addr)(k v:Nat):Prop:=(∃ ks:List Nat,H p=some (.lst (ks.map nV))∧ks[k]? = some v)∨∃ kvs,H p=some (.dK kvs)∧aX kvs (.inl (k:Int))=some (nV v)
theorem NumAt.mono{H H':Hp}{p:Addr}{k v:Nat}(h:NumAt H p k v)(sm:Same H H'):NumAt H' p k v:=by
 rcases h with ⟨ks,h1,h2⟩ | ⟨kvs,h1,h2⟩
 ·exact .inl ⟨ks,sm _ _ h1,h2⟩
 ·exact .inr ⟨kvs,sm _ _ h1,h2⟩
def ox:Sp:=fun vs H Q _=>∃ (p b:Addr) (x:List (Option Nat)) (f:Nat→Nat),vs=[.ref p,.ref b]∧H b=some (.lst (x.map ak))∧x.length≤1000∧(∀ k,some k∈x→NumAt H p k (f k))∧
 ∀ (L:Addr) (H':Hp),Same H H'→H L=none→H' L=some (.lst ((x.map (Option.map f)).map ak))→Q (.ref L) H'
def tN:Sp:=fun vs H Q _=>∃ (p q:Addr) (R:aY) (m:Nat) (as:List Addr) (ks:List Nat),vs=[.ref p,.ref q]∧RoomsAs H p R as∧eL R m∧H q=some (.lst (ks.map nV))∧ks.length=R.length∧
 ∀ (L:Addr) (H':Hp),Same H H'→H L=none→H' L=some (.lst ((finer R ks).map nV))→Q (.ref L) H'
def sM:Sp:=fun vs H Q _=>∃ (p:Addr) (R:aY) (m:Nat) (as:List Addr) (mo:Nat),vs=[.ref p,nV mo]∧1≤mo∧RoomsAs H p R as∧eL R m∧
 (dy (ae R)≤mo→∀ (L:Addr) (H':Hp),Same H H'→H L=none→H' L=some (.lst ((ae R).map nV))→Q (.ref L) H')∧(mo<dy (ae R)→∀ H',Same H H'→Q .non H')
section
variable{P:Program}{w:World}{K:PySem.W.Frag}{mg:Str→Option Value}{base:Heap}
theorem vb(D:DefAt K mg "ways_by" ck):Cal P w K mg base 1 "ways_by" ["numbers", "ways"] ox:=by
 refine D.cal uP (fun _ _ _ _ _ _ us hl=>match us,hl with | [_,_],_=>rfl) (fun vs H Q E h=>by obtain⟨p,b,x,f,rfl,_⟩:=h; rfl) (fun f cdv A outer s H vs Q E hr h=>?_)
 obtain⟨p,b,x,f,rfl,hb,hx,hn,q⟩:=h
 refine⟨_,(aj (aN (ee (CompSc.to (fsc:=(defScope ck)) (N:=["numbers", "ways"]) (N0:=["numbers", "ways"]) (T:=["way"]) ⟨by decide +kernel,by decide +kernel,by decide +kernel,by decide +kernel,by decide +kernel,by decide +kernel,by decide +kernel⟩ rfl rfl) rfl (b_ K (pv 1)) (fun _ _ _ _=>(bA 2 (show (["numbers", "ways", "way"]:List Str).Nodup from by decide +kernel) (hx:=(gf (defScope ck) (by decide +kernel))) (hf:=i5 (defScope ck) (by decide +kernel)))) (cS (show (["numbers", "ways"]:List Str).length≤2 from by decide)) (fun _ _ _ _=>du) (fun _ _ _ _=>(qN (aM eZ (pv 2 (hv:=(cx (defScope ck) (by decide +kernel)))) bZ (aV _)) bZ (aP (BP K) (pv 0 (hv:=(cx (defScope ck) (by decide +kernel)))) (pv 2 (hv:=(cx (defScope ck) (by decide +kernel)))) (fun _ _=>rfl))))))),?_⟩
 walk_at "rd1";refine⟨⟨_,SqL.of hb⟩,fun L hL=>?_⟩
 refine cW (xs:=x.map ak) (fun i ys H'=>Same H H'∧H' L=some (.lst ys)∧ys=((x.take i).map (Option.map f)).map ak) ⟨bh hL _,ar,rfl⟩ (fun i ys H' _ h=>SqL.of (h.1 _ _ hb)) ?_ ?_
 ·rintro i ys H' v hv hi ⟨sm,hl,rfl⟩
  rw[List.length_map]at hi
  rw[List.getElem?_map,List.getElem?_eq_getElem hi]at hv
  cases hv;have hz:(((x.take i).map (Option.map f)).map ak).length=i:=by simp; omega
  have fin:∀ z,z=ak ((x[i]).map f)→gs (x.map ak).length i (fun i ys H'=>Same H H'∧H' L=some (.lst ys)∧ys=((x.take i).map (Option.map f)).map ak) L (((x.take i).map (Option.map f)).map ak) z H':=fun z e=>by
   subst e;refine fS (by rw[List.length_map]; exact hi) hz (by rw[List.length_map]; exact cJ (by omega)) hl ⟨sm.upd hL _,ar,?_⟩
   rw[List.take_add_one,List.getElem?_eq_getElem hi,List.map_append,List.map_append]; rfl
  have hm:=List.getElem_mem hi
  cases hxi:x[i] with
  | none=>
   rw[hxi]at fin
   walk_at "rd1";refine bg (fun c=>?_) (fun c=>?_)
   ·exact fin _ rfl
   ·exact absurd rfl c
  | some k=>
   rw[hxi]at fin hm
   walk_at "rd1";refine bg (fun c=>?_) (fun c=>?_)
   ·cases c
   ·rcases(hn k hm).mono sm with ⟨ks,h1,h2⟩ | ⟨kvs,h1,h2⟩
    ·exact .inl ⟨_,_,.inl (SqL.of h1),aZ (by rw[List.getElem?_map,h2]; rfl),fin _ rfl⟩
    ·exact .inr ⟨p,kvs,.inl (k:Int),_,rfl,rfl,h1,h2,fin _ rfl⟩
 ·rintro ys H' ⟨sm,hl,rfl⟩
  rw[List.length_map,List.take_length]at hl
  exact q L H' sm hL hl
def d7(m:Nat × List (Option Nat)):dU:=((m.1:Int),m.2.map (Option.map fun n:Nat=>(n:Int)))
theorem yN{m m':Nat × List (Option Nat)}(h:d7 m=d7 m'):m=m':=by
 obtain⟨a,b⟩:=m
 obtain⟨c,d⟩:=m'
 unfold d7 at h;have h1:(a:Int)=(c:Int):=congrArg (·.1) h
 have h2:b.map (Option.map fun n:Nat=>(n:Int))=d.map (Option.map fun n:Nat=>(n:Int)):=congrArg (·.2) h
 have h3:b=d:=by
  refine List.map_inj_right (f:=Option.map fun n:Nat=>(n:Int)) (fun x y e=>?_) |>.mp h2
  cases x <;> cases y <;> simp_all
  omega
 rw[h3,show a=c by omega]
def dI(k:Nat):List (Nat × List (Option Nat))→List (dU × V)
 | []=>[]
 | m::ms=>(d7 m,nV k)::dI (k+1) ms
theorem iS:∀ (F:List (Nat × List (Option Nat))) (k:Nat),(dI k F).length=F.length
 | [],k=>rfl
 | m::F,k=>by show (dI (k+1) F).length+1=_; rw[iS F]; rfl
theorem j8:∀ (F:List (Nat × List (Option Nat))) (k:Nat) (m:Nat × List (Option Nat)),dI k (F++[m])=dI k F++[(d7 m,nV (k+F.length))]
 | [],k,m=>rfl
 | x::F,k,m=>by
  show (d7 x,nV k)::dI (k+1) (F++[m])=_
  rw[j8 F,List.length_cons,show k+1+F.length=k+(F.length+1) by omega]; rfl
theorem gn:∀ (F:List (Nat × List (Option Nat))) (k:Nat) (m:Nat × List (Option Nat)),aX (dI k F) (d7 m)=if m∈F then some (nV (k+jl m F)) else none
 | [],k,m=>rfl
 | x::F,k,m=>by
  by_cases h:x=m
  ·subst h
   rw[if_pos List.mem_cons_self,xU];show aX ((d7 x,nV k)::dI (k+1) F) (d7 x)=_
   simp[aX]
  ·have hn:¬ d7 x=d7 m:=fun z=>h (yN z)
   have e:aX (dI k (x::F)) (d7 m)=aX (dI (k+1) F) (d7 m):=by
    show aX ((d7 x,nV k)::dI (k+1) F) (d7 m)=_
    simp[aX,hn]
   rw[e,gn F]
   by_cases hm:m∈F
   ·rw[if_pos hm,if_pos (List.mem_cons_of_mem _ hm),v8 h,show k+1+jl m F=k+(jl m F+1) by omega]
   ·rw[if_neg hm,if_neg (by simp[Ne.symm h,hm])]
theorem AX(x:List (Option Nat)):x.map ak=(x.map (Option.map fun n:Nat=>(n:Int))).map cT:=by
 rw[List.map_map];refine List.map_congr_left fun o _=>?_
 cases o <;> rfl
theorem DN.updL{H:Hp}{a fp:Addr}{kvs:List (dU × V)}{xs:List V}{o:HO}(h:DN P w H a kvs)(hf:H fp=some (.lst xs)):DN P w (upd H fp o) a kvs:=by
 obtain⟨ys,h1,h2,h3,h4⟩:=h
 have ht:∀ c zs,H c=some (.tup zs)→upd H fp o c=some (.tup zs):=fun c zs e=>by rw[am (gq e hf (fun z=>nomatch z))]; exact e
 exact⟨ys,by rw[am (gq h1 hf (fun z=>nomatch z))]; exact h1,h2,h3,Paired.imp' (fun p q z=>⟨z.1,z.2.1.mono ht,z.2.2⟩) h4⟩
theorem DN.keyUpd{H:Hp}{a b:Addr}{k:dU}{kvs:List (dU × V)}{u:HO}(h:DN P w H a kvs)(hk:KeyAt H k b):KeyAt (upd H a u) k b:=by
 obtain⟨ys,h1,_⟩:=h
 exact hk.mono fun c zs e=>by rw[am (gq e h1 (fun z=>nomatch z))]; exact e
theorem yR(D:DefAt K mg "finer_kinds" aT) (z_enumerate:mg "enumerate" = none) (z_tuple:mg "tuple" = none) (z_len:mg "len" = none) (c_ways_by:Cal P w K mg base 1 "ways_by" ["numbers", "ways"] ox) :
  Cal P w K mg base 2 "finer_kinds" ["rooms", "kinds"] tN:=by
 refine D.cal sc_finer_kinds (fun _ _ _ _ _ _ us hl=>match us,hl with | [_,_],_=>rfl) (fun vs H Q E h=>by obtain⟨p,q,R,m,as,ks,rfl,_⟩:=h; rfl) (fun f cdv A outer s H vs Q E hr h=>?_)
 obtain⟨p,q,R,m,as,ks,rfl,hR,ok,hq,hlk,qq⟩:=h
 obtain⟨h1,h2,h3⟩:=hR
 have n1:=ok.n1
 refine⟨_,(ah (aA 2 sc_finer_kinds.nd yA)
   (ah (aA 3 sc_finer_kinds.nd (bw ac))
   (ah (cB PassesOwn.never rfl (fE K Ip z_enumerate (aa (pv 0) ac)) (gD K (n:=2) (cQ (bA 4 sc_finer_kinds.nd) (cQ (bA 5 sc_finer_kinds.nd) gI))) (ah (aA 6 sc_finer_kinds.nd (dP (aa (aP (bi K) (pv 1) (pv 4) (fun _ _=>rfl)) (aa (iz (wA K) z_tuple kh (aa (aL c_ways_by hr (aa (pv 1) (aa (pv 5) ac))) ac)) ac))))
   (ah (bT (aM (vL hr) (pv 6) (pv 2) (by with_unfolding_all rfl)) (aj (fg (bF xy z_len dB (aa (pv 2) ac)) (fq (pv 2) (pv 6) (DK hr)))) bv)
   (aj (cM (dc K PySem.F.plainAttrs_list PySem.F.slot_list_append PySem.F.type_list_append cq (pv 3) (aa (aP (Gv hr) (pv 2) (pv 6) (fun _ _=>rfl)) ac)))))))
   (aj (aN (pv 3)))))),?_⟩
 walk_at "rd1";refine fun sp hsp u hdn=>?_
 generalize hH1:upd H sp u=H1 at hdn ⊢;have sm1:=aw hH1 hsp;walk_at "nx";refine⟨by decide,fun fp hfp=>?_⟩
 have hdn2:=hdn.mono (bh hfp (.lst []));generalize hH2:upd H1 fp _=H2 at hdn2 ⊢;have sm2:=aw hH2 hfp;have e2:=aS hH2;have hsp2:∃ o,H2 sp=some o:=by obtain⟨ys,z,_⟩:=hdn2; exact⟨_,z⟩
 walk_at "nx";refine⟨⟨_,(sm1.trans sm2) _ _ h1⟩,?_⟩
 refine fW (xs:=as.map V.ref) (fun i σ H'=>∃ o4 o5 o6:Option V,σ=[some (.ref p),some (.ref q),some (.ref sp),some (.ref fp),o4,o5,o6]∧Same H H'∧DN P w H' sp (dI 0 (al [] ((dz R ks).take i)))∧H' fp=some (.lst (((finer R ks).take i).map nV)))
  ⟨none,none,none,rfl,sm1.trans sm2,hdn2,e2⟩ (fun i σ H' _ h=>by obtain⟨_,_,_,_,sm,_⟩:=h; exact SqL.of (sm _ _ h1)) ?_ ?_
 ·rintro i v t σ H' hv ⟨o4,o5,o6,rfl,sm,hdn,hf⟩ ht
  have hia:i<as.length:=by have:=(List.getElem?_eq_some_iff.mp hv).1; simpa using this
  have hi:i<R.length:=by omega
  rw[List.getElem?_map,List.getElem?_eq_getElem hia]at hv
  cases hv;have hrow:=h3 i _ _ (List.getElem?_eq_getElem hia) (List.getElem?_eq_getElem hi);have hkd:ks[i]? = some (ks.getD i 0):=by rw[List.getD_eq_getElem?_getD,List.getElem?_eq_getElem (by omega)]; rfl
  have hms:(dz R ks)[i]? = some (mark R ks i):=kO hi
  have hdt:=hdn.mono (bh ht (.tup [nV i,.ref as[i]]));have ett:upd H' t (.tup [nV i,.ref as[i]]) t=some (.tup [nV i,.ref as[i]]):=ar
  have smt:=sm.trans (bh ht (.tup [nV i,.ref as[i]]));have hft:=(bh ht (.tup [nV i,.ref as[i]])) _ _ hf;generalize upd H' t (.tup [nV i,.ref as[i]])=Ht at hdt ett smt hft ⊢;walk_at "rd1";refine⟨t,_,rfl,SqT.of ett,rfl,?_⟩
  walk_at "rd1";refine⟨_,_,.inl (SqL.of (smt _ _ hq)),aZ (by rw[List.getElem?_map,hkd]; rfl),?_⟩
  refine⟨q,as[i],R[i],fun k=>ks.getD k 0,rfl,smt _ _ hrow,by rw[ok.row _ (List.getElem_mem hi)]; have:=ok.m1; omega,fun k hk=>.inl ⟨ks,smt _ _ hq,?_⟩,fun L H3 sm3 hL hl3=>?_⟩
  ·have:=ok.ins _ (List.getElem_mem hi) k hk
   show ks[k]? = some (ks.getD k 0)
   rw[List.getD_eq_getElem?_getD,List.getElem?_eq_getElem (by omega)]; rfl
  walk_at "rd1";refine⟨_,.inl ⟨SqL.of hl3,fun tp htp=>?_⟩⟩
  generalize hH4:upd H3 tp _=H4
  have sm4:=aw hH4 htp;have e4:=aS hH4;refine⟨by decide,fun mp hmp=>?_⟩
  generalize hH5:upd H4 mp _=H5
  have sm5:=aw hH5 hmp;have e5:=aS hH5;have smx:Same Ht H5:=(sm3.trans sm4).trans sm5
  have hke:KeyAt H5 (d7 (mark R ks i)) mp:=by
   refine⟨tp,e5,?_⟩
   have e6:=sm5 _ _ e4;rw[e6,AX];show some (HO.tup _)=some (HO.tup (((R.getD i []).map (Option.map fun k=>ks.getD k 0)).map (Option.map fun n:Nat=>(n:Int)) |>.map cT))
   rw[List.getD_eq_getElem?_getD,List.getElem?_eq_getElem hi]; rfl
  have hd5:=hdt.mono smx;have hf5:=smx _ _ hft;have sm05:=smt.trans smx;have hspn:H fp=none:=sm1.free hfp
  have htk:(dz R ks).take (i+1)=(dz R ks).take i++[mark R ks i]:=by rw[List.take_add_one,hms]; rfl
  have hFl:(al [] ((dz R ks).take i)).length≤140:=by
   have:=dN ((dz R ks).take i) []
   rw[List.length_take,xL]at this
   simp at this; omega
  refine pk (fun σ' H'=>∃ (b:V),σ'=[some (.ref p),some (.ref q),some (.ref sp),some (.ref fp),some (nV i),some (.ref as[i]),some (.ref mp)]∧Same H H'∧KeyAt H' (d7 (mark R ks i)) mp∧DN P w H' sp (dI 0 (al [] ((dz R ks).take (i+1))))∧H' fp=some (.lst (((finer R ks).take i).map nV))) (fun kk hkk=>?_) ?_
  ·walk_at "rd1"
   refine⟨mp,sp,_,_,rfl,rfl,hd5,hke,?_⟩
   rw[gn]
   by_cases hm:mark R ks i∈al [] ((dz R ks).take i)
   ·rw[if_pos hm]
    walk_at "rd1";refine hkk _ _ ⟨.non,rfl,sm05,hke,?_,hf5⟩
    rw[htk,di,if_pos hm]; exact hd5
   ·rw[if_neg hm]
    walk_at "rd1";refine⟨sp,_,rfl,hd5,sp,mp,_,_,rfl,rfl,hd5,hke,by rw[gn,if_neg hm],by rw[iS]; exact cA (by omega),fun u' hdu=>?_⟩
    refine hkk _ _ ⟨.non,rfl,sm05.upd hsp _,DN.keyUpd hd5 hke,?_,?_⟩
    ·rw[htk,di,if_neg hm,j8,Nat.zero_add]
     rw[iS]at hdu
     exact hdu
    ·obtain⟨ys,z,_⟩:=hd5
     rw[am (gq hf5 z (fun z=>nomatch z))]; exact hf5
  rintro σ' H6 ⟨_,rfl,sm6,hk6,hd6,hf6⟩
  walk_at "nx";have hm6:mark R ks i∈al [] ((dz R ks).take (i+1)):=(bL _ _ _).mpr (.inr (by rw[htk]; simp))
  refine⟨⟨_,SqL.of hf6⟩,sp,mp,_,_,_,rfl,rfl,hd6,hk6,by rw[gn,if_pos hm6],?_⟩
  walk_at "rd1";refine⟨_,hf6,by rw[List.length_map,List.length_take,fY]; exact cA (by omega),_,_,_,rfl,sm6.upd hspn _,DN.updL hd6 hf6,?_⟩
  rw[ar,List.take_add_one (l:=finer R ks)];have e:(finer R ks)[i]? = some (jl (mark R ks i) (al [] ((dz R ks).take (i+1)))):=rG hms
  rw[e,Nat.zero_add,List.map_append]; rfl
 ·rintro σ H' ⟨o4,o5,o6,rfl,sm,hdn,hf⟩
  walk_at "nx";rw[List.length_map,List.take_of_length_le (by rw[fY]; omega)]at hf
  exact qq fp H' sm (sm1.free hfp) hf
theorem mn(ks:List Nat):ks.map nV=(ks.map fun k:Nat=>(k:Int)).map V.int:=by rw[List.map_map]; rfl
theorem ints_inj{a b:List Nat}:(a.map fun k:Nat=>(k:Int))=(b.map fun k:Nat=>(k:Int)) ↔ a=b:=by
 refine List.map_inj_right (fun x y e=>?_)
 omega
theorem qi{l:List Nat}(h:df l){x:Nat}(hx:x∈l):x<dy l:=by
 have:=h l.length
 rw[List.take_length]at this
 have hm:x∈al [] l:=(bL _ _ _).mpr (.inr hx)
 rw[this]at hm
 exact List.mem_range.mp hm
theorem vv{l:List Nat}(h:df l)(h1:1≤dy l):dy l - 1∈l:=by
 have:=h l.length
 rw[List.take_length]at this
 have hm:dy l - 1∈al [] l:=by
  rw[this];exact List.mem_range.mpr (by show dy l - 1<dy l; omega)
 rcases(bL _ _ _).mp hm with z | z
 ·cases z
 ·exact z
theorem oU{l:List Nat}{K:Nat}(g:Nat→Nat)(hg:∀ i,i<l.length→g i<K)(h:∀ i j,i<l.length→j<l.length→g i=g j→l[i]? = l[j]?):dy l≤K:=by
 have hnd:=gP l [] List.nodup_nil
 have hm:∀ x∈al [] l,x∈l:=fun x hx=>by
  rcases(bL _ _ _).mp hx with z | z
  ·cases z
  ·exact z
 have hix:∀ x∈al [] l,l.idxOf x<l.length:=fun x hx=>List.idxOf_lt_length_iff.mpr (hm x hx)
 have:=eO K ((al [] l).map fun x=>g (l.idxOf x)) (List.pairwise_map.mpr (List.Pairwise.imp_of_mem (fun {x y} hx hy hab e=>hab (by
  have e2:=h _ _ (hix x hx) (hix y hy) e;rw[List.getElem?_eq_getElem (hix x hx),List.getElem?_eq_getElem (hix y hy),List.getElem_idxOf,List.getElem_idxOf]at e2
  exact Option.some.inj e2)) hnd)) (fun x hx=>by
   obtain⟨y,hy,rfl⟩:=List.mem_map.mp hx
   exact hg _ (hix y hy))
 rwa [List.length_map]at this
theorem x9(R:aY):dy (iter R 0)≤1:=oU (fun _=>0) (fun _ _=>by omega) fun i j hi hj _=>by
 have e:iter R 0=R.map fun _=>0:=rfl
 rw[e,List.length_map]at hi hj
 rw[e,List.getElem?_map,List.getElem?_map,List.getElem?_eq_getElem hi,List.getElem?_eq_getElem hj]
 rfl
theorem v7{R:aY}(t:Nat):dy (iter R t)≤dy (iter R (t+1)):=by
 have hl:=bJ R t;have hl1:=bJ R (t+1);refine oU (fun i=>(iter R (t+1)).getD i 0) (fun i hi=>?_) fun i j hi hj e=>?_
 ·show (iter R (t+1)).getD i 0<_
  rw[List.getD_eq_getElem?_getD,List.getElem?_eq_getElem (by omega)]
  exact qi (b8 R (t+1)) (List.getElem_mem _)
 ·have e1:(iter R (t+1))[i]? = (iter R (t+1))[j]?:=by
   have e':(iter R (t+1)).getD i 0=(iter R (t+1)).getD j 0:=e
   rw[List.getD_eq_getElem?_getD,List.getD_eq_getElem?_getD,List.getElem?_eq_getElem (by omega),List.getElem?_eq_getElem (by omega)]at e'
   rw[List.getElem?_eq_getElem (by omega),List.getElem?_eq_getElem (by omega)]
   exact congrArg some e'
  have m:=(fM (R:=R) (ks:=iter R t) (by omega) (by omega)).mp e1
  have m1:(iter R t).getD i 0=(iter R t).getD j 0:=congrArg (·.1) m
  rw[List.getD_eq_getElem?_getD,List.getD_eq_getElem?_getD,List.getElem?_eq_getElem hi,List.getElem?_eq_getElem hj]at m1
  rw[List.getElem?_eq_getElem hi,List.getElem?_eq_getElem hj];exact congrArg some m1
theorem yb{R:aY}{t s:Nat}(h:t≤s):dy (iter R t)≤dy (iter R s):=by
 obtain⟨d,rfl⟩:=Nat.le.dest h
 clear h
 induction d with
 | zero=>exact Nat.le_refl _
 | succ d ih=>exact Nat.le_trans ih (v7 (t+d))
theorem yq(D:DefAt K mg "kinds_upto" bn) (z_max:mg "max" = none) (c_finer_kinds:Cal P w K mg base 2 "finer_kinds" ["rooms", "kinds"] tN):Cal P w K mg base 3 "kinds_upto" ["rooms", "most"] sM:=by
 refine D.cal sc_kinds_upto (fun _ _ _ _ _ _ us hl=>match us,hl with | [_,_],_=>rfl) (fun vs H Q E h=>by obtain⟨p,R,m,as,mo,rfl,_⟩:=h; rfl) (fun f cdv A outer s H vs Q E hr h=>?_)
 obtain⟨p,R,m,as,mo,rfl,hmo,hR,ok,q,q0⟩:=h
 have n1:=ok.n1;have h2:=hR.2.1
 refine⟨_,(ah (kR (CompSc.to (fsc:=(defScope bn)) (N:=["rooms", "most", "kinds", "finer"]) (N0:=["rooms", "most", "kinds", "finer"]) (T:=["room"]) ⟨by decide +kernel,by decide +kernel,by decide +kernel,by decide +kernel,by decide +kernel,by decide +kernel,by decide +kernel⟩ rfl rfl) rfl sc_kinds_upto.nd (i:=2) rfl HL (b_ K (pv 0)) (fun _ _ _ _=>(bA 4 (show (["rooms", "most", "kinds", "finer", "room"]:List Str).Nodup from by decide +kernel) (hx:=(gf (defScope bn) (by decide +kernel))) (hf:=i5 (defScope bn) (by decide +kernel)))) (cS (show (["rooms", "most", "kinds", "finer"]:List Str).length≤4 from by decide)) (fun _ _ _ _=>du) (fun _ _ _ _=>af))
   (ah (aA 3 sc_kinds_upto.nd (aL c_finer_kinds hr (aa (pv 0) (aa (pv 2) ac))))
   (ah (kE PassesOwn.never (aM (fP K hr) (pv 3) (pv 2) (aV _)) (ah (bT (aM DZ (bF (vT K) z_max Cs (aa (pv 3) ac)) (pv 1) (aV _)) (aj (aN bZ)) bv)
   (ah (aA 2 sc_kinds_upto.nd (pv 3))
   (aj (aA 3 sc_kinds_upto.nd (aL c_finer_kinds hr (aa (pv 0) (aa (pv 2) ac))))))))
   (aj (aN (pv 2)))))),?_⟩
 walk_at "rd1";refine⟨⟨_,SqL.of hR.1⟩,fun L hL=>?_⟩
 refine cW (xs:=as.map V.ref) (fun i ys H'=>Same H H'∧H' L=some (.lst ys)∧ys=(List.replicate i 0).map nV) ⟨bh hL _,ar,rfl⟩ (fun i ys H' _ h=>SqL.of (h.1 _ _ hR.1)) ?_ ?_
 ·rintro i ys H' v hv hi ⟨sm,hl,rfl⟩
  rw[List.length_map]at hi
  walk_at "rd1";refine fS (by rw[List.length_map]; exact hi) (by simp) (by rw[List.length_map]; exact cJ (by omega)) hl ⟨sm.upd hL _,ar,?_⟩
  rw[List.replicate_succ',List.map_append]; rfl
 rintro ys H1 ⟨sm1,hl1,rfl⟩
 rw[List.length_map,h2]at hl1
 have hl1':H1 L=some (.lst ((iter R 0).map nV)):=by
  show _=some (HO.lst ((R.map fun _=>0).map nV))
  rw[List.map_const']; exact hl1
 walk_at "nx";refine⟨p,L,R,m,as,iter R 0,rfl,hR.mono sm1,ok,hl1',bJ R 0,fun L2 H2 sm2 hL2 hl2=>?_⟩
 walk_at "nx"
 refine⟨fun mm σ H'=>∃ (t:Nat) (a b:Addr),mm=dH R.length (iter R t)∧mm+t≤R.length * R.length∧dy (iter R t)≤mo∧σ=[some (.ref p),some (nV mo),some (.ref a),some (.ref b)]∧Same H H'∧H a=none∧H' a=some (.lst ((iter R t).map nV))∧H' b=some (.lst ((iter R (t+1)).map nV))∧H b=none,
  ⟨_,0,L,L2,rfl,by have:=qf R.length (iter R 0); omega,Nat.le_trans (x9 R) hmo,rfl,sm1.trans sm2,hL,sm2 _ _ hl1',hl2,sm1.free hL2⟩,?_⟩
 rintro mm σ H' ⟨t,a,b,rfl,hmm,hct,rfl,sm,ha,hla,hlb,hb⟩
 walk_at "rd1";rw[mn]at hla hlb
 refine⟨0,_,by decide,EqN.ints (SqL.of hlb) (SqL.of hla),?_⟩
 walk_at "rd1"
 by_cases he:iter R (t+1)=iter R t
 ·rw[decide_eq_true (ints_inj.mpr he)]
  walk_at "rd1";walk_at "nx";rw[← mn,gS he (by omega)]at hla
  exact q (by rw[← gS he (by omega)]; exact hct) a H' sm ha hla
 ·rw[decide_eq_false (fun z=>he (ints_inj.mp z))]
  walk_at "rd1";refine⟨fun σ' H'=>∃ mm,mm<dH R.length (iter R t)∧∃ (t':Nat) (a b:Addr),mm=dH R.length (iter R t')∧mm+t'≤R.length * R.length∧dy (iter R t')≤mo∧σ'=[some (.ref p),some (nV mo),some (.ref a),some (.ref b)]∧Same H H'∧H a=none∧H' a=some (.lst ((iter R t').map nV))∧H' b=some (.lst ((iter R (t'+1)).map nV))∧H b=none,fun _ _ h=>h,?_⟩
  have hne:(iter R (t+1)).map (fun k:Nat=>(k:Int))≠[]:=by
   have h0:=bJ R (t+1);have h1:=ok.n0;intro z
   have:=congrArg List.length z
   rw[List.length_map,List.length_nil]at this
   omega
  refine⟨_,SqL.of hlb,hne,fun M hM hmx=>?_⟩
  have hlt:=ki (R:=R) (bJ R t) (b8 R t) he;walk_at "rd1";refine bg (fun c=>?_) (fun c=>?_)
  ·have c':M≥(mo:Int):=by simpa using c
   refine q0 ?_ H' sm
   obtain⟨y,hy,rfl⟩:=List.mem_map.mp hM
   have h1:=qi (b8 R (t+1)) hy;have h2:=yb (R:=R) (t:=t+1) (s:=R.length * R.length) (by omega)
   show mo<dy (iter R (R.length * R.length))
   omega
  have hct':dy (iter R (t+1))≤mo:=by
   have c':¬ M≥(mo:Int):=by simpa using c
   refine Classical.byContradiction fun hn=>?_
   have h1:=vv (b8 R (t+1)) (by omega)
   have:=hmx _ (List.mem_map.mpr ⟨_,h1,rfl⟩)
   omega
  walk_at "nx";walk_at "nx";rw[← mn]at hla hlb
  refine⟨p,b,R,m,as,iter R (t+1),rfl,hR.mono sm,ok,hlb,bJ R _,fun L3 H3 sm3 hL3 hl3=>?_⟩
  exact⟨_,hlt,t+1,b,L3,rfl,(by show dH R.length (finer R (iter R t))+(t+1)≤_; omega),hct',rfl,sm.trans sm3,hb,sm3 _ _ hlb,hl3,sm.free hL3⟩
structure NR (H H':Hp) (mp:Addr) (rs:aY) (as:List Addr):Prop where
 at':RoomsAs H' mp rs as
 new:∀ a∈as,H a=none∧a≠mp
 nd:as.Nodup
theorem NR.held{H H':Hp}{mp:Addr}{rs:aY}{as:List Addr}(h:NR H H' mp rs as){a:Addr}(ha:a∈as):∃ o,H' a=some o:=by
 obtain⟨i,hi,e⟩:=List.mem_iff_getElem.mp ha
 have hl:=h.at'.2.1;exact⟨_,h.at'.2.2 i a _ (by rw[← e]; exact List.getElem?_eq_getElem hi) (List.getElem?_eq_getElem (by omega))⟩
theorem NR.mono{H H' H2:Hp}{mp:Addr}{rs:aY}{as:List Addr}(h:NR H H' mp rs as)(sm:Same H' H2):NR H H2 mp rs as:=⟨h.at'.mono sm,h.new,h.nd⟩
theorem NR.push{H H':Hp}{mp L:Addr}{rs:aY}{as:List Addr}{x:List (Option Nat)}{H0:Hp}(h:NR H H0 mp rs as)(sm:Same H0 H')(smH:Same H H0)(hL0:H0 L=none)(hL:H' L=some (.lst (x.map ak))) :
  NR H (upd H' mp (.lst (as.map V.ref++[.ref L]))) mp (rs++[x]) (as++[L]):=by
 obtain⟨h1,h2,h3⟩:=h.at'
 have nL:L≠mp:=Ne.symm (aF h1 hL0)
 refine⟨⟨by rw[ar,List.map_append]; rfl,by simp[h2],fun i a y e1 e2=>?_⟩,fun a ha=>?_,?_⟩
 ·rcases Nat.lt_or_ge i as.length with z | z
  ·rw[List.getElem?_append_left z]at e1
   rw[List.getElem?_append_left (by omega)]at e2
   have hn:=(h.new a (List.mem_of_getElem? e1)).2;rw[am hn]; exact sm _ _ (h3 i a y e1 e2)
  ·rw[List.getElem?_append_right z]at e1
   rw[List.getElem?_append_right (by omega)]at e2
   have hj0:i - as.length=0:=by
    have:=(List.getElem?_eq_some_iff.mp e1).1
    simp at this; omega
   rw[hj0]at e1
   rw[show i - rs.length=0 by omega]at e2
   have e1':L=a:=by simpa using e1
   have e2':x=y:=by simpa using e2
   subst e1' e2';rw[am nL]; exact hL
 ·rcases List.mem_append.mp ha with z | z
  ·exact h.new a z
  ·rw[List.mem_singleton.mp z]; exact⟨smH.free hL0,nL⟩
 ·rw[List.nodup_append]
  refine⟨h.nd,by simp,fun a ha b hb e=>?_⟩
  rw[List.mem_singleton.mp hb]at e
  subst e;obtain⟨o,z⟩:=h.held ha
  rw[hL0]at z; cases z
def zL(g:aY→aY):Sp:=fun vs H Q _=>∃ (p:Addr) (R:aY) (m:Nat) (as:List Addr),vs=[.ref p]∧RoomsAs H p R as∧eL R m∧∀ (L:Addr) (H':Hp) (bs:List Addr),Same H H'→H L=none→NR H H' L (g R) bs→Q (.ref L) H'
def pz:Sp:=fun vs H Q _=>∃ (p kp:Addr) (R:aY) (m:Nat) (as:List Addr),vs=[.ref p,.ref kp]∧RoomsAs H p R as∧eL R m∧H kp=some (.lst ((ae R).map nV))∧∀ (L:Addr) (H':Hp) (bs:List Addr),Same H H'→H L=none→NR H H' L (merged R) bs→Q (.ref L) H'
theorem v4(D:DefAt K mg "merged_rooms" bd) (z_enumerate:mg "enumerate" = none) (z_len:mg "len" = none) (c_ways_by:Cal P w K mg base 1 "ways_by" ["numbers", "ways"] ox) :
  Cal P w K mg base 4 "merged_rooms" ["rooms", "kinds"] pz:=by
 refine D.cal sc_merged_rooms (fun _ _ _ _ _ _ us hl=>match us,hl with | [_,_],_=>rfl) (fun vs H Q E h=>by obtain⟨p,kp,R,m,as,rfl,_⟩:=h; rfl) (fun f cdv A outer s H vs Q E hr h=>?_)
 obtain⟨p,kp,R,m,as,rfl,hR,ok,hk1,q⟩:=h
 obtain⟨h1,h2,h3⟩:=hR
 have n1:=ok.n1;have hlk:(ae R).length=R.length:=bJ R _
 have hcn:df (ae R):=b8 R _
 refine⟨_,(ah (aA 2 sc_merged_rooms.nd (bw ac))
   (ah (cB PassesOwn.never rfl (fE K He z_enumerate (aa (pv 0) ac)) (gD K (n:=2) (cQ (bA 3 sc_merged_rooms.nd) (cQ (bA 4 sc_merged_rooms.nd) gI))) (aj (bT (aM dG (aP (bi K) (pv 1) (pv 3) (fun _ _=>rfl)) (bF (cz K) z_len dB (aa (pv 2) ac)) (aV _)) (aj (cM (dc K PySem.F.plainAttrs_list PySem.F.slot_list_append PySem.F.type_list_append cq (pv 2) (aa (aL c_ways_by hr (aa (pv 1) (aa (pv 4) ac))) ac)))) bv)))
   (aj (aN (pv 2))))),?_⟩
 walk_at "rd1";refine⟨by decide,fun mp hmp=>?_⟩
 generalize hH2:upd H mp _=H2
 have sm2:=aw hH2 hmp;have e2:=aS hH2;have hmpH:H mp=none:=hmp
 walk_at "nx";refine⟨⟨_,sm2 _ _ h1⟩,?_⟩
 refine fW (xs:=as.map V.ref) (fun i σ H'=>∃ (o3 o4:Option V) (bs:List Addr),σ=[some (.ref p),some (.ref kp),some (.ref mp),o3,o4]∧Same H H'∧H' kp=some (.lst ((ae R).map nV))∧NR H H' mp (bX R (ae R) i) bs)
  ⟨none,none,[],rfl,sm2,sm2 _ _ hk1,⟨e2,rfl,by simp⟩,by simp,List.nodup_nil⟩ (fun i σ H' _ h=>by obtain⟨_,_,_,_,sm,_⟩:=h; exact SqL.of (sm _ _ h1)) ?_ ?_
 ·rintro i v t σ H' hv ⟨o3,o4,bs,rfl,sm,hk,hN⟩ ht
  have hia:i<as.length:=by have:=(List.getElem?_eq_some_iff.mp hv).1; simpa using this
  have hi:i<R.length:=by omega
  rw[List.getElem?_map,List.getElem?_eq_getElem hia]at hv
  cases hv;have hrow:=h3 i _ _ (List.getElem?_eq_getElem hia) (List.getElem?_eq_getElem hi);have hkd:(ae R)[i]? = some ((ae R).getD i 0):=by rw[List.getD_eq_getElem?_getD,List.getElem?_eq_getElem (by omega)]; rfl
  have st:=bh ht (.tup [nV i,.ref as[i]]);have ett:upd H' t (.tup [nV i,.ref as[i]]) t=some (.tup [nV i,.ref as[i]]):=ar
  have smt:=sm.trans st;have hkt:=st _ _ hk;have hNt:=hN.mono st;generalize upd H' t (.tup [nV i,.ref as[i]])=Ht at st ett smt hkt hNt ⊢;have hml:bs.length=(bX R (ae R) i).length:=hNt.at'.2.1
  have hms:=rE hcn hlk hi
  have hbl:(bX R (ae R) i).length≤140:=by
   show ((List.range _).map _).length≤140
   rw[List.length_map,List.length_range];have:=dN ((ae R).take i) []
   rw[List.length_take]at this
   simp at this; omega
  walk_at "rd1";refine⟨t,_,rfl,SqT.of ett,rfl,?_⟩
  walk_at "rd1";refine⟨_,_,.inl (SqL.of hkt),aZ (by rw[List.getElem?_map,hkd]; rfl),⟨_,.inl (SqL.of hNt.at'.1),?_⟩⟩
  rw[List.length_map,hml];walk_at "rd1";refine bg (fun c=>?_) (fun c=>?_)
  ·rw[if_pos (by omega)]at hms
   refine⟨⟨_,SqL.of hNt.at'.1⟩,kp,as[i],R[i],fun k=>(ae R).getD k 0,rfl,smt _ _ hrow,by rw[ok.row _ (List.getElem_mem hi)]; have:=ok.m1; omega,fun k hk'=>.inl ⟨_,hkt,?_⟩,fun L H3 sm3 hL hl3=>?_⟩
   ·have:=ok.ins _ (List.getElem_mem hi) k hk'
    show (ae R)[k]? = some ((ae R).getD k 0)
    rw[List.getD_eq_getElem?_getD,List.getElem?_eq_getElem (by omega)]; rfl
   walk_at "rd1";refine⟨_,sm3 _ _ hNt.at'.1,by rw[List.length_map]; exact cA (by omega),_,_,bs++[L],rfl,(smt.trans sm3).upd hmpH _,?_,?_⟩
   ·rw[am (fun z=>?_)]
    ·exact sm3 _ _ hkt
    ·subst z
     rw[hk1]at hmp; cases hmp
   ·rw[hms]
    have e:R.getD i []=R[i]:=by rw[List.getD_eq_getElem?_getD,List.getElem?_eq_getElem hi]; rfl
    rw[e];exact hNt.push sm3 smt hL hl3
  ·rw[if_neg (by omega)]at hms
   exact⟨_,_,bs,rfl,smt,hkt,by rw[hms]; exact hNt⟩
 ·rintro σ H' ⟨o3,o4,bs,rfl,sm,hk,hN⟩
  walk_at "nx";rw[List.length_map,h2]at hN
  exact q mp H' bs sm hmpH hN
def eB(o:List Nat):List (bD × V):=o.map fun k:Nat=>(Sum.inl (k:Int),V.bl true)
theorem nS(k:Nat):∀ (o:List Nat),(aX (eB o) (.inl (k:Int))).isSome=decide (k∈o)
 | []=>rfl
 | x::o=>by
  have ih:=nS k o;show (aX ((Sum.inl (x:Int),V.bl true)::eB o) (.inl (k:Int))).isSome=_
  by_cases h:x=k
  ·subst h; simp[aX]
  ·have hn:¬ ((Sum.inl (x:Int):bD)=Sum.inl (k:Int)):=fun z=>h (by have:=Sum.inl.inj z; omega)
   have e:aX ((Sum.inl (x:Int),V.bl true)::eB o) (.inl (k:Int))=aX (eB o) (.inl (k:Int)):=by simp[aX,hn]
   rw[e,ih];simp[Ne.symm h]
theorem wB{k:Nat}{o:List Nat}(h:k∉o):cI (eB o) (.inl (k:Int)) (.bl true)=eB (o++[k]):=by
 unfold cI
 have hn:((eB o).any fun kv=>decide (kv.1=(Sum.inl (k:Int):bD)))=false:=by
  rw[List.any_eq_false];intro x hx
  obtain⟨y,hy,rfl⟩:=List.mem_map.mp hx
  have:y≠k:=fun e=>h (e ▸ hy)
  simp; omega
 rw[if_neg (by rw[hn]; exact Bool.false_ne_true)]
 unfold eB;rw[List.map_append]; rfl
def sJ:Sp:=fun vs H Q _=>∃ (p:Addr) (R:aY) (m:Nat) (as:List Addr),vs=[.ref p]∧RoomsAs H p R as∧eL R m∧∀ (L:Addr) (H':Hp),Same H H'→H L=none→H' L=some (.lst ((aD R).map nV))→Q (.ref L) H'
theorem Dr(D:DefAt K mg "rooms_led_to" ba) (z_len:mg "len" = none):Cal P w K mg base 1 "rooms_led_to" ["rooms"] sJ:=by
 refine D.cal sc_rooms_led_to (fun _ _ _ _ _ _ us hl=>match us,hl with | [_],_=>rfl) (fun vs H Q E h=>by obtain⟨p,R,m,as,rfl,_⟩:=h; rfl) (fun f cdv A outer s H vs Q E hr h=>?_)
 obtain⟨p,R,m,as,rfl,hR,ok,q⟩:=h
 obtain⟨h1,h2,h3⟩:=hR
 have n1:=ok.n1
 refine⟨_,(ah (aA 1 sc_rooms_led_to.nd (bw (aa af ac)))
   (ah (aA 2 sc_rooms_led_to.nd (A8 (zv af cO AS) rfl rfl (by decide) (by decide)))
   (ah (aA 3 sc_rooms_led_to.nd af)
   (ah (kE PassesOwn.never (aM lr (pv 3) (bF (cz K) z_len dB (aa (pv 1) ac)) (aV _)) (ah (aA 4 sc_rooms_led_to.nd (aP (bi K) (pv 1) (pv 3) (fun _ _=>rfl)))
   (ah (cB PassesOwn.never rfl (b_ K (aP (bi K) (pv 0) (pv 4) (fun _ _=>rfl))) (bA 5 sc_rooms_led_to.nd) (aj (bT (PW.pt' (jc (aM kM (pv 5) bZ (aV _)) (il (aM (wD hr) (pv 5) (pv 2) (by with_unfolding_all rfl))))) (ah (fg cO (fq (pv 2) (pv 5) (ua hr)))
   (aj (cM (dc K PySem.F.plainAttrs_list PySem.F.slot_list_append PySem.F.type_list_append cq (pv 1) (aa (pv 5) ac))))) bv)))
   (aj (aA 3 sc_rooms_led_to.nd (aE bH (pv 3) af))))))
   (aj (aN (pv 1))))))),?_⟩
 walk_at "rd1";refine⟨by decide,fun op hop=>?_⟩
 generalize hH1:upd H op _=H1
 have sm1:=aw hH1 hop;have e1:=aS hH1;walk_at "nx";refine fun dp hdp=>⟨ar,[(.inl 0,.bl true)],rfl,by decide,?_⟩
 rw[AW];generalize hH2:upd H1 dp _=H2
 have sm2:=aw hH2 hdp;have e2:H2 dp=some (.dK (eB [0])):=aS hH2
 have hdpH:H dp=none:=sm1.free hdp
 walk_at "nx";walk_at "nx"
 refine⟨fun mm σ H'=>∃ (t:Nat) (o4 o5:Option V),mm=R.length - t∧t≤(aC R t).length∧σ=[some (.ref p),some (.ref op),some (.ref dp),some (.int (t:Int)),o4,o5]∧Same H H'∧H' op=some (.lst ((aC R t).map nV))∧H' dp=some (.dK (eB (aC R t))),
  ⟨_,0,none,none,rfl,Nat.zero_le _,rfl,sm1.trans sm2,sm2 _ _ e1,e2⟩,?_⟩
 rintro mm σ H' ⟨t,o4,o5,rfl,htl,rfl,sm,ho,hd⟩
 have hbl:=jE ok.ins ok.n0 t;have hbf:=(dJ ok.ins ok.n0 t).2;walk_at "rd1";refine⟨_,.inl (SqL.of ho),?_⟩
 rw[List.length_map];refine bg (fun c=>?_) (fun c=>?_)
 ·have ht:t<(aC R t).length:=by simpa using c
  refine⟨fun σ' H'=>∃ mm,mm<R.length - t∧∃ (t':Nat) (o4 o5:Option V),mm=R.length - t'∧t'≤(aC R t').length∧σ'=[some (.ref p),some (.ref op),some (.ref dp),some (.int (t':Int)),o4,o5]∧Same H H'∧H' op=some (.lst ((aC R t').map nV))∧H' dp=some (.dK (eB (aC R t'))),fun _ _ h=>h,?_⟩
  walk_at "rd1";refine⟨_,_,.inl (SqL.of ho),aZ (by rw[List.getElem?_map,List.getElem?_eq_getElem ht]; rfl),?_⟩
  have hr':(aC R t)[t]<R.length:=hbf _ (List.getElem_mem ht)
  have hbt:(aC R t)[t]? = some (aC R t)[t]:=List.getElem?_eq_getElem ht
  have hb1:aC R (t+1)=aH (aC R t) (R.getD (aC R t)[t] []):=by
   show (match (aC R t)[t]? with | some r=>aH (aC R t) (R.getD r []) | none=>aC R t)=_
   rw[hbt]
  generalize (aC R t)[t]=r at hr' hbt hb1 ⊢;have hra:r<as.length:=by omega
  have hrow:=h3 r _ _ (List.getElem?_eq_getElem hra) (List.getElem?_eq_getElem hr');have hgd:R.getD r []=R[r]:=by rw[List.getD_eq_getElem?_getD,List.getElem?_eq_getElem hr']; rfl
  rw[hgd]at hb1
  have hrm:=ok.row _ (List.getElem_mem hr');have hm1:=ok.m1;walk_at "nx";refine⟨_,_,.inl (SqL.of (sm _ _ h1)),aZ (by rw[List.getElem?_map,List.getElem?_eq_getElem hra]; rfl),?_⟩
  walk_at "rd1";refine⟨⟨_,SqL.of (sm _ _ hrow)⟩,?_⟩
  refine dL (xs:=(R[r]).map ak) (fun j σ H'=>∃ o5,σ=[some (.ref p),some (.ref op),some (.ref dp),some (.int (t:Int)),some (nV r),o5]∧Same H H'∧H' op=some (.lst ((aH (aC R t) ((R[r]).take j)).map nV))∧H' dp=some (.dK (eB (aH (aC R t) ((R[r]).take j)))))
   ⟨o5,rfl,sm,ho,hd⟩ (fun j σ H' _ h=>by obtain⟨_,_,sm,_⟩:=h; exact SqL.of (sm _ _ hrow)) ?_ ?_
  ·rintro j v σ H' hv ⟨o5,rfl,sm,ho,hd⟩
   have hj:j<(R[r]).length:=by have:=(List.getElem?_eq_some_iff.mp hv).1; simpa using this
   rw[List.getElem?_map,List.getElem?_eq_getElem hj]at hv
   cases hv;have htk:(R[r]).take (j+1)=(R[r]).take j++[(R[r])[j]]:=by rw[List.take_add_one,List.getElem?_eq_getElem hj]; rfl
   have hes:=ij ((R[r]).take j) (aC R t) (R[r])[j];rw[← htk]at hes
   have hxm:=List.getElem_mem hj;generalize (R[r])[j]=xo at hes hxm ⊢
   have hel:(aH (aC R t) ((R[r]).take j)).length≤R.length:=by
    refine eO _ _ (fz _ _ (dJ ok.ins ok.n0 t).1) fun y hy=>?_
    rcases(eh _ _ _).mp hy with z | z
    ·exact hbf y z
    ·exact ok.ins _ (List.getElem_mem hr') y (List.mem_of_mem_take z)
   have hop':op≠dp:=by
    rintro rfl
    rw[e1]at hdp; cases hdp
   cases xo with
   | none=>
    walk_at "rd1";refine bg (fun c=>?_) (fun c=>?_)
    ·exact absurd c (by decide)
    ·exact⟨_,rfl,sm,by rw[hes]; exact ho,by rw[hes]; exact hd⟩
   | some k=>
    rw[show ak (some k)=V.int (k:Int) from rfl];walk_at "rd1";refine bg (fun c=>?_) (fun c=>?_)
    ·refine⟨dp,_,.inl (k:Int),rfl,rfl,hd,?_⟩
     rw[nS]
     by_cases hm:k∈aH (aC R t) ((R[r]).take j)
     ·rw[decide_eq_true hm]
      walk_at "rd1";simp only[if_pos hm]at hes
      exact⟨_,rfl,sm,by rw[hes]; exact ho,by rw[hes]; exact hd⟩
     ·rw[decide_eq_false hm]
      simp only[if_neg hm]at hes
      walk_at "rd1";refine⟨dp,_,.inl (k:Int),rfl,rfl,hd,by show (List.map _ _).length<_; rw[List.length_map]; exact cA (by omega),?_⟩
      rw[wB hm];walk_at "nx";have ho':upd H' dp (.dK (eB (aH (aC R t) ((R[r]).take j)++[k]))) op=some (.lst ((aH (aC R t) ((R[r]).take j)).map nV)):=by rw[am hop']; exact ho
      refine⟨⟨_,SqL.of ho'⟩,_,ho',by rw[List.length_map]; exact cA (by omega),_,rfl,(sm.upd hdpH _).upd hop _,?_,?_⟩
      ·rw[ar,hes,List.map_append]; rfl
      ·rw[am (Ne.symm hop'),ar,hes]
    ·exact absurd (by simp) c
  ·rintro σ H' ⟨o5,rfl,sm,ho,hd⟩
   rw[List.length_map,List.take_length,← hb1]at ho hd
   walk_at "nx";refine⟨_,(by omega:R.length - (t+1)<R.length - t),t+1,some (nV r),o5,rfl,?_,?_,sm,ho,hd⟩
   ·obtain⟨u,hu⟩:=jD (M:=R) t
    rw[hu,List.length_append]; omega
   ·rw[show ((t+1:Nat):Int)=(t:Int)+1 by omega]
 ·have ht:(aC R t).length≤t:=by
   have:¬ ((t:Int)<((aC R t).length:Int)):=by simpa using c
   omega
  walk_at "nx";rw[i_ ht (by omega)]at ho
  exact q op H' sm hop ho
def cr(k:Nat):List Nat→List (bD × V)
 | []=>[]
 | r::o=>(Sum.inl (r:Int),nV k)::cr (k+1) o
theorem jZ:∀ (o:List Nat) (k:Nat),(cr k o).length=o.length
 | [],_=>rfl
 | r::o,k=>by show (cr (k+1) o).length+1=_; rw[jZ o]; rfl
theorem jT:∀ (o:List Nat) (k:Nat),∀ kv∈cr k o,∃ r∈o,kv.1=Sum.inl (r:Int)
 | [],_,kv,h=>by simp[cr]at h
 | r::o,k,kv,h=>by
  rcases List.mem_cons.mp h with rfl | h
  ·exact⟨r,List.mem_cons_self,rfl⟩
  ·obtain⟨x,hx,e⟩:=jT o (k+1) kv h
   exact⟨x,List.mem_cons_of_mem _ hx,e⟩
theorem jh:∀ (o:List Nat) (k r:Nat),cr k (o++[r])=cr k o++[(Sum.inl (r:Int),nV (k+o.length))]
 | [],k,r=>rfl
 | x::o,k,r=>by
  show (Sum.inl (x:Int),nV k)::cr (k+1) (o++[r])=_
  rw[jh o,List.length_cons,show k+1+o.length=k+(o.length+1) by omega]; rfl
theorem qY{o:List Nat}{r:Nat}(h:r∉o):cI (cr 0 o) (.inl (r:Int)) (nV o.length)=cr 0 (o++[r]):=by
 unfold cI
 have hn:((cr 0 o).any fun kv=>decide (kv.1=(Sum.inl (r:Int):bD)))=false:=by
  rw[List.any_eq_false];intro x hx
  obtain⟨y,hy,e⟩:=jT o 0 x hx
  have:y≠r:=fun e=>h (e ▸ hy)
  rw[e]; simp; omega
 rw[if_neg (by rw[hn]; exact Bool.false_ne_true),jh,Nat.zero_add]
theorem j_:∀ (o:List Nat) (k r:Nat),r∈o→aX (cr k o) (.inl (r:Int))=some (nV (k+o.idxOf r))
 | [],_,_,h=>by cases h
 | x::o,k,r,h=>by
  by_cases e:x=r
  ·subst e
   rw[List.idxOf_cons_self];show aX ((Sum.inl (x:Int),nV k)::cr (k+1) o) (.inl (x:Int))=_
   simp[aX]
  ·have hr:r∈o:=(List.mem_cons.mp h).resolve_left (fun z=>e z.symm)
   have hn:¬ ((Sum.inl (x:Int):bD)=Sum.inl (r:Int)):=fun z=>e (by have:=Sum.inl.inj z; omega)
   have e1:aX (cr k (x::o)) (.inl (r:Int))=aX (cr (k+1) o) (.inl (r:Int)):=by
    show aX ((Sum.inl (x:Int),nV k)::cr (k+1) o) (.inl (r:Int))=_
    simp[aX,hn]
   rw[e1,j_ o (k+1) r hr,List.idxOf_cons];have hb:(x == r)=false:=beq_eq_false_iff_ne.mpr e
   rw[hb];show some (nV (k+1+o.idxOf r))=some (nV (k+(o.idxOf r+1)))
   rw[show k+1+o.idxOf r=k+(o.idxOf r+1) by omega]
theorem rf(D:DefAt K mg "numbered_rooms" aB) (z_enumerate:mg "enumerate" = none) (c_rooms_led_to:Cal P w K mg base 1 "rooms_led_to" ["rooms"] sJ) (c_ways_by:Cal P w K mg base 1 "ways_by" ["numbers", "ways"] ox) :
  Cal P w K mg base 2 "numbered_rooms" ["rooms"] (zL bc):=by
 refine D.cal sc_numbered_rooms (fun _ _ _ _ _ _ us hl=>match us,hl with | [_],_=>rfl) (fun vs H Q E h=>by obtain⟨p,R,m,as,rfl,_⟩:=h; rfl) (fun f cdv A outer s H vs Q E hr h=>?_)
 obtain⟨p,R,m,as,rfl,hR,ok,q⟩:=h
 obtain⟨h1,h2,h3⟩:=hR
 have n1:=ok.n1;have hm1:=ok.m1;obtain⟨ond,olt,ole⟩:=dQ ok.ins ok.n0
 refine⟨_,(ah (aA 1 sc_numbered_rooms.nd (aL c_rooms_led_to hr (aa (pv 0 (hv:=IU)) ac)))
   (ah (aA 2 sc_numbered_rooms.nd qk (hx:=IG))
   (ah (cB PassesOwn.never rfl (fE K HF z_enumerate (aa (pv 1) ac)) (gD K (n:=2) (cQ (bA 3 sc_numbered_rooms.nd) (cQ (bA 4 sc_numbered_rooms.nd) gI))) (aj (fg (pv 3) (fq (pv 2 (hv:=HS)) (pv 4) (ua hr)))))
   (aj (aN (ee (CompSc.to (fsc:=(defScope aB)) (N:=["rooms", "order", "numbers", "number", "room"]) (N0:=["rooms", "order", "numbers", "number", "room'"]) (T:=["room"]) ⟨by decide +kernel,by decide +kernel,by decide +kernel,by decide +kernel,by decide +kernel,by decide +kernel,by decide +kernel⟩ rfl rfl) rfl (b_ K (pv 1)) (fun _ _ _ _=>(bA 5 (show (["rooms", "order", "numbers", "number", "room'", "room"]:List Str).Nodup from by decide +kernel) (hx:=(gf (defScope aB) (by decide +kernel))) (hf:=i5 (defScope aB) (by decide +kernel)))) (cS (show (["rooms", "order", "numbers", "number", "room"]:List Str).length≤5 from by decide)) (fun _ _ _ _=>du) (fun _ _ _ _=>(aL c_ways_by hr (aa (pv 2 (hv:=(cx (defScope aB) (by decide +kernel)))) (aa (aP (bi K) (pv 0 (hv:=(cx (defScope aB) (by decide +kernel)))) (pv 5 (hv:=(cx (defScope aB) (by decide +kernel)))) (fun _ _=>rfl)) ac)) (hg:=(Ab (defScope aB) (by decide +kernel))))))))))),?_⟩
 walk_at "rd1";refine⟨p,R,m,as,rfl,⟨h1,h2,h3⟩,ok,fun op H1 sm1 hop ho=>?_⟩
 walk_at "nx";refine fun np hnp=>?_
 generalize hH2:upd H1 np _=H2
 have sm2:=aw hH2 hnp;have e2:=aS hH2;have hnpH:H np=none:=sm1.free hnp
 walk_at "nx";refine⟨⟨_,sm2 _ _ ho⟩,?_⟩
 refine fW (xs:=(aD R).map nV) (fun i σ H'=>∃ (o3 o4:Option V),σ=[some (.ref p),some (.ref op),some (.ref np),o3,o4]∧Same H H'∧H' op=some (.lst ((aD R).map nV))∧H' np=some (.dK (cr 0 ((aD R).take i))))
  ⟨none,none,rfl,sm1.trans sm2,sm2 _ _ ho,e2⟩ (fun i σ H' _ h=>by obtain⟨_,_,_,_,z,_⟩:=h; exact SqL.of z) ?_ ?_
 ·rintro i v t σ H' hv ⟨o3,o4,rfl,sm,ho',hn⟩ ht
  have hi:i<(aD R).length:=by have:=(List.getElem?_eq_some_iff.mp hv).1; simpa using this
  rw[List.getElem?_map,List.getElem?_eq_getElem hi]at hv
  cases hv
  have hnot:(aD R)[i]∉(aD R).take i:=fun z=>by
   obtain⟨j,hj,e⟩:=List.mem_iff_getElem.mp z
   rw[List.getElem_take]at e
   have:=(List.getElem_inj ond).mp e
   simp at hj; omega
  have htk:(aD R).take (i+1)=(aD R).take i++[(aD R)[i]]:=by rw[List.take_add_one,List.getElem?_eq_getElem hi]; rfl
  have hlt:((aD R).take i).length=i:=by rw[List.length_take]; omega
  generalize (aD R)[i]=r at hnot htk ⊢;have st:=bh ht (.tup [nV i,nV r]);have ett:upd H' t (.tup [nV i,nV r]) t=some (.tup [nV i,nV r]):=ar
  have smt:=sm.trans st;have hot:=st _ _ ho';have hnt:=st _ _ hn;generalize upd H' t (.tup [nV i,nV r])=Ht at st ett smt hot hnt ⊢;walk_at "rd1";refine⟨t,_,rfl,SqT.of ett,rfl,?_⟩
  walk_at "rd1";refine⟨np,_,.inl (r:Int),rfl,rfl,hnt,by rw[jZ]; exact cA (by omega),?_⟩
  refine⟨_,_,rfl,smt.upd hnpH _,?_,?_⟩
  ·rw[am (gq hot hnt (fun z=>nomatch z))]; exact hot
  ·have e:=qY hnot
   rw[hlt]at e
   rw[ar,htk,← e]
 ·rintro σ H3 ⟨o3,o4,rfl,sm3,ho3,hn3⟩
  rw[List.length_map,List.take_length]at hn3
  walk_at "nx";refine⟨⟨_,SqL.of ho3⟩,fun L hL=>?_⟩
  refine cW (xs:=(aD R).map nV) (fun i ys H'=>∃ bs:List Addr,Same H3 H'∧ys=bs.map V.ref∧bs.length=i∧NR H H' L ((bc R).take i) bs) ⟨[],bh hL _,rfl,rfl,⟨⟨ar,rfl,by simp⟩,by simp,List.nodup_nil⟩⟩ (fun i ys H' _ h=>by obtain⟨_,sm,_⟩:=h; exact SqL.of (sm _ _ ho3)) ?_ ?_
  ·rintro i ys H' v hv hi ⟨bs,sm,rfl,hb,hN⟩
   rw[List.length_map]at hi
   rw[List.getElem?_map,List.getElem?_eq_getElem hi]at hv
   cases hv;have hrm:=List.getElem_mem hi;have hod:(bc R)[i]? = some (fw (aD R) (R.getD (aD R)[i] [])):=by unfold bc; rw[List.getElem?_map,List.getElem?_eq_getElem hi]; rfl
   generalize (aD R)[i]=r at hrm hod ⊢;have hr':=olt r hrm;have hra:r<as.length:=by omega
   have hrow:=h3 r _ _ (List.getElem?_eq_getElem hra) (List.getElem?_eq_getElem hr');have hgd:R.getD r []=R[r]:=by rw[List.getD_eq_getElem?_getD,List.getElem?_eq_getElem hr']; rfl
   walk_at "rd1";refine⟨_,_,.inl (SqL.of ((sm3.trans sm) _ _ h1)),aZ (by rw[List.getElem?_map,List.getElem?_eq_getElem hra]; rfl),?_⟩
   refine⟨np,as[r],R[r],fun k=>(aD R).idxOf k,rfl,(sm3.trans sm) _ _ hrow,by rw[ok.row _ (List.getElem_mem hr')]; omega,fun k hk=>.inr ⟨_,sm _ _ hn3,?_⟩,fun L' H4 sm4 hL' hl4=>?_⟩
   ·rw[j_ _ _ _ (dZ ok.ins ok.n0 hrm (by rw[hgd]; exact hk)),Nat.zero_add]
   ·have hps:=hN.push sm4 (sm3.trans sm) hL' hl4
    refine fS (by rw[List.length_map]; exact hi) (by rw[List.length_map]; exact hb) (by rw[List.length_map]; exact cJ (by omega)) (sm4 _ _ hN.at'.1) ⟨bs++[L'],?_,by rw[List.map_append]; rfl,by simp[hb],?_⟩
    ·intro b o e
     have hbL:b≠L:=aF e hL
     rw[am hbL]; exact sm4 _ _ (sm _ _ e)
    ·rw[List.take_add_one,hod]
     have e:fw (aD R) (R.getD r [])=(R[r]).map (Option.map fun k=>(aD R).idxOf k):=by rw[hgd]; rfl
     rw[e]; exact hps
  ·rintro ys H' ⟨bs,sm,rfl,hb,hN⟩
   have hol:(bc R).length=(aD R).length:=by simp[bc]
   rw[List.length_map,List.take_of_length_le (by omega)]at hN
   exact q L H' bs (sm3.trans sm) (sm3.free hL) hN
def xF:Sp:=fun vs H Q _=>∃ (p:Addr) (N:aY) (m:Nat) (as:List Addr) (pl:Nat),vs=[.ref p,nV pl]∧RoomsAs H p N as∧eL N m∧pl<m∧∀ H',Same H H'→Q (.bl (d8 N pl)) H'
theorem Bn(D:DefAt K mg "does_something" aW) (z_enumerate:mg "enumerate" = none) (z_any:mg "any" = none):Cal P w K mg base 1 "does_something" ["rooms", "place"] xF:=by
 refine D.cal jO (fun _ _ _ _ _ _ us hl=>match us,hl with | [_,_],_=>rfl) (fun vs H Q E h=>by obtain⟨p,N,m,as,pl,rfl,_⟩:=h; rfl) (fun f cdv A outer s H vs Q E hr h=>?_)
 obtain⟨p,N,m,as,pl,rfl,hR,ok,hpl,q⟩:=h
 obtain⟨h1,h2,h3⟩:=hR
 have n1:=ok.n1;refine⟨_,(aj (aN (bF (xx K) z_any Bv (aa (ee (CompSc.to (fsc:=(defScope aW)) (N:=["rooms", "place"]) (N0:=["rooms", "place"]) (T:=["number", "room"]) ⟨by decide +kernel,by decide +kernel,by decide +kernel,by decide +kernel,by decide +kernel,by decide +kernel,by decide +kernel⟩ rfl rfl) rfl (fE K IE z_enumerate (aa (pv 0) ac)) (fun _ _ _ _=>(gD K (n:=2) (cQ (bA 2 (show (["rooms", "place", "number", "room"]:List Str).Nodup from by decide +kernel) (hx:=(gf (defScope aW) (by decide +kernel))) (hf:=i5 (defScope aW) (by decide +kernel))) (cQ (bA 3 (show (["rooms", "place", "number", "room"]:List Str).Nodup from by decide +kernel) (hx:=(gf (defScope aW) (by decide +kernel))) (hf:=i5 (defScope aW) (by decide +kernel))) gI)))) (AG (mV (cS (show (["rooms", "place"]:List Str).length≤2 from by decide)) mD (mV (cS (show (["rooms", "place"]:List Str).length≤3 from by decide)) mD y7 sF) (zl mD sF))) (fun _ _ _ _=>du) (fun _ _ _ _=>(e_ xi (aP (bi K) (pv 3 (hv:=(cx (defScope aW) (by decide +kernel)))) (pv 1 (hv:=(cx (defScope aW) (by decide +kernel)))) (fun _ _=>rfl)) (pv 2 (hv:=(cx (defScope aW) (by decide +kernel)))) (aV _)))) ac)))),?_⟩
 walk_at "rd1";refine⟨⟨_,h1⟩,fun L hL=>?_⟩
 refine tV (xs:=as.map V.ref) (fun i ys H'=>Same H H'∧H' L=some (.lst ys)∧ys=((List.range i).map fun i=>decide ((N.getD i []).getD pl none≠some i)).map V.bl) ⟨bh hL _,ar,rfl⟩ (fun i ys H' _ h=>SqL.of (h.1 _ _ h1)) ?_ ?_
 ·rintro i ys H' v t hv hi ⟨sm,hl,rfl⟩ ht
  rw[List.length_map]at hi
  rw[List.getElem?_map,List.getElem?_eq_getElem hi]at hv
  cases hv;have hi':i<N.length:=by omega
  have hrow:=h3 i _ _ (List.getElem?_eq_getElem hi) (List.getElem?_eq_getElem hi');have hgd:N.getD i []=N[i]:=by rw[List.getD_eq_getElem?_getD,List.getElem?_eq_getElem hi']; rfl
  have hrl:=ok.row _ (List.getElem_mem hi');have st:=bh ht (.tup [nV i,.ref as[i]]);have nt:L≠t:=aF hl ht
  walk_at "rd1";refine⟨t,_,rfl,SqT.of ar,rfl,?_⟩
  walk_at "rd1";refine⟨_,_,.inl (SqL.of (st _ _ (sm _ _ hrow))),aZ (by rw[List.getElem?_map,List.getElem?_eq_getElem (by omega)]; rfl),?_⟩
  refine⟨((N[i])[pl]'(by omega)).map (fun n:Nat=>(n:Int)),(i:Int),?_,rfl,?_⟩
  ·cases (N[i])[pl]'(by omega) <;> rfl
  ·refine fS (by rw[List.length_map]; exact hi) (by simp) (by rw[List.length_map]; exact cJ (by omega)) (by rw[am nt]; exact hl) ⟨(sm.trans st).upd hL _,ar,?_⟩
   rw[List.range_succ,List.map_append,List.map_append]
   congr 1
   show [V.bl _]=[V.bl _]
   congr 2
   show decide (_≠_)=decide ((N.getD i []).getD pl none≠some i)
   rw[hgd,List.getD_eq_getElem?_getD,List.getElem?_eq_getElem (by omega)]
   show decide (_≠_)=decide ((N[i])[pl]'(by omega)≠some i)
   cases (N[i])[pl]'(by omega) with
   | none=>simp
   | some k=>simp; omega
 ·rintro ys H' ⟨sm,hl,rfl⟩
  walk_at "rd1";rw[List.length_map,h2]at hl
  refine⟨_,SqL.of hl,?_⟩
  have e:((List.range N.length).map fun i=>decide ((N.getD i []).getD pl none≠some i)).any id=d8 N pl:=by
   unfold d8; rw[List.any_map]; rfl
  rw[e]; exact q H' sm
def qQ:Sp:=fun vs H Q _=>∃ (p b:Addr) (ts:List V) (ps:List Nat),vs=[.ref p,.ref b]∧H p=some (.lst ts)∧H b=some (.lst (ps.map nV))∧ps.length≤1000∧(∀ x∈ps,x<ts.length)∧
 ∀ (L:Addr) (H':Hp),Same H H'→H L=none→H' L=some (.lst (ps.map fun x=>ts.getD x .non))→Q (.ref L) H'
theorem v6(D:DefAt K mg "picked" cD):Cal P w K mg base 1 "picked" ["things", "places"] qQ:=by
 refine D.cal xa (fun _ _ _ _ _ _ us hl=>match us,hl with | [_,_],_=>rfl) (fun vs H Q E h=>by obtain⟨p,b,ts,ps,rfl,_⟩:=h; rfl) (fun f cdv A outer s H vs Q E hr h=>?_)
 obtain⟨p,b,ts,ps,rfl,hp,hb,hl,hx,q⟩:=h
 refine⟨_,(aj (aN (ee (CompSc.to (fsc:=(defScope cD)) (N:=["things", "places"]) (N0:=["things", "places"]) (T:=["place"]) ⟨by decide +kernel,by decide +kernel,by decide +kernel,by decide +kernel,by decide +kernel,by decide +kernel,by decide +kernel⟩ rfl rfl) rfl (b_ K (pv 1)) (fun _ _ _ _=>(bA 2 (show (["things", "places", "place"]:List Str).Nodup from by decide +kernel) (hx:=(gf (defScope cD) (by decide +kernel))) (hf:=i5 (defScope cD) (by decide +kernel)))) (cS (show (["things", "places"]:List Str).length≤2 from by decide)) (fun _ _ _ _=>du) (fun _ _ _ _=>(aP (bi K) (pv 0 (hv:=(cx (defScope cD) (by decide +kernel)))) (pv 2 (hv:=(cx (defScope cD) (by decide +kernel)))) (fun _ _=>rfl)))))),?_⟩
 walk_at "rd1";refine⟨⟨_,SqL.of hb⟩,fun L hL=>?_⟩
 refine cW (xs:=ps.map nV) (fun i ys H'=>Same H H'∧H' L=some (.lst ys)∧ys=(ps.take i).map fun x=>ts.getD x .non) ⟨bh hL _,ar,rfl⟩ (fun i ys H' _ h=>SqL.of (h.1 _ _ hb)) ?_ ?_
 ·rintro i ys H' v hv hi ⟨sm,hl',rfl⟩
  rw[List.length_map]at hi
  rw[List.getElem?_map,List.getElem?_eq_getElem hi]at hv
  cases hv;have hxi:=hx _ (List.getElem_mem hi);walk_at "rd1";refine⟨_,ts.getD ps[i] .non,.inl (SqL.of (sm _ _ hp)),aZ (by rw[List.getD_eq_getElem?_getD,List.getElem?_eq_getElem hxi]; rfl),?_⟩
  refine fS (by rw[List.length_map]; exact hi) (by simp; omega) (by rw[List.length_map]; exact cJ (by omega)) hl' ⟨sm.upd hL _,ar,?_⟩
  rw[List.take_add_one,List.getElem?_eq_getElem hi,List.map_append]; rfl
 ·rintro ys H' ⟨sm,hl',rfl⟩
  rw[List.length_map,List.take_length]at hl'
  exact q L H' sm hL hl'
def aR(r:Rl):Rl:=⟨r.s,(places (ai r.rs) r.ws.length).map (fun x=>r.ws.getD x default),(ai r.rs).map fun y=>(places (ai r.rs) r.ws.length).map fun x=>y.getD x none⟩
theorem jf{r:Rl}(ok:bj r):eL r.rs r.ws.length:=⟨ok.n0,ok.n1,ok.nw,fun x hx=>(ok.row x hx).1,fun x hx k hk=>(ok.row x hx).2 k hk⟩
theorem lI{R:aY}{m:Nat}(ok:eL R m):eL (merged R) m:=by
 obtain⟨a,b,c⟩:=eJ ok.n0 ok.ins
 have:=ok.n1
 exact⟨b,by omega,ok.m1,kP ok.row,a⟩
theorem kd{R:aY}{m:Nat}(ok:eL R m):eL (bc R) m:=by
 obtain⟨a,b,c,d⟩:=eN ok.ins ok.n0 ok.row
 have:=ok.n1
 exact⟨b,by omega,ok.m1,d,a⟩
theorem ci{N:aY}{n x:Nat}(h:x∈places N n):x<n:=List.mem_range.mp (List.mem_filter.mp h).1
theorem lM(N:aY)(n:Nat):(places N n).length≤n:=by
 have:=List.length_filter_le (d8 N) (List.range n)
 rw[List.length_range]at this
 exact this
theorem oM{r:Rl}(ok:bj r):bj (aR r):=by
 have o2:=kd (lI (jf ok));have hp:=lM (ai r.rs) r.ws.length;have:=ok.nw
 refine⟨ok.s,?_,?_,?_,fun x hx=>?_,fun x hx=>?_⟩
 ·show (List.map _ _).length≤18
  rw[List.length_map]; omega
 ·show 1≤(List.map _ _).length
  rw[List.length_map]; exact o2.n0
 ·show (List.map _ _).length≤140
  rw[List.length_map]; exact o2.n1
 ·obtain⟨y,hy,rfl⟩:=List.mem_map.mp hx
  refine⟨by show (List.map _ _).length=(List.map _ _).length; rw[List.length_map,List.length_map],fun k hk=>?_⟩
  obtain⟨x,hx',e⟩:=List.mem_map.mp hk
  show k<(List.map _ _).length
  rw[List.length_map];refine o2.ins y hy k ?_
  have hlt:x<y.length:=by rw[o2.row y hy]; exact ci hx'
  rw[List.getD_eq_getElem?_getD,List.getElem?_eq_getElem hlt]at e
  exact e ▸ List.getElem_mem hlt
 ·obtain⟨y,hy,rfl⟩:=List.mem_map.mp hx
  have hlt:=ci hy;rw[List.getD_eq_getElem?_getD,List.getElem?_eq_getElem hlt];exact ok.lw _ (List.getElem_mem hlt)
def xq:Sp:=fun vs H Q _=>∃ (p:Addr) (r:Rl) (mo:Nat),vs=[.ref p,nV mo]∧1≤mo∧RuleAt H p r∧bj r∧(mo<dy (ae r.rs)→∀ H',Same H H'→Q .non H')∧(dy (ae r.rs)≤mo→∀ (q pw pr:Addr) (H':Hp) (as:List Addr),Same H H'→H' q=some (.tup [.int r.s,.ref pw,.ref pr])→H' pw=some (.lst ((aR r).ws.map V.str))→
 NR H H' pr (aR r).rs as→H q=none→H pw=none→H pr=none→pw≠pr→pw∉as→Q (.ref q) H')
theorem AY(D:DefAt K mg "least_upto" ay) (z_range:mg "range" = none) (z_len:mg "len" = none) (c_kinds_upto:Cal P w K mg base 3 "kinds_upto" ["rooms", "most"] sM) (c_merged_rooms:Cal P w K mg base 4 "merged_rooms" ["rooms", "kinds"] pz) (c_numbered_rooms:Cal P w K mg base 2 "numbered_rooms" ["rooms"] (zL bc))
  (c_does_something:Cal P w K mg base 1 "does_something" ["rooms", "place"] xF) (c_picked:Cal P w K mg base 1 "picked" ["things", "places"] qQ):Cal P w K mg base 5 "least_upto" ["rule", "most"] xq:=by
 refine D.cal sc_least_upto (fun _ _ _ _ _ _ us hl=>match us,hl with | [_,_],_=>rfl) (fun vs H Q E h=>by obtain⟨p,r,mo,rfl,_⟩:=h; rfl) (fun f cdv A outer s H vs Q E hr h=>?_)
 obtain⟨p,r,mo,rfl,hmo,hR,ok,q0,q⟩:=h
 obtain⟨pw0,pr0,as0,g1,g2,g3⟩:=hR
 have o0:=jf ok;have o1:=lI o0;have o2:=kd o1;have nw:=ok.nw;have hpl:=lM (ai r.rs) r.ws.length
 refine⟨_,(ah (aA 2 sc_least_upto.nd (aL c_kinds_upto hr (aa (aP (bi K) (pv 0) af (fun _ _=>rfl)) (aa (pv 1) ac))))
   (ah (bT (aM eZ (pv 2) bZ (aV _)) (aj (aN bZ)) bv)
   (ah (aA 3 sc_least_upto.nd (aP (bi K) (pv 0) af (fun _ _=>rfl)))
   (ah (aA 4 sc_least_upto.nd (aL c_numbered_rooms hr (aa (aL c_merged_rooms hr (aa (aP (bi K) (pv 0) af (fun _ _=>rfl)) (aa (pv 2) ac))) ac)) (hx:=HZ))
   (ah (aA 5 sc_least_upto.nd (ee (CompSc.to (fsc:=(defScope ay)) (N:=["rule", "most", "kinds", "words", "rooms", "places"]) (N0:=["rule", "most", "kinds", "words", "rooms", "places"]) (T:=["place"]) ⟨by decide +kernel,by decide +kernel,by decide +kernel,by decide +kernel,by decide +kernel,by decide +kernel,by decide +kernel⟩ rfl rfl) rfl (eW IS z_range (aa (bF (cz K) z_len dB (aa (pv 3) ac)) ac)) (fun _ _ _ _=>(bA 6 (show (["rule", "most", "kinds", "words", "rooms", "places", "place"]:List Str).Nodup from by decide +kernel) (hx:=(gf (defScope ay) (by decide +kernel))) (hf:=i5 (defScope ay) (by decide +kernel)))) (cS (show (["rule", "most", "kinds", "words", "rooms", "places"]:List Str).length≤6 from by decide)) (fun _ _ _ _=>(zp (eG (aL c_does_something hr (aa (pv 4 (hv:=(cx (defScope ay) (by decide +kernel)))) (aa (pv 6 (hv:=(cx (defScope ay) (by decide +kernel)))) ac)) (hg:=(Ab (defScope ay) (by decide +kernel))))))) (fun _ _ _ _=>(pv 6 (hv:=(cx (defScope ay) (by decide +kernel)))))) (hx:=Ha))
   (aj (aN (dP (aa (aP (bi K) (pv 0) af (fun _ _=>rfl)) (aa (aL c_picked hr (aa (pv 3) (aa (pv 5 (hv:=Hd)) ac))) (aa (ee (CompSc.to (fsc:=(defScope ay)) (N:=["rule", "most", "kinds", "words", "rooms", "places"]) (N0:=["rule", "most", "kinds", "words", "rooms", "places"]) (T:=["room"]) ⟨by decide +kernel,by decide +kernel,by decide +kernel,by decide +kernel,by decide +kernel,by decide +kernel,by decide +kernel⟩ rfl rfl) rfl (b_ K (pv 4 (hv:=HQ))) (fun _ _ _ _=>(bA 6 (show (["rule", "most", "kinds", "words", "rooms", "places", "room"]:List Str).Nodup from by decide +kernel) (hx:=(gf (defScope ay) (by decide +kernel))) (hf:=i5 (defScope ay) (by decide +kernel)))) (cS (show (["rule", "most", "kinds", "words", "rooms", "places"]:List Str).length≤6 from by decide)) (fun _ _ _ _=>du) (fun _ _ _ _=>(aL c_picked hr (aa (pv 6 (hv:=(cx (defScope ay) (by decide +kernel)))) (aa (pv 5 (hv:=(cx (defScope ay) (by decide +kernel)))) ac)) (hg:=(Ab (defScope ay) (by decide +kernel)))))) ac))))))))))),?_⟩
 walk_at "rd1";refine⟨_,_,.inr (SqT.of g1),rfl,?_⟩
 refine⟨pr0,r.rs,r.ws.length,as0,mo,rfl,hmo,g3,o0,fun hkk KP H0 sm0 hKP hl0=>?_,fun hkk H0 sm0=>?_⟩
 rotate_left
 ·walk_at "nx"
  exact q0 hkk H0 sm0
 walk_at "nx";walk_at "nx";refine⟨_,_,.inr (SqT.of (sm0 _ _ g1)),rfl,?_⟩
 walk_at "nx";refine⟨_,_,.inr (SqT.of (sm0 _ _ g1)),rfl,?_⟩
 refine⟨pr0,KP,r.rs,r.ws.length,as0,rfl,g3.mono sm0,o0,hl0,fun M1 H1 bs1 sm1' hM1 hN1=>?_⟩
 have sm1:=sm0.trans sm1';refine⟨M1,merged r.rs,r.ws.length,bs1,rfl,hN1.at',o1,fun M2 H2 bs2 sm2 hM2 hN2=>?_⟩
 have sm12:=sm1.trans sm2;have hN2':=hN2.at';walk_at "nx";refine⟨_,.inl (SqL.of (sm12 _ _ g2)),?_⟩
 rw[List.length_map];walk_at "rd1";refine⟨by omega,by omega,fun L hL=>?_⟩
 refine rh (fun i ys H'=>Same H2 H'∧H' L=some (.lst ys)∧ys=((List.range i).filter (d8 (ai r.rs))).map nV) ⟨bh hL _,ar,rfl⟩ ?_ ?_
 ·rintro i ys H' hi ⟨sm,hl,rfl⟩
  have hi':i<r.ws.length:=by omega
  have hlen:(((List.range i).filter (d8 (ai r.rs))).map nV).length≤i:=by
   rw[List.length_map];have:=List.length_filter_le (d8 (ai r.rs)) (List.range i)
   rw[List.length_range]at this; exact this
  walk_at "rd1";refine⟨M2,ai r.rs,r.ws.length,bs2,i,by rw[Int.zero_add],hN2'.mono sm,o2,hi',fun H5 sm5=>?_⟩
  cases hdo:d8 (ai r.rs) i with
  | false=>
   walk_at "rd1";refine D4 hi ⟨sm.trans sm5,sm5 _ _ hl,?_⟩
   rw[List.range_succ,List.filter_append]; simp[hdo]
  | true=>
   walk_at "rd1";refine Cu hi hlen (cJ (by omega)) (sm5 _ _ hl) ⟨(sm.trans sm5).upd hL _,ar,?_⟩
   rw[List.range_succ,List.filter_append,List.map_append]; simp[hdo]
 rintro ys H3 ⟨sm3,hl3,rfl⟩
 have hl3':H3 L=some (.lst ((places (ai r.rs) r.ws.length).map nV)):=by
  unfold places; rw[hl3]; simp
 have sm13:=sm12.trans sm3;walk_at "nx";refine⟨_,_,.inr (SqT.of (sm13 _ _ g1)),rfl,?_⟩
 refine⟨pw0,L,r.ws.map V.str,places (ai r.rs) r.ws.length,rfl,sm13 _ _ g2,hl3',by omega,fun x hx=>by rw[List.length_map]; exact ci hx,fun W H4 sm4 hW hl4=>?_⟩
 have hws:((places (ai r.rs) r.ws.length).map fun x=>(r.ws.map V.str).getD x .non)=(aR r).ws.map V.str:=by
  show _=List.map V.str (List.map _ _)
  rw[List.map_map];refine List.map_congr_left fun x hx=>?_
  have hlt:=ci hx;show _=V.str (r.ws.getD x default)
  rw[List.getD_eq_getElem?_getD,List.getElem?_map,List.getD_eq_getElem?_getD,List.getElem?_eq_getElem hlt]; rfl
 rw[hws]at hl4
 walk_at "rd1";refine⟨⟨_,SqL.of (sm4 _ _ (sm3 _ _ hN2'.1))⟩,fun Z hZ=>?_⟩
 have hN4:=(hN2'.mono sm3).mono sm4;obtain⟨k1,k2,k3⟩:=hN4
 refine cW (xs:=bs2.map V.ref) (fun i ys H'=>∃ cs:List Addr,Same H4 H'∧ys=cs.map V.ref∧cs.length=i∧NR H H' Z ((aR r).rs.take i) cs∧W∉cs) ⟨[],bh hZ _,rfl,rfl,⟨⟨ar,rfl,by simp⟩,by simp,List.nodup_nil⟩,by simp⟩ (fun i ys H' _ h=>by obtain⟨_,sm,_⟩:=h; exact SqL.of (sm _ _ k1)) ?_ ?_
 ·rintro i ys H' v hv hi ⟨cs,sm,rfl,hc,hN,hWc⟩
  rw[List.length_map]at hi
  rw[List.getElem?_map,List.getElem?_eq_getElem hi]at hv
  cases hv
  have hi':i<(ai r.rs).length:=by
   have:bs2.length=(bc (merged r.rs)).length:=k2
   show i<(bc (merged r.rs)).length
   omega
  have hrow:=k3 i _ _ (List.getElem?_eq_getElem hi) (List.getElem?_eq_getElem hi');have hrl:((ai r.rs)[i]).length=r.ws.length:=o2.row _ (List.getElem_mem hi')
  walk_at "rd1";refine⟨bs2[i],L,((ai r.rs)[i]).map ak,places (ai r.rs) r.ws.length,rfl,sm _ _ hrow,sm _ _ (sm4 _ _ hl3'),by omega,fun x hx=>by rw[List.length_map]; have:=ci hx; omega,fun L' H5 sm5 hL' hl5=>?_⟩
  have hxs:((places (ai r.rs) r.ws.length).map fun x=>(((ai r.rs)[i]).map ak).getD x .non)=((places (ai r.rs) r.ws.length).map fun x=>((ai r.rs)[i]).getD x none).map ak:=by
   rw[List.map_map];refine List.map_congr_left fun x hx=>?_
   have hlt:x<((ai r.rs)[i]).length:=by have:=ci hx; omega
   show _=ak (((ai r.rs)[i]).getD x none)
   rw[List.getD_eq_getElem?_getD,List.getElem?_map,List.getD_eq_getElem?_getD,List.getElem?_eq_getElem hlt]; rfl
  rw[hxs]at hl5
  have smH:Same H H':=(sm13.trans sm4).trans sm
  have hps:=hN.push sm5 smH hL' hl5;refine fS (by rw[List.length_map]; exact hi) (by rw[List.length_map]; exact hc) (by rw[List.length_map]; have:=o2.n1; exact cJ (by have:bs2.length=(bc (merged r.rs)).length:=k2; omega)) (sm5 _ _ hN.at'.1) ⟨cs++[L'],?_,by rw[List.map_append]; rfl,by simp[hc],?_,?_⟩
  ·intro b o e
   rw[am (aF e hZ)]; exact sm5 _ _ (sm _ _ e)
  ·have e:(aR r).rs.take (i+1)=(aR r).rs.take i++[(places (ai r.rs) r.ws.length).map fun x=>((ai r.rs)[i]).getD x none]:=by
    rw[List.take_add_one];show _++(List.map _ (ai r.rs))[i]?.toList=_
    rw[List.getElem?_map,List.getElem?_eq_getElem hi']; rfl
   rw[e]; exact hps
  ·intro z
   rcases List.mem_append.mp z with z | z
   ·exact hWc z
   ·have e:=List.mem_singleton.mp z
    subst e;have:=sm _ _ hl4
    rw[hL']at this; cases this
 rintro ys H5 ⟨cs,sm5,rfl,hc,hN,hWc⟩
 have hfull:(aR r).rs.take (bs2.map V.ref).length=(aR r).rs:=List.take_of_length_le (by
  show (List.map _ (ai r.rs)).length≤_
  rw[List.length_map,List.length_map];have:bs2.length=(bc (merged r.rs)).length:=k2
  show (bc (merged r.rs)).length≤_
  omega)
 rw[hfull]at hN
 walk_at "rd1";refine⟨by decide,fun tp htp=>?_⟩
 have st:=bh htp (.tup [.int r.s,.ref W,.ref Z]);have smA:Same H H5:=(sm13.trans sm4).trans sm5
 refine q hkk tp W Z _ cs (smA.trans st) ar (st _ _ (sm5 _ _ hl4)) (hN.mono st) (smA.free htp) (sm13.free hW) ((sm13.trans sm4).free hZ) (aF hl4 hZ) hWc
end
theorem u7{R:aY}{m:Nat}(ok:eL R m):Rm R m:=⟨ok.n0,ok.row,ok.ins⟩
theorem dW(r:Rl):(aR r).rs=dq (ai r.rs) (places (ai r.rs) r.ws.length):=rfl
theorem xn(r:Rl):(aR r).ws.length=(places (ai r.rs) r.ws.length).length:=List.length_map _
def gR(R:aY)(k:Nat):Nat:=(aD (merged R)).idxOf ((ae R).getD k 0)
structure eA (R:aY) (k:Nat):Prop where
 lt:k<R.length
 mem:(ae R).getD k 0∈aD (merged R)
theorem yj(f:Option Nat→Option Nat)(hf:f none=none)(x:List (Option Nat))(j:Nat):(x.map f).getD j none=f (x.getD j none):=by
 rw[List.getD_eq_getElem?_getD,List.getElem?_map,List.getD_eq_getElem?_getD]
 cases x[j]? with
 | none=>exact hf.symm
 | some y=>rfl
theorem lf{R:aY}(h:1≤R.length):(ae R).getD 0 0=0:=by
 have hl:(ae R).length=R.length:=bJ R _
 have hc:=b8 R (R.length * R.length) 1
 have e:(iter R (R.length * R.length)).take 1=[(ae R).getD 0 0]:=by
  show (ae R).take 1=_
  cases hk:ae R with
  | nil=>rw[hk]at hl; simp at hl; omega
  | cons a t=>rfl
 rw[e]at hc
 have:al [] [(ae R).getD 0 0]=[(ae R).getD 0 0]:=by simp[al]
 rw[this]at hc
 simpa using hc
theorem lP(M:aY):(aD M)[0]? = some 0:=i3 M _
theorem ui{R:aY}(h:1≤R.length):eA R 0:=⟨h,by rw[lf h]; exact List.mem_of_getElem? (lP _)⟩
theorem yx{R:aY}(h:1≤R.length):gR R 0=0:=by
 unfold gR;rw[lf h];have:=lP (merged R)
 cases hk:aD (merged R) with
 | nil=>rw[hk]at this; cases this
 | cons a t=>
  rw[hk]at this
  have:a=0:=by simpa using this
  rw[this]; simp
theorem vG{R:aY}{k:Nat}(h:eA R k):gR R k<(ai R).length:=by
 rw[leastN_len]; exact List.idxOf_lt_length_iff.mpr h.mem
theorem Bl{R:aY}{k:Nat}(h:eA R k):(ai R).getD (gR R k) []=(R.getD k []).map (Option.map (gR R)):=by
 have hlt:=vG h;rw[lC hlt];have e:(aD (merged R))[gR R k]'(by rw[← leastN_len]; exact hlt)=(ae R).getD k 0:=List.getElem_idxOf (List.idxOf_lt_length_iff.mpr h.mem)
 rw[e,← (eX h.lt).2];unfold fw cZ;rw[List.map_map];refine List.map_congr_left fun o _=>?_
 cases o <;> rfl
theorem BA{R:aY}{k:Nat}(h:eA R k)(x:Nat):((ai R).getD (gR R k) []).getD x none=((R.getD k []).getD x none).map (gR R):=by
 rw[Bl h]; exact yj _ rfl _ _
theorem wU{R:aY}{m:Nat}(hR:Rm R m){k k':Nat}(h:eA R k)(hk:some k'∈R.getD k []):eA R k':=by
 have hM:=hR.merged;have hrow:R.getD k []=R[k]'h.lt:=ax h.lt
 refine⟨hR.ins _ (List.getElem_mem h.lt) k' (hrow ▸ hk),?_⟩
 refine dZ hM.ins hM.n0 h.mem ?_
 rw[← (eX h.lt).2];exact List.mem_map.mpr ⟨some k',hk,rfl⟩
theorem wk{N:aY}(S:Nat→Prop)(h0:S 0)(hc:∀ j,S j→∀ k,some k∈N.getD j []→S k):∀ t,∀ j∈aC N t,S j
 | 0=>fun j hj=>by simp[aC]at hj; rw[hj]; exact h0
 | t+1=>by
  have ih:=wk S h0 hc t;show ∀ j∈(match (aC N t)[t]? with | some r=>aH (aC N t) (N.getD r []) | none=>aC N t),S j
  cases e:(aC N t)[t]? with
  | none=>exact ih
  | some r=>
   intro j hj
   rcases(eh _ _ _).mp hj with z | z
   ·exact ih j z
   ·exact hc r (ih r (List.mem_of_getElem? e)) j z
def ao(r:Rl)(k:Nat)(y:Str):Option Nat:=if y∈r.ws then (r.rs.getD k []).getD (r.ws.idxOf y) none else some k
theorem fe{l:List Str}(nd:l.Nodup){i:Nat}(h:i<l.length):l.idxOf l[i]=i:=by
 have hm:=List.idxOf_lt_length_iff.mpr (List.getElem_mem h);exact(List.getElem_inj nd (h₀:=hm) (h₁:=h)).mp (List.getElem_idxOf hm)
theorem kH{r:Rl}(nd:r.ws.Nodup):(aR r).ws.Nodup:=by
 show ((places (ai r.rs) r.ws.length).map fun x=>r.ws.getD x default).Nodup
 have h:(places (ai r.rs) r.ws.length).Nodup:=List.Pairwise.filter _ List.nodup_range
 refine List.pairwise_map.mpr (List.Pairwise.imp_of_mem (fun {x y} hx hy hab e=>hab ?_) h)
 have hx':=ci hx;have hy':=ci hy;rw[ax hx',ax hy']at e
 exact(List.getElem_inj nd).mp e
theorem qo{r:Rl}(nd:r.ws.Nodup){x:Nat}(hx:x<r.ws.length):r.ws[x]∈(aR r).ws ↔ x∈places (ai r.rs) r.ws.length:=by
 show r.ws[x]∈((places (ai r.rs) r.ws.length).map fun x=>r.ws.getD x default) ↔ _
 constructor
 ·intro h
  obtain⟨y,hy,e⟩:=List.mem_map.mp h
  rw[ax (ci hy)]at e
  have:=(List.getElem_inj nd).mp e
  exact this ▸ hy
 ·exact fun h=>List.mem_map.mpr ⟨x,h,ax hx⟩
theorem uF{r:Rl}(ok:bj r)(nd:r.ws.Nodup){k:Nat}(h:eA r.rs k){x:Nat}(hx:x<r.ws.length):ao (aR r) (gR r.rs k) r.ws[x]=(ao r k r.ws[x]).map (gR r.rs):=by
 have hlt:=vG h
 have e1:ao r k r.ws[x]=(r.rs.getD k []).getD x none:=by
  unfold ao;rw[if_pos (List.getElem_mem hx),fe nd hx]
 rw[e1,← BA h];unfold ao
 by_cases hm:r.ws[x]∈(aR r).ws
 ·rw[if_pos hm]
  have hpl:=(qo nd hx).mp hm;obtain⟨q,hq,eq⟩:=List.mem_iff_getElem.mp hpl
  have hq':q<(aR r).ws.length:=by rw[show (aR r).ws=(places (ai r.rs) r.ws.length).map (fun x=>r.ws.getD x default) from rfl,List.length_map]; exact hq
  have ew:(aR r).ws[q]=r.ws[x]:=by
   have z:(aR r).ws[q]? = some r.ws[x]:=by
    rw[show (aR r).ws=(places (ai r.rs) r.ws.length).map (fun x=>r.ws.getD x default) from rfl,List.getElem?_map,List.getElem?_eq_getElem hq,eq]
    show some (r.ws.getD x default)=_
    rw[ax hx]
   rw[List.getElem?_eq_getElem hq']at z
   exact Option.some.inj z
  have ei:(aR r).ws.idxOf r.ws[x]=q:=by rw[← ew]; exact fe (kH nd) hq'
  rw[ei];show ((dq (ai r.rs) (places (ai r.rs) r.ws.length)).getD (gR r.rs k) []).getD q none=_
  rw[iD hlt,ax (by rw[List.length_map]; exact hq),List.getElem_map,eq]
 ·rw[if_neg hm]
  have hpl:x∉places (ai r.rs) r.ws.length:=fun z=>hm ((qo nd hx).mpr z)
  have hd:d8 (ai r.rs) x=false:=by
   cases hd:d8 (ai r.rs) x with
   | false=>rfl
   | true=>exact absurd (List.mem_filter.mpr ⟨List.mem_range.mpr hx,hd⟩) hpl
  exact(iH hd hlt).symm
theorem A5{r:Rl}(ok:bj r)(nd:r.ws.Nodup){k k':Nat}(h:k<r.rs.length)(hk:some k'∈r.rs.getD k []):∃ x,∃ hx:x<r.ws.length,ao r k r.ws[x]=some k':=by
 rw[ax h]at hk
 obtain⟨x,hx,e⟩:=List.mem_iff_getElem.mp hk
 have hl:=(ok.row _ (List.getElem_mem h)).1;refine⟨x,by omega,?_⟩
 unfold ao;rw[if_pos (List.getElem_mem _),fe nd (by omega),ax h,ax hx,e]
theorem vg{r:Rl}(ok:bj r)(nd:r.ws.Nodup){k k':Nat}(h:eA r.rs k){x:Nat}(hx:x<r.ws.length)(e:ao r k r.ws[x]=some k'):eA r.rs k':=by
 unfold ao at e;have hl:=(ok.row _ (List.getElem_mem h.lt)).1;have hrow:r.rs.getD k []=r.rs[k]'h.lt:=ax h.lt
 rw[if_pos (List.getElem_mem hx),fe nd hx,hrow,ax (by omega)]at e
 refine wU (m:=r.ws.length) ⟨ok.n0,fun x hx=>(ok.row x hx).1,fun x hx=>(ok.row x hx).2⟩ h ?_
 rw[hrow,← e]; exact List.getElem_mem _
theorem zn{x y:Str}(h:x.cps.toList=y.cps.toList):x=y:=by
 cases x; cases y
 have:=Array.ext' h
 simp_all
theorem jy:∀ (xs:List Str),sortedS xs=true→xs.Pairwise (fun a b=>a.cps.toList≤b.cps.toList)
 | [],_=>.nil
 | [x],_=>by simp
 | x::y::r,h=>by
  have h':(!ltCps y.cps.toList x.cps.toList&&sortedS (y::r))=true:=h
  rw[Bool.and_eq_true,ltCps_eq]at h'
  have h1:x.cps.toList≤y.cps.toList:=List.not_lt.mp (by simpa using h'.1)
  have ih:=jy (y::r) h'.2;refine List.pairwise_cons.mpr ⟨fun z hz=>?_,ih⟩
  rcases List.mem_cons.mp hz with rfl | hz
  ·exact h1
  ·exact List.le_trans h1 ((List.pairwise_cons.mp ih).1 z hz)
theorem fZ{xs ys:List Str}(n1:xs.Nodup)(n2:ys.Nodup)(s1:sortedS xs=true)(s2:sortedS ys=true)(h:∀ x,x∈xs ↔ x∈ys):xs=ys:=
 ((List.perm_ext_iff_of_nodup n1 n2).mpr h).eq_of_pairwise (fun a b _ _ z1 z2=>zn (List.le_antisymm z1 z2)) (jy xs s1) (jy ys s2)
theorem gm:∀ (xs:List Str),xs.Pairwise (fun a b=>a.cps.toList≤b.cps.toList)→sortedS xs=true
 | [],_=>rfl
 | [x],_=>rfl
 | x::y::r,h=>by
  obtain⟨h1,h2⟩:=List.pairwise_cons.mp h
  show (!ltCps y.cps.toList x.cps.toList&&sortedS (y::r))=true
  rw[gm (y::r) h2,ltCps_eq];have:=List.not_lt.mpr (h1 y List.mem_cons_self)
  simpa using this
structure jM (R:aY):Prop where
 rng:∀ t,aC R t=List.range (aC R t).length
 led:∀ t,t<R.length→t<(aC R t).length
theorem n_{r:Rl}(ok:bj r):jM (aR r).rs:=by
 have h:=u7 (jf ok);refine⟨fun t=>?_,fun t ht=>?_⟩
 ·rw[dW,nj h,List.length_range]
 ·rw[dW,dY]at ht
  rw[dW,nj h,List.length_range];exact om h ht
theorem rg{r:Rl}(ok:bj r):ae (aR r).rs=List.range (aR r).rs.length:=by
 have h:=u7 (jf ok);rw[dW,q_ h,dY]
abbrev Pr:=Option Nat × Option Nat
def fT(r:Rl)(o:Option Nat)(y:Str):Option Nat:=o.bind fun k=>ao r k y
def c_(a b:Rl)(p:Pr)(y:Str):Pr:=(fT a p.1 y,fT b p.2 y)
def fu(a b:Rl)(p:Pr):Prop:=(∀ k,p.1=some k→k<a.rs.length)∧∀ k,p.2=some k→k<b.rs.length
theorem dj{r:Rl}(ok:bj r){k k':Nat}{y:Str}(hk:k<r.rs.length)(e:ao r k y=some k'):k'<r.rs.length:=by
 unfold ao at e
 by_cases h:y∈r.ws
 ·rw[if_pos h,ax hk]at e
  have hx:=ok.row _ (List.getElem_mem hk);have hi:r.ws.idxOf y<(r.rs[k]).length:=by rw[hx.1]; exact List.idxOf_lt_length_iff.mpr h
  rw[ax hi]at e
  exact hx.2 k' (e ▸ List.getElem_mem hi)
 ·rw[if_neg h]at e
  cases e; exact hk
theorem p_{r:Rl}(ok:bj r){o:Option Nat}{y:Str}(ho:∀ k,o=some k→k<r.rs.length):∀ k,fT r o y=some k→k<r.rs.length:=fun k e=>by
 cases o with
 | none=>cases e
 | some j=>exact dj ok (ho j rfl) e
theorem Dk{a b:Rl}(oa:bj a)(ob:bj b){p:Pr}(h:fu a b p)(y:Str):fu a b (c_ a b p y):=⟨p_ oa h.1,p_ ob h.2⟩
theorem pV{a b:Rl}{y:Str}(ha:y∉a.ws)(hb:y∉b.ws)(p:Pr):c_ a b p y=p:=by
 obtain⟨p1,p2⟩:=p
 have e1:fT a p1 y=p1:=by
  cases p1 with
  | none=>rfl
  | some k=>show ao a k y=some k; unfold ao; rw[if_neg ha]
 have e2:fT b p2 y=p2:=by
  cases p2 with
  | none=>rfl
  | some k=>show ao b k y=some k; unfold ao; rw[if_neg hb]
 show (fT a p1 y,fT b p2 y)=_
 rw[e1,e2]
def bP(br:Pr→Bool)(o:List Pr)(t:Pr):List Pr:=if t∈o then o else if br t then o else o++[t]
def cu(a b:Rl)(us:List Str)(p:Pr):List Pr:=us.map (c_ a b p)
def aG(br:Pr→Bool)(a b:Rl)(us:List Str):Nat→List Pr
 | 0=>[(some 0,some 0)]
 | r+1=>if r<(aG br a b us r).length then (cu a b us ((aG br a b us r).getD r (none,none))).foldl (bP br) (aG br a b us r) else aG br a b us r
def bE(br:Pr→Bool)(a b:Rl)(us:List Str)(r:Nat):Pr:=(aG br a b us r).getD r (none,none)
def dk(o:List Pr)(t:Pr):Option Nat:=if t∈o then some (o.idxOf t) else none
def cv(br:Pr→Bool)(a b:Rl)(us:List Str)(r:Nat):List (Option Nat):=(cu a b us (bE br a b us r)).map (dk (aG br a b us (r+1)))
def bG(br:Pr→Bool)(a b:Rl)(us:List Str)(M:Nat):Rl:=⟨a.s,us,(List.range M).map (cv br a b us)⟩
section
variable{br:Pr→Bool}{a b:Rl}{us:List Str}
theorem xr(o:List Pr)(t:Pr):∃ x,bP br o t=o++x:=by
 unfold bP; split
 ·exact⟨[],by simp⟩
 ·split
  ·exact⟨[],by simp⟩
  ·exact⟨_,rfl⟩
theorem ff:∀ (ts o:List Pr),∃ x,ts.foldl (bP br) o=o++x
 | [],o=>⟨[],by simp⟩
 | t::ts,o=>by
  obtain⟨x,e⟩:=xr (br:=br) o t
  obtain⟨y,e2⟩:=ff ts (bP br o t)
  exact⟨x++y,by rw[List.foldl_cons,e2,e,List.append_assoc]⟩
structure eE (br:Pr→Bool) (a b:Rl) (o:List Pr):Prop where
 nd:o.Nodup
 inn:∀ t∈o,fu a b t
 nb:∀ t∈o,br t=false
theorem xI{o:List Pr}{t:Pr}(h:eE br a b o)(ht:fu a b t):eE br a b (bP br o t):=by
 unfold bP; split
 ·exact h
 ·rename_i hn
  split
  ·exact h
  ·rename_i hb
   refine⟨List.nodup_append.mpr ⟨h.nd,by simp,fun x hx y hy e=>hn (by rw[List.mem_singleton.mp hy]at e; exact e ▸ hx)⟩,fun x hx=>?_,fun x hx=>?_⟩
   ·rcases List.mem_append.mp hx with z | z
    ·exact h.inn x z
    ·rw[List.mem_singleton.mp z]; exact ht
   ·rcases List.mem_append.mp hx with z | z
    ·exact h.nb x z
    ·rw[List.mem_singleton.mp z]; simpa using hb
theorem jp:∀ (ts:List Pr) {o:List Pr},eE br a b o→(∀ t∈ts,fu a b t)→eE br a b (ts.foldl (bP br) o)
 | [],o,h,_=>h
 | t::ts,o,h,ht=>jp ts (xI h (ht t (by simp))) fun x hx=>ht x (by simp[hx])
theorem rO(oa:bj a)(ob:bj b){p:Pr}(h:fu a b p):∀ t∈cu a b us p,fu a b t:=fun t ht=>by
 obtain⟨y,_,rfl⟩:=List.mem_map.mp ht
 exact Dk oa ob h y
theorem getD_mem{o:List Pr}{r:Nat}(h:r<o.length):o.getD r (none,none)∈o:=by
 rw[ax h]; exact List.getElem_mem h
theorem eU(oa:bj a)(ob:bj b)(h0:br (some 0,some 0)=false):∀ r,eE br a b (aG br a b us r)∧1≤(aG br a b us r).length
 | 0=>⟨⟨by simp[aG],fun t ht=>by
   simp[aG]at ht
   rw[ht]; exact⟨fun k e=>by cases e; have:=oa.n0; omega,fun k e=>by cases e; have:=ob.n0; omega⟩,fun t ht=>by simp[aG]at ht; rw[ht]; exact h0⟩,by simp[aG]⟩
 | r+1=>by
  obtain⟨h,h1⟩:=eU oa ob h0 r
  unfold aG;split
  ·rename_i hr
   obtain⟨x,e⟩:=ff (br:=br) (cu a b us ((aG br a b us r).getD r (none,none))) (aG br a b us r)
   exact⟨jp _ h (rO oa ob (h.inn _ (getD_mem hr))),by rw[e,List.length_append]; omega⟩
  ·exact⟨h,h1⟩
theorem gQ(r:Nat):∀ s,∃ x,aG br a b us (r+s)=aG br a b us r++x
 | 0=>⟨[],by simp⟩
 | s+1=>by
  obtain⟨x,e⟩:=gQ r s
  show ∃ x,(if r+s<(aG br a b us (r+s)).length then _ else aG br a b us (r+s))=_
  split
  ·obtain⟨y,e2⟩:=ff (br:=br) (cu a b us ((aG br a b us (r+s)).getD (r+s) (none,none))) (aG br a b us (r+s))
   exact⟨x++y,e2.trans (by rw[e,List.append_assoc])⟩
  ·exact⟨x,e⟩
theorem jq:∀ (ts o:List Pr) {t:Pr},t∈ts→br t=false→t∈ts.foldl (bP br) o
 | t'::ts,o,t,h,hn=>by
  rcases List.mem_cons.mp h with e | h
  ·subst e
   obtain⟨x,e⟩:=ff (br:=br) ts (bP br o t)
   rw[List.foldl_cons,e];refine List.mem_append_left _ ?_
   unfold bP; split
   ·assumption
   ·rw[if_neg (by rw[hn]; decide)]; simp
  ·exact jq ts _ h hn
theorem yV{o x:List Pr}{t:Pr}(h:t∈o∨t∉o++x):dk (o++x) t=dk o t:=by
 unfold dk;rcases h with h | h
 ·rw[if_pos h,if_pos (List.mem_append_left _ h),List.idxOf_append,if_pos h]
 ·rw[if_neg h,if_neg (fun z=>h (List.mem_append_left _ z))]
structure Whole (br:Pr→Bool) (a b:Rl) (us:List Str) (M:Nat):Prop where
 oa:bj a
 ob:bj b
 b0:br (some 0,some 0)=false
 ws:∀ y,y∈us ↔ y∈a.ws∨y∈b.ws
 nd:us.Nodup
 M1:M=(aG br a b us M).length
theorem Whole.ord(h:Whole br a b us M):eE br a b (aG br a b us M):=(eU h.oa h.ob h.b0 M).1
theorem Whole.zero(h:Whole br a b us M):(aG br a b us M)[0]? = some (some 0,some 0):=by
 obtain⟨x,e⟩:=gQ (br:=br) (a:=a) (b:=b) (us:=us) 0 M
 rw[Nat.zero_add]at e
 rw[e]; rfl
theorem Whole.pos(h:Whole br a b us M):1≤M:=by rw[h.M1]; exact(eU h.oa h.ob h.b0 M).2
theorem Whole.here(h:Whole br a b us M){i:Nat}(hi:i<M):i<(aG br a b us i).length∧bE br a b us i=(aG br a b us M)[i]'(by rw[← h.M1]; exact hi):=by
 have hl:i<(aG br a b us i).length:=by
  refine Classical.byContradiction fun hn=>?_
  have hfix:∀ k,aG br a b us (i+k)=aG br a b us i:=by
   intro k
   induction k with
   | zero=>rfl
   | succ k ih=>
    show (if i+k<(aG br a b us (i+k)).length then _ else aG br a b us (i+k))=_
    rw[if_neg (by rw[ih]; omega),ih]
  have e:=hfix (M - i);rw[show i+(M - i)=M by omega]at e
  have:=h.M1
  rw[e]at this
  omega
 refine⟨hl,?_⟩
 obtain⟨x,e⟩:=gQ (br:=br) (a:=a) (b:=b) (us:=us) i (M - i)
 rw[show i+(M - i)=M by omega]at e
 unfold bE;rw[ax hl];have:(aG br a b us M)[i]? = some ((aG br a b us i)[i]):=by rw[e,List.getElem?_append_left hl,List.getElem?_eq_getElem hl]
 rw[List.getElem?_eq_getElem (by rw[← h.M1]; exact hi)]at this
 exact(Option.some.inj this).symm
theorem Whole.next(h:Whole br a b us M){i:Nat}(hi:i<M):aG br a b us (i+1)=(cu a b us (bE br a b us i)).foldl (bP br) (aG br a b us i):=by
 show (if i<(aG br a b us i).length then _ else _)=_
 rw[if_pos (h.here hi).1]; rfl
theorem Whole.num(h:Whole br a b us M){i:Nat}(hi:i<M){t:Pr}(ht:t∈cu a b us (bE br a b us i)):dk (aG br a b us (i+1)) t=if br t then none else some ((aG br a b us M).idxOf t):=by
 obtain⟨x,e⟩:=gQ (br:=br) (a:=a) (b:=b) (us:=us) (i+1) (M - (i+1))
 rw[show i+1+(M - (i+1))=M by omega]at e
 have o1:=(eU (us:=us) h.oa h.ob h.b0 (i+1)).1
 cases hb:br t with
 | true=>
  have:t∉aG br a b us (i+1):=fun z=>by have:=o1.nb t z; rw[hb]at this; cases this
  unfold dk;rw[if_neg this,if_pos rfl]
 | false=>
  have hm:t∈aG br a b us (i+1):=by rw[h.next hi]; exact jq _ _ ht hb
  rw[if_neg (by decide),e,List.idxOf_append,if_pos hm]
  unfold dk;rw[if_pos hm]
theorem Whole.closed(h:Whole br a b us M){i:Nat}(hi:i<M){y:Str}(hb:br (c_ a b ((aG br a b us M)[i]'(by rw[← h.M1]; exact hi)) y)=false):c_ a b ((aG br a b us M)[i]'(by rw[← h.M1]; exact hi)) y∈aG br a b us M:=by
 by_cases hy:y∈us
 ·obtain⟨x,e⟩:=gQ (br:=br) (a:=a) (b:=b) (us:=us) (i+1) (M - (i+1))
  rw[show i+1+(M - (i+1))=M by omega]at e
  have hm:c_ a b ((aG br a b us M)[i]'(by rw[← h.M1]; exact hi)) y∈aG br a b us (i+1):=by
   rw[h.next hi,(h.here hi).2];exact jq _ _ (List.mem_map.mpr ⟨y,hy,rfl⟩) hb
  have:=List.mem_append_left x hm
  rw[← e]at this
  exact this
 ·rw[h.ws,not_or]at hy
  rw[pV hy.1 hy.2];exact List.getElem_mem _
theorem gH(M:Nat):(bG br a b us M).rs.length=M:=by simp[bG]
theorem zB{M i:Nat}(hi:i<M):(bG br a b us M).rs.getD i []=cv br a b us i:=by
 rw[ax (by rw[gH]; exact hi)]
 simp[bG]
theorem iR(i:Nat):(cv br a b us i).length=us.length:=by unfold cv cu; simp
theorem Whole.step(h:Whole br a b us M){i:Nat}(hi:i<M)(y:Str):ao (bG br a b us M) i y=if br (c_ a b ((aG br a b us M)[i]'(by rw[← h.M1]; exact hi)) y) then none else some ((aG br a b us M).idxOf (c_ a b ((aG br a b us M)[i]'(by rw[← h.M1]; exact hi)) y)):=by
 have hM:=h.M1;unfold ao
 by_cases hy:y∈us
 ·rw[if_pos (show y∈(bG br a b us M).ws from hy),zB hi]
  have hx:us.idxOf y<us.length:=List.idxOf_lt_length_iff.mpr hy
  show (cv br a b us i).getD (us.idxOf y) none=_
  rw[ax (by rw[iR]; exact hx)]
  have e1:(cv br a b us i)[us.idxOf y]'(by rw[iR]; exact hx)=dk (aG br a b us (i+1)) (c_ a b (bE br a b us i) y):=by
   simp only[cv,cu,List.getElem_map,List.getElem_idxOf hx]
  rw[e1,h.num hi (List.mem_map.mpr ⟨y,hy,rfl⟩),(h.here hi).2]
 ·rw[if_neg (show y∉(bG br a b us M).ws from hy)]
  have hy':=hy;rw[h.ws,not_or]at hy'
  have hm:(aG br a b us M)[i]'(by omega)∈aG br a b us M:=List.getElem_mem _
  rw[pV hy'.1 hy'.2,h.ord.nb _ hm,if_neg (by decide)]
  have:=h.ord.nd.idxOf_getElem i (by omega)
  rw[this]
theorem Whole.rl(h:Whole br a b us M)(hM:M≤140)(hu:us.length≤18)(hl:∀ u∈us,u.length≤10):bj (bG br a b us M):=by
 refine⟨h.oa.s,hu,by rw[gH]; exact h.pos,by rw[gH]; exact hM,fun x hx=>?_,hl⟩
 obtain⟨i,hi,rfl⟩:=List.mem_map.mp hx
 have hi':=List.mem_range.mp hi;refine⟨iR i,fun k hk=>?_⟩
 rw[gH];unfold cv at hk;obtain⟨t,ht,e⟩:=List.mem_map.mp hk
 rw[h.num hi' ht]at e
 split at e
 ·cases e
 ·rename_i hb
  have hb':br t=false:=by simpa using hb
  cases e;obtain⟨y,hy,rfl⟩:=List.mem_map.mp ht
  rw[(h.here hi').2]at hb' ⊢
  have:=h.closed hi' hb'
  conv=>rhs; rw[h.M1]
  exact List.idxOf_lt_length_iff.mpr this
end
theorem qd{n x y x' y':Nat}(h1:y<n)(h2:y'<n)(e:x * n+y=x' * n+y'):x=x'∧y=y':=by
 have a1:(x * n+y) % n=y:=by rw[Nat.add_comm,Nat.add_mul_mod_self_right,Nat.mod_eq_of_lt h1]
 have a2:(x' * n+y') % n=y':=by rw[Nat.add_comm,Nat.add_mul_mod_self_right,Nat.mod_eq_of_lt h2]
 have ey:y=y':=by rw[← a1,← a2,e]
 subst ey;exact⟨Nat.eq_of_mul_eq_mul_right (by omega) (show x * n=x' * n by omega),rfl⟩
def jt:Option Nat→Nat
 | none=>0
 | some k=>k+1
theorem jG{o:Option Nat}{n:Nat}(h:∀ k,o=some k→k<n):jt o<n+1:=by
 cases o with
 | none=>exact Nat.succ_pos _
 | some k=>exact Nat.succ_lt_succ (h k rfl)
theorem oR{o o':Option Nat}(h:jt o=jt o'):o=o':=by
 cases o <;> cases o' <;> simp[jt]at h ⊢ <;> omega
def qS(n:Nat)(p:Pr):Nat:=jt p.1 * (n+1)+jt p.2
theorem rP{a b:Rl}{p:Pr}(h:fu a b p):qS b.rs.length p<(a.rs.length+1) * (b.rs.length+1):=by
 have h1:=jG h.1;have h2:=jG h.2;unfold qS;generalize jt p.1=x at h1;generalize jt p.2=y at h2
 calc x * (b.rs.length+1)+y<x * (b.rs.length+1)+(b.rs.length+1):=by omega
  _=(x+1) * (b.rs.length+1):=by rw[Nat.add_mul,Nat.one_mul]
  _≤(a.rs.length+1) * (b.rs.length+1):=Nat.mul_le_mul_right _ (by omega)
theorem yI{a b:Rl}{p q:Pr}(h:fu a b p)(h':fu a b q)(e:qS b.rs.length p=qS b.rs.length q):p=q:=by
 obtain⟨e1,e2⟩:=qd (jG h.2) (jG h'.2) e
 exact Prod.ext (oR e1) (oR e2)
structure Alike (a b:Rl) (E:Nat→Nat→Prop):Prop where
 z:E 0 0
 lt:∀ i j,E i j→i<a.rs.length∧j<b.rs.length
 st:∀ i j y,E i j→(ao a i y=none∧ao b j y=none)∨∃ i' j',ao a i y=some i'∧ao b j y=some j'∧E i' j'
theorem Alike.symm{a b:Rl}{E:Nat→Nat→Prop}(h:Alike a b E):Alike b a (fun j i=>E i j):=
 ⟨h.z,fun i j e=>(h.lt j i e).symm,fun i j y e=>by
  rcases h.st j i y e with ⟨h1,h2⟩ | ⟨i',j',h1,h2,h3⟩
  ·exact .inl ⟨h2,h1⟩
  ·exact .inr ⟨j',i',h2,h1,h3⟩⟩
structure fC (A:Rl):Prop where
 ok:bj A
 nd:A.ws.Nodup
 so:sortedS A.ws=true
 ks:ae A.rs=List.range A.rs.length
 io:jM A.rs
 ds:∀ y∈A.ws,∃ i,i<A.rs.length∧ao A i y≠some i
theorem Alike.total{a b:Rl}{E:Nat→Nat→Prop}(h:Alike a b E)(A:fC a):∀ i,i<a.rs.length→∃ j,E i j:=by
 intro i hi
 have hm:i∈aC a.rs i:=by rw[A.io.rng i]; exact List.mem_range.mpr (A.io.led i hi)
 refine wk (N:=a.rs) (fun i=>∃ j,E i j) ⟨0,h.z⟩ ?_ i i hm
 rintro k ⟨j,e⟩ k' hk
 obtain⟨x,hx,ex⟩:=A5 A.ok A.nd (h.lt k j e).1 hk
 rcases h.st k j _ e with ⟨h1,_⟩ | ⟨i',j',h1,_,h3⟩
 ·rw[ex]at h1; cases h1
 ·rw[ex]at h1; cases h1; exact⟨j',h3⟩
theorem eT{A:Rl}(ok:bj A)(nd:A.ws.Nodup){u p:Nat}(hu:u<A.rs.length)(hp:p<A.ws.length):(A.rs.getD u [])[p]? = some (ao A u A.ws[p]):=by
 have hl:=(ok.row _ (List.getElem_mem hu)).1;unfold ao;rw[if_pos (List.getElem_mem hp),fe nd hp,ax hu,ax (by omega),List.getElem?_eq_getElem (by omega)]
theorem Alike.inj{a b:Rl}{E:Nat→Nat→Prop}(h:Alike a b E)(B:fC b){i j j':Nat}(e1:E i j)(e2:E i j'):j=j':=by
 have key:=gA (R:=b.rs) (fun u v=>∃ i,E i u∧E i v) (fun u v huv hu hv p=>by
  obtain⟨i,e1,e2⟩:=huv
  have lu:=(B.ok.row _ (List.getElem_mem hu)).1;have lv:=(B.ok.row _ (List.getElem_mem hv)).1
  by_cases hp:p<b.ws.length
  ·rw[eT B.ok B.nd hu hp,eT B.ok B.nd hv hp]
   rcases h.st i u b.ws[p] e1 with ⟨h1,h2⟩ | ⟨i',x,h1,h2,h3⟩
   ·rcases h.st i v b.ws[p] e2 with ⟨g1,g2⟩ | ⟨i2,y,g1,g2,g3⟩
    ·rw[h2,g2]; exact .inr (.inl ⟨rfl,rfl⟩)
    ·rw[h1]at g1; cases g1
   ·rcases h.st i v b.ws[p] e2 with ⟨g1,g2⟩ | ⟨i2,y,g1,g2,g3⟩
    ·rw[h1]at g1; cases g1
    ·rw[h1]at g1; cases g1
     rw[h2,g2];exact .inr (.inr ⟨x,y,rfl,rfl,⟨i',h3,g3⟩,(h.lt _ _ h3).2,(h.lt _ _ g3).2⟩)
  ·refine .inl ⟨?_,?_⟩
   ·rw[ax hu,List.getElem?_eq_none_iff]; omega
   ·rw[ax hv,List.getElem?_eq_none_iff]; omega)
 have hj:=(h.lt _ _ e1).2;have hj':=(h.lt _ _ e2).2;have e:(ae b.rs)[j]? = (ae b.rs)[j']?:=key _ j j' ⟨i,e1,e2⟩ hj hj'
 rw[B.ks,List.getElem?_range hj,List.getElem?_range hj']at e
 exact Option.some.inj e
theorem Alike.word{a b:Rl}{E:Nat→Nat→Prop}(h:Alike a b E)(A:fC a)(B:fC b){y:Str}(hy:y∈a.ws):y∈b.ws:=by
 obtain⟨i,hi,hn⟩:=A.ds y hy
 obtain⟨j,e⟩:=h.total A i hi
 refine Classical.byContradiction fun hb=>?_
 have e2:ao b j y=some j:=by unfold ao; rw[if_neg hb]
 rcases h.st i j y e with ⟨_,h2⟩ | ⟨i',j',h1,h2,h3⟩
 ·rw[e2]at h2; cases h2
 ·rw[e2]at h2; cases h2
  have:i'=i:=h.symm.inj A h3 e
  rw[this]at h1
  exact hn h1
inductive Beside2 (E:Nat→Nat→Prop):List Nat→List Nat→Prop where
 | nil:Beside2 E [] []
 | cons {a b:Nat} {s t:List Nat}:E a b→Beside2 E s t→Beside2 E (a::s) (b::t)
theorem Beside2.len{E:Nat→Nat→Prop}{s t:List Nat}(h:Beside2 E s t):s.length=t.length:=by
 induction h with
 | nil=>rfl
 | cons _ _ ih=>simp[ih]
theorem Beside2.get{E:Nat→Nat→Prop}{s t:List Nat}(h:Beside2 E s t):∀ (i a b:Nat),s[i]? = some a→t[i]? = some b→E a b:=by
 induction h with
 | nil=>intro i a b e; simp at e
 | cons h1 _ ih=>
  intro i a b e1 e2
  cases i with
  | zero=>simp at e1 e2; rw[← e1,← e2]; exact h1
  | succ i=>exact ih i a b (by simpa using e1) (by simpa using e2)
theorem Beside2.snoc{E:Nat→Nat→Prop}{s t:List Nat}{a b:Nat}(h:Beside2 E s t)(e:E a b):Beside2 E (s++[a]) (t++[b]):=by
 induction h with
 | nil=>exact .cons e .nil
 | cons h1 _ ih=>exact .cons h1 ih
theorem Beside2.mem{E:Nat→Nat→Prop}(inj:∀ i j j',E i j→E i j'→j=j')(inj':∀ i i' j,E i j→E i' j→i=i'){s t:List Nat}(h:Beside2 E s t){a b:Nat}(e:E a b):a∈s ↔ b∈t:=by
 induction h with
 | nil=>simp
 | @cons x y _ _ h1 _ ih=>
  rw[List.mem_cons,List.mem_cons,ih]
  constructor
  ·rintro(z | z)
   ·subst z; exact .inl (inj _ _ _ e h1)
   ·exact .inr z
  ·rintro(z | z)
   ·subst z; exact .inl (inj' _ _ _ e h1)
   ·exact .inr z
theorem Beside2.grow{E:Nat→Nat→Prop}(inj:∀ i j j',E i j→E i j'→j=j')(inj':∀ i i' j,E i j→E i' j→i=i'):∀ (x y:List (Option Nat)) {s t:List Nat},Beside2 E s t→x.length=y.length→(∀ p:Nat,p<x.length→(x[p]? = some none∧y[p]? = some none)∨∃ u v,x[p]? = some (some u)∧y[p]? = some (some v)∧E u v)→Beside2 E (aH s x) (aH t y)
 | [],[],s,t,h,_,_=>h
 | [],_::_,_,_,_,hl,_=>by simp at hl
 | _::_,[],_,_,_,hl,_=>by simp at hl
 | o::x,o'::y,s,t,h,hl,hp=>by
  have hr:∀ p:Nat,p<x.length→(x[p]? = some none∧y[p]? = some none)∨∃ u v,x[p]? = some (some u)∧y[p]? = some (some v)∧E u v:=fun p hp'=>by
   have:=hp (p+1) (by simpa using hp')
   simpa using this
  have hl':x.length=y.length:=by simpa using hl
  rcases hp 0 (by simp) with ⟨h1,h2⟩ | ⟨u,v,h1,h2,h3⟩
  ·have e1:o=none:=by simpa using h1
   have e2:o'=none:=by simpa using h2
   subst e1 e2;exact Beside2.grow inj inj' x y h hl' hr
  ·have e1:o=some u:=by simpa using h1
   have e2:o'=some v:=by simpa using h2
   subst e1 e2;show Beside2 E (aH (if u∈s then s else s++[u]) x) (aH (if v∈t then t else t++[v]) y)
   refine Beside2.grow inj inj' x y ?_ hl' hr
   by_cases c:u∈s
   ·rw[if_pos c,if_pos ((h.mem inj inj' h3).mp c)]; exact h
   ·rw[if_neg c,if_neg (fun z=>c ((h.mem inj inj' h3).mpr z))]; exact h.snoc h3
theorem Alike.one{A B:Rl}{E:Nat→Nat→Prop}(h:Alike A B E)(hs:A.s=B.s)(LA:fC A)(LB:fC B):A=B:=by
 have inj:∀ i j j',E i j→E i j'→j=j':=fun i j j' e1 e2=>h.inj LB e1 e2
 have inj':∀ i i' j,E i j→E i' j→i=i':=fun i i' j e1 e2=>h.symm.inj LA e1 e2
 have hw:A.ws=B.ws:=fZ LA.nd LB.nd LA.so LB.so fun y=>⟨h.word LA LB,h.symm.word LB LA⟩
 have row:∀ i j,E i j→∀ p:Nat,p<A.ws.length→((A.rs.getD i [])[p]? = some none∧(B.rs.getD j [])[p]? = some none)∨∃ u v,(A.rs.getD i [])[p]? = some (some u)∧(B.rs.getD j [])[p]? = some (some v)∧E u v:=fun i j e p hp=>by
  have hp':p<B.ws.length:=by rw[← hw]; exact hp
  have hww:B.ws[p]=A.ws[p]:=by simp only[hw]
  rw[eT LA.ok LA.nd (h.lt _ _ e).1 hp,eT LB.ok LB.nd (h.lt _ _ e).2 hp',hww];rcases h.st i j A.ws[p] e with ⟨h1,h2⟩ | ⟨i',j',h1,h2,h3⟩
  ·exact .inl ⟨by rw[h1],by rw[h2]⟩
  ·exact .inr ⟨i',j',by rw[h1],by rw[h2],h3⟩
 have rl:∀ i,i<A.rs.length→(A.rs.getD i []).length=A.ws.length:=fun i hi=>by rw[ax hi]; exact(LA.ok.row _ (List.getElem_mem hi)).1
 have rl':∀ i,i<B.rs.length→(B.rs.getD i []).length=A.ws.length:=fun i hi=>by rw[ax hi,hw]; exact(LB.ok.row _ (List.getElem_mem hi)).1
 have hb:∀ t,Beside2 E (aC A.rs t) (aC B.rs t):=by
  intro t
  induction t with
  | zero=>exact .cons h.z .nil
  | succ t ih=>
   show Beside2 E (match (aC A.rs t)[t]? with | some r=>aH (aC A.rs t) (A.rs.getD r []) | none=>aC A.rs t) (match (aC B.rs t)[t]? with | some r=>aH (aC B.rs t) (B.rs.getD r []) | none=>aC B.rs t)
   cases e:(aC A.rs t)[t]? with
   | none=>
    have:(aC B.rs t)[t]? = none:=by rw[List.getElem?_eq_none_iff]at e ⊢; rw[← ih.len]; exact e
    rw[this]; exact ih
   | some r=>
    have hlt:t<(aC B.rs t).length:=by rw[← ih.len]; exact(List.getElem?_eq_some_iff.mp e).1
    rw[List.getElem?_eq_getElem hlt];have er:=ih.get t r _ e (List.getElem?_eq_getElem hlt);have hlt2:=h.lt _ _ er;exact Beside2.grow inj inj' _ _ ih (by rw[rl _ hlt2.1,rl' _ hlt2.2]) (fun p hp=>row _ _ er p (by rw[← rl _ hlt2.1]; exact hp))
 have same:∀ i,i<A.rs.length→E i i:=fun i hi=>by
  have h1:=LA.io.led i hi;have h2:=hb i;have hl:=h2.len;refine h2.get i i i ?_ ?_
  ·rw[LA.io.rng i,List.getElem?_range h1]
  ·rw[LB.io.rng i,List.getElem?_range (by omega)]
 have same':∀ i,i<B.rs.length→E i i:=fun i hi=>by
  have h1:=LB.io.led i hi;have h2:=hb i;have hl:=h2.len;refine h2.get i i i ?_ ?_
  ·rw[LA.io.rng i,List.getElem?_range (by omega)]
  ·rw[LB.io.rng i,List.getElem?_range h1]
 have hlen:A.rs.length=B.rs.length:=by
  refine Nat.le_antisymm ?_ ?_
  ·refine Nat.le_of_not_lt fun c=>?_
   have:=(h.lt _ _ (same B.rs.length c)).2; omega
  ·refine Nat.le_of_not_lt fun c=>?_
   have:=(h.lt _ _ (same' A.rs.length c)).1; omega
 have hrs:A.rs=B.rs:=by
  refine List.ext_getElem hlen fun i h1 h2=>?_
  have e1:A.rs.getD i []=A.rs[i]:=ax h1
  have e2:B.rs.getD i []=B.rs[i]:=ax h2
  refine List.ext_getElem? fun p=>?_
  rw[← e1,← e2]
  by_cases hp:p<A.ws.length
  ·rcases row i i (same i h1) p hp with ⟨z1,z2⟩ | ⟨u,v,z1,z2,z3⟩
   ·rw[z1,z2]
   ·rw[z1,z2,inj _ _ _ (same u (h.lt _ _ z3).1) z3]
  ·rw[List.getElem?_eq_none (by rw[rl i h1]; omega),List.getElem?_eq_none (by rw[rl' i h2]; omega)]
 cases A; cases B
 simp only at hs hw hrs
 subst hs hw hrs
 rfl
theorem nI{r:Rl}{y:Str}(h:y∈(aR r).ws):y∈r.ws:=by
 have h':y∈((places (ai r.rs) r.ws.length).map fun x=>r.ws.getD x default):=h
 obtain⟨x,hx,e⟩:=List.mem_map.mp h'
 rw[ax (ci hx)]at e
 rw[← e]; exact List.getElem_mem _
theorem rA{r:Rl}(ok:bj r)(nd:r.ws.Nodup){k:Nat}(h:eA r.rs k)(y:Str):ao (aR r) (gR r.rs k) y=(ao r k y).map (gR r.rs):=by
 by_cases c:y∈r.ws
 ·obtain⟨x,hx,e⟩:=List.mem_iff_getElem.mp c
  subst e;exact uF ok nd h hx
 ·have c':y∉(aR r).ws:=fun z=>c (nI z)
  unfold ao;rw[if_neg c,if_neg c']; rfl
theorem q9{r:Rl}(ok:bj r)(nd:r.ws.Nodup){k k':Nat}(h:eA r.rs k){y:Str}(e:ao r k y=some k'):eA r.rs k':=by
 by_cases c:y∈r.ws
 ·obtain⟨x,hx,e2⟩:=List.mem_iff_getElem.mp c
  subst e2;exact vg ok nd h hx e
 ·unfold ao at e
  rw[if_neg c]at e
  cases e; exact h
theorem u9{r:Rl}(ok:bj r)(nd:r.ws.Nodup):∀ y∈(aR r).ws,∃ i,i<(aR r).rs.length∧ao (aR r) i y≠some i:=by
 intro y hy
 have nl:=kH nd;have okl:=oM ok;obtain⟨q,hq,e⟩:=List.mem_iff_getElem.mp hy
 have hq':q<(places (ai r.rs) r.ws.length).length:=by rw[← xn]; exact hq
 have hm:=List.getElem_mem hq';have hd:=(List.mem_filter.mp hm).2;unfold d8 at hd;rw[List.any_eq_true]at hd
 obtain⟨i,hi,hd⟩:=hd
 have hi':=List.mem_range.mp hi;have hd':=of_decide_eq_true hd;have hil:i<(aR r).rs.length:=by rw[dW,dY]; exact hi'
 refine⟨i,hil,fun z=>hd' ?_⟩
 have h1:=eT okl nl hil hq;rw[e,z,dW,iD hi',List.getElem?_map,List.getElem?_eq_getElem hq']at h1
 exact Option.some.inj h1
theorem pE{r:Rl}(so:sortedS r.ws=true):sortedS (aR r).ws=true:=by
 refine gm _ ?_
 show ((places (ai r.rs) r.ws.length).map fun x=>r.ws.getD x default).Pairwise _
 have hp:(places (ai r.rs) r.ws.length).Pairwise (· < ·):=List.Pairwise.filter _ List.pairwise_lt_range
 refine List.pairwise_map.mpr (List.Pairwise.imp_of_mem (fun {x y} hx hy hab=>?_) hp)
 rw[ax (ci hx),ax (ci hy)];exact List.pairwise_iff_getElem.mp (jy _ so) x y (ci hx) (ci hy) hab
theorem v3{r:Rl}(ok:bj r)(nd:r.ws.Nodup)(so:sortedS r.ws=true):fC (aR r):=
 ⟨oM ok,kH nd,pE so,rg ok,n_ ok,u9 ok nd⟩
def gT(r r':Rl)(ws:List Str):Prop:=ws.Nodup∧(∀ y,y∈ws ↔ y∈r.ws∨y∈r'.ws)∧ws.length≤36
def vN:Sp:=fun vs H Q _=>∃ (p q:Addr) (r r':Rl),vs=[.ref p,.ref q]∧RuleAt H p r∧RuleAt H q r'∧bj r∧bj r'∧∀ (l:Addr) (H':Hp) (ws:List Str),Same H H'→H l=none→H' l=some (.lst (ws.map V.str))→gT r r' ws→sortedS ws=true→Q (.ref l) H'
section
variable{P:Program}{w:World}{K:PySem.W.Frag}{mg:Str→Option Value}{base:Heap}
theorem Bm(D:DefAt K mg "words_of_both" bO) (z_sorted:mg "sorted" = none) (z_set:mg "set" = none):Cal P w K mg base 1 "words_of_both" ["one", "other"] vN:=by
 refine D.cal (k:=0) kB (fun _ _ _ _ _ _ us hl=>match us,hl with | [_,_],_=>rfl) (fun vs H Q E h=>by obtain⟨p,q,r,r',rfl,_⟩:=h; rfl) (fun f cdv A outer s H vs Q E hr h=>?_)
 obtain⟨p,q,r,r',rfl,⟨pw,pr,as,h1,h2,h3⟩,⟨qw,qr,bs,g1,g2,g3⟩,ok,ok',hq⟩:=h
 have nw:=ok.nw;have nw':=ok'.nw;refine⟨_,(aj (aN (bF (rb P w hr) z_sorted de (aa (aE (Av P w) (iz (kQ K P w hr) z_set ww (aa (aP (bi K) (pv 0) af (fun _ _=>rfl)) ac)) (iz (kQ K P w hr) z_set ww (aa (aP (bi K) (pv 1) af (fun _ _=>rfl)) ac))) ac)))),?_⟩
 walk_at "rd1";refine⟨_,_,.inr (SqT.of h1),aZ (j:=1) rfl,?_⟩
 refine⟨pw,r.ws,rfl,SqL.of h2,by omega,fun a ds ha hd hda hdl=>?_⟩
 generalize hH1z:upd H a _=H1
 have s1:=aw hH1z ha;have e1:=aS hH1z;walk_at "rd1";refine⟨_,_,.inr (SqT.of (s1 _ _ g1)),aZ (j:=1) rfl,?_⟩
 refine⟨qw,r'.ws,rfl,SqL.of (s1 _ _ g2),by omega,fun b es hb he hea hel=>?_⟩
 have s2:=bh hb (dA P w b es);have e2:upd H1 b (dA P w b es) b=some (dA P w b es):=ar
 have hab:a≠b:=aF e1 hb
 generalize upd H1 b (dA P w b es)=H2 at s2 e2 ⊢;refine⟨a,b,ds,es,rfl,rfl,hab,s2 _ _ e1,e2,by omega,fun c us hc hu hua hul=>?_⟩
 generalize hH3z:upd H2 c _=H3
 have s3:=aw hH3z hc;have e3:=aS hH3z;walk_at "rd1";refine⟨c,us,rfl,e3,by omega,fun l ts hl hp hs=>?_⟩
 have s123:=(s1.trans s2).trans s3;exact hq l _ ts (s123.trans (bh hl _)) (s123.free hl) ar ⟨hp.nodup_iff.mpr hu,fun y=>by rw[hp.mem_iff,hua,hda,hea],by rw[hp.length_eq]; omega⟩ hs
end
def PlAt(ws:List Str)(i:Nat)(kvs:List (bD × V)):Prop:=kvs.length≤i∧∀ y,aX kvs (.inr y)=if y∈ws.take i then some (V.int (ws.idxOf y:Nat)) else none
theorem PlAt.put{ws:List Str}{i:Nat}{kvs:List (bD × V)}(nd:ws.Nodup)(h:PlAt ws i kvs)(hi:i<ws.length):PlAt ws (i+1) (cI kvs (.inr ws[i]) (.int (i:Int))):=by
 refine⟨by have:=dR kvs (.inr ws[i]) (.int (i:Int)); have:=h.1; omega,fun y=>?_⟩
 have ht:∀ z,z∈ws.take (i+1) ↔ z∈ws.take i∨z=ws[i]:=fun z=>by
  rw[List.take_add_one,List.getElem?_eq_getElem hi,List.mem_append];show _∨z∈[ws[i]] ↔ _
  rw[List.mem_singleton]
 rw[iQ,h.2 y]
 by_cases e:y=ws[i]
 ·rw[if_pos (by rw[e]),if_pos ((ht y).mpr (.inr e)),e,fe nd hi]
 ·rw[if_neg (fun z=>e (Sum.inr.inj z))]
  by_cases m:y∈ws.take i
  ·rw[if_pos m,if_pos ((ht y).mpr (.inl m))]
  ·rw[if_neg m,if_neg (fun z=>((ht y).mp z).elim m e)]
def Ak:Sp:=fun vs H Q _=>∃ (wl pd ra:Addr) (ws:List Str) (kvs:List (bD × V)) (r:Rl) (k:Nat),vs=[.ref wl,.ref pd,.int (k:Int),.ref ra]∧H wl=some (.lst (ws.map V.str))∧ws.length≤36∧H pd=some (.dK kvs)∧PlAt r.ws r.ws.length kvs∧bj r∧k<r.rs.length∧H ra=some (.lst ((r.rs.getD k []).map ak))∧
 ∀ (L:Addr) (H':Hp),Same H H'→H L=none→H' L=some (.lst ((ws.map (ao r k)).map ak))→Q (.ref L) H'
section
variable{P:Program}{w:World}{K:PySem.W.Frag}{mg:Str→Option Value}{base:Heap}
theorem Dg(D:DefAt K mg "ways_for" bN):Cal P w K mg base 1 "ways_for" ["words", "places", "number", "room"] Ak:=by
 refine D.cal (k:=0) rF (fun _ _ _ _ _ _ us hl=>match us,hl with | [_,_,_,_],_=>rfl) (fun vs H Q E h=>by obtain⟨_,_,_,_,_,_,_,rfl,_⟩:=h; rfl) (fun f cdv A outer s H vs Q E hr h=>?_)
 obtain⟨wl,pd,ra,ws,kvs,r,k,rfl,hw,hn,hd,hP,ok,hk,hra,q⟩:=h
 refine⟨_,(aj (aN (ee (CompSc.to (fsc:=(defScope bN)) (N:=["words", "places", "number", "room"]) (N0:=["words", "places", "number", "room"]) (T:=["word"]) ⟨by decide +kernel,by decide +kernel,by decide +kernel,by decide +kernel,by decide +kernel,by decide +kernel,by decide +kernel⟩ rfl rfl) rfl (b_ K (pv 0)) (fun _ _ _ _=>(bA 4 (show (["words", "places", "number", "room", "word"]:List Str).Nodup from by decide +kernel) (hx:=(gf (defScope bN) (by decide +kernel))) (hf:=i5 (defScope bN) (by decide +kernel)))) (cS (show (["words", "places", "number", "room"]:List Str).length≤4 from by decide)) (fun _ _ _ _=>du) (fun _ _ _ _=>(qN (aM (Cj hr) (pv 4 (hv:=(cx (defScope bN) (by decide +kernel)))) (pv 1 (hv:=(cx (defScope bN) (by decide +kernel)))) (by with_unfolding_all rfl)) (aP (bi K) (pv 3 (hv:=(cx (defScope bN) (by decide +kernel)))) (aP (BP K) (pv 1 (hv:=(cx (defScope bN) (by decide +kernel)))) (pv 4 (hv:=(cx (defScope bN) (by decide +kernel)))) (fun _ _=>rfl)) (fun _ _=>rfl)) (pv 2 (hv:=(cx (defScope bN) (by decide +kernel))))))))),?_⟩
 walk_at "rd1";refine⟨⟨_,SqL.of hw⟩,fun L hL=>?_⟩
 refine cW (xs:=ws.map V.str) (fun i ys H'=>Same H H'∧H' L=some (.lst ys)∧ys=((ws.take i).map (ao r k)).map ak) ⟨bh hL _,ar,rfl⟩ (fun i ys H' _ h=>SqL.of (h.1 _ _ hw)) ?_ ?_
 ·rintro i ys H' v hv hi ⟨sm,hl,rfl⟩
  rw[List.length_map]at hi
  rw[List.getElem?_map,List.getElem?_eq_getElem hi]at hv
  cases hv
  have next:∀ {v:V},v=ak (ao r k ws[i])→gs (ws.map V.str).length i (fun i ys H'=>Same H H'∧H' L=some (.lst ys)∧ys=((ws.take i).map (ao r k)).map ak) L (((ws.take i).map (ao r k)).map ak) v H':=fun {v} e=>by
   refine fS (by rw[List.length_map]; exact hi) (by simp; omega) (by rw[List.length_map]; exact cJ (by omega)) hl ⟨sm.upd hL _,ar,?_⟩
   rw[e,List.take_add_one,List.getElem?_eq_getElem hi,List.map_append,List.map_append]; rfl
  walk_at "rd1";refine⟨pd,kvs,.inr ws[i],rfl,rfl,sm _ _ hd,?_⟩
  rw[hP.2,List.take_length]
  by_cases hm:ws[i]∈r.ws
  ·rw[if_pos hm]
   have hx:=ok.row _ (List.getElem_mem hk);have hj:r.ws.idxOf ws[i]<(r.rs.getD k []).length:=by rw[ax hk,hx.1]; exact List.idxOf_lt_length_iff.mpr hm
   refine⟨_,rfl,bg (fun _=>?_) (fun c=>absurd rfl c)⟩
   refine .inr ⟨pd,kvs,.inr ws[i],_,rfl,rfl,sm _ _ hd,by rw[hP.2,List.take_length,if_pos hm],?_⟩
   walk_at "rd1";refine⟨_,_,.inl (SqL.of (sm _ _ hra)),aZ (v:=ak ((r.rs.getD k []).getD (r.ws.idxOf ws[i]) none)) (by rw[List.getElem?_map,List.getElem?_eq_getElem hj,ax hj]; rfl),?_⟩
   exact next (by unfold ao; rw[if_pos hm])
  ·rw[if_neg hm]
   refine⟨_,rfl,bg (fun c=>absurd c (by decide)) (fun _=>?_)⟩
   exact next (by unfold ao; rw[if_neg hm]; rfl)
 ·rintro ys H' ⟨sm,hl,rfl⟩
  rw[List.length_map,List.take_length]at hl
  exact q L H' sm hL hl
end
def WaysAt(P:Program)(w:World)(H:Hp)(d:Addr)(r:Rl)(ws:List Str):Prop:=∃ kvs,H d=some (jR P w d kvs)∧(∀ k,k<r.rs.length→∃ a,aX kvs (some (k:Int))=some (.ref a)∧H a=some (.lst ((ws.map (ao r k)).map ak)))∧∃ a,aX kvs none=some (.ref a)∧H a=some (.lst (ws.map fun _=>V.non))
theorem WaysAt.mono{P:Program}{w:World}{H H':Hp}{d:Addr}{r:Rl}{ws:List Str}(h:WaysAt P w H d r ws)(sm:Same H H'):WaysAt P w H' d r ws:=by
 obtain⟨kvs,h1,h2,a,h3,h4⟩:=h
 exact⟨kvs,sm _ _ h1,fun k hk=>by obtain⟨a,e1,e2⟩:=h2 k hk; exact⟨a,e1,sm _ _ e2⟩,a,h3,sm _ _ h4⟩
def oO(P:Program)(w:World):Sp:=fun vs H Q _=>∃ (p wl:Addr) (r:Rl) (ws:List Str),vs=[.ref p,.ref wl]∧RuleAt H p r∧bj r∧r.ws.Nodup∧H wl=some (.lst (ws.map V.str))∧ws.length≤36∧∀ (d:Addr) (H':Hp),Same H H'→WaysAt P w H' d r ws→Q (.ref d) H'
section
variable{P:Program}{w:World}{K:PySem.W.Frag}{mg:Str→Option Value}{base:Heap}
theorem vB(D:DefAt K mg "ways_by_room" aI) (z_enumerate:mg "enumerate" = none) (c_ways_for:Cal P w K mg base 1 "ways_for" ["words", "places", "number", "room"] Ak):Cal P w K mg base 2 "ways_by_room" ["rule", "words"] (oO P w):=by
 refine D.cal (k:=1) sc_ways_by_room (fun _ _ _ _ _ _ us hl=>match us,hl with | [_,_],_=>rfl) (fun vs H Q E h=>by obtain⟨_,_,_,_,rfl,_⟩:=h; rfl) (fun f cdv A outer s H vs Q E hr h=>?_)
 obtain⟨p,wl,r,ws,rfl,⟨pw,pr,as,h1,h2,h3⟩,ok,nd,hw,hn,q⟩:=h
 have nw:=ok.nw;have n1:=ok.n1;have n0:=ok.n0
 refine⟨_,(ah (aA 2 sc_ways_by_room.nd qk)
   (ah (cB PassesOwn.never rfl (fE K Eo z_enumerate (aa (aP (bi K) (pv 0) af (fun _ _=>rfl)) ac)) (gD K (n:=2) (cQ (bA 3 sc_ways_by_room.nd) (cQ (bA 4 sc_ways_by_room.nd) gI))) (aj (fg (pv 3) (fq (pv 2) (pv 4) (ua hr)))))
   (ah (aA 5 sc_ways_by_room.nd (ve P w))
   (ah (cB PassesOwn.never rfl (fE K Eo z_enumerate (aa (aP (bi K) (pv 0) af (fun _ _=>rfl)) ac)) (gD K (n:=2) (cQ (bA 6 sc_ways_by_room.nd) (cQ (bA 7 sc_ways_by_room.nd) gI))) (aj (fg (aL c_ways_for hr (aa (pv 1) (aa (pv 2) (aa (pv 6) (aa (pv 7) ac))))) (fq (pv 5) (pv 6) (tF P w)))))
   (ah (fg (ee (CompSc.to (fsc:=(defScope aI)) (N:=["rule", "words", "places", "place", "word", "ways", "number", "room"]) (N0:=["rule", "words", "places", "place", "word'", "ways", "number", "room"]) (T:=["word"]) ⟨by decide +kernel,by decide +kernel,by decide +kernel,by decide +kernel,by decide +kernel,by decide +kernel,by decide +kernel⟩ rfl rfl) rfl (b_ K (pv 1)) (fun _ _ _ _=>(bA 8 (show (["rule", "words", "places", "place", "word'", "ways", "number", "room", "word"]:List Str).Nodup from by decide +kernel) (hx:=(gf (defScope aI) (by decide +kernel))) (hf:=i5 (defScope aI) (by decide +kernel)))) (cS (show (["rule", "words", "places", "place", "word", "ways", "number", "room"]:List Str).length≤8 from by decide)) (fun _ _ _ _=>du) (fun _ _ _ _=>bZ)) (fq (pv 5) bZ (tF P w)))
   (aj (aN (pv 5)))))))),?_⟩
 walk_at "rd1";refine fun pd hpd=>?_
 generalize hH1z:upd H pd _=H1
 have s1:=aw hH1z hpd;have e1:=aS hH1z;walk_at "nx";refine⟨_,_,.inr (SqT.of (s1 _ _ h1)),aZ (j:=1) rfl,?_⟩
 walk_at "rd1";refine⟨⟨_,s1 _ _ h2⟩,?_⟩
 refine fW (xs:=r.ws.map V.str) (fun i σ H'=>∃ (kvs:List (bD × V)) (o3 o4:Option V),σ=[some (.ref p),some (.ref wl),some (.ref pd),o3,o4,none,none,none]∧Same H H'∧H' pd=some (.dK kvs)∧PlAt r.ws i kvs)
  ⟨[],none,none,rfl,s1,e1,Nat.le_refl _,fun y=>by simp[yE]⟩ (fun i σ H' _ h=>by obtain⟨_,_,_,_,sm,_⟩:=h; exact SqL.of (sm _ _ h2)) ?_ ?_
 ·rintro i v t σ H' hv ⟨kvs,o3,o4,rfl,sm,hd,hP⟩ ht
  have hi:i<r.ws.length:=by have:=(List.getElem?_eq_some_iff.mp hv).1; simpa using this
  rw[List.getElem?_map,List.getElem?_eq_getElem hi]at hv
  cases hv;generalize hH2z:upd H' t _=H2
  have st:=aw hH2z ht;have et:=aS hH2z;walk_at "rd1";refine⟨t,_,rfl,SqT.of et,rfl,?_⟩
  walk_at "rd1";have hl:=hP.1;refine⟨pd,kvs,.inr r.ws[i],rfl,rfl,st _ _ hd,cA (by omega),?_⟩
  exact⟨_,_,_,rfl,(sm.trans st).upd hpd _,ar,hP.put nd hi⟩
 rintro σ H2 ⟨kvs,o3,o4,rfl,s2,hd2,hP⟩
 rw[List.length_map]at hP
 walk_at "nx";refine fun dd hdd=>?_
 generalize hH3z:upd H2 dd _=H3
 have s3:=aw hH3z hdd;have e3:=aS hH3z;have s03:=s2.trans s3;have hddH:H dd=none:=s2.free hdd
 have hdp:dd≠pd:=Ne.symm (aF hd2 hdd)
 walk_at "nx";refine⟨_,_,.inr (SqT.of (s03 _ _ h1)),aZ (j:=2) rfl,?_⟩
 walk_at "rd1";have hal:=h3.2.1;refine⟨⟨_,(h3.mono s03).1⟩,?_⟩
 refine fW (xs:=as.map V.ref) (fun i σ H'=>∃ (kvs2:List (Option Int × V)) (o6 o7:Option V),σ=[some (.ref p),some (.ref wl),some (.ref pd),o3,o4,some (.ref dd),o6,o7]∧Same H H'∧H' pd=some (.dK kvs)∧H' dd=some (jR P w dd kvs2)∧kvs2.length≤i∧∀ k,k<i→∃ a,aX kvs2 (some (k:Int))=some (.ref a)∧a≠dd∧H' a=some (.lst ((ws.map (ao r k)).map ak)))
  ⟨[],none,none,rfl,s03,s3 _ _ hd2,e3,Nat.le_refl _,fun k hk=>absurd hk (Nat.not_lt_zero _)⟩ (fun i σ H' _ h=>by obtain⟨_,_,_,_,sm,_⟩:=h; exact SqL.of (h3.mono sm).1) ?_ ?_
 ·rintro i v t σ H' hv ⟨kvs2,o6,o7,rfl,sm,hd,hdd',hl,hk⟩ ht
  have hia:i<as.length:=by have:=(List.getElem?_eq_some_iff.mp hv).1; simpa using this
  have hi:i<r.rs.length:=by omega
  rw[List.getElem?_map,List.getElem?_eq_getElem hia]at hv
  cases hv;have hrow:=h3.2.2 i _ _ (List.getElem?_eq_getElem hia) (List.getElem?_eq_getElem hi);generalize hH4z:upd H' t _=H4
  have st:=aw hH4z ht;have et:=aS hH4z;have sm4:=sm.trans st;walk_at "rd1";refine⟨t,_,rfl,SqT.of et,rfl,?_⟩
  walk_at "rd1";refine⟨wl,pd,as[i],ws,kvs,r,i,rfl,sm4 _ _ hw,hn,st _ _ hd,hP,ok,hi,by rw[ax hi]; exact sm4 _ _ hrow,fun L H5 s5 hL hL5=>?_⟩
  walk_at "rd1";have hdd5:=s5 _ _ (st _ _ hdd');have nL:L≠dd:=Ne.symm (aF (st _ _ hdd') hL)
  refine⟨dd,some (i:Int),kvs2,rfl,rfl,hdd5,cA (by omega),?_⟩
  refine⟨cI kvs2 (some (i:Int)) (.ref L),_,_,rfl,(sm4.trans s5).upd hddH _,by rw[am (Ne.symm hdp)]; exact s5 _ _ (st _ _ hd),ar,by have:=dR kvs2 (some (i:Int)) (.ref L); omega,fun k hk'=>?_⟩
  rw[iQ]
  by_cases e:k=i
  ·subst e
   exact⟨L,by rw[if_pos rfl],nL,by rw[am nL]; exact hL5⟩
  ·obtain⟨a,e1,e2,e3⟩:=hk k (by omega)
   exact⟨a,by rw[if_neg (fun z=>e (by have:=Option.some.inj z; omega))]; exact e1,e2,by rw[am e2]; exact s5 _ _ (st _ _ e3)⟩
 rintro σ H4 ⟨kvs2,o6,o7,rfl,sm4,hd4,hdd4,hl4,hk4⟩
 rw[List.length_map,hal]at hl4 hk4
 walk_at "nx";refine⟨⟨_,SqL.of (sm4 _ _ hw)⟩,fun L hL=>?_⟩
 refine cW (xs:=ws.map V.str) (fun i ys H'=>Same H4 H'∧H' L=some (.lst ys)∧ys=(ws.take i).map fun _=>V.non) ⟨bh hL _,ar,rfl⟩ (fun i ys H' _ h=>SqL.of (h.1 _ _ (sm4 _ _ hw))) ?_ ?_
 ·rintro i ys H' v hv hi ⟨sm,hl,rfl⟩
  rw[List.length_map]at hi
  rw[List.getElem?_map,List.getElem?_eq_getElem hi]at hv
  cases hv;walk_at "rd1";refine fS (by rw[List.length_map]; exact hi) (by simp; omega) (by rw[List.length_map]; exact cJ (by omega)) hl ⟨sm.upd hL _,ar,?_⟩
  rw[List.take_add_one,List.getElem?_eq_getElem hi,List.map_append]; rfl
 rintro ys H5 ⟨s5,hl5,rfl⟩
 rw[List.length_map,List.take_length]at hl5
 have nL:L≠dd:=Ne.symm (aF hdd4 hL)
 walk_at "rd1";refine⟨dd,none,kvs2,rfl,rfl,s5 _ _ hdd4,cA (by omega),?_⟩
 walk_at "nx";refine q dd _ ((sm4.trans s5).upd hddH _) ⟨_,ar,fun k hk=>?_,L,by rw[iQ,if_pos rfl],by rw[am nL]; exact hl5⟩
 obtain⟨a,e1,e2,e3⟩:=hk4 k hk
 exact⟨a,by rw[iQ,if_neg (fun z=>nomatch z)]; exact e1,by rw[am e2]; exact s5 _ _ e3⟩
end
theorem WaysAt.look{P:Program}{w:World}{H:Hp}{d:Addr}{r:Rl}{ws:List Str}(h:WaysAt P w H d r ws):∃ kvs,H d=some (jR P w d kvs)∧∀ o:Option Nat,(∀ k,o=some k→k<r.rs.length)→∃ a,aX kvs (o.map fun k:Nat=>(k:Int))=some (.ref a)∧H a=some (.lst ((ws.map (fT r o)).map ak)):=by
 obtain⟨kvs,h1,h2,a,h3,h4⟩:=h
 refine⟨kvs,h1,fun o ho=>?_⟩
 cases o with
 | none=>
  refine⟨a,h3,?_⟩
  rw[h4,List.map_map]; rfl
 | some k=>exact h2 k (ho k rfl)
def PairsAt(H:Hp)(l:Addr)(ts:List Addr)(ps:List Pr):Prop:=H l=some (.lst (ts.map V.ref))∧ts.length=ps.length∧∀ (j:Nat) t p,ts[j]? = some t→ps[j]? = some p→H t=some (.tup [ak p.1,ak p.2])
theorem PairsAt.mono{H H':Hp}{l:Addr}{ts:List Addr}{ps:List Pr}(h:PairsAt H l ts ps)(sm:Same H H'):PairsAt H' l ts ps:=⟨sm _ _ h.1,h.2.1,fun j t p e1 e2=>sm _ _ (h.2.2 j t p e1 e2)⟩
def sB(P:Program)(w:World):Sp:=fun vs H Q _=>∃ (d d' t:Addr) (r r':Rl) (ws:List Str) (p:Pr),vs=[.ref d,.ref d',.ref t]∧WaysAt P w H d r ws∧WaysAt P w H d' r' ws∧ws.length≤36∧H t=some (.tup [ak p.1,ak p.2])∧fu r r' p∧∀ (l:Addr) (H':Hp) (ts:List Addr),Same H H'→H l=none→PairsAt H' l ts (cu r r' ws p)→Q (.ref l) H'
theorem lq(o:Option Nat):ak o=cT (o.map fun k:Nat=>(k:Int)):=by cases o <;> rfl
section
variable{P:Program}{w:World}{K:PySem.W.Frag}{mg:Str→Option Value}{base:Heap}
theorem zy(D:DefAt K mg "pairs_behind" bK) (z_list:mg "list" = none) (z_zip:mg "zip" = none):Cal P w K mg base 1 "pairs_behind" ["ones", "others", "pair"] (sB P w):=by
 refine D.cal (k:=0) kU (fun _ _ _ _ _ _ us hl=>match us,hl with | [_,_,_],_=>rfl) (fun vs H Q E h=>by obtain⟨_,_,_,_,_,_,_,rfl,_⟩:=h; rfl) (fun f cdv A outer s H vs Q E hr h=>?_)
 obtain⟨d,d',t,r,r',ws,p,rfl,hW,hW',hn,ht,hi,q⟩:=h
 obtain⟨kvs,h1,h2⟩:=hW.look
 obtain⟨kvs',g1,g2⟩:=hW'.look
 obtain⟨a,a1,a2⟩:=h2 p.1 hi.1
 obtain⟨b,b1,b2⟩:=g2 p.2 hi.2
 refine⟨_,(aj (aN (uJ K hr Hk z_list HB z_zip (aa (aP (wf P w) (pv 0) (aP (bi K) (pv 2) af (fun _ _=>rfl)) (fun _ _=>rfl)) (aa (aP (wf P w) (pv 1) (aP (bi K) (pv 2) af (fun _ _=>rfl)) (fun _ _=>rfl)) ac))))),?_⟩
 walk_at "rd1";unfold zR;walk_at "rd1";refine⟨_,_,.inr (SqT.of ht),jU,?_⟩
 refine⟨d,_,kvs,_,rfl,lq p.1,h1,a1,?_⟩
 refine⟨_,_,.inr (SqT.of ht),aZ (j:=1) rfl,?_⟩
 refine⟨d',_,kvs',_,rfl,lq p.2,g1,b1,?_⟩
 walk_at "rd1";refine⟨a,b,_,_,rfl,SqL.of a2,SqL.of b2,by simp,by simp; omega,fun l ts H2 s2 hl hl2 htl hts=>?_⟩
 simp only[List.length_map]at htl
 refine q l H2 ts s2 hl ⟨hl2,by unfold cu; rw[List.length_map]; exact htl,fun k u pp e1 e2=>?_⟩
 obtain⟨x,y,ex,ey,hu,_⟩:=hts k u e1
 have hk:k<ws.length:=by have:=(List.getElem?_eq_some_iff.mp e1).1; omega
 unfold cu at e2;simp only[List.getElem?_map,List.getElem?_eq_getElem hk]at ex ey e2
 cases ex; cases ey; cases e2
 exact hu
end
def fA(p:Pr):List (Option Int):=[p.1.map fun k:Nat=>(k:Int),p.2.map fun k:Nat=>(k:Int)]
theorem oZ{o o':Option Nat}(h:(o.map fun k:Nat=>(k:Int))=o'.map fun k:Nat=>(k:Int)):o=o':=by
 cases o <;> cases o' <;> simp at h ⊢ <;> omega
theorem kj{p q:Pr}(h:fA p=fA q):p=q:=by
 have h':[p.1.map fun k:Nat=>(k:Int),p.2.map fun k:Nat=>(k:Int)]=[q.1.map fun k:Nat=>(k:Int),q.2.map fun k:Nat=>(k:Int)]:=h
 have e1:=(List.cons.inj h').1;have e2:=(List.cons.inj (List.cons.inj h').2).1;exact Prod.ext (oZ e1) (oZ e2)
theorem lc{H:Hp}{t:Addr}{p:Pr}(h:H t=some (.tup [ak p.1,ak p.2])):KeyO H (fA p) t:=by
 show H t=some (.tup ((fA p).map cT))
 rw[h];show _=some (HO.tup [cT _,cT _])
 rw[lq,lq]
def NumP(kvs:List (cC × V))(o:List Pr):Prop:=kvs.length=o.length∧(∀ t∈o,aX kvs (fA t)=some (V.int (o.idxOf t:Nat)))∧∀ k,(∀ t∈o,k≠fA t)→aX kvs k=none
theorem NumP.snoc{kvs:List (cC × V)}{o:List Pr}{t:Pr}(h:NumP kvs o)(ht:t∉o):aX kvs (fA t)=none∧NumP (kvs++[(fA t,V.int (o.length:Int))]) (o++[t]):=by
 obtain⟨h1,h2,h3⟩:=h
 have hn:aX kvs (fA t)=none:=h3 _ fun t' ht' e=>ht (by rw[kj e]; exact ht')
 refine⟨hn,by simp[h1],fun t' ht'=>?_,fun k hk=>?_⟩
 ·rw[h9 _ _ _ _ hn]
  rcases List.mem_append.mp ht' with z | z
  ·rw[if_neg (fun e=>by have:=kj e; subst this; exact ht z),h2 t' z,List.idxOf_append,if_pos z]
  ·rw[List.mem_singleton.mp z,if_pos rfl,List.idxOf_append,if_neg ht]; simp
 ·rw[h9 _ _ _ _ hn,if_neg (hk t (by simp))]
  exact h3 k fun t' ht'=>hk t' (by simp[ht'])
theorem NumP.zero(t:Pr):NumP [(fA t,V.int (0:Int))] [t]:=by
 refine⟨rfl,fun t' ht'=>?_,fun k hk=>?_⟩
 ·rw[List.mem_singleton.mp ht',cP rfl]; simp
 ·rw[cU (fun e=>hk t (by simp) e.symm)]; rfl
theorem NumP.look{kvs:List (cC × V)}{o:List Pr}(h:NumP kvs o)(t:Pr):(aX kvs (fA t)).getD .non=ak (dk o t):=by
 unfold dk
 by_cases c:t∈o
 ·rw[if_pos c,h.2.1 _ c]; rfl
 ·rw[if_neg c,h.2.2 _ fun t' ht' e=>c (by rw[kj e]; exact ht')]; rfl
def OrdAt(H:Hp)(p:Addr)(o:List Pr):Prop:=∃ ts:List Addr,PairsAt H p ts o
theorem OrdAt.mono{H H':Hp}{p:Addr}{o:List Pr}(h:OrdAt H p o)(sm:Same H H'):OrdAt H' p o:=let ⟨ts,h⟩:=h; ⟨ts,h.mono sm⟩
theorem OrdAt.other{H:Hp}{p c:Addr}{o:List Pr}{u:HO}(h:OrdAt H p o)(hc:p≠c)(ht:∀ xs,H c≠some (.tup xs)):OrdAt (upd H c u) p o:=by
 obtain⟨ts,h1,h2,h3⟩:=h
 refine⟨ts,by rw[am hc]; exact h1,h2,fun i a t e1 e2=>?_⟩
 have e:=h3 i a t e1 e2;rw[am (fun z=>by subst z; exact ht _ e)]; exact e
theorem OrdAt.push{H:Hp}{p a:Addr}{o:List Pr}{t:Pr}{ts:List Addr}(h1:H p=some (.lst (ts.map V.ref)))(h2:ts.length=o.length)(h3:∀ (i:Nat) a t,ts[i]? = some a→o[i]? = some t→H a=some (.tup [ak t.1,ak t.2]))(e:H a=some (.tup [ak t.1,ak t.2])):OrdAt (upd H p (.lst (ts.map V.ref++[.ref a]))) p (o++[t]):=by
 refine⟨ts++[a],by rw[ar]; simp,by simp[h2],fun i a' t' e1 e2=>?_⟩
 have np:∀ {b xs},H b=some (.tup xs)→b≠p:=fun e z=>by rw[z,h1]at e; cases e
 by_cases hi:i<ts.length
 ·rw[List.getElem?_append_left hi]at e1
  rw[List.getElem?_append_left (by omega)]at e2
  have z:=h3 i a' t' e1 e2;rw[am (np z)]; exact z
 ·have hi':i=ts.length:=by have:=(List.getElem?_eq_some_iff.mp e1).1; simp at this; omega
  subst hi';rw[List.getElem?_append_right (Nat.le_refl _)]at e1
  rw[h2,List.getElem?_append_right (Nat.le_refl _)]at e2
  simp at e1 e2
  subst e1 e2;rw[am (np e)]; exact e
theorem RoomsAs.other{H:Hp}{p c:Addr}{rs:List (List (Option Nat))}{as:List Addr}{u:HO}(h:RoomsAs H p rs as)(hc:p≠c)(ha:c∉as):RoomsAs (upd H c u) p rs as:=by
 obtain⟨h1,h2,h3⟩:=h
 refine⟨by rw[am hc]; exact h1,h2,fun i a x e1 e2=>?_⟩
 rw[am (fun z=>by subst z; exact ha (List.mem_of_getElem? e1))]; exact h3 i a x e1 e2
theorem RoomsAs.push{H:Hp}{p a:Addr}{rs:List (List (Option Nat))}{as:List Addr}{x:List (Option Nat)}(h:RoomsAs H p rs as)(hp:p∉as)(ha:p≠a)(e:H a=some (.lst (x.map ak))):RoomsAs (upd H p (.lst (as.map V.ref++[.ref a]))) p (rs++[x]) (as++[a]):=by
 obtain⟨h1,h2,h3⟩:=h
 refine⟨by rw[ar]; simp,by simp[h2],fun i a' x' e1 e2=>?_⟩
 by_cases hi:i<as.length
 ·rw[List.getElem?_append_left hi]at e1
  rw[List.getElem?_append_left (by omega)]at e2
  rw[am (fun z=>by subst z; exact hp (List.mem_of_getElem? e1))]
  exact h3 i a' x' e1 e2
 ·have hi':i=as.length:=by have:=(List.getElem?_eq_some_iff.mp e1).1; simp at this; omega
  subst hi';rw[List.getElem?_append_right (Nat.le_refl _)]at e1
  rw[h2,List.getElem?_append_right (Nat.le_refl _)]at e2
  simp at e1 e2
  subst e1 e2;rw[am ha.symm]; exact e
theorem kJ{P:Program}{w:World}{H:Hp}{a c:Addr}{kvs:List (cC × V)}{xs:List V}{o:HO}(h:DO P w H a kvs)(hc:H c=some (.lst xs))(hne:a≠c):DO P w (upd H c o) a kvs:=by
 obtain⟨ys,h1,h2,h3,h4⟩:=h
 exact⟨ys,by rw[am hne]; exact h1,h2,h3,Paired.imp' (fun p q z=>⟨z.1,z.2.1.mono fun d zs e=>by rw[am (fun z=>by subst z; rw[hc]at e; cases e)]; exact e,z.2.2⟩) h4⟩
theorem fc{P:Program}{w:World}{H:Hp}{a c:Addr}{kvs:List (cC × V)}{xs:List V}(h:DO P w H a kvs)(hc:H c=some (.lst xs)):a≠c:=by
 obtain⟨ys,h1,_⟩:=h
 rintro rfl
 rw[h1]at hc; cases hc
theorem sU{P:Program}{w:World}{H:Hp}{a:Addr}{kvs:List (cC × V)}(h:DO P w H a kvs):∀ xs,H a≠some (.tup xs):=fun xs z=>by
 obtain⟨ys,h1,_⟩:=h
 rw[h1]at z; cases z
def fI(br:Pr→Bool):Sp:=fun vs H Q _=>∃ (t:Addr) (p:Pr),vs=[.ref t]∧H t=some (.tup [ak p.1,ak p.2])∧Q (.bl (br p)) H
def vX(P:Program)(w:World)(K:PySem.W.Frag)(mg:Str→Option Value)(base:Heap):Sp:=fun vs H Q _=>∃ (p q f:Addr) (a b:Rl) (br:Pr→Bool),vs=[.ref p,.ref q,.ref f]∧RuleAt H p a∧RuleAt H q b∧bj a∧bj b∧a.ws.Nodup∧b.ws.Nodup∧tZ P w K mg base 1 f ["pair"] (fI br)∧br (some 0,some 0)=false∧(∀ o,eE br a b o→o.length≤140)∧
 ∀ (t:Addr) (H':Hp) (us:List Str) (M:Nat),Same H H'→gT a b us→sortedS us=true→M≤140→M=(aG br a b us M).length→RuleAt H' t (bG br a b us M)→Q (.ref t) H'
section
variable{P:Program}{w:World}{K:PySem.W.Frag}{mg:Str→Option Value}{base:Heap}
theorem jr{D:db}{H3:Hp}{p q fb wl d1 d2 op mp rp rl tt:Addr}{v9:V}{t:Pr}{kv:List (cC × V)}{o:List Pr}{X:List V}(ht:H3 tt=some (.tup [ak t.1,ak t.2]))(hM:DO P w H3 mp kv)(hN:NumP kv o)(hrl:H3 rl=some (.lst X))(hX:X.length≤1000)
  (hq:D.nx [some (.ref p),some (.ref q),some (.ref fb),some (.ref wl),some (.ref d1),some (.ref d2),some (.ref op),some (.ref mp),some (.ref rp),some v9,some (.ref rl),some (.ref tt)] (upd H3 rl (.lst (X++[ak (dk o t)])))) :
  qK (ub (zN K "list" jz (lZ 10) (uf (lH P w (lZ 7) (lZ 11)) yz))) D [some (.ref p),some (.ref q),some (.ref fb),some (.ref wl),some (.ref d1),some (.ref d2),some (.ref op),some (.ref mp),some (.ref rp),some v9,some (.ref rl),some (.ref tt)] H3:=by
 walk_at "nx";rw[xO];walk_at "rd1";refine⟨⟨_,SqL.of hrl⟩,mp,kv,rfl,hM,tt,_,kv,rfl,hM,lc ht,?_⟩
 rw[hN.look];exact⟨_,hrl,cA (by omega),hq⟩
theorem AF(D:DefAt K mg "rule_of_pairs" av) (z_len:mg "len" = none) (c_words_of_both:Cal P w K mg base 1 "words_of_both" ["one", "other"] vN) (c_ways_by_room:Cal P w K mg base 2 "ways_by_room" ["rule", "words"] (oO P w)) (c_pairs_behind:Cal P w K mg base 1 "pairs_behind" ["ones", "others", "pair"] (sB P w)):Cal P w K mg base 3 "rule_of_pairs" ["one", "other", "breaks"] (vX P w K mg base):=by
 refine D.cal sc_rule_of_pairs (fun _ _ _ _ _ _ us hl=>match us,hl with | [_,_,_],_=>rfl) (fun vs H Q E h=>by obtain⟨_,_,_,_,_,_,rfl,_⟩:=h; rfl) (fun f cdv A outer s H vs Q E hr h=>?_)
 obtain⟨p,q,fb,a,b,br,rfl,hA,hB,oa,ob,na,nb,cf_breaks,b0,h60,fin⟩:=h
 refine⟨_,(ah (aA 3 sc_rule_of_pairs.nd (aL c_words_of_both hr (aa (pv 0) (aa (pv 1) ac))))
   (ah (aA 4 sc_rule_of_pairs.nd (aL c_ways_by_room hr (aa (pv 0) (aa (pv 3) ac))))
   (ah (aA 5 sc_rule_of_pairs.nd (aL c_ways_by_room hr (aa (pv 1) (aa (pv 3) ac))))
   (ah (aA 6 sc_rule_of_pairs.nd (bw (aa (dP (aa af (aa af ac))) ac)))
   (ah (aA 7 sc_rule_of_pairs.nd ((ul P w hr) (dP (aa af (aa af ac))) af))
   (ah (aA 8 sc_rule_of_pairs.nd (bw ac))
   (ah (kE PassesOwn.never (aM lr (bF (cz K) z_len dB (aa (pv 8) ac)) (bF (cz K) z_len dB (aa (pv 6) ac)) (aV _)) (ah (aA 9 sc_rule_of_pairs.nd (aP (bi K) (pv 6) (bF (cz K) z_len dB (aa (pv 8) ac)) (fun _ _=>rfl)))
   (ah (aA 10 sc_rule_of_pairs.nd (bw ac))
   (ah (cB PassesOwn.never rfl (b_ K (aL c_pairs_behind hr (aa (pv 4) (aa (pv 5) (aa (pv 9) ac))))) (bA 11 sc_rule_of_pairs.nd) (ah (bT (PW.pt' (jc (aM (uk P w hr) (pv 11) (pv 7) (by with_unfolding_all rfl)) (il (pI (eG (Bj cf_breaks hr (aa (pv 11) ac) (i:=2))))))) (ah (fg (bF (cz K) z_len dB (aa (pv 6) ac)) (fq (pv 7) (pv 11) (Bx P w hr)))
   (aj (cM (dc K PySem.F.plainAttrs_list PySem.F.slot_list_append PySem.F.type_list_append cq (pv 6) (aa (pv 11) ac))))) bv)
   (aj (cM (dc K PySem.F.plainAttrs_list PySem.F.slot_list_append PySem.F.type_list_append cq (pv 10) (aa (yu P w hr (pv 7) (pv 11) ⟨rfl,rfl,rfl,rfl⟩) ac))))))
   (aj (cM (dc K PySem.F.plainAttrs_list PySem.F.slot_list_append PySem.F.type_list_append cq (pv 8) (aa (pv 10) ac))))))))
   (aj (aN (dP (aa (aP (bi K) (pv 0) af (fun _ _=>rfl)) (aa (pv 3) (aa (pv 8) ac))))))))))))),?_⟩
 walk_at "rd1";refine⟨p,q,a,b,rfl,hA,hB,oa,ob,fun wl H1 us s1 hwl hus hBo hso=>?_⟩
 obtain⟨hnd,hmem,h32⟩:=id hBo
 walk_at "nx";refine⟨p,wl,a,us,rfl,hA.mono s1,oa,na,hus,h32,fun d1 H2 s2 hW1=>?_⟩
 walk_at "nx";refine⟨q,wl,b,us,rfl,(hB.mono s1).mono s2,ob,nb,s2 _ _ hus,h32,fun d2 H3 s3 hW2=>?_⟩
 have hW1':=hW1.mono s3;have s03:=(s1.trans s2).trans s3;walk_at "nx";refine⟨by decide,fun z1 hz1=>?_⟩
 generalize hH4z:upd H3 z1 _=H4
 have s4:=aw hH4z hz1;have e4:H4 z1=some (.tup [ak (some 0),ak (some 0)]):=aS hH4z
 refine⟨by decide,fun op hop=>?_⟩
 generalize hH5z:upd H4 op _=H5
 have s5:=aw hH5z hop;have e5:H5 op=some (.lst ([z1].map V.ref)):=aS hH5z
 walk_at "nx";rw[uI];refine fun mp hmp u hu=>?_
 have s6:=bh hmp u;generalize upd H5 mp u=H6 at s6 hu ⊢;walk_at "rd1";refine⟨by decide,fun z2 hz2=>?_⟩
 generalize hH7z:upd H6 z2 _=H7
 have s7:=aw hH7z hz2;have e7:H7 z2=some (.tup [ak (some 0),ak (some 0)]):=aS hH7z
 refine⟨z2,fA (some 0,some 0),rfl,lc (p:=(some 0,some 0)) e7,hu.mono s7,fun u' hu'=>?_⟩
 have s35:Same H3 H5:=s4.trans s5
 have hmp0:H3 mp=none:=s35.free hmp
 have s38:Same H3 (upd H7 mp u'):=((s35.trans s6).trans s7).upd hmp0 u'
 have e58:H7 op=some (.lst ([z1].map V.ref)):=(s6.trans s7) _ _ e5
 have hu7:=hu.mono s7
 have o8:OrdAt (upd H7 mp u') op (aG br a b us 0):=by
  refine OrdAt.other (H:=H7) ⟨[z1],e58,rfl,fun i x t w1 w2=>?_⟩ (Ne.symm (fc hu7 e58)) (sU hu7)
  match i,w1,w2 with
  | 0,w1,w2=>cases w1; cases w2; exact((s5.trans s6).trans s7) _ _ e4
  | i+1,w1,w2=>simp at w1
 generalize upd H7 mp u'=H8 at s38 o8 hu' ⊢;walk_at "nx";refine⟨by decide,fun rp hrp=>?_⟩
 generalize hH9z:upd H8 rp _=H9
 have s9:=aw hH9z hrp;have e9:H9 rp=some (.lst (([]:List Addr).map V.ref)):=aS hH9z
 have hop0:H3 op=none:=s4.free hop
 have hrp0:H3 rp=none:=s38.free hrp
 obtain⟨_,oo,_⟩:=id o8
 have nor:op≠rp:=aF oo hrp
 walk_at "nx"
 refine⟨fun mm σ H'=>∃ (r:Nat) (as:List Addr) (kvs:List (cC × V)) (o9 o10 o11:Option V),mm=141 - r∧σ=[some (.ref p),some (.ref q),some (.ref fb),some (.ref wl),some (.ref d1),some (.ref d2),some (.ref op),some (.ref mp),some (.ref rp),o9,o10,o11]∧Same H3 H'∧OrdAt H' op (aG br a b us r)∧DO P w H' mp kvs∧NumP kvs (aG br a b us r)∧RoomsAs H' rp ((List.range r).map (cv br a b us)) as∧(op::rp::as).Nodup∧r≤(aG br a b us r).length,
  ⟨_,0,[],_,none,none,none,rfl,rfl,s38.trans s9,o8.mono s9,hu'.mono s9,NumP.zero _,⟨e9,rfl,fun i a x z=>by simp at z⟩,by simp[nor],by simp[aG]⟩,?_⟩
 rintro mm σ H' ⟨r,as,kvs,o9,o10,o11,em,rfl,sm,hO,hM,hN,hA',nd,hrl⟩
 obtain⟨hord,fl1⟩:=eU (us:=us) oa ob b0 r
 have hlen:=h60 _ hord;obtain⟨ts,t1,t2,t3⟩:=id hO
 walk_at "rd1";have hAl:as.length=r:=by have:=hA'.2.1; simpa using this
 refine⟨_,.inl (SqL.of hA'.1),_,.inl (SqL.of t1),?_⟩
 rw[List.length_map,List.length_map,hAl,t2]
 by_cases hend:r<(aG br a b us r).length
 rotate_left
 ·refine bg (fun c=>absurd (by omega) hend) (fun _=>?_)
  obtain⟨pw,pr,ras,r1,r2,r3⟩:=(hA.mono s03).mono sm
  walk_at "nx";refine⟨_,_,.inr (SqT.of r1),jU,?_⟩
  refine⟨by decide,fun t ht=>?_⟩
  have s':=bh ht (.tup [V.int a.s,V.ref wl,V.ref rp]);exact fin t _ us r (s03.trans (sm.trans s')) hBo hso (by omega) (by omega) ⟨wl,rp,as,ar,(sm.trans s') _ _ ((s2.trans s3) _ _ hus),hA'.mono s'⟩
 refine bg (fun _=>?_) (fun c=>absurd (by omega) c)
 have hin:fu a b (bE br a b us r):=hord.inn _ (getD_mem hend)
 have hgr:(aG br a b us r)[r]? = some (bE br a b us r):=by unfold bE; rw[List.getD_eq_getElem?_getD,List.getElem?_eq_getElem hend]; rfl
 obtain⟨tx,htx⟩ : ∃ tx,ts[r]? = some tx:=⟨ts[r],List.getElem?_eq_getElem (by omega)⟩
 have etx:=t3 r tx _ htx hgr;refine⟨_,fun _ _ h=>h,_,.inl (SqL.of hA'.1),_,_,.inl (SqL.of t1),aZ (v:=.ref tx) (by rw[List.length_map,hAl,List.getElem?_map,htx]; rfl),?_⟩
 walk_at "nx";refine⟨by decide,fun rl hrl'=>?_⟩
 generalize hH10z:upd H' rl _=H10
 have s10:=aw hH10z hrl';have e10:=aS hH10z;have sm10:=sm.trans s10;have hrl0:H3 rl=none:=sm.free hrl'
 walk_at "nx";refine⟨d1,d2,tx,a,b,us,bE br a b us r,rfl,hW1'.mono sm10,hW2.mono sm10,h32,s10 _ _ etx,hin,fun bl H11 ys s11 hbl hP=>?_⟩
 obtain⟨eb,hyl,hys⟩:=hP
 have hbl0:H3 bl=none:=sm10.free hbl
 have hylen:ys.length=us.length:=by rw[hyl]; unfold cu; simp
 have s1011:=s10.trans s11
 have nd11:(op::rp::rl::as).Nodup:=by
  have pm:(op::rp::rl::as).Perm (rl::op::rp::as):=by
   rw[List.perm_iff_count];intro x
   simp only[List.count_cons]
   omega
  refine pm.nodup_iff.mpr (List.nodup_cons.mpr ⟨fun z=>?_,nd⟩)
  have:∃ o,H' rl=some o:=by
   simp only[List.mem_cons]at z
   rcases z with z | z | z
   ·exact⟨_,by rw[z]; exact t1⟩
   ·exact⟨_,by rw[z]; exact hA'.1⟩
   ·obtain⟨i,hi,e⟩:=List.mem_iff_getElem.mp z
    exact⟨_,hA'.2.2 i rl _ (by rw[List.getElem?_eq_getElem hi,e]) (List.getElem?_eq_getElem (by rw[← hA'.2.1]; exact hi))⟩
  obtain⟨o,e⟩:=this
  rw[hrl']at e; cases e
 have hys':∀ (k:Nat) t (hk:k<us.length),ys[k]? = some t→H11 t=some (.tup [ak (c_ a b (bE br a b us r) us[k]).1,ak (c_ a b (bE br a b us r) us[k]).2]):=fun k t hk e=>hys k t _ e (by unfold cu; rw[List.getElem?_map,List.getElem?_eq_getElem hk]; rfl)
 have nbo:bl≠op:=Ne.symm (aF (s10 _ _ t1) hbl)
 have nbr:bl≠rl:=Ne.symm (aF e10 hbl)
 have nbm:bl≠mp:=by obtain⟨zs,z,_⟩:=hM; exact Ne.symm (aF (s10 _ _ z) hbl)
 have hrlen:(cv br a b us r).length=us.length:=iR r
 walk_at "rd1";refine⟨⟨_,SqL.of eb⟩,?_⟩
 refine dL (xs:=ys.map V.ref) (fun k σ H''=>∃ (kv2:List (cC × V)) (o11:Option V),σ=[some (.ref p),some (.ref q),some (.ref fb),some (.ref wl),some (.ref d1),some (.ref d2),some (.ref op),some (.ref mp),some (.ref rp),some (.ref tx),some (.ref rl),o11]∧Same H3 H''∧H'' bl=some (.lst (ys.map V.ref))∧(∀ (k:Nat) t (hk:k<us.length),ys[k]? = some t→H'' t=some (.tup [ak (c_ a b (bE br a b us r) us[k]).1,ak (c_ a b (bE br a b us r) us[k]).2]))∧OrdAt H'' op (((cu a b us (bE br a b us r)).take k).foldl (bP br) (aG br a b us r))∧DO P w H'' mp kv2∧NumP kv2 (((cu a b us (bE br a b us r)).take k).foldl (bP br) (aG br a b us r))∧RoomsAs H'' rp ((List.range r).map (cv br a b us)) as∧H'' rl=some (.lst (((cv br a b us r).take k).map ak)))
  ⟨kvs,o11,rfl,sm10.trans s11,eb,hys',hO.mono s1011,hM.mono s1011,hN,hA'.mono s1011,s11 _ _ e10⟩ (fun k σ H'' _ h=>by obtain⟨_,_,_,_,z,_⟩:=h; exact SqL.of z) ?_ ?_
 ·rintro k v σ H'' hv ⟨kv2,o11,rfl,sx,ebx,hyx,hOx,hMx,hNx,hAx,erl⟩
  have hk:k<ys.length:=by have:=(List.getElem?_eq_some_iff.mp hv).1; simpa using this
  have hku:k<us.length:=by omega
  rw[List.getElem?_map,List.getElem?_eq_getElem hk]at hv
  cases hv;have ety:=hyx k ys[k] hku (List.getElem?_eq_getElem hk)
  have hst:((cu a b us (bE br a b us r)).take (k+1)).foldl (bP br) (aG br a b us r)=bP br (((cu a b us (bE br a b us r)).take k).foldl (bP br) (aG br a b us r)) (c_ a b (bE br a b us r) us[k]):=by
   rw[List.take_add_one,List.foldl_append];unfold cu;rw[List.getElem?_map,List.getElem?_eq_getElem hku]
   rfl
  have pord:eE br a b (((cu a b us (bE br a b us r)).take k).foldl (bP br) (aG br a b us r)):=jp _ hord fun t ht=>rO oa ob hin t (List.mem_of_mem_take ht)
  have plen:=h60 _ pord
  have hOr:aG br a b us (r+1)=((cu a b us (bE br a b us r)).drop (k+1)).foldl (bP br) (((cu a b us (bE br a b us r)).take (k+1)).foldl (bP br) (aG br a b us r)):=by
   rw[← List.foldl_append,List.take_append_drop];show (if r<(aG br a b us r).length then _ else _)=_
   rw[if_pos hend]; rfl
  have ord1:=(eU (us:=us) oa ob b0 (r+1)).1
  have hrow:(cv br a b us r)[k]? = some (dk (bP br (((cu a b us (bE br a b us r)).take k).foldl (bP br) (aG br a b us r)) (c_ a b (bE br a b us r) us[k])) (c_ a b (bE br a b us r) us[k])):=by
   obtain⟨x,e⟩:=ff (br:=br) ((cu a b us (bE br a b us r)).drop (k+1)) (((cu a b us (bE br a b us r)).take (k+1)).foldl (bP br) (aG br a b us r))
   rw[← hOr,hst]at e
   have e0:(cv br a b us r)[k]? = some (dk (aG br a b us (r+1)) (c_ a b (bE br a b us r) us[k])):=by
    unfold cv cu;rw[List.getElem?_map,List.getElem?_map,List.getElem?_eq_getElem hku]; rfl
   rw[e0,e];refine congrArg some (yV ?_)
   cases hb:br (c_ a b (bE br a b us r) us[k]) with
   | true=>
    refine .inr fun z=>?_
    rw[← e]at z
    rw[ord1.nb _ z]at hb; cases hb
   | false=>
    refine .inl ?_
    unfold bP; split
    ·assumption
    ·rw[if_neg (by rw[hb]; decide)]; simp
  rw[hst];generalize ((cu a b us (bE br a b us r)).take k).foldl (bP br) (aG br a b us r)=o' at hOx hNx pord plen hrow ⊢;generalize c_ a b (bE br a b us r) us[k]=t at ety hrow ⊢;have hx:=nd11;simp only[List.nodup_cons,List.mem_cons,not_or]at hx
  obtain⟨⟨_,n1,n2⟩,⟨n3,n4⟩,n5,_⟩:=hx
  have k60:((cv br a b us r).take k).length<100:=by rw[List.length_take]; omega
  have done:∀ (G:Hp) (kv3:List (cC × V)) (o3:List Pr) (v11:V),Same H3 G→G bl=some (.lst (ys.map V.ref))→(∀ (k:Nat) t (hk:k<us.length),ys[k]? = some t→G t=some (.tup [ak (c_ a b (bE br a b us r) us[k]).1,ak (c_ a b (bE br a b us r) us[k]).2]))→OrdAt G op o3→DO P w G mp kv3→NumP kv3 o3→RoomsAs G rp ((List.range r).map (cv br a b us)) as→G rl=some (.lst (((cv br a b us r).take k).map ak))→(cv br a b us r)[k]? = some (dk o3 t)→
    ∃ (kv2:List (cC × V)) (o11:Option V),[some (.ref p),some (.ref q),some (.ref fb),some (.ref wl),some (.ref d1),some (.ref d2),some (.ref op),some (.ref mp),some (.ref rp),some (.ref tx),some (.ref rl),some v11]=[some (.ref p),some (.ref q),some (.ref fb),some (.ref wl),some (.ref d1),some (.ref d2),some (.ref op),some (.ref mp),some (.ref rp),some (.ref tx),some (.ref rl),o11]∧Same H3 (upd G rl (.lst (((cv br a b us r).take k).map ak++[ak (dk o3 t)])))∧(upd G rl (.lst (((cv br a b us r).take k).map ak++[ak (dk o3 t)]))) bl=some (.lst (ys.map V.ref))∧(∀ (k':Nat) t' (hk:k'<us.length),ys[k']? = some t'→(upd G rl (.lst (((cv br a b us r).take k).map ak++[ak (dk o3 t)]))) t'=some (.tup [ak (c_ a b (bE br a b us r) us[k']).1,ak (c_ a b (bE br a b us r) us[k']).2]))∧OrdAt (upd G rl (.lst (((cv br a b us r).take k).map ak++[ak (dk o3 t)]))) op o3∧DO P w (upd G rl (.lst (((cv br a b us r).take k).map ak++[ak (dk o3 t)]))) mp kv2∧NumP kv2 o3∧RoomsAs (upd G rl (.lst (((cv br a b us r).take k).map ak++[ak (dk o3 t)]))) rp ((List.range r).map (cv br a b us)) as∧(upd G rl (.lst (((cv br a b us r).take k).map ak++[ak (dk o3 t)]))) rl=some (.lst (((cv br a b us r).take (k+1)).map ak)):=by
   intro G kv3 o3 v11 g1 g2 g3 g4 g5 g6 g7 g8 g9
   refine⟨kv3,_,rfl,g1.upd hrl0 _,by rw[am nbr]; exact g2,fun k' t' hk' e=>?_,g4.other n1 (fun xs z=>by rw[g8]at z; cases z),kJ g5 g8 (fc g5 g8),g6,g7.other n3 n5,?_⟩
   ·have z:=g3 k' t' hk' e
    rw[am (fun z'=>by subst z'; rw[g8]at z; cases z)]; exact z
   ·rw[ar,List.take_add_one,g9,List.map_append]; rfl
  walk_at "rd1";refine⟨ys[k],mp,fA t,kv2,rfl,rfl,hMx,lc ety,_,rfl,?_⟩
  by_cases c2:t∈o'
  ·rw[hNx.2.1 _ c2]
   refine bg (fun z=>by cases z) (fun _=>?_)
   have est:bP br o' t=o':=by unfold bP; rw[if_pos c2]
   rw[est]at hrow ⊢
   refine jr ety hMx hNx erl (by rw[List.length_map]; omega) ?_
   exact done H'' kv2 o' _ sx ebx hyx hOx hMx hNx hAx erl hrow
  obtain⟨hvn,hN2⟩:=hNx.snoc c2
  rw[hvn];refine bg (fun _=>?_) (fun z=>absurd rfl z)
  refine⟨rfl,?_⟩
  walk_at "rd1";refine⟨ys[k],t,rfl,ety,_,rfl,?_⟩
  cases hb:br t with
  | true=>
   refine bg (fun z=>by cases z) (fun _=>?_)
   have est:bP br o' t=o':=by unfold bP; rw[if_neg c2,if_pos hb]
   rw[est]at hrow ⊢
   refine jr ety hMx hNx erl (by rw[List.length_map]; omega) ?_
   exact done H'' kv2 o' _ sx ebx hyx hOx hMx hNx hAx erl hrow
  | false=>
   refine bg (fun _=>?_) (fun z=>absurd rfl z)
   have est:bP br o' t=o'++[t]:=by unfold bP; rw[if_neg c2,if_neg (by rw[hb]; decide)]
   rw[est]at hrow ⊢
   obtain⟨us2,a1,a2,a3⟩:=id hOx
   walk_at "rd1";refine⟨_,.inl (SqL.of a1),mp,ys[k],fA t,kv2,rfl,rfl,hMx,lc ety,hvn,cA (by have:=hNx.1; omega),fun uu huu=>?_⟩
   rw[List.length_map,a2]at huu
   have ntm:=sU hMx;have hO2:=hOx.other (u:=uu) (Ne.symm (fc hMx a1)) ntm;have keepT:∀ {c:Addr} {xs:List V},H'' c=some (.tup xs)→upd H'' mp uu c=some (.tup xs):=fun {c xs} e=>by rw[am (fun z=>by subst z; exact ntm _ e)]; exact e
   have ety2:=keepT ety;have hyx2:∀ (k:Nat) t (hk:k<us.length),ys[k]? = some t→upd H'' mp uu t=some (.tup [ak (c_ a b (bE br a b us r) us[k]).1,ak (c_ a b (bE br a b us r) us[k]).2]):=fun k t hk e=>keepT (hyx k t hk e)
   have ebx2:upd H'' mp uu bl=some (.lst (ys.map V.ref)):=by rw[am nbm]; exact ebx
   have erl2:upd H'' mp uu rl=some (.lst (((cv br a b us r).take k).map ak)):=by rw[am (Ne.symm (fc hMx erl))]; exact erl
   have nml:mp∉as:=fun hm=>by
    obtain⟨i,hi,e⟩:=List.mem_iff_getElem.mp hm
    exact fc hMx (hAx.2.2 i mp _ (by rw[List.getElem?_eq_getElem hi,e]) (List.getElem?_eq_getElem (by rw[← hAx.2.1]; exact hi))) rfl
   have hA2:=hAx.other (u:=uu) (Ne.symm (fc hMx hAx.1)) nml;have sx2:=sx.upd hmp0 uu;generalize upd H'' mp uu=G at huu hO2 ety2 hyx2 ebx2 erl2 hA2 sx2 ⊢;obtain⟨us3,b1,b2,b3⟩:=id hO2
   walk_at "nx";refine⟨⟨_,SqL.of b1⟩,_,b1,by rw[List.length_map]; exact cA (by omega),?_⟩
   have hO3:=OrdAt.push (t:=t) b1 b2 b3 ety2;have tup3:∀ {c:Addr} {xs:List V},G c=some (.tup xs)→upd G op (.lst (us3.map V.ref++[.ref ys[k]])) c=some (.tup xs):=fun {c xs} e=>by rw[am (fun z=>by subst z; rw[b1]at e; cases e)]; exact e
   have hM3:=kJ huu (o:=.lst (us3.map V.ref++[.ref ys[k]])) b1 (fc huu b1);have erl3:upd G op (.lst (us3.map V.ref++[.ref ys[k]])) rl=some (.lst (((cv br a b us r).take k).map ak)):=by rw[am (Ne.symm n1)]; exact erl2
   refine jr (tup3 ety2) hM3 hN2 erl3 (by rw[List.length_map]; omega) ?_
   exact done _ _ (o'++[t]) _ (sx2.upd hop0 _) (by rw[am nbo]; exact ebx2) (fun k t hk e=>tup3 (hyx2 k t hk e)) hO3 hM3 hN2 (hA2.other (Ne.symm nor) n2) erl3 hrow
 rintro σ H12 ⟨kv2,o11',rfl,sx,ebx,hyx,hOx,hMx,hNx,hAx,erl⟩
 have ho':((cu a b us (bE br a b us r)).take (ys.map V.ref).length).foldl (bP br) (aG br a b us r)=aG br a b us (r+1):=by
  rw[List.length_map,List.take_of_length_le (by rw[← hyl]; exact Nat.le_refl _)]
  show _=(if r<(aG br a b us r).length then _ else _)
  rw[if_pos hend]; rfl
 rw[ho']at hOx hNx
 rw[List.length_map,List.take_of_length_le (by omega)]at erl
 have hx:=nd11;simp only[List.nodup_cons,List.mem_cons,not_or]at hx
 obtain⟨⟨_,n1,n2⟩,⟨n3,n4⟩,n5,_⟩:=hx
 walk_at "nx";refine⟨⟨_,SqL.of hAx.1⟩,_,hAx.1,by rw[List.length_map]; exact cA (by omega),?_⟩
 have hA2:=hAx.push n4 n3 erl;have mapS:∀ {β : Type} (f:Nat→β),(List.range (r+1)).map f=(List.range r).map f++[f r]:=fun f=>by rw[List.range_succ,List.map_append]; rfl
 refine⟨141 - (r+1),by omega,r+1,as++[rl],kv2,_,_,_,rfl,rfl,sx.upd hrp0 _,hOx.other nor (fun xs z=>by rw[hAx.1]at z; cases z),kJ hMx hAx.1 (fc hMx hAx.1),hNx,by rw[mapS]; exact hA2,?_,?_⟩
 ·have pm:(op::rp::(as++[rl])).Perm (op::rp::rl::as):=by
   rw[List.perm_iff_count];intro x
   simp only[List.count_cons,List.count_append,List.count_nil]
   omega
  exact pm.nodup_iff.mpr nd11
 ·obtain⟨x,e⟩:=ff (br:=br) (cu a b us (bE br a b us r)) (aG br a b us r)
  show r+1≤(if r<(aG br a b us r).length then _ else _:List Pr).length
  rw[if_pos hend];show r+1≤((cu a b us (bE br a b us r)).foldl (bP br) (aG br a b us r)).length
  rw[e,List.length_append]; omega
end
def uN(CN:Addr):Sp:=fun vs H Q E=>∃ (p q:Addr) (r r':Rl),vs=[.ref p,.ref q]∧RuleAt H p r∧RuleAt H q r'∧(r.s=r'.s→Q .non H)∧(r.s≠r'.s→E (.ref CN) none H)
section
variable{P:Program}{w:World}{K:PySem.W.Frag}{mg:Str→Option Value}{base:Heap}
theorem Cq{CN:Addr}(x_NoFit:eK K mg "NoFit" CN) (D:DefAt K mg "refuse_unlike" bW):eP P w K mg base 1 "refuse_unlike" ["one", "other"] (uN CN):=by
 refine D.calX (k:=0) kf (fun _ _ _ _ _ _ us hl=>match us,hl with | [_,_],_=>rfl) (fun vs H Q E h=>by obtain⟨p,q,r,r',rfl,_⟩:=h; rfl) (fun f cdv A outer s H vs Q E hr h=>?_)
 obtain⟨p,q,r,r',rfl,⟨pw,pr,as,h1,_⟩,⟨qw,qr,bs,g1,_⟩,hq,hx⟩:=h
 refine⟨_,(aj (bT (aM eF (aP (bi K) (pv 0) af (fun _ _=>rfl)) (aP (bi K) (pv 1) af (fun _ _=>rfl)) (aV _)) (aj (nE jA x_NoFit (aa dh ac))) bv)),?_⟩
 walk_at "rd1";refine⟨_,_,.inr (SqT.of h1),jU,?_⟩
 refine⟨_,_,.inr (SqT.of g1),jU,?_⟩
 walk_at "rd1";refine bg (fun c=>?_) (fun c=>?_)
 ·rw[jv]
  walk_at "rd1";exact⟨by decide,hx (by simpa using c)⟩
 ·exact hq (by simpa using c)
end
def FreshR(H H':Hp)(q:Addr)(r:Rl):Prop:=∃ (pw pr:Addr) (as:List Addr),H' q=some (.tup [.int r.s,.ref pw,.ref pr])∧H' pw=some (.lst (r.ws.map V.str))∧NR H H' pr r.rs as∧H q=none∧H pw=none∧H pr=none∧pw≠pr∧pw∉as
theorem FreshR.at'{H H':Hp}{q:Addr}{r:Rl}(h:FreshR H H' q r):RuleAt H' q r:=let ⟨pw,pr,as,h1,h2,h3,_⟩:=h; ⟨pw,pr,as,h1,h2,h3.at'⟩
theorem FreshR.older{H0 H H':Hp}{q:Addr}{r:Rl}(h:FreshR H H' q r)(sm:Same H0 H):FreshR H0 H' q r:=let ⟨pw,pr,as,h1,h2,h3,h4,h5,h6,h7⟩:=h; ⟨pw,pr,as,h1,h2,⟨h3.at',fun a ha=>⟨sm.free (h3.new a ha).1,(h3.new a ha).2⟩,h3.nd⟩,sm.free h4,sm.free h5,sm.free h6,h7⟩
structure Fit (br:Pr→Bool) (a b:Rl):Prop where
 oa:bj a
 ob:bj b
 na:a.ws.Nodup
 nb:b.ws.Nodup
 b0:br (some 0,some 0)=false
 h140:∀ o,eE br a b o→o.length≤140
 h18:∀ us,gT a b us→us.length≤18
theorem Fit.rl{br:Pr→Bool}{a b:Rl}(h:Fit br a b){us:List Str}{M:Nat}(hB:gT a b us)(hM:M≤140)(e:M=(aG br a b us M).length):Whole br a b us M∧bj (bG br a b us M):=by
 have hw:Whole br a b us M:=⟨h.oa,h.ob,h.b0,hB.2.1,hB.1,e⟩
 exact⟨hw,hw.rl hM (h.h18 us hB) fun u hu=>by
  rcases(hB.2.1 u).mp hu with z | z
  ·exact h.oa.lw u z
  ·exact h.ob.lw u z⟩
def JoinX(br:Pr→Bool)(a b:Rl)(H:Hp)(Q:VK)(G:Hp→Prop):Prop:=Fit br a b∧∀ (us:List Str) (M:Nat),gT a b us→sortedS us=true→M≤140→M=(aG br a b us M).length→
 (dy (ae (bG br a b us M).rs)≤60→(aR (bG br a b us M)).ws.length≤16→∀ t H',Same H H'→FreshR H H' t (aR (bG br a b us M))→Q (.ref t) H')∧
 ((60<dy (ae (bG br a b us M).rs)∨16<(aR (bG br a b us M)).ws.length)→∀ H',Same H H'→G H')
def kN(P:Program)(w:World)(K:PySem.W.Frag)(mg:Str→Option Value)(base:Heap)(CN CT:Addr):Sp:=fun vs H Q E=>∃ (p q f:Addr) (a b:Rl) (br:Pr→Bool),vs=[.ref p,.ref q,.ref f]∧RuleAt H p a∧RuleAt H q b∧tZ P w K mg base 1 f ["pair"] (fI br)∧(a.s≠b.s→E (.ref CN) none H)∧(a.s=b.s→JoinX br a b H Q (E (.ref CT) none))
def jB(br:Pr→Bool)(CN CT:Addr):Sp:=fun vs H Q E=>∃ (p q:Addr) (a b:Rl),vs=[.ref p,.ref q]∧RuleAt H p a∧RuleAt H q b∧(a.s≠b.s→E (.ref CN) none H)∧(a.s=b.s→JoinX br a b H Q (E (.ref CT) none))
section
variable{P:Program}{w:World}{K:PySem.W.Frag}{mg:Str→Option Value}{base:Heap}{CN CT:Addr}
theorem xh(x_TooGreat:eK K mg "TooGreat" CT) (D:DefAt K mg "least_of_pairs" aQ) (z_len:mg "len" = none) (g_MOST_ROOMS:∃ t,mg "MOST_ROOMS" = some (.int 60 t)) (g_MOST_WORDS:∃ t,mg "MOST_WORDS" = some (.int 16 t)) (x_refuse_unlike:eP P w K mg base 1 "refuse_unlike" ["one", "other"] (uN CN)) (c_rule_of_pairs:Cal P w K mg base 3 "rule_of_pairs" ["one", "other", "breaks"] (vX P w K mg base)) (c_least_upto:Cal P w K mg base 5 "least_upto" ["rule", "most"] xq):eP P w K mg base 6 "least_of_pairs" ["one", "other", "breaks"] (kN P w K mg base CN CT):=by
 refine D.calX sc_least_of_pairs (fun _ _ _ _ _ _ us hl=>match us,hl with | [_,_,_],_=>rfl) (fun vs H Q E h=>by obtain⟨_,_,_,_,_,_,rfl,_⟩:=h; rfl) (fun f cdv A outer s H vs Q E hr h=>?_)
 obtain⟨p,q,fb,a,b,br,rfl,hA,hB,cf,hx,hj⟩:=h
 refine⟨_,(ah (cM (jK jA x_refuse_unlike (fun _ _ _ h=>h) hr (aa (pv 0) (aa (pv 1) ac))))
   (ah (aA 3 sc_least_of_pairs.nd (aL c_least_upto hr (aa (aL c_rule_of_pairs hr (aa (pv 0) (aa (pv 1) (aa (pv 2) ac)))) (aa (sG g_MOST_ROOMS) ac))))
   (ah (bT (PW.pt' (fo (aM eZ (pv 3) bZ (aV _)) (f_ (aM Ae (bF (cz K) z_len dB (aa (aP (bi K) (pv 3) af (fun _ _=>rfl)) ac)) (sG g_MOST_WORDS) (aV _))))) (aj (nE jA x_TooGreat (aa dh ac))) bv)
   (aj (aN (pv 3)))))),?_⟩
 walk_at "rd1";refine⟨p,q,a,b,rfl,hA,hB,fun es=>?_,hx⟩
 obtain⟨ft,fin⟩:=hj es
 walk_at "nx";refine⟨p,q,fb,a,b,br,rfl,hA,hB,ft.oa,ft.ob,ft.na,ft.nb,cf,ft.b0,ft.h140,fun t H1 us M s1 hBo hso hM eM hR=>?_⟩
 obtain⟨hw,ok⟩:=ft.rl hBo hM eM
 obtain⟨f1,f2⟩:=fin us M hBo hso hM eM
 walk_at "rd1";refine⟨t,_,60,rfl,by decide,hR,ok,fun hc H2 s2=>?_,fun hc q' pw pr H2 as s2 e1 e2 e3 e4 e5 e6 e7 e8=>?_⟩
 ·walk_at "nx"
  rw[jv];walk_at "rd1";exact⟨by decide,f2 (.inl hc) H2 (s1.trans s2)⟩
 walk_at "nx";refine bg (fun c=>absurd c (by simp)) (fun _=>?_)
 refine⟨_,_,.inr (SqT.of e1),aZ (j:=1) rfl,?_⟩
 walk_at "rd1";refine⟨_,.inl (SqL.of e2),bg (fun c=>?_) (fun c=>?_)⟩
 ·rw[jv]
  walk_at "rd1";exact⟨by decide,f2 (.inr (by rw[List.length_map]at c; omega)) H2 (s1.trans s2)⟩
 walk_at "nx";exact f1 hc (by rw[List.length_map]at c; omega) q' H2 (s1.trans s2) (FreshR.older ⟨pw,pr,as,e1,e2,e3,e4,e5,e6,e7,e8⟩ s1)
def bU(p:Pr):Bool:=decide (p.1=none)||decide (p.2=none)
theorem rQ(o:Option Nat):decide (ak o=V.non)=decide (o=none):=by cases o <;> rfl
theorem vn(D:DefAt K mg "breaks_one" cK):Cal P w K mg base 1 "breaks_one" ["pair"] (fI bU):=by
 refine D.cal (k:=0) og (fun _ _ _ _ _ _ us hl=>match us,hl with | [_],_=>rfl) (fun vs H Q E h=>by obtain⟨_,_,rfl,_⟩:=h; rfl) (fun f cdv A outer s H vs Q E hr h=>?_)
 obtain⟨t,p,rfl,ht,q⟩:=h
 refine⟨_,(aj (aN (zO (e_ eZ (aP (bi K) (pv 0) af (fun _ _=>rfl)) bZ (aV _)) (oF (e_ eZ (aP (bi K) (pv 0) af (fun _ _=>rfl)) bZ (aV _)))))),?_⟩
 walk_at "rd1";refine⟨_,_,.inr (SqT.of ht),jU,?_⟩
 obtain⟨p1,p2⟩:=p
 cases p1 with
 | none=>exact bg (fun _=>q) (fun c=>absurd rfl c)
 | some k=>
  have e:bU (some k,p2)=decide (ak p2=V.non):=by rw[rQ]; simp[bU]
  rw[e]at q
  exact bg (fun c=>by cases c) (fun _=>⟨_,_,.inr (SqT.of ht),aZ (j:=1) rfl,q⟩)
def b7(p:Pr):Bool:=decide (p.1=none)&&decide (p.2=none)
theorem vf(D:DefAt K mg "breaks_both" cy):Cal P w K mg base 1 "breaks_both" ["pair"] (fI b7):=by
 refine D.cal (k:=0) ma (fun _ _ _ _ _ _ us hl=>match us,hl with | [_],_=>rfl) (fun vs H Q E h=>by obtain⟨_,_,rfl,_⟩:=h; rfl) (fun f cdv A outer s H vs Q E hr h=>?_)
 obtain⟨t,p,rfl,ht,q⟩:=h
 refine⟨_,(aj (aN (Cg (e_ eZ (aP (bi K) (pv 0) af (fun _ _=>rfl)) bZ (aV _)) (oF (e_ eZ (aP (bi K) (pv 0) af (fun _ _=>rfl)) bZ (aV _)))))),?_⟩
 walk_at "rd1";refine⟨_,_,.inr (SqT.of ht),jU,?_⟩
 obtain⟨p1,p2⟩:=p
 cases p1 with
 | some k=>exact bg (fun c=>by cases c) (fun _=>q)
 | none=>
  have e:b7 (none,p2)=decide (ak p2=V.non):=by rw[rQ]; simp[b7]
  rw[e]at q
  exact bg (fun _=>⟨_,_,.inr (SqT.of ht),aZ (j:=1) rfl,q⟩) (fun c=>absurd rfl c)
theorem mz(D:DefAt K mg "joined_rule" b6) (c_breaks:Cal P w K mg base 1 "breaks_one" ["pair"] (fI bU)) (x_least_of_pairs:eP P w K mg base 6 "least_of_pairs" ["one", "other", "breaks"] (kN P w K mg base CN CT)):eP P w K mg base 7 "joined_rule" ["one", "other"] (jB bU CN CT):=by
 refine D.calX mv (fun _ _ _ _ _ _ us hl=>match us,hl with | [_,_],_=>rfl) (fun vs H Q E h=>by obtain⟨_,_,_,_,rfl,_⟩:=h; rfl) (fun f cdv A outer s H vs Q E hr h=>?_)
 obtain⟨p,q,a,b,rfl,hA,hB,hx,hj⟩:=h
 obtain⟨fb,fm_breaks_one,cf⟩:=c_breaks.f
 refine⟨_,(aj (aN (jK jA x_least_of_pairs (fun _ _ _ h=>h) hr (aa (pv 0) (aa (pv 1) (aa (wI fm_breaks_one) ac)))))),?_⟩
 walk_at "rd1";exact⟨p,q,fb,a,b,bU,rfl,hA,hB,cf,hx,hj⟩
theorem l_(D:DefAt K mg "either_rule" b5) (c_breaks:Cal P w K mg base 1 "breaks_both" ["pair"] (fI b7)) (x_least_of_pairs:eP P w K mg base 6 "least_of_pairs" ["one", "other", "breaks"] (kN P w K mg base CN CT)):eP P w K mg base 7 "either_rule" ["one", "other"] (jB b7 CN CT):=by
 refine D.calX mJ (fun _ _ _ _ _ _ us hl=>match us,hl with | [_,_],_=>rfl) (fun vs H Q E h=>by obtain⟨_,_,_,_,rfl,_⟩:=h; rfl) (fun f cdv A outer s H vs Q E hr h=>?_)
 obtain⟨p,q,a,b,rfl,hA,hB,hx,hj⟩:=h
 obtain⟨fb,fm_breaks_both,cf⟩:=c_breaks.f
 refine⟨_,(aj (aN (jK jA x_least_of_pairs (fun _ _ _ h=>h) hr (aa (pv 0) (aa (pv 1) (aa (wI fm_breaks_both) ac)))))),?_⟩
 walk_at "rd1";exact⟨p,q,fb,a,b,b7,rfl,hA,hB,cf,hx,hj⟩
def Aa(CN:Addr):Sp:=fun vs H Q E=>∃ (p q:Addr) (r r':Rl),vs=[.ref p,.ref q]∧RuleAt H p r∧RuleAt H q r'∧r.s≠r'.s∧E (.ref CN) none H
theorem BK(D:DefAt K mg "row_apart" cw) (x_refuse_unlike:eP P w K mg base 1 "refuse_unlike" ["one", "other"] (uN CN)):eP P w K mg base 2 "row_apart" ["other", "one"] (Aa CN):=by
 refine D.calX (k:=1) pS (fun _ _ _ _ _ _ us hl=>match us,hl with | [_,_],_=>rfl) (fun vs H Q E h=>by obtain⟨_,_,_,_,rfl,_⟩:=h; rfl) (fun f cdv A outer s H vs Q E hr h=>?_)
 obtain⟨p,q,a,b,rfl,hA,hB,hs,hx⟩:=h
 refine⟨_,(ah (cM (jK jA x_refuse_unlike (fun _ _ _ h=>h) hr (aa (pv 0) (aa (pv 1) ac))))
   vV),?_⟩
 walk_at "rd1";exact⟨p,q,a,b,rfl,hA,hB,fun es=>absurd es hs,fun _=>hx⟩
end
theorem nW:bootBuiltins "ValueError" = some (.type "ValueError"):=PyProof.Rows.Boot.«ValueError»
theorem JoinX.imp{br:Pr→Bool}{a b:Rl}{H:Hp}{Q Q':VK}{G G':Hp→Prop}(h:JoinX br a b H Q G)(hQ:∀ t H',Q (.ref t) H'→Q' (.ref t) H')(hG:(∀ H',Same H H'→G H')→∀ H',Same H H'→G' H'):JoinX br a b H Q' G':=
 ⟨h.1,fun us M h1 h2 h3 h4=>⟨fun c1 c2 t H' s' hF=>hQ t H' ((h.2 us M h1 h2 h3 h4).1 c1 c2 t H' s' hF),fun c=>hG ((h.2 us M h1 h2 h3 h4).2 c)⟩⟩
def nF(CN CT:Addr):Sp:=fun vs H Q _=>∃ (a C:Addr),vs=[.ref a]∧H a=some (rU a (.ref C))∧(C=CN∨C=CT)∧Q (.bl false) H
def cY:Sp:=fun vs H Q _=>∃ (k:Nat) (p q:Addr) (a b:Rl),vs=[nV k,.ref p,.ref q]∧RuleAt H p a∧RuleAt H q b∧((a.s≠b.s∧k≤2∧∀ H',Same H H'→Q (.str "fit") H')∨
 (a.s=b.s∧((k=0∧JoinX bU a b H Q fun H'=>Q (.str "great") H')∨(k=1∧JoinX b7 a b H Q fun H'=>Q (.str "great") H'))))
theorem kF{H H':Hp}{a:Addr}{o:HO}(s:Same H H')(h:H' a=none):Same H (upd H' a o):=fun b u z=>by
 have z':=s _ _ z;rw[am (aF z' h)];exact z'
section
variable{P:Program}{w:World}{K:PySem.W.Frag}{mg:Str→Option Value}{base:Heap}{CN CT CB CU CX CR:Addr}
theorem u3(D:DefAt K mg "_law_other" bI) (z_isinstance:mg "isinstance" = none) (z_ValueError:mg "ValueError" = none) (x_NoRule:hU mg "NoRule" CR) (x_NoText:hU mg "NoText" CX) (x_NoFit:eK K mg "NoFit" CN) (x_TooGreat:eK K mg "TooGreat" CT) (x_Breach:hU mg "Breach" CB) (x_UseError:hU mg "UseError" CU)
  (k1:PySem.W.kitOne K (.ref CN) (.ref CX)=some false) (k2:PySem.W.kitOne K (.ref CN) (.ref CR)=some false) (k3:PySem.W.kitOne K (.ref CN) (.ref CB)=some false) (k4:PySem.W.kitOne K (.ref CN) (.ref CN)=some true) (k5:PySem.W.kitOne K (.ref CN) (.ref CT)=some false) (k6:PySem.W.kitOne K (.ref CN) (.ref CU)=some true) (k7:PySem.W.kitOne K (.ref CN) (.type "ValueError")=some true)
  (j1:PySem.W.kitOne K (.ref CT) (.ref CX)=some false) (j2:PySem.W.kitOne K (.ref CT) (.ref CR)=some false) (j3:PySem.W.kitOne K (.ref CT) (.ref CB)=some false) (j4:PySem.W.kitOne K (.ref CT) (.ref CN)=some false) (j6:PySem.W.kitOne K (.ref CT) (.ref CU)=some true) (j7:PySem.W.kitOne K (.ref CT) (.type "ValueError")=some true) :
  uZ P w K mg base 1 "_law_other" ["_law_e"] (nF CN CT):=by
 refine D.calH (k:=0) oH (fun _ _ _ _ _ _ us hl=>match us,hl with | [_],_=>rfl) (fun vs H Q E h=>by obtain⟨x,_,rfl,_⟩:=h; rfl) (fun f cdv A outer sh H vs Q hr h=>?_)
 obtain⟨a,C,rfl,ha,hC,q⟩:=h
 refine⟨_,(ah (bT (PW.pt' (fo (eG (bF (eR K) z_isinstance cn (aa (pv 0) (aa (gB x_NoText.m) ac)))) (fo (eG (bF (eR K) z_isinstance cn (aa (pv 0) (aa (gB x_NoRule.m) ac)))) (f_ (eG (bF (eR K) z_isinstance cn (aa (pv 0) (aa (gB x_Breach.m) ac)))))))) (aj (aN cO)) bv)
   (ah (bT (PW.pt' (jc (eG (bF (eR K) z_isinstance cn (aa (pv 0) (aa (gB x_NoFit.m) ac)))) (il (eG (bF (eR K) z_isinstance cn (aa (pv 0) (aa (gB x_TooGreat.m) ac))))))) (aj (aN cO)) bv)
   (aj (aN (zO (wg (bF (eR K) z_isinstance cn (aa (pv 0) (aa (gB x_UseError.m) ac)))) (oF (wg (bF (eR K) z_isinstance cn (aa (pv 0) (aa (pj z_ValueError nW) ac)))))))))),?_⟩
 walk_at "rd1";rcases hC with rfl | rfl
 ·refine dD ha x_NoFit.c k1 ⟨_,rfl,ia (dD ha x_NoFit.c k2 ⟨_,rfl,ia (dD ha x_NoFit.c k3 ⟨_,rfl,ia ?_⟩)⟩)⟩
  walk_at "nx";refine dD ha x_NoFit.c k4 ⟨_,rfl,GL (dD ha x_NoFit.c k5 ⟨_,rfl,ia ?_⟩)⟩
  walk_at "nx";exact dD ha x_NoFit.c k6 ⟨_,rfl,ia (dD ha x_NoFit.c k7 ⟨_,rfl,q⟩)⟩
 ·refine dD ha x_TooGreat.c j1 ⟨_,rfl,ia (dD ha x_TooGreat.c j2 ⟨_,rfl,ia (dD ha x_TooGreat.c j3 ⟨_,rfl,ia ?_⟩)⟩)⟩
  walk_at "nx";refine dD ha x_TooGreat.c j4 ⟨_,rfl,ia ?_⟩
  walk_at "nx";exact dD ha x_TooGreat.c j6 ⟨_,rfl,ia (dD ha x_TooGreat.c j7 ⟨_,rfl,q⟩)⟩
theorem w5(D:DefAt K mg "_law_made" bt) (x_NoFit:eK K mg "NoFit" CN) (x_TooGreat:eK K mg "TooGreat" CT) (kt_TooGreat_NoFit:PySem.W.kitOne K (.ref CT) (.ref CN)=some false) (h_law_other:uZ P w K mg base 1 "_law_other" ["_law_e"] (nF CN CT)) (x_joined_rule:eP P w K mg base 7 "joined_rule" ["one", "other"] (jB bU CN CT)) (x_either_rule:eP P w K mg base 7 "either_rule" ["one", "other"] (jB b7 CN CT)) (x_row_apart:eP P w K mg base 2 "row_apart" ["other", "one"] (Aa CN)) :
  Cal P w K mg base 8 "_law_made" ["_law_way", "_law_one", "_law_other_here"] cY:=by
 refine D.cal (k:=7) sc_law_made (fun _ _ _ _ _ _ us hl=>match us,hl with | [_,_,_],_=>rfl) (fun vs H Q E h=>by obtain⟨_,_,_,_,_,rfl,_⟩:=h; rfl) (fun f cdv A outer s H vs Q E hr h=>?_)
 obtain⟨k,p,q,a,b,rfl,hA,hB,h⟩:=h
 refine⟨_,(ah (aA 3 sc_law_made.nd cO)
   (ah (aA 4 sc_law_made.nd bZ)
   (ah (AJ 5 x_NoFit x_TooGreat kt_TooGreat_NoFit sc_law_made.nd (fun Ee=>(iw (Ah (aM dG (pv 0) af (aV _)) (iw (ph 4 sc_law_made.nd (mh x_joined_rule hr (aa (pv 1) (aa (pv 2) ac))))) (iw (Ah (aM dG (pv 0) af (aV _)) (iw (ph 4 sc_law_made.nd (mh x_either_rule hr (aa (pv 1) (aa (pv 2) ac))))) (iw (ph 4 sc_law_made.nd (mh x_row_apart hr (aa (pv 1) (aa (pv 2) ac)))))))))) (fun a=>(ah (aA 4 sc_law_made.nd dh)
   (aj (aA 3 sc_law_made.nd (sE h_law_other (hr.h.held _) (aa (pv 5) ac)))))) (fun a=>(ah (aA 4 sc_law_made.nd dh)
   (aj (aA 3 sc_law_made.nd (sE h_law_other (hr.h.held _) (aa (pv 5) ac)))))) G_ (hg':=FY))
   (ah (bT (eG (pv 3)) (aj (aN dh)) bv)
   (aj (aN (pv 4))))))),?_⟩
 walk_at "rd1";walk_at "nx";walk_at "nx";rw[zc];walk_at "rd1";rcases h with ⟨hs,hk,q'⟩ | ⟨hs,⟨rfl,hj⟩ | ⟨rfl,hj⟩⟩
 ·refine bg (fun _=>⟨p,q,a,b,rfl,hA,hB,fun _=>.inl ⟨rfl,fun e he=>?_⟩,fun z=>absurd z hs⟩) (fun _=>bg (fun _=>⟨p,q,a,b,rfl,hA,hB,fun _=>.inl ⟨rfl,fun e he=>?_⟩,fun z=>absurd z hs⟩) (fun _=>⟨p,q,a,b,rfl,hA,hB,hs,.inl ⟨rfl,fun e he=>?_⟩⟩))
  all_goals
   walk_at "rd1";walk_at "nx";refine⟨e,CN,rfl,ar,.inl rfl,?_⟩
   walk_at "nx";walk_at "nx";exact q' _ (kF (Same.refl H) he)
 ·refine bg (fun _=>⟨p,q,a,b,rfl,hA,hB,fun z=>absurd hs z,fun _=>hj.imp (fun t H' h=>?_) (fun h H' s'=>.inr ⟨rfl,fun e he=>?_⟩)⟩) (fun c=>absurd rfl c)
  ·walk_at "nx"
   walk_at "nx";exact h
  ·walk_at "rd1"
   walk_at "nx";refine⟨e,CT,rfl,ar,.inr rfl,?_⟩
   walk_at "nx";walk_at "nx";exact h _ (kF s' he)
 ·refine bg (fun c=>absurd c (by decide)) (fun _=>bg (fun _=>⟨p,q,a,b,rfl,hA,hB,fun z=>absurd hs z,fun _=>hj.imp (fun t H' h=>?_) (fun h H' s'=>.inr ⟨rfl,fun e he=>?_⟩)⟩) (fun c=>absurd rfl c))
  ·walk_at "nx"
   walk_at "nx";exact h
  ·walk_at "rd1"
   walk_at "nx";refine⟨e,CT,rfl,ar,.inr rfl,?_⟩
   walk_at "nx";walk_at "nx";exact h _ (kF s' he)
end
section
variable{P:Program}{w:World}{K:PySem.W.Frag}{mg:Str→Option Value}{base:Heap}
abbrev step:=ao
def after(r:Rl):Nat→List Str→Option Nat
 | k,[]=>some k
 | k,y::ys=>match step r k y with
  | none=>none
  | some k'=>after r k' ys
theorem AL{r:Rl}{k j:Nat}{y:Str}(ok:bj r)(hk:k<r.rs.length)(h:step r k y=some j):j<r.rs.length:=dj ok hk h
def we:Sp:=fun vs H Q _=>∃ (p:Addr) (r:Rl) (k:Nat) (y:Str),vs=[.ref p,.int k,.str y]∧RuleAt H p r∧bj r∧k<r.rs.length∧Q (ak (step r k y)) H
def rS(K:PySem.W.Frag):Sp:=fun vs H Q _=>∃ (p b:Addr) (r:Rl) (ys:List Str),vs=[.ref p,.ref b]∧RuleAt H p r∧bj r∧SqL K H b (ys.map V.str)∧Q (ak (after r 0 ys)) H
def xN(K:PySem.W.Frag):Sp:=fun vs H Q _=>∃ (p b:Addr) (r:Rl) (j:Nat) (ys:List Str),vs=[.ref p,.int j,.ref b]∧RuleAt H p r∧bj r∧j<r.rs.length∧SqL K H b (ys.map V.str)∧Q (ak (after r j ys)) H
theorem AR{r:Rl}{k:Nat}{y:Str}{x:List (Option Nat)}(ok:bj r)(hx:r.rs[k]? = some x)(hy:y∈r.ws):(x.map ak)[r.ws.idxOf y]? = some (ak (step r k y)):=by
 have hj:r.ws.idxOf y<x.length:=by rw[(ok.row x (List.mem_of_getElem? hx)).1]; exact List.idxOf_lt_length_iff.mpr hy
 rw[List.getElem?_map,List.getElem?_eq_getElem hj];show some (ak x[r.ws.idxOf y])=_
 unfold step ao;rw[if_pos hy,List.getD_eq_getElem?_getD (l:=r.rs),hx];show _=some (ak (x.getD (r.ws.idxOf y) none))
 rw[List.getD_eq_getElem?_getD,List.getElem?_eq_getElem hj]; rfl
theorem Bk(D:DefAt K mg "next_room" ce):Cal P w K mg base 1 "next_room" ["rule", "room", "text"] we:=by
 refine D.cal sc_next_room (fun _ _ _ _ _ _ us hl=>match us,hl with | [_,_,_],_=>rfl) (fun vs H Q E h=>by obtain⟨p,r,k,y,rfl,_⟩:=h; rfl) (fun f cdv A outer s H vs Q E hr h=>?_)
 obtain⟨p,r,k,y,rfl,hR,ok,hk,q⟩:=h
 obtain⟨pw,pr,as,h1,h2,h3,h4,h5⟩:=hR
 refine⟨_,(ah (aA 3 sc_next_room.nd (aP (bi K) (pv 0) af (fun _ _=>rfl)))
   (ah (bT (aM (xH K) (pv 2) (pv 3) (by with_unfolding_all rfl)) (aj (aN (pv 1))) bv)
   (aj (aN (aP (bi K) (aP (bi K) (aP (bi K) (pv 0) af (fun _ _=>rfl)) (pv 1) (fun _ _=>rfl)) (dc K PySem.F.plainAttrs_list PySem.F.slot_list_index PySem.F.type_list_index (m9 K) (pv 3) (aa (pv 2) ac)) (fun _ _=>rfl)))))),?_⟩
 walk_at "rd1";refine⟨_,_,.inr (SqT.of h1),rfl,?_⟩
 walk_at "nx";refine⟨_,.inl (SqL.of h2),rfl,wK _,?_⟩
 rw[AN];refine bg (fun c=>?_) (fun c=>?_)
 ·have hy:y∉r.ws:=by simpa using c
  have e:step r k y=some k:=by unfold step ao; rw[if_neg hy]
  rw[e]at q; exact q
 ·have hy:y∈r.ws:=by simpa using c
  obtain⟨b,hb⟩ : ∃ b,as[k]? = some b:=⟨as[k],List.getElem?_eq_getElem (by omega)⟩
  obtain⟨x,hx⟩ : ∃ x,r.rs[k]? = some x:=⟨_,List.getElem?_eq_getElem hk⟩
  walk_at "nx";refine⟨_,_,.inr (SqT.of h1),rfl,?_⟩
  walk_at "rd1";refine⟨_,_,.inl (SqL.of h3),(vA (by omega) (by simpa using hb)),?_⟩
  walk_at "rd1";refine⟨⟨_,SqL.of h2⟩,_,SqL.of h2,hy,?_⟩
  exact⟨_,_,.inl (SqL.of (h5 k b x hb hx)),(aZ (AR ok hx hy)),q⟩
theorem vi{r:Rl}{k i:Nat}{ys:List Str}{y:Str}(h:ys[i]? = some y):after r k (ys.drop i)=match step r k y with
  | none=>none
  | some k'=>after r k' (ys.drop (i+1)):=by
 have hi:=(List.getElem?_eq_some_iff.mp h);obtain⟨hi,e⟩:=hi
 rw[List.drop_eq_getElem_cons hi,e]
 rfl
theorem pO(D:DefAt K mg "room_from" bV) (c_next_room:Cal P w K mg base 1 "next_room" ["rule", "room", "text"] we):Cal P w K mg base 2 "room_from" ["rule", "room", "row"] (xN K):=by
 refine D.cal sc_room_from (fun _ _ _ _ _ _ us hl=>match us,hl with | [_,_,_],_=>rfl) (fun vs H Q E h=>by obtain⟨p,b,r,j,ys,rfl,_⟩:=h; rfl) (fun f cdv A outer s H vs Q E hr h=>?_)
 obtain⟨p,b,r,j,ys,rfl,hR,ok,hj,hb,q⟩:=h
 refine⟨_,(ah (cB PassesOwn.never rfl (b_ K (pv 2)) (bA 3 sc_room_from.nd) (ah (aA 1 sc_room_from.nd (aL c_next_room hr (aa (pv 0) (aa (pv 1) (aa (pv 3) ac)))))
   (aj (bT (aM eZ (pv 1) bZ (aV _)) (aj (aN bZ)) bv))))
   (aj (aN (pv 1)))),?_⟩
 walk_at "rd1";refine⟨⟨_,hb⟩,?_⟩
 refine dL (xs:=ys.map V.str) (fun i σ H'=>∃ (k:Nat) (o:Option V),σ=[some (.ref p),some (.int k),some (.ref b),o]∧H=H'∧k<r.rs.length∧after r j ys=after r k (ys.drop i)) ⟨j,none,rfl,rfl,hj,rfl⟩ (fun i σ H' _ h=>by obtain⟨_,_,_,rfl,_⟩:=h; exact hb) ?_ ?_
 ·rintro i x σ H' hx ⟨k,o,rfl,rfl,hk,e⟩
  rw[List.getElem?_map]at hx
  cases qy:ys[i]? with
  | none=>rw[qy]at hx; cases hx
  | some y=>
   rw[qy]at hx; cases hx
   rw[vi qy]at e
   walk_at "rd1";refine⟨p,r,k,y,rfl,hR,ok,hk,?_⟩
   cases hst:step r k y with
   | none=>
    rw[hst]at e
    walk_at "nx";refine bg (fun c=>?_) (fun c=>?_)
    ·rw[e]at q; exact q
    ·exact absurd rfl c
   | some k'=>
    rw[hst]at e
    have hk':=AL ok hk hst;walk_at "nx";refine bg (fun c=>?_) (fun c=>?_)
    ·cases c
    ·exact⟨k',_,rfl,hk',e⟩
 ·rintro σ H' ⟨k,o,rfl,rfl,hk,e⟩
  rw[List.length_map,List.drop_length]at e
  walk_at "nx";have e':after r j ys=some k:=e
  rw[e']at q; exact q
theorem n9(D:DefAt K mg "room_after" cm) (c_room_from:Cal P w K mg base 2 "room_from" ["rule", "room", "row"] (xN K)):Cal P w K mg base 3 "room_after" ["rule", "row"] (rS K):=by
 refine D.cal nY (fun _ _ _ _ _ _ us hl=>match us,hl with | [_,_],_=>rfl) (fun vs H Q E h=>by obtain⟨p,b,r,ys,rfl,_⟩:=h; rfl) (fun f cdv A outer s H vs Q E hr h=>?_)
 obtain⟨p,b,r,ys,rfl,hR,ok,hb,q⟩:=h
 refine⟨_,(aj (aN (aL c_room_from hr (aa (pv 0) (aa af (aa (pv 1) ac)))))),?_⟩
 walk_at "rd1";exact⟨p,b,r,0,ys,rfl,hR,ok,ok.n0,hb,q⟩
end
theorem eV:∀ {l m:List Str},l.Nodup→(∀ x∈l,x∈m)→l.length≤m.length
 | [],_,_,_=>Nat.zero_le _
 | x::l,m,hn,hs=>by
  have hx:=hs x List.mem_cons_self;obtain⟨h1,h2⟩:=List.nodup_cons.mp hn
  have h3:=eV (m:=m.erase x) h2 (fun y hy=>(List.mem_erase_of_ne (by rintro rfl; exact h1 hy)).mpr (hs y (List.mem_cons_of_mem _ hy)))
  rw[List.length_erase_of_mem hx]at h3
  have:=List.length_pos_of_mem hx
  rw[List.length_cons]; omega
def kp(r:Rl)(ys:List Str):Prop:=after r 0 ys≠none
theorem aK(r:Rl)(k:Nat)(y:Str)(ys:List Str):after r k (y::ys)=(ao r k y).bind fun k'=>after r k' ys:=by
 show (match ao r k y with | none=>none | some k'=>after r k' ys)=_
 cases ao r k y <;> rfl
theorem iJ(r:Rl):∀ (ys:List Str) (k:Nat) (y:Str),after r k (ys++[y])=(after r k ys).bind fun k'=>ao r k' y
 | [],k,y=>by
  show after r k [y]=ao r k y
  rw[aK]
  cases ao r k y <;> rfl
 | x::ys,k,y=>by
  rw[List.cons_append,aK,aK]
  cases ao r k x with
  | none=>rfl
  | some k'=>exact iJ r ys k' y
theorem jV{r:Rl}(ok:bj r)(nd:r.ws.Nodup):∀ (ys:List Str) (k:Nat),eA r.rs k→after (aR r) (gR r.rs k) ys=(after r k ys).map (gR r.rs)
 | [],_,_=>rfl
 | y::ys,k,h=>by
  rw[aK,aK,rA ok nd h]
  cases e:ao r k y with
  | none=>rfl
  | some k'=>exact jV ok nd ys k' (q9 ok nd h e)
theorem yP{r:Rl}(ok:bj r)(nd:r.ws.Nodup)(ys:List Str):kp (aR r) ys ↔ kp r ys:=by
 have:=jV ok nd ys 0 (ui ok.n0)
 rw[yx ok.n0]at this
 unfold kp;rw[this]
 cases after r 0 ys <;> simp
theorem xV{A B:Rl}(LA:fC A)(LB:fC B)(hs:A.s=B.s)(h:∀ ys,kp A ys ↔ kp B ys):A=B:=by
 refine Alike.one (E:=fun i j=>i<A.rs.length∧j<B.rs.length∧∀ ys,after A i ys≠none ↔ after B j ys≠none) ⟨⟨LA.ok.n0,LB.ok.n0,h⟩,fun i j e=>⟨e.1,e.2.1⟩,?_⟩ hs LA LB
 rintro i j y ⟨hi,hj,e⟩
 have e1:=e [y];rw[aK,aK]at e1
 cases ha:ao A i y with
 | none=>
  cases hb:ao B j y with
  | none=>exact .inl ⟨rfl,rfl⟩
  | some j'=>
   rw[ha,hb]at e1
   exact absurd rfl (e1.mpr (by intro z; cases z))
 | some i'=>
  cases hb:ao B j y with
  | none=>
   rw[ha,hb]at e1
   exact absurd rfl (e1.mp (by intro z; cases z))
  | some j'=>
   refine .inr ⟨i',j',rfl,rfl,dj LA.ok hi ha,dj LB.ok hj hb,fun ys=>?_⟩
   have e2:=e (y::ys);rw[aK,aK,ha,hb]at e2
   exact e2
def bQ(r:Rl)(o:Option Nat)(ys:List Str):Option Nat:=o.bind fun k=>after r k ys
theorem nJ(r:Rl)(o:Option Nat)(y:Str)(ys:List Str):bQ r o (y::ys)=bQ r (fT r o y) ys:=by
 cases o with
 | none=>rfl
 | some k=>
  show after r k (y::ys)=bQ r (ao r k y) ys
  rw[aK]; rfl
theorem jm(r:Rl)(ys:List Str):bQ r none ys=none:=rfl
theorem dv(r:Rl)(o:Option Nat):bQ r o []=o:=by cases o <;> rfl
theorem gi{br:Pr→Bool}{a b:Rl}{us:List Str}{M:Nat}(mono:∀ (p:Pr) (ys:List Str),br p=true→br (bQ a p.1 ys,bQ b p.2 ys)=true)(h:Whole br a b us M):∀ (ys:List Str) (i:Nat) (hi:i<M) (p:Pr),(aG br a b us M)[i]? = some p→(after (bG br a b us M) i ys=none ↔ br (bQ a p.1 ys,bQ b p.2 ys)=true)
 | [],i,hi,p,e=>by
  have:=h.ord.nb p (List.mem_of_getElem? e)
  rw[dv,dv,this];show some i=none ↔ _
  simp
 | y::ys,i,hi,p,e=>by
  have hl:i<(aG br a b us M).length:=by rw[← h.M1]; exact hi
  have ep:(aG br a b us M)[i]=p:=by rw[List.getElem?_eq_getElem hl]at e; exact Option.some.inj e
  rw[aK,h.step hi y,ep,nJ,nJ]
  cases hb:br (c_ a b p y) with
  | true=>
   rw[if_pos rfl];have:=mono (c_ a b p y) ys hb
   exact⟨fun _=>this,fun _=>rfl⟩
  | false=>
   rw[if_neg (by decide)]
   have c:=h.closed hi (y:=y) (by rw[ep]; exact hb)
   rw[ep]at c
   have x:=List.idxOf_lt_length_iff.mpr c;exact gi mono h ys _ (Nat.lt_of_lt_of_eq x h.M1.symm) (c_ a b p y) (by rw[List.getElem?_eq_getElem x,List.getElem_idxOf])
theorem AE{br:Pr→Bool}{a b:Rl}{us:List Str}{M:Nat}(mono:∀ (p:Pr) (ys:List Str),br p=true→br (bQ a p.1 ys,bQ b p.2 ys)=true)(h:Whole br a b us M)(ys:List Str):kp (bG br a b us M) ys ↔ br (after a 0 ys,after b 0 ys)=false:=by
 have:=gi mono h ys 0 h.pos _ h.zero
 unfold kp;rw[Ne,this];show ¬ br (after a 0 ys,after b 0 ys)=true ↔ _
 simp
theorem eQ{a b:Rl}(p:Pr)(ys:List Str)(h:bU p=true):bU (bQ a p.1 ys,bQ b p.2 ys)=true:=by
 obtain⟨x,y⟩:=p
 cases x with
 | none=>rfl
 | some i=>
  cases y with
  | none=>simp[bU,jm]
  | some j=>cases h
theorem fQ{a b:Rl}(p:Pr)(ys:List Str)(h:b7 p=true):b7 (bQ a p.1 ys,bQ b p.2 ys)=true:=by
 obtain⟨x,y⟩:=p
 cases x with
 | none=>
  cases y with
  | none=>rfl
  | some j=>cases h
 | some i=>cases h
theorem jJ{a b:Rl}{o:List Pr}(h:eE bU a b o):o.length≤a.rs.length * b.rs.length:=by
 have key:∀ t∈o,∃ i j,t=(some i,some j)∧i<a.rs.length∧j<b.rs.length:=fun t ht=>by
  have h1:=h.nb t ht;have h2:=h.inn t ht;obtain⟨x,y⟩:=t
  cases x with
  | none=>cases h1
  | some i=>
   cases y with
   | none=>simp[bU]at h1
   | some j=>exact⟨i,j,rfl,h2.1 i rfl,h2.2 j rfl⟩
 have:=eO (a.rs.length * b.rs.length) (o.map fun t=>t.1.getD 0 * b.rs.length+t.2.getD 0) (List.pairwise_map.mpr (List.Pairwise.imp_of_mem (fun {x y} hx hy hab e=>hab (by
  obtain⟨i,j,rfl,h1,h2⟩:=key x hx
  obtain⟨i',j',rfl,h3,h4⟩:=key y hy
  obtain⟨rfl,rfl⟩:=qd h2 h4 e
  rfl)) h.nd)) (fun x hx=>by
   obtain⟨t,ht,rfl⟩:=List.mem_map.mp hx
   obtain⟨i,j,rfl,h1,h2⟩:=key t ht
   show i * b.rs.length+j<_
   calc i * b.rs.length+j<i * b.rs.length+b.rs.length:=by omega
    _=(i+1) * b.rs.length:=by rw[Nat.add_mul,Nat.one_mul]
    _≤a.rs.length * b.rs.length:=Nat.mul_le_mul_right _ (by omega))
 rwa [List.length_map]at this
theorem mj{a b:Rl}{o:List Pr}(h:eE b7 a b o):o.length+1≤(a.rs.length+1) * (b.rs.length+1):=by
 have hn:((none,none):Pr)∉o:=fun z=>by have:=h.nb _ z; cases this
 have:=eO ((a.rs.length+1) * (b.rs.length+1)) (((none,none)::o).map (qS b.rs.length)) (List.pairwise_map.mpr (List.Pairwise.imp_of_mem (fun {x y} hx hy hab e=>hab (by
  have inn:∀ t∈(none,none)::o,fu a b t:=fun t ht=>by
   rcases List.mem_cons.mp ht with z | z
   ·rw[z]; exact⟨fun k e=>(by cases e),fun k e=>(by cases e)⟩
   ·exact h.inn t z
  exact yI (inn x hx) (inn y hy) e)) (List.nodup_cons.mpr ⟨hn,h.nd⟩))) (fun x hx=>by
  obtain⟨t,ht,rfl⟩:=List.mem_map.mp hx
  rcases List.mem_cons.mp ht with z | z
  ·rw[z]; exact rP ⟨fun k e=>(by cases e),fun k e=>(by cases e)⟩
  ·exact rP (h.inn t z))
 simpa using this
theorem cj(r:Rl):∀ (ys:List Str) (k:Nat) (zs:List Str),after r k (ys++zs)=(after r k ys).bind fun k'=>after r k' zs
 | [],k,zs=>rfl
 | y::ys,k,zs=>by
  rw[List.cons_append,aK,aK]
  cases ao r k y with
  | none=>rfl
  | some k'=>exact cj r ys k' zs
theorem iK{r:Rl}(ok:bj r):∀ (ys:List Str) (k j:Nat),k<r.rs.length→after r k ys=some j→j<r.rs.length
 | [],k,j,hk,e=>by cases e; exact hk
 | y::ys,k,j,hk,e=>by
  rw[aK]at e
  cases h:ao r k y with
  | none=>rw[h]at e; cases e
  | some k'=>rw[h]at e; exact iK ok ys k' j (dj ok hk h) e
theorem w6{r:Rl}{ys:List Str}{k:Nat}(h:after r 0 ys=some k)(zs:List Str):kp r (ys++zs) ↔ after r k zs≠none:=by
 unfold kp;rw[cj,h]
 rfl
theorem ky{c:Rl}(ok:bj c){N:Nat}(f:Nat→List Str)(h:∀ k,k<N→kp c (f k))(hs:∀ k k',k<k'→k'<N→∃ zs,¬ (kp c (f k++zs) ↔ kp c (f k'++zs))):N≤c.rs.length:=by
 have key:∀ k,k<N→∃ j,after c 0 (f k)=some j∧j<c.rs.length:=fun k hk=>by
  cases e:after c 0 (f k) with
  | none=>exact absurd e (h k hk)
  | some j=>exact⟨j,rfl,iK ok _ _ _ ok.n0 e⟩
 have:=eO c.rs.length ((List.range N).map fun k=>(after c 0 (f k)).getD 0) (List.pairwise_map.mpr (List.Pairwise.imp_of_mem (fun {k k'} hk hk' hlt e=>by
  have h1:=List.mem_range.mp hk;have h2:=List.mem_range.mp hk';obtain⟨j,e1,_⟩:=key k h1
  obtain⟨j',e2,_⟩:=key k' h2
  rw[e1,e2]at e
  have e3:j=j':=e
  subst e3;obtain⟨zs,hz⟩:=hs k k' hlt h2
  exact hz (by rw[w6 e1,w6 e2])) List.pairwise_lt_range)) (fun x hx=>by
   obtain⟨k,hk,rfl⟩:=List.mem_map.mp hx
   obtain⟨j,e1,h1⟩:=key k (List.mem_range.mp hk)
   show (after c 0 (f k)).getD 0<_
   rw[e1]; exact h1)
 rwa [List.length_map,List.length_range]at this
theorem p9{r:Rl}(ok:bj r):(aR r).rs.length≤dy (ae r.rs):=by
 have h:=u7 (jf ok);obtain⟨h1,h2,h3⟩:=eJ h.n0 h.ins
 rw[dW,dY,leastN_len];refine Nat.le_trans (dQ h1 h2).2.2 ?_
 have hl:(ae r.rs).length=r.rs.length:=bJ _ _
 unfold merged bX;rw[List.length_map,List.length_range,List.take_of_length_le (by omega)]
 exact Nat.le_refl _
theorem eY{c:Rl}{y:Str}{ys zs:List Str}(h:¬ (kp c (ys++y::zs) ↔ kp c (ys++zs))):y∈c.ws:=by
 refine Classical.byContradiction fun hn=>h ?_
 unfold kp;rw[cj,cj]
 cases after c 0 ys with
 | none=>exact Iff.rfl
 | some k=>
  show after c k (y::zs)≠none ↔ after c k zs≠none
  rw[aK];have:ao c k y=some k:=by unfold ao; rw[if_neg hn]
  rw[this]; exact Iff.rfl
theorem iF{r:Rl}(ok:bj r):∀ (ys:List Str) (i j:Nat),i<r.rs.length→j<r.rs.length→(ae r.rs)[i]? = (ae r.rs)[j]?→(after r i ys≠none ↔ after r j ys≠none)
 | [],i,j,_,_,_=>by
  show some i≠none ↔ some j≠none
  simp
 | y::ys,i,j,hi,hj,e=>by
  rw[aK,aK]
  by_cases hy:y∈r.ws
  ·have e2:=e
   rw[← ib r.rs]at e2
   have m:=(fM hi hj).mp e2;have m2:(r.rs.getD i []).map (Option.map fun k=>(ae r.rs).getD k 0)=(r.rs.getD j []).map (Option.map fun k=>(ae r.rs).getD k 0):=congrArg (·.2) m
   have hx:r.ws.idxOf y<r.ws.length:=List.idxOf_lt_length_iff.mpr hy
   have hp:=congrArg (fun l=>l[r.ws.idxOf y]?) m2
   have li:=(ok.row _ (List.getElem_mem hi)).1;have lj:=(ok.row _ (List.getElem_mem hj)).1;have si:ao r i y=(r.rs[i])[r.ws.idxOf y]'(by omega):=by unfold ao; rw[if_pos hy,ax hi,ax (by omega)]
   have sj:ao r j y=(r.rs[j])[r.ws.idxOf y]'(by omega):=by unfold ao; rw[if_pos hy,ax hj,ax (by omega)]
   simp only[List.getElem?_map]at hp
   rw[ax hi,ax hj,List.getElem?_eq_getElem (by omega),List.getElem?_eq_getElem (by omega),← si,← sj]at hp
   have hp':(ao r i y).map (fun k=>(ae r.rs).getD k 0)=(ao r j y).map (fun k=>(ae r.rs).getD k 0):=Option.some.inj hp
   cases h1:ao r i y with
   | none=>
    cases h2:ao r j y with
    | none=>exact Iff.rfl
    | some j'=>rw[h1,h2]at hp'; cases hp'
   | some i'=>
    cases h2:ao r j y with
    | none=>rw[h1,h2]at hp'; cases hp'
    | some j'=>
     rw[h1,h2]at hp'
     have hi':=dj ok hi h1;have hj':=dj ok hj h2;have hl:(ae r.rs).length=r.rs.length:=bJ _ _
     have hk:(ae r.rs).getD i' 0=(ae r.rs).getD j' 0:=Option.some.inj hp'
     rw[ax (by omega),ax (by omega)]at hk
     exact iF ok ys i' j' hi' hj' (by rw[List.getElem?_eq_getElem (by omega),List.getElem?_eq_getElem (by omega),hk])
  ·have s1:ao r i y=some i:=by unfold ao; rw[if_neg hy]
   have s2:ao r j y=some j:=by unfold ao; rw[if_neg hy]
   rw[s1,s2];exact iF ok ys i j hi hj e
theorem AT{r:Rl}(ok:bj r)(nd:r.ws.Nodup)(so:sortedS r.ws=true)(io:jM r.rs)(sep:∀ i j,i<r.rs.length→j<r.rs.length→i≠j→∃ ys,¬ (after r i ys≠none ↔ after r j ys≠none))(ds:∀ y∈r.ws,∃ i,i<r.rs.length∧ao r i y≠some i):fC r:=by
 have hl:(ae r.rs).length=r.rs.length:=bJ _ _
 refine⟨ok,nd,so,?_,io,ds⟩
 have:=nM (l:=ae r.rs) (b8 _ _) fun i j hi hj e=>Classical.byContradiction fun hn=>by
  obtain⟨ys,hy⟩:=sep i j (by omega) (by omega) hn
  exact hy (iF ok ys i j (by omega) (by omega) e)
 rw[hl]at this
 exact this
theorem yo{r:Rl}(ok:bj r)(nd:r.ws.Nodup){K:Nat}(g:Nat→Nat)(hg:∀ i,i<r.rs.length→g i<K)(h:∀ i j,i<r.rs.length→j<r.rs.length→g i=g j→∀ ys,after r i ys≠none ↔ after r j ys≠none):dy (ae r.rs)≤K:=by
 have hl:(ae r.rs).length=r.rs.length:=bJ _ _
 refine oU g (fun i hi=>hg i (by omega)) fun i j hi hj e=>?_
 refine gA (R:=r.rs) (fun i j=>∀ ys,after r i ys≠none ↔ after r j ys≠none) (fun u v huv hu hv p=>?_) _ i j (h i j (by omega) (by omega) e) (by omega) (by omega)
 have lu:=(ok.row _ (List.getElem_mem hu)).1;have lv:=(ok.row _ (List.getElem_mem hv)).1;rw[← ax (d:=[]) hu]at lu
 rw[← ax (d:=[]) hv]at lv
 by_cases hp:p<r.ws.length
 ·rw[eT ok nd hu hp,eT ok nd hv hp]
  have e1:=huv [r.ws[p]];rw[aK,aK]at e1
  cases h1:ao r u r.ws[p] with
  | none=>
   cases h2:ao r v r.ws[p] with
   | none=>exact .inr (.inl ⟨rfl,rfl⟩)
   | some y=>rw[h1,h2]at e1; exact absurd rfl (e1.mpr (by intro z; cases z))
  | some x=>
   cases h2:ao r v r.ws[p] with
   | none=>rw[h1,h2]at e1; exact absurd rfl (e1.mp (by intro z; cases z))
   | some y=>
    refine .inr (.inr ⟨x,y,rfl,rfl,fun ys=>?_,dj ok hu h1,dj ok hv h2⟩)
    have e2:=huv (r.ws[p]::ys);rw[aK,aK,h1,h2]at e2
    exact e2
 ·exact .inl ⟨List.getElem?_eq_none (by omega),List.getElem?_eq_none (by omega)⟩
theorem fh{br:Pr→Bool}{a b:Rl}{us:List Str}{M:Nat}(ft:Fit br a b)(hB:gT a b us)(so:sortedS us=true)(hM:M≤140)(e:M=(aG br a b us M).length)(mono:∀ (p:Pr) (ys:List Str),br p=true→br (bQ a p.1 ys,bQ b p.2 ys)=true) :
  fC (aR (bG br a b us M))∧(aR (bG br a b us M)).s=a.s∧(∀ y∈(aR (bG br a b us M)).ws,y∈us)∧((aR (bG br a b us M)).rs.length≤dy (ae (bG br a b us M).rs))∧(dy (ae (bG br a b us M).rs)≤M)∧∀ ys,kp (aR (bG br a b us M)) ys ↔ br (after a 0 ys,after b 0 ys)=false:=by
 obtain⟨hw,ok⟩:=ft.rl hB hM e
 refine⟨v3 ok hB.1 so,rfl,fun y hy=>nI hy,p9 ok,?_,fun ys=>?_⟩
 ·refine Nat.le_trans (dN (ae (bG br a b us M).rs) []) ?_
  have:(ae (bG br a b us M).rs).length=(bG br a b us M).rs.length:=bJ _ _
  rw[this,gH]; simp
 ·rw[yP ok hB.1,AE mono hw]
theorem cX(x y:Option Nat):bU (x,y)=false ↔ x≠none∧y≠none:=by cases x <;> cases y <;> simp[bU]
theorem iX(x y:Option Nat):b7 (x,y)=false ↔ x≠none∨y≠none:=by cases x <;> cases y <;> simp[b7]
structure Ctr (r:Rl) (u v:Str) (n:Nat):Prop where
 ok:bj r
 nd:r.ws.Nodup
 so:sortedS r.ws=true
 ne:u≠v
 n2:2≤n
 len:r.rs.length=n
 ws:∀ y,y∈r.ws ↔ y=u∨y=v
 su:∀ i,i<n→ao r i u=some ((i+1) % n)
 sv:∀ i,i<n→ao r i v=if i=0 then some 0 else none
 io:jM r.rs
theorem lV{r:Rl}:∀ {ys:List Str},(∀ y∈ys,y∉r.ws)→∀ k,after r k ys=some k
 | [],_,k=>rfl
 | y::ys,h,k=>by
  have:ao r k y=some k:=by unfold ao; rw[if_neg (h y List.mem_cons_self)]
  rw[aK,this];exact lV (fun z hz=>h z (List.mem_cons_of_mem _ hz)) k
theorem Ctr.ups{r:Rl}{u v:Str}{n:Nat}(c:Ctr r u v n):∀ (k i:Nat),i<n→after r i (List.replicate k u)=some ((i+k) % n)
 | 0,i,hi=>by
  rw[Nat.add_zero,Nat.mod_eq_of_lt hi]; rfl
 | k+1,i,hi=>by
  rw[List.replicate_succ,aK,c.su i hi];show after r ((i+1) % n) (List.replicate k u)=_
  have hn:=c.n2;rw[c.ups k _ (Nat.mod_lt _ (by omega)),Nat.mod_add_mod,show i+1+k=i+(k+1) by omega]
def mP(u v:Str)(n i:Nat):List Str:=List.replicate (n - i) u++[v]
theorem Ctr.sep{r:Rl}{u v:Str}{n:Nat}(c:Ctr r u v n){i j:Nat}(hi:i<n)(hj:j<n):after r j (mP u v n i)=if i=j then some 0 else none:=by
 have hn:=c.n2;unfold mP;rw[cj,c.ups _ _ hj];have hm:(j+(n - i)) % n<n:=Nat.mod_lt _ (by omega)
 show after r ((j+(n - i)) % n) [v]=_
 rw[aK,c.sv _ hm]
 by_cases e:i=j
 ·subst e
  rw[show i+(n - i)=n by omega,Nat.mod_self]; simp; rfl
 ·have:(j+(n - i)) % n≠0:=fun z=>by
   rcases Nat.lt_or_ge j i with h | h
   ·rw[Nat.mod_eq_of_lt (by omega)]at z; omega
   ·rw[show j+(n - i)=(j - i)+n by omega,Nat.add_mod_right,Nat.mod_eq_of_lt (by omega)]at z; omega
  rw[if_neg this,if_neg e]; rfl
theorem Ctr.kill{r:Rl}{u v:Str}{n:Nat}(c:Ctr r u v n){i:Nat}(hi:i<n):after r i [v,u,v]=none:=by
 have hn:=c.n2;rw[aK,c.sv i hi]
 by_cases e:i=0
 ·subst e
  rw[if_pos rfl];show after r 0 [u,v]=none
  rw[aK,c.su 0 hi];show after r ((0+1) % n) [v]=none
  rw[Nat.mod_eq_of_lt (by omega),aK,c.sv 1 (by omega),if_neg (by decide)]; rfl
 ·rw[if_neg e]; rfl
theorem Ctr.lst{r:Rl}{u v:Str}{n:Nat}(c:Ctr r u v n):fC r:=by
 have hn:=c.n2;have hl:=c.len;refine AT c.ok c.nd c.so c.io (fun i j hi hj hij=>⟨mP u v n i,?_⟩) (fun y hy=>?_)
 ·rw[c.sep (by omega) (by omega),c.sep (by omega) (by omega),if_pos rfl,if_neg hij]; simp
 ·rcases(c.ws y).mp hy with rfl | rfl
  ·exact⟨0,by omega,by rw[c.su 0 (by omega),Nat.mod_eq_of_lt (by omega)]; simp⟩
  ·exact⟨1,by omega,by rw[c.sv 1 (by omega),if_neg (by decide)]; simp⟩
def cH(n i:Nat):Option Nat:=if i<n then some i else none
def d_(u v:Str)(n i:Nat):List Str:=if i<n then List.replicate i u else [u,v]
theorem Ctr.row{r:Rl}{u v:Str}{n:Nat}(c:Ctr r u v n)(i:Nat):after r 0 (d_ u v n i)=cH n i:=by
 have hn:=c.n2;unfold d_ cH
 by_cases h:i<n
 ·rw[if_pos h,if_pos h,c.ups i 0 (by omega),Nat.zero_add,Nat.mod_eq_of_lt h]
 ·rw[if_neg h,if_neg h,aK,c.su 0 (by omega)]
  show after r ((0+1) % n) [v]=none
  rw[Nat.mod_eq_of_lt (by omega),aK,c.sv 1 (by omega),if_neg (by decide)]; rfl
theorem tw{u v:Str}{n i:Nat}:∀ y∈d_ u v n i,y=u∨y=v:=fun y hy=>by
 unfold d_ at hy;split at hy
 ·exact .inl (List.eq_of_mem_replicate hy)
 ·simpa using hy
theorem Bf{u v:Str}{n i:Nat}:∀ y∈mP u v n i,y=u∨y=v:=fun y hy=>by
 unfold mP at hy;rcases List.mem_append.mp hy with h | h
 ·exact .inl (List.eq_of_mem_replicate h)
 ·exact .inr (List.mem_singleton.mp h)
structure Ctr2 (a b:Rl) (u v x z:Str) (n m:Nat):Prop where
 ca:Ctr a u v n
 cb:Ctr b x z m
 un:∀ y,y=u∨y=v→¬ (y=x∨y=z)
 s:a.s=b.s
section
variable{a b:Rl}{u v x z:Str}{n m:Nat}
theorem Ctr2.symm(c:Ctr2 a b u v x z n m):Ctr2 b a x z u v m n:=⟨c.cb,c.ca,fun y h h'=>c.un y h' h,c.s.symm⟩
theorem Ctr2.still(c:Ctr2 a b u v x z n m){ys:List Str}(h:∀ y∈ys,y=u∨y=v)(k:Nat):after b k ys=some k:=lV (fun y hy=>by rw[c.cb.ws]; exact c.un y (h y hy)) k
theorem Ctr2.at1(c:Ctr2 a b u v x z n m)(i j:Nat)(zs:List Str):after a 0 (d_ u v n i++d_ x z m j++zs)=bQ a (cH n i) zs:=by
 rw[List.append_assoc,cj,c.ca.row];unfold bQ
 congr 1
 funext k
 rw[cj,c.symm.still tw]; rfl
theorem Ctr2.at2(c:Ctr2 a b u v x z n m)(i j:Nat)(zs:List Str):after b 0 (d_ u v n i++d_ x z m j++zs)=bQ b (cH m j) zs:=by
 rw[List.append_assoc,cj,c.still tw];show after b 0 (d_ x z m j++zs)=_
 rw[cj,c.cb.row]; rfl
theorem dX(r:Rl)(o:Option Nat)(ys zs:List Str):bQ r o (ys++zs)=bQ r (bQ r o ys) zs:=by
 cases o with
 | none=>rfl
 | some k=>exact cj r ys k zs
theorem Ctr2.stillO(c:Ctr2 a b u v x z n m){ys:List Str}(h:∀ y∈ys,y=u∨y=v)(o:Option Nat):bQ b o ys=o:=by
 cases o with
 | none=>rfl
 | some k=>exact c.still h k
theorem Ctr.killO{r:Rl}(c:Ctr r u v n)(i:Nat):bQ r (cH n i) [v,u,v]=none:=by
 unfold cH;split
 ·rename_i h; exact c.kill h
 ·rfl
theorem Ctr.sepO{r:Rl}(c:Ctr r u v n){i j:Nat}(hi:i≤n)(hj:j≤n)(h:i≠j):∃ ys:List Str,(∀ y∈ys,y=u∨y=v)∧¬ (bQ r (cH n i) ys≠none ↔ bQ r (cH n j) ys≠none):=by
 unfold cH
 by_cases h1:i<n
 ·by_cases h2:j<n
  ·refine⟨mP u v n i,Bf,?_⟩
   rw[if_pos h1,if_pos h2];show ¬ (after r i _≠none ↔ after r j _≠none)
   rw[c.sep h1 h1,c.sep h1 h2,if_pos rfl,if_neg h]; simp
  ·refine⟨[],by simp,?_⟩
   rw[if_pos h1,if_neg h2,dv,dv]; simp
 ·refine⟨[],by simp,?_⟩
  rw[if_neg h1,if_pos (by omega),dv,dv]; simp
end
section
variable{a b:Rl}{u v x z:Str}{n m:Nat}
theorem Ctr.uv{r:Rl}(c:Ctr r u v n):after r 0 [u,v]=none∧after r 0 [v]=some 0∧after r 0 [u]=some 1:=by
 have hn:=c.n2;refine⟨?_,?_,?_⟩
 ·rw[aK,c.su 0 (by omega)]
  show after r ((0+1) % n) [v]=none
  rw[Nat.mod_eq_of_lt (by omega),aK,c.sv 1 (by omega),if_neg (by decide)]; rfl
 ·rw[aK,c.sv 0 (by omega),if_pos rfl]; rfl
 ·rw[aK,c.su 0 (by omega),Nat.mod_eq_of_lt (by omega)]; rfl
theorem Ctr2.w1(c:Ctr2 a b u v x z n m){L:Rl}(hk:∀ ys,kp L ys ↔ after a 0 ys≠none∧after b 0 ys≠none){y:Str}(hy:y=u∨y=v):y∈L.ws:=by
 obtain⟨h1,h2,h3⟩:=c.ca.uv
 rcases hy with rfl | rfl
 ·refine eY (ys:=[]) (zs:=[v]) ?_
  show ¬ (kp L [y,v] ↔ kp L [v])
  rw[hk,hk,h1,h2,c.still (ys:=[v]) (by simp)]; simp
 ·refine eY (ys:=[u]) (zs:=[]) ?_
  show ¬ (kp L [u,y] ↔ kp L [u])
  rw[hk,hk,h1,h3,c.still (ys:=[u]) (by simp)]; simp
theorem Ctr2.w2(c:Ctr2 a b u v x z n m){L:Rl}(hk:∀ ys,kp L ys ↔ after a 0 ys≠none∨after b 0 ys≠none){y:Str}(hy:y=u∨y=v):y∈L.ws:=by
 obtain⟨h1,h2,h3⟩:=c.ca.uv
 have hm:=c.cb.n2;have ka:∀ ys,after a 0 ([z,x,z]++ys)=after a 0 ys:=fun ys=>by rw[cj,c.symm.still (ys:=[z,x,z]) (by simp)]; rfl
 have kb:∀ ys,after b 0 ([z,x,z]++ys)=none:=fun ys=>by rw[cj,c.cb.kill (by omega)]; rfl
 rcases hy with rfl | rfl
 ·refine eY (ys:=[z,x,z]) (zs:=[v]) ?_
  rw[hk,hk,ka,kb,ka,kb,h1,h2]; simp
 ·refine eY (ys:=[z,x,z]++[u]) (zs:=[]) ?_
  rw[List.append_assoc,List.append_assoc,hk,hk,ka,kb,ka,kb];show ¬ (after a 0 [u,y]≠none∨_ ↔ after a 0 [u]≠none∨_)
  rw[h1,h3]; simp
theorem Ctr2.rooms1(c:Ctr2 a b u v x z n m){L:Rl}(ok:bj L)(hk:∀ ys,kp L ys ↔ after a 0 ys≠none∧after b 0 ys≠none):n * m≤L.rs.length:=by
 have hm:=c.cb.n2;have hdv:∀ k,k<n * m→k / m<n:=fun k hk=>Nat.div_lt_of_lt_mul (by rw[Nat.mul_comm]; exact hk)
 have hmd:∀ k,k % m<m:=fun k=>Nat.mod_lt _ (by omega)
 have lang:∀ k zs,kp L (d_ u v n (k / m)++d_ x z m (k % m)++zs) ↔ bQ a (cH n (k / m)) zs≠none∧bQ b (cH m (k % m)) zs≠none:=fun k zs=>by rw[hk,c.at1,c.at2]
 refine ky ok (fun k=>d_ u v n (k / m)++d_ x z m (k % m)) (fun k h=>?_) fun k k' h h'=>?_
 ·have:=lang k []
  rw[List.append_nil,dv,dv]at this
  refine this.mpr ?_
  unfold cH;rw[if_pos (hdv k h),if_pos (hmd k)]; simp
 ·have n1:cH m (k % m)≠none:=by unfold cH; rw[if_pos (hmd k)]; simp
  have n2:cH m (k' % m)≠none:=by unfold cH; rw[if_pos (hmd k')]; simp
  by_cases e:k / m=k' / m
  ·have e2:k % m≠k' % m:=fun z=>by
    have h1:=Nat.div_add_mod k m;have h2:=Nat.div_add_mod k' m;rw[e,z]at h1
    omega
   have n3:cH n (k' / m)≠none:=by unfold cH; rw[if_pos (hdv k' h')]; simp
   obtain⟨ys,h1,h2⟩:=c.cb.sepO (Nat.le_of_lt (hmd k)) (Nat.le_of_lt (hmd k')) e2
   refine⟨ys,?_⟩
   rw[lang,lang,c.symm.stillO h1,c.symm.stillO h1,e];simp only[n3,ne_eq,not_false_eq_true,true_and]
   exact h2
  ·obtain⟨ys,h1,h2⟩:=c.ca.sepO (Nat.le_of_lt (hdv k (by omega))) (Nat.le_of_lt (hdv k' h')) e
   refine⟨ys,?_⟩
   rw[lang,lang,c.stillO h1,c.stillO h1];simp only[n1,n2,ne_eq,not_false_eq_true,and_true]
   exact h2
theorem Ctr2.rooms2(c:Ctr2 a b u v x z n m){L:Rl}(ok:bj L)(hk:∀ ys,kp L ys ↔ after a 0 ys≠none∨after b 0 ys≠none):(n+1) * (m+1) - 1≤L.rs.length:=by
 have hm:=c.cb.n2;have hdv:∀ k,k<(n+1) * (m+1) - 1→k / (m+1)<n+1:=fun k hk=>Nat.div_lt_of_lt_mul (by rw[Nat.mul_comm]; omega)
 have hmd:∀ k,k % (m+1)<m+1:=fun k=>Nat.mod_lt _ (by omega)
 have lang:∀ k zs,kp L (d_ u v n (k / (m+1))++d_ x z m (k % (m+1))++zs) ↔ bQ a (cH n (k / (m+1))) zs≠none∨bQ b (cH m (k % (m+1))) zs≠none:=fun k zs=>by rw[hk,c.at1,c.at2]
 refine ky ok (fun k=>d_ u v n (k / (m+1))++d_ x z m (k % (m+1))) (fun k h=>?_) fun k k' h h'=>?_
 ·have:=lang k []
  rw[List.append_nil,dv,dv]at this
  refine this.mpr ?_
  unfold cH
  by_cases h1:k / (m+1)<n
  ·rw[if_pos h1]; simp
  ·have h2:k % (m+1)<m:=by
    have h3:=hdv k h;have h4:=hmd k;have h5:=Nat.div_add_mod k (m+1);have h6:k / (m+1)=n:=by omega
    rw[h6]at h5
    have h7:(n+1) * (m+1)=(m+1) * n+(m+1):=by rw[Nat.mul_comm,Nat.mul_add,Nat.mul_one]
    omega
   rw[if_pos h2]; simp
 ·by_cases e:k / (m+1)=k' / (m+1)
  ·have e2:k % (m+1)≠k' % (m+1):=fun z=>by
    have h1:=Nat.div_add_mod k (m+1);have h2:=Nat.div_add_mod k' (m+1);rw[e,z]at h1
    omega
   obtain⟨ys,h1,h2⟩:=c.cb.sepO (Nat.le_of_lt_succ (hmd k)) (Nat.le_of_lt_succ (hmd k')) e2
   refine⟨[v,u,v]++ys,?_⟩
   rw[lang,lang,dX,dX,dX,dX,c.ca.killO,c.ca.killO,c.stillO (ys:=[v,u,v]) (by simp),c.stillO (ys:=[v,u,v]) (by simp),jm]
   simp only[ne_eq,not_true_eq_false,false_or]
   exact h2
  ·obtain⟨ys,h1,h2⟩:=c.ca.sepO (Nat.le_of_lt_succ (hdv k (by omega))) (Nat.le_of_lt_succ (hdv k' h')) e
   refine⟨[z,x,z]++ys,?_⟩
   rw[lang,lang,dX,dX,dX,dX,c.cb.killO,c.cb.killO,c.symm.stillO (ys:=[z,x,z]) (by simp),c.symm.stillO (ys:=[z,x,z]) (by simp),jm]
   simp only[ne_eq,not_true_eq_false,or_false]
   exact h2
end
theorem hV{a b L:Rl}{us:List Str}(hB:gT a b us)(so:sortedS us=true)(l:fC L)(sub:∀ y∈L.ws,y∈us)(ha:∀ y∈a.ws,y∈L.ws)(hb:∀ y∈b.ws,y∈L.ws):L.ws=us:=
 fZ l.nd hB.1 l.so so fun y=>⟨sub y,fun hy=>by
  rcases(hB.2.1 y).mp hy with h | h
  ·exact ha y h
  ·exact hb y h⟩
theorem iA{a b:Rl}{us:List Str}(hB:gT a b us):us.length≤a.ws.length+b.ws.length:=by
 have:=eV (m:=a.ws++b.ws) hB.1 fun y hy=>List.mem_append.mpr ((hB.2.1 y).mp hy)
 rwa [List.length_append]at this
theorem gN{br:Pr→Bool}{a b:Rl}(oa:bj a)(ob:bj b)(na:a.ws.Nodup)(nb:b.ws.Nodup)(b0:br (some 0,some 0)=false)(h1:∀ o,eE br a b o→o.length≤140)(h2:a.ws.length+b.ws.length≤18):Fit br a b:=
 ⟨oa,ob,na,nb,b0,h1,fun us hB=>Nat.le_trans (iA hB) h2⟩
theorem Ctr.few{r:Rl}{u v:Str}{n:Nat}(c:Ctr r u v n):r.ws.length=2:=by
 have h1:=eV (m:=[u,v]) c.nd fun y hy=>by simpa using (c.ws y).mp hy
 have h2:=eV (l:=[u,v]) (m:=r.ws) (by simp[c.ne]) fun y hy=>(c.ws y).mpr (by simpa using hy)
 simp at h1 h2
 omega
structure mw (a b:Rl) (L:List Str→Prop) (n:Nat) (c:Rl):Prop where
 ok:bj c
 s:c.s=a.s
 nd:c.ws.Nodup
 so:sortedS c.ws=true
 ws:∀ y,y∈c.ws ↔ y∈a.ws∨y∈b.ws
 len:c.rs.length=n
 lang:∀ ys,kp c ys ↔ L ys
theorem yi{a b:Rl}{u v x z:Str}{n m:Nat}{H:Hp}{Q:VK}{G:Hp→Prop}(c:Ctr2 a b u v x z n m)(h140:n * m≤140)(hq:n * m≤60→∀ (t:Addr) (H':Hp) (d:Rl),Same H H'→FreshR H H' t d→mw a b (fun ys=>after a 0 ys≠none∧after b 0 ys≠none) (n * m) d→Q (.ref t) H')(hg:60<n * m→∀ H',Same H H'→G H'):JoinX bU a b H Q G:=by
 have fa:=c.ca.few;have fb:=c.cb.few
 have hN:∀ o,eE bU a b o→o.length≤n * m:=fun o ho=>by
  have:=jJ ho
  rwa [c.ca.len,c.cb.len]at this
 have ft:Fit bU a b:=gN c.ca.ok c.cb.ok c.ca.nd c.cb.nd rfl (fun o ho=>Nat.le_trans (hN o ho) h140) (by omega)
 refine⟨ft,fun us M hB so hM e=>?_⟩
 obtain⟨l,ls,sub,l1,l2,lg⟩:=fh ft hB so hM e eQ
 have lg':∀ ys,kp (aR (bG bU a b us M)) ys ↔ after a 0 ys≠none∧after b 0 ys≠none:=fun ys=>by rw[lg,cX]
 have r1:=c.rooms1 l.ok lg';have r2:=hN _ (ft.rl hB hM e).1.ord;have hw:=hV hB so l sub (fun y hy=>c.w1 lg' ((c.ca.ws y).mp hy)) (fun y hy=>c.symm.w1 (fun ys=>(lg' ys).trans and_comm) ((c.cb.ws y).mp hy))
 refine⟨fun h1 h2 t H' s' hF=>hq (by omega) t H' _ s' hF ⟨l.ok,ls,l.nd,l.so,fun y=>by rw[hw]; exact hB.2.1 y,by omega,lg'⟩,fun hc H' s'=>hg ?_ H' s'⟩
 have:=iA hB
 rcases hc with hc | hc
 ·omega
 ·rw[hw]at hc; omega
theorem vj{a b:Rl}{u v x z:Str}{n m:Nat}{H:Hp}{Q:VK}{G:Hp→Prop}(c:Ctr2 a b u v x z n m)(h140:(n+1) * (m+1) - 1≤140)(hq:(n+1) * (m+1) - 1≤60→∀ (t:Addr) (H':Hp) (d:Rl),Same H H'→FreshR H H' t d→mw a b (fun ys=>after a 0 ys≠none∨after b 0 ys≠none) ((n+1) * (m+1) - 1) d→Q (.ref t) H')(hg:60<(n+1) * (m+1) - 1→∀ H',Same H H'→G H'):JoinX b7 a b H Q G:=by
 have fa:=c.ca.few;have fb:=c.cb.few
 have hN:∀ o,eE b7 a b o→o.length≤(n+1) * (m+1) - 1:=fun o ho=>by
  have:=mj ho
  rw[c.ca.len,c.cb.len]at this
  omega
 have ft:Fit b7 a b:=gN c.ca.ok c.cb.ok c.ca.nd c.cb.nd rfl (fun o ho=>Nat.le_trans (hN o ho) h140) (by omega)
 refine⟨ft,fun us M hB so hM e=>?_⟩
 obtain⟨l,ls,sub,l1,l2,lg⟩:=fh ft hB so hM e fQ
 have lg':∀ ys,kp (aR (bG b7 a b us M)) ys ↔ after a 0 ys≠none∨after b 0 ys≠none:=fun ys=>by rw[lg,iX]
 have r1:=c.rooms2 l.ok lg';have r2:=hN _ (ft.rl hB hM e).1.ord;have hw:=hV hB so l sub (fun y hy=>c.w2 lg' ((c.ca.ws y).mp hy)) (fun y hy=>c.symm.w2 (fun ys=>(lg' ys).trans or_comm) ((c.cb.ws y).mp hy))
 refine⟨fun h1 h2 t H' s' hF=>hq (by omega) t H' _ s' hF ⟨l.ok,ls,l.nd,l.so,fun y=>by rw[hw]; exact hB.2.1 y,by omega,lg'⟩,fun hc H' s'=>hg ?_ H' s'⟩
 have:=iA hB
 rcases hc with hc | hc
 ·omega
 ·rw[hw]at hc; omega
structure Wd (r:Rl):Prop where
 ok:bj r
 nd:r.ws.Nodup
 so:sortedS r.ws=true
 len:r.rs.length=1
 st:∀ y,ao r 0 y=if y∈r.ws then none else some 0
theorem Wd.aft{r:Rl}(w:Wd r):∀ ys,after r 0 ys=if (∃ y∈ys,y∈r.ws) then none else some 0
 | []=>by rw[if_neg (by simp)]; rfl
 | y::ys=>by
  rw[aK,w.st]
  by_cases h:y∈r.ws
  ·rw[if_pos h,if_pos ⟨y,List.mem_cons_self,h⟩]; rfl
  ·rw[if_neg h]
   show after r 0 ys=_
   rw[w.aft ys]
   by_cases h2:∃ z∈ys,z∈r.ws
   ·obtain⟨z,hz,hz'⟩:=h2
    rw[if_pos ⟨z,hz,hz'⟩,if_pos ⟨z,List.mem_cons_of_mem _ hz,hz'⟩]
   ·rw[if_neg h2,if_neg fun ⟨z,hz,hz'⟩=>by
     rcases List.mem_cons.mp hz with rfl | hz
     ·exact h hz'
     ·exact h2 ⟨z,hz,hz'⟩]
theorem lh{a b:Rl}{us:List Str}(hB:gT a b us)(na:a.ws.Nodup)(nb:b.ws.Nodup)(hd:∀ y∈a.ws,y∉b.ws):us.length=a.ws.length+b.ws.length:=by
 have h1:=iA hB;have h2:=eV (l:=a.ws++b.ws) (m:=us) (List.nodup_append.mpr ⟨na,nb,fun y hy y' hy' e=>hd y hy (e ▸ hy')⟩) fun y hy=>(hB.2.1 y).mpr (List.mem_append.mp hy)
 rw[List.length_append]at h2
 omega
theorem AO{a b:Rl}{H:Hp}{Q:VK}{G:Hp→Prop}(wa:Wd a)(wb:Wd b)(hd:∀ y∈a.ws,y∉b.ws)(h18:a.ws.length+b.ws.length≤18)
  (hq:a.ws.length+b.ws.length≤16→∀ (t:Addr) (H':Hp) (d:Rl),Same H H'→FreshR H H' t d→(∃ L,mw a b L 1 d)→Q (.ref t) H') (hg:16<a.ws.length+b.ws.length→∀ H',Same H H'→G H'):JoinX bU a b H Q G:=by
 have hN:∀ o,eE bU a b o→o.length≤1:=fun o ho=>by
  have:=jJ ho
  rw[wa.len,wb.len]at this
  omega
 have ft:Fit bU a b:=gN wa.ok wb.ok wa.nd wb.nd rfl (fun o ho=>Nat.le_trans (hN o ho) (by omega)) h18
 refine⟨ft,fun us M hB so hM e=>?_⟩
 obtain⟨l,ls,sub,l1,l2,lg⟩:=fh ft hB so hM e eQ
 have lg':∀ ys,kp (aR (bG bU a b us M)) ys ↔ after a 0 ys≠none∧after b 0 ys≠none:=fun ys=>by rw[lg,cX]
 have r2:=hN _ (ft.rl hB hM e).1.ord;have r0:=l.ok.n0;have k0:kp (aR (bG bU a b us M)) []:=(lg' []).mpr ⟨by rw[wa.aft]; simp,by rw[wb.aft]; simp⟩
 have hw:=hV hB so l sub (fun y hy=>eY (ys:=[]) (zs:=[]) fun z=>((lg' [y]).mp (z.mpr k0)).1 (by rw[wa.aft,if_pos ⟨y,by simp,hy⟩])) (fun y hy=>eY (ys:=[]) (zs:=[]) fun z=>((lg' [y]).mp (z.mpr k0)).2 (by rw[wb.aft,if_pos ⟨y,by simp,hy⟩]))
 have hu:=lh hB wa.nd wb.nd hd;refine⟨fun h1 h2 t H' s' hF=>hq (by rw[hw]at h2; omega) t H' _ s' hF ⟨_,l.ok,ls,l.nd,l.so,fun y=>by rw[hw]; exact hB.2.1 y,by omega,lg'⟩,fun hc H' s'=>hg ?_ H' s'⟩
 rcases hc with hc | hc
 ·omega
 ·rw[hw]at hc; omega
theorem xE{a b:Rl}{H:Hp}{Q:VK}{G:Hp→Prop}(wa:Wd a)(wb:Wd b)(hd:∀ y∈a.ws,y∉b.ws)(ha1:1≤a.ws.length)(hb1:1≤b.ws.length)(h18:a.ws.length+b.ws.length≤18)
  (hq:a.ws.length+b.ws.length≤16→∀ (t:Addr) (H':Hp) (d:Rl),Same H H'→FreshR H H' t d→(∃ L,mw a b L 3 d)→Q (.ref t) H') (hg:16<a.ws.length+b.ws.length→∀ H',Same H H'→G H'):JoinX b7 a b H Q G:=by
 have hN:∀ o,eE b7 a b o→o.length≤3:=fun o ho=>by
  have:=mj ho
  rw[wa.len,wb.len]at this
  omega
 have ft:Fit b7 a b:=gN wa.ok wb.ok wa.nd wb.nd rfl (fun o ho=>Nat.le_trans (hN o ho) (by omega)) h18
 refine⟨ft,fun us M hB so hM e=>?_⟩
 obtain⟨l,ls,sub,l1,l2,lg⟩:=fh ft hB so hM e fQ
 have lg':∀ ys,kp (aR (bG b7 a b us M)) ys ↔ after a 0 ys≠none∨after b 0 ys≠none:=fun ys=>by rw[lg,iX]
 have r2:=hN _ (ft.rl hB hM e).1.ord;obtain⟨x,hx⟩ : ∃ x,x∈a.ws:=⟨_,List.getElem_mem ha1⟩
 obtain⟨y,hy⟩ : ∃ y,y∈b.ws:=⟨_,List.getElem_mem hb1⟩
 have hxb:=hd x hx;have hya:∀ y∈b.ws,y∉a.ws:=fun y hy z=>hd y z hy
 have ea:∀ ys,after a 0 ys≠none ↔ ∀ y∈ys,y∉a.ws:=fun ys=>by
  rw[wa.aft]
  by_cases h:∃ y∈ys,y∈a.ws
  ·obtain⟨y,h1,h2⟩:=h
   rw[if_pos ⟨y,h1,h2⟩];exact⟨fun z=>absurd rfl z,fun z=>absurd h2 (z y h1)⟩
  ·rw[if_neg h]
   exact⟨fun _ y h1 h2=>h ⟨y,h1,h2⟩,fun _=>by simp⟩
 have eb:∀ ys,after b 0 ys≠none ↔ ∀ y∈ys,y∉b.ws:=fun ys=>by
  rw[wb.aft]
  by_cases h:∃ y∈ys,y∈b.ws
  ·obtain⟨y,h1,h2⟩:=h
   rw[if_pos ⟨y,h1,h2⟩];exact⟨fun z=>absurd rfl z,fun z=>absurd h2 (z y h1)⟩
  ·rw[if_neg h]
   exact⟨fun _ y h1 h2=>h ⟨y,h1,h2⟩,fun _=>by simp⟩
 have lk:∀ ys,kp (aR (bG b7 a b us M)) ys ↔ (∀ y∈ys,y∉a.ws)∨∀ y∈ys,y∉b.ws:=fun ys=>by rw[lg',ea,eb]
 have r1:3≤(aR (bG b7 a b us M)).rs.length:=by
  refine ky l.ok (fun k=>match k with | 0=>[] | 1=>[x] | _=>[y]) (fun k hk=>?_) fun k k' h1 h2=>?_
  ·match k,hk with
   | 0,_=>exact(lk []).mpr (by simp)
   | 1,_=>exact(lk [x]).mpr (.inr (by simpa using hxb))
   | 2,_=>exact(lk [y]).mpr (.inl (by simpa using hya y hy))
  ·obtain⟨rfl,rfl⟩ | ⟨rfl,rfl⟩ | ⟨rfl,rfl⟩ : (k=0∧k'=1)∨(k=0∧k'=2)∨(k=1∧k'=2):=by omega
   ·exact⟨[y],fun q=>by simpa [hx,hy] using (lk [x,y]).mp (q.mp ((lk [y]).mpr (.inl (by simpa using hya y hy))))⟩
   ·exact⟨[x],fun q=>by simpa [hx,hy] using (lk [y,x]).mp (q.mp ((lk [x]).mpr (.inr (by simpa using hxb))))⟩
   ·exact⟨[x],fun q=>by simpa [hx,hy] using (lk [y,x]).mp (q.mp ((lk [x,x]).mpr (.inr (by simpa using hxb))))⟩
 have hw:=hV hB so l sub (fun w hw=>eY (ys:=[y]) (zs:=[]) fun q=>by simpa [hw,hy] using (lk [y,w]).mp (q.mpr ((lk [y]).mpr (.inl (by simpa using hya y hy))))) (fun w hw=>eY (ys:=[x]) (zs:=[]) fun q=>by simpa [hw,hx] using (lk [x,w]).mp (q.mpr ((lk [x]).mpr (.inr (by simpa using hxb)))))
 have hu:=lh hB wa.nd wb.nd hd;refine⟨fun h1 h2 t H' s' hF=>hq (by rw[hw]at h2; omega) t H' _ s' hF ⟨_,l.ok,ls,l.nd,l.so,fun y=>by rw[hw]; exact hB.2.1 y,by omega,lg'⟩,fun hc H' s'=>hg ?_ H' s'⟩
 rcases hc with hc | hc
 ·omega
 ·rw[hw]at hc; omega
structure Free (r:Rl):Prop where
 ok:bj r
 nd:r.ws.Nodup
 st:∀ i,i<r.rs.length→∀ y,ao r i y≠none
theorem Free.aft{r:Rl}(f:Free r):∀ (ys:List Str) (i:Nat),i<r.rs.length→after r i ys≠none
 | [],i,_=>by intro z; cases z
 | y::ys,i,hi=>by
  rw[aK]
  cases h:ao r i y with
  | none=>exact absurd h (f.st i hi y)
  | some j=>exact f.aft ys j (dj f.ok hi h)
theorem nq{br:Pr→Bool}{P:Pr→Prop}:∀ (ts o:List Pr),(∀ t∈ts,P t)→(∀ t∈o,P t)→∀ t∈ts.foldl (bP br) o,P t
 | [],o,_,ho=>ho
 | t::ts,o,ht,ho=>by
  refine nq ts _ (fun x hx=>ht x (List.mem_cons_of_mem _ hx)) fun x hx=>?_
  unfold bP at hx;split at hx
  ·exact ho x hx
  ·split at hx
   ·exact ho x hx
   ·rcases List.mem_append.mp hx with z | z
    ·exact ho x z
    ·rw[List.mem_singleton.mp z]; exact ht t List.mem_cons_self
theorem qM{br:Pr→Bool}{a b:Rl}{us:List Str}(oa:bj a)(ob:bj b)(b0:br (some 0,some 0)=false){P:Pr→Prop}(h0:P (some 0,some 0))(hs:∀ p y,fu a b p→P p→P (c_ a b p y)):∀ r,∀ t∈aG br a b us r,P t
 | 0=>fun t ht=>by
  simp[aG]at ht
  rw[ht]; exact h0
 | r+1=>by
  have ih:=qM (us:=us) oa ob b0 h0 hs r;unfold aG;split
  ·rename_i hr
   refine nq _ _ (fun t ht=>?_) ih
   obtain⟨y,_,rfl⟩:=List.mem_map.mp ht
   exact hs _ y ((eU (us:=us) oa ob b0 r).1.inn _ (getD_mem hr)) (ih _ (getD_mem hr))
  ·exact ih
theorem iI{br:Pr→Bool}{a b:Rl}{us:List Str}{M K:Nat}(ft:Fit br a b)(hB:gT a b us)(hM:M≤140)(e:M=(aG br a b us M).length)(mono:∀ (p:Pr) (ys:List Str),br p=true→br (bQ a p.1 ys,bQ b p.2 ys)=true)(G:Pr→Nat){P:Pr→Prop}(h0:P (some 0,some 0))(hs:∀ p y,fu a b p→P p→P (c_ a b p y))(hG:∀ p,fu a b p→P p→br p=false→G p<K)
  (h:∀ p p',fu a b p→fu a b p'→P p→P p'→br p=false→br p'=false→G p=G p'→∀ ys,br (bQ a p.1 ys,bQ b p.2 ys)=br (bQ a p'.1 ys,bQ b p'.2 ys)):dy (ae (bG br a b us M).rs)≤K:=by
 obtain⟨hw,ok⟩:=ft.rl hB hM e
 have hlen:(bG br a b us M).rs.length=M:=gH M
 have key:∀ i,i<M→∃ p,(aG br a b us M)[i]? = some p∧fu a b p∧P p∧br p=false∧(aG br a b us M).getD i (none,none)=p:=fun i hi=>by
  have hl:i<(aG br a b us M).length:=by omega
  exact⟨_,List.getElem?_eq_getElem hl,hw.ord.inn _ (List.getElem_mem hl),qM ft.oa ft.ob ft.b0 h0 hs M _ (List.getElem_mem hl),hw.ord.nb _ (List.getElem_mem hl),by rw[List.getD_eq_getElem?_getD,List.getElem?_eq_getElem hl]; rfl⟩
 refine yo ok hB.1 (fun i=>G ((aG br a b us M).getD i (none,none))) (fun i hi=>?_) fun i j hi hj hij ys=>?_
 ·rw[hlen]at hi
  obtain⟨p,_,h1,h2,h3,h4⟩:=key i hi
  show G _<K
  rw[h4]; exact hG p h1 h2 h3
 ·rw[hlen]at hi hj
  obtain⟨p,p1,p2,p3,p4,p5⟩:=key i hi
  obtain⟨p',q1,q2,q3,q4,q5⟩:=key j hj
  have hij':G ((aG br a b us M).getD i (none,none))=G ((aG br a b us M).getD j (none,none)):=hij
  rw[p5,q5]at hij'
  have e1:=gi mono hw ys i hi p p1;have e2:=gi mono hw ys j hj p' q1;rw[Ne,Ne,e1,e2,h p p' p2 q2 p3 q3 p4 q4 hij' ys]
theorem ji{br:Pr→Bool}{a b d:Rl}{H:Hp}{Q:VK}{G:Hp→Prop}(ft:Fit br a b)(mono:∀ (p:Pr) (ys:List Str),br p=true→br (bQ a p.1 ys,bQ b p.2 ys)=true)(ld:fC d)(hs:d.s=a.s)(hl:∀ ys,br (after a 0 ys,after b 0 ys)=false ↔ kp d ys)(hc:∀ (us:List Str) (M:Nat),gT a b us→M≤140→M=(aG br a b us M).length→dy (ae (bG br a b us M).rs)≤60)(hw:d.ws.length≤16)
  (hq:∀ t H',Same H H'→FreshR H H' t d→Q (.ref t) H'):JoinX br a b H Q G:=by
 refine⟨ft,fun us M hB so hM e=>?_⟩
 obtain⟨l,ls,sub,l1,l2,lg⟩:=fh ft hB so hM e mono
 have ed:aR (bG br a b us M)=d:=xV l ld (by rw[ls,hs]) fun ys=>by rw[lg,hl]
 have hcc:=hc us M hB hM e;rw[ed];refine⟨fun _ _ t H' s' hF=>hq t H' s' hF,fun z=>?_⟩
 rcases z with z | z <;> omega
theorem some_of{o:Option Nat}(h:o≠none):∃ k,o=some k:=by
 cases o with
 | none=>exact absurd rfl h
 | some k=>exact⟨k,rfl⟩
theorem Free.go{r:Rl}(f:Free r){o:Option Nat}{y:Str}(h1:∀ k,o=some k→k<r.rs.length)(h:o≠none):fT r o y≠none:=by
 obtain⟨k,rfl⟩:=some_of h
 exact f.st k (h1 k rfl) y
theorem Free.fO{r:Rl}(f:Free r){o:Option Nat}(h1:∀ k,o=some k→k<r.rs.length)(h:o≠none)(ys:List Str):∃ k,bQ r o ys=some k:=by
 obtain⟨k,rfl⟩:=some_of h
 exact some_of (f.aft ys k (h1 k rfl))
theorem yH{a b:Rl}{H:Hp}{Q:VK}{G:Hp→Prop}(la:fC a)(fb:Free b)(h1:a.rs.length * b.rs.length≤140)(h2:a.ws.length+b.ws.length≤18)(h3:a.rs.length≤60)(h4:a.ws.length≤16)(hq:∀ t H',Same H H'→FreshR H H' t a→Q (.ref t) H'):JoinX bU a b H Q G:=by
 have ft:Fit bU a b:=gN la.ok fb.ok la.nd fb.nd rfl (fun o ho=>Nat.le_trans (jJ ho) h1) h2
 refine ji ft eQ la rfl (fun ys=>?_) (fun us M hB hM e=>Nat.le_trans (iI ft hB hM e eQ (fun p=>p.1.getD 0) (P:=fun p=>p.2≠none) (by simp) (fun p y hi hp=>fb.go hi.2 hp) (fun p hi hp hbr=>?_) (fun p p' hi hi' hp hp' hbr hbr' hG ys=>?_)) h3) h4 hq
 ·rw[cX]
  exact⟨fun z=>z.1,fun z=>⟨z,fb.aft ys 0 fb.ok.n0⟩⟩
 ·obtain⟨k,hk⟩:=some_of ((cX p.1 p.2).mp hbr).1
  show p.1.getD 0<_
  rw[hk]; exact hi.1 k hk
 ·obtain⟨k,hk⟩:=some_of ((cX p.1 p.2).mp hbr).1
  obtain⟨k',hk'⟩:=some_of ((cX p'.1 p'.2).mp hbr').1
  have hG':p.1.getD 0=p'.1.getD 0:=hG
  rw[hk,hk']at hG'
  have e:k=k':=hG'
  subst e;obtain⟨x,hx⟩:=fb.fO hi.2 hp ys
  obtain⟨x',hx'⟩:=fb.fO hi'.2 hp' ys
  rw[hk,hk',hx,hx'];simp[bU]
theorem xf{a b:Rl}{H:Hp}{Q:VK}{G:Hp→Prop}(fa:Free a)(lb:fC b)(hs:b.s=a.s)(h1:a.rs.length * b.rs.length≤140)(h2:a.ws.length+b.ws.length≤18)(h3:b.rs.length≤60)(h4:b.ws.length≤16)(hq:∀ t H',Same H H'→FreshR H H' t b→Q (.ref t) H'):JoinX bU a b H Q G:=by
 have ft:Fit bU a b:=gN fa.ok lb.ok fa.nd lb.nd rfl (fun o ho=>Nat.le_trans (jJ ho) h1) h2
 refine ji ft eQ lb hs (fun ys=>?_) (fun us M hB hM e=>Nat.le_trans (iI ft hB hM e eQ (fun p=>p.2.getD 0) (P:=fun p=>p.1≠none) (by simp) (fun p y hi hp=>fa.go hi.1 hp) (fun p hi hp hbr=>?_) (fun p p' hi hi' hp hp' hbr hbr' hG ys=>?_)) h3) h4 hq
 ·rw[cX]
  exact⟨fun z=>z.2,fun z=>⟨fa.aft ys 0 fa.ok.n0,z⟩⟩
 ·obtain⟨k,hk⟩:=some_of ((cX p.1 p.2).mp hbr).2
  show p.2.getD 0<_
  rw[hk]; exact hi.2 k hk
 ·obtain⟨k,hk⟩:=some_of ((cX p.1 p.2).mp hbr).2
  obtain⟨k',hk'⟩:=some_of ((cX p'.1 p'.2).mp hbr').2
  have hG':p.2.getD 0=p'.2.getD 0:=hG
  rw[hk,hk']at hG'
  have e:k=k':=hG'
  subst e;obtain⟨x,hx⟩:=fa.fO hi.1 hp ys
  obtain⟨x',hx'⟩:=fa.fO hi'.1 hp' ys
  rw[hk,hk',hx,hx'];simp[bU]
def je(S:Int):Rl:=⟨S,[],[[]]⟩
theorem AA{S:Int}(h:S=1∨S=2):fC (je S):=by
 have hb:∀ t,aC [[]] t=[0]:=fun t=>by
  induction t with
  | zero=>rfl
  | succ t ih=>
   show (match (aC [[]] t)[t]? with | some r=>aH (aC [[]] t) (([[]]:aY).getD r []) | none=>aC [[]] t)=_
   rw[ih]
   match t with
   | 0=>rfl
   | t+1=>rfl
 refine⟨⟨h,Nat.zero_le _,Nat.le_refl 1,show 1≤140 by decide,fun x hx=>?_,fun x hx=>by cases hx⟩,.nil,rfl,show ae [[]]=List.range 1 by decide,⟨fun t=>?_,fun t ht=>?_⟩,fun y hy=>by cases hy⟩
 ·have e:x=[]:=List.mem_singleton.mp hx
  subst e;exact⟨rfl,fun k hk=>by cases hk⟩
 ·show aC [[]] t=List.range (aC [[]] t).length
  rw[hb t]; rfl
 ·show t<(aC [[]] t).length
  rw[hb t];exact ht
theorem C8(S:Int)(ys:List Str):kp (je S) ys:=by
 unfold kp;rw[lV (r:=je S) (fun y _ z=>by cases z) 0]
 intro z; cases z
theorem qE{a b:Rl}{H:Hp}{Q:VK}{G:Hp→Prop}(oa:bj a)(na:a.ws.Nodup)(ob:bj b)(nb:b.ws.Nodup)(hf:Free a∨Free b)(h1:(a.rs.length+1) * (b.rs.length+1)≤141)(h2:a.ws.length+b.ws.length≤18)(hq:∀ t H',Same H H'→FreshR H H' t (je a.s)→Q (.ref t) H'):JoinX b7 a b H Q G:=by
 have ft:Fit b7 a b:=gN oa ob na nb rfl (fun o ho=>by have:=mj ho; omega) h2
 refine ji ft fQ (AA oa.s) rfl (fun ys=>⟨fun _=>C8 _ ys,fun _=>?_⟩) (fun us M hB hM e=>Nat.le_trans (?_:_≤1) (by decide)) (Nat.zero_le _) hq
 ·rw[iX]
  rcases hf with f | f
  ·exact .inl (f.aft ys 0 f.ok.n0)
  ·exact .inr (f.aft ys 0 f.ok.n0)
 ·rcases hf with f | f
  ·refine iI ft hB hM e fQ (fun p=>0) (P:=fun p=>p.1≠none) (by simp) (fun p y hi hp=>f.go hi.1 hp) (fun _ _ _ _=>by omega) (fun p p' hi hi' hp hp' hbr hbr' hG ys=>?_)
   obtain⟨x,hx⟩:=f.fO hi.1 hp ys
   obtain⟨x',hx'⟩:=f.fO hi'.1 hp' ys
   rw[hx,hx']; simp[b7]
  ·refine iI ft hB hM e fQ (fun p=>0) (P:=fun p=>p.2≠none) (by simp) (fun p y hi hp=>f.go hi.2 hp) (fun _ _ _ _=>by omega) (fun p p' hi hi' hp hp' hbr hbr' hG ys=>?_)
   obtain⟨x,hx⟩:=f.fO hi.2 hp ys
   obtain⟨x',hx'⟩:=f.fO hi'.2 hp' ys
   rw[hx,hx']; simp[b7]
def T(x:Str):List Nat:=x.cps.toList
theorem z9(x y:Str):T (x++y)=T x++T y:=by
 show (x.cps++y.cps).toList=_
 simp[T]
theorem gZ(x:Str):(T x).length=x.length:=by simp[T,Str.length]
theorem zk{α : Type}{ss:List α}{R:Nat→α→Prop}{i:Nat}{x:α}(hn:ss.length=i)(h:∀ (k:Nat) s,ss[k]? = some s→R k s)(hx:R i x):∀ (k:Nat) s,(ss++[x])[k]? = some s→R k s:=by
 intro k s e
 rcases Nat.lt_or_ge k ss.length with z | z
 ·rw[List.getElem?_append_left z]at e; exact h k s e
 ·rw[List.getElem?_append_right z]at e
  have hk:k - ss.length=0:=by
   have:=(List.getElem?_eq_some_iff.mp e).1
   simp at this; omega
  rw[hk]at e
  have:x=s:=by simpa using e
  subst this;rw[show k=i by omega]; exact hx
section
variable{P:Program}{w:World}{K:PySem.W.Frag}{mg:Str→Option Value}{base:Heap}
def jn(z:Int):Nat:=letters.cps.toList.getD (z % 26).toNat 0
theorem vc(z:Int):letters.length≤sizeLine∧eC letters.cps.toList (z % 26)=some (jn z):=by
 have hz:(z % 26).toNat<letters.cps.toList.length:=by
  show (z % 26).toNat<26
  omega
 refine⟨by decide,?_⟩
 have q:=aZ (List.getElem?_eq_getElem hz);rw[show (((z % 26).toNat:Nat):Int)=z % 26 by omega]at q
 rw[q];unfold jn;rw[List.getD_eq_getElem?_getD,List.getElem?_eq_getElem hz]; rfl
theorem yJ{y z:Int}(h:jn y=jn z):y % 26=z % 26:=by
 have key:∀ i j:Fin 26,letters.cps.toList.getD i.val 0=letters.cps.toList.getD j.val 0→i=j:=by decide +kernel
 have:=key ⟨(y % 26).toNat,by omega⟩ ⟨(z % 26).toNat,by omega⟩ h
 have:=congrArg Fin.val this
 simp only[]at this
 omega
theorem wt(x:Str)(c:Nat):(x++(⟨#[c]⟩ : Str)).cps.toList=x.cps.toList++[c]:=by
 show (x.cps ++ #[c]).toList=_
 simp
def iP:Sp:=fun vs H Q _=>∃ (c:Int) (n:Nat) (sd:Int),vs=[.int c,.int n,.int sd]∧n≤26∧(sd=1∨sd=2)∧∀ (p:Addr) (H':Hp) (ss:List Str),Same H H'→H p=none→H' p=some (.lst (ss.map V.str))→ss.length=n→(∀ x∈ss,x.length≤10)→ss.Nodup→Q (.ref p) H'
theorem ue(D:DefAt K mg "_law_words" aO) (z_range:mg "range" = none) (z_int:mg "int" = none) (z_str:mg "str" = none):Cal P w K mg base 1 "_law_words" ["_law_cell", "_law_many", "_law_sides"] iP:=by
 refine D.cal (k:=0) sc_law_words (fun _ _ _ _ _ _ us hl=>match us,hl with | [_,_,_],_=>rfl) (fun vs H Q E h=>by obtain⟨c,n,sd,rfl,_⟩:=h; rfl) (fun f cdv A outer s H vs Q E hr h=>?_)
 obtain⟨c,n,sd,rfl,n26,hsd,q⟩:=h
 refine⟨_,(ah (aA 3 sc_law_words.nd dh)
   (ah (aA 4 sc_law_words.nd (aE bH af (aE b9 (pv 0) af)))
   (ah (aA 5 sc_law_words.nd (aE b9 (aE cE (pv 0) af) (pv 4)))
   (ah (aA 6 sc_law_words.nd (bw ac))
   (ah (cB PassesOwn.never rfl (eW Cd z_range (aa (pv 1) ac)) (bA 7 sc_law_words.nd) (ah (aA 8 sc_law_words.nd dh)
   (ah (cB PassesOwn.never rfl (eW Cd z_range (aa (pv 4) ac)) (bA 9 sc_law_words.nd) (ah (aA 10 sc_law_words.nd (aE jN (pv 7) (iz nv z_int xA (aa (e_ dG (pv 9) (pv 5) (aV _)) ac))))
   (aj (aA 8 sc_law_words.nd (aE bH (pv 8) (aP (bi K) (pv 3) (aE b9 (aE bH (aE bH (aE cE (pv 0) (aE bH (pv 9) af)) (aE jN af (pv 9))) (pv 10)) af) (fun _ _=>rfl)))))))
   (ah (bT (aM dG (pv 2) af (aV _)) (aj (aA 8 sc_law_words.nd (aE bH (aE bH (iz xw z_str Bt (aa (aE bH af (aE b9 (aE cE (aE cE (pv 0) af) (aE bH af (aE b9 (pv 7) af))) af)) ac)) dh) (pv 8)))) bv)
   (aj (cM (dc K PySem.F.plainAttrs_list PySem.F.slot_list_append PySem.F.type_list_append cq (pv 6) (aa (pv 8) ac))))))))
   (aj (aN (pv 6)))))))),?_⟩
 walk_at "rd1";walk_at "nx";refine⟨by decide,?_⟩
 have hsz0:∃ z:Nat,1+c % 8=(z:Int)∧1≤z∧z≤8:=⟨(1+c % 8).toNat,by omega,by omega,by omega⟩
 obtain⟨sz,esz,sz0,sz1⟩:=hsz0
 rw[esz];walk_at "nx";refine⟨⟨by decide,by decide⟩,by omega,?_⟩
 have hat0:∃ z:Nat,c / 8 % (sz:Int)=(z:Int)∧z<sz:=⟨(c / 8 % (sz:Int)).toNat,by have:=Int.emod_nonneg (c / 8) (show (sz:Int)≠0 by omega); omega,by have:=Int.emod_lt_of_pos (c / 8) (show (0:Int)<sz by omega); have:=Int.emod_nonneg (c / 8) (show (sz:Int)≠0 by omega); omega⟩
 obtain⟨at',eat,hat⟩:=hat0
 rw[eat];walk_at "nx";refine⟨by decide,fun p hp=>?_⟩
 generalize hH2:upd H p _=H2
 have sm2:=aw hH2 hp;have e2:=aS hH2;walk_at "nx";refine⟨by omega,by omega,?_⟩
 refine fv (fun i σ H'=>∃ (ss:List Str) (o7 o8 o9 o10:Option V),σ=[some (.int c),some (.int n),some (.int sd),some (.str letters),some (.int sz),some (.int at'),some (.ref p),o7,o8,o9,o10]∧Same H H'∧H' p=some (.lst (ss.map V.str))∧ss.length=i∧(∀ x∈ss,x.length≤10)∧∀ (k:Nat) x,ss[k]? = some x→x.cps.toList[at'+if sd=2 then 2 else 0]? = some (jn (c / ((at':Int)+3)+5 * at'+k * 1)))
  ⟨[],none,none,none,none,rfl,sm2,e2,rfl,by simp,by simp⟩ ?_ ?_
 ·rintro i σ H' hi ⟨ss,o7,o8,o9,o10,rfl,sm,hl,hsn,hsl,hsk⟩
  rw[Int.toNat_natCast]at hi
  walk_at "rd1";walk_at "nx";refine⟨by omega,by omega,?_⟩
  refine fv (fun j σ H2=>∃ (x:Str) (o8 o9:Option V),σ=[some (.int c),some (.int n),some (.int sd),some (.str letters),some (.int sz),some (.int at'),some (.ref p),some (.int (0+(i:Int))),some (.str x),o8,o9]∧H'=H2∧x.length=j∧(at'<j→x.cps.toList[at']? = some (jn (c / ((at':Int)+3)+5 * at'+i * 1))))
   ⟨_,_,_,rfl,rfl,rfl,fun h=>absurd h (by omega)⟩ ?_ ?_
  ·rintro j σ H2 hj ⟨x,o8,o9,rfl,rfl,hx,hxa⟩
   rw[Int.toNat_natCast]at hj
   walk_at "rd1";refine⟨.inl ⟨by omega,by omega⟩,?_⟩
   walk_at "nx";refine⟨⟨by omega,by omega⟩,.inl ⟨by decide,by decide⟩,by decide,?_⟩
   obtain⟨l1,l2⟩:=vc (c / (0+(j:Int)+3)+5 * (0+(j:Int))+(0+(i:Int)) * if 0+(j:Int)=(at':Int) then 1 else 0)
   refine⟨_,l1,l2,?_,x++⟨#[jn (c / (0+(j:Int)+3)+5 * (0+(j:Int))+(0+(i:Int)) * if 0+(j:Int)=(at':Int) then 1 else 0)]⟩,_,_,rfl,?_,fun hlt=>?_⟩
   ·show x.length+1≤sizeLine
    exact cJ (by omega)
   ·rw[xY,hx]
   ·have hxl:x.cps.toList.length=j:=by rw[Array.length_toList]; exact hx
    rw[wt];rcases Nat.lt_or_ge at' j with g | g
    ·rw[List.getElem?_append_left (by omega)]; exact hxa g
    ·have e:at'=j:=by omega
     subst e;rw[List.getElem?_append_right (by omega),hxl,Nat.sub_self,if_pos (by omega),Int.zero_add,Int.zero_add]; rfl
  ·rintro σ H2 ⟨x,o8,o9,rfl,rfl,hx,hxa⟩
   rw[Int.toNat_natCast]at hx hxa
   dsimp only
   refine pk (fun σ' H2=>∃ (y:Str),σ'=[some (.int c),some (.int n),some (.int sd),some (.str letters),some (.int sz),some (.int at'),some (.ref p),some (.int (0+(i:Int))),some (.str y),o8,o9]∧H'=H2∧y.length≤10∧y.cps.toList[at'+if sd=2 then 2 else 0]? = some (jn (c / ((at':Int)+3)+5 * at'+i * 1))) (fun k hk=>?_) ?_
   ·rcases hsd with rfl | rfl
    ·walk_at "rd1"
     refine bg (fun c=>absurd c (by decide)) (fun _=>?_)
     exact hk _ _ ⟨x,rfl,rfl,by omega,hxa hat⟩
    ·walk_at "rd1"
     have hm4:0<1+(0+(i:Int)) % 4∧1+(0+(i:Int)) % 4<1073741824:=by omega
     generalize hG:c / 64 / (1+(0+(i:Int)) % 4)=g at *
     have hd:1+g % 2=1∨1+g % 2=2:=by omega
     have hl1:(Str.ofString (toString (1+g % 2))).length=1:=by rcases hd with e | e <;> rw[e] <;> decide +kernel
     have hlg:(1+g % 2).natAbs.log2<1920:=by rcases hd with e | e <;> rw[e] <;> decide +kernel
     have hdot:(Str.ofString ".").length=1:=by decide +kernel
     have hpre:(Str.ofString (toString (1+g % 2))++Str.ofString ".").length=2:=by rw[← gZ,z9,List.length_append,gZ,gZ,hl1,hdot]
     have hall:T (Str.ofString (toString (1+g % 2))++Str.ofString "." ++ x)=T (Str.ofString (toString (1+g % 2))++Str.ofString ".")++T x:=z9 _ _
     refine⟨⟨by decide,by decide⟩,by decide,hm4,by decide,hlg,by rw[hl1,hdot]; exact cJ (by decide),by rw[hpre]; exact cJ (by omega),?_⟩
     refine hk _ _ ⟨_,rfl,rfl,?_,?_⟩
     ·rw[← gZ,hall,List.length_append,gZ,gZ,hpre]; omega
     ·show (T _)[at'+2]? = _
      rw[hall,List.getElem?_append_right (by rw[gZ,hpre]; omega),gZ,hpre,Nat.add_sub_cancel]
      exact hxa hat
   rintro σ' H2 ⟨y,rfl,rfl,hy10,hyat⟩
   walk_at "nx";refine⟨⟨_,SqL.of hl⟩,_,hl,by rw[List.length_map]; exact cA (by omega),?_⟩
   refine⟨ss++[y],_,_,_,_,rfl,sm.upd hp _,by rw[ar,List.map_append]; rfl,by simp[hsn],fun z hz=>?_,zk hsn hsk hyat⟩
   rcases List.mem_append.mp hz with z' | z'
   ·exact hsl z z'
   ·rw[List.mem_singleton.mp z']; exact hy10
 ·rintro σ H' ⟨ss,o7,o8,o9,o10,rfl,sm,hl,hsn,hsl,hsk⟩
  rw[Int.toNat_natCast]at hsn
  walk_at "nx";refine q p H' ss sm hp hl hsn hsl ?_
  rw[List.nodup_iff_pairwise_ne,List.pairwise_iff_getElem];intro a b ha hb hab e
  have h1:=hsk a _ (List.getElem?_eq_getElem ha);have h2:=hsk b _ (List.getElem?_eq_getElem hb);rw[e,h2]at h1
  have h3:=yJ (Option.some.inj h1);omega
end
theorem gy:∀ (x:List (Option Nat)) (o:List Nat),(∀ k,some k∈x→k∈o)→aH o x=o
 | [],o,_=>rfl
 | none::x,o,h=>gy x o fun k hk=>h k (List.mem_cons_of_mem _ hk)
 | some k::x,o,h=>by
  show aH (if k∈o then o else o++[k]) x=o
  rw[if_pos (h k List.mem_cons_self)];exact gy x o fun k hk=>h k (List.mem_cons_of_mem _ hk)
theorem iW{e:Nat}:∀ (x:List (Option Nat)) (o:List Nat),(∀ k,some k∈x→k∈o∨k=e)→some e∈x→e∉o→aH o x=o++[e]
 | none::x,o,h,he,hn=>iW x o (fun k hk=>h k (List.mem_cons_of_mem _ hk)) (by simpa using he) hn
 | some k::x,o,h,he,hn=>by
  show aH (if k∈o then o else o++[k]) x=_
  by_cases hk:k∈o
  ·rw[if_pos hk]
   refine iW x o (fun k hk=>h k (List.mem_cons_of_mem _ hk)) ?_ hn
   rcases List.mem_cons.mp he with z | z
   ·cases z; exact absurd hk hn
   ·exact z
  ·rw[if_neg hk]
   have e1:k=e:=(h k List.mem_cons_self).resolve_left hk
   subst e1;refine gy x _ fun j hj=>?_
   rcases h j (List.mem_cons_of_mem _ hj) with z | z
   ·exact List.mem_append_left _ z
   ·rw[z]; simp
def dE(u:Str)(n i:Nat)(y:Str):Option Nat:=if y=u then some ((i+1) % n) else if i=0 then some 0 else none
def fi(S:Int)(ws:List Str)(u:Str)(n:Nat):Rl:=⟨S,ws,(List.range n).map fun i=>ws.map (dE u n i)⟩
theorem CH{S:Int}{ws:List Str}{u v:Str}{n:Nat}(hS:S=1∨S=2)(hn:2≤n)(hn2:n≤60)(ne:u≠v)(nd:ws.Nodup)(so:sortedS ws=true)(hw:∀ y,y∈ws ↔ y=u∨y=v)(hl:∀ y∈ws,y.length≤10):Ctr (fi S ws u n) u v n:=by
 have hlen:(fi S ws u n).rs.length=n:=by simp[fi]
 have hrow:∀ i,i<n→(fi S ws u n).rs.getD i []=ws.map (dE u n i):=fun i hi=>by
  rw[ax (by rw[hlen]; exact hi)]
  simp[fi]
 have hle:ws.length≤2:=eV (m:=[u,v]) nd fun y hy=>by simpa using (hw y).mp hy
 have st:∀ i y,i<n→y∈ws→ao (fi S ws u n) i y=dE u n i y:=fun i y hi hy=>by
  have hx:ws.idxOf y<ws.length:=List.idxOf_lt_length_iff.mpr hy
  unfold ao;rw[if_pos (show y∈(fi S ws u n).ws from hy),hrow i hi];show (ws.map (dE u n i)).getD (ws.idxOf y) none=_
  rw[ax (by rw[List.length_map]; exact hx),List.getElem_map,List.getElem_idxOf]
 have mem:∀ i k,some k∈ws.map (dE u n i)→k=(i+1) % n∨(i=0∧k=0):=fun i k hk=>by
  obtain⟨y,hy,e⟩:=List.mem_map.mp hk
  unfold dE at e;split at e
  ·cases e; exact .inl rfl
  ·split at e
   ·rename_i h; cases e; exact .inr ⟨h,rfl⟩
   ·cases e
 have bf:∀ t,aC (fi S ws u n).rs t=List.range (min (t+1) n):=fun t=>by
  induction t with
  | zero=>rw[Nat.min_eq_left (by omega)]; rfl
  | succ t ih=>
   show (match (aC (fi S ws u n).rs t)[t]? with | some r=>aH (aC (fi S ws u n).rs t) ((fi S ws u n).rs.getD r []) | none=>aC (fi S ws u n).rs t)=_
   rw[ih];rcases Nat.lt_or_ge t n with h | h
   ·rw[Nat.min_eq_left (by omega),List.getElem?_range (by omega)]
    show aH (List.range (t+1)) ((fi S ws u n).rs.getD t [])=_
    rw[hrow t h];rcases Nat.lt_or_ge (t+1) n with h2 | h2
    ·have em:(t+1) % n=t+1:=Nat.mod_eq_of_lt h2
     have en:=iW (e:=t+1) (ws.map (dE u n t)) (List.range (t+1)) (fun k hk=>by
      rcases mem t k hk with z | z
      ·exact .inr (z.trans em)
      ·exact .inl (List.mem_range.mpr (by omega))) (List.mem_map.mpr ⟨u,(hw u).mpr (.inl rfl),by unfold dE; rw[if_pos rfl,em]⟩) (by simp)
     rw[en,Nat.min_eq_left (by omega),← List.range_succ]
    ·rw[gy _ _ fun k hk=>?_,show t+1=n by omega,Nat.min_eq_right (by omega)]
     rcases mem t k hk with z | z
     ·rw[z]; exact List.mem_range.mpr (by have:=Nat.mod_lt (t+1) (show n>0 by omega); omega)
     ·exact List.mem_range.mpr (by omega)
   ·rw[Nat.min_eq_right (by omega),Nat.min_eq_right (by omega),List.getElem?_eq_none (by simp; omega)]
 refine⟨⟨hS,by show ws.length≤18; omega,by rw[hlen]; omega,by rw[hlen]; omega,fun x hx=>?_,hl⟩,nd,so,ne,hn,hlen,hw,fun i hi=>?_,fun i hi=>?_,⟨fun t=>?_,fun t ht=>?_⟩⟩
 ·obtain⟨i,hi,rfl⟩:=List.mem_map.mp hx
  refine⟨by show (List.map _ _).length=ws.length; rw[List.length_map],fun k hk=>?_⟩
  rw[hlen];rcases mem i k hk with z | z
  ·rw[z]; exact Nat.mod_lt _ (by omega)
  ·omega
 ·rw[st i u hi ((hw u).mpr (.inl rfl))]
  unfold dE;rw[if_pos rfl]
 ·rw[st i v hi ((hw v).mpr (.inr rfl))]
  unfold dE;rw[if_neg (Ne.symm ne)]
 ·rw[bf t,List.length_range]
 ·rw[bf t,List.length_range]
  rw[hlen]at ht
  omega
def cV(u v:Str):List Str:=if sortedS [u,v]=true then [u,v] else [v,u]
theorem s_(u v:Str):sortedS (cV u v)=true:=by
 unfold cV;split
 ·assumption
 ·rename_i h
  refine gm _ (List.pairwise_cons.mpr ⟨fun y hy=>?_,by simp⟩)
  rw[List.mem_singleton.mp hy];refine Classical.byContradiction fun hn=>h (gm _ (List.pairwise_cons.mpr ⟨fun y hy=>?_,by simp⟩))
  rw[List.mem_singleton.mp hy];rcases List.le_total u.cps.toList v.cps.toList with z | z
  ·exact z
  ·exact absurd z hn
theorem kC(u v y:Str):y∈cV u v ↔ y=u∨y=v:=by
 unfold cV;split <;> simp[or_comm]
theorem sr{u v:Str}(h:u≠v):(cV u v).Nodup:=by
 unfold cV;split <;> simp[h,Ne.symm h]
theorem sg{u v:Str}(h:u≠v){ts:List Str}(hp:ts.Perm [u,v])(hs:sortedS ts=true):ts=cV u v:=
 fZ (hp.nodup_iff.mpr (by simp[h])) (sr h) hs (s_ u v) fun y=>by rw[hp.mem_iff,kC]; simp
theorem B4{u:Str}{n i:Nat}{y:Str}:ak (dE u n i y)=if y=u then V.int ((0+(i:Int)+1) % (n:Int)) else if i=0 then V.int 0 else V.non:=by
 unfold dE;split
 ·show V.int (((i+1) % n:Nat):Int)=_
  rw[Int.zero_add]; rfl
 ·split <;> rfl
def oy:Sp:=fun vs H Q _=>∃ (S:Int) (u v:Str) (n:Nat),vs=[.int S,.str u,.str v,nV n]∧(S=1∨S=2)∧u≠v∧u.length≤10∧v.length≤10∧2≤n∧n≤60∧∀ (t:Addr) (H':Hp) (r:Rl),Same H H'→RuleAt H' t r→r.s=S→Ctr r u v n→Q (.ref t) H'
section
variable{P:Program}{w:World}{K:PySem.W.Frag}{mg:Str→Option Value}{base:Heap}
theorem CJ(D:DefAt K mg "_law_counter" a_) (z_range:mg "range" = none) (z_sorted:mg "sorted" = none):Cal P w K mg base 1 "_law_counter" ["_law_sides", "_law_step", "_law_zero", "_law_many"] oy:=by
 refine D.cal (k:=0) sc_law_counter (fun _ _ _ _ _ _ us hl=>match us,hl with | [_,_,_,_],_=>rfl) (fun vs H Q E h=>by obtain⟨_,_,_,_,rfl,_⟩:=h; rfl) (fun f cdv A outer s H vs Q E hr h=>?_)
 obtain⟨S,u,v,n,rfl,hS,ne,hu,hv,hn,hn2,q⟩:=h
 refine⟨_,(ah (aA 4 sc_law_counter.nd (bw ac))
   (ah (cB PassesOwn.never rfl (eW Fz z_range (aa (pv 3) ac)) (bA 5 sc_law_counter.nd) (ah (aA 6 sc_law_counter.nd (bw ac))
   (ah (cB PassesOwn.never rfl (b_ K (bF (dg K) z_sorted de (aa (bw (aa (pv 1) (aa (pv 2) ac))) ac))) (bA 7 sc_law_counter.nd) (aj (bT (aM dG (pv 7) (pv 1) (aV _)) (aj (cM (dc K PySem.F.plainAttrs_list PySem.F.slot_list_append PySem.F.type_list_append cq (pv 6) (aa (aE b9 (aE bH (pv 5) af) (pv 3)) ac)))) (aj (bT (aM dG (pv 5) af (aV _)) (aj (cM (dc K PySem.F.plainAttrs_list PySem.F.slot_list_append PySem.F.type_list_append cq (pv 6) (aa af ac)))) (aj (cM (dc K PySem.F.plainAttrs_list PySem.F.slot_list_append PySem.F.type_list_append cq (pv 6) (aa bZ ac)))))))))
   (aj (cM (dc K PySem.F.plainAttrs_list PySem.F.slot_list_append PySem.F.type_list_append cq (pv 4) (aa (pv 6) ac)))))))
   (aj (aN (dP (aa (pv 0) (aa (bF (dg K) z_sorted de (aa (bw (aa (pv 1) (aa (pv 2) ac))) ac)) (aa (pv 4) ac)))))))),?_⟩
 walk_at "rd1";refine⟨by decide,fun rp hrp=>?_⟩
 generalize hH1z:upd H rp _=H1
 have s1:=aw hH1z hrp;have e1:H1 rp=some (.lst (([]:List Addr).map V.ref)):=aS hH1z
 walk_at "nx";refine⟨by omega,by omega,?_⟩
 have hwl:(cV u v).length=2:=by unfold cV; split <;> rfl
 have hlw:∀ y∈cV u v,y.length≤10:=fun y hy=>by rcases(kC u v y).mp hy with e | e <;> rw[e] <;> assumption
 refine fv (fun i σ H'=>∃ (as:List Addr) (o5 o6 o7:Option V),σ=[some (.int S),some (.str u),some (.str v),some (nV n),some (.ref rp),o5,o6,o7]∧Same H H'∧NR H H' rp ((List.range i).map fun i=>(cV u v).map (dE u n i)) as) ⟨[],none,none,none,rfl,s1,⟨⟨e1,rfl,fun i a x z=>by simp at z⟩,by simp,List.nodup_nil⟩⟩ ?_ ?_
 ·rintro i σ H' hi ⟨as,o5,o6,o7,rfl,sm,hN⟩
  rw[Int.toNat_natCast]at hi
  walk_at "rd1";refine⟨by decide,fun rl hrl=>?_⟩
  generalize hH2z:upd H' rl _=H2
  have s2:=aw hH2z hrl;have e2:=aS hH2z;walk_at "nx";refine⟨by decide,fun pl hpl=>?_⟩
  generalize hH3z:upd H2 pl _=H3
  have s3:=aw hH3z hpl;have e3:H3 pl=some (.lst ([u,v].map V.str)):=aS hH3z
  refine⟨[u,v],SqL.of e3,show 2<64 by decide,fun sl ts hsl hp hs=>?_⟩
  have et:=sg ne hp hs;subst et;generalize hH4z:upd H3 sl _=H4
  have s4:=aw hH4z hsl;have e4:=aS hH4z;have s24:=s3.trans s4;have nsl:rl≠sl:=aF (s3 _ _ e2) hsl
  refine⟨⟨_,SqL.of e4⟩,?_⟩
  refine dL (xs:=(cV u v).map V.str) (fun k σ H''=>∃ (o7:Option V),σ=[some (.int S),some (.str u),some (.str v),some (nV n),some (.ref rp),some (.int (0+(i:Int))),some (.ref rl),o7]∧Same H' H''∧H'' rl=some (.lst ((((cV u v).take k).map (dE u n i)).map ak))∧H'' sl=some (.lst ((cV u v).map V.str)))
   ⟨_,rfl,s2.trans s24,s24 _ _ e2,e4⟩ (fun k σ H'' _ h=>by obtain⟨_,_,_,_,z⟩:=h; exact SqL.of z) ?_ ?_
  ·rintro k x σ H'' hx ⟨o7,rfl,sx,hl,hsl'⟩
   have hk:k<(cV u v).length:=by have:=(List.getElem?_eq_some_iff.mp hx).1; simpa using this
   rw[List.getElem?_map,List.getElem?_eq_getElem hk]at hx
   cases hx
   have fin:∀ z,z=ak (dE u n i (cV u v)[k])→∃ (o7:Option V),[some (.int S),some (.str u),some (.str v),some (nV n),some (.ref rp),some (.int (0+(i:Int))),some (.ref rl),some (.str (cV u v)[k])]=[some (.int S),some (.str u),some (.str v),some (nV n),some (.ref rp),some (.int (0+(i:Int))),some (.ref rl),o7]∧Same H' (upd H'' rl (.lst ((((cV u v).take k).map (dE u n i)).map ak++[z])))∧upd H'' rl (.lst ((((cV u v).take k).map (dE u n i)).map ak++[z])) rl=some (.lst ((((cV u v).take (k+1)).map (dE u n i)).map ak))∧upd H'' rl (.lst ((((cV u v).take k).map (dE u n i)).map ak++[z])) sl=some (.lst ((cV u v).map V.str)):=fun z e=>by
    subst e;refine⟨_,rfl,sx.upd hrl _,?_,by rw[am (Ne.symm nsl)]; exact hsl'⟩
    rw[ar,List.take_add_one,List.getElem?_eq_getElem hk,List.map_append,List.map_append]; rfl
   have hsm:((((cV u v).take k).map (dE u n i)).map ak).length<sizeLine:=by
    rw[List.length_map,List.length_map,List.length_take];exact cA (by omega)
   rw[B4]at fin
   walk_at "rd1";refine bg (fun c=>?_) (fun c=>?_)
   ·rw[if_pos c]at fin
    exact⟨⟨_,SqL.of hl⟩,by omega,_,hl,hsm,fin _ rfl⟩
   ·rw[if_neg c]at fin
    walk_at "rd1";refine bg (fun c=>?_) (fun c=>?_)
    ·rw[if_pos (by omega)]at fin
     exact⟨⟨_,SqL.of hl⟩,_,hl,hsm,fin _ rfl⟩
    ·rw[if_neg (by omega)]at fin
     exact⟨⟨_,SqL.of hl⟩,_,hl,hsm,fin _ rfl⟩
  ·rintro σ H'' ⟨o7,rfl,sx,hl,_⟩
   rw[List.length_map,List.take_length]at hl
   walk_at "nx";have hNx:=hN.mono sx;have hps:=hN.push sx sm hrl hl;refine⟨⟨_,SqL.of hNx.at'.1⟩,_,hNx.at'.1,by rw[List.length_map,hNx.at'.2.1,List.length_map,List.length_range]; exact cA (by omega),?_⟩
   refine⟨as++[rl],_,_,_,rfl,(sm.trans sx).upd hrp _,?_⟩
   rw[List.range_succ,List.map_append];exact hps
 ·rintro σ H' ⟨as,o5,o6,o7,rfl,sm,hN⟩
  rw[Int.toNat_natCast]at hN
  walk_at "nx";refine⟨by decide,fun pl hpl=>?_⟩
  generalize hH3z:upd H' pl _=H3
  have s3:=aw hH3z hpl;have e3:H3 pl=some (.lst ([u,v].map V.str)):=aS hH3z
  refine⟨[u,v],SqL.of e3,show 2<64 by decide,fun sl ts hsl hp hs=>?_⟩
  have et:=sg ne hp hs;subst et;generalize hH4z:upd H3 sl _=H4
  have s4:=aw hH4z hsl;have e4:=aS hH4z;refine⟨by decide,fun t ht=>?_⟩
  have s5:=bh ht (.tup [V.int S,V.ref sl,V.ref rp]);exact q t _ (fi S (cV u v) u n) (((sm.trans s3).trans s4).trans s5) ⟨sl,rp,as,ar,s5 _ _ e4,((hN.mono s3).mono s4 |>.mono s5).at'⟩ rfl (CH hS hn hn2 ne (sr ne) (s_ u v) (kC u v) hlw)
end
def gY(k:Nat):Pr→Bool:=if k=0 then bU else b7
theorem y3{a b:Rl}{k:Nat}(p:Pr)(ys:List Str)(h:gY k p=true):gY k (bQ a p.1 ys,bQ b p.2 ys)=true:=by
 unfold gY at h ⊢
 by_cases e:k=0
 ·rw[if_pos e]at h ⊢; exact eQ p ys h
 ·rw[if_neg e]at h ⊢; exact fQ p ys h
theorem yf{K:PySem.W.Frag}{H:Hp}{a b:Addr}{t1 t2:Option Nat}(h1:H a=some (.lst [ak t1,ak t2]))(h2:H b=some (.lst [V.non,V.non])):EqN K H (0+1) (.ref a) (.ref b) (b7 (t1,t2)):=by
 have fl:∀ o:Option Nat,bR (ak o)=true:=fun o=>by cases o <;> rfl
 refine .inr ⟨a,b,_,_,rfl,rfl,.inl ⟨SqL.of h1,SqL.of h2⟩,.inl ⟨fun i=>if i=0 then decide (t1=none) else decide (t2=none),rfl,fun i x y e1 e2=>?_,?_⟩⟩
 ·match i,e1,e2 with
  | 0,e1,e2=>
   cases e1; cases e2
   exact⟨fl t1,rfl,by cases t1 <;> rfl⟩
  | 1,e1,e2=>
   cases e1; cases e2
   exact⟨fl t2,rfl,by cases t2 <;> rfl⟩
  | i+2,e1,e2=>simp at e1
 ·show (decide (t1=none)&&decide (t2=none))=_
  simp[List.range_succ]
theorem A9(o o':Option Nat):ja V.non [ak o,ak o']=bU (o,o'):=by cases o <;> cases o' <;> rfl
def pP:Sp:=fun vs H Q _=>∃ (k:Nat) (wl cl rl:Addr) (a b:Rl) (u v x z:Str) (n m:Nat) (ys:List Str),vs=[nV k,.ref wl,.ref cl,.ref rl]∧k≤1∧H wl=some (.lst ([u,v,x,z].map V.str))∧H cl=some (.lst [nV n,nV m])∧H rl=some (.lst (ys.map V.str))∧(∀ y∈ys,y∈[u,v,x,z])∧Ctr2 a b u v x z n m∧
 ∀ H',Same H H'→Q (.bl (!gY k (after a 0 ys,after b 0 ys))) H'
section
variable{P:Program}{w:World}{K:PySem.W.Frag}{mg:Str→Option Value}{base:Heap}
theorem xJ(D:DefAt K mg "_law_kept" bM):Cal P w K mg base 1 "_law_kept" ["_law_way", "_law_words_here", "_law_counts", "_law_row"] pP:=by
 refine D.cal (k:=0) sc_law_kept (fun _ _ _ _ _ _ us hl=>match us,hl with | [_,_,_,_],_=>rfl) (fun vs H Q E h=>by obtain⟨_,_,_,_,_,_,_,_,_,_,_,_,_,rfl,_⟩:=h; rfl) (fun f cdv A outer s H vs Q E hr h=>?_)
 obtain⟨k,wl,cl,rl,a,b,u,v,x,z,n,m,ys,rfl,hk,hwl,hcl,hrl,hys,c2,q⟩:=h
 refine⟨_,(ah (aA 4 sc_law_kept.nd (bw (aa af (aa af ac))))
   (ah (cB PassesOwn.never rfl (b_ K (pv 3)) (bA 5 sc_law_kept.nd) (ah (aA 6 sc_law_kept.nd (dc K PySem.F.plainAttrs_list PySem.F.slot_list_index PySem.F.type_list_index (m9 K) (pv 1) (aa (pv 5) ac)))
   (ah (bT (PW.pt' (jc (aM dG (aE b9 (pv 6) af) af (aV _)) (il (aM kM (aP (bi K) (pv 4) (aE cE (pv 6) af) (fun _ _=>rfl)) bZ (aV _))))) (aj (fg (aE b9 (aE bH (aP (bi K) (pv 4) (aE cE (pv 6) af) (fun _ _=>rfl)) af) (aP (bi K) (pv 2) (aE cE (pv 6) af) (fun _ _=>rfl))) (fq (pv 4) (aE cE (pv 6) af) zS))) (aj (bT (aM xi (aP (bi K) (pv 4) (aE cE (pv 6) af) (fun _ _=>rfl)) af (aV _)) (aj (fg bZ (fq (pv 4) (aE cE (pv 6) af) zS))) bv)))
   (aj (bT (PW.pt' (fo (PW.pt' (jc (aM dG (pv 0) af (aV _)) (il (aM (Ct K) bZ (pv 4) (by with_unfolding_all rfl))))) (f_ (aM (Aw K hr) (pv 4) (bw (aa bZ (aa bZ ac))) (aV _))))) (aj (aN cO)) bv)))))
   (aj (aN cO)))),?_⟩
 walk_at "rd1";refine⟨by decide,fun ap hap=>?_⟩
 generalize hH1z:upd H ap _=H1
 have s1:=aw hH1z hap;have e1:H1 ap=some (.lst [ak (some 0),ak (some 0)]):=aS hH1z
 walk_at "nx";refine⟨⟨_,SqL.of (s1 _ _ hrl)⟩,?_⟩
 refine dL (xs:=ys.map V.str) (fun i σ H'=>∃ (o5 o6:Option V),σ=[some (nV k),some (.ref wl),some (.ref cl),some (.ref rl),some (.ref ap),o5,o6]∧Same H H'∧H' ap=some (.lst [ak (after a 0 (ys.take i)),ak (after b 0 (ys.take i))])∧gY k (after a 0 (ys.take i),after b 0 (ys.take i))=false)
  ⟨none,none,rfl,s1,e1,by unfold gY; split <;> rfl⟩ (fun i σ H' _ h=>by obtain⟨_,_,_,sm,_⟩:=h; exact SqL.of (sm _ _ hrl)) ?_ ?_
 ·rintro i y σ H' hy ⟨o5,o6,rfl,sm,hat,hbr⟩
  have hi:i<ys.length:=by have:=(List.getElem?_eq_some_iff.mp hy).1; simpa using this
  rw[List.getElem?_map,List.getElem?_eq_getElem hi]at hy
  cases hy;have hyi:=hys _ (List.getElem_mem hi);have na:after a 0 (ys.take (i+1))=(after a 0 (ys.take i)).bind fun k=>ao a k ys[i]:=by rw[List.take_add_one,List.getElem?_eq_getElem hi]; exact iJ a _ _ _
  have nb:after b 0 (ys.take (i+1))=(after b 0 (ys.take i)).bind fun k=>ao b k ys[i]:=by rw[List.take_add_one,List.getElem?_eq_getElem hi]; exact iJ b _ _ _
  have la:∀ j,after a 0 (ys.take i)=some j→j<n:=fun j e=>by have:=iK c2.ca.ok _ _ _ c2.ca.ok.n0 e; rwa [c2.ca.len]at this
  have lb:∀ j,after b 0 (ys.take i)=some j→j<m:=fun j e=>by have:=iK c2.cb.ok _ _ _ c2.cb.ok.n0 e; rwa [c2.cb.len]at this
  have lost:gY k (after a 0 (ys.take (i+1)),after b 0 (ys.take (i+1)))=true→∀ H',Same H H'→Q (.bl false) H':=fun hb H' s'=>by
   have h1:=y3 (a:=a) (b:=b) _ (ys.drop (i+1)) hb
   have ea:bQ a (after a 0 (ys.take (i+1))) (ys.drop (i+1))=after a 0 ys:=by
    conv=>rhs; rw[← List.take_append_drop (i+1) ys,cj]
    rfl
   have eb:bQ b (after b 0 (ys.take (i+1))) (ys.drop (i+1))=after b 0 ys:=by
    conv=>rhs; rw[← List.take_append_drop (i+1) ys,cj]
    rfl
   rw[ea,eb]at h1
   have:=q H' s'
   rw[h1]at this
   exact this
  generalize after a 0 (ys.take i)=oa at hat hbr na la;generalize after b 0 (ys.take i)=ob at hat hbr nb lb;generalize ys[i]=y at hyi na nb ⊢;walk_at "rd1";refine⟨⟨_,SqL.of (sm _ _ hwl)⟩,_,SqL.of (sm _ _ hwl),hyi,?_⟩
  refine pk (fun σ' H2=>∃ (o6:Option V),σ'=[some (nV k),some (.ref wl),some (.ref cl),some (.ref rl),some (.ref ap),some (.str y),o6]∧Same H H2∧H2 ap=some (.lst [ak (oa.bind fun k=>ao a k y),ak (ob.bind fun k=>ao b k y)])) (fun kk hkk=>?_) ?_
  ·have ne1:=c2.ca.ne
   have ne2:=c2.cb.ne;have ux:u≠x:=fun e=>c2.un u (.inl rfl) (.inl e)
   have uz:u≠z:=fun e=>c2.un u (.inl rfl) (.inr e)
   have vx:v≠x:=fun e=>c2.un v (.inr rfl) (.inl e)
   have vz:v≠z:=fun e=>c2.un v (.inr rfl) (.inr e)
   have key:∃ (ix sd t cc:Nat) (o o':Option Nat),[u,v,x,z].idxOf y=ix∧ix=2 * sd+t∧t<2∧sd<2∧[ak oa,ak ob][sd]? = some (ak o)∧[nV n,nV m][sd]? = some (nV cc)∧2≤cc∧(t=0→o'=o.map fun j=>(j+1) % cc)∧(t=1→o'=if o=some 0 then some 0 else none)∧[ak oa,ak ob].set sd (ak o')=[ak (oa.bind fun k=>ao a k y),ak (ob.bind fun k=>ao b k y)]:=by
    have sb:∀ (y:Str),y=u∨y=v→(ob.bind fun k=>ao b k y)=ob:=fun y h=>by
     cases ob with
     | none=>rfl
     | some j=>show ao b j y=_; unfold ao; rw[if_neg (fun q=>c2.un y h ((c2.cb.ws y).mp q))]
    have sa:∀ (y:Str),y=x∨y=z→(oa.bind fun k=>ao a k y)=oa:=fun y h=>by
     cases oa with
     | none=>rfl
     | some j=>show ao a j y=_; unfold ao; rw[if_neg (fun q=>c2.un y ((c2.ca.ws y).mp q) h)]
    have i4:([u,v,x,z].idxOf u=0∧[u,v,x,z].idxOf v=1)∧[u,v,x,z].idxOf x=2∧[u,v,x,z].idxOf z=3:=by
     have nd4:[u,v,x,z].Nodup:=by simp[ne1,ne2,ux,uz,vx,vz]
     exact⟨⟨nd4.idxOf_getElem 0 (by simp),nd4.idxOf_getElem 1 (by simp)⟩,nd4.idxOf_getElem 2 (by simp),nd4.idxOf_getElem 3 (by simp)⟩
    have hyc:y=u∨y=v∨y=x∨y=z:=by simpa using hyi
    rcases hyc with rfl | rfl | rfl | rfl
    ·refine⟨0,0,0,n,oa,_,i4.1.1,rfl,by decide,by decide,rfl,rfl,c2.ca.n2,fun _=>rfl,fun h=>(by cases h),?_⟩
     rw[sb y (.inl rfl)]
     cases oa with
     | none=>rfl
     | some j=>show [ak (some ((j+1) % n)),ak ob]=[ak (ao a j y),ak ob]; rw[c2.ca.su j (la j rfl)]
    ·refine⟨1,0,1,n,oa,_,i4.1.2,rfl,by decide,by decide,rfl,rfl,c2.ca.n2,fun h=>(by cases h),fun _=>rfl,?_⟩
     rw[sb y (.inr rfl)]
     cases oa with
     | none=>rfl
     | some j=>show [ak (if some j=some 0 then some 0 else none),ak ob]=[ak (ao a j y),ak ob]; rw[c2.ca.sv j (la j rfl)]; simp
    ·refine⟨2,1,0,m,ob,_,i4.2.1,rfl,by decide,by decide,rfl,rfl,c2.cb.n2,fun _=>rfl,fun h=>(by cases h),?_⟩
     rw[sa y (.inl rfl)]
     cases ob with
     | none=>rfl
     | some j=>show [ak oa,ak (some ((j+1) % m))]=[ak oa,ak (ao b j y)]; rw[c2.cb.su j (lb j rfl)]
    ·refine⟨3,1,1,m,ob,_,i4.2.2,rfl,by decide,by decide,rfl,rfl,c2.cb.n2,fun h=>(by cases h),fun _=>rfl,?_⟩
     rw[sa y (.inr rfl)]
     cases ob with
     | none=>rfl
     | some j=>show [ak oa,ak (if some j=some 0 then some 0 else none)]=[ak oa,ak (ao b j y)]; rw[c2.cb.sv j (lb j rfl)]; simp
   obtain⟨ix,sd,t,cc,o,o',e1,e2,t2,d2,g1,g2,c2',f0,f1,fin⟩:=key
   rw[e1];have hsd:((ix:Nat):Int) / 2=(sd:Int):=by omega
   have hmd:((ix:Nat):Int) % 2=(t:Int):=by omega
   walk_at "rd1";rw[hsd,hmd];have cd:tW (ix:Int) 2:=⟨by decide,by decide⟩
   have hx:eC [ak oa,ak ob] (sd:Int)=some (ak o):=aZ g1
   have hc:eC [nV n,nV m] (sd:Int)=some (nV cc):=aZ g2
   have hn:j5 2 (sd:Int)=some sd:=by
    rcases(show sd=0∨sd=1 by omega) with rfl | rfl <;> rfl
   have keep:o'=o→[ak oa,ak ob]=[ak (oa.bind fun k=>ao a k y),ak (ob.bind fun k=>ao b k y)]:=fun e=>by
    rw[← fin,e];rcases(show sd=0∨sd=1 by omega) with rfl | rfl
    ·have e':ak oa=ak o:=Option.some.inj g1
     rw[← e']; rfl
    ·have e':ak ob=ak o:=Option.some.inj g1
     rw[← e']; rfl
   have el:(o'=if o=some 0 then some 0 else none)→tW (ix:Int) 2∧∃ xs v,(SqL K H' ap xs∨SqT K H' ap xs)∧eC xs (sd:Int)=some v∧DF v (V.int 0) H' fun x H'=>∃ k_1,x=V.bl k_1∧if k_1=true then tW (ix:Int) 2∧∃ xs j,H' ap=some (HO.lst xs)∧j5 xs.length (sd:Int)=some j∧kk [some (nV k),some (V.ref wl),some (V.ref cl),some (V.ref rl),some (V.ref ap),some (V.str y),some (V.int (ix:Int))] (upd H' ap (HO.lst (xs.set j V.non))) else kk [some (nV k),some (V.ref wl),some (V.ref cl),some (V.ref rl),some (V.ref ap),some (V.str y),some (V.int (ix:Int))] H':=fun ho=>by
    refine⟨cd,_,_,.inl (SqL.of hat),hx,o.map (fun n:Nat=>(n:Int)),0,by cases o <;> rfl,rfl,_,rfl,?_⟩
    by_cases h0:o=some 0
    ·rw[if_pos h0]at ho
     refine bg (fun c=>absurd c (by rw[h0]; decide)) (fun _=>?_)
     exact hkk _ _ ⟨_,rfl,sm,by rw[hat,keep (by rw[ho,h0])]⟩
    ·rw[if_neg h0]at ho
     refine bg (fun _=>?_) (fun c=>absurd ?_ c)
     ·refine⟨cd,_,sd,hat,hn,?_⟩
      refine hkk _ _ ⟨_,rfl,sm.upd hap _,?_⟩
      rw[ho]at fin
      rw[ar,← fin]; rfl
     ·refine decide_eq_true fun e=>h0 ?_
      cases o with
      | none=>cases e
      | some j=>
       have e':(j:Int)=0:=Option.some.inj e
       rw[show j=0 by omega]
   refine⟨by decide,bg (fun ht=>?_) (fun ht=>el (f1 (by omega)))⟩
   refine⟨cd,_,_,.inl (SqL.of hat),hx,?_⟩
   cases o with
   | none=>
    refine bg (fun c=>absurd c (by decide)) (fun _=>el ?_)
    rw[f0 (by omega)]; rfl
   | some j=>
    refine bg (fun _=>?_) (fun c=>absurd rfl c)
    refine⟨cd,_,_,.inl (SqL.of hat),hx,?_⟩
    walk_at "rd1";refine⟨cd,_,_,.inl (SqL.of (sm _ _ hcl)),hc,?_⟩
    refine⟨_,_,rfl,rfl,by omega,cd,_,sd,hat,hn,?_⟩
    refine hkk _ _ ⟨_,rfl,sm.upd hap _,?_⟩
    rw[f0 (by omega)]at fin
    rw[ar,← fin]
    rfl
  rintro σ' H2 ⟨o6,rfl,s2,hat2⟩
  rw[← na,← nb]at hat2
  walk_at "nx";clear na nb la lb hat hbr;generalize after a 0 (ys.take (i+1))=oa' at hat2 lost ⊢;generalize after b 0 (ys.take (i+1))=ob' at hat2 lost ⊢;have fl:([ak oa',ak ob']:List V).all bR=true:=by cases oa' <;> cases ob' <;> rfl
  have rest:(k=0→bU (oa',ob')=false)→2≤sizeLine∧∀ (p:Addr),H2 p=none→∃ n b_1,n≤100∧EqN K (upd H2 p (HO.lst [V.non,V.non])) (n+1) (V.ref ap) (V.ref p) b_1∧if b_1=true then Q (V.bl false) (upd H2 p (HO.lst [V.non,V.non])) else ∃ o5 o6_1,[some (nV k),some (V.ref wl),some (V.ref cl),some (V.ref rl),some (V.ref ap),some (V.str y),o6]=[some (nV k),some (V.ref wl),some (V.ref cl),some (V.ref rl),some (V.ref ap),o5,o6_1]∧Same H (upd H2 p (HO.lst [V.non,V.non]))∧upd H2 p (HO.lst [V.non,V.non]) ap=some (HO.lst [ak oa',ak ob'])∧gY k (oa',ob')=false:=fun h0=>by
   refine⟨by decide,fun p hp=>?_⟩
   generalize hH3z:upd H2 p _=H3
   have s3:=aw hH3z hp;have e3:=aS hH3z;refine⟨0,_,by decide,yf (s3 _ _ hat2) e3,?_⟩
   refine bg (fun c=>lost ?_ H3 (s2.trans s3)) (fun c=>⟨_,_,rfl,s2.trans s3,s3 _ _ hat2,?_⟩)
   ·unfold gY
    split
    ·cases oa' <;> cases ob' <;> simp_all [b7,bU]
    ·exact c
   ·unfold gY
    split
    ·rename_i h; exact h0 h
    ·simpa using c
  refine bg (fun c=>?_) (fun c=>rest fun h=>absurd (by rw[h]; rfl) c)
  refine⟨_,.inl (SqL.of hat2),rfl,fl,?_⟩
  rw[A9];refine bg (fun c'=>lost ?_ H2 s2) (fun c'=>rest fun _=>by simpa using c')
  unfold gY;rw[if_pos (by omega)]
  exact c'
 ·rintro σ H' ⟨o5,o6,rfl,sm,hat,hbr⟩
  rw[List.length_map,List.take_length]at hbr
  walk_at "nx";have:=q H' sm
  rw[hbr]at this
  exact this
end
def nR(K:PySem.W.Frag):Sp:=fun vs H Q _=>∃ (a wl:Addr) (ns:List Int) (k:Nat) (ss:List Str) (S:Int),vs=[.ref a,nV k,.ref wl,.int S]∧SqL K H a (ns.map V.int)∧ns.length≤63∧k≤1∧(S=1∨S=2)∧H wl=some (.lst (ss.map V.str))∧ss.length=4∧(∀ x∈ss,x.length≤10)∧ss.Nodup∧∀ H',Q (.bl true) H'
def lB(k n m:Nat):Nat:=if k=0 then n * m else (n+1) * (m+1) - 1
theorem zD{r1 r2:Rl}{u v x z:Str}{n m k:Nat}{p q:Addr}{H:Hp}{Q:VK}{E:XK}(hC:Ctr2 r1 r2 u v x z n m)(hk:k≤1)(h1:RuleAt H p r1)(h2:RuleAt H q r2)(h140:lB k n m≤140)(hG:60<lB k n m→∀ H',Same H H'→Q (.str "great") H')
  (hQ:lB k n m≤60→∀ t H' d,Same H H'→RuleAt H' t d→mw r1 r2 (fun ys=>gY k (after r1 0 ys,after r2 0 ys)=false) (lB k n m) d→Q (.ref t) H'):cY [nV k,.ref p,.ref q] H Q E:=by
 refine⟨k,p,q,r1,r2,rfl,h1,h2,.inr ⟨hC.s,?_⟩⟩
 rcases(show k=0∨k=1 by omega) with rfl | rfl
 ·refine .inl ⟨rfl,yi hC h140 (fun h t H' d s' hF hc=>hQ h t H' d s' hF.at' ⟨hc.ok,hc.s,hc.nd,hc.so,hc.ws,hc.len,fun ys=>?_⟩) hG⟩
  rw[hc.lang];exact(cX _ _).symm
 ·refine .inr ⟨rfl,vj hC h140 (fun h t H' d s' hF hc=>hQ h t H' d s' hF.at' ⟨hc.ok,hc.s,hc.nd,hc.so,hc.ws,hc.len,fun ys=>?_⟩) hG⟩
  rw[hc.lang];exact(iX _ _).symm
theorem DT(k n m:Nat)(hk:k≤1):eC [V.int ((n:Int) * (m:Int)),V.int (((n:Int)+1) * ((m:Int)+1) - 1)] (k:Int)=some (nV (lB k n m)):=by
 rcases(show k=0∨k=1 by omega) with rfl | rfl
 ·show some (V.int ((n:Int) * (m:Int)))=some (V.int ((n * m:Nat):Int))
  rw[Int.natCast_mul]
 ·show some (V.int (((n:Int)+1) * ((m:Int)+1) - 1))=some (V.int (((n+1) * (m+1) - 1:Nat):Int))
  have h:(((n+1) * (m+1):Nat):Int)=((n:Int)+1) * ((m:Int)+1):=by rw[Int.natCast_mul]; rfl
  have hp:1≤(n+1) * (m+1):=Nat.mul_pos (by omega) (by omega)
  rw[← h];generalize (n+1) * (m+1)=P at hp;rw[show ((P:Nat):Int) - 1=((P - 1:Nat):Int) by omega]
theorem CD(n k:Nat)(h1:2≤n)(h2:n≤11)(hk:k≤1):∃ mo:Nat,eC [V.int (60 / (n:Int)),V.int (61 / ((n:Int)+1) - 1)] (k:Int)=some (nV mo)∧2≤mo∧mo≤40∧(k=0→n * mo≤60∧60<n * (mo+1)∧n * (mo+1)≤140)∧(k=1→(n+1) * (mo+1) - 1≤60∧60<(n+1) * (mo+1+1) - 1∧(n+1) * (mo+1+1) - 1≤140):=by
 rcases(show k=0∨k=1 by omega) with rfl | rfl
 ·refine⟨60 / n,rfl,?_⟩
  rcases(show n=2∨n=3∨n=4∨n=5∨n=6∨n=7∨n=8∨n=9∨n=10∨n=11 by omega) with rfl | rfl | rfl | rfl | rfl | rfl | rfl | rfl | rfl | rfl <;> exact⟨by decide,by decide,fun _=>by decide,fun h=>by cases h⟩
 ·refine⟨61 / (n+1) - 1,?_,?_⟩
  ·show some (V.int (61 / ((n:Int)+1) - 1))=some (V.int ((61 / (n+1) - 1:Nat):Int))
   rcases(show n=2∨n=3∨n=4∨n=5∨n=6∨n=7∨n=8∨n=9∨n=10∨n=11 by omega) with rfl | rfl | rfl | rfl | rfl | rfl | rfl | rfl | rfl | rfl <;> rfl
  ·rcases(show n=2∨n=3∨n=4∨n=5∨n=6∨n=7∨n=8∨n=9∨n=10∨n=11 by omega) with rfl | rfl | rfl | rfl | rfl | rfl | rfl | rfl | rfl | rfl <;> exact⟨by decide,by decide,fun h=>(by cases h),fun _=>by decide⟩
section
variable{P:Program}{w:World}{K:PySem.W.Frag}{mg:Str→Option Value}{base:Heap}
theorem vm(D:DefAt K mg "_law_counted" aq) (z_len:mg "len" = none) (z_isinstance:mg "isinstance" = none) (z_tuple:mg "tuple" = none) (z_sorted:mg "sorted" = none) (c_law_cell_at:Cal P w K mg base 1 "_law_cell_at" ["_law_script", "_law_k"] (ip K)) (c_law_counter:Cal P w K mg base 1 "_law_counter" ["_law_sides", "_law_step", "_law_zero", "_law_many"] oy) (c_law_made:Cal P w K mg base 8 "_law_made" ["_law_way", "_law_one", "_law_other_here"] cY) (c_room_after:Cal P w K mg base 3 "room_after" ["rule", "row"] (rS K)) (c_law_kept:Cal P w K mg base 1 "_law_kept" ["_law_way", "_law_words_here", "_law_counts", "_law_row"] pP) :
  Cal P w K mg base 9 "_law_counted" ["_law_script", "_law_way", "_law_words_here", "_law_sides"] (nR K):=by
 refine D.cal (k:=8) sc_law_counted (fun _ _ _ _ _ _ us hl=>match us,hl with | [_,_,_,_],_=>rfl) (fun vs H Q E h=>by obtain⟨_,_,_,_,_,_,rfl,_⟩:=h; rfl) (fun f cdv A outer s H vs Q E hr h=>?_)
 obtain⟨a,wl,ns,k,ss,S,rfl,hS,hns,hk,hSd,hwl,hsl,h10,hnd,q⟩:=h
 refine⟨_,(ah (aA 4 sc_law_counted.nd (aE bH af (aE b9 (aL c_law_cell_at hr (aa (pv 0) (aa af ac))) af)))
   (ah (aA 5 sc_law_counted.nd (aE b9 (aL c_law_cell_at hr (aa (pv 0) (aa af ac))) af))
   (ah (aA 6 sc_law_counted.nd (aP (bi K) (bw (aa (aE cE af (pv 4)) (aa (aE jd (aE cE af (aE bH (pv 4) af)) af) ac))) (pv 1) (fun _ _=>rfl)))
   (ah (kR (CompSc.to (fsc:=(defScope aq)) (N:=["_law_script", "_law_way", "_law_words_here", "_law_sides", "_law_one", "_law_more", "_law_most", "_law_row", "_law_other_here", "_law_rules", "_law_found"]) (N0:=["_law_script", "_law_way", "_law_words_here", "_law_sides", "_law_one", "_law_more", "_law_most", "_law_row", "_law_other_here", "_law_rules", "_law_found"]) (T:=["_law_cell"]) ⟨by decide +kernel,by decide +kernel,by decide +kernel,by decide +kernel,by decide +kernel,by decide +kernel,by decide +kernel⟩ rfl rfl) rfl sc_law_counted.nd (i:=7) rfl IY (b_ K (fK (fG K) (pv 0) (ef af) (ef af))) (fun _ _ _ _=>(bA 11 (show (["_law_script", "_law_way", "_law_words_here", "_law_sides", "_law_one", "_law_more", "_law_most", "_law_row", "_law_other_here", "_law_rules", "_law_found", "_law_cell"]:List Str).Nodup from by decide +kernel) (hx:=(gf (defScope aq) (by decide +kernel))) (hf:=i5 (defScope aq) (by decide +kernel)))) (cS (show (["_law_script", "_law_way", "_law_words_here", "_law_sides", "_law_one", "_law_more", "_law_most", "_law_row", "_law_other_here", "_law_rules", "_law_found"]:List Str).length≤11 from by decide)) (fun _ _ _ _=>du) (fun _ _ _ _=>(aP (bi K) (pv 2 (hv:=(cx (defScope aq) (by decide +kernel)))) (aE b9 (pv 11 (hv:=(cx (defScope aq) (by decide +kernel)))) af) (fun _ _=>rfl))))
   (ah (cB PassesOwn.never rfl (b_ K (bw (aa (aE bH (pv 6) (pv 5)) (aa (pv 6) ac)))) (bA 8 sc_law_counted.nd) (ah (aA 9 sc_law_counted.nd (bw (aa (aL c_law_counter hr (aa (pv 3) (aa (aP (bi K) (pv 2 (hv:=mM)) af (fun _ _=>rfl)) (aa (aP (bi K) (pv 2 (hv:=mM)) af (fun _ _=>rfl)) (aa (pv 4) ac))))) (aa (aL c_law_counter hr (aa (pv 3) (aa (aP (bi K) (pv 2 (hv:=mM)) af (fun _ _=>rfl)) (aa (aP (bi K) (pv 2 (hv:=mM)) af (fun _ _=>rfl)) (aa (pv 8) ac))))) ac))))
   (ah (aA 10 sc_law_counted.nd (aL c_law_made hr (aa (pv 1) (aa (aP (bi K) (pv 9) af (fun _ _=>rfl)) (aa (aP (bi K) (pv 9) af (fun _ _=>rfl)) ac)))))
   (ah (bT (aM Ae (pv 8) (pv 6) (aV _)) (ah (bT (aM eF (pv 10) dh (aV _)) (aj (aN cO)) bv)
   (aj rM)) bv)
   (ah (bT (PW.pt' (fo (pI (eG (bF oS z_isinstance cn (aa (pv 10) (aa (pj z_tuple kh) ac))))) (fo (aM eF (bF (cz K) z_len dB (aa (pv 10) ac)) af (aV _)) (f_ (aM (fP K hr) (aP (bi K) (pv 10) af (fun _ _=>rfl)) (bF (dg K) z_sorted de (aa (pv 2 (hv:=mM)) ac)) (aV _)))))) (aj (aN cO)) bv)
   (ah (bT (aM eF (bF (cz K) z_len dB (aa (aP (bi K) (pv 10) af (fun _ _=>rfl)) ac)) (aP (bi K) (bw (aa (aE jN (pv 4) (pv 8)) (aa (aE jd (aE jN (aE bH (pv 4) af) (aE bH (pv 8) af)) af) ac))) (pv 1) (fun _ _=>rfl)) (aV _)) (aj (aN cO)) bv)
   (aj (bT (aM eF (e_ kM (aL c_room_after hr (aa (pv 10) (aa (pv 7) ac))) bZ (aV _)) (aL c_law_kept hr (aa (pv 1) (aa (pv 2 (hv:=mM)) (aa (bw (aa (pv 4) (aa (pv 8) ac))) (aa (pv 7) ac))))) (aV _)) (aj (aN cO)) bv))))))))
   (aj (aN cO))))))),?_⟩
 walk_at "rd1";refine⟨a,ns,2,rfl,hS,by decide,?_⟩
 generalize ns.getD (Int.toNat 2) 0=c2
 walk_at "rd1";refine⟨by decide,?_⟩
 obtain⟨n,en,n2,n11⟩ : ∃ n:Nat,2+c2 % 10=(n:Int)∧2≤n∧n≤11:=⟨(2+c2 % 10).toNat,by omega,by omega,by omega⟩
 rw[en];walk_at "nx";refine⟨a,ns,3,rfl,hS,by decide,?_⟩
 generalize ns.getD (Int.toNat 3) 0=c3
 walk_at "rd1";refine⟨by decide,?_⟩
 obtain⟨mr,em,m1⟩ : ∃ m:Nat,c3 % 2=(m:Int)∧m≤1:=⟨(c3 % 2).toNat,by omega,by omega⟩
 rw[em];walk_at "nx";obtain⟨mo,emo,mo2,mo40,mo0,mo1⟩:=CD n k n2 n11 hk
 refine⟨⟨by omega,by omega⟩,⟨by omega,by omega⟩,by decide,fun lp hlp=>?_⟩
 generalize hH1z:upd H lp _=H1
 have s1:=aw hH1z hlp;have e1:=aS hH1z;refine⟨_,_,.inl (SqL.of e1),emo,?_⟩
 walk_at "nx";refine⟨_,s1.seq hS,fun cp hcp=>?_⟩
 rw[gC];have hcl:=yc ns (some 4) (some 204);generalize fD ns (some 4) (some 204)=cs at hcl ⊢;generalize hH2:upd H1 cp _=H2
 have s2:=aw hH2 hcp;have e2:=aS hH2;have hwl2:=(s1.trans s2) _ _ hwl;refine⟨⟨_,SqL.of e2⟩,fun L hL=>?_⟩
 refine cW (xs:=cs.map V.int) (fun i ys H'=>∃ ts:List Str,Same H2 H'∧H' L=some (.lst ys)∧ys=ts.map V.str∧ts.length=i∧∀ y∈ts,y∈ss) ⟨[],bh hL _,ar,rfl,rfl,by simp⟩ (fun i ys H' _ h=>by obtain⟨_,sm,_⟩:=h; exact SqL.of (sm _ _ e2)) ?_ ?_
 ·rintro i ys H' x hx hi ⟨ts,sm,hl,rfl,htl,hts⟩
  rw[List.length_map]at hi
  rw[List.getElem?_map,List.getElem?_eq_getElem hi]at hx
  cases hx;walk_at "rd1";obtain⟨j,ej,j4⟩ : ∃ j:Nat,cs[i] % 4=(j:Int)∧j<4:=⟨(cs[i] % 4).toNat,by omega,by omega⟩
  rw[ej];refine⟨by decide,_,.str (ss[j]'(by omega)),.inl (SqL.of (sm _ _ hwl2)),aZ (by rw[List.getElem?_map,List.getElem?_eq_getElem (by omega)]; rfl),?_⟩
  refine fS (by rw[List.length_map]; exact hi) (by rw[List.length_map]; exact htl) (by rw[List.length_map]; exact cJ (by omega)) hl ⟨ts++[ss[j]'(by omega)],sm.upd hL _,ar,by rw[List.map_append]; rfl,by simp[htl],fun y hy=>?_⟩
  rcases List.mem_append.mp hy with z | z
  ·exact hts y z
  ·rw[List.mem_singleton.mp z]; exact List.getElem_mem _
 rintro ys H3 ⟨row,s3,hl3,rfl,hr0,hrow⟩
 have s03:=(s1.trans s2).trans s3;have hwl3:=s3 _ _ hwl2
 obtain⟨u,v,x,z,rfl⟩ : ∃ u v x z,ss=[u,v,x,z]:=by
  match ss,hsl with
  | [u,v,x,z],_=>exact⟨u,v,x,z,rfl⟩
 have hu:=h10 u (by simp)
 have hv:=h10 v (by simp)
 have hx:=h10 x (by simp)
 have hz:=h10 z (by simp)
 simp only[List.nodup_cons,List.mem_cons,List.not_mem_nil,or_false,not_or]at hnd
 obtain⟨⟨nuv,nux,nuz⟩,⟨nvx,nvz⟩,nxz,_⟩:=hnd
 walk_at "rd1";walk_at "nx";refine⟨by decide,fun op hop=>?_⟩
 generalize hH4z:upd H3 op _=H4
 have s4:=aw hH4z hop;have e4:H4 op=some (.lst ([mo+mr,mo].map nV)):=aS hH4z
 have s04:=s03.trans s4;have hwl4:=s4 _ _ hwl3;have hl4:=s4 _ _ hl3;refine⟨⟨_,SqL.of e4⟩,?_⟩
 refine dL (xs:=[mo+mr,mo].map nV) (fun i σ H'=>∃ (o8 o9 o10:Option V),σ=[some (.ref a),some (nV k),some (.ref wl),some (.int S),some (nV n),some (nV mr),some (nV mo),some (.ref L),o8,o9,o10]∧Same H4 H') ⟨_,_,_,rfl,Same.refl _⟩ (fun i σ H' _ h=>by obtain⟨_,_,_,_,sm⟩:=h; exact SqL.of (sm _ _ e4)) ?_ ?_
 ·rintro i y σ H' hy ⟨o8,o9,o10,rfl,sm⟩
  obtain⟨oh,rfl,hoh⟩ : ∃ oh:Nat,y=nV oh∧(oh=mo∨oh=mo+1):=by
   have:=List.mem_of_getElem? hy
   simp only[List.map_cons,List.map_nil,List.mem_cons,List.not_mem_nil,or_false]at this
   rcases this with e | e
   ·exact⟨mo+mr,e,by omega⟩
   ·exact⟨mo,e,.inl rfl⟩
  clear hy;have hwl':=sm _ _ hwl4;walk_at "rd1";refine⟨_,_,.inl (SqL.of hwl'),jU,?_⟩
  refine⟨_,_,.inl (SqL.of hwl'),aZ (j:=1) rfl,?_⟩
  refine⟨S,u,v,n,rfl,hSd,nuv,hu,hv,n2,by omega,fun t1 H5 r1 s5 hR1 es1 hC1=>?_⟩
  refine⟨_,_,.inl (SqL.of (s5 _ _ hwl')),aZ (j:=2) rfl,?_⟩
  refine⟨_,_,.inl (SqL.of (s5 _ _ hwl')),aZ (j:=3) rfl,?_⟩
  refine⟨S,x,z,oh,rfl,hSd,nxz,hx,hz,by omega,by omega,fun t2 H6 r2 s6 hR2 es2 hC2=>?_⟩
  refine⟨by decide,fun lp' hlp'=>?_⟩
  generalize hH7z:upd H6 lp' _=H7
  have s7:=aw hH7z hlp';have e7:=aS hH7z;walk_at "nx";refine⟨_,_,.inl (SqL.of e7),jU,?_⟩
  refine⟨_,_,.inl (SqL.of e7),aZ (j:=1) rfl,?_⟩
  have hC:Ctr2 r1 r2 u v x z n oh:=⟨hC1,hC2,fun y h h'=>by
   rcases h with rfl | rfl <;> rcases h' with h' | h'
   ·exact nux h'
   ·exact nuz h'
   ·exact nvx h'
   ·exact nvz h',by rw[es1,es2]⟩
  have hN1:lB k n mo≤60∧60<lB k n (mo+1)∧lB k n (mo+1)≤140:=by
   unfold lB;rcases(show k=0∨k=1 by omega) with e | e
   ·rw[if_pos e,if_pos e]; exact mo0 e
   ·rw[if_neg (by omega),if_neg (by omega)]; exact mo1 e
  have s57:=s6.trans s7;have s47:=sm.trans (s5.trans s57);refine zD hC hk (hR1.mono s57) (hR2.mono s7) (by rcases hoh with e | e <;> rw[e] <;> omega) (fun hg H8 s8=>?_) (fun hg t H8 d s8 hRd hcm=>?_)
  ·have eo:oh=mo+1:=by
    rcases hoh with e | e
    ·rw[e]at hg; omega
    ·exact e
   walk_at "nx";refine bg (fun _=>bg (fun c=>absurd c (by decide)) (fun _=>?_)) (fun c=>absurd (show (mo:Int)<(oh:Int) by omega) c)
   walk_at "nx";exact⟨_,_,_,rfl,s47.trans s8⟩
  ·have eo:oh=mo:=by
    rcases hoh with e | e
    ·exact e
    ·rw[e]at hg; omega
   subst eo;obtain⟨dw,dr,das,d1,d2,d3⟩:=id hRd
   have s48:=s47.trans s8;have hwl8:=s48 _ _ hwl4;have hl8:=s48 _ _ hl4;walk_at "nx";refine bg (fun c=>absurd c (by omega)) (fun _=>?_)
   walk_at "nx";refine⟨"tuple", by simp[cL,d1],by decide,bg (fun c=>absurd c (by decide)) (fun _=>?_)⟩
   refine⟨_,.inr (SqT.of d1),bg (fun c=>absurd c (by simp)) (fun _=>?_)⟩
   refine⟨_,_,.inr (SqT.of d1),aZ (j:=1) rfl,?_⟩
   refine⟨_,SqL.of hwl8,show 4<64 by decide,fun sl ts hsl hp hso=>?_⟩
   generalize hH9z:upd H8 sl _=H9
   have s9:=aw hH9z hsl;have e9:=aS hH9z
   have ews:d.ws=ts:=fZ hcm.nd (hp.nodup_iff.mpr (by simp[nuv,nux,nuz,nvx,nvz,nxz])) hcm.so hso fun y=>by
    rw[hcm.ws,hC1.ws,hC2.ws,hp.mem_iff]; simp[or_assoc]
   rw[fR];refine⟨0,_,by decide,EqN.strs (SqL.of (s9 _ _ d2)) (SqL.of e9),_,rfl,?_⟩
   rw[decide_eq_true ews];refine bg (fun c=>absurd c (by decide)) (fun _=>?_)
   walk_at "nx";have d19:=s9 _ _ d1;have d39:=d3.mono s9;refine⟨_,_,.inr (SqT.of d19),aZ (j:=2) rfl,?_⟩
   walk_at "rd1";refine⟨_,.inl (SqL.of d39.1),.inl ⟨by omega,by omega⟩,.inl ⟨by omega,by omega⟩,by decide,fun np hnp=>?_⟩
   generalize hH10z:upd H9 np _=H10
   have s10:=aw hH10z hnp;have e10:=aS hH10z;refine⟨_,_,.inl (SqL.of e10),DT k n oh hk,?_⟩
   rw[List.length_map,d39.2.1,hcm.len];walk_at "rd1";refine bg (fun c=>absurd c (by simp)) (fun _=>?_)
   have s410:=(s48.trans s9).trans s10;have hR10:=(hRd.mono s9).mono s10;walk_at "nx";refine⟨t,L,d,row,rfl,hR10,hcm.ok,SqL.of (s410 _ _ hl4),?_⟩
   walk_at "rd1";refine⟨by decide,fun kp' hkp=>?_⟩
   generalize hH11z:upd H10 kp' _=H11
   have s11:=aw hH11z hkp;have e11:=aS hH11z;have s411:=s410.trans s11;refine⟨k,wl,kp',L,r1,r2,u,v,x,z,n,oh,row,rfl,hk,s411 _ _ hwl4,e11,s411 _ _ hl4,hrow,hC,fun H12 s12=>?_⟩
   have eb:(!decide (ak (after d 0 row)=V.non))=(!gY k (after r1 0 row,after r2 0 row)):=by
    have hlg:=hcm.lang row;unfold kp at hlg
    cases hb:gY k (after r1 0 row,after r2 0 row) with
    | false=>
     have:=hlg.mpr hb
     cases ha:after d 0 row with
     | none=>exact absurd ha this
     | some j=>rfl
    | true=>
     cases ha:after d 0 row with
     | none=>rfl
     | some j=>
      have:=hlg.mp (by rw[ha]; simp)
      rw[hb]at this; cases this
   rw[eb];walk_at "rd1";refine bg (fun c=>absurd c (by simp)) (fun _=>?_)
   exact⟨_,_,_,rfl,s411.trans s12⟩
 ·rintro σ H' ⟨o8,o9,o10,rfl,sm⟩
  walk_at "nx";exact q _
end
def hJ(S:Int)(ws:List Str):Rl:=⟨S,ws,[List.replicate ws.length none]⟩
theorem z_{S:Int}{ws:List Str}(hS:S=1∨S=2)(nd:ws.Nodup)(so:sortedS ws=true)(hl:ws.length≤18)(h10:∀ y∈ws,y.length≤10):Wd (hJ S ws):=by
 refine⟨⟨hS,hl,Nat.le_refl 1,show 1≤140 by decide,fun x hx=>?_,h10⟩,nd,so,rfl,fun y=>?_⟩
 ·have e:x=List.replicate ws.length none:=List.mem_singleton.mp hx
  subst e;exact⟨List.length_replicate,fun k hk=>by have:=List.eq_of_mem_replicate hk; cases this⟩
 ·by_cases h:y∈ws
  ·rw[if_pos (show y∈(hJ S ws).ws from h)]
   unfold ao;rw[if_pos (show y∈(hJ S ws).ws from h)];have hx:ws.idxOf y<ws.length:=List.idxOf_lt_length_iff.mpr h
   show (List.replicate ws.length (none:Option Nat)).getD (ws.idxOf y) none=none
   rw[ax (by rw[List.length_replicate]; exact hx),List.getElem_replicate]
  ·rw[if_neg (show y∉(hJ S ws).ws from h)]
   unfold ao;rw[if_neg (show y∉(hJ S ws).ws from h)]
theorem oX(c:Nat):(List.replicate c [V.non]).flatten=(List.replicate c (none:Option Nat)).map ak:=by
 rw[List.map_replicate,List.flatten_replicate_singleton]; rfl
theorem As{H:Hp}{t pw pr pa:Addr}{S:Int}{ws:List Str}(h1:H t=some (.tup [.int S,.ref pw,.ref pr]))(h2:H pw=some (.lst (ws.map V.str)))(h3:H pr=some (.lst [.ref pa]))(h4:H pa=some (.lst ((List.replicate ws.length (none:Option Nat)).map ak))):RuleAt H t (hJ S ws):=by
 refine⟨pw,pr,[pa],h1,h2,h3,rfl,fun i a x e1 e2=>?_⟩
 match i,e1,e2 with
 | 0,e1,e2=>cases e1; cases e2; exact h4
 | i+1,e1,e2=>simp at e1
theorem AM{r1 r2:Rl}{k:Nat}{p q:Addr}{H:Hp}{Q:VK}{E:XK}(h1:Wd r1)(h2:Wd r2)(hs:r1.s=r2.s)(hd:∀ y∈r1.ws,y∉r2.ws)(l1:1≤r1.ws.length)(l2:1≤r2.ws.length)(l18:r1.ws.length+r2.ws.length≤18)(hk:k≤1)(g1:RuleAt H p r1)(g2:RuleAt H q r2)(hG:16<r1.ws.length+r2.ws.length→∀ H',Same H H'→Q (.str "great") H')
  (hQ:r1.ws.length+r2.ws.length≤16→∀ t H' d,Same H H'→RuleAt H' t d→(∃ L,mw r1 r2 L (if k=0 then 1 else 3) d)→Q (.ref t) H'):cY [nV k,.ref p,.ref q] H Q E:=by
 refine⟨k,p,q,r1,r2,rfl,g1,g2,.inr ⟨hs,?_⟩⟩
 rcases(show k=0∨k=1 by omega) with rfl | rfl
 ·exact .inl ⟨rfl,AO h1 h2 hd l18 (fun h t H' d s' hF hc=>hQ h t H' d s' hF.at' hc) hG⟩
 ·exact .inr ⟨rfl,xE h1 h2 hd l1 l2 l18 (fun h t H' d s' hF hc=>hQ h t H' d s' hF.at' hc) hG⟩
theorem r_{α : Type}{xs:List α}{c m:Nat}(h1:c≤m)(h2:m≤xs.length):fD xs (some (c:Int)) (some (m:Int))=(xs.drop c).take (m - c):=by
 unfold fD; rw[HT.sIx_nat,HT.sIx_nat,Nat.min_eq_left h2,Nat.min_eq_left (Nat.le_trans h1 h2)]
theorem wz{α : Type}{xs:List α}{k:Nat}(h:k≤xs.length):fD xs none (some (k:Int))=xs.take k:=by
 unfold fD; rw[HT.sIx_nat,HT.sIx_none,List.drop_zero,Nat.sub_zero,Nat.min_eq_left h]
def pZ(K:PySem.W.Frag):Sp:=fun vs H Q _=>∃ (a:Addr) (ns:List Int) (k:Nat) (S:Int),vs=[.ref a,nV k,.int S]∧SqL K H a (ns.map V.int)∧ns.length≤63∧k≤1∧(S=1∨S=2)∧∀ H',Q (.bl true) H'
section
variable{P:Program}{w:World}{K:PySem.W.Frag}{mg:Str→Option Value}{base:Heap}
theorem wo(D:DefAt K mg "_law_worded" aJ) (z_len:mg "len" = none) (z_isinstance:mg "isinstance" = none) (z_tuple:mg "tuple" = none) (z_sorted:mg "sorted" = none) (c_law_cell_at:Cal P w K mg base 1 "_law_cell_at" ["_law_script", "_law_k"] (ip K)) (c_law_words:Cal P w K mg base 1 "_law_words" ["_law_cell", "_law_many", "_law_sides"] iP) (c_law_made:Cal P w K mg base 8 "_law_made" ["_law_way", "_law_one", "_law_other_here"] cY) :
  Cal P w K mg base 9 "_law_worded" ["_law_script", "_law_way", "_law_sides"] (pZ K):=by
 refine D.cal (k:=8) sc_law_worded (fun _ _ _ _ _ _ us hl=>match us,hl with | [_,_,_],_=>rfl) (fun vs H Q E h=>by obtain⟨_,_,_,_,rfl,_⟩:=h; rfl) (fun f cdv A outer s H vs Q E hr h=>?_)
 obtain⟨a,ns,k,S,rfl,hS,hns,hk,hSd,q⟩:=h
 refine⟨_,(ah (aA 3 sc_law_worded.nd (aL c_law_words hr (aa (aL c_law_cell_at hr (aa (pv 0) (aa af ac))) (aa af (aa (pv 2) ac)))))
   (ah (aA 4 sc_law_worded.nd (aE bH af (aE b9 (aL c_law_cell_at hr (aa (pv 0) (aa af ac))) af)))
   (ah (aA 5 sc_law_worded.nd (dP (aa (pv 2) (aa (bF (dg K) z_sorted de (aa (fK (fG K) (pv 3) ml (ef (pv 4))) ac)) (aa (bw (aa (aE qC (bw (aa bZ ac)) (pv 4)) ac)) ac)))))
   (ah (cB PassesOwn.never rfl (b_ K (bw (aa (aE bH af (aE b9 (aL c_law_cell_at hr (aa (pv 0) (aa af ac))) af)) (aa af ac)))) (bA 6 sc_law_worded.nd) (ah (aA 7 sc_law_worded.nd (dP (aa (pv 2) (aa (bF (dg K) z_sorted de (aa (fK (fG K) (pv 3) (ef (pv 4)) (ef (pv 6))) ac)) (aa (bw (aa (aE qC (bw (aa bZ ac)) (aE jd (pv 6) (pv 4))) ac)) ac)))))
   (ah (aA 8 sc_law_worded.nd (aL c_law_made hr (aa (pv 1) (aa (pv 5) (aa (pv 7) ac)))))
   (aj (bT (aM dG (pv 6) af (aV _)) (aj (bT (aM eF (pv 8) dh (aV _)) (aj (aN cO)) bv)) (aj (bT (PW.pt' (fo (pI (eG (bF oS z_isinstance cn (aa (pv 8) (aa (pj z_tuple kh) ac))))) (fo (aM (fP K hr) (aP (bi K) (pv 8) af (fun _ _=>rfl)) (bF (dg K) z_sorted de (aa (fK (fG K) (pv 3) ml (ef af)) ac)) (aV _)) (f_ (aM eF (bF (cz K) z_len dB (aa (aP (bi K) (pv 8) af (fun _ _=>rfl)) ac)) (aP (bi K) (bw (aa af (aa af ac))) (pv 1) (fun _ _=>rfl)) (aV _)))))) (aj (aN cO)) bv)))))))
   (aj (aN cO)))))),?_⟩
 walk_at "rd1";refine⟨a,ns,1,rfl,hS,by decide,?_⟩
 refine⟨_,17,S,rfl,by decide,hSd,fun wl H1 ss s1 hwl0 hwl hsl h10 hnd=>?_⟩
 walk_at "nx";refine⟨a,ns,2,rfl,s1.seq hS,by decide,?_⟩
 generalize ns.getD (Int.toNat 2) 0=c2
 walk_at "rd1";refine⟨by decide,?_⟩
 obtain⟨ct,ec,c1,c15⟩ : ∃ c:Nat,1+c2 % 15=(c:Int)∧1≤c∧c≤15:=⟨(1+c2 % 15).toNat,by omega,by omega,by omega⟩
 rw[ec];walk_at "nx";refine⟨_,SqL.of hwl,fun cp hcp=>?_⟩
 rw[gC,wz (k:=ct) (by omega)]
 generalize hH2z:upd H1 cp _=H2
 have s2:=aw hH2z hcp;have e2:=aS hH2z;refine⟨_,SqL.of e2,by rw[List.length_take]; omega,fun sl ts hs2 hp hso=>?_⟩
 have htl:ts.length=ct:=by rw[hp.length_eq,List.length_take]; omega
 generalize hH3z:upd H2 sl _=H3
 have s3:=aw hH3z hs2;have e3:=aS hH3z;refine⟨by decide,fun np hnp=>?_⟩
 generalize hH4z:upd H3 np _=H4
 have s4:=aw hH4z hnp;have e4:=aS hH4z;refine⟨np,ct,_,rfl,rfl,e4,by omega,by omega,by show 1 * (ct:Int).toNat≤sizeLine; exact cJ (by omega),fun rp hrp=>?_⟩
 rw[Int.toNat_natCast,oX];generalize hH5z:upd H4 rp _=H5
 have s5:=aw hH5z hrp;have e5:=aS hH5z;walk_at "rd1";refine⟨by decide,fun lp hlp=>?_⟩
 generalize hH6z:upd H5 lp _=H6
 have s6:=aw hH6z hlp;have e6:=aS hH6z;refine⟨by decide,fun t1 ht1=>?_⟩
 generalize hH7z:upd H6 t1 _=H7
 have s7:=aw hH7z ht1;have e7:=aS hH7z;have hR1:RuleAt H7 t1 (hJ S ts):=As e7 ((s4.trans (s5.trans (s6.trans s7))) _ _ e3) (s7 _ _ e6) (by rw[htl]; exact(s6.trans s7) _ _ e5)
 have hsub:∀ {c:Nat} {m:Nat} {y:Str},y∈(ss.drop c).take m→y∈ss:=fun h=>List.mem_of_mem_drop (List.mem_of_mem_take h)
 have hW1:Wd (hJ S ts):=z_ hSd (hp.nodup_iff.mpr (hnd.sublist (List.take_sublist _ _))) hso (by omega) fun y hy=>h10 y (List.mem_of_mem_take (hp.mem_iff.mp hy))
 have s17:=s2.trans (s3.trans (s4.trans (s5.trans (s6.trans s7))));have hwl7:=s17 _ _ hwl;have hS7:=s17.seq (s1.seq hS);walk_at "nx";refine⟨a,ns,3,rfl,hS7,by decide,?_⟩
 generalize ns.getD (Int.toNat 3) 0=c3
 walk_at "rd1";obtain⟨mr,em,m1⟩ : ∃ m:Nat,c3 % 2=(m:Int)∧m≤1:=⟨(c3 % 2).toNat,by omega,by omega⟩
 rw[em];refine⟨by decide,by decide,fun op hop=>?_⟩
 generalize hH8z:upd H7 op _=H8
 have s8:=aw hH8z hop;have e8:H8 op=some (.lst ([16+mr,16].map nV)):=aS hH8z
 have hwl8:=s8 _ _ hwl7;have hR8:=hR1.mono s8;refine⟨⟨_,SqL.of e8⟩,?_⟩
 refine dL (xs:=[16+mr,16].map nV) (fun i σ H'=>∃ (o6 o7 o8:Option V),σ=[some (.ref a),some (nV k),some (.int S),some (.ref wl),some (.int (ct:Int)),some (.ref t1),o6,o7,o8]∧Same H8 H') ⟨_,_,_,rfl,Same.refl _⟩ (fun i σ H' _ h=>by obtain⟨_,_,_,_,sm⟩:=h; exact SqL.of (sm _ _ e8)) ?_ ?_
 ·rintro i y σ H' hy ⟨o6,o7,o8,rfl,sm⟩
  obtain⟨oh,rfl,hoh⟩ : ∃ oh:Nat,y=nV oh∧(oh=16∨oh=17):=by
   have:=List.mem_of_getElem? hy
   simp only[List.map_cons,List.map_nil,List.mem_cons,List.not_mem_nil,or_false]at this
   rcases this with e | e
   ·exact⟨16+mr,e,by omega⟩
   ·exact⟨16,e,.inl rfl⟩
  clear hy;have hwl':=sm _ _ hwl8;walk_at "rd1";refine⟨_,SqL.of hwl',fun cp' hcp'=>?_⟩
  rw[gC,r_ (c:=ct) (m:=oh) (by omega) (by omega)]
  generalize hG2z:upd H' cp' _=G2
  have g2:=aw hG2z hcp';have f2:=aS hG2z;have hll:((ss.drop ct).take (oh - ct)).length=oh - ct:=by rw[List.length_take,List.length_drop]; omega
  refine⟨_,SqL.of f2,by rw[hll]; omega,fun sl' us hs2' hp' hso'=>?_⟩
  have hul:us.length=oh - ct:=by rw[hp'.length_eq,hll]
  generalize hG3z:upd G2 sl' _=G3
  have g3:=aw hG3z hs2';have f3:=aS hG3z;refine⟨by decide,fun np' hnp'=>?_⟩
  generalize hG4z:upd G3 np' _=G4
  have g4:=aw hG4z hnp';have f4:=aS hG4z;have esub:(oh:Int) - (ct:Int)=((oh - ct:Nat):Int):=by omega
  rw[esub];refine⟨np',_,_,rfl,rfl,f4,by omega,by omega,by rw[Int.toNat_natCast]; show 1 * (oh - ct)≤sizeLine; exact cJ (by omega),fun rp' hrp'=>?_⟩
  rw[Int.toNat_natCast,oX];generalize hG5z:upd G4 rp' _=G5
  have g5:=aw hG5z hrp';have f5:=aS hG5z;walk_at "rd1";refine⟨by decide,fun lp' hlp'=>?_⟩
  generalize hG6z:upd G5 lp' _=G6
  have g6:=aw hG6z hlp';have f6:=aS hG6z;refine⟨by decide,fun t2 ht2=>?_⟩
  generalize hG7z:upd G6 t2 _=G7
  have g7:=aw hG7z ht2;have f7:=aS hG7z;have hR2:RuleAt G7 t2 (hJ S us):=As f7 ((g4.trans (g5.trans (g6.trans g7))) _ _ f3) (g7 _ _ f6) (by rw[hul]; exact(g6.trans g7) _ _ f5)
  have hW2:Wd (hJ S us):=z_ hSd (hp'.nodup_iff.mpr ((hnd.sublist (List.drop_sublist _ _)).sublist (List.take_sublist _ _))) hso' (by omega) fun y hy=>h10 y (hsub (hp'.mem_iff.mp hy))
  have g17:=g2.trans (g3.trans (g4.trans (g5.trans (g6.trans g7))));have sm7:=sm.trans g17
  have hdis:∀ y∈(hJ S ts).ws,y∉(hJ S us).ws:=fun y hy hy'=>by
   have h1:=hp.mem_iff.mp (show y∈ts from hy);have h2:=List.mem_of_mem_take (hp'.mem_iff.mp (show y∈us from hy'));have h3:=hnd;rw[← List.take_append_drop ct ss,List.nodup_append]at h3
   exact h3.2.2 y h1 y h2 rfl
  walk_at "nx";refine AM (r1:=hJ S ts) (r2:=hJ S us) hW1 hW2 rfl hdis (by show 1≤ts.length; omega) (by show 1≤us.length; omega) (by show ts.length+us.length≤18; omega) hk (hR8.mono sm7) hR2 (fun hg H9 s9=>?_) (fun hg t H9 d s9 hRd hcm=>?_)
  ·have eo:oh=17:=by
    have:16<ts.length+us.length:=hg
    omega
   subst eo;walk_at "nx";refine bg (fun _=>bg (fun c=>absurd c (by decide)) (fun _=>⟨_,_,_,rfl,sm7.trans s9⟩)) (fun c=>absurd rfl c)
  ·have eo:oh=16:=by
    have:ts.length+us.length≤16:=hg
    omega
   subst eo;obtain⟨dw,dr,das,d1,d2,d3⟩:=id hRd
   obtain⟨Lg,hcm⟩:=hcm
   have hwl9:=(sm7.trans s9) _ _ hwl8;walk_at "nx";refine bg (fun c=>absurd c (by decide)) (fun _=>?_)
   refine⟨"tuple", by simp[cL,d1],by decide,bg (fun c=>absurd c (by decide)) (fun _=>?_)⟩
   refine⟨_,_,.inr (SqT.of d1),aZ (j:=1) rfl,?_⟩
   refine⟨_,SqL.of hwl9,fun xp hxp=>?_⟩
   rw[gC,show fD ss none (some 16)=ss.take 16 from wz (k:=16) (by omega)]
   generalize hK2z:upd H9 xp _=K2
   have k2:=aw hK2z hxp;have j2:=aS hK2z;refine⟨_,SqL.of j2,by rw[List.length_take]; omega,fun xl vs' hxl hp2 hso2=>?_⟩
   generalize hK3z:upd K2 xl _=K3
   have k3:=aw hK3z hxl;have j3:=aS hK3z;have k13:=k2.trans k3
   have e16:ss.take 16=ss.take ct++(ss.drop ct).take (16 - ct):=by
    have:=List.take_add (l:=ss) (i:=ct) (j:=16 - ct)
    rwa [show ct+(16 - ct)=16 by omega]at this
   have ews:d.ws=vs':=fZ hcm.nd (hp2.nodup_iff.mpr (hnd.sublist (List.take_sublist _ _))) hcm.so hso2 fun y=>by
    rw[hcm.ws,hp2.mem_iff,e16,List.mem_append,← hp.mem_iff,← hp'.mem_iff];exact Iff.rfl
   rw[fR];refine⟨0,_,by decide,EqN.strs (SqL.of (k13 _ _ d2)) (SqL.of j3),_,rfl,?_⟩
   rw[decide_eq_true ews];refine bg (fun c=>absurd c (by decide)) (fun _=>?_)
   refine⟨_,_,.inr (SqT.of (k13 _ _ d1)),aZ (j:=2) rfl,?_⟩
   have d33:=d3.mono k13;walk_at "rd1";refine⟨_,.inl (SqL.of d33.1),by decide,fun yp hyp=>?_⟩
   generalize hK4z:upd K3 yp _=K4
   have k4:=aw hK4z hyp;have j4:=aS hK4z;refine⟨_,nV (if k=0 then 1 else 3),.inl (SqL.of j4),by rcases(show k=0∨k=1 by omega) with rfl | rfl <;> rfl,?_⟩
   rw[List.length_map,d33.2.1,hcm.len];walk_at "rd1";refine bg (fun c=>absurd c (by simp)) (fun _=>⟨_,_,_,rfl,((sm7.trans s9).trans k13).trans k4⟩)
 ·rintro σ H' ⟨o8,o9,o10,rfl,sm⟩
  walk_at "nx";exact q _
end
def sR(K:PySem.W.Frag):Sp:=fun vs H Q _=>∃ (a wl:Addr) (ns:List Int) (u v:Str),vs=[.ref a,.ref wl]∧SqL K H a (ns.map V.int)∧H wl=some (.lst ([u,v].map V.str))∧u≠v∧u.length≤10∧v.length≤10∧∀ H',Q (.bl true) H'
section
variable{P:Program}{w:World}{K:PySem.W.Frag}{mg:Str→Option Value}{base:Heap}
theorem xR(D:DefAt K mg "_law_unlike" bo) (z_range:mg "range" = none) (c_law_cell_at:Cal P w K mg base 1 "_law_cell_at" ["_law_script", "_law_k"] (ip K)) (c_law_counter:Cal P w K mg base 1 "_law_counter" ["_law_sides", "_law_step", "_law_zero", "_law_many"] oy) (c_law_made:Cal P w K mg base 8 "_law_made" ["_law_way", "_law_one", "_law_other_here"] cY) :
  Cal P w K mg base 9 "_law_unlike" ["_law_script", "_law_words_here"] (sR K):=by
 refine D.cal (k:=8) sc_law_unlike (fun _ _ _ _ _ _ us hl=>match us,hl with | [_,_],_=>rfl) (fun vs H Q E h=>by obtain⟨_,_,_,_,_,rfl,_⟩:=h; rfl) (fun f cdv A outer s H vs Q E hr h=>?_)
 obtain⟨a,wl,ns,u,v,rfl,hS,hwl,nuv,hu,hv,q⟩:=h
 refine⟨_,(ah (aA 2 sc_law_unlike.nd (aL c_law_counter hr (aa af (aa dh (aa dh (aa (aE bH af (aE b9 (aL c_law_cell_at hr (aa (pv 0) (aa af ac))) af)) ac))))))
   (ah (aA 3 sc_law_unlike.nd (aL c_law_counter hr (aa af (aa (aP (bi K) (pv 1) af (fun _ _=>rfl)) (aa (aP (bi K) (pv 1) af (fun _ _=>rfl)) (aa (aE bH af (aE b9 (aL c_law_cell_at hr (aa (pv 0) (aa af ac))) af)) ac))))))
   (ah (cB PassesOwn.never rfl (eW EF z_range (aa af ac)) (bA 4 sc_law_unlike.nd) (aj (bT (PW.pt' (fo (aM eF (aL c_law_made hr (aa (pv 4) (aa (pv 2) (aa (pv 3) ac)))) dh (aV _)) (f_ (aM eF (aL c_law_made hr (aa (pv 4) (aa (pv 3) (aa (pv 2) ac)))) dh (aV _))))) (aj (aN cO)) bv)))
   (aj (aN cO))))),?_⟩
 walk_at "rd1";refine⟨a,ns,2,rfl,hS,by decide,?_⟩
 generalize ns.getD (Int.toNat 2) 0=c2
 walk_at "rd1";refine⟨by decide,?_⟩
 obtain⟨n,en,n2,n31⟩ : ∃ n:Nat,2+c2 % 30=(n:Int)∧2≤n∧n≤31:=⟨(2+c2 % 30).toNat,by omega,by omega,by omega⟩
 rw[en];refine⟨1, "step", "zero", n,rfl,.inl rfl,by decide,by decide +kernel,by decide +kernel,n2,by omega,fun t1 H1 r1 s1 hR1 es1 hC1=>?_⟩
 walk_at "nx";refine⟨_,_,.inl (SqL.of (s1 _ _ hwl)),jU,?_⟩
 refine⟨_,_,.inl (SqL.of (s1 _ _ hwl)),aZ (j:=1) rfl,?_⟩
 refine⟨a,ns,3,rfl,s1.seq hS,by decide,?_⟩
 generalize ns.getD (Int.toNat 3) 0=c3
 walk_at "rd1";refine⟨by decide,?_⟩
 obtain⟨m,em,m2,m31⟩ : ∃ n:Nat,2+c3 % 30=(n:Int)∧2≤n∧n≤31:=⟨(2+c3 % 30).toNat,by omega,by omega,by omega⟩
 rw[em];refine⟨2,u,v,m,rfl,.inr rfl,nuv,hu,hv,m2,by omega,fun t2 H2 r2 s2 hR2 es2 hC2=>?_⟩
 walk_at "nx";refine⟨by decide,by decide,?_⟩
 have hR12:=hR1.mono s2;refine fv (fun i σ H'=>∃ (o4:Option V),σ=[some (.ref a),some (.ref wl),some (.ref t1),some (.ref t2),o4]∧Same H2 H') ⟨_,rfl,Same.refl _⟩ ?_ ?_
 ·rintro i σ H' hi ⟨o4,rfl,sm⟩
  have hi':i<3:=hi
  walk_at "rd1";rw[show (0+(i:Int))=(i:Int) by omega]
  refine⟨i,t1,t2,r1,r2,rfl,hR12.mono sm,hR2.mono sm,.inl ⟨by rw[es1,es2]; decide,by omega,fun H3 s3=>?_⟩⟩
  walk_at "rd1";refine bg (fun c=>absurd c (by decide)) (fun _=>?_)
  refine⟨i,t2,t1,r2,r1,rfl,(hR2.mono sm).mono s3,(hR12.mono sm).mono s3,.inl ⟨by rw[es1,es2]; decide,by omega,fun H4 s4=>?_⟩⟩
  walk_at "rd1";refine bg (fun c=>absurd c (by decide)) (fun _=>?_)
  exact⟨_,rfl,(sm.trans s3).trans s4⟩
 ·rintro σ H' ⟨o4,rfl,sm⟩
  walk_at "nx";exact q _
end
def gL(x:Str)(n i:Nat)(y:Str):Option Nat:=some (if y=x then (i+1) % n else i)
def fV(S:Int)(ws:List Str)(x:Str)(n:Nat):Rl:=⟨S,ws,(List.range n).map fun i=>ws.map (gL x n i)⟩
theorem vZ{S:Int}{ws:List Str}{x:Str}{n:Nat}(hS:S=1∨S=2)(nd:ws.Nodup)(hl:ws.length≤18)(h10:∀ y∈ws,y.length≤10)(n1:1≤n)(n2:n≤140):Free (fV S ws x n):=by
 have hlen:(fV S ws x n).rs.length=n:=by simp[fV]
 refine⟨⟨hS,hl,by rw[hlen]; exact n1,by rw[hlen]; exact n2,fun r hr=>?_,h10⟩,nd,fun i hi y=>?_⟩
 ·obtain⟨i,hi,rfl⟩:=List.mem_map.mp hr
  refine⟨by show (List.map _ _).length=ws.length; rw[List.length_map],fun k hk=>?_⟩
  obtain⟨y,hy,e⟩:=List.mem_map.mp hk
  rw[hlen];have hi':=List.mem_range.mp hi;have e':(if y=x then (i+1) % n else i)=k:=Option.some.inj e
  rw[← e'];split
  ·exact Nat.mod_lt _ (by omega)
  ·exact hi'
 ·rw[hlen]at hi
  unfold ao;split
  ·rename_i h
   have hx:ws.idxOf y<ws.length:=List.idxOf_lt_length_iff.mpr h
   have hrow:(fV S ws x n).rs.getD i []=ws.map (gL x n i):=by
    rw[ax (by rw[hlen]; exact hi)]
    simp[fV]
   rw[hrow];show (ws.map (gL x n i)).getD (ws.idxOf y) none≠none
   rw[ax (by rw[List.length_map]; exact hx),List.getElem_map]
   unfold gL; simp
  ·simp
def lN(S:Int)(ws:List Str):Rl:=⟨S,ws,[List.replicate ws.length (some 0)]⟩
theorem uW{S:Int}{ws:List Str}(hS:S=1∨S=2)(nd:ws.Nodup)(hl:ws.length≤18)(h10:∀ y∈ws,y.length≤10):Free (lN S ws):=by
 refine⟨⟨hS,hl,Nat.le_refl 1,show 1≤140 by decide,fun x hx=>?_,h10⟩,nd,fun i hi y=>?_⟩
 ·have e:x=List.replicate ws.length (some 0):=List.mem_singleton.mp hx
  subst e;refine⟨List.length_replicate,fun k hk=>?_⟩
  have e2:=Option.some.inj (List.eq_of_mem_replicate hk);rw[e2]; exact Nat.zero_lt_one
 ·have hi':i<1:=hi
  have e0:i=0:=by omega
  subst e0;unfold ao;split
  ·rename_i h
   have hx:ws.idxOf y<ws.length:=List.idxOf_lt_length_iff.mpr h
   show (List.replicate ws.length (some 0)).getD (ws.idxOf y) none≠none
   rw[ax (by rw[List.length_replicate]; exact hx),List.getElem_replicate]; simp
  ·simp
theorem yT(c:Nat):(List.replicate c [V.int 0]).flatten=(List.replicate c (some 0:Option Nat)).map ak:=by
 rw[List.map_replicate,List.flatten_replicate_singleton]; rfl
structure Beside (d r:Rl):Prop where
 ld:fC d
 fr:Free r
 s:d.s=r.s
 h1:d.rs.length * r.rs.length≤140
 h2:(d.rs.length+1) * (r.rs.length+1)≤141
 h3:d.ws.length+r.ws.length≤18
 h4:d.rs.length≤60
 h5:d.ws.length≤16
section
variable{d r:Rl}{p q:Addr}{H:Hp}{Q:VK}{E:XK}
theorem Beside.m0(b:Beside d r)(h1:RuleAt H p d)(h2:RuleAt H q r)(hQ:∀ t H',Same H H'→RuleAt H' t d→Q (.ref t) H'):cY [.int 0,.ref p,.ref q] H Q E:=
 ⟨0,p,q,d,r,rfl,h1,h2,.inr ⟨b.s,.inl ⟨rfl,yH b.ld b.fr b.h1 b.h3 b.h4 b.h5 fun t H' s' hF=>hQ t H' s' hF.at'⟩⟩⟩
theorem Beside.m1(b:Beside d r)(h1:RuleAt H p d)(h2:RuleAt H q r)(hQ:∀ t H',Same H H'→RuleAt H' t d→Q (.ref t) H'):cY [.int 0,.ref q,.ref p] H Q E:=
 ⟨0,q,p,r,d,rfl,h2,h1,.inr ⟨b.s.symm,.inl ⟨rfl,xf b.fr b.ld b.s (by rw[Nat.mul_comm]; exact b.h1) (by rw[Nat.add_comm]; exact b.h3) b.h4 b.h5 fun t H' s' hF=>hQ t H' s' hF.at'⟩⟩⟩
theorem Beside.m2(b:Beside d r)(h1:RuleAt H p d)(h2:RuleAt H q r)(hQ:∀ t H',Same H H'→RuleAt H' t (je d.s)→Q (.ref t) H'):cY [.int 1,.ref p,.ref q] H Q E:=
 ⟨1,p,q,d,r,rfl,h1,h2,.inr ⟨b.s,.inr ⟨rfl,qE b.ld.ok b.ld.nd b.fr.ok b.fr.nd (.inr b.fr) b.h2 b.h3 fun t H' s' hF=>hQ t H' s' hF.at'⟩⟩⟩
theorem Beside.m3(b:Beside d r)(h1:RuleAt H p d)(h2:RuleAt H q r)(hQ:∀ t H',Same H H'→RuleAt H' t (je d.s)→Q (.ref t) H'):cY [.int 1,.ref q,.ref p] H Q E:=
 ⟨1,q,p,r,d,rfl,h2,h1,.inr ⟨b.s.symm,.inr ⟨rfl,qE b.fr.ok b.fr.nd b.ld.ok b.ld.nd (.inl b.fr) (by rw[Nat.mul_comm]; exact b.h2) (by rw[Nat.add_comm]; exact b.h3) fun t H' s' hF=>hQ t H' s' (by rw[b.s]; exact hF.at')⟩⟩⟩
end
theorem DY(n:Nat)(c:Int)(h1:2≤n)(h2:n≤11):∃ m:Nat,61 / (n:Int)+1+c % 5=(m:Int)∧1≤m∧m≤40∧n * m≤140∧(n+1) * (m+1)≤141:=by
 obtain⟨e,he,h5⟩ : ∃ e:Nat,c % 5=(e:Int)∧e≤4:=⟨(c % 5).toNat,by omega,by omega⟩
 rw[he];refine⟨61 / n+1+e,by rfl,?_⟩
 rcases(show n=2∨n=3∨n=4∨n=5∨n=6∨n=7∨n=8∨n=9∨n=10∨n=11 by omega) with rfl | rfl | rfl | rfl | rfl | rfl | rfl | rfl | rfl | rfl <;> exact⟨by omega,by omega,by omega,by omega⟩
theorem qI{K:PySem.W.Frag}{H:Hp}{t:Addr}{S:Int}{X:VK}(h:RuleAt H t (je S))(q:∀ H',Same H H'→X (.bl false) H'):0≤sizeLine∧∀ (p:Addr),H p=none→0≤sizeLine∧∀ (p_1:Addr),upd H p (HO.lst []) p_1=none→1≤sizeLine∧∀ (p_2:Addr),upd (upd H p (HO.lst [])) p_1 (HO.lst []) p_2=none→3≤sizeLine∧∀ (p_3:Addr),upd (upd (upd H p (HO.lst [])) p_1 (HO.lst [])) p_2 (HO.lst [V.ref p_1]) p_3=none→uL K (V.ref t) (V.ref p_3) (upd (upd (upd (upd H p (HO.lst [])) p_1 (HO.lst [])) p_2 (HO.lst [V.ref p_1])) p_3 (HO.tup [V.int S,V.ref p,V.ref p_2])) X:=by
 refine⟨by decide,fun p hp=>⟨by decide,fun p1 h1=>⟨by decide,fun p2 h2=>⟨by decide,fun p3 h3=>?_⟩⟩⟩⟩
 have s1:=bh hp (.lst []);have e1:upd H p (.lst []) p=some (.lst []):=ar
 generalize upd H p (.lst [])=H1 at s1 e1 h1 h2 h3 ⊢;have s2:=bh h1 (.lst []);have e2:upd H1 p1 (.lst []) p1=some (.lst []):=ar
 generalize upd H1 p1 (.lst [])=H2 at s2 e2 h2 h3 ⊢;have s3:=bh h2 (.lst [V.ref p1]);have e3:upd H2 p2 (.lst [V.ref p1]) p2=some (.lst [V.ref p1]):=ar
 generalize upd H2 p2 (.lst [V.ref p1])=H3 at s3 e3 h3 ⊢;generalize hH4z:upd H3 p3 _=H4
 have s4:=aw hH4z h3;have e4:=aS hH4z;have s14:=s2.trans (s3.trans s4)
 have hA:RuleAt H4 p3 (je S):=by
  refine⟨p,p2,[p1],e4,s14 _ _ e1,s4 _ _ e3,rfl,fun i a x g1 g2=>?_⟩
  match i,g1,g2 with
  | 0,g1,g2=>cases g1; cases g2; exact(s3.trans s4) _ _ e2
  | i+1,g1,g2=>simp at g1
 rw[fR];exact⟨2,_,by decide,md (h.mono (s1.trans s14)) hA,q _ (s1.trans s14)⟩
def sT(K:PySem.W.Frag):Sp:=fun vs H Q _=>∃ (a:Addr) (ns:List Int) (S:Int),vs=[.ref a,.int S]∧SqL K H a (ns.map V.int)∧(S=1∨S=2)∧∀ H',Q (.bl true) H'
section
variable{P:Program}{w:World}{K:PySem.W.Frag}{mg:Str→Option Value}{base:Heap}
theorem y6(D:DefAt K mg "_law_small" az) (z_range:mg "range" = none) (z_int:mg "int" = none) (z_sorted:mg "sorted" = none) (c_law_cell_at:Cal P w K mg base 1 "_law_cell_at" ["_law_script", "_law_k"] (ip K)) (c_law_words:Cal P w K mg base 1 "_law_words" ["_law_cell", "_law_many", "_law_sides"] iP) (c_law_counter:Cal P w K mg base 1 "_law_counter" ["_law_sides", "_law_step", "_law_zero", "_law_many"] oy) (c_law_made:Cal P w K mg base 8 "_law_made" ["_law_way", "_law_one", "_law_other_here"] cY) :
  Cal P w K mg base 9 "_law_small" ["_law_script", "_law_sides"] (sT K):=by
 refine D.cal (k:=8) sc_law_small (fun _ _ _ _ _ _ us hl=>match us,hl with | [_,_],_=>rfl) (fun vs H Q E h=>by obtain⟨_,_,_,rfl,_⟩:=h; rfl) (fun f cdv A outer s H vs Q E hr h=>?_)
 obtain⟨a,ns,S,rfl,hS,hSd,q⟩:=h
 refine⟨_,(ah (aA 2 sc_law_small.nd (aL c_law_words hr (aa (aL c_law_cell_at hr (aa (pv 0) (aa af ac))) (aa af (aa (pv 1) ac)))) (hx:=EX))
   (ah (aA 3 sc_law_small.nd (aE bH af (aE b9 (aL c_law_cell_at hr (aa (pv 0) (aa af ac))) af)))
   (ah (aA 4 sc_law_small.nd (aE bH (aE bH (aE cE af (pv 3)) af) (aE b9 (aL c_law_cell_at hr (aa (pv 0) (aa af ac))) af)) (hx:=GO))
   (ah (aA 5 sc_law_small.nd (aL c_law_counter hr (aa (pv 1) (aa (aP (bi K) (pv 2 (hv:=uy)) af (fun _ _=>rfl)) (aa (aP (bi K) (pv 2 (hv:=uy)) af (fun _ _=>rfl)) (aa (pv 3) ac))))))
   (ah (aA 6 sc_law_small.nd (dP (aa (pv 1) (aa (bF (dg K) z_sorted de (aa (fK (fG K) (pv 2 (hv:=uy)) (ef af) (ef af)) ac)) (aa (bw ac) ac)))))
   (ah (cB PassesOwn.never rfl (eW EL z_range (aa (pv 4 (hv:=FN)) ac)) (bA 7 sc_law_small.nd (hx:=Fi)) (aj (cM (dc K PySem.F.plainAttrs_list PySem.F.slot_list_append PySem.F.type_list_append cq (aP (bi K) (pv 6) af (fun _ _=>rfl)) (aa (ee (CompSc.to (fsc:=(defScope az)) (N:=["_law_script", "_law_sides", "_law_words_here", "_law_one", "_law_other_here", "_law_due", "_law_ring", "_law_i", "_law_still", "_law_rule"]) (N0:=["_law_script", "_law_sides", "_law_words_here", "_law_one", "_law_other_here", "_law_due", "_law_ring", "_law_i", "_law_still", "_law_rule"]) (T:=["_law_word"]) ⟨by decide +kernel,by decide +kernel,by decide +kernel,by decide +kernel,by decide +kernel,by decide +kernel,by decide +kernel⟩ rfl rfl) rfl (b_ K (aP (bi K) (pv 6) af (fun _ _=>rfl))) (fun _ _ _ _=>(bA 10 (show (["_law_script", "_law_sides", "_law_words_here", "_law_one", "_law_other_here", "_law_due", "_law_ring", "_law_i", "_law_still", "_law_rule", "_law_word"]:List Str).Nodup from by decide +kernel) (hx:=(gf (defScope az) (by decide +kernel))) (hf:=i5 (defScope az) (by decide +kernel)))) (cS (show (["_law_script", "_law_sides", "_law_words_here", "_law_one", "_law_other_here", "_law_due", "_law_ring", "_law_i", "_law_still", "_law_rule"]:List Str).length≤10 from by decide)) (fun _ _ _ _=>du) (fun _ _ _ _=>(aP (bi K) (bw (aa (pv 7 (hv:=(cx (defScope az) (by decide +kernel)))) (aa (aE b9 (aE bH (pv 7 (hv:=(cx (defScope az) (by decide +kernel)))) af) (pv 4 (hv:=(cx (defScope az) (by decide +kernel))))) ac))) (iz nv z_int xA (aa (e_ dG (pv 10 (hv:=(cx (defScope az) (by decide +kernel)))) (aP (bi K) (pv 2 (hv:=(cx (defScope az) (by decide +kernel)))) af (fun _ _=>rfl)) (aV _)) ac) (hg:=(Ab (defScope az) (by decide +kernel)))) (fun _ _=>rfl)))) ac)))))
   (ah (aA 8 sc_law_small.nd (dP (aa (pv 1) (aa (bF (dg K) z_sorted de (aa (fK (fG K) (pv 2 (hv:=uy)) (ef af) ml) ac)) (aa (bw (aa (aE qC (bw (aa af ac)) af) ac)) ac)))))
   (ah (cB PassesOwn.never rfl (b_ K (bw (aa (pv 6) (aa (pv 8) ac)))) (bA 9 sc_law_small.nd) (ah (bT (PW.pt' (fo (aM (fP K hr) (aL c_law_made hr (aa af (aa (pv 5) (aa (pv 9) ac)))) (pv 5) (aV _)) (f_ (aM (fP K hr) (aL c_law_made hr (aa af (aa (pv 9) (aa (pv 5) ac)))) (pv 5) (aV _))))) (aj (aN cO)) bv)
   (aj (bT (PW.pt' (fo (aM (fP K hr) (aL c_law_made hr (aa af (aa (pv 5) (aa (pv 9) ac)))) (dP (aa (pv 1) (aa (bw ac) (aa (bw (aa (bw ac) ac)) ac)))) (aV _)) (f_ (aM (fP K hr) (aL c_law_made hr (aa af (aa (pv 9) (aa (pv 5) ac)))) (dP (aa (pv 1) (aa (bw ac) (aa (bw (aa (bw ac) ac)) ac)))) (aV _))))) (aj (aN cO)) bv))))
   (aj (aN cO)))))))))),?_⟩
 walk_at "rd1";refine⟨a,ns,1,rfl,hS,by decide,?_⟩
 refine⟨_,18,S,rfl,by decide,hSd,fun wl H1 ss s1 hwl0 hwl hsl h10 hnd=>?_⟩
 walk_at "nx";refine⟨a,ns,2,rfl,s1.seq hS,by decide,?_⟩
 generalize ns.getD (Int.toNat 2) 0=c2
 walk_at "rd1";refine⟨by decide,?_⟩
 obtain⟨n,en,n2,n11⟩ : ∃ n:Nat,2+c2 % 10=(n:Int)∧2≤n∧n≤11:=⟨(2+c2 % 10).toNat,by omega,by omega,by omega⟩
 rw[en];walk_at "nx";refine⟨⟨by omega,by omega⟩,?_⟩
 refine⟨a,ns,3,rfl,s1.seq hS,by decide,?_⟩
 generalize ns.getD (Int.toNat 3) 0=c3
 walk_at "rd1";refine⟨by decide,?_⟩
 obtain⟨m,em,m1,m40,mh1,mh2⟩:=DY n c3 n2 n11
 rw[em];have hss:∀ (j:Nat),j<18→∃ t,ss[j]? = some t∧t.length≤10:=fun j hj=>⟨_,List.getElem?_eq_getElem (by omega),h10 _ (List.getElem_mem _)⟩
 obtain⟨u,hu,lu⟩:=hss 0 (by decide)
 obtain⟨v,hv,lv⟩:=hss 1 (by decide)
 obtain⟨x,hx,lx⟩:=hss 2 (by decide)
 have nuv:u≠v:=fun e=>by
  have e1:=(List.getElem?_eq_some_iff.mp hu).2;have e2:=(List.getElem?_eq_some_iff.mp hv).2;have:=(List.getElem_inj hnd).mp (e1.trans (e.trans e2.symm))
  cases this
 walk_at "nx";refine⟨_,.str u,.inl (SqL.of hwl),(show eC (ss.map V.str) ((0:Nat):Int)=_ from aZ (by rw[List.getElem?_map,hu]; rfl)),?_⟩
 refine⟨_,.str v,.inl (SqL.of hwl),(show eC (ss.map V.str) ((1:Nat):Int)=_ from aZ (by rw[List.getElem?_map,hv]; rfl)),?_⟩
 refine⟨S,u,v,n,rfl,hSd,nuv,lu,lv,n2,by omega,fun t1 H2 r1 s2 hR1 es1 hC1=>?_⟩
 have hwl2:=s2 _ _ hwl;walk_at "nx";refine⟨_,SqL.of hwl2,fun cp hcp=>?_⟩
 rw[gC,show fD ss (some 2) (some 4)=(ss.drop 2).take (4 - 2) from r_ (c:=2) (m:=4) (by omega) (by omega)]
 generalize hH3z:upd H2 cp _=H3
 have s3:=aw hH3z hcp;have e3:=aS hH3z;have hl2:((ss.drop 2).take (4 - 2)).length=2:=by rw[List.length_take,List.length_drop]; omega
 refine⟨_,SqL.of e3,by rw[hl2]; decide,fun sl ts hs2 hp hso=>?_⟩
 have htl:ts.length=2:=by rw[hp.length_eq,hl2]
 have ht10:∀ y∈ts,y.length≤10:=fun y hy=>h10 y (List.mem_of_mem_drop (List.mem_of_mem_take (hp.mem_iff.mp hy)))
 have htn:ts.Nodup:=hp.nodup_iff.mpr ((hnd.sublist (List.drop_sublist _ _)).sublist (List.take_sublist _ _))
 generalize hH4z:upd H3 sl _=H4
 have s4:=aw hH4z hs2;have e4:=aS hH4z;refine⟨by decide,fun rp hrp=>?_⟩
 generalize hH5z:upd H4 rp _=H5
 have s5:=aw hH5z hrp;have e5:H5 rp=some (.lst (([]:List Addr).map V.ref)):=aS hH5z
 refine⟨by decide,fun t2 ht2=>?_⟩
 have s6:=bh ht2 (.tup [V.int S,V.ref sl,V.ref rp]);have e6:upd H5 t2 (.tup [V.int S,V.ref sl,V.ref rp]) t2=some (.tup [V.int S,V.ref sl,V.ref rp]):=ar
 have e56:upd H5 t2 (.tup [V.int S,V.ref sl,V.ref rp]) rp=some (.lst (([]:List Addr).map V.ref)):=s6 _ _ e5
 generalize upd H5 t2 (.tup [V.int S,V.ref sl,V.ref rp])=H6 at s6 e6 e56 ⊢;have s46:=s5.trans s6;have hwl4:=(s3.trans s4) _ _ hwl2;have nt2:t2≠rp:=fun e=>by rw[e,e56]at e6; cases e6
 walk_at "nx";refine⟨by omega,by omega,?_⟩
 refine fv (fun i σ H'=>∃ (as:List Addr) (o7:Option V),σ=[some (.ref a),some (.int S),some (.ref wl),some (nV n),some (nV m),some (.ref t1),some (.ref t2),o7,none,none]∧Same H4 H'∧H' t2=some (.tup [V.int S,V.ref sl,V.ref rp])∧NR H4 H' rp ((List.range i).map fun i=>ts.map (gL x m i)) as) ⟨[],none,rfl,s46,e6,⟨⟨e56,rfl,fun i a x z=>by simp at z⟩,by simp,List.nodup_nil⟩⟩ ?_ ?_
 ·rintro i σ H' hi ⟨as,o7,rfl,sm,ht,hN⟩
  rw[Int.toNat_natCast]at hi
  walk_at "rd1";refine⟨_,_,.inr (SqT.of ht),aZ (j:=2) rfl,?_⟩
  walk_at "rd1";have hNs:=hN.at';refine⟨⟨_,SqL.of hNs.1⟩,_,_,.inr (SqT.of ht),aZ (j:=1) rfl,sl,rfl,⟨_,SqL.of (sm _ _ e4)⟩,fun L hL=>?_⟩
  refine cW (xs:=ts.map V.str) (fun k ys H''=>Same H' H''∧H'' L=some (.lst ys)∧ys=((ts.take k).map (gL x m i)).map ak) ⟨bh hL _,ar,rfl⟩ (fun k ys H'' _ h=>SqL.of (h.1 _ _ (sm _ _ e4))) ?_ ?_
  ·rintro k ys H'' y hy hk ⟨sx,hl,rfl⟩
   rw[List.length_map]at hk
   rw[List.getElem?_map,List.getElem?_eq_getElem hk]at hy
   cases hy;walk_at "rd1";refine⟨by omega,by decide,fun bp hbp=>?_⟩
   generalize hH8z:upd H'' bp _=H8
   have s8:=aw hH8z hbp;have e8:=aS hH8z;refine⟨_,.str x,.inl (SqL.of (s8 _ _ (sx _ _ (sm _ _ hwl4)))),(show eC (ss.map V.str) ((2:Nat):Int)=_ from aZ (by rw[List.getElem?_map,hx]; rfl)),?_⟩
   walk_at "rd1"
   have fin:∀ z,z=ak (gL x m i ts[k])→gs (ts.map V.str).length k (fun k ys H''=>Same H' H''∧H'' L=some (.lst ys)∧ys=((ts.take k).map (gL x m i)).map ak) L (((ts.take k).map (gL x m i)).map ak) z H8:=fun z e=>by
    subst e;refine fS (by rw[List.length_map]; exact hk) (by simp; omega) (by rw[List.length_map]; exact cJ (by omega)) (s8 _ _ hl) ⟨(sx.trans s8).upd hL _,ar,?_⟩
    rw[List.take_add_one,List.getElem?_eq_getElem hk,List.map_append,List.map_append]; rfl
   by_cases hyx:ts[k]=x
   ·rw[if_pos hyx]
    refine⟨_,_,.inl (SqL.of e8),aZ (j:=1) rfl,fin _ ?_⟩
    unfold gL;rw[if_pos hyx,Int.zero_add]; rfl
   ·rw[if_neg hyx]
    refine⟨_,_,.inl (SqL.of e8),jU,fin _ ?_⟩
    unfold gL;rw[if_neg hyx,Int.zero_add]; rfl
  ·rintro ys H'' ⟨sx,hl,rfl⟩
   rw[List.length_map,List.take_length]at hl
   have hps:=hN.push sx sm hL hl;have hNx:=hN.mono sx;refine⟨_,hNx.at'.1,by rw[List.length_map,hNx.at'.2.1,List.length_map,List.length_range]; exact cA (by omega),as++[L],_,rfl,(sm.trans sx).upd hrp _,by rw[am nt2]; exact sx _ _ ht,?_⟩
   rw[List.range_succ,List.map_append];exact hps
 ·rintro σ H' ⟨as,o7,rfl,sm,ht,hN⟩
  rw[Int.toNat_natCast]at hN
  have hR2:RuleAt H' t2 (fV S ts x m):=⟨sl,rp,as,ht,sm _ _ e4,hN.at'⟩
  have hF2:Free (fV S ts x m):=vZ hSd htn (by omega) ht10 m1 (by omega)
  have hwl':=sm _ _ hwl4;have hR1':=((hR1.mono s3).mono s4).mono sm;clear hN ht;walk_at "nx";refine⟨_,SqL.of hwl',fun cp' hcp'=>?_⟩
  have ecut:fD ss (some 2) none=ss.drop 2:=by
   have:=HT.sIx_nat ss.length 0 2
   unfold fD;rw[show (some (2:Int))=some ((2:Nat):Int) from rfl,HT.sIx_nat,HT.sIx_none,Nat.min_eq_left (by omega)]
   exact List.take_of_length_le (by rw[List.length_drop]; omega)
  rw[gC,ecut];generalize hG2z:upd H' cp' _=G2
  have g2:=aw hG2z hcp';have f2:=aS hG2z;have hll:(ss.drop 2).length=16:=by rw[List.length_drop]; omega
  refine⟨_,SqL.of f2,by rw[hll]; decide,fun sl' us hs2' hp' hso'=>?_⟩
  have hul:us.length=16:=by rw[hp'.length_eq,hll]
  generalize hG3z:upd G2 sl' _=G3
  have g3:=aw hG3z hs2';have f3:=aS hG3z;refine⟨by decide,fun np' hnp'=>?_⟩
  generalize hG4z:upd G3 np' _=G4
  have g4:=aw hG4z hnp';have f4:=aS hG4z;refine⟨np',16,_,rfl,rfl,f4,by decide,by decide,by decide,fun rp' hrp'=>?_⟩
  rw[show Int.toNat 16=16 from rfl,yT];generalize hG5z:upd G4 rp' _=G5
  have g5:=aw hG5z hrp';have f5:=aS hG5z;refine⟨by decide,fun lp' hlp'=>?_⟩
  generalize hG6z:upd G5 lp' _=G6
  have g6:=aw hG6z hlp';have f6:=aS hG6z;refine⟨by decide,fun t3 ht3=>?_⟩
  generalize hG7z:upd G6 t3 _=G7
  have g7:=aw hG7z ht3;have f7:=aS hG7z;have g17:=g2.trans (g3.trans (g4.trans (g5.trans (g6.trans g7))))
  have hR3:RuleAt G7 t3 (lN S us):=by
   refine⟨sl',lp',[rp'],f7,(g4.trans (g5.trans (g6.trans g7))) _ _ f3,g7 _ _ f6,rfl,fun i a x e1 e2=>?_⟩
   match i,e1,e2 with
   | 0,e1,e2=>
    cases e1; cases e2
    rw[hul]; exact(g6.trans g7) _ _ f5
   | i+1,e1,e2=>simp at e1
  have hF3:Free (lN S us):=uW hSd (hp'.nodup_iff.mpr (hnd.sublist (List.drop_sublist _ _))) (by omega) fun y hy=>h10 y (List.mem_of_mem_drop (hp'.mem_iff.mp hy))
  have b2:Beside r1 (fV S ts x m):=⟨hC1.lst,hF2,es1,by rw[hC1.len]; simpa [fV] using mh1,by rw[hC1.len]; simpa [fV] using mh2,by rw[hC1.few]; show 2+ts.length≤18; omega,by rw[hC1.len]; omega,by rw[hC1.few]; decide⟩
  have b3:Beside r1 (lN S us):=⟨hC1.lst,hF3,es1,by rw[hC1.len]; show n * 1≤140; omega,by rw[hC1.len]; show (n+1) * (1+1)≤141; omega,by rw[hC1.few]; show 2+us.length≤18; omega,by rw[hC1.len]; omega,by rw[hC1.few]; decide⟩
  have hR1g:=hR1'.mono g17;have hR2g:=hR2.mono g17;walk_at "nx";refine⟨by decide,fun op hop=>?_⟩
  generalize hH8z:upd G7 op _=H8
  have s8:=aw hH8z hop;have e8:=aS hH8z;refine⟨⟨_,SqL.of e8⟩,?_⟩
  refine dL (xs:=[V.ref t2,V.ref t3]) (fun i σ H''=>∃ (o9:Option V),σ=[some (.ref a),some (.int S),some (.ref wl),some (nV n),some (nV m),some (.ref t1),some (.ref t2),o7,some (.ref t3),o9]∧Same H8 H'') ⟨_,rfl,Same.refl _⟩ (fun i σ H'' _ h=>by obtain⟨_,_,sx⟩:=h; exact SqL.of (sx _ _ e8)) ?_ ?_
  ·rintro i y σ H'' hy ⟨o9,rfl,sx⟩
   obtain⟨t4,r4,rfl,hR4,b4⟩ : ∃ t4 r4,y=V.ref t4∧RuleAt H8 t4 r4∧Beside r1 r4:=by
    have:=List.mem_of_getElem? hy
    simp only[List.mem_cons,List.not_mem_nil,or_false]at this
    rcases this with e | e
    ·exact⟨t2,_,e,hR2g.mono s8,b2⟩
    ·exact⟨t3,_,e,hR3.mono s8,b3⟩
   clear hy;have hRd:=(hR1g.mono s8).mono sx;have hRr:=hR4.mono sx;walk_at "rd1";refine b4.m0 hRd hRr fun t5 H9 s9 h5=>?_
   rw[fR];refine⟨2,_,by decide,md h5 (hRd.mono s9),_,rfl,bg (fun c=>absurd c (by decide)) (fun _=>?_)⟩
   refine b4.m1 (hRd.mono s9) (hRr.mono s9) fun t6 H10 s10 h6=>?_
   have s910:=s9.trans s10;rw[fR];refine⟨2,_,by decide,md h6 (hRd.mono s910),_,rfl,bg (fun c=>absurd c (by decide)) (fun _=>?_)⟩
   walk_at "nx";refine b4.m2 (hRd.mono s910) (hRr.mono s910) fun t7 H11 s11 h7=>?_
   rw[es1]at h7
   refine qI h7 fun H12 s12=>⟨_,rfl,bg (fun c=>absurd c (by decide)) (fun _=>?_)⟩
   have s912:=s910.trans (s11.trans s12);refine b4.m3 (hRd.mono s912) (hRr.mono s912) fun t8 H13 s13 h8=>?_
   rw[es1]at h8
   exact qI h8 fun H14 s14=>⟨_,rfl,bg (fun c=>absurd c (by decide)) (fun _=>⟨_,rfl,sx.trans (s912.trans (s13.trans s14))⟩)⟩
  ·rintro σ H'' ⟨o9,rfl,sx⟩
   walk_at "nx";exact q _
theorem BN{f:Addr}{fd:FuncData}(F:Fun K "law" "law" cN f fd) (c_law_cell_at:Cal P w K mg base 1 "_law_cell_at" ["_law_script", "_law_k"] (ip K)) (c_law_words:Cal P w K mg base 1 "_law_words" ["_law_cell", "_law_many", "_law_sides"] iP) (c_law_small:Cal P w K mg base 9 "_law_small" ["_law_script", "_law_sides"] (sT K)) (c_law_unlike:Cal P w K mg base 9 "_law_unlike" ["_law_script", "_law_words_here"] (sR K)) (c_law_counted:Cal P w K mg base 9 "_law_counted" ["_law_script", "_law_way", "_law_words_here", "_law_sides"] (nR K)) (c_law_worded:Cal P w K mg base 9 "_law_worded" ["_law_script", "_law_way", "_law_sides"] (pZ K)):FnOk P w K mg base iq 10 f fd ["_law_script"] (oD K):=by
 refine F.ok sc_law (fun vs H Q E h=>by obtain⟨a,ns,rfl,_⟩:=h; rfl) (fun cdv A outer s H vs Q E hr h=>?_)
 obtain⟨a,ns,rfl,hS,h63,q⟩:=h
 refine⟨_,(ah (aA 1 sc_law.nd (aL c_law_cell_at hr (aa (pv 0) (aa af ac))))
   (ah (aA 2 sc_law.nd (aE bH af (aE b9 (aE cE (pv 1) af) af)))
   (ah (bT (aM dG (aE b9 (aE cE (pv 1) af) af) af (aV _)) (aj (aN (aL c_law_small hr (aa (pv 0) (aa (pv 2) ac))))) bv)
   (ah (bT (aM dG (aE b9 (pv 1) af) af (aV _)) (aj (aN (aL c_law_unlike hr (aa (pv 0) (aa (aL c_law_words hr (aa (aL c_law_cell_at hr (aa (pv 0) (aa af ac))) (aa af (aa af ac)))) ac))))) bv)
   (ah (bT (aM lr (aE b9 (pv 1) af) af (aV _)) (aj (aN (aL c_law_counted hr (aa (pv 0) (aa (aE jd (aE b9 (pv 1) af) af) (aa (aL c_law_words hr (aa (aL c_law_cell_at hr (aa (pv 0) (aa af ac))) (aa af (aa (pv 2) ac)))) (aa (pv 2) ac))))))) bv)
   (aj (aN (aL c_law_worded hr (aa (pv 0) (aa (aE jd (aE b9 (pv 1) af) af) (aa (pv 2) ac))))))))))),?_⟩
 walk_at "rd1";refine⟨a,ns,0,rfl,hS,by decide,?_⟩
 generalize ns.getD (Int.toNat 0) 0=c0
 walk_at "nx";have hSd:1+c0 / 5 % 2=1∨1+c0 / 5 % 2=2:=by omega
 refine⟨⟨by decide,by decide⟩,by decide,?_⟩
 walk_at "nx";refine⟨⟨by decide,by decide⟩,by decide,bg (fun _=>?_) (fun _=>?_)⟩
 ·exact⟨a,ns,_,rfl,hS,hSd,q⟩
 walk_at "nx";refine⟨by decide,bg (fun _=>?_) (fun h0=>?_)⟩
 ·refine⟨a,ns,1,rfl,hS,by decide,?_⟩
  refine⟨_,2,2,rfl,by decide,.inr rfl,fun wl H1 ss s1 hwl0 hwl hsl h10 hnd=>?_⟩
  obtain⟨u,v,rfl⟩ : ∃ u v,ss=[u,v]:=by
   match ss,hsl with
   | [u,v],_=>exact⟨u,v,rfl⟩
  exact⟨a,wl,ns,u,v,rfl,s1.seq hS,hwl,by simpa using hnd,h10 u (by simp),h10 v (by simp),q⟩
 walk_at "nx";refine⟨by decide,bg (fun h3=>?_) (fun h3=>?_)⟩
 ·refine⟨by decide,a,ns,1,rfl,hS,by decide,?_⟩
  refine⟨_,4,_,rfl,by decide,hSd,fun wl H1 ss s1 hwl0 hwl hsl h10 hnd=>?_⟩
  obtain⟨k,ek,hk⟩ : ∃ k:Nat,c0 % 5 - 1=(k:Int)∧k≤1:=⟨(c0 % 5 - 1).toNat,by omega,by omega⟩
  rw[ek];exact⟨a,wl,ns,k,ss,_,rfl,s1.seq hS,h63,hk,hSd,hwl,hsl,h10,hnd,q⟩
 ·walk_at "nx"
  obtain⟨k,ek,hk⟩ : ∃ k:Nat,c0 % 5 - 3=(k:Int)∧k≤1:=⟨(c0 % 5 - 3).toNat,by omega,by omega⟩
  rw[ek];exact⟨by decide,a,ns,k,_,rfl,hS,h63,hk,hSd,q⟩
end
theorem all_mk{l:PySem.W.OpenLaw}{w:World}{K:PySem.W.Frag}{h:Heap}{mg:Str→Option Value}{fa:Addr}(X:K.In h)(G:h.Ns mainGlobals mg)(hfa:mg "law" = some (.ref fa))
  {f0:Addr} {od0 an0:Option Addr} {sl0:Array (Option Value)} {oc0 kV0 dc0 pm0 cd0 ct0:Value} {f1:Addr} {od1 an1:Option Addr} {sl1:Array (Option Value)} {oc1 kV1 dc1 pm1 cd1 ct1:Value} {f2:Addr} {od2 an2:Option Addr} {sl2:Array (Option Value)} {oc2 kV2 dc2 pm2 cd2 ct2:Value} {f3:Addr} {od3 an3:Option Addr} {sl3:Array (Option Value)} {oc3 kV3 dc3 pm3 cd3 ct3:Value} {f4:Addr} {od4 an4:Option Addr} {sl4:Array (Option Value)} {oc4 kV4 dc4 pm4 cd4 ct4:Value} {f5:Addr} {od5 an5:Option Addr} {sl5:Array (Option Value)} {oc5 kV5 dc5 pm5 cd5 ct5:Value} {f6:Addr} {od6 an6:Option Addr} {sl6:Array (Option Value)} {oc6 kV6 dc6 pm6 cd6 ct6:Value} {f7:Addr} {od7 an7:Option Addr} {sl7:Array (Option Value)} {oc7 kV7 dc7 pm7 cd7 ct7:Value} {f8:Addr} {od8 an8:Option Addr} {sl8:Array (Option Value)} {oc8 kV8 dc8 pm8 cd8 ct8:Value} {f9:Addr} {od9 an9:Option Addr} {sl9:Array (Option Value)} {oc9 kV9 dc9 pm9 cd9 ct9:Value} {f10:Addr} {od10 an10:Option Addr} {sl10:Array (Option Value)} {oc10 kV10 dc10 pm10 cd10 ct10:Value} {f11:Addr} {od11 an11:Option Addr} {sl11:Array (Option Value)} {oc11 kV11 dc11 pm11 cd11 ct11:Value} {f12:Addr} {od12 an12:Option Addr} {sl12:Array (Option Value)} {oc12 kV12 dc12 pm12 cd12 ct12:Value} {f13:Addr} {od13 an13:Option Addr} {sl13:Array (Option Value)} {oc13 kV13 dc13 pm13 cd13 ct13:Value} {f14:Addr} {od14 an14:Option Addr} {sl14:Array (Option Value)} {oc14 kV14 dc14 pm14 cd14 ct14:Value} {f15:Addr} {od15 an15:Option Addr} {sl15:Array (Option Value)} {oc15 kV15 dc15 pm15 cd15 ct15:Value} {f16:Addr} {od16 an16:Option Addr} {sl16:Array (Option Value)} {oc16 kV16 dc16 pm16 cd16 ct16:Value} {f17:Addr} {od17 an17:Option Addr} {sl17:Array (Option Value)} {oc17 kV17 dc17 pm17 cd17 ct17:Value} {f18:Addr} {od18 an18:Option Addr} {sl18:Array (Option Value)} {oc18 kV18 dc18 pm18 cd18 ct18:Value} {f19:Addr} {od19 an19:Option Addr} {sl19:Array (Option Value)} {oc19 kV19 dc19 pm19 cd19 ct19:Value} {f20:Addr} {od20 an20:Option Addr} {sl20:Array (Option Value)} {oc20 kV20 dc20 pm20 cd20 ct20:Value} {f21:Addr} {od21 an21:Option Addr} {sl21:Array (Option Value)} {oc21 kV21 dc21 pm21 cd21 ct21:Value} {f22:Addr} {od22 an22:Option Addr} {sl22:Array (Option Value)} {oc22 kV22 dc22 pm22 cd22 ct22:Value} {f23:Addr} {od23 an23:Option Addr} {sl23:Array (Option Value)} {oc23 kV23 dc23 pm23 cd23 ct23:Value} {f24:Addr} {od24 an24:Option Addr} {sl24:Array (Option Value)} {oc24 kV24 dc24 pm24 cd24 ct24:Value} {f25:Addr} {od25 an25:Option Addr} {sl25:Array (Option Value)} {oc25 kV25 dc25 pm25 cd25 ct25:Value} {f26:Addr} {od26 an26:Option Addr} {sl26:Array (Option Value)} {oc26 kV26 dc26 pm26 cd26 ct26:Value} {f27:Addr} {od27 an27:Option Addr} {sl27:Array (Option Value)} {oc27 kV27 dc27 pm27 cd27 ct27:Value} {f28:Addr} {od28 an28:Option Addr} {sl28:Array (Option Value)} {oc28 kV28 dc28 pm28 cd28 ct28:Value} {f29:Addr} {od29 an29:Option Addr} {sl29:Array (Option Value)} {oc29 kV29 dc29 pm29 cd29 ct29:Value} {f30:Addr} {od30 an30:Option Addr} {sl30:Array (Option Value)} {oc30 kV30 dc30 pm30 cd30 ct30:Value} {f31:Addr} {od31 an31:Option Addr} {sl31:Array (Option Value)} {oc31 kV31 dc31 pm31 cd31 ct31:Value} {f32:Addr} {od32 an32:Option Addr} {sl32:Array (Option Value)} {oc32 kV32 dc32 pm32 cd32 ct32:Value} {f33:Addr} {od33 an33:Option Addr} {sl33:Array (Option Value)} {oc33 kV33 dc33 pm33 cd33 ct33:Value} {f34:Addr} {od34 an34:Option Addr} {sl34:Array (Option Value)} {oc34 kV34 dc34 pm34 cd34 ct34:Value} {t_MOST_ROOMS:Tok} {t_MOST_WORDS:Tok} {C_NoFit:Addr} {C_TooGreat:Addr} {C_NoText:Addr} {C_NoRule:Addr} {C_Breach:Addr} {C_UseError:Addr}
  (a0:PySem.W.nsIn K mainGlobals "ways_by" = some (some (.ref f0))) (l0:K.lookup f0=some ⟨oc0,od0,.func (PySem.W.fnOf "ways_by" "ways_by" (defArgs ck) (defBody ck) (defScope ck) .none kV0 dc0 pm0 an0 cd0 ct0),sl0⟩) (c0:PySem.W.codeIn K cd0 "ways_by" = true) (k0:PySem.W.keepIn K (.ref f0)=true)
  (a1:PySem.W.nsIn K mainGlobals "finer_kinds" = some (some (.ref f1))) (l1:K.lookup f1=some ⟨oc1,od1,.func (PySem.W.fnOf "finer_kinds" "finer_kinds" (defArgs aT) (defBody aT) (defScope aT) .none kV1 dc1 pm1 an1 cd1 ct1),sl1⟩) (c1:PySem.W.codeIn K cd1 "finer_kinds" = true) (k1:PySem.W.keepIn K (.ref f1)=true)
  (a2:PySem.W.nsIn K mainGlobals "kinds_upto" = some (some (.ref f2))) (l2:K.lookup f2=some ⟨oc2,od2,.func (PySem.W.fnOf "kinds_upto" "kinds_upto" (defArgs bn) (defBody bn) (defScope bn) .none kV2 dc2 pm2 an2 cd2 ct2),sl2⟩) (c2:PySem.W.codeIn K cd2 "kinds_upto" = true) (k2:PySem.W.keepIn K (.ref f2)=true)
  (a3:PySem.W.nsIn K mainGlobals "merged_rooms" = some (some (.ref f3))) (l3:K.lookup f3=some ⟨oc3,od3,.func (PySem.W.fnOf "merged_rooms" "merged_rooms" (defArgs bd) (defBody bd) (defScope bd) .none kV3 dc3 pm3 an3 cd3 ct3),sl3⟩) (c3:PySem.W.codeIn K cd3 "merged_rooms" = true) (k3:PySem.W.keepIn K (.ref f3)=true)
  (a4:PySem.W.nsIn K mainGlobals "rooms_led_to" = some (some (.ref f4))) (l4:K.lookup f4=some ⟨oc4,od4,.func (PySem.W.fnOf "rooms_led_to" "rooms_led_to" (defArgs ba) (defBody ba) (defScope ba) .none kV4 dc4 pm4 an4 cd4 ct4),sl4⟩) (c4:PySem.W.codeIn K cd4 "rooms_led_to" = true) (k4:PySem.W.keepIn K (.ref f4)=true)
  (a5:PySem.W.nsIn K mainGlobals "numbered_rooms" = some (some (.ref f5))) (l5:K.lookup f5=some ⟨oc5,od5,.func (PySem.W.fnOf "numbered_rooms" "numbered_rooms" (defArgs aB) (defBody aB) (defScope aB) .none kV5 dc5 pm5 an5 cd5 ct5),sl5⟩) (c5:PySem.W.codeIn K cd5 "numbered_rooms" = true) (k5:PySem.W.keepIn K (.ref f5)=true)
  (a6:PySem.W.nsIn K mainGlobals "does_something" = some (some (.ref f6))) (l6:K.lookup f6=some ⟨oc6,od6,.func (PySem.W.fnOf "does_something" "does_something" (defArgs aW) (defBody aW) (defScope aW) .none kV6 dc6 pm6 an6 cd6 ct6),sl6⟩) (c6:PySem.W.codeIn K cd6 "does_something" = true) (k6:PySem.W.keepIn K (.ref f6)=true)
  (a7:PySem.W.nsIn K mainGlobals "picked" = some (some (.ref f7))) (l7:K.lookup f7=some ⟨oc7,od7,.func (PySem.W.fnOf "picked" "picked" (defArgs cD) (defBody cD) (defScope cD) .none kV7 dc7 pm7 an7 cd7 ct7),sl7⟩) (c7:PySem.W.codeIn K cd7 "picked" = true) (k7:PySem.W.keepIn K (.ref f7)=true)
  (a8:PySem.W.nsIn K mainGlobals "least_upto" = some (some (.ref f8))) (l8:K.lookup f8=some ⟨oc8,od8,.func (PySem.W.fnOf "least_upto" "least_upto" (defArgs ay) (defBody ay) (defScope ay) .none kV8 dc8 pm8 an8 cd8 ct8),sl8⟩) (c8:PySem.W.codeIn K cd8 "least_upto" = true) (k8:PySem.W.keepIn K (.ref f8)=true)
  (a9:PySem.W.nsIn K mainGlobals "refuse_unlike" = some (some (.ref f9))) (l9:K.lookup f9=some ⟨oc9,od9,.func (PySem.W.fnOf "refuse_unlike" "refuse_unlike" (defArgs bW) (defBody bW) (defScope bW) .none kV9 dc9 pm9 an9 cd9 ct9),sl9⟩) (c9:PySem.W.codeIn K cd9 "refuse_unlike" = true) (k9:PySem.W.keepIn K (.ref f9)=true)
  (a10:PySem.W.nsIn K mainGlobals "words_of_both" = some (some (.ref f10))) (l10:K.lookup f10=some ⟨oc10,od10,.func (PySem.W.fnOf "words_of_both" "words_of_both" (defArgs bO) (defBody bO) (defScope bO) .none kV10 dc10 pm10 an10 cd10 ct10),sl10⟩) (c10:PySem.W.codeIn K cd10 "words_of_both" = true) (k10:PySem.W.keepIn K (.ref f10)=true)
  (a11:PySem.W.nsIn K mainGlobals "ways_for" = some (some (.ref f11))) (l11:K.lookup f11=some ⟨oc11,od11,.func (PySem.W.fnOf "ways_for" "ways_for" (defArgs bN) (defBody bN) (defScope bN) .none kV11 dc11 pm11 an11 cd11 ct11),sl11⟩) (c11:PySem.W.codeIn K cd11 "ways_for" = true) (k11:PySem.W.keepIn K (.ref f11)=true)
  (a12:PySem.W.nsIn K mainGlobals "ways_by_room" = some (some (.ref f12))) (l12:K.lookup f12=some ⟨oc12,od12,.func (PySem.W.fnOf "ways_by_room" "ways_by_room" (defArgs aI) (defBody aI) (defScope aI) .none kV12 dc12 pm12 an12 cd12 ct12),sl12⟩) (c12:PySem.W.codeIn K cd12 "ways_by_room" = true) (k12:PySem.W.keepIn K (.ref f12)=true)
  (a13:PySem.W.nsIn K mainGlobals "pairs_behind" = some (some (.ref f13))) (l13:K.lookup f13=some ⟨oc13,od13,.func (PySem.W.fnOf "pairs_behind" "pairs_behind" (defArgs bK) (defBody bK) (defScope bK) .none kV13 dc13 pm13 an13 cd13 ct13),sl13⟩) (c13:PySem.W.codeIn K cd13 "pairs_behind" = true) (k13:PySem.W.keepIn K (.ref f13)=true)
  (a14:PySem.W.nsIn K mainGlobals "next_room" = some (some (.ref f14))) (l14:K.lookup f14=some ⟨oc14,od14,.func (PySem.W.fnOf "next_room" "next_room" (defArgs ce) (defBody ce) (defScope ce) .none kV14 dc14 pm14 an14 cd14 ct14),sl14⟩) (c14:PySem.W.codeIn K cd14 "next_room" = true) (k14:PySem.W.keepIn K (.ref f14)=true)
  (a15:PySem.W.nsIn K mainGlobals "room_from" = some (some (.ref f15))) (l15:K.lookup f15=some ⟨oc15,od15,.func (PySem.W.fnOf "room_from" "room_from" (defArgs bV) (defBody bV) (defScope bV) .none kV15 dc15 pm15 an15 cd15 ct15),sl15⟩) (c15:PySem.W.codeIn K cd15 "room_from" = true) (k15:PySem.W.keepIn K (.ref f15)=true)
  (a16:PySem.W.nsIn K mainGlobals "room_after" = some (some (.ref f16))) (l16:K.lookup f16=some ⟨oc16,od16,.func (PySem.W.fnOf "room_after" "room_after" (defArgs cm) (defBody cm) (defScope cm) .none kV16 dc16 pm16 an16 cd16 ct16),sl16⟩) (c16:PySem.W.codeIn K cd16 "room_after" = true) (k16:PySem.W.keepIn K (.ref f16)=true)
  (a17:PySem.W.nsIn K mainGlobals "breaks_one" = some (some (.ref f17))) (l17:K.lookup f17=some ⟨oc17,od17,.func (PySem.W.fnOf "breaks_one" "breaks_one" (defArgs cK) (defBody cK) (defScope cK) .none kV17 dc17 pm17 an17 cd17 ct17),sl17⟩) (c17:PySem.W.codeIn K cd17 "breaks_one" = true) (k17:PySem.W.keepIn K (.ref f17)=true)
  (a18:PySem.W.nsIn K mainGlobals "breaks_both" = some (some (.ref f18))) (l18:K.lookup f18=some ⟨oc18,od18,.func (PySem.W.fnOf "breaks_both" "breaks_both" (defArgs cy) (defBody cy) (defScope cy) .none kV18 dc18 pm18 an18 cd18 ct18),sl18⟩) (c18:PySem.W.codeIn K cd18 "breaks_both" = true) (k18:PySem.W.keepIn K (.ref f18)=true)
  (a19:PySem.W.nsIn K mainGlobals "rule_of_pairs" = some (some (.ref f19))) (l19:K.lookup f19=some ⟨oc19,od19,.func (PySem.W.fnOf "rule_of_pairs" "rule_of_pairs" (defArgs av) (defBody av) (defScope av) .none kV19 dc19 pm19 an19 cd19 ct19),sl19⟩) (c19:PySem.W.codeIn K cd19 "rule_of_pairs" = true) (k19:PySem.W.keepIn K (.ref f19)=true)
  (a20:PySem.W.nsIn K mainGlobals "least_of_pairs" = some (some (.ref f20))) (l20:K.lookup f20=some ⟨oc20,od20,.func (PySem.W.fnOf "least_of_pairs" "least_of_pairs" (defArgs aQ) (defBody aQ) (defScope aQ) .none kV20 dc20 pm20 an20 cd20 ct20),sl20⟩) (c20:PySem.W.codeIn K cd20 "least_of_pairs" = true) (k20:PySem.W.keepIn K (.ref f20)=true)
  (a21:PySem.W.nsIn K mainGlobals "joined_rule" = some (some (.ref f21))) (l21:K.lookup f21=some ⟨oc21,od21,.func (PySem.W.fnOf "joined_rule" "joined_rule" (defArgs b6) (defBody b6) (defScope b6) .none kV21 dc21 pm21 an21 cd21 ct21),sl21⟩) (c21:PySem.W.codeIn K cd21 "joined_rule" = true) (k21:PySem.W.keepIn K (.ref f21)=true)
  (a22:PySem.W.nsIn K mainGlobals "either_rule" = some (some (.ref f22))) (l22:K.lookup f22=some ⟨oc22,od22,.func (PySem.W.fnOf "either_rule" "either_rule" (defArgs b5) (defBody b5) (defScope b5) .none kV22 dc22 pm22 an22 cd22 ct22),sl22⟩) (c22:PySem.W.codeIn K cd22 "either_rule" = true) (k22:PySem.W.keepIn K (.ref f22)=true)
  (a23:PySem.W.nsIn K mainGlobals "row_apart" = some (some (.ref f23))) (l23:K.lookup f23=some ⟨oc23,od23,.func (PySem.W.fnOf "row_apart" "row_apart" (defArgs cw) (defBody cw) (defScope cw) .none kV23 dc23 pm23 an23 cd23 ct23),sl23⟩) (c23:PySem.W.codeIn K cd23 "row_apart" = true) (k23:PySem.W.keepIn K (.ref f23)=true)
  (a24:PySem.W.nsIn K mainGlobals "_law_cell_at" = some (some (.ref f24))) (l24:K.lookup f24=some ⟨oc24,od24,.func (PySem.W.fnOf "_law_cell_at" "_law_cell_at" (defArgs cg) (defBody cg) (defScope cg) .none kV24 dc24 pm24 an24 cd24 ct24),sl24⟩) (c24:PySem.W.codeIn K cd24 "_law_cell_at" = true) (k24:PySem.W.keepIn K (.ref f24)=true)
  (a25:PySem.W.nsIn K mainGlobals "_law_words" = some (some (.ref f25))) (l25:K.lookup f25=some ⟨oc25,od25,.func (PySem.W.fnOf "_law_words" "_law_words" (defArgs aO) (defBody aO) (defScope aO) .none kV25 dc25 pm25 an25 cd25 ct25),sl25⟩) (c25:PySem.W.codeIn K cd25 "_law_words" = true) (k25:PySem.W.keepIn K (.ref f25)=true)
  (a26:PySem.W.nsIn K mainGlobals "_law_counter" = some (some (.ref f26))) (l26:K.lookup f26=some ⟨oc26,od26,.func (PySem.W.fnOf "_law_counter" "_law_counter" (defArgs a_) (defBody a_) (defScope a_) .none kV26 dc26 pm26 an26 cd26 ct26),sl26⟩) (c26:PySem.W.codeIn K cd26 "_law_counter" = true) (k26:PySem.W.keepIn K (.ref f26)=true)
  (a27:PySem.W.nsIn K mainGlobals "_law_other" = some (some (.ref f27))) (l27:K.lookup f27=some ⟨oc27,od27,.func (PySem.W.fnOf "_law_other" "_law_other" (defArgs bI) (defBody bI) (defScope bI) .none kV27 dc27 pm27 an27 cd27 ct27),sl27⟩) (c27:PySem.W.codeIn K cd27 "_law_other" = true) (k27:PySem.W.keepIn K (.ref f27)=true)
  (a28:PySem.W.nsIn K mainGlobals "_law_made" = some (some (.ref f28))) (l28:K.lookup f28=some ⟨oc28,od28,.func (PySem.W.fnOf "_law_made" "_law_made" (defArgs bt) (defBody bt) (defScope bt) .none kV28 dc28 pm28 an28 cd28 ct28),sl28⟩) (c28:PySem.W.codeIn K cd28 "_law_made" = true) (k28:PySem.W.keepIn K (.ref f28)=true)
  (a29:PySem.W.nsIn K mainGlobals "_law_kept" = some (some (.ref f29))) (l29:K.lookup f29=some ⟨oc29,od29,.func (PySem.W.fnOf "_law_kept" "_law_kept" (defArgs bM) (defBody bM) (defScope bM) .none kV29 dc29 pm29 an29 cd29 ct29),sl29⟩) (c29:PySem.W.codeIn K cd29 "_law_kept" = true) (k29:PySem.W.keepIn K (.ref f29)=true)
  (a30:PySem.W.nsIn K mainGlobals "_law_counted" = some (some (.ref f30))) (l30:K.lookup f30=some ⟨oc30,od30,.func (PySem.W.fnOf "_law_counted" "_law_counted" (defArgs aq) (defBody aq) (defScope aq) .none kV30 dc30 pm30 an30 cd30 ct30),sl30⟩) (c30:PySem.W.codeIn K cd30 "_law_counted" = true) (k30:PySem.W.keepIn K (.ref f30)=true)
  (a31:PySem.W.nsIn K mainGlobals "_law_worded" = some (some (.ref f31))) (l31:K.lookup f31=some ⟨oc31,od31,.func (PySem.W.fnOf "_law_worded" "_law_worded" (defArgs aJ) (defBody aJ) (defScope aJ) .none kV31 dc31 pm31 an31 cd31 ct31),sl31⟩) (c31:PySem.W.codeIn K cd31 "_law_worded" = true) (k31:PySem.W.keepIn K (.ref f31)=true)
  (a32:PySem.W.nsIn K mainGlobals "_law_unlike" = some (some (.ref f32))) (l32:K.lookup f32=some ⟨oc32,od32,.func (PySem.W.fnOf "_law_unlike" "_law_unlike" (defArgs bo) (defBody bo) (defScope bo) .none kV32 dc32 pm32 an32 cd32 ct32),sl32⟩) (c32:PySem.W.codeIn K cd32 "_law_unlike" = true) (k32:PySem.W.keepIn K (.ref f32)=true)
  (a33:PySem.W.nsIn K mainGlobals "_law_small" = some (some (.ref f33))) (l33:K.lookup f33=some ⟨oc33,od33,.func (PySem.W.fnOf "_law_small" "_law_small" (defArgs az) (defBody az) (defScope az) .none kV33 dc33 pm33 an33 cd33 ct33),sl33⟩) (c33:PySem.W.codeIn K cd33 "_law_small" = true) (k33:PySem.W.keepIn K (.ref f33)=true)
  (a34:PySem.W.nsIn K mainGlobals "law" = some (some (.ref f34))) (l34:K.lookup f34=some ⟨oc34,od34,.func (PySem.W.fnOf "law" "law" (defArgs cN) (defBody cN) (defScope cN) .none kV34 dc34 pm34 an34 cd34 ct34),sl34⟩) (c34:PySem.W.codeIn K cd34 "law" = true) (k34:PySem.W.keepIn K (.ref f34)=true)
  (y_isinstance:PySem.W.nsIn K mainGlobals "isinstance" = some none)
  (y_str:PySem.W.nsIn K mainGlobals "str" = some none)
  (y_len:PySem.W.nsIn K mainGlobals "len" = some none)
  (y_range:PySem.W.nsIn K mainGlobals "range" = some none)
  (y_int:PySem.W.nsIn K mainGlobals "int" = some none)
  (y_list:PySem.W.nsIn K mainGlobals "list" = some none)
  (y_sorted:PySem.W.nsIn K mainGlobals "sorted" = some none)
  (y_tuple:PySem.W.nsIn K mainGlobals "tuple" = some none)
  (y_enumerate:PySem.W.nsIn K mainGlobals "enumerate" = some none)
  (y_any:PySem.W.nsIn K mainGlobals "any" = some none)
  (y_max:PySem.W.nsIn K mainGlobals "max" = some none)
  (y_set:PySem.W.nsIn K mainGlobals "set" = some none)
  (y_zip:PySem.W.nsIn K mainGlobals "zip" = some none)
  (y_ValueError:PySem.W.nsIn K mainGlobals "ValueError" = some none)
  (h_MOST_ROOMS:PySem.W.nsIn K mainGlobals "MOST_ROOMS" = some (some (.int 60 t_MOST_ROOMS)))
  (h_MOST_WORDS:PySem.W.nsIn K mainGlobals "MOST_WORDS" = some (some (.int 16 t_MOST_WORDS)))
  (n_NoFit:PySem.W.nsIn K mainGlobals "NoFit" = some (some (.ref C_NoFit)))
  (xq_NoFit:lX K C_NoFit [.type "ValueError", .type "Exception", .type "BaseException", .type "object"] "ValueError.__new__" = true) (xs_NoFit:PySem.W.subIn K (.ref C_NoFit) (.type "object")=some true) (xc_NoFit:PySem.W.findIn K (.ref C_NoFit) "__class__" = some (some (.builtin "object.__class__")))
  (n_TooGreat:PySem.W.nsIn K mainGlobals "TooGreat" = some (some (.ref C_TooGreat)))
  (xq_TooGreat:lX K C_TooGreat [.type "ValueError", .type "Exception", .type "BaseException", .type "object"] "ValueError.__new__" = true) (xs_TooGreat:PySem.W.subIn K (.ref C_TooGreat) (.type "object")=some true) (xc_TooGreat:PySem.W.findIn K (.ref C_TooGreat) "__class__" = some (some (.builtin "object.__class__")))
  (n_NoText:PySem.W.nsIn K mainGlobals "NoText" = some (some (.ref C_NoText)))
  (kt_NoFit_NoText:PySem.W.kitOne K (.ref C_NoFit) (.ref C_NoText)=some false)
  (n_NoRule:PySem.W.nsIn K mainGlobals "NoRule" = some (some (.ref C_NoRule)))
  (kt_NoFit_NoRule:PySem.W.kitOne K (.ref C_NoFit) (.ref C_NoRule)=some false)
  (n_Breach:PySem.W.nsIn K mainGlobals "Breach" = some (some (.ref C_Breach)))
  (kt_NoFit_Breach:PySem.W.kitOne K (.ref C_NoFit) (.ref C_Breach)=some false)
  (kt_NoFit_NoFit:PySem.W.kitOne K (.ref C_NoFit) (.ref C_NoFit)=some true)
  (kt_NoFit_TooGreat:PySem.W.kitOne K (.ref C_NoFit) (.ref C_TooGreat)=some false)
  (n_UseError:PySem.W.nsIn K mainGlobals "UseError" = some (some (.ref C_UseError)))
  (kt_NoFit_UseError:PySem.W.kitOne K (.ref C_NoFit) (.ref C_UseError)=some true)
  (kt_NoFit_ValueError:PySem.W.kitOne K (.ref C_NoFit) (.type "ValueError")=some true)
  (kt_TooGreat_NoText:PySem.W.kitOne K (.ref C_TooGreat) (.ref C_NoText)=some false)
  (kt_TooGreat_NoRule:PySem.W.kitOne K (.ref C_TooGreat) (.ref C_NoRule)=some false)
  (kt_TooGreat_Breach:PySem.W.kitOne K (.ref C_TooGreat) (.ref C_Breach)=some false)
  (kt_TooGreat_NoFit:PySem.W.kitOne K (.ref C_TooGreat) (.ref C_NoFit)=some false)
  (kt_TooGreat_UseError:PySem.W.kitOne K (.ref C_TooGreat) (.ref C_UseError)=some true)
  (kt_TooGreat_ValueError:PySem.W.kitOne K (.ref C_TooGreat) (.type "ValueError")=some true) :
  ∃ fd:FuncData,(∀ (s:Shared) (v:Value),BindsTo s fd ⟨[v],[]⟩ [("_law_script", v)])∧∀ base:Heap,K.In base→base.Ns mainGlobals mg→FnOk l.prog w K mg base iq 10 fa fd ["_law_script"] (oD K):=by
 have e:=hfa.symm.trans (PySem.W.mg_of X G a34)
 cases e;have D_ways_by:DefAt K mg "ways_by" ck:=⟨f0,_,bx (st:=ck) l0 c0 k0,PySem.W.mg_of X G a0⟩
 have D_finer_kinds:DefAt K mg "finer_kinds" aT:=⟨f1,_,bx (st:=aT) l1 c1 k1,PySem.W.mg_of X G a1⟩
 have D_kinds_upto:DefAt K mg "kinds_upto" bn:=⟨f2,_,bx (st:=bn) l2 c2 k2,PySem.W.mg_of X G a2⟩
 have D_merged_rooms:DefAt K mg "merged_rooms" bd:=⟨f3,_,bx (st:=bd) l3 c3 k3,PySem.W.mg_of X G a3⟩
 have D_rooms_led_to:DefAt K mg "rooms_led_to" ba:=⟨f4,_,bx (st:=ba) l4 c4 k4,PySem.W.mg_of X G a4⟩
 have D_numbered_rooms:DefAt K mg "numbered_rooms" aB:=⟨f5,_,bx (st:=aB) l5 c5 k5,PySem.W.mg_of X G a5⟩
 have D_does_something:DefAt K mg "does_something" aW:=⟨f6,_,bx (st:=aW) l6 c6 k6,PySem.W.mg_of X G a6⟩
 have D_picked:DefAt K mg "picked" cD:=⟨f7,_,bx (st:=cD) l7 c7 k7,PySem.W.mg_of X G a7⟩
 have D_least_upto:DefAt K mg "least_upto" ay:=⟨f8,_,bx (st:=ay) l8 c8 k8,PySem.W.mg_of X G a8⟩
 have D_refuse_unlike:DefAt K mg "refuse_unlike" bW:=⟨f9,_,bx (st:=bW) l9 c9 k9,PySem.W.mg_of X G a9⟩
 have D_words_of_both:DefAt K mg "words_of_both" bO:=⟨f10,_,bx (st:=bO) l10 c10 k10,PySem.W.mg_of X G a10⟩
 have D_ways_for:DefAt K mg "ways_for" bN:=⟨f11,_,bx (st:=bN) l11 c11 k11,PySem.W.mg_of X G a11⟩
 have D_ways_by_room:DefAt K mg "ways_by_room" aI:=⟨f12,_,bx (st:=aI) l12 c12 k12,PySem.W.mg_of X G a12⟩
 have D_pairs_behind:DefAt K mg "pairs_behind" bK:=⟨f13,_,bx (st:=bK) l13 c13 k13,PySem.W.mg_of X G a13⟩
 have D_next_room:DefAt K mg "next_room" ce:=⟨f14,_,bx (st:=ce) l14 c14 k14,PySem.W.mg_of X G a14⟩
 have D_room_from:DefAt K mg "room_from" bV:=⟨f15,_,bx (st:=bV) l15 c15 k15,PySem.W.mg_of X G a15⟩
 have D_room_after:DefAt K mg "room_after" cm:=⟨f16,_,bx (st:=cm) l16 c16 k16,PySem.W.mg_of X G a16⟩
 have D_breaks_one:DefAt K mg "breaks_one" cK:=⟨f17,_,bx (st:=cK) l17 c17 k17,PySem.W.mg_of X G a17⟩
 have D_breaks_both:DefAt K mg "breaks_both" cy:=⟨f18,_,bx (st:=cy) l18 c18 k18,PySem.W.mg_of X G a18⟩
 have D_rule_of_pairs:DefAt K mg "rule_of_pairs" av:=⟨f19,_,bx (st:=av) l19 c19 k19,PySem.W.mg_of X G a19⟩
 have D_least_of_pairs:DefAt K mg "least_of_pairs" aQ:=⟨f20,_,bx (st:=aQ) l20 c20 k20,PySem.W.mg_of X G a20⟩
 have D_joined_rule:DefAt K mg "joined_rule" b6:=⟨f21,_,bx (st:=b6) l21 c21 k21,PySem.W.mg_of X G a21⟩
 have D_either_rule:DefAt K mg "either_rule" b5:=⟨f22,_,bx (st:=b5) l22 c22 k22,PySem.W.mg_of X G a22⟩
 have D_row_apart:DefAt K mg "row_apart" cw:=⟨f23,_,bx (st:=cw) l23 c23 k23,PySem.W.mg_of X G a23⟩
 have D_law_cell_at:DefAt K mg "_law_cell_at" cg:=⟨f24,_,bx (st:=cg) l24 c24 k24,PySem.W.mg_of X G a24⟩
 have D_law_words:DefAt K mg "_law_words" aO:=⟨f25,_,bx (st:=aO) l25 c25 k25,PySem.W.mg_of X G a25⟩
 have D_law_counter:DefAt K mg "_law_counter" a_:=⟨f26,_,bx (st:=a_) l26 c26 k26,PySem.W.mg_of X G a26⟩
 have D_law_other:DefAt K mg "_law_other" bI:=⟨f27,_,bx (st:=bI) l27 c27 k27,PySem.W.mg_of X G a27⟩
 have D_law_made:DefAt K mg "_law_made" bt:=⟨f28,_,bx (st:=bt) l28 c28 k28,PySem.W.mg_of X G a28⟩
 have D_law_kept:DefAt K mg "_law_kept" bM:=⟨f29,_,bx (st:=bM) l29 c29 k29,PySem.W.mg_of X G a29⟩
 have D_law_counted:DefAt K mg "_law_counted" aq:=⟨f30,_,bx (st:=aq) l30 c30 k30,PySem.W.mg_of X G a30⟩
 have D_law_worded:DefAt K mg "_law_worded" aJ:=⟨f31,_,bx (st:=aJ) l31 c31 k31,PySem.W.mg_of X G a31⟩
 have D_law_unlike:DefAt K mg "_law_unlike" bo:=⟨f32,_,bx (st:=bo) l32 c32 k32,PySem.W.mg_of X G a32⟩
 have D_law_small:DefAt K mg "_law_small" az:=⟨f33,_,bx (st:=az) l33 c33 k33,PySem.W.mg_of X G a33⟩
 have z_isinstance:mg "isinstance" = none:=PySem.W.mg_none_of X G y_isinstance
 have z_str:mg "str" = none:=PySem.W.mg_none_of X G y_str
 have z_len:mg "len" = none:=PySem.W.mg_none_of X G y_len
 have z_range:mg "range" = none:=PySem.W.mg_none_of X G y_range
 have z_int:mg "int" = none:=PySem.W.mg_none_of X G y_int
 have z_list:mg "list" = none:=PySem.W.mg_none_of X G y_list
 have z_sorted:mg "sorted" = none:=PySem.W.mg_none_of X G y_sorted
 have z_tuple:mg "tuple" = none:=PySem.W.mg_none_of X G y_tuple
 have z_enumerate:mg "enumerate" = none:=PySem.W.mg_none_of X G y_enumerate
 have z_any:mg "any" = none:=PySem.W.mg_none_of X G y_any
 have z_max:mg "max" = none:=PySem.W.mg_none_of X G y_max
 have z_set:mg "set" = none:=PySem.W.mg_none_of X G y_set
 have z_zip:mg "zip" = none:=PySem.W.mg_none_of X G y_zip
 have z_ValueError:mg "ValueError" = none:=PySem.W.mg_none_of X G y_ValueError
 have g_MOST_ROOMS:∃ t,mg "MOST_ROOMS" = some (.int 60 t):=⟨t_MOST_ROOMS,PySem.W.mg_of X G h_MOST_ROOMS⟩
 have g_MOST_WORDS:∃ t,mg "MOST_WORDS" = some (.int 16 t):=⟨t_MOST_WORDS,PySem.W.mg_of X G h_MOST_WORDS⟩
 have x_NoFit:eK K mg "NoFit" C_NoFit:=⟨⟨xq_NoFit,xs_NoFit,xc_NoFit⟩,PySem.W.mg_of X G n_NoFit⟩
 have x_TooGreat:eK K mg "TooGreat" C_TooGreat:=⟨⟨xq_TooGreat,xs_TooGreat,xc_TooGreat⟩,PySem.W.mg_of X G n_TooGreat⟩
 have x_NoText:hU mg "NoText" C_NoText:=⟨PySem.W.mg_of X G n_NoText⟩
 have x_NoRule:hU mg "NoRule" C_NoRule:=⟨PySem.W.mg_of X G n_NoRule⟩
 have x_Breach:hU mg "Breach" C_Breach:=⟨PySem.W.mg_of X G n_Breach⟩
 have x_UseError:hU mg "UseError" C_UseError:=⟨PySem.W.mg_of X G n_UseError⟩
 have F:=bx (st:=cN) l34 c34 k34;refine⟨PySem.W.fnOf "law" "law" (defArgs cN) (defBody cN) (defScope cN) .none kV34 dc34 pm34 an34 cd34 ct34,fun s v=>.of_eq rfl,fun base _ _=>?_⟩
 have c1:=AH (P:=l.prog) (w:=w) (base:=base) D_law_cell_at z_len;have c2:=ue (P:=l.prog) (w:=w) (base:=base) D_law_words z_range z_int z_str;have c3:=CJ (P:=l.prog) (w:=w) (base:=base) D_law_counter z_range z_sorted
 have d1:=vb (P:=l.prog) (w:=w) (base:=base) D_ways_by;have d2:=yR D_finer_kinds z_enumerate z_tuple z_len d1;have d3:=yq D_kinds_upto z_max d2;have d4:=v4 D_merged_rooms z_enumerate z_len d1;have d5:=rf D_numbered_rooms z_enumerate (Dr D_rooms_led_to z_len) d1;have d6:=AY D_least_upto z_range z_len d3 d4 d5 (Bn D_does_something z_enumerate z_any) (v6 D_picked);have u1:=Cq (P:=l.prog) (w:=w) (base:=base) x_NoFit D_refuse_unlike;have p0:=vB (P:=l.prog) (w:=w) (base:=base) D_ways_by_room z_enumerate (Dg D_ways_for);have p1:=AF (P:=l.prog) (w:=w) (base:=base) D_rule_of_pairs z_len (Bm D_words_of_both z_sorted z_set) p0 (zy D_pairs_behind z_list z_zip);have p2:=xh x_TooGreat D_least_of_pairs z_len g_MOST_ROOMS g_MOST_WORDS u1 p1 d6;have p3:=mz D_joined_rule (vn D_breaks_one) p2;have p4:=l_ D_either_rule (vf D_breaks_both) p2;have m1:=u3 (P:=l.prog) (w:=w) (base:=base) D_law_other z_isinstance z_ValueError x_NoRule x_NoText x_NoFit x_TooGreat x_Breach x_UseError kt_NoFit_NoText kt_NoFit_NoRule kt_NoFit_Breach kt_NoFit_NoFit kt_NoFit_TooGreat kt_NoFit_UseError kt_NoFit_ValueError kt_TooGreat_NoText kt_TooGreat_NoRule kt_TooGreat_Breach kt_TooGreat_NoFit kt_TooGreat_UseError kt_TooGreat_ValueError;have m2:=w5 D_law_made x_NoFit x_TooGreat kt_TooGreat_NoFit m1 p3 p4 (BK D_row_apart u1);have a2:=n9 (P:=l.prog) (w:=w) (base:=base) D_room_after (pO D_room_from (Bk D_next_room));exact BN F c1 c2 (y6 D_law_small z_range z_int z_sorted c1 c2 c3 m2) (xR D_law_unlike z_range c1 c3 m2) (vm D_law_counted z_len z_isinstance z_tuple z_sorted c1 c3 m2 a2 (xJ D_law_kept)) (wo D_law_worded z_len z_isinstance z_tuple z_sorted c1 c2 m2)
theorem walk{l:PySem.W.OpenLaw}{q:Program}{loose:List Str}{XP:(Str→Option Value)→Heap→Prop}{YP:World→Heap→Prop}{d:DefRec}{K:Params→PySem.W.Frag}(hn:l.most=some 63)(hdf:d.params.defaults=[])
  (hY:∀ (w:World) (h:Heap),YP w h→(K w.params).In h)
  (F:∀ (w:World) (mg:Str→Option Value) (fa:Addr) (h:Heap),(K w.params).In h→h.Ns mainGlobals mg→mg d.name=some (.ref fa)→
   ∃ fd:FuncData,(∀ (s:Shared) (u:Value),BindsTo s fd ⟨[u],[]⟩ [("_law_script", u)])∧∀ base:Heap,(K w.params).In base→base.Ns mainGlobals mg→FnOk l.prog w (K w.params) mg base iq 10 fa fd ["_law_script"] (oD (K w.params))) :
  PySem.W.WalkO q loose XP YP l.row.toRowW d [] (fun f vs=>PySem.call f vs):=
 L2.walk_of (n:=63) (k:=10) (x := "_law_script") (CX:=fun _=>iq) (sp:=fun w=>oD (K w.params)) hn (by decide) hdf ⟨rfl,by decide,by decide⟩ hY F (fun _ _ a ns hl _ hS=>⟨a,ns,rfl,hS,hl,fun _=>rfl⟩) fun _ _ _ _ _ z=>z
end K18
end
open PySem PySem.W PyProof.Rows
set_option maxRecDepth 100000 in
set_option maxHeartbeats 0 in
theorem PySem.Challenge.cw_usewarden_k18_rules_that_do_not_fit_holds : PySem.Challenge.rw_usewarden_k18_rules_that_do_not_fit.Holds := by
 w_on
 refine holds_law (by decide +kernel) fun said=>?_
 refine holds_open (q:=K18.qq) (loose:=K18.loo) (Xt:=K18.xt) (XP:=XL K18.qq []) (Yf:=Hook.obs (kHook K18.KK K18.kk K18.kk_eq)) (Ya:=Hook.val (kHook K18.KK K18.kk K18.kk_eq)) (YP:=Hook.says (kHook K18.KK K18.kk K18.kk_eq)) (N:=5096) K18.hl (Hook.of (kHook K18.KK K18.kk K18.kk_eq)) (Hook.keeps (kHook K18.KK K18.kk K18.kk_eq)) (fun s e=>xl_of s (Bool.and_eq_true_iff.mp e).1) XL.keeps (by rfl) (by rfl) (by rfl) (fun s e=>recFacts_of (Bool.and_eq_true_iff.mp e).2) (by rfl) said (by decide +kernel) ⟨rfl,rfl,rfl,rfl,rfl,by decide +kernel⟩ ?hw ?hc
 (case hw=>w_witness2)
 k_fill
 refine K18.walk (l:=PySem.Challenge.rw_usewarden_k18_rules_that_do_not_fit) rfl rfl (fun w h Y=>PySem.W.kIn_of Y) ?F
 case F=>
  intro w mg fa h KX G hmg
  refine' K18.all_mk KX G hmg ?a0 ?l0 ?c0 ?k0 ?a1 ?l1 ?c1 ?k1 ?a2 ?l2 ?c2 ?k2 ?a3 ?l3 ?c3 ?k3 ?a4 ?l4 ?c4 ?k4 ?a5 ?l5 ?c5 ?k5 ?a6 ?l6 ?c6 ?k6 ?a7 ?l7 ?c7 ?k7 ?a8 ?l8 ?c8 ?k8 ?a9 ?l9 ?c9 ?k9 ?a10 ?l10 ?c10 ?k10 ?a11 ?l11 ?c11 ?k11 ?a12 ?l12 ?c12 ?k12 ?a13 ?l13 ?c13 ?k13 ?a14 ?l14 ?c14 ?k14 ?a15 ?l15 ?c15 ?k15 ?a16 ?l16 ?c16 ?k16 ?a17 ?l17 ?c17 ?k17 ?a18 ?l18 ?c18 ?k18 ?a19 ?l19 ?c19 ?k19 ?a20 ?l20 ?c20 ?k20 ?a21 ?l21 ?c21 ?k21 ?a22 ?l22 ?c22 ?k22 ?a23 ?l23 ?c23 ?k23 ?a24 ?l24 ?c24 ?k24 ?a25 ?l25 ?c25 ?k25 ?a26 ?l26 ?c26 ?k26 ?a27 ?l27 ?c27 ?k27 ?a28 ?l28 ?c28 ?k28 ?a29 ?l29 ?c29 ?k29 ?a30 ?l30 ?c30 ?k30 ?a31 ?l31 ?c31 ?k31 ?a32 ?l32 ?c32 ?k32 ?a33 ?l33 ?c33 ?k33 ?a34 ?l34 ?c34 ?k34 ?y_isinstance ?y_str ?y_len ?y_range ?y_int ?y_list ?y_sorted ?y_tuple ?y_enumerate ?y_any ?y_max ?y_set ?y_zip ?y_ValueError ?h_MOST_ROOMS ?h_MOST_WORDS ?n_NoFit ?xq_NoFit ?xs_NoFit ?xc_NoFit ?n_TooGreat ?xq_TooGreat ?xs_TooGreat ?xc_TooGreat ?n_NoText ?kt_NoFit_NoText ?n_NoRule ?kt_NoFit_NoRule ?n_Breach ?kt_NoFit_Breach ?kt_NoFit_NoFit ?kt_NoFit_TooGreat ?n_UseError ?kt_NoFit_UseError ?kt_NoFit_ValueError ?kt_TooGreat_NoText ?kt_TooGreat_NoRule ?kt_TooGreat_Breach ?kt_TooGreat_NoFit ?kt_TooGreat_UseError ?kt_TooGreat_ValueError
  (case a0=>k_is)
  (case l0=>k_is)
  (case c0=>k_is)
  (case k0=>k_is)
  (case a1=>k_is)
  (case l1=>k_is)
  (case c1=>k_is)
  (case k1=>k_is)
  (case a2=>k_is)
  (case l2=>k_is)
  (case c2=>k_is)
  (case k2=>k_is)
  (case a3=>k_is)
  (case l3=>k_is)
  (case c3=>k_is)
  (case k3=>k_is)
  (case a4=>k_is)
  (case l4=>k_is)
  (case c4=>k_is)
  (case k4=>k_is)
  (case a5=>k_is)
  (case l5=>k_is)
  (case c5=>k_is)
  (case k5=>k_is)
  (case a6=>k_is)
  (case l6=>k_is)
  (case c6=>k_is)
  (case k6=>k_is)
  (case a7=>k_is)
  (case l7=>k_is)
  (case c7=>k_is)
  (case k7=>k_is)
  (case a8=>k_is)
  (case l8=>k_is)
  (case c8=>k_is)
  (case k8=>k_is)
  (case a9=>k_is)
  (case l9=>k_is)
  (case c9=>k_is)
  (case k9=>k_is)
  (case a10=>k_is)
  (case l10=>k_is)
  (case c10=>k_is)
  (case k10=>k_is)
  (case a11=>k_is)
  (case l11=>k_is)
  (case c11=>k_is)
  (case k11=>k_is)
  (case a12=>k_is)
  (case l12=>k_is)
  (case c12=>k_is)
  (case k12=>k_is)
  (case a13=>k_is)
  (case l13=>k_is)
  (case c13=>k_is)
  (case k13=>k_is)
  (case a14=>k_is)
  (case l14=>k_is)
  (case c14=>k_is)
  (case k14=>k_is)
  (case a15=>k_is)
  (case l15=>k_is)
  (case c15=>k_is)
  (case k15=>k_is)
  (case a16=>k_is)
  (case l16=>k_is)
  (case c16=>k_is)
  (case k16=>k_is)
  (case a17=>k_is)
  (case l17=>k_is)
  (case c17=>k_is)
  (case k17=>k_is)
  (case a18=>k_is)
  (case l18=>k_is)
  (case c18=>k_is)
  (case k18=>k_is)
  (case a19=>k_is)
  (case l19=>k_is)
  (case c19=>k_is)
  (case k19=>k_is)
  (case a20=>k_is)
  (case l20=>k_is)
  (case c20=>k_is)
  (case k20=>k_is)
  (case a21=>k_is)
  (case l21=>k_is)
  (case c21=>k_is)
  (case k21=>k_is)
  (case a22=>k_is)
  (case l22=>k_is)
  (case c22=>k_is)
  (case k22=>k_is)
  (case a23=>k_is)
  (case l23=>k_is)
  (case c23=>k_is)
  (case k23=>k_is)
  (case a24=>k_is)
  (case l24=>k_is)
  (case c24=>k_is)
  (case k24=>k_is)
  (case a25=>k_is)
  (case l25=>k_is)
  (case c25=>k_is)
  (case k25=>k_is)
  (case a26=>k_is)
  (case l26=>k_is)
  (case c26=>k_is)
  (case k26=>k_is)
  (case a27=>k_is)
  (case l27=>k_is)
  (case c27=>k_is)
  (case k27=>k_is)
  (case a28=>k_is)
  (case l28=>k_is)
  (case c28=>k_is)
  (case k28=>k_is)
  (case a29=>k_is)
  (case l29=>k_is)
  (case c29=>k_is)
  (case k29=>k_is)
  (case a30=>k_is)
  (case l30=>k_is)
  (case c30=>k_is)
  (case k30=>k_is)
  (case a31=>k_is)
  (case l31=>k_is)
  (case c31=>k_is)
  (case k31=>k_is)
  (case a32=>k_is)
  (case l32=>k_is)
  (case c32=>k_is)
  (case k32=>k_is)
  (case a33=>k_is)
  (case l33=>k_is)
  (case c33=>k_is)
  (case k33=>k_is)
  (case a34=>k_is)
  (case l34=>k_is)
  (case c34=>k_is)
  (case k34=>k_is)
  (case y_isinstance=>k_is)
  (case y_str=>k_is)
  (case y_len=>k_is)
  (case y_range=>k_is)
  (case y_int=>k_is)
  (case y_list=>k_is)
  (case y_sorted=>k_is)
  (case y_tuple=>k_is)
  (case y_enumerate=>k_is)
  (case y_any=>k_is)
  (case y_max=>k_is)
  (case y_set=>k_is)
  (case y_zip=>k_is)
  (case y_ValueError=>k_is)
  (case h_MOST_ROOMS=>k_is)
  (case h_MOST_WORDS=>k_is)
  (case n_NoFit=>k_is)
  (case xq_NoFit=>kernel_rfl)
  (case xs_NoFit=>k_is)
  (case xc_NoFit=>k_is)
  (case n_TooGreat=>k_is)
  (case xq_TooGreat=>kernel_rfl)
  (case xs_TooGreat=>k_is)
  (case xc_TooGreat=>k_is)
  (case n_NoText=>k_is)
  (case kt_NoFit_NoText=>kernel_rfl)
  (case n_NoRule=>k_is)
  (case kt_NoFit_NoRule=>kernel_rfl)
  (case n_Breach=>k_is)
  (case kt_NoFit_Breach=>kernel_rfl)
  (case kt_NoFit_NoFit=>kernel_rfl)
  (case kt_NoFit_TooGreat=>kernel_rfl)
  (case n_UseError=>k_is)
  (case kt_NoFit_UseError=>kernel_rfl)
  (case kt_NoFit_ValueError=>kernel_rfl)
  (case kt_TooGreat_NoText=>kernel_rfl)
  (case kt_TooGreat_NoRule=>kernel_rfl)
  (case kt_TooGreat_Breach=>kernel_rfl)
  (case kt_TooGreat_NoFit=>kernel_rfl)
  (case kt_TooGreat_UseError=>kernel_rfl)
  (case kt_TooGreat_ValueError=>kernel_rfl)
#print axioms PySem.Challenge.cw_usewarden_k18_rules_that_do_not_fit_holds
