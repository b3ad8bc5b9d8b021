import PyProof.Rows.All
import Wide.All
import OpenK.AllK
import Wide.FinOn
import Lean
import PyProof.EqAt
import PyProof.EqKinds
import PyProof.TupleCall
import PyProof.SetScanFacts
import PyProof.SetKind
import PyProof.SetRoads
import PyProof.Rows.SetFrom
import PyProof.FactsBase
import PyProof.TableTree
import PyProof.FactsTree
import PyProof.PlainAttrs
import PyProof.FactsAll.set_1
import PyProof.CollectIter
import PyProof.FactsAll.set
import PyProof.ZipIter
import PyProof.EnumIter
import PyProof.TupleIter
import KE.KRevIter
import KE.KDictList
import PyProof.Rows.SumAny
import KE.KIntText
import PyProof.StrLawsTight
import PyProof.StrLawsChain
import PyProof.Rows.SortStr
import PyProof.Rows.StrNews2
import PyProof.StrLawsFirst
import PyProof.AutoSeq1
import OpenK.KOwn
import PyProof.Rows.CatchOwn
import KE.KDictOf
import PyProof.DictItems
import PyProof.NeKinds
import KE.KPairComp
import PyProof.FactsAll.tuple_2
import PyProof.FactsAll.tuple_3
import KE.KDictLaws
import PyProof.FactsAll.dict_3
import PyProof.MinMaxWalk
import PyProof.WalkInts
import PyProof.Cells
import PySem.Challenge.RW_usewarden_k14_either_rule
set_option Elab.async false
set_option linter.all false
set_option maxRecDepth 100000
set_option maxHeartbeats 4000000
namespace L2
open PySem
def Fb(s:Stmt)(j:Nat):Stmt:=match s with
 | .ClassDef _ _ _ body _ _ _ _ _ _ _=>body.getD j (.Pass ⟨0,0,0,0⟩)
 | _=>.Pass ⟨0,0,0,0⟩
def defArgs(s:Stmt):Arguments:=match s with
 | .FunctionDef _ a _ _ _ _ _ _ _ _=>a
 | _=>{ posonlyargs:=[],args:=[],vararg:=none,kwonlyargs:=[],kw_defaults:=[],kwarg:=none,defaults:=[] }
def defBody(s:Stmt):List Stmt:=match s with
 | .FunctionDef _ _ b _ _ _ _ _ _ _=>b
 | _=>[]
def defScope(s:Stmt):Scope:=match s with
 | .FunctionDef _ _ _ _ _ _ sc _ _ _=>sc
 | _=>{ kind:=.function,names:=[],isGenerator:=false,isCoroutine:=false }
end L2
namespace K14
open PySem PySem.W
def top (i:Nat):Stmt:=PySem.Challenge.pw_usewarden_k14_either_rule.main.body.getD i (.Pass ⟨0,0,0,0⟩)
abbrev tUp(x:Array Value):Obj:=⟨.type "tuple", none,.seq x 0,#[]⟩
abbrev cOd(n:Str)(a b c:Nat)(l g:Int)(p q r s u:Addr)(i:Int)(d:Nat):Obj:=⟨.type "code", none,.fields #[.str n a,.str n b,.str "/claim/cut.py" c,.int l 0,.int g 0,.int 0 0,.int 0 0,.int 3 0,.ref p,.bool true,.int 181 0,.ref q,.none,.ref r,.ref s,.ref u,.int i 0,.int l 0,.str "/claim/cut.py" d],#[]⟩
abbrev fUn(n:Str)(i:Nat)(m:Str)(a:Nat)(c:Addr):Obj:=⟨.type "function", none,.func ⟨n,n,L2.defArgs (top i),.stmts (L2.defBody (top i)),L2.defScope (top i),3,[],.none,.none,.none,.str m a,none,.ref c,.none,0⟩,#[]⟩
noncomputable def KK(P:Params):Frag:=
 (nat_lit 2,⟨.none,none,.dict #[] 0,#[]⟩) ::
 (nat_lit 3,⟨.type "dict", none,.dict #[⟨PyData.keyHash P "__name__", .str "__name__" 165,.str "law_usewarden_k14_either_rule" 401⟩,⟨PyData.keyHash P "__doc__", .str "__doc__" 166,.none⟩,⟨PyData.keyHash P "__package__", .str "__package__" 167,.none⟩,⟨PyData.keyHash P "__loader__", .str "__loader__" 168,.builtin "__main__.__loader__#opaque"⟩,⟨PyData.keyHash P "__spec__", .str "__spec__" 169,.none⟩,⟨PyData.keyHash P "__annotations__", .str "__annotations__" 170,.ref 6⟩,⟨PyData.keyHash P "__builtins__", .str "__builtins__" 171,.ref 4⟩,⟨PyData.keyHash P "__file__", .str "__file__" 173,.str "/claim/cut.py" 172⟩,⟨PyData.keyHash P "__cached__", .str "__cached__" 174,.none⟩,⟨PyData.keyHash P "UseError", .str "UseError" 206,.ref 24⟩,⟨PyData.keyHash P "NoFit", .str "NoFit" 222,.ref 37⟩,⟨PyData.keyHash P "TooGreat", .str "TooGreat" 238,.ref 49⟩,⟨PyData.keyHash P "ways_by", .str "ways_by" 246,.ref 56⟩,⟨PyData.keyHash P "finer_kinds", .str "finer_kinds" 259,.ref 63⟩,⟨PyData.keyHash P "kinds_upto", .str "kinds_upto" 265,.ref 68⟩,⟨PyData.keyHash P "merged_rooms", .str "merged_rooms" 276,.ref 75⟩,⟨PyData.keyHash P "rooms_led_to", .str "rooms_led_to" 288,.ref 82⟩,⟨PyData.keyHash P "numbered_rooms", .str "numbered_rooms" 294,.ref 87⟩,⟨PyData.keyHash P "does_something", .str "does_something" 300,.ref 92⟩,⟨PyData.keyHash P "picked", .str "picked" 306,.ref 97⟩,⟨PyData.keyHash P "least_upto", .str "least_upto" 312,.ref 102⟩,⟨PyData.keyHash P "refuse_unlike", .str "refuse_unlike" 322,.ref 109⟩,⟨PyData.keyHash P "words_of_both", .str "words_of_both" 330,.ref 116⟩,⟨PyData.keyHash P "ways_for", .str "ways_for" 336,.ref 121⟩,⟨PyData.keyHash P "ways_by_room", .str "ways_by_room" 342,.ref 126⟩,⟨PyData.keyHash P "pairs_behind", .str "pairs_behind" 351,.ref 133⟩,⟨PyData.keyHash P "MOST_WORDS", .str "MOST_WORDS" 353,.int 16 352⟩,⟨PyData.keyHash P "MOST_ROOMS", .str "MOST_ROOMS" 355,.int 60 354⟩,⟨PyData.keyHash P "breaks_both", .str "breaks_both" 364,.ref 140⟩,⟨PyData.keyHash P "rule_of_pairs", .str "rule_of_pairs" 382,.ref 147⟩,⟨PyData.keyHash P "least_of_pairs", .str "least_of_pairs" 392,.ref 154⟩,⟨PyData.keyHash P "either_rule", .str "either_rule" 400,.ref 161⟩,⟨PyData.keyHash P "_law_cell_at", .str "_law_cell_at" 410,.ref 168⟩,⟨PyData.keyHash P "_law_mixed", .str "_law_mixed" 421,.ref 175⟩,⟨PyData.keyHash P "_law_words", .str "_law_words" 438,.ref 182⟩,⟨PyData.keyHash P "_law_way", .str "_law_way" 447,.ref 189⟩,⟨PyData.keyHash P "_law_rooms", .str "_law_rooms" 453,.ref 194⟩,⟨PyData.keyHash P "_law_two", .str "_law_two" 459,.ref 199⟩,⟨PyData.keyHash P "_law_is_way", .str "_law_is_way" 467,.ref 206⟩,⟨PyData.keyHash P "_law_is_rule_of", .str "_law_is_rule_of" 473,.ref 211⟩,⟨PyData.keyHash P "_law_to", .str "_law_to" 482,.ref 218⟩,⟨PyData.keyHash P "_law_beside", .str "_law_beside" 499,.ref 225⟩,⟨PyData.keyHash P "_law_all_unlike", .str "_law_all_unlike" 505,.ref 230⟩,⟨PyData.keyHash P "_law_copy", .str "_law_copy" 511,.ref 235⟩,⟨PyData.keyHash P "law", .str "law" 526,.ref 242⟩] 45,#[]⟩) ::
 (nat_lit 15,tUp #[.type "ValueError"]) ::
 (nat_lit 22,tUp #[]) ::
 (nat_lit 23,⟨.type "dict", none,.dict #[⟨PyData.keyHash P "__module__", .str "__module__" 196,.str "usewarden.errors" 187⟩,⟨PyData.keyHash P "__firstlineno__", .str "__firstlineno__" 200,.int 2 199⟩,⟨PyData.keyHash P "__static_attributes__", .str "__static_attributes__" 201,.ref 22⟩,⟨PyData.keyHash P "__weakref__", .str "__weakref__" 203,.ref 25⟩,⟨PyData.keyHash P "__doc__", .str "__doc__" 204,.none⟩] 3,#[]⟩) ::
 (nat_lit 24,⟨.type "type", none,.cls ⟨"UseError", [.type "ValueError"],[.ref 24,.type "ValueError", .type "Exception", .type "BaseException", .type "object"],23, "UseError", true,[],[.ref 37,.ref 49],false,none,false⟩,#[some (.ref 15),none,some (.str "UseError" 189),some (.str "UseError" 197),some (.builtin "ValueError.__new__"),some (.bool true)]⟩) ::
 (nat_lit 25,⟨.type "getset_descriptor", none,.fields #[.str "__weakref__" 202,.ref 24,.builtin "ExceptionGroup.__weakref__", .none],#[]⟩) ::
 (nat_lit 28,tUp #[.ref 24]) ::
 (nat_lit 35,tUp #[]) ::
 (nat_lit 36,⟨.type "dict", none,.dict #[⟨PyData.keyHash P "__module__", .str "__module__" 214,.str "usewarden.errors" 187⟩,⟨PyData.keyHash P "__firstlineno__", .str "__firstlineno__" 218,.int 4 217⟩,⟨PyData.keyHash P "__static_attributes__", .str "__static_attributes__" 219,.ref 35⟩,⟨PyData.keyHash P "__doc__", .str "__doc__" 220,.none⟩] 2,#[]⟩) ::
 (nat_lit 37,⟨.type "type", none,.cls ⟨"NoFit", [.ref 24],[.ref 37,.ref 24,.type "ValueError", .type "Exception", .type "BaseException", .type "object"],36, "NoFit", true,[],[],false,none,false⟩,#[some (.ref 28),none,some (.str "NoFit" 207),some (.str "NoFit" 215),some (.builtin "ValueError.__new__"),some (.bool true)]⟩) ::
 (nat_lit 40,tUp #[.ref 24]) ::
 (nat_lit 47,tUp #[]) ::
 (nat_lit 48,⟨.type "dict", none,.dict #[⟨PyData.keyHash P "__module__", .str "__module__" 230,.str "usewarden.errors" 187⟩,⟨PyData.keyHash P "__firstlineno__", .str "__firstlineno__" 234,.int 6 233⟩,⟨PyData.keyHash P "__static_attributes__", .str "__static_attributes__" 235,.ref 47⟩,⟨PyData.keyHash P "__doc__", .str "__doc__" 236,.none⟩] 2,#[]⟩) ::
 (nat_lit 49,⟨.type "type", none,.cls ⟨"TooGreat", [.ref 24],[.ref 49,.ref 24,.type "ValueError", .type "Exception", .type "BaseException", .type "object"],48, "TooGreat", true,[],[],false,none,false⟩,#[some (.ref 40),none,some (.str "TooGreat" 223),some (.str "TooGreat" 231),some (.builtin "ValueError.__new__"),some (.bool true)]⟩) ::
 (nat_lit 52,tUp #[]) ::
 (nat_lit 55,⟨.type "code", none,.fields #[.str "ways_by" 241,.str "ways_by" 242,.str "/claim/cut.py" 243,.int 9 0,.int 2 0,.int 0 0,.int 0 0,.int 3 0,.ref 52,.bool true,.int 181 0,.ref 53,.none,.none,.none,.ref 54,.int 244 0,.int 9 0,.str "/claim/cut.py" 245],#[]⟩) ::
 (nat_lit 56,fUn "ways_by" 5 "usewarden.leastrules" 239 55) ::
 (nat_lit 57,tUp #[]) ::
 (nat_lit 59,tUp #[.str "rooms" 250,.str "kinds" 251,.str "seen" 252,.str "finer" 253,.str "at" 254,.str "room" 255,.str "mark" 256]) ::
 (nat_lit 60,tUp #[]) ::
 (nat_lit 62,cOd "finer_kinds" 247 248 249 11 2 57 58 59 60 61 257 258) ::
 (nat_lit 63,fUn "finer_kinds" 6 "usewarden.leastrules" 239 62) ::
 (nat_lit 64,tUp #[]) ::
 (nat_lit 67,⟨.type "code", none,.fields #[.str "kinds_upto" 260,.str "kinds_upto" 261,.str "/claim/cut.py" 262,.int 20 0,.int 2 0,.int 0 0,.int 0 0,.int 3 0,.ref 64,.bool true,.int 181 0,.ref 65,.none,.none,.none,.ref 66,.int 263 0,.int 20 0,.str "/claim/cut.py" 264],#[]⟩) ::
 (nat_lit 68,fUn "kinds_upto" 7 "usewarden.leastrules" 239 67) ::
 (nat_lit 69,tUp #[]) ::
 (nat_lit 71,tUp #[.str "rooms" 269,.str "kinds" 270,.str "merged" 271,.str "at" 272,.str "room" 273]) ::
 (nat_lit 72,tUp #[]) ::
 (nat_lit 74,cOd "merged_rooms" 266 267 268 29 2 69 70 71 72 73 274 275) ::
 (nat_lit 75,fUn "merged_rooms" 8 "usewarden.leastrules" 239 74) ::
 (nat_lit 76,tUp #[]) ::
 (nat_lit 78,tUp #[.str "rooms" 280,.str "order" 281,.str "met" 282,.str "at" 283,.str "room" 284,.str "way" 285]) ::
 (nat_lit 79,tUp #[]) ::
 (nat_lit 81,cOd "rooms_led_to" 277 278 279 35 1 76 77 78 79 80 286 287) ::
 (nat_lit 82,fUn "rooms_led_to" 9 "usewarden.leastrules" 239 81) ::
 (nat_lit 83,tUp #[]) ::
 (nat_lit 86,⟨.type "code", none,.fields #[.str "numbered_rooms" 289,.str "numbered_rooms" 290,.str "/claim/cut.py" 291,.int 47 0,.int 1 0,.int 0 0,.int 0 0,.int 3 0,.ref 83,.bool true,.int 181 0,.ref 84,.none,.none,.none,.ref 85,.int 292 0,.int 47 0,.str "/claim/cut.py" 293],#[]⟩) ::
 (nat_lit 87,fUn "numbered_rooms" 10 "usewarden.leastrules" 239 86) ::
 (nat_lit 88,tUp #[]) ::
 (nat_lit 91,⟨.type "code", none,.fields #[.str "does_something" 295,.str "does_something" 296,.str "/claim/cut.py" 297,.int 53 0,.int 2 0,.int 0 0,.int 0 0,.int 3 0,.ref 88,.bool true,.int 181 0,.ref 89,.none,.none,.none,.ref 90,.int 298 0,.int 53 0,.str "/claim/cut.py" 299],#[]⟩) ::
 (nat_lit 92,fUn "does_something" 11 "usewarden.leastrules" 239 91) ::
 (nat_lit 93,tUp #[]) ::
 (nat_lit 96,⟨.type "code", none,.fields #[.str "picked" 301,.str "picked" 302,.str "/claim/cut.py" 303,.int 55 0,.int 2 0,.int 0 0,.int 0 0,.int 3 0,.ref 93,.bool true,.int 181 0,.ref 94,.none,.none,.none,.ref 95,.int 304 0,.int 55 0,.str "/claim/cut.py" 305],#[]⟩) ::
 (nat_lit 97,fUn "picked" 12 "usewarden.leastrules" 239 96) ::
 (nat_lit 98,tUp #[]) ::
 (nat_lit 101,⟨.type "code", none,.fields #[.str "least_upto" 307,.str "least_upto" 308,.str "/claim/cut.py" 309,.int 57 0,.int 2 0,.int 0 0,.int 0 0,.int 3 0,.ref 98,.bool true,.int 181 0,.ref 99,.none,.none,.none,.ref 100,.int 310 0,.int 57 0,.str "/claim/cut.py" 311],#[]⟩) ::
 (nat_lit 102,fUn "least_upto" 13 "usewarden.leastrules" 239 101) ::
 (nat_lit 103,tUp #[]) ::
 (nat_lit 105,tUp #[.str "one" 318,.str "other" 319]) ::
 (nat_lit 106,tUp #[]) ::
 (nat_lit 108,cOd "refuse_unlike" 315 316 317 66 2 103 104 105 106 107 320 321) ::
 (nat_lit 109,fUn "refuse_unlike" 15 "usewarden.pairs" 313 108) ::
 (nat_lit 110,tUp #[]) ::
 (nat_lit 112,tUp #[.str "one" 326,.str "other" 327]) ::
 (nat_lit 113,tUp #[]) ::
 (nat_lit 115,cOd "words_of_both" 323 324 325 69 2 110 111 112 113 114 328 329) ::
 (nat_lit 116,fUn "words_of_both" 16 "usewarden.pairs" 313 115) ::
 (nat_lit 117,tUp #[]) ::
 (nat_lit 120,⟨.type "code", none,.fields #[.str "ways_for" 331,.str "ways_for" 332,.str "/claim/cut.py" 333,.int 71 0,.int 4 0,.int 0 0,.int 0 0,.int 3 0,.ref 117,.bool true,.int 181 0,.ref 118,.none,.none,.none,.ref 119,.int 334 0,.int 71 0,.str "/claim/cut.py" 335],#[]⟩) ::
 (nat_lit 121,fUn "ways_for" 17 "usewarden.pairs" 313 120) ::
 (nat_lit 122,tUp #[]) ::
 (nat_lit 125,⟨.type "code", none,.fields #[.str "ways_by_room" 337,.str "ways_by_room" 338,.str "/claim/cut.py" 339,.int 73 0,.int 2 0,.int 0 0,.int 0 0,.int 3 0,.ref 122,.bool true,.int 181 0,.ref 123,.none,.none,.none,.ref 124,.int 340 0,.int 73 0,.str "/claim/cut.py" 341],#[]⟩) ::
 (nat_lit 126,fUn "ways_by_room" 18 "usewarden.pairs" 313 125) ::
 (nat_lit 127,tUp #[]) ::
 (nat_lit 129,tUp #[.str "ones" 346,.str "others" 347,.str "pair" 348]) ::
 (nat_lit 130,tUp #[]) ::
 (nat_lit 132,cOd "pairs_behind" 343 344 345 82 3 127 128 129 130 131 349 350) ::
 (nat_lit 133,fUn "pairs_behind" 19 "usewarden.pairs" 313 132) ::
 (nat_lit 134,tUp #[]) ::
 (nat_lit 136,tUp #[.str "pair" 361]) ::
 (nat_lit 137,tUp #[]) ::
 (nat_lit 139,cOd "breaks_both" 358 359 360 87 1 134 135 136 137 138 362 363) ::
 (nat_lit 140,fUn "breaks_both" 23 "usewarden.joins" 356 139) ::
 (nat_lit 141,tUp #[]) ::
 (nat_lit 143,tUp #[.str "one" 368,.str "other" 369,.str "breaks" 370,.str "words" 371,.str "ones" 372,.str "others" 373,.str "order" 374,.str "numbers" 375,.str "rooms" 376,.str "here" 377,.str "room" 378,.str "pair" 379]) ::
 (nat_lit 144,tUp #[]) ::
 (nat_lit 146,cOd "rule_of_pairs" 365 366 367 89 3 141 142 143 144 145 380 381) ::
 (nat_lit 147,fUn "rule_of_pairs" 24 "usewarden.joins" 356 146) ::
 (nat_lit 148,tUp #[]) ::
 (nat_lit 150,tUp #[.str "one" 386,.str "other" 387,.str "breaks" 388,.str "least" 389]) ::
 (nat_lit 151,tUp #[]) ::
 (nat_lit 153,cOd "least_of_pairs" 383 384 385 106 3 148 149 150 151 152 390 391) ::
 (nat_lit 154,fUn "least_of_pairs" 25 "usewarden.joins" 356 153) ::
 (nat_lit 155,tUp #[]) ::
 (nat_lit 157,tUp #[.str "one" 396,.str "other" 397]) ::
 (nat_lit 158,tUp #[]) ::
 (nat_lit 160,cOd "either_rule" 393 394 395 112 2 155 156 157 158 159 398 399) ::
 (nat_lit 161,fUn "either_rule" 26 "usewarden.joins" 356 160) ::
 (nat_lit 162,tUp #[]) ::
 (nat_lit 164,tUp #[.str "_law_script" 406,.str "_law_k" 407]) ::
 (nat_lit 165,tUp #[]) ::
 (nat_lit 167,cOd "_law_cell_at" 403 404 405 115 2 162 163 164 165 166 408 409) ::
 (nat_lit 168,fUn "_law_cell_at" 28 "law_usewarden_k14_either_rule" 401 167) ::
 (nat_lit 169,tUp #[]) ::
 (nat_lit 171,tUp #[.str "_law_cell" 414,.str "_law_many" 415,.str "_law_number" 416,.str "_law_found" 417,.str "_law_k" 418]) ::
 (nat_lit 172,tUp #[]) ::
 (nat_lit 174,cOd "_law_mixed" 411 412 413 119 2 169 170 171 172 173 419 420) ::
 (nat_lit 175,fUn "_law_mixed" 29 "law_usewarden_k14_either_rule" 401 174) ::
 (nat_lit 176,tUp #[]) ::
 (nat_lit 178,tUp #[.str "_law_cell" 425,.str "_law_many" 426,.str "_law_sides" 427,.str "_law_letters" 428,.str "_law_xs" 429,.str "_law_size" 430,.str "_law_at" 431,.str "_law_words_here" 432,.str "_law_k" 433,.str "_law_word" 434,.str "_law_j" 435]) ::
 (nat_lit 179,tUp #[]) ::
 (nat_lit 181,cOd "_law_words" 422 423 424 126 3 176 177 178 179 180 436 437) ::
 (nat_lit 182,fUn "_law_words" 30 "law_usewarden_k14_either_rule" 401 181) ::
 (nat_lit 183,tUp #[]) ::
 (nat_lit 185,tUp #[.str "_law_number" 442,.str "_law_share" 443,.str "_law_many" 444]) ::
 (nat_lit 186,tUp #[]) ::
 (nat_lit 188,cOd "_law_way" 439 440 441 140 3 183 184 185 186 187 445 446) ::
 (nat_lit 189,fUn "_law_way" 31 "law_usewarden_k14_either_rule" 401 188) ::
 (nat_lit 190,tUp #[]) ::
 (nat_lit 193,⟨.type "code", none,.fields #[.str "_law_rooms" 448,.str "_law_rooms" 449,.str "/claim/cut.py" 450,.int 144 0,.int 4 0,.int 0 0,.int 0 0,.int 3 0,.ref 190,.bool true,.int 181 0,.ref 191,.none,.none,.none,.ref 192,.int 451 0,.int 144 0,.str "/claim/cut.py" 452],#[]⟩) ::
 (nat_lit 194,fUn "_law_rooms" 32 "law_usewarden_k14_either_rule" 401 193) ::
 (nat_lit 195,tUp #[]) ::
 (nat_lit 198,⟨.type "code", none,.fields #[.str "_law_two" 454,.str "_law_two" 455,.str "/claim/cut.py" 456,.int 150 0,.int 1 0,.int 0 0,.int 0 0,.int 3 0,.ref 195,.bool true,.int 181 0,.ref 196,.none,.none,.none,.ref 197,.int 457 0,.int 150 0,.str "/claim/cut.py" 458],#[]⟩) ::
 (nat_lit 199,fUn "_law_two" 33 "law_usewarden_k14_either_rule" 401 198) ::
 (nat_lit 200,tUp #[]) ::
 (nat_lit 202,tUp #[.str "_law_to_here" 463,.str "_law_many" 464]) ::
 (nat_lit 203,tUp #[]) ::
 (nat_lit 205,cOd "_law_is_way" 460 461 462 169 2 200 201 202 203 204 465 466) ::
 (nat_lit 206,fUn "_law_is_way" 34 "law_usewarden_k14_either_rule" 401 205) ::
 (nat_lit 207,tUp #[]) ::
 (nat_lit 210,⟨.type "code", none,.fields #[.str "_law_is_rule_of" 468,.str "_law_is_rule_of" 469,.str "/claim/cut.py" 470,.int 173 0,.int 3 0,.int 0 0,.int 0 0,.int 3 0,.ref 207,.bool true,.int 181 0,.ref 208,.none,.none,.none,.ref 209,.int 471 0,.int 173 0,.str "/claim/cut.py" 472],#[]⟩) ::
 (nat_lit 211,fUn "_law_is_rule_of" 35 "law_usewarden_k14_either_rule" 401 210) ::
 (nat_lit 212,tUp #[]) ::
 (nat_lit 214,tUp #[.str "_law_rule" 477,.str "_law_room" 478,.str "_law_word" 479]) ::
 (nat_lit 215,tUp #[]) ::
 (nat_lit 217,cOd "_law_to" 474 475 476 187 3 212 213 214 215 216 480 481) ::
 (nat_lit 218,fUn "_law_to" 36 "law_usewarden_k14_either_rule" 401 217) ::
 (nat_lit 219,tUp #[]) ::
 (nat_lit 221,tUp #[.str "_law_one" 486,.str "_law_other" 487,.str "_law_made" 488,.str "_law_words_here" 489,.str "_law_beside_here" 490,.str "_law_todo" 491,.str "_law_pair" 492,.str "_law_word" 493,.str "_law_to_here" 494,.str "_law_there" 495,.str "_law_broken" 496]) ::
 (nat_lit 222,tUp #[]) ::
 (nat_lit 224,cOd "_law_beside" 483 484 485 191 4 219 220 221 222 223 497 498) ::
 (nat_lit 225,fUn "_law_beside" 37 "law_usewarden_k14_either_rule" 401 224) ::
 (nat_lit 226,tUp #[]) ::
 (nat_lit 229,⟨.type "code", none,.fields #[.str "_law_all_unlike" 500,.str "_law_all_unlike" 501,.str "/claim/cut.py" 502,.int 208 0,.int 1 0,.int 0 0,.int 0 0,.int 3 0,.ref 226,.bool true,.int 181 0,.ref 227,.none,.none,.none,.ref 228,.int 503 0,.int 208 0,.str "/claim/cut.py" 504],#[]⟩) ::
 (nat_lit 230,fUn "_law_all_unlike" 38 "law_usewarden_k14_either_rule" 401 229) ::
 (nat_lit 231,tUp #[]) ::
 (nat_lit 234,⟨.type "code", none,.fields #[.str "_law_copy" 506,.str "_law_copy" 507,.str "/claim/cut.py" 508,.int 224 0,.int 1 0,.int 0 0,.int 0 0,.int 3 0,.ref 231,.bool true,.int 181 0,.ref 232,.none,.none,.none,.ref 233,.int 509 0,.int 224 0,.str "/claim/cut.py" 510],#[]⟩) ::
 (nat_lit 235,fUn "_law_copy" 39 "law_usewarden_k14_either_rule" 401 234) ::
 (nat_lit 236,tUp #[]) ::
 (nat_lit 238,tUp #[.str "_law_script" 515,.str "_law_one" 516,.str "_law_other" 517,.str "_law_words_here" 518,.str "_law_handed" 519,.str "_law_found" 520,.str "_law_beside_here" 521,.str "_law_kept" 522,.str "_law_room" 523]) ::
 (nat_lit 239,tUp #[]) ::
 (nat_lit 241,cOd "law" 512 513 514 226 1 236 237 238 239 240 524 525) ::
 (nat_lit 242,fUn "law" 40 "law_usewarden_k14_either_rule" 401 241)::[]
def kk:List Addr:=[2,3,15,22,23,24,25,28,35,36,37,40,47,48,49,52,55,56,57,59,60,62,63,64,67,68,69,71,72,74,75,76,78,79,81,82,83,86,87,88,91,92,93,96,97,98,101,102,103,105,106,108,109,110,112,113,115,116,117,120,121,122,125,126,127,129,130,132,133,134,136,137,139,140,141,143,144,146,147,148,150,151,153,154,155,157,158,160,161,162,164,165,167,168,169,171,172,174,175,176,178,179,181,182,183,185,186,188,189,190,193,194,195,198,199,200,202,203,205,206,207,210,211,212,214,215,217,218,219,221,222,224,225,226,229,230,231,234,235,236,238,239,241,242]
theorem kk_eq:∀ P,kk=(KK P).map (·.1):=fun _=>by kernel_rfl
noncomputable abbrev HH:Hook:=kHook KK kk kk_eq
def qq:Program:=view PySem.Challenge.pw_usewarden_k14_either_rule [1,2,3,5,6,7,8,9,10,11,12,13,15,16,17,18,19,20,21,23,24,25,26,28,29,30,31,32,33,34,35,36,37,38,39,40]
def loo:List Str:=[]
noncomputable def xt(s:Shared):Bool:=xlAt qq [] s&&recOk (RowW.records (OpenRow.toRowW (OpenLaw.row PySem.Challenge.rw_usewarden_k14_either_rule))) s
def Cy(w:World):Prop:=(openEnds treeTable PySem.Challenge.pw_usewarden_k14_either_rule w 3340).map (fun s=>openSeen qq loo (importedModules (Program.main PySem.Challenge.pw_usewarden_k14_either_rule).body) xt true s)=some (openGood qq loo)
def CL(w:World):Prop:=(openEnds treeTable PySem.Challenge.pw_usewarden_k14_either_rule w 3340).map (fun s=>Hook.obs HH s)=some (Hook.val HH w)
set_option maxRecDepth 1000000 in
theorem Dc(w:World):Cy w:=by unfold Cy; kernel_rfl
set_option maxRecDepth 1000000 in
theorem Ej(w:World):CL w:=by unfold CL; kernel_rfl
theorem wy{α β γ : Type}{o:Option α}{f:α→β}{g:α→γ}{a:β}{b:γ}(h1:o.map f=some a)(h2:o.map g=some b):o.map (fun s=>(f s,g s))=some (a,b):=by
 cases o with
 | none=>cases h1
 | some s=>cases h1; cases h2; rfl
theorem hl(w:World):(openEnds treeTable PySem.Challenge.pw_usewarden_k14_either_rule w 3340).map (fun s=>(openSeen qq loo (importedModules (Program.main PySem.Challenge.pw_usewarden_k14_either_rule).body) xt true s,Hook.obs HH s))=some (openGood qq loo,Hook.val HH w):=wy (Dc w) (Ej w)
end K14
-- CHANGE: your row's module here, as the last of these rows
namespace L2
open PySem PySem.Spec PyProof.Rows
abbrev bq:=Sum Int Str
def kD:bq→Value→Bool
 | .inl k,v=>Value.isInt k v
 | .inr x,v=>Value.isStrOf x v
def Ew(w:World):bq→Int
 | .inl k=>hashInt k
 | .inr x=>hashStr w x
theorem cK:∀ {k:bq} {v:Value},kD k v=true→(∃ i t,k=Sum.inl i∧v=Value.int i t)∨(∃ x t,k=Sum.inr x∧v=Value.str x t)
 | .inl i,v,h=>by
  obtain⟨t,e⟩:=Value.isInt_shape (k:=i) (v:=v) h
  exact .inl ⟨i,t,rfl,e⟩
 | .inr x,v,h=>by
  obtain⟨t,e⟩:=Value.isStrOf_shape (x:=x) (v:=v) h
  exact .inr ⟨x,t,rfl,e⟩
theorem v4(i:Int)(t:Tok):kD (.inl i) (.int i t)=true:=by simp[kD,Value.isInt]
theorem vZ(x:Str)(t:Tok):kD (.inr x) (.str x t)=true:=by simp[kD,Value.isStrOf]
theorem AO(a b:Int):decide ((Sum.inl a:bq)=Sum.inl b)=(a == b):=by
 by_cases e:a=b
 ·subst e; simp
 ·have h:¬ (Sum.inl a:bq)=Sum.inl b:=fun q=>e (Sum.inl.inj q)
  rw[decide_eq_false h];exact(beq_eq_false_iff_ne.mpr e).symm
theorem Ab(a b:Str):decide ((Sum.inr a:bq)=Sum.inr b)=decide (a=b):=by
 by_cases e:a=b
 ·subst e; simp
 ·have h:¬ (Sum.inr a:bq)=Sum.inr b:=fun q=>e (Sum.inr.inj q)
  rw[decide_eq_false h,decide_eq_false e]
theorem AX(a:Int)(b:Str):decide ((Sum.inl a:bq)=Sum.inr b)=false:=decide_eq_false (fun q=>nomatch q)
theorem Br(a:Str)(b:Int):decide ((Sum.inr a:bq)=Sum.inl b)=false:=decide_eq_false (fun q=>nomatch q)
def cF(prog:Program)(w:World):PySem.KeyKind prog w bq where
 is:=kD
 hash:=Ew w
 inj:=fun v a b ha hb=>by
  rcases cK ha with ⟨i,t,rfl,rfl⟩ | ⟨x,t,rfl,rfl⟩
  ·rcases cK hb with ⟨j,u,rfl,e⟩ | ⟨y,u,rfl,e⟩
   ·injection e with e1 _; rw[e1]
   ·exact nomatch e
  ·rcases cK hb with ⟨j,u,rfl,e⟩ | ⟨y,u,rfl,e⟩
   ·exact nomatch e
   ·injection e with e1 _; rw[e1]
 byValue:=fun k v h=>by
  rcases cK h with ⟨i,t,rfl,rfl⟩ | ⟨x,t,rfl,rfl⟩ <;> rfl
 pyHash:=fun hv h=>by
  rcases cK hv with ⟨i,t,rfl,rfl⟩ | ⟨x,t,rfl,rfl⟩
  ·exact wpAny_pyHash_int h
  ·exact wpAny_pyHash_str h
 eqBool:=fun hu hv h=>by
  rcases cK hu with ⟨i,t,rfl,rfl⟩ | ⟨x,t,rfl,rfl⟩
  ·rcases cK hv with ⟨j,u,rfl,rfl⟩ | ⟨y,u,rfl,rfl⟩
   ·rw[AO]at h; exact wpAny_eqBool_int h
   ·rw[AX]at h; exact SeqAt.EqAt.int_str i t y u _ _ _ _ h
  ·rcases cK hv with ⟨j,u,rfl,rfl⟩ | ⟨y,u,rfl,rfl⟩
   ·rw[Br]at h; exact SeqAt.EqAt.str_int x t j u _ _ _ _ h
   ·rw[Ab]at h; exact wpAny_eqBool_str h
 «strs»:=fun k x t v h=>by
  rcases cK h with ⟨i,u,rfl,e⟩ | ⟨y,u,rfl,e⟩
  ·exact nomatch e
  ·injection e with e1 _
   subst e1
   cases v <;> rfl
theorem qP(prog:Program)(w:World)(i:Int)(t:Tok):(cF prog w).is (.inl i) (.int i t)=true:=v4 i t
theorem q0(prog:Program)(w:World)(x:Str)(t:Tok):(cF prog w).is (.inr x) (.str x t)=true:=vZ x t
end L2
namespace L2
open PySem PySem.Spec PyProof.Rows
set_option genSizeOf false in
inductive V where
 | non | bl (b:Bool) | int (i:Int) | str (x:Str) | byt (b:Array UInt8) | flt (b:UInt64) | ref (a:Addr) | ty (n:String)
 deriving DecidableEq
def RelV:V→Value→Prop
 | .non,u=>u=Value.none
 | .bl b,u=>u=Value.bool b
 | .int i,u=>∃ t,u=Value.int i t
 | .str x,u=>∃ t,u=Value.str x t
 | .byt b,u=>∃ t,u=Value.bytes b t
 | .flt b,u=>∃ t,u=Value.float b t
 | .ref a,u=>u=Value.ref a
 | .ty n,u=>u=Value.type n
abbrev Vals:List V→List Value→Prop:=Paired RelV
theorem Vals.length{xs:List V}{us:List Value}(r:Vals xs us):xs.length=us.length:=Paired.length r
theorem Vals.get:∀ {xs:List V} {us:List Value} {i:Nat} {x:V},Vals xs us→xs[i]? = some x→∃ u,us[i]? = some u∧RelV x u
 | _,_,_,_,.nil,e=>by simp at e
 | _,_,0,_,.cons r _,e=>by simp at e; subst e; exact⟨_,rfl,r⟩
 | _,_,i+1,x,.cons _ t,e=>by
  obtain⟨u,h1,h2⟩:=Vals.get (i:=i) (x:=x) t (by simpa using e)
  exact⟨u,by simpa using h1,h2⟩
theorem Vals.set{x:V}{u:Value}(r:RelV x u):∀ {xs:List V} {us:List Value} (i:Nat),Vals xs us→Vals (xs.set i x) (us.set i u)
 | _,_,_,.nil=>.nil
 | _,_,0,.cons _ t=>.cons r t
 | _,_,i+1,.cons q t=>.cons q (Vals.set r i t)
theorem Vals.append:∀ {xs ys:List V} {us ws:List Value},Vals xs us→Vals ys ws→Vals (xs++ys) (us++ws)
 | _,_,_,_,.nil,s=>s
 | _,_,_,_,.cons r t,s=>.cons r (Vals.append t s)
theorem Vals.take:∀ {xs:List V} {us:List Value} (n:Nat),Vals xs us→Vals (xs.take n) (us.take n)
 | _,_,0,_=>.nil
 | _,_,_+1,.nil=>.nil
 | _,_,n+1,.cons r t=>.cons r (Vals.take n t)
theorem Vals.drop:∀ {xs:List V} {us:List Value} (n:Nat),Vals xs us→Vals (xs.drop n) (us.drop n)
 | _,_,0,r=>r
 | _,_,_+1,.nil=>.nil
 | _,_,n+1,.cons _ t=>Vals.drop n t
theorem Vals.none_of:∀ {xs:List V} {us:List Value} {i:Nat},Vals xs us→xs[i]? = none→us[i]? = none:=fun {xs us i} r e=>by
 have h1:=r.length;have h2:xs.length≤i:=List.getElem?_eq_none_iff.mp e
 exact List.getElem?_eq_none_iff.mpr (by omega)
def RelO:Option V→Option Value→Prop
 | some v,some u=>RelV v u
 | none,none=>True
 | _,_=>False
def KV{κ : Type}:List (κ × V)→List (κ × Value)→Prop:=Paired fun (p:κ × V) (q:κ × Value)=>p.1=q.1∧RelV p.2 q.2
def kV:bq→V
 | .inl i=>.int i
 | .inr x=>.str x
set_option genSizeOf false in
inductive HO where
 /-- a list -/
 | lst (xs:List V)
 /-- a tuple (never changes) -/
 | tup (xs:List V)
 /-- a dict whose keys are ints and texts; one whose keys are tuples of ints and texts (the empty one is both) -/
 | dK (kvs:List (bq × V)) | dT (kvs:List (List bq × V))
 /-- a set of ints: its members, its size -/
 | set (S:Int→Bool) (n:Nat)
 /-- an instance of the class at C, its dict at dx, its attributes -/
 | ins (C dx:Addr) (fs:List (Str × V))
 /-- the dict of the instance at x -/
 | own (x:Addr)
 /-- the dict of an exception -/
 | xd (fs:List (Str × V))
 /-- a bound method, f of x -/
 | met (f x:Addr)
 /-- a range object lo, lo+1, .. below hi -/
 | rng (lo hi:Int)
 /-- a thing that is known to the object (the script; a dict while a loop walks it): read, never written while it is so -/
 | frz (o:Obj) (u:HO)
 /-- a code object's table -/
 | tbl (ps:Array Value)
 /-- any other thing, by what is true of its one object (a def of one's own: SetO a S n := HO.ext fun h => ..) -/
 | ext (φ : Heap→Prop)
abbrev Hp:=Addr→Option HO
def upd(H:Hp)(a:Addr)(o:HO):Hp:=fun b=>if b=a then some o else H b
theorem ae{H:Hp}{a:Addr}{o:HO}:upd H a o a=some o:=by unfold upd; rw[if_pos rfl]
theorem al{H:Hp}{a b:Addr}{o:HO}(h:b≠a):upd H a o b=H b:=by unfold upd; rw[if_neg h]
theorem yY{H:Hp}{a:Addr}{o u:HO}:upd (upd H a o) a u=upd H a u:=by
 funext b; unfold upd; split <;> rfl
theorem gB{H:Hp}{a b:Addr}{o u:HO}(h:H a=some o)(h':H b=some u)(d:o≠u):a≠b:=by
 intro e; subst e; rw[h]at h'; exact d (Option.some.inj h')
theorem aO{H:Hp}{a b:Addr}{o:HO}(h:H a=some o)(h':H b=none):a≠b:=by
 intro e; subst e; rw[h]at h'; cases h'
def IsTupN(h:Heap)(a:Addr)(items:Array Value):Prop:=∃ o,h.get? a=some o∧o.cls = .type "tuple" ∧ o.dict=none∧∃ n,o.data = .seq items n
theorem IsTupN.tup{h:Heap}{a:Addr}{items:Array Value}(x:IsTupN h a items):IsTup h a items:=let ⟨o,e,c,_,d⟩:=x; ⟨o,e,c,d⟩
theorem IsTupN.lt{h:Heap}{a:Addr}{items:Array Value}(x:IsTupN h a items):a<h.objs.size:=let ⟨_,e,_⟩:=x; Heap.lt_size e
theorem IsTupN.new(h:Heap)(items:Array Value):IsTupN (h.push { cls:=.type "tuple", data:=.seq items }) h.objs.size items:=⟨_,Heap.get?_push_size _ rfl,rfl,rfl,_,rfl⟩
section
variable(P:Program)(w:World)
def ObjOk(H:Hp)(h:Heap)(a:Addr):HO→Prop
 | .lst xs=>xs.length≤sizeLine∧∃ (its:List Value) (n:Nat),Vals xs its∧h.get? a=some { cls:=.type "list", data:=.seq its.toArray n }
 | .tup xs=>xs.length≤sizeLine∧∃ its:List Value,Vals xs its∧IsTupN h a its.toArray
 | .dK kvs=>kvs.length≤sizeLine∧(a == sysModules)=false∧∃ vs,KV kvs vs∧h.DictOf (cF P w) a vs
 | .dT kvs=>kvs.length≤sizeLine∧(a == sysModules)=false∧∃ xs:List (List bq × Addr × Value),
   Paired (fun (p:List bq × V) (q:List bq × Addr × Value)=>p.1=q.1∧H q.2.1=some (.tup (p.1.map kV))∧RelV p.2 q.2.2) kvs xs∧
   ∃ o es ep,h.get? a=some o∧o.ExactDict∧o.data = .dict es ep∧es.toList=xs.map (entryOfKey (tupleKind (cF P w)))∧(xs.map (·.1)).Nodup
 | .set S n=>h.SetOf (intKind P w) a S n
 | .ins C dx fs=>H dx=some (.own a)∧fs.length≤1000∧dx≠a∧h.get? a=some (PySem.W.instObj C dx)∧
   ∃ mA,h.Ns1 dx mA∧(∀ f,RelO (fs.lookup f) (mA f))∧PySem.Within mA (fs.map (·.1))
 | .own _=>∃ o,h.get? a=some o
 | .xd fs=>∃ mA,h.Ns1 a mA∧∀ f,RelO (fs.lookup f) (mA f)
 | .rng lo hi=>∃ t u v,h.get? a=some { cls:=.type "range", data:=.fields #[.int lo t,.int hi u,.int 1 v] }
 | .frz o u=>h.get? a=some o∧ObjOk H h a u
 | .tbl ps=>h.get? a=some { cls:=.none,data:=.fields ps }
 | .met f x=>h.get? a=some (PySem.W.methodObj (.ref f) (.ref x))
 | .ext φ=>φ h∧(∃ o,h.get? a=some o)∧∀ h1 h2:Heap,φ h1→(∀ o,h1.get? a=some o→h2.get? a=some o)→φ h2
def HOk(H:Hp)(h:Heap):Prop:=∀ a o,H a=some o→ObjOk P w H h a o
end
section
variable{P:Program}{w:World}{H H':Hp}{h h':Heap}{a:Addr}{o:HO}
theorem ObjOk.lt(x:ObjOk P w H h a o):a<h.objs.size:=by
 cases o with
 | lst xs=>obtain⟨_,_,_,_,e⟩:=x; exact Heap.lt_size e
 | tup xs=>obtain⟨_,_,_,p⟩:=x; exact p.lt
 | dK kvs=>obtain⟨_,_,_,_,o,_,_,e,_⟩:=x; exact Heap.lt_size e
 | dT kvs=>obtain⟨_,_,_,_,o,_,_,e,_⟩:=x; exact Heap.lt_size e
 | set S n=>obtain⟨o,_,_,_,e,_⟩:=x; exact Heap.lt_size e
 | ins C dx fs=>obtain⟨_,_,_,e,_⟩:=x; exact Heap.lt_size e
 | own y=>obtain⟨_,e⟩:=x; exact Heap.lt_size e
 | xd fs=>obtain⟨_,⟨_,_,_,e,_⟩,_⟩:=x; exact Heap.lt_size e
 | rng lo hi=>obtain⟨_,_,_,e⟩:=x; exact Heap.lt_size e
 | frz ob u=>obtain⟨e,_⟩:=x; exact Heap.lt_size e
 | tbl ps=>exact Heap.lt_size (show h.get? a=some _ from x)
 | met f y=>exact Heap.lt_size (show h.get? a=some _ from x)
 | ext φ=>obtain⟨_,⟨_,e⟩,_⟩:=x; exact Heap.lt_size e
theorem Paired.mapP{α β : Type}{F G:α→β→Prop}:∀ {l₁:List α} {l₂:List β},Paired F l₁ l₂→(∀ a b,F a b→G a b)→Paired G l₁ l₂
 | _,_,.nil,_=>.nil
 | _,_,.cons r t,f=>.cons (f _ _ r) (Paired.mapP t f)
theorem Paired.imp'{α β : Type}{F G:α→β→Prop}(f:∀ a b,F a b→G a b){l₁:List α}{l₂:List β}(r:Paired F l₁ l₂):Paired G l₁ l₂:=Paired.mapP r f
theorem ObjOk.stay(x:ObjOk P w H h a o)(k:∀ b u,(b=a∨H b=some (.own a))→h.get? b=some u→h'.get? b=some u)
  (ho:∀ b,H b=some (.own a)→H' b=some (.own a)) (ht:∀ b xs,H b=some (.tup xs)→H' b=some (.tup xs)):ObjOk P w H' h' a o:=by
 induction o with
 | lst xs=>obtain⟨z,its,n,r,e⟩:=x; exact⟨z,its,n,r,k _ _ (.inl rfl) e⟩
 | tup xs=>obtain⟨z,its,r,ob,e,c⟩:=x; exact⟨z,its,r,ob,k _ _ (.inl rfl) e,c⟩
 | dK kvs=>obtain⟨z,y,vs,r,ob,es,ep,e,c⟩:=x; exact⟨z,y,vs,r,ob,es,ep,k _ _ (.inl rfl) e,c⟩
 | dT kvs=>
  obtain⟨z,y,xs,r,ob,es,ep,e,c⟩:=x
  exact⟨z,y,xs,Paired.mapP r fun p q z=>⟨z.1,ht _ _ z.2.1,z.2.2⟩,ob,es,ep,k _ _ (.inl rfl) e,c⟩
 | set S n=>obtain⟨ob,es,ep,t,e,c⟩:=x; exact⟨ob,es,ep,t,k _ _ (.inl rfl) e,c⟩
 | ins C dx fs=>
  obtain⟨d,z,ne,e,mA,⟨od,es,ep,e2,c⟩,r⟩:=x
  exact⟨ho _ d,z,ne,k _ _ (.inl rfl) e,mA,⟨od,es,ep,k _ _ (.inr d) e2,c⟩,r⟩
 | own y=>obtain⟨ob,e⟩:=x; exact⟨ob,k _ _ (.inl rfl) e⟩
 | xd fs=>obtain⟨mA,⟨od,es,ep,e,c⟩,r⟩:=x; exact⟨mA,⟨od,es,ep,k _ _ (.inl rfl) e,c⟩,r⟩
 | rng lo hi=>obtain⟨t,u,v,e⟩:=x; exact⟨t,u,v,k _ _ (.inl rfl) e⟩
 | frz ob u ih=>obtain⟨e,q⟩:=x; exact⟨k _ _ (.inl rfl) e,ih q⟩
 | tbl ps=>
  have e:h.get? a=some { cls:=.none,data:=.fields ps }:=x
  show h'.get? a=some { cls:=.none,data:=.fields ps }
  exact k a _ (.inl rfl) e
 | met f y=>
  have e:h.get? a=some (PySem.W.methodObj (.ref f) (.ref y)):=x
  show h'.get? a=some (PySem.W.methodObj (.ref f) (.ref y))
  exact k a _ (.inl rfl) e
 | ext φ=>obtain⟨p,⟨o,e⟩,st⟩:=x; exact⟨st _ _ p fun o q=>k _ _ (.inl rfl) q,⟨o,k _ _ (.inl rfl) e⟩,st⟩
theorem HOk.lt(x:HOk P w H h)(e:H a=some o):a<h.objs.size:=(x a o e).lt
theorem HOk.fresh(x:HOk P w H h)(e:h.objs.size≤a):H a=none:=by
 cases q:H a with
 | none=>rfl
 | some u=>exact absurd (Nat.lt_of_lt_of_le (x.lt q) e) (Nat.lt_irrefl _)
theorem HOk.kept(x:HOk P w H h)(k:∀ b u,h.get? b=some u→h'.get? b=some u):HOk P w H h':=fun a o e=>
 (x a o e).stay (fun b u _ q=>k b u q) (fun _ q=>q) fun _ _ q=>q
theorem HOk.laid(x:HOk P w H h)(k:∀ b u,h.get? b=some u→h'.get? b=some u)(hp:h.objs.size≤a)(new:ObjOk P w (upd H a o) h' a o):HOk P w (upd H a o) h':=fun b u e=>by
 have hn:=x.fresh hp
 by_cases hb:b=a
 ·subst hb; rw[ae]at e; cases e; exact new
 ·rw[al hb]at e
  exact(x b u e).stay (fun c v _ q=>k c v q) (fun c q=>by rw[al (aO q hn)]; exact q) fun c xs q=>by rw[al (aO q hn)]; exact q
end
def Rd(H:Hp)(a:Addr)(u:HO):Prop:=H a=some u∨∃ o,H a=some (.frz o u)
theorem Rd.ok{P:Program}{w:World}{H:Hp}{h:Heap}{a:Addr}{u:HO}(r:Rd H a u)(x:HOk P w H h):ObjOk P w H h a u:=by
 rcases r with r | ⟨o,r⟩
 ·exact x a u r
 ·obtain⟨_,q⟩:=x a _ r
  exact q
def uB:Option HO→Prop
 | some (.lst _)=>True
 | some (.dK _)=>True
 | some (.dT _)=>True
 | some (.set _ _)=>True
 | some (.ins _ _ _)=>True
 | some (.ext _)=>True
 | _=>False
section
variable{P:Program}{w:World}{H:Hp}{h h':Heap}{x e:Addr}{o':HO}
theorem HOk.write(ok:HOk P w H h)(mu:uB (H x))(he:e=x∨H e=some (.own x))(k:∀ b u,b≠e→h.get? b=some u→h'.get? b=some u)(heo:∃ u,h'.get? e=some u)
  (new:ObjOk P w (upd H x o') h' x o'):HOk P w (upd H x o') h':=fun b u q=>by
 have nown:∀ c y,H c=some (.own y)→c≠x:=fun c y r z=>by subst z; rw[r]at mu; exact mu
 have ntup:∀ c xs,H c=some (.tup xs)→c≠x:=fun c xs r z=>by subst z; rw[r]at mu; exact mu
 by_cases hb:b=x
 ·subst hb; rw[ae]at q; cases q; exact new
 ·rw[al hb]at q
  by_cases hbe:b=e
  ·have q':H b=some (.own x):=by
    rcases he with z | z
    ·exact absurd (hbe.trans z) hb
    ·rw[hbe]; exact z
   rw[q]at q'; cases q'
   obtain⟨v,hv⟩:=heo
   exact⟨v,by rw[hbe]; exact hv⟩
  ·refine(ok b u q).stay (fun c v hc r=>k c v ?_ r) (fun c r=>by rw[al (nown c b r)]; exact r) fun c xs r=>by rw[al (ntup c xs r)]; exact r
   rcases hc with rfl | hc
   ·exact hbe
   ·rintro rfl
    rcases he with z | z
    ·exact nown c b hc z
    ·rw[hc]at z; cases z; exact hb rfl
end
structure Un (fs ex:List Addr) (H H':Hp) (h h':Heap):Prop where
 keep:∀ b o,h.get? b=some o→H b=none→b∉fs→b∉ex→h'.get? b=some o
 slot:∀ b o,h.get? b=some o→H b=none→b∈fs→b∉ex→∃ sl,h'.get? b=some { o with slots:=sl }
 free:∀ b o,h.get? b=some o→H b=none→b∉ex→H' b=none
 there:∀ b o,h.get? b=some o→b∉ex→∃ o',h'.get? b=some o'
 tups:∀ b xs,H b=some (.tup xs)→H' b=some (.tup xs)
 frzs:∀ b o u,H b=some (.frz o u)→H' b=some (.frz o u)
 tbls:∀ b ps,H b=some (.tbl ps)→∃ more,H' b=some (.tbl (ps++more))
section
variable{fs fs' ex ex':List Addr}{H H1 H2:Hp}{h h1 h2 h':Heap}{a x e:Addr}{o:HO}
theorem Un.any(u:Un fs ex H H1 h h1){b:Addr}{ob:Obj}(q:h.get? b=some ob)(n:H b=none)(hx:b∉ex):∃ sl,h1.get? b=some { ob with slots:=sl }:=by
 by_cases hb:b∈fs
 ·exact u.slot b ob q n hb hx
 ·exact⟨ob.slots,u.keep b ob q n hb hx⟩
theorem Un.kept(k:∀ b u,h.get? b=some u→h'.get? b=some u):Un fs ex H H h h':=
 ⟨fun b ob q _ _ _=>k b ob q,fun b ob q _ _ _=>⟨ob.slots,k b ob q⟩,fun _ _ _ n _=>n,fun b ob q _=>⟨ob,k b ob q⟩,fun _ _ q=>q,fun _ _ _ q=>q,fun _ ps q=>⟨#[],by rw[q]; simp⟩⟩
theorem Un.refl:Un fs ex H H h h:=Un.kept fun _ _ q=>q
theorem Un.laid(k:∀ b u,h.get? b=some u→h'.get? b=some u)(hp:h.objs.size≤a)(hn:H a=none):Un fs ex H (upd H a o) h h' where
 keep:=fun b u q _ _ _=>k b u q
 slot:=fun b u q _ _ _=>⟨u.slots,k b u q⟩
 free:=fun b u q n _=>by rw[al (Nat.ne_of_lt (Nat.lt_of_lt_of_le (Heap.lt_size q) hp))]; exact n
 there:=fun b u q _=>⟨u,k b u q⟩
 tups:=fun b xs q=>by rw[al (aO q hn)]; exact q
 frzs:=fun b u xs q=>by rw[al (aO q hn)]; exact q
 tbls:=fun b ps q=>⟨#[],by rw[al (aO q hn),q]; simp⟩
theorem Un.write(mu:uB (H x))(he:e=x∨H e=some (.own x))(k:∀ b u,b≠e→h.get? b=some u→h'.get? b=some u)(heo:∃ u,h'.get? e=some u):Un fs ex H (upd H x o) h h':=by
 have hx:∀ b,H b=none→b≠x:=fun b n z=>by subst z; rw[n]at mu; exact mu
 have hb:∀ b,H b=none→b≠e:=fun b n z=>by
  subst z;rcases he with r | r
  ·exact hx b n r
  ·rw[n]at r; cases r
 have hm:∀ b u,H b=some u→¬ uB (some u)→b≠x:=fun b u q nm z=>by subst z; rw[q]at mu; exact nm mu
 refine⟨fun b u q n _ _=>k b u (hb b n) q,fun b u q n _ _=>⟨u.slots,k b u (hb b n) q⟩,fun b u q n _=>by rw[al (hx b n)]; exact n,fun b u q _=>?_,
  fun b xs q=>by rw[al (hm b _ q fun z=>z)]; exact q,fun b u xs q=>by rw[al (hm b _ q fun z=>z)]; exact q,fun b ps q=>⟨#[],by rw[al (hm b _ q fun z=>z),q]; simp⟩⟩
 by_cases hbe:b=e
 ·subst hbe; exact heo
 ·exact⟨u,k b u hbe q⟩
end
def trk(h:Heap)(H:Hp):List Addr:=(List.range h.objs.size).filter fun a=>(H a).isSome
def jN(h:Heap)(H:Hp):Heap:=PySem.W.hideAll h (trk h H)
theorem u6(h:Heap)(H:Hp):(jN h H).objs.size=h.objs.size:=PySem.W.hideAll_size _ _
theorem wk{h:Heap}{H:Hp}{b:Addr}{o:Obj}(e:h.get? b=some o)(n:H b=none):(jN h H).get? b=some o:=
 PySem.W.hideAll_get _ e fun hm=>by
  have q:(H b).isSome=true:=(List.mem_filter.mp hm).2
  rw[n]at q; simp at q
theorem yV{h:Heap}{H:Hp}{b:Addr}{o:Obj}(e:(jN h H).get? b=some o):h.get? b=some o∧H b=none:=by
 have e':h.get? b=some o:=PySem.W.of_hideAll (trk h H) e
 refine⟨e',?_⟩
 cases q:H b with
 | none=>rfl
 | some x=>
  have hm:b∈trk h H:=List.mem_filter.mpr ⟨List.mem_range.mpr (Heap.lt_size e'),by simp[q]⟩
  have z:(jN h H).get? b=none:=PySem.W.hideAll_none (trk h H) hm
  rw[z]at e; cases e
def ze(g h:Heap)(L:Addr):List (Addr × Obj):=(List.range h.objs.size).filterMap fun a=>if a=L∨(g.get? a).isSome=true then none else (h.get? a).map fun o=>(a,o)
def rest(g h:Heap)(L d:Addr):List (Addr × Obj):=(ze g h L).filter fun p=>decide (p.1≠d)
end L2
namespace L2
open PySem PySem.Spec PyProof.Rows
structure Mod (K:PySem.W.Frag) (mg:Str→Option Value) (base:Heap):Prop where
 kin:K.In base
 glob:base.Ns mainGlobals mg
 blt:∃ mb,base.Ns builtinsNs mb∧∀ x:Str,x ≠ "__name__" → mb x=bootBuiltins x
 nolimit:base.NoLimit
set_option genInjectivity false in
set_option genSizeOf false in
structure Cx where
 prog:Program
 w:World
 K:PySem.W.Frag
 mg:Str→Option Value
 base:Heap
 A:Around
 N:List Str
 s₀ : Shared
 H₀ : Hp
 env:Env
 outer:List Env
 stack:List Env
 ex:List Addr
 fn:Str→Bool
 calm:Bool
 pn:List (Addr × Obj)
 xe:Value→Shared→Prop
def jz(l:List Env):List Addr:=l.filterMap (·.frame)
abbrev Cx.fs (X:Cx):List Addr:=jz X.outer
def au(sc:Scope)(x:Str):Prop:=sc.names.lookup x=some .local∨sc.names.lookup x=some .cell∨sc.names.lookup x=some .free
def aY(sc:Scope)(x:Str):Prop:=sc.names.lookup x=some .local∨sc.names.lookup x=some .cell
def Eo(env:Env)(h:Heap)(m:Str→Option Value)(x:Str)(u:Value):Prop:=
 (env.kindOf x=some .local∧m x=some u)∨((env.kindOf x=some .cell∨env.kindOf x=some .free)∧∃ c,env.cells.lookup x=some c∧h.IsCell c (some u))
structure Cx.Ok (X:Cx):Prop where
 mod:Mod X.K X.mg X.base
 kind:X.env.scope.kind = .function
 glob:X.env.globals=mainGlobals
 blt:X.env.builtins=builtinsNs
 above:X.s₀.heap.objs.size≤X.env.locals
 inj:∀ x y c,X.env.cells.lookup x=some c→X.env.cells.lookup y=some c→x=y
 has:∀ x,(X.env.kindOf x=some .cell∨X.env.kindOf x=some .free)→∃ c,X.env.cells.lookup x=some c
 cab:∀ x c,X.fn x=true→X.env.cells.lookup x=some c→X.s₀.heap.objs.size≤c
 hd:X.calm=true→X.A.handled=none
 frames:X.A.frames=some X.stack
 stk:X.stack=X.outer∨(X.stack=X.env::X.outer∧X.env.frame=some X.env.locals)
 exf:∀ b∈X.ex,b≠X.env.locals∧∀ x c,X.env.cells.lookup x=some c→c≠b
 bs:∀ b o,X.base.get? b=some o→X.s₀.heap.get? b=some o∧X.H₀ b=none
 bsz:X.base.objs.size≤X.s₀.heap.objs.size
 noex:∀ b o,X.base.get? b=some o→b∉X.ex
 exfs:∀ b∈X.ex,b∉X.fs
 funs:X.s₀.heap.FunFrames X.base X.outer
 frf:∀ b∈X.fs,X.H₀ b=none
structure Inv (X:Cx) (pins:List (Addr × Obj)) (σ : List (Option V)) (H:Hp) (s:Shared):Prop where
 ok:X.Ok
 os:s.os=X.s₀.os
 bare:AllBare s.gens
 base:Un X.fs X.ex X.H₀ H X.s₀.heap s.heap
 loc:∃ m,s.heap.Ns X.env.locals m∧∀ (i:Nat) (x:Str) (v:V),X.N[i]? = some x→σ[i]? = some (some v)→au X.env.scope x→∃ u,RelV v u∧Eo X.env s.heap m x u
 cell:∀ x c,X.env.cells.lookup x=some c→∃ v,s.heap.IsCell c v
 free:H X.env.locals=none
 freeC:∀ x c,X.env.cells.lookup x=some c→H c=none
 pin:∀ p∈X.pn++pins,s.heap.get? p.1=some p.2∧H p.1=none∧p.1≠X.env.locals∧p.1∉X.fs∧∀ v,p.2.data ≠ .cell v
 hok:HOk X.prog X.w H s.heap
 len:σ.length=X.N.length
section
variable{X:Cx}{pins:List (Addr × Obj)}{σ : List (Option V)}{H H':Hp}{s:Shared}{h':Heap}
theorem Cx.Ok.nofr(ok:X.Ok){b:Addr}{o:Obj}(e:X.base.get? b=some o):b∉X.fs:=fun hb=>by
 have:=(ok.funs.mem hb).1
 rw[e]at this; cases this
theorem Inv.bs(I:Inv X pins σ H s):∀ b o,X.base.get? b=some o→s.heap.get? b=some o∧H b=none:=fun b o e=>
 ⟨I.base.keep b o (I.ok.bs b o e).1 (I.ok.bs b o e).2 (I.ok.nofr e) (I.ok.noex b o e),I.base.free b o (I.ok.bs b o e).1 (I.ok.bs b o e).2 (I.ok.noex b o e)⟩
theorem Inv.bk(I:Inv X pins σ H s):∀ b o,X.base.get? b=some o→s.heap.get? b=some o:=fun b o e=>(I.bs b o e).1
theorem Inv.mod(I:Inv X pins σ H s):Mod X.K X.mg X.base:=I.ok.mod
theorem Inv.kIn(I:Inv X pins σ H s):X.K.In s.heap:=I.ok.mod.kin.keeps I.bk
theorem Inv.lt(I:Inv X pins σ H s):X.env.locals<s.heap.objs.size:=let ⟨_,hn,_⟩:=I.loc; hn.lt
theorem Inv.sz(I:Inv X pins σ H s):X.s₀.heap.objs.size≤s.heap.objs.size:=Nat.le_trans I.ok.above (Nat.le_of_lt I.lt)
theorem Inv.nofs(I:Inv X pins σ H s){a:Addr}(h:s.heap.objs.size≤a):a∉X.fs:=fun hb=>by
 obtain⟨_,o,ho,_⟩:=I.ok.funs.mem hb
 exact absurd (Nat.lt_of_lt_of_le (Heap.lt_size ho) (Nat.le_trans I.sz h)) (Nat.lt_irrefl _)
theorem Inv.cne(I:Inv X pins σ H s):∀ x c,X.env.cells.lookup x=some c→c≠X.env.locals:=fun x c e z=>by
 obtain⟨v,o,ho,hd⟩:=I.cell x c e
 obtain⟨m,⟨o',es,ep,ho',hd',_⟩,_⟩:=I.loc
 rw[z,ho']at ho; cases ho; rw[hd']at hd; cases hd
theorem Inv.funs(I:Inv X pins σ H s):s.heap.FunFrames X.base X.outer:=by
 have all:∀ (l:List Env),(∀ b∈jz l,b∈X.fs)→X.s₀.heap.FunFrames X.base l→s.heap.FunFrames X.base l:=by
  intro l
  induction l with
  | nil=>intro _ _; trivial
  | cons env r ih=>
   intro hs hl
   obtain⟨hk,⟨L,o,hf,hn,ho,hd⟩,hr⟩:=hl
   have hL:L∈X.fs:=hs L (by unfold jz; rw[List.filterMap_cons,hf]; exact List.mem_cons_self)
   obtain⟨sl,e⟩:=I.base.slot L o ho (I.ok.frf L hL) hL fun z=>I.ok.exfs L z hL
   exact⟨hk,⟨L,_,hf,hn,e,hd⟩,ih (fun b hb=>hs b (by unfold jz; rw[List.filterMap_cons,hf]; exact List.mem_cons_of_mem _ hb)) hr⟩
 exact all X.outer (fun _ hb=>hb) I.ok.funs
theorem Inv.stack(I:Inv X pins σ H s):s.heap.FunFrames X.base X.stack:=by
 rcases I.ok.stk with e | ⟨e,hf⟩
 ·rw[e]; exact I.funs
 ·rw[e]
  obtain⟨m,hn,_⟩:=I.loc
  refine .cons (by rw[I.ok.kind]; decide) hf hn ?_ I.funs
  exact Heap.get?_none_of_le (Nat.le_trans I.ok.bsz I.ok.above)
theorem Inv.stkSub(I:Inv X pins σ H s):∀ b∈jz X.stack,b∈X.env.locals::X.fs:=fun b hb=>by
 rcases I.ok.stk with e | ⟨e,hf⟩
 ·rw[e]at hb; exact List.mem_cons_of_mem _ hb
 ·rw[e]at hb
  unfold jz at hb;rw[List.filterMap_cons,hf]at hb
  exact hb
theorem Inv.stkFree(I:Inv X pins σ H s):∀ b∈jz X.stack,H b=none:=fun b hb=>by
 rcases List.mem_cons.mp (I.stkSub b hb) with e | hb
 ·rw[e]; exact I.free
 ·obtain⟨_,o,ho,_⟩:=I.ok.funs.mem hb
  exact I.base.free b o ho (I.ok.frf b hb) fun z=>I.ok.exfs b z hb
theorem Inv.step{g':Array GenState}{t':Nat}{d':Drawn}{ch:List Addr}(I:Inv X pins σ H s)
  (hch:∀ b∈ch,(b∈X.ex∨X.s₀.heap.objs.size≤b)∧b≠X.env.locals∧(∀ x c,X.env.cells.lookup x=some c→c≠b)∧∀ p∈X.pn++pins,p.1≠b)
  (keep:∀ b o,b≠X.env.locals→b∉X.fs→b∉ch→s.heap.get? b=some o→H b=none→h'.get? b=some o)
  (slot:∀ b o,b≠X.env.locals→b∈X.fs→b∉ch→s.heap.get? b=some o→H b=none→∃ sl,h'.get? b=some { o with slots:=sl }) (free:∀ b o,b∉ch→s.heap.get? b=some o→H b=none→H' b=none)
  (there:∀ b o,b∉ch→s.heap.get? b=some o→∃ o',h'.get? b=some o')
  (tups:∀ b xs,H b=some (.tup xs)→H' b=some (.tup xs)) (frzs:∀ b o u,H b=some (.frz o u)→H' b=some (.frz o u)) (tbls:∀ b ps,H b=some (.tbl ps)→∃ more,H' b=some (.tbl (ps++more)))
  (ns:∀ m,s.heap.Ns X.env.locals m→h'.Ns X.env.locals m) (hok:HOk X.prog X.w H' h') (hg:AllBare g') :
  Inv X pins σ H' { s with heap:=h',gens:=g',drawn:=d',toks:=t' }:=by
 have neL:∀ b o,X.s₀.heap.get? b=some o→b≠X.env.locals:=fun b o e=>Nat.ne_of_lt (Nat.lt_of_lt_of_le (Heap.lt_size e) I.ok.above)
 have neC:∀ b o,X.s₀.heap.get? b=some o→b∉X.ex→b∉ch:=fun b o e hx hb=>by
  rcases(hch b hb).1 with z | z
  ·exact hx z
  ·exact absurd (Nat.lt_of_lt_of_le (Heap.lt_size e) z) (Nat.lt_irrefl _)
 have cellK:∀ x c,X.env.cells.lookup x=some c→∀ v,s.heap.IsCell c v→h'.IsCell c v:=fun x c e v ⟨o,ho,hd⟩=>by
  have nch:c∉ch:=fun z=>(hch c z).2.2.1 x c e rfl
  by_cases hc:c∈X.fs
  ·obtain⟨sl,q⟩:=slot c o (I.cne x c e) hc nch ho (I.freeC x c e)
   exact⟨_,q,hd⟩
  ·exact⟨o,keep c o (I.cne x c e) hc nch ho (I.freeC x c e),hd⟩
 refine⟨I.ok,I.os,hg,⟨fun b o e n hb hx=>?_,fun b o e n hb hx=>?_,fun b o e n hx=>?_,fun b o e hx=>?_,fun b xs e=>tups b xs (I.base.tups b xs e),fun b o xs e=>frzs b o xs (I.base.frzs b o xs e),fun b ps e=>?_⟩,?_,fun x c e=>?_,?_,fun x c e=>?_,fun p hp=>?_,hok,I.len⟩
 ·exact keep b o (neL b o e) hb (neC b o e hx) (I.base.keep b o e n hb hx) (I.base.free b o e n hx)
 ·obtain⟨sl,e1⟩:=I.base.slot b o e n hb hx
  obtain⟨sl',e2⟩:=slot b _ (neL b o e) hb (neC b o e hx) e1 (I.base.free b o e n hx)
  exact⟨sl',e2⟩
 ·obtain⟨o',e1⟩:=I.base.there b o e hx
  exact free b o' (neC b o e hx) e1 (I.base.free b o e n hx)
 ·obtain⟨o',e1⟩:=I.base.there b o e hx
  exact there b o' (neC b o e hx) e1
 ·obtain⟨m1,e1⟩:=I.base.tbls b ps e
  obtain⟨m2,e2⟩:=tbls b _ e1
  exact⟨m1++m2,by rw[e2,Array.append_assoc]⟩
 ·obtain⟨m,hn,hl⟩:=I.loc
  refine⟨m,ns m hn,fun i x v e1 e2 e3=>?_⟩
  obtain⟨u,r,l⟩:=hl i x v e1 e2 e3
  refine⟨u,r,?_⟩
  rcases l with l | ⟨k,c,e,z⟩
  ·exact .inl l
  ·exact .inr ⟨k,c,e,cellK x c e _ z⟩
 ·obtain⟨v,z⟩:=I.cell x c e
  exact⟨v,cellK x c e v z⟩
 ·obtain⟨m,⟨o,_,_,ho,_⟩,_⟩:=I.loc
  exact free _ o (fun z=>(hch _ z).2.1 rfl) ho I.free
 ·obtain⟨v,o,ho,hd⟩:=I.cell x c e
  exact free c o (fun z=>(hch c z).2.2.1 x c e rfl) ho (I.freeC x c e)
 ·obtain⟨e,n,ne,nf,d⟩:=I.pin p hp
  have nch:p.1∉ch:=fun z=>(hch p.1 z).2.2.2 p hp rfl
  exact⟨keep p.1 p.2 ne nf nch e n,free p.1 p.2 nch e n,ne,nf,d⟩
theorem Inv.un{t':Nat}(I:Inv X pins σ H s)(u:Un X.fs [] H H' s.heap h')(hok:HOk X.prog X.w H' h'):Inv X pins σ H' { s with heap:=h',toks:=t' }:=by
 obtain⟨m,⟨o,es,ep,ho,r⟩,_⟩:=id I.loc
 obtain⟨sl,hL⟩:=u.any ho I.free (by simp)
 exact I.step (g':=s.gens) (d':=s.drawn) (ch:=[]) (fun _ z=>nomatch z) (fun b o _ hb _ e n=>u.keep b o e n hb (by simp)) (fun b o _ hb _ e n=>u.slot b o e n hb (by simp)) (fun b o _ e n=>u.free b o e n (by simp)) (fun b o _ e=>u.there b o e (by simp)) u.tups u.frzs u.tbls (fun m' hm=>by
  obtain⟨o',es',ep',ho',r'⟩:=hm
  rw[ho]at ho'; cases ho'
  exact⟨_,es',ep',hL,r'⟩) hok I.bare
theorem Inv.call{g':Array GenState}{t':Nat}{d':Drawn}{ch:List Addr}(I:Inv X pins σ H s)(u:Un (jz X.stack) ch H H' s.heap h')(hok:HOk X.prog X.w H' h')(hg:AllBare g')
  (hch:∀ b∈ch,(b∈X.ex∨X.s₀.heap.objs.size≤b)∧b≠X.env.locals∧(∀ x c,X.env.cells.lookup x=some c→c≠b)∧∀ p∈X.pn++pins,p.1≠b) :
  Inv X pins σ H' { s with heap:=h',gens:=g',drawn:=d',toks:=t' }:=by
 obtain⟨m,⟨o,es,ep,ho,r⟩,_⟩:=id I.loc
 obtain⟨sl,hL⟩:=u.any ho I.free fun z=>(hch _ z).2.1 rfl
 exact I.step (ch:=ch) hch (fun b o hL hb hc e n=>u.keep b o e n (fun z=>(List.mem_cons.mp (I.stkSub b z)).elim hL hb) hc) (fun b o _ _ hc e n=>u.any e n hc) (fun b o hc e n=>u.free b o e n hc) (fun b o hc e=>u.there b o e hc) u.tups u.frzs u.tbls (fun m' hm=>by
  obtain⟨o',es',ep',ho',r'⟩:=hm
  rw[ho]at ho'; cases ho'
  exact⟨_,es',ep',hL,r'⟩) hok hg
theorem Inv.turned{t':Nat}{it:Addr}(I:Inv X pins σ H s)(k:∀ b o,b≠it→s.heap.get? b=some o→h'.get? b=some o)(hn:H it=none)(hL:it≠X.env.locals)
  (h1:it∈X.ex∨X.s₀.heap.objs.size≤it) (h2:∀ x c,X.env.cells.lookup x=some c→c≠it) (h3:∀ p∈X.pn++pins,p.1≠it):Inv X pins σ H { s with heap:=h',toks:=t' }:=by
 have nit:∀ b u,H b=some u→b≠it:=fun b u e z=>by rw[z,hn]at e; cases e
 refine I.step (g':=s.gens) (d':=s.drawn) (ch:=[it]) (fun b hb=>?_) (fun b o _ _ hc e _=>k b o (fun z=>hc (by simp[z])) e) (fun b o _ _ hc e _=>⟨o.slots,k b o (fun z=>hc (by simp[z])) e⟩) (fun _ _ _ _ n=>n)
  (fun b o hc e=>⟨o,k b o (fun z=>hc (by simp[z])) e⟩) (fun _ _ e=>e) (fun _ _ _ e=>e) (fun b ps e=>⟨#[],by rw[e]; simp⟩) (fun m hm=>?_) (fun b u e=>?_) I.bare
 ·have e:b=it:=by simpa using hb
  subst e;exact⟨h1,hL,h2,h3⟩
 ·obtain⟨o,es,ep,ho,r⟩:=hm
  exact⟨o,es,ep,k _ o (Ne.symm hL) ho,r⟩
 ·refine(I.hok b u e).stay (fun c v hc q=>k c v ?_ q) (fun _ q=>q) fun _ _ q=>q
  rcases hc with z | z
  ·rw[z]; exact nit b u e
  ·exact nit c _ z
theorem Inv.tok(I:Inv X pins σ H s)(t:Nat):Inv X pins σ H { s with toks:=t }:=I.un (h':=s.heap) (t':=t) Un.refl I.hok
theorem Inv.kept{t':Nat}(I:Inv X pins σ H s)(k:∀ b u,s.heap.get? b=some u→h'.get? b=some u):Inv X pins σ H { s with heap:=h',toks:=t' }:=I.un (Un.kept k) (I.hok.kept k)
theorem Inv.laid{a:Addr}{o:HO}{t':Nat}(I:Inv X pins σ H s)(k:∀ b u,s.heap.get? b=some u→h'.get? b=some u)(hp:s.heap.objs.size≤a)(new:ObjOk X.prog X.w (upd H a o) h' a o) :
  Inv X pins σ (upd H a o) { s with heap:=h',toks:=t' }:=I.un (Un.laid k hp (I.hok.fresh hp)) (I.hok.laid k hp new)
theorem Inv.write{x e:Addr}{o:HO}{t':Nat}(I:Inv X pins σ H s)(mu:uB (H x))(he:e=x∨H e=some (.own x))(k:∀ b u,b≠e→s.heap.get? b=some u→h'.get? b=some u)(heo:∃ u,h'.get? e=some u)
  (new:ObjOk X.prog X.w (upd H x o) h' x o):Inv X pins σ (upd H x o) { s with heap:=h',toks:=t' }:=I.un (Un.write mu he k heo) (I.hok.write mu he k heo new)
theorem Inv.weak{σ':List (Option V)}(I:Inv X pins σ H s)(hl:σ'.length=σ.length)(w:∀ (i:Nat) v,σ'[i]? = some (some v)→σ[i]? = some (some v)):Inv X pins σ' H s:=
 ⟨I.ok,I.os,I.bare,I.base,let ⟨m,hn,hl'⟩:=I.loc; ⟨m,hn,fun i x v e1 e2 e3=>hl' i x v e1 (w i v e2) e3⟩,I.cell,I.free,I.freeC,I.pin,I.hok,hl.trans I.len⟩
theorem Inv.pins_of{pins':List (Addr × Obj)}(I:Inv X pins σ H s)(h:∀ p∈pins',s.heap.get? p.1=some p.2∧H p.1=none∧p.1≠X.env.locals∧p.1∉X.fs∧∀ v,p.2.data ≠ .cell v):Inv X pins' σ H s:=
 ⟨I.ok,I.os,I.bare,I.base,I.loc,I.cell,I.free,I.freeC,fun p hp=>(List.mem_append.mp hp).elim (fun z=>I.pin p (List.mem_append_left _ z)) (h p),I.hok,I.len⟩
theorem pk{N:List Str}(hN:N.Nodup){i j:Nat}{x:Str}(a:N[i]? = some x)(b:N[j]? = some x):i=j:=by
 obtain⟨h1,e1⟩:=List.getElem?_eq_some_iff.mp a
 obtain⟨h2,e2⟩:=List.getElem?_eq_some_iff.mp b
 exact(List.getElem_inj hN).mp (e1.trans e2.symm)
theorem nQ{M:Model}{A:Around}{E:Value→Shared→Prop}{i:Nat}{x:Str}{v:V}{u:Value}{Q:Unit→Shared→Prop}(I:Inv X pins σ H s)(hN:X.N.Nodup)(hi:X.N[i]? = some x)(hx:aY X.env.scope x)(r:RelV v u)
  (h:∀ s',Inv X pins (σ.set i (some v)) H s'→(∃ a,Heap.SameBut a s.heap s'.heap∧(a=X.env.locals∨X.env.cells.lookup x=some a))→Q () s') (hf:X.fn x=true∨X.env.scope.names.lookup x=some .local:=by first | exact .inl rfl | exact .inr rfl | assumption):wpAny M A (storeName X.env x u) Q E s:=by
 obtain⟨m,hn,hl⟩:=id I.loc
 have hcls:(X.env.scope.kind == .class||(X.env.scope.kind == .module&&X.env.locals != X.env.globals))=false:=by rw[I.ok.kind]; rfl
 have hiσ : i<σ.length:=by rw[I.len]; exact(List.getElem?_eq_some_iff.mp hi).1
 have cne:=I.cne
 have tracked:∀ {a:Addr} {h':Heap},(∃ o,s.heap.get? a=some o∧H a=none)→Heap.SameBut a s.heap h'→HOk X.prog X.w H h':=fun {a h'} ha hs b ob e=>by
  obtain⟨_,_,hfree⟩:=ha
  refine(I.hok b ob e).stay (fun c w' hc q=>(hs.2 c ?_).trans q) (fun _ q=>q) fun _ _ q=>q
  rintro rfl
  rcases hc with rfl | hc
  ·rw[hfree]at e; cases e
  ·rw[hfree]at hc; cases hc
 rcases hx with hk | hk
 ·refine wpAny_storeName_local hk hn (fun h' hn' hs=>?_) hcls
  obtain⟨oL,_,_,hoL,_⟩:=id hn
  refine h _ ⟨I.ok,I.os,I.bare,⟨fun b o e n hb hx=>?_,fun b o e n hb hx=>?_,I.base.free,fun b o e hx=>?_,I.base.tups,I.base.frzs,I.base.tbls⟩,⟨_,hn',fun j y v' e1 e2 e3=>?_⟩,fun y c e=>?_,I.free,I.freeC,fun p hp=>?_,tracked ⟨oL,hoL,I.free⟩ hs,by simpa using I.len⟩ ⟨_,hs,.inl rfl⟩
  ·exact(hs.2 b (Nat.ne_of_lt (Nat.lt_of_lt_of_le (Heap.lt_size e) I.ok.above))).trans (I.base.keep b o e n hb hx)
  ·obtain⟨sl,e1⟩:=I.base.slot b o e n hb hx
   exact⟨sl,(hs.2 b (Nat.ne_of_lt (Nat.lt_of_lt_of_le (Heap.lt_size e) I.ok.above))).trans e1⟩
  ·obtain⟨o',e1⟩:=I.base.there b o e hx
   exact⟨o',(hs.2 b (Nat.ne_of_lt (Nat.lt_of_lt_of_le (Heap.lt_size e) I.ok.above))).trans e1⟩
  ·by_cases hj:j=i
   ·subst hj
    rw[hi]at e1; cases e1
    rw[List.getElem?_set_self hiσ]at e2
    cases e2;exact⟨u,r,.inl ⟨hk,by simp⟩⟩
   ·rw[List.getElem?_set_ne (Ne.symm hj)]at e2
    obtain⟨u',r',q⟩:=hl j y v' e1 e2 e3
    refine⟨u',r',?_⟩
    rcases q with ⟨k,e⟩ | ⟨k,c,e,z⟩
    ·refine .inl ⟨k,?_⟩
     have:y≠x:=fun e=>hj (pk hN e1 (e ▸ hi))
     simp[this,e]
    ·exact .inr ⟨k,c,e,z.sameBut hs (cne y c e)⟩
  ·obtain⟨w',z⟩:=I.cell y c e
   exact⟨w',z.sameBut hs (cne y c e)⟩
  ·obtain⟨e,n,ne,nf,d⟩:=I.pin p hp
   exact⟨(hs.2 p.1 ne).trans e,n,ne,nf,d⟩
 ·have hfn:X.fn x=true:=by
   rcases hf with z | z
   ·exact z
   ·rw[z]at hk; cases hk
  obtain⟨c,hc⟩:=I.ok.has x (.inl hk)
  obtain⟨w',z⟩:=I.cell x c hc
  refine wpAny_storeName_cell I.ok.kind hk hc z (fun h' hc' hs=>?_)
  obtain⟨oc,hoc,hocd⟩:=id z
  refine h { s with heap:=h' } ⟨I.ok,I.os,I.bare,⟨fun b o e n hb hx=>?_,fun b o e n hb hx=>?_,I.base.free,fun b o e hx=>?_,I.base.tups,I.base.frzs,I.base.tbls⟩,⟨m,hn.sameBut hs (Ne.symm (cne x c hc)),fun j y v' e1 e2 e3=>?_⟩,fun y c' e=>?_,I.free,I.freeC,fun p hp=>?_,tracked ⟨oc,hoc,I.freeC x c hc⟩ hs,by simpa using I.len⟩ ⟨c,hs,.inr hc⟩
  ·exact(hs.2 b (Nat.ne_of_lt (Nat.lt_of_lt_of_le (Heap.lt_size e) (I.ok.cab x c hfn hc)))).trans (I.base.keep b o e n hb hx)
  ·obtain⟨sl,e1⟩:=I.base.slot b o e n hb hx
   exact⟨sl,(hs.2 b (Nat.ne_of_lt (Nat.lt_of_lt_of_le (Heap.lt_size e) (I.ok.cab x c hfn hc)))).trans e1⟩
  ·obtain⟨o',e1⟩:=I.base.there b o e hx
   exact⟨o',(hs.2 b (Nat.ne_of_lt (Nat.lt_of_lt_of_le (Heap.lt_size e) (I.ok.cab x c hfn hc)))).trans e1⟩
  ·by_cases hj:j=i
   ·subst hj
    rw[hi]at e1; cases e1
    rw[List.getElem?_set_self hiσ]at e2
    cases e2;exact⟨u,r,.inr ⟨.inl hk,c,hc,hc'⟩⟩
   ·rw[List.getElem?_set_ne (Ne.symm hj)]at e2
    obtain⟨u',r',q⟩:=hl j y v' e1 e2 e3
    refine⟨u',r',?_⟩
    rcases q with q | ⟨k,c',e,z'⟩
    ·exact .inl q
    ·refine .inr ⟨k,c',e,z'.sameBut hs ?_⟩
     rintro rfl
     exact hj (pk hN e1 (I.ok.inj _ _ _ e hc ▸ hi))
  ·by_cases hcc:c'=c
   ·subst hcc; exact⟨_,hc'⟩
   ·obtain⟨w2,z2⟩:=I.cell y c' e
    exact⟨w2,z2.sameBut hs hcc⟩
  ·obtain⟨e,n,ne,nf,d⟩:=I.pin p hp
   refine⟨(hs.2 p.1 ?_).trans e,n,ne,nf,d⟩
   intro q
   rw[q,hoc]at e
   have q':oc=p.2:=Option.some.inj e
   exact d w' (by rw[← q']; exact hocd)
theorem pF{M:Model}{A:Around}{E:Value→Shared→Prop}{i:Nat}{x:Str}{v:V}{u:Value}{Q:Unit→Shared→Prop}(I:Inv X pins σ H s)(hN:X.N.Nodup)(hi:X.N[i]? = some x)(hx:aY X.env.scope x)(r:RelV v u)
  (h:∀ s',Inv X pins (σ.set i (some v)) H s'→Q () s') (hf:X.fn x=true∨X.env.scope.names.lookup x=some .local:=by first | exact .inl rfl | exact .inr rfl | assumption):wpAny M A (storeName X.env x u) Q E s:=
 nQ I hN hi hx r (fun s' I' _=>h s' I') hf
theorem Inv.call'{s':Shared}{ch:List Addr}(I:Inv X pins σ H s)(ho:s'.os=s.os)(u:Un (jz X.stack) ch H H' s.heap s'.heap)(hok:HOk X.prog X.w H' s'.heap)(hg:AllBare s'.gens)
  (hch:∀ b∈ch,(b∈X.ex∨X.s₀.heap.objs.size≤b)∧b≠X.env.locals∧(∀ x c,X.env.cells.lookup x=some c→c≠b)∧∀ p∈X.pn++pins,p.1≠b):Inv X pins σ H' s':=by
 obtain⟨h',g',d',t',o'⟩:=s'
 have e:o'=s.os:=ho
 subst e;exact I.call (g':=g') (t':=t') (d':=d') u hok hg hch
end
abbrev XK:=Value→Option Addr→Hp→Prop
abbrev St:=List (Option V)
abbrev VK:=V→Hp→Prop
abbrev TE:=St→Hp→VK→Prop
abbrev TT:=St→Hp→(Bool→Hp→Prop)→Prop
abbrev TA:=St→Hp→(List V→Hp→Prop)→Prop
set_option genInjectivity false in
set_option genSizeOf false in
structure dI where
 nx:St→Hp→Prop
 rt:VK
 bk:St→Hp→Prop:=fun _ _=>False
 ct:St→Hp→Prop:=fun _ _=>False
abbrev TS:=dI→St→Hp→Prop
def EP(X:Cx)(pins:List (Addr × Obj))(σ : St)(Q:VK)(u:Value)(s':Shared):Prop:=∃ v H',Inv X pins σ H' s'∧RelV v u∧Q v H'
def TP(X:Cx)(pins:List (Addr × Obj))(σ : St)(Q:Bool→Hp→Prop)(b:Bool)(s':Shared):Prop:=∃ H',Inv X pins σ H' s'∧Q b H'
def AP(X:Cx)(pins:List (Addr × Obj))(σ : St)(Q:List V→Hp→Prop)(us:List Value)(s':Shared):Prop:=∃ vs H',Inv X pins σ H' s'∧Vals vs us∧Q vs H'
def SP(X:Cx)(pins:List (Addr × Obj))(D:dI)(f:Flow)(s':Shared):Prop:=
 match f with
 | .next=>∃ σ' H',Inv X pins σ' H' s'∧D.nx σ' H'
 | .brk=>∃ σ' H',Inv X pins σ' H' s'∧D.bk σ' H'
 | .cont=>∃ σ' H',Inv X pins σ' H' s'∧D.ct σ' H'
 | .ret u=>∃ v σ' H',Inv X pins σ' H' s'∧RelV v u∧D.rt v H'
def PE(X:Cx)(e:Expr)(t:TE):Prop:=
 ∀ (pins:List (Addr × Obj)) (s:Shared) (σ : St) (H:Hp) (Q:VK),Inv X pins σ H s→t σ H Q→wpAny (model X.prog X.w) X.A (eval e X.env) (EP X pins σ Q) X.xe s
def PT(X:Cx)(e:Expr)(t:TT):Prop:=
 ∀ (pins:List (Addr × Obj)) (s:Shared) (σ : St) (H:Hp) (Q:Bool→Hp→Prop),Inv X pins σ H s→t σ H Q→wpAny (model X.prog X.w) X.A (isTrue e X.env (eval e X.env)) (TP X pins σ Q) X.xe s
def PW(X:Cx)(e:Expr)(t:TT):Prop:=
 ∀ (whole:Sem Value) (pins:List (Addr × Obj)) (s:Shared) (σ : St) (H:Hp) (Q:Bool→Hp→Prop),Inv X pins σ H s→t σ H Q→wpAny (model X.prog X.w) X.A (isTrue e X.env whole) (TP X pins σ Q) X.xe s
theorem PW.pt{X:Cx}{e:Expr}{t:TT}(h:PW X e t):PT X e t:=h _
def PA(X:Cx)(es:List Expr)(t:TA):Prop:=
 ∀ (pos:Pos) (pins:List (Addr × Obj)) (s:Shared) (σ : St) (H:Hp) (Q:List V→Hp→Prop),Inv X pins σ H s→t σ H Q→wpAny (model X.prog X.w) X.A (spliced (backTo pos (starEach es X.env))) (AP X pins σ Q) X.xe s
def PS(X:Cx)(st:Stmt)(t:TS):Prop:=
 ∀ (pins:List (Addr × Obj)) (s:Shared) (σ : St) (H:Hp) (D:dI),Inv X pins σ H s→t D σ H→wpAny (model X.prog X.w) X.A (exec st X.env) (SP X pins D) X.xe s
def PSs(X:Cx)(st:List Stmt)(t:TS):Prop:=
 ∀ (pins:List (Addr × Obj)) (s:Shared) (σ : St) (H:Hp) (D:dI),Inv X pins σ H s→t D σ H→wpAny (model X.prog X.w) X.A (execs st X.env) (SP X pins D) X.xe s
theorem bc{α : Type}{t:Sem α}{Q Q':α→Shared→Prop}{M:Model}{A:Around}{E:Value→Shared→Prop}{s:Shared}(h:wpAny M A t Q E s)(hQ:∀ a s,Q a s→Q' a s):wpAny M A t Q' E s:=wpAny_mono h hQ fun _ _ x=>x
end L2
namespace L2
open PySem PySem.Spec PyProof.Rows
section
variable{X:Cx}
def m5(i:Nat):TE:=fun σ H Q=>∃ v,σ[i]? = some (some v)∧Q v H
def tC(v:V):TE:=fun _ H Q=>Q v H
theorem uC{i:Nat}{x:Str}{pos:Pos}(hN:X.N[i]? = some x)(hv:au X.env.scope x)(hd:(x == ("__debug__" : Str))=false:=by decide) (hcd:(x == ("__classdict__" : Str))=false:=by decide):PE X (.Name x pos) (m5 i):=by
 intro pins s σ H Q I h
 obtain⟨v,e,h⟩:=h
 obtain⟨m,hn,hl⟩:=I.loc
 obtain⟨u,r,l⟩:=hl i x v hN e hv
 have fin:EP X pins σ Q u s:=⟨v,H,I,r,h⟩
 rcases l with ⟨hk,hm⟩ | ⟨hk,c,hc,hcell⟩
 ·exact wpAny_Name (wpAny_loadName_local I.ok.kind hk hn hm fin) hd
 ·rcases hk with hk | hk
  ·exact wpAny_Name (wpAny_loadName_cell I.ok.kind hk hc hcell fin) hd
  ·exact wpAny_Name (wpAny_loadName_free I.ok.kind hk hc hcell fin hcd) hd
theorem ah{i j pos}:PE X (.Constant (.int i) j pos) (tC (.int i)):=fun _ _ _ H _ I h=>wpAny_Constant_int ⟨.int i,H,I.tok _,⟨_,rfl⟩,h⟩
theorem dy{b j pos}:PE X (.Constant (.bool b) j pos) (tC (.bl b)):=fun _ _ _ H _ I h=>Constant_bool ⟨.bl b,H,I,rfl,h⟩
theorem b5{j pos}:PE X (.Constant .none j pos) (tC .non):=fun _ _ _ H _ I h=>Constant_none ⟨.non,H,I,rfl,h⟩
theorem mh{x j pos}:PE X (.Constant (.str x) j pos) (tC (.str x)):=fun _ _ _ H _ I h=>Calls.Constant_str ⟨.str x,H,I.tok _,⟨_,rfl⟩,h⟩
def Gl(X:Cx)(x:Str):Prop:=X.env.kindOf x=some .globalImplicit
theorem vSs{s:Stmt}{x:Str}(h:(L2.defScope s).names.lookup x=some .local):au (L2.defScope s) x:=Or.inl h
theorem vLl{s:Stmt}{x:Str}(h:(L2.defScope s).names.lookup x=some .local):aY (L2.defScope s) x:=Or.inl h
theorem vGg{s:Stmt}{x:Str}(h:(L2.defScope s).names.lookup x=some .globalImplicit):(L2.defScope s).names.lookup x=some .globalImplicit:=h
theorem rF{E:Value→Shared→Prop}{pins:List (Addr × Obj)}{s:Shared}{σ : St}{H:Hp}{x:Str}{u:Value}{pos:Pos}{Q:Value→Shared→Prop}(I:Inv X pins σ H s)(hg:Gl X x)(hm:X.mg x=some u)(h:Q u s)
  (hd:(x == ("__debug__" : Str))=false:=by decide):wpAny (model X.prog X.w) X.A (eval (.Name x pos) X.env) Q E s:=
 Calls.Name_function_global I.ok.kind hg (Calls.loadGlobal_global (by rw[I.ok.glob]; exact I.mod.glob.keeps I.bk) hm h) hd
theorem iS{E:Value→Shared→Prop}{pins:List (Addr × Obj)}{s:Shared}{σ : St}{H:Hp}{x:Str}{u:Value}{pos:Pos}{Q:Value→Shared→Prop}(I:Inv X pins σ H s)(hg:Gl X x)(hm:X.mg x=none)(hv:bootBuiltins x=some u)(h:Q u s)
  (hn:x ≠ "__name__" := by decide) (hd:(x == ("__debug__" : Str))=false:=by decide):wpAny (model X.prog X.w) X.A (eval (.Name x pos) X.env) Q E s:=by
 obtain⟨mb,h1,h2⟩:=I.mod.blt
 exact Calls.Name_function_global I.ok.kind hg (Calls.loadGlobal_builtin (by rw[I.ok.glob]; exact I.mod.glob.keeps I.bk) hm (by rw[I.ok.blt]; exact h1.keeps I.bk) ((h2 x hn).trans hv) h) hd
theorem rJ{x:Str}{v:V}{u:Value}{pos:Pos}(hg:Gl X x)(hm:X.mg x=some u)(r:RelV v u)(hd:(x == ("__debug__" : Str))=false:=by decide):PE X (.Name x pos) (tC v):=
 fun _ _ _ H _ I h=>rF I hg hm ⟨v,H,I,r,h⟩ hd
theorem zD{x:Str}{v:V}{u:Value}{pos:Pos}(hg:Gl X x)(hm:X.mg x=none)(hv:bootBuiltins x=some u)(r:RelV v u)(hn:x ≠ "__name__" := by decide) (hd:(x == ("__debug__" : Str))=false:=by decide):PE X (.Name x pos) (tC v):=
 fun _ _ _ H _ I h=>iS I hg hm hv ⟨v,H,I,r,h⟩ hn hd
variable{a b:Expr}{ta tb:TE}{pos:Pos}
def tB(t:TE):TT:=fun σ H Q=>t σ H fun x H1=>∃ c,x = .bl c∧Q c H1
theorem dA{e:Expr}{t:TE}(h:PE X e t)(he:∀ whole,isTrue e X.env whole=(do let v ← whole; standAt e.pos; holding [v] (truthy v)):=by intro _; rfl):PT X e (tB t):=by
 intro pins s σ H Q I hw
 refine isTrue_plain (bc (h pins s σ H _ I hw) fun v s1 ⟨x,H1,I1,r1,q1⟩=>?_) (he _)
 obtain⟨d,rfl,q⟩:=q1
 cases r1;exact wpAny_truthy_bool ⟨H1,I1,q⟩
variable{tA tB':TT}{rest:List Expr}
def AL(t u:TT):TT:=fun σ H Q=>t σ H fun c H1=>if c=true then u σ H1 Q else Q false H1
def CD(t u:TT):TT:=fun σ H Q=>t σ H fun c H1=>if c=true then Q true H1 else u σ H1 Q
def zW(t:TT):TT:=fun σ H Q=>t σ H fun c H1=>Q (!c) H1
theorem jA(ha:PT X a tA):PW X (.BoolOp .And [a] pos) tA:=by
 intro wh pins s σ H Q I h
 refine isTrue_and (bc (ha pins s σ H Q I h) fun c s1 e=>?_)
 cases c with
 | true=>exact isTrue_and_nil e
 | false=>exact e
theorem iO(ha:PT X a tA):PW X (.BoolOp .Or [a] pos) tA:=by
 intro wh pins s σ H Q I h
 refine isTrue_or (bc (ha pins s σ H Q I h) fun c s1 e=>?_)
 cases c with
 | false=>exact isTrue_or_nil e
 | true=>exact e
theorem ko(ha:PT X a tA)(hb:PW X (.BoolOp .And (b::rest) pos) tB'):PW X (.BoolOp .And (a::b::rest) pos) (AL tA tB'):=by
 intro wh pins s σ H Q I h
 refine isTrue_and (bc (ha pins s σ H _ I h) fun c s1 ⟨H1,I1,q1⟩=>?_)
 cases c with
 | true=>exact hb wh pins s1 σ H1 Q I1 q1
 | false=>exact⟨H1,I1,q1⟩
theorem gy(ha:PT X a tA)(hb:PW X (.BoolOp .Or (b::rest) pos) tB'):PW X (.BoolOp .Or (a::b::rest) pos) (CD tA tB'):=by
 intro wh pins s σ H Q I h
 refine isTrue_or (bc (ha pins s σ H _ I h) fun c s1 ⟨H1,I1,q1⟩=>?_)
 cases c with
 | true=>exact⟨H1,I1,q1⟩
 | false=>exact hb wh pins s1 σ H1 Q I1 q1
theorem dJ(ha:PT X a tA):PT X (.UnaryOp .Not a pos) (zW tA):=by
 intro pins s σ H Q I h
 exact isTrue_not (ha pins s σ H (fun c H1=>Q (!c) H1) I h)
def yq(ta tb:TE):TE:=fun σ H Q=>ta σ H fun x H1=>∃ c,x = .bl c∧if c=true then tb σ H1 Q else Q (.bl false) H1
def yo(ta:TE):TE:=fun σ H Q=>ta σ H fun x H1=>∃ c,x = .bl c∧Q (.bl (!c)) H1
theorem pN{op}{t:TE}(h:PE X a t):PE X (.BoolOp op [a] pos) t:=fun pins s σ H Q I hw=>BoolOp_one (h pins s σ H Q I hw)
theorem kq(ha:PE X a ta)(hb:PE X (.BoolOp .And (b::rest) pos) tb):PE X (.BoolOp .And (a::b::rest) pos) (yq ta tb):=by
 intro pins s σ H Q I h
 refine BoolOp_and (bc (ha pins s σ H _ I h) fun v s1 ⟨x,H1,I1,r1,q1⟩=>?_)
 obtain⟨c,rfl,q1⟩:=q1
 cases r1;refine wpAny_truthy_bool ?_
 cases c with
 | true=>exact hb pins s1 σ H1 Q I1 q1
 | false=>exact⟨.bl false,H1,I1,rfl,q1⟩
theorem AT(ha:PE X a ta):PE X (.UnaryOp .Not a pos) (yo ta):=by
 intro pins s σ H Q I h
 refine UnaryOp_ (bc (ha pins s σ H _ I h) fun v s1 ⟨x,H1,I1,r1,q1⟩=>?_)
 obtain⟨c,rfl,q1⟩:=q1
 cases r1;exact not_of (wpAny_truthy_bool ⟨.bl (!c),H1,I1,rfl,q1⟩)
def CG(t:TT)(ta tb:TE):TE:=fun σ H Q=>t σ H fun c H1=>if c=true then ta σ H1 Q else tb σ H1 Q
theorem lO{c:Expr}(hc:PT X c tA)(ha:PE X a ta)(hb:PE X b tb):PE X (.IfExp c a b pos) (CG tA ta tb):=by
 intro pins s σ H Q I h
 refine wpAny_IfExp (bc (hc pins s σ H _ I h) fun d s1 ⟨H1,I1,q1⟩=>?_)
 cases d with
 | true=>exact ha pins s1 σ H1 Q I1 q1
 | false=>exact hb pins s1 σ H1 Q I1 q1
end
end L2
namespace L2
open PySem PySem.Spec PyProof.Rows
def SqL(K:PySem.W.Frag)(H:Hp)(a:Addr)(xs:List V):Prop:=
 Rd H a (.lst xs)∨
  ∃ (o:Obj) (its:Array Value) (n:Nat),K.lookup a=some o∧o.cls = .type "list" ∧ o.dict=none∧o.data = .seq its n∧its.size≤sizeLine∧Vals xs its.toList
def SqT(K:PySem.W.Frag)(H:Hp)(a:Addr)(xs:List V):Prop:=
 Rd H a (.tup xs)∨
  ∃ (o:Obj) (its:Array Value) (n:Nat),K.lookup a=some o∧o.cls = .type "tuple" ∧ o.data = .seq its n∧its.size≤sizeLine∧Vals xs its.toList
def DU:Value→Option V
 | .none=>some .non
 | .bool b=>some (.bl b)
 | .int i _=>some (.int i)
 | .str x _=>some (.str x)
 | .bytes b _=>some (.byt b)
 | .float b _=>some (.flt b)
 | .ref a=>some (.ref a)
 | .type n=>some (.ty n)
 | _=>none
theorem RelV.abs{x:V}{u:Value}(r:RelV x u):DU u=some x:=by
 cases x with
 | non=>cases r; rfl
 | bl _=>cases r; rfl
 | int _=>obtain⟨t,rfl⟩:=r; rfl
 | str _=>obtain⟨t,rfl⟩:=r; rfl
 | byt _=>obtain⟨t,rfl⟩:=r; rfl
 | flt _=>obtain⟨t,rfl⟩:=r; rfl
 | ref _=>cases r; rfl
 | ty _=>cases r; rfl
theorem RelV.inj{x y:V}{u:Value}(r:RelV x u)(q:RelV y u):x=y:=Option.some.inj (r.abs.symm.trans q.abs)
theorem Vals.inj:∀ {xs ys:List V} {us:List Value},Vals xs us→Vals ys us→xs=ys
 | _,_,_,.nil,.nil=>rfl
 | _,_,_,.cons r t,.cons r' t'=>by rw[r.inj r',Vals.inj t t']
section
variable{X:Cx}{pins:List (Addr × Obj)}{σ : St}{H:Hp}{s:Shared}{a:Addr}{xs ys:List V}
theorem SqL.of{K:PySem.W.Frag}(h:H a=some (.lst xs)):SqL K H a xs:=.inl (.inl h)
theorem SqT.of{K:PySem.W.Frag}(h:H a=some (.tup xs)):SqT K H a xs:=.inl (.inl h)
theorem Inv.list(I:Inv X pins σ H s)(h:SqL X.K H a xs):∃ its:List Value,Vals xs its∧PlainL s.heap a its.toArray∧xs.length≤sizeLine:=by
 rcases h with h | ⟨o,its,n,hk,hc,hd,hs,hz,r⟩
 ·obtain⟨z,its,n,r,e⟩:=h.ok I.hok
  exact⟨its,r,⟨_,n,e,rfl,rfl,rfl⟩,z⟩
 ·refine⟨its.toList,r,⟨o,n,I.kIn a o hk,hc,hd,by simpa using hs⟩,?_⟩
  have e:=r.length;simp only[Array.length_toList]at e
  omega
theorem Inv.tuple(I:Inv X pins σ H s)(h:SqT X.K H a xs):∃ its:List Value,Vals xs its∧IsTup s.heap a its.toArray∧xs.length≤sizeLine:=by
 rcases h with h | ⟨o,its,n,hk,hc,hs,hz,r⟩
 ·obtain⟨z,its,r,p⟩:=h.ok I.hok
  exact⟨its,r,p.tup,z⟩
 ·refine⟨its.toList,r,⟨o,I.kIn a o hk,hc,n,by simpa using hs⟩,?_⟩
  have e:=r.length;simp only[Array.length_toList]at e
  omega
theorem Inv.list_inj(I:Inv X pins σ H s)(h:SqL X.K H a xs)(h':SqL X.K H a ys):xs=ys:=by
 obtain⟨its,r,⟨o,n,e,_,_,d⟩,_⟩:=I.list h
 obtain⟨its',r',⟨o',n',e',_,_,d'⟩,_⟩:=I.list h'
 rw[e]at e'; cases e'
 rw[d]at d'
 injection d' with d1 _
 have:its=its':=by simpa using congrArg Array.toList d1
 subst this;exact r.inj r'
theorem Inv.tuple_inj(I:Inv X pins σ H s)(h:SqT X.K H a xs)(h':SqT X.K H a ys):xs=ys:=by
 obtain⟨its,r,⟨o,e,_,n,d⟩,_⟩:=I.tuple h
 obtain⟨its',r',⟨o',e',_,n',d'⟩,_⟩:=I.tuple h'
 rw[e]at e'; cases e'
 rw[d]at d'
 injection d' with d1 _
 have:its=its':=by simpa using congrArg Array.toList d1
 subst this;exact r.inj r'
end
abbrev Cx.wish (X:Cx) (E:Value→Shared→Prop):Cx:={ X with xe:=E }
abbrev Cx.nox (X:Cx):Cx:=X.wish fun _ _=>False
theorem Cx.Ok.wish{X:Cx}(ok:X.Ok)(E:Value→Shared→Prop):(X.wish E).Ok:=
 ⟨ok.mod,ok.kind,ok.glob,ok.blt,ok.above,ok.inj,ok.has,ok.cab,ok.hd,ok.frames,ok.stk,ok.exf,ok.bs,ok.bsz,ok.noex,ok.exfs,ok.funs,ok.frf⟩
theorem Cx.Ok.unwish{X:Cx}{E:Value→Shared→Prop}(ok:(X.wish E).Ok):X.Ok:=
 ⟨ok.mod,ok.kind,ok.glob,ok.blt,ok.above,ok.inj,ok.has,ok.cab,ok.hd,ok.frames,ok.stk,ok.exf,ok.bs,ok.bsz,ok.noex,ok.exfs,ok.funs,ok.frf⟩
section
variable{X:Cx}{pins:List (Addr × Obj)}{σ : St}{H:Hp}{s:Shared}{E:Value→Shared→Prop}
theorem Inv.wish(I:Inv X pins σ H s)(E:Value→Shared→Prop):Inv (X.wish E) pins σ H s:=⟨I.ok.wish E,I.os,I.bare,I.base,I.loc,I.cell,I.free,I.freeC,I.pin,I.hok,I.len⟩
theorem Inv.unwish(I:Inv (X.wish E) pins σ H s):Inv X pins σ H s:=⟨I.ok.unwish,I.os,I.bare,I.base,I.loc,I.cell,I.free,I.freeC,I.pin,I.hok,I.len⟩
theorem SP.unwish{D:dI}{f:Flow}{s':Shared}(h:SP (X.wish E) pins D f s'):SP X pins D f s':=by
 cases f with
 | next=>obtain⟨σ',H',I,q⟩:=h; exact⟨σ',H',I.unwish,q⟩
 | brk=>obtain⟨σ',H',I,q⟩:=h; exact⟨σ',H',I.unwish,q⟩
 | cont=>obtain⟨σ',H',I,q⟩:=h; exact⟨σ',H',I.unwish,q⟩
 | ret u=>obtain⟨v,σ',H',I,r,q⟩:=h; exact⟨v,σ',H',I.unwish,r,q⟩
theorem PSs.nox{st:List Stmt}{t:TS}(h:PSs X.nox st t):PSs X st t:=fun pins s σ H D I hw=>
 wpAny_mono (h pins s σ H D (I.wish _) hw) (fun _ _ q=>q.unwish) fun _ _ z=>False.elim z
end
section
variable{X:Cx}{st:Stmt}{rest:List Stmt}{t u:TS}{e:Expr}{te:TE}{pos:Pos}
def yb:TS:=fun D σ H=>D.nx σ H
def wJ(t u:TS):TS:=fun D σ H=>t { D with nx:=u D } σ H
theorem bw:PSs X [] yb:=fun _ _ σ H _ I h=>wpAny_execs_nil ⟨σ,H,I,h⟩
theorem ac(h1:PS X st t)(h2:PSs X rest u):PSs X (st::rest) (wJ t u):=by
 intro pins s σ H D I h
 refine wpAny_execs_cons (bc (h1 pins s σ H { D with nx:=u D } I h) fun f s1 q=>?_)
 cases f with
 | next=>
  obtain⟨σ',H',I',q⟩:=q
  exact h2 pins s1 σ' H' D I' q
 | ret v=>exact q
 | brk=>exact q
 | cont=>exact q
theorem am(h1:PS X st t):PSs X [st] t:=by
 intro pins s σ H D I h
 refine wpAny_execs_cons (bc (h1 pins s σ H D I h) fun f s1 q=>?_)
 cases f with
 | next=>exact wpAny_execs_nil q
 | ret v=>exact q
 | brk=>exact q
 | cont=>exact q
theorem Inv.quiet{pins:List (Addr × Obj)}{σ : St}{H:Hp}{s:Shared}(I:Inv X pins σ H s):interactive X.env=false:=by simp[interactive,I.ok.kind]
def sC(te:TE):TS:=fun D σ H=>te σ H fun _ H1=>D.nx σ H1
theorem cV(he:PE X e te)(hs:swapsWith e none pos.line X.env=pure false:=by rfl):PS X (.Expr e pos) (sC te):=by
 intro pins s σ H D I h
 exact wpAny_Expr_any (bc (he pins s σ H _ I h) fun v s1 ⟨x,H1,I1,r1,q1⟩=>⟨σ,H1,I1,q1⟩) I.quiet hs
def Bs(te:TE):TS:=fun D σ H=>te σ H D.rt
theorem aW(he:PE X e te):PS X (.Return (some e) pos) (Bs te):=by
 intro pins s σ H D I h
 exact wpAny_Return_some (bc (he pins s σ H _ I h) fun v s1 ⟨x,H1,I1,r1,q1⟩=>⟨x,σ,H1,I1,r1,q1⟩)
def A7(c:TT)(t u:TS):TS:=fun D σ H=>c σ H fun b H1=>if b=true then t D σ H1 else u D σ H1
theorem bY{c:Expr}{a b:List Stmt}{tc:TT}(hc:PT X c tc)(ha:PSs X a t)(hb:PSs X b u):PS X (.If c a b pos) (A7 tc t u):=by
 intro pins s σ H D I h
 refine wpAny_If (bc (hc pins s σ H _ I h) fun d s1 ⟨H1,I1,q1⟩=>?_)
 cases d with
 | true=>exact ha pins s1 σ H1 D I1 q1
 | false=>exact hb pins s1 σ H1 D I1 q1
def Ak:TS:=fun _ _ _=>False
theorem pM:PS X st Ak:=fun _ _ _ _ _ _ h=>h.elim
end
abbrev TG:=V→St→Hp→(St→Hp→Prop)→Prop
abbrev iW:=List V→St→Hp→(St→Hp→Prop)→Prop
def PG(X:Cx)(target:Expr)(t:TG):Prop:=
 ∀ (pins:List (Addr × Obj)) (s:Shared) (σ : St) (H:Hp) (v:V) (u:Value) (Q:St→Hp→Prop),Inv X pins σ H s→RelV v u→t v σ H Q→
  wpAny (model X.prog X.w) X.A (assign target X.env u) (fun _ s'=>∃ σ' H',Inv X pins σ' H' s'∧Q σ' H') X.xe s
def PGs(X:Cx)(ts:List Expr)(t:iW):Prop:=
 ∀ (pins:List (Addr × Obj)) (s:Shared) (σ : St) (H:Hp) (vs:List V) (us:List Value) (Q:St→Hp→Prop),Inv X pins σ H s→Vals vs us→t vs σ H Q→
  wpAny (model X.prog X.w) X.A (assignInOrder ((assignEach ts X.env).map (·.2)) us) (fun _ s'=>∃ σ' H',Inv X pins σ' H' s'∧Q σ' H') X.xe s
abbrev kj:=V→V→V→Hp→(Hp→Prop)→Prop
def PSet(X:Cx)(t:kj):Prop:=
 ∀ (pins:List (Addr × Obj)) (s:Shared) (σ : St) (H:Hp) (o i v:V) (ov iv u:Value) (Q:Hp→Prop),Inv X pins σ H s→RelV o ov→RelV i iv→RelV v u→t o i v H Q→
  wpAny (model X.prog X.w) X.A (setItem ov iv u) (fun _ s'=>∃ H',Inv X pins σ H' s'∧Q H') X.xe s
section
variable{X:Cx}{pos:Pos}
def i7(i:Nat):TG:=fun v σ H Q=>Q (σ.set i (some v)) H
theorem y0{i:Nat}{x:Str}(hN:X.N.Nodup)(hi:X.N[i]? = some x)(hx:aY X.env.scope x)(hf:X.fn x=true∨X.env.scope.names.lookup x=some .local:=by first | exact .inl rfl | exact .inr rfl | assumption):PG X (.Name x pos) (i7 i):=by
 intro pins s σ H v u Q I r h
 exact wpAny_assign_Name (pF I hN hi hx r (fun s' I'=>⟨_,H,I',h⟩) hf)
def sX:iW:=fun vs σ H Q=>vs=[]∧Q σ H
def oH(t:TG)(u:iW):iW:=fun vs σ H Q=>∃ v r,vs=v::r∧t v σ H fun σ' H'=>u r σ' H' Q
theorem fX:PGs X [] sX:=by
 intro pins s σ H vs us Q I r h
 obtain⟨e,h⟩:=h
 subst e
 cases r;exact assignInOrder_nil ⟨σ,H,I,h⟩
theorem cw{e:Expr}{es:List Expr}{t:TG}{u:iW}(h1:PG X e t)(h2:PGs X es u)
  (hs:(assignEach (e::es) X.env).map (·.2)=assign e X.env::(assignEach es X.env).map (·.2):=by rfl):PGs X (e::es) (oH t u):=by
 intro pins s σ H vs us Q I r h
 obtain⟨v,vr,e1,h⟩:=h
 subst e1
 cases r with
 | cons r rr=>
  rw[hs];refine assignInOrder_cons (bc (h1 pins s σ H _ _ _ I r h) fun _ s1 ⟨σ1,H1,I1,q1⟩=>?_)
  exact h2 pins s1 σ1 H1 _ _ Q I1 rr q1
def ub(K:PySem.W.Frag)(n:Nat)(t:iW):TG:=fun v σ H Q=>∃ a xs,v = .ref a∧SqT K H a xs∧xs.length=n∧t xs σ H Q
theorem AY{es:List Expr}{k:Nat}{t:iW}{n:Nat}(hc:X.calm=true)(h:PGs X es t)
  (hn:(assignEach es X.env).length=n:=by rfl) (hst:(assignEach es X.env).findIdx? (·.1)=none:=by rfl):PG X (.Tuple es k pos) (ub X.K n t):=by
 intro pins s σ H v u Q I r hw
 obtain⟨a,xs,e1,hq,hl,hw⟩:=hw
 subst e1
 cases r;obtain⟨its,rv,ht,hz⟩:=I.tuple hq
 refine assign_Tuple_tuple (I.ok.hd hc) ht (by simp[hn,← hl,rv.length]) hst fun h' hx=>?_
 have I1:Inv X pins σ H { s with heap:=h' }:=I.kept (t':=s.toks) fun b o e=>hx b o (Nat.ne_of_lt (Heap.lt_size e)) e
 exact h pins _ σ H xs _ Q I1 (by simpa using rv) hw
def Bp(to ti:TE)(t:kj):TG:=fun v σ H Q=>to σ H fun o H1=>ti σ H1 fun i H2=>t o i v H2 fun H3=>Q σ H3
theorem dH{o i:Expr}{to ti:TE}{t:kj}(ho:PE X o to)(hi:PE X i ti)(hs:PSet X t)
  (ha:∀ v,assign (.Subscript o i pos) X.env v=(do
   let ov ← holding [v] (eval o X.env)
   let iv ← holding [v,ov] (eval i X.env)
   standAt pos
   holding [v,ov,iv] (setItem ov iv v)
   release [v,ov,iv] []):=by intro _; rfl):PG X (.Subscript o i pos) (Bp to ti t):=by
 intro pins s σ H v u Q I r h
 rw[ha];refine wpAny_bind (wpAny_holding (bc (ho pins s σ H _ I h) fun ov s1 ⟨x,H1,I1,r1,q1⟩=>?_))
 refine wpAny_bind (wpAny_holding (bc (hi pins s1 σ H1 _ I1 q1) fun iv s2 ⟨y,H2,I2,r2,q2⟩=>?_))
 refine wpAny_bind (wpAny_standAt (wpAny_bind (wpAny_holding (bc (hs pins s2 σ H2 x y v ov iv u _ I2 r1 r2 r q2) fun _ s3 ⟨H3,I3,q3⟩=>?_))))
 exact wpAny_release ⟨σ,H3,I3,q3⟩
def qg(te:TE)(g:TG):TS:=fun D σ H=>te σ H fun x H1=>g x σ H1 D.nx
theorem dz{tg e:Expr}{te:TE}{g:TG}(he:PE X e te)(hg:PG X tg g)(hs:swapsWithSole [tg] e pos.line X.env=pure false:=by rfl)(hw:swappedStores [tg] e X.env=pure none:=by rfl)
  (h1:(assignEach [tg] X.env).map (·.2)=[assign tg X.env]:=by rfl):PS X (.Assign [tg] e pos) (qg te g):=by
 intro pins s σ H D I h
 refine wpAny_Assign_stores (bc (he pins s σ H _ I h) fun v s1 ⟨x,H1,I1,r1,q1⟩=>?_) hs hw
 rw[h1];exact bc (hg pins s1 σ H1 x v _ I1 r1 q1) fun _ s2 q=>q
theorem Az{i:Nat}{x:Str}{e:Expr}{te:TE}{pos':Pos}(hN:X.N.Nodup)(hi:X.N[i]? = some x)(hx:aY X.env.scope x)(he:PE X e te)(hs:swapsWith e (some (.Name x pos')) pos.line X.env=pure false:=by rfl)(hf:X.fn x=true∨X.env.scope.names.lookup x=some .local:=by first | exact .inl rfl | exact .inr rfl | assumption) :
  PS X (.Assign [.Name x pos'] e pos) (qg te (i7 i)):=by
 intro pins s σ H D I h
 refine wpAny_Assign_Name (bc (he pins s σ H _ I h) fun v s1 ⟨y,H1,I1,r1,q1⟩=>?_) hs
 exact pF I1 hN hi hx r1 (fun s2 I2=>⟨_,H1,I2,q1⟩) hf
end
section
variable{X:Cx}{pos:Pos}
def Au(c:TT)(tb:TS):TS:=fun D σ H=>∃ W:Nat→St→Hp→Prop,(∃ m,W m σ H)∧∀ m σ H,W m σ H→
 c σ H fun b H1=>if b=true then ∃ N:St→Hp→Prop,(∀ σ' H',N σ' H'→∃ m',m'<m∧W m' σ' H')∧tb { D with nx:=N,ct:=N,bk:=D.nx } σ H1 else D.nx σ H1
theorem iM{c:Expr}{body:List Stmt}{tc:TT}{tb:TS}(hp:PassesOwn (model X.prog X.w) X.A X.env X.xe)(hc:PT X c tc)(hb:PSs X body tb):PS X (.While c body [] pos) (Au tc tb):=by
 intro pins s σ H D I h
 obtain⟨W,⟨m0,w0⟩,turn⟩:=h
 refine wpAny_While (codeAny_whileLoop (fun n s'=>∃ σ' H',Inv X pins σ' H' s'∧W n σ' H') ?_ m0 ⟨σ,H,I,w0⟩)
 rintro n s1 ⟨σ1,H1,I1,w1⟩
 refine wpAny_passesOwn hp (bc (hc pins s1 σ1 H1 _ I1 (turn n σ1 H1 w1)) fun b s2 ⟨H2,I2,q2⟩=>?_)
 cases b with
 | true=>
  obtain⟨N,hN,q2⟩:=q2
  rw[if_pos rfl];refine wpAny_passesOwn hp (bc (hb pins s2 σ1 H2 _ I2 q2) fun f s3 q3=>?_)
  cases f with
  | next=>
   obtain⟨σ3,H3,I3,n3⟩:=q3
   obtain⟨m',hm,w3⟩:=hN σ3 H3 n3
   exact⟨m',hm,σ3,H3,I3,w3⟩
  | cont=>
   obtain⟨σ3,H3,I3,n3⟩:=q3
   obtain⟨m',hm,w3⟩:=hN σ3 H3 n3
   exact⟨m',hm,σ3,H3,I3,w3⟩
  | brk=>exact q3
  | ret v=>exact q3
 | false=>
  rw[if_neg Bool.false_ne_true];exact wpAny_execs_nil ⟨σ1,H2,I2,q2⟩
end
set_option genInjectivity false in
set_option genSizeOf false in
structure It where
 go:Nat→Hp→Prop
 yld:Nat→Hp→V→Hp→Prop
 stop:Nat→Hp→Prop
def gK(X:Cx)(pins:List (Addr × Obj))(H:Hp)(b:Addr):Prop:=
 H b=none∧b≠X.env.locals∧b∉X.fs∧(b∈X.ex∨X.s₀.heap.objs.size≤b)∧(∀ x c,X.env.cells.lookup x=some c→c≠b)∧∀ p∈X.pn++pins,p.1≠b
theorem Inv.fpOk{X:Cx}{pins:List (Addr × Obj)}{σ : St}{H H':Hp}{s:Shared}{b:Addr}(I:Inv X pins σ H s)(hb:s.heap.objs.size≤b)(hn:H' b=none):gK X pins H' b:=by
 refine⟨hn,Nat.ne_of_gt (Nat.lt_of_lt_of_le I.lt hb),I.nofs hb,.inr (Nat.le_trans I.sz hb),fun x c e z=>?_,fun p hp z=>?_⟩
 ·obtain⟨v,q⟩:=I.cell x c e
  exact absurd (Nat.lt_of_lt_of_le q.lt (by rw[z]; exact hb)) (Nat.lt_irrefl _)
 ·exact absurd (Nat.lt_of_lt_of_le (Heap.lt_size (I.pin p hp).1) (by rw[z]; exact hb)) (Nat.lt_irrefl _)
structure mY (P:Program) (w:World) (K:PySem.W.Frag) (tg:Expr) (J:It) (fp:List Addr) (it:Addr) (tn:Nat→Heap→Prop):Prop where
 mem:it∈fp
 obj:∀ i h,tn i h→∀ b∈fp,∃ o,h.get? b=some o∧∀ v,o.data ≠ .cell v
 keep:∀ i h h',tn i h→(∀ b∈fp,∀ o,h.get? b=some o→h'.get? b=some o)→tn i h'
 item:∀ (X:Cx),X.prog=P→X.w=w→X.K=K→X.calm=true→∀ (i:Nat) (pins:List (Addr × Obj)) (s:Shared) (σ : St) (H:Hp) (E:Value→Shared→Prop),Inv X pins σ H s→(∀ b∈fp,gK X pins H b)→tn i s.heap→J.go i H→
  wpAny (model P w) X.A (pyNext (.ref it)) (fun r s1=>∃ u,r=some u∧
   wpAny (model P w) X.A (letOwnedTupleGo tg (.ref it) u) (fun _ s2=>∃ x H',Inv X pins σ H' s2∧RelV x u∧J.yld i H x H'∧tn (i+1) s2.heap∧∀ b∈fp,H' b=none) E s1) E s
 done:∀ (X:Cx),X.prog=P→X.w=w→X.K=K→X.calm=true→∀ (i:Nat) (pins:List (Addr × Obj)) (s:Shared) (σ : St) (H:Hp) (E:Value→Shared→Prop),Inv X pins σ H s→(∀ b∈fp,gK X pins H b)→tn i s.heap→J.stop i H→
  wpAny (model P w) X.A (pyNext (.ref it)) (fun r s1=>r=none∧Inv X pins σ H s1) E s
 self:∀ (A:Around) (i:Nat) (s:Shared) (Q:Value→Shared→Prop) (E:Value→Shared→Prop),tn i s.heap→Q (.ref it) s→wpAny (model P w) A (pyIter (.ref it)) Q E s
abbrev TI:=St→Hp→(It→Hp→Prop)→Prop
def Cv(X:Cx)(pins:List (Addr × Obj))(σ : St)(tg:Expr)(R:It→Hp→Prop)(itv:Value)(s2:Shared):Prop:=
 ∃ (it:Addr) (fp:List Addr) (tn:Nat→Heap→Prop) (J:It) (H':Hp),itv = .ref it∧Inv X pins σ H' s2∧mY X.prog X.w X.K tg J fp it tn∧tn 0 s2.heap∧(∀ b∈fp,gK X pins H' b)∧R J H'
def PI(X:Cx)(tg iter:Expr)(wi:TI):Prop:=
 ∀ (pins:List (Addr × Obj)) (s:Shared) (σ : St) (H:Hp) (R:It→Hp→Prop),Inv X pins σ H s→wi σ H R→
  wpAny (model X.prog X.w) X.A (eval iter X.env) (fun v s1=>wpAny (model X.prog X.w) X.A (pyIter v) (Cv X pins σ tg R) X.xe s1) X.xe s
theorem yD{M:Model}{A:Around}{E:Value→Shared→Prop}{s:Shared}{tg:Expr}{it:Addr}{u:Value}{o:Obj}{n:String}{vs:Array Value}{Q:Unit→Shared→Prop}(ho:s.heap.get? it=some o)(hc:o.cls = .type n)(hd:o.data = .fields vs)
    (hn:["enumerate", "zip", "dict_itemiterator", "dict_reverseitemiterator", "odict_iterator", "itertools.zip_longest", "itertools.pairwise"].contains n=false) (hQ:Q () s):wpAny M A (letOwnedTupleGo tg (.ref it) u) Q E s:=by
  unfold letOwnedTupleGo
  cases tg <;> first
    | exact wpAny_pure hQ
    | (cases u <;> first
        | exact wpAny_pure hQ
        | (refine wpAny_bind (wpAny_load ho ?_)
           rw[hc,hd];show wpAny M A (if (["enumerate", "zip", "dict_itemiterator", "dict_reverseitemiterator", "odict_iterator", "itertools.zip_longest", "itertools.pairwise"].contains n&&vs[0]? == some (rawInt _))=true then _ else _) Q E s
           rw[if_neg (by intro h; rw[hn,Bool.false_and]at h; cases h)]
           exact wpAny_pure hQ))
def lp(K:PySem.W.Frag)(a:Addr):It:=
 ⟨fun i H=>∃ xs x,SqL K H a xs∧xs[i]? = some x,fun i H x H'=>H'=H∧∀ xs,SqL K H a xs→xs[i]? = some x,fun i H=>∃ xs,SqL K H a xs∧xs.length≤i⟩
def lm(lo:Int)(n:Nat):It:=⟨fun i _=>i<n,fun i H x H'=>H'=H∧x = .int (lo+i),fun i _=>n≤i⟩
theorem uN{P:Program}{w:World}{K:PySem.W.Frag}{tg:Expr}(a it:Addr):mY P w K tg (lp K a) [it] it (fun i h=>h.IsListIter it a i) where
 mem:=by simp
 obj:=fun i h st b hb=>by
  have e:b=it:=by simpa using hb
  subst e;obtain⟨o,e,c,d⟩:=st
  exact⟨o,e,fun v z=>by rw[d]at z; cases z⟩
 keep:=fun i h h' st k=>st.at fun o e=>k it (by simp) o e
 item:=by
  intro X hP hw hK hc i pins s σ H E I hf st hg
  subst hP hw hK;obtain⟨xs,x,hq,hx⟩:=hg
  obtain⟨its,rv,p,hz⟩:=I.list hq
  obtain⟨u,hu,ru⟩:=rv.get hx
  obtain⟨f0,f1,f2,f3,f4,f5⟩:=hf it (by simp)
  refine wpAny_pyNext_list_item st p.isList (x:=u) (by simpa using hu) fun h' st' sb=>?_
  have I1:Inv X pins σ H { s with heap:=h' }:=I.turned (t':=s.toks) (fun b o hb e=>(sb.2 b hb).trans e) f0 f1 f3 f4 f5
  obtain⟨o,e,c,d⟩:=id st'
  exact⟨u,rfl,yD (s:={ s with heap:=h' }) e c d (by decide) ⟨x,H,I1,ru,⟨rfl,fun ys hy=>by rw[I.list_inj hy hq]; exact hx⟩,st',fun b hb=>(hf b hb).1⟩⟩
 done:=by
  intro X hP hw hK hc i pins s σ H E I hf st hg
  subst hP hw hK;obtain⟨xs,hq,hx⟩:=hg
  obtain⟨its,rv,p,hz⟩:=I.list hq
  obtain⟨f0,f1,f2,f3,f4,f5⟩:=hf it (by simp)
  have hl:=rv.length;exact wpAny_pyNext_list_end (I.ok.hd hc) st p.isList (by simp; omega) fun h' eb=>⟨rfl,I.turned (t':=s.toks) (fun b o hb e=>eb b o hb e) f0 f1 f3 f4 f5⟩
 self:=fun _ _ _ _ _ st h=>wpAny_pyIter_listiter st h
theorem tL{P:Program}{w:World}{K:PySem.W.Frag}{tg:Expr}(it:Addr)(lo:Int)(n:Nat):mY P w K tg (lm lo n) [it] it (fun i h=>IsRangeIter h it (lo+(i:Nat) * 1) ((n:Int) - (i:Nat)) 1) where
 mem:=by simp
 obj:=fun i h st b hb=>by
  have e:b=it:=by simpa using hb
  subst e
  exact⟨_,st,fun v z=>by
   have z':Data.fields _=Data.cell v:=z
   cases z'⟩
 keep:=fun i h h' st k=>k it (by simp) _ st
 item:=by
  intro X hP hw hK hc i pins s σ H E I hf st hg
  subst hP hw hK;obtain⟨f0,f1,f2,f3,f4,f5⟩:=hf it (by simp)
  have W:=Walks.range (prog:=X.prog) (w:=X.w) (I.ok.hd hc) it lo 1 n;refine W.item i s _ _ hg st fun v h' tk hv st' kk=>?_
  obtain⟨t,rfl⟩:=hv
  have I1:Inv X pins σ H { s with heap:=h',toks:=tk }:=I.turned (fun b o hb e=>kk b o (by simpa using hb) e) f0 f1 f3 f4 f5
  refine⟨_,rfl,yD (s:={ s with heap:=h',toks:=tk }) (n := "range_iterator") st' rfl rfl (by decide) ⟨.int (lo+i),H,I1,⟨t,?_⟩,⟨rfl,rfl⟩,st',fun b hb=>(hf b hb).1⟩⟩
  rw[Int.mul_one]
 done:=by
  intro X hP hw hK hc i pins s σ H E I hf st hg
  subst hP hw hK;obtain⟨f0,f1,f2,f3,f4,f5⟩:=hf it (by simp)
  exact wpAny_pyNext_range_end (I.ok.hd hc) st (by have:n≤i:=hg; omega) fun h' eb=>⟨rfl,I.turned (t':=s.toks) (fun b o hb e=>eb b o hb e) f0 f1 f3 f4 f5⟩
 self:=fun _ _ _ _ _ st h=>wpAny_pyIter_rangeiter st h
end L2
namespace L2
open PySem PySem.Spec PyProof.Rows
section
variable{X:Cx}{tg:Expr}
def sA(K:PySem.W.Frag)(tl:TE):TI:=fun σ H R=>tl σ H fun x H1=>∃ a,x = .ref a∧(∃ xs,SqL K H1 a xs)∧R (lp K a) H1
theorem zm{l:Expr}{tl:TE}(hl:PE X l tl):PI X tg l (sA X.K tl):=by
 intro pins s σ H R I h
 refine bc (hl pins s σ H _ I h) fun v s1 ⟨x,H1,I1,r1,q1⟩=>?_
 obtain⟨a,e,⟨xs,hq⟩,q⟩:=q1
 subst e
 cases r1;obtain⟨its,rv,p,hz⟩:=I1.list hq
 refine wpAny_pyIter_list p.isList ?_
 refine⟨s1.heap.objs.size,[s1.heap.objs.size],_,_,H1,rfl,I1.kept (t':=s1.toks) fun b o e=>Heap.get?_push_of_some _ e,uN a _,⟨_,Heap.get?_push_size _ rfl,rfl,rfl⟩,fun b hb=>?_,q⟩
 have e:b=s1.heap.objs.size:=by simpa using hb
 subst e;exact I1.fpOk (Nat.le_refl _) (I1.hok.fresh (Nat.le_refl _))
theorem ww{pins:List (Addr × Obj)}{σ : St}{H:Hp}{s:Shared}{R:It→Hp→Prop}{E:Value→Shared→Prop}{lo hi:Int}{t u v:Tok}{tk:Nat}(I:Inv X pins σ H s)(h1:-(2 ^ 62)≤lo)(h2:lo<2 ^ 62)(h3:-(2 ^ 62)≤hi)(h4:hi<2 ^ 62)
  (q:R (lm lo (hi - lo).toNat) H):wpAny (model X.prog X.w) X.A (pyIter (.ref s.heap.objs.size)) (Cv X pins σ tg R) E { s with heap:=s.heap.push { cls:=.type "range", data:=.fields #[.int lo t,.int hi u,.int 1 v] },toks:=tk }:=by
 refine wpAny_pyIter_range (IsRange.new ..) (small_one h1 h2 h3 h4) ?_
 have I1:Inv X pins σ H { s with heap:=s.heap.push { cls:=.type "range", data:=.fields #[.int lo t,.int hi u,.int 1 v] },toks:=tk }:=I.kept fun b o e=>Heap.get?_push_of_some _ e
 refine⟨(s.heap.push { cls:=.type "range", data:=.fields #[.int lo t,.int hi u,.int 1 v] }).objs.size,[(s.heap.push { cls:=.type "range", data:=.fields #[.int lo t,.int hi u,.int 1 v] }).objs.size],_,_,H,rfl,
  I1.kept (t':=tk) fun b o e=>Heap.get?_push_of_some _ e,tL _ lo (hi - lo).toNat,?_,fun b hb=>?_,q⟩
 ·have e1:lo+((0:Nat):Int) * 1=lo:=by simp
  have e2:(((hi - lo).toNat:Nat):Int) - ((0:Nat):Int)=Builtin.Range.rangeSize lo hi 1:=by rw[rangeSize_one]; split <;> omega
  show IsRangeIter _ _ (lo+((0:Nat):Int) * 1) ((((hi - lo).toNat:Nat):Int) - ((0:Nat):Int)) 1
  rw[e1,e2];exact Heap.get?_push_size _ rfl
 ·have e:b=(s.heap.push { cls:=.type "range", data:=.fields #[.int lo t,.int hi u,.int 1 v] }).objs.size:=by simpa using hb
  subst e;exact I1.fpOk (Nat.le_refl _) (I1.hok.fresh (Nat.le_refl _))
def yG(ta:TA):TI:=fun σ H R=>ta σ H fun vs H1=>∃ j:Int,vs=[.int j]∧-(2 ^ 62)≤j∧j<2 ^ 62∧R (lm 0 j.toNat) H1
theorem dc{a:Expr}{ta:TA}{p pos:Pos}(hg:Gl X "range") (hm:X.mg "range" = none) (ha:PA X [a] ta) (hs:starEach [a] X.env=[(false,eval a X.env)]:=by rfl):PI X tg (.Call (.Name "range" p) [a] [] pos) (yG ta):=by
 intro pins s σ H R I h
 refine Call_ (iS I hg hm boot_range (PyProof.Rows.callWith_type1 (bc (ha pos pins s σ H _ I h) fun us s1 ⟨vs,H1,I1,r1,q1⟩=>?_) hs rfl))
 obtain⟨j,e,q1,q2,q⟩:=q1
 subst e
 cases r1 with
 | cons r rr=>
  cases rr;obtain⟨t,rfl⟩:=r
  exact call_range_1 (ww I1 (by omega) (by omega) q1 q2 (by simpa using q))
def Bd(wi:TI)(g:TG)(tb:TS):TS:=fun D σ H=>wi σ H fun J H1=>∃ W:Nat→Nat→St→Hp→Prop,(∃ m,W 0 m σ H1)∧∀ i m σ H,W i m σ H→
 (J.stop i H∧D.nx σ H)∨(J.go i H∧∃ N:St→Hp→Prop,(∀ σ' H',N σ' H'→∃ m',m'<m∧W (i+1) m' σ' H')∧∀ x H',J.yld i H x H'→g x σ H' fun σ2 H2=>tb { D with nx:=N,ct:=N,bk:=D.nx } σ2 H2)
def jp(fp:List Addr)(h:Heap):List (Addr × Obj):=fp.filterMap fun b=>(h.get? b).map fun o=>(b,o)
theorem ef{fp:List Addr}{h:Heap}{b:Addr}{o:Obj}(hb:b∈fp)(e:h.get? b=some o):(b,o)∈jp fp h:=List.mem_filterMap.mpr ⟨b,hb,by rw[e]; rfl⟩
theorem vI{fp:List Addr}{h:Heap}{p:Addr × Obj}(hp:p∈jp fp h):p.1∈fp∧h.get? p.1=some p.2:=by
 obtain⟨b,hb,e⟩:=List.mem_filterMap.mp hp
 cases q:h.get? b with
 | none=>rw[q]at e; cases e
 | some o=>
  rw[q]at e
  have e':(b,o)=p:=Option.some.inj e
  subst e';exact⟨hb,q⟩
theorem Inv.pinned{pins:List (Addr × Obj)}{σ : St}{H:Hp}{s:Shared}{fp:List Addr}(I:Inv X pins σ H s)(hf:∀ b∈fp,gK X pins H b)(ho:∀ b∈fp,∃ o,s.heap.get? b=some o∧∀ v,o.data ≠ .cell v):Inv X (pins++jp fp s.heap) σ H s:=
 I.pins_of fun p hp=>(List.mem_append.mp hp).elim (fun z=>I.pin p (List.mem_append_right _ z)) fun z=>by
  obtain⟨hb,e⟩:=vI z
  obtain⟨f0,f1,f2,_⟩:=hf p.1 hb
  obtain⟨o,e',d⟩:=ho p.1 hb
  rw[e]at e'; cases e'
  exact⟨e,f0,f1,f2,d⟩
theorem Inv.unpinned{pins pl:List (Addr × Obj)}{σ : St}{H:Hp}{s:Shared}(I:Inv X (pins++pl) σ H s):Inv X pins σ H s:=I.pins_of fun p hp=>I.pin p (List.mem_append_right _ (List.mem_append_left _ hp))
theorem cN{iter:Expr}{body:List Stmt}{wi:TI}{g:TG}{tb:TS}{pos:Pos}(hp:PassesOwn (model X.prog X.w) X.A X.env X.xe)(hc:X.calm=true)(hi:PI X tg iter wi)(hg:PG X tg g)(hb:PSs X body tb)
  (hs:∀ x,foldedSetIterable iter X.env x=pure x:=by intro _; rfl):PS X (.For tg iter body [] pos) (Bd wi g tb):=by
 intro pins s σ H D I h
 refine wpAny_For (bc (hi pins s σ H _ I h) fun v s1 h1=>bc h1 fun itv s2 h2=>?_) hs
 obtain⟨it,fp,tn,J,H2,e,I2,T,st2,f2,W,⟨m0,w0⟩,turn⟩:=h2
 subst e
 -- what stays true of the iterator's objects through the loop
 have stat:∀ {H':Hp},(∀ b∈fp,H' b=none)→∀ b∈fp,gK X pins H' b:=fun hn b hb=>⟨hn b hb,(f2 b hb).2⟩
 refine codeAny_forLoop_any (fun n s'=>∃ i σ' H',Inv X pins σ' H' s'∧tn i s'.heap∧(∀ b∈fp,H' b=none)∧W i n σ' H') ?_ m0 ⟨0,σ,H2,I2,st2,fun b hb=>(f2 b hb).1,w0⟩
 rintro n s3 ⟨i,σ3,H3,I3,st3,fr3,w3⟩
 rcases turn i n σ3 H3 w3 with ⟨stop,qn⟩ | ⟨go,N,hN,step⟩
 ·refine wpAny_passesOwn hp (bc (T.done X rfl rfl rfl hc i pins s3 σ3 H3 X.xe I3 (stat fr3) st3 stop) fun r s4 ⟨hr,I4⟩=>?_)
  subst hr;exact wpAny_execs_nil ⟨σ3,H3,I4,qn⟩
 ·refine wpAny_passesOwn hp (bc (T.item X rfl rfl rfl hc i pins s3 σ3 H3 X.xe I3 (stat fr3) st3 go) fun r s4 ⟨u,hr,h4⟩=>?_)
  subst hr;refine wpAny_passesOwn hp (bc h4 fun _ s5 ⟨x,H5,I5,r5,y5,st5,fr5⟩=>?_)
  have I5':=I5.pinned (stat fr5) (T.obj _ _ st5);refine wpAny_passesOwn hp (bc (hg _ s5 σ3 H5 x u _ I5' r5 (step x H5 y5)) fun _ s6 ⟨σ6,H6,I6,q6⟩=>?_)
  refine wpAny_passesOwn hp (bc (hb _ s6 σ6 H6 _ I6 q6) fun f s7 q7=>?_)
  have again:∀ {σ7:St} {H7:Hp},Inv X (pins++jp fp s5.heap) σ7 H7 s7→N σ7 H7→∃ m,m<n∧∃ i σ' H',Inv X pins σ' H' s7∧tn i s7.heap∧(∀ b∈fp,H' b=none)∧W i m σ' H':=fun {σ7 H7} I7 n7=>by
   obtain⟨m',hm,w7⟩:=hN σ7 H7 n7
   refine⟨m',hm,i+1,σ7,H7,I7.unpinned,T.keep _ _ _ st5 fun b hb o e=>(I7.pin (b,o) (List.mem_append_right _ (List.mem_append_right _ (ef hb e)))).1,fun b hb=>?_,w7⟩
   obtain⟨o,e,d⟩:=T.obj _ _ st5 b hb
   exact(I7.pin (b,o) (List.mem_append_right _ (List.mem_append_right _ (ef hb e)))).2.1
  cases f with
  | next=>obtain⟨σ7,H7,I7,n7⟩:=q7; exact again I7 n7
  | cont=>obtain⟨σ7,H7,I7,n7⟩:=q7; exact again I7 n7
  | brk=>obtain⟨σ7,H7,I7,q7⟩:=q7; exact⟨σ7,H7,I7.unpinned,q7⟩
  | ret v=>obtain⟨x7,σ7,H7,I7,r7,q7⟩:=q7; exact⟨x7,σ7,H7,I7.unpinned,r7,q7⟩
end
theorem xl{K:PySem.W.Frag}{a:Addr}{xs:List V}{g:TG}{tb:TS}{D:dI}{σ : St}{H:Hp}(Pv:Nat→St→Hp→Prop)(h0:Pv 0 σ H)(hl:∀ i σ H,i≤xs.length→Pv i σ H→SqL K H a xs)
  (hs:∀ i x σ H,xs[i]? = some x→Pv i σ H→g x σ H fun σ2 H2=>tb { D with nx:=Pv (i+1),ct:=Pv (i+1),bk:=D.nx } σ2 H2) (hd:∀ σ H,Pv xs.length σ H→D.nx σ H) :
  ∃ W:Nat→Nat→St→Hp→Prop,(∃ m,W 0 m σ H)∧∀ i m σ H,W i m σ H→
   ((lp K a).stop i H∧D.nx σ H)∨((lp K a).go i H∧∃ N:St→Hp→Prop,(∀ σ' H',N σ' H'→∃ m',m'<m∧W (i+1) m' σ' H')∧∀ x H',(lp K a).yld i H x H'→g x σ H' fun σ2 H2=>tb { D with nx:=N,ct:=N,bk:=D.nx } σ2 H2):=by
 refine⟨fun i m σ H=>m=xs.length - i∧i≤xs.length∧Pv i σ H,⟨xs.length,by simp,Nat.zero_le _,h0⟩,?_⟩
 rintro i m σ H ⟨rfl,hi,p⟩
 have q:=hl i σ H hi p
 by_cases hlt:i<xs.length
 ·refine .inr ⟨⟨xs,xs[i],q,by simp[hlt]⟩,Pv (i+1),fun σ' H' p'=>⟨xs.length - (i+1),by omega,rfl,hlt,p'⟩,fun x H' y=>?_⟩
  obtain⟨e,y⟩:=y
  subst e;exact hs i x σ _ (y xs q) p
 ·have e:i=xs.length:=by omega
  subst e;exact .inl ⟨⟨xs,q,Nat.le_refl _⟩,hd σ H p⟩
theorem vE{lo:Int}{n:Nat}{g:TG}{tb:TS}{D:dI}{σ : St}{H:Hp}(Pv:Nat→St→Hp→Prop)(h0:Pv 0 σ H)
  (hs:∀ i σ H,i<n→Pv i σ H→g (.int (lo+i)) σ H fun σ2 H2=>tb { D with nx:=Pv (i+1),ct:=Pv (i+1),bk:=D.nx } σ2 H2) (hd:∀ σ H,Pv n σ H→D.nx σ H) :
  ∃ W:Nat→Nat→St→Hp→Prop,(∃ m,W 0 m σ H)∧∀ i m σ H,W i m σ H→
   ((lm lo n).stop i H∧D.nx σ H)∨((lm lo n).go i H∧∃ N:St→Hp→Prop,(∀ σ' H',N σ' H'→∃ m',m'<m∧W (i+1) m' σ' H')∧∀ x H',(lm lo n).yld i H x H'→g x σ H' fun σ2 H2=>tb { D with nx:=N,ct:=N,bk:=D.nx } σ2 H2):=by
 refine⟨fun i m σ H=>m=n - i∧i≤n∧Pv i σ H,⟨n,by simp,Nat.zero_le _,h0⟩,?_⟩
 rintro i m σ H ⟨rfl,hi,p⟩
 by_cases hlt:i<n
 ·refine .inr ⟨hlt,Pv (i+1),fun σ' H' p'=>⟨n - (i+1),by omega,rfl,hlt,p'⟩,fun x H' y=>?_⟩
  obtain⟨e,y⟩:=y
  subst e y;exact hs i σ _ hlt p
 ·have e:i=n:=by omega
  subst e;exact .inl ⟨Nat.le_refl _,hd σ H p⟩
end L2
namespace L2
open PySem PySem.Spec PyProof.Rows
abbrev R2:=V→V→Hp→VK→Prop
def OpR(X:Cx)(f:Value→Value→Sem Value)(r:R2):Prop:=
 ∀ (pins:List (Addr × Obj)) (s:Shared) (σ : St) (H:Hp) (x y:V) (v u:Value) (Q:VK),Inv X pins σ H s→RelV x v→RelV y u→r x y H Q→
  wpAny (model X.prog X.w) X.A (f v u) (EP X pins σ Q) X.xe s
def UnR(X:Cx)(f:Value→Sem Value)(r:V→Hp→VK→Prop):Prop:=
 ∀ (pins:List (Addr × Obj)) (s:Shared) (σ : St) (H:Hp) (x:V) (v:Value) (Q:VK),Inv X pins σ H s→RelV x v→r x H Q→
  wpAny (model X.prog X.w) X.A (f v) (EP X pins σ Q) X.xe s
def CallR(X:Cx)(f:Value)(r:List V→Hp→VK→Prop):Prop:=
 ∀ (pins:List (Addr × Obj)) (s:Shared) (σ : St) (H:Hp) (xs:List V) (us:List Value) (Q:VK),Inv X pins σ H s→Vals xs us→r xs H Q→
  wpAny (model X.prog X.w) X.A (call f us) (EP X pins σ Q) X.xe s
def vX(r:R2)(ta tb:TE):TE:=fun σ H Q=>ta σ H fun x H1=>tb σ H1 fun y H2=>r x y H2 Q
def rI(C:Int→Int→Prop)(g:Int→Int→V):R2:=fun x y H Q=>∃ i j,x = .int i∧y = .int j∧C i j∧Q (g i j) H
def om(g:Int→Int→V):R2:=fun x y H Q=>∃ i j,x = .int i∧y = .int j∧Q (g i j) H
section
variable{X:Cx}{a b c:Expr}{ta tb tc:TE}{pos:Pos}
theorem xq(ha:PE X a ta)(hb:PE X b tb){pins:List (Addr × Obj)}{s:Shared}{σ : St}{H:Hp}{R:V→V→Hp→Prop}(I:Inv X pins σ H s)
  (h:ta σ H fun x H1=>tb σ H1 fun y H2=>R x y H2) {Q:Value→Shared→Prop} {f:Value→Value→Sem Value}
  (hf:∀ v u s2 x y H2,Inv X pins σ H2 s2→RelV x v→RelV y u→R x y H2→wpAny (model X.prog X.w) X.A (f v u) Q X.xe s2) :
  wpAny (model X.prog X.w) X.A (eval a X.env) (fun v s₁=>wpAny (model X.prog X.w) X.A (eval b X.env) (fun u s₂=>wpAny (model X.prog X.w) X.A (f v u) Q X.xe s₂) X.xe s₁) X.xe s:=by
 refine bc (ha pins s σ H _ I h) fun v s1 ⟨x,H1,I1,r1,q1⟩=>?_
 refine bc (hb pins s1 σ H1 _ I1 q1) fun u s2 ⟨y,H2,I2,r2,q2⟩=>?_
 exact hf v u s2 x y H2 I2 r1 r2 q2
theorem bb{op:Operator}{r:R2}(ho:OpR X (binaryOp op) r)(ha:PE X a ta)(hb:PE X b tb):PE X (.BinOp a op b pos) (vX r ta tb):=by
 intro pins s σ H Q I h
 exact wpAny_BinOp (xq ha hb I h fun v u s2 x y H2 I2 rx ry q=>ho pins s2 σ H2 x y v u Q I2 rx ry q)
theorem A3{f:Value→Value→Sem Value}{C:Int→Int→Prop}{g:Int→Int→Int}
  (rule:∀ (i j:Int) (t u:Tok) (s:Shared) (Q:Value→Shared→Prop) (E:Value→Shared→Prop),C i j→Q (.int (g i j) s.toks) { s with toks:=s.toks+1 }→wpAny (model X.prog X.w) X.A (f (.int i t) (.int j u)) Q E s) :
  OpR X f (rI C fun i j=>.int (g i j)):=by
 intro pins s σ H x y v u Q I rx ry h
 obtain⟨i,j,rfl,rfl,hc,q⟩:=h
 obtain⟨t,rfl⟩:=rx
 obtain⟨t',rfl⟩:=ry
 exact rule i j t t' s _ _ hc ⟨.int (g i j),H,I.tok _,⟨_,rfl⟩,q⟩
theorem EE{f:Value→Value→Sem Value}{g:Int→Int→Int}
  (rule:∀ (i j:Int) (t u:Tok) (s:Shared) (Q:Value→Shared→Prop) (E:Value→Shared→Prop),Q (.int (g i j) s.toks) { s with toks:=s.toks+1 }→wpAny (model X.prog X.w) X.A (f (.int i t) (.int j u)) Q E s) :
  OpR X f (om fun i j=>.int (g i j)):=by
 intro pins s σ H x y v u Q I rx ry h
 obtain⟨i,j,rfl,rfl,q⟩:=h
 obtain⟨t,rfl⟩:=rx
 obtain⟨t',rfl⟩:=ry
 exact rule i j t t' s _ _ ⟨.int (g i j),H,I.tok _,⟨_,rfl⟩,q⟩
theorem t_{f:Value→Value→Sem Value}{g:Int→Int→Bool}
  (rule:∀ (i j:Int) (t u:Tok) (s:Shared) (Q:Value→Shared→Prop) (E:Value→Shared→Prop),Q (.bool (g i j)) s→wpAny (model X.prog X.w) X.A (f (.int i t) (.int j u)) Q E s) :
  OpR X f (om fun i j=>.bl (g i j)):=by
 intro pins s σ H x y v u Q I rx ry h
 obtain⟨i,j,rfl,rfl,q⟩:=h
 obtain⟨t,rfl⟩:=rx
 obtain⟨t',rfl⟩:=ry
 exact rule i j t t' s _ _ ⟨.bl (g i j),H,I,rfl,q⟩
def Ei(i j:Int):Prop:=0<j∧j<1073741824
def CMul(i j:Int):Prop:=(-(2 ^ 64)<i∧i<2 ^ 64)∨(-(2 ^ 64)<j∧j<2 ^ 64)
theorem CMul.ok{i j:Int}(h:CMul i j):IntMulOk i j:=by
 rcases h with ⟨h1,h2⟩ | ⟨h1,h2⟩
 ·exact .of_left (intBits_le_64 h1 h2)
 ·exact .of_right (intBits_le_64 h1 h2)
theorem Bw:OpR X (binaryOp .Add) (om fun i j=>.int (i+j)):=EE fun _ _ _ _ _ _ _ q=>add_int q
theorem BK:OpR X (binaryOp .Mult) (rI CMul fun i j=>.int (i * j)):=A3 fun _ _ _ _ _ _ _ hc q=>mul_int q hc.ok
theorem d_:OpR X (binaryOp .FloorDiv) (rI Ei fun i j=>.int (i / j)):=A3 fun i j _ _ _ _ _ hc q=>by
 have h1:(0:Int)<j:=hc.1
 have h2:j<1073741824:=hc.2
 exact floordiv_int (by omega) (by rw[Int.fdiv_eq_ediv_of_nonneg i (by omega)]; exact q) (.inl (PyProof.noPylong_small (by omega)))
theorem cy:OpR X (binaryOp .Mod) (rI (fun _ j=>0<j) fun i j=>.int (i % j)):=A3 fun i j _ _ _ _ _ hc q=>by
 have h1:(0:Int)<j:=hc
 exact mod_int' (by omega) (by rw[Int.fmod_eq_emod_of_nonneg i (by omega)]; exact q)
end
def pz:V→V→Bool
 | .non,.non=>true | .non,.int _=>true | .int _,.non=>true | .non,.bl _=>true | .bl _,.non=>true | .non,.str _=>true | .str _,.non=>true
 | .int _,.int _=>true | .bl _,.bl _=>true | .str _,.str _=>true | .byt _,.byt _=>true
 | .int _,.str _=>true | .str _,.int _=>true | .bl _,.str _=>true | .str _,.bl _=>true
 | _,_=>false
def CM:R2:=fun x y H Q=>pz x y=true∧Q (.bl (decide (x=y))) H
def CC:R2:=fun x y H Q=>pz x y=true∧Q (.bl (!decide (x=y))) H
theorem rQ{i j:Int}:decide (V.int i=V.int j)=(i == j):=by
 rw[Bool.eq_iff_iff];simp
theorem pZ{i j:Bool}:decide (V.bl i=V.bl j)=(i == j):=by
 rw[Bool.eq_iff_iff];simp
theorem rW{i j:Str}:decide (V.str i=V.str j)=(i == j):=by
 rw[Bool.eq_iff_iff];simp
theorem rP{i j:Array UInt8}:decide (V.byt i=V.byt j)=(i.toList == j.toList):=by
 rw[Bool.eq_iff_iff]
 cases i
 cases j;simp
section
variable{X:Cx}{a b c:Expr}{ta tb tc:TE}{pos:Pos}
theorem bu{pins:List (Addr × Obj)}{σ : St}{H:Hp}{s:Shared}{Q:VK}{k k':Bool}(I:Inv X pins σ H s)(q:Q (.bl k) H)(e:k=k'):EP X pins σ Q (.bool k') s:=by
 subst e;exact⟨.bl k,H,I,rfl,q⟩
theorem B4:OpR X (compareOp .Eq) CM:=by
 intro pins s σ H x y v u Q I rx ry h
 obtain⟨hs,q⟩:=h
 cases x with
 | non=>
  cases rx
  cases y with
  | non=>cases ry; exact PySem.EqNone.eq_none_none (bu I q (by simp))
  | bl j=>cases ry; exact PySem.EqNone.eq_none_bool (bu I q (by simp))
  | int j=>obtain⟨t',rfl⟩:=ry; exact PySem.EqNone.eq_none_int (bu I q (by simp))
  | str j=>obtain⟨t',rfl⟩:=ry; exact PySem.EqNone.eq_none_str (bu I q (by simp))
  | _=>exact absurd (show false=true from hs) Bool.false_ne_true
 | bl i=>
  cases rx
  cases y with
  | non=>cases ry; exact PySem.EqNone.eq_bool_none (bu I q (by simp))
  | bl j=>cases ry; exact eq_bool (bu I q pZ)
  | str j=>obtain⟨t',rfl⟩:=ry; exact PySem.EqMixed.eq_bool_str (bu I q (by simp))
  | _=>exact absurd (show false=true from hs) Bool.false_ne_true
 | int i=>
  obtain⟨t,rfl⟩:=rx
  cases y with
  | non=>cases ry; exact PySem.EqNone.eq_int_none (bu I q (by simp))
  | int j=>obtain⟨t',rfl⟩:=ry; exact eq_int (bu I q rQ)
  | str j=>obtain⟨t',rfl⟩:=ry; exact PySem.EqMixed.eq_int_str (bu I q (by simp))
  | _=>exact absurd (show false=true from hs) Bool.false_ne_true
 | str i=>
  obtain⟨t,rfl⟩:=rx
  cases y with
  | non=>cases ry; exact PySem.EqNone.eq_str_none (bu I q (by simp))
  | bl j=>cases ry; exact PySem.EqMixed.eq_str_bool (bu I q (by simp))
  | int j=>obtain⟨t',rfl⟩:=ry; exact PySem.EqMixed.eq_str_int (bu I q (by simp))
  | str j=>obtain⟨t',rfl⟩:=ry; exact eq_str (bu I q rW)
  | _=>exact absurd (show false=true from hs) Bool.false_ne_true
 | byt i=>
  obtain⟨t,rfl⟩:=rx
  cases y with
  | byt j=>obtain⟨t',rfl⟩:=ry; exact PySem.W.eq_bytes (bu I q rP)
  | _=>exact absurd (show false=true from hs) Bool.false_ne_true
 | _=>cases y <;> exact absurd (show false=true from hs) Bool.false_ne_true
theorem BY:OpR X (compareOp .NotEq) CC:=by
 intro pins s σ H x y v u Q I rx ry h
 obtain⟨hs,q⟩:=h
 cases x with
 | non=>
  cases rx
  cases y with
  | non=>cases ry; exact PySem.EqNone.ne_none_none (bu I q (by simp))
  | bl j=>cases ry; exact PySem.EqNone.ne_none_bool (bu I q (by simp))
  | int j=>obtain⟨t',rfl⟩:=ry; exact PySem.EqNone.ne_none_int (bu I q (by simp))
  | str j=>obtain⟨t',rfl⟩:=ry; exact PySem.EqNone.ne_none_str (bu I q (by simp))
  | _=>exact absurd (show false=true from hs) Bool.false_ne_true
 | bl i=>
  cases rx
  cases y with
  | non=>cases ry; exact PySem.EqNone.ne_bool_none (bu I q (by simp))
  | bl j=>cases ry; exact ne_bool (bu I q (congrArg not pZ))
  | str j=>obtain⟨t',rfl⟩:=ry; exact PySem.EqMixed.ne_bool_str (bu I q (by simp))
  | _=>exact absurd (show false=true from hs) Bool.false_ne_true
 | int i=>
  obtain⟨t,rfl⟩:=rx
  cases y with
  | non=>cases ry; exact PySem.EqNone.ne_int_none (bu I q (by simp))
  | int j=>obtain⟨t',rfl⟩:=ry; exact ne_int (bu I q (congrArg not rQ))
  | str j=>obtain⟨t',rfl⟩:=ry; exact PySem.EqMixed.ne_int_str (bu I q (by simp))
  | _=>exact absurd (show false=true from hs) Bool.false_ne_true
 | str i=>
  obtain⟨t,rfl⟩:=rx
  cases y with
  | non=>cases ry; exact PySem.EqNone.ne_str_none (bu I q (by simp))
  | bl j=>cases ry; exact PySem.EqMixed.ne_str_bool (bu I q (by simp))
  | int j=>obtain⟨t',rfl⟩:=ry; exact PySem.EqMixed.ne_str_int (bu I q (by simp))
  | str j=>obtain⟨t',rfl⟩:=ry; exact ne_str (bu I q (congrArg not rW))
  | _=>exact absurd (show false=true from hs) Bool.false_ne_true
 | byt i=>
  obtain⟨t,rfl⟩:=rx
  cases y with
  | byt j=>obtain⟨t',rfl⟩:=ry; exact PySem.W.ne_bytes (bu I q (congrArg not rP))
  | _=>exact absurd (show false=true from hs) Bool.false_ne_true
 | _=>cases y <;> exact absurd (show false=true from hs) Bool.false_ne_true
theorem Ci:OpR X (compareOp .Lt) (om fun i j=>.bl (decide (i<j))):=t_ fun _ _ _ _ _ _ _ q=>lt_int q
theorem B8:OpR X (compareOp .LtE) (om fun i j=>.bl (decide (i≤j))):=t_ fun _ _ _ _ _ _ _ q=>le_int q
theorem B6:OpR X (compareOp .Gt) (om fun i j=>.bl (decide (j<i))):=t_ fun _ _ _ _ _ _ _ q=>gt_int q
theorem Cm:OpR X (compareOp .GtE) (om fun i j=>.bl (decide (j≤i))):=t_ fun _ _ _ _ _ _ _ q=>ge_int q
theorem vd:OpR X (compareOp .Lt) (fun x y H Q=>∃ i j,x = .str i∧y = .str j∧Q (.bl (decide (i.cps.toList<j.cps.toList))) H):=by
 intro pins s σ H x y v u Q I rx ry h
 obtain⟨i,j,rfl,rfl,q⟩:=h
 obtain⟨t,rfl⟩:=rx
 obtain⟨t',rfl⟩:=ry
 exact lt_str (bu I q rfl)
theorem vp:OpR X (compareOp .In) (fun x y H Q=>∃ i j,x = .str i∧y = .str j∧Q (.bl (!(Builtin.Str.occurrences j i 0 j.length 1).isEmpty)) H):=by
 intro pins s σ H x y v u Q I rx ry h
 obtain⟨i,j,rfl,rfl,q⟩:=h
 obtain⟨t,rfl⟩:=rx
 obtain⟨t',rfl⟩:=ry
 exact in_str (bu I q rfl)
theorem BR:OpR X (compareOp .Is) (fun x y H Q=>y = .non∧Q (.bl (decide (x = .non))) H):=by
 intro pins s σ H x y v u Q I rx ry h
 obtain⟨rfl,q⟩:=h
 cases ry;refine is_none_gen (bu I q ?_)
 cases x <;> first
  | (cases rx; rfl)
  | (obtain⟨t,rfl⟩:=rx; rfl)
theorem y8:OpR X (compareOp .IsNot) (fun x y H Q=>y = .non∧Q (.bl (!decide (x = .non))) H):=by
 intro pins s σ H x y v u Q I rx ry h
 obtain⟨rfl,q⟩:=h
 cases ry;refine isnot_none_gen (bu I q ?_)
 cases x <;> first
  | (cases rx; rfl)
  | (obtain⟨t,rfl⟩:=rx; rfl)
theorem bd(b:Expr){op:CmpOp}(h:op ≠ .In:=by decide)(h2:op ≠ .NotIn:=by decide):behindInMarks op b=false:=by
 have e1:(op == CmpOp.In)=false:=by cases op <;> first | rfl | exact absurd rfl h
 have e2:(op == CmpOp.NotIn)=false:=by cases op <;> first | rfl | exact absurd rfl h2
 cases b <;> simp[behindInMarks,e1,e2]
theorem dD{op:CmpOp}{r:R2}(ho:OpR X (compareOp op) r)(ha:PE X a ta)(hb:PE X b tb)(hm:behindInMarks op b=false):PE X (.Compare a [op] [b] pos) (vX r ta tb):=by
 intro pins s σ H Q I h
 exact wpAny_Compare1 (xq ha hb I h fun v u s2 x y H2 I2 rx ry q=>ho pins s2 σ H2 x y v u Q I2 rx ry q) hm
def yM(t:TE):TT:=fun σ H Q=>t σ H fun x H'=>∃ k,x = .bl k∧Q k H'
theorem aX{op:CmpOp}{r:R2}(ho:OpR X (compareOp op) r)(ha:PE X a ta)(hb:PE X b tb)(hm:behindInMarks op b=false):PT X (.Compare a [op] [b] pos) (yM (vX r ta tb)):=by
 intro pins s σ H Q I h
 refine wpAny_isTrue_Compare1 (bc (ha pins s σ H _ I h) fun v s1 ⟨x,H1,I1,r1,q1⟩=>bc (hb pins s1 σ H1 _ I1 q1) fun u s2 ⟨y,H2,I2,r2,q2⟩=>
  bc (ho pins s2 σ H2 x y v u _ I2 r1 r2 q2) fun c s3 ⟨z,H3,I3,r3,k,e,q3⟩=>?_) hm
 subst e
 cases r3;exact wpAny_truthy_bool ⟨H3,I3,q3⟩
theorem jq:(sizeLine:Nat)<2 ^ 63:=by rw[sizeLine_eq]; decide
theorem sS:OpR X (binaryOp .Add) (fun x y H Q=>∃ i j,x = .str i∧y = .str j∧i.length+j.length≤sizeLine∧Q (.str (i++j)) H):=by
 intro pins s σ H x y v u Q I rx ry h
 obtain⟨i,j,rfl,rfl,hz,q⟩:=h
 obtain⟨t,rfl⟩:=rx
 obtain⟨t',rfl⟩:=ry
 exact add_str (fun t' tk=>⟨.str (i++j),H,I.tok _,⟨_,rfl⟩,q⟩) hz
theorem cB{x:V}{us:List Value}(r:Vals [x] us):∃ u,us=[u]∧RelV x u:=by
 cases r with
 | cons r1 r2=>cases r2; exact⟨_,rfl,r1⟩
theorem oN{x y:V}{us:List Value}(r:Vals [x,y] us):∃ u w',us=[u,w']∧RelV x u∧RelV y w':=by
 cases r with
 | cons r1 r2=>
  cases r2 with
  | cons r3 r4=>cases r4; exact⟨_,_,rfl,r1,r3⟩
theorem vt(hc:X.calm=true):CallR X (.builtin "min") (fun xs H Q=>∃ i j,xs=[.int i,.int j]∧Q (.int (if j<i then j else i)) H):=by
 intro pins s σ H xs us Q I r h
 obtain⟨i,j,rfl,q⟩:=h
 obtain⟨u,w',rfl,⟨t,rfl⟩,⟨t',rfl⟩⟩:=oN r
 refine min_two_ints (I.ok.hd hc) fun h' tk k=>⟨_,H,I.kept k,?_,q⟩
 by_cases hj:j<i
 ·rw[if_pos hj,if_pos hj]; exact⟨_,rfl⟩
 ·rw[if_neg hj,if_neg hj]; exact⟨_,rfl⟩
theorem vU:CallR X (.type "int") (fun xs H Q=>(∃ i,xs=[.int i]∧Q (.int i) H)∨∃ k,xs=[.bl k]∧Q (.int (if k then 1 else 0)) H):=by
 intro pins s σ H xs us Q I r h
 rcases h with ⟨i,rfl,q⟩ | ⟨k,rfl,q⟩
 ·obtain⟨u,rfl,t,rfl⟩:=cB r
  exact call_int_int ⟨.int i,H,I,⟨_,rfl⟩,q⟩
 ·obtain⟨u,rfl,r1⟩:=cB r
  cases r1;exact call_int_bool ⟨.int (if k then 1 else 0),H,I.tok _,⟨_,rfl⟩,q⟩
theorem qu:CallR X (.type "str") (fun xs H Q=>∃ i,xs=[.int i]∧i.natAbs.log2<1920∧Q (.str (toString i)) H):=by
 intro pins s σ H xs us Q I r h
 obtain⟨i,rfl,hz,q⟩:=h
 obtain⟨u,rfl,t,rfl⟩:=cB r
 exact PySem.P.str_of_int hz ⟨.str _,H,I.tok _,⟨_,rfl⟩,q⟩
end
end L2
namespace L2
open PySem PySem.Spec PyProof.Rows
structure ObjM (h:Heap) (x dx C:Addr) (mA:Str→Option Value):Prop where
 obj:h.get? x=some (PySem.W.instObj C dx)
 ns:h.Ns1 dx mA
 ne:dx≠x
theorem um{h:Heap}{dx:Addr}{mA:Str→Option Value}(n:h.Ns1 dx mA):∃ od,h.get? dx=some od∧∀ name,PySem.W.lookIn name od=some (mA name):=by
 obtain⟨o,es,ep,ho,hd,hk,_,hm⟩:=n
 refine⟨o,ho,fun name=>?_⟩
 have e:=hm name;unfold nsFind findBy at e;rw[← Array.find?_toList]at e
 unfold PySem.W.lookIn;rw[hd]
 dsimp only
 split
 ·rename_i y q
  rw[q]at e
  exact congrArg some e
 ·rename_i q
  rw[q]at e
  have a:es.toList.any (·.refKey)=false:=by
   rw[List.any_eq_false];intro y hy
   obtain⟨z,t,hkey⟩:=hk y (Array.mem_toList_iff.mp hy)
   simp[DictEntry.refKey,hkey]
  have a':¬ es.toList.any (·.refKey)=true:=by rw[a]; exact Bool.false_ne_true
  rw[if_neg a'];exact congrArg some e
theorem ObjM.look{h:Heap}{x dx C:Addr}{mA:Str→Option Value}(I:ObjM h x dx C mA):∃ od,PySem.W.InstAt h x (PySem.W.instObj C dx) C (some od)∧∀ name,PySem.W.lookIn name od=some (mA name):=
 let ⟨od,ho,hl⟩:=um I.ns
 ⟨od,⟨I.obj,rfl,rfl,ho⟩,hl⟩
section
variable{prog:Program}{w:World}{A:Around}{E:Value→Shared→Prop}{s:Shared}{K:PySem.W.Frag}{x dx C f:Addr}{mA:Str→Option Value}{name:Str}{v:Value}
end
def As(f:Str)(v:V):List (Str × V)→List (Str × V)
 | []=>[(f,v)]
 | (g,x)::r=>if g=f then (g,v)::r else (g,x)::As f v r
theorem RelO.some_of{v:V}{o:Option Value}(r:RelO (some v) o):∃ u,o=some u∧RelV v u:=by
 cases o with
 | none=>exact(show False from r).elim
 | some u=>exact⟨u,rfl,r⟩
section
variable{P:Program}{w:World}{H H':Hp}{h h':Heap}{a C dx:Addr}{fs fs':List (Str × V)}
theorem yT(hok:HOk P w H h)(e:H a=some (.ins C dx fs)):∃ mA,ObjM h a dx C mA∧(∀ f,RelO (fs.lookup f) (mA f))∧PySem.Within mA (fs.map (·.1))∧fs.length≤1000∧H dx=some (.own a):=by
 obtain⟨d,z,ne,ob,mA,n,r,q⟩:=(show ObjOk P w H h a (.ins C dx fs) from hok a _ e)
 exact⟨mA,⟨ob,n,ne⟩,r,q,z,d⟩
end
structure Cls (K:PySem.W.Frag) (C:Addr):Prop where
 pg:PySem.W.plainGet K C Str.empty=true
 hd:PySem.W.hasDictIn K C=true
 po:PySem.W.plainOver K C=true
 sa:PySem.W.findIn K (.ref C) "__setattr__" = some (some (.builtin "object.__setattr__"))
theorem Cls.get{K:PySem.W.Frag}{C:Addr}(c:Cls K C)(f:Str):PySem.W.plainGet K C f=true:=c.pg
section
variable{X:Cx}{pins:List (Addr × Obj)}{σ : St}{H:Hp}{s:Shared}{a C dx:Addr}{fs:List (Str × V)}{f:Str}{v:V}{A:Around}{E:Value→Shared→Prop}
end
section
variable{X:Cx}{o e value:Expr}{f:Str}{pos pos' tpos:Pos}{ta tv:TE}
end
section
variable{X:Cx}{pins:List (Addr × Obj)}{σ : St}{H:Hp}{s:Shared}{A:Around}{E:Value→Shared→Prop}{Q:Value→Shared→Prop}{c:Value}{b:Bool}
inductive fM (K:PySem.W.Frag) (H:Hp):V→Value→Prop where
 | non:fM K H .non (.type "NoneType")
 | bl (x:Bool):fM K H (.bl x) (.type "bool")
 | int (i:Int):fM K H (.int i) (.type "int")
 | str (x:Str):fM K H (.str x) (.type "str")
 | flt (x:UInt64):fM K H (.flt x) (.type "float")
 | lst {a:Addr} {xs:List V} (e:H a=some (.lst xs)):fM K H (.ref a) (.type "list")
 | frz {a:Addr} {o:Obj} {xs:List V} (e:H a=some (.frz o (.lst xs))):fM K H (.ref a) (.type "list")
 | tup {a:Addr} {xs:List V} (e:H a=some (.tup xs)):fM K H (.ref a) (.type "tuple")
 | dK {a:Addr} {kvs:List (bq × V)} (e:H a=some (.dK kvs)):fM K H (.ref a) (.type "dict")
 | dT {a:Addr} {kvs:List (List bq × V)} (e:H a=some (.dT kvs)):fM K H (.ref a) (.type "dict")
 | ins {a C dx:Addr} {fs:List (Str × V)} (e:H a=some (.ins C dx fs)) (cl:Cls K C) (ha:PySem.W.findIn K (.ref C) "__class__" = some (some (.builtin "object.__class__")))
   (hn:PySem.W.specialIn K (.builtin "object.__class__") "__get__" = some (some (.builtin "getset_descriptor.__get__"))) (htk:PySem.W.takesIn K (.builtin "object.__class__")=some true)
   (hm:PySem.W.mroIn K C (.type "object")=some true):fM K H (.ref a) (.ref C)
theorem uw{x:V}{u t:Value}(I:Inv X pins σ H s)(rx:RelV x u)(ty:fM X.K H x t)(e:PySem.W.kitOne X.K t c=some b)(h:∀ tk,Q (.bool b) { s with toks:=tk }) :
  wpAny (model X.prog X.w) A (call (.builtin "isinstance") [u,c]) Q E s:=by
 cases ty with
 | non=>cases (show u=Value.none from rx); exact PySem.W.kia_one PySem.W.kitx_none I.kIn True.intro e (fun z=>nomatch z) h
 | bl y=>cases (show u=Value.bool y from rx); exact PySem.W.kia_one PySem.W.kitx_bool I.kIn True.intro e (fun z=>nomatch z) h
 | int i=>obtain⟨t,q⟩:=(show ∃ t,u=Value.int i t from rx); cases q; exact PySem.W.kia_one PySem.W.kitx_int I.kIn True.intro e (fun z=>nomatch z) h
 | str y=>obtain⟨t,q⟩:=(show ∃ t,u=Value.str y t from rx); cases q; exact PySem.W.kia_one PySem.W.kitx_str I.kIn True.intro e (fun z=>nomatch z) h
 | flt y=>obtain⟨t,q⟩:=(show ∃ t,u=Value.float y t from rx); cases q; exact PySem.W.kia_one PySem.W.kitx_float I.kIn True.intro e (fun z=>nomatch z) h
 | @lst a xs ea=>
  cases (show u=Value.ref a from rx)
  obtain⟨_,_,n,_,h1⟩:=(show ObjOk X.prog X.w H s.heap a (.lst xs) from I.hok a _ ea)
  exact PySem.W.kia_one PySem.W.kitx_list I.kIn ⟨_,h1,rfl⟩ e (fun z=>nomatch z) h
 | @frz a ob xs ea=>
  cases (show u=Value.ref a from rx)
  obtain⟨_,_,_,n,_,h1⟩:=(show ObjOk X.prog X.w H s.heap a (.frz ob (.lst xs)) from I.hok a _ ea)
  exact PySem.W.kia_one PySem.W.kitx_list I.kIn ⟨_,h1,rfl⟩ e (fun z=>nomatch z) h
 | @tup a xs ea=>
  cases (show u=Value.ref a from rx)
  obtain⟨_,_,_,p⟩:=(show ObjOk X.prog X.w H s.heap a (.tup xs) from I.hok a _ ea)
  obtain⟨o,h1,h2,_⟩:=p
  exact PySem.W.kia_one PySem.W.kitx_tuple I.kIn ⟨o,h1,h2⟩ e (fun z=>nomatch z) h
 | @dK a kvs ea=>
  cases (show u=Value.ref a from rx)
  obtain⟨_,_,vs,_,p⟩:=(show ObjOk X.prog X.w H s.heap a (.dK kvs) from I.hok a _ ea)
  obtain⟨o,es,ep,h1,h2,_⟩:=p
  exact PySem.W.kia_one PySem.W.kitx_dict I.kIn ⟨o,h1,h2.1⟩ e (fun z=>nomatch z) h
 | @dT a kvs ea=>
  cases (show u=Value.ref a from rx)
  obtain⟨_,_,xs,_,o,es,ep,h1,h2,_⟩:=(show ObjOk X.prog X.w H s.heap a (.dT kvs) from I.hok a _ ea)
  exact PySem.W.kia_one PySem.W.kitx_dict I.kIn ⟨o,h1,h2.1⟩ e (fun z=>nomatch z) h
 | @ins a C dx fs ea cl ha hn htk hm=>
  cases (show u=Value.ref a from rx)
  obtain⟨mA,O,_⟩:=yT I.hok ea
  obtain⟨od,J,_⟩:=O.look
  exact PySem.W.kia_one (PySem.W.kitx_own (cl.get _) cl.hd ha hn htk hm) I.kIn J e (fun z=>nomatch z) h
end
end L2
namespace L2
open PySem PySem.Spec PyProof.Rows
structure Room (k:Nat) (A:Around):Prop where
 hd:A.handled=none
 dp:A.depth+3 * k+5<recursionLimit
 un:A.units+16 * k+200<cLine
theorem Room.mono{j k:Nat}{A:Around}(r:Room k A)(h:j≤k):Room j A:=⟨r.hd,by have:=r.dp; omega,by have:=r.un; omega⟩
theorem Room.deeper{k:Nat}{A:Around}(r:Room (k+1) A)(env:Env):Room k (A.deeper env):=
 ⟨r.hd,by have:=r.dp; show A.depth+1+3 * k+5<_; omega,by have:=r.un; show A.units+3+16 * k+200<_; omega⟩
theorem Room.depth{k:Nat}{A:Around}(r:Room k A):A.depth<recursionLimit:=by have:=r.dp; omega
def wF:TA:=fun _ H Q=>Q [] H
def tK(ta:TE)(tr:TA):TA:=fun σ H Q=>ta σ H fun x H1=>tr σ H1 fun xs H2=>Q (x::xs) H2
section
variable{X:Cx}{e:Expr}{es:List Expr}{te:TE}{t:TA}{pos:Pos}
theorem ab:PA X [] wF:=fun _ _ _ _ H Q I h=>Calls.spliced_nil ⟨[],H,I,.nil,h⟩
theorem aa(ha:PE X e te)(hr:PA X es t)(hs:starEach (e::es) X.env=(false,eval e X.env)::starEach es X.env:=by rfl):PA X (e::es) (tK te t):=by
 intro pos pins s σ H Q I h
 rw[hs];show wpAny _ _ (spliced ((false,eval e X.env)::backTo pos (starEach es X.env))) _ _ s
 refine Calls.spliced_cons (bc (ha pins s σ H _ I h) fun u s1 ⟨x,H1,I1,r1,q1⟩=>?_)
 exact bc (hr pos pins s1 σ H1 _ I1 q1) fun us s2 ⟨xs,H2,I2,r2,q2⟩=>⟨x::xs,H2,I2,.cons r1 r2,q2⟩
def zX(t:TA):TE:=fun σ H Q=>t σ H fun xs H1=>xs.length≤sizeLine∧∀ p,H1 p=none→Q (.ref p) (upd H1 p (.tup xs))
def Bk(t:TA):TE:=fun σ H Q=>t σ H fun xs H1=>xs.length≤sizeLine∧∀ p,H1 p=none→Q (.ref p) (upd H1 p (.lst xs))
theorem cT{x1}(h:PA X es t):PE X (.Tuple es x1 pos) (zX t):=by
 intro pins s σ H Q I hq
 refine wpAny_Tuple_spliced (bc (h pos pins s σ H _ I hq) fun us s1 ⟨xs,H1,I1,r,z,q⟩=>⟨by rw[← r.length]; exact z,?_⟩)
 have hf:H1 s1.heap.objs.size=none:=I1.hok.fresh (Nat.le_refl _)
 refine⟨.ref s1.heap.objs.size,upd H1 s1.heap.objs.size (.tup xs),I1.laid (t':=s1.toks) (fun b u e=>Heap.get?_push_of_some _ e) (Nat.le_refl _) ?_,rfl,q _ hf⟩
 exact⟨z,us,r,⟨_,Heap.get?_push_size _ rfl,rfl,rfl,_,rfl⟩⟩
theorem cD(h:PA X es t):PE X (.List es pos) (Bk t):=by
 intro pins s σ H Q I hq
 refine wpAny_List_spliced (bc (h pos pins s σ H _ I hq) fun us s1 ⟨xs,H1,I1,r,z,q⟩=>⟨by rw[← r.length]; exact z,?_⟩)
 have hf:H1 s1.heap.objs.size=none:=I1.hok.fresh (Nat.le_refl _)
 refine⟨.ref s1.heap.objs.size,upd H1 s1.heap.objs.size (.lst xs),I1.laid (t':=s1.toks) (fun b u e=>Heap.get?_push_of_some _ e) (Nat.le_refl _) ?_,rfl,q _ hf⟩
 exact⟨z,us,0,r,Heap.get?_push_size _ rfl⟩
end
abbrev Sp:=List V→Hp→VK→XK→Prop
abbrev kl:=List Env→Hp→Shared→XK→Value→Shared→Prop
structure tY (P:Program) (w:World) (K:PySem.W.Frag) (mg:Str→Option Value) (base:Heap) (A:Around) (outer:List Env) (s:Shared) (H:Hp):Prop where
 frames:A.frames=some outer
 mod:Mod K mg base
 bs:∀ b o,base.get? b=some o→s.heap.get? b=some o∧H b=none
 bsz:base.objs.size≤s.heap.objs.size
 funs:s.heap.FunFrames base outer
 frf:∀ b∈jz outer,H b=none
 hok:HOk P w H s.heap
 bare:AllBare s.gens
def CE(outer:List Env)(P:Program)(w:World)(H:Hp)(s:Shared)(Q:VK)(u:Value)(s':Shared):Prop:=
 ∃ v H',s'.os=s.os∧AllBare s'.gens∧Un (jz outer) [] H H' s.heap s'.heap∧HOk P w H' s'.heap∧RelV v u∧Q v H'
def CR(CX:kl)(outer:List Env)(P:Program)(w:World)(H:Hp)(s:Shared)(Q:VK)(E:XK)(r:Result)(s':Shared):Prop:=
 match r with
 | .ok (.ret u)=>CE outer P w H s Q u s'
 | .ok _=>False
 | .error e=>CX outer H s E e s'
structure iQ (P:Program) (w:World) (K:PySem.W.Frag) (mg:Str→Option Value) (base:Heap) (CX:kl) (k:Nat) (f:Addr) (fd:FuncData) (ps:List Str) (sp:Sp):Prop where
 len:∀ vs H Q E,sp vs H Q E→vs.length=ps.length
 run:∀ (A:Around) (outer:List Env) (s:Shared) (H:Hp) (args:Args) (us:List Value) (vs:List V) (Q:VK) (E:XK),Room k A→tY P w K mg base A outer s H→BindsTo s fd args (ps.zip us)→Vals vs us→sp vs H Q E→
  codeAny (model P w) A (.call (.ref f) args) (CR CX outer P w H s Q E) s
section
variable{X:Cx}{pins:List (Addr × Obj)}{σ : St}{H:Hp}{s s':Shared}
theorem Inv.env0(I:Inv X pins σ H s):tY X.prog X.w X.K X.mg X.base X.A X.stack s H:=
 ⟨I.ok.frames,I.ok.mod,I.bs,Nat.le_trans I.ok.bsz I.sz,I.stack,I.stkFree,I.hok,I.bare⟩
theorem Inv.after{Q:VK}{u:Value}(I:Inv X pins σ H s)(h:CE X.stack X.prog X.w H s Q u s'):EP X pins σ Q u s':=by
 obtain⟨v,H',os,bare,un,hok,r,q⟩:=h
 obtain⟨hh,g,d,t,os'⟩:=s'
 obtain rfl:os'=s.os:=os
 exact⟨v,H',I.call (h':=hh) (g':=g) (d':=d) (t':=t) (ch:=[]) un hok bare (fun b z=>absurd z (by simp)),r,q⟩
end
def oO(sp:Sp)(dvs:List V)(E:XK)(t:TA):TE:=fun σ H Q=>t σ H fun vs H1=>sp (vs++dvs) H1 Q E
def Binds(K:PySem.W.Frag)(fd:FuncData)(ps:List Str)(ds:List Value):Prop:=
 ∀ (s:Shared) (us:List Value),K.In s.heap→(us++ds).length=ps.length→BindsTo s fd ⟨us,[]⟩ (ps.zip (us++ds))
theorem Binds.all{K:PySem.W.Frag}{fd:FuncData}{ps:List Str}(h:∀ us:List Value,us.length=ps.length→bindArgs fd ⟨us,[]⟩=pure (ps.zip us)):Binds K fd ps []:=fun s us _ hl=>by
 rw[List.append_nil]at hl ⊢
 exact .of_eq (h us hl)
def p8(CX:kl)(X:Cx)(E:XK):Prop:=∀ (pins:List (Addr × Obj)) (σ : St) (H:Hp) (s:Shared) (e:Value) (s':Shared),Inv X pins σ H s→CX X.stack H s E e s'→X.xe e s'
section
variable{X:Cx}{CX:kl}{k:Nat}{f C:Addr}{fd:FuncData}{ps:List Str}{sp:Sp}{dvs:List V}{ds:List Value}{E:XK}{x m:Str}{p pos apos:Pos}{e o:Expr}{es:List Expr}{ta:TE}{t:TA}
theorem ve{pins:List (Addr × Obj)}{σ : St}{H:Hp}{s:Shared}{Q:VK}{us:List Value}{vs:List V}(F:iQ X.prog X.w X.K X.mg X.base CX k f fd ps sp)(hr:Room k X.A)(hb:Binds X.K fd ps ds)(hd:Vals dvs ds)(hx:p8 CX X E)
  (I:Inv X pins σ H s) (r:Vals vs us) (h:sp (vs++dvs) H Q E):wpAny (model X.prog X.w) X.A (call (.ref f) us) (EP X pins σ Q) X.xe s:=by
 have r2:Vals (vs++dvs) (us++ds):=r.append hd
 have hl:(us++ds).length=ps.length:=by rw[← r2.length]; exact F.len _ _ _ _ h
 refine wpAny_call (codeAny_mono (F.run X.A X.stack s H ⟨us,[]⟩ (us++ds) (vs++dvs) Q E hr I.env0 (hb s us I.kIn hl) r2 h) fun r s' hq=>?_)
 cases r with
 | error e=>exact hx pins σ H s e s' I hq
 | ok fl=>
  cases fl with
  | ret u=>exact I.after hq
  | next=>exact False.elim hq
  | brk=>exact False.elim hq
  | cont=>exact False.elim hq
theorem yR(F:iQ X.prog X.w X.K X.mg X.base CX k f fd ps sp)(hr:Room k X.A)(hg:Gl X x)(hm:X.mg x=some (.ref f))(hk:PySem.W.keepIn X.K (.ref f)=true)(hb:Binds X.K fd ps ds)(hd:Vals dvs ds)(hx:p8 CX X E)
  (ha:PA X (e::es) t) (hdb:(x == ("__debug__" : Str))=false:=by decide) (he:starEach (e::es) X.env=(false,eval e X.env)::starEach es X.env:=by rfl) (hpl:(backTo pos (starEach es X.env)).any (·.1)=false:=by rfl) :
  PE X (.Call (.Name x p) (e::es) [] pos) (oO sp dvs E t):=by
 intro pins s σ H Q I h
 refine wpAny_Call_Name_kw (rF I hg hm ?_ hdb)
 refine PySem.W.callWith_K (h₀:=X.base) I.ok.mod.kin hk (bc (ha pos pins s σ H _ I h) fun us s1 ⟨vs,H1,I1,r,q⟩=>⟨I1.kIn,?_⟩) he hpl
 exact ve F hr hb hd hx I1 r q
end
section
variable{X:Cx}{CX:kl}{k:Nat}{f C:Addr}{fd:FuncData}{ps ks:List Str}{sp:Sp}{E:XK}{x m:Str}{p pos apos kpos:Pos}{e o:Expr}{es:List Expr}{kws:List Keyword}{te ta:TE}{t tk:TA}{nm:Option Str}
variable{g:List Value→List Value→List Value}{gV:List V→List V→List V}
end
structure bg (N P:List Str) (sc:Scope):Prop where
 kind:sc.kind = .function
 co:sc.isCoroutine=false
 gen:sc.isGenerator=false
 nd:N.Nodup
 pre:N.take P.length=P
 par:∀ x∈P,sc.names.lookup x=some .local∨sc.names.lookup x=some .cell
 nofree:∀ y∈sc.names,y.2 ≠ .free
theorem mKk{N P:List Str}{s:Stmt}(h1:(L2.defScope s).kind = .function:=by rfl)(h2:(L2.defScope s).isCoroutine=false:=by rfl)(h3:(L2.defScope s).isGenerator=false:=by rfl)(h4:N.Nodup:=by decide +kernel)(h5:N.take P.length=P:=by rfl)(h6:∀ x∈P,(L2.defScope s).names.lookup x=some .local∨(L2.defScope s).names.lookup x=some .cell:=by decide +kernel)(h7:∀ y∈(L2.defScope s).names,y.2 ≠ .free:=by decide +kernel):bg N P (L2.defScope s):=⟨h1,h2,h3,h4,h5,h6,h7⟩
theorem nE{kindOf:Str→Option NameKind}{x:Str}:∀ {binds:List (Str × Value)} {m:Str→Option Value},(∀ v,(x,v)∉binds)→bindL kindOf binds m x=m x
 | [],_,_=>rfl
 | (n,v)::r,m,h=>by
  unfold bindL;rw[nE fun w hw=>h w (List.mem_cons_of_mem _ hw)]
  split
  ·have:x≠n:=by rintro rfl; exact h v List.mem_cons_self
   simp[this]
  ·rfl
theorem nH{kindOf:Str→Option NameKind}{x:Str}:∀ {binds:List (Str × Value)} {m:Str→Option Value},(∀ v,(x,v)∉binds)→bindC kindOf binds m x=m x
 | [],_,_=>rfl
 | (n,v)::r,m,h=>by
  unfold bindC;rw[nH fun w hw=>h w (List.mem_cons_of_mem _ hw)]
  split
  ·rfl
  ·have:x≠n:=by rintro rfl; exact h v List.mem_cons_self
   simp[this]
theorem ny{kindOf:Str→Option NameKind}{x:Str}{v:Value}:∀ {P:List Str} {vs:List Value} {i:Nat} {m:Str→Option Value},P.Nodup→P[i]? = some x→vs[i]? = some v→kindOf x=some .local→
  bindL kindOf (P.zip vs) m x=some v
 | [],_,_,_,_,h,_,_=>by simp at h
 | _::_,[],_,_,_,_,h,_=>by simp at h
 | p::P,w::vs,0,m,nd,h1,h2,hk=>by
  simp at h1 h2; subst h1; subst h2
  show bindL kindOf ((p,w)::P.zip vs) m p=_
  unfold bindL;rw[nE fun v hv=>(List.nodup_cons.mp nd).1 (List.of_mem_zip hv).1,if_pos hk]
  simp
 | p::P,w::vs,i+1,m,nd,h1,h2,hk=>by
  show bindL kindOf ((p,w)::P.zip vs) m x=_
  unfold bindL;exact ny (i:=i) (List.nodup_cons.mp nd).2 (by simpa using h1) (by simpa using h2) hk
theorem nX{kindOf:Str→Option NameKind}{x:Str}{v:Value}:∀ {P:List Str} {vs:List Value} {i:Nat} {m:Str→Option Value},P.Nodup→P[i]? = some x→vs[i]? = some v→kindOf x≠some .local→
  bindC kindOf (P.zip vs) m x=some v
 | [],_,_,_,_,h,_,_=>by simp at h
 | _::_,[],_,_,_,_,h,_=>by simp at h
 | p::P,w::vs,0,m,nd,h1,h2,hk=>by
  simp at h1 h2; subst h1; subst h2
  show bindC kindOf ((p,w)::P.zip vs) m p=_
  unfold bindC;rw[nH fun v hv=>(List.nodup_cons.mp nd).1 (List.of_mem_zip hv).1,if_neg hk]
  simp
 | p::P,w::vs,i+1,m,nd,h1,h2,hk=>by
  show bindC kindOf ((p,w)::P.zip vs) m x=_
  unfold bindC;exact nX (i:=i) (List.nodup_cons.mp nd).2 (by simpa using h1) (by simpa using h2) hk
def start(N:List Str)(vs:List V):St:=vs.map some++List.replicate (N.length - vs.length) none
def ls(CX:kl)(P:Program)(w:World)(K:PySem.W.Frag)(mg:Str→Option Value)(base:Heap)(N:List Str)(qual:Str)(scope:Scope)(f:Addr)(cd:Value)(A:Around)(outer:List Env)(s:Shared)(H:Hp)(E:XK):Cx where
 prog:=P
 w:=w
 K:=K
 mg:=mg
 base:=base
 A:=A.deeper (envOfC qual scope s.heap.objs.size f cd)
 N:=N
 s₀:=s
 H₀:=H
 env:=envOfC qual scope s.heap.objs.size f cd
 outer:=outer
 stack:=envOfC qual scope s.heap.objs.size f cd::outer
 ex:=[]
 calm:=true
 fn:=fun _=>true
 pn:=[]
 xe:=fun e s'=>wpAny (model P w) (A.deeper (envOfC qual scope s.heap.objs.size f cd)) (leaving (envOfC qual scope s.heap.objs.size f cd) e) (fun _ s''=>CX outer H s E e s'') (fun e' s''=>CX outer H s E e' s'') s'
theorem ql{sc:Scope}{n:Nat}{x:Str}(h:sc.names.lookup x=some .cell):∃ c,(cellsFrom n sc.names []).lookup x=some c:=by
 have q:=PySem.W.cellsFrom_some sc.names n [] (.inl h);exact Option.isSome_iff_exists.mp q
theorem vo{CX:kl}{P:Program}{w:World}{K:PySem.W.Frag}{mg:Str→Option Value}{base:Heap}{N ps:List Str}{qual:Str}{scope:Scope}{f:Addr}{cd:Value}{A:Around}{outer:List Env}{s s1:Shared}{H:Hp}{E:XK}{us:List Value}{vs:List V}
  (S:bg N ps scope) (hd:A.handled=none) (e0:tY P w K mg base A outer s H) (hl:vs.length=ps.length) (r:Vals vs us)
  (x:InCallC s s.heap.objs.size (bindL (envOfC qual scope s.heap.objs.size f cd).kindOf (ps.zip us) fun _=>none) (cellsFrom (s.heap.objs.size+1) scope.names []) (bindC (envOfC qual scope s.heap.objs.size f cd).kindOf (ps.zip us) fun _=>none) s1) :
  Inv (ls CX P w K mg base N qual scope f cd A outer s H E) [] (start N vs) H s1:=by
 have hpl:ps.length≤N.length:=by have:=congrArg List.length S.pre; rw[List.length_take]at this; omega
 obtain⟨h1,tk,rfl,hk⟩:=x.done
 have noA:∀ b:Addr,b∉(ls CX P w K mg base N qual scope f cd A outer s H E).ex:=fun b z=>absurd (show b∈([]:List Addr) from z) (by simp)
 refine⟨⟨e0.mod,S.kind,rfl,rfl,Nat.le_refl _,fun y z c h1 h2=>?_,fun y hy=>?_,fun y c _ h=>?_,fun _=>hd,Around.frames_deeper e0.frames,.inr ⟨rfl,rfl⟩,fun b z=>absurd z (noA b),e0.bs,e0.bsz,fun b _ _=>noA b,fun b z=>absurd z (noA b),e0.funs,e0.frf⟩,
  rfl,e0.bare,Un.kept hk,⟨_,x.toInCall.ns,fun i y v h1 h2 h3=>?_⟩,fun y c h=>⟨_,x.cell y c h⟩,e0.hok.fresh (Nat.le_refl _),fun y c h=>?_,fun p hp=>absurd (show p∈([]:List (Addr × Obj)) from hp) (by simp),e0.hok.kept hk,?_⟩
 ·exact name_of_addr x.apart (PySem.mem_of_lookup h1) (PySem.mem_of_lookup h2)
 ·have hy:scope.names.lookup y=some .cell∨scope.names.lookup y=some .free:=hy
  rcases hy with hy | hy
  ·exact ql hy
  ·exact absurd rfl (S.nofree _ (PySem.mem_of_lookup hy))
 ·exact Nat.le_of_lt (x.above y c (PySem.mem_of_lookup h))
 ·have hi:i<vs.length:=by
   unfold start at h2
   by_cases hi:i<vs.length
   ·exact hi
   ·rw[List.getElem?_append_right (by simpa using hi)]at h2
    rw[List.getElem?_replicate]at h2
    split at h2 <;> cases h2
  have ha:vs[i]? = some v:=by
   unfold start at h2;rw[List.getElem?_append_left (by simpa using hi),List.getElem?_map]at h2
   cases e:vs[i]? with
   | none=>rw[e]at h2; cases h2
   | some a=>rw[e]at h2; cases h2; rfl
  obtain⟨u,hu,rv⟩:=r.get ha
  have hp:ps[i]? = some y:=by
   rw[← S.pre,List.getElem?_take_of_lt (by omega)]; exact h1
  have ndP:ps.Nodup:=by rw[← S.pre]; exact S.nd.sublist (List.take_sublist _ _)
  refine⟨u,rv,?_⟩
  rcases S.par y (List.mem_of_getElem? hp) with k | k
  ·exact .inl ⟨k,ny ndP hp hu k⟩
  ·obtain⟨c,e⟩:=ql (n:=s.heap.objs.size+1) k
   refine .inr ⟨.inl k,c,e,?_⟩
   have q:=x.cell y c e;rw[nX ndP hp hu (by show scope.names.lookup y≠_; rw[k]; decide)]at q
   exact q
 ·exact e0.hok.fresh (Nat.le_of_lt (x.above y c (PySem.mem_of_lookup h)))
 ·unfold start
  show _=N.length
  rw[List.length_append,List.length_map,List.length_replicate];omega
theorem Cq{CX:kl}{P:Program}{w:World}{K:PySem.W.Frag}{mg:Str→Option Value}{base:Heap}{k:Nat}{f:Addr}{name qual:Str}{params:Arguments}{body:List Stmt}{scope:Scope}{dV kV doc pm cdv ct oc:Value}{an od:Option Addr}
  {osl:Array (Option Value)} {N ps:List Str} {sp:Sp} (lk:K.lookup f=some ⟨oc,od,.func (PySem.W.fnOf name qual params body scope dV kV doc pm an cdv ct),osl⟩) (hcd:PySem.W.codeIn K cdv qual=true) (S:bg N ps scope)
  (len:∀ vs H Q E,sp vs H Q E→vs.length=ps.length)
  (hbody:∀ (A:Around) (outer:List Env) (s:Shared) (H:Hp) (vs:List V) (Q:VK) (E:XK),Room k (A.deeper (envOfC qual scope s.heap.objs.size f cdv))→sp vs H Q E→
   ∃ t,PSs (ls CX P w K mg base N qual scope f cdv A outer s H E) body t∧t { nx:=fun _ H'=>Q .non H',rt:=Q } (start N vs) H) :
  iQ P w K mg base CX (k+1) f (PySem.W.fnOf name qual params body scope dV kV doc pm an cdv ct) ps sp:=by
 refine⟨len,fun A outer s H args us vs Q E hr e0 hb r hsp=>?_⟩
 have hl:=len _ _ _ _ hsp;have KX:K.In s.heap:=e0.mod.kin.keeps fun b o e=>(e0.bs b o e).1
 have lim:s.heap.NoLimit:=e0.mod.nolimit.keeps fun b o e=>(e0.bs b o e).1
 have hkind:∀ y∈ps.zip us,scope.names.lookup y.1=some .local∨(scope.names.lookup y.1=some .cell∧((cellsFrom (s.heap.objs.size+1) scope.names []).lookup y.1).isSome=true):=fun ⟨n,v⟩ hy=>by
  rcases S.par n (List.of_mem_zip hy).1 with q | q
  ·exact .inl q
  ·exact .inr ⟨q,PySem.W.cellsFrom_some _ _ _ (.inl q)⟩
 refine codeAny_call_function hr.depth (KX _ _ lk) rfl S.co S.gen rfl (PySem.W.codeRec_of KX hcd) (hb _ _ _ _ ?_)
 refine wpAny_newFunctionEnv_cells S.kind hkind fun env he s1 x=>?_
 subst he;refine⟨lim.keeps x.toInCall.keep,codeAny_func ?_⟩
 obtain⟨t,ht,hq⟩:=hbody A outer s H vs Q E (hr.deeper _) hsp
 have I:Inv (ls CX P w K mg base N qual scope f cdv A outer s H E) [] (start N vs) H s1:=vo S hr.hd e0 hl r x
 refine wpAny_mono (ht [] s1 (start N vs) H _ I hq) (fun fl s' hs=>?_) fun e s' hs=>hs
 have fin:∀ {σ':St} {H':Hp} {v:V} {u:Value},Inv (ls CX P w K mg base N qual scope f cdv A outer s H E) [] σ' H' s'→RelV v u→Q v H'→CE outer P w H s Q u s':=
  fun {σ' H' v u} J rv q=>⟨v,H',J.os,J.bare,J.base,J.hok,rv,q⟩
 cases fl with
 | ret u=>
  obtain⟨v,σ',H',J,rv,q⟩:=hs
  exact fin J rv q
 | next=>
  obtain⟨σ',H',J,q⟩:=hs
  exact fin (v:=V.non) (u:=Value.none) J rfl q
 | brk=>
  obtain⟨_,_,_,q⟩:=hs
  exact False.elim q
 | cont=>
  obtain⟨_,_,_,q⟩:=hs
  exact False.elim q
end L2
namespace L2
open PySem PySem.Spec PyProof.Rows
section
variable{X:Cx}{x:Str}{p pos:Pos}{e:Expr}{es:List Expr}{t:TA}{id T:String}{r:List V→Hp→VK→Prop}
def v3(r:List V→Hp→VK→Prop)(t:TA):TE:=fun σ H Q=>t σ H fun vs H1=>r vs H1 Q
theorem xI(hc:CallR X (.builtin id) r)(hg:Gl X x)(hm:X.mg x=none)(hv:bootBuiltins x=some (.builtin id))(ha:PA X (e::es) t)(hn:x ≠ "__name__" := by decide) (hdb:(x == ("__debug__" : Str))=false:=by decide)
  (he:starEach (e::es) X.env=(false,eval e X.env)::starEach es X.env:=by rfl) (hpl:(backTo pos (starEach es X.env)).any (·.1)=false:=by rfl):PE X (.Call (.Name x p) (e::es) [] pos) (v3 r t):=by
 intro pins s σ H Q I h
 refine wpAny_Call_Name_kw (iS I hg hm hv ?_ hn hdb)
 exact PyProof.Rows.callWith_builtin1 (bc (ha pos pins s σ H _ I h) fun us s1 ⟨vs,H1,I1,r1,q1⟩=>hc pins s1 σ H1 vs us Q I1 r1 q1) he hpl
theorem uS(hc:CallR X (.type T) r)(hg:Gl X x)(hm:X.mg x=none)(hv:bootBuiltins x=some (.type T))(ha:PA X (e::es) t)(hn:x ≠ "__name__" := by decide) (hdb:(x == ("__debug__" : Str))=false:=by decide)
  (he:starEach (e::es) X.env=(false,eval e X.env)::starEach es X.env:=by rfl) (hpl:(backTo pos (starEach es X.env)).any (·.1)=false:=by rfl):PE X (.Call (.Name x p) (e::es) [] pos) (v3 r t):=by
 intro pins s σ H Q I h
 refine wpAny_Call_Name_kw (iS I hg hm hv ?_ hn hdb)
 exact PyProof.Rows.callWith_type1 (bc (ha pos pins s σ H _ I h) fun us s1 ⟨vs,H1,I1,r1,q1⟩=>hc pins s1 σ H1 vs us Q I1 r1 q1) he hpl
end
end L2
namespace HT
open PySem PyProof.Rows
section
open PySem.SeqAt
open PySem.AutoSeq1 (wpAny_loadPart')
open PySem.MeetsSeq PySem.MeetsSeq2 PySem.MeetsSeq3
end
section
variable{prog:Program}{w:World}{A:Around}{E:Value→Shared→Prop}{s:Shared}
def sIx(n d:Nat):Option Int→Nat
 | none=>d
 | some v=>if v<0 then (v+(n:Int)).toNat else min v.toNat n
theorem sIx_none(n d:Nat):sIx n d none=d:=rfl
theorem sIx_nat(n d k:Nat):sIx n d (some (k:Int))=min k n:=by
 show (if (k:Int)<0 then ((k:Int)+(n:Int)).toNat else min (k:Int).toNat n)=min k n
 rw[if_neg (by omega),Int.toNat_natCast]
end
end HT
namespace L2
open PySem PySem.Spec PyProof.Rows
abbrev TO:=St→Hp→(Option Int→Hp→Prop)→Prop
def PO(X:Cx)(e:Option Expr)(t:TO):Prop:=
 ∀ (pins:List (Addr × Obj)) (s:Shared) (σ : St) (H:Hp) (Q:Option Int→Hp→Prop),Inv X pins σ H s→t σ H Q→
  wpAny (model X.prog X.w) X.A (evalPart e X.env) (fun u s'=>∃ o H',Inv X pins σ H' s'∧IsPart u o∧Q o H') X.xe s
def sw:TO:=fun _ H Q=>Q none H
def yA(t:TE):TO:=fun σ H Q=>t σ H fun x H1=>∃ i,x = .int i∧Q (some i) H1
theorem mD{ns:List Int}:∀ {us:List Value},Vals (ns.map V.int) us→IntsAre us ns:=by
 induction ns with
 | nil=>intro us r; rw[List.map_nil]at r; cases r; exact .nil
 | cons n ns ih=>
  intro us r
  rw[List.map_cons]at r
  cases r with
  | cons r1 r2=>
   obtain⟨t,e⟩:=r1
   subst e;exact .cons n t (ih r2)
section
variable{X:Cx}{e:Expr}{te:TE}{lo hi:Option Expr}{tl th:TO}{pos p2:Pos}
theorem m9:PO X none sw:=by
 intro pins s σ H Q I h
 rw[evalPart_none];exact wpAny_pure ⟨none,H,I,.none,h⟩
theorem fG(h:PE X e te):PO X (some e) (yA te):=by
 intro pins s σ H Q I hw
 rw[evalPart_some];refine bc (h pins s σ H _ I hw) fun u s1 ⟨x,H1,I1,r1,q1⟩=>?_
 obtain⟨i,rfl,q⟩:=q1
 obtain⟨t,rfl⟩:=r1
 exact⟨some i,H1,I1,.int i t,q⟩
def SlR(X:Cx)(r:V→Option Int→Option Int→Hp→VK→Prop):Prop:=
 ∀ (pins:List (Addr × Obj)) (s:Shared) (σ : St) (H:Hp) (x:V) (v vl vu:Value) (lo hi:Option Int) (sl:Addr) (Q:VK),Inv X pins σ H s→RelV x v→s.heap.IsSliceOf sl vl vu .none→IsPart vl lo→IsPart vu hi→r x lo hi H Q→
  ∃ T id,typeLookup (.type T) "__getitem__" = pure (some (.builtin id))∧s.TypeIs v T∧wpAny (model X.prog X.w) X.A (getItem v (.ref sl)) (EP X pins σ Q) X.xe s
def Cs(r:V→Option Int→Option Int→Hp→VK→Prop)(te:TE)(tl th:TO):TE:=fun σ H Q=>te σ H fun x H1=>tl σ H1 fun l H2=>th σ H2 fun u H3=>r x l u H3 Q
theorem p7{r:V→Option Int→Option Int→Hp→VK→Prop}(hr:SlR X r)(he:PE X e te)(hl:PO X lo tl)(hu:PO X hi th):PE X (.Subscript e (.Slice lo hi none p2) pos) (Cs r te tl th):=by
 intro pins s σ H Q I h
 refine Subscript_ (bc (he pins s σ H _ I h) fun v s1 ⟨x,H1,I1,r1,q1⟩=>?_)
 refine wpAny_Slice (bc (hl pins s1 σ H1 _ I1 q1) fun vl s2 ⟨l,H2,I2,pl,q2⟩=>bc (hu pins s2 σ H2 _ I2 q2) fun vu s3 ⟨u,H3,I3,pu,q3⟩=>?_)
 rw[evalPart_none];refine wpAny_pure ?_
 have I4:Inv X pins σ H3 { s3 with heap:=s3.heap.push { cls:=.type "slice", data:=.fields #[vl,vu,.none] } }:=I3.kept (t':=s3.toks) fun b ob q=>Heap.get?_push_of_some _ q
 obtain⟨T,id,hT,ht,hg⟩:=hr pins { s3 with heap:=s3.heap.push { cls:=.type "slice", data:=.fields #[vl,vu,.none] } } σ H3 x v vl vu l u s3.heap.objs.size Q I4 r1 (Heap.IsSliceOf.new ..) pl pu q3
 show wpAny (model X.prog X.w) X.A (subscriptTail e (.Slice lo hi none p2) v (.ref s3.heap.objs.size)) (EP X pins σ Q) X.xe { s3 with heap:=s3.heap.push { cls:=.type "slice", data:=.fields #[vl,vu,.none] } }
 exact tail_any (ops:=[.ref s3.heap.objs.size,v]) ht hT hg (by with_unfolding_all rfl)
def jG(xs:List V)(lo hi:Option Int):List V:=(xs.drop (HT.sIx xs.length 0 lo)).take (HT.sIx xs.length xs.length hi - HT.sIx xs.length 0 lo)
theorem q8(xs:List V)(lo hi:Option Int):(jG xs lo hi).length≤xs.length:=by
 unfold jG;rw[List.length_take,List.length_drop];omega
end
end L2
namespace L2
open PySem PySem.Spec PyProof.Rows
def lc(n:Nat)(i:Int):Option Nat:=if 0≤i then (if i<n then some i.toNat else none) else if -(n:Int)≤i then some (i+n).toNat else none
def dL{α : Type}(xs:List α)(i:Int):Option α:=(lc xs.length i).bind fun j=>xs[j]?
theorem rf{n:Nat}{i:Int}{j:Nat}(h:lc n i=some j):seqIndex? i n=some j∧j<n∧-(n:Int)≤i∧i<n:=by
 unfold lc at h
 by_cases h0:0≤i
 ·rw[if_pos h0]at h
  by_cases h1:i<n
  ·rw[if_pos h1]at h
   have e:i.toNat=j:=Option.some.inj h
   exact⟨by rw[seqIndex_of h0 h1,e],by omega,by omega,h1⟩
  ·rw[if_neg h1]at h; cases h
 ·rw[if_neg h0]at h
  by_cases h1:-(n:Int)≤i
  ·rw[if_pos h1]at h
   have e:(i+n).toNat=j:=Option.some.inj h
   exact⟨by rw[seqIndex_neg (by omega) h1,e],by omega,h1,by omega⟩
  ·rw[if_neg h1]at h; cases h
theorem nh{α : Type}{xs:List α}{i:Int}{v:α}(h:dL xs i=some v):∃ j,seqIndex? i xs.length=some j∧xs[j]? = some v∧j<xs.length∧-(xs.length:Int)≤i∧i<xs.length:=by
 unfold dL at h
 cases e:lc xs.length i with
 | none=>rw[e]at h; cases h
 | some j=>
  rw[e]at h
  obtain⟨h1,h2,h3,h4⟩:=rf e
  exact⟨j,h1,h,h2,h3,h4⟩
theorem aL{α : Type}{xs:List α}{j:Nat}{v:α}(h:xs[j]? = some v):dL xs (j:Int)=some v:=by
 have hj:j<xs.length:=(List.getElem?_eq_some_iff.mp h).1
 have e:lc xs.length (j:Int)=some j:=by
  unfold lc;rw[if_pos (by omega),if_pos (by omega)]; simp
 unfold dL; rw[e]; exact h
def y4(b:Expr):Prop:=∀ o i,subscripted b false o i=operate [o,i] (getItem o i)
def IxR(X:Cx)(r:R2):Prop:=
 ∀ (value slice:Expr) (pins:List (Addr × Obj)) (s:Shared) (σ : St) (H:Hp) (x y:V) (v u:Value) (Q:VK),Inv X pins σ H s→RelV x v→RelV y u→r x y H Q→
  subscripted slice false v u=operate [v,u] (getItem v u)→wpAny (model X.prog X.w) X.A (subscriptTail value slice v u) (EP X pins σ Q) X.xe s
def MtR(X:Cx)(id:String)(r:V→List V→Hp→VK→Prop):Prop:=
 ∀ (pins:List (Addr × Obj)) (s:Shared) (σ : St) (H:Hp) (x:V) (xs:List V) (v:Value) (us:List Value) (Q:VK),Inv X pins σ H s→RelV x v→Vals xs us→r x xs H Q→
  wpAny (model X.prog X.w) X.A (call (.builtin id) (v::us)) (EP X pins σ Q) X.xe s
section
variable{X:Cx}{a b:Expr}{ta tb:TE}{pos:Pos}
theorem IxR.or{r r':R2}(h:IxR X r)(h':IxR X r'):IxR X (fun x y H Q=>r x y H Q∨r' x y H Q):=by
 intro value slice pins s σ H x y v u Q I rx ry q hs
 rcases q with q | q
 ·exact h value slice pins s σ H x y v u Q I rx ry q hs
 ·exact h' value slice pins s σ H x y v u Q I rx ry q hs
theorem aw{r:R2}(hr:IxR X r)(ha:PE X a ta)(hb:PE X b tb)(hs:y4 b):PE X (.Subscript a b pos) (vX r ta tb):=by
 intro pins s σ H Q I h
 exact Subscript_ (xq ha hb I h fun v u s2 x y H2 I2 rx ry q=>hr a b pins s2 σ H2 x y v u Q I2 rx ry q (hs _ _))
def BF(K:PySem.W.Frag):R2:=fun x y H Q=>∃ p xs i v,x = .ref p∧y = .int i∧SqL K H p xs∧dL xs i=some v∧Q v H
def BO(K:PySem.W.Frag):R2:=fun x y H Q=>∃ p xs i v,x = .ref p∧y = .int i∧SqT K H p xs∧dL xs i=some v∧Q v H
def Bz:R2:=fun x y H Q=>∃ z i c,x = .str z∧y = .int i∧z.length≤sizeLine∧dL z.cps.toList i=some c∧Q (.str ⟨#[c]⟩) H
theorem ix_list:IxR X (BF X.K):=by
 intro value slice pins s σ H x y v u Q I rx ry h hs
 obtain⟨p,xs,i,z,rfl,rfl,hq,he,q⟩:=h
 cases rx;obtain⟨t,rfl⟩:=ry
 obtain⟨its,r,pl,hz⟩:=I.list hq
 obtain⟨j,h1,h2,h3,h4,h5⟩:=nh he
 obtain⟨w,ew,rw'⟩:=r.get h2
 have hl:=r.length;have hn:=jq;have fin:EP X pins σ Q w s:=⟨z,H,I,rw',q⟩
 by_cases h0:0≤i
 ·have hj:i.toNat=j:=by
   rw[seqIndex_of h0 h5]at h1
   exact Option.some.inj h1
  exact item_listR pl.isList h0 (by omega) (by rw[hj]; simpa using ew) fin hs
 ·have hj:(i+(its.toArray.size:Int)).toNat=j:=by
   rw[seqIndex_neg (by omega) h4]at h1
   rw[List.size_toArray,← hl];exact Option.some.inj h1
  exact subscriptTail_builtinR (x:=w) pl.isList.typeIs slot_list_getitem.lookup
   (wpAny_getItem_list_neg (Q:=fun r s'=>r=w∧EP X pins σ Q r s') pl.isList (by omega) (by rw[List.size_toArray] <;> omega) (by omega) (by rw[hj]; simpa using ew) ⟨rfl,fin⟩) hs
theorem ix_tup:IxR X (BO X.K):=by
 intro value slice pins s σ H x y v u Q I rx ry h hs
 obtain⟨p,xs,i,z,rfl,rfl,hq,he,q⟩:=h
 cases rx;obtain⟨t,rfl⟩:=ry
 obtain⟨its,r,pl,hz⟩:=I.tuple hq
 obtain⟨j,h1,h2,h3,h4,h5⟩:=nh he
 obtain⟨w,ew,rw'⟩:=r.get h2
 have hl:=r.length;have hn:=jq;have fin:EP X pins σ Q w s:=⟨z,H,I,rw',q⟩
 exact subscriptTail_builtinR (x:=w) pl.typeIs slot_tuple_getitem.lookup
  (getItem_tuple (j:=j) (Q:=fun r s'=>r=w∧EP X pins σ Q r s') pl (by omega) (by omega) (by rw[List.size_toArray,← hl]; exact h1) (by simpa using ew) ⟨rfl,fin⟩) hs
theorem z6:IxR X Bz:=by
 intro value slice pins s σ H x y v u Q I rx ry h hs
 obtain⟨z,i,c,rfl,rfl,hz,he,q⟩:=h
 obtain⟨t,rfl⟩:=rx
 obtain⟨t',rfl⟩:=ry
 obtain⟨j,h1,h2,h3,h4,h5⟩:=nh he
 have hl:z.cps.toList.length=z.length:=by simp[Str.length]
 rw[hl]at h1 h4 h5
 have hn:=jq
 exact tail_any (typeIs_str s z t) slot_str_getitem.lookup (getItem_str (c:=c) (by
  have e1:decide (i < -(2 ^ 63:Int))=false:=decide_eq_false (by omega)
  have e2:decide (i≥2 ^ 63)=false:=decide_eq_false (by omega)
  rw[e1,e2,Bool.or_false]) (by rw[h1]; simpa using h2) ⟨.str ⟨#[c]⟩,H,I.tok _,⟨_,rfl⟩,q⟩) hs
def F9(K:PySem.W.Frag):R2:=fun x y H Q=>BF K x y H Q∨BO K x y H Q∨Bz x y H Q
theorem Bf:IxR X (F9 X.K):=ix_list.or (ix_tup.or z6)
theorem sH(its:List Value)(n j:Nat)(u:Value):Obj.mapSeq (·.setIfInBounds j u) { cls:=.type "list", data:=.seq its.toArray n }={ cls:=.type "list", data:=.seq (its.set j u).toArray n }:=by
 simp[Obj.mapSeq]
theorem Inv.lst{pins:List (Addr × Obj)}{σ : St}{H:Hp}{s:Shared}{p:Addr}{xs:List V}(I:Inv X pins σ H s)(h:H p=some (.lst xs)) :
  ∃ (its:List Value) (n:Nat),Vals xs its∧s.heap.get? p=some { cls:=.type "list", data:=.seq its.toArray n }∧xs.length≤sizeLine:=by
 obtain⟨z,its,n,r,e⟩:=I.hok p _ h
 exact⟨its,n,r,e,z⟩
theorem Inv.lstUpd{pins:List (Addr × Obj)}{σ : St}{H:Hp}{s:Shared}{p:Addr}{xs ys:List V}{its its':List Value}{n n':Nat}{f:Obj→Obj}(I:Inv X pins σ H s)(h:H p=some (.lst xs))
  (ho:s.heap.get? p=some { cls:=.type "list", data:=.seq its.toArray n }) (hf:f { cls:=.type "list", data:=.seq its.toArray n }={ cls:=.type "list", data:=.seq its'.toArray n' }) (r:Vals ys its') (hz:ys.length≤sizeLine) (t:Nat) :
  Inv X pins σ (upd H p (.lst ys)) { s with heap:=s.heap.update p f,toks:=t }:=by
 have e:(s.heap.update p f).get? p=some { cls:=.type "list", data:=.seq its'.toArray n' }:=by
  rw[Heap.get?_update_self f ho (by rw[hf] <;> rfl),hf]
 refine I.write (x:=p) (e:=p) (by rw[h]; trivial) (.inl rfl) (fun b u hb q=>(Heap.get?_update_other _ _ (Ne.symm hb)).trans q) ⟨_,e⟩ ?_
 exact⟨hz,its',n',r,e⟩
def tE:V→V→V→Hp→(Hp→Prop)→Prop:=fun o i v H Q=>∃ p xs k j,o = .ref p∧i = .int k∧H p=some (.lst xs)∧lc xs.length k=some j∧Q (upd H p (.lst (xs.set j v)))
theorem xQ:PSet X tE:=by
 intro pins s σ H o i v ov iv u Q I ro ri rv h
 obtain⟨p,xs,k,j,rfl,rfl,hp,hj,q⟩:=h
 cases ro;obtain⟨t,rfl⟩:=ri
 obtain⟨its,n,r,ho,hz⟩:=I.lst hp
 obtain⟨h1,h2,h3,h4⟩:=rf hj
 have hl:=r.length;have hn:=jq
 have I':Inv X pins σ (upd H p (.lst (xs.set j v))) { s with heap:=s.heap.update p (Obj.mapSeq (·.setIfInBounds j u)) }:=
  I.lstUpd hp ho (sH its n j u) (r.set rv j) (by rw[List.length_set]; exact hz) s.toks
 by_cases h0:0≤k
 ·have hk:k.toNat=j:=by
   rw[seqIndex_of h0 h4]at h1
   exact Option.some.inj h1
  exact PySem.W.ki_setAt ho h0 (by omega) (by rw[List.size_toArray,← hl]; exact h4) (by rw[hk]; exact⟨_,I',q⟩)
 ·have hk:(k+(its.toArray.size:Int)).toNat=j:=by
   rw[seqIndex_neg (by omega) h3]at h1
   rw[List.size_toArray,← hl];exact Option.some.inj h1
  exact PySem.W.ki_setBack ho (by omega) (by rw[List.size_toArray,← hl]; exact h3) (by omega) (by rw[hk]; exact⟨_,I',q⟩)
theorem qm(lo hi:Option Int)(n:Nat):(sliceBounds lo hi none n).1=((HT.sIx n 0 lo:Nat):Int)∧(sliceBounds lo hi none n).2.1=((HT.sIx n n hi:Nat):Int)∧(sliceBounds lo hi none n).2.2=1:=by
 refine⟨?_,?_,rfl⟩
 ·cases lo with
  | none=>simp[sliceBounds,HT.sIx]
  | some i=>
   simp only[sliceBounds,HT.sIx,Option.getD_none,show (1:Int)>0 by decide,if_true]
   by_cases h:i<0
   ·simp only[h,if_true] <;> omega
   ·simp only[h,if_false] <;> omega
 ·cases hi with
  | none=>simp[sliceBounds,HT.sIx]
  | some i=>
   simp only[sliceBounds,HT.sIx,Option.getD_none,show (1:Int)>0 by decide,if_true]
   by_cases h:i<0
   ·simp only[h,if_true] <;> omega
   ·simp only[h,if_false] <;> omega
theorem oA(its:List Value)(lo hi:Option Int):slicePick its.toArray lo hi none=((its.drop (HT.sIx its.length 0 lo)).take (HT.sIx its.length its.length hi - HT.sIx its.length 0 lo)).toArray:=by
 obtain⟨h1,h2,h3⟩:=qm lo hi its.toArray.size
 unfold slicePick;rw[h1,h2,h3];simp only[sliceRange_one,pick_run,List.size_toArray] <;> rfl
def xi(K:PySem.W.Frag):V→Option Int→Option Int→Hp→VK→Prop:=fun x lo hi H Q=>∃ a xs,x = .ref a∧SqL K H a xs∧∀ p,H p=none→Q (.ref p) (upd H p (.lst (jG xs lo hi)))
theorem yU:SlR X (xi X.K):=by
 intro pins s σ H x v vl vu lo hi sl Q I rx hs pl pu h
 obtain⟨a,xs,rfl,hx,q⟩:=h
 cases rx;obtain⟨its,r,ht,hz⟩:=I.list hx
 have hlen:=r.length;refine⟨"list", _,slot_list_getitem.lookup,ht.isList.typeIs,?_⟩
 refine wpAny_getItem_list_slice ht.isList hs pl pu .none (by simp) ?_ (by rw[List.size_toArray] <;> omega)
 rw[oA,← hlen];refine⟨.ref s.heap.objs.size,_,I.laid (t':=s.toks) (o:=.lst (jG xs lo hi)) (fun b ob q=>Heap.get?_push_of_some _ q) (Nat.le_refl _) ?_,rfl,q _ (I.hok.fresh (Nat.le_refl _))⟩
 exact⟨Nat.le_trans (q8 xs lo hi) hz,_,0,(r.drop (HT.sIx xs.length 0 lo)).take (HT.sIx xs.length xs.length hi - HT.sIx xs.length 0 lo),Heap.get?_push_size _ rfl⟩
def bR:V→Bool
 | .non=>true
 | .bl _=>true
 | .int _=>true
 | .str _=>true
 | _=>false
def gH:V→V→Bool
 | .non,.non=>true
 | .bl a,.bl b=>a == b
 | .bl a,.int b=>(if a then 1 else 0) == b
 | .int a,.bl b=>a == (if b then 1 else 0)
 | .int a,.int b=>a == b
 | .str a,.str b=>a == b
 | _,_=>false
theorem js{A:Around}{s:Shared}{y x:V}{u v:Value}(ry:RelV y u)(rx:RelV x v)(fy:bR y=true)(fx:bR x=true):SeqAt.EqAt A s u v (gH y x):=by
 cases y with
 | non=>
  cases ry
  cases x with
  | non=>cases rx; exact SeqAt.EqAt.same _
  | bl b=>cases rx; exact SeqAt.EqAt.none_bool b
  | int b=>obtain⟨t,rfl⟩:=rx; exact SeqAt.EqAt.none_int b t
  | str b=>obtain⟨t,rfl⟩:=rx; exact SeqAt.EqAt.none_str b t
  | _=>exact absurd (show false=true from fx) Bool.false_ne_true
 | bl a=>
  cases ry
  cases x with
  | non=>cases rx; exact SeqAt.EqAt.bool_none a
  | bl b=>cases rx; exact SeqAt.EqAt.bool_bool a b
  | int b=>obtain⟨t,rfl⟩:=rx; exact SeqAt.EqAt.bool_int a b t
  | str b=>obtain⟨t,rfl⟩:=rx; exact SeqAt.EqAt.bool_str a b t
  | _=>exact absurd (show false=true from fx) Bool.false_ne_true
 | int a=>
  obtain⟨t',rfl⟩:=ry
  cases x with
  | non=>cases rx; exact SeqAt.EqAt.int_none a t'
  | bl b=>cases rx; exact SeqAt.EqAt.int_bool a t' b
  | int b=>obtain⟨t,rfl⟩:=rx; exact SeqAt.EqAt.int_int a t' b t
  | str b=>obtain⟨t,rfl⟩:=rx; exact SeqAt.EqAt.int_str a t' b t
  | _=>exact absurd (show false=true from fx) Bool.false_ne_true
 | str a=>
  obtain⟨t',rfl⟩:=ry
  cases x with
  | non=>cases rx; exact SeqAt.EqAt.str_none a t'
  | bl b=>cases rx; exact SeqAt.EqAt.str_bool a t' b
  | int b=>obtain⟨t,rfl⟩:=rx; exact SeqAt.EqAt.str_int a t' b t
  | str b=>obtain⟨t,rfl⟩:=rx; exact SeqAt.EqAt.str_str a t' b t
  | _=>exact absurd (show false=true from fx) Bool.false_ne_true
 | _=>exact absurd (show false=true from fy) Bool.false_ne_true
def j4(x:V)(u:Value):Bool:=match u with
 | .none=>gH .non x
 | .bool b=>gH (.bl b) x
 | .int i _=>gH (.int i) x
 | .str z _=>gH (.str z) x
 | _=>false
theorem u_{x y:V}{u:Value}(r:RelV y u)(f:bR y=true):j4 x u=gH y x:=by
 cases y with
 | non=>cases r; rfl
 | bl b=>cases r; rfl
 | int i=>obtain⟨t,rfl⟩:=r; rfl
 | str z=>obtain⟨t,rfl⟩:=r; rfl
 | _=>exact absurd (show false=true from f) Bool.false_ne_true
theorem m_{x:V}:∀ {xs:List V} {us:List Value},Vals xs us→xs.all bR=true→us.any (j4 x)=xs.any fun y=>gH y x
 | _,_,.nil,_=>rfl
 | y::xs,u::us,.cons r t,f=>by
  rw[List.all_cons,Bool.and_eq_true]at f
  rw[List.any_cons,List.any_cons,u_ r f.1,m_ t f.2]
theorem lq{A:Around}{s:Shared}{x:V}{v:Value}(rx:RelV x v)(fx:bR x=true):∀ {xs:List V} {us:List Value},Vals xs us→xs.all bR=true→∀ u∈us,SeqAt.EqAt A s u v (j4 x u)
 | _,_,.nil,_=>fun u hu=>by cases hu
 | y::xs,u::us,.cons r t,f=>fun u' hu=>by
  rw[List.all_cons,Bool.and_eq_true]at f
  rcases List.mem_cons.mp hu with rfl | hu
  ·rw[u_ r f.1]; exact js r rx f.1 fx
  ·exact lq rx fx t f.2 u' hu
def pQ(x:V)(xs:List V):Bool:=xs.any fun y=>gH y x
def Fn(K:PySem.W.Frag)(neg:Bool):R2:=fun x y H Q=>∃ p xs,y = .ref p∧(SqL K H p xs∨SqT K H p xs)∧bR x=true∧xs.all bR=true∧Q (.bl (if neg then !pQ x xs else pQ x xs)) H
theorem uV:OpR X (compareOp .In) (Fn X.K false):=by
 intro pins s σ H x y v u Q I rx ry h
 obtain⟨p,xs,rfl,hq,fx,fs,q⟩:=h
 cases ry;rcases hq with hq | hq
 ·obtain⟨its,r,pl,hz⟩:=I.list hq
  refine SeqAt.in_listAt (j4 x) pl.isList (fun w hw=>lq rx fx r fs w (by simpa using hw)) ⟨.bl _,H,I,rfl,?_⟩
  rw[show its.toArray.any (j4 x)=its.any (j4 x) by simp,m_ r fs]
  exact q
 ·obtain⟨its,r,pl,hz⟩:=I.tuple hq
  refine SeqAt.in_tupleAt (j4 x) pl (fun w hw=>lq rx fx r fs w (by simpa using hw)) ⟨.bl _,H,I,rfl,?_⟩
  rw[show its.toArray.any (j4 x)=its.any (j4 x) by simp,m_ r fs]
  exact q
theorem pL:CallR X (.builtin "len") (fun xs H Q=>∃ p ys,xs=[.ref p]∧(SqL X.K H p ys∨SqT X.K H p ys)∧Q (.int ys.length) H):=by
 intro pins s σ H xs us Q I r h
 obtain⟨p,ys,rfl,hq,q⟩:=h
 obtain⟨u,rfl,rx⟩:=cB r
 cases rx;have hn:=jq;rcases hq with hq | hq
 ·obtain⟨its,r',pl,hz⟩:=I.list hq
  have hlen:=r'.length;exact Calls.call_len_list pl.isList (by simp only[List.size_toArray] <;> omega) ⟨.int ys.length,H,I.tok _,⟨s.toks+1,by rw[List.size_toArray,hlen]⟩,q⟩
 ·obtain⟨its,r',pl,hz⟩:=I.tuple hq
  have hlen:=r'.length;exact len_tuple pl (by simp only[List.size_toArray] <;> omega) ⟨.int ys.length,H,I.tok _,⟨s.toks+1,by rw[List.size_toArray,hlen]⟩,q⟩
theorem pS:CallR X (.builtin "len") (fun xs H Q=>∃ z,xs=[.str z]∧z.length≤sizeLine∧Q (.int z.length) H):=by
 intro pins s σ H xs us Q I r h
 obtain⟨z,rfl,hz,q⟩:=h
 obtain⟨u,rfl,t,rfl⟩:=cB r
 have hn:=jq;exact len_str (by omega) ⟨.int z.length,H,I.tok _,⟨_,rfl⟩,q⟩
theorem qA:CallR X (.type "list") (fun xs H Q=>∃ p ys,xs=[.ref p]∧(SqL X.K H p ys∨SqT X.K H p ys)∧∀ l,H l=none→Q (.ref l) (upd H l (.lst ys))):=by
 intro pins s σ H xs us Q I r h
 obtain⟨p,ys,rfl,hq,q⟩:=h
 obtain⟨u,rfl,rx⟩:=cB r
 cases rx
 have fin:∀ (its:List Value),Vals ys its→ys.length≤sizeLine→∀ (h':Heap) (c':Nat),(∀ b o',s.heap.get? b=some o'→h'.get? b=some o')→
   h'.get? s.heap.objs.size=some { cls:=.type "list", dict:=none,data:=.seq its.toArray c',slots:=#[] }→EP X pins σ Q (.ref s.heap.objs.size) { s with heap:=h' }:=fun its r' hz h' c' kp e=>
  ⟨.ref s.heap.objs.size,_,I.laid (t':=s.toks) kp (Nat.le_refl _) (show ObjOk X.prog X.w _ h' _ (.lst ys) from ⟨hz,its,c',r',e⟩),rfl,q _ (I.hok.fresh (Nat.le_refl _))⟩
 rcases hq with hq | hq
 ·obtain⟨its,r',pl,hz⟩:=I.list hq
  have hlen:=r'.length;obtain⟨o,ho,hc,n,hd⟩:=pl.isList
  exact call_list_seq p (.inl rfl) ho hc hd (fun h' c' kp e=>fin its r' hz h' c' kp e) (by simp only[List.size_toArray] <;> omega)
 ·obtain⟨its,r',pl,hz⟩:=I.tuple hq
  have hlen:=r'.length;obtain⟨o,ho,hc,n,hd⟩:=pl
  exact call_list_seq p (.inr rfl) ho hc hd (fun h' c' kp e=>fin its r' hz h' c' kp e) (by simp only[List.size_toArray] <;> omega)
theorem ox:CallR X (.type "tuple") (fun xs H Q=>∃ p ys,xs=[.ref p]∧((SqL X.K H p ys∧∀ l,H l=none→Q (.ref l) (upd H l (.tup ys)))∨(SqT X.K H p ys∧Q (.ref p) H))):=by
 intro pins s σ H xs us Q I r h
 obtain⟨p,ys,rfl,h⟩:=h
 obtain⟨u,rfl,rx⟩:=cB r
 cases rx;rcases h with ⟨hq,q⟩ | ⟨hq,q⟩
 ·obtain⟨its,r',pl,hz⟩:=I.list hq
  have hlen:=r'.length;refine call_tuple_list pl.isList (fun h' kp=>?_) (by simp only[List.size_toArray] <;> omega)
  have I1:Inv X pins σ H { s with heap:=h' }:=I.kept (t':=s.toks) kp
  have I2:Inv X pins σ (upd H h'.objs.size (.tup ys)) { s with heap:=h'.push { cls:=.type "tuple", data:=.seq its.toArray } }:=
   I1.laid (t':=s.toks) (fun b o e=>Heap.get?_push_of_some _ e) (Nat.le_refl _) (show ObjOk X.prog X.w _ _ _ (.tup ys) from ⟨hz,its,r',IsTupN.new _ _⟩)
  exact⟨.ref h'.objs.size,_,I2,rfl,q _ (I1.hok.fresh (Nat.le_refl _))⟩
 ·obtain⟨its,r',pl,hz⟩:=I.tuple hq
  exact call_tuple_same pl ⟨.ref p,H,I,rfl,q⟩
def qG(K:PySem.W.Frag)(T:String)(x:V)(H:Hp):Prop:=match x with
 | .str _=>T = "str"
 | .int _=>T = "int"
 | .ref p=>(T = "list" ∧ ∃ xs,SqL K H p xs)∨(T = "tuple" ∧ ∃ o,K.lookup p=some o∧o.cls = .type "tuple" ∧ o.dict=none)∨
   (T = "dict" ∧ ((∃ kvs,H p=some (.dK kvs))∨∃ kvs,H p=some (.dT kvs)))∨(T = "set" ∧ ∃ S n,H p=some (.set S n))
 | _=>False
theorem vh{pins:List (Addr × Obj)}{σ : St}{H:Hp}{s:Shared}{T:String}{x:V}{v:Value}(I:Inv X pins σ H s)(r:RelV x v)(ty:qG X.K T x H) :
  s.TypeIs v T∧∀ a,v = .ref a→∃ ob,s.heap.get? a=some ob∧ob.dict=none:=by
 cases x with
 | str z=>
  obtain⟨t,rfl⟩:=r
  cases (show T = "str" from ty)
  exact⟨typeIs_str s z t,fun _ e=>nomatch e⟩
 | int i=>
  obtain⟨t,rfl⟩:=r
  cases (show T = "int" from ty)
  exact⟨typeIs_int s i t,fun _ e=>nomatch e⟩
 | ref p=>
  cases r;rcases ty with ⟨rfl,xs,hq⟩ | ⟨rfl,o,hk,hc,hd⟩ | ⟨rfl,hk⟩ | ⟨rfl,S,n,hk⟩
  ·obtain⟨its,_,pl,_⟩:=I.list hq
   refine⟨pl.isList.typeIs,fun a e=>?_⟩
   cases e;obtain⟨o,n,e,c,hd,_⟩:=pl
   exact⟨o,e,hd⟩
  ·refine⟨⟨o,I.kIn p o hk,hc⟩,fun a e=>?_⟩
   cases e;exact⟨o,I.kIn _ o hk,hd⟩
  ·have z:∃ o,s.heap.get? p=some o∧o.ExactDict:=by
    rcases hk with ⟨kvs,hk⟩ | ⟨kvs,hk⟩
    ·obtain⟨_,_,_,_,o,_,_,e,ex,_⟩:=I.hok p _ hk
     exact⟨o,e,ex⟩
    ·obtain⟨_,_,_,_,o,_,_,e,ex,_⟩:=I.hok p _ hk
     exact⟨o,e,ex⟩
   obtain⟨o,e,ex⟩:=z
   refine⟨⟨o,e,ex.1⟩,fun a e2=>?_⟩
   cases e2;exact⟨o,e,ex.2.1⟩
  ·obtain⟨o,_,_,_,e,ex,_⟩:=I.hok p _ hk
   refine⟨⟨o,e,ex.1⟩,fun a e2=>?_⟩
   cases e2;exact⟨o,e,ex.2.1⟩
 | _=>exact False.elim ty
def w5(K:PySem.W.Frag)(T:String)(r:V→List V→Hp→VK→Prop)(to:TE):TE:=fun σ H Q=>to σ H fun x H1=>qG K T x H1∧r x [] H1 Q
def ya(K:PySem.W.Frag)(T:String)(r:V→List V→Hp→VK→Prop)(to:TE)(t:TA):TE:=fun σ H Q=>to σ H fun x H1=>qG K T x H1∧t σ H1 fun xs H2=>r x xs H2 Q
variable{o e:Expr}{es:List Expr}{to:TE}{t:TA}{name:Str}{apos cpos:Pos}{T id:String}{r:V→List V→Hp→VK→Prop}
theorem BQ(pa:PlainAttrs T)(slot:Slot T name id)(hty:typeOf (.builtin id)=pure (.type "method_descriptor")) (hm:MtR X id r) (ho:PE X o to)
  (hbase:attributeBase o name X.env (eval o X.env)=eval o X.env:=by rfl) (hline:(apos.endLine == cpos.line)=true:=by rfl):PE X (.Call (.Attribute o name apos) [] [] cpos) (w5 X.K T r to):=by
 intro pins s σ H Q I h
 refine wpAny_Call_method0_late hbase hline (bc (ho pins s σ H _ I h) fun v s1 ⟨x,H1,I1,r1,ty,q1⟩=>?_)
 obtain⟨h1,h2⟩:=vh I1 r1 ty
 exact⟨T,id,pa,slot,hty,h1,h2,Calls.callWith_builtin rfl (PySem.evalArgs_none (hm pins s1 σ H1 x [] v [] Q I1 r1 .nil q1))⟩
theorem B5(pa:PlainAttrs T)(slot:Slot T name id)(hty:typeOf (.builtin id)=pure (.type "method_descriptor")) (hm:MtR X id r) (ho:PE X o to) (ha:PA X (e::es) t)
  (hbase:attributeBase o name X.env (eval o X.env)=eval o X.env:=by rfl)
  (hfew:((backTo cpos (starEach (e::es) X.env)).all (fun x=>!x.1)&&(backToKw cpos (keywordEach [] X.env)).all (fun x=>x.1.isSome)
   && decide ((e::es).length+([]:List Keyword).length+(if ([]:List Keyword).isEmpty then 0 else 1)<30))=true:=by rfl)
  (hline:(apos.endLine == cpos.line)=true:=by rfl) (hs:starEach (e::es) X.env=(false,eval e X.env)::starEach es X.env:=by rfl) (hplain:(backTo cpos (starEach es X.env)).any (·.1)=false:=by rfl) :
  PE X (.Call (.Attribute o name apos) (e::es) [] cpos) (ya X.K T r to t):=by
 intro pins s σ H Q I h
 refine wpAny_Call_method_late hbase hfew hline rfl (bc (ho pins s σ H _ I h) fun v s1 ⟨x,H1,I1,r1,ty,q1⟩=>?_)
 obtain⟨h1,h2⟩:=vh I1 r1 ty
 refine⟨T,id,pa,slot,hty,h1,h2,?_⟩
 have hA:=ha cpos pins s1 σ H1 _ I1 q1;rw[hs]at hA ⊢
 refine Calls.callWith_builtin (by show (false||(backTo cpos (starEach es X.env)).any (·.1))=false; rw[hplain] <;> rfl) (Calls.evalArgs_plain ?_)
 exact bc hA fun us s2 ⟨vs,H2,I2,r2,q2⟩=>hm pins s2 σ H2 x vs v us Q I2 r1 r2 q2
/- xs.append(e), list.index on a module's tuple .. are MtR facts of 06m -/
end
end L2
namespace L2
open PySem PySem.Spec PyProof.Rows
def CI(X:Cx)(id:String)(r:V→List V→Hp→VK→Prop):Prop:=
 ∀ (pins:List (Addr × Obj)) (s:Shared) (σ : St) (H:Hp) (x:V) (xs:List V) (v:Value) (us:List Value) (Q:VK),Inv X pins σ H s→RelV x v→Vals xs us→r x xs H Q→
  wpAny (model X.prog X.w) X.A (call (.builtin id) (v::us)) (EP X pins σ Q) X.xe s
theorem Vals.one:∀ {x:V} {us:List Value},Vals [x] us→∃ u,us=[u]∧RelV x u
 | _,_,.cons r .nil=>⟨_,rfl,r⟩
theorem Vals.zero:∀ {us:List Value},Vals [] us→us=[]
 | _,.nil=>rfl
theorem Vals.dropLast{xs:List V}{us:List Value}(h:Vals xs us):Vals xs.dropLast us.dropLast:=by
 induction h with
 | nil=>exact .nil
 | cons r t ih=>
  cases t with
  | nil=>exact .nil
  | cons q t'=>exact .cons r ih
theorem sW{α : Type}(l:List α):l.eraseIdx (l.length - 1)=l.dropLast:=by
 induction l with
 | nil=>rfl
 | cons a r ih=>
  cases r with
  | nil=>rfl
  | cons b r=>
   have e:(a::b::r).length - 1=((b::r).length - 1)+1:=by
    have h1:(a::b::r).length=r.length+2:=rfl
    have h2:(b::r).length=r.length+1:=rfl
    omega
   rw[e,List.eraseIdx_cons_succ,ih]
   all_goals rfl
section
variable{X:Cx}{pins:List (Addr × Obj)}{σ : St}{H:Hp}{s:Shared}{l b:Addr}{xs ys zs:List V}
theorem Inv.lset{its its':List Value}{n:Nat}{f:Array Value→Array Value}{t':Nat}(I:Inv X pins σ H s)(hH:H l=some (.lst xs))
  (e:s.heap.get? l=some { cls:=.type "list", data:=.seq its.toArray n }) (hf:f its.toArray=its'.toArray) (hv:Vals ys its') (hz:ys.length≤sizeLine) :
  Inv X pins σ (upd H l (.lst ys)) { s with heap:=s.heap.update l (Obj.mapSeq f),toks:=t' }:=by
 have q:=PySem.IsL.update e f;rw[hf]at q
 refine I.write (x:=l) (e:=l) (by rw[hH]; exact trivial) (.inl rfl) (fun b' u hb hu=>(Heap.get?_update_other s.heap (Obj.mapSeq f) (Ne.symm hb)).trans hu) ⟨_,q⟩ ?_
 exact⟨hz,its',_,hv,q⟩
theorem Inv.lnew{its:List Value}{t':Nat}(I:Inv X pins σ H s)(hv:Vals ys its)(hz:ys.length≤sizeLine) :
  Inv X pins σ (upd H s.heap.objs.size (.lst ys)) { s with heap:=s.heap.push { cls:=.type "list", data:=.seq its.toArray },toks:=t' }:=
 I.laid (fun _ _ q=>Heap.get?_push_of_some _ q) (Nat.le_refl _) ⟨hz,its,0,hv,Heap.get?_push_size _ rfl⟩
theorem Inv.fresh(I:Inv X pins σ H s):H s.heap.objs.size=none:=I.hok.fresh (Nat.le_refl _)
theorem Inv.lstM(I:Inv X pins σ H s)(hH:H l=some (.lst xs)):xs.length≤sizeLine∧∃ (its:List Value) (n:Nat),Vals xs its∧xs.length=its.length∧s.heap.get? l=some { cls:=.type "list", data:=.seq its.toArray n }:=by
 obtain⟨z,its,n,r,e⟩:=I.hok l _ hH
 exact⟨z,its,n,r,r.length,e⟩
end
section
variable{X:Cx}
def kK:V→List V→Hp→VK→Prop:=fun x vs H Q=>∃ l xs y,x = .ref l∧vs=[y]∧H l=some (.lst xs)∧xs.length<sizeLine∧Q .non (upd H l (.lst (xs++[y])))
theorem j_:CI X "list.append" kK:=by
 intro pins s σ H x vs v us Q I rx rv h
 obtain⟨l,xs,y,rfl,rfl,hH,hz,q⟩:=h
 cases rx;obtain⟨u,rfl,ru⟩:=rv.one
 obtain⟨z,its,n,r,hl,e⟩:=I.lstM hH
 refine call_meets F.slot_list_append ⟨_,e,rfl⟩ F.entry_list_append (F.args_list_append_2 _ _) (PySem.list_append l its.toArray n u (by rw[List.size_toArray]; omega)) ⟨e,?_⟩
 refine⟨.non,_,I.lset (its':=its++[u]) hH e (by simp) (r.append (.cons ru .nil)) ?_,rfl,q⟩
 rw[List.length_append,List.length_singleton];omega
def wc:V→List V→Hp→VK→Prop:=fun x vs H Q=>∃ l xs y,x = .ref l∧vs=[]∧H l=some (.lst xs)∧xs[xs.length - 1]? = some y∧Q y (upd H l (.lst xs.dropLast))
theorem zS:CI X "list.pop" wc:=by
 intro pins s σ H x vs v us Q I rx rv h
 obtain⟨l,xs,y,rfl,rfl,hH,hy,q⟩:=h
 cases rx;have hus:=rv.zero;subst hus;obtain⟨z,its,n,r,hl,e⟩:=I.lstM hH
 obtain⟨u,hu,ru⟩:=r.get hy
 have hy':its.toArray[its.toArray.size - 1]? = some u:=by
  show its.toArray[its.length - 1]? = some u
  rw[← Array.getElem?_toList,← hl];exact hu
 refine call_meets F.slot_list_pop ⟨_,e,rfl⟩ F.entry_list_pop (F.args_list_pop_1 _) (MeetsSeq.list_pop_last l its.toArray n u hy' (by rw[List.size_toArray]; omega)) ⟨e,?_⟩
 refine⟨y,_,I.lset (its':=its.dropLast) hH e ?_ r.dropLast ?_,ru,q⟩
 ·show its.toArray.eraseIdxIfInBounds (its.toArray.size - 1)=its.dropLast.toArray
  rw[List.size_toArray,List.eraseIdxIfInBounds_toArray,sW]
 ·rw[List.length_dropLast]
  omega
def EO:R2:=fun x y H Q=>∃ l b xs zs,x = .ref l∧y = .ref b∧H l=some (.lst xs)∧H b=some (.lst zs)∧xs.length+zs.length≤sizeLine∧∀ p,H p=none→Q (.ref p) (upd H p (.lst (xs++zs)))
theorem AN:OpR X (binaryOp .Add) EO:=by
 intro pins s σ H x y v u Q I rx ry h
 obtain⟨l,b,xs,zs,rfl,rfl,hH,hB,hz,q⟩:=h
 cases rx
 cases ry;obtain⟨z,its,n,r,hl,e⟩:=I.lstM hH
 obtain⟨z2,its2,n2,r2,hl2,e2⟩:=I.lstM hB
 refine PySem.P.add_list e e2 ?_ (by rw[List.size_toArray,List.size_toArray]; omega)
 have ea:its.toArray++its2.toArray=(its++its2).toArray:=by simp
 rw[ea];exact⟨.ref _,_,I.lnew (t':=s.toks) (r.append r2) (by rw[List.length_append]; omega),rfl,q _ I.fresh⟩
end
section
variable{prog:Program}{w:World}{A:Around}{E:Value→Shared→Prop}{s:Shared}
end
section
variable{X:Cx}
end
end L2
namespace L2
open PySem PySem.Spec PyProof.Rows
section
variable{κ : Type}[DecidableEq κ]
def aI(kvs:List (κ × V))(k:κ):Option V:=(kvs.find? fun kv=>decide (kv.1=k)).map (·.2)
def cM(kvs:List (κ × V))(k:κ)(v:V):List (κ × V):=
 if (kvs.any fun kv=>decide (kv.1=k))=true then kvs.map (fun kv=>if kv.1=k then (kv.1,v) else kv) else kvs++[(k,v)]
theorem v_{k:κ}:aI ([]:List (κ × V)) k=none:=rfl
theorem cG{p:κ × V}{r:List (κ × V)}{k:κ}(e:p.1=k):aI (p::r) k=some p.2:=by simp[aI,List.find?_cons,e]
theorem cH{p:κ × V}{r:List (κ × V)}{k:κ}(e:¬ p.1=k):aI (p::r) k=aI r k:=by simp[aI,List.find?_cons,e]
theorem jD(k:κ):∀ kvs:List (κ × V),(kvs.any fun kv=>decide (kv.1=k))=(aI kvs k).isSome
 | []=>rfl
 | p::r=>by
  rw[List.any_cons]
  by_cases e:p.1=k
  ·simp only[cG e,decide_eq_true e,Bool.true_or,Option.isSome_some]
  ·rw[cH e,decide_eq_false e,Bool.false_or]; exact jD k r
theorem pc(k j:κ)(y:V):∀ kvs:List (κ × V),aI (kvs.map fun kv=>if kv.1=k then (kv.1,y) else kv) j=(aI kvs j).map fun x=>if j=k then y else x
 | []=>rfl
 | p::r=>by
  have ih:=pc k j y r;rw[List.map_cons]
  by_cases h:p.1=k
  ·rw[if_pos h]
   by_cases e:p.1=j
   ·rw[cG (p:=(p.1,y)) e,cG e,Option.map_some,if_pos (e.symm.trans h)]
   ·rw[cH (p:=(p.1,y)) e,cH e,ih]
  ·rw[if_neg h]
   by_cases e:p.1=j
   ·rw[cG (p:=p) e,cG e,Option.map_some,if_neg (fun z=>h (e.trans z))]
   ·rw[cH (p:=p) e,cH e,ih]
theorem ja(k j:κ)(y:V):∀ kvs:List (κ × V),aI kvs k=none→aI (kvs++[(k,y)]) j=if j=k then some y else aI kvs j
 | [],_=>by
  by_cases e:k=j
  ·rw[if_pos e.symm]; exact cG (p:=(k,y)) e
  ·rw[if_neg (fun z=>e z.symm)]; exact cH (p:=(k,y)) e
 | p::r,hn=>by
  rw[List.cons_append];have hk:¬ p.1=k:=fun z=>by rw[cG z]at hn; cases hn
  rw[cH hk]at hn
  have ih:=ja k j y r hn
  by_cases e:p.1=j
  ·rw[cG e,cG e,if_neg (fun z=>hk (e.trans z))]
  ·rw[cH e,cH e,ih]
theorem jL(kvs:List (κ × V))(k j:κ)(y:V):aI (cM kvs k y) j=if j=k then some y else aI kvs j:=by
 unfold cM
 by_cases a:(kvs.any fun kv=>decide (kv.1=k))=true
 ·rw[if_pos a,pc]
  rw[jD]at a
  by_cases e:j=k
  ·obtain⟨x,hx⟩:=Option.isSome_iff_exists.mp a
   rw[if_pos e,e,hx,Option.map_some,if_pos rfl]
  ·rw[if_neg e]
   cases aI kvs j with
   | none=>rfl
   | some x=>rw[Option.map_some,if_neg e]
 ·rw[if_neg a]
  refine ja k j y kvs ?_
  rw[jD]at a
  cases q:aI kvs k with
  | none=>rfl
  | some x=>rw[q]at a; exact(a rfl).elim
theorem dC(kvs:List (κ × V))(k:κ)(v:V):(cM kvs k v).length≤kvs.length+1:=by
 unfold cM;split
 ·rw[List.length_map]; omega
 ·rw[List.length_append,List.length_cons,List.length_nil]; omega
theorem RelO.isSome_eq{o:Option V}{u:Option Value}(r:RelO o u):o.isSome=u.isSome:=by
 cases o with
 | none=>cases u with
  | none=>rfl
  | some _=>exact(show False from r).elim
 | some _=>cases u with
  | none=>exact(show False from r).elim
  | some _=>rfl
theorem RelO.getD{o:Option V}{u:Option Value}{d:V}{d':Value}(r:RelO o u)(rd:RelV d d'):RelV (o.getD d) (u.getD d'):=by
 cases o with
 | none=>cases u with
  | none=>exact rd
  | some _=>exact(show False from r).elim
 | some _=>cases u with
  | none=>exact(show False from r).elim
  | some _=>exact r
theorem KV.val{kvs:List (κ × V)}{vs:List (κ × Value)}(r:KV kvs vs)(k:κ):RelO (aI kvs k) (valueAt vs k):=by
 unfold KV at r
 induction r with
 | nil=>exact True.intro
 | @cons p q ps qs h t ih=>
  obtain⟨h1,h2⟩:=h
  by_cases e:p.1=k
  ·have e':q.1=k:=h1.symm.trans e
   have b:valueAt (q::qs) k=some q.2:=by simp[valueAt,List.find?_cons,e']
   rw[cG e,b]; exact h2
  ·have e':¬ q.1=k:=fun z=>e (h1.trans z)
   have b:valueAt (q::qs) k=valueAt qs k:=by simp[valueAt,List.find?_cons,e']
   rw[cH e,b]; exact ih
theorem KV.any{kvs:List (κ × V)}{vs:List (κ × Value)}(r:KV kvs vs)(k:κ):(kvs.any fun kv=>decide (kv.1=k))=vs.any fun kv=>decide (kv.1=k):=by
 unfold KV at r
 induction r with
 | nil=>rfl
 | cons h t ih=>rw[List.any_cons,List.any_cons,ih,h.1]
theorem KV.repl{kvs:List (κ × V)}{vs:List (κ × Value)}(r:KV kvs vs)(k:κ){y:V}{u:Value}(ry:RelV y u) :
  KV (kvs.map fun kv=>if kv.1=k then (kv.1,y) else kv) (vs.map fun kv=>if kv.1=k then (kv.1,u) else kv):=by
 unfold KV at r ⊢
 induction r with
 | nil=>exact .nil
 | @cons p q ps qs h t ih=>
  rw[List.map_cons,List.map_cons];refine .cons ?_ ih
  obtain⟨h1,h2⟩:=h
  by_cases e:p.1=k
  ·rw[if_pos e,if_pos (h1.symm.trans e)]; exact⟨h1,ry⟩
  ·rw[if_neg e,if_neg (fun z=>e (h1.trans z))]; exact⟨h1,h2⟩
theorem KV.put{kvs:List (κ × V)}{vs:List (κ × Value)}(r:KV kvs vs)(k:κ){y:V}{u:Value}(ry:RelV y u):KV (cM kvs k y) (stored vs k u):=by
 unfold cM stored;rw[r.any k]
 by_cases e:(vs.any fun kv=>decide (kv.1=k))=true
 ·rw[if_pos e,if_pos e]; exact r.repl k ry
 ·rw[if_neg e,if_neg e]; exact Paired.snoc r ⟨rfl,ry⟩
theorem KV.length{kvs:List (κ × V)}{vs:List (κ × Value)}(r:KV kvs vs):kvs.length=vs.length:=Paired.length r
end
theorem kH{P:Program}{w:World}{k:bq}{u:Value}(r:RelV (kV k) u):(cF P w).is k u=true:=by
 cases k with
 | inl i=>obtain⟨t,e⟩:=(show ∃ t,u=Value.int i t from r); subst e; exact qP P w i t
 | inr x=>obtain⟨t,e⟩:=(show ∃ t,u=Value.str x t from r); subst e; exact q0 P w x t
theorem n6{P:Program}{w:World}:∀ {ks:List bq} {us:List Value},Vals (ks.map kV) us→ItemsAre (cF P w) ks us
 | [],_,r=>by rw[List.map_nil]at r; cases r; exact .nil
 | k::ks,_,r=>by
  rw[List.map_cons]at r
  cases r with
  | cons h t=>exact .cons (kH h) (n6 t)
abbrev KT (H:Hp):List (List bq × V)→List (List bq × Addr × Value)→Prop:=Paired fun p q=>p.1=q.1∧H q.2.1=some (.tup (p.1.map kV))∧RelV p.2 q.2.2
theorem KT.val{H:Hp}{kvs:List (List bq × V)}{xs:List (List bq × Addr × Value)}(r:KT H kvs xs)(k:List bq):RelO (aI kvs k) ((atKey xs k).map (·.2)):=by
 induction r with
 | nil=>exact True.intro
 | @cons p q ps qs h t ih=>
  obtain⟨h1,_,h2⟩:=h
  by_cases e:p.1=k
  ·have e':q.1=k:=h1.symm.trans e
   have b:atKey (q::qs) k=some q.2:=by simp[atKey,List.find?_cons,e']
   rw[cG e,b]; exact h2
  ·have e':¬ q.1=k:=fun z=>e (h1.trans z)
   have b:atKey (q::qs) k=atKey qs k:=by simp[atKey,List.find?_cons,e']
   rw[cH e,b]; exact ih
theorem KT.repl{H:Hp}{kvs:List (List bq × V)}{xs:List (List bq × Addr × Value)}(r:KT H kvs xs)(k:List bq){y:V}{u:Value}(ry:RelV y u) :
  KT H (kvs.map fun kv=>if kv.1=k then (kv.1,y) else kv) (xs.map (putAt k u)):=by
 induction r with
 | nil=>exact .nil
 | @cons p q ps qs h t ih=>
  rw[List.map_cons,List.map_cons];refine .cons ?_ ih
  obtain⟨h1,h2,h3⟩:=h
  unfold putAt
  by_cases e:p.1=k
  ·rw[if_pos e,if_pos (h1.symm.trans e)]; exact⟨h1,h2,ry⟩
  ·rw[if_neg e,if_neg (fun z=>e (h1.trans z))]; exact⟨h1,h2,h3⟩
theorem KT.put{H:Hp}{kvs:List (List bq × V)}{xs:List (List bq × Addr × Value)}(r:KT H kvs xs)(k:List bq){b:Addr}{y:V}{u:Value}(hb:H b=some (.tup (k.map kV)))(ry:RelV y u) :
  KT H (cM kvs k y) (storedH xs k b u):=by
 have e:(kvs.any fun kv=>decide (kv.1=k))=(atKey xs k).isSome:=by
  rw[jD,(r.val k).isSome_eq,Option.isSome_map]
 unfold cM storedH;rw[e]
 by_cases q:(atKey xs k).isSome=true
 ·rw[if_pos q,if_pos q]; exact r.repl k ry
 ·rw[if_neg q,if_neg q]; exact Paired.snoc r ⟨rfl,hb,ry⟩
theorem KT.keeps{H H':Hp}{kvs:List (List bq × V)}{xs:List (List bq × Addr × Value)}(r:KT H kvs xs)(ht:∀ b ys,H b=some (.tup ys)→H' b=some (.tup ys)):KT H' kvs xs:=
 Paired.mapP r fun _ _ z=>⟨z.1,ht _ _ z.2.1,z.2.2⟩
section
variable{P:Program}{w:World}{H:Hp}{h:Heap}{a:Addr}
theorem yc{u:HO}(ok:HOk P w H h)(e:Rd H a u):ObjOk P w H h a u:=e.ok ok
theorem oP{kvs:List (bq × V)}(ok:HOk P w H h)(e:Rd H a (.dK kvs)):kvs.length≤sizeLine∧(a == sysModules)=false∧∃ vs,KV kvs vs∧h.DictOf (cF P w) a vs:=
 show ObjOk P w H h a (.dK kvs) from yc ok e
theorem yp{kvs:List (bq × V)}(ok:HOk P w H h)(e:H a=some (.dK kvs)):kvs.length≤sizeLine∧(a == sysModules)=false∧∃ vs,KV kvs vs∧h.DictOf (cF P w) a vs:=oP ok (.inl e)
theorem lR{ks:List bq}(ok:HOk P w H h)(e:H a=some (.tup (ks.map kV))):(tupleKind (cF P w)).is h ks a:=by
 obtain⟨_,its,r,o,h1,h2,_,n,h3⟩:=(show ObjOk P w H h a (.tup (ks.map kV)) from ok a _ e)
 exact⟨o,its.toArray,n,h1,h2,h3,by simpa using n6 r⟩
theorem tM{kvs:List (List bq × V)}(ok:HOk P w H h)(e:Rd H a (.dT kvs)):kvs.length≤sizeLine∧(a == sysModules)=false∧
  ∃ xs,KT H kvs xs∧h.DictOfH (tupleKind (cF P w)) a xs:=by
 obtain⟨z,y,xs,r,o,es,ep,h1,h2,h3,h4,h5⟩:=(show ObjOk P w H h a (.dT kvs) from yc ok e)
 refine⟨z,y,xs,r,o,es,ep,h1,h2,h3,h4,fun x hx=>?_,h5⟩
 have all:∀ {l:List (List bq × V)} {m:List (List bq × Addr × Value)},KT H l m→∀ x∈m,(tupleKind (cF P w)).is h x.1 x.2.1:=by
  intro l m q
  induction q with
  | nil=>intro x hx; exact nomatch hx
  | @cons p q ps qs hq t ih=>
   intro x hx
   rcases List.mem_cons.mp hx with e | hx
   ·subst e
    exact lR ok (by rw[← hq.1]; exact hq.2.1)
   ·exact ih x hx
 exact all r x hx
theorem Cj{kvs:List (List bq × V)}(ok:HOk P w H h)(e:H a=some (.dT kvs)):kvs.length≤sizeLine∧(a == sysModules)=false∧
  ∃ xs,KT H kvs xs∧h.DictOfH (tupleKind (cF P w)) a xs:=tM ok (.inl e)
end
def DGet(H:Hp)(a:Addr)(y:V)(r:Option V):Prop:=
 (∃ kvs k,Rd H a (.dK kvs)∧y=kV k∧r=aI kvs k)∨∃ kvs k b,Rd H a (.dT kvs)∧y = .ref b∧H b=some (.tup (k.map kV))∧r=aI kvs k
def DPut(H:Hp)(a:Addr)(y v:V)(H':Hp):Prop:=
 (∃ kvs k,H a=some (.dK kvs)∧y=kV k∧kvs.length<sizeLine∧H'=upd H a (.dK (cM kvs k v)))∨
 ∃ kvs k b,H a=some (.dT kvs)∧y = .ref b∧H b=some (.tup (k.map kV))∧kvs.length<sizeLine∧H'=upd H a (.dT (cM kvs k v))
theorem DGet.k{H:Hp}{a:Addr}{kvs:List (bq × V)}{k:bq}(e:H a=some (.dK kvs)):DGet H a (kV k) (aI kvs k):=.inl ⟨kvs,k,.inl e,rfl,rfl⟩
theorem DPut.k{H:Hp}{a:Addr}{kvs:List (bq × V)}{k:bq}{v:V}(e:H a=some (.dK kvs))(hl:kvs.length<sizeLine):DPut H a (kV k) v (upd H a (.dK (cM kvs k v))):=.inl ⟨kvs,k,e,rfl,hl,rfl⟩
section
variable{X:Cx}{pins:List (Addr × Obj)}{σ : St}{H:Hp}{s:Shared}{a:Addr}{y v:V}{u r:Value}{o:Option V}{A:Around}{E:Value→Shared→Prop}
theorem Inv.big(I:Inv X pins σ H s):sysModules<s.heap.objs.size:=by
 have h:mainGlobals<s.heap.objs.size:=(I.mod.glob.keeps I.bk).lt
 exact Nat.lt_trans (by decide) h
theorem Er{Q:Value→Shared→Prop}(hu:A.units+1<cLine)(I:Inv X pins σ H s)(g:DGet H a y o)(ry:RelV y u)(h:∀ s',Inv X pins σ H s'→Q (.bool o.isSome) s') :
  wpAny (model X.prog X.w) A (compareOp .In u (.ref a)) Q E s:=by
 rcases g with ⟨kvs,k,e,ey,l⟩ | ⟨kvs,k,b,e,ey,eb,l⟩
 ·subst ey
  obtain⟨z,hd,vs,rel,dd⟩:=oP I.hok e
  refine wpAny_in_of (kH ry) hd dd.mapOf ?_
  rw[← (rel.val k).isSome_eq,← l];exact h _ (I.tok _)
 ·subst ey
  cases (show u=Value.ref b from ry)
  obtain⟨z,hd,xs,rel,dd⟩:=tM I.hok e
  refine wpAny_in_heap (tupleKind_room_in1 hu) (lR I.hok eb) hd dd ?_
  have q:=(rel.val k).isSome_eq;rw[Option.isSome_map]at q
  rw[← q,← l];exact h _ (I.tok _)
theorem y7{Q:Value→Shared→Prop}(hu:A.units+1<cLine)(I:Inv X pins σ H s)(g:DGet H a y o)(ry:RelV y u)(h:∀ s',Inv X pins σ H s'→Q (.bool (!o.isSome)) s') :
  wpAny (model X.prog X.w) A (compareOp .NotIn u (.ref a)) Q E s:=by
 rcases g with ⟨kvs,k,e,ey,l⟩ | ⟨kvs,k,b,e,ey,eb,l⟩
 ·subst ey
  obtain⟨z,hd,vs,rel,dd⟩:=oP I.hok e
  refine wpAny_notIn_of (kH ry) hd dd.mapOf ?_
  rw[← (rel.val k).isSome_eq,← l];exact h _ (I.tok _)
 ·subst ey
  cases (show u=Value.ref b from ry)
  obtain⟨z,hd,xs,rel,dd⟩:=tM I.hok e
  refine wpAny_notIn_heap (tupleKind_room_in1 hu) (lR I.hok eb) hd dd ?_
  have q:=(rel.val k).isSome_eq;rw[Option.isSome_map]at q
  rw[← q,← l];exact h _ (I.tok _)
theorem fU{h':Heap}{t':Nat}{ob:HO}(I:Inv X pins σ H s)(mu:uB (H a))(hs:Heap.SameBut a s.heap h')(he:∃ q,h'.get? a=some q)(new:ObjOk X.prog X.w (upd H a ob) h' a ob) :
  Inv X pins σ (upd H a ob) { s with heap:=h',toks:=t' }:=
 I.write (x:=a) (e:=a) mu (.inl rfl) (fun b q hb z=>(hs.2 b hb).trans z) he new
theorem ug{P:Program}{w:World}{H':Hp}{h':Heap}{kvs:List (bq × V)}{vs:List (bq × Value)}(z:kvs.length≤sizeLine)(hd:(a == sysModules)=false)(rel:KV kvs vs)(dd:h'.DictOf (cF P w) a vs) :
  ObjOk P w H' h' a (.dK kvs):=⟨z,hd,vs,rel,dd⟩
theorem vA{H':Hp}{Q:Unit→Shared→Prop}(hu:A.units+1<cLine)(I:Inv X pins σ H s)(g:DPut H a y v H')(ry:RelV y u)(rv:RelV v r)(h:∀ s',Inv X pins σ H' s'→Q () s') :
  wpAny (model X.prog X.w) A (setItem (.ref a) u r) Q E s:=by
 rcases g with ⟨kvs,k,e,ey,l,eH⟩ | ⟨kvs,k,b,e,ey,eb,l,eH⟩
 ·subst ey eH
  obtain⟨z,hd,vs,rel,dd⟩:=yp I.hok e
  have hz:vs.length≤sizeLine:=by rw[← rel.length]; exact z
  have hl:(cM kvs k v).length≤sizeLine:=by have:=dC kvs k v; omega
  refine wpAny_setItem_pairs (hsz:=hz) (kH ry) dd fun h' dd' hs=>h _ ?_
  have he:∃ q,h'.get? a=some q:=let ⟨q,_,_,hq,_⟩:=dd'; ⟨q,hq⟩
  exact fU I (by rw[e]; exact True.intro) hs he (ug hl hd (rel.put k rv) dd')
 ·subst ey eH
  cases (show u=Value.ref b from ry)
  obtain⟨z,hd,xs,rel,dd⟩:=Cj I.hok e
  have hz:xs.length≤sizeLine:=by rw[← Paired.length rel]; exact z
  have hl:(cM kvs k v).length≤sizeLine:=by have:=dC kvs k v; omega
  refine wpAny_setItem_heap (hsz:=hz) (tupleKind_room_in1 hu) (lR I.hok eb) dd fun h' dd' hs=>h _ ?_
  obtain⟨q,es,ep,hq,h2,h3,h4,_,h5⟩:=dd'
  refine fU I (by rw[e]; exact True.intro) hs ⟨q,hq⟩ ⟨hl,hd,_,(rel.put k eb rv).keeps fun c ys ec=>?_,q,es,ep,hq,h2,h3,h4,h5⟩
  rw[al (gB ec e (fun z=>nomatch z))]
  exact ec
end
section
variable{X:Cx}{pins:List (Addr × Obj)}{σ : St}{H:Hp}{s:Shared}{a:Addr}{kvs:List (bq × V)}{k:bq}{u:Value}{A:Around}{E:Value→Shared→Prop}
end
section
variable{X:Cx}{o i e value:Expr}{pos pos' tpos:Pos}{td ty tv:TE}
end
theorem pE{P:Program}{w:World}{H:Hp}(h:Heap)(hb:sysModules<h.objs.size):ObjOk P w H (h.push { cls:=.type "dict", data:=.dict #[] }) h.objs.size (.dK []):=
 ⟨Nat.zero_le _,beq_eq_false_iff_ne.mpr (Ne.symm (Nat.ne_of_lt hb)),[],.nil,Heap.DictOf.new h⟩
def Aq:TE:=fun _ H Q=>∀ p,H p=none→Q (.ref p) (upd H p (.dK []))
section
variable{X:Cx}{pos:Pos}
theorem oZ:PE X (.Dict [] [] pos) Aq:=fun pins s σ H Q I h=>
 wpAny_Dict_empty ⟨.ref s.heap.objs.size,_,I.laid (a:=s.heap.objs.size) (o:=.dK []) (t':=s.toks) (fun _ _ q=>Heap.get?_push_of_some _ q) (Nat.le_refl _) (pE s.heap I.big),rfl,h _ (I.hok.fresh (Nat.le_refl _))⟩
end
def iU:List (TE × TE)→St→Hp→(List (V × V)→Hp→Prop)→Prop
 | [],_,H,Q=>Q [] H
 | (tk,tv)::r,σ,H,Q=>tk σ H fun x H1=>tv σ H1 fun y H2=>iU r σ H2 fun ps H3=>Q ((x,y)::ps) H3
abbrev VV:List (V × V)→List (Value × Value)→Prop:=Paired fun p q=>RelV p.1 q.1∧RelV p.2 q.2
def PPs(X:Cx)(pos:Pos)(keys:List (Option Expr))(values:List Expr)(trs:List (TE × TE)):Prop:=
 ∀ (pins:List (Addr × Obj)) (s:Shared) (σ : St) (H:Hp) (Q:List (V × V)→Hp→Prop),Inv X pins σ H s→iU trs σ H Q→
  wpAny (model X.prog X.w) X.A (evalPairs (pairTrees keys values X.env pos)) (fun vs s'=>∃ ps H',Inv X pins σ H' s'∧VV ps vs∧Q ps H') X.xe s
theorem zG{X:Cx}{pos:Pos}:PPs X pos [] [] []:=fun pins s σ H Q I h=>pairTrees_nil_walk ⟨[],H,I,.nil,h⟩
theorem wY{X:Cx}{pos:Pos}{k v:Expr}{ks:List (Option Expr)}{vs:List Expr}{tk tv:TE}{trs:List (TE × TE)}(hk:PE X k tk)(hv:PE X v tv)(hr:PPs X pos ks vs trs) :
  PPs X pos (some k::ks) (v::vs) ((tk,tv)::trs):=fun pins s σ H Q I h=>
 pairTrees_cons_walk (bc (hk pins s σ H _ I h) fun u s1 ⟨x,H1,I1,rx,q1⟩=>bc (hv pins s1 σ H1 _ I1 q1) fun w2 s2 ⟨y,H2,I2,ry,q2⟩=>
  bc (hr pins s2 σ H2 _ I2 q2) fun ws s3 ⟨ps,H3,I3,rel,q3⟩=>⟨(x,y)::ps,H3,I3,.cons ⟨rx,ry⟩ rel,q3⟩)
def jn(kvs more:List (bq × V)):List (bq × V):=more.foldl (fun acc kv=>cM acc kv.1 kv.2) kvs
theorem KV.merge:∀ {more:List (bq × V)} {rs:List (bq × Value)} {kvs:List (bq × V)} {vs:List (bq × Value)},KV more rs→KV kvs vs→KV (jn kvs more) (merged vs rs):=by
 intro more rs kvs vs r
 unfold KV at r
 induction r generalizing kvs vs with
 | nil=>intro q; exact q
 | @cons p q ps qs h t ih=>
  intro r0
  have e:KV (cM kvs p.1 p.2) (stored vs q.1 q.2):=by
   have:=r0.put p.1 h.2
   rw[← h.1]; exact this
  exact ih e
theorem j7:∀ (more kvs:List (bq × V)),(jn kvs more).length≤kvs.length+more.length
 | [],kvs=>by show kvs.length≤kvs.length+0; omega
 | p::r,kvs=>by
  have h1:=j7 r (cM kvs p.1 p.2);have h2:=dC kvs p.1 p.2;show (jn (cM kvs p.1 p.2) r).length≤_
  rw[List.length_cons]; omega
theorem mK{P:Program}{w:World}:∀ {kvs:List (bq × V)} {ws:List (Value × Value)},VV (kvs.map fun kv=>(kV kv.1,kv.2)) ws→∃ rs,Carries (cF P w) ws rs∧KV kvs rs
 | [],_,r=>by rw[List.map_nil]at r; cases r; exact⟨[],True.intro,.nil⟩
 | p::kvs,_,r=>by
  rw[List.map_cons]at r
  cases r with
  | @cons a b as bs h t=>
   obtain⟨rs,c,q⟩:=mK (P:=P) (w:=w) t
   obtain⟨b1,b2⟩:=b
   exact⟨(p.1,b2)::rs,⟨kH h.1,rfl,c⟩,.cons ⟨rfl,h.2⟩ q⟩
def yK(trs:List (TE × TE)):TE:=fun σ H Q=>∀ p,H p=none→iU trs σ (upd H p (.dK [])) fun ps H2=>H2 p=some (.dK [])∧∃ kvs:List (bq × V),ps=kvs.map (fun kv=>(kV kv.1,kv.2))∧kvs.length≤15∧Q (.ref p) (upd H2 p (.dK (jn [] kvs)))
theorem za{X:Cx}{pos:Pos}{keys:List (Option Expr)}{values:List Expr}{trs:List (TE × TE)}(h:PPs X pos keys values trs)(hall:keys.all (·.isSome)=true)(hl:keys.length=values.length)(h0:keys≠[])
  (h15:keys.length≤15):PE X (.Dict keys values pos) (yK trs):=by
 intro pins s σ H Q I q
 have hn:=I.hok.fresh (Nat.le_refl s.heap.objs.size);have I1:=I.laid (a:=s.heap.objs.size) (o:=.dK []) (h':=s.heap.push { cls:=.type "dict", data:=.dict #[] }) (t':=s.toks) (fun _ _ q=>Heap.get?_push_of_some _ q) (Nat.le_refl _) (pE s.heap I.big)
 refine wpAny_Dict_walk (knd:=cF X.prog X.w) hall hl h0 h15 (bc (h pins _ σ _ _ I1 (q _ hn)) fun ws s2 ⟨ps,H2,I2,rel,e,kvs,ep,lk,q2⟩=>?_)
 subst ep;obtain⟨rs,c,rk⟩:=mK (P:=X.prog) (w:=X.w) rel
 obtain⟨z,hd,vs0,r0,dd⟩:=yp I2.hok e
 cases r0;refine⟨rs,c,dd,fun h' dd' hs=>⟨.ref s.heap.objs.size,_,?_,rfl,q2⟩⟩
 have hz:(jn [] kvs).length≤sizeLine:=by
  have h1:=j7 kvs [];rw[List.length_nil]at h1
  rw[sizeLine_eq]; omega
 have he:∃ q,h'.get? s.heap.objs.size=some q:=let ⟨q,_,_,hq,_⟩:=dd'; ⟨q,hq⟩
 exact fU I2 (by rw[e]; exact True.intro) hs he (ug hz hd (rk.merge .nil) dd')
structure M1 (X:Cx) (o:Expr) (m:Str) (apos:Pos) (e:Expr) (cpos:Pos):Prop where
 base:attributeBase o m X.env (eval o X.env)=eval o X.env
 few:((backTo cpos (starEach [e] X.env)).all (fun x=>!x.1)&&(backToKw cpos (keywordEach [] X.env)).all (fun x=>x.1.isSome)
  && decide (([e]:List Expr).length+([]:List Keyword).length+(if ([]:List Keyword).isEmpty then 0 else 1)<30))=true
 line:(apos.endLine == cpos.line)=true
 trees:backTo cpos (starEach [e] X.env)=[(false,eval e X.env)]
structure M2 (X:Cx) (o:Expr) (m:Str) (apos:Pos) (e f:Expr) (cpos:Pos):Prop where
 base:attributeBase o m X.env (eval o X.env)=eval o X.env
 few:((backTo cpos (starEach [e,f] X.env)).all (fun x=>!x.1)&&(backToKw cpos (keywordEach [] X.env)).all (fun x=>x.1.isSome)
  && decide (([e,f]:List Expr).length+([]:List Keyword).length+(if ([]:List Keyword).isEmpty then 0 else 1)<30))=true
 line:(apos.endLine == cpos.line)=true
 trees:backTo cpos (starEach [e,f] X.env)=[(false,eval e X.env),(false,eval f X.env)]
section
variable{X:Cx}{pins:List (Addr × Obj)}{σ : St}{H:Hp}{s:Shared}{a:Addr}{y d:V}{u r:Value}{o:Option V}{A:Around}{E:Value→Shared→Prop}
end
section
variable{X:Cx}{o e f:Expr}{apos cpos:Pos}{td ty tx:TE}
end
section
variable{X:Cx}{pins:List (Addr × Obj)}{σ : St}{H:Hp}{s:Shared}{a:Addr}{kvs:List (bq × V)}{A:Around}{E:Value→Shared→Prop}
end
section
variable{X:Cx}{pins:List (Addr × Obj)}{σ : St}{H:Hp}{s:Shared}{a:Addr}{y:V}{u:Value}{A:Around}{E:Value→Shared→Prop}
end
end L2
namespace Att
open PySem PySem.W PySem.Calls PyProof.Rows
theorem mJ{P:Params}{h:Heap}:∀ (ns:List Int) (vs:List Value),WellAll P h vs (ns.map WData.int)→IntsAre vs ns:=by
 intro ns
 induction ns with
 | nil=>
  intro vs w
  rw[List.map_nil]at w
  cases w;exact .nil
 | cons n ns ih=>
  intro vs w
  rw[List.map_cons]at w
  cases w with
  | cons a b=>
   cases a;exact .cons _ _ (ih _ b)
theorem u3{l:OpenLaw}{n:Nat}(hn:l.most=some n){P:Params}{h:Heap}{args:List WData}{vals:List Value}
  (hpre:l.row.toRowW.claim.pre args=true) (hwl:WellAll P h vals args) :
  ∃ a vs ns,vals=[Value.ref a]∧args=[WData.list (ns.map WData.int)]∧h.get? a=some { cls:=.type "list", data:=.seq vs.toArray }∧IntsAre vs ns∧ns.length≤n:=by
 have hsh:WShape.hasAll [] args [.list .int]=true:=(pre_splitW hpre).1
 have hc:l.pre.holds [] { args:=args }=true:=(pre_splitW hpre).2
 obtain⟨d,r,rfl,h1,h2⟩:=hasAllW_cons hsh
 obtain rfl:=hasAllW_nil h2
 obtain⟨xs,rfl,h3⟩:=hasW_list h1
 obtain⟨ns,rfl⟩:=items_int h3
 have hlen:ns.length≤n:=by
  unfold OpenLaw.pre at hc
  have h4:(WTm.not (.lt (.lit (.int (n:Int))) (.len (.arg 0)))).holds [] { args:=[.list (ns.map .int)] }=true:=by
   have h4:=(holds_andW hc).1;rw[hn]at h4
   exact h4
  have h5:=condW_of h4 (w_not (w_lt w_lit (w_len_list (w_arg rfl))));rw[List.length_map]at h5
  refine Nat.le_of_not_lt fun q=>?_
  have q':(n:Int)<((ns.length:Nat):Int):=by omega
  first
   | (rw[decide_eq_true q']at h5; exact absurd h5 (by decide))
   | (simp at h5; omega)
 cases hwl with
 | cons w1 w2=>
  cases w2
  cases w1 with
  | list ho hall=>exact⟨_,_,ns,rfl,rfl,ho,mJ ns _ hall,hlen⟩
theorem vL(l:OpenLaw)(args:List WData):l.row.toRowW.claim.post args (.bool true) args=true:=
 postW_of (r:=l.row.toRowW) (X:=(true == true))
  (show WShape.has [] (.bool true) .bool=true by first | rfl | decide | simp[WShape.has,WShape.arms,WShape.armsAll])
  (show (WTm.eq .res (.lit (.bool true))).value [] { args:=args,res:=some (.bool true),after:=args }=some (.bool (true == true)) from w_eq_bool (w_res rfl) w_lit) rfl
theorem attach_call{l:OpenLaw}{n:Nat}{q:Program}{loose:List Str}{XP:(Str→Option Value)→Heap→Prop}{YP:World→Heap→Prop}{d:DefRec}
  (hn:l.most=some n) (hdf:d.params.defaults=[])
  (call:∀ (w:World) (s₀ s₁:Shared) (mg mb:Str→Option Value) (fa:Addr) (o:Obj) (pm cd doc:Value) (a:Addr) (vs:List Value) (ns:List Int),
   Ground q loose [] XP w s₀ mg mb s₁.heap→YP w s₁.heap→
   s₁.heap.get? fa=some o→o.data = .func (docDef d.name d.params d.body d.scope pm cd doc)→s₁.heap.CodeRec cd d.name→mg d.name=some (.ref fa)→
   s₁.heap.get? a=some { cls:=.type "list", data:=.seq vs.toArray }→IntsAre vs ns→ns.length≤n→s₁.gens = #[]→
   codeAny (model l.prog w) callerA (.call (.ref fa) ⟨[.ref a],[]⟩) (fun r s'=>r = .ok (.ret (.bool true))∧OldK s₁.heap s'.heap∧s'.os=s₁.os∧AllBare s'.gens) s₁) :
  WalkO q loose XP YP l.row.toRowW d [] (fun f vs=>PySem.call f vs):=by
 intro w s₀ s₁ mg mb G Y fa o pm cd doc dV kV ho hd hcd hD hmg hg args vals as hpre hlay hrd hwl hlo
 obtain rfl:dV = .none:=Dflts.none hD hdf
 obtain rfl:kV = .none:=Dflts.noKw hD
 obtain⟨a,vs,ns,rfl,rfl,hobj,hints,hlen⟩:=u3 hn hpre hwl
 refine enter_call (codeAny_mono (call w s₀ s₁ mg mb fa o pm cd doc a vs ns G Y ho (fd_plain hd) hcd hmg hobj hints hlen hg) fun r s' hq=>?_)
 obtain⟨rfl,h2,h3,h4⟩:=hq
 exact⟨.inl ⟨.bool true,.bool true,[],rfl,fun _=>rfl,.bool true,vL l _,fun _=>⟨List.Pairwise.nil,fun _ hm=>(nomatch hm)⟩⟩,h2,h3,h4⟩
section
variable{prog:Program}{w:World}{A:Around}{E:Value→Shared→Prop}{s:Shared}{K:Frag}
end
end Att
namespace L2
open PySem PySem.Spec PyProof.Rows
theorem j8:∀ {vs:List Value} {ns:List Int},IntsAre vs ns→Vals (ns.map V.int) vs
 | _,_,.nil=>.nil
 | _,_,.cons n t h=>.cons ⟨t,rfl⟩ (j8 h)
def wR(H:Hp):Prop:=∀ b,H b=none∨∃ o xs,H b=some (.frz o (.lst xs))
theorem xD{P:Program}{w:World}{K:PySem.W.Frag}{mg mb:Str→Option Value}{CX:kl}{k:Nat}{fa a:Addr}{fd:FuncData}{x:Str}{sp:Sp}{s₁:Shared}{vs:List Value}{ns:List Int}
  (KX:K.In s₁.heap) (hns:s₁.heap.Ns mainGlobals mg) (hb:s₁.heap.Ns builtinsNs mb) (hbb:∀ x:Str,x ≠ "__name__" → mb x=bootBuiltins x) (hlim:s₁.heap.NoLimit) (hg:s₁.gens = #[])
  (ha:s₁.heap.get? a=some { cls:=.type "list", data:=.seq vs.toArray }) (hi:IntsAre vs ns) (hl:ns.length≤sizeLine) (hr:Room k callerA)
  (F:∀ base:Heap,K.In base→base.Ns mainGlobals mg→iQ P w K mg base CX k fa fd [x] sp) (hbind:∀ (s:Shared) (u:Value),BindsTo s fd ⟨[u],[]⟩ [(x,u)])
  (hsp:∀ H:Hp,wR H→SqL K H a (ns.map V.int)→sp [.ref a] H (fun v _=>v = .bl true) fun _ _ _=>False)
  (hCX:∀ H e s',CX [] H s₁ (fun _ _ _=>False) e s'→False) :
  codeAny (model P w) callerA (.call (.ref fa) ⟨[.ref a],[]⟩) (fun r s'=>r = .ok (.ret (.bool true))∧OldK s₁.heap s'.heap∧s'.os=s₁.os∧AllBare s'.gens) s₁:=by
 have rv:=j8 hi;have lenV:=hi.length
 -- from an abstract heap in which nothing but the script may be tracked
 have core:∀ H:Hp,wR H→SqL K H a (ns.map V.int)→HOk P w H s₁.heap→(∀ b,H b≠none→b=a)→(H a≠none→K.lookup a=none)→
   codeAny (model P w) callerA (.call (.ref fa) ⟨[.ref a],[]⟩) (fun r s'=>r = .ok (.ret (.bool true))∧OldK s₁.heap s'.heap∧s'.os=s₁.os∧AllBare s'.gens) s₁:=by
  intro H hO hS hok hA hK
  have base_of:∀ {b:Addr} {o:Obj},s₁.heap.get? b=some o→H b=none→(jN s₁.heap H).get? b=some o:=fun e n=>wk e n
  have noA:∀ {b:Addr} {o:Obj} {es:Array DictEntry} {ep:Nat},s₁.heap.get? b=some o→o.data = .dict es ep→H b=none:=fun {b o es ep} e d=>by
   cases q:H b with
   | none=>rfl
   | some u=>
    have e':b=a:=hA b (by rw[q]; simp)
    subst e';rw[ha]at e; cases e
    have d':Data.seq vs.toArray _=Data.dict es ep:=d
    cases d'
  have nsK:∀ {b:Addr} {m:Str→Option Value},s₁.heap.Ns b m→(jN s₁.heap H).Ns b m:=fun {b m} ⟨o,es,ep,e,d,r⟩=>⟨o,es,ep,base_of e (noA e d),d,r⟩
  have hKb:K.In (jN s₁.heap H):=fun b o e=>base_of (KX b o e) (by
   cases q:H b with
   | none=>rfl
   | some u=>
    have e':b=a:=hA b (by rw[q]; simp)
    subst e';rw[hK (by rw[q]; simp)]at e; cases e)
  have hM:Mod K mg (jN s₁.heap H):=⟨hKb,nsK hns,⟨mb,nsK hb,hbb⟩,let ⟨mc,h1,h2⟩:=hlim; ⟨mc,nsK h1,h2⟩⟩
  have e0:tY P w K mg (jN s₁.heap H) callerA [] s₁ H:=⟨rfl,hM,fun b o e=>yV e,Nat.le_of_eq (u6 _ _),trivial,fun b hb=>absurd (show b∈([]:List Addr) from hb) (by simp),hok,.of_eq hg⟩
  refine codeAny_mono ((F _ hKb (nsK hns)).run callerA [] s₁ H ⟨[.ref a],[]⟩ [.ref a] [.ref a] _ _ hr e0 (hbind s₁ (.ref a)) (.cons rfl .nil) (hsp H hO hS)) fun r s' h=>?_
  cases r with
  | error e=>exact(hCX H e s' h).elim
  | ok fl=>
   cases fl with
   | next=>exact False.elim h
   | brk=>exact False.elim h
   | cont=>exact False.elim h
   | ret u=>
    obtain⟨v,H',os,bare,un,hok',r',q⟩:=h
    have q':v = .bl true:=q
    subst q';obtain rfl:u=Value.bool true:=r'
    refine⟨rfl,OldK.of_keep fun b o e=>?_,os,bare⟩
    cases q:H b with
    | none=>exact un.keep b o e q (by intro z; exact absurd (show b∈([]:List Addr) from z) (by simp)) (by simp)
    | some u=>
     rcases hO b with z | ⟨ob,xs,z⟩
     ·rw[q]at z; cases z
     ·have z2:=un.frzs b ob _ z
      obtain⟨e1,_⟩:=hok b _ z
      obtain⟨e2,_⟩:=hok' b _ z2
      rw[e]at e1; cases e1
      exact e2
 cases hk:K.lookup a with
 | some o=>
  -- the script is one of the module's own objects
  have e:=KX a o hk;rw[ha]at e
  cases e;refine core (fun _=>none) (fun _=>.inl rfl) (.inr ⟨_,vs.toArray,_,hk,rfl,rfl,rfl,by rw[List.size_toArray,lenV]; exact hl,by simpa using rv⟩) (fun b u z=>by have z':(none:Option HO)=some u:=z; cases z') (fun b z=>absurd rfl z) fun z=>absurd rfl z
 | none=>
  refine core (fun b=>if b=a then some (.frz { cls:=.type "list", data:=.seq vs.toArray } (.lst (ns.map V.int))) else none) (fun b=>?_) (.inl (.inr ⟨{ cls:=.type "list", data:=.seq vs.toArray },if_pos rfl⟩)) (fun b u z=>?_) (fun b z=>?_) fun _=>hk
  ·by_cases hb:b=a
   ·exact .inr ⟨_,_,if_pos hb⟩
   ·exact .inl (if_neg hb)
  ·by_cases hb:b=a
   ·have z':=(if_pos hb).symm.trans z
    cases z';subst hb;exact⟨ha,by rw[List.length_map]; exact hl,vs,_,rv,ha⟩
   ·have z':=(if_neg hb).symm.trans z
    cases z'
  ·by_cases hb:b=a
   ·exact hb
   ·exact absurd (if_neg hb) z
end L2
namespace L2
open PySem PySem.Spec PyProof.Rows
abbrev KOf {K:PySem.W.Frag} {h:Heap} (_:K.In h):PySem.W.Frag:=K
theorem walk_of{l:PySem.W.OpenLaw}{n k:Nat}{q:Program}{loose:List Str}{XP:(Str→Option Value)→Heap→Prop}{YP:World→Heap→Prop}{d:DefRec}{K:Params→PySem.W.Frag}{CX:World→kl}{sp:World→Sp}{x:Str}
  (hn:l.most=some n) (hn2:n≤sizeLine) (hdf:d.params.defaults=[]) (hr:Room k callerA)
  (hY:∀ (w:World) (h:Heap),YP w h→(K w.params).In h)
  (F:∀ (w:World) (mg:Str→Option Value) (fa:Addr) (h:Heap),(K w.params).In h→h.Ns mainGlobals mg→mg d.name=some (.ref fa)→
   ∃ fd:FuncData,(∀ (s:Shared) (u:Value),BindsTo s fd ⟨[u],[]⟩ [(x,u)])∧
    ∀ base:Heap,(K w.params).In base→base.Ns mainGlobals mg→iQ l.prog w (K w.params) mg base (CX w) k fa fd [x] (sp w))
  (hsp:∀ (w:World) (H:Hp) (a:Addr) (ns:List Int),ns.length≤n→wR H→SqL (K w.params) H a (ns.map V.int)→sp w [.ref a] H (fun v _=>v = .bl true) fun _ _ _=>False)
  (hCX:∀ (w:World) (H:Hp) (s:Shared) (e:Value) (s':Shared),CX w [] H s (fun _ _ _=>False) e s'→False) :
  PySem.W.WalkO q loose XP YP l.row.toRowW d [] (fun f vs=>PySem.call f vs):=by
 refine Att.attach_call hn hdf fun w s₀ s₁ mg mb fa o pm cd doc a vs ns G Y ho hd hcd hmg hobj hints hlen hg=>?_
 have KX:=hY w _ Y;obtain⟨fd,hb,hF⟩:=F w mg fa _ KX G.T.g hmg
 exact xD KX G.T.g G.T.b G.T.builtins G.T.nolimit hg hobj hints (Nat.le_trans hlen hn2) hr hF hb (fun H hO hS=>hsp w H a ns hlen hO hS) fun H e s'=>hCX w H s₁ e s'
end L2
/- THE LAST THEOREM (shape; LID, My.* are yours):
   My.Adr: a structure of the addresses that your layer names (classes,functions); My.Txt K t: a structure (Prop) of the equations over K;
   My.txt_mk:{K} {implicit addresses ..} (e1:nsIn K mainGlobals "law" = some (some (.ref f))) (e2:K.lookup f=some ⟨oc,od,.func (fnOf "law" "law" params body scope dV kV doc pm an cdv ct),sl⟩) (e3:codeIn K cdv "law" = true) .. : ∃ t,My.Txt K t
set_option maxRecDepth 100000 in
set_option maxHeartbeats 0 in
theorem PySem.Challenge.cw_LID_holds : PySem.Challenge.rw_LID.Holds := by
 w_on; o_law; k_head; (case hw=>w_witness2)
 k_fill
 refine L2.walk_of (l:=PySem.Challenge.rw_LID) (n:=63) (k:=40) (x := "script") (CX:=fun w=>..) (sp:=fun _=>My.sp_law) rfl (by decide) rfl ⟨rfl,by decide,by decide⟩ (fun w h Y=>PySem.W.kIn_of Y) ?F ?S ?C
 case F=>
  intro w mg fa h KX G hmg
  have T:∃ t,My.Txt (L2.KOf KX) t:=by
   dsimp only[L2.KOf]                          -- K must stand as «<heap const> w.params» for k_is
   refine' My.txt_mk ?e1 ?e2 ?e3 ..
   (case e1=>PySem.W.k_is)                    -- in the order: a name -> its address -> its object -> its parts
   (case e2=>PySem.W.k_is)
   ..
  obtain⟨t,T⟩:=T
  have e0:=hmg.symm.trans (PySem.W.mg_of KX G T.law)
  cases e0                                       -- fa is the law's own address
  exact⟨_,fun s u=>.of_eq rfl,fun base kb nb=>My.law_fn T kb nb⟩     -- if «.of_eq rfl» comes too early: refine' ⟨_,?b,fun base kb nb=>My.law_fn T kb nb⟩; exact fun s u=>.of_eq rfl
 case S=>exact fun w H a ns hl hO hS=>..
 case C=>exact ..
(the tactic k_is has no namespace: write k_is) -/
namespace L2
open PySem PySem.Spec PyProof.Rows
abbrev kW:kl:=fun _ _ _ _ _ _=>False
abbrev E0:XK:=fun _ _ _=>False
theorem yO{X:Cx}:p8 kW X E0:=fun _ _ _ _ _ _ _ h=>h.elim
structure Fun (K:PySem.W.Frag) (x qual:Str) (st:Stmt) (f:Addr) (fd:FuncData):Prop where
 ex:∃ (oc:Value) (od:Option Addr) (kV doc pm:Value) (an:Option Addr) (cdv ct:Value) (osl:Array (Option Value)),
  fd=PySem.W.fnOf x qual (defArgs st) (defBody st) (defScope st) .none kV doc pm an cdv ct∧K.lookup f=some ⟨oc,od,.func fd,osl⟩∧PySem.W.codeIn K cdv qual=true
 kp:PySem.W.keepIn K (.ref f)=true
section
variable{P:Program}{w:World}{K:PySem.W.Frag}{mg:Str→Option Value}{base:Heap}
theorem Fun.ok{x qual:Str}{st:Stmt}{f:Addr}{fd:FuncData}{N ps:List Str}{k:Nat}{sp:Sp}(F:Fun K x qual st f fd)(S:bg N ps (defScope st))(len:∀ vs H Q E,sp vs H Q E→vs.length=ps.length)
  (hbody:∀ (cdv:Value) (A:Around) (outer:List Env) (s:Shared) (H:Hp) (vs:List V) (Q:VK) (E:XK),Room k (A.deeper (envOfC qual (defScope st) s.heap.objs.size f cdv))→sp vs H Q E→
   ∃ t,PSs (ls kW P w K mg base N qual (defScope st) f cdv A outer s H E).nox (defBody st) t∧t { nx:=fun _ H'=>Q .non H',rt:=Q } (start N vs) H):iQ P w K mg base kW (k+1) f fd ps sp:=by
 obtain⟨oc,od,kV,doc,pm,an,cdv,ct,osl,rfl,lk,hcd⟩:=F.ex
 refine Cq lk hcd S len fun A outer s H vs Q E hr hsp=>?_
 obtain⟨t,h,q⟩:=hbody cdv A outer s H vs Q E hr hsp
 exact⟨t,h.nox,q⟩
theorem Fun.binds{x qual:Str}{st:Stmt}{f:Addr}{fd:FuncData}{ps:List Str}(F:Fun K x qual st f fd)
  (h:∀ (kV doc pm:Value) (an:Option Addr) (cdv ct:Value) (us:List Value),us.length=ps.length→bindArgs (PySem.W.fnOf x qual (defArgs st) (defBody st) (defScope st) .none kV doc pm an cdv ct) ⟨us,[]⟩=pure (ps.zip us)):Binds K fd ps []:=by
 obtain⟨oc,od,kV,doc,pm,an,cdv,ct,osl,rfl,lk,hcd⟩:=F.ex
 exact .all (h kV doc pm an cdv ct)
theorem bC{x qual:Str}{st:Stmt}{f:Addr}{oc:Value}{od an:Option Addr}{osl:Array (Option Value)}{kV doc pm cdv ct:Value}(l:K.lookup f=some ⟨oc,od,.func (PySem.W.fnOf x qual (defArgs st) (defBody st) (defScope st) .none kV doc pm an cdv ct),osl⟩)
  (c:PySem.W.codeIn K cdv qual=true) (k:PySem.W.keepIn K (.ref f)=true):Fun K x qual st f (PySem.W.fnOf x qual (defArgs st) (defBody st) (defScope st) .none kV doc pm an cdv ct):=⟨⟨oc,od,kV,doc,pm,an,cdv,ct,osl,rfl,l,c⟩,k⟩
end
section
variable{X:Cx}
theorem pv(i:Nat){x:Str}{pos:Pos}(hN:X.N[i]? = some x:=by rfl)(hv:au X.env.scope x:=by first | exact vSs (by decide +kernel) | exact Or.inl rfl)(hd:(x == ("__debug__" : Str))=false:=by decide)
  (hcd:(x == ("__classdict__" : Str))=false:=by decide):PE X (.Name x pos) (m5 i):=uC hN hv hd hcd
end
theorem bn{c A B:Prop}[Decidable c](h1:c→A)(h2:¬ c→B):if c then A else B:=by
 by_cases h:c
 ·rw[if_pos h]
  exact h1 h
 ·rw[if_neg h]
  exact h2 h
def Same(H H':Hp):Prop:=∀ b o,H b=some o→H' b=some o
theorem Same.refl(H:Hp):Same H H:=fun _ _ h=>h
theorem Same.trans{H H1 H2:Hp}(a:Same H H1)(b:Same H1 H2):Same H H2:=fun c o h=>b c o (a c o h)
theorem Same.free{H H':Hp}(e:Same H H'){l:Addr}(h:H' l=Option.none):H l=Option.none:=by
 cases q:H l with
 | none=>rfl
 | some o=>
  rw[e l o q]at h
  cases h
theorem Same.seq{K:PySem.W.Frag}{H H':Hp}{a:Addr}{xs:List V}(e:Same H H')(h:SqL K H a xs):SqL K H' a xs:=by
 rcases h with (h | ⟨o,h⟩) | h
 ·exact .inl (.inl (e _ _ h))
 ·exact .inl (.inr ⟨o,e _ _ h⟩)
 ·exact .inr h
section
variable{κ : Type}[DecidableEq κ]
end
end L2
namespace L2
open PySem PySem.Spec PyProof.Rows
def cC(cells:List (Str × Addr)):List (Str × NameKind)→List (Str × Addr)→List (Str × Addr)
 | [],acc=>acc
 | (n,k)::r,acc=>cC cells r (if k == .free then (n,(cells.lookup n).getD 0)::acc else acc)
theorem qC{env:Env}{f:(Str × NameKind)→List (Str × Addr)→Sem (ForInStep (List (Str × Addr)))}
  (hf:∀ n k cs,f (n,k) cs=if (k == NameKind.free)=true then (cellOf env n >>= fun c=>pure (ForInStep.yield ((n,c)::cs))) else pure (ForInStep.yield cs)) :
  ∀ (names:List (Str × NameKind)) (acc:List (Str × Addr)),(∀ x∈names,x.2 = .free→∃ c,env.cells.lookup x.1=some c)→
  forIn names acc f=(pure (cC env.cells names acc):Sem _)
 | [],acc,_=>rfl
 | (n,k)::r,acc,h=>by
  rw[List.forIn_cons,hf];have ih:=fun acc=>qC hf r acc fun x hx=>h x (List.mem_cons_of_mem _ hx)
  by_cases hk:(k == NameKind.free)=true
  ·rw[if_pos hk]
   obtain⟨c,hc⟩:=h (n,k) List.mem_cons_self (by simpa using hk)
   have e:cellOf env n=pure c:=by unfold cellOf; rw[hc]
   rw[e,pure_bind,pure_bind];show forIn r ((n,c)::acc) f=_
   rw[ih];show _=pure (cC env.cells r (if (k == NameKind.free)=true then (n,(env.cells.lookup n).getD 0)::acc else acc))
   rw[if_pos hk,hc]; rfl
  ·rw[if_neg hk,pure_bind]
   show forIn r acc f=_
   rw[ih];show _=pure (cC env.cells r (if (k == NameKind.free)=true then (n,(env.cells.lookup n).getD 0)::acc else acc))
   rw[if_neg hk]
theorem gI{env:Env}{scope:Scope}(h:∀ x∈scope.names,x.2 = .free→∃ c,env.cells.lookup x.1=some c):closureFor scope env=pure (cC env.cells scope.names []):=by
 unfold closureFor;show (forIn scope.names ([]:List (Str × Addr)) _ >>= fun cs=>pure cs)=_
 rw[qC (env:=env) (fun n k cs=>?_) _ _ h]
 ·rfl
 ·rfl
theorem jj{cells:List (Str × Addr)}:∀ {names:List (Str × NameKind)} {acc:List (Str × Addr)} {x:Str} {c:Addr},(∀ y∈names,y.2 = .free→∃ c,cells.lookup y.1=some c)→
  (∀ y c,acc.lookup y=some c→cells.lookup y=some c)→(cC cells names acc).lookup x=some c→cells.lookup x=some c
 | [],acc,x,c,_,ha,h=>ha x c h
 | (n,k)::r,acc,x,c,hn,ha,h=>by
  refine jj (names:=r) (fun y hy=>hn y (List.mem_cons_of_mem _ hy)) ?_ h
  intro y d hy
  by_cases hk:(k == NameKind.free)=true
  ·rw[if_pos hk]at hy
   obtain⟨e,he⟩:=hn (n,k) List.mem_cons_self (by simpa using hk)
   have he':cells.lookup n=some e:=he
   rw[List.lookup_cons]at hy
   by_cases hyn:(y == n)=true
   ·rw[hyn]at hy
    have hy':(cells.lookup n).getD 0=d:=Option.some.inj hy
    rw[he']at hy'
    have e1:y=n:=by simpa using hyn
    rw[e1,he',← hy']; rfl
   ·have hf:(y == n)=false:=by simpa using hyn
    rw[hf]at hy
    exact ha y d hy
  ·rw[if_neg hk]at hy
   exact ha y d hy
theorem lT{cells:List (Str × Addr)}:∀ {names:List (Str × NameKind)} {acc:List (Str × Addr)} {x:Str},(∃ c,acc.lookup x=some c)→∃ c,(cC cells names acc).lookup x=some c
 | [],_,_,h=>h
 | (n,k)::r,acc,x,h=>by
  refine lT (names:=r) ?_
  by_cases hk:(k == NameKind.free)=true
  ·rw[if_pos hk,List.lookup_cons]
   cases hx:(x == n) with
   | true=>exact⟨_,rfl⟩
   | false=>exact h
  ·rw[if_neg hk]; exact h
theorem fk{cells:List (Str × Addr)}:∀ {names:List (Str × NameKind)} {acc:List (Str × Addr)} {x:Str},(x,NameKind.free)∈names→∃ c,(cC cells names acc).lookup x=some c
 | (n,k)::r,acc,x,h=>by
  rcases List.mem_cons.mp h with e | h
  ·have e1:x=n:=congrArg (·.1) e
   have e2:NameKind.free=k:=congrArg (·.2) e
   subst e1 e2;refine lT (names:=r) ?_
   rw[if_pos (by rfl),List.lookup_cons]
   rw[beq_self_eq_true];exact⟨_,rfl⟩
  ·exact fk (names:=r) h
theorem dN{env:Env}:∀ {names:List (Str × NameKind)} {x:Str} {k:NameKind},(∀ y∈names,y.2 ≠ .cell)→
  (names.map fun (n,k)=>if (k == NameKind.free&&env.scope.kind == .function&&env.kindOf n == some .cell) then (n,NameKind.cell) else (n,k)).lookup x=some k→(k = .cell∨k = .free)→(x,NameKind.free)∈names
 | [],_,_,_,h,_=>by simp at h
 | (n,k0)::r,x,k,hc,h,hk=>by
  have ih:=@dN env r x k (fun y hy=>hc y (List.mem_cons_of_mem _ hy))
  rw[List.map_cons]at h
  by_cases hf:(k0 == NameKind.free&&env.scope.kind == .function&&env.kindOf n == some .cell)=true
  ·have hk0:k0 = .free:=by
    have:(k0 == NameKind.free)=true:=by
     rw[Bool.and_eq_true,Bool.and_eq_true]at hf; exact hf.1.1
    simpa using this
   dsimp only at h
   rw[if_pos hf,List.lookup_cons]at h
   cases hx:(x == n) with
   | true=>
    have:x=n:=by simpa using hx
    rw[this,hk0]; exact List.mem_cons_self
   | false=>rw[hx]at h; exact List.mem_cons_of_mem _ (ih h hk)
  ·dsimp only at h
   rw[if_neg hf,List.lookup_cons]at h
   cases hx:(x == n) with
   | true=>
    rw[hx]at h
    have e:k0=k:=Option.some.inj h
    have:x=n:=by simpa using hx
    rcases hk with z | z
    ·exact absurd (e.trans z) (hc (n,k0) List.mem_cons_self)
    ·rw[this,e,z]; exact List.mem_cons_self
   | false=>rw[hx]at h; exact List.mem_cons_of_mem _ (ih h hk)
def bO(X:Cx)(N0 T:List Str)(scope:Scope)(C:Addr)(fp:List Addr)(s:Shared)(H:Hp):Cx:=
 { X with N:=N0++T,s₀:=s,H₀:=H,env:=compEnvC scope (cC X.env.cells scope.names []) C X.env,outer:=X.stack,stack:=X.stack,ex:=fp,fn:=fun _=>false,pn:=[],xe:=fun _ _=>False }
structure i3 (X:Cx) (N0 T:List Str) (scope:Scope):Prop where
 kind:scope.kind = .function
 nocell:∀ y∈scope.names,y.2 ≠ .cell
 names:∀ y∈scope.names,y.2 = .local→scope.names.lookup y.1=some .local
 free:∀ y∈scope.names,y.2 = .free→X.env.kindOf y.1=some .cell∨X.env.kindOf y.1=some .free
 apart:∀ y∈scope.names,y.2 = .local→y.1∉N0
 len0:N0.length=X.N.length
 same:∀ (i:Nat) (x:Str) (k:NameKind),N0[i]? = some x→(x,k)∈scope.names→X.N[i]? = some x
theorem fz{prog:Program}{w:World}{A:Around}{R:Result→Shared→Prop}{s:Shared}{elt target iter:Expr}{ifs:List Expr}{scope:Scope}{pos:Pos}{it acc:Value}{env:Env}(I:Nat→Shared→Prop)
  (turn:∀ n s,I n s→wpAny (model prog w) A (pyNext it) (fun r s₁=>match r with
   | none=>R (.ok .next) s₁
   | some v=>wpAny (model prog w) A (letOwnedTupleGo target it v) (fun _ s₀=>wpAny (model prog w) A (assign target env v) (fun _ s₂=>
     wpAny (model prog w) A (forIn ifs true fun c r=>if r=true then do let ok ← isTrue c env (eval c env); pure (ForInStep.yield ok) else pure (ForInStep.yield r)) (fun ok s₃=>
      if ok=true then wpAny (model prog w) A (eval elt env) (fun x s₄=>
       wpAny (model prog w) A (call (.builtin "list.append") [acc,x]) (fun _ s₅=>∃ m,m<n∧I m s₅) (fun _ _=>False) s₄) (fun _ _=>False) s₃
      else ∃ m,m<n∧I m s₃) (fun _ _=>False) s₂) (fun _ _=>False) s₀) (fun _ _=>False) s₁) (fun _ _=>False) s)
  (n:Nat) (h:I n s) :
  codeAny (model prog w) A (.compLoop (.ListComp elt [⟨target,iter,ifs,0⟩] scope pos) 0 it acc env) R s:=by
 refine codeAny_loop rfl I (fun n s hI=>?_) n h
 show wpAny _ A ((compTurn (.ListComp elt [⟨target,iter,ifs,0⟩] scope pos) 0 it acc env).onRaise (fun x=>do noteFrame x env; theTreesLotGoes x)) _ _ s
 refine wpAny_noted ?_
 rw[compTurn_list];refine wpAny_bind (wpAny_standAt (wpAny_bind (wpAny_mono (turn n s hI) (fun r s₁ h₁=>?_) fun _ _ h'=>h'.elim)))
 cases r with
 | none=>exact wpAny_pure h₁
 | some v=>
  refine wpAny_bind (wpAny_mono h₁ (fun _ s₀ h₀=>?_) fun _ _ h'=>h'.elim)
  refine wpAny_bind (wpAny_mono h₀ (fun _ s₂ h₂=>wpAny_bind (wpAny_mono h₂ (fun ok s₃ h₃=>?_) fun _ _ h'=>h'.elim)) fun _ _ h'=>h'.elim)
  cases ok with
  | false=>exact wpAny_pure ⟨rfl,h₃⟩
  | true=>
   exact wpAny_bind (wpAny_bind (wpAny_mono h₃ (fun x s₄ h₄=>wpAny_bind (wpAny_mono h₄ (fun _ s₅ h₅=>wpAny_pure (wpAny_pure ⟨rfl,h₅⟩)) fun _ _ h'=>h'.elim)) fun _ _ h'=>h'.elim))
def PIfs(X:Cx)(ifs:List Expr)(tc:TT):Prop:=
 ∀ (pins:List (Addr × Obj)) (s:Shared) (σ : St) (H:Hp) (Q:Bool→Hp→Prop),Inv X pins σ H s→tc σ H Q→
  wpAny (model X.prog X.w) X.A (forIn ifs true fun c r=>if r=true then do let ok ← isTrue c X.env (eval c X.env); pure (ForInStep.yield ok) else pure (ForInStep.yield r)) (TP X pins σ Q) X.xe s
def lC:TT:=fun _ H Q=>Q true H
theorem cv{X:Cx}:PIfs X [] lC:=fun _ _ _ H _ I h=>wpAny_tests_nil ⟨H,I,h⟩
theorem oT{X:Cx}{c:Expr}{tc:TT}(hc:PT X c tc):PIfs X [c] tc:=fun pins s σ H Q I h=>wpAny_tests_one (hc pins s σ H Q I h)
def nU(g:TG)(n:Nat):Prop:=∀ x σ H Q,g x σ H Q→g x σ H fun σ' H'=>Q σ' H'∧σ'.length=σ.length∧∀ k,k<n→σ'[k]? = σ[k]?
def sD(g:iW)(n:Nat):Prop:=∀ x σ H Q,g x σ H Q→g x σ H fun σ' H'=>Q σ' H'∧σ'.length=σ.length∧∀ k,k<n→σ'[k]? = σ[k]?
theorem bZ{i n:Nat}(h:n≤i):nU (i7 i) n:=fun x σ H Q q=>⟨q,by simp,fun k hk=>by rw[List.getElem?_set_ne (by omega)]⟩
theorem w9{n:Nat}:sD sX n:=fun x σ H Q q=>⟨q.1,q.2,rfl,fun _ _=>rfl⟩
def sN(g:TG):Prop:=∀ x σ H Q Q',(∀ σ' H',Q σ' H'→Q' σ' H')→g x σ H Q→g x σ H Q'
def lX(g:iW):Prop:=∀ x σ H Q Q',(∀ σ' H',Q σ' H'→Q' σ' H')→g x σ H Q→g x σ H Q'
theorem mX{i:Nat}:sN (i7 i):=fun x σ H Q Q' h q=>h _ _ q
theorem rU:lX sX:=fun x σ H Q Q' h q=>⟨q.1,h _ _ q.2⟩
theorem wj{t:TG}{u:iW}(h1:sN t)(h2:lX u):lX (oH t u):=fun x σ H Q Q' h ⟨v,r,e,q⟩=>⟨v,r,e,h1 _ _ _ _ _ (fun σ' H' z=>h2 _ _ _ _ _ h z) q⟩
theorem n9{t:TG}{u:iW}{n:Nat}(h1:nU t n)(m1:sN t)(h2:sD u n)(m2:lX u):sD (oH t u) n:=fun x σ H Q ⟨v,r,e,q⟩=>by
 refine⟨v,r,e,?_⟩
 refine m1 _ _ _ _ _ (fun σ' H' z=>?_) (h1 _ _ _ _ q)
 obtain⟨z,l1,k1⟩:=z
 exact m2 _ _ _ _ _ (fun σ2 H2 y=>⟨y.1,y.2.1.trans l1,fun k hk=>(y.2.2 k hk).trans (k1 k hk)⟩) (h2 _ _ _ _ z)
theorem zc{K:PySem.W.Frag}{m n:Nat}{t:iW}(h:sD t n):nU (ub K m t) n:=fun x σ H Q ⟨a,xs,e,q,l,z⟩=>⟨a,xs,e,q,l,h _ _ _ _ z⟩
def eD(J:It)(g:TG)(tc:TT)(te:TE)(nT:Nat)(σ : St)(D:Addr)(Q:VK)(H:Hp):Prop:=
 ∃ W:Nat→Nat→List V→Hp→Prop,(∃ m,W 0 m [] H)∧∀ i m ys H2,W i m ys H2→
  (J.stop i H2∧Q (.ref D) H2)∨(J.go i H2∧∀ x H',J.yld i H2 x H'→g x (σ++List.replicate nT none) H' fun σ2 H3=>tc σ2 H3 fun b H4=>
   if b=true then te σ2 H4 fun y H5=>H5 D=some (.lst ys)∧ys.length<sizeLine∧∃ m',m'<m∧W (i+1) m' (ys++[y]) (upd H5 D (.lst (ys++[y]))) else ∃ m',m'<m∧W (i+1) m' ys H4)
def oG(wi:TI)(g:TG)(tc:TT)(te:TE)(nT:Nat):TE:=fun σ H Q=>wi σ H fun J H1=>∀ D,H1 D=none→eD J g tc te nT σ D Q (upd H1 D (.lst []))
theorem HOk.sameBut{P:Program}{w:World}{H:Hp}{h h':Heap}{C:Addr}(x:HOk P w H h)(hs:Heap.SameBut C h h')(hC:H C=none):HOk P w H h':=fun a o e=>
 (x a o e).stay (fun b u hb q=>(hs.2 b (by
  rintro rfl
  rcases hb with z | z
  ·rw[z]at hC; rw[hC]at e; cases e
  ·rw[hC]at z; cases z)).trans q) (fun _ q=>q) fun _ _ q=>q
section
variable{X:Cx}{N0 T:List Str}{scope:Scope}{tg elt iter:Expr}{ifs:List Expr}{pos:Pos}{wi:TI}{g:TG}{tc:TT}{te:TE}
theorem nA{pins:List (Addr × Obj)}{σ : St}{H:Hp}{s:Shared}{E:Value→Shared→Prop}{it:Addr}{fp:List Addr}{tn:Nat→Heap→Prop}{J:It}{Q:VK}{RR:Value→Addr→Result→Shared→Prop}
  (S:i3 X N0 T scope) (hc:X.calm=true)
  (hg:∀ C fp s H,PG (bO X N0 T scope C fp s H) tg g) (hfr:nU g X.N.length) (hi:∀ C fp s H,PIfs (bO X N0 T scope C fp s H) ifs tc) (he:∀ C fp s H,PE (bO X N0 T scope C fp s H) elt te)
  (I:Inv X pins σ H s) (Tn:mY X.prog X.w X.K tg J fp it tn) (st:tn 0 s.heap) (hf:∀ b∈fp,gK X pins H b)
  (h:∀ D,H D=none→eD J g tc te T.length σ D Q (upd H D (.lst [])))
  (hRR:∀ D C s' H' m,s'.heap.Ns C m→H' C=none→C≠X.env.locals→(∀ x c,X.env.cells.lookup x=some c→c≠C)→(∀ p∈X.pn++pins,p.1≠C)→X.s₀.heap.objs.size≤C→Inv X pins σ H' s'→
   (∀ h',Heap.SameBut C s'.heap h'→Inv X pins σ H' { s' with heap:=h' })→Q (.ref D) H'→RR (.ref D) C (.ok .next) s') :
  wpAny (model X.prog X.w) X.A (newList []) (fun acc s₃=>wpAny (model X.prog X.w) X.A (newFunctionEnv scope X.env.globals (cC X.env.cells scope.names []) [] X.env.qual none .none (some X.env)) (fun cenv s₄=>
   codeAny (model X.prog X.w) X.A (.compStart (.ListComp elt [⟨tg,iter,ifs,0⟩] scope pos) 0 (.ref it) acc { cenv with scope:=relabel scope X.env }) (RR acc cenv.locals) s₄) E s₃) E s:=by
 refine wpAny_newObj_type (wpAny_newFunctionEnv S.nocell (by intro y hy; simp at hy) (fun h₁ hns₁ hsb₁=>?_) S.kind)
 dsimp only at hns₁ hsb₁ ⊢
 generalize hH2:s.heap.push { cls:=.type "list", dict:=none,data:=.seq ([]:List Value).toArray }=P2 at hns₁ hsb₁ ⊢;have hC:P2.objs.size=s.heap.objs.size+1:=by rw[← hH2,Heap.size_push]
 -- the new list D, the block's names C
 obtain⟨D,hD⟩ : ∃ D:Nat,D=s.heap.objs.size:=⟨_,rfl⟩
 obtain⟨C,hCC⟩ : ∃ C:Nat,C=P2.objs.size:=⟨_,rfl⟩
 rw[← hCC]at hns₁ hsb₁ hC ⊢
 rw[← hD]at hC ⊢
 have hDC:D≠C:=by omega
 have hDlt:D<C:=by omega
 have neD:∀ b o,s.heap.get? b=some o→b≠D:=fun b o e=>hD ▸ Nat.ne_of_lt (Heap.lt_size e)
 have neC:∀ b o,s.heap.get? b=some o→b≠C:=fun b o e=>Nat.ne_of_lt (Nat.lt_trans (hD ▸ Heap.lt_size e) hDlt)
 have old:∀ b o,s.heap.get? b=some o→h₁.get? b=some o:=fun b o e=>hsb₁.extBut b o (neC b o e) (Heap.get?_push_of_some _ (hH2 ▸ Heap.get?_push_of_some _ e))
 have hHD:H D=none:=I.hok.fresh (by omega)
 have hHC:H C=none:=I.hok.fresh (by omega)
 have dat:h₁.get? D=some { cls:=.type "list", data:=.seq ([]:List Value).toArray 0 }:=by
  refine hsb₁.extBut _ _ hDC (Heap.get?_push_of_some _ ?_)
  rw[← hH2,hD];exact Heap.get?_push_size _ rfl
 -- the block's context stands
 have hcl:∀ x c,(cC X.env.cells scope.names []).lookup x=some c→X.env.cells.lookup x=some c:=fun x c e=>
  jj (fun y hy hk=>I.ok.has y.1 (S.free y hy hk)) (fun y c z=>by simp at z) e
 have okC:(bO X N0 T scope C fp s H).Ok:=by
  refine⟨I.ok.mod,?_,I.ok.glob,I.ok.blt,?_,fun x y c e1 e2=>I.ok.inj x y c (hcl x c e1) (hcl y c e2),fun x hx=>?_,fun x c z _=>(by cases z),I.ok.hd,I.ok.frames,.inl rfl,fun b hb=>⟨?_,fun x c e=>(hf b hb).2.2.2.2.1 x c (hcl x c e)⟩,
   I.bs,?_,fun b o e hb=>?_,fun b hb z=>?_,I.stack,I.stkFree⟩
  ·show (relabel scope X.env).kind = .function
   exact S.kind
  ·show s.heap.objs.size≤C
   omega
  ·have hx':(relabel scope X.env).names.lookup x=some .cell∨(relabel scope X.env).names.lookup x=some .free:=hx
   have m:(x,NameKind.free)∈scope.names:=by
    rcases hx' with z | z
    ·exact dN S.nocell z (.inl rfl)
    ·exact dN S.nocell z (.inr rfl)
   exact fk m
  ·show b≠C
   obtain⟨o,e,_⟩:=Tn.obj 0 _ st b hb
   exact neC b o e
  ·exact Nat.le_trans I.ok.bsz I.sz
  ·obtain⟨_,_,_,z,_⟩:=hf b hb
   rcases z with z | z
   ·exact I.ok.noex b o e z
   ·exact absurd (Nat.lt_of_lt_of_le (Nat.lt_of_lt_of_le (Heap.lt_size e) I.ok.bsz) z) (Nat.lt_irrefl _)
  ·obtain⟨_,z1,z2,_⟩:=hf b hb
   rcases List.mem_cons.mp (I.stkSub b z) with q | q
   ·exact z1 q
   ·exact z2 q
 have I1:Inv (bO X N0 T scope C fp s H) [] (σ++List.replicate T.length none) (upd H D (.lst [])) { s with heap:=h₁,toks:=s.toks+([]:List (Str × Value)).length }:=by
  refine⟨okC,rfl,I.bare,Un.laid (h:=s.heap) old (by omega) hHD,⟨_,hns₁,fun i x v e1 e2 e3=>?_⟩,fun x c e=>?_,?_,fun x c e=>?_,fun p hp=>(by simp[bO]at hp),I.hok.laid old (by omega) ?_,?_⟩
  ·have e1':(N0++T)[i]? = some x:=e1
   have hl:=I.len;have hl0:=S.len0
   have hi:i<σ.length:=by
    rcases Nat.lt_or_ge i σ.length with z | z
    ·exact z
    ·rw[List.getElem?_append_right z]at e2
     rw[List.getElem?_replicate]at e2
     split at e2 <;> cases e2
   rw[List.getElem?_append_left hi]at e2
   rw[List.getElem?_append_left (by omega)]at e1'
   have hxN:x∈N0:=List.mem_of_getElem? e1'
   have e3':(relabel scope X.env).names.lookup x=some .local∨(relabel scope X.env).names.lookup x=some .cell∨(relabel scope X.env).names.lookup x=some .free:=e3
   have fr:(relabel scope X.env).names.lookup x=some .cell∨(relabel scope X.env).names.lookup x=some .free:=by
    rcases e3' with z | z | z
    ·exfalso
     -- a local of the block is no tracked name
     have key:∀ (names:List (Str × NameKind)),(names.map fun (n,k)=>if (k == NameKind.free&&X.env.scope.kind == .function&&X.env.kindOf n == some .cell) then (n,NameKind.cell) else (n,k)).lookup x=some .local→(x,NameKind.local)∈names:=by
      intro names
      induction names with
      | nil=>intro z; simp at z
      | cons y r ih=>
       obtain⟨n,k⟩:=y
       intro z
       rw[List.map_cons]at z
       dsimp only at z
       by_cases hfk:(k == NameKind.free&&X.env.scope.kind == .function&&X.env.kindOf n == some .cell)=true
       ·rw[if_pos hfk,List.lookup_cons]at z
        cases hx:(x == n) with
        | true=>rw[hx]at z; cases z
        | false=>rw[hx]at z; exact List.mem_cons_of_mem _ (ih z)
       ·rw[if_neg hfk,List.lookup_cons]at z
        cases hx:(x == n) with
        | true=>
         rw[hx]at z
         have ek:k = .local:=Option.some.inj z
         have en:x=n:=by simpa using hx
         rw[ek,en]; exact List.mem_cons_self
        | false=>rw[hx]at z; exact List.mem_cons_of_mem _ (ih z)
     exact S.apart (x,.local) (key _ z) rfl hxN
    ·exact .inl z
    ·exact .inr z
   have m:(x,NameKind.free)∈scope.names:=by
    rcases fr with z | z
    ·exact dN S.nocell z (.inl rfl)
    ·exact dN S.nocell z (.inr rfl)
   have kX:=S.free _ m rfl;obtain⟨mm,hn,hl'⟩:=I.loc
   obtain⟨u,r,lk⟩:=hl' i x v (S.same i x _ e1' m) e2 (.inr kX)
   refine⟨u,r,.inr ⟨fr,?_⟩⟩
   rcases lk with ⟨z,_⟩ | ⟨_,c,ec,cc⟩
   ·rcases kX with q | q
    ·rw[q]at z; cases z
    ·rw[q]at z; cases z
   ·obtain⟨c',ec'⟩:=fk (cells:=X.env.cells) (acc:=[]) m
    have:=hcl x c' ec'
    rw[ec]at this; cases this
    exact⟨c,ec',cc.keeps old⟩
  ·obtain⟨v,z⟩:=I.cell x c (hcl x c e)
   exact⟨v,z.keeps old⟩
  ·show upd H D (.lst []) C=none
   rw[al (Ne.symm hDC)]; exact hHC
  ·have q:=I.freeC x c (hcl x c e)
   obtain⟨v,o,z,_⟩:=I.cell x c (hcl x c e)
   rw[al (neD c o z)]; exact q
  ·exact⟨Nat.zero_le _,[],0,.nil,dat⟩
  ·show (σ++List.replicate T.length none).length=(N0++T).length
   rw[List.length_append,List.length_append,List.length_replicate,I.len,S.len0]
 have st1:tn 0 h₁:=Tn.keep _ _ _ st fun b _ o e=>old b o e
 have fp1:∀ {H':Hp},(∀ b∈fp,H' b=none)→∀ b∈fp,gK (bO X N0 T scope C fp s H) [] H' b:=fun hn b hb=>
  ⟨hn b hb,(okC.exf b hb).1,okC.exfs b hb,.inl hb,(okC.exf b hb).2,fun p hp=>(by simp[bO]at hp)⟩
 have fp0:∀ b∈fp,upd H D (.lst []) b=none:=fun b hb=>by
  obtain⟨o,e,_⟩:=Tn.obj 0 _ st b hb
  rw[al (neD b o e)]; exact(hf b hb).1
 obtain⟨W,⟨m0,w0⟩,turn⟩:=h D hHD
 have loop:∀ s₃ : Shared,s₃={ s with heap:=h₁,toks:=s.toks+([]:List (Str × Value)).length }→
   codeAny (model X.prog X.w) X.A (.compLoop (.ListComp elt [⟨tg,iter,ifs,0⟩] scope pos) 0 (.ref it) (.ref D) (compEnvC scope (cC X.env.cells scope.names []) C X.env)) (RR (.ref D) C) s₃:=by
  rintro s₃ rfl
  refine fz (fun n s'=>∃ i H' ys,Inv (bO X N0 T scope C fp s H) [] (σ++List.replicate T.length none) H' s'∧tn i s'.heap∧(∀ b∈fp,H' b=none)∧W i n ys H') ?_ m0 ⟨0,_,[],I1,st1,fp0,w0⟩
  rintro n s3 ⟨i,H3,ys,I3,st3,fr3,w3⟩
  rcases turn i n ys H3 w3 with ⟨stop,qn⟩ | ⟨go,step⟩
  ·refine bc (Tn.done (bO X N0 T scope C fp s H) rfl rfl rfl hc i [] s3 _ H3 (fun _ _=>False) I3 (fp1 fr3) st3 stop) fun r s4 ⟨hr,I4⟩=>?_
   subst hr;obtain⟨m,hm,_⟩:=I4.loc
   have hch:∀ b∈fp,(b∈X.ex∨X.s₀.heap.objs.size≤b)∧b≠X.env.locals∧(∀ x c,X.env.cells.lookup x=some c→c≠b)∧∀ p∈X.pn++pins,p.1≠b:=fun b hb=>
    ⟨(hf b hb).2.2.2.1,(hf b hb).2.1,(hf b hb).2.2.2.2.1,(hf b hb).2.2.2.2.2⟩
   have u4:Un (jz X.stack) fp H H3 s.heap s4.heap:=I4.base
   refine hRR D C s4 H3 m hm I4.free (Ne.symm (Nat.ne_of_lt (Nat.lt_trans (hD ▸ I.lt) hDlt))) (fun x c e=>?_) (fun p hp=>?_) (Nat.le_trans (hD ▸ I.sz) (Nat.le_of_lt hDlt)) (I.call' (ch:=fp) I4.os u4 I4.hok I4.bare hch) (fun h' hs'=>?_) qn
   ·obtain⟨v,o,q,_⟩:=I.cell x c e
    exact neC c o q
   ·exact neC _ _ (I.pin p hp).1
   ·refine I.call' (ch:=fp) (s':={ s4 with heap:=h' }) I4.os ⟨fun b o q n' hb hx=>(hs'.2 b (neC b o q)).trans (u4.keep b o q n' hb hx),fun b o q n' hb hx=>?_,u4.free,fun b o q hx=>?_,u4.tups,u4.frzs,u4.tbls⟩ (I4.hok.sameBut hs' I4.free) I4.bare hch
    ·obtain⟨sl,e⟩:=u4.slot b o q n' hb hx
     exact⟨sl,(hs'.2 b (neC b o q)).trans e⟩
    ·obtain⟨o',e⟩:=u4.there b o q hx
     exact⟨o',(hs'.2 b (neC b o q)).trans e⟩
  ·refine bc (Tn.item (bO X N0 T scope C fp s H) rfl rfl rfl hc i [] s3 _ H3 (fun _ _=>False) I3 (fp1 fr3) st3 go) fun r s4 ⟨u,hr,h4⟩=>?_
   subst hr;refine bc h4 fun _ s5 ⟨x,H5,I5,r5,y5,st5,fr5⟩=>?_
   have I5':=I5.pinned (fp1 fr5) (Tn.obj _ _ st5);refine bc (hg C fp s H _ s5 _ H5 x u _ I5' r5 (hfr _ _ _ _ (step x H5 y5))) fun _ s6 ⟨σ6,H6,I6,q6,l6,k6⟩=>?_
   have back:∀ {H7:Hp} {s7:Shared},Inv (bO X N0 T scope C fp s H) ([]++jp fp s5.heap) σ6 H7 s7→(∀ {m':Nat} {zs:List V},m'<n→W (i+1) m' zs H7→∃ m,m<n∧∃ i H' ys,Inv (bO X N0 T scope C fp s H) [] (σ++List.replicate T.length none) H' s7∧tn i s7.heap∧(∀ b∈fp,H' b=none)∧W i m ys H'):=fun {H7 s7} I7 {m' zs} hm w7=>by
    refine⟨m',hm,i+1,H7,zs,I7.unpinned.weak (by rw[l6]) (fun j v e=>?_),Tn.keep _ _ _ st5 fun b hb o e=>(I7.pin (b,o) (List.mem_append_right _ (List.mem_append_right _ (ef hb e)))).1,fun b hb=>?_,w7⟩
    ·have hj:j<σ.length:=by
      rcases Nat.lt_or_ge j σ.length with z | z
      ·exact z
      ·rw[List.getElem?_append_right z,List.getElem?_replicate]at e
       split at e <;> cases e
     rw[k6 j (by rw[← I.len]; exact hj)]
     exact e
    ·obtain⟨o,e,d⟩:=Tn.obj _ _ st5 b hb
     exact(I7.pin (b,o) (List.mem_append_right _ (List.mem_append_right _ (ef hb e)))).2.1
   refine bc (hi C fp s H _ s6 σ6 H6 _ I6 q6) fun b s7 ⟨H7,I7,q7⟩=>?_
   cases b with
   | false=>
    obtain⟨m',hm,w7⟩:=(show ∃ m',m'<n∧W (i+1) m' ys H7 from by simpa using q7)
    exact back I7 hm w7
   | true=>
    rw[if_pos rfl]at q7
    refine bc (he C fp s H _ s7 σ6 H7 _ I7 q7) fun v s8 ⟨y,H8,I8,r8,hD8,hz,m',hm,w8⟩=>?_
    refine bc (j_ (X:=bO X N0 T scope C fp s H) _ s8 σ6 H8 (.ref D) [y] (.ref D) [v] (fun _ H9=>H9=upd H8 D (.lst (ys++[y]))) I8 rfl (.cons r8 .nil) ⟨D,ys,y,rfl,rfl,hD8,hz,rfl⟩) fun v9 s9 ⟨y9,H9,I9,_,e9⟩=>?_
    subst e9;exact back I9 hm w8
 exact codeAny_compStart_list (loop _ rfl) (Tn.self X.A 0 _ _ _ st1 (loop _ rfl))
theorem cW(S:i3 X N0 T scope)(hc:X.calm=true)(hI:PI X tg iter wi)
  (hg:∀ C fp s H,PG (bO X N0 T scope C fp s H) tg g) (hfr:nU g X.N.length) (hi:∀ C fp s H,PIfs (bO X N0 T scope C fp s H) ifs tc) (he:∀ C fp s H,PE (bO X N0 T scope C fp s H) elt te)
  (hs:∀ x,foldedSetIterable iter X.env x=pure x:=by intro _; rfl):PE X (.ListComp elt [⟨tg,iter,ifs,0⟩] scope pos) (oG wi g tc te T.length):=by
 intro pins s σ H Q I h
 rw[eval_ListComp];refine wpAny_comprehension_free (use:=none) rfl hs (gI fun x hx hk=>I.ok.has x.1 (S.free x hx hk)) S.kind S.names (bc (hI pins s σ H _ I h) fun v s1 h1=>bc h1 fun itv s2 h2=>?_)
 obtain⟨it,fp,tn,J,H2,e,I2,Tn,st2,f2,q2⟩:=h2
 subst e;refine nA (RR:=fun acc C=>compPost (model X.prog X.w) X.A X.xe none (EP X pins σ Q) acc C) S hc hg hfr hi he I2 Tn st2 f2 q2 ?_
 intro D C s' H' m hn hC hL hcells hpins hfresh I' hI' q
 exact⟨m,hn,fun h' hs'=>⟨.ref D,H',hI' h' hs',rfl,q⟩⟩
theorem mG{i:Nat}{x:Str}{pos' spos:Pos}(S:i3 X N0 T scope)(hc:X.calm=true)(hN:X.N.Nodup)(hi':X.N[i]? = some x)(hx:X.env.scope.names.lookup x=some .local)(hI:PI X tg iter wi)
  (hg:∀ C fp s H,PG (bO X N0 T scope C fp s H) tg g) (hfr:nU g X.N.length) (hi:∀ C fp s H,PIfs (bO X N0 T scope C fp s H) ifs tc) (he:∀ C fp s H,PE (bO X N0 T scope C fp s H) elt te)
  (hsw:swapsWith (.ListComp elt [⟨tg,iter,ifs,0⟩] scope pos) (some (.Name x pos')) spos.line X.env=pure true:=by rfl)
  (hs:∀ x,foldedSetIterable iter X.env x=pure x:=by intro _; rfl):PS X (.Assign [.Name x pos'] (.ListComp elt [⟨tg,iter,ifs,0⟩] scope pos) spos) (qg (oG wi g tc te T.length) (i7 i)):=by
 intro pins s σ H D I h
 rw[exec_Assign_Name_used _ _ _ _ hsw];refine wpAny_bind (wpAny_standAt (wpAny_bind ?_))
 show wpAny _ X.A (do let _ ← comprehension (.ListComp elt [⟨tg,iter,ifs,0⟩] scope pos) scope X.env _ (newList []) false (eval iter X.env) (some (assign (.Name x pos') X.env))) _ _ s
 refine wpAny_bind (wpAny_mono (wpAny_comprehension_free (use:=some (assign (.Name x pos') X.env)) (Q:=fun _ s'=>SP X pins D .next s') rfl hs (gI fun x hx hk=>I.ok.has x.1 (S.free x hx hk)) S.kind S.names
  (bc (hI pins s σ H _ I h) fun v s1 h1=>bc h1 fun itv s2 h2=>?_)) (fun _ s' hq=>wpAny_pure (wpAny_pure hq)) fun _ _ e=>e)
 obtain⟨it,fp,tn,J,H2,e,I2,Tn,st2,f2,q2⟩:=h2
 subst e;refine nA (RR:=fun acc C=>compPost (model X.prog X.w) X.A X.xe (some (assign (.Name x pos') X.env)) (fun _ s'=>SP X pins D .next s') acc C) S hc hg hfr hi he I2 Tn st2 f2 q2 ?_
 intro L C s' H' m hn hC hL hcells hpins hfresh I' hI' q
 show wpAny _ X.A (assign (.Name x pos') X.env (.ref L)) _ _ _
 refine wpAny_assign_Name (nQ (v:=.ref L) I' hN hi' (.inl hx) rfl (fun s'' I'' ⟨a,hsa,ha⟩=>?_) (.inr hx))
 have hCa:C≠a:=by
  rintro rfl
  rcases ha with z | z
  ·exact hL z
  ·exact hcells x C z rfl
 refine⟨m,hn.sameBut hsa hCa,fun h' hs'=>?_⟩
 exact⟨σ.set i (some (.ref L)),H',I''.turned (t':=s''.toks) (fun b o hb e=>(hs'.2 b hb).trans e) hC hL (.inr hfresh) hcells hpins,q⟩
end
end L2
namespace L2
open PySem PySem.Spec PyProof.Rows
theorem Vals.of:∀ {xs:List V} {us:List Value} {i:Nat} {u:Value},Vals xs us→us[i]? = some u→∃ x,xs[i]? = some x∧RelV x u
 | _,_,0,u,.cons r _,e=>⟨_,rfl,by simp at e; subst e; exact r⟩
 | _,_,i+1,u,.cons _ rr,e=>by
  obtain⟨x,hx,r⟩:=Vals.of (i:=i) rr (by simpa using e)
  exact⟨x,by simpa using hx,r⟩
theorem i4:∀ {ss:List Str} {us:List Value},Vals (ss.map V.str) us→StrsAre us ss
 | [],_,.nil=>.nil
 | s::ss,_,.cons r rr=>by
  obtain⟨t,rfl⟩:=r
  exact .cons s t (i4 rr)
theorem i5:∀ {us:List Value} {ss:List Str},StrsAre us ss→Vals (ss.map V.str) us
 | _,_,.nil=>.nil
 | _,_,.cons y t h=>.cons ⟨t,rfl⟩ (i5 h)
theorem v6(bs:List Bool):(List.range bs.length).any (fun i=>bs.getD i false)=bs.any id:=by
 rw[Bool.eq_iff_iff,List.any_eq_true,List.any_eq_true]
 constructor
 ·rintro⟨i,hi,h⟩
  have hi':=List.mem_range.mp hi;rw[List.getD_eq_getElem?_getD,List.getElem?_eq_getElem hi']at h
  exact⟨_,List.getElem_mem hi',h⟩
 ·rintro⟨b,hb,h⟩
  obtain⟨i,hi,rfl⟩:=List.mem_iff_getElem.mp hb
  refine⟨i,List.mem_range.mpr hi,?_⟩
  rw[List.getD_eq_getElem?_getD,List.getElem?_eq_getElem hi];exact h
theorem wI{bs:List Bool}{us:List Value}(r:Vals (bs.map V.bl) us){i:Nat}{v:Value}(e:us.toArray[i]? = some v):v = .bool (bs.getD i false):=by
 obtain⟨x,hx,rx⟩:=r.of (i:=i) (by simpa using e)
 rw[List.getElem?_map]at hx
 cases hb:bs[i]? with
 | none=>rw[hb]at hx; cases hx
 | some b=>
  rw[hb]at hx
  have hx':V.bl b=x:=Option.some.inj hx
  subst hx';rw[List.getD_eq_getElem?_getD,hb];exact rx
section
variable{X:Cx}
def xT(K:PySem.W.Frag):List V→Hp→VK→Prop:=fun xs H Q=>∃ (p:Addr) (bs:List Bool),xs=[.ref p]∧SqL K H p (bs.map V.bl)∧Q (.bl (bs.any id)) H
theorem iC{K:PySem.W.Frag}{H:Hp}{Q:VK}(p:Addr):xT K [.ref p] H Q=∃ bs:List Bool,SqL K H p (bs.map V.bl)∧Q (.bl (bs.any id)) H:=propext ⟨fun ⟨_,bs,e,q⟩=>by cases e; exact⟨bs,q⟩,fun ⟨bs,q⟩=>⟨p,bs,rfl,q⟩⟩
theorem uA(hc:X.calm=true):CallR X (.builtin "any") (xT X.K):=by
 intro pins s σ H xs us Q I r h
 obtain⟨p,bs,rfl,hq,q⟩:=h
 obtain⟨u,rfl,ru⟩:=cB r
 cases ru;obtain⟨its,rv,pl,hz⟩:=I.list hq
 have hlen:its.length=bs.length:=by rw[← rv.length,List.length_map]
 refine call_any_walk (wpAny_pyIter_list pl.isList ?_)
 refine⟨_,_,_,_,_,_,fun i=>bs.getD i false,rfl,Walks.list (A:=X.A.in1) (I.ok.hd hc) s.heap.objs.size p (Nat.ne_of_lt pl.lt) its.toArray,⟨⟨_,Heap.get?_push_size _ rfl,rfl,rfl⟩,(pl.keeps fun b o e=>Heap.get?_push_of_some _ e).isList⟩,?_,fun h' tk hk=>?_⟩
 ·intro i v s' Q' E' hP hQ
  rw[wI rv hP];exact wpAny_truthy_bool hQ
 ·refine⟨.bl (bs.any id),H,I.kept (t':=tk) fun b o e=>hk b o (fun z=>?_) (Heap.get?_push_of_some _ e),?_,q⟩
  ·exact Nat.ne_of_lt (Heap.lt_size e) (by simpa using z)
  ·have e:(List.range its.toArray.size).any (fun i=>bs.getD i false)=bs.any id:=by rw[List.size_toArray,hlen,v6]
   show Value.bool ((List.range its.toArray.size).any fun i=>bs.getD i false)=Value.bool (bs.any id)
   rw[e]
def cz(H:Hp):V→Option String
 | .non=>some "NoneType"
 | .bl _=>some "bool"
 | .int _=>some "int"
 | .str _=>some "str"
 | .ref a=>match H a with
  | some (.lst _)=>some "list"
  | some (.frz _ (.lst _))=>some "list"
  | some (.tup _)=>some "tuple"
  | some (.dK _)=>some "dict"
  | some (.dT _)=>some "dict"
  | _=>none
 | _=>none
theorem ux{K:PySem.W.Frag}{H:Hp}:∀ {x:V} {T:String},cz H x=some T→fM K H x (.type T)
 | .non,T,h=>by cases h; exact .non
 | .bl b,T,h=>by cases h; exact .bl b
 | .int i,T,h=>by cases h; exact .int i
 | .str y,T,h=>by cases h; exact .str y
 | .byt _,T,h=>by cases h
 | .flt _,T,h=>by cases h
 | .ty _,T,h=>by cases h
 | .ref a,T,h=>by
  cases e:H a with
  | none=>simp[cz,e]at h
  | some o=>
   cases o with
   | lst xs=>simp[cz,e]at h; subst h; exact .lst e
   | tup xs=>simp[cz,e]at h; subst h; exact .tup e
   | dK xs=>simp[cz,e]at h; subst h; exact .dK e
   | dT xs=>simp[cz,e]at h; subst h; exact .dT e
   | frz ob u=>
    cases u with
    | lst xs=>simp[cz,e]at h; subst h; exact .frz e
    | _=>simp[cz,e]at h
   | _=>simp[cz,e]at h
def yI(T C:String):Bool:=T == C||(T == "bool" && C == "int")
theorem xa(K:PySem.W.Frag){T C:String}(hT:T∈["NoneType", "bool", "int", "str", "list", "tuple", "dict"]) (hC:C∈["bool", "int", "str", "list", "tuple"]):PySem.W.kitOne K (.type T) (.type C)=some (yI T C):=by
 simp only[List.mem_cons,List.mem_nil_iff,or_false]at hT hC
 rcases hT with rfl | rfl | rfl | rfl | rfl | rfl | rfl <;> rcases hC with rfl | rfl | rfl | rfl | rfl <;> (with_unfolding_all rfl)
theorem sU{H:Hp}{x:V}{T:String}(h:cz H x=some T):T∈["NoneType", "bool", "int", "str", "list", "tuple", "dict"]:=by
 cases x with
 | ref a=>
  cases e:H a with
  | none=>simp[cz,e]at h
  | some o=>
   cases o with
   | frz ob u=>cases u <;> simp[cz,e]at h <;> subst h <;> decide
   | _=>simp[cz,e]at h <;> subst h <;> decide
 | _=>first | (cases h; decide) | cases h
def AK:List V→Hp→VK→Prop:=fun xs H Q=>∃ (x:V) (T C:String),xs=[x,.ty C]∧cz H x=some T∧C∈["bool", "int", "str", "list", "tuple"]∧Q (.bl (yI T C)) H
theorem ig{H:Hp}{Q:VK}(x:V)(C:String):AK [x,.ty C] H Q=∃ T,cz H x=some T∧C∈["bool", "int", "str", "list", "tuple"]∧Q (.bl (yI T C)) H:=
 propext ⟨fun ⟨_,T,_,e,q⟩=>by cases e; exact⟨T,q⟩,fun ⟨T,q⟩=>⟨x,T,C,rfl,q⟩⟩
theorem eJ:CallR X (.builtin "isinstance") AK:=by
 intro pins s σ H xs us Q I r h
 obtain⟨x,T,C,rfl,hT,hC,q⟩:=h
 obtain⟨u,w',rfl,ru,rw'⟩:=oN r
 cases rw';exact uw I ru (ux hT) (xa X.K (sU hT) hC) fun tk=>⟨.bl (yI T C),H,I.tok tk,rfl,q⟩
end
def pO(J:It)(g:TG)(tb:TS)(D:dI)(σ : St)(H:Hp):Prop:=∃ W:Nat→Nat→St→Hp→Prop,(∃ m,W 0 m σ H)∧∀ i m σ H,W i m σ H→
 (J.stop i H∧D.nx σ H)∨(J.go i H∧∃ N:St→Hp→Prop,(∀ σ' H',N σ' H'→∃ m',m'<m∧W (i+1) m' σ' H')∧∀ x H',J.yld i H x H'→g x σ H' fun σ2 H2=>tb { D with nx:=N,ct:=N,bk:=D.nx } σ2 H2)
theorem ie(wi:TI)(g:TG)(tb:TS)(D:dI)(σ : St)(H:Hp):Bd wi g tb D σ H=wi σ H fun J H1=>pO J g tb D σ H1:=rfl
theorem y3{J:It}{g:TG}{tb:TS}{D:dI}{σ : St}{H:Hp}(n:Nat)(Pv:Nat→St→Hp→Prop)(h0:Pv 0 σ H)(hgo:∀ i σ H,i<n→Pv i σ H→J.go i H)(hst:∀ σ H,Pv n σ H→J.stop n H)
  (hs:∀ i σ H x H',i<n→Pv i σ H→J.yld i H x H'→g x σ H' fun σ2 H2=>tb { D with nx:=Pv (i+1),ct:=Pv (i+1),bk:=D.nx } σ2 H2) (hd:∀ σ H,Pv n σ H→D.nx σ H):pO J g tb D σ H:=by
 refine⟨fun i m σ H=>m=n - i∧i≤n∧Pv i σ H,⟨n,by simp,Nat.zero_le _,h0⟩,?_⟩
 rintro i m σ H ⟨rfl,hi,p⟩
 by_cases hlt:i<n
 ·exact .inr ⟨hgo i σ H hlt p,Pv (i+1),fun σ' H' p'=>⟨n - (i+1),by omega,rfl,hlt,p'⟩,fun x H' y=>hs i σ H x H' hlt p y⟩
 ·have e:i=n:=by omega
  subst e;exact .inl ⟨hst σ H p,hd σ H p⟩
theorem eY{K:PySem.W.Frag}{a:Addr}{xs:List V}{g:TG}{tb:TS}{D:dI}{σ : St}{H:Hp}(Pv:Nat→St→Hp→Prop)(h0:Pv 0 σ H)(hl:∀ i σ H,i≤xs.length→Pv i σ H→SqL K H a xs)
  (hs:∀ i x σ H,xs[i]? = some x→Pv i σ H→g x σ H fun σ2 H2=>tb { D with nx:=Pv (i+1),ct:=Pv (i+1),bk:=D.nx } σ2 H2) (hd:∀ σ H,Pv xs.length σ H→D.nx σ H):pO (lp K a) g tb D σ H:=
 xl Pv h0 hl hs hd
theorem dW{lo:Int}{n:Nat}{g:TG}{tb:TS}{D:dI}{σ : St}{H:Hp}(Pv:Nat→St→Hp→Prop)(h0:Pv 0 σ H)
  (hs:∀ i σ H,i<n→Pv i σ H→g (.int (lo+i)) σ H fun σ2 H2=>tb { D with nx:=Pv (i+1),ct:=Pv (i+1),bk:=D.nx } σ2 H2) (hd:∀ σ H,Pv n σ H→D.nx σ H):pO (lm lo n) g tb D σ H:=
 vE Pv h0 hs hd
def fc(n i:Nat)(Pv:Nat→List V→Hp→Prop)(D:Addr)(ys:List V)(y:V)(H:Hp):Prop:=
 H D=some (.lst ys)∧ys.length<sizeLine∧∃ m',m'<n - i∧(m'=n - (i+1)∧i+1≤n∧Pv (i+1) (ys++[y]) (upd H D (.lst (ys++[y]))))
theorem dX{n i:Nat}{Pv:Nat→List V→Hp→Prop}{D:Addr}{ys:List V}{y:V}{H:Hp}(hi:i<n)(hlen:ys.length=i)(hz:n≤sizeLine)(h1:H D=some (.lst ys))(h2:Pv (i+1) (ys++[y]) (upd H D (.lst (ys++[y])))):fc n i Pv D ys y H:=
 ⟨h1,by omega,n - (i+1),by omega,rfl,hi,h2⟩
def j2(n i:Nat)(Pv:Nat→List V→Hp→Prop)(D:Addr)(ys:List V)(te:TE)(σ : St)(H:Hp):Prop:=
 if true=true then te σ H (fc n i Pv D ys) else ∃ m',m'<n - i∧(m'=n - (i+1)∧i+1≤n∧Pv (i+1) ys H)
theorem eI{n i:Nat}{Pv:Nat→List V→Hp→Prop}{D:Addr}{ys:List V}{te:TE}{σ : St}{H:Hp}:j2 n i Pv D ys te σ H=te σ H (fc n i Pv D ys):=by
 unfold j2; rw[if_pos rfl]
theorem lA{J:It}{g:TG}{te:TE}{nT:Nat}{σ : St}{D:Addr}{Q:VK}{H:Hp}(n:Nat)(Pv:Nat→List V→Hp→Prop)(h0:Pv 0 [] H)(hgo:∀ i ys H,i<n→Pv i ys H→J.go i H)(hst:∀ ys H,Pv n ys H→J.stop n H)
  (hs:∀ i ys H x H',i<n→Pv i ys H→J.yld i H x H'→g x (σ++List.replicate nT none) H' (j2 n i Pv D ys te))
  (hd:∀ ys H,Pv n ys H→Q (.ref D) H):eD J g lC te nT σ D Q H:=by
 refine⟨fun i m ys H=>m=n - i∧i≤n∧Pv i ys H,⟨n,by simp,Nat.zero_le _,h0⟩,?_⟩
 rintro i m ys H ⟨rfl,hi,p⟩
 by_cases hlt:i<n
 ·exact .inr ⟨hgo i ys H hlt p,fun x H' y=>hs i ys H x H' hlt p y⟩
 ·have e:i=n:=by omega
  subst e;exact .inl ⟨hst ys H p,hd ys H p⟩
theorem cL{K:PySem.W.Frag}{a:Addr}{xs:List V}{g:TG}{te:TE}{nT:Nat}{σ : St}{D:Addr}{Q:VK}{H:Hp}(Pv:Nat→List V→Hp→Prop)(h0:Pv 0 [] H)(hl:∀ i ys H,i≤xs.length→Pv i ys H→SqL K H a xs)
  (hs:∀ i ys H x,xs[i]? = some x→i<xs.length→Pv i ys H→g x (σ++List.replicate nT none) H (j2 xs.length i Pv D ys te))
  (hd:∀ ys H,Pv xs.length ys H→Q (.ref D) H):eD (lp K a) g lC te nT σ D Q H:=by
 refine lA xs.length Pv h0 (fun i ys H hi p=>⟨xs,xs[i],hl i ys H (Nat.le_of_lt hi) p,by simp[hi]⟩) (fun ys H p=>⟨xs,hl _ ys H (Nat.le_refl _) p,Nat.le_refl _⟩) (fun i ys H x H' hi p yl=>?_) hd
 obtain⟨rfl,y⟩:=yl
 exact hs i ys _ x (y xs (hl i ys _ (Nat.le_of_lt hi) p)) hi p
theorem k_{lo:Int}{n:Nat}{g:TG}{te:TE}{nT:Nat}{σ : St}{D:Addr}{Q:VK}{H:Hp}(Pv:Nat→List V→Hp→Prop)(h0:Pv 0 [] H)
  (hs:∀ i ys H,i<n→Pv i ys H→g (.int (lo+i)) (σ++List.replicate nT none) H (j2 n i Pv D ys te))
  (hd:∀ ys H,Pv n ys H→Q (.ref D) H):eD (lm lo n) g lC te nT σ D Q H:=by
 refine lA n Pv h0 (fun i ys H hi p=>hi) (fun ys H p=>Nat.le_refl _) (fun i ys H x H' hi p yl=>?_) hd
 obtain⟨rfl,rfl⟩:=yl
 exact hs i ys _ hi p
end L2
namespace L2
open PySem PySem.Spec PyProof.Rows
def p0(u:TS)(D:dI)(σ : St)(H:Hp):Prop:=u D σ H
section
variable{D:dI}{σ : St}{H:Hp}{Q:VK}{B:Bool→Hp→Prop}{L:List V→Hp→Prop}{R:It→Hp→Prop}{G:St→Hp→Prop}
theorem iB(t u:TS):wJ t u D σ H=t { D with nx:=p0 u D } σ H:=rfl
theorem gn(u:TS):p0 u D σ H=u D σ H:=rfl
theorem fD:yb D σ H=D.nx σ H:=rfl
theorem hU(c:TT)(t u:TS):A7 c t u D σ H=c σ H fun b H1=>if b=true then t D σ H1 else u D σ H1:=rfl
theorem hV(t:TE):Bs t D σ H=t σ H D.rt:=rfl
theorem gs(t:TE):sC t D σ H=t σ H fun _ H1=>D.nx σ H1:=rfl
theorem ij(t:TE)(g:TG):qg t g D σ H=t σ H fun x H1=>g x σ H1 D.nx:=rfl
theorem fQ(i:Nat)(v:V):i7 i v σ H G=G (σ.set i (some v)) H:=rfl
theorem il(vs:List V):sX vs σ H G=(vs=[]∧G σ H):=rfl
theorem fC(t:TG)(u:iW)(vs:List V):oH t u vs σ H G=∃ v r,vs=v::r∧t v σ H fun σ' H'=>u r σ' H' G:=rfl
theorem im(K:PySem.W.Frag)(n:Nat)(t:iW)(v:V):ub K n t v σ H G=∃ a xs,v = .ref a∧SqT K H a xs∧xs.length=n∧t xs σ H G:=rfl
theorem iz(to ti:TE)(t:kj)(v:V):Bp to ti t v σ H G=to σ H fun o H1=>ti σ H1 fun i H2=>t o i v H2 fun H3=>G σ H3:=rfl
theorem iA(i:Nat):m5 i σ H Q=∃ v,σ[i]? = some (some v)∧Q v H:=rfl
theorem kA(v:V):tC v σ H Q=Q v H:=rfl
theorem jv(r:R2)(ta tb:TE):vX r ta tb σ H Q=ta σ H fun x H1=>tb σ H1 fun y H2=>r x y H2 Q:=rfl
theorem fA(t:TE):yM t σ H B=t σ H fun x H'=>∃ k,x = .bl k∧B k H':=rfl
theorem kR(t:TE):tB t σ H B=t σ H fun x H'=>∃ k,x = .bl k∧B k H':=rfl
theorem h_(t u:TT):AL t u σ H B=t σ H fun c H1=>if c=true then u σ H1 B else B false H1:=rfl
theorem jr(t u:TT):CD t u σ H B=t σ H fun c H1=>if c=true then B true H1 else u σ H1 B:=rfl
theorem h9(t:TT):zW t σ H B=t σ H fun c H1=>B (!c) H1:=rfl
theorem gf(ta tb:TE):yq ta tb σ H Q=ta σ H fun x H1=>∃ c,x = .bl c∧if c=true then tb σ H1 Q else Q (.bl false) H1:=rfl
theorem fH(ta:TE):yo ta σ H Q=ta σ H fun x H1=>∃ c,x = .bl c∧Q (.bl (!c)) H1:=rfl
theorem jC(t:TT)(ta tb:TE):CG t ta tb σ H Q=t σ H fun c H1=>if c=true then ta σ H1 Q else tb σ H1 Q:=rfl
theorem jw(r:List V→Hp→VK→Prop)(t:TA):v3 r t σ H Q=t σ H fun vs H1=>r vs H1 Q:=rfl
theorem fF(ta:TE)(tr:TA):tK ta tr σ H L=ta σ H fun x H1=>tr σ H1 fun xs H2=>L (x::xs) H2:=rfl
theorem ik:wF σ H L=L [] H:=rfl
theorem iq(t:TA):zX t σ H Q=t σ H fun xs H1=>xs.length≤sizeLine∧∀ p,H1 p=none→Q (.ref p) (upd H1 p (.tup xs)):=rfl
theorem hJ(t:TA):Bk t σ H Q=t σ H fun xs H1=>xs.length≤sizeLine∧∀ p,H1 p=none→Q (.ref p) (upd H1 p (.lst xs)):=rfl
theorem fJ(sp:Sp)(dvs:List V)(E:XK)(t:TA):oO sp dvs E t σ H Q=t σ H fun vs H1=>sp (vs++dvs) H1 Q E:=rfl
theorem jm(K:PySem.W.Frag)(T:String)(r:V→List V→Hp→VK→Prop)(to:TE)(t:TA):ya K T r to t σ H Q=to σ H fun x H1=>qG K T x H1∧t σ H1 fun xs H2=>r x xs H2 Q:=rfl
theorem hG(K:PySem.W.Frag)(T:String)(r:V→List V→Hp→VK→Prop)(to:TE):w5 K T r to σ H Q=to σ H fun x H1=>qG K T x H1∧r x [] H1 Q:=rfl
theorem jy(r:V→Option Int→Option Int→Hp→VK→Prop)(te:TE)(tl th:TO):Cs r te tl th σ H Q=te σ H fun x H1=>tl σ H1 fun l H2=>th σ H2 fun u H3=>r x l u H3 Q:=rfl
theorem gj(t:TE)(O:Option Int→Hp→Prop):yA t σ H O=t σ H fun x H1=>∃ i,x = .int i∧O (some i) H1:=rfl
theorem dZ(O:Option Int→Hp→Prop):sw σ H O=O none H:=rfl
theorem fE(wi:TI)(g:TG)(tc:TT)(te:TE)(nT:Nat):oG wi g tc te nT σ H Q=wi σ H fun J H1=>∀ D,H1 D=none→eD J g tc te nT σ D Q (upd H1 D (.lst [])):=rfl
theorem iD:lC σ H B=B true H:=rfl
theorem fW(K:PySem.W.Frag)(tl:TE):sA K tl σ H R=tl σ H fun x H1=>∃ a,x = .ref a∧(∃ xs,SqL K H1 a xs)∧R (lp K a) H1:=rfl
theorem fI(ta:TA):yG ta σ H R=ta σ H fun vs H1=>∃ j:Int,vs=[.int j]∧-(2 ^ 62)≤j∧j<2 ^ 62∧R (lm 0 j.toNat) H1:=rfl
theorem jB(g:Int→Int→V)(i j:Int):om g (.int i) (.int j) H Q=Q (g i j) H:=propext ⟨fun ⟨_,_,e1,e2,q⟩=>by cases e1; cases e2; exact q,fun q=>⟨i,j,rfl,rfl,q⟩⟩
theorem kF(C:Int→Int→Prop)(g:Int→Int→V)(i j:Int):rI C g (.int i) (.int j) H Q=(C i j∧Q (g i j) H):=propext ⟨fun ⟨_,_,e1,e2,q⟩=>by cases e1; cases e2; exact q,fun q=>⟨i,j,rfl,rfl,q⟩⟩
end
structure DefAt (K:PySem.W.Frag) (mg:Str→Option Value) (x:Str) (st:Stmt):Prop where
 ex:∃ f fd,Fun K x x st f fd∧mg x=some (.ref f)
structure Cal (P:Program) (w:World) (K:PySem.W.Frag) (mg:Str→Option Value) (base:Heap) (k:Nat) (x:Str) (ps:List Str) (sp:Sp):Prop where
 ex:∃ f fd,iQ P w K mg base kW k f fd ps sp∧Binds K fd ps []∧PySem.W.keepIn K (.ref f)=true∧mg x=some (.ref f)
section
variable{P:Program}{w:World}{K:PySem.W.Frag}{mg:Str→Option Value}{base:Heap}
theorem DefAt.cal{x:Str}{st:Stmt}{N ps:List Str}{k:Nat}{sp:Sp}(D:DefAt K mg x st)(S:bg N ps (defScope st))
  (hb:∀ (kV doc pm:Value) (an:Option Addr) (cdv ct:Value) (us:List Value),us.length=ps.length→bindArgs (PySem.W.fnOf x x (defArgs st) (defBody st) (defScope st) .none kV doc pm an cdv ct) ⟨us,[]⟩=pure (ps.zip us))
  (len:∀ vs H Q E,sp vs H Q E→vs.length=ps.length)
  (hbody:∀ (f:Addr) (cdv:Value) (A:Around) (outer:List Env) (s:Shared) (H:Hp) (vs:List V) (Q:VK) (E:XK),Room k (A.deeper (envOfC x (defScope st) s.heap.objs.size f cdv))→sp vs H Q E→
   ∃ t,PSs (ls kW P w K mg base N x (defScope st) f cdv A outer s H E).nox (defBody st) t∧t { nx:=fun _ H'=>Q .non H',rt:=Q } (start N vs) H):Cal P w K mg base (k+1) x ps sp:=by
 obtain⟨f,fd,F,m⟩:=D.ex
 exact⟨f,fd,F.ok S len fun cdv A outer s H vs Q E hr h=>hbody f cdv A outer s H vs Q E hr h,F.binds hb,F.kp,m⟩
end
section
variable{X:Cx}
theorem aU{j k:Nat}{x:Str}{ps:List Str}{sp:Sp}{p pos:Pos}{e:Expr}{es:List Expr}{t:TA}(c:Cal X.prog X.w X.K X.mg X.base j x ps sp)(hr:Room k X.A)(ha:PA X (e::es) t)(hle:j≤k:=by decide)(hg:Gl X x:=by first | exact vGg (by decide +kernel) | rfl)
  (hdb:(x == ("__debug__" : Str))=false:=by decide) (he:starEach (e::es) X.env=(false,eval e X.env)::starEach es X.env:=by rfl) (hpl:(backTo pos (starEach es X.env)).any (·.1)=false:=by rfl) :
  PE X (.Call (.Name x p) (e::es) [] pos) (oO sp [] E0 t):=by
 obtain⟨f,fd,F,b,kp,m⟩:=c.ex
 exact yR F (hr.mono hle) hg m kp b .nil yO ha hdb he hpl
theorem rR{x:Str}{i:Int}{pos:Pos}(h:∃ t,X.mg x=some (.int i t))(hg:Gl X x:=by first | exact vGg (by decide +kernel) | rfl)(hd:(x == ("__debug__" : Str))=false:=by decide):PE X (.Name x pos) (tC (.int i)):=by
 obtain⟨t,h⟩:=h
 exact rJ hg h ⟨t,rfl⟩ hd
theorem iV{x:Str}{T:String}{pos:Pos}(hm:X.mg x=none)(hv:bootBuiltins x=some (.type T))(hg:Gl X x:=by first | exact vGg (by decide +kernel) | rfl)(hn:x ≠ "__name__" := by decide) (hd:(x == ("__debug__" : Str))=false:=by decide):PE X (.Name x pos) (tC (.ty T)):=
 zD hg hm hv rfl hn hd
theorem bp{x:Str}{p pos:Pos}{e:Expr}{es:List Expr}{t:TA}{id:String}{r:List V→Hp→VK→Prop}(hc:CallR X (.builtin id) r)(hm:X.mg x=none)(hv:bootBuiltins x=some (.builtin id))(ha:PA X (e::es) t)(hg:Gl X x:=by first | exact vGg (by decide +kernel) | rfl)
  (hn:x ≠ "__name__" := by decide) (hdb:(x == ("__debug__" : Str))=false:=by decide) (he:starEach (e::es) X.env=(false,eval e X.env)::starEach es X.env:=by rfl) (hpl:(backTo pos (starEach es X.env)).any (·.1)=false:=by rfl) :
  PE X (.Call (.Name x p) (e::es) [] pos) (v3 r t):=xI hc hg hm hv ha hn hdb he hpl
theorem cX{x:Str}{p pos:Pos}{e:Expr}{es:List Expr}{t:TA}{T:String}{r:List V→Hp→VK→Prop}(hc:CallR X (.type T) r)(hm:X.mg x=none)(hv:bootBuiltins x=some (.type T))(ha:PA X (e::es) t)(hg:Gl X x:=by first | exact vGg (by decide +kernel) | rfl)
  (hn:x ≠ "__name__" := by decide) (hdb:(x == ("__debug__" : Str))=false:=by decide) (he:starEach (e::es) X.env=(false,eval e X.env)::starEach es X.env:=by rfl) (hpl:(backTo pos (starEach es X.env)).any (·.1)=false:=by rfl) :
  PE X (.Call (.Name x p) (e::es) [] pos) (v3 r t):=uS hc hg hm hv ha hn hdb he hpl
end
section
variable{X:Cx}
def oK:R2:=fun x y H Q=>match x,y with
 | .int i,.int j=>Q (.int (i+j)) H
 | .str a,.str b=>a.length+b.length≤sizeLine∧Q (.str (a++b)) H
 | .ref l,.ref b=>∃ xs zs,H l=some (.lst xs)∧H b=some (.lst zs)∧xs.length+zs.length≤sizeLine∧∀ p,H p=none→Q (.ref p) (upd H p (.lst (xs++zs)))
 | _,_=>False
theorem ck:OpR X (binaryOp .Add) oK:=by
 intro pins s σ H x y v u Q I rx ry h
 cases x <;> cases y <;> first
  | exact(show False from h).elim
  | exact Bw pins s σ H _ _ v u Q I rx ry ⟨_,_,rfl,rfl,h⟩
  | exact sS pins s σ H _ _ v u Q I rx ry ⟨_,_,rfl,rfl,h⟩
  | (obtain⟨xs,zs,h1,h2,h3,h4⟩:=h; exact AN pins s σ H _ _ v u Q I rx ry ⟨_,_,xs,zs,rfl,rfl,h1,h2,h3,h4⟩)
def xF:R2:=fun x y H Q=>match x,y with
 | .int i,.int j=>Q (.bl (decide (i<j))) H
 | .str i,.str j=>Q (.bl (decide (i.cps.toList<j.cps.toList))) H
 | _,_=>False
theorem ke:OpR X (compareOp .Lt) xF:=by
 intro pins s σ H x y v u Q I rx ry h
 cases x <;> cases y <;> first
  | exact(show False from h).elim
  | exact Ci pins s σ H _ _ v u Q I rx ry ⟨_,_,rfl,rfl,h⟩
  | exact vd pins s σ H _ _ v u Q I rx ry ⟨_,_,rfl,rfl,h⟩
def tZ(K:PySem.W.Frag):R2:=fun x y H Q=>match x,y with
 | .str i,.str j=>Q (.bl (!(Builtin.Str.occurrences j i 0 j.length 1).isEmpty)) H
 | x,.ref p=>∃ xs,(SqL K H p xs∨SqT K H p xs)∧bR x=true∧xs.all bR=true∧Q (.bl (pQ x xs)) H
 | _,_=>False
theorem BS:OpR X (compareOp .In) (tZ X.K):=by
 intro pins s σ H x y v u Q I rx ry h
 cases y with
 | str j=>
  cases x with
  | str i=>exact vp pins s σ H _ _ v u Q I rx ry ⟨i,j,rfl,rfl,h⟩
  | _=>exact(show False from h).elim
 | ref p=>
  have h':∃ xs,(SqL X.K H p xs∨SqT X.K H p xs)∧bR x=true∧xs.all bR=true∧Q (.bl (pQ x xs)) H:=by cases x <;> exact h
  obtain⟨xs,h1,h2,h3,h4⟩:=h'
  exact uV pins s σ H _ _ v u Q I rx ry ⟨p,xs,rfl,h1,h2,h3,h4⟩
 | _=>cases x <;> exact(show False from h).elim
def oF(K:PySem.W.Frag):List V→Hp→VK→Prop:=fun xs H Q=>match xs with
 | [.str z]=>z.length≤sizeLine∧Q (.int z.length) H
 | [.ref p]=>∃ ys,(SqL K H p ys∨SqT K H p ys)∧Q (.int ys.length) H
 | _=>False
theorem vJ:CallR X (.builtin "len") (oF X.K):=by
 intro pins s σ H xs us Q I r h
 match xs,h with
 | [.str z],h=>exact pS pins s σ H _ us Q I r ⟨z,rfl,h⟩
 | [.ref p],h=>obtain⟨ys,h1,h2⟩:=h; exact pL pins s σ H _ us Q I r ⟨p,ys,rfl,h1,h2⟩
def pG(K:PySem.W.Frag):R2:=fun x y H Q=>match x,y with
 | .ref p,.int i=>∃ xs v,(SqL K H p xs∨SqT K H p xs)∧dL xs i=some v∧Q v H
 | .str z,.int i=>∃ c,z.length≤sizeLine∧dL z.cps.toList i=some c∧Q (.str ⟨#[c]⟩) H
 | _,_=>False
theorem EM:IxR X (pG X.K):=by
 intro value slice pins s σ H x y v u Q I rx ry h hs
 refine Bf value slice pins s σ H x y v u Q I rx ry ?_ hs
 match x,y,h with
 | .ref p,.int i,h=>
  obtain⟨xs,v',h1,h2,h3⟩:=h
  rcases h1 with h1 | h1
  ·exact .inl ⟨p,xs,i,v',rfl,rfl,h1,h2,h3⟩
  ·exact .inr (.inl ⟨p,xs,i,v',rfl,rfl,h1,h2,h3⟩)
 | .str z,.int i,h=>
  obtain⟨c,h1,h2,h3⟩:=h
  exact .inr (.inr ⟨z,i,c,rfl,rfl,h1,h2,h3⟩)
end
section
variable{K:PySem.W.Frag}{H:Hp}{Q:VK}
theorem e_(i j:Int):oK (.int i) (.int j) H Q=Q (.int (i+j)) H:=rfl
theorem eT(a b:Str):oK (.str a) (.str b) H Q=(a.length+b.length≤sizeLine∧Q (.str (a++b)) H):=rfl
theorem eX(l b:Addr):oK (.ref l) (.ref b) H Q=∃ xs zs,H l=some (.lst xs)∧H b=some (.lst zs)∧xs.length+zs.length≤sizeLine∧∀ p,H p=none→Q (.ref p) (upd H p (.lst (xs++zs))):=rfl
theorem fK(i j:Int):xF (.int i) (.int j) H Q=Q (.bl (decide (i<j))) H:=rfl
theorem fO(i j:Str):xF (.str i) (.str j) H Q=Q (.bl (decide (i.cps.toList<j.cps.toList))) H:=rfl
theorem gm(i j:Str):tZ K (.str i) (.str j) H Q=Q (.bl (!(Builtin.Str.occurrences j i 0 j.length 1).isEmpty)) H:=rfl
theorem fZ(x:V)(p:Addr):tZ K x (.ref p) H Q=∃ xs,(SqL K H p xs∨SqT K H p xs)∧bR x=true∧xs.all bR=true∧Q (.bl (pQ x xs)) H:=by cases x <;> rfl
theorem eW(z:Str):oF K [.str z] H Q=(z.length≤sizeLine∧Q (.int z.length) H):=rfl
theorem eL(p:Addr):oF K [.ref p] H Q=∃ ys,(SqL K H p ys∨SqT K H p ys)∧Q (.int ys.length) H:=rfl
theorem gq(p:Addr)(i:Int):pG K (.ref p) (.int i) H Q=∃ xs v,(SqL K H p xs∨SqT K H p xs)∧dL xs i=some v∧Q v H:=rfl
theorem fY(z:Str)(i:Int):pG K (.str z) (.int i) H Q=∃ c,z.length≤sizeLine∧dL z.cps.toList i=some c∧Q (.str ⟨#[c]⟩) H:=rfl
theorem fN(p:Addr)(k:Int)(v:V)(G:Hp→Prop):tE (.ref p) (.int k) v H G=∃ xs j,H p=some (.lst xs)∧lc xs.length k=some j∧G (upd H p (.lst (xs.set j v))):=
 propext ⟨fun ⟨_,xs,_,j,e1,e2,q⟩=>by cases e1; cases e2; exact⟨xs,j,q⟩,fun ⟨xs,j,q⟩=>⟨p,xs,k,j,rfl,rfl,q⟩⟩
theorem d0(p:Addr)(y:V):kK (.ref p) [y] H Q=∃ xs,H p=some (.lst xs)∧xs.length<sizeLine∧Q .non (upd H p (.lst (xs++[y]))):=
 propext ⟨fun ⟨_,xs,_,e1,e2,q⟩=>by cases e1; cases e2; exact⟨xs,q⟩,fun ⟨xs,q⟩=>⟨p,xs,y,rfl,rfl,q⟩⟩
theorem iE(y:Str):qG K "str" (.str y) H=True:=eq_true rfl
theorem ia(p:Addr):(qG K "list" (.ref p) H)=∃ xs,SqL K H p xs:=by
 refine propext ⟨fun h=>?_,fun h=>.inl ⟨rfl,h⟩⟩
 rcases h with ⟨_,h⟩ | ⟨h,_⟩ | ⟨h,_⟩ | ⟨h,_⟩
 ·exact h
 ·exact absurd h (by decide)
 ·exact absurd h (by decide)
 ·exact absurd h (by decide)
end
theorem b8:bootBuiltins "len" = some (.builtin "len"):=by decide +kernel
theorem cR:bootBuiltins "isinstance" = some (.builtin "isinstance"):=by decide +kernel
theorem AJ:bootBuiltins "any" = some (.builtin "any"):=by decide +kernel
theorem AM:bootBuiltins "min" = some (.builtin "min"):=by decide +kernel
theorem gF:bootBuiltins "sorted" = some (.builtin "sorted"):=by decide +kernel
theorem zU:bootBuiltins "str" = some (.type "str"):=by decide +kernel
theorem qf:bootBuiltins "int" = some (.type "int"):=by decide +kernel
theorem yW:bootBuiltins "bool" = some (.type "bool"):=by decide +kernel
theorem dE:bootBuiltins "list" = some (.type "list"):=by decide +kernel
theorem lM:bootBuiltins "tuple" = some (.type "tuple"):=by decide +kernel
theorem az{X:Cx}(i:Nat){x:Str}{e:Expr}{te:TE}{pos pos':Pos}(hN:X.N.Nodup)(he:PE X e te)(hi:X.N[i]? = some x:=by rfl)(hx:aY X.env.scope x:=by first | exact vLl (by decide +kernel) | exact Or.inl rfl)(hs:swapsWith e (some (.Name x pos')) pos.line X.env=pure false:=by rfl)
  (hf:X.fn x=true∨X.env.scope.names.lookup x=some .local:=by first | exact .inl rfl | exact .inr rfl | assumption):PS X (.Assign [.Name x pos'] e pos) (qg te (i7 i)):=Az hN hi hx he hs hf
theorem bf{X:Cx}(i:Nat){x:Str}{pos:Pos}(hN:X.N.Nodup)(hi:X.N[i]? = some x:=by rfl)(hx:aY X.env.scope x:=by first | exact vLl (by decide +kernel) | exact Or.inl rfl)
  (hf:X.fn x=true∨X.env.scope.names.lookup x=some .local:=by first | exact .inl rfl | exact .inr rfl | assumption):PG X (.Name x pos) (i7 i):=y0 hN hi hx hf
structure CompSc (fsc:Scope) (N N0 T:List Str) (scope:Scope):Prop where
 kind:scope.kind = .function
 nocell:∀ y∈scope.names,y.2 ≠ .cell
 names:∀ y∈scope.names,y.2 = .local→scope.names.lookup y.1=some .local
 free:∀ y∈scope.names,y.2 = .free→fsc.names.lookup y.1=some .cell∨fsc.names.lookup y.1=some .free
 apart:∀ y∈scope.names,y.2 = .local→y.1∉N0
 len0:N0.length=N.length
 same:((N0.zip N).all fun p=>p.1 == p.2 || !(scope.names.any fun y=>y.1 == p.1))=true
theorem CompSc.to{X:Cx}{fsc:Scope}{N N0 T:List Str}{scope:Scope}(S:CompSc fsc N N0 T scope)(h1:X.env.scope=fsc)(h2:X.N=N):i3 X N0 T scope:=by
 subst h1 h2;refine⟨S.kind,S.nocell,S.names,S.free,S.apart,S.len0,fun i x k e m=>?_⟩
 have hl:=S.len0;have hi:i<N0.length:=(List.getElem?_eq_some_iff.mp e).1
 have hN:X.N[i]? = some X.N[i]:=List.getElem?_eq_getElem (by omega)
 have hz:(x,X.N[i])∈N0.zip X.N:=List.mem_of_getElem? (i:=i) (by rw[List.getElem?_zip_eq_some]; exact⟨e,hN⟩)
 have q:=List.all_eq_true.mp S.same _ hz;simp only[Bool.or_eq_true,beq_iff_eq,Bool.not_eq_true']at q
 rcases q with q | q
 ·rw[hN,← q]
 ·have:(scope.names.any fun y=>y.1 == x)=true:=List.any_eq_true.mpr ⟨_,m,by simp⟩
  rw[this]at q; cases q
def AZ:R2:=CM
def wK:R2:=CC
theorem iN{X:Cx}:OpR X (compareOp .Eq) AZ:=B4
theorem iR{X:Cx}:OpR X (compareOp .NotEq) wK:=BY
section
variable{K:PySem.W.Frag}{H:Hp}{Q:VK}
theorem fT(i j:Int):AZ (.int i) (.int j) H Q=Q (.bl (decide (i=j))) H:=by
 have e:decide (V.int i=V.int j)=decide (i=j):=by by_cases h:i=j <;> simp[h]
 show (pz (.int i) (.int j)=true∧Q (.bl (decide (V.int i=V.int j))) H)=_
 rw[e]; exact propext ⟨fun h=>h.2,fun h=>⟨rfl,h⟩⟩
theorem eG(i j:Int):wK (.int i) (.int j) H Q=Q (.bl (!decide (i=j))) H:=by
 have e:decide (V.int i=V.int j)=decide (i=j):=by by_cases h:i=j <;> simp[h]
 show (pz (.int i) (.int j)=true∧Q (.bl (!decide (V.int i=V.int j))) H)=_
 rw[e]; exact propext ⟨fun h=>h.2,fun h=>⟨rfl,h⟩⟩
end
theorem yx{X:Cx}:PSet X tE:=xQ
section
variable{X:Cx}(K:PySem.W.Frag)
theorem u5(hK:X.K=K:=by rfl):OpR X (compareOp .In) (tZ K):=hK ▸ BS
theorem bK(hK:X.K=K:=by rfl):CallR X (.builtin "len") (oF K):=hK ▸ vJ
theorem aN(hK:X.K=K:=by rfl):IxR X (pG K):=hK ▸ EM
theorem u9(hK:X.K=K:=by rfl)(hc:X.calm=true:=by rfl):CallR X (.builtin "any") (xT K):=hK ▸ uA hc
theorem qc(hK:X.K=K:=by rfl):SlR X (xi K):=hK ▸ yU
theorem bT{tg l:Expr}{tl:TE}(hl:PE X l tl)(hK:X.K=K:=by rfl):PI X tg l (sA K tl):=hK ▸ zm hl
theorem ga{es:List Expr}{k n:Nat}{t:iW}{pos:Pos}(h:PGs X es t)(hn:(assignEach es X.env).length=n:=by rfl)(hst:(assignEach es X.env).findIdx? (·.1)=none:=by rfl)(hK:X.K=K:=by rfl)(hc:X.calm=true:=by rfl):PG X (.Tuple es k pos) (ub K n t):=hK ▸ AY hc h hn hst
theorem dq{o e:Expr}{es:List Expr}{to:TE}{t:TA}{name:Str}{apos cpos:Pos}{T id:String}{r:V→List V→Hp→VK→Prop}(pa:PlainAttrs T)(slot:Slot T name id)(hty:typeOf (.builtin id)=pure (.type "method_descriptor")) (hm:MtR X id r) (ho:PE X o to) (ha:PA X (e::es) t)
  (hbase:attributeBase o name X.env (eval o X.env)=eval o X.env:=by rfl)
  (hfew:((backTo cpos (starEach (e::es) X.env)).all (fun x=>!x.1)&&(backToKw cpos (keywordEach [] X.env)).all (fun x=>x.1.isSome)&&decide ((e::es).length+([]:List Keyword).length+(if ([]:List Keyword).isEmpty then 0 else 1)<30))=true:=by rfl)
  (hline:(apos.endLine == cpos.line)=true:=by rfl) (hs:starEach (e::es) X.env=(false,eval e X.env)::starEach es X.env:=by rfl) (hplain:(backTo cpos (starEach es X.env)).any (·.1)=false:=by rfl) (hK:X.K=K:=by rfl) :
  PE X (.Call (.Attribute o name apos) (e::es) [] cpos) (ya K T r to t):=hK ▸ B5 pa slot hty hm ho ha hbase hfew hline hs hplain
theorem tq(hK:X.K=K:=by rfl):CallR X (.type "list") (fun xs H Q=>∃ p ys,xs=[.ref p]∧(SqL K H p ys∨SqT K H p ys)∧∀ l,H l=none→Q (.ref l) (upd H l (.lst ys))):=hK ▸ qA
theorem q9(hK:X.K=K:=by rfl):CallR X (.type "tuple") (fun xs H Q=>∃ p ys,xs=[.ref p]∧((SqL K H p ys∧∀ l,H l=none→Q (.ref l) (upd H l (.tup ys)))∨(SqT K H p ys∧Q (.ref p) H))):=hK ▸ ox
end
theorem jo(n:Int)(P:Int→Prop):(∃ j,[V.int n]=[V.int j]∧P j)=P n:=propext ⟨fun ⟨_,e,h⟩=>by cases e; exact h,fun h=>⟨n,rfl,h⟩⟩
theorem iF(x:V)(xs:List V)(P:V→List V→Prop):(∃ v r,x::xs=v::r∧P v r)=P x xs:=propext ⟨fun ⟨_,_,e,h⟩=>by cases e; exact h,fun h=>⟨x,xs,rfl,h⟩⟩
def bB(scope fsc:Scope):Scope:={ scope with names:=scope.names.map fun (n,k)=>if (k == .free&&fsc.kind == .function&&fsc.names.lookup n == some .cell) then (n,.cell) else (n,k) }
section
variable{X:Cx}{N0 T:List Str}{scope:Scope}{C:Addr}{fp:List Addr}{s:Shared}{H:Hp}{x:Str}
theorem rq(fsc:Scope)(h:(bB scope fsc).names.lookup x=some .globalImplicit)(e:X.env.scope=fsc:=by rfl):Gl (bO X N0 T scope C fp s H) x:=by subst e; exact h
theorem bX(fsc:Scope)(h:((bB scope fsc).names.lookup x=some .local||(bB scope fsc).names.lookup x=some .cell||(bB scope fsc).names.lookup x=some .free)=true)(e:X.env.scope=fsc:=by rfl):au (bO X N0 T scope C fp s H).env.scope x:=by
 subst e;simp only[Bool.or_eq_true,decide_eq_true_eq]at h
 rcases h with (h | h) | h
 ·exact .inl h
 ·exact .inr (.inl h)
 ·exact .inr (.inr h)
theorem eh(fsc:Scope)(h:(bB scope fsc).names.lookup x=some .local)(e:X.env.scope=fsc:=by rfl):aY (bO X N0 T scope C fp s H).env.scope x:=by subst e; exact .inl h
theorem gP(fsc:Scope)(h:(bB scope fsc).names.lookup x=some .local)(e:X.env.scope=fsc:=by rfl):(bO X N0 T scope C fp s H).fn x=true∨(bO X N0 T scope C fp s H).env.scope.names.lookup x=some .local:=by subst e; exact .inr h
end
theorem cg{X:Cx}:MtR X "list.append" kK:=j_
theorem PW.pt'{X:Cx}{e:Expr}{t:TT}(h:PW X e t):PT X e t:=h.pt
theorem l_{t u:TS}{D:dI}{σ : St}{H:Hp}(I:St→Hp→Prop)(h:∀ k:St→Hp→Prop,(∀ σ' H',I σ' H'→k σ' H')→t { D with nx:=k } σ H)(hu:∀ σ' H',I σ' H'→p0 u D σ' H'):p0 (wJ t u) D σ H:=h _ hu
theorem gw{σ : St}{H:Hp}{Q:VK}(trs:List (TE × TE)):yK trs σ H Q=∀ p,H p=none→iU trs σ (upd H p (.dK [])) fun ps H2=>H2 p=some (.dK [])∧∃ kvs:List (bq × V),ps=kvs.map (fun kv=>(kV kv.1,kv.2))∧kvs.length≤15∧Q (.ref p) (upd H2 p (.dK (jn [] kvs))):=rfl
theorem dU{σ : St}{H:Hp}{Q:List (V × V)→Hp→Prop}:iU [] σ H Q=Q [] H:=rfl
theorem dB{σ : St}{H:Hp}{Q:List (V × V)→Hp→Prop}(tk tv:TE)(r:List (TE × TE)):iU ((tk,tv)::r) σ H Q=tk σ H fun x H1=>tv σ H1 fun y H2=>iU r σ H2 fun ps H3=>Q ((x,y)::ps) H3:=rfl
theorem Same.upd{H H':Hp}{p:Addr}(sm:Same H H')(h:H p=none)(o:HO):Same H (upd H' p o):=fun b u q=>by rw[al (aO q h)]; exact sm b u q
theorem ak{H:Hp}{p:Addr}(h:H p=none)(o:HO):Same H (upd H p o):=fun b u q=>by rw[al (aO q h)]; exact q
end L2
namespace L2
open PySem PySem.Spec PyProof.Rows PySem.SeqAt
def EqN(K:PySem.W.Frag)(H:Hp):Nat→V→V→Bool→Prop
 | 0,x,y,b=>bR x=true∧bR y=true∧b=gH x y
 | n+1,x,y,b=>(bR x=true∧bR y=true∧b=gH x y)∨∃ a c xs ys,x = .ref a∧y = .ref c∧((SqL K H a xs∧SqL K H c ys)∨(SqT K H a xs∧SqT K H c ys))∧
   ((∃ e:Nat→Bool,xs.length=ys.length∧(∀ (i:Nat) x y,xs[i]? = some x→ys[i]? = some y→EqN K H n x y (e i))∧b=(List.range xs.length).all e)∨
    (SqL K H a xs∧SqL K H c ys∧xs.length≠ys.length∧b=false))
theorem lH:∀ {x:V},bR x=true→gH x x=true
 | .non,_=>rfl
 | .bl b,_=>by simp[gH]
 | .int i,_=>by simp[gH]
 | .str y,_=>by simp[gH]
section
variable{X:Cx}{pins:List (Addr × Obj)}{σ : St}{H:Hp}{s:Shared}
theorem EqN.self(I:Inv X pins σ H s):∀ {n:Nat} {x:V} {b:Bool},EqN X.K H n x x b→b=true
 | 0,x,b,h=>by obtain⟨h1,_,rfl⟩:=h; exact lH h1
 | n+1,x,b,h=>by
  rcases h with ⟨h1,_,rfl⟩ | ⟨a,c,xs,ys,rfl,e,hq,h⟩
  ·exact lH h1
  ·cases e
   have exy:xs=ys:=by
    rcases hq with ⟨q1,q2⟩ | ⟨q1,q2⟩
    ·exact I.list_inj q1 q2
    ·exact I.tuple_inj q1 q2
   subst exy;rcases h with ⟨e,_,he,rfl⟩ | ⟨_,_,z,_⟩
   ·rw[List.all_eq_true]
    intro i hi
    have hi':=List.mem_range.mp hi;have q:=he i xs[i] xs[i] (List.getElem?_eq_getElem hi') (List.getElem?_eq_getElem hi');exact EqN.self I q
   ·exact absurd rfl z
theorem EqN.rc(I:Inv X pins σ H s){n:Nat}(ih:∀ {A:Around} {x y:V} {b:Bool} {u v:Value},A.units+n<cLine→EqN X.K H n x y b→RelV x u→RelV y v→EqAt A s u v b)
  {A:Around} {a c:Addr} {xs ys:List V} {b:Bool} (hu:A.units+(n+1)<cLine) (hq:(SqL X.K H a xs∧SqL X.K H c ys)∨(SqT X.K H a xs∧SqT X.K H c ys))
  (h:(∃ e:Nat→Bool,xs.length=ys.length∧(∀ (i:Nat) x y,xs[i]? = some x→ys[i]? = some y→EqN X.K H n x y (e i))∧b=(List.range xs.length).all e)∨(SqL X.K H a xs∧SqL X.K H c ys∧xs.length≠ys.length∧b=false)) :
  RcAt A s (.ref a) (.ref c) b∧RcNeAt A s (.ref a) (.ref c) (!b):=by
 have hin:A.in1.units+n<cLine:=by
  have:A.in1.units=A.units+1:=rfl
  omega
 rcases h with ⟨e,hl,he,rfl⟩ | ⟨q1,q2,hl,rfl⟩
 ·rcases hq with ⟨q1,q2⟩ | ⟨q1,q2⟩
  ·obtain⟨i1,r1,p1,z1⟩:=I.list q1
   obtain⟨i2,r2,p2,z2⟩:=I.list q2
   have l1:=r1.length;have l2:=r2.length
   have hit:∀ j (h1:j<i1.toArray.size) (h2:j<i2.toArray.size),EqAt A.in1 s i1.toArray[j] i2.toArray[j] (e j):=fun j h1 h2=>by
    obtain⟨x,hx,rx⟩:=r1.of (i:=j) (u:=i1.toArray[j]) (by simp at h1 ⊢)
    obtain⟨y,hy,ry⟩:=r2.of (i:=j) (u:=i2.toArray[j]) (by simp at h2 ⊢)
    exact ih hin (he j x y hx hy) rx ry
   have ez:xs.length=i1.toArray.size:=by simp; omega
   rw[ez];exact⟨RcAt.lists p1.isList p2.isList (by simp; omega) (by omega) hit,RcNeAt.lists p1.isList p2.isList (by simp; omega) (by omega) hit⟩
  ·obtain⟨i1,r1,p1,z1⟩:=I.tuple q1
   obtain⟨i2,r2,p2,z2⟩:=I.tuple q2
   have l1:=r1.length;have l2:=r2.length
   have hit:∀ j (h1:j<i1.toArray.size) (h2:j<i2.toArray.size),EqAt A.in1 s i1.toArray[j] i2.toArray[j] (e j):=fun j h1 h2=>by
    obtain⟨x,hx,rx⟩:=r1.of (i:=j) (u:=i1.toArray[j]) (by simp at h1 ⊢)
    obtain⟨y,hy,ry⟩:=r2.of (i:=j) (u:=i2.toArray[j]) (by simp at h2 ⊢)
    exact ih hin (he j x y hx hy) rx ry
   have ez:(List.range xs.length).all e=((List.range (min i1.toArray.size i2.toArray.size)).all e&&i1.toArray.size == i2.toArray.size):=by
    have e1:i1.toArray.size=xs.length:=by simp; omega
    have e2:i2.toArray.size=xs.length:=by simp; omega
    rw[e1,e2,Nat.min_self]; simp
   rw[ez];exact⟨RcAt.tuples (show s.heap.IsTuple a i1.toArray from p1) (show s.heap.IsTuple c i2.toArray from p2) (by omega) hit,RcNeAt.tuples (show s.heap.IsTuple a i1.toArray from p1) (show s.heap.IsTuple c i2.toArray from p2) (by omega) hit⟩
 ·obtain⟨i1,r1,p1,z1⟩:=I.list q1
  obtain⟨i2,r2,p2,z2⟩:=I.list q2
  have l1:=r1.length;have l2:=r2.length
  have hne:(i1.toArray.size != i2.toArray.size)=true:=by
   rw[bne_iff_ne]; simp; omega
  exact⟨RcAt.lists_lengths p1.isList p2.isList hne (by omega),RcNeAt.lists_lengths p1.isList p2.isList hne (by omega)⟩
theorem EqN.at(I:Inv X pins σ H s):∀ {n:Nat} {A:Around} {x y:V} {b:Bool} {u v:Value},A.units+n<cLine→EqN X.K H n x y b→RelV x u→RelV y v→EqAt A s u v b
 | 0,A,x,y,b,u,v,_,h,rx,ry=>by obtain⟨h1,h2,rfl⟩:=h; exact js rx ry h1 h2
 | n+1,A,x,y,b,u,v,hu,h,rx,ry=>by
  have h0:=h;rcases h with ⟨h1,h2,rfl⟩ | ⟨a,c,xs,ys,rfl,rfl,hq,h⟩
  ·exact js rx ry h1 h2
  ·cases rx
   cases ry
   by_cases hac:a=c
   ·subst hac
    rw[EqN.self I h0];exact EqAt.same _
   ·exact EqAt.of_refs hac (EqN.rc I (fun hu' q rx ry=>EqN.at I hu' q rx ry) hu hq h).1
end
section
variable{X:Cx}
def wq(K:PySem.W.Frag):R2:=fun x y H Q=>∃ (a c:Addr) (n:Nat) (b:Bool),x = .ref a∧y = .ref c∧n≤100∧EqN K H (n+1) x y b∧Q (.bl b) H
def wC(K:PySem.W.Frag):R2:=fun x y H Q=>∃ (a c:Addr) (n:Nat) (b:Bool),x = .ref a∧y = .ref c∧n≤100∧EqN K H (n+1) x y b∧Q (.bl (!b)) H
theorem BM(hu:X.A.units+101<cLine):OpR X (compareOp .Eq) (wq X.K):=by
 intro pins s σ H x y v u Q I rx ry h
 obtain⟨a,c,n,b,rfl,rfl,hn,he,q⟩:=h
 cases rx
 cases ry;rcases he with ⟨h1,_⟩ | ⟨a',c',xs,ys,e1,e2,hq,h⟩
 ·cases h1
 ·cases e1
  cases e2;exact(EqN.rc I (fun hu' q rx ry=>EqN.at I hu' q rx ry) (by omega) hq h).1 _ _ _ _ ⟨.bl b,H,I,rfl,q⟩
theorem Bj(hu:X.A.units+101<cLine):OpR X (compareOp .NotEq) (wC X.K):=by
 intro pins s σ H x y v u Q I rx ry h
 obtain⟨a,c,n,b,rfl,rfl,hn,he,q⟩:=h
 cases rx
 cases ry;rcases he with ⟨h1,_⟩ | ⟨a',c',xs,ys,e1,e2,hq,h⟩
 ·cases h1
 ·cases e1
  cases e2;exact(EqN.rc I (fun hu' q rx ry=>EqN.at I hu' q rx ry) (by omega) hq h).2 _ _ _ _ ⟨.bl (!b),H,I,rfl,q⟩
theorem kG(K:PySem.W.Frag){k:Nat}(hr:Room k X.A)(hK:X.K=K:=by rfl):OpR X (compareOp .Eq) (wq K):=by subst hK; exact BM (by have:=hr.un; omega)
theorem jt(K:PySem.W.Frag){k:Nat}(hr:Room k X.A)(hK:X.K=K:=by rfl):OpR X (compareOp .NotEq) (wC K):=by subst hK; exact Bj (by have:=hr.un; omega)
end
section
variable{K:PySem.W.Frag}{H:Hp}{Q:VK}
theorem iy(a c:Addr):wq K (.ref a) (.ref c) H Q=∃ (n:Nat) (b:Bool),n≤100∧EqN K H (n+1) (.ref a) (.ref c) b∧Q (.bl b) H:=
 propext ⟨fun ⟨_,_,n,b,e1,e2,q⟩=>⟨n,b,q⟩,fun ⟨n,b,q⟩=>⟨a,c,n,b,rfl,rfl,q⟩⟩
theorem iu(a c:Addr):wC K (.ref a) (.ref c) H Q=∃ (n:Nat) (b:Bool),n≤100∧EqN K H (n+1) (.ref a) (.ref c) b∧Q (.bl (!b)) H:=
 propext ⟨fun ⟨_,_,n,b,e1,e2,q⟩=>⟨n,b,q⟩,fun ⟨n,b,q⟩=>⟨a,c,n,b,rfl,rfl,q⟩⟩
theorem EqN.flat{n:Nat}{x y:V}(hx:bR x=true)(hy:bR y=true):EqN K H n x y (gH x y):=by
 cases n with
 | zero=>exact⟨hx,hy,rfl⟩
 | succ n=>exact .inl ⟨hx,hy,rfl⟩
theorem EqN.refl{n:Nat}{x:V}(hx:bR x=true):EqN K H n x x true:=by
 have q:EqN K H n x x (gH x x):=EqN.flat hx hx
 rwa [lH hx]at q
theorem EqN.seq{n:Nat}{a c:Addr}{xs ys:List V}(hq:(SqL K H a xs∧SqL K H c ys)∨(SqT K H a xs∧SqT K H c ys))(hl:xs.length=ys.length)(he:∀ (i:Nat) x y,xs[i]? = some x→ys[i]? = some y→EqN K H n x y true):EqN K H (n+1) (.ref a) (.ref c) true:=
 .inr ⟨a,c,xs,ys,rfl,rfl,hq,.inl ⟨fun _=>true,hl,he,by simp⟩⟩
theorem EqN.seqFlat{n:Nat}{a c:Addr}{xs:List V}(hq:(SqL K H a xs∧SqL K H c xs)∨(SqT K H a xs∧SqT K H c xs))(hf:∀ x∈xs,bR x=true):EqN K H (n+1) (.ref a) (.ref c) true:=
 EqN.seq hq rfl fun i x y e1 e2=>by
  rw[e1]at e2; cases e2
  exact EqN.refl (hf x (List.mem_of_getElem? e1))
end
theorem vc{y:Str}:∀ {l:List Str} {j:Nat},j<l.idxOf y→∀ (h:j<l.length),l[j]≠y
 | n::r,0,h,_=>by
  intro e
  have e':n=y:=e
  subst e';simp at h
 | n::r,j+1,h,h2=>by
  by_cases e:n=y
  ·subst e; simp at h
  ·rw[List.idxOf_cons]at h
   have hb:(n == y)=false:=beq_eq_false_iff_ne.mpr e
   rw[hb]at h
   have h':j+1<r.idxOf y+1:=h
   have q:=vc (y:=y) (l:=r) (j:=j) (by omega) (by simpa using h2)
   simpa using q
section
variable{X:Cx}
def uM(K:PySem.W.Frag):List V→Hp→VK→Prop:=fun xs H Q=>∃ (p:Addr) (ss:List Str),xs=[.ref p]∧SqL K H p (ss.map V.str)∧ss.length<64∧∀ (l:Addr) (ts:List Str),H l=none→ts.Perm ss→sortedS ts=true→Q (.ref l) (upd H l (.lst (ts.map V.str)))
theorem eV{K:PySem.W.Frag}{H:Hp}{Q:VK}(p:Addr):uM K [.ref p] H Q=∃ ss:List Str,SqL K H p (ss.map V.str)∧ss.length<64∧∀ (l:Addr) (ts:List Str),H l=none→ts.Perm ss→sortedS ts=true→Q (.ref l) (upd H l (.lst (ts.map V.str))):=
 propext ⟨fun ⟨_,ss,e,q⟩=>by cases e; exact⟨ss,q⟩,fun ⟨ss,q⟩=>⟨p,ss,rfl,q⟩⟩
theorem mf(K:PySem.W.Frag)(hK:X.K=K:=by rfl):CallR X (.builtin "sorted") (uM K):=by
 subst hK;intro pins s σ H xs us Q I r h
 obtain⟨p,ss,rfl,hq,h64,q⟩:=h
 obtain⟨u,rfl,ru⟩:=cB r
 cases ru;obtain⟨its,rv,pl,hz⟩:=I.list hq
 have hlen:its.length=ss.length:=by rw[← rv.length,List.length_map]
 refine sorted_strs pl.isList (i4 rv) (by omega) fun out ts h1 h2 h3=>?_
 obtain⟨e,he⟩:=sortedAll_at s.heap its out
 have hl:ts.length=ss.length:=h2.length_eq
 have hs:sizeLine=16777216:=sizeLine_eq
 exact⟨.ref (s.heap.objs.size+1),_,I.laid (t':=s.toks) (fun b o e=>sortedAll_old e) (Nat.le_succ _) (show ObjOk X.prog X.w _ _ _ (.lst (ts.map V.str)) from ⟨by rw[List.length_map]; omega,out.toList,e,i5 h1,by simpa using he⟩),rfl,
  q _ ts (I.hok.fresh (Nat.le_succ _)) h2 h3⟩
def sy(K:PySem.W.Frag):V→List V→Hp→VK→Prop:=fun x vs H Q=>∃ (p:Addr) (ss:List Str) (y:Str),x = .ref p∧vs=[.str y]∧SqL K H p (ss.map V.str)∧y∈ss∧Q (.int (ss.idxOf y:Nat)) H
theorem ee{K:PySem.W.Frag}{H:Hp}{Q:VK}(p:Addr)(y:Str):sy K (.ref p) [.str y] H Q=∃ ss:List Str,SqL K H p (ss.map V.str)∧y∈ss∧Q (.int (ss.idxOf y:Nat)) H:=
 propext ⟨fun ⟨_,ss,_,e1,e2,q⟩=>by cases e1; cases e2; exact⟨ss,q⟩,fun ⟨ss,q⟩=>⟨p,ss,y,rfl,rfl,q⟩⟩
theorem vk(K:PySem.W.Frag)(hK:X.K=K:=by rfl):MtR X "list.index" (sy K):=by
 subst hK;intro pins s σ H x xs v us Q I rx r h
 obtain⟨p,ss,y,rfl,rfl,hq,hy,q⟩:=h
 cases rx;obtain⟨u,rfl,ru⟩:=cB r
 obtain⟨t,rfl⟩:=ru
 obtain⟨its,rv,pl,hz⟩:=I.list hq
 have hlen:its.length=ss.length:=by rw[← rv.length,List.length_map]
 rw[List.length_map]at hz
 have hs:sizeLine=16777216:=sizeLine_eq
 obtain⟨⟨cls,dd,data,sl⟩,ho,hc,n,hd⟩:=pl.isList
 simp only at hc hd
 subst hc hd;have hj:ss.idxOf y<ss.length:=List.idxOf_lt_length_iff.mpr hy
 have rel:∀ (i:Nat) (h:i<its.length),∃ t',its[i] = .str ss[i] t':=fun i h=>by
  obtain⟨x,hx,rx⟩:=rv.of (i:=i) (u:=its[i]) (List.getElem?_eq_getElem h)
  rw[List.getElem?_map,List.getElem?_eq_getElem (by omega)]at hx
  have hx':V.str ss[i]=x:=Option.some.inj hx
  subst hx';exact rx
 refine call_meets PySem.F.slot_list_index ⟨_,ho,rfl⟩ PySem.F.entry_list_index (PySem.F.args_list_index_2 _ _)
  (list_indexAt p its.toArray n dd sl (.str y t) (j4 (.str y)) (ss.idxOf y) (by simpa [hlen] using hj) (by omega) ?_ ?_) ⟨ho,fun z hz=>?_,⟨.int _,H,I.tok _,⟨_,rfl⟩,q⟩⟩
 ·show j4 (.str y) its[ss.idxOf y]=true
  obtain⟨t',e⟩:=rel (ss.idxOf y) (by omega)
  rw[e];show (ss[ss.idxOf y] == y)=true
  rw[List.getElem_idxOf hj]; simp
 ·intro j hjs hlt
  have hj':j<its.length:=by simpa using hjs
  show j4 (.str y) its[j]=false
  obtain⟨t',e⟩:=rel j hj'
  rw[e];show (ss[j] == y)=false
  exact beq_eq_false_iff_ne.mpr (vc hlt _)
 ·have hz':z∈its:=by simpa using hz
  obtain⟨i,hi,rfl⟩:=List.mem_iff_getElem.mp hz'
  obtain⟨t',e⟩:=rel i hi
  have q':=js (A:=X.A.in1) (s:=s) (y:=.str ss[i]) (x:=.str y) (u:=its[i]) (v:=.str y t) ⟨t',e⟩ ⟨t,rfl⟩ rfl rfl;rw[e]; rw[e]at q'
  exact q'
end
section
variable{X:Cx}
def By:R2:=fun x y H Q=>y = .non∧Q (.bl (decide (x = .non))) H
def yk:R2:=fun x y H Q=>y = .non∧Q (.bl (!decide (x = .non))) H
theorem dY:OpR X (compareOp .Is) By:=BR
theorem qo:OpR X (compareOp .IsNot) yk:=y8
def yt:List V→Hp→VK→Prop:=fun xs H Q=>∃ i,xs=[.int i]∧i.natAbs.log2<1920∧Q (.str (toString i)) H
theorem uv:CallR X (.type "str") yt:=qu
def yn:List V→Hp→VK→Prop:=fun xs H Q=>(∃ i,xs=[.int i]∧Q (.int i) H)∨∃ k,xs=[.bl k]∧Q (.int (if k then 1 else 0)) H
theorem uJ:CallR X (.type "int") yn:=vU
def rO(K:PySem.W.Frag):List V→Hp→VK→Prop:=fun xs H Q=>∃ p ys,xs=[.ref p]∧(SqL K H p ys∨SqT K H p ys)∧∀ l,H l=none→Q (.ref l) (upd H l (.lst ys))
theorem gY(K:PySem.W.Frag)(hK:X.K=K:=by rfl):CallR X (.type "list") (rO K):=tq K hK
def v7(K:PySem.W.Frag):List V→Hp→VK→Prop:=fun xs H Q=>∃ p ys,xs=[.ref p]∧((SqL K H p ys∧∀ l,H l=none→Q (.ref l) (upd H l (.tup ys)))∨(SqT K H p ys∧Q (.ref p) H))
theorem nF(K:PySem.W.Frag)(hK:X.K=K:=by rfl):CallR X (.type "tuple") (v7 K):=q9 K hK
def yE:List V→Hp→VK→Prop:=fun xs H Q=>∃ i j,xs=[.int i,.int j]∧Q (.int (if j<i then j else i)) H
theorem vT(hc:X.calm=true:=by rfl):CallR X (.builtin "min") yE:=vt hc
def sK:R2:=fun x y H Q=>match x,y with
 | .int i,.int j=>CMul i j∧Q (.int (i * j)) H
 | .str z,.int n=>0≤n∧n≤4096∧z.length≤4096∧Q (.str (Txt.mul z n)) H
 | _,_=>False
theorem ib:OpR X (binaryOp .Mult) sK:=by
 intro pins s σ H x y v u Q I rx ry h
 match x,y,h with
 | .int i,.int j,h=>exact BK pins s σ H _ _ v u Q I rx ry ⟨_,_,rfl,rfl,h⟩
 | .str z,.int n,h=>
  obtain⟨t,rfl⟩:=rx
  obtain⟨t',rfl⟩:=ry
  obtain⟨h0,h1,h2,q⟩:=h
  exact SB.mul (mulOk_of 4096 4096 h2 (by omega) (by omega) (by decide) (by decide)) fun t' k=>⟨.str (Txt.mul z n),H,I.tok k,⟨t',rfl⟩,q⟩
end
section
variable{K:PySem.W.Frag}{H:Hp}{Q:VK}
theorem ir(x:V):By x .non H Q=Q (.bl (decide (x = .non))) H:=propext ⟨fun h=>h.2,fun h=>⟨rfl,h⟩⟩
theorem f_(x:V):yk x .non H Q=Q (.bl (!decide (x = .non))) H:=propext ⟨fun h=>h.2,fun h=>⟨rfl,h⟩⟩
theorem fB(i:Int):yt [.int i] H Q=(i.natAbs.log2<1920∧Q (.str (toString i)) H):=propext ⟨fun ⟨_,e,q⟩=>by cases e; exact q,fun q=>⟨i,rfl,q⟩⟩
theorem gx(k:Bool):yn [.bl k] H Q=Q (.int (if k then 1 else 0)) H:=propext ⟨fun h=>by rcases h with ⟨_,e,q⟩ | ⟨_,e,q⟩ <;> cases e; exact q,fun q=>.inr ⟨k,rfl,q⟩⟩
theorem d8(p:Addr):rO K [.ref p] H Q=∃ ys,(SqL K H p ys∨SqT K H p ys)∧∀ l,H l=none→Q (.ref l) (upd H l (.lst ys)):=propext ⟨fun ⟨_,ys,e,q⟩=>by cases e; exact⟨ys,q⟩,fun ⟨ys,q⟩=>⟨p,ys,rfl,q⟩⟩
theorem eQ(p:Addr):v7 K [.ref p] H Q=∃ ys,((SqL K H p ys∧∀ l,H l=none→Q (.ref l) (upd H l (.tup ys)))∨(SqT K H p ys∧Q (.ref p) H)):=propext ⟨fun ⟨_,ys,e,q⟩=>by cases e; exact⟨ys,q⟩,fun ⟨ys,q⟩=>⟨p,ys,rfl,q⟩⟩
theorem gg(i j:Int):yE [.int i,.int j] H Q=Q (.int (if j<i then j else i)) H:=propext ⟨fun ⟨_,_,e,q⟩=>by cases e; exact q,fun q=>⟨i,j,rfl,q⟩⟩
theorem eK(i j:Int):sK (.int i) (.int j) H Q=(CMul i j∧Q (.int (i * j)) H):=rfl
theorem eO(z:Str)(n:Int):sK (.str z) (.int n) H Q=(0≤n∧n≤4096∧z.length≤4096∧Q (.str (Txt.mul z n)) H):=rfl
theorem ix(a:Addr)(lo hi:Option Int):xi K (.ref a) lo hi H Q=∃ xs,SqL K H a xs∧∀ p,H p=none→Q (.ref p) (upd H p (.lst (jG xs lo hi))):=propext ⟨fun ⟨_,xs,e,q⟩=>by cases e; exact⟨xs,q⟩,fun ⟨xs,q⟩=>⟨a,xs,rfl,q⟩⟩
end
theorem b6{n:Nat}(h:n≤1000000):n<sizeLine:=by
 have:sizeLine=16777216:=sizeLine_eq
 omega
theorem b7{n:Nat}(h:n≤1000000):n≤sizeLine:=Nat.le_of_lt (b6 h)
theorem lU{α : Type}{f:α→V}{xs:List α}{i:Int}{x:α}(h0:0≤i)(h:xs[i.toNat]? = some x):dL (xs.map f) i=some (f x):=by
 have q:(xs.map f)[i.toNat]? = some (f x):=by rw[List.getElem?_map,h]; rfl
 have q':=aL q
 rwa [show ((i.toNat:Nat):Int)=i by omega]at q'
theorem zL{α : Type}{xs:List α}{i:Int}(h0:0≤i)(h:i<xs.length):∃ x,xs[i.toNat]? = some x∧dL xs i=some x:=by
 have hk:i.toNat<xs.length:=by omega
 refine⟨xs[i.toNat],List.getElem?_eq_getElem hk,?_⟩
 have q:=aL (List.getElem?_eq_getElem hk)
 rwa [show ((i.toNat:Nat):Int)=i by omega]at q
theorem cJ{H H':Hp}{p:Addr}{o:HO}(h:upd H p o=H')(hp:H p=none):Same H H':=h ▸ ak hp o
theorem dG{H H':Hp}{p:Addr}{o:HO}(h:upd H p o=H'):H' p=some o:=h ▸ ae
end L2
namespace L2
open PySem PySem.Spec PyProof.Rows
theorem Inv.turnedL{X:Cx}{pins:List (Addr × Obj)}{σ : St}{H:Hp}{s:Shared}{h':Heap}{t':Nat}{ch:List Addr}(I:Inv X pins σ H s)(k:∀ b o,b∉ch→s.heap.get? b=some o→h'.get? b=some o)
  (hf:∀ b∈ch,gK X pins H b):Inv X pins σ H { s with heap:=h',toks:=t' }:=by
 have nit:∀ b u,H b=some u→b∉ch:=fun b u e z=>by rw[(hf b z).1]at e; cases e
 refine I.step (g':=s.gens) (d':=s.drawn) (ch:=ch) (fun b hb=>?_) (fun b o _ _ hc e _=>k b o hc e) (fun b o _ _ hc e _=>⟨o.slots,k b o hc e⟩) (fun _ _ _ _ n=>n)
  (fun b o hc e=>⟨o,k b o hc e⟩) (fun _ _ e=>e) (fun _ _ _ e=>e) (fun b ps e=>⟨#[],by rw[e]; simp⟩) (fun m hm=>?_) (fun b u e=>?_) I.bare
 ·obtain⟨_,f1,_,f3,f4,f5⟩:=hf b hb
  exact⟨f3,f1,f4,f5⟩
 ·obtain⟨o,es,ep,ho,r⟩:=hm
  exact⟨o,es,ep,k _ o (fun z=>(hf _ z).2.1 rfl) ho,r⟩
 ·refine(I.hok b u e).stay (fun c v hc q=>k c v ?_ q) (fun _ q=>q) fun _ _ q=>q
  rcases hc with z | z
  ·rw[z]; exact nit b u e
  ·exact nit c _ z
theorem Inv.turnedLaid{X:Cx}{pins:List (Addr × Obj)}{σ : St}{H:Hp}{s:Shared}{h':Heap}{t':Nat}{ch:List Addr}{a:Addr}{o:HO}(I:Inv X pins σ H s)(k:∀ b o,b∉ch→s.heap.get? b=some o→h'.get? b=some o)
  (hf:∀ b∈ch,gK X pins H b) (hp:s.heap.objs.size≤a) (new:ObjOk X.prog X.w (upd H a o) h' a o):Inv X pins σ (upd H a o) { s with heap:=h',toks:=t' }:=by
 have hn:H a=none:=I.hok.fresh hp
 have nit:∀ b u,H b=some u→b∉ch:=fun b u e z=>by rw[(hf b z).1]at e; cases e
 refine I.step (g':=s.gens) (d':=s.drawn) (ch:=ch) (fun b hb=>?_) (fun b o _ _ hc e _=>k b o hc e) (fun b o _ _ hc e _=>⟨o.slots,k b o hc e⟩) (fun b u _ q n=>?_)
  (fun b o hc e=>⟨o,k b o hc e⟩) (fun b xs q=>?_) (fun b u xs q=>?_) (fun b ps q=>⟨#[],?_⟩) (fun m hm=>?_) (fun b u e=>?_) I.bare
 ·obtain⟨_,f1,_,f3,f4,f5⟩:=hf b hb
  exact⟨f3,f1,f4,f5⟩
 ·rw[al (Nat.ne_of_lt (Nat.lt_of_lt_of_le (Heap.lt_size q) hp))]; exact n
 ·rw[al (aO q hn)]; exact q
 ·rw[al (aO q hn)]; exact q
 ·rw[al (aO q hn),q]; simp
 ·obtain⟨o,es,ep,ho,r⟩:=hm
  exact⟨o,es,ep,k _ o (fun z=>(hf _ z).2.1 rfl) ho,r⟩
 ·by_cases hb:b=a
  ·subst hb; rw[ae]at e; cases e; exact new
  ·rw[al hb]at e
   refine(I.hok b u e).stay (fun c v hc q=>k c v ?_ q) (fun c q=>by rw[al (aO q hn)]; exact q) fun c xs q=>by rw[al (aO q hn)]; exact q
   rcases hc with z | z
   ·rw[z]; exact nit b u e
   ·exact nit c _ z
structure Ag (z TI TO i1 i2:Addr):Prop where
 TIz:TI≠z
 TOz:TO≠z
 i1z:i1≠z
 i2z:i2≠z
 TITO:TI≠TO
 TIi1:TI≠i1
 TIi2:TI≠i2
 TOi1:TO≠i1
 TOi2:TO≠i2
 i12:i1≠i2
theorem Ga(n:Nat):Ag (n+4) (n+2) (n+3) n (n+1):=⟨(show (@Ne Nat (n+2) (n+4):Prop) by omega),(show (@Ne Nat (n+3) (n+4):Prop) by omega),(show (@Ne Nat (n) (n+4):Prop) by omega),(show (@Ne Nat (n+1) (n+4):Prop) by omega),(show (@Ne Nat (n+2) (n+3):Prop) by omega),(show (@Ne Nat (n+2) (n):Prop) by omega),(show (@Ne Nat (n+2) (n+1):Prop) by omega),(show (@Ne Nat (n+3) (n):Prop) by omega),(show (@Ne Nat (n+3) (n+1):Prop) by omega),(show (@Ne Nat (n) (n+1):Prop) by omega)⟩
theorem xX:bootBuiltins "zip" = some (.type "zip"):=by decide +kernel
section
variable{X:Cx}
end
section
variable{σ : St}{H:Hp}{Q:VK}
end
end L2
namespace L2
open PySem PySem.Spec PyProof.Rows
def vx(K:PySem.W.Frag)(a:Addr):It:=
  ⟨fun i H=>∃ xs x,SqL K H a xs∧xs[i]? = some x,
   fun i H v H'=>∃ t x,H t=none∧v = .ref t∧H'=upd H t (.tup [.int i,x])∧∀ xs,SqL K H a xs→xs[i]? = some x,
   fun i H=>∃ xs,SqL K H a xs∧xs.length≤i⟩
def GD(e it l:Addr)(i:Nat)(h:Heap):Prop:=(∃ old,IsEnum h e it i old)∧h.IsListIter it l i
theorem vy{P:Program}{w:World}{K:PySem.W.Frag}{elts:List Expr}{k:Nat}{pos:Pos}{e it l:Addr}(hei:e≠it):mY P w K (.Tuple elts k pos) (vx K l) [e,it] e (GD e it l) where
 mem:=by simp
 obj:=fun i h st b hb=>by
  obtain⟨⟨old,s1⟩,⟨o4,s4,c4,d4⟩⟩:=st
  simp only[List.mem_cons,List.mem_nil_iff,or_false]at hb
  rcases hb with rfl | rfl
  ·exact⟨_,s1,fun v e=>by cases e⟩
  ·exact⟨_,s4,fun v e=>by rw[d4]at e; cases e⟩
 keep:=fun i h h' st kk=>by
  obtain⟨⟨old,s1⟩,s4⟩:=st
  exact⟨⟨old,kk e (by simp) _ s1⟩,s4.at fun o z=>kk it (by simp) o z⟩
 item:=by
  intro X hP hw hK hc i pins s σ H E I hf st hg
  subst hP hw hK;obtain⟨xs,x,q1,hx⟩:=hg
  obtain⟨is1,rv1,p1,_⟩:=I.list q1
  obtain⟨u1,hu1,ru1⟩:=rv1.get hx
  obtain⟨⟨old,s1⟩,s4⟩:=st
  refine wpAny_pyNext_enum_item s1 s4 p1.isList (x:=u1) (by simpa using hu1) hei fun h' a1 a3 a5 a6 kk=>?_
  refine⟨_,rfl,wpAny_letOwnedTupleGo_enum a1 fun h'' hz' hs'=>?_⟩
  have lt:∀ {c o},s.heap.get? c=some o→s.heap.objs.size≠c:=fun z=>Nat.ne_of_gt (Heap.lt_size z)
  have zne:s.heap.objs.size≠e:=lt s1
  have keep2:∀ b o,b∉[e,it]→s.heap.get? b=some o→h''.get? b=some o:=fun b o hb z=>by
   simp only[List.mem_cons,List.mem_nil_iff,or_false,not_or]at hb
   exact hs'.extBut _ _ hb.1 (kk b o hb.1 hb.2 z)
  have hsz:H s.heap.objs.size=none:=I.hok.fresh (Nat.le_refl _)
  have tupN:=hs'.extBut _ _ zne a5
  have nlt:∀ c∈[e,it],c≠s.heap.objs.size:=fun c hc'=>by
   obtain⟨o4,e4,_⟩:=id s4
   simp only[List.mem_cons,List.mem_nil_iff,or_false]at hc'
   rcases hc' with rfl | rfl
   ·exact(lt s1).symm
   ·exact(lt e4).symm
  refine⟨.ref s.heap.objs.size,upd H s.heap.objs.size (.tup [.int i,x]),I.turnedLaid (t':=s.toks+1) keep2 hf (Nat.le_refl _) ⟨b7 (by show 2≤1000000; decide),[.int i s.toks,u1],.cons ⟨_,rfl⟩ (.cons ru1 .nil),⟨_,tupN,rfl,rfl,0,rfl⟩⟩,rfl,⟨_,x,hsz,rfl,rfl,fun xs' q'=>?_⟩,
   ⟨⟨_,by simpa using hz'⟩,a3.extBut hs'.extBut hei.symm⟩,fun c hc'=>?_⟩
  ·rw[I.list_inj q' q1]; exact hx
  ·rw[al (nlt c hc')]; exact(hf c hc').1
 done:=by
  intro X hP hw hK hc i pins s σ H E I hf st hg
  subst hP hw hK;obtain⟨xs,q1,hlen⟩:=hg
  obtain⟨is1,rv1,p1,_⟩:=I.list q1
  have l1:=rv1.length;obtain⟨⟨old,s1⟩,s4⟩:=st
  refine wpAny_pyNext_enum_end (I.ok.hd hc) s1 s4 p1.isList (by simp; omega) fun h' kk=>⟨rfl,I.turnedL (t':=s.toks) (fun b o hb z=>?_) hf⟩
  simp only[List.mem_cons,List.mem_nil_iff,or_false,not_or]at hb
  exact kk b o hb.2 z
 self:=fun A i s Q E st h=>by
  obtain⟨⟨old,s1⟩,_⟩:=st
  exact wpAny_pyIter_enum s1 h
theorem mM:bootBuiltins "enumerate" = some (.type "enumerate"):=by decide +kernel
def yv(K:PySem.W.Frag)(ta:TA):TI:=fun σ H R=>ta σ H fun vs H1=>∃ a:Addr,vs=[.ref a]∧(∃ xs,H1 a=some (.lst xs))∧R (vx K a) H1
theorem gk(K:PySem.W.Frag)(ta:TA){σ : St}{H:Hp}{R:It→Hp→Prop}:yv K ta σ H R=ta σ H fun vs H1=>∃ a:Addr,vs=[.ref a]∧(∃ xs,H1 a=some (.lst xs))∧R (vx K a) H1:=rfl
theorem ii(n:Addr)(P:Addr→Prop):(∃ i,[V.ref n]=[V.ref i]∧P i)=P n:=propext ⟨fun ⟨_,e,h⟩=>by cases e; exact h,fun h=>⟨n,rfl,h⟩⟩
theorem fS(K:PySem.W.Frag){X:Cx}{elts:List Expr}{k:Nat}{tpos:Pos}{a:Expr}{ta:TA}{p pos:Pos}(hg:Gl X "enumerate") (hm:X.mg "enumerate" = none) (ha:PA X [a] ta) (hs:starEach [a] X.env=[(false,eval a X.env)]:=by rfl) (hK:X.K=K:=by rfl) :
  PI X (.Tuple elts k tpos) (.Call (.Name "enumerate" p) [a] [] pos) (yv K ta):=by
 subst hK;intro pins s σ H R I h
 refine Call_ (iS I hg hm mM (PyProof.Rows.callWith_type1 (bc (ha pos pins s σ H _ I h) fun us s1 ⟨vs,H1,I1,r1,q1⟩=>?_) hs rfl))
 obtain⟨l,e,⟨xs,h1⟩,q⟩:=q1
 subst e;obtain⟨u1,rfl,r1'⟩:=cB r1
 obtain rfl:u1=Value.ref l:=r1'
 obtain⟨hz,its,n,rv,hl⟩ : xs.length≤sizeLine∧∃ (its:List Value) (n:Nat),Vals xs its∧s1.heap.get? l=some { cls:=.type "list", data:=.seq its.toArray n }:=I1.hok l _ h1
 refine call_enumerate_1 hl fun h' a1 a4 a6 kk=>?_
 refine wpAny_pyIter_enum a1 ⟨_,[s1.heap.objs.size+1,s1.heap.objs.size],_,_,H1,rfl,I1.kept (t':=s1.toks) kk,
  vy (e:=s1.heap.objs.size+1) (it:=s1.heap.objs.size) (Nat.ne_of_gt (Nat.lt_succ_self _)),⟨⟨_,a1⟩,a4⟩,fun b hb=>?_,q⟩
 have hb':s1.heap.objs.size≤b:=by
  simp only[List.mem_cons,List.mem_nil_iff,or_false]at hb
  rcases hb with rfl | rfl <;> first | exact Nat.le_refl _ | exact Nat.le_add_right _ _
 exact I1.fpOk hb' (I1.hok.fresh hb')
section
variable{K:PySem.W.Frag}{a b:Addr}{xs ys:List V}{g:TG}{te:TE}{nT:Nat}{σ : St}{D:Addr}{Q:VK}{H:Hp}
theorem ue(Pv:Nat→List V→Hp→Prop)(h0:Pv 0 [] H)(hl:∀ i zs H,i≤xs.length→Pv i zs H→SqL K H a xs)
  (hs:∀ i zs H x t,xs[i]? = some x→i<xs.length→Pv i zs H→H t=none→g (.ref t) (σ++List.replicate nT none) (upd H t (.tup [.int i,x])) (j2 xs.length i Pv D zs te))
  (hd:∀ zs H,Pv xs.length zs H→Q (.ref D) H):eD (vx K a) g lC te nT σ D Q H:=by
 refine lA xs.length Pv h0 (fun i zs H hi p=>⟨xs,xs[i],hl i zs H (Nat.le_of_lt hi) p,by simp[hi]⟩) (fun zs H p=>⟨xs,hl _ zs H (Nat.le_refl _) p,Nat.le_refl _⟩) (fun i zs H v H' hi p yl=>?_) hd
 obtain⟨t,x,ht,rfl,rfl,y1⟩:=yl
 exact hs i zs H x t (y1 xs (hl i zs H (Nat.le_of_lt hi) p)) hi p ht
theorem gG{tb:TS}{D:dI}(Pv:Nat→St→Hp→Prop)(h0:Pv 0 σ H)(hl:∀ i σ H,i≤xs.length→Pv i σ H→SqL K H a xs)
  (hs:∀ i x t σ H,xs[i]? = some x→Pv i σ H→H t=none→g (.ref t) σ (upd H t (.tup [.int i,x])) fun σ2 H2=>tb { D with nx:=Pv (i+1),ct:=Pv (i+1),bk:=D.nx } σ2 H2) (hd:∀ σ H,Pv xs.length σ H→D.nx σ H):pO (vx K a) g tb D σ H:=by
 refine y3 xs.length Pv h0 (fun i σ H hi p=>⟨xs,xs[i],hl i σ H (Nat.le_of_lt hi) p,by simp[hi]⟩) (fun σ H p=>⟨xs,hl _ σ H (Nat.le_refl _) p,Nat.le_refl _⟩) (fun i σ H v H' hi p yl=>?_) hd
 obtain⟨t,x,ht,rfl,rfl,y1⟩:=yl
 exact hs i x t σ H (y1 xs (hl i σ H (Nat.le_of_lt hi) p)) p ht
def tP(n i:Nat)(Pv:Nat→List V→Hp→Prop)(ys:List V)(H:Hp):Prop:=∃ m',m'<n - i∧(m'=n - (i+1)∧i+1≤n∧Pv (i+1) ys H)
theorem yC{n i:Nat}{Pv:Nat→List V→Hp→Prop}{ys:List V}{H:Hp}(hi:i<n)(h:Pv (i+1) ys H):tP n i Pv ys H:=⟨n - (i+1),by omega,rfl,hi,h⟩
theorem ui{n i:Nat}{Pv:Nat→List V→Hp→Prop}{D:Addr}{ys:List V}{y:V}{H:Hp}(hi:i<n)(hlen:ys.length≤i)(hz:n≤sizeLine)(h1:H D=some (.lst ys))(h2:Pv (i+1) (ys++[y]) (upd H D (.lst (ys++[y])))):fc n i Pv D ys y H:=
 ⟨h1,by omega,n - (i+1),by omega,rfl,hi,h2⟩
def oJ(n i:Nat)(Pv:Nat→List V→Hp→Prop)(D:Addr)(ys:List V)(tc:TT)(te:TE)(σ : St)(H:Hp):Prop:=
 tc σ H fun b H4=>if b=true then te σ H4 (fc n i Pv D ys) else tP n i Pv ys H4
theorem gi{n i:Nat}{Pv:Nat→List V→Hp→Prop}{D:Addr}{ys:List V}{tc:TT}{te:TE}{σ : St}{H:Hp}:oJ n i Pv D ys tc te σ H=tc σ H fun b H4=>if b=true then te σ H4 (fc n i Pv D ys) else tP n i Pv ys H4:=rfl
theorem pX{J:It}{tc:TT}(n:Nat)(Pv:Nat→List V→Hp→Prop)(h0:Pv 0 [] H)(hgo:∀ i ys H,i<n→Pv i ys H→J.go i H)(hst:∀ ys H,Pv n ys H→J.stop n H)
  (hs:∀ i ys H x H',i<n→Pv i ys H→J.yld i H x H'→g x (σ++List.replicate nT none) H' (oJ n i Pv D ys tc te))
  (hd:∀ ys H,Pv n ys H→Q (.ref D) H):eD J g tc te nT σ D Q H:=by
 refine⟨fun i m ys H=>m=n - i∧i≤n∧Pv i ys H,⟨n,by simp,Nat.zero_le _,h0⟩,?_⟩
 rintro i m ys H ⟨rfl,hi,p⟩
 by_cases hlt:i<n
 ·exact .inr ⟨hgo i ys H hlt p,fun x H' y=>hs i ys H x H' hlt p y⟩
 ·have e:i=n:=by omega
  subst e;exact .inl ⟨hst ys H p,hd ys H p⟩
theorem sT{tc:TT}(Pv:Nat→List V→Hp→Prop)(h0:Pv 0 [] H)(hl:∀ i ys H,i≤xs.length→Pv i ys H→SqL K H a xs)
  (hs:∀ i ys H x,xs[i]? = some x→i<xs.length→Pv i ys H→g x (σ++List.replicate nT none) H (oJ xs.length i Pv D ys tc te))
  (hd:∀ ys H,Pv xs.length ys H→Q (.ref D) H):eD (lp K a) g tc te nT σ D Q H:=by
 refine pX xs.length Pv h0 (fun i ys H hi p=>⟨xs,xs[i],hl i ys H (Nat.le_of_lt hi) p,by simp[hi]⟩) (fun ys H p=>⟨xs,hl _ ys H (Nat.le_refl _) p,Nat.le_refl _⟩) (fun i ys H x H' hi p yl=>?_) hd
 obtain⟨rfl,y⟩:=yl
 exact hs i ys _ x (y xs (hl i ys _ (Nat.le_of_lt hi) p)) hi p
theorem qO{tc:TT}{lo:Int}{n:Nat}(Pv:Nat→List V→Hp→Prop)(h0:Pv 0 [] H)
  (hs:∀ i ys H,i<n→Pv i ys H→g (.int (lo+i)) (σ++List.replicate nT none) H (oJ n i Pv D ys tc te))
  (hd:∀ ys H,Pv n ys H→Q (.ref D) H):eD (lm lo n) g tc te nT σ D Q H:=by
 refine pX n Pv h0 (fun i ys H hi p=>hi) (fun ys H p=>Nat.le_refl _) (fun i ys H x H' hi p yl=>?_) hd
 obtain⟨rfl,rfl⟩:=yl
 exact hs i ys _ hi p
end
end L2
namespace L2
open PySem PySem.Spec PyProof.Rows
end L2
namespace L2
open PySem PySem.Spec PyProof.Rows
set_option genInjectivity false in
set_option genSizeOf false in
structure IK (prog:Program) (w:World) (κ : Type) [DecidableEq κ] where
 is:Heap→κ→Value→Prop
 hash:κ→Int
 draws:κ→Nat
 deep:Nat
 inj:∀ {h:Heap} {v:Value} {x y:κ},is h x v→is h y v→x=y
 keeps:∀ {h h':Heap} {k:κ} {v:Value} {d:Addr} {o:Obj} {es ep},is h k v→h.get? d=some o→o.data = .dict es ep→Heap.SameBut d h h'→is h' k v
 pyHash:∀ {A:Around} {E:Value→Shared→Prop} {s:Shared} {k:κ} {v:Value} {Q:Int→Shared→Prop},A.units+deep<cLine→is s.heap k v→Q (hash k) { s with toks:=s.toks+draws k }→
  wpAny (model prog w) A (PySem.pyHash v) Q E s
 eqBool:∀ {A:Around} {E:Value→Shared→Prop} {s:Shared} {x y:κ} {u v:Value} {Q:Bool→Shared→Prop},A.units+deep<cLine→is s.heap x u→is s.heap y v→Q (decide (x=y)) s→
  wpAny (model prog w) A (PySem.eqBool u v) Q E s
 quiet:∀ {A:Around} {E:Value→Shared→Prop} {s:Shared} {k:κ} {v:Value} {n:Nat} {Q:Bool→Shared→Prop},is s.heap k v→Q true s→wpAny (model prog w) A (eqIsQuiet (n+deep) v) Q E s
section
variable{prog:Program}{w:World}{κ : Type}[DecidableEq κ](K:IK prog w κ)
inductive IsItems (h:Heap):List κ→List Value→Prop
 | nil:IsItems h [] []
 | cons {k:κ} {v:Value} {ks:List κ} {vs:List Value}:K.is h k v→IsItems h ks vs→IsItems h (k::ks) (v::vs)
def IsTupK(h:Heap)(ks:List κ)(v:Value):Prop:=∃ a o items n,v = .ref a∧h.get? a=some o∧o.cls = .type "tuple" ∧ o.data = .seq items n∧IsItems K h ks items.toList
variable{K}
theorem IsItems.inj{h:Heap}:∀ {x y:List κ} {vs:List Value},IsItems K h x vs→IsItems K h y vs→x=y
 | _,_,_,.nil,.nil=>rfl
 | _,_,_,.cons a b,.cons c d=>by rw[K.inj a c,IsItems.inj b d]
theorem IsItems.keeps{h h':Heap}{d:Addr}{o:Obj}{es ep}(ho:h.get? d=some o)(hd:o.data = .dict es ep)(hs:Heap.SameBut d h h'):∀ {x:List κ} {vs:List Value},IsItems K h x vs→IsItems K h' x vs
 | _,_,.nil=>.nil
 | _,_,.cons a b=>.cons (K.keeps a ho hd hs) (b.keeps ho hd hs)
theorem IsItems.len{h:Heap}:∀ {x:List κ} {vs:List Value},IsItems K h x vs→x.length=vs.length
 | _,_,.nil=>rfl
 | _,_,.cons _ b=>by rw[List.length_cons,List.length_cons,b.len]
def jf(K:IK prog w κ)(ks:List κ):Nat:=(ks.map K.draws).sum
def oR(K:IK prog w κ)(ks:List κ):Int:=reduceHash (Builtin.Tuple.tupleHashOf (ks.map K.hash))
theorem km{A:Around}{E:Value→Shared→Prop}{s:Shared}{ks:List κ}{v:Value}{Q:Int→Shared→Prop}(hu:A.units+(K.deep+1)<cLine)(hk:IsTupK K s.heap ks v)(h:Q (oR K ks) { s with toks:=s.toks+(jf K ks+1) }) :
  wpAny (model prog w) A (PySem.pyHash v) Q E s:=by
 obtain⟨a,o,items,n,rfl,ho,hc,hd,hi⟩:=hk
 have hT:s.TypeIs (.ref a) "tuple" := ⟨o,ho,hc⟩
 unfold PySem.pyHash
 first | unfold pyHashByItsType | skip
 first | refine wpAny_bind (wpAny_cRoomFor_or (.inr (by omega)) ?_) | skip
 refine wpAny_bind (wpAny_specialOf hT PySem.F.slot_tuple_hash.lookup ?_)
 rw[if_neg (by rw[beq_builtin_none]; exact Bool.false_ne_true)]
 refine wpAny_bind (wpAny_specialOf hT PySem.F.slot_tuple_hash.lookup ?_)
 show wpAny _ _ (callSpecialIfBoundUnlessNone? (.ref a) "__hash__" _ >>= _) Q E s
 refine wpAny_bind (wpAny_callSpecialIfBoundUnlessNone?_slot hT PySem.F.slot_tuple_hash (wpAny_call_entry PySem.F.slot_tuple_hash hT
  PySem.F.entry_tuple_hash ?_ (PySem.F.args_tuple_hash_1 _)))
 show wpAny _ _ (Builtin.Tuple.tupleItemsOf (.ref a) >>= _) _ _ s
 refine wpAny_bind (wpAny_tupleItemsOf ho hd (wpAny_bind ?_))
 rw[← Array.forIn_toList];refine wpAny_forIn_list _ (fun rest (b:Array Int) s'=>∃ done left,ks=done++left∧IsItems K s.heap left rest∧b.toList=done.map K.hash∧s'={ s with toks:=s.toks+jf K done }) _ ?_ ?_ _ _ ⟨[],ks,rfl,hi,rfl,rfl⟩
 ·rintro x rest b s' ⟨done,left,rfl,hl,hb,rfl⟩
  cases hl with
  | @cons k _ ks' _ h1 hl'=>
   have e:jf K (done++[k])=jf K done+K.draws k:=by simp[jf]
   refine wpAny_bind (K.pyHash (show A.in1.units+K.deep<cLine from by show A.units+1+K.deep<cLine; omega) h1 ?_)
   have fin:∃ done' left',done++k::ks'=done'++left'∧IsItems K s.heap left' rest∧(b.push (K.hash k)).toList=done'.map K.hash∧({ s with toks:=s.toks+jf K done+K.draws k }:Shared)={ s with toks:=s.toks+jf K done' }:=
    ⟨done++[k],ks',by simp,hl',by simp[hb],by rw[e,Nat.add_assoc]⟩
   first
    | exact wpAny_pure fin
    | exact wpAny_bind (wpAny_pure (wpAny_pure fin))
 ·rintro b s' ⟨done,left,rfl,hl,hb,rfl⟩
  cases hl;rw[List.append_nil]at h
  show wpAny _ _ (retInt (Builtin.Tuple.tupleHashOf b.toList)) _ _ _
  rw[hb];refine wpAny_ret_mkInt ?_
  unfold oR reduceHash at h;show wpAny _ _ (if (decide (-(2:Int) ^ 63≤Builtin.Tuple.tupleHashOf (done.map K.hash))&&decide (Builtin.Tuple.tupleHashOf (done.map K.hash)<2 ^ 63))=true then _ else _) Q E _
  by_cases hr:(decide (-(2:Int) ^ 63≤Builtin.Tuple.tupleHashOf (done.map K.hash))&&decide (Builtin.Tuple.tupleHashOf (done.map K.hash)<2 ^ 63))=true
  ·rw[if_pos hr]at h ⊢
   exact wpAny_pure (by simpa [Nat.add_assoc] using h)
  ·rw[if_neg hr]at h ⊢
   exact wpAny_bind (wpAny_rule (wpAny_pure (by simpa [Nat.add_assoc] using h)))
theorem sO{A:Around}{E:Value→Shared→Prop}{s:Shared}{x y:List κ}{a b:Addr}{P:Fin→Shared→Prop}(hu:A.units+K.deep<cLine)(hx:IsTupK K s.heap x (.ref a))(hy:IsTupK K s.heap y (.ref b))(h:P (.done (.ret (.bool (decide (x=y))))) s) :
  wpAny (model prog w) A (Builtin.«tuple.__eq__» ⟨[.ref a,.ref b],[]⟩) P E s:=by
 obtain⟨_,oa,xs,na,e1,hoa,ca,hda,hia⟩:=hx
 obtain⟨_,ob,ys,nb,e2,hob,cb,hdb,hib⟩:=hy
 cases e1
 cases e2;show wpAny _ _ (isInstance (.ref b) (.type "tuple") >>= _) _ _ s
 refine wpAny_bind (wpAny_isInstance ⟨ob,hob,cb⟩ isSubtype_tuple_tuple ?_)
 simp only[Bool.not_true,Bool.false_eq_true,if_false]
 refine wpAny_bind (wpAny_tupleItemsOf hoa hda (wpAny_bind (wpAny_tupleItemsOf hob hdb (wpAny_bind ?_))))
 refine wpAny_forIn_list _ (fun rest r s'=>r.1=none∧s'=s∧∃ x' y' xs' ys',rest=List.zip xs' ys'∧IsItems K s.heap x' xs'∧IsItems K s.heap y' ys'∧decide (x'=y')=decide (x=y)∧(xs'.length == ys'.length)=(xs.size == ys.size)) _ ?_ ?_ _ _
  ⟨rfl,rfl,x,y,xs.toList,ys.toList,rfl,hia,hib,rfl,by simp⟩
 ·rintro⟨u,v⟩ rest r s' ⟨hr,rfl,x',y',xs',ys',hz,hx',hy',hdec,hlen⟩
  cases hx' with
  | nil=>simp at hz
  | @cons k1 u' x'' xs'' h1 hx''=>
   cases hy' with
   | nil=>simp at hz
   | @cons k2 v' y'' ys'' h2 hy''=>
    simp only[List.zip_cons_cons,List.cons.injEq,Prod.mk.injEq]at hz
    obtain⟨⟨rfl,rfl⟩,rfl⟩:=hz
    refine wpAny_bind (K.eqBool (x:=k1) (y:=k2) hu h1 h2 ?_)
    by_cases hk:k1=k2
    ·subst hk
     rw[decide_eq_true rfl];simp only[Bool.not_true,Bool.false_eq_true,if_false]
     refine wpAny_pure ⟨rfl,rfl,x'',y'',xs'',ys'',rfl,hx'',hy'',?_,by simpa using hlen⟩
     rw[← hdec]
     by_cases hxy:x''=y'' <;> simp[hxy]
    ·rw[decide_eq_false hk]
     simp only[Bool.not_false,if_true]
     have hf:decide (x=y)=false:=by rw[← hdec]; simp[hk]
     rw[hf]at h
     exact wpAny_bind (wpAny_pure (wpAny_pure (wpAny_pure h)))
 ·rintro⟨r1,r2⟩ s' ⟨hr,rfl,x',y',xs',ys',hz,hx',hy',hdec,hlen⟩
  simp only at hr
  subst hr;refine wpAny_pure ?_
  have hfin:(xs.size == ys.size)=decide (x=y):=by
   rw[← hdec,← hlen]
   cases hx' with
   | nil=>cases hy' <;> simp
   | cons _ _=>
    cases hy' with
    | nil=>simp
    | cons _ _=>simp at hz
  show P (.done (.ret (.bool (xs.size == ys.size)))) s'
  rw[hfin]; exact h
theorem mV{A:Around}{E:Value→Shared→Prop}{s:Shared}{x y:List κ}{u v:Value}{Q:Bool→Shared→Prop}(hu:A.units+(K.deep+1)<cLine)(hx:IsTupK K s.heap x u)(hy:IsTupK K s.heap y v)(h:Q (decide (x=y)) s) :
  wpAny (model prog w) A (PySem.eqBool u v) Q E s:=by
 have hx0:=hx;have hy0:=hy;obtain⟨a,oa,xs,na,rfl,hoa,ca,hda,hia⟩:=hx
 obtain⟨b,ob,ys,nb,rfl,hob,cb,hdb,hib⟩:=hy
 unfold PySem.eqBool
 try with_reducible refine wpAny_holding ?_
 show wpAny _ _ (if (Value.ref a == Value.ref b)=true then _ else _) Q E s
 by_cases hab:(Value.ref a == Value.ref b)=true
 ·rw[if_pos hab]
  have e:a=b:=by have:=eq_of_beq hab; injection this
  subst e;rw[hoa]at hob
  cases hob;rw[hda]at hdb
  injection hdb with e1 _
  subst e1;rw[decide_eq_true (hia.inj hib)]at h
  exact wpAny_bind (wpAny_rule (wpAny_pure h))
 ·rw[if_neg hab]
  have ta:s.TypeIs (.ref a) "tuple" := ⟨oa,hoa,ca⟩
  have tb:s.TypeIs (.ref b) "tuple" := ⟨ob,hob,cb⟩
  refine wpAny_bind (wpAny_richCompare_same_room (op:=.Eq) ta tb PySem.F.slot_tuple_eq (wpAny_call_entry PySem.F.slot_tuple_eq ta PySem.F.entry_tuple_eq ?_ (PySem.F.args_tuple_eq_2 _ _)) (by omega))
  refine sO (K:=K) ?_ hx0 hy0 ⟨_,rfl,(fun e=>nomatch e),wpAny_truthy_bool h⟩
  show A.units+1+K.deep<cLine
  omega
theorem jF{A:Around}{E:Value→Shared→Prop}{s:Shared}{ks:List κ}{v:Value}{n:Nat}{Q:Bool→Shared→Prop}(hk:IsTupK K s.heap ks v)(h:Q true s):wpAny (model prog w) A (eqIsQuiet (n+(K.deep+1)) v) Q E s:=by
 obtain⟨a,o,items,m,rfl,ho,hc,hd,hi⟩:=hk
 have hT:s.TypeIs (.ref a) "tuple" := ⟨o,ho,hc⟩
 rw[show n+(K.deep+1)=(n+K.deep)+1 from rfl];unfold eqIsQuiet;refine wpAny_bind (wpAny_specialOf hT PySem.F.slot_tuple_eq.lookup ?_)
 show wpAny _ _ (isInstance (.ref a) (.type "tuple") >>= _) _ _ s
 refine wpAny_bind (wpAny_isInstance hT isSubtype_tuple_tuple ?_)
 simp only[Bool.not_true,Bool.false_eq_true,if_false]
 refine wpAny_bind (wpAny_seqItems ho hd (wpAny_bind ?_))
 show wpAny _ _ (forIn items _ _) _ _ s
 rw[← Array.forIn_toList];refine wpAny_forIn_list _ (fun rest r s'=>r.1=none∧s'=s∧∃ ks',IsItems K s.heap ks' rest) _ ?_ ?_ _ _ ⟨rfl,rfl,ks,hi⟩
 ·rintro v rest r s' ⟨hr,rfl,ks',hall⟩
  cases hall with
  | cons h1 h2=>
   refine wpAny_bind (K.quiet h1 ?_)
   simp only[Bool.not_true,Bool.false_eq_true,if_false]
   exact wpAny_pure ⟨rfl,rfl,_,h2⟩
 ·rintro⟨r1,r2⟩ s' ⟨hr,rfl,_⟩
  simp only at hr
  subst hr;exact wpAny_pure h
def tO(K:IK prog w κ):IK prog w (List κ) where
 is:=IsTupK K
 hash:=oR K
 draws:=fun ks=>jf K ks+1
 deep:=K.deep+1
 inj:=by
  rintro h v x y ⟨a,oa,xs,na,rfl,hoa,ca,hda,hia⟩ ⟨b,ob,ys,nb,e,hob,cb,hdb,hib⟩
  cases e;rw[hoa]at hob
  cases hob;rw[hda]at hdb
  injection hdb with e1 _
  subst e1;exact hia.inj hib
 keeps:=by
  rintro h h' k v d o es ep ⟨a,oa,xs,na,rfl,hoa,ca,hda,hia⟩ ho hd hs
  have hne:a≠d:=by
   rintro rfl
   rw[hoa]at ho
   cases ho;rw[hd]at hda; cases hda
  exact⟨a,oa,xs,na,rfl,(hs.2 a hne).trans hoa,ca,hda,hia.keeps ho hd hs⟩
 pyHash:=fun hu hk h=>km hu hk h
 eqBool:=fun hu hx hy h=>mV hu hx hy h
 quiet:=fun hk h=>jF hk h
def x_(K:IK prog w κ)(hd:K.deep≤7):HeapKind prog w (List κ) where
 is:=fun h k a=>IsTupK K h k (.ref a)
 hash:=oR K
 draws:=fun ks=>jf K ks+1
 room:=fun A=>A.units+(K.deep+1)<cLine
 inj:=(tO K).inj
 keeps:=(tO K).keeps
 pyHash:=fun hu hk h=>km hu hk h
 eqBool:=fun hu hx hy h=>mV hu hx hy h
 quiet:=fun {A E s k a Q} hk h=>by
  have q:=jF (n:=7 - K.deep) (A:=A) (E:=E) hk h
  rwa [show 7 - K.deep+(K.deep+1)=8 by omega]at q
end
end L2
namespace L2
open PySem PySem.Spec PyProof.Rows
def cE:Option Int→V
 | none=>.non
 | some i=>.int i
theorem x3{x y:Option Int}{v:Value}(a:RelV (cE x) v)(b:RelV (cE y) v):x=y:=by
 have e:=a.inj b
 cases x <;> cases y <;> simp_all [cE]
theorem iZ(x:Option Int):bR (cE x)=true:=by cases x <;> rfl
theorem rB(x y:Option Int):gH (cE x) (cE y)=decide (x=y):=by
 cases x with
 | none=>cases y <;> rfl
 | some i=>
  cases y with
  | none=>rfl
  | some j=>
   show (i == j)=_
   by_cases h:i=j <;> simp[h]
theorem nC{prog:Program}{w:World}{A:Around}{E:Value→Shared→Prop}{s:Shared}{Q:Int→Shared→Prop}(h:Q 0xFCA86420 { s with toks:=s.toks+1 }):wpAny (model prog w) A (PySem.pyHash .none) Q E s:=by
 have hT:s.TypeIs .none "NoneType" := rfl
 unfold PySem.pyHash
 first | unfold pyHashByItsType | skip
 refine wpAny_bind ?_
 rw[cRoomFor,if_neg (by decide)]
 refine wpAny_pure (wpAny_bind (wpAny_specialOf hT PySem.F.slot_NoneType_hash.lookup ?_))
 rw[if_neg (by rw[beq_builtin_none]; exact Bool.false_ne_true)]
 refine wpAny_bind (wpAny_specialOf hT PySem.F.slot_NoneType_hash.lookup ?_)
 show wpAny _ _ (callSpecialIfBoundUnlessNone? .none "__hash__" _ >>= _) Q E s
 refine wpAny_bind (wpAny_callSpecialIfBoundUnlessNone?_slot hT PySem.F.slot_NoneType_hash (wpAny_call_entry PySem.F.slot_NoneType_hash hT
  PySem.F.entry_NoneType_hash ?_ (PySem.F.args_NoneType_hash_1 _)))
 show wpAny _ _ (retInt 0xFCA86420) _ _ s
 refine wpAny_ret_mkInt ?_
 exact wpAny_pure h
def dk(prog:Program)(w:World):IK prog w (Option Int) where
 is:=fun _ k v=>RelV (cE k) v
 hash:=fun k=>match k with
  | none=>0xFCA86420
  | some i=>hashInt i
 draws:=fun _=>1
 deep:=0
 inj:=fun a b=>x3 a b
 keeps:=fun a _ _ _=>a
 pyHash:=fun {A E s k v Q} _ hk h=>by
  cases k with
  | none=>
   obtain rfl:v=Value.none:=hk
   exact nC h
  | some i=>
   obtain⟨t,rfl⟩:=(show ∃ t,v=Value.int i t from hk)
   exact wpAny_pyHash_int h
 eqBool:=fun {A E s x y u v Q} _ hx hy h=>by
  have q:=js (A:=A) (s:=s) hx hy (iZ x) (iZ y);rw[rB]at q
  exact q prog w E Q h
 quiet:=fun {A E s k v n Q} hk h=>by
  have e:carriedByValue v=true:=by
   cases k with
   | none=>obtain rfl:v=Value.none:=hk; rfl
   | some i=>obtain⟨t,rfl⟩:=(show ∃ t,v=Value.int i t from hk); rfl
  rw[eqIsQuiet_byValue _ e];exact wpAny_pure h
abbrev NI:=Sum Int (List (Option Int))
def w_(prog:Program)(w:World)(h:Heap):NI→Value→Prop
 | .inl i,v=>∃ t,v=Value.int i t
 | .inr l,v=>IsTupK (dk prog w) h l v
theorem IsTupK.tup{prog:Program}{w:World}{κ : Type}[DecidableEq κ]{K:IK prog w κ}{h:Heap}{l:List κ}{v:Value}(x:IsTupK K h l v):∃ a its,v = .ref a∧h.IsTuple a its:=by
 obtain⟨a,o,items,n,rfl,ho,hc,hd,hi⟩:=x
 exact⟨a,items,rfl,o,ho,hc,n,hd⟩
theorem rn{A:Around}{prog:Program}{w:World}(hu:A.units+1<cLine):A.units+((dk prog w).deep+1)<cLine:=hu
theorem B9(i j:Int):(i == j)=decide ((Sum.inl i:NI)=Sum.inl j):=by
 by_cases z:i=j
 ·subst z; simp
 ·have z':¬ ((Sum.inl i:NI)=Sum.inl j):=fun q=>z (Sum.inl.inj q)
  rw[decide_eq_false z']; simpa using z
theorem Co(l l':List (Option Int)):decide (l=l')=decide ((Sum.inr l:NI)=Sum.inr l'):=by
 by_cases z:l=l'
 ·subst z; simp
 ·have z':¬ ((Sum.inr l:NI)=Sum.inr l'):=fun q=>z (Sum.inr.inj q)
  rw[decide_eq_false z',decide_eq_false z]
theorem Cb(i:Int)(l:List (Option Int)):decide ((Sum.inl i:NI)=Sum.inr l)=false:=decide_eq_false (fun q=>nomatch q)
theorem Ca(i:Int)(l:List (Option Int)):decide ((Sum.inr l:NI)=Sum.inl i)=false:=decide_eq_false (fun q=>nomatch q)
theorem B3{prog:Program}{w:World}{A:Around}{E:Value→Shared→Prop}{s:Shared}{u v:Value}{Q:Bool→Shared→Prop}(hu:A.units+1<cLine):∀ (x y:NI),w_ prog w s.heap x u→w_ prog w s.heap y v→Q (decide (x=y)) s→
  wpAny (model prog w) A (PySem.eqBool u v) Q E s
 | .inl i,.inl j,⟨t,e1⟩,⟨t',e2⟩,h=>by
  subst e1 e2;rw[← B9]at h
  exact wpAny_eqBool_int h
 | .inl i,.inr l,⟨t,e1⟩,hy,h=>by
  subst e1;obtain⟨b,its,rfl,ht⟩:=IsTupK.tup (K:=dk prog w) hy
  rw[Cb]at h
  exact SeqAt.EqAt.int_tuple i t ht (Nat.lt_of_succ_lt hu) prog w E Q h
 | .inr l,.inl j,hx,⟨t,e1⟩,h=>by
  subst e1;obtain⟨b,its,rfl,ht⟩:=IsTupK.tup (K:=dk prog w) hx
  rw[Ca]at h
  exact SeqAt.EqAt.tuple_int j t ht (Nat.lt_of_succ_lt hu) prog w E Q h
 | .inr l,.inr l',hx,hy,h=>by
  rw[← Co]at h
  exact mV (K:=dk prog w) (rn hu) hx hy h
def CB(prog:Program)(w:World):IK prog w NI where
 is:=w_ prog w
 hash:=fun k=>match k with
  | .inl i=>hashInt i
  | .inr l=>oR (dk prog w) l
 draws:=fun k=>match k with
  | .inl _=>1
  | .inr l=>jf (dk prog w) l+1
 deep:=1
 inj:=fun {h v x y} a b=>by
  cases x with
  | inl i=>
   obtain⟨t,rfl⟩:=(show ∃ t,v=Value.int i t from a)
   cases y with
   | inl j=>obtain⟨t',e⟩:=(show ∃ t',Value.int i t=Value.int j t' from b); injection e with e1 _; rw[e1]
   | inr l=>obtain⟨a,_,e,_⟩:=IsTupK.tup (show IsTupK (dk prog w) h l _ from b); cases e
  | inr l=>
   cases y with
   | inl j=>
    obtain⟨t,rfl⟩:=(show ∃ t,v=Value.int j t from b)
    obtain⟨a,_,e,_⟩:=IsTupK.tup (show IsTupK (dk prog w) h l _ from a); cases e
   | inr l'=>rw[(tO (dk prog w)).inj (show IsTupK (dk prog w) h l v from a) (show IsTupK (dk prog w) h l' v from b)]
 keeps:=fun {h h' k v d o es ep} a ho hd hs=>by
  cases k with
  | inl i=>exact a
  | inr l=>exact(tO (dk prog w)).keeps (show IsTupK (dk prog w) h l v from a) ho hd hs
 pyHash:=fun {A E s k v Q} hu hk h=>by
  cases k with
  | inl i=>
   obtain⟨t,rfl⟩:=(show ∃ t,v=Value.int i t from hk)
   exact wpAny_pyHash_int h
  | inr l=>exact km (K:=dk prog w) (rn hu) hk h
 eqBool:=fun {A E s x y u v Q} hu hx hy h=>B3 hu x y hx hy h
 quiet:=fun {A E s k v n Q} hk h=>by
  cases k with
  | inl i=>
   obtain⟨t,rfl⟩:=(show ∃ t,v=Value.int i t from hk)
   rw[eqIsQuiet_byValue _ rfl];exact wpAny_pure h
  | inr l=>exact jF (K:=dk prog w) hk h
end L2
namespace L2
open PySem PySem.Spec PyProof.Rows
abbrev dw:=Int × List (Option Int)
def nk(k:dw):List NI:=[.inl k.1,.inr k.2]
theorem A_{k k':dw}(h:nk k=nk k'):k=k':=by
 obtain⟨a,b⟩:=k
 obtain⟨c,d⟩:=k'
 unfold nk at h;simp at h
 rw[h.1,h.2]
def MK(P:Program)(w:World):HeapKind P w (List NI):=x_ (CB P w) (show 1≤7 by decide)
def kI(P:Program)(w:World)(a:Addr)(xs:List (List NI × Addr × Value)):HO:=
 .ext fun h=>∃ o es ep,h.get? a=some o∧o.ExactDict∧o.data = .dict es ep∧es.toList=xs.map (entryOfKey (MK P w))∧(xs.map (·.1)).Nodup
def KeyAt(H:Hp)(k:dw)(b:Addr):Prop:=∃ t,H b=some (.tup [.int k.1,.ref t])∧H t=some (.tup (k.2.map cE))
def NRow(H:Hp)(p:dw × V)(q:List NI × Addr × Value):Prop:=q.1=nk p.1∧KeyAt H p.1 q.2.1∧RelV p.2 q.2.2
def DN(P:Program)(w:World)(H:Hp)(a:Addr)(kvs:List (dw × V)):Prop:=
 ∃ xs,H a=some (kI P w a xs)∧(a == sysModules)=false∧xs.length≤sizeLine∧Paired (NRow H) kvs xs
theorem KeyAt.mono{H H':Hp}{k:dw}{b:Addr}(h:KeyAt H k b)(sm:∀ c xs,H c=some (.tup xs)→H' c=some (.tup xs)):KeyAt H' k b:=by
 obtain⟨t,h1,h2⟩:=h
 exact⟨t,sm _ _ h1,sm _ _ h2⟩
theorem DN.mono{P:Program}{w:World}{H H':Hp}{a:Addr}{kvs:List (dw × V)}(h:DN P w H a kvs)(sm:Same H H'):DN P w H' a kvs:=by
 obtain⟨xs,h1,h2,h3,h4⟩:=h
 exact⟨xs,sm _ _ h1,h2,h3,Paired.imp' (fun p q z=>⟨z.1,z.2.1.mono fun c ys e=>sm _ _ e,z.2.2⟩) h4⟩
section
variable{P:Program}{w:World}{H:Hp}
theorem NRow.val:∀ {kvs:List (dw × V)} {xs:List (List NI × Addr × Value)} (k:dw),Paired (NRow H) kvs xs→RelO (aI kvs k) ((atKey xs (nk k)).map (·.2))
 | _,_,k,.nil=>True.intro
 | _,_,k,@Paired.cons _ _ _ p q kvs xs r t=>by
  have ih:=NRow.val k t;obtain⟨e1,e2,e3⟩:=r
  by_cases h:p.1=k
  ·have h1:aI (p::kvs) k=some p.2:=by simp[aI,h]
   have h2:atKey (q::xs) (nk k)=some q.2:=by simp[atKey,e1,h]
   rw[h1,h2]; exact e3
  ·have hn:¬ q.1=nk k:=fun z=>h (A_ (e1.symm.trans z))
   have h1:aI (p::kvs) k=aI kvs k:=by simp[aI,h]
   have h2:atKey (q::xs) (nk k)=atKey xs (nk k):=by simp[atKey,hn]
   rw[h1,h2]; exact ih
theorem gO{h:Heap}:∀ {l:List (Option Int)} {us:List Value},Vals (l.map cE) us→IsItems (dk P w) h l us
 | [],_,.nil=>.nil
 | x::l,_,.cons r t=>.cons r (gO t)
end
section
variable{X:Cx}{pins:List (Addr × Obj)}{σ : St}{H:Hp}{s:Shared}{a b:Addr}{k:dw}{kvs:List (dw × V)}
theorem Inv.key(I:Inv X pins σ H s)(h:KeyAt H k b):(MK X.prog X.w).is s.heap (nk k) b:=by
 obtain⟨t,h1,h2⟩:=h
 obtain⟨_,its,r,o,e,c,n,d⟩ : ([V.int k.1,V.ref t]:List V).length≤sizeLine∧∃ its:List Value,Vals [V.int k.1,V.ref t] its∧IsTup s.heap b its.toArray:=by obtain⟨z,its,r,p⟩:=I.hok b _ h1; exact⟨z,its,r,p.tup⟩
 obtain⟨_,its2,r2,o2,e2,c2,n2,d2⟩ : (k.2.map cE).length≤sizeLine∧∃ its:List Value,Vals (k.2.map cE) its∧IsTup s.heap t its.toArray:=by obtain⟨z,its,r,p⟩:=I.hok t _ h2; exact⟨z,its,r,p.tup⟩
 obtain⟨u,v,rfl,ru,rv⟩:=oN r
 cases rv;refine⟨b,o,_,n,rfl,e,c,d,?_⟩
 show IsItems (CB X.prog X.w) s.heap [.inl k.1,.inr k.2] [u,.ref t]
 exact .cons ru (.cons ⟨t,o2,_,n2,rfl,e2,c2,d2,by simpa using gO r2⟩ .nil)
theorem Inv.dn(I:Inv X pins σ H s)(h:DN X.prog X.w H a kvs):∃ xs,H a=some (kI X.prog X.w a xs)∧(a == sysModules)=false∧xs.length≤sizeLine∧Paired (NRow H) kvs xs∧s.heap.DictOfH (MK X.prog X.w) a xs:=by
 obtain⟨xs,h1,h2,h3,h4⟩:=h
 obtain⟨⟨o,es,ep,e1,e2,e3,e4,e5⟩,_,_⟩:=I.hok a _ h1
 refine⟨xs,h1,h2,h3,h4,o,es,ep,e1,e2,e3,e4,?_,e5⟩
 have all:∀ {l:List (dw × V)} {m:List (List NI × Addr × Value)},Paired (NRow H) l m→∀ x∈m,(MK X.prog X.w).is s.heap x.1 x.2.1:=by
  intro l m r
  induction r with
  | nil=>intro x hx; simp at hx
  | cons r t ih=>
   intro x hx
   rcases List.mem_cons.mp hx with rfl | hx
   ·rw[r.1]; exact I.key r.2.1
   ·exact ih x hx
 exact all h4
theorem pH{P:Program}{w:World}{H':Hp}{h':Heap}{xs:List (List NI × Addr × Value)}(m:h'.DictOfH (MK P w) a xs):ObjOk P w H' h' a (kI P w a xs):=by
 obtain⟨o,es,ep,e1,e2,e3,e4,_,e5⟩:=m
 exact⟨⟨o,es,ep,e1,e2,e3,e4,e5⟩,⟨o,e1⟩,fun h1 h2 ⟨o,es,ep,q1,q⟩ z=>⟨o,es,ep,z _ q1,q⟩⟩
def zu(P:Program)(w:World):R2:=fun x y H Q=>∃ b a k kvs,x = .ref b∧y = .ref a∧DN P w H a kvs∧KeyAt H k b∧Q (.bl (!(aI kvs k).isSome)) H
theorem nr{n:Nat}(hr:Room n X.A):OpR X (compareOp .NotIn) (zu X.prog X.w):=by
 intro pins s σ H x y v u Q I rx ry h
 obtain⟨b,a,k,kvs,rfl,rfl,hd,hk,q⟩:=h
 cases rx
 cases ry;obtain⟨xs,h1,h2,h3,h4,m⟩:=I.dn hd
 refine wpAny_notIn_heap (show (MK X.prog X.w).room X.A.in1 from by show X.A.units+1+2<cLine; have:=hr.un; omega) (I.key hk) h2 m ?_
 have e:=(NRow.val k h4).isSome_eq;rw[Option.isSome_map]at e
 rw[← e];exact⟨.bl _,H,I.tok _,rfl,q⟩
def C3(P:Program)(w:World):R2:=fun x y H Q=>∃ a b k kvs v,x = .ref a∧y = .ref b∧DN P w H a kvs∧KeyAt H k b∧aI kvs k=some v∧Q v H
theorem Bv{n:Nat}(hr:Room n X.A):IxR X (C3 X.prog X.w):=by
 intro value slice pins s σ H x y v u Q I rx ry h hs
 obtain⟨a,b,k,kvs,z,rfl,rfl,hd,hk,hv,q⟩:=h
 cases rx
 cases ry;obtain⟨xs,h1,h2,h3,h4,m⟩:=I.dn hd
 obtain⟨w',hw,rw'⟩:=RelO.some_of (v:=z) (o:=(atKey xs (nk k)).map (·.2)) (by rw[← hv]; exact NRow.val k h4)
 obtain⟨p,hp,hp2⟩:=Option.map_eq_some_iff.mp hw
 have hl:typeLookup (.type "dict") "__getitem__" = pure (some (.builtin "dict.__getitem__")):=PySem.F.slot_dict_getitem.lookup
 refine subscriptTail_builtinR (x:=w') m.typeIs hl ?_ hs
 refine wpAny_getItem_heap (show (MK X.prog X.w).room X.A.in1 from by show X.A.units+1+2<cLine; have:=hr.un; omega) (I.key hk) m hp ?_
 rw[hp2];exact⟨rfl,z,H,I.tok _,rw',q⟩
def Ce(P:Program)(w:World):kj:=fun o i v H Q=>∃ a b k kvs,o = .ref a∧i = .ref b∧DN P w H a kvs∧KeyAt H k b∧aI kvs k=none∧kvs.length<sizeLine∧∀ u,DN P w (upd H a u) a (kvs++[(k,v)])→Q (upd H a u)
theorem Paired.snoc{α β : Type}{F:α→β→Prop}{x:α}{y:β}(h:F x y):∀ {l:List α} {m:List β},Paired F l m→Paired F (l++[x]) (m++[y])
 | _,_,.nil=>.cons h .nil
 | _,_,.cons r t=>.cons r (Paired.snoc h t)
theorem yz{n:Nat}(hr:Room n X.A):PSet X (Ce X.prog X.w):=by
 intro pins s σ H o i v ov iv u Q I ro ri rv h
 obtain⟨a,b,k,kvs,rfl,rfl,hd,hk,hv,hl,q⟩:=h
 cases ro
 cases ri;obtain⟨xs,h1,h2,h3,h4,m⟩:=I.dn hd
 have hx:atKey xs (nk k)=none:=by
  have e:=NRow.val k h4;rw[hv]at e
  cases hq:atKey xs (nk k) with
  | none=>rfl
  | some p=>rw[hq]at e; exact e.elim
 refine wpAny_setItem_heap (hsz:=h3) (show (MK X.prog X.w).room X.A.in1 from by show X.A.units+1+2<cLine; have:=hr.un; omega) (I.key hk) m fun h' m' hs=>?_
 rw[storedH_new hx]at m'
 have keep:∀ c ys,H c=some (.tup ys)→upd H a (kI X.prog X.w a (xs++[(nk k,b,u)])) c=some (.tup ys):=fun c ys e=>by
  rw[al (gB e h1 (fun z=>nomatch z))]; exact e
 refine⟨upd H a (kI X.prog X.w a (xs++[(nk k,b,u)])),fU I (by rw[h1]; exact True.intro) hs (let ⟨o,_,_,e,_⟩:=m'; ⟨o,e⟩) (pH m'),q _ ⟨_,ae,h2,?_,?_⟩⟩
 ·rw[List.length_append,← Paired.length h4]
  show kvs.length+1≤sizeLine
  omega
 ·exact Paired.snoc ⟨rfl,hk.mono keep,rv⟩ (Paired.imp' (fun p q z=>⟨z.1,z.2.1.mono keep,z.2.2⟩) h4)
def B7(P:Program)(w:World):List V→Hp→VK→Prop:=fun xs H Q=>∃ a kvs,xs=[.ref a]∧DN P w H a kvs∧Q (.int kvs.length) H
theorem BL{P:Program}{w:World}{A:Around}{E:Value→Shared→Prop}{Q:Value→Shared→Prop}{xs:List (List NI × Addr × Value)}(hd:(a == sysModules)=false)(m:s.heap.DictOfH (MK P w) a xs)(hz:xs.length≤sizeLine)
  (h:∀ t tk,Q (.int xs.length t) { s with toks:=tk }):wpAny (model P w) A (call (.builtin "len") [.ref a]) Q E s:=by
 have hs:sizeLine=16777216:=sizeLine_eq
 refine Calls.call_function_entry kind_len plain_len entry_len (args_len1 _) ?_
 unfold Builtin.«len»
 refine wpAny_bind (m:=oneArg "len" _) (wpAny_pure ?_)
 have body:MeetsIn P w (Builtin.«dict.__len__» ⟨[.ref a],[]⟩) (fun _ R s'=>s'=s∧R (.ok (.ret (.int xs.length s'.toks))) { s' with toks:=s'.toks+1 }):=.of_wp fun A R s' ⟨e,hR⟩=>by
  subst e;obtain⟨o,es,ep,ho,hc,hdat,hk,_⟩:=id m
  show wpAny _ _ (dictSize a >>= _) _ _ s'
  unfold dictSize;refine wpAny_bind (wpAny_bind (wpAny_dictEntries ho hdat (wpAny_pure ?_)))
  show wpAny _ _ (Builtin.Dict.pendingCount a >>= _) _ _ s'
  refine wpAny_bind (wpAny_pendingCount_other hd (wpAny_ret_mkInt ?_))
  have e:es.size=xs.length:=by rw[← Array.length_toList,hk,List.length_map]
  rw[Nat.add_zero,e]; exact hR
 refine wpAny_bind (m:=callSpecial? (.ref a) (Str.ofString "__len__")) (wpAny_callSpecial?_slot (name:=Str.ofString "__len__") m.typeIs PySem.F.slot_dict_len
  (call_meetsIn PySem.F.slot_dict_len m.typeIs PySem.F.entry_dict_len (PySem.F.args_dict_len_1 _) body ⟨rfl,?_⟩))
 refine wpAny_bind (wpAny_holding (wpAny_pure (wpAny_bind (wpAny_letGo ?_))))
 show wpAny _ _ (if ((xs.length:Nat):Int)<0 then _ else _) _ _ _
 rw[if_neg (by omega)]
 show wpAny _ _ (if ((xs.length:Nat):Int)≥2 ^ 63 then _ else _) _ _ _
 rw[if_neg (by omega)]
 exact wpAny_bind (wpAny_mkInt (wpAny_pure ⟨_,rfl,h _ _⟩))
theorem i0:CallR X (.builtin "len") (B7 X.prog X.w):=by
 intro pins s σ H xs us Q I r h
 obtain⟨a,kvs,rfl,hd,q⟩:=h
 obtain⟨u,rfl,ru⟩:=cB r
 cases ru;obtain⟨ys,h1,h2,h3,h4,m⟩:=I.dn hd
 refine BL h2 m h3 fun t tk=>⟨.int kvs.length,H,I.tok tk,?_,q⟩
 rw[← Paired.length h4];exact⟨t,rfl⟩
def Aw(P:Program)(w:World):TE:=fun _ H Q=>∀ p,H p=none→∀ u,DN P w (upd H p u) p []→Q (.ref p) (upd H p u)
theorem pI{pos:Pos}:PE X (.Dict [] [] pos) (Aw X.prog X.w):=fun pins s σ H Q I h=>by
 have hm:(s.heap.push { cls:=.type "dict", data:=.dict #[] }).DictOfH (MK X.prog X.w) s.heap.objs.size []:=⟨_,#[],0,Heap.get?_push_size _ rfl,⟨rfl,rfl,rfl⟩,rfl,rfl,(fun x hx=>by simp at hx),List.nodup_nil⟩
 exact wpAny_Dict_empty ⟨.ref s.heap.objs.size,_,I.laid (a:=s.heap.objs.size) (o:=kI X.prog X.w s.heap.objs.size []) (t':=s.toks) (fun _ _ q=>Heap.get?_push_of_some _ q) (Nat.le_refl _) (pH hm),rfl,
  h _ (I.hok.fresh (Nat.le_refl _)) _ ⟨[],ae,beq_eq_false_iff_ne.mpr (Ne.symm (Nat.ne_of_lt I.big)),Nat.zero_le _,.nil⟩⟩
end
end L2
namespace L2
open PySem PySem.Spec PyProof.Rows PySem.SeqAt
section
variable{X:Cx}
def E8(K:PySem.W.Frag):R2:=fun x y H Q=>pG K x y H Q∨∃ a kvs k v,x = .ref a∧y=kV k∧H a=some (.dK kvs)∧aI kvs k=some v∧Q v H
theorem A8(K:PySem.W.Frag)(hK:X.K=K:=by rfl):IxR X (E8 K):=by
 intro value slice pins s σ H x y v u Q I rx ry h hs
 rcases h with h | ⟨a,kvs,k,z,rfl,rfl,e,l,q⟩
 ·exact aN K hK value slice pins s σ H x y v u Q I rx ry h hs
 ·cases rx
  obtain⟨_,hd,vs,rel,dd⟩:=oP I.hok (.inl e)
  obtain⟨w',hw,rw'⟩:=RelO.some_of (v:=z) (o:=valueAt vs k) (by rw[← l]; exact rel.val k)
  have hl:typeLookup (.type "dict") "__getitem__" = pure (some (.builtin "dict.__getitem__")):=PySem.F.slot_dict_getitem.lookup
  exact subscriptTail_builtinR (x:=w') dd.typeIs hl (wpAny_getItem_of (kH ry) dd.mapOf hw ⟨rfl,z,H,I.tok _,rw',q⟩) hs
def zH:R2:=fun x y H Q=>∃ a kvs k,y = .ref a∧x=kV k∧H a=some (.dK kvs)∧Q (.bl (!(aI kvs k).isSome)) H
theorem vW{n:Nat}(hr:Room n X.A):OpR X (compareOp .NotIn) zH:=by
 intro pins s σ H x y v u Q I rx ry h
 obtain⟨a,kvs,k,rfl,rfl,e,q⟩:=h
 cases ry;exact y7 (by have:=hr.un; omega) I (DGet.k e) rx fun s' I'=>⟨.bl _,H,I',rfl,q⟩
def Cr:kj:=fun o i v H Q=>∃ a kvs k,o = .ref a∧i=kV k∧H a=some (.dK kvs)∧kvs.length<sizeLine∧Q (upd H a (.dK (cM kvs k v)))
theorem sB{n:Nat}(hr:Room n X.A):PSet X Cr:=by
 intro pins s σ H o i v ov iv u Q I ro ri rv h
 obtain⟨a,kvs,k,rfl,rfl,e,hl,q⟩:=h
 cases ro;exact vA (by have:=hr.un; omega) I (DPut.k e hl) ri rv fun s' I'=>⟨_,I',q⟩
end
section
variable{K:PySem.W.Frag}{H:Hp}{Q:VK}
theorem EqN.ints{n:Nat}{a c:Addr}{ss ts:List Int}(h1:SqL K H a (ss.map V.int))(h2:SqL K H c (ts.map V.int)):EqN K H (n+1) (.ref a) (.ref c) (decide (ss=ts)):=by
 refine .inr ⟨a,c,_,_,rfl,rfl,.inl ⟨h1,h2⟩,?_⟩
 by_cases hl:ss.length=ts.length
 ·refine .inl ⟨fun i=>ss.getD i 0 == ts.getD i 0,by simp[hl],fun i x y e1 e2=>?_,?_⟩
  ·rw[List.getElem?_map]at e1 e2
   cases q1:ss[i]? with
   | none=>rw[q1]at e1; cases e1
   | some u=>
    cases q2:ts[i]? with
    | none=>rw[q2]at e2; cases e2
    | some v=>
     rw[q1]at e1; rw[q2]at e2
     cases e1; cases e2
     dsimp only
     rw[List.getD_eq_getElem?_getD,List.getD_eq_getElem?_getD,q1,q2];exact EqN.flat rfl rfl
  ·rw[List.length_map]
   by_cases e:ss=ts
   ·subst e
    rw[decide_eq_true rfl]
    symm
    rw[List.all_eq_true];intro i _
    simp
   ·rw[decide_eq_false e]
    symm
    rw[List.all_eq_false]
    have:∃ i:Nat,ss[i]? ≠ ts[i]?:=by
     refine Classical.byContradiction fun hn=>e (List.ext_getElem? fun i=>?_)
     exact Classical.byContradiction fun h=>hn ⟨i,h⟩
    obtain⟨i,hi⟩:=this
    have hlt:i<ss.length:=by
     refine Classical.byContradiction fun hn=>hi ?_
     rw[List.getElem?_eq_none (by omega),List.getElem?_eq_none (by omega)]
    refine⟨i,List.mem_range.mpr hlt,?_⟩
    rw[List.getD_eq_getElem?_getD,List.getD_eq_getElem?_getD,List.getElem?_eq_getElem hlt,List.getElem?_eq_getElem (by omega)]
    rw[List.getElem?_eq_getElem hlt,List.getElem?_eq_getElem (by omega)]at hi
    simpa using hi
 ·have e:ss≠ts:=fun e=>hl (by rw[e])
  rw[decide_eq_false e];exact .inr ⟨h1,h2,by simpa using hl,rfl⟩
end
section
variable{X:Cx}
def DR:R2:=fun x y H Q=>∃ o j,x=cE o∧y = .int j∧Q (.bl (decide (o≠some j))) H
theorem A5:OpR X (compareOp .NotEq) DR:=by
 intro pins s σ H x y v u Q I rx ry h
 obtain⟨o,j,rfl,rfl,q⟩:=h
 obtain⟨t,rfl⟩:=ry
 cases o with
 | none=>
  cases (show v=Value.none from rx)
  rw[decide_eq_true (by simp)]at q
  exact RcNeAt.none_int j t _ _ _ _ ⟨.bl true,H,I,rfl,q⟩
 | some i=>
  have e:(!decide (i=j))=decide ((some i:Option Int)≠some j):=by by_cases h:i=j <;> simp[h]
  rw[← e]at q
  refine iR pins s σ H (.int i) (.int j) v _ Q I rx ⟨t,rfl⟩ ?_
  rw[eG]; exact q
end
end L2
namespace L2
open PySem PySem.Spec PyProof.Rows PySem.SeqAt
theorem zv{X:Cx}:MtR X "list.pop" wc:=zS
section
variable{K:PySem.W.Frag}{H:Hp}{Q:VK}
theorem h8(p:Addr):wc (.ref p) [] H Q=∃ xs y,H p=some (.lst xs)∧xs[xs.length - 1]? = some y∧Q y (upd H p (.lst xs.dropLast)):=
 propext ⟨fun ⟨_,xs,y,e1,_,q⟩=>by cases e1; exact⟨xs,y,q⟩,fun ⟨xs,y,q⟩=>⟨p,xs,y,rfl,rfl,q⟩⟩
theorem g_(i j:Bool):wK (.bl i) (.bl j) H Q=Q (.bl (!(i == j))) H:=by
 show (pz (.bl i) (.bl j)=true∧Q (.bl (!decide (V.bl i=V.bl j))) H)=_
 rw[pZ]; exact propext ⟨fun h=>h.2,fun h=>⟨rfl,h⟩⟩
end
theorem zI{X:Cx}(K:PySem.W.Frag){o:Expr}{to:TE}{name:Str}{apos cpos:Pos}{T id:String}{r:V→List V→Hp→VK→Prop}(pa:PlainAttrs T)(slot:Slot T name id)(hty:typeOf (.builtin id)=pure (.type "method_descriptor")) (hm:MtR X id r) (ho:PE X o to)
  (hbase:attributeBase o name X.env (eval o X.env)=eval o X.env:=by rfl) (hline:(apos.endLine == cpos.line)=true:=by rfl) (hK:X.K=K:=by rfl):PE X (.Call (.Attribute o name apos) [] [] cpos) (w5 K T r to):=hK ▸ BQ pa slot hty hm ho hbase hline
end L2
namespace L2
open PySem PySem.Spec PyProof.Rows PySem.SeqAt
theorem kL:∀ (xs:List V) (us:List Value),xs.length=us.length→(∀ (j:Nat) x u,xs[j]? = some x→us[j]? = some u→RelV x u)→Vals xs us
 | [],[],_,_=>.nil
 | [],u::us,hl,_=>by simp at hl
 | x::xs,[],hl,_=>by simp at hl
 | x::xs,u::us,hl,h=>.cons (h 0 x u rfl rfl) (kL xs us (by simpa using hl) fun j a b e1 e2=>h (j+1) a b e1 e2)
section
variable{X:Cx}
def B2:List V→Hp→VK→Prop:=fun xs H Q=>∃ i,xs=[.int i]∧∀ p,H p=none→Q (.ref p) (upd H p (.rng 0 i))
theorem ut:CallR X (.type "range") B2:=by
 intro pins s σ H xs us Q I r h
 obtain⟨i,rfl,q⟩:=h
 obtain⟨u,rfl,⟨t,rfl⟩⟩:=cB r
 refine call_range_1 ?_
 exact⟨.ref s.heap.objs.size,_,I.laid (fun b o e=>Heap.get?_push_of_some _ e) (Nat.le_refl _) (show ObjOk X.prog X.w _ _ _ (.rng 0 i) from ⟨_,_,_,Heap.get?_push_size _ rfl⟩),rfl,q _ (I.hok.fresh (Nat.le_refl _))⟩
def xK:List V→Hp→VK→Prop:=fun xs H Q=>∃ p,∃ n:Nat,xs=[.ref p]∧H p=some (.rng 0 (n:Int))∧n≤60000∧∀ l,H l=none→Q (.ref l) (upd H l (.lst ((List.range n).map fun k:Nat=>V.int (k:Int))))
theorem qj{m:Nat}(hr:Room m X.A):CallR X (.type "list") xK:=by
 intro pins s σ H xs us Q I r h
 obtain⟨p,n,rfl,e,hn,q⟩:=h
 obtain⟨u,rfl,ru⟩:=cB r
 cases ru;obtain⟨t,u,v,ep⟩ : ∃ t u v,s.heap.get? p=some { cls:=.type "range", data:=.fields #[.int 0 t,.int (n:Int) u,.int 1 v] }:=I.hok p _ e
 have hs:sizeLine=16777216:=sizeLine_eq
 refine call_list_range (n:=n) hr.hd (show IsRange s.heap p 0 (n:Int) 1 t u v from ep) (small_one (by omega) (by omega) (by omega) (by omega)) (by rw[rangeSize_one]; split <;> omega) (by omega) fun h' tk acc' c' hk hS hacc=>?_
 refine⟨.ref s.heap.objs.size,_,I.laid hk (Nat.le_refl _) (show ObjOk X.prog X.w _ h' _ (.lst ((List.range n).map fun k:Nat=>V.int (k:Int))) from ⟨by simp; omega,acc'.toList,c',?_,by simpa using hS⟩),rfl,q _ (I.hok.fresh (Nat.le_refl _))⟩
 refine kL _ _ (by simp[hacc.1]) fun j x w' e1 e2=>?_
 rw[List.getElem?_map]at e1
 have hj:j<n:=by
  refine Classical.byContradiction fun hj=>?_
  rw[List.getElem?_eq_none (by simp; omega)]at e1; cases e1
 rw[List.getElem?_range hj]at e1
 cases e1;obtain⟨t',ht⟩:=hacc.2 j w' (by rw[← Array.getElem?_toList]; exact e2)
 exact⟨t',by rw[ht]; simp⟩
end
section
variable{X:Cx}
end
section
variable{prog:Program}{w:World}{K:Type}[DecidableEq K]{knd:KeyKind prog w K}{A:Around}{E:Value→Shared→Prop}{s:Shared}
end
section
variable{X:Cx}
theorem gX{α β : Type}{F:α→β→Prop}:∀ {l:List α} {m:List β} {j:Nat} {a:α} {b:β},Paired F l m→l[j]? = some a→m[j]? = some b→F a b
 | _,_,0,_,_,.cons h _,e1,e2=>by
  cases e1; cases e2; exact h
 | _,_,j+1,_,_,.cons _ t,e1,e2=>gX (j:=j) t e1 e2
 | _,_,0,_,_,.nil,e1,_=>by cases e1
 | _,_,_+1,_,_,.nil,e1,_=>by cases e1
theorem mC:bootBuiltins "set" = some (.type "set"):=by decide +kernel
theorem wQ:bootBuiltins "range" = some (.type "range"):=by decide +kernel
def yB(K:PySem.W.Frag)(SO:Addr→List Int→HO):List V→Hp→VK→Prop:=fun xs H Q=>∃ p,∃ ns:List Int,xs=[.ref p]∧SqL K H p (ns.map V.int)∧ns.length≤60∧∀ (l:Addr) (ds:List Int),H l=none→ds.Nodup→(∀ x,x∈ds ↔ x∈ns)→ds.length≤ns.length→Q (.ref l) (upd H l (SO l ds))
def qx(SO:Addr→List Int→HO):List V→Hp→VK→Prop:=fun xs H Q=>∃ p,∃ ds:List Int,xs=[.ref p]∧H p=some (SO p ds)∧ds.length≤60∧∀ (l:Addr) (ts:List Int),H l=none→ts.Perm ds→ts.Pairwise (· ≤ ·)→Q (.ref l) (upd H l (.lst (ts.map V.int)))
end
end L2
namespace L2
open PySem PySem.Spec PyProof.Rows PySem.SeqAt
def fh(xs:Array Nat):Prop:=∀ (a b:Nat) (ha:a<xs.size) (hb:b<xs.size),a<b→xs[a]<xs[b]
theorem lE{xs:Array Nat}(h:fh xs)(j:Nat):∀ (fuel lo hi:Nat),lo≤hi→hi≤xs.size→hi - lo≤fuel→(∀ k (hk:k<xs.size),k<lo→xs[k]<j)→(∀ k (hk:k<xs.size),hi≤k→j≤xs[k])→
  SetTable.below.go xs j fuel lo hi≤xs.size∧(∀ k (hk:k<xs.size),k<SetTable.below.go xs j fuel lo hi→xs[k]<j)∧(∀ k (hk:k<xs.size),SetTable.below.go xs j fuel lo hi≤k→j≤xs[k])
 | 0,lo,hi,h1,h2,h3,h4,h5=>by
  have e:lo=hi:=by omega
  subst e;exact⟨h2,h4,h5⟩
 | fuel+1,lo,hi,h1,h2,h3,h4,h5=>by
  unfold SetTable.below.go;split
  ·rename_i hlt
   have hm:(lo+hi) / 2<xs.size:=by omega
   have eg:xs.getD ((lo+hi) / 2) j=xs[(lo+hi) / 2]:=by simp[Array.getD,hm]
   dsimp only
   rw[eg];split
   ·rename_i hj
    refine lE h j fuel _ hi (by omega) h2 (by omega) (fun k hk hkm=>?_) h5
    rcases Nat.lt_or_ge k ((lo+hi) / 2) with z | z
    ·exact Nat.lt_trans (h k _ hk hm z) hj
    ·have:k=(lo+hi) / 2:=by omega
     subst this; exact hj
   ·rename_i hj
    refine lE h j fuel lo _ (by omega) (by omega) (by omega) h4 (fun k hk hkm=>?_)
    rcases Nat.lt_or_ge ((lo+hi) / 2) k with z | z
    ·exact Nat.le_trans (Nat.le_of_not_lt hj) (Nat.le_of_lt (h _ k hm hk z))
    ·have:k=(lo+hi) / 2:=by omega
     subst this; exact Nat.le_of_not_lt hj
  ·have e:lo=hi:=by omega
   subst e;exact⟨h2,h4,h5⟩
theorem gR{xs:Array Nat}(h:fh xs)(j:Nat):SetTable.below xs j≤xs.size∧(∀ k (hk:k<xs.size),k<SetTable.below xs j→xs[k]<j)∧(∀ k (hk:k<xs.size),SetTable.below xs j≤k→j≤xs[k]):=
 lE h j xs.size 0 xs.size (Nat.zero_le _) (Nat.le_refl _) (by omega) (fun k _ z=>absurd z (Nat.not_lt_zero _)) (fun k hk z=>absurd hk (by omega))
theorem sZ{xs:Array Nat}(h:fh xs):SetTable.below xs 0=0:=by
 obtain⟨h1,h2,h3⟩:=gR h 0
 refine Classical.byContradiction fun hn=>?_
 exact absurd (h2 0 (by omega) (by omega)) (Nat.not_lt_zero _)
theorem tD{xs:Array Nat}(h:fh xs){i:Nat}(hi:i<xs.size):SetTable.below xs (xs[i]+1)=i+1:=by
 obtain⟨h1,h2,h3⟩:=gR h (xs[i]+1)
 rcases Nat.lt_trichotomy (SetTable.below xs (xs[i]+1)) (i+1) with z | z | z
 ·have:=h3 i hi (by omega); omega
 ·exact z
 ·have h4:=h2 (i+1) (by omega) z
  have h5:=h i (i+1) hi (by omega) (by omega)
  omega
theorem ou{xs:Array Nat}{p x k:Nat}(hp:p≤xs.size)(hk:k<(SetTable.insertAt xs p x).size):(SetTable.insertAt xs p x)[k]=if h:k<p then xs[k]'(by omega) else if k=p then x else xs.getD (k - 1) 0:=by
 have hs:(SetTable.insertAt xs p x).size=xs.size+1:=by
  unfold SetTable.insertAt; simp; omega
 have e:(SetTable.insertAt xs p x)[k]? = some (if h:k<p then xs[k]'(by omega) else if k=p then x else xs.getD (k - 1) 0):=by
  unfold SetTable.insertAt;rw[Array.getElem?_append];simp only[Array.size_push,Array.size_extract]
  split
  ·rename_i h
   rw[Array.getElem?_push];simp only[Array.size_extract]
   by_cases hkp:k<p
   ·rw[if_neg (by omega),dif_pos hkp,Array.getElem?_extract]
    simp; omega
   ·have:k=p:=by omega
    subst this;rw[if_pos (by omega),dif_neg hkp,if_pos rfl]
  ·rename_i h
   rw[dif_neg (by omega),if_neg (by omega),Array.getElem?_extract]
   have hk':k - 1<xs.size:=by omega
   rw[if_pos (by omega),show p+(k - (min p xs.size - 0+1))=k - 1 by omega]
   simp[Array.getD,hk']
 rw[Array.getElem?_eq_getElem hk]at e
 exact Option.some.inj e
theorem p6{xs:Array Nat}(h:fh xs){j:Nat}(hj:∀ k (hk:k<xs.size),xs[k]≠j):fh (SetTable.insertAt xs (SetTable.below xs j) j):=by
 obtain⟨h1,h2,h3⟩:=gR h j
 have hs:(SetTable.insertAt xs (SetTable.below xs j) j).size=xs.size+1:=by
  unfold SetTable.insertAt; simp; omega
 generalize SetTable.below xs j=p at h1 h2 h3 hs;intro a b ha hb hab
 rw[ou h1 ha,ou h1 hb];have gd:∀ k,k<xs.size→∃ hk:k<xs.size,xs.getD k 0=xs[k]:=fun k hk=>⟨hk,by simp[Array.getD,hk]⟩
 by_cases a1:a<p
 ·rw[dif_pos a1]
  by_cases b1:b<p
  ·rw[dif_pos b1]; exact h a b _ _ hab
  ·rw[dif_neg b1]
   by_cases b2:b=p
   ·rw[if_pos b2]; exact h2 a (by omega) a1
   ·rw[if_neg b2]
    obtain⟨hk,e⟩:=gd (b - 1) (by omega)
    rw[e]; exact h a (b - 1) _ _ (by omega)
 ·rw[dif_neg a1,dif_neg (by omega)]
  by_cases a2:a=p
  ·rw[if_pos a2,if_neg (by omega)]
   obtain⟨hk,e⟩:=gd (b - 1) (by omega)
   rw[e];have:=h3 (b - 1) hk (by omega)
   have:=hj (b - 1) hk
   omega
  ·rw[if_neg a2,if_neg (by omega)]
   obtain⟨hk,e⟩:=gd (b - 1) (by omega)
   obtain⟨hk2,e2⟩:=gd (a - 1) (by omega)
   rw[e,e2]; exact h _ _ _ _ (by omega)
theorem vi{t:SetTable}{j:Nat}(h:fh t.place)(e:∀ i,t.slot j ≠ .live i):∀ k (hk:k<t.place.size),t.place[k]≠j:=fun k hk ek=>by
 obtain⟨h1,h2,h3⟩:=gR h j
 have hb:SetTable.below t.place j=k:=by
  rcases Nat.lt_trichotomy (SetTable.below t.place j) k with z | z | z
  ·have:=h3 (SetTable.below t.place j) (by omega) (Nat.le_refl _)
   have:=h (SetTable.below t.place j) k (by omega) hk z
   omega
  ·exact z
  ·have:=h2 k hk z; omega
 refine e k ?_
 unfold SetTable.slot;rw[hb]
 dsimp only
 rw[Array.getElem?_eq_getElem hk,ek];simp
theorem lB{t:SetTable}{hashAt:Nat→Int}{h:Int}:∀ (fuel:Nat) (p:SetTable.Probe),(∀ d,p.dummy=some d→t.slot d = .dummy)→∀ j dm,SetTable.probe.go t hashAt h fuel p=some (.empty j dm)→t.slot j = .empty∧∀ d,dm=some d→t.slot d = .dummy
 | 0,p,_,j,dm,e=>by unfold SetTable.probe.go at e; cases e
 | fuel+1,p,hp,j,dm,e=>by
  unfold SetTable.probe.go at e;have adv:∀ q:SetTable.Probe,(t.advance q).dummy=q.dummy:=fun q=>by unfold SetTable.advance; split <;> rfl
  cases hs:t.slot p.j with
  | empty=>
   rw[hs]at e
   cases e;exact⟨hs,hp⟩
  | dummy=>
   rw[hs]at e
   refine lB fuel _ (fun d hd=>?_) j dm e
   rw[adv]at hd
   cases hd;exact hs
  | live i=>
   rw[hs]at e
   dsimp only at e
   split at e
   ·cases e
   ·exact lB fuel _ (fun d hd=>by rw[adv]at hd; exact hp d hd) j dm e
structure bj (L:Bool) (t:SetTable):Prop where
 led:t.led=L
 rise:fh t.place
theorem qZ(n:Nat):fh (Array.range n):=fun a b ha hb hab=>by simpa using hab
theorem fe{L:Bool}{t:SetTable}(h:bj L t)(n:Nat):bj L (t.standIn n):=⟨h.led,qZ n⟩
theorem vn{L:Bool}{t:SetTable}(h:bj L t){hh:Int}{j:Nat}{b:Bool}(e:t.freeSlot hh=some (j,b)):bj L (t.put j).1:=by
 refine⟨h.led,p6 h.rise (vi h.rise ?_)⟩
 unfold SetTable.freeSlot at e;split at e
 ·rename_i j' dm hpr
  have:=lB (t:=t) _ (t.probeStart hh) (fun d hd=>by cases hd) j' dm hpr
  cases dm with
  | none=>
   cases e;exact fun i z=>by have:=this.1; rw[show (none:Option Nat).getD j'=j' from rfl,this]at z; cases z
  | some d=>
   cases e;exact fun i z=>by have:=this.2 d rfl; rw[show (some d:Option Nat).getD j'=d from rfl,this]at z; cases z
 ·cases e
theorem je{L:Bool}{t:SetTable}(h:bj L t)(es:Array (Int × Value))(hh:Int)(x:Value):bj L (layNew t es hh x).2.1:=by
 unfold layNew
 cases e:t.freeSlot hh with
 | none=>exact fe h _
 | some q=>
  obtain⟨j,b⟩:=q
  have hg:=vn h e;show bj L ((t.put j).1.orStandIn _)
  unfold SetTable.orStandIn;split
  ·exact hg
  ·exact fe hg _
theorem gQ{l:List Nat}(h:l.Pairwise (· < ·)):fh l.toArray:=fun a b ha hb hab=>by
 have:=(List.pairwise_iff_getElem.mp h) a b (by simpa using ha) (by simpa using hb) hab
 simpa using this
theorem jI{L:Bool}{t:SetTable}(h:bj L t)(es:Array (Int × Value))(n:Nat):bj L (relayAll t es n).2.1:=by
 unfold relayAll;split
 ·rename_i t' order e
  dsimp only
  split
  ·unfold SetTable.relaid SetTable.laid at e
   cases ho:SetTable.layClean (SetTable.sizeAbove n - 1) (es.map (·.1)) with
   | none=>rw[ho]at e; cases e
   | some owner=>
    rw[ho]at e
    cases e;refine⟨h.led,gQ ?_⟩
    refine List.pairwise_map.mpr ?_
    refine List.Pairwise.filterMap _ ?_ List.pairwise_lt_range
    intro a b hab x hx y hy
    obtain⟨k,_,rfl⟩:=Option.map_eq_some_iff.mp hx
    obtain⟨k',_,rfl⟩:=Option.map_eq_some_iff.mp hy
    exact hab
  ·exact fe h _
 ·exact fe h _
end L2
namespace L2
open PySem PySem.Spec PyProof.Rows PySem.SeqAt
section
variable{prog:Program}{w:World}{K:Type}[DecidableEq K]{knd:KeyKind prog w K}{A:Around}{E:Value→Shared→Prop}{s:Shared}{G:SetTable→Prop}
def Apart(knd:KeyKind prog w K)(l:List (Int × Value)):Prop:=l.Pairwise fun e e'=>∀ k,knd.is k e.2=true→knd.is k e'.2=false
theorem Apart.perm{l l':List (Int × Value)}(h:Apart knd l)(p:l'.Perm l):Apart knd l':=
 (p.pairwise_iff fun {x y} hxy k hk=>by
  cases e:knd.is k x.2 with
  | false=>rfl
  | true=>rw[hxy k e]at hk; cases hk).mpr h
theorem Apart.push{l:List (Int × Value)}{k:K}{x:Value}{hh:Int}(h:Apart knd l)(hn:∀ e∈l,knd.is k e.2=false)(hk:knd.is k x=true):Apart knd (l++[(hh,x)]):=by
 refine List.pairwise_append.mpr ⟨h,List.pairwise_singleton _ _,fun e he b hb k' hk'=>?_⟩
 rw[List.mem_singleton.mp hb];show knd.is k' x=false
 rw[KeyKind.is_eq_decide hk k'];refine decide_eq_false fun e'=>?_
 subst e';rw[hn e he]at hk'; cases hk'
structure kz (knd:KeyKind prog w K) (G:SetTable→Prop) (o:Obj) (es:Array (Int × Value)) (ep:Nat) (t:SetTable) (S:K→Bool) (n:Nat):Prop where
 ex:o.ExactSet
 dat:o.data = .set es ep t
 el:ElemsOf knd es.toList
 mem:∀ k,S k=true ↔ ∃ e∈es.toList,knd.is k e.2=true
 few:es.size<scanBound
 fit:t.fits es.size=true
 num:es.size=n
 good:G t
 apart:Apart knd es.toList
def SetG(knd:KeyKind prog w K)(G:SetTable→Prop)(h:Heap)(a:Addr)(S:K→Bool)(n:Nat):Prop:=∃ o es ep t,h.get? a=some o∧kz knd G o es ep t S n
theorem stored{h:Heap}{a:Addr}{o:Obj}{es:Array (Int × Value)}{ep:Nat}{t:SetTable}{S:K→Bool}{n:Nat}{es':Array (Int × Value)}{t':SetTable}{S':K→Bool}{n':Nat}(ho:h.get? a=some o)(T:kz knd G o es ep t S n)
  (T':∀ o',o'.ExactSet→o'.data = .set es' (ep+1) t'→kz knd G o' es' (ep+1) t' S' n'):∃ o',(h.update a (Obj.putSet es' t')).get? a=some o'∧kz knd G o' es' (ep+1) t' S' n':=by
 have hp:=putSet_of es' t' T.dat;have hg:=Heap.get?_update_self (Obj.putSet es' t') ho (by rw[hp]; rfl)
 rw[hp]at hg
 exact⟨_,hg,T' _ T.ex rfl⟩
theorem qp(gr:∀ t es n,G t→G (relayAll t es n).2.1){g:Bool→Sem Unit}(hg:∀ (b:Bool) (s₁:Shared) (Q':Unit→Shared→Prop),Q' () s₁→wpAny (model prog w) A (g b) Q' E s₁)
  {a:Addr} {o:Obj} {es:Array (Int × Value)} {ep:Nat} {t:SetTable} {S:K→Bool} {n:Nat} (ho:s.heap.get? a=some o) (T:kz knd G o es ep t S n)
  {es1:Array (Int × Value)} {t2:SetTable} {S':K→Bool} {n':Nat} (T1:∀ o',o'.ExactSet→o'.data = .set es1 (ep+1) t2→kz knd G o' es1 (ep+1) t2 S' n') {wasDummy:Bool} {R:Option Bool→Shared→Prop}
  (h:∀ h',Heap.SameBut a s.heap h'→SetG knd G h' a S' n'→R (some true) { s with heap:=h' }) :
  wpAny (model prog w) A (do
    storeSet a es1 t2
    if (!wasDummy&&t2.tooFull)=true then do
      g (relayAll t2 es1 (SetTable.grown es1.size)).2.2
      storeSet a (relayAll t2 es1 (SetTable.grown es1.size)).1 (relayAll t2 es1 (SetTable.grown es1.size)).2.1
      pure (some true)
     else pure (some true)) R E s:=by
 obtain⟨o1,ho1,U1⟩:=stored ho T T1
 refine wpAny_bind (wpAny_storeSet_of ho T.dat ?_ (fits_of_scanBound U1.few))
 have hsb1:=Heap.SameBut.update s.heap a (Obj.putSet es1 t2);split
 ·have hp:=relayAll_perm t2 es1 (SetTable.grown es1.size)
  have hfr:=relayAll_fits t2 es1 (SetTable.grown es1.size);have hgr:=gr t2 es1 (SetTable.grown es1.size) U1.good;generalize relayAll t2 es1 (SetTable.grown es1.size)=Rl at hp hfr hgr ⊢;obtain⟨es2,t3,gave2⟩:=Rl
  dsimp only at hp hfr hgr ⊢
  have hsz:es2.size=es1.size:=by rw[← Array.length_toList,hp.length_eq,Array.length_toList]
  obtain⟨o2,ho2,U2⟩:=stored (es':=es2) (t':=t3) (S':=S') (n':=n') ho1 U1 fun o' ex da=>⟨ex,da,U1.el.perm hp,fun k'=>(U1.mem k').trans ⟨fun ⟨e,he,q⟩=>⟨e,hp.mem_iff.mpr he,q⟩,fun ⟨e,he,q⟩=>⟨e,hp.mem_iff.mp he,q⟩⟩,by rw[hsz]; exact U1.few,hfr,by rw[hsz]; exact U1.num,hgr,U1.apart.perm hp⟩
  refine wpAny_bind (hg _ _ _ ?_)
  refine wpAny_bind (wpAny_storeSet_of ho1 U1.dat ?_ (fits_of_scanBound U2.few))
  exact wpAny_pure (h _ (hsb1.trans (Heap.SameBut.update _ a _)) ⟨_,_,_,_,ho2,U2⟩)
 ·exact wpAny_pure (h _ hsb1 ⟨_,_,_,_,ho1,U1⟩)
theorem xN(gl:∀ t es h x,G t→G (layNew t es h x).2.1)(gr:∀ t es n,G t→G (relayAll t es n).2.1)(gp:∀ t:SetTable,G t→G { t with plain:=false })
  {a:Addr} {S:K→Bool} {n:Nat} {k:K} {x:Value} {Q:Bool→Shared→Prop} (hkey:knd.is k x=true) (hsc:x.scannable=true) (hS:SetG knd G s.heap a S n) (hroom:n+1<scanBound)
  (h:∀ h',Heap.SameBut a s.heap h'→SetG knd G h' a (fun k'=>S k'||decide (k'=k)) (if S k then n else n+1)→Q (!S k) { s with heap:=h' }) :
  wpAny (model prog w) A (setAddHashed a x (knd.hash k)) Q E s:=by
 obtain⟨o,es,ep,t,ho,T⟩:=hS
 have hb1:es.size+1<scanBound:=by rw[T.num]; exact hroom
 unfold setAddHashed setAddHashedIn;refine wpAny_holding (wpAny_bind (wpAny_setState_of ho T.dat T.fit ?_))
 dsimp only
 rw[byScan_of hsc T.few T.el];simp only[↓reduceIte]
 unfold setAddByScan;refine wpAny_bind ?_
 refine wpAny_bind (wpAny_rule ?_)
 refine wpAny_bind (wpAny_setScan_of hkey ho T.dat T.fit T.el ?_)
 cases hr:List.findIdx? (fun e=>knd.is k e.2) es.toList with
 | some j=>
  dsimp only
  obtain⟨hj,hpj,_⟩:=List.findIdx?_eq_some_iff_getElem.mp hr
  have hSk:S k=true:=(T.mem k).mpr ⟨es.toList[j],List.getElem_mem hj,hpj⟩
  refine wpAny_pure (wpAny_pure ?_)
  have e:s={ s with heap:=s.heap }:=by cases s; rfl
  have q:=h s.heap (Heap.SameBut.refl a s.heap) ⟨o,es,ep,t,ho,T.ex,T.dat,T.el,fun k'=>by
   rw[Bool.or_eq_true,decide_eq_true_eq,← T.mem k'];exact⟨fun hk=>hk.elim id (fun e=>e ▸ hSk),.inl⟩,T.few,T.fit,by rw[hSk]; exact T.num,T.good,T.apart⟩
  rw[hSk]at q; rw[e]; exact q
 | none=>
  dsimp only
  have hno:=List.findIdx?_eq_none_iff.mp hr
  have hSk:S k=false:=by
   cases hk:S k with
   | false=>rfl
   | true=>obtain⟨e,he,hp⟩:=(T.mem k).mp hk; rw[hno e he]at hp; cases hp
  have hgw:∀ (b:Bool) {s₁:Shared} {Q':Unit→Shared→Prop},Q' () s₁→wpAny (model prog w) A (match b with | true=>rule "set.scan.the-table-gave-way" | false=>pure ()) Q' E s₁:=fun b s₁ Q' hq=>by
   cases b <;> first | exact wpAny_pure hq | exact wpAny_rule hq
  have hperm:=layNew_perm t es (knd.hash k) x;have hfits:=layNew_fits t es (knd.hash k) x;have hgood:=gl t es (knd.hash k) x T.good;generalize layNew t es (knd.hash k) x=Ly at hperm hfits hgood ⊢;obtain⟨es1,t1,wasDummy,gave⟩:=Ly
  dsimp only at hperm hfits hgood ⊢
  rw[Array.toList_push]at hperm
  have hsz1:es1.size=n+1:=by rw[← Array.length_toList,hperm.length_eq,List.length_append,Array.length_toList,T.num]; rfl
  have mk:∀ t2:SetTable,t2.fits es1.size=true→G t2→∀ o',o'.ExactSet→o'.data = .set es1 (ep+1) t2→kz knd G o' es1 (ep+1) t2 (fun k'=>S k'||decide (k'=k)) (n+1):=fun t2 hf2 g2 o' ex da=>
   ⟨ex,da,(T.el.push hkey hsc).perm hperm,mem_push_iff hkey T.mem hperm,by rw[hsz1]; exact hroom,hf2,hsz1,g2,(T.apart.push (fun e he=>by have:=hno e he; simpa using this) hkey).perm hperm⟩
  refine wpAny_bind (hgw _ ?_)
  have hend:∀ h',Heap.SameBut a s.heap h'→SetG knd G h' a (fun k'=>S k'||decide (k'=k)) (n+1)→Q true { s with heap:=h' }:=by
   intro h' hsb hS'; have:=h h' hsb; rw[hSk]at this; exact this hS'
  split
  ·refine wpAny_bind ?_
   rw[hashByValue_scannable 8 hsc];refine wpAny_pure ?_
   refine qp gr ?_ ho T (mk _ ?_ ?_) ?_
   ·intro b s₁ Q' hq; cases b <;> first | exact wpAny_pure hq | exact wpAny_rule hq
   ·split
    ·exact hfits
    ·exact SetTable.fits_plain_off hfits
   ·split
    ·exact hgood
    ·exact gp _ hgood
   ·intro h' hsb hS'; dsimp only; exact wpAny_pure (hend h' hsb hS')
  ·refine wpAny_bind (wpAny_pure ?_)
   simp only[↓reduceIte]
   refine qp gr ?_ ho T (mk _ hfits hgood) ?_
   ·intro b s₁ Q' hq; cases b <;> first | exact wpAny_pure hq | exact wpAny_rule hq
   ·intro h' hsb hS'; dsimp only; exact wpAny_pure (hend h' hsb hS')
end
end L2
namespace L2
open PySem PySem.Spec PyProof.Rows PySem.SeqAt
section
variable{prog:Program}{w:World}{A:Around}{R:Result→Shared→Prop}{I:Addr}{fp wr:List Addr}{Gm:Array GenState→Array GenState→Prop}{n:Nat}{P:Nat→Value→Prop}{St:Nat→Shared→Prop}{L:Bool}
theorem jR{t:SetTable}(h:bj L t):bj L { t with plain:=false }:=⟨h.led,h.rise⟩
theorem SetG.at'{K:Type}[DecidableEq K]{knd:KeyKind prog w K}{G:SetTable→Prop}{h h':Heap}{a:Addr}{S S':K→Bool}{m m':Nat}(x:SetG knd G h a S m)(e:∀ o,h.get? a=some o→h'.get? a=some o)(eS:∀ k,S k=S' k)(em:m=m'):SetG knd G h' a S' m':=by
 obtain⟨o,es,ep,t,ho,T⟩:=x
 have:S=S':=funext eS
 subst this; subst em
 exact⟨o,es,ep,t,e o ho,T⟩
theorem xP(W:WalksS prog w A.in1 I fp wr Gm n P St)(S:Addr)(hSf:S∉fp)(val:Nat→Int)(hval:∀ i v,P i v→∃ t,v = .int (val i) t)(hb:n+1<scanBound) :
  ∀ (k i:Nat) (s:Shared),n - i=k→i≤n→St i s→SetG (intKind prog w) (bj L) s.heap S (fun k'=>(firstMet val i).any (· == k')) (firstMet val i).length→
   (∀ s',Moved (S::wr) Gm s s'→SetG (intKind prog w) (bj L) s'.heap S (fun k'=>(firstMet val n).any (· == k')) (firstMet val n).length→R (.ok (.ret .none)) s')→
   codeAny (model prog w) A (.builtin "set.update.loop" ⟨[.ref S,.ref I],[]⟩) R s:=by
 have hSw:S∉wr:=fun h=>hSf (W.sub _ h)
 have hsub:∀ b∈wr,b∈S::wr:=fun b hb=>List.mem_cons_of_mem _ hb
 intro k
 induction k with
 | zero=>
  intro i s hk hi hst hS hR
  have hin:i=n:=by omega
  subst hin;refine codeAny_builtin F.entry_set_update_loop ?_
  rw[Around.under_plainId F.plain_set_update_loop _];show wpAny _ A.in1 (pyNext (.ref I) >>= _) _ _ s
  refine wpAny_bind (W.done s _ _ hst fun s' hm=>?_)
  show wpAny _ A.in1 (ret Value.none) _ _ s'
  exact wpAny_pure (hR s' (hm.mono hsub) (hS.at' (fun o e=>hm.heap S _ hSw e) (fun _=>rfl) rfl))
 | succ k ih=>
  intro i s hk hi hst hS hR
  have hlt:i<n:=by omega
  refine codeAny_builtin F.entry_set_update_loop ?_
  rw[Around.under_plainId F.plain_set_update_loop _];show wpAny _ A.in1 (pyNext (.ref I) >>= _) _ _ s
  refine wpAny_bind (W.item i s _ _ hlt hst fun v s' hP hst' hm=>?_)
  obtain⟨t,rfl⟩:=hval i v hP
  have hS':=hS.at' (h':=s'.heap) (fun o e=>hm.heap S _ hSw e) (fun _=>rfl) rfl
  show wpAny _ A.in1 (holding [Value.int (val i) t] (setAdd S (.int (val i) t)) >>= _) _ _ s'
  refine wpAny_bind (wpAny_holding ?_)
  unfold setAdd;refine wpAny_holding ?_
  refine wpAny_bind ((intKind prog w).pyHash (k:=val i) (intKind_is _ _ _ _) ?_)
  have hroom:(firstMet val i).length+1<scanBound:=by have:=firstMet_length_le val i; omega
  refine xN (G:=bj L) (knd:=intKind prog w) (s:={ s' with toks:=s'.toks+1 }) (fun t es h x g=>je g es h x) (fun t es m g=>jI g es m) (fun t g=>jR g) (intKind_is _ _ _ _) rfl hS' hroom fun h' hsb hS2=>?_
  have hSi:=hS2.at' (h':=h') (fun o e=>e) (S':=fun k'=>(firstMet val (i+1)).any (· == k')) (m':=(firstMet val (i+1)).length) (fun k'=>by rw[firstMet_succ,step_any]) (by rw[firstMet_succ,step_length])
  refine wpAny_pure ⟨plainId_quiet F.plain_set_update_loop _,ih (i+1) _ (by omega) hlt (W.frame _ s' _ _ hst' (Nat.le_succ _) fun b hb o e=>?_) hSi fun s'' hm'' hS''=>?_⟩
  ·rw[hsb.2 b (fun h:b=S=>hSf (by rw[← h]; exact hb))]; exact e
  ·refine hR s'' (Moved.trans W.gtrans ((hm.mono hsub).then_heap (Nat.le_succ _) fun b o hb e=>?_) hm'') hS''
   rw[hsb.2 b (fun h:b=S=>hb (by rw[h]; exact List.mem_cons_self))]; exact e
end
section
variable{prog:Program}{w:World}{A:Around}{E:Value→Shared→Prop}{s:Shared}
def aR(w:World):Bool:=!(w.params.followText "set-order")
theorem qh(a:Value){Q₁:Value→Shared→Prop}
  (h:Q₁ (.ref s.heap.objs.size) { s with heap:=s.heap.push { cls:=.type "set", dict:=none,data:=.set #[] 0 (.fresh 0 0 (aR w)) } }) :
  codeAny (model prog w) A (.call (.builtin "set.__new__") ⟨[.type "set", a],[]⟩) (wants Q₁ E) s:=by
 refine codeAny_of_tree ?_
 show wpAny _ A.in1 (do checkBuiltinCall "set.__new__" ⟨[.type "set", a],[]⟩; again (.builtin "set.__new__" ⟨[.type "set", a],[]⟩)) _ _ s
 refine wpAny_bind (wpAny_of_eq (F.newCall_set_1 a) (wpAny_pure ⟨plainId_quiet F.plain_set_new _,codeAny_builtin F.entry_set_new ?_⟩))
 rw[Around.under_plainId F.plain_set_new _];unfold Builtin.«set.__new__» Builtin.Frozenset.newClass
 have hsub:=sub_set_self;obtain⟨hp,g,d,tk,os⟩:=s
 dsimp only
 wp_walk
 refine wpAny_askSetting (wpAny_pure ?_)
 dsimp only
 simp only[newObj]
 refine wpAny_bind (wpAny_alloc (wpAny_pure ?_))
 exact wpAny_pure h
theorem vM{l:Addr}{items:Array Value}{ns:List Int}{Q:Value→Shared→Prop}(hh:A.handled=none)(hl:s.heap.IsList l items)(hi:IntsAre items.toList ns)(hb:items.size+1<scanBound)
  (h:∀ (h':Heap) (tk:Nat),SetG (intKind prog w) (bj (aR w)) h' s.heap.objs.size (fun k'=>(firstMet (fun i=>ns.getD i 0) items.size).any (· == k')) (firstMet (fun i=>ns.getD i 0) items.size).length→
   (∀ b o,b<s.heap.objs.size→s.heap.get? b=some o→h'.get? b=some o)→Q (.ref s.heap.objs.size) { s with heap:=h',toks:=tk }) :
  wpAny (model prog w) A (call (.type "set") [.ref l]) Q E s:=by
 obtain⟨c,tl,hmro⟩:=F.called_set.mro
 have hmade:=F.called_set.made;have hsub:=F.called_set.sub;refine wpAny_call (codeAny_of_tree ?_)
 show wpAny _ _ (callAny (.type "set") _) _ _ _
 refine wpAny_pure ⟨Code.quiet_builtin _ (by decide +kernel),codeAny_builtin F.entry_type_call ?_⟩
 rw[Around.under_plain (weight_type_call_type "set" [.ref l] []) rfl];have h1:=F.called_set.notType;have h2:=F.called_set.canCreate;have hct:=F.typeCall_set_1 (.ref l)
 repeat (any_goals (first | assumption | wp_step))
 refine codeAny_mono (qh (.ref l) (E:=E) (Q₁:=fun obj s₁=>obj = .ref s.heap.objs.size∧s₁={ s with heap:=s.heap.push { cls:=.type "set", dict:=none,data:=.set #[] 0 (.fresh 0 0 (aR w)) } }) ⟨rfl,rfl⟩) fun r s₁ hr=>?_
 cases r with
 | error e=>exact hr
 | ok fl=>
  cases fl with
  | ret obj=>
   obtain⟨rfl,rfl⟩:=hr
   have hS:(s.heap.push { cls:=.type "set", dict:=none,data:=.set #[] 0 (.fresh 0 0 (aR w)) }).get? s.heap.objs.size=some { cls:=.type "set", dict:=none,data:=.set #[] 0 (.fresh 0 0 (aR w)) }:=Heap.get?_push_size _ rfl
   have hT:Shared.TypeIs { s with heap:=s.heap.push { cls:=.type "set", dict:=none,data:=.set #[] 0 (.fresh 0 0 (aR w)) } } (.ref s.heap.objs.size) "set" := ⟨_,hS,rfl⟩
   have hli:=F.called_set.init.lookup;have hbi:=F.called_set.init.bind (.ref s.heap.objs.size)
   repeat (any_goals (first | assumption | wp_step))
   refine codeAny_mono (codeAny_call_builtin (R:=wants (fun r s₂=>r = .none∧∃ h' tk,s₂={ s with heap:=h',toks:=tk }∧
     SetG (intKind prog w) (bj (aR w)) h' s.heap.objs.size (fun k'=>(firstMet (fun i=>ns.getD i 0) items.size).any (· == k')) (firstMet (fun i=>ns.getD i 0) items.size).length∧
     (∀ b o,b<s.heap.objs.size→s.heap.get? b=some o→h'.get? b=some o)) E) F.called_set.init.plain F.entry_set_init (check_set_init_1 hT ?_)) fun r₂ s₂ hr₂=>?_
   ·obtain⟨ol,hol,hcl,nl,hdl⟩:=hl
    obtain⟨ocls,odict,odata,oslots⟩:=ol
    simp only at hcl hdl
    subst hcl; subst hdl
    have hol':(s.heap.push { cls:=.type "set", dict:=none,data:=.set #[] 0 (.fresh 0 0 (aR w)) }).get? l=some { cls:=.type "list", dict:=odict,data:=.seq items nl,slots:=oslots }:=Heap.get?_push_of_some _ hol
    have hsls:=F.sub_list_set;have hslf:=F.sub_list_frozenset;have hne:(Value.type "list" == Value.type "dict")=false:=by decide
    have hl1:(s.heap.push { cls:=.type "set", dict:=none,data:=.set #[] 0 (.fresh 0 0 (aR w)) }).IsList l items:=⟨_,hol',rfl,nl,rfl⟩
    unfold Builtin.«set.__init__» noKeywords Builtin.Frozenset.updateFrom
    generalize hPI:pyIter=PI
    wp_walk
    subst hPI;refine wpAny_pyIter_list hl1 ?_
    refine wpAny_bind (wpAny_runValue ?_)
    have hlS:l<s.heap.objs.size:=Heap.lt_size hol
    have hh3:A.in1.in1.in1.handled=none:=by simp[hh]
    have hneI:l≠(s.heap.push { cls:=.type "set", dict:=none,data:=.set #[] 0 (.fresh 0 0 (aR w)) }).objs.size:=by
     rw[Heap.size_push]; exact Nat.ne_of_lt (Nat.lt_succ_of_lt hlS)
    have hSf:s.heap.objs.size∉[(s.heap.push { cls:=.type "set", dict:=none,data:=.set #[] 0 (.fresh 0 0 (aR w)) }).objs.size,l]:=by
     rw[Heap.size_push]; simp only[List.mem_cons,List.mem_singleton,List.not_mem_nil,or_false,not_or]
     exact⟨Nat.ne_of_lt (Nat.lt_succ_self _),Nat.ne_of_gt hlS⟩
    have hval:∀ (i:Nat) (v:Value),items[i]? = some v→∃ t,v = .int ((fun i=>ns.getD i 0) i) t:=fun i v hv=>IntsAre.int_at hi i v (by rw[Array.getElem?_toList]; exact hv)
    refine xP (L:=aR w) ((Walks.list hh3 _ l hneI items).toS) s.heap.objs.size hSf (fun i=>ns.getD i 0) hval hb (items.size - 0) 0 _ (by omega) (Nat.zero_le _) ⟨⟨_,Heap.get?_push_size _ rfl,rfl,rfl⟩,(hl1.push _)⟩ ?hS0 ?hR
    case hS0=>
     refine⟨{ cls:=.type "set", dict:=none,data:=.set #[] 0 (.fresh 0 0 (aR w)) },#[],0,.fresh 0 0 (aR w),Heap.get?_push_of_some _ hS,?_⟩
     exact⟨⟨rfl,rfl,rfl⟩,rfl,fun e he=>by simp at he,fun k=>by simp[firstMet_zero],by decide,rfl,rfl,⟨rfl,fun a b ha=>absurd ha (Nat.not_lt_zero _)⟩,List.Pairwise.nil⟩
    case hR=>
     intro s' hm hS'
     obtain⟨h',g',d',tk',os'⟩:=s'
     have eg:g'=s.gens:=hm.gens
     have ed:d'=s.drawn:=hm.drawn
     have eo:os'=s.os:=hm.os
     subst eg; subst ed; subst eo
     show wpAny _ _ _ _ _ _
     refine wpAny_pure ?_
     show wpAny _ _ (ret Value.none) _ _ _
     refine wpAny_pure ⟨rfl,h',tk',rfl,hS',fun b o hb e=>?_⟩
     have hb1:b≠s.heap.objs.size:=Nat.ne_of_lt hb
     have hb2:b≠(s.heap.push { cls:=.type "set", dict:=none,data:=.set #[] 0 (.fresh 0 0 (aR w)) }).objs.size:=by
      rw[Heap.size_push]; exact Nat.ne_of_lt (Nat.lt_succ_of_lt hb)
     exact hm.heap b o (by simp only[List.mem_cons,List.mem_singleton,List.not_mem_nil,or_false,not_or]; exact⟨hb1,hb2⟩) (Heap.get?_push_of_some _ (Heap.get?_push_of_some _ e))
   ·cases r₂ with
    | error e=>exact hr₂
    | ok fl₂=>
     cases fl₂ with
     | ret r=>
      obtain⟨rfl,h',tk,rfl,hS',hk'⟩:=hr₂
      repeat (any_goals (first | assumption | wp_step))
      exact h _ _ hS' hk'
     | _=>exact hr₂.elim
  | _=>exact hr.elim
end
end L2
namespace L2
open PySem PySem.Spec PyProof.Rows PySem.SeqAt
def jg(e:Int × Value):Int:=match e.2 with
 | .int d _=>d
 | _=>0
def GS(w:World)(h:Heap)(a:Addr)(ds:List Int):Prop:=∃ o es ep t,h.get? a=some o∧o.ExactSet∧o.data = .set es ep t∧es.size<scanBound∧t.fits es.size=true∧bj (aR w) t∧(∀ e∈es.toList,∃ tk,e.2 = .int (jg e) tk)∧es.toList.map jg=ds
def m8(w:World)(a:Addr)(ds:List Int):HO:=.ext fun h=>GS w h a ds
theorem B1{prog:Program}{w:World}{h:Heap}{a:Addr}{S:Int→Bool}{n:Nat}(x:SetG (intKind prog w) (bj (aR w)) h a S n):∃ ds,GS w h a ds∧ds.Nodup∧(∀ k,k∈ds ↔ S k=true)∧ds.length=n:=by
 obtain⟨o,es,ep,t,ho,T⟩:=x
 have hk:∀ e∈es.toList,∃ tk,e.2 = .int (jg e) tk:=fun e he=>by
  obtain⟨⟨k,hk,_⟩,_⟩:=T.el e he
  obtain⟨tk,e2⟩:=Value.isInt_shape hk
  exact⟨tk,by unfold jg; rw[e2]⟩
 have his:∀ e∈es.toList,∀ k,(intKind prog w).is k e.2=true ↔ k=jg e:=fun e he k=>by
  obtain⟨tk,e2⟩:=hk e he
  constructor
  ·intro z
   obtain⟨tk',e3⟩:=Value.isInt_shape z
   rw[e3]at e2
   cases e2; rfl
  ·rintro rfl; rw[e2]; exact intKind_is _ _ _ _
 refine⟨es.toList.map jg,⟨o,es,ep,t,ho,T.ex,T.dat,T.few,T.fit,T.good,hk,rfl⟩,?_,fun k=>?_,by rw[List.length_map,Array.length_toList]; exact T.num⟩
 ·refine List.pairwise_map.mpr (List.Pairwise.imp_of_mem (fun {x y} hx hy hab e=>?_) T.apart)
  have h1:=hab (jg x) ((his x hx _).mpr rfl);rw[(his y hy _).mpr e]at h1; cases h1
 ·rw[T.mem,List.mem_map]
  constructor
  ·rintro⟨e,he,rfl⟩; exact⟨e,he,(his e he _).mpr rfl⟩
  ·rintro⟨e,he,z⟩; exact⟨e,he,((his e he _).mp z).symm⟩
section
variable{X:Cx}
theorem v8{m:Nat}(hr:Room m X.A){K:PySem.W.Frag}(hK:X.K=K):CallR X (.type "set") (yB K (m8 X.w)):=by
 subst hK;intro pins s σ H xs us Q I r h
 obtain⟨p,ns,rfl,hq,h60,q⟩:=h
 obtain⟨u,rfl,ru⟩:=cB r
 cases ru;obtain⟨its,rv,pl,hz⟩:=I.list hq
 have hlen:its.length=ns.length:=by rw[← rv.length,List.length_map]
 refine vM (ns:=ns) hr.hd pl.isList (by simpa using mD rv) (by simp only[List.size_toArray]; unfold scanBound; omega) fun h' tk hS hk=>?_
 obtain⟨ds,hg,hnd,hmem,hdl⟩:=B1 hS
 obtain⟨o,es,ep,t,ho,hrest⟩:=id hg
 refine⟨.ref s.heap.objs.size,_,I.laid (fun b o e=>hk b o (Heap.lt_size e) e) (Nat.le_refl _) (show ObjOk X.prog X.w _ h' _ (m8 X.w s.heap.objs.size ds) from ⟨hg,⟨o,ho⟩,fun h1 h2 g k=>?_⟩),rfl,q _ ds (I.hok.fresh (Nat.le_refl _)) hnd (fun x=>?_) ?_⟩
 ·obtain⟨o,es,ep,t,ho,rest⟩:=g
  exact⟨o,es,ep,t,k o ho,rest⟩
 ·rw[hmem,firstMet_any]
  simp only[List.size_toArray,List.any_map,List.any_eq_true,List.mem_range]
  constructor
  ·rintro⟨i,hi,e⟩
   have e':ns.getD i 0=x:=by simpa using e
   rw[← e',List.getD_eq_getElem?_getD,List.getElem?_eq_getElem (by omega)]
   exact List.getElem_mem _
  ·intro hx
   obtain⟨i,hi,e⟩:=List.mem_iff_getElem.mp hx
   exact⟨i,by omega,by simp[List.getD_eq_getElem?_getD,List.getElem?_eq_getElem hi,e]⟩
 ·rw[hdl]
  have:=firstMet_length_le (fun i=>ns.getD i 0) its.toArray.size
  simp only[List.size_toArray]at this ⊢
  omega
end
end L2
namespace L2
open PySem PySem.Spec PyProof.Rows PySem.SeqAt
theorem jS{α : Type}:∀ (l:List α) (i:Nat) (hi:i<l.length),(l[i]::l.eraseIdx i).Perm l
 | x::l,0,_=>.rfl
 | x::l,i+1,hi=>(List.Perm.swap x (l[i]'(by simpa using hi)) (l.eraseIdx i)).trans (List.Perm.cons x (jS l i (by simpa using hi)))
theorem rT{α : Type}(next:Nat→Nat):∀ (fuel k:Nat) (left:List α) (out:Array α),fuel=left.length→(pickOrder.go next fuel k left out).toList.Perm (out.toList++left)
 | 0,k,left,out,h=>by
  have:left=[]:=List.eq_nil_of_length_eq_zero h.symm
  subst this;unfold pickOrder.go; simp
 | fuel+1,k,left,out,h=>by
  unfold pickOrder.go;have hi:next k % left.length<left.length:=Nat.mod_lt _ (by omega)
  rw[List.getElem?_eq_getElem hi]
  dsimp only
  refine(rT next fuel (k+1) _ _ (by rw[List.length_eraseIdx]; rw[if_pos hi]; omega)).trans ?_
  rw[Array.toList_push,List.append_assoc];refine List.Perm.append_left _ ?_
  exact jS _ _ hi
theorem nP{α : Type}(next:Nat→Nat)(xs:Array α):(pickOrder next xs).toList.Perm xs.toList:=by
 unfold pickOrder;have:=rT next xs.size 0 xs.toList #[] (by simp)
 simpa using this
section
variable{M:Model}{A:Around}{E:Value→Shared→Prop}
theorem qM{s:Shared}{n:Nat}{Q:Nat→Shared→Prop}(hn:n≠0)(h:∀ i d',i<n→Q i { s with drawn:=d' }):wpAny M A (choose .order n) Q E s:=fun Γ p hΓ=>by
 show Sem.wp M Γ (.choose .order n .pure) _ _ _ _
 rw[Sem.wp_choose];refine⟨hn,?_⟩
 rw[Sem.wp_pure];exact h _ _ (Nat.mod_lt _ (by omega))
theorem nM{α : Type}:∀ (n:Nat) (xs:List α) (s:Shared) (Q:List α→Shared→Prop),n=xs.length→(∀ ys d',ys.Perm xs→Q ys { s with drawn:=d' })→wpAny M A (drawOrder n xs) Q E s
 | 0,xs,s,Q,hn,h=>by
  have:xs=[]:=List.eq_nil_of_length_eq_zero hn.symm
  subst this;unfold drawOrder;exact wpAny_pure (by have:=h [] s.drawn .nil; cases s; exact this)
 | n+1,[],s,Q,hn,h=>by simp at hn
 | n+1,x::xs,s,Q,hn,h=>by
  unfold drawOrder;refine wpAny_bind (qM (by simp) fun i d' hi=>?_)
  rw[List.getElem?_eq_getElem hi]
  dsimp only
  refine wpAny_bind (nM n _ _ _ (by rw[List.length_eraseIdx,if_pos hi]; omega) fun ys d'' hp=>?_)
  refine wpAny_pure ?_
  exact h _ d'' ((List.Perm.cons _ hp).trans (jS _ _ hi))
end
end L2
namespace L2
open PySem PySem.Spec PyProof.Rows PySem.SeqAt
theorem slot_si_next:Slot "set_iterator" "__next__" "set_iterator.__next__" :=
 .of (owner := "set_iterator") (n := "__next__") (by rw[typeLookup_type,builtinLookup_eq_fast]; kernel_rfl) (by decide +kernel) (by decide +kernel) (by decide +kernel)
  (by first | exact .inl (by decide +kernel) | exact .inr (by decide +kernel)) (by rw[isSubtype_type]; kernel_rfl)
theorem eE:entryFor table "set_iterator.__next__" = some Builtin.«set_iterator.__next__»:=entryFor_of_tree (by kernel_rfl)
theorem mS:entryFor table "set.__iter__" = some Builtin.«frozenset.__iter__»:=
 entryFor_alias (id' := "frozenset.__iter__") (by kernel_rfl) rfl (by decide +kernel) (by kernel_rfl)
theorem pB : Manifest.owners.lookup (String.ofList ['r', 'o', 't', 'a', 'r', 'e', 't', 'i', '_', 't', 'e', 's'].reverse) = some Manifest.sig_set_iterator := by kernel_rfl
theorem fg(a:Value):argsOk "set_iterator.__next__" ⟨[a],[]⟩:=by
 unfold argsOk; rw [signature?_of (id := "set_iterator.__next__") (n:=['_','_','t','x','e','n','_','_']) (o:=['r','o','t','a','r','e','t','i','_','t','e','s']) (by kernel_rfl) pB]; kernel_rfl
section
variable{prog:Program}{w:World}{A:Around}{E:Value→Shared→Prop}{s:Shared}
def gz(w:World)(a:Addr)(ep:Nat)(es:Array (Int × Value)):List Value:=((if w.params.followText "set-order" then pickOrder (w.params.setOrder a ep) es else es).toList.map (·.2))
def du(w:World)(t:SetTable)(i:Nat):Nat:=if w.params.followText "set-order" then 0 else if i=0 then 0 else t.place.getD (i - 1) 0+1
theorem jM(a:Addr)(ep:Nat)(es:Array (Int × Value)):(gz w a ep es).Perm (es.toList.map (·.2)):=by
 unfold gz;split
 ·exact(nP _ _).map _
 ·exact .rfl
theorem nG{a:Addr}{o:Obj}{es:Array (Int × Value)}{ep:Nat}{t:SetTable}{i:Nat}{Q:Option (Value × Nat)→Shared→Prop}(ho:s.heap.get? a=some o)(hd:o.data = .set es ep t)(hf:t.fits es.size=true)(hg:bj (aR w) t)(hi:i≤es.size)
  (hn:w.params.followText "set-order" = true∨(!t.plain&&decide (es.size>1))=false) (h:Q (((gz w a ep es)[i]?).map fun x=>(x,du w t (i+1))) s):wpAny (model prog w) A (setNext a (du w t i) i ep) Q E s:=by
 have hps:t.place.size=es.size:=by
  unfold SetTable.fits at hf;simp only[Bool.and_eq_true,beq_iff_eq]at hf
  exact hf.1
 unfold setNext;refine wpAny_bind (wpAny_setState_of ho hd hf ?_)
 refine wpAny_bind ?_
 unfold setsByText;refine wpAny_bind (wpAny_askSetting (wpAny_pure ?_))
 show wpAny _ _ (if w.params.followText "set-order" = true then _ else _) _ _ _
 unfold gz du at h;unfold du
 cases hb:w.params.followText "set-order" with
 | true=>
  rw[hb]at h
  simp only[if_true]at h ⊢
  rw[if_neg (by simp)]
  refine wpAny_bind ?_
  unfold setWalk;refine wpAny_bind (wpAny_setState_of ho hd hf ?_)
  refine wpAny_bind ?_
  unfold setsByText;refine wpAny_bind (wpAny_askSetting (wpAny_pure ?_))
  show wpAny _ _ (if w.params.followText "set-order" = true then _ else _) _ _ _
  rw[if_pos hb];refine wpAny_bind (wpAny_askSetting (wpAny_pure ?_))
  refine wpAny_pure ?_
  rw[List.getElem?_map,Option.map_map,Array.getElem?_toList]at h
  exact h
 | false=>
  rw[hb]at h
  simp only[Bool.false_eq_true,if_false]at h ⊢
  have hled:t.led=true:=by rw[hg.led]; unfold aR; rw[hb]; rfl
  refine wpAny_ite_split (fun hab=>?_) (fun _=>?_)
  ·rcases hn with z | z
   ·rw[hb]at z; cases z
   ·exact absurd (z.symm.trans hab) (by decide)
  refine wpAny_bind ?_
  show wpAny _ _ (if (!t.led && !es.isEmpty)=true then unsupported "set:maker-not-led" else pure ()) _ _ _
  rw[if_neg (by rw[hled]; simp)]
  refine wpAny_pure (wpAny_pure ?_)
  have hbel:SetTable.below t.place (if i=0 then 0 else t.place.getD (i - 1) 0+1)=i:=by
   by_cases h0:i=0
   ·rw[if_pos h0,sZ hg.rise,h0]
   ·have hi1:i - 1<t.place.size:=by omega
    rw[if_neg h0,show t.place.getD (i - 1) 0=t.place[i - 1] by simp[Array.getD,hi1],tD hg.rise hi1]
    omega
  rw[hbel];rw[List.getElem?_map,Array.getElem?_toList,if_neg (by omega),Nat.add_sub_cancel]at h
  by_cases hlt:i<es.size
  ·have hlp:i<t.place.size:=by omega
   rw[Array.getElem?_eq_getElem hlt,Array.getElem?_eq_getElem hlp];rw[Array.getElem?_eq_getElem hlt,show t.place.getD i 0=t.place[i] by simp[Array.getD,hlp]]at h
   exact h
  ·rw[Array.getElem?_eq_none (by omega)]
   rw[Array.getElem?_eq_none (by omega)]at h
   exact h
end
end L2
namespace L2
open PySem PySem.Spec PyProof.Rows PySem.SeqAt
section
variable{prog:Program}{w:World}{A:Around}{E:Value→Shared→Prop}{s:Shared}
def IsSI(h:Heap)(it:Addr)(first:Value)(i:Nat)(a:Addr)(n ep:Nat):Prop:=∃ o,h.get? it=some o∧o.cls = .type "set_iterator" ∧ o.data = .fields #[first,.int i 0,.ref a,.int n 0,.int ep 0]
theorem IsSI.typeIs{it a:Addr}{first:Value}{i n ep:Nat}(x:IsSI s.heap it first i a n ep):s.TypeIs (.ref it) "set_iterator" := let ⟨o,ho,hc,_⟩:=x; ⟨o,ho,hc⟩
theorem zA{it a:Addr}{o:Obj}{es:Array (Int × Value)}{ep:Nat}{t:SetTable}{i:Nat}{v:Value}{Q:Option Value→Shared→Prop}(hit:IsSI s.heap it (.int (du w t i) 0) i a es.size ep)(ho:s.heap.get? a=some o)(hd:o.data = .set es ep t)(hf:t.fits es.size=true)(hg:bj (aR w) t)
  (hn:w.params.followText "set-order" = true∨(!t.plain&&decide (es.size>1))=false) (hi:i<es.size) (hv:(gz w a ep es)[i]? = some v)
  (hQ:∀ h',IsSI h' it (.int (du w t (i+1)) 0) (i+1) a es.size ep→Heap.SameBut it s.heap h'→Q (some v) { s with heap:=h' }):wpAny (model prog w) A (pyNext (.ref it)) Q E s:=by
 obtain⟨oi,hoi,hci,hdi⟩:=id hit
 unfold pyNext;refine wpAny_bind (wpAny_attempt (wpAny_callSpecial?_slot (name:=Str.ofString "__next__") hit.typeIs slot_si_next (wpAny_call_entry slot_si_next hit.typeIs eE ?_ (fg _))))
 unfold Builtin.«set_iterator.__next__»
 refine wpAny_bind (wpAny_pure ?_)
 refine wpAny_bind (wpAny_fieldsOf hoi hdi ?_)
 dsimp only
 refine wpAny_bind (wpAny_setEntries_of ho hd hf ?_)
 rw[if_neg (by simp)]
 simp only[Int.toNat_natCast]
 refine wpAny_bind (nG ho hd hf hg (by omega) hn ?_)
 rw[hv];show wpAny _ _ (setField (.ref it) 0 (rawInt (du w t (i+1):Nat)) >>= fun _=>setField (.ref it) 1 (rawInt ((i:Int)+1)) >>= fun _=>ret v) _ _ _
 refine wpAny_bind (wpAny_setField hoi hdi (by simp) ?_)
 have hdi1:=Obj.data_mapFields hdi (fun xs=>xs.setIfInBounds 0 (rawInt (du w t (i+1):Nat)))
 have hoi1:=Heap.get?_update_self (Obj.mapFields (fun xs=>xs.setIfInBounds 0 (rawInt (du w t (i+1):Nat)))) hoi (Obj.isFreed_of_fields hdi1)
 refine wpAny_bind (wpAny_setField hoi1 hdi1 (by simp) ?_)
 have hdi2:=Obj.data_mapFields hdi1 (fun xs=>xs.setIfInBounds 1 (rawInt ((i:Int)+1)))
 have hoi2:=Heap.get?_update_self (Obj.mapFields (fun xs=>xs.setIfInBounds 1 (rawInt ((i:Int)+1)))) hoi1 (Obj.isFreed_of_fields hdi2)
 refine wpAny_pure ⟨_,rfl,wpAny_pure (hQ _ ⟨_,hoi2,?_,?_⟩ ((Heap.SameBut.update ..).trans (Heap.SameBut.update ..)))⟩
 ·rw[Obj.cls_mapFields,Obj.cls_mapFields]; exact hci
 ·rw[hdi2]; simp[rawInt]
theorem AI{it a:Addr}{o:Obj}{es:Array (Int × Value)}{ep:Nat}{t:SetTable}{Q:Option Value→Shared→Prop}(hh:A.handled=none)(hit:IsSI s.heap it (.int (du w t es.size) 0) es.size a es.size ep)(ho:s.heap.get? a=some o)(hd:o.data = .set es ep t)(hf:t.fits es.size=true)(hg:bj (aR w) t)
  (hn:w.params.followText "set-order" = true∨(!t.plain&&decide (es.size>1))=false)
  (hQ:∀ h',Heap.ExtBut it s.heap h'→Q none { s with heap:=h' }):wpAny (model prog w) A (pyNext (.ref it)) Q E s:=by
 obtain⟨oi,hoi,hci,hdi⟩:=id hit
 have hv:(gz w a ep es)[es.size]? = none:=List.getElem?_eq_none (by rw[(jM (w:=w) a ep es).length_eq]; simp)
 unfold pyNext;refine wpAny_bind (wpAny_attempt (wpAny_callSpecial?_slot (name:=Str.ofString "__next__") hit.typeIs slot_si_next (wpAny_call_entry slot_si_next hit.typeIs eE ?_ (fg _))))
 unfold Builtin.«set_iterator.__next__»
 refine wpAny_bind (wpAny_pure ?_)
 refine wpAny_bind (wpAny_fieldsOf hoi hdi ?_)
 dsimp only
 refine wpAny_bind (wpAny_setEntries_of ho hd hf ?_)
 rw[if_neg (by simp)]
 simp only[Int.toNat_natCast]
 refine wpAny_bind (nG ho hd hf hg (Nat.le_refl _) hn ?_)
 rw[hv];show wpAny _ _ (setField (.ref it) 2 .none >>= fun _=>newExc (.type "StopIteration") [] >>= fun e=>raiseNew e) _ _ _
 refine wpAny_bind (wpAny_setField hoi hdi (by simp) ?_)
 refine wpAny_bind ?_
 simp only[newExc,newTuple]
 refine wpAny_bind (wpAny_newObj_type ?_ (by size_fits))
 refine wpAny_bind (m:=firstArgMember _ _) (wpAny_of_eq (a:=Value.none) (by first | rfl | (simp only[firstArgMember]; rfl)) ?_)
 refine wpAny_newObj_type ?_ (by size_fits)
 simp only[raiseNew]
 refine wpAny_bind (wpAny_handled ?_)
 rw[show A.in1.handled=none from hh];refine wpAny_bind (wpAny_pure (wpAny_throw ?_))
 refine wpAny_bind (wpAny_isInstance (T := "StopIteration") (b:=true) ⟨_,Heap.get?_push_size _ rfl,rfl⟩ isSubtype_stop ?_)
 exact wpAny_pure (hQ _ (((Heap.SameBut.update ..).extBut.push _).push _))
end
end L2
namespace L2
open PySem PySem.Spec PyProof.Rows PySem.SeqAt
section
variable{prog:Program}{w:World}{A:Around}{E:Value→Shared→Prop}{s:Shared}
theorem sY{a:Addr}{o:Obj}{es:Array (Int × Value)}{ep:Nat}{t:SetTable}{Q:Bool→Shared→Prop}(ho:s.heap.get? a=some o)(hd:o.data = .set es ep t)(hf:t.fits es.size=true)
  (h:Q (!(w.params.followText "set-order")&&(!t.plain&&decide (es.size>1))) s):wpAny (model prog w) A (setDrawn a) Q E s:=by
 unfold setDrawn;refine wpAny_bind (wpAny_setState_of ho hd hf ?_)
 refine wpAny_bind ?_
 unfold setsByText;refine wpAny_bind (wpAny_askSetting (wpAny_pure ?_))
 exact wpAny_pure h
theorem yX{a:Addr}{o:Obj}{es:Array (Int × Value)}{ep:Nat}{t:SetTable}{Q:Value→Shared→Prop}(ho:s.heap.get? a=some o)(hx:o.ExactSet)(hd:o.data = .set es ep t)(hf:t.fits es.size=true)(hfew:es.size<scanBound)
  (h1:(!(w.params.followText "set-order")&&(!t.plain&&decide (es.size>1)))=false→Q (.ref s.heap.objs.size) { s with heap:=s.heap.push { cls:=.type "set_iterator", data:=.fields #[.int 0 0,.int 0 0,.ref a,.int es.size 0,.int ep 0] } })
  (h2:∀ (ps:List Nat) d',ps.Perm (List.range es.size)→Q (.ref (s.heap.objs.size+1)) { s with heap:=(s.heap.push { cls:=.type "tuple", data:=.seq (ps.map fun i:Nat=>rawInt i).toArray }).push { cls:=.type "set_iterator", data:=.fields #[.ref s.heap.objs.size,.int 0 0,.ref a,.int es.size 0,.int ep 0] },drawn:=d' }) :
  wpAny (model prog w) A (pyIter (.ref a)) Q E s:=by
 have hT:s.TypeIs (.ref a) "set" := ⟨o,ho,hx.1⟩
 refine wpAny_pyIter_slot hT F.slot_set_iter (wpAny_call_entry F.slot_set_iter hT mS ?_ (F.args_set_iter_1 _))
 unfold Builtin.«frozenset.__iter__»
 refine wpAny_bind (wpAny_pure ?_)
 refine wpAny_bind ?_
 unfold Builtin.Frozenset.sizeOf;refine wpAny_bind (wpAny_setEntries_of ho hd hf (wpAny_pure ?_))
 refine wpAny_bind (sY ho hd hf ?_)
 dsimp only
 refine wpAny_ite_split (fun hab=>?_) (fun hab=>?_)
 ·refine wpAny_bind (nM _ _ _ _ (by simp) fun ps d' hp=>?_)
  have hlen:ps.length=es.size:=by rw[hp.length_eq]; simp
  refine wpAny_bind ?_
  unfold newTuple;have hz:=fits_of_scanBound hfew;refine wpAny_newObj_type ?_ (by show (List.map _ ps).toArray.size≤sizeLine; simp; omega)
  refine wpAny_bind ?_
  unfold setEpoch;refine wpAny_bind (wpAny_setState_of (Heap.get?_push_of_some _ ho) hd hf (wpAny_pure ?_))
  refine wpAny_bind ?_
  unfold newFields;refine wpAny_newObj_type (wpAny_pure ⟨_,rfl, "set_iterator", _,⟨_,Heap.get?_push_size _ rfl,rfl⟩,slot_si_next.lookup,?_⟩)
  rw[Heap.size_push];exact h2 ps d' hp
 ·refine wpAny_bind (wpAny_pure ?_)
  refine wpAny_bind ?_
  unfold setEpoch;refine wpAny_bind (wpAny_setState_of ho hd hf (wpAny_pure ?_))
  refine wpAny_bind ?_
  unfold newFields;refine wpAny_newObj_type (wpAny_pure ⟨_,rfl, "set_iterator", _,⟨_,Heap.get?_push_size _ rfl,rfl⟩,slot_si_next.lookup,?_⟩)
  exact h1 (by simpa using hab)
end
end L2
namespace L2
open PySem PySem.Spec PyProof.Rows PySem.SeqAt
section
variable{prog:Program}{w:World}{A:Around}{E:Value→Shared→Prop}{s:Shared}
theorem yQ{it a tp:Addr}{o ot:Obj}{es:Array (Int × Value)}{ep ct:Nat}{t:SetTable}{i k:Nat}{ps:List Nat}{v:Value}{hh:Int}{Q:Option Value→Shared→Prop}(hit:IsSI s.heap it (.ref tp) i a es.size ep)(ho:s.heap.get? a=some o)(hd:o.data = .set es ep t)(hf:t.fits es.size=true)
  (hot:s.heap.get? tp=some ot) (hdt:ot.data = .seq (ps.map fun i:Nat=>rawInt i).toArray ct) (hk:ps[i]? = some k) (hv:es[k]? = some (hh,v))
  (hQ:∀ h',IsSI h' it (.ref tp) (i+1) a es.size ep→Heap.SameBut it s.heap h'→Q (some v) { s with heap:=h' }):wpAny (model prog w) A (pyNext (.ref it)) Q E s:=by
 obtain⟨oi,hoi,hci,hdi⟩:=id hit
 unfold pyNext;refine wpAny_bind (wpAny_attempt (wpAny_callSpecial?_slot (name:=Str.ofString "__next__") hit.typeIs slot_si_next (wpAny_call_entry slot_si_next hit.typeIs eE ?_ (fg _))))
 unfold Builtin.«set_iterator.__next__»
 refine wpAny_bind (wpAny_pure ?_)
 refine wpAny_bind (wpAny_fieldsOf hoi hdi ?_)
 dsimp only
 refine wpAny_bind (wpAny_setEntries_of ho hd hf ?_)
 rw[if_neg (by simp)]
 refine wpAny_bind (wpAny_seqItems hot hdt ?_)
 simp only[Int.toNat_natCast]
 have e1:(List.map (fun i:Nat=>rawInt (i:Int)) ps).toArray[i]? = some (.int (k:Int) 0):=by
  rw[List.getElem?_toArray,List.getElem?_map,hk]; rfl
 rw[e1]
 dsimp only
 refine wpAny_bind ?_
 unfold setNextDrawn;refine wpAny_bind (wpAny_setState_of ho hd hf ?_)
 dsimp only
 simp only[Int.toNat_natCast]
 rw[if_neg (by simp)]
 rw[hv];refine wpAny_pure ?_
 refine wpAny_bind (wpAny_setField hoi hdi (by simp) ?_)
 have hdi1:=Obj.data_mapFields hdi (fun xs=>xs.setIfInBounds 1 (rawInt ((i:Int)+1)))
 have hoi1:=Heap.get?_update_self (Obj.mapFields (fun xs=>xs.setIfInBounds 1 (rawInt ((i:Int)+1)))) hoi (Obj.isFreed_of_fields hdi1)
 refine wpAny_pure ⟨_,rfl,wpAny_pure (hQ _ ⟨_,hoi1,?_,?_⟩ (Heap.SameBut.update ..))⟩
 ·rw[Obj.cls_mapFields]; exact hci
 ·rw[hdi1]; simp[rawInt]
theorem BB{it a tp:Addr}{o ot:Obj}{es:Array (Int × Value)}{ep ct:Nat}{t:SetTable}{ps:List Nat}{Q:Option Value→Shared→Prop}(hh:A.handled=none)(hit:IsSI s.heap it (.ref tp) es.size a es.size ep)(ho:s.heap.get? a=some o)(hd:o.data = .set es ep t)(hf:t.fits es.size=true)
  (hot:s.heap.get? tp=some ot) (hdt:ot.data = .seq (ps.map fun i:Nat=>rawInt i).toArray ct) (hp:ps.length=es.size)
  (hQ:∀ h',Heap.ExtBut it s.heap h'→Q none { s with heap:=h' }):wpAny (model prog w) A (pyNext (.ref it)) Q E s:=by
 obtain⟨oi,hoi,hci,hdi⟩:=id hit
 unfold pyNext;refine wpAny_bind (wpAny_attempt (wpAny_callSpecial?_slot (name:=Str.ofString "__next__") hit.typeIs slot_si_next (wpAny_call_entry slot_si_next hit.typeIs eE ?_ (fg _))))
 unfold Builtin.«set_iterator.__next__»
 refine wpAny_bind (wpAny_pure ?_)
 refine wpAny_bind (wpAny_fieldsOf hoi hdi ?_)
 dsimp only
 refine wpAny_bind (wpAny_setEntries_of ho hd hf ?_)
 rw[if_neg (by simp)]
 refine wpAny_bind (wpAny_seqItems hot hdt ?_)
 simp only[Int.toNat_natCast]
 have e1:(List.map (fun i:Nat=>rawInt (i:Int)) ps).toArray[es.size]? = none:=by
  rw[List.getElem?_toArray,List.getElem?_eq_none (by simp; omega)]
 rw[e1]
 dsimp only
 refine wpAny_bind (wpAny_setField hoi hdi (by simp) ?_)
 have hdi1:=Obj.data_mapFields hdi (fun xs=>xs.setIfInBounds 0 (rawInt 0))
 have hoi1:=Heap.get?_update_self (Obj.mapFields (fun xs=>xs.setIfInBounds 0 (rawInt 0))) hoi (Obj.isFreed_of_fields hdi1)
 refine wpAny_bind (wpAny_setField hoi1 hdi1 (by simp) ?_)
 refine wpAny_bind ?_
 simp only[newExc,newTuple]
 refine wpAny_bind (wpAny_newObj_type ?_ (by size_fits))
 refine wpAny_bind (m:=firstArgMember _ _) (wpAny_of_eq (a:=Value.none) (by first | rfl | (simp only[firstArgMember]; rfl)) ?_)
 refine wpAny_newObj_type ?_ (by size_fits)
 simp only[raiseNew]
 refine wpAny_bind (wpAny_handled ?_)
 rw[show A.in1.handled=none from hh];refine wpAny_bind (wpAny_pure (wpAny_throw ?_))
 refine wpAny_bind (wpAny_isInstance (T := "StopIteration") (b:=true) ⟨_,Heap.get?_push_size _ rfl,rfl⟩ isSubtype_stop ?_)
 exact wpAny_pure (hQ _ ((((Heap.SameBut.update ..).trans (Heap.SameBut.update ..)).extBut.push _).push _))
end
end L2
namespace L2
open PySem PySem.Spec PyProof.Rows PySem.SeqAt
theorem j9:Slot "set_iterator" "__iter__" "set_iterator.__iter__" :=
 .of (owner := "set_iterator") (n := "__iter__") (by rw[typeLookup_type,builtinLookup_eq_fast]; kernel_rfl) (by decide +kernel) (by decide +kernel) (by decide +kernel)
  (by first | exact .inl (by decide +kernel) | exact .inr (by decide +kernel)) (by rw[isSubtype_type]; kernel_rfl)
theorem oD:entryFor table "set_iterator.__iter__" = some Builtin.«dict_keyiterator.__iter__»:=
 entryFor_alias (id' := "dict_keyiterator.__iter__") (by kernel_rfl) rfl (by decide +kernel) (by kernel_rfl)
theorem qD(a:Value):argsOk "set_iterator.__iter__" ⟨[a],[]⟩:=by
 unfold argsOk; rw [signature?_of (id := "set_iterator.__iter__") (n:=['_','_','r','e','t','i','_','_']) (o:=['r','o','t','a','r','e','t','i','_','t','e','s']) (by kernel_rfl) pB]; kernel_rfl
section
variable{prog:Program}{w:World}{A:Around}{E:Value→Shared→Prop}{s:Shared}
theorem rE{it a:Addr}{first:Value}{i n ep:Nat}{Q:Value→Shared→Prop}(hit:IsSI s.heap it first i a n ep)(h:Q (.ref it) s):wpAny (model prog w) A (pyIter (.ref it)) Q E s:=
 wpAny_pyIter_slot hit.typeIs j9 (wpAny_call_entry j9 hit.typeIs oD (wpAny_bind (wpAny_pure (wpAny_pure ⟨_,rfl, "set_iterator", _,hit.typeIs,slot_si_next.lookup,h⟩))) (qD _))
theorem IsSI.at'{h h':Heap}{it a:Addr}{first:Value}{i n ep:Nat}(x:IsSI h it first i a n ep)(e:∀ o,h.get? it=some o→h'.get? it=some o):IsSI h' it first i a n ep:=let ⟨o,ho,r⟩:=x; ⟨o,e _ ho,r⟩
theorem BX(hh:A.handled=none)(I a:Addr)(hne:a≠I){o:Obj}{es:Array (Int × Value)}{ep:Nat}{t:SetTable}(hd:o.data = .set es ep t)(hf:t.fits es.size=true)(hg:bj (aR w) t)(hn:w.params.followText "set-order" = true∨(!t.plain&&decide (es.size>1))=false) :
  Walks prog w A I [I,a] [I] es.size (fun i v=>(gz w a ep es)[i]? = some v) (fun i h=>IsSI h I (.int (du w t i) 0) i a es.size ep∧h.get? a=some o) where
 sub:=fun b hb=>by simp at hb; simp[hb]
 frame:=fun _ _ _ st hk=>⟨st.1.at' fun o e=>hk I (by simp) o e,hk a (by simp) o st.2⟩
 item:=fun i s Q E hi st hQ=>by
  have hl:(gz w a ep es).length=es.size:=by rw[(jM (w:=w) a ep es).length_eq]; simp
  have hv:(gz w a ep es)[i]? = some (gz w a ep es)[i]:=List.getElem?_eq_getElem (by omega)
  refine zA st.1 st.2 hd hf hg hn hi hv fun h' hit' hs'=>?_
  exact hQ _ h' s.toks hv ⟨hit',hs'.extBut a o hne st.2⟩ (fun b o hb e=>hs'.extBut b o (fun h=>hb (by simp[h])) e)
 done:=fun s Q E st hQ=>AI hh st.1 st.2 hd hf hg hn fun h' he'=>hQ h' s.toks fun b o hb e=>he' b o (fun h=>hb (by simp[h])) e
 self:=fun _ _ _ _ st hQ=>rE st.1 hQ
theorem BZ(hh:A.handled=none)(I a tp:Addr)(hne:a≠I)(hnt:tp≠I){o ot:Obj}{es:Array (Int × Value)}{ep ct:Nat}{t:SetTable}{ps:List Nat}(hd:o.data = .set es ep t)(hf:t.fits es.size=true)(hdt:ot.data = .seq (ps.map fun i:Nat=>rawInt i).toArray ct)(hp:ps.Perm (List.range es.size)) :
  Walks prog w A I [I,a,tp] [I] es.size (fun i v=>(ps.map fun k=>(es.getD k (0,.none)).2)[i]? = some v) (fun i h=>IsSI h I (.ref tp) i a es.size ep∧h.get? a=some o∧h.get? tp=some ot) where
 sub:=fun b hb=>by simp at hb; simp[hb]
 frame:=fun _ _ _ st hk=>⟨st.1.at' fun o e=>hk I (by simp) o e,hk a (by simp) o st.2.1,hk tp (by simp) ot st.2.2⟩
 item:=fun i s Q E hi st hQ=>by
  have hl:ps.length=es.size:=by rw[hp.length_eq]; simp
  have hk:ps[i]? = some (ps[i]'(by omega)):=List.getElem?_eq_getElem (by omega)
  have hlt:ps[i]'(by omega)<es.size:=List.mem_range.mp (hp.mem_iff.mp (List.getElem_mem _))
  have hv:(ps.map fun k=>(es.getD k (0,.none)).2)[i]? = some (es[ps[i]'(by omega)]'hlt).2:=by
   rw[List.getElem?_map,hk];simp[Array.getD,hlt]
  refine yQ st.1 st.2.1 hd hf st.2.2 hdt hk (hh:=(es[ps[i]'(by omega)]'hlt).1) (v:=(es[ps[i]'(by omega)]'hlt).2) (Array.getElem?_eq_getElem hlt) fun h' hit' hs'=>?_
  exact hQ _ h' s.toks hv ⟨hit',hs'.extBut a o hne st.2.1,hs'.extBut tp ot hnt st.2.2⟩ (fun b o hb e=>hs'.extBut b o (fun h=>hb (by simp[h])) e)
 done:=fun s Q E st hQ=>BB hh st.1 st.2.1 hd hf st.2.2 hdt (by rw[hp.length_eq]; simp) fun h' he'=>hQ h' s.toks fun b o hb e=>he' b o (fun h=>hb (by simp[h])) e
 self:=fun _ _ _ _ st hQ=>rE st.1 hQ
end
end L2
namespace L2
open PySem PySem.Spec PyProof.Rows PySem.SeqAt
section
variable{prog:Program}{w:World}{A:Around}{E:Value→Shared→Prop}{s:Shared}
theorem pJ{a:Addr}{Q:Bool→Shared→Prop}(hT:s.TypeIs (.ref a) "set") (h:Q false s):wpAny (model prog w) A (Builtin.List.listLengthHint (.ref a)) Q E s:=by
 unfold Builtin.List.listLengthHint;refine wpAny_bind (wpAny_specialOf hT F.slot_set_len.lookup ?_)
 generalize hid:("set.__len__" : String)=id0
 wp_delta
 rw[show splitId id0=some ("set", "__len__") from by subst hid; decide +kernel]
 subst hid;refine wpAny_bind (wpAny_isInstance (T := "set") (b:=true) hT (by rw[isSubtype_type]; kernel_rfl) ?_)
 refine wpAny_ite_split (fun hab=>absurd hab (by decide)) (fun _=>?_)
 refine wpAny_ite_split (fun _=>?_) (fun hab=>absurd (by decide +kernel) hab)
 refine wpAny_bind (wpAny_typeOf hT ?_)
 exact wpAny_pure h
theorem xL{l:List Value}{acc:Array Value}(h:ItemsOf (fun i v=>l[i]? = some v) acc l.length):acc.toList=l:=by
 refine List.ext_getElem? fun i=>?_
 rw[Array.getElem?_toList]
 cases e:acc[i]? with
 | some v=>exact(h.2 i v e).symm
 | none=>
  have:acc.size≤i:=by simpa using e
  exact(List.getElem?_eq_none (by have:=h.1; omega)).symm
theorem qX{es:Array (Int × Value)}{ps:List Nat}(hp:ps.Perm (List.range es.size)):(ps.map fun k=>(es.getD k (0,.none)).2).Perm (es.toList.map (·.2)):=by
 refine(hp.map _).trans ?_
 refine List.Perm.of_eq ?_
 refine List.ext_getElem (by simp) fun i h1 h2=>?_
 have hi:i<es.size:=by simpa using h1
 simp[Array.getD,hi]
theorem tX{R:Result→Shared→Prop}{a:Addr}{o:Obj}{es:Array (Int × Value)}{ep:Nat}{t:SetTable}(hh:A.handled=none)(ho:s.heap.get? a=some o)(hx:o.ExactSet)(hd:o.data = .set es ep t)(hf:t.fits es.size=true)(hfew:es.size<scanBound)(hg:bj (aR w) t)
  (S:Addr) (res:Value) (c₀ : Nat) (hS:s.heap.get? S=some { cls:=.type "list", data:=.seq #[] c₀ })
  (hR:∀ h' d' tk acc' c',(∀ b o,b≠S→s.heap.get? b=some o→h'.get? b=some o)→h'.get? S=some { cls:=.type "list", dict:=none,data:=.seq acc' c',slots:=#[] }→acc'.toList.Perm (es.toList.map (·.2))→R (.ok (.ret res)) { s with heap:=h',drawn:=d',toks:=tk }) :
  wpAny (model prog w) A.in1 (Builtin.List.listExtendWith (.ref S) (.ref a) res)
   (fun fin s'=>match fin with | .done f=>R (.ok f) s' | .again c'=>c'.quiet=true∧codeAny (model prog w) A c' R s') (fun e s'=>R (.error e) s') s:=by
 have hz:=fits_of_scanBound hfew;have halt:a<s.heap.objs.size:=Heap.lt_size ho
 have hSlt:S<s.heap.objs.size:=Heap.lt_size hS
 have hSa:S≠a:=fun e=>by
  rw[e,ho]at hS
  cases hS
  cases hd
 have hT:s.TypeIs (.ref a) "set" := ⟨o,ho,hx.1⟩
 have e1:Builtin.List.listSameRef (.ref S) (.ref a)=false:=by simp[Builtin.List.listSameRef,hSa]
 have key:∀ (h2:Heap) (d2:Drawn) (c tk:Nat) (I:Addr) (fp:List Addr) (l:List Value) (St:Nat→Heap→Prop),l.length=es.size→l.Perm (es.toList.map (·.2))→Walks prog w A.in1 I fp [I] es.size (fun i v=>l[i]? = some v) St→S∉fp→s.heap.objs.size≤I→
   (∀ b o,b≠S→s.heap.get? b=some o→h2.get? b=some o)→h2.get? S=some { cls:=.type "list", data:=.seq #[] c }→St 0 h2→codeAny (model prog w) A (.builtin "list.extend.loop" ⟨[.ref S,.ref I,res],[]⟩) R { s with heap:=h2,drawn:=d2,toks:=tk }:=by
  intro h2 d2 c tk I fp l St hl hp W hSf hI hk hS2 hst
  refine codeAny_extend_loopS W.toS hz S hSf res es.size 0 _ #[] c rfl (Nat.zero_le _) hst hS2 (ItemsOf.nil _) fun s' acc' c' hm hS' hacc=>?_
  rw[Moved.eq_with hm];refine hR s'.heap d2 s'.toks acc' c' (fun b o hb e=>hm.heap b o (fun hmem=>?_) (hk b o hb e)) hS' (by rw[xL (by rw[hl]; exact hacc)]; exact hp)
  rcases List.mem_cons.mp hmem with e' | hmem
  ·exact hb e'
  ·have:=Heap.lt_size e
   rw[List.mem_singleton.mp hmem]at this
   exact absurd this (Nat.not_lt.mpr hI)
 unfold Builtin.List.listExtendWith;refine wpAny_bind (wpAny_typeOf hT ?_)
 rw[if_neg (by rw[e1]; decide)]
 /- the list makes room, then the loop -/
 have touch:∀ (h2:Heap) (d2:Drawn) (I:Addr) (fp:List Addr) (l:List Value) (St:Nat→Heap→Prop),l.length=es.size→l.Perm (es.toList.map (·.2))→Walks prog w A.in1 I fp [I] es.size (fun i v=>l[i]? = some v) St→S∉fp→s.heap.objs.size≤I→
   (∀ b o,s.heap.get? b=some o→h2.get? b=some o)→St 0 h2→
   wpAny (model prog w) A.in1 (updateSeq S (·.push .none) >>= fun _=>updateSeq S (·.pop)) (fun _ s'=>codeAny (model prog w) A (.builtin "list.extend.loop" ⟨[.ref S,.ref I,res],[]⟩) R s') (fun e s'=>R (.error e) s') { s with heap:=h2,drawn:=d2 }:=by
  intro h2 d2 I fp l St hl hp W hSf hI hk hst
  have hS₁:=hk _ _ hS;refine wpAny_bind (wpAny_updateSeq hS₁ rfl ?_)
  have hS₂:=Heap.get?_update_self (Obj.mapSeq (·.push Value.none)) hS₁ rfl;refine wpAny_updateSeq (hz:=by seq_fits) hS₂ rfl ?_
  have hS₃:=Heap.get?_update_self (Obj.mapSeq (·.pop)) hS₂ rfl
  have oth:∀ b o,b≠S→h2.get? b=some o→((h2.update S (Obj.mapSeq (·.push Value.none))).update S (Obj.mapSeq (·.pop))).get? b=some o:=fun b o hb e=>
   (Heap.get?_update_other _ _ (Ne.symm hb)).trans ((Heap.get?_update_other _ _ (Ne.symm hb)).trans e)
  exact key _ d2 _ s.toks I fp l St hl hp W hSf hI (fun b o hb e=>oth b o hb (hk b o e)) hS₃ (W.frame 0 _ _ hst fun b hb o e=>oth b o (fun z=>hSf (z ▸ hb)) e)
 refine wpAny_bind (yX ho hx hd hf hfew (fun hnd=>?_) fun ps d' hp=>?_)
 ·have hTi:Shared.TypeIs { s with heap:=s.heap.push { cls:=.type "set_iterator", data:=.fields #[.int 0 0,.int 0 0,.ref a,.int es.size 0,.int ep 0] } } (.ref a) "set" := ⟨o,Heap.get?_push_of_some _ ho,hx.1⟩
  refine wpAny_bind (wpAny_holding (pJ hTi ?_))
  have hn:w.params.followText "set-order" = true∨(!t.plain&&decide (es.size>1))=false:=by
   cases hb:w.params.followText "set-order" with
   | true=>exact .inl rfl
   | false=>rw[hb]at hnd; exact .inr (by simpa using hnd)
  have hst:IsSI (s.heap.push { cls:=.type "set_iterator", data:=.fields #[.int 0 0,.int 0 0,.ref a,.int es.size 0,.int ep 0] }) s.heap.objs.size (.int (du w t 0) 0) 0 a es.size ep:=by
   refine⟨_,Heap.get?_push_size _ rfl,rfl,?_⟩
   unfold du;split <;> simp
  refine wpAny_ite_split (fun _=>?_) (fun hab=>absurd (by decide +kernel) hab)
  refine wpAny_bind (wpAny_rule ?_)
  refine wpAny_bind (wpAny_mono (touch _ s.drawn _ _ _ _ (by rw[(jM (w:=w) a ep es).length_eq]; simp) (jM a ep es) (BX (A:=A.in1) hh s.heap.objs.size a (Nat.ne_of_lt halt) hd hf hg hn) (fun hm=>?_) (Nat.le_refl _) (fun b o e=>Heap.get?_push_of_some _ e) ⟨hst,Heap.get?_push_of_some _ ho⟩) (fun _ s' hc=>wpAny_pure ⟨plainId_quiet F.plain_extend_loop _,hc⟩) (fun _ _ he=>he))
  rcases List.mem_cons.mp hm with z | z
  ·exact absurd z (Nat.ne_of_lt hSlt)
  ·exact hSa (List.mem_singleton.mp z)
 ·have hTi:Shared.TypeIs { s with heap:=(s.heap.push { cls:=.type "tuple", data:=.seq (ps.map fun i:Nat=>rawInt i).toArray }).push { cls:=.type "set_iterator", data:=.fields #[.ref s.heap.objs.size,.int 0 0,.ref a,.int es.size 0,.int ep 0] },drawn:=d' } (.ref a) "set" := ⟨o,Heap.get?_push_of_some _ (Heap.get?_push_of_some _ ho),hx.1⟩
  refine wpAny_bind (wpAny_holding (pJ hTi ?_))
  refine wpAny_ite_split (fun _=>?_) (fun hab=>absurd (by decide +kernel) hab)
  refine wpAny_bind (wpAny_rule ?_)
  have hst:IsSI ((s.heap.push { cls:=.type "tuple", data:=.seq (ps.map fun i:Nat=>rawInt i).toArray }).push { cls:=.type "set_iterator", data:=.fields #[.ref s.heap.objs.size,.int 0 0,.ref a,.int es.size 0,.int ep 0] }) (s.heap.objs.size+1) (.ref s.heap.objs.size) 0 a es.size ep:=by
   have:=Heap.get?_push_size (s.heap.push { cls:=.type "tuple", data:=.seq (ps.map fun i:Nat=>rawInt i).toArray }) (rfl:Obj.isFreed { cls:=.type "set_iterator", data:=.fields #[.ref s.heap.objs.size,.int 0 0,.ref a,.int es.size 0,.int ep 0] }=false)
   rw[Heap.size_push]at this
   exact⟨_,this,rfl,rfl⟩
  refine wpAny_bind (wpAny_mono (touch _ d' _ _ _ _ (by rw[List.length_map,hp.length_eq]; simp) (qX hp) (BZ (A:=A.in1) hh (s.heap.objs.size+1) a s.heap.objs.size (Nat.ne_of_lt (Nat.lt_succ_of_lt halt)) (Nat.ne_of_lt (Nat.lt_succ_self _)) hd hf rfl hp) (fun hm=>?_) (Nat.le_succ _) (fun b o e=>Heap.get?_push_of_some _ (Heap.get?_push_of_some _ e)) ⟨hst,Heap.get?_push_of_some _ (Heap.get?_push_of_some _ ho),Heap.get?_push_of_some _ (Heap.get?_push_size _ rfl)⟩) (fun _ s' hc=>wpAny_pure ⟨plainId_quiet F.plain_extend_loop _,hc⟩) (fun _ _ he=>he))
  rcases List.mem_cons.mp hm with z | z
  ·exact absurd z (Nat.ne_of_lt (Nat.lt_succ_of_lt hSlt))
  ·rcases List.mem_cons.mp z with z | z
   ·exact hSa z
   ·exact absurd (List.mem_singleton.mp z) (Nat.ne_of_lt hSlt)
theorem lP{a:Addr}{o:Obj}{es:Array (Int × Value)}{ep:Nat}{t:SetTable}{Q:List Value→Shared→Prop}(hh:A.handled=none)(ho:s.heap.get? a=some o)(hx:o.ExactSet)(hd:o.data = .set es ep t)(hf:t.fits es.size=true)(hfew:es.size<scanBound)(hg:bj (aR w) t)
  (hQ:∀ h' d' tk acc,(∀ b o,s.heap.get? b=some o→h'.get? b=some o)→s.heap.objs.size<h'.objs.size→acc.Perm (es.toList.map (·.2))→Q acc { s with heap:=h',drawn:=d',toks:=tk }):wpAny (model prog w) A (collect (.ref a)) Q E s:=by
 have ext:∀ R:Result→Shared→Prop,(∀ h' d' tk acc' c',(∀ b o,s.heap.get? b=some o→h'.get? b=some o)→h'.get? s.heap.objs.size=some { cls:=.type "list", dict:=none,data:=.seq acc' c',slots:=#[] }→acc'.toList.Perm (es.toList.map (·.2))→R (.ok (.ret (.ref s.heap.objs.size))) { s with heap:=h',drawn:=d',toks:=tk })→
   codeAny (model prog w) A (.builtin "proto.collect" ⟨[.ref a],[]⟩) R s:=fun R hR=>by
  refine codeAny_builtin F.entry_proto_collect ?_
  rw[Around.under_plainId F.plain_proto_collect _];show wpAny _ A.in1 (newList [] >>= fun l=>again (.builtin "list.__iadd__" ⟨[l,.ref a],[]⟩)) _ _ s
  refine wpAny_bind (wpAny_newObj_type ?_)
  refine wpAny_pure ⟨plainId_quiet F.plain_list_iadd _,codeAny_builtin F.entry_list_iadd ?_⟩
  rw[Around.under_plainId F.plain_list_iadd _];show wpAny _ A.in1 (Builtin.List.listExtendWith (.ref s.heap.objs.size) (.ref a) (.ref s.heap.objs.size)) _ _ _
  refine tX (R:=R) (s:={ s with heap:=s.heap.push { cls:=.type "list", data:=.seq ([]:List Value).toArray } }) hh (Heap.get?_push_of_some _ ho) hx hd hf hfew hg s.heap.objs.size _ 0 (Heap.get?_push_size _ rfl) fun h' d' tk acc' c' hk hS' hp=>?_
  exact hR h' d' tk acc' c' (fun b o e=>hk b o (Nat.ne_of_lt (Heap.lt_size e)) (Heap.get?_push_of_some _ e)) hS' hp
 unfold collect;refine wpAny_bind (wpAny_runValue (ext _ fun h' d' tk acc' c' hk hS' hp=>?_))
 show wpAny _ A (load s.heap.objs.size >>= _) _ _ _
 refine wpAny_bind (wpAny_load hS' ?_)
 exact wpAny_pure (hQ h' d' tk acc'.toList hk (Heap.lt_size hS') hp)
def nj(v:Value):Int:=match v with
 | .int d _=>d
 | _=>0
theorem rY:∀ (l:List Value),(∀ v∈l,∃ tk,v = .int (nj v) tk)→IntsAre l (l.map nj)
 | [],_=>.nil
 | v::l,h=>by
  obtain⟨tk,e⟩:=h v List.mem_cons_self
  have r:=rY l fun u hu=>h u (List.mem_cons_of_mem _ hu)
  rw[List.map_cons];generalize nj v=d at e ⊢;subst e;exact .cons d tk r
theorem vq{a:Addr}{o:Obj}{es:Array (Int × Value)}{ep:Nat}{t:SetTable}{Q:Value→Shared→Prop}(hh:A.handled=none)(ho:s.heap.get? a=some o)(hx:o.ExactSet)(hd:o.data = .set es ep t)(hf:t.fits es.size=true)(h64:es.size<64)(hg:bj (aR w) t)
  (hint:∀ e∈es.toList,∃ tk,e.2 = .int (jg e) tk)
  (hQ:∀ h' d' tk q out c ns',(∀ b o,s.heap.get? b=some o→h'.get? b=some o)→s.heap.objs.size≤q→h'.get? q=some (seqObj "list" out c)→IntsAre out.toList ns'→ns'.Perm (es.toList.map jg)→ns'.Pairwise (· ≤ ·)→Q (.ref q) { s with heap:=h',drawn:=d',toks:=tk }) :
  wpAny (model prog w) A (call (.builtin "sorted") [.ref a]) Q E s:=by
 refine Calls.call_function_entry kind_sorted plain_sorted entry_sorted (args_sorted1 _) ?_
 unfold Builtin.«sorted»
 refine wpAny_bind (m:=checkCount "sorted" 1 1 _) (wpAny_pure ?_)
 refine wpAny_bind (lP hh ho hx hd hf (by unfold scanBound; omega) hg fun h' d' tk acc hk hlt hp=>?_)
 have hal:acc.length=es.size:=by rw[hp.length_eq]; simp
 have hI:IntsAre acc (acc.map nj):=rY acc fun v hv=>by
  obtain⟨e,he,rfl⟩:=List.mem_map.mp (hp.mem_iff.mp hv)
  exact hint e he
 have hperm:(acc.map nj).Perm (es.toList.map jg):=by
  have:=hp.map nj
  rw[List.map_map]at this
  exact this
 refine wpAny_bind (wpAny_newList ?_ (by rw[hal,sizeLine_eq]; omega))
 have hoL:(h'.push (seqObj "list" acc.toArray 0)).get? h'.objs.size=some (seqObj "list" acc.toArray 0):=Heap.get?_push_size _ rfl
 show wpAny _ _ _ _ _ { s with heap:=h'.push (seqObj "list" acc.toArray 0),drawn:=d',toks:=tk }
 refine wpAny_bind (wpAny_holding (wpAny_call_entry slot_list_sort ⟨_,hoL,rfl⟩ entry_list_sort (list_sort_tree hoL hI (by omega) fun out ns' a1 a2 a3=>⟨_,rfl,?_⟩) (args_list_sort _)))
 obtain⟨c,hc⟩:=sortedHeap_at (out:=out) hoL
 refine wpAny_pure ⟨_,rfl,hQ _ d' tk h'.objs.size out c ns' (fun b o e=>?_) (Nat.le_of_lt hlt) hc a1 (a2.trans hperm) a3⟩
 have hb:=Heap.lt_size (hk b o e);rw[sortedHeap_old (Nat.ne_of_lt hb) (by rw[Heap.size_push]; exact Nat.lt_succ_of_lt hb)]
 exact Heap.get?_push_of_some _ (hk b o e)
end
section
variable{X:Cx}
theorem pA{m:Nat}(hr:Room m X.A):CallR X (.builtin "sorted") (qx (m8 X.w)):=by
 intro pins s σ H xs us Q I r h
 obtain⟨p,ds,rfl,e,h60,q⟩:=h
 obtain⟨u,rfl,ru⟩:=cB r
 cases ru;obtain⟨o,es,ep,t,ho,hx,hd,hfew,hf,hg,hint,hds⟩:=(show ObjOk X.prog X.w H s.heap p (m8 X.w p ds) from I.hok p _ e).1
 have hz:es.size≤60:=by rw[← hds,List.length_map,Array.length_toList]at h60; exact h60
 have hs:sizeLine=16777216:=sizeLine_eq
 refine vq hr.hd ho hx hd hf (by omega) hg hint fun h' d' tk qa out c ns' hk hq hc a1 a2 a3=>?_
 have hl:ns'.length≤60:=by rw[a2.length_eq,List.length_map,Array.length_toList]; exact hz
 have I2:=I.laid (t':=tk) (a:=qa) (o:=.lst (ns'.map V.int)) hk hq (show ObjOk X.prog X.w _ h' _ (.lst (ns'.map V.int)) from ⟨by rw[List.length_map]; omega,out.toList,c,j8 a1,by simpa using hc⟩)
 refine⟨.ref qa,_,?_,rfl,q _ ns' (I.hok.fresh hq) (by rw[← hds]; exact a2) a3⟩
 exact⟨I2.ok,I2.os,I2.bare,I2.base,I2.loc,I2.cell,I2.free,I2.freeC,I2.pin,I2.hok,I2.len⟩
theorem t7{m:Nat}(K:PySem.W.Frag)(w:World)(hr:Room m X.A)(hK:X.K=K:=by rfl)(hw:X.w=w:=by rfl):CallR X (.type "set") (yB K (m8 w)):=hw ▸ v8 hr hK
theorem oz{m:Nat}(w:World)(hr:Room m X.A)(hw:X.w=w:=by rfl):CallR X (.builtin "sorted") (qx (m8 w)):=hw ▸ pA hr
end
end L2
namespace L2
open PySem PySem.Spec PyProof PyProof.Rows
section
variable{X:Cx}
def tN(K:PySem.W.Frag):List V→Hp→VK→Prop:=fun xs H Q=>∃ (p:Addr) (ns:List Int),xs=[.ref p]∧SqL K H p (ns.map V.int)∧ns≠[]∧∀ M,M∈ns→(∀ a∈ns,a≤M)→Q (.int M) H
theorem fL{K:PySem.W.Frag}{H:Hp}{Q:VK}(p:Addr):tN K [.ref p] H Q=∃ ns:List Int,SqL K H p (ns.map V.int)∧ns≠[]∧∀ M,M∈ns→(∀ a∈ns,a≤M)→Q (.int M) H:=propext ⟨fun ⟨_,bs,e,q⟩=>by cases e; exact⟨bs,q⟩,fun ⟨bs,q⟩=>⟨p,bs,rfl,q⟩⟩
theorem sQ(hc:X.calm=true):CallR X (.builtin "max") (tN X.K):=by
 intro pins s σ H xs us Q I r h
 obtain⟨p,ns,rfl,hq,hne,q⟩:=h
 obtain⟨u,rfl,ru⟩:=cB r
 cases ru;obtain⟨its,rv,pl,hz⟩:=I.list hq
 have hi:IntsAre its ns:=mD rv
 obtain⟨xs,e⟩:=hi.allInts.items
 have hns:ns=xs.toList.map (·.1):=by
  rw[← hi.numsOf,← nums_intItems,← e]
 have hsz:0<xs.size:=by
  have h3:=List.length_pos_iff.mpr hne; rw[hns,List.length_map,Array.length_toList]at h3; exact h3
 have hl:=pl.isList;rw[e]at hl
 refine max_intList (I.ok.hd hc) hl hsz fun v h' tk hv hk=>?_
 obtain⟨t,rfl⟩:=intItems_at hv
 obtain⟨h1,h2⟩:=argBest_gt (numAt xs) (xs.size - 1)
 refine⟨.int (numAt xs (argBest (fun i j=>decide (numAt xs i>numAt xs j)) (xs.size - 1))),H,I.kept (t':=tk) hk,⟨t,rfl⟩,q _ ?_ fun a ha=>?_⟩
 ·rw[hns,numAt_eq]; exact getD_mem (by rw[List.length_map,Array.length_toList]; omega)
 ·rw[hns]at ha
  obtain⟨j,hj,rfl⟩:=mem_getD ha
  rw[List.length_map,Array.length_toList]at hj
  rw[← numAt_eq]; exact h2 j (by omega)
theorem vK(K:PySem.W.Frag)(hK:X.K=K:=by rfl)(hc:X.calm=true:=by rfl):CallR X (.builtin "max") (tN K):=hK ▸ sQ hc
theorem An:bootBuiltins "max" = some (.builtin "max"):=by decide +kernel
end
end L2
namespace L2
open PySem PySem.Spec PyProof PyProof.Rows
section
variable{X:Cx}{pins:List (Addr × Obj)}{σ : St}{H:Hp}{s:Shared}{d:Addr}{kvs:List (Str × V)}
end
section
variable{X:Cx}
end
end L2
namespace L2
open PySem PySem.Spec PyProof PyProof.Rows
section
variable{prog:Program}{w:World}{A:Around}{E:Value→Shared→Prop}{s:Shared}
variable{z TI TO i1 i2 t1 t2:Addr}{xs ys:Array Value}{k1 k2:Nat}{a b:Value}
end
end L2
namespace L2
open PySem PySem.Spec PyProof PyProof.Rows
section
variable{prog:Program}{w:World}{A:Around}{E:Value→Shared→Prop}{s:Shared}{z TI TO i1 i2 t1 t2:Addr}{xs ys:Array Value}{k1 k2:Nat}{a b:Value}
end
end L2
namespace L2
open PySem PySem.Spec PyProof PyProof.Rows
end L2
namespace L2
open PySem PySem.Spec PyProof PyProof.Rows
section
variable{prog:Program}{w:World}{A:Around}{E:Value→Shared→Prop}{s:Shared}
end
section
variable{X:Cx}
theorem yS(xs:List V)(k:Nat):jG xs none (some (k:Int))=xs.take k:=by
 unfold jG;rw[HT.sIx_none,HT.sIx_nat,List.drop_zero,Nat.sub_zero];exact List.take_eq_take_min.symm
end
section
variable{K:PySem.W.Frag}{a b:Addr}{xs ys:List V}{g:TG}{te:TE}{nT:Nat}{σ : St}{D:Addr}{Q:VK}{H:Hp}
end
theorem kZ{α : Type}{x:α}{xs:List α}:dL (x::xs) 0=some x:=aL (j:=0) rfl
end L2
namespace L2
open PySem PySem.Spec PyProof PyProof.Rows
section
variable{X:Cx}
end
end L2
namespace L2
open PySem PySem.Spec PyProof PyProof.Rows
section
variable{K:PySem.W.Frag}{a:Addr}{xs:List V}{g:TG}{σ : St}{H:Hp}
end
end L2
namespace L2
open PySem PySem.Spec PyProof PyProof.Rows
section
variable{X:Cx}
end
end L2
namespace L2
open PySem PySem.Spec PyProof PyProof.Rows PySem.SeqAt
section
variable{X:Cx}
end
end L2
namespace L2
open PySem PySem.Spec PyProof.Rows PySem.SeqAt
section
variable{P:Program}{w:World}{K:PySem.W.Frag}{mg:Str→Option Value}{base:Heap}
end
section
variable{X:Cx}{o e value:Expr}{es:List Expr}{f m:Str}{pos pos' apos p:Pos}{ta tv:TE}{t:TA}{C:Addr}{x:Str}{ps:List Str}{sp:Sp}{j k:Nat}
end
section
variable{C:Addr}{f m:Str}{sp:Sp}{ta tv:TE}{t:TA}{σ : St}{H:Hp}{Q:VK}
end
theorem AC{f:Str}:List.lookup f ([]:List (Str × V))=none:=rfl
theorem wg{f:Str}{v:V}:As f v []=[(f,v)]:=rfl
end L2
namespace L2
open PySem PySem.Spec PyProof.Rows PySem.SeqAt
section
variable{X:Cx}
end
end L2
namespace L2
open PySem PySem.Spec PyProof.Rows
section
variable{X:Cx}{tg e:Expr}
end
end L2
namespace L2
open PySem PySem.Spec PyProof.Rows PySem.SeqAt
def jW(l:List Str)(x:Str):List Str:=if l.any (· == x)=true then l else l++[x]
def gD(val:Nat→Str)(i:Nat):List Str:=((List.range i).map val).foldl jW []
theorem oX(val:Nat→Str):gD val 0=[]:=rfl
theorem jX(val:Nat→Str)(i:Nat):gD val (i+1)=jW (gD val i) (val i):=by
 unfold gD; rw[List.range_succ,List.map_append,List.foldl_append]; rfl
theorem kN(val:Nat→Str):∀ i,(gD val i).length≤i
 | 0=>by rw[oX]; exact Nat.le_refl _
 | i+1=>by
  rw[jX]; unfold jW
  have ih:=kN val i;split
  ·omega
  ·rw[List.length_append,List.length_singleton]; omega
theorem nK(l:List Str)(v k:Str):(jW l v).any (· == k)=(l.any (· == k)||decide (k=v)):=by
 unfold jW
 by_cases h:l.any (· == v)=true
 ·rw[if_pos h]
  by_cases e:k=v
  ·subst e; rw[h]; simp
  ·simp[e]
 ·rw[if_neg h,List.any_append]
  by_cases e:k=v
  ·subst e; simp
  ·have hb:(v == k)=false:=by simpa [beq_iff_eq] using (fun h':v=k=>e h'.symm)
   simp[hb,e]
theorem vb(l:List Str)(v:Str):(jW l v).length=if l.any (· == v) then l.length else l.length+1:=by
 unfold jW; split <;> simp
theorem mU(val:Nat→Str):∀ (i:Nat) (k:Str),(gD val i).any (· == k)=((List.range i).map val).any (· == k)
 | 0,k=>rfl
 | i+1,k=>by
  rw[jX,nK,mU val i k,List.range_succ,List.map_append,List.any_append]
  congr 1
  by_cases e:k=val i
  ·simp[e]
  ·simp[e]; exact fun h=>e h.symm
theorem rm:∀ {vs:List Value} {ss:List Str},StrsAre vs ss→∀ (i:Nat) (v:Value),vs[i]? = some v→∃ t,v = .str (ss.getD i "") t
 | _,_,.nil,i,v,h=>by simp at h
 | _,_,.cons n t hr,0,v,h=>by simp at h; exact⟨t,by rw[← h]; rfl⟩
 | _,_,.cons n t hr,i+1,v,h=>by
  simp only[List.getElem?_cons_succ]at h
  obtain⟨t',e⟩:=rm hr i v h
  exact⟨t',by rw[e]; rfl⟩
theorem mN(prog:Program)(w:World)(x:Str)(t:Tok):(strKind prog w).is x (.str x t)=true:=by
 show Value.isStrOf x (.str x t)=true
 simp[Value.isStrOf]
section
variable{prog:Program}{w:World}{A:Around}{R:Result→Shared→Prop}{I:Addr}{fp wr:List Addr}{Gm:Array GenState→Array GenState→Prop}{n:Nat}{P:Nat→Value→Prop}{St:Nat→Shared→Prop}{L:Bool}
theorem x5(W:WalksS prog w A.in1 I fp wr Gm n P St)(S:Addr)(hSf:S∉fp)(val:Nat→Str)(hval:∀ i v,P i v→∃ t,v = .str (val i) t)(hb:n+1<scanBound) :
  ∀ (k i:Nat) (s:Shared),n - i=k→i≤n→St i s→SetG (strKind prog w) (bj L) s.heap S (fun k'=>(gD val i).any (· == k')) (gD val i).length→
   (∀ s',Moved (S::wr) Gm s s'→SetG (strKind prog w) (bj L) s'.heap S (fun k'=>(gD val n).any (· == k')) (gD val n).length→R (.ok (.ret .none)) s')→
   codeAny (model prog w) A (.builtin "set.update.loop" ⟨[.ref S,.ref I],[]⟩) R s:=by
 have hSw:S∉wr:=fun h=>hSf (W.sub _ h)
 have hsub:∀ b∈wr,b∈S::wr:=fun b hb=>List.mem_cons_of_mem _ hb
 intro k
 induction k with
 | zero=>
  intro i s hk hi hst hS hR
  have hin:i=n:=by omega
  subst hin;refine codeAny_builtin F.entry_set_update_loop ?_
  rw[Around.under_plainId F.plain_set_update_loop _];show wpAny _ A.in1 (pyNext (.ref I) >>= _) _ _ s
  refine wpAny_bind (W.done s _ _ hst fun s' hm=>?_)
  show wpAny _ A.in1 (ret Value.none) _ _ s'
  exact wpAny_pure (hR s' (hm.mono hsub) (hS.at' (fun o e=>hm.heap S _ hSw e) (fun _=>rfl) rfl))
 | succ k ih=>
  intro i s hk hi hst hS hR
  have hlt:i<n:=by omega
  refine codeAny_builtin F.entry_set_update_loop ?_
  rw[Around.under_plainId F.plain_set_update_loop _];show wpAny _ A.in1 (pyNext (.ref I) >>= _) _ _ s
  refine wpAny_bind (W.item i s _ _ hlt hst fun v s' hP hst' hm=>?_)
  obtain⟨t,rfl⟩:=hval i v hP
  have hS':=hS.at' (h':=s'.heap) (fun o e=>hm.heap S _ hSw e) (fun _=>rfl) rfl
  show wpAny _ A.in1 (holding [Value.str (val i) t] (setAdd S (.str (val i) t)) >>= _) _ _ s'
  refine wpAny_bind (wpAny_holding ?_)
  unfold setAdd;refine wpAny_holding ?_
  refine wpAny_bind ((strKind prog w).pyHash (k:=val i) (mN _ _ _ _) ?_)
  have hroom:(gD val i).length+1<scanBound:=by have:=kN val i; omega
  refine xN (G:=bj L) (knd:=strKind prog w) (s:={ s' with toks:=s'.toks+1 }) (fun t es h x g=>je g es h x) (fun t es m g=>jI g es m) (fun t g=>jR g) (mN _ _ _ _) rfl hS' hroom fun h' hsb hS2=>?_
  have hSi:=hS2.at' (h':=h') (fun o e=>e) (S':=fun k'=>(gD val (i+1)).any (· == k')) (m':=(gD val (i+1)).length) (fun k'=>by rw[jX,nK]) (by rw[jX,vb])
  refine wpAny_pure ⟨plainId_quiet F.plain_set_update_loop _,ih (i+1) _ (by omega) hlt (W.frame _ s' _ _ hst' (Nat.le_succ _) fun b hb o e=>?_) hSi fun s'' hm'' hS''=>?_⟩
  ·rw[hsb.2 b (fun h:b=S=>hSf (by rw[← h]; exact hb))]; exact e
  ·refine hR s'' (Moved.trans W.gtrans ((hm.mono hsub).then_heap (Nat.le_succ _) fun b o hb e=>?_) hm'') hS''
   rw[hsb.2 b (fun h:b=S=>hb (by rw[h]; exact List.mem_cons_self))]; exact e
end
section
variable{prog:Program}{w:World}{A:Around}{E:Value→Shared→Prop}{s:Shared}
theorem nN{l:Addr}{items:Array Value}{ns:List Str}{Q:Value→Shared→Prop}(hh:A.handled=none)(hl:s.heap.IsList l items)(hi:StrsAre items.toList ns)(hb:items.size+1<scanBound)
  (h:∀ (h':Heap) (tk:Nat),SetG (strKind prog w) (bj (aR w)) h' s.heap.objs.size (fun k'=>(gD (fun i=>ns.getD i "") items.size).any (· == k')) (gD (fun i=>ns.getD i "") items.size).length→
   (∀ b o,b<s.heap.objs.size→s.heap.get? b=some o→h'.get? b=some o)→Q (.ref s.heap.objs.size) { s with heap:=h',toks:=tk }) :
  wpAny (model prog w) A (call (.type "set") [.ref l]) Q E s:=by
 obtain⟨c,tl,hmro⟩:=F.called_set.mro
 have hmade:=F.called_set.made;have hsub:=F.called_set.sub;refine wpAny_call (codeAny_of_tree ?_)
 show wpAny _ _ (callAny (.type "set") _) _ _ _
 refine wpAny_pure ⟨Code.quiet_builtin _ (by decide +kernel),codeAny_builtin F.entry_type_call ?_⟩
 rw[Around.under_plain (weight_type_call_type "set" [.ref l] []) rfl];have h1:=F.called_set.notType;have h2:=F.called_set.canCreate;have hct:=F.typeCall_set_1 (.ref l)
 repeat (any_goals (first | assumption | wp_step))
 refine codeAny_mono (qh (.ref l) (E:=E) (Q₁:=fun obj s₁=>obj = .ref s.heap.objs.size∧s₁={ s with heap:=s.heap.push { cls:=.type "set", dict:=none,data:=.set #[] 0 (.fresh 0 0 (aR w)) } }) ⟨rfl,rfl⟩) fun r s₁ hr=>?_
 cases r with
 | error e=>exact hr
 | ok fl=>
  cases fl with
  | ret obj=>
   obtain⟨rfl,rfl⟩:=hr
   have hS:(s.heap.push { cls:=.type "set", dict:=none,data:=.set #[] 0 (.fresh 0 0 (aR w)) }).get? s.heap.objs.size=some { cls:=.type "set", dict:=none,data:=.set #[] 0 (.fresh 0 0 (aR w)) }:=Heap.get?_push_size _ rfl
   have hT:Shared.TypeIs { s with heap:=s.heap.push { cls:=.type "set", dict:=none,data:=.set #[] 0 (.fresh 0 0 (aR w)) } } (.ref s.heap.objs.size) "set" := ⟨_,hS,rfl⟩
   have hli:=F.called_set.init.lookup;have hbi:=F.called_set.init.bind (.ref s.heap.objs.size)
   repeat (any_goals (first | assumption | wp_step))
   refine codeAny_mono (codeAny_call_builtin (R:=wants (fun r s₂=>r = .none∧∃ h' tk,s₂={ s with heap:=h',toks:=tk }∧
     SetG (strKind prog w) (bj (aR w)) h' s.heap.objs.size (fun k'=>(gD (fun i=>ns.getD i "") items.size).any (· == k')) (gD (fun i=>ns.getD i "") items.size).length∧
     (∀ b o,b<s.heap.objs.size→s.heap.get? b=some o→h'.get? b=some o)) E) F.called_set.init.plain F.entry_set_init (check_set_init_1 hT ?_)) fun r₂ s₂ hr₂=>?_
   ·obtain⟨ol,hol,hcl,nl,hdl⟩:=hl
    obtain⟨ocls,odict,odata,oslots⟩:=ol
    simp only at hcl hdl
    subst hcl; subst hdl
    have hol':(s.heap.push { cls:=.type "set", dict:=none,data:=.set #[] 0 (.fresh 0 0 (aR w)) }).get? l=some { cls:=.type "list", dict:=odict,data:=.seq items nl,slots:=oslots }:=Heap.get?_push_of_some _ hol
    have hsls:=F.sub_list_set;have hslf:=F.sub_list_frozenset;have hne:(Value.type "list" == Value.type "dict")=false:=by decide
    have hl1:(s.heap.push { cls:=.type "set", dict:=none,data:=.set #[] 0 (.fresh 0 0 (aR w)) }).IsList l items:=⟨_,hol',rfl,nl,rfl⟩
    unfold Builtin.«set.__init__» noKeywords Builtin.Frozenset.updateFrom
    generalize hPI:pyIter=PI
    wp_walk
    subst hPI;refine wpAny_pyIter_list hl1 ?_
    refine wpAny_bind (wpAny_runValue ?_)
    have hlS:l<s.heap.objs.size:=Heap.lt_size hol
    have hh3:A.in1.in1.in1.handled=none:=by simp[hh]
    have hneI:l≠(s.heap.push { cls:=.type "set", dict:=none,data:=.set #[] 0 (.fresh 0 0 (aR w)) }).objs.size:=by
     rw[Heap.size_push]; exact Nat.ne_of_lt (Nat.lt_succ_of_lt hlS)
    have hSf:s.heap.objs.size∉[(s.heap.push { cls:=.type "set", dict:=none,data:=.set #[] 0 (.fresh 0 0 (aR w)) }).objs.size,l]:=by
     rw[Heap.size_push]; simp only[List.mem_cons,List.mem_singleton,List.not_mem_nil,or_false,not_or]
     exact⟨Nat.ne_of_lt (Nat.lt_succ_self _),Nat.ne_of_gt hlS⟩
    have hval:∀ (i:Nat) (v:Value),items[i]? = some v→∃ t,v = .str ((fun i=>ns.getD i "") i) t:=fun i v hv=>rm hi i v (by rw[Array.getElem?_toList]; exact hv)
    refine x5 (L:=aR w) ((Walks.list hh3 _ l hneI items).toS) s.heap.objs.size hSf (fun i=>ns.getD i "") hval hb (items.size - 0) 0 _ (by omega) (Nat.zero_le _) ⟨⟨_,Heap.get?_push_size _ rfl,rfl,rfl⟩,(hl1.push _)⟩ ?hS0 ?hR
    case hS0=>
     refine⟨{ cls:=.type "set", dict:=none,data:=.set #[] 0 (.fresh 0 0 (aR w)) },#[],0,.fresh 0 0 (aR w),Heap.get?_push_of_some _ hS,?_⟩
     exact⟨⟨rfl,rfl,rfl⟩,rfl,fun e he=>by simp at he,fun k=>by simp[oX],by decide,rfl,rfl,⟨rfl,fun a b ha=>absurd ha (Nat.not_lt_zero _)⟩,List.Pairwise.nil⟩
    case hR=>
     intro s' hm hS'
     obtain⟨h',g',d',tk',os'⟩:=s'
     have eg:g'=s.gens:=hm.gens
     have ed:d'=s.drawn:=hm.drawn
     have eo:os'=s.os:=hm.os
     subst eg; subst ed; subst eo
     show wpAny _ _ _ _ _ _
     refine wpAny_pure ?_
     show wpAny _ _ (ret Value.none) _ _ _
     refine wpAny_pure ⟨rfl,h',tk',rfl,hS',fun b o hb e=>?_⟩
     have hb1:b≠s.heap.objs.size:=Nat.ne_of_lt hb
     have hb2:b≠(s.heap.push { cls:=.type "set", dict:=none,data:=.set #[] 0 (.fresh 0 0 (aR w)) }).objs.size:=by
      rw[Heap.size_push]; exact Nat.ne_of_lt (Nat.lt_succ_of_lt hb)
     exact hm.heap b o (by simp only[List.mem_cons,List.mem_singleton,List.not_mem_nil,or_false,not_or]; exact⟨hb1,hb2⟩) (Heap.get?_push_of_some _ (Heap.get?_push_of_some _ e))
   ·cases r₂ with
    | error e=>exact hr₂
    | ok fl₂=>
     cases fl₂ with
     | ret r=>
      obtain⟨rfl,h',tk,rfl,hS',hk'⟩:=hr₂
      repeat (any_goals (first | assumption | wp_step))
      exact h _ _ hS' hk'
     | _=>exact hr₂.elim
  | _=>exact hr.elim
end
def ye(K:PySem.W.Frag)(SO:Addr→List Str→HO):List V→Hp→VK→Prop:=fun xs H Q=>∃ p,∃ ns:List Str,xs=[.ref p]∧SqL K H p (ns.map V.str)∧ns.length≤60∧∀ (l:Addr) (ds:List Str),H l=none→ds.Nodup→(∀ x,x∈ds ↔ x∈ns)→ds.length≤ns.length→Q (.ref l) (upd H l (SO l ds))
def i9(SO:Addr→List Str→HO):List V→Hp→VK→Prop:=fun xs H Q=>∃ p,∃ ds:List Str,xs=[.ref p]∧H p=some (SO p ds)∧ds.length≤60∧∀ (l:Addr) (ts:List Str),H l=none→ts.Perm ds→sortedS ts=true→Q (.ref l) (upd H l (.lst (ts.map V.str)))
def jd(e:Int × Value):Str:=match e.2 with
 | .str d _=>d
 | _ => ""
def CK(w:World)(h:Heap)(a:Addr)(ds:List Str):Prop:=∃ o es ep t,h.get? a=some o∧o.ExactSet∧o.data = .set es ep t∧es.size<scanBound∧t.fits es.size=true∧bj (aR w) t∧(∀ e∈es.toList,∃ tk,e.2 = .str (jd e) tk)∧es.toList.map jd=ds
def gS(w:World)(a:Addr)(ds:List Str):HO:=.ext fun h=>CK w h a ds
theorem mB{prog:Program}{w:World}{h:Heap}{a:Addr}{S:Str→Bool}{n:Nat}(x:SetG (strKind prog w) (bj (aR w)) h a S n):∃ ds,CK w h a ds∧ds.Nodup∧(∀ k,k∈ds ↔ S k=true)∧ds.length=n:=by
 obtain⟨o,es,ep,t,ho,T⟩:=x
 have hk:∀ e∈es.toList,∃ tk,e.2 = .str (jd e) tk:=fun e he=>by
  obtain⟨⟨k,hk,_⟩,_⟩:=T.el e he
  obtain⟨tk,e2⟩:=Value.isStrOf_shape hk
  exact⟨tk,by unfold jd; rw[e2]⟩
 have his:∀ e∈es.toList,∀ k,(strKind prog w).is k e.2=true ↔ k=jd e:=fun e he k=>by
  obtain⟨tk,e2⟩:=hk e he
  constructor
  ·intro z
   obtain⟨tk',e3⟩:=Value.isStrOf_shape z
   rw[e3]at e2
   cases e2; rfl
  ·rintro rfl; rw[e2]; exact mN _ _ _ _
 refine⟨es.toList.map jd,⟨o,es,ep,t,ho,T.ex,T.dat,T.few,T.fit,T.good,hk,rfl⟩,?_,fun k=>?_,by rw[List.length_map,Array.length_toList]; exact T.num⟩
 ·refine List.pairwise_map.mpr (List.Pairwise.imp_of_mem (fun {x y} hx hy hab e=>?_) T.apart)
  have h1:=hab (jd x) ((his x hx _).mpr rfl);rw[(his y hy _).mpr e]at h1; cases h1
 ·rw[T.mem,List.mem_map]
  constructor
  ·rintro⟨e,he,rfl⟩; exact⟨e,he,(his e he _).mpr rfl⟩
  ·rintro⟨e,he,z⟩; exact⟨e,he,((his e he _).mp z).symm⟩
section
variable{X:Cx}
theorem t5{m:Nat}(hr:Room m X.A){K:PySem.W.Frag}(hK:X.K=K):CallR X (.type "set") (ye K (gS X.w)):=by
 subst hK;intro pins s σ H xs us Q I r h
 obtain⟨p,ns,rfl,hq,h60,q⟩:=h
 obtain⟨u,rfl,ru⟩:=cB r
 cases ru;obtain⟨its,rv,pl,hz⟩:=I.list hq
 have hlen:its.length=ns.length:=by rw[← rv.length,List.length_map]
 refine nN (ns:=ns) hr.hd pl.isList (by simpa using i4 rv) (by simp only[List.size_toArray]; unfold scanBound; omega) fun h' tk hS hk=>?_
 obtain⟨ds,hg,hnd,hmem,hdl⟩:=mB hS
 obtain⟨o,es,ep,t,ho,hrest⟩:=id hg
 refine⟨.ref s.heap.objs.size,_,I.laid (fun b o e=>hk b o (Heap.lt_size e) e) (Nat.le_refl _) (show ObjOk X.prog X.w _ h' _ (gS X.w s.heap.objs.size ds) from ⟨hg,⟨o,ho⟩,fun h1 h2 g k=>?_⟩),rfl,q _ ds (I.hok.fresh (Nat.le_refl _)) hnd (fun x=>?_) ?_⟩
 ·obtain⟨o,es,ep,t,ho,rest⟩:=g
  exact⟨o,es,ep,t,k o ho,rest⟩
 ·rw[hmem,mU]
  simp only[List.size_toArray,List.any_map,List.any_eq_true,List.mem_range]
  constructor
  ·rintro⟨i,hi,e⟩
   have e':ns.getD i "" = x:=by simpa using e
   rw[← e',List.getD_eq_getElem?_getD,List.getElem?_eq_getElem (by omega)]
   exact List.getElem_mem _
  ·intro hx
   obtain⟨i,hi,e⟩:=List.mem_iff_getElem.mp hx
   exact⟨i,by omega,by simp[List.getD_eq_getElem?_getD,List.getElem?_eq_getElem hi,e]⟩
 ·rw[hdl]
  have:=kN (fun i=>ns.getD i "") its.toArray.size
  simp only[List.size_toArray]at this ⊢
  omega
end
def kC(v:Value):Str:=match v with
 | .str d _=>d
 | _ => ""
theorem rj:∀ (l:List Value),(∀ v∈l,∃ tk,v = .str (kC v) tk)→StrsAre l (l.map kC)
 | [],_=>.nil
 | v::l,h=>by
  obtain⟨tk,e⟩:=h v List.mem_cons_self
  have r:=rj l fun u hu=>h u (List.mem_cons_of_mem _ hu)
  rw[List.map_cons];generalize kC v=d at e ⊢;subst e;exact .cons d tk r
section
variable{prog:Program}{w:World}{A:Around}{E:Value→Shared→Prop}{s:Shared}
theorem lS{a:Addr}{o:Obj}{es:Array (Int × Value)}{ep:Nat}{t:SetTable}{Q:Value→Shared→Prop}(hh:A.handled=none)(ho:s.heap.get? a=some o)(hx:o.ExactSet)(hd:o.data = .set es ep t)(hf:t.fits es.size=true)(h64:es.size<64)(hg:bj (aR w) t)
  (hint:∀ e∈es.toList,∃ tk,e.2 = .str (jd e) tk)
  (hQ:∀ h' d' tk q out c ns',(∀ b o,s.heap.get? b=some o→h'.get? b=some o)→s.heap.objs.size≤q→h'.get? q=some (seqObj "list" out c)→StrsAre out.toList ns'→ns'.Perm (es.toList.map jd)→sortedS ns'=true→Q (.ref q) { s with heap:=h',drawn:=d',toks:=tk }) :
  wpAny (model prog w) A (call (.builtin "sorted") [.ref a]) Q E s:=by
 refine Calls.call_function_entry kind_sorted plain_sorted entry_sorted (args_sorted1 _) ?_
 unfold Builtin.«sorted»
 refine wpAny_bind (m:=checkCount "sorted" 1 1 _) (wpAny_pure ?_)
 refine wpAny_bind (lP hh ho hx hd hf (by unfold scanBound; omega) hg fun h' d' tk acc hk hlt hp=>?_)
 have hal:acc.length=es.size:=by rw[hp.length_eq]; simp
 have hI:StrsAre acc (acc.map kC):=rj acc fun v hv=>by
  obtain⟨e,he,rfl⟩:=List.mem_map.mp (hp.mem_iff.mp hv)
  exact hint e he
 have hperm:(acc.map kC).Perm (es.toList.map jd):=by
  have:=hp.map kC
  rw[List.map_map]at this
  exact this
 refine wpAny_bind (wpAny_newList ?_ (by rw[hal,sizeLine_eq]; omega))
 have hoL:(h'.push (seqObj "list" acc.toArray 0)).get? h'.objs.size=some (seqObj "list" acc.toArray 0):=Heap.get?_push_size _ rfl
 show wpAny _ _ _ _ _ { s with heap:=h'.push (seqObj "list" acc.toArray 0),drawn:=d',toks:=tk }
 refine wpAny_bind (wpAny_holding (wpAny_call_entry slot_list_sort ⟨_,hoL,rfl⟩ entry_list_sort (list_sort_treeK strKind_oneLt hoL hI.keysOf (fun v₁ v₂ rest e=>keyKind_strs (by rw[← e]; exact hI)) (by omega) fun st' b1 b2=>⟨_,rfl,?_⟩) (args_list_sort _)))
 obtain⟨ns',a1,a2,a3⟩:=sorted_out_str hI b1 b2
 generalize (arrOf st').map (·.2)=out at a1 ⊢;obtain⟨c,hc⟩:=sortedHeap_at (out:=out) hoL
 refine wpAny_pure ⟨_,rfl,hQ _ d' tk h'.objs.size out c ns' (fun b o e=>?_) (Nat.le_of_lt hlt) hc a1 (a2.trans hperm) a3⟩
 have hb:=Heap.lt_size (hk b o e);rw[sortedHeap_old (Nat.ne_of_lt hb) (by rw[Heap.size_push]; exact Nat.lt_succ_of_lt hb)]
 exact Heap.get?_push_of_some _ (hk b o e)
end
section
variable{X:Cx}
theorem oE{m:Nat}(hr:Room m X.A):CallR X (.builtin "sorted") (i9 (gS X.w)):=by
 intro pins s σ H xs us Q I r h
 obtain⟨p,ds,rfl,e,h60,q⟩:=h
 obtain⟨u,rfl,ru⟩:=cB r
 cases ru;obtain⟨o,es,ep,t,ho,hx,hd,hfew,hf,hg,hint,hds⟩:=(show ObjOk X.prog X.w H s.heap p (gS X.w p ds) from I.hok p _ e).1
 have hz:es.size≤60:=by rw[← hds,List.length_map,Array.length_toList]at h60; exact h60
 have hs:sizeLine=16777216:=sizeLine_eq
 refine lS hr.hd ho hx hd hf (by omega) hg hint fun h' d' tk qa out c ns' hk hq hc a1 a2 a3=>?_
 have hl:ns'.length≤60:=by rw[a2.length_eq,List.length_map,Array.length_toList]; exact hz
 have I2:=I.laid (t':=tk) (a:=qa) (o:=.lst (ns'.map V.str)) hk hq (show ObjOk X.prog X.w _ h' _ (.lst (ns'.map V.str)) from ⟨by rw[List.length_map]; omega,out.toList,c,i5 a1,by simpa using hc⟩)
 refine⟨.ref qa,_,?_,rfl,q _ ns' (I.hok.fresh hq) (by rw[← hds]; exact a2) a3⟩
 exact⟨I2.ok,I2.os,I2.bare,I2.base,I2.loc,I2.cell,I2.free,I2.freeC,I2.pin,I2.hok,I2.len⟩
theorem qN{m:Nat}(K:PySem.W.Frag)(w:World)(hr:Room m X.A)(hK:X.K=K:=by rfl)(hw:X.w=w:=by rfl):CallR X (.type "set") (ye K (gS w)):=hw ▸ t5 hr hK
theorem m7{m:Nat}(w:World)(hr:Room m X.A)(hw:X.w=w:=by rfl):CallR X (.builtin "sorted") (i9 (gS w)):=hw ▸ oE hr
end
section
variable{X:Cx}{c a b:Expr}{tA tB1 tB2:TT}{pos:Pos}
end
end L2
namespace L2
open PySem PySem.Spec PyProof.Rows PySem.SeqAt PySem.Builtin PySem.Builtin.Str PySem.StrLaws
section
variable{X:Cx}
end
end L2
namespace L2
open PySem PySem.Spec PyProof.Rows PySem.SeqAt PySem.Builtin PySem.Builtin.Str PySem.StrLaws
def zK:R2:=fun x y H Q=>∃ b,y = .bl b∧bR x=true∧Q (.bl (decide (x = .bl b))) H
theorem BG{X:Cx}:OpR X (compareOp .Is) zK:=by
 intro pins s σ H x y v u Q I rx ry h
 obtain⟨b,rfl,hx,q⟩:=h
 cases ry
 cases x with
 | non=>cases rx; exact wpAny_pure (a:=Value.bool false) ⟨.bl false,H,I,rfl,q⟩
 | bl k=>cases rx; cases k <;> cases b <;> exact wpAny_pure (a:=Value.bool _) ⟨.bl _,H,I,rfl,q⟩
 | int i=>obtain⟨t,rfl⟩:=rx; exact wpAny_pure (a:=Value.bool false) ⟨.bl false,H,I,rfl,q⟩
 | str i=>obtain⟨t,rfl⟩:=rx; exact wpAny_pure (a:=Value.bool false) ⟨.bl false,H,I,rfl,q⟩
 | _=>cases hx
theorem ic{H:Hp}{Q:VK}(x:V)(b:Bool):zK x (.bl b) H Q=(bR x=true∧Q (.bl (decide (x = .bl b))) H):=
 propext ⟨fun ⟨_,e,q⟩=>by cases e; exact q,fun q=>⟨b,rfl,q⟩⟩
end L2
namespace L2
open PySem PySem.Spec PyProof.Rows
section
variable{X:Cx}
end
end L2
namespace L2
open PySem PySem.Spec PyProof.Rows
abbrev cn:=List (Option Int)
def MO(P:Program)(w:World):HeapKind P w (cn):=x_ (dk P w) (show 0≤7 by decide)
def gT(P:Program)(w:World)(a:Addr)(xs:List (cn × Addr × Value)):HO:=
 .ext fun h=>∃ o es ep,h.get? a=some o∧o.ExactDict∧o.data = .dict es ep∧es.toList=xs.map (entryOfKey (MO P w))∧(xs.map (·.1)).Nodup
def KeyO(H:Hp)(k:cn)(b:Addr):Prop:=H b=some (.tup (k.map cE))
def ORow(H:Hp)(p:cn × V)(q:cn × Addr × Value):Prop:=q.1=p.1∧KeyO H p.1 q.2.1∧RelV p.2 q.2.2
def DO(P:Program)(w:World)(H:Hp)(a:Addr)(kvs:List (cn × V)):Prop:=
 ∃ xs,H a=some (gT P w a xs)∧(a == sysModules)=false∧xs.length≤sizeLine∧Paired (ORow H) kvs xs
theorem KeyO.mono{H H':Hp}{k:cn}{b:Addr}(h:KeyO H k b)(sm:∀ c xs,H c=some (.tup xs)→H' c=some (.tup xs)):KeyO H' k b:=by
 exact sm _ _ h
theorem DO.mono{P:Program}{w:World}{H H':Hp}{a:Addr}{kvs:List (cn × V)}(h:DO P w H a kvs)(sm:Same H H'):DO P w H' a kvs:=by
 obtain⟨xs,h1,h2,h3,h4⟩:=h
 exact⟨xs,sm _ _ h1,h2,h3,Paired.imp' (fun p q z=>⟨z.1,z.2.1.mono fun c ys e=>sm _ _ e,z.2.2⟩) h4⟩
section
variable{P:Program}{w:World}{H:Hp}
theorem ORow.val:∀ {kvs:List (cn × V)} {xs:List (cn × Addr × Value)} (k:cn),Paired (ORow H) kvs xs→RelO (aI kvs k) ((atKey xs k).map (·.2))
 | _,_,k,.nil=>True.intro
 | _,_,k,@Paired.cons _ _ _ p q kvs xs r t=>by
  have ih:=ORow.val k t;obtain⟨e1,e2,e3⟩:=r
  by_cases h:p.1=k
  ·have h1:aI (p::kvs) k=some p.2:=by simp[aI,h]
   have h2:atKey (q::xs) k=some q.2:=by simp[atKey,e1,h]
   rw[h1,h2]; exact e3
  ·have hn:¬ q.1=k:=fun z=>h (e1.symm.trans z)
   have h1:aI (p::kvs) k=aI kvs k:=by simp[aI,h]
   have h2:atKey (q::xs) k=atKey xs k:=by simp[atKey,hn]
   rw[h1,h2]; exact ih
end
section
variable{X:Cx}{pins:List (Addr × Obj)}{σ : St}{H:Hp}{s:Shared}{a b:Addr}{k:cn}{kvs:List (cn × V)}
theorem Inv.keyO(I:Inv X pins σ H s)(h:KeyO H k b):(MO X.prog X.w).is s.heap k b:=by
 obtain⟨_,its2,r2,o2,e2,c2,n2,d2⟩ : (k.map cE).length≤sizeLine∧∃ its:List Value,Vals (k.map cE) its∧IsTup s.heap b its.toArray:=by obtain⟨z,its,r,p⟩:=I.hok b _ h; exact⟨z,its,r,p.tup⟩
 exact⟨b,o2,_,n2,rfl,e2,c2,d2,by simpa using gO r2⟩
theorem Inv.dO(I:Inv X pins σ H s)(h:DO X.prog X.w H a kvs):∃ xs,H a=some (gT X.prog X.w a xs)∧(a == sysModules)=false∧xs.length≤sizeLine∧Paired (ORow H) kvs xs∧s.heap.DictOfH (MO X.prog X.w) a xs:=by
 obtain⟨xs,h1,h2,h3,h4⟩:=h
 obtain⟨⟨o,es,ep,e1,e2,e3,e4,e5⟩,_,_⟩:=I.hok a _ h1
 refine⟨xs,h1,h2,h3,h4,o,es,ep,e1,e2,e3,e4,?_,e5⟩
 have all:∀ {l:List (cn × V)} {m:List (cn × Addr × Value)},Paired (ORow H) l m→∀ x∈m,(MO X.prog X.w).is s.heap x.1 x.2.1:=by
  intro l m r
  induction r with
  | nil=>intro x hx; simp at hx
  | cons r t ih=>
   intro x hx
   rcases List.mem_cons.mp hx with rfl | hx
   ·rw[r.1]; exact I.keyO r.2.1
   ·exact ih x hx
 exact all h4
theorem lL{P:Program}{w:World}{H':Hp}{h':Heap}{xs:List (cn × Addr × Value)}(m:h'.DictOfH (MO P w) a xs):ObjOk P w H' h' a (gT P w a xs):=by
 obtain⟨o,es,ep,e1,e2,e3,e4,_,e5⟩:=m
 exact⟨⟨o,es,ep,e1,e2,e3,e4,e5⟩,⟨o,e1⟩,fun h1 h2 ⟨o,es,ep,q1,q⟩ z=>⟨o,es,ep,z _ q1,q⟩⟩
def rS(P:Program)(w:World):R2:=fun x y H Q=>∃ b a k kvs,x = .ref b∧y = .ref a∧DO P w H a kvs∧KeyO H k b∧Q (.bl (!(aI kvs k).isSome)) H
theorem vH{n:Nat}(hr:Room n X.A):OpR X (compareOp .NotIn) (rS X.prog X.w):=by
 intro pins s σ H x y v u Q I rx ry h
 obtain⟨b,a,k,kvs,rfl,rfl,hd,hk,q⟩:=h
 cases rx
 cases ry;obtain⟨xs,h1,h2,h3,h4,m⟩:=I.dO hd
 refine wpAny_notIn_heap (show (MO X.prog X.w).room X.A.in1 from by show X.A.units+1+1<cLine; have:=hr.un; omega) (I.keyO hk) h2 m ?_
 have e:=(ORow.val k h4).isSome_eq;rw[Option.isSome_map]at e
 rw[← e];exact⟨.bl _,H,I.tok _,rfl,q⟩
def Bu(P:Program)(w:World):R2:=fun x y H Q=>∃ a b k kvs v,x = .ref a∧y = .ref b∧DO P w H a kvs∧KeyO H k b∧aI kvs k=some v∧Q v H
theorem DT{n:Nat}(hr:Room n X.A):IxR X (Bu X.prog X.w):=by
 intro value slice pins s σ H x y v u Q I rx ry h hs
 obtain⟨a,b,k,kvs,z,rfl,rfl,hd,hk,hv,q⟩:=h
 cases rx
 cases ry;obtain⟨xs,h1,h2,h3,h4,m⟩:=I.dO hd
 obtain⟨w',hw,rw'⟩:=RelO.some_of (v:=z) (o:=(atKey xs k).map (·.2)) (by rw[← hv]; exact ORow.val k h4)
 obtain⟨p,hp,hp2⟩:=Option.map_eq_some_iff.mp hw
 have hl:typeLookup (.type "dict") "__getitem__" = pure (some (.builtin "dict.__getitem__")):=PySem.F.slot_dict_getitem.lookup
 refine subscriptTail_builtinR (x:=w') m.typeIs hl ?_ hs
 refine wpAny_getItem_heap (show (MO X.prog X.w).room X.A.in1 from by show X.A.units+1+1<cLine; have:=hr.un; omega) (I.keyO hk) m hp ?_
 rw[hp2];exact⟨rfl,z,H,I.tok _,rw',q⟩
def yh(P:Program)(w:World):kj:=fun o i v H Q=>∃ a b k kvs,o = .ref a∧i = .ref b∧DO P w H a kvs∧KeyO H k b∧aI kvs k=none∧kvs.length<sizeLine∧∀ u,DO P w (upd H a u) a (kvs++[(k,v)])→Q (upd H a u)
theorem Cc{n:Nat}(hr:Room n X.A):PSet X (yh X.prog X.w):=by
 intro pins s σ H o i v ov iv u Q I ro ri rv h
 obtain⟨a,b,k,kvs,rfl,rfl,hd,hk,hv,hl,q⟩:=h
 cases ro
 cases ri;obtain⟨xs,h1,h2,h3,h4,m⟩:=I.dO hd
 have hx:atKey xs k=none:=by
  have e:=ORow.val k h4;rw[hv]at e
  cases hq:atKey xs k with
  | none=>rfl
  | some p=>rw[hq]at e; exact e.elim
 refine wpAny_setItem_heap (hsz:=h3) (show (MO X.prog X.w).room X.A.in1 from by show X.A.units+1+1<cLine; have:=hr.un; omega) (I.keyO hk) m fun h' m' hs=>?_
 rw[storedH_new hx]at m'
 have keep:∀ c ys,H c=some (.tup ys)→upd H a (gT X.prog X.w a (xs++[(k,b,u)])) c=some (.tup ys):=fun c ys e=>by
  rw[al (gB e h1 (fun z=>nomatch z))]; exact e
 refine⟨upd H a (gT X.prog X.w a (xs++[(k,b,u)])),fU I (by rw[h1]; exact True.intro) hs (let ⟨o,_,_,e,_⟩:=m'; ⟨o,e⟩) (lL m'),q _ ⟨_,ae,h2,?_,?_⟩⟩
 ·rw[List.length_append,← Paired.length h4]
  show kvs.length+1≤sizeLine
  omega
 ·exact Paired.snoc ⟨rfl,hk.mono keep,rv⟩ (Paired.imp' (fun p q z=>⟨z.1,z.2.1.mono keep,z.2.2⟩) h4)
def mF(P:Program)(w:World)(td ty:TE):TE:=fun σ H Q=>td σ H fun x H1=>∃ a kvs,x = .ref a∧DO P w H1 a kvs∧ty σ H1 fun y H2=>∃ b k kvs',y = .ref b∧DO P w H2 a kvs'∧KeyO H2 k b∧Q ((aI kvs' k).getD .non) H2
theorem zk{n:Nat}(hr:Room n X.A){o e:Expr}{td ty:TE}{apos cpos:Pos}(ho:PE X o td)(he:PE X e ty)(m:M1 X o "get" apos e cpos):PE X (.Call (.Attribute o "get" apos) [e] [] cpos) (mF X.prog X.w td ty):=by
 intro pins s σ H Q I h
 refine wpAny_Call_method m.base m.few m.line PySem.F.plainAttrs_dict PySem.F.slot_dict_get PySem.F.type_dict_get (bc (ho pins s σ H _ I h) fun u s1 ⟨x,H1,I1,rx,a,kvs,ex,d,q1⟩=>?_)
 subst ex;obtain rfl:u=Value.ref a:=rx
 obtain⟨xs,h1,h2,h3,h4,mm⟩:=I1.dO d
 refine⟨mm.typeIs,fun b q=>?_,?_⟩
 ·cases q
  obtain⟨ob,_,_,g1,g2,_⟩:=mm
  exact⟨ob,g1,g2.2.1⟩
 rw[m.trees];refine Calls.callWith_builtin rfl (Calls.evalArgs_plain (Calls.spliced_cons (bc (he pins s1 σ H1 _ I1 q1) fun iv s2 ⟨y,H2,I2,ry,b,k,kvs',ey,d2,kk,q2⟩=>Calls.spliced_nil ?_)))
 subst ey;obtain rfl:iv=Value.ref b:=ry
 obtain⟨xs2,g1,g2,g3,g4,m2⟩:=I2.dO d2
 refine call_meetsIn PySem.F.slot_dict_get m2.typeIs PySem.F.entry_dict_get (PySem.F.args_dict_get_2 _ _) (meetsH_dict_get (MO X.prog X.w) a b g2) ⟨by show X.A.units+1+1<cLine; have:=hr.un; omega,k,xs2,I2.keyO kk,m2,?_⟩
 exact⟨_,H2,I2.tok _,(ORow.val k g4).getD (d:=V.non) (show RelV .non Value.none from rfl),q2⟩
def mP(P:Program)(w:World)(tk tv:TE):TE:=fun σ H Q=>∀ p,H p=none→∀ u,DO P w (upd H p u) p []→tk σ (upd H p u) fun y H1=>tv σ H1 fun z H2=>∃ b k,y = .ref b∧KeyO H2 k b∧DO P w H2 p []∧∀ u',DO P w (upd H2 p u') p [(k,z)]→Q (.ref p) (upd H2 p u')
theorem v5{n:Nat}(hr:Room n X.A){ek ev:Expr}{tk tv:TE}{pos:Pos}(hk:PE X ek tk)(hv:PE X ev tv):PE X (.Dict [some ek] [ev] pos) (mP X.prog X.w tk tv):=by
 intro pins s σ H Q I q
 have hn:=I.hok.fresh (Nat.le_refl s.heap.objs.size);have hm:(s.heap.push { cls:=.type "dict", data:=.dict #[] }).DictOfH (MO X.prog X.w) s.heap.objs.size []:=⟨_,#[],0,Heap.get?_push_size _ rfl,⟨rfl,rfl,rfl⟩,rfl,rfl,(fun x hx=>by simp at hx),List.nodup_nil⟩
 have I1:=I.laid (a:=s.heap.objs.size) (o:=gT X.prog X.w s.heap.objs.size []) (t':=s.toks) (fun _ _ q=>Heap.get?_push_of_some _ q) (Nat.le_refl _) (lL hm)
 have hD:DO X.prog X.w (upd H s.heap.objs.size (gT X.prog X.w s.heap.objs.size [])) s.heap.objs.size []:=⟨[],ae,beq_eq_false_iff_ne.mpr (Ne.symm (Nat.ne_of_lt I.big)),Nat.zero_le _,.nil⟩
 refine wpAny_Dict_any rfl rfl (by simp) (by simp) (pairTrees_cons_walk (bc (hk pins _ σ _ _ I1 (q _ hn _ hD)) fun u s1 ⟨x,H1,I1',rx,q1⟩=>bc (hv pins s1 σ H1 _ I1' q1) fun w2 s2 ⟨y,H2,I2,ry,b,k,ex,kk,d2,q2⟩=>pairTrees_nil_walk ?_))
 subst ex;obtain rfl:u=Value.ref b:=rx
 obtain⟨xs,h1,h2,h3,h4,m⟩:=I2.dO d2
 cases h4;unfold storeAll;rw[List.forIn_cons];refine wpAny_bind (wpAny_bind (wpAny_dictSet_heap (knd:=MO X.prog X.w) (k:=k) (xs:=[]) (hsz:=Nat.zero_le _) (show (MO X.prog X.w).room X.A from by show X.A.units+1<cLine; have:=hr.un; omega) (I2.keyO kk) m fun h' m' hs=>wpAny_pure ?_))
 dsimp only
 rw[List.forIn_nil];refine wpAny_pure ?_
 have keep:∀ c ys,H2 c=some (.tup ys)→upd H2 s.heap.objs.size (gT X.prog X.w s.heap.objs.size [(k,b,w2)]) c=some (.tup ys):=fun c ys e=>by
  rw[al (gB e h1 (fun z=>nomatch z))]; exact e
 have m2:h'.DictOfH (MO X.prog X.w) s.heap.objs.size [(k,b,w2)]:=m'
 exact⟨.ref s.heap.objs.size,upd H2 s.heap.objs.size (gT X.prog X.w s.heap.objs.size [(k,b,w2)]),fU I2 (by rw[h1]; exact True.intro) hs (let ⟨o,_,_,e,_⟩:=m2; ⟨o,e⟩) (lL m2),rfl,q2 _ ⟨_,ae,h2,by rw[sizeLine_eq]; simp,.cons ⟨rfl,kk.mono keep,ry⟩ .nil⟩⟩
end
end L2
namespace L2
open PySem PySem.Spec PyProof.Rows
section
variable{X:Cx}{E:XK}{x:Str}{C:Addr}{bmB:List Value}{B newId initId:String}{np cpos pos:Pos}{e:Expr}{es:List Expr}{t:TA}
end
section
variable{P:Program}{w:World}{K:PySem.W.Frag}{mg:Str→Option Value}{base:Heap}
end
section
variable{X:Cx}
end
section
variable{X:Cx}{Ee:XK}
end
section
variable{X:Cx}{pins:List (Addr × Obj)}{σ : St}{H:Hp}{s:Shared}
end
section
variable{X:Cx}{x n:Str}{C:Addr}{bmB:List Value}{B newId initId:String}{np hp pos:Pos}{body suite:List Stmt}{b₀ : Stmt}{tb:XK→TS}{th:TS}{rest:List ExceptHandler}
end
end L2
namespace L2
open PySem PySem.Spec PyProof.Rows
section
variable{prog:Program}{w:World}{A:Around}{E:Value→Shared→Prop}{h:Heap}{g:Array GenState}{d:Drawn}{t:Nat}{os:OsState}{a:Addr}{o:Obj}{K:PySem.W.Frag}
 {x:Str} {C:Addr} {bmB:List Value} {B newId:String} {mg:Str→Option Value}
end
section
variable{X:Cx}
end
end L2
namespace L2
open PySem PySem.Spec PyProof.Rows
section
variable{P:Program}{w:World}{K:PySem.W.Frag}{mg:Str→Option Value}{base:Heap}
end
section
variable{X:Cx}
end
section
variable{X:Cx}{E:XK}{x n:Str}{C:Addr}{np cpos hp pos:Pos}{e:Expr}{es body suite:List Stmt}{b₀ : Stmt}{t:TA}{tb:XK→TS}{th:TS}{rest:List ExceptHandler}
end
section
variable{X:Cx}{x:Str}{C:Addr}{np hp pos:Pos}{body suite:List Stmt}{b₀ : Stmt}{tb:XK→TS}{th:TS}{rest:List ExceptHandler}
end
end L2
namespace L2
open PySem PySem.Spec PyProof PyProof.Rows
section
variable{K:PySem.W.Frag}{a b:Addr}{xs ys:List V}{g:TG}{te:TE}{nT:Nat}{σ : St}{D:Addr}{Q:VK}{H:Hp}
end
section
variable{prog:Program}{w:World}{A:Around}{E:Value→Shared→Prop}{s:Shared}
end
end L2
namespace L2
open PySem PySem.Spec PyProof PyProof.Rows
section
variable{X:Cx}
end
section
variable{X:Cx}
end
section
variable{d:Addr}{o:Obj}{kvs:List (bq × V)}{g:TG}{σ : St}{H:Hp}
end
end L2
namespace PySem.SeqAt
open AutoSeq1 (wpAny_loadPart')
open MeetsSeq MeetsSeq2 MeetsSeq3
end PySem.SeqAt
namespace L2
open PySem PySem.Spec PyProof PyProof.Rows
section
variable{X:Cx}
end
end L2
namespace L2
open PySem PySem.Spec PyProof PyProof.Rows
section
variable{X:Cx}
end
end L2
namespace L2
open PySem PySem.Spec PyProof.Rows
def ur:Option Int→Value→Bool
 | none,v=>(match v with | .none=>true | _=>false)
 | some i,v=>Value.isInt i v
theorem ip:∀ {k:Option Int} {v:Value},ur k v=true→RelV (cE k) v
 | none,v,h=>by
  cases v <;> first | rfl | cases h
 | some i,v,h=>Value.isInt_shape (k:=i) (v:=v) h
theorem vm:∀ {k:Option Int} {v:Value},RelV (cE k) v→ur k v=true
 | none,v,h=>by
  obtain rfl:v=Value.none:=h
  rfl
 | some i,v,h=>by
  obtain⟨t,rfl⟩:=(show ∃ t,v=Value.int i t from h)
  simp[ur,Value.isInt]
def iw(prog:Program)(w:World):PySem.KeyKind prog w (Option Int) where
 is:=ur
 hash:=(dk prog w).hash
 inj:=fun v a b ha hb=>(dk prog w).inj (h:=default) (ip ha) (ip hb)
 byValue:=fun k v h=>by
  have r:=ip h
  cases k with
  | none=>obtain rfl:v=Value.none:=r; rfl
  | some i=>obtain⟨t,rfl⟩:=(show ∃ t,v=Value.int i t from r); rfl
 pyHash:=fun {A E s k v Q} hv h=>by
  have r:=ip hv
  cases k with
  | none=>
   obtain rfl:v=Value.none:=r
   exact nC h
  | some i=>
   obtain⟨t,rfl⟩:=(show ∃ t,v=Value.int i t from r)
   exact wpAny_pyHash_int h
 eqBool:=fun {A E s a b u v Q} hu hv h=>by
  have q:=js (A:=A) (s:=s) (ip hu) (ip hv) (iZ a) (iZ b);rw[rB]at q
  exact q prog w E Q h
 «strs»:=fun k x t v h=>by
  cases k with
  | none=>cases h
  | some i=>simp[ur,Value.isInt]at h
def i8(P:Program)(w:World)(a:Addr)(kvs:List (Option Int × V)):HO:=
 .ext fun h=>kvs.length≤sizeLine∧(a == sysModules)=false∧∃ vs,KV kvs vs∧h.DictOf (iw P w) a vs
theorem va{P:Program}{w:World}{H':Hp}{h':Heap}{a:Addr}{kvs:List (Option Int × V)}{vs:List (Option Int × Value)}(z:kvs.length≤sizeLine)(hd:(a == sysModules)=false)(rel:KV kvs vs)(m:h'.DictOf (iw P w) a vs):ObjOk P w H' h' a (i8 P w a kvs):=by
 obtain⟨o,es,ep,e1,e⟩:=id m
 exact⟨⟨z,hd,vs,rel,m⟩,⟨o,e1⟩,fun h1 h2 ⟨z',hd',vs',rel',o',es',ep',q1,q⟩ y=>⟨z',hd',vs',rel',o',es',ep',y _ q1,q⟩⟩
section
variable{X:Cx}{pins:List (Addr × Obj)}{σ : St}{H:Hp}{s:Shared}{a:Addr}{kvs:List (Option Int × V)}
theorem Inv.op(I:Inv X pins σ H s)(h:H a=some (i8 X.prog X.w a kvs)):kvs.length≤sizeLine∧(a == sysModules)=false∧∃ vs,KV kvs vs∧s.heap.DictOf (iw X.prog X.w) a vs:=(I.hok a _ h).1
def yP(P:Program)(w:World):R2:=fun x y H Q=>∃ a k kvs v,x = .ref a∧y=cE k∧H a=some (i8 P w a kvs)∧aI kvs k=some v∧Q v H
theorem Cg:IxR X (yP X.prog X.w):=by
 intro value slice pins s σ H x y v u Q I rx ry h hs
 obtain⟨a,k,kvs,z,rfl,rfl,e,l,q⟩:=h
 cases rx;obtain⟨_,hd,vs,rel,dd⟩:=I.op e
 obtain⟨w',hw,rw'⟩:=RelO.some_of (v:=z) (o:=valueAt vs k) (by rw[← l]; exact rel.val k)
 have hl:typeLookup (.type "dict") "__getitem__" = pure (some (.builtin "dict.__getitem__")):=PySem.F.slot_dict_getitem.lookup
 exact subscriptTail_builtinR (x:=w') dd.typeIs hl (wpAny_getItem_of (knd:=iw X.prog X.w) (vm ry) dd.mapOf hw ⟨rfl,z,H,I.tok _,rw',q⟩) hs
def uI(P:Program)(w:World):kj:=fun o i v H Q=>∃ a k kvs,o = .ref a∧i=cE k∧H a=some (i8 P w a kvs)∧kvs.length<sizeLine∧Q (upd H a (i8 P w a (cM kvs k v)))
theorem Bc:PSet X (uI X.prog X.w):=by
 intro pins s σ H o i v ov iv u Q I ro ri rv h
 obtain⟨a,k,kvs,rfl,rfl,e,hl,q⟩:=h
 cases ro;obtain⟨z,hd,vs,rel,dd⟩:=I.op e
 have hz:vs.length≤sizeLine:=by rw[← rel.length]; exact z
 have hl':(cM kvs k v).length≤sizeLine:=by have:=dC kvs k v; omega
 refine wpAny_setItem_pairs (knd:=iw X.prog X.w) (hsz:=hz) (vm ri) dd fun h' dd' hs=>⟨_,?_,q⟩
 have he:∃ q,h'.get? a=some q:=let ⟨q,_,_,hq,_⟩:=dd'; ⟨q,hq⟩
 exact fU I (by rw[e]; exact True.intro) hs he (va hl' hd (rel.put k rv) dd')
def rD(P:Program)(w:World):TE:=fun _ H Q=>∀ p,H p=none→Q (.ref p) (upd H p (i8 P w p []))
theorem u0{pos:Pos}:PE X (.Dict [] [] pos) (rD X.prog X.w):=fun pins s σ H Q I h=>by
 have hb:(s.heap.objs.size == sysModules)=false:=beq_eq_false_iff_ne.mpr (Ne.symm (Nat.ne_of_lt I.big))
 have hm:(s.heap.push { cls:=.type "dict", data:=.dict #[] }).DictOf (iw X.prog X.w) s.heap.objs.size []:=⟨_,#[],0,Heap.get?_push_size _ rfl,⟨rfl,rfl,rfl⟩,rfl,(fun x hx=>by simp at hx),.nil,List.nodup_nil⟩
 exact wpAny_Dict_empty ⟨.ref s.heap.objs.size,_,I.laid (a:=s.heap.objs.size) (o:=i8 X.prog X.w s.heap.objs.size []) (t':=s.toks) (fun _ _ q=>Heap.get?_push_of_some _ q) (Nat.le_refl _) (va (Nat.zero_le _) hb .nil hm),rfl,h _ (I.hok.fresh (Nat.le_refl _))⟩
end
section
variable{X:Cx}(P:Program)(w:World)
theorem uo(hP:X.prog=P:=by rfl)(hw:X.w=w:=by rfl):IxR X (yP P w):=by subst hP hw; exact Cg
theorem sg(hP:X.prog=P:=by rfl)(hw:X.w=w:=by rfl):PSet X (uI P w):=by subst hP hw; exact Bc
theorem sV{pos:Pos}(hP:X.prog=P:=by rfl)(hw:X.w=w:=by rfl):PE X (.Dict [] [] pos) (rD P w):=by subst hP hw; exact u0
end
end L2
namespace L2
open PySem PySem.Spec PyProof PyProof.Rows
section
variable{prog:Program}{w:World}{A:Around}{E:Value→Shared→Prop}{s:Shared}
variable{z TI TO i1 i2 t1 t2:Addr}{xs ys:Array Value}{k1 k2:Nat}{a b:Value}
end
section
variable{K:PySem.W.Frag}{a b:Addr}{xs ys:List V}{g:TG}{te:TE}{nT:Nat}{σ : St}{D:Addr}{Q:VK}{H:Hp}
end
end L2
namespace L2
open PySem PySem.Spec PyProof PyProof.Rows PySem.SeqAt
section
variable{X:Cx}
end
section
variable{X:Cx}
end
section
variable{X:Cx}
def DL:R2:=fun x y H Q=>∃ a kvs k,y = .ref a∧x=kV k∧H a=some (.dK kvs)∧Q (.bl (aI kvs k).isSome) H
theorem AR{n:Nat}(hr:Room n X.A):OpR X (compareOp .In) DL:=by
 intro pins s σ H x y v u Q I rx ry h
 obtain⟨a,kvs,k,rfl,rfl,e,q⟩:=h
 cases ry;exact Er (by have:=hr.un; omega) I (DGet.k e) rx fun s' I'=>⟨.bl _,H,I',rfl,q⟩
end
end L2
namespace L2
open PySem PySem.Spec PyProof PyProof.Rows
section
variable{X:Cx}
end
section
variable{prog:Program}{w:World}{κ : Type}[DecidableEq κ]{knd:HeapKind prog w κ}{A:Around}{E:Value→Shared→Prop}{s:Shared}
end
section
variable{X:Cx}
end
end L2
namespace L2
open PySem PySem.Spec PyProof PyProof.Rows
section
variable{X:Cx}{pins:List (Addr × Obj)}{σ : List (Option V)}{H:Hp}{s:Shared}
end
section
variable{X:Cx}
end
open PySem.SeqAt
section
variable{X:Cx}
end
end L2
namespace PySem.SeqAt
open AutoSeq1 (wpAny_loadPart')
open MeetsSeq MeetsSeq2 MeetsSeq3
open SeqRoads2
section
variable{A:Around}{s:Shared}
end
end PySem.SeqAt
namespace L2
open PySem PySem.Spec PyProof PyProof.Rows PySem.SeqAt
section
variable{X:Cx}{pins:List (Addr × Obj)}{σ : St}{H:Hp}{s:Shared}
end
end L2
namespace PySem
section
variable{M:Program}{w:World}{A:Around}{R:Result→Shared→Prop}{I:Addr}{fp wr:List Addr}{n:Nat}{Pv:Nat→Value→Prop}{St:Nat→Heap→Prop}
end
end PySem
namespace PySem
section
variable{M:Program}{w:World}{A:Around}{E:Value→Shared→Prop}{s:Shared}
end
end PySem
namespace L2
open PySem PySem.Spec PyProof PyProof.Rows PySem.SeqAt
section
variable{X:Cx}
end
end L2
namespace L2
open PySem PySem.Spec PyProof PyProof.Rows
section
variable{X:Cx}
end
end L2
namespace L2
open PySem PySem.Spec PyProof.Rows
abbrev Gb:=Sum Str (List (Option Int))
abbrev xu:=Str × List (Option Int)
def sk(k:xu):List Gb:=[.inl k.1,.inr k.2]
section
variable{P:Program}{w:World}{H:Hp}
end
section
variable{X:Cx}{pins:List (Addr × Obj)}{σ : St}{H:Hp}{s:Shared}{a b:Addr}{k:xu}{kvs:List (xu × V)}
end
end L2
namespace L2
open PySem PySem.Spec PyProof.Rows
abbrev iG (h:Heap) (z TI TO T:Addr) (f:Bool):Prop:=
 h.get? z=some { cls:=.type "zip", dict:=none,data:=.fields #[rawInt T,.bool f,.bool false,.ref TI,.ref TO],slots:=#[] }
section
variable{prog:Program}{w:World}{A:Around}{E:Value→Shared→Prop}{s:Shared}
theorem kT{a:Addr}{Q:Option Obj→Shared→Prop}(h:Q (s.heap.get? a) s):wpAny (model prog w) A (loadIfAlive a) Q E s:=fun _ _ _=>h
theorem nS{z TI TO T:Addr}{f:Bool}{Q:Bool→Shared→Prop}(hz:iG s.heap z TI TO T f)(hT:∃ o,s.heap.get? T=some o)(hQ:∀ h',iG h' z TI TO T true→Heap.SameBut z s.heap h'→Q false { s with heap:=h' }) :
  wpAny (model prog w) A (Builtin.SmallTypes.ownedTupleIsFree (.ref z)) Q E s:=by
 obtain⟨o,ho⟩:=hT
 unfold Builtin.SmallTypes.ownedTupleIsFree;refine wpAny_bind (wpAny_field hz rfl (x:=rawInt T) rfl ?_)
 show wpAny _ _ (loadIfAlive T >>= _) _ _ _
 refine wpAny_bind (kT ?_)
 rw[ho];show wpAny _ _ (field (.ref z) 1 >>= _) _ _ _
 refine wpAny_bind (wpAny_field hz rfl (x:=.bool f) rfl ?_)
 cases f with
 | false=>
  show wpAny _ _ (setField (.ref z) 1 (.bool true) >>= _) _ _ _
  refine wpAny_bind (wpAny_setField_rec hz (by simp) fun h1 hz1 hs1=>wpAny_pure (hQ h1 hz1 hs1))
 | true=>
  refine wpAny_pure (hQ s.heap hz ⟨rfl,fun _ _=>rfl⟩)
theorem vv{z TI TO T i1 i2 l1 l2:Addr}{f:Bool}{k1 k2:Nat}{xs ys:Array Value}{x y:Value}{Q:Value→Shared→Prop}(D:ZipApart z TI TO i1 i2 l1 l2)
  (hz:iG s.heap z TI TO T f) (hT:∃ o,s.heap.get? T=some o) (hTI:IsPair s.heap TI (.ref i1) (.ref i2))
  (h1:s.heap.IsListIter i1 l1 k1) (h2:s.heap.IsListIter i2 l2 k2) (hl1:s.heap.IsList l1 xs) (hl2:s.heap.IsList l2 ys) (hx:xs[k1]? = some x) (hy:ys[k2]? = some y)
  (hQ:∀ h',iG h' z TI TO T true→h'.IsListIter i1 l1 (k1+1)→h'.IsListIter i2 l2 (k2+1)→IsPair h' s.heap.objs.size x y→h'.objs.size=s.heap.objs.size+1→
   (∀ c o,c≠z→c≠i1→c≠i2→s.heap.get? c=some o→h'.get? c=some o)→Q (.ref s.heap.objs.size) { s with heap:=h' }) :
  wpAny (model prog w) A (Builtin.«zip.__next__» ⟨[.ref z],[]⟩) (fun fin s'=>∃ v,fin = .done (.ret v)∧Q v s') E s:=by
 show wpAny _ _ (field (.ref z) 2 >>= _) _ _ _
 refine wpAny_bind (wpAny_field hz rfl (x:=.bool false) rfl ?_)
 show wpAny _ _ (field (.ref z) 3 >>= _) _ _ _
 refine wpAny_bind (wpAny_field hz rfl (x:=.ref TI) rfl ?_)
 refine wpAny_bind (wpAny_seqItems hTI rfl ?_)
 show wpAny _ _ (Builtin.SmallTypes.ownedTupleIsFree (.ref z) >>= _) _ _ _
 refine wpAny_bind (nS hz hT fun ha hza hsa=>?_)
 simp only[Bool.false_eq_true,if_false]
 refine wpAny_bind ?_
 rw[← Array.forIn_toList];simp only[List.forIn_cons,List.forIn_nil]
 refine wpAny_bind (wpAny_bind (wpAny_holding ?_))
 show wpAny _ _ (Builtin.SmallTypes.nextOf (.ref i1) >>= _) _ _ _
 refine wpAny_bind (wpAny_nextOf_list_item (h1.extBut hsa.extBut D.i1z) (hl1.extBut hsa.extBut D.l1z) hx fun hb h1b hsb=>wpAny_pure ?_)
 refine wpAny_pure ?_
 refine wpAny_bind (wpAny_bind (wpAny_holding ?_))
 show wpAny _ _ (Builtin.SmallTypes.nextOf (.ref i2) >>= _) _ _ _
 refine wpAny_bind (wpAny_nextOf_list_item ((h2.extBut hsa.extBut D.i2z).extBut hsb.extBut D.i12.symm) ((hl2.extBut hsa.extBut D.l2z).extBut hsb.extBut D.l2i1) hy fun hc h2c hsc=>wpAny_pure ?_)
 refine wpAny_pure (wpAny_pure ?_)
 refine wpAny_bind (wpAny_newTuple ?_ (by show 2≤sizeLine; rw[sizeLine_eq]; decide))
 have hsz:hc.objs.size=s.heap.objs.size:=by rw[hsc.1,hsb.1,hsa.1]
 have hzc:iG hc z TI TO T true:=hsc.extBut _ _ D.i2z.symm (hsb.extBut _ _ D.i1z.symm hza)
 have kc:∀ c o,c≠z→c≠i1→c≠i2→s.heap.get? c=some o→hc.get? c=some o:=fun c o c1 c3 c4 e=>hsc.extBut _ _ c4 (hsb.extBut _ _ c3 (hsa.extBut _ _ c1 e))
 have h1c:hc.IsListIter i1 l1 (k1+1):=h1b.extBut hsc.extBut D.i12
 refine wpAny_pure ⟨_,rfl,?_⟩
 show Q (.ref hc.objs.size) _
 rw[hsz];refine hQ (hc.push { cls:=.type "tuple", data:=.seq #[x,y] }) (Heap.get?_push_of_some _ hzc) (h1c.at fun o e=>Heap.get?_push_of_some _ e) (h2c.at fun o e=>Heap.get?_push_of_some _ e) ?_ (by rw[Heap.size_push,hsz]) fun c o c1 c3 c4 e=>Heap.get?_push_of_some _ (kc c o c1 c3 c4 e)
 show (hc.push _).get? s.heap.objs.size=_
 rw[← hsz];exact Heap.get?_push_size _ rfl
theorem xA{z TI TO T i1 i2 l1 l2:Addr}{f:Bool}{k1 k2:Nat}{xs ys:Array Value}{Q:Fin→Shared→Prop}(hh:A.handled=none)(D:ZipApart z TI TO i1 i2 l1 l2)
  (hz:iG s.heap z TI TO T f) (hT:∃ o,s.heap.get? T=some o) (hTI:IsPair s.heap TI (.ref i1) (.ref i2))
  (h1:s.heap.IsListIter i1 l1 k1) (h2:s.heap.IsListIter i2 l2 k2) (hl1:s.heap.IsList l1 xs) (hl2:s.heap.IsList l2 ys) (hend:xs[k1]? = none∨ys[k2]? = none)
  (hE:∀ h' e,(∀ c o,c≠z→c≠i1→c≠i2→s.heap.get? c=some o→h'.get? c=some o)→(∃ o,h'.get? e=some o∧o.cls = .type "StopIteration")→E (.ref e) { s with heap:=h' }) :
  wpAny (model prog w) A (Builtin.«zip.__next__» ⟨[.ref z],[]⟩) Q E s:=by
 show wpAny _ _ (field (.ref z) 2 >>= _) _ _ _
 refine wpAny_bind (wpAny_field hz rfl (x:=.bool false) rfl ?_)
 show wpAny _ _ (field (.ref z) 3 >>= _) _ _ _
 refine wpAny_bind (wpAny_field hz rfl (x:=.ref TI) rfl ?_)
 refine wpAny_bind (wpAny_seqItems hTI rfl ?_)
 show wpAny _ _ (Builtin.SmallTypes.ownedTupleIsFree (.ref z) >>= _) _ _ _
 refine wpAny_bind (nS hz hT fun ha hza hsa=>?_)
 simp only[Bool.false_eq_true,if_false]
 refine wpAny_bind ?_
 rw[← Array.forIn_toList];simp only[List.forIn_cons,List.forIn_nil]
 refine wpAny_bind (wpAny_bind (wpAny_holding ?_))
 show wpAny _ _ (Builtin.SmallTypes.nextOf (.ref i1) >>= _) _ _ _
 cases hx:xs[k1]? with
 | none=>
  refine wpAny_bind (wpAny_nextOf_list_end hh (h1.extBut hsa.extBut D.i1z) (hl1.extBut hsa.extBut D.l1z) hx fun hb e hsb he=>?_)
  exact hE hb e (fun c o c1 c3 _ x=>hsb _ _ c3 (hsa.extBut _ _ c1 x)) he
 | some x=>
  have hy:ys[k2]? = none:=by rcases hend with h | h; rw[hx]at h; cases h; exact h
  refine wpAny_bind (wpAny_nextOf_list_item (h1.extBut hsa.extBut D.i1z) (hl1.extBut hsa.extBut D.l1z) hx fun hb h1b hsb=>wpAny_pure ?_)
  refine wpAny_pure ?_
  refine wpAny_bind (wpAny_bind (wpAny_holding ?_))
  show wpAny _ _ (Builtin.SmallTypes.nextOf (.ref i2) >>= _) _ _ _
  refine wpAny_bind (wpAny_nextOf_list_end hh ((h2.extBut hsa.extBut D.i2z).extBut hsb.extBut D.i12.symm) ((hl2.extBut hsa.extBut D.l2z).extBut hsb.extBut D.l2i1) hy fun hc e hsc he=>?_)
  exact hE hc e (fun c o c1 c3 c4 x=>hsc _ _ c4 (hsb.extBut _ _ c3 (hsa.extBut _ _ c1 x))) he
def ZOs(z TI TO i1 i2 l1 l2:Addr)(xs ys:Array Value)(i:Nat)(h:Heap):Prop:=
 (IsZip h z TI TO .none∨∃ T f,iG h z TI TO T f∧∃ o,h.get? T=some o)∧IsPair h TI (.ref i1) (.ref i2)∧(∃ a b,IsPair h TO a b)∧h.IsListIter i1 l1 i∧h.IsListIter i2 l2 i∧h.IsList l1 xs∧h.IsList l2 ys
theorem xE{z TI TO i1 i2 l1 l2:Addr}{i:Nat}{xs ys:Array Value}{x y:Value}{Q:Option Value→Shared→Prop}(D:ZipApart z TI TO i1 i2 l1 l2)(h:ZOs z TI TO i1 i2 l1 l2 xs ys i s.heap)(hx:xs[i]? = some x)(hy:ys[i]? = some y)
  (hQ:∀ h',ZOs z TI TO i1 i2 l1 l2 xs ys (i+1) h'→IsPair h' s.heap.objs.size x y→h'.objs.size=s.heap.objs.size+1→(∀ c o,c≠z→c≠TO→c≠i1→c≠i2→s.heap.get? c=some o→h'.get? c=some o)→Q (some (.ref s.heap.objs.size)) { s with heap:=h' }) :
  wpAny (model prog w) A (pyNext (.ref z)) Q E s:=by
 obtain⟨hz,hTI,⟨a,b,hTO⟩,h1,h2,hl1,hl2⟩:=h
 rcases hz with hz | ⟨T,f,hz,hT⟩
 ·refine wpAny_pyNext_zip_item D hz hTI hTO h1 h2 hl1 hl2 hx hy fun h' a1 a2 a3 a4 a5 a6 hk=>?_
  exact hQ h' ⟨.inr ⟨s.heap.objs.size,false,a1,_,a5⟩,hk _ _ D.TIz D.TITO D.TIi1 D.TIi2 hTI,⟨_,_,a2⟩,a3,a4,hl1.at fun o e=>hk _ o D.l1z D.l1TO D.l1i1 D.l1i2 e,hl2.at fun o e=>hk _ o D.l2z D.l2TO D.l2i1 D.l2i2 e⟩ a5 a6 hk
 ·have hTy:s.TypeIs (.ref z) "zip" := ⟨_,hz,rfl⟩
  unfold pyNext
  refine wpAny_bind (wpAny_attempt (wpAny_callSpecial?_slot (name:=Str.ofString "__next__") hTy F.slot_zip_next
   (wpAny_call_entry F.slot_zip_next hTy F.entry_zip_next
    (vv D hz hT hTI h1 h2 hl1 hl2 hx hy fun h' a1 a3 a4 a5 a6 hk=>wpAny_pure (hQ h' ⟨.inr ⟨T,true,a1,?_⟩,hk _ _ D.TIz D.TIi1 D.TIi2 hTI,⟨_,_,hk _ _ D.TOz D.TOi1 D.TOi2 hTO⟩,a3,a4,hl1.at fun o e=>hk _ o D.l1z D.l1i1 D.l1i2 e,hl2.at fun o e=>hk _ o D.l2z D.l2i1 D.l2i2 e⟩ a5 a6 fun c o c1 _ c3 c4 e=>hk c o c1 c3 c4 e)) (F.args_zip_next_1 _))))
  obtain⟨o,ho⟩:=hT
  by_cases c1:T=z
  ·exact⟨_,by rw[c1]; exact a1⟩
  by_cases c2:T=i1
  ·obtain⟨o',e',_⟩:=a3; exact⟨o',by rw[c2]; exact e'⟩
  by_cases c3:T=i2
  ·obtain⟨o',e',_⟩:=a4; exact⟨o',by rw[c3]; exact e'⟩
  exact⟨o,hk _ _ c1 c2 c3 ho⟩
theorem zi{z TI TO i1 i2 l1 l2:Addr}{i:Nat}{xs ys:Array Value}{Q:Option Value→Shared→Prop}(hh:A.handled=none)(D:ZipApart z TI TO i1 i2 l1 l2)(h:ZOs z TI TO i1 i2 l1 l2 xs ys i s.heap)(hend:xs[i]? = none∨ys[i]? = none)
  (hQ:∀ h',(∀ c o,c≠z→c≠TO→c≠i1→c≠i2→s.heap.get? c=some o→h'.get? c=some o)→Q none { s with heap:=h' }):wpAny (model prog w) A (pyNext (.ref z)) Q E s:=by
 obtain⟨hz,hTI,⟨a,b,hTO⟩,h1,h2,hl1,hl2⟩:=h
 rcases hz with hz | ⟨T,f,hz,hT⟩
 ·exact wpAny_pyNext_zip_end hh D hz hTI hTO h1 h2 hl1 hl2 hend hQ
 ·have hTy:s.TypeIs (.ref z) "zip" := ⟨_,hz,rfl⟩
  unfold pyNext
  refine wpAny_bind (wpAny_attempt (wpAny_callSpecial?_slot (name:=Str.ofString "__next__") hTy F.slot_zip_next
   (wpAny_call_entry F.slot_zip_next hTy F.entry_zip_next (xA hh D hz hT hTI h1 h2 hl1 hl2 hend fun h' e hk he=>?_) (F.args_zip_next_1 _))))
  obtain⟨o,ho,hc⟩:=he
  refine wpAny_bind (wpAny_isInstance (T := "StopIteration") (b:=true) ⟨o,ho,hc⟩ isSubtype_stop ?_)
  exact wpAny_pure (hQ _ fun c o c1 _ c3 c4 e=>hk c o c1 c3 c4 e)
theorem ZOs.at{z TI TO i1 i2 l1 l2:Addr}{xs ys:Array Value}{i:Nat}{h h':Heap}(x:ZOs z TI TO i1 i2 l1 l2 xs ys i h)(k:∀ b o,h.get? b=some o→((b=z∨b=TI∨b=TO∨b=i1∨b=i2∨b=l1∨b=l2)→h'.get? b=some o)∧∃ o',h'.get? b=some o'):ZOs z TI TO i1 i2 l1 l2 xs ys i h':=by
 obtain⟨hz,hTI,⟨a,b,hTO⟩,h1,h2,hl1,hl2⟩:=x
 refine⟨?_,(k _ _ hTI).1 (by simp),⟨a,b,(k _ _ hTO).1 (by simp)⟩,h1.at fun o e=>(k _ _ e).1 (by simp),h2.at fun o e=>(k _ _ e).1 (by simp),hl1.at fun o e=>(k _ _ e).1 (by simp),hl2.at fun o e=>(k _ _ e).1 (by simp)⟩
 rcases hz with hz | ⟨T,f,hz,o,hT⟩
 ·exact .inl ((k _ _ hz).1 (by simp))
 ·exact .inr ⟨T,f,(k _ _ hz).1 (by simp),(k _ _ hT).2⟩
def uX(xs ys:Array Value)(B:Nat)(acc:Array Value)(i:Nat)(h:Heap):Prop:=acc.size=i∧∀ j v,acc[j]? = some v→∃ x y,v = .ref (B+j)∧xs[j]? = some x∧ys[j]? = some y∧IsPair h (B+j) x y
theorem tR{R:Result→Shared→Prop}{z TI TO i1 i2 l1 l2:Addr}{xs ys:Array Value}{n:Nat}(hh:A.handled=none)(D:ZipApart z TI TO i1 i2 l1 l2)(hn:n≤1000)(hxy:∀ i,i<n→∃ x y,xs[i]? = some x∧ys[i]? = some y)(hend:xs[n]? = none∨ys[n]? = none)
  (S:Addr) (B:Nat) (hSB:S<B) (hS:∀ b,(b=z∨b=TI∨b=TO∨b=i1∨b=i2∨b=l1∨b=l2)→b<S) (res:Value) :
  ∀ (k i:Nat) (s:Shared) (acc:Array Value) (c:Nat),n - i=k→i≤n→ZOs z TI TO i1 i2 l1 l2 xs ys i s.heap→s.heap.get? S=some { cls:=.type "list", dict:=none,data:=.seq acc c,slots:=#[] }→uX xs ys B acc i s.heap→s.heap.objs.size=B+i→
  (∀ h' acc' c',(∀ b o,b≠S→b≠z→b≠TO→b≠i1→b≠i2→s.heap.get? b=some o→h'.get? b=some o)→h'.get? S=some { cls:=.type "list", dict:=none,data:=.seq acc' c',slots:=#[] }→uX xs ys B acc' n h'→R (.ok (.ret res)) { s with heap:=h' })→
  codeAny (model prog w) A (.builtin "list.extend.loop" ⟨[.ref S,.ref z,res],[]⟩) R s:=by
 have sz:S≠z:=Nat.ne_of_gt (hS z (by simp))
 have sTO:S≠TO:=Nat.ne_of_gt (hS TO (by simp))
 have si1:S≠i1:=Nat.ne_of_gt (hS i1 (by simp))
 have si2:S≠i2:=Nat.ne_of_gt (hS i2 (by simp))
 have bz:∀ j,B+j≠z:=fun j=>Nat.ne_of_gt (Nat.lt_of_lt_of_le (Nat.lt_trans (hS z (by simp)) hSB) (Nat.le_add_right _ _))
 have bTO:∀ j,B+j≠TO:=fun j=>Nat.ne_of_gt (Nat.lt_of_lt_of_le (Nat.lt_trans (hS TO (by simp)) hSB) (Nat.le_add_right _ _))
 have bi1:∀ j,B+j≠i1:=fun j=>Nat.ne_of_gt (Nat.lt_of_lt_of_le (Nat.lt_trans (hS i1 (by simp)) hSB) (Nat.le_add_right _ _))
 have bi2:∀ j,B+j≠i2:=fun j=>Nat.ne_of_gt (Nat.lt_of_lt_of_le (Nat.lt_trans (hS i2 (by simp)) hSB) (Nat.le_add_right _ _))
 have bS:∀ j,B+j≠S:=fun j=>Nat.ne_of_gt (Nat.lt_of_lt_of_le hSB (Nat.le_add_right _ _))
 intro k
 induction k with
 | zero=>
  intro i s acc c hk hi hst hSs hacc hsz hR
  have hin:i=n:=by omega
  subst hin;refine codeAny_builtin F.entry_extend_loop ?_
  rw[Around.under_plainId F.plain_extend_loop _];show wpAny _ A.in1 (pyNext (.ref z) >>= _) _ _ s
  refine wpAny_bind (zi (A:=A.in1) hh D hst hend fun h' hk'=>?_)
  refine wpAny_pure (hR h' acc c (fun b o _ c1 c2 c3 c4 e=>hk' b o c1 c2 c3 c4 e) (hk' _ _ sz sTO si1 si2 hSs) ⟨hacc.1,fun j v e=>?_⟩)
  obtain⟨x,y,e1,e2,e3,e4⟩:=hacc.2 j v e
  exact⟨x,y,e1,e2,e3,hk' _ _ (bz j) (bTO j) (bi1 j) (bi2 j) e4⟩
 | succ k ih=>
  intro i s acc c hk hi hst hSs hacc hsz hR
  have hlt:i<n:=by omega
  obtain⟨x,y,hx,hy⟩:=hxy i hlt
  refine codeAny_builtin F.entry_extend_loop ?_
  rw[Around.under_plainId F.plain_extend_loop _];show wpAny _ A.in1 (pyNext (.ref z) >>= _) _ _ s
  refine wpAny_bind (xE (A:=A.in1) D hst hx hy fun h' hst' hp hsz' hk'=>?_)
  have hS':=hk' _ _ sz sTO si1 si2 hSs;have hs16:sizeLine=16777216:=sizeLine_eq
  show wpAny _ A.in1 (updateSeq S (·.push (.ref s.heap.objs.size)) >>= _) _ _ _
  refine wpAny_bind ?_
  refine wpAny_updateSeq hS' rfl (wpAny_pure ⟨plainId_quiet F.plain_extend_loop _,?_⟩) (by rw[hacc.1]; omega) (by show (acc.push _).size≤sizeLine+1; rw[Array.size_push,hacc.1]; omega)
  have oth:∀ b o,b≠S→h'.get? b=some o→(h'.update S (Obj.mapSeq (·.push (.ref s.heap.objs.size)))).get? b=some o:=fun b o hb e=>(Heap.get?_update_other _ _ (Ne.symm hb)).trans e
  have hself:=Heap.get?_update_self (Obj.mapSeq (·.push (.ref s.heap.objs.size))) hS' rfl;have hszu:(h'.update S (Obj.mapSeq (·.push (.ref s.heap.objs.size)))).objs.size=h'.objs.size:=(Heap.SameBut.update ..).1
  refine ih (i+1) _ (acc.push (.ref s.heap.objs.size)) _ (by omega) hlt (hst'.at fun b o e=>⟨fun hb=>oth b o (Nat.ne_of_lt (hS b hb)) e,?_⟩) hself ⟨by rw[Array.size_push,hacc.1],fun j v e=>?_⟩ ?_ fun h'' acc' c' hk2 hS2 hacc2=>?_
  ·by_cases hb:b=S
   ·subst hb; exact⟨_,hself⟩
   ·exact⟨o,oth b o hb e⟩
  ·rw[Array.getElem?_push]at e
   split at e
   ·rename_i ej
    rw[hacc.1]at ej
    subst ej
    cases e;refine⟨x,y,by rw[hsz],hx,hy,?_⟩
    rw[← hsz];exact oth _ _ (by rw[hsz]; exact bS _) hp
   ·obtain⟨x',y',e1,e2,e3,e4⟩:=hacc.2 j v e
    exact⟨x',y',e1,e2,e3,oth _ _ (bS j) (hk' _ _ (bz j) (bTO j) (bi1 j) (bi2 j) e4)⟩
  ·show (h'.update S _).objs.size=_
   rw[hszu,hsz',hsz]; omega
  ·refine hR h'' acc' c' (fun b o c0 c1 c2 c3 c4 e=>hk2 b o c0 c1 c2 c3 c4 (oth b o c0 (hk' b o c1 c2 c3 c4 e))) hS2 hacc2
theorem t4:typeLookup (.type "zip") "__len__" = pure none:=by rw[typeLookup_type,builtinLookup_eq_fast]; kernel_rfl
theorem qH:typeLookup (.type "zip") "__length_hint__" = pure none:=by rw[typeLookup_type,builtinLookup_eq_fast]; kernel_rfl
theorem ZOs.typ{z TI TO i1 i2 l1 l2:Addr}{xs ys:Array Value}{i:Nat}(h:ZOs z TI TO i1 i2 l1 l2 xs ys i s.heap):s.TypeIs (.ref z) "zip" := by
 rcases h.1 with hz | ⟨T,f,hz,_⟩
 ·exact⟨_,hz,rfl⟩
 ·exact⟨_,hz,rfl⟩
theorem q_{R:Result→Shared→Prop}{z TI TO i1 i2 l1 l2:Addr}{xs ys:Array Value}{n:Nat}(hh:A.handled=none)(D:ZipApart z TI TO i1 i2 l1 l2)(hn:n≤1000)(hxy:∀ i,i<n→∃ x y,xs[i]? = some x∧ys[i]? = some y)(hend:xs[n]? = none∨ys[n]? = none)
  (S:Addr) (hS:∀ b,(b=z∨b=TI∨b=TO∨b=i1∨b=i2∨b=l1∨b=l2)→b<S) (res:Value) (c₀ : Nat) (hz:IsZip s.heap z TI TO .none) (hst:ZOs z TI TO i1 i2 l1 l2 xs ys 0 s.heap) (hSs:s.heap.get? S=some { cls:=.type "list", data:=.seq #[] c₀ }) (hsz:s.heap.objs.size=S+1)
  (hR:∀ h' acc' c',(∀ b o,b≠S→b≠z→b≠TO→b≠i1→b≠i2→s.heap.get? b=some o→h'.get? b=some o)→h'.get? S=some { cls:=.type "list", dict:=none,data:=.seq acc' c',slots:=#[] }→uX xs ys (S+1) acc' n h'→R (.ok (.ret res)) { s with heap:=h' }) :
  wpAny (model prog w) A.in1 (Builtin.List.listExtendWith (.ref S) (.ref z) res)
   (fun fin s'=>match fin with | .done f=>R (.ok f) s' | .again c'=>c'.quiet=true∧codeAny (model prog w) A c' R s') (fun e s'=>R (.error e) s') s:=by
 have sz:S≠z:=Nat.ne_of_gt (hS z (by simp))
 have hty:=hst.typ;unfold Builtin.List.listExtendWith;refine wpAny_bind (wpAny_typeOf hty ?_)
 have h1:Builtin.List.listSameRef (.ref S) (.ref z)=false:=by simp[Builtin.List.listSameRef,sz]
 have h2:(Value.type "zip" == Value.type "list")=false:=by decide
 have h3:(Value.type "zip" == Value.type "tuple")=false:=by decide
 simp only[h1,h2,h3,Bool.or_false,Bool.false_eq_true,if_false]
 refine wpAny_bind (wpAny_pyIter_zip hz ?_)
 refine wpAny_bind (wpAny_holding ?_)
 unfold Builtin.List.listLengthHint;refine wpAny_bind (wpAny_specialOf hty t4 ?_)
 show wpAny _ A.in1 (specialOf (Value.ref z) (Str.ofString "__length_hint__") >>= _) _ _ _
 refine wpAny_bind (wpAny_specialOf hty qH ?_)
 refine wpAny_pure ?_
 show wpAny _ A.in1 (rule "list.extend.makes-room" >>= fun _=>Builtin.List.listTouch (.ref S) >>= fun _=>
  again (.builtin "list.extend.loop" ⟨[.ref S,.ref z,res],[]⟩)) _ _ _
 refine wpAny_bind (wpAny_rule ?_)
 refine wpAny_bind ?_
 show wpAny _ A.in1 (updateSeq S (·.push .none) >>= fun _=>updateSeq S (·.pop)) _ _ _
 refine wpAny_bind (wpAny_updateSeq hSs rfl ?_)
 have hS₂:=Heap.get?_update_self (Obj.mapSeq (·.push Value.none)) hSs rfl;refine wpAny_updateSeq hS₂ rfl ?_
 have hS₃:=Heap.get?_update_self (Obj.mapSeq (·.pop)) hS₂ rfl
 have oth:∀ b o,b≠S→s.heap.get? b=some o→((s.heap.update S (Obj.mapSeq (·.push Value.none))).update S (Obj.mapSeq (·.pop))).get? b=some o:=
  fun b o hb e=>(Heap.get?_update_other _ _ (Ne.symm hb)).trans ((Heap.get?_update_other _ _ (Ne.symm hb)).trans e)
 have hz3:((s.heap.update S (Obj.mapSeq (·.push Value.none))).update S (Obj.mapSeq (·.pop))).objs.size=S+1:=by
  rw[(Heap.SameBut.update ..).1,(Heap.SameBut.update ..).1,hsz]
 refine wpAny_pure ⟨plainId_quiet F.plain_extend_loop _,tR (A:=A) hh D hn hxy hend S (S+1) (Nat.lt_succ_self _) hS res n 0 _ _ _ rfl (Nat.zero_le _) (hst.at fun b o e=>⟨fun hb=>oth b o (Nat.ne_of_lt (hS b hb)) e,?_⟩) hS₃ ⟨rfl,fun j v e=>by simp at e⟩ hz3 fun h' acc' c' hk hS' hacc=>?_⟩
 ·by_cases hb:b=S
  ·subst hb; exact⟨_,hS₃⟩
  ·exact⟨o,oth b o hb e⟩
 ·exact hR h' acc' c' (fun b o c0 c1 c2 c3 c4 e=>hk b o c0 c1 c2 c3 c4 (oth b o c0 e)) hS' hacc
theorem oC{Q:Value→Shared→Prop}{z TI TO i1 i2 l1 l2:Addr}{xs ys:Array Value}{n:Nat}(hh:A.handled=none)(D:ZipApart z TI TO i1 i2 l1 l2)(hn:n≤1000)(hxy:∀ i,i<n→∃ x y,xs[i]? = some x∧ys[i]? = some y)(hend:xs[n]? = none∨ys[n]? = none)
  (hz:IsZip s.heap z TI TO .none) (hst:ZOs z TI TO i1 i2 l1 l2 xs ys 0 s.heap)
  (hQ:∀ h' acc' c',(∀ b o,b≠z→b≠TO→b≠i1→b≠i2→s.heap.get? b=some o→h'.get? b=some o)→
   h'.get? s.heap.objs.size=some { cls:=.type "list", dict:=none,data:=.seq acc' c',slots:=#[] }→uX xs ys (s.heap.objs.size+1) acc' n h'→Q (.ref s.heap.objs.size) { s with heap:=h' }) :
  wpAny (model prog w) A (call (.type "list") [.ref z]) Q E s:=by
 have lt:∀ b,(b=z∨b=TI∨b=TO∨b=i1∨b=i2∨b=l1∨b=l2)→b<s.heap.objs.size:=fun b hb=>by
  obtain⟨_,hTI,⟨a',b',hTO⟩,⟨_,h1,_⟩,⟨_,h2,_⟩,⟨_,hl1,_⟩,⟨_,hl2,_⟩⟩:=id hst
  rcases hb with rfl | rfl | rfl | rfl | rfl | rfl | rfl
  ·exact Heap.lt_size hz
  ·exact Heap.lt_size hTI
  ·exact Heap.lt_size hTO
  ·exact Heap.lt_size h1
  ·exact Heap.lt_size h2
  ·exact Heap.lt_size hl1
  ·exact Heap.lt_size hl2
 refine callType_codes (Q₁:=fun obj s₁=>obj = .ref s.heap.objs.size∧s₁={ s with heap:=s.heap.push { cls:=.type "list", data:=.seq #[] } }) F.called_list (F.typeCall_list_1 _) F.entry_list_init
  (code_list_new _ ⟨rfl,rfl⟩) fun obj s₁ h₁=>?_
 obtain⟨rfl,rfl⟩:=h₁
 have hS:(s.heap.push { cls:=.type "list", data:=.seq #[] }).get? s.heap.objs.size=some { cls:=.type "list", data:=.seq #[] }:=Heap.get?_push_size _ rfl
 refine⟨⟨_,hS,rfl⟩,F.args_list_init_2 _ _,?_⟩
 show wpAny _ _ (do let old ← Builtin.List.listItems (.ref s.heap.objs.size); Builtin.List.listUpdate (.ref s.heap.objs.size) (fun _=>#[]); letGo old.toList.reverse; Builtin.List.listExtendWith (.ref s.heap.objs.size) (.ref z) .none) _ _ _
 refine wpAny_bind ?_
 unfold Builtin.List.listItems;refine wpAny_bind (wpAny_seqItems hS rfl (wpAny_pure ?_))
 show wpAny _ _ (updateSeq s.heap.objs.size (fun _=>#[]) >>= fun _=>letGo (#[]:Array Value).toList.reverse >>= fun _=>Builtin.List.listExtendWith (.ref s.heap.objs.size) (.ref z) .none) _ _ _
 refine wpAny_bind (wpAny_updateSeq hS rfl ?_)
 have hS₂:=Heap.get?_update_self (Obj.mapSeq (fun _=>(#[]:Array Value))) hS rfl
 have oth:∀ b o,b≠s.heap.objs.size→s.heap.get? b=some o→((s.heap.push { cls:=.type "list", data:=.seq #[] }).update s.heap.objs.size (Obj.mapSeq (fun _=>(#[]:Array Value)))).get? b=some o:=
  fun b o hb e=>(Heap.get?_update_other _ _ (Ne.symm hb)).trans (Heap.get?_push_of_some _ e)
 refine wpAny_bind (wpAny_letGo ?_)
 have hk0:∀ b o,s.heap.get? b=some o→((s.heap.push { cls:=.type "list", data:=.seq #[] }).update s.heap.objs.size (Obj.mapSeq (fun _=>(#[]:Array Value)))).get? b=some o:=fun b o e=>oth b o (Nat.ne_of_lt (Heap.lt_size e)) e
 refine q_ (A:=A.in1) hh D hn hxy hend s.heap.objs.size lt .none _ (hk0 _ _ hz) (hst.at fun b o e=>⟨fun _=>hk0 b o e,o,hk0 b o e⟩) hS₂ (by show (Heap.update _ _ _).objs.size=_; rw[(Heap.SameBut.update ..).1,Heap.size_push]) fun h' acc' c' hk hS' hacc=>?_
 exact⟨rfl,hQ h' acc' c' (fun b o c1 c2 c3 c4 e=>hk b o (Nat.ne_of_lt (Heap.lt_size e)) c1 c2 c3 c4 (hk0 b o e)) hS' hacc⟩
end
section
variable{X:Cx}{pins:List (Addr × Obj)}{σ : St}{H:Hp}{s:Shared}
theorem Inv.trk{a:Addr}{o:HO}(I:Inv X pins σ H s)(hn:H a=none)(h0:∀ b ob,X.s₀.heap.get? b=some ob→b≠a)(hl:X.env.locals≠a)(hc:∀ x c,X.env.cells.lookup x=some c→c≠a)
  (hp:∀ p∈X.pn++pins,p.1≠a) (ok:ObjOk X.prog X.w (upd H a o) s.heap a o):Inv X pins σ (upd H a o) s:=by
 refine⟨I.ok,I.os,I.bare,⟨I.base.keep,I.base.slot,fun b ob q n z=>?_,I.base.there,fun b xs q=>?_,fun b ob xs q=>?_,fun b ps q=>?_⟩,I.loc,I.cell,?_,fun x c q=>?_,fun p hm=>?_,fun b ob q=>?_,I.len⟩
 ·rw[al (h0 b ob q)]; exact I.base.free b ob q n z
 ·have:=I.base.tups b xs q; rw[al (aO this hn)]; exact this
 ·have:=I.base.frzs b ob xs q; rw[al (aO this hn)]; exact this
 ·obtain⟨m,e⟩:=I.base.tbls b ps q; exact⟨m,by rw[al (aO e hn)]; exact e⟩
 ·rw[al hl]; exact I.free
 ·rw[al (hc x c q)]; exact I.freeC x c q
 ·obtain⟨e1,e2,e3⟩:=I.pin p hm
  exact⟨e1,by rw[al (hp p hm)]; exact e2,e3⟩
 ·by_cases e:b=a
  ·subst e; rw[show upd H b o b=some o from if_pos rfl]at q; cases q; exact ok
  ·rw[al e]at q
   exact(I.hok b ob q).stay (fun _ _ _ z=>z) (fun c z=>by rw[al (aO z hn)]; exact z) fun c xs z=>by rw[al (aO z hn)]; exact z
end
def yL(K:PySem.W.Frag)(ta:TA):TE:=fun σ H Q=>ta σ H fun vs H1=>∃ (a b:Addr) (xs ys:List V),vs=[.ref a,.ref b]∧SqL K H1 a xs∧SqL K H1 b ys∧xs.length=ys.length∧xs.length≤1000∧
 ∀ (p:Addr) (ts:List Addr) (H2:Hp),Same H1 H2→H1 p=none→H2 p=some (.lst (ts.map V.ref))→ts.length=xs.length→(∀ (j:Nat) (t:Addr),ts[j]? = some t→∃ x y,xs[j]? = some x∧ys[j]? = some y∧H2 t=some (.tup [x,y])∧H1 t=none)→Q (.ref p) H2
section
variable{X:Cx}{pins:List (Addr × Obj)}{σ : St}{H H1:Hp}{s s1:Shared}
theorem Inv.trkF{a:Addr}{o:HO}(I:Inv X pins σ H s)(I1:Inv X pins σ H1 s1)(hb:s1.heap.objs.size≤a)(hn:H a=none)(ok:ObjOk X.prog X.w (upd H a o) s.heap a o):Inv X pins σ (upd H a o) s:=by
 obtain⟨_,f1,_,_,f4,f5⟩:=I1.fpOk (H':=H) hb hn
 exact I.trk hn (fun b ob e=>Nat.ne_of_lt (Nat.lt_of_lt_of_le (Heap.lt_size e) (Nat.le_trans I1.sz hb))) (fun z=>f1 z.symm) f4 f5 ok
theorem rM(I1:Inv X pins σ H1 s1)(B:Nat)(hB:s1.heap.objs.size≤B):∀ (L:List (V × V)) (j:Nat) (H:Hp),Inv X pins σ H s→(∀ i,j≤i→H (B+i)=none)→(∀ i p,L[i]? = some p→∃ u v,RelV p.1 u∧RelV p.2 v∧IsPair s.heap (B+(j+i)) u v)→
  ∃ H2,Inv X pins σ H2 s∧Same H H2∧∀ i p,L[i]? = some p→H2 (B+(j+i))=some (.tup [p.1,p.2])
 | [],j,H,I,_,_=>⟨H,I,fun _ _ e=>e,fun i p e=>by simp at e⟩
 | p::L,j,H,I,hn,hp=>by
  obtain⟨u,v,ru,rv,e0⟩:=hp 0 p rfl
  have hs:sizeLine=16777216:=sizeLine_eq
  have hnj:=hn j (Nat.le_refl _);have I2:=I.trkF (a:=B+j) (o:=.tup [p.1,p.2]) I1 (Nat.le_trans hB (Nat.le_add_right _ _)) hnj ⟨by simp[hs],[u,v],.cons ru (.cons rv .nil),_,e0,rfl,rfl,_,rfl⟩
  obtain⟨H2,J,sm,hh⟩:=rM I1 B hB L (j+1) (upd H (B+j) (.tup [p.1,p.2])) I2 (fun i hi=>by
   have ne:B+i≠B+j:=(show (@Ne Nat (B+i) (B+j):Prop) by omega)
   rw[al ne]; exact hn i (by omega)) (fun i q e=>by
   obtain⟨u',v',r1,r2,r3⟩:=hp (i+1) q (by rw[List.getElem?_cons_succ]; exact e)
   refine⟨u',v',r1,r2,?_⟩
   rw[show B+(j+1+i)=B+(j+(i+1)) by omega]; exact r3)
  refine⟨H2,J,(ak hnj _).trans sm,fun i q e=>?_⟩
  cases i with
  | zero=>cases e; exact sm _ _ ae
  | succ i=>
   rw[show B+(j+(i+1))=B+(j+1+i) by omega]
   exact hh i q (by rw[List.getElem?_cons_succ]at e; exact e)
end
theorem Dr{n l1 l2:Addr}(h1:l1<n)(h2:l2<n):ZipApart (n+4) (n+2) (n+3) n (n+1) l1 l2:=by
 have a:=Ga n;have k1:∀ j,l1≠n+j:=fun j=>Nat.ne_of_lt (Nat.lt_of_lt_of_le h1 (Nat.le_add_right _ _))
 have k2:∀ j,l2≠n+j:=fun j=>Nat.ne_of_lt (Nat.lt_of_lt_of_le h2 (Nat.le_add_right _ _))
 exact⟨a.TIz,a.TOz,a.i1z,a.i2z,a.TITO,a.TIi1,a.TIi2,a.TOi1,a.TOi2,a.i12,k1 4,k1 3,Nat.ne_of_lt h1,k1 1,k2 4,k2 3,Nat.ne_of_lt h2,k2 1⟩
theorem tG(K:PySem.W.Frag){X:Cx}{m:Nat}{a b:Expr}{ta:TA}{p p2 pos pos2:Pos}(hr:Room m X.A)(hg:Gl X "list") (hm:X.mg "list" = none) (hg2:Gl X "zip") (hm2:X.mg "zip" = none) (ha:PA X [a,b] ta)
  (hs:starEach [a,b] X.env=[(false,eval a X.env),(false,eval b X.env)]:=by rfl) (hs1:starEach [b] X.env=[(false,eval b X.env)]:=by rfl) (hs2:starEach [.Call (.Name "zip" p2) [a,b] [] pos2] X.env=[(false,eval (.Call (.Name "zip" p2) [a,b] [] pos2) X.env)]:=by rfl) (hK:X.K=K:=by rfl) :
  PE X (.Call (.Name "list" p) [.Call (.Name "zip" p2) [a,b] [] pos2] [] pos) (yL K ta):=by
 subst hK;intro pins s σ H Q I h
 refine Call_ (iS I hg hm dE (PyProof.Rows.callWith_type1 ?_ hs2 rfl))
 rw[hs2];show wpAny _ _ (spliced ((false,eval (.Call (.Name "zip" p2) [a,b] [] pos2) X.env)::[])) _ _ s
 refine Calls.spliced_cons ?_
 refine Call_ (iS I hg2 hm2 xX (PyProof.Rows.callWith_type1 (bc (ha pos2 pins s σ H _ I h) fun us s1 ⟨vs,H1,I1,r1,q1⟩=>?_) (by rw[hs,hs1]) (by rw[hs1]; rfl)))
 obtain⟨l1,l2,xs,ys,e,h1,h2,hlen,hle,q⟩:=q1
 subst e;obtain⟨u1,u2,rfl,r1,r2⟩:=oN r1
 cases r1
 cases r2;obtain⟨is1,v1,p1,_⟩:=I1.list h1
 obtain⟨is2,v2,p2,_⟩:=I1.list h2
 have n1:is1.length=xs.length:=v1.length.symm
 have n2:is2.length=xs.length:=by rw[hlen]; exact v2.length.symm
 refine call_zip_2 p1.isList p2.isList fun h' a1 a2 a3 a4 a5 a6 kk=>?_
 refine Calls.spliced_nil ?_
 obtain⟨_,b1,_⟩:=id p1.isList
 obtain⟨_,b2,_⟩:=id p2.isList
 refine oC (s:={ s1 with heap:=h' }) (xs:=is1.toArray) (ys:=is2.toArray) (n:=xs.length) hr.hd (Dr (Heap.lt_size b1) (Heap.lt_size b2)) hle (fun i hi=>⟨is1[i]'(by omega),is2[i]'(by omega),by simp[n1,hi],by simp[n2,hi]⟩) (.inl (by simp[n1])) a1 ⟨.inl a1,a2,⟨_,_,a3⟩,a4,a5,p1.isList.at fun o e=>kk _ o e,p2.isList.at fun o e=>kk _ o e⟩ fun h'' acc' c' hk hS hacc=>?_
 have I2:Inv X pins σ H1 { s1 with heap:=h'' }:=I1.kept (t':=s1.toks) fun b o e=>by
  have hb:=Heap.lt_size e;have ne:∀ j,b≠s1.heap.objs.size+j:=fun j=>Nat.ne_of_lt (Nat.lt_of_lt_of_le hb (Nat.le_add_right _ _))
  exact hk b o (ne 4) (ne 3) (Nat.ne_of_lt hb) (ne 1) (kk b o e)
 have hS':h''.get? h'.objs.size=some { cls:=.type "list", dict:=none,data:=.seq acc' c',slots:=#[] }:=hS
 have hacc':uX is1.toArray is2.toArray (h'.objs.size+1) acc' xs.length h'':=hacc
 have hsz:s1.heap.objs.size≤h'.objs.size:=by rw[a6]; exact Nat.le_add_right _ _
 have hsl:sizeLine=16777216:=sizeLine_eq
 have hn0:∀ b,h'.objs.size≤b→H1 b=none:=fun b hb=>I1.hok.fresh (Nat.le_trans hsz hb)
 have hat:∀ j,j<xs.length→acc'[j]? = some (.ref (h'.objs.size+1+j))∧∃ u v,is1[j]? = some u∧is2[j]? = some v∧IsPair h'' (h'.objs.size+1+j) u v:=fun j hj=>by
  have hj':j<acc'.size:=by rw[hacc'.1]; exact hj
  have e:=Array.getElem?_eq_getElem hj';obtain⟨x,y,e1,e2,e3,e4⟩:=hacc'.2 j _ e
  exact⟨by rw[e,e1],x,y,by simpa using e2,by simpa using e3,e4⟩
 have I3:=I2.trkF (a:=h'.objs.size) (o:=.lst (((List.range xs.length).map fun j=>h'.objs.size+1+j).map V.ref)) I1 hsz (hn0 _ (Nat.le_refl _)) ⟨by simp; omega,acc'.toList,c',kL _ _ (by simp[hacc'.1]) fun j x w' e1 e2=>by
  have hj:j<xs.length:=by
   refine Classical.byContradiction fun hn=>?_
   rw[List.getElem?_eq_none (by simp; omega)]at e1; cases e1
  rw[List.getElem?_map,List.getElem?_map,List.getElem?_range hj]at e1
  cases e1;have e3:=(hat j hj).1;rw[← Array.getElem?_toList,e2]at e3
  cases e3;exact rfl,by simpa using hS'⟩
 obtain⟨H2,I4,sm,ht⟩:=rM I1 (h'.objs.size+1) (Nat.le_trans hsz (Nat.le_succ _)) (xs.zip ys) 0 _ I3 (fun i _=>by
  have ne:h'.objs.size+1+i≠h'.objs.size:=(show (@Ne Nat (h'.objs.size+1+i) (h'.objs.size):Prop) by omega)
  rw[al ne]
  exact hn0 _ (Nat.le_trans (Nat.le_succ _) (Nat.le_add_right _ _))) (fun i p e=>by
  have hi:i<xs.length:=by have:=(List.getElem?_eq_some_iff.mp e).1; rw[List.length_zip,← hlen,Nat.min_self]at this; exact this
  obtain⟨_,u,v,f1,f2,f3⟩:=hat i hi
  rw[List.getElem?_zip_eq_some]at e
  refine⟨u,v,gX v1 e.1 f1,gX v2 e.2 f2,?_⟩
  rw[Nat.zero_add]; exact f3)
 refine⟨.ref h'.objs.size,H2,I4,rfl,q h'.objs.size ((List.range xs.length).map fun j=>h'.objs.size+1+j) H2 ((ak (hn0 _ (Nat.le_refl _)) _).trans sm) (hn0 _ (Nat.le_refl _)) (sm _ _ ae) (by simp) (fun j t e=>?_)⟩
 have hj:j<xs.length:=by have:=(List.getElem?_eq_some_iff.mp e).1; simpa using this
 rw[List.getElem?_map,List.getElem?_range hj]at e
 cases e;have hj2:j<ys.length:=by omega
 refine⟨xs[j],ys[j],List.getElem?_eq_getElem hj,List.getElem?_eq_getElem hj2,?_,hn0 _ (Nat.le_trans (Nat.le_succ _) (Nat.le_add_right _ _))⟩
 have:=ht j (xs[j],ys[j]) (by rw[List.getElem?_zip_eq_some]; exact⟨List.getElem?_eq_getElem hj,List.getElem?_eq_getElem hj2⟩)
 rw[Nat.zero_add]at this
 exact this
end L2
namespace L2
open PySem PySem.Spec PyProof.Rows PySem.SeqAt PySem.Builtin PySem.Builtin.Str PySem.StrLaws
end L2
namespace L2
open PySem
def gM(M i:Nat):Nat:=(i * 5+1) % M
def li(M:Nat):Nat→Nat→Nat
 | 0,i=>i
 | t+1,i=>li M t (gM M i)
theorem kQ(M:Nat):∀ (a b i:Nat),li M (a+b) i=li M b (li M a i)
 | 0,b,i=>by rw[Nat.zero_add]; rfl
 | a+1,b,i=>by rw[show a+1+b=(a+b)+1 by omega]; exact kQ M a b (gM M i)
def wU(M:Nat):Nat→Nat→List Nat
 | 0,_=>[]
 | n+1,i=>i::wU M n (gM M i)
theorem su(M:Nat):∀ (n i e:Nat),e∈wU M n i→∃ t,t<n∧li M t i=e
 | 0,i,e,h=>by cases h
 | n+1,i,e,h=>by
  rcases List.mem_cons.mp h with rfl | h
  ·exact⟨0,by omega,rfl⟩
  ·obtain⟨t,ht,q⟩:=su M n (gM M i) e h
   exact⟨t+1,by omega,q⟩
theorem zo{M:Nat}(hM:M∈[8,16,32,64,128,256]){i e:Nat}(hi:i<M)(he:e<M):∃ t,t<M∧li M t i=e:=by
 have h1:∀ M∈[8,16,32,64,128,256],li M M 0=0∧(List.range M).all (fun e=>(wU M M 0).contains e)=true:=by decide +kernel
 obtain⟨h0,hall⟩:=h1 M hM
 rw[List.all_eq_true]at hall
 have meet:∀ e,e<M→∃ t,t<M∧li M t 0=e:=fun e he=>su M M 0 e (by have:=hall e (List.mem_range.mpr he); simpa using this)
 obtain⟨a,ha,ea⟩:=meet i hi
 obtain⟨b,hb,eb⟩:=meet e he
 rcases Nat.lt_or_ge b a with z | z
 ·refine⟨b+M - a,by omega,?_⟩
  rw[← ea,← kQ,show a+(b+M - a)=M+b by omega,kQ,h0,eb]
 ·refine⟨b - a,by omega,?_⟩
  rw[← ea,← kQ,show a+(b - a)=b by omega,eb]
def j6(mask:Nat):Nat→Nat→Nat→Nat
 | 0,i,p=>i
 | t+1,i,p=>j6 mask t ((i * 5+1+p / 32) % (mask+1)) (p / 32)
theorem pe(mask:Nat):∀ (t i:Nat),j6 mask t i 0=li (mask+1) t i
 | 0,i=>rfl
 | t+1,i=>by
  show j6 mask t ((i * 5+1+0 / 32) % (mask+1)) (0 / 32)=li (mask+1) t (gM (mask+1) i)
  rw[Nat.zero_div,Nat.add_zero];exact pe mask t _
theorem rA(mask:Nat):∀ (a b i p:Nat),j6 mask (a+b) i p=j6 mask b (j6 mask a i p) (p / 32 ^ a)
 | 0,b,i,p=>by rw[Nat.zero_add,Nat.pow_zero,Nat.div_one]; rfl
 | a+1,b,i,p=>by
  rw[show a+1+b=(a+b)+1 by omega]
  show j6 mask (a+b) _ (p / 32)=j6 mask b (j6 mask a _ (p / 32)) _
  rw[rA mask a b,Nat.div_div_eq_div_mul,Nat.pow_succ,Nat.mul_comm (32 ^ a) 32]
theorem vN(mask:Nat):∀ (t i p:Nat),i≤mask→j6 mask t i p≤mask
 | 0,i,p,h=>h
 | t+1,i,p,h=>vN mask t _ _ (by have:=Nat.mod_lt (i * 5+1+p / 32) (show 0<mask+1 by omega); omega)
theorem zZ(mask i:Nat):i≤SetTable.runEnd mask i:=by unfold SetTable.runEnd; split <;> omega
theorem oh{mask:Nat}{owner:Array (Option Nat)}:∀ (f i p:Nat),SetTable.layClean.free mask owner f i p=none→∀ t,t<f→(owner.getD (j6 mask t i p) (some 0)).isNone=false
 | 0,i,p,h,t,ht=>by omega
 | f+1,i,p,h,t,ht=>by
  unfold SetTable.layClean.free at h;split at h
  ·cases h
  ·rename_i hf
   rw[List.find?_eq_none]at hf
   cases t with
   | zero=>
    have t:=hf 0 (List.mem_range.mpr (by have:=zZ mask i; omega))
    rw[Nat.add_zero]at t
    exact Bool.eq_false_iff.mpr t
   | succ t=>exact oh f _ _ h t (by omega)
theorem nz{mask:Nat}{owner:Array (Option Nat)}{j:Nat}:∀ (f i p:Nat),SetTable.layClean.free mask owner f i p=some j→(owner.getD j (some 0)).isNone=true
 | 0,i,p,h=>by unfold SetTable.layClean.free at h; cases h
 | f+1,i,p,h=>by
  unfold SetTable.layClean.free at h;split at h
  ·rename_i k hf
   cases h;exact @List.find?_some _ (fun k=>(owner.getD (i+k) (some 0)).isNone) _ _ hf
  ·exact nz f _ _ h
theorem zr(h:Int):SetTable.bits h<2 ^ 64:=by
 unfold SetTable.bits;omega
theorem zn{mask:Nat}(hM:mask+1∈[8,16,32,64,128,256]){owner:Array (Option Nat)}{e:Nat}(he:e≤mask)(hn:(owner.getD e (some 0)).isNone=true)(h:Int) :
  ∃ j,SetTable.layClean.free mask owner (SetTable.turns mask) (SetTable.bits h % (mask+1)) (SetTable.bits h)=some j∧(owner.getD j (some 0)).isNone=true:=by
 cases q:SetTable.layClean.free mask owner (SetTable.turns mask) (SetTable.bits h % (mask+1)) (SetTable.bits h) with
 | some j=>exact⟨j,rfl,nz _ _ _ q⟩
 | none=>
  exfalso
  have hno:=oh _ _ _ q;have hi:SetTable.bits h % (mask+1)≤mask:=by have:=Nat.mod_lt (SetTable.bits h) (show 0<mask+1 by omega); omega
  obtain⟨t,ht,et⟩:=zo hM (i:=j6 mask 13 (SetTable.bits h % (mask+1)) (SetTable.bits h)) (e:=e) (by have:=vN mask 13 _ (SetTable.bits h) hi; omega) (by omega)
  have z:=hno (13+t) (by unfold SetTable.turns; omega)
  have hz:SetTable.bits h / 32 ^ 13=0:=Nat.div_eq_of_lt (Nat.lt_of_lt_of_le (zr h) (by decide))
  rw[rA,hz,pe,et,hn]at z
  cases z
theorem uG{α : Type}(f g:Nat→Option α)(j:Nat)(k:α)(hf:f j=none)(hg:g j=some k)(he:∀ i,i≠j→g i=f i):∀ (l:List Nat),l.Nodup→(j∈l→(l.filterMap g).Perm (k::l.filterMap f))∧(j∉l→l.filterMap g=l.filterMap f)
 | [],_=>⟨fun h=>(nomatch h),fun _=>rfl⟩
 | a::l,nd=>by
  rw[List.nodup_cons]at nd
  have ih:=uG f g j k hf hg he l nd.2
  by_cases e:a=j
  ·subst e
   refine⟨fun _=>?_,fun h=>absurd List.mem_cons_self h⟩
   rw[List.filterMap_cons_some hg,List.filterMap_cons_none hf,ih.2 nd.1]
  ·refine⟨fun h=>?_,fun h=>?_⟩
   ·have hl:j∈l:=by
     rcases List.mem_cons.mp h with z | z
     ·exact absurd z.symm e
     ·exact z
    have:=ih.1 hl
    cases q:f a with
    | none=>rw[List.filterMap_cons_none (by rw[he a e]; exact q),List.filterMap_cons_none q]; exact this
    | some x=>
     rw[List.filterMap_cons_some (by rw[he a e]; exact q),List.filterMap_cons_some q]
     exact(this.cons x).trans (List.Perm.swap _ _ _)
   ·have hl:j∉l:=fun z=>h (List.mem_cons_of_mem _ z)
    cases q:f a with
    | none=>rw[List.filterMap_cons_none (by rw[he a e]; exact q),List.filterMap_cons_none q,ih.2 hl]
    | some x=>rw[List.filterMap_cons_some (by rw[he a e]; exact q),List.filterMap_cons_some q,ih.2 hl]
structure rH (mask:Nat) (owner:Array (Option Nat)) (k:Nat):Prop where
 sz:owner.size=mask+1
 pm:((List.range (mask+1)).filterMap (fun j=>owner.getD j none)).Perm (List.range k)
theorem xW{mask:Nat}{owner:Array (Option Nat)}{k j:Nat}(h:rH mask owner k)(hj:(owner.getD j (some 0)).isNone=true):rH mask (owner.setIfInBounds j (some k)) (k+1):=by
 have hlt:j<owner.size:=by
  rcases Nat.lt_or_ge j owner.size with z | z
  ·exact z
  ·rw[Array.getD_eq_getD_getElem?,Array.getElem?_eq_none z]at hj; cases hj
 have hjn:owner.getD j none=none:=by
  rw[Array.getD_eq_getD_getElem?,Array.getElem?_eq_getElem hlt]at hj ⊢
  simpa using hj
 refine⟨by rw[Array.size_setIfInBounds]; exact h.sz,?_⟩
 have:=(uG (fun i=>owner.getD i none) (fun i=>(owner.setIfInBounds j (some k)).getD i none) j k hjn (by simp[Array.getD_eq_getD_getElem?,Array.getElem?_setIfInBounds,hlt]) (fun i hi=>by simp[Array.getD_eq_getD_getElem?,Array.getElem?_setIfInBounds,Ne.symm hi]) (List.range (mask+1)) List.nodup_range).1 (List.mem_range.mpr (by have:=h.sz; omega))
 refine this.trans ((h.pm.cons k).trans ?_)
 rw[List.range_succ];exact(List.perm_append_comm (l₁:=[k]) (l₂:=List.range k))
theorem wW{mask:Nat}{owner:Array (Option Nat)}{k:Nat}(h:rH mask owner k)(hk:k≤mask):∃ e,e≤mask∧(owner.getD e (some 0)).isNone=true:=by
 refine Classical.byContradiction fun hn=>?_
 have hall:∀ e∈List.range (mask+1),(owner.getD e none).isSome=true:=fun e he=>by
  have he':=List.mem_range.mp he;have hlt:e<owner.size:=by rw[h.sz]; exact he'
  cases q:(owner.getD e (some 0)).isNone with
  | true=>exact absurd ⟨e,by omega,q⟩ hn
  | false=>
   rw[Array.getD_eq_getD_getElem?,Array.getElem?_eq_getElem hlt]at q ⊢
   cases z:owner[e] with
   | none=>rw[z]at q; cases q
   | some x=>simp[z]
 have hl:((List.range (mask+1)).filterMap (fun j=>owner.getD j none)).length=mask+1:=by
  have gen:∀ (l:List Nat),(∀ e∈l,(owner.getD e none).isSome=true)→(l.filterMap (fun j=>owner.getD j none)).length=l.length:=by
   intro l
   induction l with
   | nil=>intro _; rfl
   | cons a l ih=>
    intro ha
    obtain⟨x,hx⟩:=Option.isSome_iff_exists.mp (ha a List.mem_cons_self)
    rw[List.filterMap_cons_some (f:=fun j=>owner.getD j none) hx,List.length_cons,List.length_cons,ih fun e he=>ha e (List.mem_cons_of_mem _ he)]
  rw[gen _ hall,List.length_range]
 have:=h.pm.length_eq
 rw[hl,List.length_range]at this
 omega
theorem pY{mask:Nat}(hM:mask+1∈[8,16,32,64,128,256]):∀ (hs:List Int) (owner:Array (Option Nat)) (k:Nat),rH mask owner k→k+hs.length≤mask+1→
  ∃ owner',hs.foldl (fun (acc:Option (Array (Option Nat) × Nat)) h=>do
   let (owner,k) ← acc
   let j ← SetTable.layClean.free mask owner (SetTable.turns mask) (SetTable.bits h % (mask+1)) (SetTable.bits h)
   pure (owner.setIfInBounds j (some k),k+1)) (some (owner,k))=some (owner',k+hs.length)∧rH mask owner' (k+hs.length)
 | [],owner,k,h,_=>⟨owner,rfl,h⟩
 | x::hs,owner,k,h,hl=>by
  rw[List.length_cons]at hl
  obtain⟨e,he,hn⟩:=wW h (by omega)
  obtain⟨j,ej,hj⟩:=zn hM he hn x
  obtain⟨o',e',h'⟩:=pY hM hs _ (k+1) (xW h hj) (by omega)
  refine⟨o',?_,by rw[List.length_cons,show k+(hs.length+1)=k+1+hs.length by omega]; exact h'⟩
  rw[List.foldl_cons,List.length_cons,show k+(hs.length+1)=k+1+hs.length by omega,← e']
  congr 1
  show (some (owner,k)).bind _=_
  rw[Option.bind_some];show (SetTable.layClean.free mask owner (SetTable.turns mask) (SetTable.bits x % (mask+1)) (SetTable.bits x)).bind _=_
  rw[ej]; rfl
theorem zf(mask:Nat):rH mask (Array.replicate (mask+1) none) 0:=by
 refine⟨by simp,?_⟩
 have:(List.range (mask+1)).filterMap (fun j=>(Array.replicate (mask+1) (none:Option Nat)).getD j none)=[]:=by
  rw[List.filterMap_eq_nil_iff];intro j _
  rw[Array.getD_eq_getD_getElem?,Array.getElem?_replicate];split <;> rfl
 rw[this];exact List.Perm.refl _
theorem rN{mask:Nat}(hM:mask+1∈[8,16,32,64,128,256])(f m:Nat)(led plain:Bool)(hs:Array Int)(hl:hs.size≤mask) :
  ∃ t order,SetTable.laid mask f m led plain hs=some (t,order)∧order.toList.Perm (List.range hs.size)∧t.mask=mask∧t.place.size=hs.size∧t.dummies = #[]∧t.led=led:=by
 obtain⟨owner,e,h⟩:=pY hM hs.toList _ 0 (zf mask) (by simp; omega)
 rw[Nat.zero_add]at e h
 have ec:SetTable.layClean mask hs=some owner:=by
  unfold SetTable.layClean;rw[← Array.foldl_toList];rw[e]; rfl
 unfold SetTable.laid;rw[ec];refine⟨_,_,rfl,?_,rfl,?_,rfl,rfl⟩
 ·show (((List.range (mask+1)).filterMap fun j=>(owner.getD j none).map (j,·)).map (·.2)).toArray.toList.Perm _
  rw[List.map_filterMap]
  have:(fun j=>Option.map (fun x:Nat × Nat=>x.2) ((owner.getD j none).map (j,·)))=fun j=>owner.getD j none:=by
   funext j
   cases owner.getD j none <;> rfl
  rw[this]
  simpa using h.pm
 ·show (((List.range (mask+1)).filterMap fun j=>(owner.getD j none).map (j,·)).map (·.1)).toArray.size=_
  have h2:=h.pm.length_eq
  have h3:((List.range (mask+1)).filterMap fun j=>(owner.getD j none).map (j,·)).length=((List.range (mask+1)).filterMap fun j=>owner.getD j none).length:=by
   have:((List.range (mask+1)).filterMap fun j=>owner.getD j none)=((List.range (mask+1)).filterMap fun j=>(owner.getD j none).map (j,·)).map (·.2):=by
    rw[List.map_filterMap]
    congr 1
    funext j
    cases owner.getD j none <;> rfl
   rw[this,List.length_map]
  simp only[List.size_toArray,List.length_map]
  rw[h3,h2,List.length_range]; simp
theorem xO:∀ n,n≤240→SetTable.sizeAbove n - 1+1∈[8,16,32,64,128,256]∧n≤SetTable.sizeAbove n - 1:=by decide +kernel
end L2
namespace L2
open PySem PySem.Spec PyProof.Rows PySem.SeqAt
section
variable{prog:Program}{w:World}{K:Type}[DecidableEq K]{knd:KeyKind prog w K}{A:Around}{E:Value→Shared→Prop}{s:Shared}{L:Bool}
theorem uy{es:Array (Int × Value)}{order:Array Nat}(hp:order.toList.Perm (List.range es.size)):(order.filterMap (es[·]?)).toList.Perm es.toList:=by
 rw[Array.toList_filterMap];exact(hp.filterMap _).trans (by rw[filterMap_getElem?_range])
theorem mi{mask f m:Nat}{led plain:Bool}{hs:Array Int}{t:SetTable}{order:Array Nat}(e:SetTable.laid mask f m led plain hs=some (t,order)):fh t.place:=by
 unfold SetTable.laid at e
 cases ho:SetTable.layClean mask hs with
 | none=>rw[ho]at e; cases e
 | some owner=>
  rw[ho]at e
  cases e;refine gQ ?_
  refine List.pairwise_map.mpr ?_
  refine List.Pairwise.filterMap _ ?_ List.pairwise_lt_range
  intro a b hab x hx y hy
  obtain⟨k,_,rfl⟩:=Option.map_eq_some_iff.mp hx
  obtain⟨k',_,rfl⟩:=Option.map_eq_some_iff.mp hy
  exact hab
def z8(mask:Nat):Prop:=mask+1∈[8,16,32,64,128,256]
def SetX(knd:KeyKind prog w K)(L:Bool)(h:Heap)(a:Addr)(S:K→Bool)(n m:Nat):Prop:=∃ o es ep t,h.get? a=some o∧kz knd (bj L) o es ep t S n∧z8 t.mask∧m≤t.mask∧t.dummies = #[]
theorem SetX.g{h:Heap}{a:Addr}{S:K→Bool}{n m:Nat}(x:SetX knd L h a S n m):SetG knd (bj L) h a S n:=let ⟨o,es,ep,t,ho,T,_⟩:=x; ⟨o,es,ep,t,ho,T⟩
theorem lG{o:Obj}{es es':Array (Int × Value)}{ep:Nat}{t t':SetTable}{S:K→Bool}{n:Nat}(T:kz knd (bj L) o es ep t S n)(hp:es'.toList.Perm es.toList)(hf:t'.fits es'.size=true)(hg:bj L t'):∀ {o':Obj} {ep':Nat},o'.ExactSet→o'.data = .set es' ep' t'→kz knd (bj L) o' es' ep' t' S n:=fun {o' ep'} ex da=>by
 have hsz:es'.size=es.size:=by rw[← Array.length_toList,hp.length_eq,Array.length_toList]
 exact⟨ex,da,T.el.perm hp,fun k'=>(T.mem k').trans ⟨fun ⟨e,he,q⟩=>⟨e,hp.mem_iff.mpr he,q⟩,fun ⟨e,he,q⟩=>⟨e,hp.mem_iff.mp he,q⟩⟩,by rw[hsz]; exact T.few,hf,by rw[hsz]; exact T.num,hg,T.apart.perm hp⟩
theorem rh{t:SetTable}{n:Nat}(h1:t.place.size=n)(h2:t.dummies = #[])(h3:n≤t.mask):t.fits n=true:=by
 unfold SetTable.fits SetTable.fill;rw[h1,h2];simp
 omega
theorem uY{a:Addr}{S:K→Bool}{n wanted:Nat}{Q:Unit→Shared→Prop}(hS:SetG knd (bj L) s.heap a S n)(hw:wanted≤240)(hn:n≤wanted)
  (h:∀ h',Heap.SameBut a s.heap h'→SetX knd L h' a S n wanted→Q () { s with heap:=h' }):wpAny (model prog w) A (setRelay a wanted) Q E s:=by
 obtain⟨o,es,ep,t,ho,T⟩:=hS
 obtain⟨hM,hm⟩:=xO wanted hw
 unfold setRelay;refine wpAny_bind (wpAny_setState_of ho T.dat T.fit ?_)
 dsimp only
 have hsa:¬ SetTable.sizeAbove wanted>sizeLine:=by
  have:SetTable.sizeAbove wanted - 1+1≤256:=by
   simp only[List.mem_cons,List.not_mem_nil,or_false]at hM
   omega
  have hs:sizeLine=16777216:=sizeLine_eq
  omega
 rw[if_neg hsa];obtain⟨t',order,e,hp,hmask,hpl,hdu,hled⟩:=rN hM t.finger (t.movedTo (SetTable.sizeAbove wanted - 1)) t.led t.plain (es.map (·.1)) (by rw[Array.size_map,T.num]; omega)
 rw[Array.size_map]at hp hpl
 have hr:t.relaid (es.map (·.1)) wanted=some (t',order):=e
 rw[hr];have hpm:=uy hp;have hsz:(order.filterMap (es[·]?)).size=es.size:=by rw[← Array.length_toList,hpm.length_eq,Array.length_toList]
 refine wpAny_bind ?_
 show wpAny _ _ (if ((order.filterMap (es[·]?)).size != es.size)=true then _ else pure (order.filterMap (es[·]?),t')) _ _ _
 rw[if_neg (by rw[hsz]; simp)]
 refine wpAny_pure ?_
 dsimp only
 have hf':t'.fits (order.filterMap (es[·]?)).size=true:=by rw[hsz]; exact rh hpl hdu (by rw[hmask,T.num]; omega)
 have hg':bj L t':=⟨hled.trans T.good.led,mi e⟩
 obtain⟨o1,ho1,U1⟩:=stored (es':=order.filterMap (es[·]?)) (t':=t') (S':=S) (n':=n) ho T fun o' ex da=>lG T hpm hf' hg' ex da
 refine wpAny_storeSet_of ho T.dat ?_ (fits_of_scanBound U1.few)
 exact h _ (Heap.SameBut.update ..) ⟨o1,_,_,_,ho1,U1,by unfold z8; rw[hmask]; exact hM,by rw[hmask]; exact hm,hdu⟩
theorem B_{a:Addr}{S:K→Bool}{more:Nat}{Q:Unit→Shared→Prop}(hS:SetX knd L s.heap a S 0 7)(hm:more≤60)
  (h:∀ h',Heap.SameBut a s.heap h'→SetX knd L h' a S 0 more→Q () { s with heap:=h' }):wpAny (model prog w) A (setRoomFor a more) Q E s:=by
 obtain⟨o,es,ep,t,ho,T,hP,h7,hd⟩:=id hS
 have hpl:t.place.size=0:=by
  have:=T.fit
  unfold SetTable.fits at this;simp only[Bool.and_eq_true,beq_iff_eq]at this
  rw[this.1]; exact T.num
 have hfill:t.fill=0:=by unfold SetTable.fill; rw[hpl,hd]; rfl
 unfold setRoomFor;refine wpAny_bind (wpAny_setState_of ho T.dat T.fit ?_)
 dsimp only
 unfold SetTable.roomFor;rw[hfill,hpl,Nat.zero_add]
 by_cases c:more * 5≥t.mask * 3
 ·rw[if_pos c]
  refine uY hS.g (by omega) (by omega) fun h' sb x=>h h' sb ?_
  obtain⟨o1,es1,ep1,t1,z1,z2,z3,z4,z5⟩:=x
  exact⟨o1,es1,ep1,t1,z1,z2,z3,by omega,z5⟩
 ·rw[if_neg c]
  refine wpAny_pure ?_
  have e:s={ s with heap:=s.heap }:=by cases s; rfl
  rw[e];exact h s.heap (Heap.SameBut.refl _ _) ⟨o,es,ep,t,ho,T,hP,by omega,hd⟩
theorem Cp{a:Addr}{S:K→Bool}{n more:Nat}{Q:Unit→Shared→Prop}(hS:SetG knd (bj L) s.heap a S n)(hm:n+more≤120)
  (h:∀ h',Heap.SameBut a s.heap h'→SetG knd (bj L) h' a S n→Q () { s with heap:=h' }):wpAny (model prog w) A (setRoomFor a more) Q E s:=by
 obtain⟨o,es,ep,t,ho,T⟩:=id hS
 have hpl:t.place.size=n:=by
  have:=T.fit
  unfold SetTable.fits at this;simp only[Bool.and_eq_true,beq_iff_eq]at this
  rw[this.1]; exact T.num
 unfold setRoomFor;refine wpAny_bind (wpAny_setState_of ho T.dat T.fit ?_)
 dsimp only
 unfold SetTable.roomFor;rw[hpl]
 by_cases c:(t.fill+more) * 5≥t.mask * 3
 ·rw[if_pos c]
  exact uY hS (by omega) (by omega) fun h' sb x=>h h' sb x.g
 ·rw[if_neg c]
  refine wpAny_pure ?_
  have e:s={ s with heap:=s.heap }:=by cases s; rfl
  rw[e];exact h s.heap (Heap.SameBut.refl _ _) hS
theorem uD{a b:Addr}{S0 S:K→Bool}{n:Nat}{each:Sem Unit}{Q:Unit→Shared→Prop}(hab:a≠b)(h0:SetX knd L s.heap a S0 0 7)(hS:SetG knd (bj L) s.heap b S n)(hn:n≤60)
  (h:∀ h',Heap.SameBut a s.heap h'→(n=0→h'=s.heap)→SetG knd (bj L) h' a S n→Q () { s with heap:=h' }):wpAny (model prog w) A (setMerge a b each) Q E s:=by
 obtain⟨o,es,ep,t,ho,T⟩:=id hS
 unfold setMerge;rw[if_neg (by simpa using hab)]
 refine wpAny_bind (wpAny_setState_of ho T.dat T.fit ?_)
 dsimp only
 by_cases he:es.isEmpty=true
 ·rw[if_pos he]
  have hn0:n=0:=by rw[← T.num]; simpa using he
  refine wpAny_pure ?_
  have e:s={ s with heap:=s.heap }:=by cases s; rfl
  rw[e];refine h s.heap (Heap.SameBut.refl _ _) (fun _=>rfl) ?_
  obtain⟨o0,es0,ep0,t0,ho0,T0,_⟩:=h0
  have hS0:S0=S:=by
   funext k
   have e1:S0 k=false:=by
    cases q:S0 k with
    | false=>rfl
    | true=>
     obtain⟨x,hx,_⟩:=(T0.mem k).mp q; have:es0 = #[]:=by simpa using T0.num
     rw[this]at hx; cases hx
   have e2:S k=false:=by
    cases q:S k with
    | false=>rfl
    | true=>
     obtain⟨x,hx,_⟩:=(T.mem k).mp q; have:es = #[]:=by simpa using he
     rw[this]at hx; cases hx
   rw[e1,e2]
  subst hS0; subst hn0
  exact⟨o0,es0,ep0,t0,ho0,T0⟩
 ·rw[if_neg he]
  refine wpAny_bind (B_ h0 (by rw[T.num]; exact hn) fun h1 sb1 x1=>?_)
  rw[T.num]at x1
  obtain⟨o1,es1,ep1,t1,ho1,T1,hP1,hm1,hd1⟩:=x1
  refine wpAny_bind (wpAny_setState_of ho1 T1.dat T1.fit ?_)
  dsimp only
  have hpl1:t1.place.size=0:=by
   have:=T1.fit
   unfold SetTable.fits at this;simp only[Bool.and_eq_true,beq_iff_eq]at this
   rw[this.1]; exact T1.num
  have hroad:t1.road t=if (t1.mask == t.mask&&t.dummies.isEmpty)=true then .slotForSlot else .clean:=by
   unfold SetTable.road SetTable.fill;rw[hpl1,hd1]; rfl
  have fin:∀ (es':Array (Int × Value)) (t':SetTable),es'.toList.Perm es.toList→t'.fits es'.size=true→bj L t'→wpAny (model prog w) A (storeSet a es' t') Q E { s with heap:=h1 }:=fun es' t' hp hf hg=>by
   have hp1:=putSet_of es' t' T1.dat;have hget:=Heap.get?_update_self (Obj.putSet es' t') ho1 (by rw[hp1]; rfl)
   rw[hp1]at hget
   have U:=lG T hp hf hg (o':={ o1 with data:=.set es' (ep1+1) t' }) (ep':=ep1+1) T1.ex rfl;refine wpAny_storeSet_of ho1 T1.dat ?_ (fits_of_scanBound U.few)
   exact h _ (sb1.trans (Heap.SameBut.update ..)) (fun z=>absurd (by simpa using T.num.trans z) (by simpa using he)) ⟨_,_,_,_,hget,U⟩
  rw[hroad]
  by_cases c:(t1.mask == t.mask&&t.dummies.isEmpty)=true
  ·rw[if_pos c]
   refine fin es _ (List.Perm.refl _) ?_ ?_
   ·have:=T.fit
    exact this
   ·exact⟨by show (t1.led&&t.led)=L; rw[T1.good.led,T.good.led,Bool.and_self],T.good.rise⟩
  ·rw[if_neg c]
   obtain⟨t',order,e,hp,hmask,hpl,hdu,hled⟩:=rN hP1 t1.finger t1.moves (t1.led&&t.led) (t1.plain&&t.plain) (es.map (·.1)) (by rw[Array.size_map,T.num]; omega)
   rw[Array.size_map]at hp hpl
   dsimp only
   rw[e];have hpm:=uy hp;have hsz:(order.filterMap (es[·]?)).size=es.size:=by rw[← Array.length_toList,hpm.length_eq,Array.length_toList]
   refine wpAny_bind ?_
   show wpAny _ _ (if ((order.filterMap (es[·]?)).size != es.size)=true then _ else pure (order.filterMap (es[·]?),t')) _ _ _
   rw[if_neg (by rw[hsz]; simp)]
   refine wpAny_pure ?_
   dsimp only
   exact fin _ _ hpm (by rw[hsz]; exact rh hpl hdu (by rw[hmask,T.num]; exact hm1)) ⟨by rw[hled,T1.good.led,T.good.led,Bool.and_self],mi e⟩
theorem Cf{a:Addr}{o:Obj}{es:Array (Int × Value)}{ep:Nat}{t:SetTable}{Q:Array (Int × Value)→Shared→Prop}(ho:s.heap.get? a=some o)(hd:o.data = .set es ep t)(hf:t.fits es.size=true)(hg:bj (aR w) t)(hp:w.params.followText "set-order" = true∨t.plain=true∨es.size≤1)
  (h:∀ arr,arr.toList.Perm es.toList→Q arr s):wpAny (model prog w) A (setWalk a) Q E s:=by
 unfold setWalk;refine wpAny_bind (wpAny_setState_of ho hd hf ?_)
 dsimp only
 refine wpAny_bind ?_
 unfold setsByText;refine wpAny_bind (wpAny_askSetting (wpAny_pure ?_))
 show wpAny _ _ (if w.params.followText "set-order" = true then _ else _) _ _ _
 cases hb:w.params.followText "set-order" with
 | true=>
  simp only[if_true]
  refine wpAny_bind (wpAny_askSetting (wpAny_pure ?_))
  exact h _ (nP _ _)
 | false=>
  simp only[Bool.false_eq_true,if_false]
  have hnd:¬ ((!t.plain&&decide (es.size>1))=true):=by
   rw[hb]at hp
   rcases hp with z | z | z
   ·cases z
   ·rw[z]; simp
   ·simp; omega
  show wpAny _ _ (if (!t.plain&&decide (es.size>1))=true then _ else _) _ _ _
  rw[if_neg hnd];have hled:t.led=true:=by rw[hg.led]; unfold aR; rw[hb]; rfl
  refine wpAny_bind ?_
  show wpAny _ _ (if (!t.led&&decide (es.size>1))=true then _ else _) _ _ _
  rw[hled];refine wpAny_pure (wpAny_pure ?_)
  exact h es (List.Perm.refl _)
theorem Al{Q:Bool→Shared→Prop}:∀ (sets:List Addr),(∀ a∈sets,∃ o es ep t,s.heap.get? a=some o∧o.data = .set es ep t∧t.fits es.size=true∧∀ e∈es.toList,e.2.scannable=true)→Q true s→wpAny (model prog w) A (setsQuiet sets) Q E s:=by
 intro sets hs h
 unfold setsQuiet;refine wpAny_bind (wpAny_forIn_list _ (fun rest b s'=>b.1=none∧s'=s∧∀ a∈rest,a∈sets) _ ?_ ?_ _ _ ⟨rfl,rfl,fun _ z=>z⟩)
 ·rintro a rest b s' ⟨hb,rfl,hm⟩
  obtain⟨o,es,ep,t,ho,hd,hf,hsc⟩:=hs a (hm a List.mem_cons_self)
  refine wpAny_bind (wpAny_setEntries_of ho hd hf ?_)
  refine wpAny_bind (MeetsSeq2.wpAny_forIn_array _ (fun rest' b' s2=>b'.1=none∧s2=s'∧∀ e∈rest',e∈es.toList) _ ?_ ?_ _ _ ⟨rfl,rfl,fun _ z=>z⟩)
  ·rintro⟨hh,x⟩ rest' b' s2 ⟨hb',rfl,hm'⟩
   have hx:=hsc _ (hm' _ List.mem_cons_self)
   dsimp only at hx ⊢
   cases x with
   | ref c=>cases hx
   | _=>exact wpAny_pure ⟨rfl,rfl,fun e he=>hm' e (List.mem_cons_of_mem _ he)⟩
  ·rintro b' s2 ⟨hb',rfl,_⟩
   obtain⟨b1,b2⟩:=b'
   cases hb';exact wpAny_pure ⟨rfl,rfl,fun a' ha'=>hm a' (List.mem_cons_of_mem _ ha')⟩
 ·rintro b s' ⟨hb,rfl,_⟩
  obtain⟨b1,b2⟩:=b
  cases hb;exact wpAny_pure h
theorem zl{a f:Addr}{S1 S2:K→Bool}{n1 n2:Nat}{Q:Array (Int × Value)→Shared→Prop}(haf:a≠f)(hA:SetG knd (bj (aR w)) s.heap a S2 n2)(hF:SetG knd (bj (aR w)) s.heap f S1 n1)
  (h:∀ arr h' es,(∃ o ep t,s.heap.get? a=some o∧kz knd (bj (aR w)) o es ep t S2 n2)→arr.toList.Perm es.toList→Heap.SameBut f s.heap h'→SetG knd (bj (aR w)) h' f S1 n1→Q arr { s with heap:=h' }):wpAny (model prog w) A (setWalkUnseen a [f] (some f)) Q E s:=by
 obtain⟨o,es,ep,t,ho,T⟩:=id hA
 obtain⟨of,esf,epf,tf,hof,Tf⟩:=id hF
 have es0:s={ s with heap:=s.heap }:=by cases s; rfl
 have keep:∀ arr:Array (Int × Value),arr.toList.Perm es.toList→Q arr s:=fun arr hp=>by
  rw[es0]; exact h arr s.heap es ⟨o,ep,t,ho,T⟩ hp (Heap.SameBut.refl _ _) hF
 unfold setWalkUnseen;refine wpAny_bind (wpAny_setState_of ho T.dat T.fit ?_)
 dsimp only
 refine wpAny_bind ?_
 unfold setsByText;refine wpAny_bind (wpAny_askSetting (wpAny_pure ?_))
 show wpAny _ _ (if (w.params.followText "set-order" || t.led&&t.plain||decide (es.size≤1))=true then _ else _) _ _ _
 by_cases c:(w.params.followText "set-order" || t.led&&t.plain||decide (es.size≤1))=true
 ·rw[if_pos c]
  refine Cf ho T.dat T.fit T.good ?_ keep
  simp only[Bool.or_eq_true,Bool.and_eq_true,decide_eq_true_eq]at c
  rcases c with (z | z) | z
  ·exact .inl z
  ·exact .inr (.inl z.2)
  ·exact .inr (.inr z)
 ·rw[if_neg c]
  refine wpAny_bind (Al [a,f] (fun b hb=>?_) ?_)
  ·simp only[List.mem_cons,List.not_mem_nil,or_false]at hb
   rcases hb with rfl | rfl
   ·exact⟨o,es,ep,t,ho,T.dat,T.fit,fun e he=>(T.el e he).2⟩
   ·exact⟨of,esf,epf,tf,hof,Tf.dat,Tf.fit,fun e he=>(Tf.el e he).2⟩
  ·simp only[Bool.not_true,Bool.false_eq_true,if_false]
   refine wpAny_bind (wpAny_rule ?_)
   refine wpAny_bind (wpAny_setState_of hof Tf.dat Tf.fit ?_)
   dsimp only
   by_cases c2:(tf.led && !t.led||tf.plain && !t.plain)=true
   ·rw[if_pos c2]
    obtain⟨o1,ho1,U1⟩:=stored (es':=esf) (t':={ tf with led:=tf.led&&t.led,plain:=tf.plain&&t.plain }) (S':=S1) (n':=n1) hof Tf fun o' ex da=>lG (t':={ tf with led:=tf.led&&t.led,plain:=tf.plain&&t.plain }) Tf (List.Perm.refl _) Tf.fit ⟨by show (tf.led&&t.led)=_; rw[Tf.good.led,T.good.led,Bool.and_self],Tf.good.rise⟩ ex da
    refine wpAny_bind (wpAny_storeSet_of hof Tf.dat ?_ (fits_of_scanBound U1.few))
    exact wpAny_pure (h es _ es ⟨o,ep,t,ho,T⟩ (List.Perm.refl _) (Heap.SameBut.update ..) ⟨_,_,_,_,ho1,U1⟩)
   ·rw[if_neg c2]
    exact wpAny_pure (keep es (List.Perm.refl _))
theorem BD{a b:Addr}{S1 S2:K→Bool}{n1 n2:Nat}{each:Sem Unit}{Q:Unit→Shared→Prop}(hab:a≠b)(h1:SetG knd (bj (aR w)) s.heap a S1 n1)(h2:SetG knd (bj (aR w)) s.heap b S2 n2)(hn1:1≤n1)(hn:n1+n2≤60)
  (heach:∀ (s':Shared) (R:Unit→Shared→Prop),(∀ o,s.heap.get? b=some o→s'.heap.get? b=some o)→R () s'→wpAny (model prog w) A each R E s')
  (h:∀ h' m,Heap.SameBut a s.heap h'→m≤n1+n2→SetG knd (bj (aR w)) h' a (fun k=>S1 k||S2 k) m→Q () { s with heap:=h' }):wpAny (model prog w) A (setMerge a b each) Q E s:=by
 obtain⟨o,es,ep,t,ho,T⟩:=id h2
 unfold setMerge;rw[if_neg (by simpa using hab)]
 refine wpAny_bind (wpAny_setState_of ho T.dat T.fit ?_)
 dsimp only
 by_cases he:es.isEmpty=true
 ·rw[if_pos he]
  have hn0:n2=0:=by rw[← T.num]; simpa using he
  refine wpAny_pure ?_
  have e:s={ s with heap:=s.heap }:=by cases s; rfl
  rw[e];refine h s.heap n1 (Heap.SameBut.refl _ _) (by omega) (h1.at' (fun _ z=>z) (fun k=>?_) rfl)
  have e2:S2 k=false:=by
   cases q:S2 k with
   | false=>rfl
   | true=>
    obtain⟨x,hx,_⟩:=(T.mem k).mp q; have:es = #[]:=by simpa using he
    rw[this]at hx; cases hx
  rw[e2,Bool.or_false]
 ·rw[if_neg he]
  refine wpAny_bind (Cp h1 (by rw[T.num]; omega) fun g1 sb1 x1=>?_)
  have hb1:g1.get? b=some o:=by rw[sb1.2 b (Ne.symm hab)]; exact ho
  obtain⟨o1,es1,ep1,t1,ho1,T1⟩:=id x1
  refine wpAny_bind (wpAny_setState_of ho1 T1.dat T1.fit ?_)
  dsimp only
  have hroad:t1.road t = .oneByOne:=by
   have hpl1:t1.place.size=n1:=by
    have:=T1.fit
    unfold SetTable.fits at this;simp only[Bool.and_eq_true,beq_iff_eq]at this
    rw[this.1]; exact T1.num
   unfold SetTable.road SetTable.fill;rw[if_pos (by rw[hpl1]; simp; omega)]
  rw[hroad]
  dsimp only
  refine wpAny_bind (zl (s:={ s with heap:=g1 }) (Ne.symm hab) ⟨o,es,ep,t,hb1,T⟩ x1 fun arr g2 es' hes hp sb2 x2=>?_)
  obtain⟨o',ep',t',ho',T'⟩:=hes
  have eo:o'=o:=by
   have:g1.get? b=some o':=ho'
   rw[hb1]at this; cases this; rfl
  subst eo
  have ees:es'=es:=by
   have q1:=T'.dat;rw[T.dat]at q1
   cases q1; rfl
  subst ees;have sb12:Heap.SameBut a s.heap g2:=sb1.trans sb2
  have fin:∀ (done:List (Int × Value)),done.Perm es'.toList→∀ k,(S1 k||done.any fun e=>knd.is k e.2)=(S1 k||S2 k):=fun done hd k=>by
   congr 1
   rw[Bool.eq_iff_iff,T.mem k,List.any_eq_true];exact⟨fun ⟨e,z,q⟩=>⟨e,hd.mem_iff.mp z,q⟩,fun ⟨e,z,q⟩=>⟨e,hd.mem_iff.mpr z,q⟩⟩
  refine wpAny_bind (MeetsSeq2.wpAny_forIn_array _ (fun rest _ s'=>∃ h' m done,s'={ s with heap:=h' }∧Heap.SameBut a s.heap h'∧(done++rest).Perm es'.toList∧m+rest.length≤n1+n2∧SetG knd (bj (aR w)) h' a (fun k=>S1 k||done.any fun e=>knd.is k e.2) m) _ ?_ ?_ _ _
   ⟨g2,n1,[],rfl,sb12,hp,by rw[hp.length_eq,Array.length_toList,T.num]; exact Nat.le_refl _,x2.at' (fun _ z=>z) (fun k=>by simp) rfl⟩)
  ·rintro⟨hh,v⟩ rest u s' ⟨h',m,done,rfl,sb,hpm,hm,hS⟩
   obtain⟨⟨k,hk,ehh⟩,hsc⟩:=T.el (hh,v) (hpm.mem_iff.mp (by simp))
   dsimp only at hk ehh hsc ⊢
   subst ehh;rw[List.length_cons]at hm
   refine wpAny_bind (wpAny_holding (xN (G:=bj (aR w)) (knd:=knd) (s:={ s with heap:=h' }) (fun t es h x g=>je g es h x) (fun t es m g=>jI g es m) (fun t g=>jR g) hk hsc hS (by unfold scanBound; omega) fun h2 sb2' hS2=>?_))
   have sb':Heap.SameBut a s.heap h2:=sb.trans sb2'
   have hb2:h2.get? b=some o':=by rw[sb'.2 b (Ne.symm hab)]; exact ho
   refine wpAny_bind (heach _ _ (fun o z=>by rw[ho]at z; cases z; exact hb2) ?_)
   refine wpAny_bind (wpAny_setState_of hb2 T.dat T.fit ?_)
   rw[if_neg (by simp)]
   refine wpAny_pure ⟨h2,_,done++[(knd.hash k,v)],rfl,sb',by rw[List.append_assoc]; exact hpm,?_,hS2.at' (fun _ z=>z) (fun k'=>?_) rfl⟩
   ·split <;> omega
   ·rw[List.any_append,Bool.or_assoc]
    congr 2
    rw[List.any_cons,List.any_nil,Bool.or_false,KeyKind.is_eq_decide hk k']
  ·rintro u s' ⟨h',m,done,rfl,sb,hpm,hm,hS⟩
   rw[List.append_nil]at hpm
   exact wpAny_pure (h h' m sb (by simpa using hm) (hS.at' (fun _ z=>z) (fin done hpm) rfl))
end
end L2
namespace L2
open PySem PySem.Spec PyProof.Rows PySem.SeqAt
theorem pR:entryFor table "set.__or__" = some Builtin.«frozenset.__or__»:=entryFor_alias (id' := "frozenset.__or__") (by kernel_rfl) rfl (by decide +kernel) (by kernel_rfl)
section
variable{prog:Program}{w:World}{K:Type}[DecidableEq K]{knd:KeyKind prog w K}{A:Around}{E:Value→Shared→Prop}{s:Shared}
theorem SetG.ty{G:SetTable→Prop}{h:Heap}{a:Addr}{S:K→Bool}{n:Nat}(x:SetG knd G h a S n)(s:Shared)(e:s.heap=h):s.TypeIs (.ref a) "set" := by
 obtain⟨o,es,ep,t,ho,T⟩:=x
 subst e;exact⟨o,ho,T.ex.1⟩
theorem Bn{a b:Addr}{S1 S2:K→Bool}{n1 n2:Nat}{Q:Value→Shared→Prop}(hab:a≠b)(ha:SetG knd (bj (aR w)) s.heap a S1 n1)(hb:SetG knd (bj (aR w)) s.heap b S2 n2)(hn:n1+n2≤60)
  (h:∀ h' m tk,(∀ c o,s.heap.get? c=some o→h'.get? c=some o)→m≤n1+n2→SetG knd (bj (aR w)) h' s.heap.objs.size (fun k=>S1 k||S2 k) m→Q (.ref s.heap.objs.size) { s with heap:=h',toks:=tk }) :
  wpAny (model prog w) A (binaryOp .BitOr (.ref a) (.ref b)) Q E s:=by
 have ta:s.TypeIs (.ref a) "set" := ha.ty s rfl
 have tb:s.TypeIs (.ref b) "set" := hb.ty s rfl
 refine wpAny_binaryOp_same (T := "set") ta tb F.fills_set_or F.slot_set_or (wpAny_call_entry F.slot_set_or ta pR ?_ (F.args_set_or_2 _ _))
 unfold Builtin.«frozenset.__or__»
 show wpAny _ _ (Builtin.Frozenset.slot1 "__or__" ⟨[.ref a,.ref b],[]⟩ >>= _) _ _ _
 refine wpAny_bind (m:=Builtin.Frozenset.slot1 "__or__" ⟨[.ref a,.ref b],[]⟩) (wpAny_pure (a:=(Value.ref a,Value.ref b)) ?_)
 dsimp only
 simp only[Bool.false_eq_true,if_false]
 have isA:∀ (c:Addr) (s':Shared) (R:Bool→Shared→Prop),s'.TypeIs (.ref c) "set" → R true s'→wpAny (model prog w) A.in1 (Builtin.Frozenset.isAnySet (.ref c)) R E s':=fun c s' R ht hR=>by
  unfold Builtin.Frozenset.isAnySet;show wpAny _ _ (isInstance (Value.ref c) (Value.type "set") >>= _) _ _ _
  refine wpAny_bind (wpAny_isInstance ht sub_set_self ?_)
  exact wpAny_pure hR
 have es0:s={ s with heap:=s.heap }:=by cases s; rfl
 refine wpAny_bind ?_
 show wpAny _ _ (Builtin.Frozenset.isAnySet (Value.ref a) >>= _) _ _ _
 refine wpAny_bind (isA a s _ ta ?_)
 refine isA b s _ tb ?_
 simp only[Bool.not_true,Bool.false_eq_true,if_false]
 refine wpAny_bind (wpAny_pure ?_)
 refine wpAny_bind ?_
 show wpAny _ _ (Builtin.Frozenset.copyOf a >>= _) _ _ _
 unfold Builtin.Frozenset.copyOf Builtin.Frozenset.baseOf;refine wpAny_bind ?_
 refine wpAny_bind ?_
 refine wpAny_bind (wpAny_isInstance ta sub_set_self ?_)
 refine wpAny_pure ?_
 simp only[if_true]
 unfold newSet setsByText;refine wpAny_bind ?_
 refine wpAny_bind (wpAny_bind (wpAny_askSetting (wpAny_pure ?_)))
 dsimp only
 simp only[newObj]
 refine wpAny_bind (wpAny_alloc (wpAny_pure ?_))
 generalize hh0:s.heap.push _=g0
 have k0:∀ c o,s.heap.get? c=some o→g0.get? c=some o:=fun c o e=>by rw[← hh0]; exact Heap.get?_push_of_some _ e
 have n0:g0.get? s.heap.objs.size=some { cls:=.type "set", dict:=none,data:=.set #[] 0 (.fresh 0 0 (aR w)) }:=by rw[← hh0]; exact Heap.get?_push_size _ rfl
 have x0:SetX knd (aR w) g0 s.heap.objs.size (fun _=>false) 0 7:=⟨_,#[],0,_,n0,⟨⟨rfl,rfl,rfl⟩,rfl,fun e he=>by simp at he,fun k=>by simp,by decide,rfl,rfl,⟨rfl,fun a b ha=>absurd ha (Nat.not_lt_zero _)⟩,List.Pairwise.nil⟩,by show (7:Nat)+1∈[8,16,32,64,128,256]; decide,Nat.le_refl _,rfl⟩
 have na:s.heap.objs.size≠a:=by
  obtain⟨o,_,_,_,ho,_⟩:=ha
  exact Ne.symm (Nat.ne_of_lt (Heap.lt_size ho))
 have nb:s.heap.objs.size≠b:=by
  obtain⟨o,_,_,_,ho,_⟩:=hb
  exact Ne.symm (Nat.ne_of_lt (Heap.lt_size ho))
 refine wpAny_bind (wpAny_pure ?_)
 refine wpAny_bind (uD (s:={ s with heap:=g0 }) na x0 (ha.at' (fun o e=>k0 a o e) (fun _=>rfl) rfl) (by omega) fun g1 sb1 hz1 x1=>?_)
 refine wpAny_pure ?_
 rw[if_pos (by simpa using Ne.symm hab)]
 refine wpAny_bind (wpAny_pure ?_)
 have k1:∀ c o,s.heap.get? c=some o→g1.get? c=some o:=fun c o e=>by
  have hc:c≠s.heap.objs.size:=Nat.ne_of_lt (Heap.lt_size e)
  rw[sb1.2 c hc]; exact k0 c o e
 have hb1:=hb.at' (h':=g1) (fun o e=>k1 b o e) (fun _=>rfl) rfl
 refine wpAny_bind (wpAny_holding ?_)
 unfold Builtin.Frozenset.updateFrom;refine wpAny_bind (isA b _ _ (hb1.ty _ rfl) ?_)
 simp only[if_true]
 refine wpAny_bind (wpAny_pure ?_)
 unfold Builtin.Frozenset.merge;obtain⟨ob,eb,pb,tb',hob,Tb⟩:=id hb1
 have epo:∀ (s':Shared) (R:Nat→Shared→Prop),s'.heap.get? b=some ob→R pb s'→wpAny (model prog w) A.in1 (setEpoch b) R E s':=fun s' R hg hR=>by
  unfold setEpoch;exact wpAny_bind (wpAny_setState_of hg Tb.dat Tb.fit (wpAny_pure hR))
 refine wpAny_bind (epo _ _ hob ?_)
 have fin:∀ h' m,Heap.SameBut s.heap.objs.size g1 h'→m≤n1+n2→SetG knd (bj (aR w)) h' s.heap.objs.size (fun k=>S1 k||S2 k) m→wpAny (model prog w) A.in1 (pure (Value.ref s.heap.objs.size)) (fun a s'=>wpAny (model prog w) A.in1 (ret a) (fun fin s'=>∃ v,fin=Fin.done (Flow.ret v)∧v≠Value.notImplemented∧Q v s') E s') E { s with heap:=h' }:=fun h' m sb hm x=>by
  refine wpAny_pure (wpAny_pure ⟨_,rfl,fun z=>(nomatch z),h h' m s.toks (fun c o e=>?_) hm x⟩)
  have hc:c≠s.heap.objs.size:=Nat.ne_of_lt (Heap.lt_size e)
  rw[sb.2 c hc]; exact k1 c o e
 by_cases hn0:n1=0
 ·have eg:=hz1 hn0
  have eg':g1=g0:=eg
  subst eg'
  have hS1:∀ k,S1 k=false:=fun k=>by
   obtain⟨o,es,ep,t,ho,T⟩:=x1
   cases q:S1 k with
   | false=>rfl
   | true=>
    obtain⟨x,hx,_⟩:=(T.mem k).mp q
    have:es = #[]:=by have:=T.num; rw[hn0]at this; simpa using this
    rw[this]at hx; cases hx
  refine uD (s:={ s with heap:=g1 }) nb x0 hb1 (by omega) fun h' sb _ x=>fin h' n2 sb (by omega) (x.at' (fun _ z=>z) (fun k=>by rw[hS1 k]; rfl) rfl)
 ·refine BD (s:={ s with heap:=g1 }) nb x1 hb1 (by omega) hn (fun s' R hg hR=>?_) fun h' m sb hm x=>fin h' m sb hm x
  unfold Builtin.Frozenset.unchanged;refine wpAny_bind (epo s' _ (hg ob hob) ?_)
  rw[if_neg (by simp)]
  exact wpAny_pure hR
end
def cm(P:Program)(w:World)(a:Addr)(ds:List Str):HO:=.ext fun h=>∃ S n,SetG (strKind P w) (bj (aR w)) h a S n∧(∀ k,S k=true ↔ k∈ds)∧ds.Nodup∧ds.length=n
def yF(K:PySem.W.Frag)(SO:Addr→List Str→HO):List V→Hp→VK→Prop:=fun xs H Q=>∃ p,∃ ns:List Str,xs=[.ref p]∧SqL K H p (ns.map V.str)∧ns.length≤60∧∀ (l:Addr) (ds:List Str),H l=none→ds.Nodup→(∀ x,x∈ds ↔ x∈ns)→ds.length≤ns.length→Q (.ref l) (upd H l (SO l ds))
def Ap(SO:Addr→List Str→HO):R2:=fun x y H Q=>∃ a b ds es,x = .ref a∧y = .ref b∧a≠b∧H a=some (SO a ds)∧H b=some (SO b es)∧ds.length+es.length≤60∧∀ (l:Addr) (us:List Str),H l=none→us.Nodup→(∀ x,x∈us ↔ x∈ds∨x∈es)→us.length≤ds.length+es.length→Q (.ref l) (upd H l (SO l us))
section
variable{X:Cx}
theorem rC{P:Program}{w:World}{H:Hp}{h:Heap}{a:Addr}{ds:List Str}{S:Str→Bool}{n:Nat}(x:SetG (strKind P w) (bj (aR w)) h a S n)(hm:∀ k,S k=true ↔ k∈ds)(nd:ds.Nodup)(hl:ds.length=n):ObjOk P w H h a (cm P w a ds):=by
 obtain⟨o,es,ep,t,ho,T⟩:=id x
 exact⟨⟨S,n,x,hm,nd,hl⟩,⟨o,ho⟩,fun h1 h2 ⟨S,n,g,r⟩ k=>⟨S,n,g.at' (fun o e=>k o e) (fun _=>rfl) rfl,r⟩⟩
theorem uh{m:Nat}(hr:Room m X.A){K:PySem.W.Frag}(hK:X.K=K):CallR X (.type "set") (yF K (cm X.prog X.w)):=by
 subst hK;intro pins s σ H xs us Q I r h
 obtain⟨p,ns,rfl,hq,h60,q⟩:=h
 obtain⟨u,rfl,ru⟩:=cB r
 cases ru;obtain⟨its,rv,pl,hz⟩:=I.list hq
 have hlen:its.length=ns.length:=by rw[← rv.length,List.length_map]
 refine nN (ns:=ns) hr.hd pl.isList (by simpa using i4 rv) (by simp only[List.size_toArray]; unfold scanBound; omega) fun h' tk hS hk=>?_
 obtain⟨ds,hg,hnd,hmem,hdl⟩:=mB hS
 refine⟨.ref s.heap.objs.size,_,I.laid (fun b o e=>hk b o (Heap.lt_size e) e) (Nat.le_refl _) (show ObjOk X.prog X.w _ h' _ (cm X.prog X.w s.heap.objs.size ds) from rC hS (fun k=>(hmem k).symm) hnd hdl),rfl,q _ ds (I.hok.fresh (Nat.le_refl _)) hnd (fun x=>?_) ?_⟩
 ·rw[hmem,mU]
  simp only[List.size_toArray,List.any_map,List.any_eq_true,List.mem_range]
  constructor
  ·rintro⟨i,hi,e⟩
   have e':ns.getD i "" = x:=by simpa using e
   rw[← e',List.getD_eq_getElem?_getD,List.getElem?_eq_getElem (by omega)]
   exact List.getElem_mem _
  ·intro hx
   obtain⟨i,hi,e⟩:=List.mem_iff_getElem.mp hx
   exact⟨i,by omega,by simp[List.getD_eq_getElem?_getD,List.getElem?_eq_getElem hi,e]⟩
 ·rw[hdl]
  have:=kN (fun i=>ns.getD i "") its.toArray.size
  simp only[List.size_toArray]at this ⊢
  omega
theorem Bi:OpR X (binaryOp .BitOr) (Ap (cm X.prog X.w)):=by
 intro pins s σ H x y v u Q I rx ry h
 obtain⟨a,b,ds,es,rfl,rfl,hab,ha,hb,hn,q⟩:=h
 cases rx
 cases ry;obtain⟨S1,n1,g1,m1,d1,l1⟩:=(show ObjOk X.prog X.w H s.heap a (cm X.prog X.w a ds) from I.hok a _ ha).1
 obtain⟨S2,n2,g2,m2,d2,l2⟩:=(show ObjOk X.prog X.w H s.heap b (cm X.prog X.w b es) from I.hok b _ hb).1
 refine Bn hab g1 g2 (by omega) fun h' m tk hk hm hS=>?_
 obtain⟨us,hg,hnd,hmem,hul⟩:=mB hS
 refine⟨.ref s.heap.objs.size,_,I.laid (t':=tk) hk (Nat.le_refl _) (show ObjOk X.prog X.w _ h' _ (cm X.prog X.w s.heap.objs.size us) from rC hS (fun k=>(hmem k).symm) hnd hul),rfl,q _ us (I.hok.fresh (Nat.le_refl _)) hnd (fun x=>?_) (by omega)⟩
 rw[hmem,Bool.or_eq_true,m1,m2]
theorem sM{m:Nat}(hr:Room m X.A):CallR X (.builtin "sorted") (i9 (cm X.prog X.w)):=by
 intro pins s σ H xs us Q I r h
 obtain⟨p,ds,rfl,e,h60,q⟩:=h
 obtain⟨u,rfl,ru⟩:=cB r
 cases ru;obtain⟨S,n,g,hm,nd,hl⟩:=(show ObjOk X.prog X.w H s.heap p (cm X.prog X.w p ds) from I.hok p _ e).1
 obtain⟨es',hg,hnd,hmem,hul⟩:=mB g
 obtain⟨o,es,ep,t,ho,hx,hd,hfew,hf,hgd,hint,hds⟩:=hg
 have hpm:es'.Perm ds:=(List.perm_ext_iff_of_nodup hnd nd).mpr fun k=>by rw[hmem,hm]
 have hz:es.size≤60:=by
  have:=hpm.length_eq
  rw[← hds,List.length_map,Array.length_toList]at this
  omega
 have hs:sizeLine=16777216:=sizeLine_eq
 refine lS hr.hd ho hx hd hf (by omega) hgd hint fun h' d' tk qa out c ns' hk hq hc a1 a2 a3=>?_
 have hl:ns'.length≤60:=by rw[a2.length_eq,List.length_map,Array.length_toList]; exact hz
 have I2:=I.laid (t':=tk) (a:=qa) (o:=.lst (ns'.map V.str)) hk hq (show ObjOk X.prog X.w _ h' _ (.lst (ns'.map V.str)) from ⟨by rw[List.length_map]; omega,out.toList,c,i5 a1,by simpa using hc⟩)
 refine⟨.ref qa,_,?_,rfl,q _ ns' (I.hok.fresh hq) ((by rw[← hds]at hpm; exact a2.trans hpm)) a3⟩
 exact⟨I2.ok,I2.os,I2.bare,I2.base,I2.loc,I2.cell,I2.free,I2.freeC,I2.pin,I2.hok,I2.len⟩
theorem lQ{m:Nat}(K:PySem.W.Frag)(P:Program)(w:World)(hr:Room m X.A)(hK:X.K=K:=by rfl)(hw:X.w=w:=by rfl)(hP:X.prog=P:=by rfl):CallR X (.type "set") (yF K (cm P w)):=hP ▸ hw ▸ uh hr hK
theorem qU{m:Nat}(P:Program)(w:World)(hr:Room m X.A)(hw:X.w=w:=by rfl)(hP:X.prog=P:=by rfl):CallR X (.builtin "sorted") (i9 (cm P w)):=hP ▸ hw ▸ sM hr
theorem y6(P:Program)(w:World)(hw:X.w=w:=by rfl)(hP:X.prog=P:=by rfl):OpR X (binaryOp .BitOr) (Ap (cm P w)):=hP ▸ hw ▸ Bi
end
end L2
namespace L2
open PySem PySem.Spec PyProof.Rows PySem.SeqAt PySem.Builtin PySem.Builtin.Str PySem.StrLaws
end L2
namespace L2
open PySem PySem.Spec PyProof.Rows PySem.SeqAt
section
variable{X:Cx}{x n:Str}{C:Addr}{bmB:List Value}{B newId initId:String}{np hp pos:Pos}{body suite orelse:List Stmt}{b₀ : Stmt}{tb:XK→TS}{th te:TS}{rest:List ExceptHandler}
end
end L2
namespace L2
open PySem PySem.Spec PyProof.Rows
section
variable{M:Model}{A:Around}{E:Value→Shared→Prop}{s:Shared}
end
section
variable{X:Cx}{N0 T:List Str}{scope:Scope}{tg elt iter:Expr}{ifs:List Expr}{pos:Pos}{wi:TI}{g:TG}{tc:TT}{te:TE}
end
section
variable{X:Cx}{N0 T:List Str}{scope:Scope}{C:Addr}{fp:List Addr}{s:Shared}{H:Hp}{E1:XK}{x:Str}
end
end L2
namespace L2
open PySem PySem.Spec PyProof.Rows PySem.SeqAt
def gA(xs:List V)(lo hi st:Option Int):List V:=(sliceRange (sliceBounds lo hi st xs.length).1 (sliceBounds lo hi st xs.length).2.1 (sliceBounds lo hi st xs.length).2.2).filterMap fun i=>xs[i]?
theorem kt{xs:List V}{us:List Value}(r:Vals xs us):∀ is:List Nat,Vals (is.filterMap fun i=>xs[i]?) (is.filterMap fun i=>us.toArray[i]?)
 | []=>.nil
 | i::is=>by
  cases e:xs[i]? with
  | none=>
   have e':us.toArray[i]? = none:=by simpa using r.none_of e
   rw[List.filterMap_cons_none e,List.filterMap_cons_none e'];exact kt r is
  | some x=>
   obtain⟨u,hu,ru⟩:=r.get e
   have e':us.toArray[i]? = some u:=by simpa using hu
   rw[List.filterMap_cons_some e,List.filterMap_cons_some e'];exact .cons ru (kt r is)
theorem xn{xs:List V}{lo hi st:Option Int}{v:V}(h:v∈gA xs lo hi st):v∈xs:=by
 obtain⟨i,_,e⟩:=List.mem_filterMap.mp h
 exact List.mem_of_getElem? e
def Do(K:PySem.W.Frag):V→Option Int→Option Int→Option Int→Hp→VK→Prop:=fun x lo hi st H Q=>∃ a xs,x = .ref a∧SqL K H a xs∧st≠some 0∧(gA xs lo hi st).length≤sizeLine∧∀ p,H p=none→Q (.ref p) (upd H p (.lst (gA xs lo hi st)))
def zR(r:V→Option Int→Option Int→Option Int→Hp→VK→Prop)(te:TE)(tl th ts:TO):TE:=fun σ H Q=>te σ H fun x H1=>tl σ H1 fun l H2=>th σ H2 fun u H3=>ts σ H3 fun k H4=>r x l u k H4 Q
theorem rZ{r:V→Option Int→Option Int→Option Int→Hp→VK→Prop}{te:TE}{tl th ts:TO}{σ : St}{H:Hp}{Q:VK}:zR r te tl th ts σ H Q=te σ H fun x H1=>tl σ H1 fun l H2=>th σ H2 fun u H3=>ts σ H3 fun k H4=>r x l u k H4 Q:=rfl
section
variable{X:Cx}{e:Expr}{te:TE}{lo hi:Option Expr}{st:Expr}{tl th ts:TO}{pos p2:Pos}
theorem nI(K:PySem.W.Frag)(he:PE X e te)(hl:PO X lo tl)(hu:PO X hi th)(hst:PO X (some st) ts)(hK:X.K=K:=by rfl):PE X (.Subscript e (.Slice lo hi (some st) p2) pos) (zR (Do K) te tl th ts):=by
 subst hK;intro pins s σ H Q I h
 refine Subscript_ (bc (he pins s σ H _ I h) fun v s1 ⟨x,H1,I1,r1,q1⟩=>?_)
 refine wpAny_Slice (bc (hl pins s1 σ H1 _ I1 q1) fun vl s2 ⟨l,H2,I2,pl,q2⟩=>bc (hu pins s2 σ H2 _ I2 q2) fun vu s3 ⟨u,H3,I3,pu,q3⟩=>bc (hst pins s3 σ H3 _ I3 q3) fun vs s4 ⟨k,H4,I4,ps,q4⟩=>?_)
 obtain⟨a,xs,rfl,hx,h0,hlen,q⟩:=q4
 cases r1;have I5:Inv X pins σ H4 { s4 with heap:=s4.heap.push { cls:=.type "slice", data:=.fields #[vl,vu,vs] } }:=I4.kept (t':=s4.toks) fun b ob q=>Heap.get?_push_of_some _ q
 obtain⟨its,r,ht,hz⟩:=I5.list hx
 have hln:=r.length;refine tail_any (ops:=[.ref a,.ref s4.heap.objs.size]) ht.isList.typeIs slot_list_getitem.lookup ?_ (by with_unfolding_all rfl)
 refine wpAny_getItem_list_slice ht.isList (Heap.IsSliceOf.new ..) pl pu ps h0 ?_ (by rw[List.size_toArray] <;> omega)
 have ev:Vals (gA xs l u k) ((sliceRange (sliceBounds l u k xs.length).1 (sliceBounds l u k xs.length).2.1 (sliceBounds l u k xs.length).2.2).filterMap fun i=>its.toArray[i]?):=kt r _
 have es:slicePick its.toArray l u k=((sliceRange (sliceBounds l u k xs.length).1 (sliceBounds l u k xs.length).2.1 (sliceBounds l u k xs.length).2.2).filterMap fun i=>its.toArray[i]?).toArray:=by
  unfold slicePick;rw[List.size_toArray,← hln]
 rw[es];exact⟨.ref _,_,I5.laid (t':=s4.toks) (o:=.lst (gA xs l u k)) (fun b ob q=>Heap.get?_push_of_some _ q) (Nat.le_refl _) ⟨hlen,_,0,ev,Heap.get?_push_size _ rfl⟩,rfl,q _ (I5.hok.fresh (Nat.le_refl _))⟩
end
section
variable{X:Cx}
end
end L2
namespace L2
open PySem PySem.Spec PyProof.Rows
section
variable{X:Cx}{n:Nat}(P:Program)(w:World)(hr:Room n X.A)
include hr
theorem lY(hP:X.prog=P:=by rfl)(hw:X.w=w:=by rfl):OpR X (compareOp .NotIn) (rS P w):=by subst hP hw; exact vH hr
theorem yj(hP:X.prog=P:=by rfl)(hw:X.w=w:=by rfl):IxR X (Bu P w):=by subst hP hw; exact DT hr
theorem vO(hP:X.prog=P:=by rfl)(hw:X.w=w:=by rfl):PSet X (yh P w):=by subst hP hw; exact Cc hr
theorem mH{ek ev:Expr}{tk tv:TE}{pos:Pos}(hk:PE X ek tk)(hv:PE X ev tv)(hP:X.prog=P:=by rfl)(hw:X.w=w:=by rfl):PE X (.Dict [some ek] [ev] pos) (mP P w tk tv):=by subst hP hw; exact v5 hr hk hv
end
end L2
namespace L2
open PySem PySem.Spec PyProof.Rows
theorem m6:∀ (names:List (Str × NameKind)) (n:Nat) (acc:List (Str × Addr)) {x:Str} {c:Addr},(cellsFrom n names acc).lookup x=some c→acc.lookup x=some c∨(n≤c∧(x,NameKind.cell)∈names)
 | [],n,acc,x,c,h=>.inl h
 | (nm,k)::r,n,acc,x,c,h=>by
  unfold cellsFrom at h;split at h
  ·rename_i hk
   have hk':k = .cell:=by simpa using hk
   rcases m6 r (n+1) _ h with z | ⟨z1,z2⟩
   ·rw[List.lookup_cons]at z
    cases hx:(x == nm) with
    | true=>
     rw[hx]at z
     have e1:x=nm:=by simpa using hx
     have e2:n=c:=Option.some.inj z
     rw[e1,hk']; exact .inr ⟨Nat.le_of_eq e2,List.mem_cons_self⟩
    | false=>rw[hx]at z; exact .inl z
   ·exact .inr ⟨by omega,List.mem_cons_of_mem _ z2⟩
  ·rcases m6 r n _ h with z | ⟨z1,z2⟩
   ·exact .inl z
   ·exact .inr ⟨z1,List.mem_cons_of_mem _ z2⟩
theorem qE:∀ (names:List (Str × NameKind)) (n:Nat) (acc:List (Str × Addr)),(∀ (x:Str) (c:Nat),acc.lookup x=some c→c<n)→(∀ x y c,acc.lookup x=some c→acc.lookup y=some c→x=y)→
  ∀ x y c,(cellsFrom n names acc).lookup x=some c→(cellsFrom n names acc).lookup y=some c→x=y
 | [],n,acc,hb,hi=>hi
 | (nm,k)::r,n,acc,hb,hi=>by
  unfold cellsFrom;split
  ·refine qE r (n+1) _ (fun x c h=>?_) fun x y c h1 h2=>?_
   ·rw[List.lookup_cons]at h
    cases hx:(x == nm) with
    | true=>rw[hx]at h; have q:(n:Nat)=c:=Option.some.inj h; omega
    | false=>rw[hx]at h; have:=hb x c h; omega
   ·rw[List.lookup_cons]at h1 h2
    cases hx:(x == nm) with
    | true=>
     rw[hx]at h1
     have e:(n:Nat)=c:=Option.some.inj h1
     have ex:x=nm:=by simpa using hx
     cases hy:(y == nm) with
     | true=>
      have ey:y=nm:=by simpa using hy
      rw[ex,ey]
     | false=>rw[hy]at h2; have:=hb y c h2; omega
    | false=>
     rw[hx]at h1
     cases hy:(y == nm) with
     | true=>rw[hy]at h2; have e:(n:Nat)=c:=Option.some.inj h2; have:=hb x c h1; omega
     | false=>rw[hy]at h2; exact hi x y c h1 h2
  ·exact qE r n acc hb hi
theorem m3:∀ (names:List (Str × NameKind)) (h:Heap) (acc:List (Str × Addr)),(∀ x c,acc.lookup x=some c→∃ v,h.IsCell c v)→∀ x c,(cellsFrom h.objs.size names acc).lookup x=some c→∃ v,(pushCells h names).IsCell c v
 | [],h,acc,ha=>ha
 | (nm,k)::r,h,acc,ha=>by
  unfold cellsFrom pushCells;split
  ·have:=m3 r (h.push { cls:=.type "cell", data:=.cell none }) ((nm,h.objs.size)::acc) fun x c e=>by
    rw[List.lookup_cons]at e
    cases hx:(x == nm) with
    | true=>rw[hx]at e; have e':h.objs.size=c:=Option.some.inj e; subst e'; exact⟨none,_,Heap.get?_push_size _ rfl,rfl⟩
    | false=>rw[hx]at e; obtain⟨v,z⟩:=ha x c e; exact⟨v,z.keeps fun b o q=>Heap.get?_push_of_some _ q⟩
   rwa [Heap.size_push]at this
  ·exact m3 r h acc ha
theorem mj:∀ (names:List (Str × NameKind)) (n:Nat) (acc:List (Str × Addr)) {x:Str},(∃ c,acc.lookup x=some c)→∃ c,(cellsFrom n names acc).lookup x=some c
 | [],n,acc,x,h=>h
 | (nm,k)::r,n,acc,x,h=>by
  unfold cellsFrom;split
  ·refine mj r (n+1) _ ?_
   rw[List.lookup_cons]
   cases hx:(x == nm) with
   | true=>exact⟨_,rfl⟩
   | false=>exact h
  ·exact mj r n acc h
theorem qF:∀ (names:List (Str × NameKind)) (n:Nat) (acc:List (Str × Addr)) {x:Str},(x,NameKind.cell)∈names→∃ c,(cellsFrom n names acc).lookup x=some c
 | (nm,k)::r,n,acc,x,h=>by
  unfold cellsFrom;rcases List.mem_cons.mp h with e | h
  ·have e1:x=nm:=congrArg (·.1) e
   have e2:NameKind.cell=k:=congrArg (·.2) e
   subst e1 e2;rw[if_pos (by rfl)]
   refine mj r (n+1) _ ⟨n,?_⟩
   rw[List.lookup_cons,beq_self_eq_true]
  ·split
   ·exact qF r _ _ h
   ·exact qF r _ _ h
theorem m4:∀ (names:List (Str × NameKind)) (n:Nat) (acc:List (Str × Addr)) {x:Str},(x,NameKind.cell)∉names→(cellsFrom n names acc).lookup x=acc.lookup x
 | [],n,acc,x,h=>rfl
 | (nm,k)::r,n,acc,x,h=>by
  unfold cellsFrom;split
  ·rename_i hk
   have hk':k = .cell:=by simpa using hk
   rw[m4 r (n+1) _ fun z=>h (List.mem_cons_of_mem _ z),List.lookup_cons]
   cases hx:(x == nm) with
   | true=>exact absurd (by rw[show x=nm by simpa using hx,hk']; exact List.mem_cons_self) h
   | false=>rfl
  ·exact m4 r n acc fun z=>h (List.mem_cons_of_mem _ z)
theorem tW:∀ (names:List (Str × NameKind)) (n n0:Nat) (acc:List (Str × Addr)) {x:Str},n0≤n→(∀ c:Nat,acc.lookup x=some c→n0≤c)→∀ c:Nat,(cellsFrom n names acc).lookup x=some c→n0≤c
 | [],n,n0,acc,x,hn,h=>h
 | (nm,k)::r,n,n0,acc,x,hn,h=>by
  unfold cellsFrom;split
  ·refine tW r (n+1) n0 _ (by omega) fun c e=>?_
   rw[List.lookup_cons]at e
   cases hx:(x == nm) with
   | true=>rw[hx]at e; have q:(n:Nat)=c:=Option.some.inj e; omega
   | false=>rw[hx]at e; exact h c e
  ·exact tW r n n0 acc hn h
theorem qd:∀ (names:List (Str × NameKind)) (n:Nat) (acc:List (Str × Addr)) {x:Str},(x,NameKind.cell)∈names→∀ c:Nat,(cellsFrom n names acc).lookup x=some c→n≤c
 | (nm,k)::r,n,acc,x,h,c,e=>by
  unfold cellsFrom at e;rcases List.mem_cons.mp h with z | h
  ·have e1:x=nm:=congrArg (·.1) z
   have e2:NameKind.cell=k:=congrArg (·.2) z
   subst e1 e2;rw[if_pos (by rfl)]at e
   refine tW r (n+1) n _ (by omega) (fun c q=>?_) c e
   rw[List.lookup_cons,beq_self_eq_true]at q
   have q:(n:Nat)=c:=Option.some.inj q; omega
  ·split at e
   ·have:=qd r _ _ h c e; omega
   ·exact qd r _ _ h c e
theorem eA{env:Env}{x:Str}{k:NameKind}:∀ {names:List (Str × NameKind)},
  (names.map fun (n,k)=>if (k == NameKind.free&&env.scope.kind == .function&&env.kindOf n == some .cell) then (n,NameKind.cell) else (n,k)).lookup x=some k→(k = .cell∨k = .free)→(x,NameKind.free)∈names∨(x,NameKind.cell)∈names
 | [],h,_=>by simp at h
 | (n,k0)::r,h,hk=>by
  have ih:=@eA env x k r;rw[List.map_cons]at h
  by_cases hf:(k0 == NameKind.free&&env.scope.kind == .function&&env.kindOf n == some .cell)=true
  ·have hk0:k0 = .free:=by
    have:(k0 == NameKind.free)=true:=by
     rw[Bool.and_eq_true,Bool.and_eq_true]at hf; exact hf.1.1
    simpa using this
   dsimp only at h
   rw[if_pos hf,List.lookup_cons]at h
   cases hx:(x == n) with
   | true=>
    have:x=n:=by simpa using hx
    rw[this,hk0]; exact .inl List.mem_cons_self
   | false=>
    rw[hx]at h
    rcases ih h hk with z | z
    ·exact .inl (List.mem_cons_of_mem _ z)
    ·exact .inr (List.mem_cons_of_mem _ z)
  ·dsimp only at h
   rw[if_neg hf,List.lookup_cons]at h
   cases hx:(x == n) with
   | true=>
    rw[hx]at h
    have e:k0=k:=Option.some.inj h
    have:x=n:=by simpa using hx
    rcases hk with z | z
    ·rw[this,e,z]; exact .inr List.mem_cons_self
    ·rw[this,e,z]; exact .inl List.mem_cons_self
   | false=>
    rw[hx]at h
    rcases ih h hk with z | z
    ·exact .inl (List.mem_cons_of_mem _ z)
    ·exact .inr (List.mem_cons_of_mem _ z)
theorem qT{env:Env}{x:Str}:∀ {names:List (Str × NameKind)},(names.map fun (n,k)=>if (k == NameKind.free&&env.scope.kind == .function&&env.kindOf n == some .cell) then (n,NameKind.cell) else (n,k)).lookup x=some .local→(x,NameKind.local)∈names:=by
 intro names
 induction names with
 | nil=>intro z; simp at z
 | cons y r ih=>
  obtain⟨n,k⟩:=y
  intro z
  rw[List.map_cons]at z
  dsimp only at z
  by_cases hfk:(k == NameKind.free&&env.scope.kind == .function&&env.kindOf n == some .cell)=true
  ·rw[if_pos hfk,List.lookup_cons]at z
   cases hx:(x == n) with
   | true=>rw[hx]at z; cases z
   | false=>rw[hx]at z; exact List.mem_cons_of_mem _ (ih z)
  ·rw[if_neg hfk,List.lookup_cons]at z
   cases hx:(x == n) with
   | true=>
    rw[hx]at z
    have ek:k = .local:=Option.some.inj z
    have en:x=n:=by simpa using hx
    rw[ek,en]; exact List.mem_cons_self
   | false=>rw[hx]at z; exact List.mem_cons_of_mem _ (ih z)
theorem zJ{M:Model}{A:Around}{E:Value→Shared→Prop}{s:Shared}{scope:Scope}{globals:Addr}{closure:List (Str × Addr)}{qual:Str}{func:Option Addr}{code:Value}{env:Env}{builtins:Addr}{Q:Env→Shared→Prop}
  (hQ:Q (newEnv scope s.heap.objs.size globals (cellsFrom (s.heap.objs.size+1) scope.names closure) qual func code (some env) builtins) { s with heap:=pushCells (s.heap.push { cls:=.type "dict", data:=.dict #[] }) scope.names }) :
  wpAny M A (newFunctionEnv scope globals closure [] qual func code (some env) builtins) Q E s:=by
 simp only[newFunctionEnv,Option.isSome_some,if_true]
 refine wpAny_bind (wpAny_alloc ?_)
 refine wpAny_bind (wpAny_layCells _ (fun name kind cells=>by cases hkc:kind == NameKind.cell <;> simp[hkc]) _ _ _ _ ?_)
 rw[show ({ s with heap:=s.heap.push { cls:=.type "dict", data:=.dict #[] } }:Shared).heap.objs.size=s.heap.objs.size+1 from Heap.size_push ..];refine wpAny_bind ?_
 rw[List.forIn_nil];exact wpAny_pure (wpAny_pure hQ)
def w4(scope:Scope)(x:Str):Bool:=scope.names.any fun y=>y.1 == x&&y.2 == .cell
def bM(X:Cx)(N0 T:List Str)(scope:Scope)(C:Addr)(fp:List Addr)(s:Shared)(H:Hp):Cx:=
 { X with N:=N0++T,s₀:=s,H₀:=H,env:=compEnvC scope (cellsFrom (C+1) scope.names (cC X.env.cells scope.names [])) C X.env,outer:=X.stack,stack:=X.stack,ex:=fp,fn:=w4 scope,pn:=[],xe:=fun _ _=>False }
structure jH (X:Cx) (N0 T:List Str) (scope:Scope):Prop where
 kind:scope.kind = .function
 names:∀ y∈scope.names,y.2 = .local→scope.names.lookup y.1=some .local
 free:∀ y∈scope.names,y.2 = .free→X.env.kindOf y.1=some .cell∨X.env.kindOf y.1=some .free
 apart:∀ y∈scope.names,y.2 = .local∨y.2 = .cell→y.1∉N0
 len0:N0.length=X.N.length
 same:∀ (i:Nat) (x:Str) (k:NameKind),N0[i]? = some x→(x,k)∈scope.names→X.N[i]? = some x
section
variable{X:Cx}{N0 T:List Str}{scope:Scope}{tg elt iter:Expr}{ifs:List Expr}{pos:Pos}{wi:TI}{g:TG}{tc:TT}{te:TE}
theorem tV{pins:List (Addr × Obj)}{σ : St}{H:Hp}{s:Shared}{E:Value→Shared→Prop}{it:Addr}{fp:List Addr}{tn:Nat→Heap→Prop}{J:It}{Q:VK}{RR:Value→Addr→Result→Shared→Prop}
  (S:jH X N0 T scope) (hc:X.calm=true)
  (hg:∀ C fp s H,PG (bM X N0 T scope C fp s H) tg g) (hfr:nU g X.N.length) (hi:∀ C fp s H,PIfs (bM X N0 T scope C fp s H) ifs tc) (he:∀ C fp s H,PE (bM X N0 T scope C fp s H) elt te)
  (I:Inv X pins σ H s) (Tn:mY X.prog X.w X.K tg J fp it tn) (st:tn 0 s.heap) (hf:∀ b∈fp,gK X pins H b)
  (h:∀ D,H D=none→eD J g tc te T.length σ D Q (upd H D (.lst [])))
  (hRR:∀ D C s' H' m,s'.heap.Ns C m→H' C=none→C≠X.env.locals→(∀ x c,X.env.cells.lookup x=some c→c≠C)→(∀ p∈X.pn++pins,p.1≠C)→X.s₀.heap.objs.size≤C→Inv X pins σ H' s'→
   (∀ h',Heap.SameBut C s'.heap h'→Inv X pins σ H' { s' with heap:=h' })→Q (.ref D) H'→RR (.ref D) C (.ok .next) s') :
  wpAny (model X.prog X.w) X.A (newList []) (fun acc s₃=>wpAny (model X.prog X.w) X.A (newFunctionEnv scope X.env.globals (cC X.env.cells scope.names []) [] X.env.qual none .none (some X.env)) (fun cenv s₄=>
   codeAny (model X.prog X.w) X.A (.compStart (.ListComp elt [⟨tg,iter,ifs,0⟩] scope pos) 0 (.ref it) acc { cenv with scope:=relabel scope X.env }) (RR acc cenv.locals) s₄) E s₃) E s:=by
 refine wpAny_newObj_type (zJ ?_)
 dsimp only
 generalize hH2:s.heap.push { cls:=.type "list", dict:=none,data:=.seq ([]:List Value).toArray }=P2 at ⊢;have hC:P2.objs.size=s.heap.objs.size+1:=by rw[← hH2,Heap.size_push]
 -- the new list D, the block's names C
 obtain⟨D,hD⟩ : ∃ D:Nat,D=s.heap.objs.size:=⟨_,rfl⟩
 obtain⟨C,hCC⟩ : ∃ C:Nat,C=P2.objs.size:=⟨_,rfl⟩
 obtain⟨h₁,hh1⟩ : ∃ h₁:Heap,h₁=pushCells (P2.push { cls:=.type "dict", data:=.dict #[] }) scope.names:=⟨_,rfl⟩
 have kp1:∀ b o,P2.get? b=some o→h₁.get? b=some o:=fun b o e=>hh1 ▸ pushCells_keeps _ _ b o (Heap.get?_push_of_some _ e)
 have hns₁:h₁.Ns C (fun _=>none):=by rw[hh1,hCC]; exact(Heap.Ns.new P2 (.type "dict")).keeps (pushCells_keeps _ _)
 have hsz1:(P2.push { cls:=.type "dict", data:=.dict #[] }).objs.size=C+1:=by rw[Heap.size_push,hCC]
 rw[← hh1,← hCC];rw[← hD]at hC ⊢
 rw[← hCC]at hC
 have hDC:D≠C:=by omega
 have hDlt:D<C:=by omega
 have neD:∀ b o,s.heap.get? b=some o→b≠D:=fun b o e=>hD ▸ Nat.ne_of_lt (Heap.lt_size e)
 have neC:∀ b o,s.heap.get? b=some o→b≠C:=fun b o e=>Nat.ne_of_lt (Nat.lt_trans (hD ▸ Heap.lt_size e) hDlt)
 have old:∀ b o,s.heap.get? b=some o→h₁.get? b=some o:=fun b o e=>kp1 b o (hH2 ▸ Heap.get?_push_of_some _ e)
 have hHD:H D=none:=I.hok.fresh (by omega)
 have hHC:H C=none:=I.hok.fresh (by omega)
 have dat:h₁.get? D=some { cls:=.type "list", data:=.seq ([]:List Value).toArray 0 }:=by
  refine kp1 _ _ ?_
  rw[← hH2,hD];exact Heap.get?_push_size _ rfl
 -- the block's context stands
 have hcl:∀ x c,(cC X.env.cells scope.names []).lookup x=some c→X.env.cells.lookup x=some c:=fun x c e=>
  jj (fun y hy hk=>I.ok.has y.1 (S.free y hy hk)) (fun y c z=>by simp at z) e
 have hlt:∀ (x:Str) (c:Nat),X.env.cells.lookup x=some c→c<D:=fun x c e=>by obtain⟨v,z⟩:=I.cell x c e; rw[hD]; exact z.lt
 have hcf:∀ (x:Str) (c:Nat),(cellsFrom (C+1) scope.names (cC X.env.cells scope.names [])).lookup x=some c→X.env.cells.lookup x=some c∨C<c:=fun x c e=>by
  rcases m6 _ _ _ e with z | ⟨z,_⟩
  ·exact .inl (hcl x c z)
  ·exact .inr z
 have okC:(bM X N0 T scope C fp s H).Ok:=by
  refine⟨I.ok.mod,?_,I.ok.glob,I.ok.blt,?_,qE _ _ _ (fun x c e=>?_) (fun x y c e1 e2=>I.ok.inj x y c (hcl x c e1) (hcl y c e2)),fun x hx=>?_,fun x c z e=>?_,I.ok.hd,I.ok.frames,.inl rfl,fun b hb=>⟨?_,fun x c e=>?_⟩,
   I.bs,?_,fun b o e hb=>?_,fun b hb z=>?_,I.stack,I.stkFree⟩
  ·show (relabel scope X.env).kind = .function
   exact S.kind
  ·show s.heap.objs.size≤C
   omega
  ·have:=hlt x c (hcl x c e); omega
  ·have hx':(relabel scope X.env).names.lookup x=some .cell∨(relabel scope X.env).names.lookup x=some .free:=hx
   have m:(x,NameKind.free)∈scope.names∨(x,NameKind.cell)∈scope.names:=by
    rcases hx' with z | z
    ·exact eA z (.inl rfl)
    ·exact eA z (.inr rfl)
   rcases m with m | m
   ·exact mj _ _ _ (fk m)
   ·exact qF _ _ _ m
  ·have m:(x,NameKind.cell)∈scope.names:=by
    obtain⟨y,hy,q⟩:=List.any_eq_true.mp (show w4 scope x=true from z)
    rw[Bool.and_eq_true]at q
    have q1:y.1=x:=by simpa using q.1
    have q2:y.2 = .cell:=by simpa using q.2
    rw[← q1,← q2]; exact hy
   have:=qd _ _ _ m c e
   show s.heap.objs.size≤c
   omega
  ·show b≠C
   obtain⟨o,e,_⟩:=Tn.obj 0 _ st b hb
   exact neC b o e
  ·rcases hcf x c e with z | z
   ·exact(hf b hb).2.2.2.2.1 x c z
   ·obtain⟨o,e,_⟩:=Tn.obj 0 _ st b hb
    have q:@LT.lt Nat _ b s.heap.objs.size:=Heap.lt_size e
    intro ecb
    have ecb':@Eq Nat c b:=ecb
    have zz:C<c:=z
    omega
  ·exact Nat.le_trans I.ok.bsz I.sz
  ·obtain⟨_,_,_,z,_⟩:=hf b hb
   rcases z with z | z
   ·exact I.ok.noex b o e z
   ·exact absurd (Nat.lt_of_lt_of_le (Nat.lt_of_lt_of_le (Heap.lt_size e) I.ok.bsz) z) (Nat.lt_irrefl _)
  ·obtain⟨_,z1,z2,_⟩:=hf b hb
   rcases List.mem_cons.mp (I.stkSub b z) with q | q
   ·exact z1 q
   ·exact z2 q
 have I1:Inv (bM X N0 T scope C fp s H) [] (σ++List.replicate T.length none) (upd H D (.lst [])) { s with heap:=h₁ }:=by
  refine⟨okC,rfl,I.bare,Un.laid (h:=s.heap) old (by omega) hHD,⟨_,hns₁,fun i x v e1 e2 e3=>?_⟩,fun x c e=>?_,?_,fun x c e=>?_,fun p hp=>(by simp[bM]at hp),I.hok.laid old (by omega) ?_,?_⟩
  ·have e1':(N0++T)[i]? = some x:=e1
   have hl:=I.len;have hl0:=S.len0
   have hi:i<σ.length:=by
    rcases Nat.lt_or_ge i σ.length with z | z
    ·exact z
    ·rw[List.getElem?_append_right z]at e2
     rw[List.getElem?_replicate]at e2
     split at e2 <;> cases e2
   rw[List.getElem?_append_left hi]at e2
   rw[List.getElem?_append_left (by omega)]at e1'
   have hxN:x∈N0:=List.mem_of_getElem? e1'
   have e3':(relabel scope X.env).names.lookup x=some .local∨(relabel scope X.env).names.lookup x=some .cell∨(relabel scope X.env).names.lookup x=some .free:=e3
   have hnc:(x,NameKind.cell)∉scope.names:=fun m=>S.apart _ m (.inr rfl) hxN
   have fr:(relabel scope X.env).names.lookup x=some .cell∨(relabel scope X.env).names.lookup x=some .free:=by
    rcases e3' with z | z | z
    ·exact absurd hxN (S.apart (x,.local) (qT z) (.inl rfl))
    ·exact .inl z
    ·exact .inr z
   have m:(x,NameKind.free)∈scope.names:=by
    rcases fr with z | z
    ·exact(eA z (.inl rfl)).resolve_right hnc
    ·exact(eA z (.inr rfl)).resolve_right hnc
   have kX:=S.free _ m rfl;obtain⟨mm,hn,hl'⟩:=I.loc
   obtain⟨u,r,lk⟩:=hl' i x v (S.same i x _ e1' m) e2 (.inr kX)
   refine⟨u,r,.inr ⟨fr,?_⟩⟩
   rcases lk with ⟨z,_⟩ | ⟨_,c,ec,cc⟩
   ·rcases kX with q | q
    ·rw[q]at z; cases z
    ·rw[q]at z; cases z
   ·obtain⟨c',ec'⟩:=fk (cells:=X.env.cells) (acc:=[]) m
    have:=hcl x c' ec'
    rw[ec]at this; cases this
    exact⟨c,(m4 _ _ _ hnc).trans ec',cc.keeps old⟩
  ·have q:=m3 scope.names (P2.push { cls:=.type "dict", data:=.dict #[] }) (cC X.env.cells scope.names []) (fun x c e=>by
    obtain⟨v,z⟩:=I.cell x c (hcl x c e)
    exact⟨v,z.keeps fun b o q=>Heap.get?_push_of_some _ (hH2 ▸ Heap.get?_push_of_some _ q)⟩) x c
   rw[hsz1,← hh1]at q
   exact q e
  ·show upd H D (.lst []) C=none
   rw[al (Ne.symm hDC)]; exact hHC
  ·rcases hcf x c e with e | e
   ·have q:=I.freeC x c e
    obtain⟨v,o,z,_⟩:=I.cell x c e
    rw[al (neD c o z)]; exact q
   ·have e':C<c:=e
    have q1:c≠D:=fun q=>by have q':@Eq Nat c D:=q; omega
    rw[al q1]; exact I.hok.fresh (by omega)
  ·exact⟨Nat.zero_le _,[],0,.nil,dat⟩
  ·show (σ++List.replicate T.length none).length=(N0++T).length
   rw[List.length_append,List.length_append,List.length_replicate,I.len,S.len0]
 have st1:tn 0 h₁:=Tn.keep _ _ _ st fun b _ o e=>old b o e
 have fp1:∀ {H':Hp},(∀ b∈fp,H' b=none)→∀ b∈fp,gK (bM X N0 T scope C fp s H) [] H' b:=fun hn b hb=>
  ⟨hn b hb,(okC.exf b hb).1,okC.exfs b hb,.inl hb,(okC.exf b hb).2,fun p hp=>(by simp[bM]at hp)⟩
 have fp0:∀ b∈fp,upd H D (.lst []) b=none:=fun b hb=>by
  obtain⟨o,e,_⟩:=Tn.obj 0 _ st b hb
  rw[al (neD b o e)]; exact(hf b hb).1
 obtain⟨W,⟨m0,w0⟩,turn⟩:=h D hHD
 have loop:∀ s₃ : Shared,s₃={ s with heap:=h₁ }→
   codeAny (model X.prog X.w) X.A (.compLoop (.ListComp elt [⟨tg,iter,ifs,0⟩] scope pos) 0 (.ref it) (.ref D) (compEnvC scope (cellsFrom (C+1) scope.names (cC X.env.cells scope.names [])) C X.env)) (RR (.ref D) C) s₃:=by
  rintro s₃ rfl
  refine fz (fun n s'=>∃ i H' ys,Inv (bM X N0 T scope C fp s H) [] (σ++List.replicate T.length none) H' s'∧tn i s'.heap∧(∀ b∈fp,H' b=none)∧W i n ys H') ?_ m0 ⟨0,_,[],I1,st1,fp0,w0⟩
  rintro n s3 ⟨i,H3,ys,I3,st3,fr3,w3⟩
  rcases turn i n ys H3 w3 with ⟨stop,qn⟩ | ⟨go,step⟩
  ·refine bc (Tn.done (bM X N0 T scope C fp s H) rfl rfl rfl hc i [] s3 _ H3 (fun _ _=>False) I3 (fp1 fr3) st3 stop) fun r s4 ⟨hr,I4⟩=>?_
   subst hr;obtain⟨m,hm,_⟩:=I4.loc
   have hch:∀ b∈fp,(b∈X.ex∨X.s₀.heap.objs.size≤b)∧b≠X.env.locals∧(∀ x c,X.env.cells.lookup x=some c→c≠b)∧∀ p∈X.pn++pins,p.1≠b:=fun b hb=>
    ⟨(hf b hb).2.2.2.1,(hf b hb).2.1,(hf b hb).2.2.2.2.1,(hf b hb).2.2.2.2.2⟩
   have u4:Un (jz X.stack) fp H H3 s.heap s4.heap:=I4.base
   refine hRR D C s4 H3 m hm I4.free (Ne.symm (Nat.ne_of_lt (Nat.lt_trans (hD ▸ I.lt) hDlt))) (fun x c e=>?_) (fun p hp=>?_) (Nat.le_trans (hD ▸ I.sz) (Nat.le_of_lt hDlt)) (I.call' (ch:=fp) I4.os u4 I4.hok I4.bare hch) (fun h' hs'=>?_) qn
   ·obtain⟨v,o,q,_⟩:=I.cell x c e
    exact neC c o q
   ·exact neC _ _ (I.pin p hp).1
   ·refine I.call' (ch:=fp) (s':={ s4 with heap:=h' }) I4.os ⟨fun b o q n' hb hx=>(hs'.2 b (neC b o q)).trans (u4.keep b o q n' hb hx),fun b o q n' hb hx=>?_,u4.free,fun b o q hx=>?_,u4.tups,u4.frzs,u4.tbls⟩ (I4.hok.sameBut hs' I4.free) I4.bare hch
    ·obtain⟨sl,e⟩:=u4.slot b o q n' hb hx
     exact⟨sl,(hs'.2 b (neC b o q)).trans e⟩
    ·obtain⟨o',e⟩:=u4.there b o q hx
     exact⟨o',(hs'.2 b (neC b o q)).trans e⟩
  ·refine bc (Tn.item (bM X N0 T scope C fp s H) rfl rfl rfl hc i [] s3 _ H3 (fun _ _=>False) I3 (fp1 fr3) st3 go) fun r s4 ⟨u,hr,h4⟩=>?_
   subst hr;refine bc h4 fun _ s5 ⟨x,H5,I5,r5,y5,st5,fr5⟩=>?_
   have I5':=I5.pinned (fp1 fr5) (Tn.obj _ _ st5);refine bc (hg C fp s H _ s5 _ H5 x u _ I5' r5 (hfr _ _ _ _ (step x H5 y5))) fun _ s6 ⟨σ6,H6,I6,q6,l6,k6⟩=>?_
   have back:∀ {H7:Hp} {s7:Shared},Inv (bM X N0 T scope C fp s H) ([]++jp fp s5.heap) σ6 H7 s7→(∀ {m':Nat} {zs:List V},m'<n→W (i+1) m' zs H7→∃ m,m<n∧∃ i H' ys,Inv (bM X N0 T scope C fp s H) [] (σ++List.replicate T.length none) H' s7∧tn i s7.heap∧(∀ b∈fp,H' b=none)∧W i m ys H'):=fun {H7 s7} I7 {m' zs} hm w7=>by
    refine⟨m',hm,i+1,H7,zs,I7.unpinned.weak (by rw[l6]) (fun j v e=>?_),Tn.keep _ _ _ st5 fun b hb o e=>(I7.pin (b,o) (List.mem_append_right _ (List.mem_append_right _ (ef hb e)))).1,fun b hb=>?_,w7⟩
    ·have hj:j<σ.length:=by
      rcases Nat.lt_or_ge j σ.length with z | z
      ·exact z
      ·rw[List.getElem?_append_right z,List.getElem?_replicate]at e
       split at e <;> cases e
     rw[k6 j (by rw[← I.len]; exact hj)]
     exact e
    ·obtain⟨o,e,d⟩:=Tn.obj _ _ st5 b hb
     exact(I7.pin (b,o) (List.mem_append_right _ (List.mem_append_right _ (ef hb e)))).2.1
   refine bc (hi C fp s H _ s6 σ6 H6 _ I6 q6) fun b s7 ⟨H7,I7,q7⟩=>?_
   cases b with
   | false=>
    obtain⟨m',hm,w7⟩:=(show ∃ m',m'<n∧W (i+1) m' ys H7 from by simpa using q7)
    exact back I7 hm w7
   | true=>
    rw[if_pos rfl]at q7
    refine bc (he C fp s H _ s7 σ6 H7 _ I7 q7) fun v s8 ⟨y,H8,I8,r8,hD8,hz,m',hm,w8⟩=>?_
    refine bc (j_ (X:=bM X N0 T scope C fp s H) _ s8 σ6 H8 (.ref D) [y] (.ref D) [v] (fun _ H9=>H9=upd H8 D (.lst (ys++[y]))) I8 rfl (.cons r8 .nil) ⟨D,ys,y,rfl,rfl,hD8,hz,rfl⟩) fun v9 s9 ⟨y9,H9,I9,_,e9⟩=>?_
    subst e9;exact back I9 hm w8
 exact codeAny_compStart_list (loop _ rfl) (Tn.self X.A 0 _ _ _ st1 (loop _ rfl))
theorem xx(S:jH X N0 T scope)(hc:X.calm=true)(hI:PI X tg iter wi)
  (hg:∀ C fp s H,PG (bM X N0 T scope C fp s H) tg g) (hfr:nU g X.N.length) (hi:∀ C fp s H,PIfs (bM X N0 T scope C fp s H) ifs tc) (he:∀ C fp s H,PE (bM X N0 T scope C fp s H) elt te)
  (hs:∀ x,foldedSetIterable iter X.env x=pure x:=by intro _; rfl):PE X (.ListComp elt [⟨tg,iter,ifs,0⟩] scope pos) (oG wi g tc te T.length):=by
 intro pins s σ H Q I h
 rw[eval_ListComp];refine wpAny_comprehension_free (use:=none) rfl hs (gI fun x hx hk=>I.ok.has x.1 (S.free x hx hk)) S.kind S.names (bc (hI pins s σ H _ I h) fun v s1 h1=>bc h1 fun itv s2 h2=>?_)
 obtain⟨it,fp,tn,J,H2,e,I2,Tn,st2,f2,q2⟩:=h2
 subst e;refine tV (RR:=fun acc C=>compPost (model X.prog X.w) X.A X.xe none (EP X pins σ Q) acc C) S hc hg hfr hi he I2 Tn st2 f2 q2 ?_
 intro D C s' H' m hn hC hL hcells hpins hfresh I' hI' q
 exact⟨m,hn,fun h' hs'=>⟨.ref D,H',hI' h' hs',rfl,q⟩⟩
end
structure CompScO (fsc:Scope) (N N0 T:List Str) (scope:Scope):Prop where
 kind:scope.kind = .function
 names:∀ y∈scope.names,y.2 = .local→scope.names.lookup y.1=some .local
 free:∀ y∈scope.names,y.2 = .free→fsc.names.lookup y.1=some .cell∨fsc.names.lookup y.1=some .free
 apart:∀ y∈scope.names,y.2 = .local∨y.2 = .cell→y.1∉N0
 len0:N0.length=N.length
 same:((N0.zip N).all fun p=>p.1 == p.2 || !(scope.names.any fun y=>y.1 == p.1))=true
theorem CompScO.to{X:Cx}{fsc:Scope}{N N0 T:List Str}{scope:Scope}(S:CompScO fsc N N0 T scope)(h1:X.env.scope=fsc)(h2:X.N=N):jH X N0 T scope:=by
 subst h1 h2;refine⟨S.kind,S.names,S.free,S.apart,S.len0,fun i x k e m=>?_⟩
 have hl:=S.len0;have hi:i<N0.length:=(List.getElem?_eq_some_iff.mp e).1
 have hN:X.N[i]? = some X.N[i]:=List.getElem?_eq_getElem (by omega)
 have hz:(x,X.N[i])∈N0.zip X.N:=List.mem_of_getElem? (i:=i) (by rw[List.getElem?_zip_eq_some]; exact⟨e,hN⟩)
 have q:=List.all_eq_true.mp S.same _ hz;simp only[Bool.or_eq_true,beq_iff_eq,Bool.not_eq_true']at q
 rcases q with q | q
 ·rw[hN,← q]
 ·have:(scope.names.any fun y=>y.1 == x)=true:=List.any_eq_true.mpr ⟨_,m,by simp⟩
  rw[this]at q; cases q
section
variable{X:Cx}{N0 T:List Str}{scope:Scope}{C:Addr}{fp:List Addr}{s:Shared}{H:Hp}{x:Str}
theorem DG(fsc:Scope)(h:(bB scope fsc).names.lookup x=some .globalImplicit)(e:X.env.scope=fsc:=by rfl):Gl (bM X N0 T scope C fp s H) x:=by subst e; exact h
theorem Cd(fsc:Scope)(h:((bB scope fsc).names.lookup x=some .local||(bB scope fsc).names.lookup x=some .cell||(bB scope fsc).names.lookup x=some .free)=true)(e:X.env.scope=fsc:=by rfl):au (bM X N0 T scope C fp s H).env.scope x:=by
 subst e;simp only[Bool.or_eq_true,decide_eq_true_eq]at h
 rcases h with (h | h) | h
 ·exact .inl h
 ·exact .inr (.inl h)
 ·exact .inr (.inr h)
theorem Ck(fsc:Scope)(h:((bB scope fsc).names.lookup x=some .local||(bB scope fsc).names.lookup x=some .cell)=true)(e:X.env.scope=fsc:=by rfl):aY (bM X N0 T scope C fp s H).env.scope x:=by
 subst e;simp only[Bool.or_eq_true,decide_eq_true_eq]at h
 rcases h with h | h
 ·exact .inl h
 ·exact .inr h
theorem Ef(fsc:Scope)(h:(w4 scope x||(bB scope fsc).names.lookup x=some .local)=true)(e:X.env.scope=fsc:=by rfl):(bM X N0 T scope C fp s H).fn x=true∨(bM X N0 T scope C fp s H).env.scope.names.lookup x=some .local:=by
 subst e;simp only[Bool.or_eq_true,decide_eq_true_eq]at h
 rcases h with h | h
 ·exact .inl h
 ·exact .inr h
end
theorem wf{X:Cx}{n:Nat}(P:Program)(w:World)(hr:Room n X.A){o e:Expr}{td ty:TE}{apos cpos:Pos}(ho:PE X o td)(he:PE X e ty)(m:M1 X o "get" apos e cpos) (hP:X.prog=P:=by rfl) (hw:X.w=w:=by rfl):PE X (.Call (.Attribute o "get" apos) [e] [] cpos) (mF P w td ty):=by subst hP hw; exact zk hr ho he m
theorem vF(P:Program)(w:World)(td ty:TE){σ : St}{H:Hp}{Q:VK}:mF P w td ty σ H Q=td σ H fun x H1=>∃ a kvs,x = .ref a∧DO P w H1 a kvs∧ty σ H1 fun y H2=>∃ b k kvs',y = .ref b∧DO P w H2 a kvs'∧KeyO H2 k b∧Q ((aI kvs' k).getD .non) H2:=rfl
theorem mq(P:Program)(w:World)(tk tv:TE){σ : St}{H:Hp}{Q:VK}:mP P w tk tv σ H Q=∀ p,H p=none→∀ u,DO P w (upd H p u) p []→tk σ (upd H p u) fun y H1=>tv σ H1 fun z H2=>∃ b k,y = .ref b∧KeyO H2 k b∧DO P w H2 p []∧∀ u',DO P w (upd H2 p u') p [(k,z)]→Q (.ref p) (upd H2 p u'):=rfl
end L2
namespace L2
open PySem PySem.Spec PyProof.Rows
structure tw (P:Program) (w:World) (K:PySem.W.Frag) (mg:Str→Option Value) (base:Heap) (k:Nat) (f:Addr) (ps:List Str) (sp:Sp):Prop where
 ex:∃ fd,iQ P w K mg base kW k f fd ps sp∧Binds K fd ps []∧PySem.W.keepIn K (.ref f)=true
theorem Cal.f{P:Program}{w:World}{K:PySem.W.Frag}{mg:Str→Option Value}{base:Heap}{k:Nat}{x:Str}{ps:List Str}{sp:Sp}(c:Cal P w K mg base k x ps sp):∃ f,mg x=some (.ref f)∧tw P w K mg base k f ps sp:=by
 obtain⟨f,fd,F,b,kp,m⟩:=c.ex
 exact⟨f,m,fd,F,b,kp⟩
def Ah(i:Nat)(f:Addr)(sp:Sp)(t:TA):TE:=fun σ H Q=>σ[i]? = some (some (.ref f))∧oO sp [] E0 t σ H Q
section
variable{X:Cx}
theorem zb{i j k:Nat}{f:Addr}{x:Str}{ps:List Str}{sp:Sp}{p pos:Pos}{e:Expr}{es:List Expr}{t:TA}(c:tw X.prog X.w X.K X.mg X.base j f ps sp)(hr:Room k X.A)(ha:PA X (e::es) t)(hle:j≤k:=by decide)(hN:X.N[i]? = some x:=by rfl)(hv:au X.env.scope x:=by first | exact vSs (by decide +kernel) | exact Or.inl rfl)
  (hd:(x == ("__debug__" : Str))=false:=by decide) (hcd:(x == ("__classdict__" : Str))=false:=by decide) (he:starEach (e::es) X.env=(false,eval e X.env)::starEach es X.env:=by rfl) (hpl:(backTo pos (starEach es X.env)).any (·.1)=false:=by rfl) :
  PE X (.Call (.Name x p) (e::es) [] pos) (Ah i f sp t):=by
 intro pins s σ H Q I h
 obtain⟨hσ,h⟩:=h
 obtain⟨fd,F,hb,kp⟩:=c.ex
 refine wpAny_Call_Name_kw (bc (uC (pos:=p) hN hv hd hcd pins s σ H (fun v H'=>v = .ref f∧H'=H) I ⟨_,hσ,rfl,rfl⟩) fun u s0 ⟨v,H0,I0,r0,hv0,hH0⟩=>?_)
 subst hv0 hH0;obtain rfl:u=Value.ref f:=r0
 refine PySem.W.callWith_K (h₀:=X.base) I0.ok.mod.kin kp (bc (ha pos pins s0 σ H0 _ I0 h) fun us s1 ⟨vs,H1,I1,r,q⟩=>⟨I1.kIn,?_⟩) he hpl
 exact ve F (hr.mono hle) hb .nil yO I1 r q
theorem Ao{x:Str}{f:Addr}{pos:Pos}(hm:X.mg x=some (.ref f))(hg:Gl X x:=by first | exact vGg (by decide +kernel) | rfl)(hd:(x == ("__debug__" : Str))=false:=by decide):PE X (.Name x pos) (tC (.ref f)):=rJ hg hm rfl hd
end
end L2
namespace L2
open PySem PySem.Spec PyProof PyProof.Rows
def RawE(h:Heap)(d:Addr)(es:Array DictEntry)(ep:Nat):Prop:=∃ o,h.get? d=some o∧o.ExactDict∧o.data = .dict es ep
section
variable{prog:Program}{w:World}{A:Around}{E:Value→Shared→Prop}{s:Shared}{d:Addr}{es:Array DictEntry}{ep:Nat}
theorem RawE.ty(x:RawE s.heap d es ep):s.TypeIs (.ref d) "dict" := let ⟨o,eo,ex,_⟩:=x; ⟨o,eo,ex.1⟩
theorem RawE.by{h h':Heap}(x:RawE h d es ep)(k:∀ o,h.get? d=some o→h'.get? d=some o):RawE h' d es ep:=let ⟨o,eo,r⟩:=x; ⟨o,k o eo,r⟩
theorem sI(nd:(d == sysModules)=false):MeetsIn prog w (Builtin.«dict.values» ⟨[.ref d],[]⟩) (fun _ R s=>(∃ es ep,RawE s.heap d es ep)∧R (.ok (.ret (.ref s.heap.objs.size))) { s with heap:=s.heap.push { cls:=.type "dict_values", data:=.fields #[.ref d] } }):=
 .of_wp fun A R s ⟨⟨es,ep,x⟩,q⟩=>by
  refine wpAny_bind ?_
  unfold Builtin.Dict.noArgs;refine wpAny_bind (wpAny_notOrdered_dict x.ty ?_)
  show wpAny _ _ (pure d) _ _ s
  refine wpAny_pure ?_
  show wpAny _ _ (Builtin.Dict.showsAll d >>= _) _ _ s
  unfold Builtin.Dict.showsAll;rw[if_neg (by rw[nd]; decide)]
  exact wpAny_bind (wpAny_pure (wpAny_bind (wpAny_newObj_type (wpAny_pure ⟨_,rfl,q⟩))))
theorem vY{r:Addr}{Q:Value→Shared→Prop}(vw:s.heap.IsValuesView r d)(x:RawE s.heap d es ep)
  (q:Q (.ref s.heap.objs.size) { s with heap:=s.heap.push { cls:=.type "dict_valueiterator", data:=.fields #[.ref d,.int 0 0,.int es.size 0,.int ep 0] } }):wpAny (model prog w) A (pyIter (.ref r)) Q E s:=by
 obtain⟨o,eo,ex,ed⟩:=id x
 obtain⟨u,eu,uc,ud⟩:=id vw
 have ty:=vw.typeIs;refine wpAny_pyIter_slot ty PySem.F.slot_dict_values_iter (wpAny_call_entry PySem.F.slot_dict_values_iter ty PySem.F.entry_dict_values_iter ?_ (PySem.F.args_dict_values_iter_1 _))
 unfold Builtin.«dict_values.__iter__»
 refine wpAny_bind (wpAny_pure (wpAny_bind ?_))
 unfold Builtin.Dict_items.dictOf;refine wpAny_bind (wpAny_field eu ud (x:=.ref d) rfl (wpAny_pure (wpAny_bind ?_)))
 unfold Builtin.Dict_items.newIterator;refine wpAny_bind (wpAny_dictEntries eo ed (wpAny_bind (wpAny_dictEpoch eo ed ?_)))
 have ow:Builtin.Dict_items.ownsTuple "dict_valueiterator" = false:=by decide
 simp only[ow,Bool.false_eq_true,if_false]
 refine wpAny_newObj_type (wpAny_pure ⟨_,rfl, "dict_valueiterator", _,⟨_,Heap.get?_push_size _ rfl,rfl⟩,PySem.F.slot_dict_valueiterator_next.lookup,?_⟩)
 simpa [rawInt] using q
theorem uL{it:Addr}{i:Nat}{Q:Option Value→Shared→Prop}(ki:s.heap.IsValIter it d i es.size ep)(x:RawE s.heap d es ep)(hi:i<es.size)
  (q:∀ h',h'.IsValIter it d (i+1) es.size ep→Heap.SameBut it s.heap h'→Q (some es[i].val) { s with heap:=h' }):wpAny (model prog w) A (pyNext (.ref it)) Q E s:=by
 obtain⟨u,eu,uc,ud⟩:=id ki
 obtain⟨o,eo,ex,ed⟩:=id x
 have ty:=ki.typeIs;unfold pyNext;refine wpAny_bind (wpAny_attempt (wpAny_callSpecial?_slot (name:=Str.ofString "__next__") ty PySem.F.slot_dict_valueiterator_next (wpAny_call_entry PySem.F.slot_dict_valueiterator_next ty PySem.F.entry_dict_valueiterator_next ?_ (PySem.F.args_dict_valueiterator_next_1 _))))
 refine wpAny_bind (wpAny_pure (wpAny_bind (wpAny_bind ?_)))
 refine wpAny_bind (wpAny_typeNameOfWhole_valiter ty (wpAny_pure (wpAny_bind (wpAny_fieldsOf eu ud ?_))))
 have ow:Builtin.Dict_items.ownsTuple "dict_valueiterator" = false:=by decide
 simp only[ow,Bool.false_eq_true,if_false]
 show wpAny _ _ (if (Value.ref d == Value.none)=true then _ else _) _ _ s
 rw[if_neg (show ¬ (Value.ref d == Value.none)=true from fun z=>Bool.false_ne_true z)]
 refine wpAny_bind (wpAny_pure (wpAny_bind (wpAny_dictEntries eo ed ?_)))
 rw[if_neg (by simp)]
 refine wpAny_bind (wpAny_pure (wpAny_bind (wpAny_dictEpoch eo ed ?_)))
 rw[if_neg (by simp)]
 refine wpAny_pure ?_
 simp only[show ¬ ((i:Int)<0) by omega,if_false,Int.toNat_natCast,Array.getElem?_eq_getElem hi]
 refine wpAny_bind (wpAny_bind (wpAny_typeNameOfWhole_valiter ty (wpAny_pure (wpAny_bind (wpAny_isOneOf_valiter ty ?_)))))
 show wpAny _ _ (setField (.ref it) 1 (rawInt ((i:Int)+1)) >>= _) _ _ s
 refine wpAny_bind (wpAny_setField eu ud (by simp) ?_)
 have k':(s.heap.update it (Obj.mapFields (·.setIfInBounds 1 (rawInt ((i:Int)+1))))).IsValIter it d (i+1) es.size ep:=
  ⟨_,Heap.get?_update_self _ eu (Obj.isFreed_of_fields (Obj.data_mapFields ud _)),(Obj.cls_mapFields ..).trans uc,by rw[Obj.data_mapFields ud]; simp[rawInt]⟩
 generalize hz:s.heap.update it (Obj.mapFields (·.setIfInBounds 1 (rawInt ((i:Int)+1))))=h2 at k' ⊢;refine wpAny_bind (wpAny_holding (wpAny_bind (wpAny_isOneOf_valiter (s:={ s with heap:=h2 }) k'.typeIs (wpAny_bind (wpAny_isOneOf_valiter (s:={ s with heap:=h2 }) k'.typeIs ?_)))))
 show wpAny _ _ (pure es[i].val) _ _ _
 exact wpAny_pure (wpAny_pure ⟨_,rfl,wpAny_pure (q h2 k' (hz ▸ Heap.SameBut.update ..))⟩)
theorem x6{it:Addr}{i:Nat}{Q:Option Value→Shared→Prop}(hh:A.handled=none)(ki:s.heap.IsValIter it d i es.size ep)(x:RawE s.heap d es ep)(hi:es.size≤i)
  (q:∀ h',Heap.ExtBut it s.heap h'→Q none { s with heap:=h' }):wpAny (model prog w) A (pyNext (.ref it)) Q E s:=by
 obtain⟨u,eu,uc,ud⟩:=id ki
 obtain⟨o,eo,ex,ed⟩:=id x
 have ty:=ki.typeIs;unfold pyNext;refine wpAny_bind (wpAny_attempt (wpAny_callSpecial?_slot (name:=Str.ofString "__next__") ty PySem.F.slot_dict_valueiterator_next (wpAny_call_entry PySem.F.slot_dict_valueiterator_next ty PySem.F.entry_dict_valueiterator_next ?_ (PySem.F.args_dict_valueiterator_next_1 _))))
 refine wpAny_bind (wpAny_pure (wpAny_bind (wpAny_bind ?_)))
 refine wpAny_bind (wpAny_typeNameOfWhole_valiter ty (wpAny_pure (wpAny_bind (wpAny_fieldsOf eu ud ?_))))
 have ow:Builtin.Dict_items.ownsTuple "dict_valueiterator" = false:=by decide
 simp only[ow,Bool.false_eq_true,if_false]
 show wpAny _ _ (if (Value.ref d == Value.none)=true then _ else _) _ _ s
 rw[if_neg (show ¬ (Value.ref d == Value.none)=true from fun z=>Bool.false_ne_true z)]
 refine wpAny_bind (wpAny_pure (wpAny_bind (wpAny_dictEntries eo ed ?_)))
 rw[if_neg (by simp)]
 refine wpAny_bind (wpAny_pure (wpAny_bind (wpAny_dictEpoch eo ed ?_)))
 rw[if_neg (by simp)]
 refine wpAny_pure ?_
 simp only[show ¬ ((i:Int)<0) by omega,if_false,Int.toNat_natCast,Array.getElem?_eq_none hi]
 refine wpAny_bind (wpAny_bind (wpAny_typeNameOfWhole_valiter ty (wpAny_pure ?_)))
 show wpAny _ _ (setField (.ref it) 0 .none >>= _) _ _ s
 refine wpAny_bind (wpAny_setField eu ud (by simp) ?_)
 show wpAny _ _ (newExc (.type "StopIteration") [] >>= _) _ _ _
 simp only[newExc,newTuple]
 refine wpAny_bind (wpAny_bind (wpAny_newObj_type (wpAny_bind (m:=firstArgMember _ _) (wpAny_of_eq (a:=Value.none) (by first | rfl | (simp only[firstArgMember]; rfl)) ?_)) (by size_fits)))
 refine wpAny_newObj_type ?_ (by size_fits)
 simp only[raiseNew]
 refine wpAny_bind (wpAny_handled ?_)
 rw[show A.in1.handled=none from hh];refine wpAny_bind (wpAny_pure (wpAny_throw ?_))
 refine wpAny_bind (wpAny_isInstance (b:=true) (T := "StopIteration") ⟨_,Heap.get?_push_size _ rfl,rfl⟩ isSubtype_stop ?_)
 exact wpAny_pure (q _ (((Heap.SameBut.update ..).extBut.push _).push _))
theorem sE(hh:A.handled=none)(I:Addr)(ne:d≠I):Walks prog w A I [I,d] [I] es.size (fun i v=>∃ e,es[i]? = some e∧v=e.val) (fun i h=>h.IsValIter I d i es.size ep∧RawE h d es ep) where
 sub:=fun b hb=>by simp at hb; simp[hb]
 frame:=fun i h h' st k=>⟨let ⟨o,e,r⟩:=st.1; ⟨o,k I (by simp) o e,r⟩,st.2.by fun o e=>k d (by simp) o e⟩
 item:=fun i s Q E hi st q=>uL st.1 st.2 hi fun h' k' sb=>q _ h' s.toks ⟨_,Array.getElem?_eq_getElem hi,rfl⟩ ⟨k',st.2.by fun o e=>sb.extBut d o ne e⟩ fun b o hb e=>sb.extBut b o (fun z=>hb (by simp[z])) e
 done:=fun s Q E st q=>x6 hh st.1 st.2 (Nat.le_refl _) fun h' eb=>q h' s.toks fun b o hb e=>eb b o (fun z=>hb (by simp[z])) e
 self:=fun i s Q E st q=>wpAny_pyIter_valiter st.1 q
theorem wZ{r:Addr}:PySem.W.KdlSrc prog w "dict_values" r d es.size (fun i v=>∃ e,es[i]? = some e∧v=e.val) (fun h=>h.IsValuesView r d∧RawE h d es ep) where
 type:=fun _ x=>x.1.typeIs
 there:=fun _ x=>⟨let ⟨_,e,_⟩:=x.1; Heap.lt_size e,let ⟨_,e,_⟩:=x.2; Heap.lt_size e⟩
 keep:=fun _ _ x k=>⟨let ⟨o,e,z⟩:=x.1; ⟨o,k r (.inl rfl) o e,z⟩,x.2.by fun o e=>k d (.inr rfl) o e⟩
 notList:=by decide
 notTuple:=by decide
 hint:=fun _ _ _ _ x q=>PySem.W.kdl_hint_values x.1.typeIs q
 iter:=fun _ s hh x=>⟨_,_,fun _ _ q=>vY x.1 x.2 q,sE hh _ (let ⟨_,e,_⟩:=x.2; Nat.ne_of_lt (Heap.lt_size e)),⟨_,Heap.get?_push_size _ rfl,rfl,rfl⟩,x.2.by fun o e=>Heap.get?_push_of_some _ e⟩
end
section
variable{X:Cx}
theorem Inv.rawE{pins:List (Addr × Obj)}{σ : St}{H:Hp}{s:Shared}{d:Addr}{kvs:List (cn × V)}(I:Inv X pins σ H s)(h:DO X.prog X.w H d kvs):∃ es ep,∃ xs:List (cn × Addr × Value),RawE s.heap d es ep∧es.toList=xs.map (entryOfKey (MO X.prog X.w))∧Paired (ORow H) kvs xs∧(d == sysModules)=false:=by
 obtain⟨xs,h1,h2,h3,h4⟩:=h
 obtain⟨⟨o,es,ep,e1,e2,e3,e4,e5⟩,_,_⟩:=I.hok d _ h1
 exact⟨es,ep,xs,⟨o,e1,e2,e3⟩,e4,h4,h2⟩
def iY(v d:Addr):HO:=.ext fun h=>h.IsValuesView v d
def oW(P:Program)(w:World):V→List V→Hp→VK→Prop:=fun x vs H Q=>∃ d kvs,x = .ref d∧vs=[]∧DO P w H d kvs∧∀ v,H v=none→Q (.ref v) (upd H v (iY v d))
theorem t8(P:Program)(w:World)(hP:X.prog=P:=by rfl)(hw:X.w=w:=by rfl):MtR X "dict.values" (oW P w):=by
 subst hP hw;intro pins s σ H x vs v us Q I rx rv h
 obtain⟨d,kvs,rfl,rfl,e,q⟩:=h
 cases rx;have hus:=rv.zero;subst hus;obtain⟨es,ep,xs,x,_,_,nd⟩:=I.rawE e
 refine call_meetsIn PySem.F.slot_dict_values x.ty PySem.F.entry_dict_values (PySem.F.args_dict_values_1 _) (sI nd) ⟨⟨_,_,x⟩,?_⟩
 refine⟨.ref s.heap.objs.size,_,I.laid (t':=s.toks) (fun b o e=>Heap.get?_push_of_some _ e) (Nat.le_refl _) (show ObjOk X.prog X.w _ _ _ (iY s.heap.objs.size d) from ⟨⟨_,Heap.get?_push_size _ rfl,rfl,rfl⟩,⟨_,Heap.get?_push_size _ rfl⟩,fun h1 h2 hv k=>?_⟩),rfl,q _ (I.hok.fresh (Nat.le_refl _))⟩
 obtain⟨o,e1,e2⟩:=hv
 exact⟨o,k o e1,e2⟩
def Af(P:Program)(w:World)(to:TE):TE:=fun σ H Q=>to σ H fun x H1=>∃ d kvs,x = .ref d∧DO P w H1 d kvs∧oW P w x [] H1 Q
theorem xB(P:Program)(w:World){o:Expr}{to:TE}{apos cpos:Pos}(ho:PE X o to)(hbase:attributeBase o "values" X.env (eval o X.env)=eval o X.env:=by rfl) (hline:(apos.endLine == cpos.line)=true:=by rfl) (hP:X.prog=P:=by rfl) (hw:X.w=w:=by rfl):PE X (.Call (.Attribute o "values" apos) [] [] cpos) (Af P w to):=by
 subst hP hw;intro pins s σ H Q I h
 refine wpAny_Call_method0_late hbase hline (bc (ho pins s σ H _ I h) fun v s1 ⟨x,H1,I1,r1,d,kvs,ex,ed,q1⟩=>?_)
 subst ex;obtain rfl:v=Value.ref d:=r1
 obtain⟨xs,h1,h2,h3,h4,mm⟩:=I1.dO ed
 refine⟨"dict", "dict.values", PySem.F.plainAttrs_dict,PySem.F.slot_dict_values,PySem.F.type_dict_values,mm.typeIs,fun b q=>?_,Calls.callWith_builtin rfl (PySem.evalArgs_none ((t8 _ _ rfl rfl) pins s1 σ H1 (.ref d) [] _ [] Q I1 rfl .nil q1))⟩
 cases q;obtain⟨ob,_,_,g1,g2,_⟩:=mm
 exact⟨ob,g1,g2.2.1⟩
def zh(P:Program)(w:World):List V→Hp→VK→Prop:=fun xs H Q=>∃ v d kvs,xs=[.ref v]∧H v=some (iY v d)∧DO P w H d kvs∧kvs.length≤60000∧∀ l,H l=none→Q (.ref l) (upd H l (.lst (kvs.map (·.2))))
theorem qW{m:Nat}(P:Program)(w:World)(hr:Room m X.A)(hP:X.prog=P:=by rfl)(hw:X.w=w:=by rfl):CallR X (.type "list") (zh P w):=by
 subst hP hw;intro pins s σ H xs us Q I r h
 obtain⟨v,d,kvs,rfl,ev,ed,hn,q⟩:=h
 obtain⟨u,rfl,ru⟩:=cB r
 cases ru;have hv:s.heap.IsValuesView v d:=(show ObjOk X.prog X.w H s.heap v (iY v d) from I.hok v _ ev).1
 obtain⟨es,ep,xs,x,he,rel,nd⟩:=I.rawE ed
 have hs:sizeLine=16777216:=sizeLine_eq
 have hl:kvs.length=xs.length:=Paired.length rel
 have hz:es.size=xs.length:=by rw[← Array.length_toList,he,List.length_map]
 refine PySem.W.kdl_call (wZ (es:=es) (ep:=ep)) hr.hd ⟨hv,x⟩ (by omega) fun h' tk acc' c' hk hS hacc=>?_
 refine⟨.ref s.heap.objs.size,_,I.laid hk (Nat.le_refl _) (show ObjOk X.prog X.w _ h' _ (.lst (kvs.map (·.2))) from ⟨by simp; omega,acc'.toList,c',?_,by simpa using hS⟩),rfl,q _ (I.hok.fresh (Nat.le_refl _))⟩
 refine kL _ _ (by simp[hacc.1,hz,hl]) fun j y w' e1 e2=>?_
 obtain⟨e,z1,z2⟩:=hacc.2 j w' (by rw[← Array.getElem?_toList]; exact e2)
 rw[← Array.getElem?_toList,he,List.getElem?_map]at z1
 rw[List.getElem?_map]at e1
 cases hkv:kvs[j]? with
 | none=>rw[hkv]at e1; cases e1
 | some kv=>
  cases hx:xs[j]? with
  | none=>rw[hx]at z1; cases z1
  | some xv=>
   rw[hkv]at e1
   rw[hx]at z1
   cases e1; cases z1
   rw[z2];exact(gX rel hkv hx).2.2
end
end L2
section
open PySem PySem.Spec PyProof.Rows L2
seal L2.PE L2.PT L2.PW L2.PA L2.PS L2.PSs L2.PG L2.PGs L2.PSet L2.PI L2.PIfs L2.OpR L2.UnR L2.CallR L2.IxR L2.MtR L2.SlR L2.PO L2.PPs
local macro_rules | `(tactic| walk_at "rd1")=>`(tactic| try simp only [iB,gw,dU,dB,fD,hU,hV,gs,ij,fQ,il,fC,im,iz,iA,kA,jv,fA,kR,h_,jr,h9,gf,fH,jC,jw,fF,ik,iq,hJ,fJ,jm,hG,jy,gj,dZ,fE,iD,gk,ii,gi,fW,fI,ie,eI,jB,kF,e_,eT,eX,eK,eO,ir,ic,f_,fB,gx,d8,eQ,gg,ix,iy,iu,eV,ee,fK,fO,gm,fZ,eW,eL,gq,fY,fN,d0,ig,iC,fL,fT,eG,g_,h8,iE,ia,L2.start,List.map_cons,List.map_nil,List.length_cons,List.length_nil,List.replicate,List.cons_append,List.nil_append,List.append_nil,List.getElem?_cons_zero,List.getElem?_cons_succ,List.set_cons_zero,List.set_cons_succ,Nat.reduceAdd,Nat.reduceSub,Option.some.injEq,exists_eq_left',exists_eq_left,V.int.injEq,V.ref.injEq,V.str.injEq,V.bl.injEq,jo,iF,and_true,true_and,decide_eq_true_eq,Bool.not_true,Bool.not_false,if_true,Bool.false_eq_true,if_false,ite_true,ite_false])
local macro_rules | `(tactic| walk_at "nx")=>`(tactic| ((first | rw [gn] | (dsimp only; rw [gn])); walk_at "rd1"))
local macro_rules | `(tactic| walk_at "lk")=>`(tactic| repeat (first | exact lk_hit | exact AC | rw [lk_miss (by decide +kernel)]))
local macro_rules | `(tactic| walk_at "pf")=>`(tactic| repeat (first | rw [putF_hit] | rw [wg] | rw [putF_miss (by decide +kernel)]))
namespace K14
open PySem L2
abbrev b_:Stmt:=top 5
theorem sJ:bg ["numbers", "ways"] ["numbers", "ways"] (defScope b_):=mKk
abbrev gLk (s : Stmt) (n : Str) : Prop:=(defScope s).names.lookup n=some .globalImplicit
theorem oIn {a b : Prop} (h : a) : a ∨ b:=.inl h
abbrev aQ:Stmt:=top 6
theorem sc_finer_kinds:bg ["rooms", "kinds", "seen", "finer", "at", "room", "mark"] ["rooms", "kinds"] (defScope aQ):=mKk
theorem Gh:gLk aQ "enumerate":=by decide +kernel
abbrev bo:Stmt:=top 7
theorem sc_kinds_upto:bg ["rooms", "most", "kinds", "finer"] ["rooms", "most"] (defScope bo):=mKk
theorem Fy:(defScope bo).names.lookup ("kinds" : Str)=some .local:=by decide +kernel
abbrev ba:Stmt:=top 8
theorem sc_merged_rooms:bg ["rooms", "kinds", "merged", "at", "room"] ["rooms", "kinds"] (defScope ba):=mKk
theorem FX:gLk ba "enumerate":=by decide +kernel
abbrev a_:Stmt:=top 9
theorem sc_rooms_led_to:bg ["rooms", "order", "met", "at", "room", "way"] ["rooms"] (defScope a_):=mKk
abbrev aC:Stmt:=top 10
theorem sc_numbered_rooms:bg ["rooms", "order", "numbers", "number", "room"] ["rooms"] (defScope aC):=mKk
theorem Fu:au (defScope aC) "rooms" := Or.inr (Or.inl (by decide +kernel))
theorem FN:au (defScope aC) "numbers" := Or.inr (Or.inl (by decide +kernel))
theorem Fi:aY (defScope aC) "numbers" := Or.inr (by decide +kernel)
theorem Fd:gLk aC "enumerate":=by decide +kernel
abbrev aT:Stmt:=top 11
theorem kU:bg ["rooms", "place"] ["rooms", "place"] (defScope aT):=mKk
theorem Fx:gLk aT "enumerate":=by decide +kernel
abbrev cI:Stmt:=top 12
theorem uP:bg ["things", "places"] ["things", "places"] (defScope cI):=mKk
abbrev ax:Stmt:=top 13
theorem sc_least_upto:bg ["rule", "most", "kinds", "words", "rooms", "places"] ["rule", "most"] (defScope ax):=mKk
theorem GC:au (defScope ax) "rooms" := Or.inr (Or.inl (by decide +kernel))
theorem Fe:aY (defScope ax) "rooms" := Or.inr (by decide +kernel)
theorem FQ:au (defScope ax) "places" := Or.inr (Or.inl (by decide +kernel))
theorem FE:aY (defScope ax) "places" := Or.inr (by decide +kernel)
theorem F7:gLk ax "range":=by decide +kernel
abbrev bW:Stmt:=top 15
theorem lD:bg ["one", "other"] ["one", "other"] (defScope bW):=mKk
abbrev bG:Stmt:=top 16
theorem lz:bg ["one", "other"] ["one", "other"] (defScope bG):=mKk
abbrev bF:Stmt:=top 17
theorem qK:bg ["words", "places", "number", "room"] ["words", "places", "number", "room"] (defScope bF):=mKk
abbrev aF:Stmt:=top 18
theorem sc_ways_by_room:bg ["rule", "words", "places", "place", "word", "ways", "number", "room"] ["rule", "words"] (defScope aF):=mKk
theorem CJ:gLk aF "enumerate":=by decide +kernel
abbrev bE:Stmt:=top 19
theorem mE:bg ["ones", "others", "pair"] ["ones", "others", "pair"] (defScope bE):=mKk
theorem Gf:gLk bE "list":=by decide +kernel
theorem FH:gLk bE "zip":=by decide +kernel
abbrev cA:Stmt:=top 23
theorem mR:bg ["pair"] ["pair"] (defScope cA):=mKk
abbrev ar:Stmt:=top 24
theorem sc_rule_of_pairs:bg ["one", "other", "breaks", "words", "ones", "others", "order", "numbers", "rooms", "here", "room", "pair"] ["one", "other", "breaks"] (defScope ar):=mKk
abbrev aS:Stmt:=top 25
theorem sc_least_of_pairs:bg ["one", "other", "breaks", "least"] ["one", "other", "breaks"] (defScope aS):=mKk
abbrev bQ:Stmt:=top 26
theorem mZ:bg ["one", "other"] ["one", "other"] (defScope bQ):=mKk
abbrev b4:Stmt:=top 28
theorem mQ:bg ["_law_script", "_law_k"] ["_law_script", "_law_k"] (defScope b4):=mKk
abbrev bI:Stmt:=top 29
theorem sc_law_mixed:bg ["_law_cell", "_law_many", "_law_number", "_law_found", "_law_k"] ["_law_cell", "_law_many"] (defScope bI):=mKk
theorem Ed:gLk bI "range":=by decide +kernel
abbrev aK:Stmt:=top 30
theorem sc_law_words:bg ["_law_cell", "_law_many", "_law_sides", "_law_letters", "_law_xs", "_law_size", "_law_at", "_law_words_here", "_law_k", "_law_word", "_law_j"] ["_law_cell", "_law_many", "_law_sides"] (defScope aK):=mKk
theorem zT:gLk aK "range":=by decide +kernel
abbrev cU:Stmt:=top 31
theorem tj:bg ["_law_number", "_law_share", "_law_many"] ["_law_number", "_law_share", "_law_many"] (defScope cU):=mKk
abbrev aE:Stmt:=top 32
theorem sc_law_rooms:bg ["_law_cells", "_law_size", "_law_many", "_law_cell", "_law_share", "_law_xs", "_law_k"] ["_law_cells", "_law_size", "_law_many", "_law_cell"] (defScope aE):=mKk
theorem xf:au (defScope aE) "_law_size" := Or.inr (Or.inl (by decide +kernel))
theorem Ar:au (defScope aE) "_law_many" := Or.inr (Or.inl (by decide +kernel))
theorem EI:aY (defScope aE) "_law_share" := Or.inr (by decide +kernel)
theorem DY:au (defScope aE) "_law_xs" := Or.inr (Or.inl (by decide +kernel))
theorem Es:aY (defScope aE) "_law_xs" := Or.inr (by decide +kernel)
theorem Be:gLk aE "range":=by decide +kernel
abbrev aB:Stmt:=top 33
theorem sc_law_two:bg ["_law_script", "_law_first", "_law_sides", "_law_some", "_law_many", "_law_ones", "_law_step", "_law_others", "_law_sizes", "_law_rooms_here", "_law_one", "_law_xs", "_law_k"] ["_law_script"] (defScope aB):=mKk
theorem Fj:(defScope aB).names.lookup ("_law_rooms_here" : Str)=some .local:=by decide +kernel
theorem De:gLk aB "range":=by decide +kernel
abbrev bP:Stmt:=top 34
theorem oy:bg ["_law_to_here", "_law_many"] ["_law_to_here", "_law_many"] (defScope bP):=mKk
abbrev ay:Stmt:=top 35
theorem sc_law_is_rule_of:bg ["_law_found", "_law_sides", "_law_words_here", "_law_room", "_law_to_here"] ["_law_found", "_law_sides", "_law_words_here"] (defScope ay):=mKk
theorem gN:au (defScope ay) "_law_found" := Or.inr (Or.inl (by decide +kernel))
abbrev df:Stmt:=top 36
theorem vR:bg ["_law_rule", "_law_room", "_law_word"] ["_law_rule", "_law_room", "_law_word"] (defScope df):=mKk
abbrev aP:Stmt:=top 37
theorem sc_law_beside:bg ["_law_one", "_law_other", "_law_made", "_law_words_here", "_law_beside_here", "_law_todo", "_law_pair", "_law_word", "_law_to_here", "_law_there", "_law_broken"] ["_law_one", "_law_other", "_law_made", "_law_words_here"] (defScope aP):=mKk
abbrev ao:Stmt:=top 38
theorem sc_law_all_unlike:bg ["_law_rooms_here", "_law_groups", "_law_count", "_law_known", "_law_parted", "_law_r", "_law_key"] ["_law_rooms_here"] (defScope ao):=mKk
theorem C8:au (defScope ao) "_law_groups" := Or.inr (Or.inl (by decide +kernel))
theorem Ax:aY (defScope ao) "_law_groups" := Or.inr (by decide +kernel)
theorem EC:gLk ao "range":=by decide +kernel
abbrev bV:Stmt:=top 39
theorem qQ:bg ["_law_rule"] ["_law_rule"] (defScope bV):=mKk
abbrev bD:Stmt:=top 40
theorem sc_law:bg ["_law_script", "_law_one", "_law_other", "_law_words_here", "_law_handed", "_law_found", "_law_beside_here", "_law_kept", "_law_room"] ["_law_script"] (defScope bD):=mKk
abbrev letters:Str := "abcdefghijklmnopqrstuvwxyz"
def oI(K:PySem.W.Frag):Sp:=fun vs H Q _=>∃ (a:Addr) (ns:List Int),vs=[.ref a]∧SqL K H a (ns.map V.int)∧ns.length≤63∧∀ H',Q (.bl true) H'
def uQ(K:PySem.W.Frag):Sp:=fun vs H Q _=>∃ (a:Addr) (ns:List Int) (k:Int),vs=[.ref a,.int k]∧SqL K H a (ns.map V.int)∧0≤k∧Q (.int (ns.getD k.toNat 0)) H
def kO:Sp:=fun vs H Q _=>∃ (c n:Int),vs=[.int c,.int n]∧0≤n∧n≤100000∧∀ (p:Addr) (H':Hp) (ms:List Int),Same H H'→H p=none→H' p=some (.lst (ms.map V.int))→(ms.length:Int)=n→(∀ m∈ms,0≤m∧m<2147483647)→Q (.ref p) H'
def ap:Option Nat→V
 | none=>.non
 | some n=>.int n
def yr:Sp:=fun vs H Q _=>∃ (m s n:Int),vs=[.int m,.int s,.int n]∧0<s∧s<1073741824∧0<n∧n<1073741824∧∀ o:Option Nat,(∀ k,o=some k→(k:Int)<n)→Q (ap o) H
theorem wG(x:Str)(c:Nat):(x++(⟨#[c]⟩ : Str)).length=x.length+1:=by rw[Str.length_append]; rfl
section
variable{P:Program}{w:World}{K:PySem.W.Frag}{mg:Str→Option Value}{base:Heap}
theorem zx(D:DefAt K mg "_law_cell_at" b4) (z_len:mg "len" = none):Cal P w K mg base 1 "_law_cell_at" ["_law_script", "_law_k"] (uQ K):=by
 refine D.cal mQ (fun _ _ _ _ _ _ us hl=>match us,hl with | [_,_],_=>rfl) (fun vs H Q E h=>by obtain⟨a,ns,k,rfl,_⟩:=h; rfl) (fun f cdv A outer s H vs Q E hr h=>?_)
 obtain⟨a,ns,k,rfl,hS,h0,q⟩:=h
 refine⟨_,(ac (bY (aX ke (pv 1) (bp (bK K) z_len b8 (aa (pv 0) ab)) (bd _)) (am (aW (aw (aN K) (pv 0) (pv 1) (fun _ _=>rfl)))) bw)
   (am (aW ah))),?_⟩
 try simp only[gn,iB,gw,dU,dB,fD,hU,hV,gs,ij,fQ,il,fC,im,iz,iA,kA,jv,fA,kR,h_,jr,h9,gf,fH,jC,jw,fF,ik,iq,hJ,fJ,jm,hG,jy,gj,dZ,fE,iD,gk,ii,gi,fW,fI,ie,eI,jB,kF,e_,eT,eX,eK,eO,ir,ic,f_,fB,gx,d8,eQ,gg,ix,iy,iu,eV,ee,fK,fO,gm,fZ,eW,eL,gq,fY,fN,d0,ig,iC,fL,fT,eG,g_,h8,iE,ia,L2.start,List.map_cons,List.map_nil,List.length_cons,List.length_nil,List.replicate,List.cons_append,List.nil_append,List.append_nil,List.getElem?_cons_zero,List.getElem?_cons_succ,List.set_cons_zero,List.set_cons_succ,Nat.reduceAdd,Nat.reduceSub,Option.some.injEq,exists_eq_left',exists_eq_left,V.int.injEq,V.ref.injEq,V.str.injEq,V.bl.injEq,jo,iF,and_true,true_and,decide_eq_true_eq,Bool.not_true,Bool.not_false,if_true,Bool.false_eq_true,if_false,ite_true,ite_false]
 refine⟨_,.inl hS,bn (fun c=>?_) (fun c=>?_)⟩
 ·rw[List.length_map]at c
  refine⟨_,.int (ns.getD k.toNat 0),.inl hS,lU h0 ?_,q⟩
  rw[List.getD_eq_getElem?_getD,List.getElem?_eq_getElem (by omega)]; rfl
 ·rw[List.length_map]at c
  have e:ns.getD k.toNat 0=0:=by
   rw[List.getD_eq_getElem?_getD,List.getElem?_eq_none (by omega)]; rfl
  rw[e]at q; exact q
theorem xh(D:DefAt K mg "_law_mixed" bI) (z_range:mg "range" = none):Cal P w K mg base 1 "_law_mixed" ["_law_cell", "_law_many"] kO:=by
 refine D.cal sc_law_mixed (fun _ _ _ _ _ _ us hl=>match us,hl with | [_,_],_=>rfl) (fun vs H Q E h=>by obtain⟨c,n,rfl,_⟩:=h; rfl) (fun f cdv A outer s H vs Q E hr h=>?_)
 obtain⟨c,n,rfl,h0,h1,q⟩:=h
 refine⟨_,(ac (az 2 sc_law_mixed.nd (bb ck ah (bb cy (pv 0) ah)))
   (ac (az 3 sc_law_mixed.nd (cD ab))
   (ac (cN PassesOwn.never rfl (dc Ed z_range (aa (pv 1) ab)) (bf 4 sc_law_mixed.nd) (ac (az 2 sc_law_mixed.nd (bb cy (bb ib (pv 2) ah) ah))
   (am (cV (dq K PySem.F.plainAttrs_list PySem.F.slot_list_append PySem.F.type_list_append cg (pv 3) (aa (pv 2) ab))))))
   (am (aW (pv 3)))))),?_⟩
 try simp only[gn,iB,gw,dU,dB,fD,hU,hV,gs,ij,fQ,il,fC,im,iz,iA,kA,jv,fA,kR,h_,jr,h9,gf,fH,jC,jw,fF,ik,iq,hJ,fJ,jm,hG,jy,gj,dZ,fE,iD,gk,ii,gi,fW,fI,ie,eI,jB,kF,e_,eT,eX,eK,eO,ir,ic,f_,fB,gx,d8,eQ,gg,ix,iy,iu,eV,ee,fK,fO,gm,fZ,eW,eL,gq,fY,fN,d0,ig,iC,fL,fT,eG,g_,h8,iE,ia,L2.start,List.map_cons,List.map_nil,List.length_cons,List.length_nil,List.replicate,List.cons_append,List.nil_append,List.append_nil,List.getElem?_cons_zero,List.getElem?_cons_succ,List.set_cons_zero,List.set_cons_succ,Nat.reduceAdd,Nat.reduceSub,Option.some.injEq,exists_eq_left',exists_eq_left,V.int.injEq,V.ref.injEq,V.str.injEq,V.bl.injEq,jo,iF,and_true,true_and,decide_eq_true_eq,Bool.not_true,Bool.not_false,if_true,Bool.false_eq_true,if_false,ite_true,ite_false]
 refine⟨by decide,by decide,fun p hp=>⟨by omega,by omega,?_⟩⟩
 refine dW (fun i σ H'=>∃ (m:Int) (ms:List Int) (o:Option V),σ=[some (.int c),some (.int n),some (.int m),some (.ref p),o]∧Same H H'∧H' p=some (.lst (ms.map V.int))∧ms.length=i∧(∀ x∈ms,0≤x∧x<2147483647)∧0≤m∧m<2147483648)
  ⟨_,[],none,rfl,ak hp _,ae,rfl,(by simp),by omega,by omega⟩ ?_ ?_
 ·rintro i σ H' hi ⟨m,ms,o,rfl,sm,hl,hn,hb,m0,m1⟩
  try simp only[gn,iB,gw,dU,dB,fD,hU,hV,gs,ij,fQ,il,fC,im,iz,iA,kA,jv,fA,kR,h_,jr,h9,gf,fH,jC,jw,fF,ik,iq,hJ,fJ,jm,hG,jy,gj,dZ,fE,iD,gk,ii,gi,fW,fI,ie,eI,jB,kF,e_,eT,eX,eK,eO,ir,ic,f_,fB,gx,d8,eQ,gg,ix,iy,iu,eV,ee,fK,fO,gm,fZ,eW,eL,gq,fY,fN,d0,ig,iC,fL,fT,eG,g_,h8,iE,ia,L2.start,List.map_cons,List.map_nil,List.length_cons,List.length_nil,List.replicate,List.cons_append,List.nil_append,List.append_nil,List.getElem?_cons_zero,List.getElem?_cons_succ,List.set_cons_zero,List.set_cons_succ,Nat.reduceAdd,Nat.reduceSub,Option.some.injEq,exists_eq_left',exists_eq_left,V.int.injEq,V.ref.injEq,V.str.injEq,V.bl.injEq,jo,iF,and_true,true_and,decide_eq_true_eq,Bool.not_true,Bool.not_false,if_true,Bool.false_eq_true,if_false,ite_true,ite_false]
  refine⟨.inl ⟨by omega,by omega⟩,by decide,⟨_,SqL.of hl⟩,_,hl,by rw[List.length_map]; exact b6 (by omega),?_⟩
  refine⟨_,ms++[m * 16807 % 2147483647],_,rfl,fun b o' e=>?_,?_,by simp[hn],fun x hx=>?_,by omega,by omega⟩
  ·rw[al (aO e hp)]; exact sm b o' e
  ·rw[ae,List.map_append]; rfl
  ·rcases List.mem_append.mp hx with z | z
   ·exact hb x z
   ·rw[List.mem_singleton.mp z]; omega
 ·rintro σ H' ⟨m,ms,o,rfl,sm,hl,hn,hb,m0,m1⟩
  try simp only[gn,iB,gw,dU,dB,fD,hU,hV,gs,ij,fQ,il,fC,im,iz,iA,kA,jv,fA,kR,h_,jr,h9,gf,fH,jC,jw,fF,ik,iq,hJ,fJ,jm,hG,jy,gj,dZ,fE,iD,gk,ii,gi,fW,fI,ie,eI,jB,kF,e_,eT,eX,eK,eO,ir,ic,f_,fB,gx,d8,eQ,gg,ix,iy,iu,eV,ee,fK,fO,gm,fZ,eW,eL,gq,fY,fN,d0,ig,iC,fL,fT,eG,g_,h8,iE,ia,L2.start,List.map_cons,List.map_nil,List.length_cons,List.length_nil,List.replicate,List.cons_append,List.nil_append,List.append_nil,List.getElem?_cons_zero,List.getElem?_cons_succ,List.set_cons_zero,List.set_cons_succ,Nat.reduceAdd,Nat.reduceSub,Option.some.injEq,exists_eq_left',exists_eq_left,V.int.injEq,V.ref.injEq,V.str.injEq,V.bl.injEq,jo,iF,and_true,true_and,decide_eq_true_eq,Bool.not_true,Bool.not_false,if_true,Bool.false_eq_true,if_false,ite_true,ite_false]
  exact q p H' ms sm hp hl (by omega) hb
theorem Bt(D:DefAt K mg "_law_way" cU):Cal P w K mg base 1 "_law_way" ["_law_number", "_law_share", "_law_many"] yr:=by
 refine D.cal tj (fun _ _ _ _ _ _ us hl=>match us,hl with | [_,_,_],_=>rfl) (fun vs H Q E h=>by obtain⟨m,s,n,rfl,_⟩:=h; rfl) (fun f cdv A outer s H vs Q E hr h=>?_)
 obtain⟨m,s,n,rfl,s0,s1,n0,n1,q⟩:=h
 refine⟨_,(ac (bY (aX iN (bb cy (pv 0) (pv 1)) ah (bd _)) (am (aW b5)) bw)
   (am (aW (bb cy (bb d_ (pv 0) (pv 1)) (pv 2))))),?_⟩
 try simp only[gn,iB,gw,dU,dB,fD,hU,hV,gs,ij,fQ,il,fC,im,iz,iA,kA,jv,fA,kR,h_,jr,h9,gf,fH,jC,jw,fF,ik,iq,hJ,fJ,jm,hG,jy,gj,dZ,fE,iD,gk,ii,gi,fW,fI,ie,eI,jB,kF,e_,eT,eX,eK,eO,ir,ic,f_,fB,gx,d8,eQ,gg,ix,iy,iu,eV,ee,fK,fO,gm,fZ,eW,eL,gq,fY,fN,d0,ig,iC,fL,fT,eG,g_,h8,iE,ia,L2.start,List.map_cons,List.map_nil,List.length_cons,List.length_nil,List.replicate,List.cons_append,List.nil_append,List.append_nil,List.getElem?_cons_zero,List.getElem?_cons_succ,List.set_cons_zero,List.set_cons_succ,Nat.reduceAdd,Nat.reduceSub,Option.some.injEq,exists_eq_left',exists_eq_left,V.int.injEq,V.ref.injEq,V.str.injEq,V.bl.injEq,jo,iF,and_true,true_and,decide_eq_true_eq,Bool.not_true,Bool.not_false,if_true,Bool.false_eq_true,if_false,ite_true,ite_false]
 refine⟨s0,bn (fun c=>?_) (fun c=>?_)⟩
 ·exact q none (fun k e=>by cases e)
 ·refine⟨⟨s0,s1⟩,n0,?_⟩
  have a1:=Int.emod_nonneg (m / s) (show n≠0 by omega)
  have a2:=Int.emod_lt_of_pos (m / s) n0;have q':=q (some (m / s % n).toNat) (fun k e=>by cases e; omega)
  have e:V.int (m / s % n)=ap (some (m / s % n).toNat):=by
   show _=V.int (((m / s % n).toNat:Nat):Int)
   rw[show (((m / s % n).toNat:Nat):Int)=m / s % n by omega]
  rw[e]; exact q'
end
set_option genInjectivity false in
set_option genSizeOf false in
structure Rl where
 s:Int
 ws:List Str
 rs:List (List (Option Nat))
structure bA (r:Rl):Prop where
 s:r.s=1∨r.s=2
 nw:r.ws.length≤16
 n0:1≤r.rs.length
 n1:r.rs.length≤60
 row:∀ x∈r.rs,x.length=r.ws.length∧∀ k,some k∈x→k<r.rs.length
 lw:∀ w∈r.ws,w.length≤10
def RoomsAs(H:Hp)(p:Addr)(rs:List (List (Option Nat)))(as:List Addr):Prop:=
 H p=some (.lst (as.map V.ref))∧as.length=rs.length∧∀ (i:Nat) a x,as[i]? = some a→rs[i]? = some x→H a=some (.lst (x.map ap))
def RuleAt(H:Hp)(p:Addr)(r:Rl):Prop:=∃ pw pr as,H p=some (.tup [.int r.s,.ref pw,.ref pr])∧H pw=some (.lst (r.ws.map V.str))∧RoomsAs H pr r.rs as
theorem RoomsAs.mono{H H':Hp}{p:Addr}{rs:List (List (Option Nat))}{as:List Addr}(sm:Same H H')(h:RoomsAs H p rs as):RoomsAs H' p rs as:=by
 obtain⟨h1,h2,h3⟩:=h
 exact⟨sm _ _ h1,h2,fun i a x e1 e2=>sm _ _ (h3 i a x e1 e2)⟩
theorem RuleAt.mono{H H':Hp}{p:Addr}{r:Rl}(sm:Same H H')(h:RuleAt H p r):RuleAt H' p r:=by
 obtain⟨pw,pr,as,h1,h2,h3⟩:=h
 exact⟨pw,pr,as,sm _ _ h1,sm _ _ h2,h3.mono sm⟩
theorem oe(ss:List Str):(ss.map V.str).all bR=true:=by
 rw[List.all_eq_true]; intro x hx; obtain⟨s,_,rfl⟩:=List.mem_map.mp hx; rfl
theorem rL(y:Str)(ss:List Str):pQ (.str y) (ss.map V.str)=decide (y∈ss):=by
 rw[Bool.eq_iff_iff];unfold pQ;rw[List.any_eq_true,decide_eq_true_eq]
 constructor
 ·rintro⟨x,hx,e⟩
  obtain⟨s,hs,rfl⟩:=List.mem_map.mp hx
  have e':(s == y)=true:=e
  rw[← eq_of_beq e']; exact hs
 ·intro h
  exact⟨.str y,List.mem_map.mpr ⟨y,h,rfl⟩,by show (y == y)=true; simp⟩
theorem v0(x:List (Option Nat)):∀ v∈x.map ap,bR v=true:=by
 intro v hv
 obtain⟨o,_,rfl⟩:=List.mem_map.mp hv
 cases o <;> rfl
theorem nD(x:List Str):∀ v∈x.map V.str,bR v=true:=by
 intro v hv
 obtain⟨o,_,rfl⟩:=List.mem_map.mp hv
 rfl
theorem wL{K:PySem.W.Frag}{H:Hp}{p q:Addr}{rs:List (List (Option Nat))}{as bs:List Addr}(h1:RoomsAs H p rs as)(h2:RoomsAs H q rs bs):EqN K H 2 (.ref p) (.ref q) true:=by
 obtain⟨a1,a2,a3⟩:=h1
 obtain⟨b1,b2,b3⟩:=h2
 refine EqN.seq (.inl ⟨SqL.of a1,SqL.of b1⟩) (by simp; omega) fun i x y e1 e2=>?_
 rw[List.getElem?_map]at e1 e2
 cases qa:as[i]? with
 | none=>rw[qa]at e1; cases e1
 | some a=>
  cases qb:bs[i]? with
  | none=>rw[qb]at e2; cases e2
  | some b=>
   rw[qa]at e1; rw[qb]at e2
   cases e1; cases e2
   have hi:i<rs.length:=by have:=(List.getElem?_eq_some_iff.mp qa).1; omega
   exact EqN.seqFlat (.inl ⟨SqL.of (a3 i a _ qa (List.getElem?_eq_getElem hi)),SqL.of (b3 i b _ qb (List.getElem?_eq_getElem hi))⟩) (v0 _)
theorem ni{K:PySem.W.Frag}{H:Hp}{p q:Addr}{r:Rl}(h1:RuleAt H p r)(h2:RuleAt H q r):EqN K H 3 (.ref p) (.ref q) true:=by
 obtain⟨pw,pr,as,a1,a2,a3⟩:=h1
 obtain⟨qw,qr,bs,b1,b2,b3⟩:=h2
 refine EqN.seq (.inr ⟨SqT.of a1,SqT.of b1⟩) rfl fun i x y e1 e2=>?_
 match i,e1,e2 with
 | 0,e1,e2=>cases e1; cases e2; exact EqN.refl rfl
 | 1,e1,e2=>cases e1; cases e2; exact EqN.seqFlat (.inl ⟨SqL.of a2,SqL.of b2⟩) (nD _)
 | 2,e1,e2=>cases e1; cases e2; exact wL a3 b3
 | i+3,e1,e2=>simp at e1
theorem lZ{K:PySem.W.Frag}{pr L:Addr}{g:TG}{te:TE}{nT:Nat}{σ : L2.St}{Q:VK}{H:Hp}{rs:List (List (Option Nat))}{as:List Addr}(hR:RoomsAs H pr rs as)(hn:rs.length≤60)(hL:H L=none)
  (hs:∀ (a:Addr) (xs:List V) (H':Hp) (C:VK),H' a=some (.lst xs)→(∀ l,H' l=none→C (.ref l) (upd H' l (.lst xs)))→g (.ref a) (σ++List.replicate nT none) H' fun σ2 H2=>te σ2 H2 C)
  (q:∀ H' bs,Same H H'→RoomsAs H' L rs bs→(∀ b∈bs,H b=none∧b≠L)→bs.Nodup→Q (.ref L) H'):eD (lp K pr) g lC te nT σ L Q (upd H L (.lst [])):=by
 obtain⟨h1,h2,h3⟩:=hR
 refine cL (xs:=as.map V.ref) (fun i ys H'=>∃ bs:List Addr,Same H H'∧H' L=some (.lst ys)∧ys=bs.map V.ref∧bs.length=i∧(∀ b∈bs,H b=none∧b≠L∧∃ o,H' b=some o)∧bs.Nodup∧∀ (j:Nat) b x,bs[j]? = some b→rs[j]? = some x→H' b=some (.lst (x.map ap)))
  ⟨[],ak hL _,ae,rfl,rfl,by simp,List.nodup_nil,by simp⟩ (fun i ys H' _ h=>by obtain⟨_,sm,_⟩:=h; exact SqL.of (sm _ _ h1)) ?_ ?_
 ·rintro i ys H' x hx hi ⟨bs,sm,hl,rfl,hb,hbn,hnd,hbx⟩
  rw[List.getElem?_map]at hx
  cases qa:as[i]? with
  | none=>rw[qa]at hx; cases hx
  | some a=>
   rw[qa]at hx; cases hx
   have hi':i<rs.length:=by have:=(List.getElem?_eq_some_iff.mp qa).1; omega
   have ha:=h3 i a _ qa (List.getElem?_eq_getElem hi');have e:=hs a _ H' (fc (as.map V.ref).length i (fun i ys H'=>∃ bs:List Addr,Same H H'∧H' L=some (.lst ys)∧ys=bs.map V.ref∧bs.length=i∧(∀ b∈bs,H b=none∧b≠L∧∃ o,H' b=some o)∧bs.Nodup∧∀ (j:Nat) b x,bs[j]? = some b→rs[j]? = some x→H' b=some (.lst (x.map ap))) L (bs.map V.ref)) (sm _ _ ha) ?_
   ·have e2:(j2 (as.map V.ref).length i (fun i ys H'=>∃ bs:List Addr,Same H H'∧H' L=some (.lst ys)∧ys=bs.map V.ref∧bs.length=i∧(∀ b∈bs,H b=none∧b≠L∧∃ o,H' b=some o)∧bs.Nodup∧∀ (j:Nat) b x,bs[j]? = some b→rs[j]? = some x→H' b=some (.lst (x.map ap))) L (bs.map V.ref) te)=fun σ2 H2=>te σ2 H2 (fc (as.map V.ref).length i (fun i ys H'=>∃ bs:List Addr,Same H H'∧H' L=some (.lst ys)∧ys=bs.map V.ref∧bs.length=i∧(∀ b∈bs,H b=none∧b≠L∧∃ o,H' b=some o)∧bs.Nodup∧∀ (j:Nat) b x,bs[j]? = some b→rs[j]? = some x→H' b=some (.lst (x.map ap))) L (bs.map V.ref)):=by
     funext σ2 H2; exact eI
    rw[e2]; exact e
   ·intro l hl0
    have nl:l≠L:=by
     rintro rfl
     rw[hl]at hl0; cases hl0
    have hl':upd H' l (.lst ((rs[i]).map ap)) L=some (.lst (bs.map V.ref)):=by rw[al (Ne.symm nl)]; exact hl
    refine dX hi (by rw[List.length_map]; exact hb) (by rw[List.length_map,h2]; exact b7 (by omega)) hl' ⟨bs++[l],(sm.trans (ak hl0 _)).upd hL _,ae,by rw[List.map_append]; rfl,by simp[hb],?_,?_,?_⟩
    ·intro b hb'
     rcases List.mem_append.mp hb' with z | z
     ·obtain⟨z1,z2,o,z3⟩:=hbn b z
      exact⟨z1,z2,o,by rw[al z2]; exact(ak hl0 _) _ _ z3⟩
     ·rw[List.mem_singleton.mp z]
      exact⟨sm.free hl0,nl,_,by rw[al nl]; exact ae⟩
    ·rw[List.nodup_append]
     refine⟨hnd,by simp,fun b hb' c hc=>?_⟩
     rw[List.mem_singleton.mp hc];rintro rfl
     obtain⟨_,_,o,z⟩:=hbn b hb'
     rw[hl0]at z; cases z
    ·intro j b x e1 e2
     rcases Nat.lt_or_ge j bs.length with z | z
     ·rw[List.getElem?_append_left z]at e1
      have q1:=hbx j b x e1 e2;have q2:=(hbn b (List.mem_of_getElem? e1)).2.1;rw[al q2]; exact(ak hl0 _) _ _ q1
     ·rw[List.getElem?_append_right z]at e1
      have hj:j - bs.length=0:=by
       have:=(List.getElem?_eq_some_iff.mp e1).1
       simp at this; omega
      rw[hj]at e1
      have e1':l=b:=by simpa using e1
      subst e1';have hji:j=i:=by omega
      subst hji;rw[List.getElem?_eq_getElem hi']at e2
      cases e2;rw[al nl]; exact ae
 ·rintro ys H' ⟨bs,sm,hl,rfl,hb,hbn,hnd,hbx⟩
  exact q H' bs sm ⟨hl,by rw[hb,List.length_map,h2],hbx⟩ (fun b z=>⟨(hbn b z).1,(hbn b z).2.1⟩) hnd
abbrev aV:=List (List (Option Nat))
def aj{α : Type}[DecidableEq α]:List α→List α→List α
 | acc,[]=>acc
 | acc,m::ms=>aj (if m∈acc then acc else acc++[m]) ms
section
variable{α : Type}[DecidableEq α]
theorem ce:∀ (ms acc:List α) (m:α),aj acc (ms++[m])=if m∈aj acc ms then aj acc ms else aj acc ms++[m]
 | [],acc,m=>rfl
 | x::ms,acc,m=>by
  show aj _ (ms++[m])=_
  rw[ce ms]; rfl
theorem jZ:∀ (ms acc:List α),∃ t,aj acc ms=acc++t
 | [],acc=>⟨[],by simp[aj]⟩
 | m::ms,acc=>by
  obtain⟨t,e⟩:=jZ ms (if m∈acc then acc else acc++[m])
  show ∃ t,aj (if m∈acc then acc else acc++[m]) ms=acc++t
  by_cases h:m∈acc
  ·rw[if_pos h]at e ⊢; exact⟨t,e⟩
  ·rw[if_neg h]at e ⊢; exact⟨[m]++t,by rw[e,List.append_assoc]⟩
theorem bt:∀ (ms acc:List α) (x:α),x∈aj acc ms ↔ x∈acc∨x∈ms
 | [],acc,x=>by simp[aj]
 | m::ms,acc,x=>by
  show x∈aj (if m∈acc then acc else acc++[m]) ms ↔ _
  rw[bt ms]
  by_cases h:m∈acc
  ·rw[if_pos h]
   constructor
   ·rintro(z | z)
    ·exact .inl z
    ·exact .inr (List.mem_cons_of_mem _ z)
   ·rintro(z | z)
    ·exact .inl z
    ·rcases List.mem_cons.mp z with rfl | z
     ·exact .inl h
     ·exact .inr z
  ·rw[if_neg h,List.mem_append,List.mem_singleton,List.mem_cons,or_assoc]
theorem kx:∀ (ms acc:List α),acc.Nodup→(aj acc ms).Nodup
 | [],acc,h=>h
 | m::ms,acc,h=>by
  show (aj (if m∈acc then acc else acc++[m]) ms).Nodup
  refine kx ms _ ?_
  by_cases hm:m∈acc
  ·rw[if_pos hm]; exact h
  ·rw[if_neg hm,List.nodup_append]
   exact⟨h,by simp,fun x hx y hy e=>by rw[List.mem_singleton.mp hy]at e; exact hm (e ▸ hx)⟩
theorem vC{l t:List α}{x:α}(h:x∈l):(l++t).idxOf x=l.idxOf x:=by
 rw[List.idxOf_append,if_pos h]
def cu(ms:List α):List Nat:=ms.map fun m=>(aj [] ms).idxOf m
theorem qL{ms:List α}{i:Nat}{m:α}(h:ms[i]? = some m):(aj [] (ms.take (i+1))).idxOf m=(aj [] ms).idxOf m:=by
 have e:ms=ms.take (i+1)++ms.drop (i+1):=(List.take_append_drop _ _).symm
 have hm:m∈ms.take (i+1):=by
  rw[List.take_add_one,h]; simp
 have step:∀ (a b acc:List α),aj acc (a++b)=aj (aj acc a) b:=by
  intro a
  induction a with
  | nil=>intro b acc; rfl
  | cons x a ih=>intro b acc; exact ih b _
 have q:aj [] ms=aj (aj [] (ms.take (i+1))) (ms.drop (i+1)):=by
  rw[← step,← e]
 obtain⟨t,ht⟩:=jZ (ms.drop (i+1)) (aj [] (ms.take (i+1)))
 rw[q,ht,vC ((bt _ _ _).mpr (.inr hm))]
def fv(x:α)(l:List α):Nat:=l.idxOf x
theorem z9{x:α}{l:List α}(h:x∈l):fv x l<l.length:=List.idxOf_lt_length_iff.mpr h
theorem jk{ms:List α}{i:Nat}{m:α}(h:ms[i]? = some m):(cu ms)[i]? = some (fv m (aj [] (ms.take (i+1)))):=by
 unfold fv;rw[qL h];unfold cu;rw[List.getElem?_map,h]; rfl
theorem pj(x:α)(l:List α):fv x (x::l)=0:=by unfold fv; simp
theorem n_{x y:α}(h:y≠x)(l:List α):fv x (y::l)=fv x l+1:=by
 unfold fv;rw[List.idxOf_cons];have hb:(y == x)=false:=beq_eq_false_iff_ne.mpr h
 rw[hb]; rfl
theorem qR{ms:List α}{i j:Nat}{m m':α}(h:ms[i]? = some m)(h':ms[j]? = some m'):(cu ms)[i]? = (cu ms)[j]? ↔ m=m':=by
 unfold cu;rw[List.getElem?_map,List.getElem?_map,h,h'];show some _=some _ ↔ _
 have hm:m∈aj [] ms:=(bt _ _ _).mpr (.inr (List.mem_of_getElem? h))
 have hm':m'∈aj [] ms:=(bt _ _ _).mpr (.inr (List.mem_of_getElem? h'))
 constructor
 ·intro e
  have e':(aj [] ms).idxOf m=(aj [] ms).idxOf m':=Option.some.inj e
  have h1:=List.getElem_idxOf (List.idxOf_lt_length_iff.mpr hm);have h2:=List.getElem_idxOf (List.idxOf_lt_length_iff.mpr hm');rw[← h1,← h2]
  congr 1
 ·rintro rfl; rfl
def db(l:List Nat):Prop:=∀ i,aj [] (l.take i)=List.range (aj [] (l.take i)).length
theorem c_:∀ (ms acc:List α),(aj acc ms).length≤acc.length+ms.length
 | [],acc=>by simp[aj]
 | m::ms,acc=>by
  have h:=c_ ms (if m∈acc then acc else acc++[m])
  show (aj (if m∈acc then acc else acc++[m]) ms).length≤_
  by_cases hm:m∈acc
  ·rw[if_pos hm]at h ⊢; rw[List.length_cons]; omega
  ·rw[if_neg hm]at h ⊢; rw[List.length_append]at h; rw[List.length_cons]; simp at h; omega
end
section
variable{α β : Type}[DecidableEq α][DecidableEq β]
theorem gZ(f:α→β):∀ (ms acc:List α),(∀ x∈acc++ms,∀ y∈acc++ms,f x=f y→x=y)→aj (acc.map f) (ms.map f)=(aj acc ms).map f
 | [],acc,_=>rfl
 | m::ms,acc,h=>by
  show aj (if f m∈acc.map f then acc.map f else acc.map f++[f m]) (ms.map f)=(aj (if m∈acc then acc else acc++[m]) ms).map f
  by_cases hm:m∈acc
  ·rw[if_pos hm,if_pos (List.mem_map.mpr ⟨m,hm,rfl⟩)]
   exact gZ f ms acc fun x hx y hy=>h x (by simp at hx ⊢; rcases hx with z | z <;> simp[z]) y (by simp at hy ⊢; rcases hy with z | z <;> simp[z])
  ·have hn:f m∉acc.map f:=fun z=>by
    obtain⟨x,hx,e⟩:=List.mem_map.mp z
    have:=h x (by simp[hx]) m (by simp) e
    exact hm (this ▸ hx)
   rw[if_neg hm,if_neg hn];have ih:=gZ f ms (acc++[m]) fun x hx y hy=>h x (by simp at hx ⊢; rcases hx with z | z | z <;> simp[z]) y (by simp at hy ⊢; rcases hy with z | z | z <;> simp[z])
   rw[List.map_append]at ih
   exact ih
end
theorem me{α : Type}[DecidableEq α]{l:List α}(nd:l.Nodup)(c:Nat)(hc:c≤l.length):(l.take c).map (fun x=>l.idxOf x)=List.range c:=by
 refine List.ext_getElem (by simp; omega) fun i h1 h2=>?_
 have hi:i<l.length:=by simp at h1; omega
 rw[List.getElem_map,List.getElem_take,List.getElem_range];exact nd.idxOf_getElem _ hi
theorem dS{α : Type}[DecidableEq α](ms:List α):db (cu ms):=by
 intro i
 have hnd:=kx ms [] List.nodup_nil;have e1:(cu ms).take i=(ms.take i).map fun m=>(aj [] ms).idxOf m:=by unfold cu; rw[List.map_take]
 have inj:∀ x∈[]++ms.take i,∀ y∈[]++ms.take i,(aj [] ms).idxOf x=(aj [] ms).idxOf y→x=y:=fun x hx y hy e=>by
  have hx':x∈aj [] ms:=(bt _ _ _).mpr (.inr (List.mem_of_mem_take (by simpa using hx)))
  have hy':y∈aj [] ms:=(bt _ _ _).mpr (.inr (List.mem_of_mem_take (by simpa using hy)))
  have h1:=List.getElem_idxOf (List.idxOf_lt_length_iff.mpr hx');have h2:=List.getElem_idxOf (List.idxOf_lt_length_iff.mpr hy');rw[← h1,← h2]; congr 1
 have e2:=gZ (fun m=>(aj [] ms).idxOf m) (ms.take i) [] inj
 rw[List.map_nil]at e2
 have step:∀ (a b acc:List α),aj acc (a++b)=aj (aj acc a) b:=by
  intro a
  induction a with
  | nil=>intro b acc; rfl
  | cons x a ih=>intro b acc; exact ih b _
 have q:aj [] ms=aj (aj [] (ms.take i)) (ms.drop i):=by rw[← step,List.take_append_drop]
 obtain⟨t,ht⟩:=jZ (ms.drop i) (aj [] (ms.take i))
 have e3:aj [] (ms.take i)=(aj [] ms).take (aj [] (ms.take i)).length:=by rw[q,ht,List.take_left]
 have hlen:(aj [] (ms.take i)).length≤(aj [] ms).length:=by rw[q,ht,List.length_append]; omega
 rw[e1,e2,List.length_map]
 conv=>lhs; rw[e3]
 exact me hnd _ hlen
theorem gE{l:List Nat}{i:Nat}{x:Nat}(h:db l)(hx:l[i]? = some x)(hn:x∉l.take i):x=(aj [] (l.take i)).length:=by
 have h1:=h i;have h2:=h (i+1);rw[List.take_add_one,hx]at h2
 show _=_
 have hn':x∉aj [] (l.take i):=fun z=>by
  rcases(bt _ _ _).mp z with z | z
  ·cases z
  ·exact hn z
 have e:aj [] (l.take i++(some x).toList)=aj [] (l.take i)++[x]:=by
  show aj [] (l.take i++[x])=_
  rw[ce,if_neg hn']
 rw[e,List.length_append,List.length_singleton,List.range_succ,← h1]at h2
 have:=List.append_cancel_left h2
 simpa using this
theorem nB{a b:List Nat}(ha:db a)(hb:db b)(hl:a.length=b.length)(h:∀ i j:Nat,i<a.length→j<a.length→(a[i]? = a[j]? ↔ b[i]? = b[j]?)):a=b:=by
 have key:∀ i,i≤a.length→a.take i=b.take i:=by
  intro i
  induction i with
  | zero=>intro _; simp
  | succ i ih=>
   intro hi
   have ih':=ih (by omega)
   have hai:i<a.length:=by omega
   have hbi:i<b.length:=by omega
   rw[List.take_add_one,List.take_add_one,ih',List.getElem?_eq_getElem hai,List.getElem?_eq_getElem hbi]
   congr 2
   by_cases hm:a[i]∈a.take i
   ·obtain⟨j,hj,e⟩:=List.mem_iff_getElem.mp hm
    have hj':j<i:=by simp at hj; omega
    rw[List.getElem_take]at e
    have q:=(h j i (by omega) hai).mp (by rw[List.getElem?_eq_getElem (by omega),List.getElem?_eq_getElem hai,e])
    rw[List.getElem?_eq_getElem (by omega),List.getElem?_eq_getElem hbi]at q
    have q':b[j]=b[i]:=Option.some.inj q
    rw[← q',← e];have e1:(a.take i)[j]? = (b.take i)[j]?:=by rw[ih']
    rw[List.getElem?_take_of_lt hj',List.getElem?_take_of_lt hj',List.getElem?_eq_getElem (by omega),List.getElem?_eq_getElem (by omega)]at e1
    exact e1
   ·have hn:b[i]∉b.take i:=fun z=>by
     obtain⟨j,hj,e⟩:=List.mem_iff_getElem.mp z
     have hj':j<i:=by simp at hj; omega
     rw[List.getElem_take]at e
     have q:=(h j i (by omega) hai).mpr (by rw[List.getElem?_eq_getElem (by omega),List.getElem?_eq_getElem hbi,e])
     rw[List.getElem?_eq_getElem (by omega),List.getElem?_eq_getElem hai]at q
     have q':a[j]=a[i]:=Option.some.inj q
     exact hm (q' ▸ List.mem_iff_getElem.mpr ⟨j,by simp; omega,by rw[List.getElem_take]⟩)
    rw[gE ha (List.getElem?_eq_getElem hai) hm,gE hb (List.getElem?_eq_getElem hbi) hn,ih']
 have:=key a.length (Nat.le_refl _)
 rw[List.take_length]at this
 rw[this,hl,List.take_length]
def mark(R:aV)(ks:List Nat)(i:Nat):Nat × List (Option Nat):=(ks.getD i 0,(R.getD i []).map (Option.map fun k=>ks.getD k 0))
def bJ(R:aV)(ks:List Nat):List (Nat × List (Option Nat)):=(List.range R.length).map (mark R ks)
def finer(R:aV)(ks:List Nat):List Nat:=cu (bJ R ks)
def iter(R:aV):Nat→List Nat
 | 0=>R.map fun _=>0
 | t+1=>finer R (iter R t)
def ai(R:aV):List Nat:=iter R (R.length * R.length)
theorem iX(R:aV)(ks:List Nat):(bJ R ks).length=R.length:=by simp[bJ]
theorem de(R:aV)(ks:List Nat):(finer R ks).length=R.length:=by simp[finer,cu,bJ]
theorem bH(R:aV):∀ t,(iter R t).length=R.length
 | 0=>by simp[iter]
 | t+1=>de R _
theorem fR{R:aV}{ks:List Nat}{i:Nat}(h:i<R.length):(bJ R ks)[i]? = some (mark R ks i):=by
 unfold bJ; rw[List.getElem?_map,List.getElem?_range h]; rfl
theorem iI{R:aV}{ks:List Nat}{i j:Nat}(hi:i<R.length)(hj:j<R.length):(finer R ks)[i]? = (finer R ks)[j]? ↔ mark R ks i=mark R ks j:=qR (fR hi) (fR hj)
theorem rb(n:Nat):db (List.replicate n 0):=by
 intro i
 rw[List.take_replicate]
 have:∀ k,aj ([0]:List Nat) (List.replicate k 0)=[0]:=by
  intro k
  induction k with
  | zero=>rfl
  | succ k ih=>rw[List.replicate_succ]; show aj (if 0∈[0] then [0] else [0]++[0]) _=_; rw[if_pos (by simp)]; exact ih
 cases h:min i n with
 | zero=>rfl
 | succ k=>
  rw[List.replicate_succ];show aj (if (0:Nat)∈[] then [] else []++[0]) (List.replicate k 0)=List.range (aj (if (0:Nat)∈[] then [] else []++[0]) (List.replicate k 0)).length
  rw[if_neg (by simp),List.nil_append,this]; rfl
theorem ci(R:aV):∀ t,db (iter R t)
 | 0=>by
  show db (R.map fun _=>0)
  rw[List.map_const'];exact rb _
 | t+1=>dS _
def cQ(n:Nat)(ks:List Nat):Nat:=((List.range n).flatMap fun i=>(List.range n).map fun j=>(i,j)).countP fun p=>decide (ks[p.1]? = ks[p.2]?)
theorem nY{α : Type}{p q:α→Bool}:∀ {l:List α},(∀ x∈l,p x=true→q x=true)→(∃ x∈l,q x=true∧p x=false)→l.countP p<l.countP q
 | [],_,⟨x,hx,_⟩=>by simp at hx
 | y::l,h,⟨x,hx,h1,h2⟩=>by
  have mono:∀ {l:List α},(∀ x∈l,p x=true→q x=true)→l.countP p≤l.countP q:=by
   intro l hl
   exact List.countP_mono_left hl
  rw[List.countP_cons,List.countP_cons];rcases List.mem_cons.mp hx with rfl | hx
  ·have:=mono (l:=l) fun z hz=>h z (List.mem_cons_of_mem _ hz)
   rw[h1,h2]; simp; omega
  ·have:=nY (fun z hz=>h z (List.mem_cons_of_mem _ hz)) ⟨x,hx,h1,h2⟩
   have hy:=h y List.mem_cons_self
   cases hp:p y with
   | true=>rw[hy hp]; simp; omega
   | false=>cases q y <;> simp <;> omega
theorem jO{R:aV}{ks:List Nat}(hl:ks.length=R.length)(hc:db ks)(hne:finer R ks≠ks):cQ R.length (finer R ks)<cQ R.length ks:=by
 have sub:∀ i j,i<R.length→j<R.length→(finer R ks)[i]? = (finer R ks)[j]?→ks[i]? = ks[j]?:=fun i j hi hj e=>by
  have m:=(iI hi hj).mp e;have m1:ks.getD i 0=ks.getD j 0:=congrArg (·.1) m
  rw[List.getD_eq_getElem?_getD,List.getD_eq_getElem?_getD,List.getElem?_eq_getElem (by omega),List.getElem?_eq_getElem (by omega)]at m1
  rw[List.getElem?_eq_getElem (by omega),List.getElem?_eq_getElem (by omega)]
  exact congrArg some m1
 refine nY (fun x hx e=>?_) ?_
 ·obtain⟨i,hi,hx⟩:=List.mem_flatMap.mp hx
  obtain⟨j,hj,rfl⟩:=List.mem_map.mp hx
  exact decide_eq_true (sub i j (List.mem_range.mp hi) (List.mem_range.mp hj) (of_decide_eq_true e))
 ·refine Classical.byContradiction fun hno=>hne ?_
  refine nB (dS _) hc (by rw[de,hl]) fun i j hi hj=>?_
  rw[de]at hi hj
  refine⟨sub i j hi hj,fun e=>Classical.byContradiction fun e2=>hno ⟨(i,j),?_,decide_eq_true e,decide_eq_false e2⟩⟩
  exact List.mem_flatMap.mpr ⟨i,List.mem_range.mpr hi,List.mem_map.mpr ⟨j,List.mem_range.mpr hj,rfl⟩⟩
theorem oQ(n:Nat)(ks:List Nat):cQ n ks≤n * n:=by
 unfold cQ;refine Nat.le_trans List.countP_le_length ?_
 have:∀ (l:List Nat),(l.flatMap fun i=>(List.range n).map fun j=>(i,j)).length=l.length * n:=by
  intro l
  induction l with
  | nil=>simp
  | cons x l ih=>rw[List.flatMap_cons,List.length_append,ih,List.length_map,List.length_range,List.length_cons,Nat.succ_mul]; omega
 rw[this,List.length_range]; exact Nat.le_refl _
theorem lF{R:aV}{t:Nat}(h:iter R (t+1)=iter R t):∀ s,iter R (t+s)=iter R t
 | 0=>rfl
 | s+1=>by
  show finer R (iter R (t+s))=_
  rw[lF h s]; exact h
theorem iT{R:aV}{t:Nat}(h:iter R (t+1)=iter R t)(ht:t≤R.length * R.length):iter R t=ai R:=by
 unfold ai;have:=lF h (R.length * R.length - t)
 rw[show t+(R.length * R.length - t)=R.length * R.length by omega]at this
 exact this.symm
def cY(ks:List Nat)(x:List (Option Nat)):List (Option Nat):=x.map (Option.map fun k=>ks.getD k 0)
def bU(R:aV)(ks:List Nat)(i:Nat):aV:=(List.range (aj [] (ks.take i)).length).map fun k=>cY ks (R.getD (ks.idxOf k) [])
def merged(R:aV):aV:=bU R (ai R) R.length
theorem q5{l:List Nat}{i x:Nat}(hx:l[i]? = some x)(hn:x∉l.take i):l.idxOf x=i:=by
 obtain⟨hi,e⟩:=List.getElem?_eq_some_iff.mp hx
 have h0:l=l.take i++l.drop i:=(List.take_append_drop _ _).symm
 have h1:l.drop i=x::l.drop (i+1):=by rw[List.drop_eq_getElem_cons hi,e]
 rw[h0,List.idxOf_append,if_neg hn,h1,List.idxOf_cons_self,List.length_take];omega
theorem qV{R:aV}{ks:List Nat}(hc:db ks)(hl:ks.length=R.length){i:Nat}(hi:i<R.length) :
  bU R ks (i+1)=if ks.getD i 0=(bU R ks i).length then bU R ks i++[cY ks (R.getD i [])] else bU R ks i:=by
 have hik:i<ks.length:=by omega
 have hk:ks[i]? = some ks[i]:=List.getElem?_eq_getElem hik
 have hg:ks.getD i 0=ks[i]:=by rw[List.getD_eq_getElem?_getD,hk]; rfl
 have hml:(bU R ks i).length=(aj [] (ks.take i)).length:=by simp[bU]
 rw[hg,hml];have ht:ks.take (i+1)=ks.take i++[ks[i]]:=by rw[List.take_add_one,hk]; rfl
 by_cases hm:ks[i]∈ks.take i
 ·have hf:ks[i]∈aj [] (ks.take i):=(bt _ _ _).mpr (.inr hm)
  have hlt:ks[i]<(aj [] (ks.take i)).length:=by
   have:=hc i
   rw[this]at hf
   exact List.mem_range.mp hf
  rw[if_neg (by omega)]
  unfold bU;rw[ht,ce,if_pos hf]
 ·have hn:ks[i]∉aj [] (ks.take i):=fun z=>by
   rcases(bt _ _ _).mp z with z | z
   ·cases z
   ·exact hm z
  have e:=gE hc hk hm;rw[if_pos e];unfold bU;rw[ht,ce,if_neg hn,List.length_append,List.length_singleton,List.range_succ,List.map_append]
  congr 1
  rw[← e];show [cY ks (R.getD (ks.idxOf ks[i]) [])]=_
  rw[q5 hk hm]
def aM:List Nat→List (Option Nat)→List Nat
 | o,[]=>o
 | o,none::x=>aM o x
 | o,some k::x=>aM (if k∈o then o else o++[k]) x
theorem ji:∀ (x:List (Option Nat)) (o:List Nat) (w:Option Nat),aM o (x++[w])=match w with
  | none=>aM o x
  | some k=>if k∈aM o x then aM o x else aM o x++[k]
 | [],o,none=>rfl
 | [],o,some k=>rfl
 | none::x,o,w=>ji x o w
 | some k::x,o,w=>ji x _ w
theorem j0:∀ (x:List (Option Nat)) (o:List Nat),∃ t,aM o x=o++t
 | [],o=>⟨[],by simp[aM]⟩
 | none::x,o=>j0 x o
 | some k::x,o=>by
  obtain⟨t,e⟩:=j0 x (if k∈o then o else o++[k])
  show ∃ t,aM (if k∈o then o else o++[k]) x=o++t
  by_cases h:k∈o
  ·rw[if_pos h]at e ⊢; exact⟨t,e⟩
  ·rw[if_neg h]at e ⊢; exact⟨[k]++t,by rw[e,List.append_assoc]⟩
theorem dR:∀ (x:List (Option Nat)) (o:List Nat) (k:Nat),k∈aM o x ↔ k∈o∨some k∈x
 | [],o,k=>by simp[aM]
 | none::x,o,k=>by rw[show aM o (none::x)=aM o x from rfl,dR x]; simp
 | some j::x,o,k=>by
  rw[show aM o (some j::x)=aM (if j∈o then o else o++[j]) x from rfl,dR x]
  by_cases h:j∈o
  ·rw[if_pos h]
   constructor
   ·rintro(z | z)
    ·exact .inl z
    ·exact .inr (List.mem_cons_of_mem _ z)
   ·rintro(z | z)
    ·exact .inl z
    ·rcases List.mem_cons.mp z with e | z
     ·cases e; exact .inl h
     ·exact .inr z
  ·rw[if_neg h]; simp[or_assoc]
theorem fj:∀ (x:List (Option Nat)) (o:List Nat),o.Nodup→(aM o x).Nodup
 | [],o,h=>h
 | none::x,o,h=>fj x o h
 | some k::x,o,h=>by
  refine fj x _ ?_
  by_cases hm:k∈o
  ·rw[if_pos hm]; exact h
  ·rw[if_neg hm,List.nodup_append]
   exact⟨h,by simp,fun a ha b hb e=>by rw[List.mem_singleton.mp hb]at e; exact hm (e ▸ ha)⟩
def aG(M:aV):Nat→List Nat
 | 0=>[0]
 | t+1=>match (aG M t)[t]? with
  | some r=>aM (aG M t) (M.getD r [])
  | none=>aG M t
def aD(M:aV):List Nat:=aG M M.length
def dP(M:aV):Prop:=∀ x∈M,∀ k,some k∈x→k<M.length
theorem fV:∀ (m:Nat) (l:List Nat),l.Nodup→(∀ x∈l,x<m)→l.length≤m
 | 0,l,_,h=>by
  cases l with
  | nil=>exact Nat.le_refl _
  | cons x l=>exact absurd (h x List.mem_cons_self) (Nat.not_lt_zero _)
 | m+1,l,nd,h=>by
  have h1:=fV m (l.filter (fun x=>decide (x≠m))) (nd.filter _) fun x hx=>by
   obtain⟨hx,hd⟩:=List.mem_filter.mp hx
   have:=h x hx
   have:=of_decide_eq_true hd
   omega
  have h2:l.length≤(l.filter (fun x=>decide (x≠m))).length+1:=by
   have:∀ (l:List Nat),l.Nodup→l.length≤(l.filter (fun x=>decide (x≠m))).length+1:=by
    intro l
    induction l with
    | nil=>intro _; simp
    | cons y l ih=>
     intro nd
     by_cases e:y=m
     ·subst e
      have hy:y∉l:=(List.nodup_cons.mp nd).1
      have e2:l.filter (fun x=>decide (x≠y))=l:=List.filter_eq_self.mpr fun x hx=>decide_eq_true (fun z=>hy (z ▸ hx))
      rw[List.filter_cons_of_neg (by simp),e2,List.length_cons]; exact Nat.le_refl _
     ·rw[List.filter_cons_of_pos (by simpa using e),List.length_cons,List.length_cons]
      have:=ih (List.nodup_cons.mp nd).2
      omega
   exact this l nd
  omega
theorem dv{M:aV}(hi:dP M)(h0:1≤M.length):∀ t,(aG M t).Nodup∧∀ x∈aG M t,x<M.length
 | 0=>⟨by simp[aG],fun x hx=>by simp[aG]at hx; omega⟩
 | t+1=>by
  obtain⟨nd,lt⟩:=dv hi h0 t
  show (match (aG M t)[t]? with | some r=>aM (aG M t) (M.getD r []) | none=>aG M t).Nodup∧∀ x∈(match (aG M t)[t]? with | some r=>aM (aG M t) (M.getD r []) | none=>aG M t),x<M.length
  cases e:(aG M t)[t]? with
  | none=>exact⟨nd,lt⟩
  | some r=>
   refine⟨fj _ _ nd,fun x hx=>?_⟩
   rcases(dR _ _ _).mp hx with z | z
   ·exact lt x z
   ·have hr:r<M.length:=lt r (List.mem_of_getElem? e)
    rw[List.getD_eq_getElem?_getD,List.getElem?_eq_getElem hr]at z
    exact hi _ (List.getElem_mem hr) x z
theorem kS{M:aV}(hi:dP M)(h0:1≤M.length)(t:Nat):(aG M t).length≤M.length:=fV _ _ (dv hi h0 t).1 (dv hi h0 t).2
theorem nc{M:aV}{t:Nat}(h:(aG M t).length≤t):∀ s,aG M (t+s)=aG M t
 | 0=>rfl
 | s+1=>by
  have ih:=nc h s;show (match (aG M (t+s))[t+s]? with | some r=>aM (aG M (t+s)) (M.getD r []) | none=>aG M (t+s))=_
  rw[ih,List.getElem?_eq_none (by omega)]
theorem ka{M:aV}{t:Nat}(h:(aG M t).length≤t)(ht:t≤M.length):aG M t=aD M:=by
 unfold aD;have:=nc h (M.length - t)
 rw[show t+(M.length - t)=M.length by omega]at this
 exact this.symm
def ff(o:List Nat)(x:List (Option Nat)):List (Option Nat):=x.map (Option.map fun k=>o.idxOf k)
def aZ(M:aV):aV:=(aD M).map fun r=>ff (aD M) (M.getD r [])
def dF(N:aV)(p:Nat):Bool:=(List.range N.length).any fun i=>decide ((N.getD i []).getD p none≠some i)
def places(N:aV)(w:Nat):List Nat:=(List.range w).filter (dF N)
def af(R:aV):aV:=aZ (merged R)
theorem kJ{M:aV}(t:Nat):∃ u,aG M (t+1)=aG M t++u:=by
 show ∃ u,(match (aG M t)[t]? with | some r=>aM (aG M t) (M.getD r []) | none=>aG M t)=aG M t++u
 cases e:(aG M t)[t]? with
 | none=>exact⟨[],by simp⟩
 | some r=>exact j0 _ _
theorem mI{M:aV}:∀ (t j r:Nat),j<t→(aG M t)[j]? = some r→∀ k,some k∈M.getD r []→k∈aG M t
 | 0,j,r,h,_,_,_=>absurd h (Nat.not_lt_zero _)
 | t+1,j,r,h,hr,k,hk=>by
  obtain⟨u,hu⟩:=kJ (M:=M) t
  rcases Nat.lt_or_ge j (aG M t).length with hj | hj
  ·have hr':(aG M t)[j]? = some r:=by rw[hu,List.getElem?_append_left hj]at hr; exact hr
   rcases Nat.lt_or_ge j t with hjt | hjt
   ·rw[hu]; exact List.mem_append_left _ (mI t j r hjt hr' k hk)
   ·have e:j=t:=by omega
    subst e;show k∈(match (aG M j)[j]? with | some r=>aM (aG M j) (M.getD r []) | none=>aG M j)
    rw[hr'];exact(dR _ _ _).mpr (.inr hk)
  ·have hn:(aG M t)[t]? = none:=List.getElem?_eq_none (by omega)
   have e:aG M (t+1)=aG M t:=by
    show (match (aG M t)[t]? with | some r=>aM (aG M t) (M.getD r []) | none=>aG M t)=_
    rw[hn]
   rw[e,List.getElem?_eq_none hj]at hr
   cases hr
theorem dM{M:aV}(hi:dP M)(h0:1≤M.length){r k:Nat}(hr:r∈aD M)(hk:some k∈M.getD r []):k∈aD M:=by
 obtain⟨j,hj,e⟩:=List.mem_iff_getElem.mp hr
 have hl:=kS hi h0 M.length;exact mI M.length j r (Nat.lt_of_lt_of_le hj hl) (by rw[← e]; exact List.getElem?_eq_getElem hj) k hk
theorem eB{M:aV}(hi:dP M)(h0:1≤M.length):(aD M).Nodup∧(∀ x∈aD M,x<M.length)∧(aD M).length≤M.length:=⟨(dv hi h0 _).1,(dv hi h0 _).2,kS hi h0 _⟩
theorem jV(M:aV):∀ t,(aG M t)[0]? = some 0
 | 0=>rfl
 | t+1=>by
  obtain⟨u,hu⟩:=kJ (M:=M) t
  have h:=jV M t;have hl:0<(aG M t).length:=(List.getElem?_eq_some_iff.mp h).1
  rw[hu,List.getElem?_append_left hl]; exact h
theorem gL{R:aV}(hc:1≤R.length)(hi:dP R):dP (merged R)∧1≤(merged R).length∧(merged R).length≤R.length:=by
 have hl:(ai R).length=R.length:=bH R _
 have hcn:db (ai R):=ci R _
 have hall:=hcn R.length;rw[← hl,List.take_length]at hall
 have hml:(merged R).length=(aj [] (ai R)).length:=by
  unfold merged bU;rw[List.length_map,List.length_range,← hl,List.take_length]
 have hle:(merged R).length≤R.length:=by
  have:=c_ (ai R) []
  rw[hml]; simp at this; omega
 have mem:∀ k∈ai R,k<(merged R).length:=fun k hk=>by
  have:k∈aj [] (ai R):=(bt _ _ _).mpr (.inr hk)
  rw[hall]at this
  rw[hml]; exact List.mem_range.mp this
 refine⟨fun x hx k hk=>?_,?_,hle⟩
 ·unfold merged bU at hx
  obtain⟨j,hj,rfl⟩:=List.mem_map.mp hx
  unfold cY at hk;obtain⟨o,ho,e⟩:=List.mem_map.mp hk
  cases o with
  | none=>cases e
  | some k'=>
   have e':(ai R).getD k' 0=k:=Option.some.inj e
   refine mem k ?_
   have hk':k'<R.length:=by
    by_cases hjj:(ai R).idxOf j<R.length
    ·rw[List.getD_eq_getElem?_getD,List.getElem?_eq_getElem hjj]at ho
     exact hi _ (List.getElem_mem hjj) k' ho
    ·rw[List.getD_eq_getElem?_getD,List.getElem?_eq_none (by omega)]at ho
     cases ho
   rw[← e',List.getD_eq_getElem?_getD,List.getElem?_eq_getElem (by omega)]
   exact List.getElem_mem _
 ·have h0:(ai R)[0]∈ai R:=List.getElem_mem (by omega)
  have:=mem _ h0
  omega
theorem mL{R:aV}{m:Nat}(hr:∀ x∈R,x.length=m):∀ x∈merged R,x.length=m:=by
 have hl:(ai R).length=R.length:=bH R _
 have hcn:db (ai R):=ci R _
 intro x hx
 unfold merged bU at hx;obtain⟨j,hj,rfl⟩:=List.mem_map.mp hx
 have hj':j∈aj [] ((ai R).take R.length):=by
  have:=hcn R.length
  rw[this]; exact hj
 have hjk:j∈ai R:=by
  rcases(bt _ _ _).mp hj' with z | z
  ·cases z
  ·exact List.mem_of_mem_take z
 have hlt:(ai R).idxOf j<R.length:=by rw[← hl]; exact List.idxOf_lt_length_iff.mpr hjk
 unfold cY;rw[List.length_map,List.getD_eq_getElem?_getD,List.getElem?_eq_getElem hlt];exact hr _ (List.getElem_mem hlt)
theorem eC{M:aV}{m:Nat}(hi:dP M)(h0:1≤M.length)(hr:∀ x∈M,x.length=m):dP (aZ M)∧1≤(aZ M).length∧(aZ M).length≤M.length∧∀ x∈aZ M,x.length=m:=by
 obtain⟨nd,lt,le⟩:=eB hi h0
 have hol:(aZ M).length=(aD M).length:=by simp[aZ]
 have h1:0<(aD M).length:=(List.getElem?_eq_some_iff.mp (jV M M.length)).1
 have row:∀ r∈aD M,∃ x,M.getD r []=x∧x∈M:=fun r hr'=>by
  have:=lt r hr'
  exact⟨_,rfl,by rw[List.getD_eq_getElem?_getD,List.getElem?_eq_getElem this]; exact List.getElem_mem _⟩
 refine⟨fun x hx k hk=>?_,by omega,by omega,fun x hx=>?_⟩
 ·unfold aZ at hx
  obtain⟨r,hr',rfl⟩:=List.mem_map.mp hx
  unfold ff at hk;obtain⟨o,ho,e⟩:=List.mem_map.mp hk
  cases o with
  | none=>cases e
  | some k'=>
   have e':(aD M).idxOf k'=k:=Option.some.inj e
   rw[← e',hol];exact List.idxOf_lt_length_iff.mpr (dM hi h0 hr' ho)
 ·unfold aZ at hx
  obtain⟨r,hr',rfl⟩:=List.mem_map.mp hx
  obtain⟨y,e,hy⟩:=row r hr'
  unfold ff;rw[List.length_map,e]; exact hr y hy
theorem jE{R:aV}(E:Nat→Nat→Prop)(hE:∀ u v,E u v→u<R.length→v<R.length→∀ p:Nat,((R.getD u [])[p]? = none∧(R.getD v [])[p]? = none)∨((R.getD u [])[p]? = some none∧(R.getD v [])[p]? = some none)∨
   ∃ x y,(R.getD u [])[p]? = some (some x)∧(R.getD v [])[p]? = some (some y)∧E x y∧x<R.length∧y<R.length) :
  ∀ (t u v:Nat),E u v→u<R.length→v<R.length→(iter R t)[u]? = (iter R t)[v]?
 | 0,u,v,_,hu,hv=>by
  show (R.map fun _=>0)[u]? = (R.map fun _=>0)[v]?
  rw[List.getElem?_map,List.getElem?_map,List.getElem?_eq_getElem hu,List.getElem?_eq_getElem hv]; rfl
 | t+1,u,v,h,hu,hv=>by
  have ih:=jE E hE t;refine(iI hu hv).mpr ?_
  have gd:∀ x y,E x y→x<R.length→y<R.length→(iter R t).getD x 0=(iter R t).getD y 0:=fun x y e hx hy=>by
   rw[List.getD_eq_getElem?_getD,List.getD_eq_getElem?_getD,ih x y e hx hy]
  refine Prod.ext (gd u v h hu hv) ?_
  show (R.getD u []).map _=(R.getD v []).map _
  refine List.ext_getElem? fun p=>?_
  rw[List.getElem?_map,List.getElem?_map];rcases hE u v h hu hv p with ⟨h1,h2⟩ | ⟨h1,h2⟩ | ⟨x,y,h1,h2,hxy,hx,hy⟩
  ·rw[h1,h2]
  ·rw[h1,h2]
  ·rw[h1,h2]
   exact congrArg (fun z=>some (some z)) (gd x y hxy hx hy)
theorem jh(R:aV):finer R (ai R)=ai R:=by
 -- the pairs can't get fewer for ever
 have key:∀ t,(∃ s,s≤t∧iter R (s+1)=iter R s)∨cQ R.length (iter R (t+1))+(t+1)≤R.length * R.length:=by
  intro t
  induction t with
  | zero=>
   by_cases h:iter R 1=iter R 0
   ·exact .inl ⟨0,Nat.le_refl _,h⟩
   ·have:=jO (R:=R) (bH R 0) (ci R 0) h
    have:=oQ R.length (iter R 0)
    refine .inr ?_
    show cQ R.length (finer R (iter R 0))+1≤_
    omega
  | succ t ih=>
   rcases ih with ⟨s,hs,e⟩ | ih
   ·exact .inl ⟨s,by omega,e⟩
   ·by_cases h:iter R (t+1+1)=iter R (t+1)
    ·exact .inl ⟨t+1,Nat.le_refl _,h⟩
    ·have:=jO (R:=R) (bH R (t+1)) (ci R (t+1)) h
     refine .inr ?_
     show cQ R.length (finer R (iter R (t+1)))+(t+1+1)≤_
     omega
 rcases key (R.length * R.length) with ⟨s,hs,e⟩ | h
 ·have e1:=iT e hs
  rw[← e1]; exact e
 ·omega
theorem uf{l:List Nat}(hc:db l)(hi:∀ i j,i<l.length→j<l.length→l[i]? = l[j]?→i=j):l=List.range l.length:=by
 refine nB hc ?_ (by simp) fun i j h1 h2=>?_
 ·have:List.range l.length=cu (List.range l.length):=by
   have hf:∀ (n:Nat),aj [] (List.range n)=List.range n:=by
    intro n
    induction n with
    | zero=>rfl
    | succ n ih=>
     rw[List.range_succ,ce,ih,if_neg (by simp)]
   unfold cu;rw[hf];refine List.ext_getElem (by simp) fun i h1 h2=>?_
   rw[List.getElem_map];have:=(List.nodup_range (n:=l.length)).idxOf_getElem i (by simpa using h1)
   rw[this,List.getElem_range]
  rw[this]; exact dS _
 ·rw[List.getElem?_range h1,List.getElem?_range h2]
  constructor
  ·intro e; rw[hi i j h1 h2 e]
  ·intro e
   have:i=j:=Option.some.inj e
   rw[this]
def cx(l:List Nat):Nat:=(aj [] l).length
theorem Bh{a b:List Nat}(ha:db a)(hb:db b)(hl:a.length=b.length)(h:∀ i j:Nat,i<a.length→j<a.length→b[i]? = b[j]?→a[i]? = a[j]?)(hc:cx a=cx b):a=b:=by
 have inc:∀ {l:List Nat} {i:Nat} (hi:i<l.length),cx (l.take (i+1))=cx (l.take i)+if l[i]∈l.take i then 0 else 1:=by
  intro l i hi
  unfold cx;rw[List.take_add_one,List.getElem?_eq_getElem hi];show (aj [] (l.take i++[l[i]])).length=_
  rw[ce]
  by_cases hm:l[i]∈l.take i
  ·rw[if_pos ((bt _ _ _).mpr (.inr hm)),if_pos hm]; rfl
  ·rw[if_neg (fun z=>by rcases(bt _ _ _).mp z with z | z; cases z; exact hm z),if_neg hm,List.length_append]; rfl
 have old:∀ i (hi:i<a.length),b[i]'(by omega)∈b.take i→a[i]∈a.take i:=fun i hi hm=>by
  obtain⟨j,hj,e⟩:=List.mem_iff_getElem.mp hm
  have hj':j<i:=by simp at hj; omega
  rw[List.getElem_take]at e
  have q:=h j i (by omega) hi (by rw[List.getElem?_eq_getElem (by omega),List.getElem?_eq_getElem (by omega),e])
  rw[List.getElem?_eq_getElem (by omega),List.getElem?_eq_getElem hi]at q
  have q':a[j]=a[i]:=Option.some.inj q
  exact q' ▸ List.mem_iff_getElem.mpr ⟨j,by simp; omega,by rw[List.getElem_take]⟩
 -- the counts keep apart once they are
 have mono:∀ k i,i+k≤a.length→cx (b.take (i+k)) - cx (a.take (i+k))≥cx (b.take i) - cx (a.take i)∧cx (a.take (i+k))≤cx (a.take i)+(cx (b.take (i+k)) - cx (b.take i))∧cx (b.take i)≤cx (b.take (i+k)):=by
  intro k
  induction k with
  | zero=>intro i _; simp
  | succ k ih=>
   intro i hi
   have ih':=ih i (by omega)
   have ea:=inc (l:=a) (i:=i+k) (by omega)
   have eb:=inc (l:=b) (i:=i+k) (by omega)
   have ho:=old (i+k) (by omega)
   rw[show i+(k+1)=i+k+1 by omega,ea,eb]
   by_cases hm:b[i+k]'(by omega)∈b.take (i+k)
   ·rw[if_pos hm,if_pos (ho hm)]; omega
   ·rw[if_neg hm]
    by_cases hm2:a[i+k]'(by omega)∈a.take (i+k)
    ·rw[if_pos hm2]; omega
    ·rw[if_neg hm2]; omega
 have le0:∀ i,i≤a.length→cx (a.take i)≤cx (b.take i):=fun i hi=>by
  have:=(mono i 0 (by omega)).2.1
  have e1:cx (a.take 0)=0:=rfl
  have e2:cx (b.take 0)=0:=rfl
  rw[Nat.zero_add]at this
  omega
 have same:∀ i,i≤a.length→cx (a.take i)=cx (b.take i):=fun i hi=>by
  have h1:=(mono (a.length - i) i (by omega))
  rw[show i+(a.length - i)=a.length by omega]at h1
  have e1:a.take a.length=a:=List.take_length
  have e2:b.take a.length=b:=by rw[hl,List.take_length]
  rw[e1,e2]at h1
  have h2:=le0 i hi;omega
 have key:∀ i,i≤a.length→a.take i=b.take i:=by
  intro i
  induction i with
  | zero=>intro _; simp
  | succ i ih=>
   intro hi
   have ih':=ih (by omega)
   have hai:i<a.length:=by omega
   have hbi:i<b.length:=by omega
   rw[List.take_add_one,List.take_add_one,ih',List.getElem?_eq_getElem hai,List.getElem?_eq_getElem hbi]
   congr 2
   have ea:=inc hai;have eb:=inc hbi;have s1:=same i (by omega)
   have s2:=same (i+1) hi
   by_cases hm:b[i]∈b.take i
   ·obtain⟨j,hj,e⟩:=List.mem_iff_getElem.mp hm
    have hj':j<i:=by simp at hj; omega
    rw[List.getElem_take]at e
    have q:=h j i (by omega) hai (by rw[List.getElem?_eq_getElem (by omega),List.getElem?_eq_getElem hbi,e])
    rw[List.getElem?_eq_getElem (by omega),List.getElem?_eq_getElem hai]at q
    have q':a[j]=a[i]:=Option.some.inj q
    rw[← q',← e];have e1:(a.take i)[j]? = (b.take i)[j]?:=by rw[ih']
    rw[List.getElem?_take_of_lt hj',List.getElem?_take_of_lt hj',List.getElem?_eq_getElem (by omega),List.getElem?_eq_getElem (by omega)]at e1
    exact e1
   ·have hn:a[i]∉a.take i:=fun z=>by
     rw[if_pos z]at ea
     rw[if_neg hm]at eb
     omega
    rw[gE ha (List.getElem?_eq_getElem hai) hn,gE hb (List.getElem?_eq_getElem hbi) hm,ih']
 have:=key a.length (Nat.le_refl _)
 rw[List.take_length]at this
 rw[this,hl,List.take_length]
def dh(N:aV)(ps:List Nat):aV:=N.map fun y=>ps.map fun x=>y.getD x none
theorem aH{α : Type}{l:List α}{i:Nat}{d:α}(h:i<l.length):l.getD i d=l[i]:=by rw[List.getD_eq_getElem?_getD,List.getElem?_eq_getElem h]; rfl
theorem eR{R:aV}{u:Nat}(hu:u<R.length):(ai R).getD u 0<(merged R).length∧cY (ai R) (R.getD u [])=(merged R).getD ((ai R).getD u 0) []:=by
 have hl:(ai R).length=R.length:=bH R _
 have hcn:db (ai R):=ci R _
 have hk:(ai R).getD u 0=(ai R)[u]'(by omega):=aH (by omega)
 have hmem:(ai R).getD u 0∈ai R:=by rw[hk]; exact List.getElem_mem _
 generalize (ai R).getD u 0=k at hk hmem;have hall:=hcn R.length;rw[← hl,List.take_length]at hall
 have hml:(merged R).length=(aj [] (ai R)).length:=by
  unfold merged bU;rw[List.length_map,List.length_range,← hl,List.take_length]
 have hlt:k<(merged R).length:=by
  have:k∈aj [] (ai R):=(bt _ _ _).mpr (.inr hmem)
  rw[hall]at this
  rw[hml]; exact List.mem_range.mp this
 refine⟨hlt,?_⟩
 have hix:(ai R).idxOf k<R.length:=by rw[← hl]; exact List.idxOf_lt_length_iff.mpr hmem
 have hki:(ai R)[(ai R).idxOf k]'(by omega)=k:=List.getElem_idxOf (List.idxOf_lt_length_iff.mpr hmem)
 have e:(merged R).getD k []=cY (ai R) (R.getD ((ai R).idxOf k) []):=by
  rw[List.getD_eq_getElem?_getD];unfold merged bU;rw[List.getElem?_map,List.getElem?_range (by rw[← hl,List.take_length,← hml]; exact hlt)]; rfl
 rw[e]
 have q:(finer R (ai R))[u]? = (finer R (ai R))[(ai R).idxOf k]?:=by
  rw[jh,List.getElem?_eq_getElem (by omega),List.getElem?_eq_getElem (by omega),hki]
  exact congrArg some hk.symm
 exact congrArg (·.2) ((iI hu hix).mp q)
theorem nR{R:aV}{k:Nat}(h:k<(merged R).length):∃ u,u<R.length∧(ai R).getD u 0=k:=by
 have hl:(ai R).length=R.length:=bH R _
 have hcn:db (ai R):=ci R _
 have hall:=hcn R.length;rw[← hl,List.take_length]at hall
 have hml:(merged R).length=(aj [] (ai R)).length:=by
  unfold merged bU;rw[List.length_map,List.length_range,← hl,List.take_length]
 have hm:k∈aj [] (ai R):=by rw[hall]; exact List.mem_range.mpr (by omega)
 have hk:k∈ai R:=by
  rcases(bt _ _ _).mp hm with z | z
  ·cases z
  ·exact z
 obtain⟨u,hu,e⟩:=List.mem_iff_getElem.mp hk
 exact⟨u,by omega,by rw[aH hu]; exact e⟩
structure Rm (R:aV) (m:Nat):Prop where
 n0:1≤R.length
 row:∀ x∈R,x.length=m
 ins:dP R
theorem Rm.merged{R:aV}{m:Nat}(h:Rm R m):Rm (merged R) m:=⟨(gL h.n0 h.ins).2.1,mL h.row,(gL h.n0 h.ins).1⟩
theorem Rm.ordered{R:aV}{m:Nat}(h:Rm R m):Rm (aZ R) m:=⟨(eC h.ins h.n0 h.row).2.1,(eC h.ins h.n0 h.row).2.2.2,(eC h.ins h.n0 h.row).1⟩
theorem Rm.least{R:aV}{m:Nat}(h:Rm R m):Rm (af R) m:=h.merged.ordered
theorem jU{N:aV}{ps:List Nat}{i:Nat}(h:i<N.length):(dh N ps).getD i []=ps.map fun x=>(N.getD i []).getD x none:=by
 unfold dh;rw[aH (by simpa using h),List.getElem_map,aH h]
theorem cS(N:aV)(ps:List Nat):(dh N ps).length=N.length:=by simp[dh]
theorem zj{N:aV}{m:Nat}(h:Rm N m)(ps:List Nat)(hp:∀ x∈ps,x<m):Rm (dh N ps) ps.length:=by
 refine⟨by rw[cS]; exact h.n0,fun x hx=>?_,fun x hx k hk=>?_⟩
 ·obtain⟨y,hy,rfl⟩:=List.mem_map.mp hx
  simp
 ·obtain⟨y,hy,rfl⟩:=List.mem_map.mp hx
  obtain⟨p,hpm,e⟩:=List.mem_map.mp hk
  have hlt:p<y.length:=by rw[h.row y hy]; exact hp p hpm
  rw[aH hlt]at e
  rw[cS];exact h.ins y hy k (e ▸ List.getElem_mem hlt)
theorem jY{N:aV}{p i:Nat}(h:dF N p=false)(hi:i<N.length):(N.getD i []).getD p none=some i:=by
 unfold dF at h;rw[List.any_eq_false]at h
 have:=h i (List.mem_range.mpr hi)
 simpa using this
theorem leastN_len{R:aV}:(af R).length=(aD (merged R)).length:=by unfold af aZ; rw[List.length_map]
theorem mw{R:aV}{i:Nat}(h:i<(af R).length):(af R).getD i []=ff (aD (merged R)) ((merged R).getD ((aD (merged R))[i]'(by rw[← leastN_len]; exact h)) []):=by
 rw[List.getD_eq_getElem?_getD];show (((aD (merged R)).map fun r=>ff (aD (merged R)) ((merged R).getD r []))[i]?).getD []=_
 rw[List.getElem?_map,List.getElem?_eq_getElem (by rw[← leastN_len]; exact h)]; rfl
theorem ul{R:aV}{m:Nat}(h:Rm R m):∀ i j,i<(af R).length→j<(af R).length→(ai (dh (af R) (places (af R) m)))[i]? = (ai (dh (af R) (places (af R) m)))[j]?→i=j:=by
 have hM:=h.merged;have hN:=h.least;obtain⟨ond,olt,ole⟩:=eB hM.ins hM.n0
 have hplt:∀ x∈places (af R) m,x<m:=fun x hx=>List.mem_range.mp (List.mem_filter.mp hx).1
 have hF:=zj hN (places (af R) m) hplt;generalize hFd:dh (af R) (places (af R) m)=F at hF ⊢;have hFl:F.length=(af R).length:=by rw[← hFd,cS]
 have hkl:(ai F).length=F.length:=bH F _
 let o:=aD (merged R)
 let K:=ai R
 have hol:o.length=(af R).length:=leastN_len.symm
 -- a word's way from two least rooms of one kind
 have way:∀ i j,i<(af R).length→j<(af R).length→(ai F)[i]? = (ai F)[j]?→∀ p,p<m→
   (((af R).getD i []).getD p none=none∧((af R).getD j []).getD p none=none)∨∃ x y,((af R).getD i []).getD p none=some x∧((af R).getD j []).getD p none=some y∧x<(af R).length∧y<(af R).length∧(ai F)[x]? = (ai F)[y]?:=by
  intro i j hi hj e p hp
  by_cases hd:dF (af R) p=true
  ·have hpm:p∈places (af R) m:=List.mem_filter.mpr ⟨List.mem_range.mpr hp,hd⟩
   obtain⟨q,hq,eq⟩:=List.mem_iff_getElem.mp hpm
   have mk:mark F (ai F) i=mark F (ai F) j:=(iI (by omega) (by omega)).mp (by rw[jh]; exact e)
   have rows:(F.getD i []).map (Option.map fun k=>(ai F).getD k 0)=(F.getD j []).map (Option.map fun k=>(ai F).getD k 0):=congrArg (·.2) mk
   have at':∀ i,i<(af R).length→((F.getD i []).map (Option.map fun k=>(ai F).getD k 0))[q]? = some ((((af R).getD i []).getD p none).map fun k=>(ai F).getD k 0):=fun i hi=>by
    rw[← hFd,jU hi,List.getElem?_map,List.getElem?_map,List.getElem?_eq_getElem hq,eq]; rfl
   have r1:=at' i hi;have r2:=at' j hj;rw[rows,r2]at r1
   have r3:=Option.some.inj r1
   have mem:∀ i,i<(af R).length→∀ x,((af R).getD i []).getD p none=some x→x<(af R).length:=fun i hi x hx=>by
    rw[aH hi]at hx
    have hlt:p<((af R)[i]).length:=by rw[hN.row _ (List.getElem_mem hi)]; exact hp
    rw[aH hlt]at hx
    exact hN.ins _ (List.getElem_mem hi) x (hx ▸ List.getElem_mem hlt)
   cases e1:((af R).getD i []).getD p none with
   | none=>
    cases e2:((af R).getD j []).getD p none with
    | none=>exact .inl ⟨rfl,rfl⟩
    | some y=>rw[e1,e2]at r3; cases r3
   | some x=>
    cases e2:((af R).getD j []).getD p none with
    | none=>rw[e1,e2]at r3; cases r3
    | some y=>
     rw[e1,e2]at r3
     have hx:=mem i hi x e1;have hy:=mem j hj y e2;have r4:(ai F).getD y 0=(ai F).getD x 0:=Option.some.inj r3
     refine .inr ⟨x,y,rfl,rfl,hx,hy,?_⟩
     rw[aH (by omega),aH (by omega)]at r4
     rw[List.getElem?_eq_getElem (by omega),List.getElem?_eq_getElem (by omega),r4]
  ·have hd':dF (af R) p=false:=by simpa using hd
   exact .inr ⟨i,j,jY hd' hi,jY hd' hj,hi,hj,e⟩
 let E:Nat→Nat→Prop:=fun u v=>K.getD u 0=K.getD v 0∨∃ i j,i<(af R).length∧j<(af R).length∧o[i]? = some (K.getD u 0)∧o[j]? = some (K.getD v 0)∧(ai F)[i]? = (ai F)[j]?
 have bis:∀ u v,E u v→u<R.length→v<R.length→∀ p:Nat,((R.getD u [])[p]? = none∧(R.getD v [])[p]? = none)∨((R.getD u [])[p]? = some none∧(R.getD v [])[p]? = some none)∨
   ∃ x y,(R.getD u [])[p]? = some (some x)∧(R.getD v [])[p]? = some (some y)∧E x y∧x<R.length∧y<R.length:=by
  intro u v he hu hv p
  have ru:=h.row _ (List.getElem_mem hu);have rv:=h.row _ (List.getElem_mem hv);have gu:R.getD u []=R[u]:=aH hu
  have gv:R.getD v []=R[v]:=aH hv
  rcases Nat.lt_or_ge p m with hp | hp
  ·have ins:∀ u (hu:u<R.length) x,(R[u])[p]? = some (some x)→x<R.length:=fun u hu x hx=>h.ins _ (List.getElem_mem hu) x (List.mem_of_getElem? hx)
   obtain⟨_,wu⟩:=eR hu
   obtain⟨_,wv⟩:=eR hv
   rw[gu]at wu ⊢
   rw[gv]at wv ⊢
   obtain⟨a,ha⟩ : ∃ a,(R[u])[p]? = some a:=⟨(R[u])[p]'(by omega),List.getElem?_eq_getElem (by omega)⟩
   obtain⟨b,hb⟩ : ∃ b,(R[v])[p]? = some b:=⟨(R[v])[p]'(by omega),List.getElem?_eq_getElem (by omega)⟩
   have wua:(cY K R[u])[p]? = some (a.map fun k=>K.getD k 0):=by unfold cY; rw[List.getElem?_map,ha]; rfl
   have wvb:(cY K R[v])[p]? = some (b.map fun k=>K.getD k 0):=by unfold cY; rw[List.getElem?_map,hb]; rfl
   rw[ha,hb];rcases he with he | ⟨i,j,hi,hj,oi,oj,eij⟩
   ·have q:(cY K R[u])[p]? = (cY K R[v])[p]?:=by
     show (cY (ai R) R[u])[p]? = (cY (ai R) R[v])[p]?
     rw[wu,wv];have he':(ai R).getD u 0=(ai R).getD v 0:=he
     rw[he']
    rw[wua,wvb]at q
    have q':=Option.some.inj q
    cases a with
    | none=>cases b with
     | none=>exact .inr (.inl ⟨rfl,rfl⟩)
     | some y=>cases q'
    | some x=>cases b with
     | none=>cases q'
     | some y=>exact .inr (.inr ⟨x,y,rfl,rfl,.inl (Option.some.inj q'),ins u hu x ha,ins v hv y hb⟩)
   ·have row:∀ i (hi:i<(af R).length) u (hu:u<R.length),o[i]? = some (K.getD u 0)→∀ a:Option Nat,(cY K R[u])[p]? = some (a.map fun k=>K.getD k 0)→((af R).getD i []).getD p none=(a.map fun k=>K.getD k 0).map (fun k=>o.idxOf k):=fun i hi u hu oi a wa=>by
     have hio:i<o.length:=by omega
     rw[mw hi]
     have e1:(aD (merged R))[i]'hio=K.getD u 0:=by
      have:=oi
      rw[List.getElem?_eq_getElem hio]at this
      exact Option.some.inj this
     rw[e1];obtain⟨_,wu⟩:=eR hu
     rw[aH hu]at wu
     rw[← wu];unfold ff;rw[List.getD_eq_getElem?_getD,List.getElem?_map];have wa':(cY (ai R) R[u])[p]? = some (a.map fun k=>K.getD k 0):=wa
     rw[wa']; rfl
    have na:=row i hi u hu oi a wua;have nb:=row j hj v hv oj b wvb
    have inO:∀ i (hi:i<(af R).length) u (hu:u<R.length),o[i]? = some (K.getD u 0)→∀ x,(R[u])[p]? = some (some x)→K.getD x 0∈o:=fun i hi u hu oi x hx=>by
     refine dM hM.ins hM.n0 (List.mem_of_getElem? oi) ?_
     obtain⟨_,wu⟩:=eR hu
     rw[aH hu]at wu
     show some (K.getD x 0)∈(merged R).getD ((ai R).getD u 0) []
     rw[← wu];refine List.mem_map.mpr ⟨some x,List.mem_of_getElem? hx,rfl⟩
    rcases way i j hi hj eij p hp with ⟨w1,w2⟩ | ⟨x',y',w1,w2,hx',hy',exy⟩
    ·cases a with
     | none=>cases b with
      | none=>exact .inr (.inl ⟨rfl,rfl⟩)
      | some y=>rw[w2]at nb; cases nb
     | some x=>rw[w1]at na; cases na
    ·cases a with
     | none=>rw[w1]at na; cases na
     | some x=>cases b with
      | none=>rw[w2]at nb; cases nb
      | some y=>
       rw[w1]at na
       rw[w2]at nb
       have na':x'=o.idxOf (K.getD x 0):=Option.some.inj na
       have nb':y'=o.idxOf (K.getD y 0):=Option.some.inj nb
       have mx:=inO i hi u hu oi x ha;have my:=inO j hj v hv oj y hb;refine .inr (.inr ⟨x,y,rfl,rfl,.inr ⟨x',y',hx',hy',?_,?_,exy⟩,ins u hu x ha,ins v hv y hb⟩)
       ·rw[na',List.getElem?_eq_getElem (List.idxOf_lt_length_iff.mpr mx),List.getElem_idxOf]
       ·rw[nb',List.getElem?_eq_getElem (List.idxOf_lt_length_iff.mpr my),List.getElem_idxOf]
  ·exact .inl ⟨by rw[gu]; exact List.getElem?_eq_none (by omega),by rw[gv]; exact List.getElem?_eq_none (by omega)⟩
 intro i j hi hj e
 have hio:i<o.length:=by omega
 have hjo:j<o.length:=by omega
 obtain⟨u,hu,eu⟩:=nR (olt _ (List.getElem_mem hio))
 obtain⟨v,hv,ev⟩:=nR (olt _ (List.getElem_mem hjo))
 have q:=jE E bis (R.length * R.length) u v (.inr ⟨i,j,hi,hj,by rw[List.getElem?_eq_getElem hio]; exact congrArg some eu.symm,by rw[List.getElem?_eq_getElem hjo]; exact congrArg some ev.symm,e⟩) hu hv
 have hkR:(ai R).length=R.length:=bH R _
 have q':(ai R)[u]? = (ai R)[v]?:=q
 have q2:(ai R).getD u 0=(ai R).getD v 0:=by rw[List.getD_eq_getElem?_getD,List.getD_eq_getElem?_getD,q']
 rw[eu,ev]at q2
 exact(List.getElem_inj ond).mp q2
theorem gW(f:Nat→Nat):∀ (x:List (Option Nat)) (o:List Nat),(∀ a,(a∈o∨some a∈x)→∀ b,(b∈o∨some b∈x)→f a=f b→a=b)→aM (o.map f) (x.map (Option.map f))=(aM o x).map f
 | [],o,_=>rfl
 | none::x,o,h=>gW f x o fun a ha b hb=>h a (by rcases ha with z | z <;> simp[z]) b (by rcases hb with z | z <;> simp[z])
 | some k::x,o,h=>by
  show aM (if f k∈o.map f then o.map f else o.map f++[f k]) (x.map (Option.map f))=(aM (if k∈o then o else o++[k]) x).map f
  by_cases hm:k∈o
  ·rw[if_pos hm,if_pos (List.mem_map.mpr ⟨k,hm,rfl⟩)]
   exact gW f x o fun a ha b hb=>h a (by rcases ha with z | z <;> simp[z]) b (by rcases hb with z | z <;> simp[z])
  ·have hn:f k∉o.map f:=fun z=>by
    obtain⟨a,ha,e⟩:=List.mem_map.mp z
    have:=h a (.inl ha) k (.inr (by simp)) e
    exact hm (this ▸ ha)
   rw[if_neg hm,if_neg hn]
   have conv:∀ a,(a∈o++[k]∨some a∈x)→(a∈o∨some a∈some k::x):=fun a ha=>by
    rcases ha with z | z
    ·rcases List.mem_append.mp z with z | z
     ·exact .inl z
     ·rw[List.mem_singleton.mp z]; exact .inr List.mem_cons_self
    ·exact .inr (List.mem_cons_of_mem _ z)
   have ih:=gW f x (o++[k]) fun a ha b hb=>h a (conv a ha) b (conv b hb)
   rw[List.map_append]at ih
   exact ih
theorem lh(P:Nat→Bool)(f:Nat→Option Nat)(t:Nat):∀ (l o:List Nat),t∈o→(∀ p∈l,P p=false→f p=some t)→aM o ((l.filter P).map f)=aM o (l.map f)
 | [],_,_,_=>rfl
 | p::l,o,ht,h=>by
  have ih:=fun o ht=>lh P f t l o ht fun q hq=>h q (List.mem_cons_of_mem _ hq)
  cases hp:P p with
  | true=>
   rw[List.filter_cons_of_pos hp,List.map_cons,List.map_cons]
   cases hf:f p with
   | none=>exact ih o ht
   | some k=>
    show aM (if k∈o then o else o++[k]) _=aM (if k∈o then o else o++[k]) _
    by_cases hk:k∈o
    ·rw[if_pos hk]; exact ih o ht
    ·rw[if_neg hk]; exact ih _ (List.mem_append_left _ ht)
  | false=>
   rw[List.filter_cons_of_neg (by simp[hp]),List.map_cons,h p List.mem_cons_self hp]
   show _=aM (if t∈o then o else o++[t]) _
   rw[if_pos ht]; exact ih o ht
theorem mr{M:aV}(t:Nat):∀ s,∃ u,aG M (t+s)=aG M t++u
 | 0=>⟨[],by simp⟩
 | s+1=>by
  obtain⟨u,hu⟩:=mr t s
  obtain⟨v,hv⟩:=kJ (M:=M) (t+s)
  exact⟨u++v,by rw[show t+(s+1)=t+s+1 by omega,hv,hu,List.append_assoc]⟩
theorem nu{M:aV}(hi:dP M)(h0:1≤M.length)(t:Nat):∃ u,aD M=aG M t++u:=by
 rcases Nat.lt_or_ge t M.length with h | h
 ·obtain⟨u,hu⟩:=mr (M:=M) t (M.length - t)
  rw[show t+(M.length - t)=M.length by omega]at hu
  exact⟨u,hu⟩
 ·have hl:=kS hi h0 M.length
  have:=nc (M:=M) (t:=M.length) hl (t - M.length)
  rw[show M.length+(t - M.length)=t by omega]at this
  exact⟨[],by rw[this]; unfold aD; simp⟩
theorem qY{l a b:List Nat}(nd:l.Nodup)(h:l=a++b):a.map (fun x=>l.idxOf x)=List.range a.length:=by
 have:=me nd a.length (by rw[h,List.length_append]; omega)
 have e:l.take a.length=a:=by rw[h,List.take_left]
 rwa [e]at this
theorem lf{M:aV}{m:Nat}(h:Rm M m):∀ t,aG (aZ M) t=List.range (aG M t).length:=by
 obtain⟨ond,olt,ole⟩:=eB h.ins h.n0
 have main:∀ t,aG (aZ M) t=(aG M t).map fun x=>(aD M).idxOf x:=by
  intro t
  induction t with
  | zero=>
   show [0]=[(aD M).idxOf 0]
   have h0:=jV M M.length;obtain⟨hl,e⟩:=List.getElem?_eq_some_iff.mp h0
   have:=ond.idxOf_getElem 0 hl
   have e':(aD M)[0]'hl=0:=e
   rw[e']at this
   rw[this]
  | succ t ih=>
   obtain⟨u,hu⟩:=nu h.ins h.n0 t
   show (match (aG (aZ M) t)[t]? with | some r=>aM (aG (aZ M) t) ((aZ M).getD r []) | none=>aG (aZ M) t)=List.map _ (match (aG M t)[t]? with | some r=>aM (aG M t) (M.getD r []) | none=>aG M t)
   rw[ih,List.getElem?_map]
   cases e:(aG M t)[t]? with
   | none=>rfl
   | some r=>
    show aM _ ((aZ M).getD ((aD M).idxOf r) [])=_
    have hro:r∈aD M:=by rw[hu]; exact List.mem_append_left _ (List.mem_of_getElem? e)
    have hlt:=List.idxOf_lt_length_iff.mpr hro
    have hrow:(aZ M).getD ((aD M).idxOf r) []=ff (aD M) (M.getD r []):=by
     unfold aZ;rw[List.getD_eq_getElem?_getD,List.getElem?_map,List.getElem?_eq_getElem hlt,List.getElem_idxOf]; rfl
    rw[hrow];unfold ff;refine gW _ _ _ fun a ha b hb e2=>?_
    have mem:∀ a,(a∈aG M t∨some a∈M.getD r [])→a∈aD M:=fun a ha=>by
     rcases ha with z | z
     ·rw[hu]; exact List.mem_append_left _ z
     ·exact dM h.ins h.n0 hro z
    have h1:=List.getElem_idxOf (List.idxOf_lt_length_iff.mpr (mem a ha));have h2:=List.getElem_idxOf (List.idxOf_lt_length_iff.mpr (mem b hb));rw[← h1,← h2]; congr 1
 intro t
 obtain⟨u,hu⟩:=nu h.ins h.n0 t
 rw[main,qY ond hu]
theorem vG{x:List (Option Nat)}{m:Nat}(h:x.length=m):(List.range m).map (fun p=>x.getD p none)=x:=by
 refine List.ext_getElem (by simp[h]) fun i h1 h2=>?_
 rw[List.getElem_map,List.getElem_range,aH h2]
theorem nZ{R:aV}{m:Nat}(h:Rm R m):∀ t,aG (dh (af R) (places (af R) m)) t=List.range (aG (merged R) t).length:=by
 have hN:=h.least;have hb:=lf h.merged;intro t
 have:aG (dh (af R) (places (af R) m)) t=aG (af R) t:=by
  induction t with
  | zero=>rfl
  | succ t ih=>
   show (match (aG (dh (af R) (places (af R) m)) t)[t]? with | some r=>aM (aG (dh (af R) (places (af R) m)) t) ((dh (af R) (places (af R) m)).getD r []) | none=>aG (dh (af R) (places (af R) m)) t)=(match (aG (af R) t)[t]? with | some r=>aM (aG (af R) t) ((af R).getD r []) | none=>aG (af R) t)
   rw[ih]
   cases e:(aG (af R) t)[t]? with
   | none=>rfl
   | some r=>
    have hr:r<(af R).length:=(dv hN.ins hN.n0 t).2 r (List.mem_of_getElem? e)
    show aM _ ((dh (af R) (places (af R) m)).getD r [])=aM _ ((af R).getD r [])
    rw[jU hr];have e2:=lh (dF (af R)) (fun p=>((af R).getD r []).getD p none) r (List.range m) (aG (af R) t) (List.mem_of_getElem? e) fun p _ hp=>jY hp hr
    have e3:(List.range m).map (fun p=>((af R).getD r []).getD p none)=(af R).getD r []:=vG (by rw[aH hr]; exact hN.row _ (List.getElem_mem hr))
    rw[e3]at e2
    exact e2
 rw[this];exact hb t
theorem j3{R:aV}{m:Nat}(h:Rm R m){t:Nat}(ht:t<(af R).length):t<(aG (merged R) t).length:=by
 have hM:=h.merged;refine Classical.byContradiction fun hn=>?_
 have hl:(af R).length=(aD (merged R)).length:=leastN_len
 obtain⟨ond,olt,ole⟩:=eB hM.ins hM.n0
 have:=ka (M:=merged R) (t:=t) (by omega) (by omega)
 rw[this]at hn
 omega
theorem qI{R:aV}{m:Nat}(h:Rm R m):ai (dh (af R) (places (af R) m))=List.range (af R).length:=by
 have hkl:(ai (dh (af R) (places (af R) m))).length=(af R).length:=by
  rw[show ai (dh (af R) (places (af R) m))=iter _ _ from rfl,bH,cS]
 have:=uf (l:=ai (dh (af R) (places (af R) m))) (ci _ _) fun i j hi hj e=>ul h i j (by omega) (by omega) e
 rw[hkl]at this
 exact this
theorem qB(n:Nat):aj [] (List.range n)=List.range n:=by
 induction n with
 | zero=>rfl
 | succ n ih=>rw[List.range_succ,ce,ih,if_neg (by simp)]
abbrev nV (k:Nat):V:=.int (k:Int)
structure d9 (R:aV) (m:Nat):Prop where
 n0:1≤R.length
 n1:R.length≤60
 m1:m≤16
 row:∀ x∈R,x.length=m
 ins:dP R
def NumAt(H:Hp)(p:Addr)(k v:Nat):Prop:=(∃ ks:List Nat,H p=some (.lst (ks.map nV))∧ks[k]? = some v)∨∃ kvs,H p=some (.dK kvs)∧aI kvs (.inl (k:Int))=some (nV v)
theorem NumAt.mono{H H':Hp}{p:Addr}{k v:Nat}(h:NumAt H p k v)(sm:Same H H'):NumAt H' p k v:=by
 rcases h with ⟨ks,h1,h2⟩ | ⟨kvs,h1,h2⟩
 ·exact .inl ⟨ks,sm _ _ h1,h2⟩
 ·exact .inr ⟨kvs,sm _ _ h1,h2⟩
def oM:Sp:=fun vs H Q _=>∃ (p b:Addr) (x:List (Option Nat)) (f:Nat→Nat),vs=[.ref p,.ref b]∧H b=some (.lst (x.map ap))∧x.length≤1000∧(∀ k,some k∈x→NumAt H p k (f k))∧
 ∀ (L:Addr) (H':Hp),Same H H'→H L=none→H' L=some (.lst ((x.map (Option.map f)).map ap))→Q (.ref L) H'
def si:Sp:=fun vs H Q _=>∃ (p q:Addr) (R:aV) (m:Nat) (as:List Addr) (ks:List Nat),vs=[.ref p,.ref q]∧RoomsAs H p R as∧d9 R m∧H q=some (.lst (ks.map nV))∧ks.length=R.length∧
 ∀ (L:Addr) (H':Hp),Same H H'→H L=none→H' L=some (.lst ((finer R ks).map nV))→Q (.ref L) H'
def sq:Sp:=fun vs H Q _=>∃ (p:Addr) (R:aV) (m:Nat) (as:List Addr) (mo:Nat),vs=[.ref p,nV mo]∧R.length≤mo∧RoomsAs H p R as∧d9 R m∧
 ∀ (L:Addr) (H':Hp),Same H H'→H L=none→H' L=some (.lst ((ai R).map nV))→Q (.ref L) H'
section
variable{P:Program}{w:World}{K:PySem.W.Frag}{mg:Str→Option Value}{base:Heap}
theorem tI(D:DefAt K mg "ways_by" b_):Cal P w K mg base 1 "ways_by" ["numbers", "ways"] oM:=by
 refine D.cal sJ (fun _ _ _ _ _ _ us hl=>match us,hl with | [_,_],_=>rfl) (fun vs H Q E h=>by obtain⟨p,b,x,f,rfl,_⟩:=h; rfl) (fun f cdv A outer s H vs Q E hr h=>?_)
 obtain⟨p,b,x,f,rfl,hb,hx,hn,q⟩:=h
 refine⟨_,(am (aW (cW (CompSc.to (fsc:=(defScope b_)) (N:=["numbers", "ways"]) (N0:=["numbers", "ways"]) (T:=["way"]) ⟨by decide +kernel,by decide +kernel,by decide +kernel,by decide +kernel,by decide +kernel,by decide +kernel,by decide +kernel⟩ rfl rfl) rfl (bT K (pv 1)) (fun _ _ _ _=>(bf 2 (show (["numbers", "ways", "way"]:List Str).Nodup from by decide +kernel) (hx:=(eh (defScope b_) (by decide +kernel))) (hf:=gP (defScope b_) (by decide +kernel)))) (bZ (show (["numbers", "ways"]:List Str).length≤2 from by decide)) (fun _ _ _ _=>cv) (fun _ _ _ _=>(lO (aX dY (pv 2 (hv:=(bX (defScope b_) (by decide +kernel)))) b5 (bd _)) b5 (aw (A8 K) (pv 0 (hv:=(bX (defScope b_) (by decide +kernel)))) (pv 2 (hv:=(bX (defScope b_) (by decide +kernel)))) (fun _ _=>rfl))))))),?_⟩
 walk_at "rd1";refine⟨⟨_,SqL.of hb⟩,fun L hL=>?_⟩
 refine cL (xs:=x.map ap) (fun i ys H'=>Same H H'∧H' L=some (.lst ys)∧ys=((x.take i).map (Option.map f)).map ap) ⟨ak hL _,ae,rfl⟩ (fun i ys H' _ h=>SqL.of (h.1 _ _ hb)) ?_ ?_
 ·rintro i ys H' v hv hi ⟨sm,hl,rfl⟩
  rw[List.length_map]at hi
  rw[List.getElem?_map,List.getElem?_eq_getElem hi]at hv
  cases hv;have hz:(((x.take i).map (Option.map f)).map ap).length=i:=by simp; omega
  have fin:∀ z,z=ap ((x[i]).map f)→fc (x.map ap).length i (fun i ys H'=>Same H H'∧H' L=some (.lst ys)∧ys=((x.take i).map (Option.map f)).map ap) L (((x.take i).map (Option.map f)).map ap) z H':=fun z e=>by
   subst e;refine dX (by rw[List.length_map]; exact hi) hz (by rw[List.length_map]; exact b7 (by omega)) hl ⟨sm.upd hL _,ae,?_⟩
   rw[List.take_add_one,List.getElem?_eq_getElem hi,List.map_append,List.map_append]; rfl
  have hm:=List.getElem_mem hi
  cases hxi:x[i] with
  | none=>
   rw[hxi]at fin
   walk_at "rd1";refine bn (fun c=>?_) (fun c=>?_)
   ·exact fin _ rfl
   ·exact absurd rfl c
  | some k=>
   rw[hxi]at fin hm
   walk_at "rd1";refine bn (fun c=>?_) (fun c=>?_)
   ·cases c
   ·rcases(hn k hm).mono sm with ⟨ks,h1,h2⟩ | ⟨kvs,h1,h2⟩
    ·exact .inl ⟨_,_,.inl (SqL.of h1),aL (by rw[List.getElem?_map,h2]; rfl),fin _ rfl⟩
    ·exact .inr ⟨p,kvs,.inl (k:Int),_,rfl,rfl,h1,h2,fin _ rfl⟩
 ·rintro ys H' ⟨sm,hl,rfl⟩
  rw[List.length_map,List.take_length]at hl
  exact q L H' sm hL hl
def dQ(m:Nat × List (Option Nat)):dw:=((m.1:Int),m.2.map (Option.map fun n:Nat=>(n:Int)))
theorem wN{m m':Nat × List (Option Nat)}(h:dQ m=dQ m'):m=m':=by
 obtain⟨a,b⟩:=m
 obtain⟨c,d⟩:=m'
 unfold dQ at h;have h1:(a:Int)=(c:Int):=congrArg (·.1) h
 have h2:b.map (Option.map fun n:Nat=>(n:Int))=d.map (Option.map fun n:Nat=>(n:Int)):=congrArg (·.2) h
 have h3:b=d:=by
  refine List.map_inj_right (f:=Option.map fun n:Nat=>(n:Int)) (fun x y e=>?_) |>.mp h2
  cases x <;> cases y <;> simp_all
  omega
 rw[h3,show a=c by omega]
def di(k:Nat):List (Nat × List (Option Nat))→List (dw × V)
 | []=>[]
 | m::ms=>(dQ m,nV k)::di (k+1) ms
theorem jK:∀ (F:List (Nat × List (Option Nat))) (k:Nat),(di k F).length=F.length
 | [],k=>rfl
 | m::F,k=>by show (di (k+1) F).length+1=_; rw[jK F]; rfl
theorem ll:∀ (F:List (Nat × List (Option Nat))) (k:Nat) (m:Nat × List (Option Nat)),di k (F++[m])=di k F++[(dQ m,nV (k+F.length))]
 | [],k,m=>rfl
 | x::F,k,m=>by
  show (dQ x,nV k)::di (k+1) (F++[m])=_
  rw[ll F,List.length_cons,show k+1+F.length=k+(F.length+1) by omega]; rfl
theorem gU:∀ (F:List (Nat × List (Option Nat))) (k:Nat) (m:Nat × List (Option Nat)),aI (di k F) (dQ m)=if m∈F then some (nV (k+fv m F)) else none
 | [],k,m=>rfl
 | x::F,k,m=>by
  by_cases h:x=m
  ·subst h
   rw[if_pos List.mem_cons_self,pj];show aI ((dQ x,nV k)::di (k+1) F) (dQ x)=_
   simp[aI]
  ·have hn:¬ dQ x=dQ m:=fun z=>h (wN z)
   have e:aI (di k (x::F)) (dQ m)=aI (di (k+1) F) (dQ m):=by
    show aI ((dQ x,nV k)::di (k+1) F) (dQ m)=_
    simp[aI,hn]
   rw[e,gU F]
   by_cases hm:m∈F
   ·rw[if_pos hm,if_pos (List.mem_cons_of_mem _ hm),n_ h,show k+1+fv m F=k+(fv m F+1) by omega]
   ·rw[if_neg hm,if_neg (by simp[Ne.symm h,hm])]
theorem zC(x:List (Option Nat)):x.map ap=(x.map (Option.map fun n:Nat=>(n:Int))).map cE:=by
 rw[List.map_map];refine List.map_congr_left fun o _=>?_
 cases o <;> rfl
theorem DN.updL{H:Hp}{a fp:Addr}{kvs:List (dw × V)}{xs:List V}{o:HO}(h:DN P w H a kvs)(hf:H fp=some (.lst xs)):DN P w (upd H fp o) a kvs:=by
 obtain⟨ys,h1,h2,h3,h4⟩:=h
 have ht:∀ c zs,H c=some (.tup zs)→upd H fp o c=some (.tup zs):=fun c zs e=>by rw[al (gB e hf (fun z=>nomatch z))]; exact e
 exact⟨ys,by rw[al (gB h1 hf (fun z=>nomatch z))]; exact h1,h2,h3,Paired.imp' (fun p q z=>⟨z.1,z.2.1.mono ht,z.2.2⟩) h4⟩
theorem DN.keyUpd{H:Hp}{a b:Addr}{k:dw}{kvs:List (dw × V)}{u:HO}(h:DN P w H a kvs)(hk:KeyAt H k b):KeyAt (upd H a u) k b:=by
 obtain⟨ys,h1,_⟩:=h
 exact hk.mono fun c zs e=>by rw[al (gB e h1 (fun z=>nomatch z))]; exact e
theorem xV(D:DefAt K mg "finer_kinds" aQ) (z_enumerate:mg "enumerate" = none) (z_tuple:mg "tuple" = none) (z_len:mg "len" = none) (c_ways_by:Cal P w K mg base 1 "ways_by" ["numbers", "ways"] oM) :
  Cal P w K mg base 2 "finer_kinds" ["rooms", "kinds"] si:=by
 refine D.cal sc_finer_kinds (fun _ _ _ _ _ _ us hl=>match us,hl with | [_,_],_=>rfl) (fun vs H Q E h=>by obtain⟨p,q,R,m,as,ks,rfl,_⟩:=h; rfl) (fun f cdv A outer s H vs Q E hr h=>?_)
 obtain⟨p,q,R,m,as,ks,rfl,hR,ok,hq,hlk,qq⟩:=h
 obtain⟨h1,h2,h3⟩:=hR
 have n1:=ok.n1
 refine⟨_,(ac (az 2 sc_finer_kinds.nd pI)
   (ac (az 3 sc_finer_kinds.nd (cD ab))
   (ac (cN PassesOwn.never rfl (fS K Gh z_enumerate (aa (pv 0) ab)) (ga K (n:=2) (cw (bf 4 sc_finer_kinds.nd) (cw (bf 5 sc_finer_kinds.nd) fX))) (ac (az 6 sc_finer_kinds.nd (cT (aa (aw (aN K) (pv 1) (pv 4) (fun _ _=>rfl)) (aa (cX (nF K) z_tuple lM (aa (aU c_ways_by hr (aa (pv 1) (aa (pv 5) ab))) ab)) ab))))
   (ac (bY (aX (nr hr) (pv 6) (pv 2) (by with_unfolding_all rfl)) (am (dz (bp i0 z_len b8 (aa (pv 2) ab)) (dH (pv 2) (pv 6) (yz hr)))) bw)
   (am (cV (dq K PySem.F.plainAttrs_list PySem.F.slot_list_append PySem.F.type_list_append cg (pv 3) (aa (aw (Bv hr) (pv 2) (pv 6) (fun _ _=>rfl)) ab)))))))
   (am (aW (pv 3)))))),?_⟩
 walk_at "rd1";refine fun sp hsp u hdn=>?_
 generalize hH1:upd H sp u=H1 at hdn ⊢;have sm1:=cJ hH1 hsp;walk_at "nx";refine⟨by decide,fun fp hfp=>?_⟩
 have hdn2:=hdn.mono (ak hfp (.lst []));generalize hH2:upd H1 fp _=H2 at hdn2 ⊢;have sm2:=cJ hH2 hfp;have e2:=dG hH2;have hsp2:∃ o,H2 sp=some o:=by obtain⟨ys,z,_⟩:=hdn2; exact⟨_,z⟩
 walk_at "nx";refine⟨⟨_,(sm1.trans sm2) _ _ h1⟩,?_⟩
 refine gG (xs:=as.map V.ref) (fun i σ H'=>∃ o4 o5 o6:Option V,σ=[some (.ref p),some (.ref q),some (.ref sp),some (.ref fp),o4,o5,o6]∧Same H H'∧DN P w H' sp (di 0 (aj [] ((bJ R ks).take i)))∧H' fp=some (.lst (((finer R ks).take i).map nV)))
  ⟨none,none,none,rfl,sm1.trans sm2,hdn2,e2⟩ (fun i σ H' _ h=>by obtain⟨_,_,_,_,sm,_⟩:=h; exact SqL.of (sm _ _ h1)) ?_ ?_
 ·rintro i v t σ H' hv ⟨o4,o5,o6,rfl,sm,hdn,hf⟩ ht
  have hia:i<as.length:=by have:=(List.getElem?_eq_some_iff.mp hv).1; simpa using this
  have hi:i<R.length:=by omega
  rw[List.getElem?_map,List.getElem?_eq_getElem hia]at hv
  cases hv;have hrow:=h3 i _ _ (List.getElem?_eq_getElem hia) (List.getElem?_eq_getElem hi);have hkd:ks[i]? = some (ks.getD i 0):=by rw[List.getD_eq_getElem?_getD,List.getElem?_eq_getElem (by omega)]; rfl
  have hms:(bJ R ks)[i]? = some (mark R ks i):=fR hi
  have hdt:=hdn.mono (ak ht (.tup [nV i,.ref as[i]]));have ett:upd H' t (.tup [nV i,.ref as[i]]) t=some (.tup [nV i,.ref as[i]]):=ae
  have smt:=sm.trans (ak ht (.tup [nV i,.ref as[i]]));have hft:=(ak ht (.tup [nV i,.ref as[i]])) _ _ hf;generalize upd H' t (.tup [nV i,.ref as[i]])=Ht at hdt ett smt hft ⊢;walk_at "rd1";refine⟨t,_,rfl,SqT.of ett,rfl,?_⟩
  walk_at "rd1";refine⟨_,_,.inl (SqL.of (smt _ _ hq)),aL (by rw[List.getElem?_map,hkd]; rfl),?_⟩
  refine⟨q,as[i],R[i],fun k=>ks.getD k 0,rfl,smt _ _ hrow,by rw[ok.row _ (List.getElem_mem hi)]; have:=ok.m1; omega,fun k hk=>.inl ⟨ks,smt _ _ hq,?_⟩,fun L H3 sm3 hL hl3=>?_⟩
  ·have:=ok.ins _ (List.getElem_mem hi) k hk
   show ks[k]? = some (ks.getD k 0)
   rw[List.getD_eq_getElem?_getD,List.getElem?_eq_getElem (by omega)]; rfl
  walk_at "rd1";refine⟨_,.inl ⟨SqL.of hl3,fun tp htp=>?_⟩⟩
  generalize hH4:upd H3 tp _=H4
  have sm4:=cJ hH4 htp;have e4:=dG hH4;refine⟨by decide,fun mp hmp=>?_⟩
  generalize hH5:upd H4 mp _=H5
  have sm5:=cJ hH5 hmp;have e5:=dG hH5;have smx:Same Ht H5:=(sm3.trans sm4).trans sm5
  have hke:KeyAt H5 (dQ (mark R ks i)) mp:=by
   refine⟨tp,e5,?_⟩
   have e6:=sm5 _ _ e4;rw[e6,zC];show some (HO.tup _)=some (HO.tup (((R.getD i []).map (Option.map fun k=>ks.getD k 0)).map (Option.map fun n:Nat=>(n:Int)) |>.map cE))
   rw[List.getD_eq_getElem?_getD,List.getElem?_eq_getElem hi]; rfl
  have hd5:=hdt.mono smx;have hf5:=smx _ _ hft;have sm05:=smt.trans smx;have hspn:H fp=none:=sm1.free hfp
  have htk:(bJ R ks).take (i+1)=(bJ R ks).take i++[mark R ks i]:=by rw[List.take_add_one,hms]; rfl
  have hFl:(aj [] ((bJ R ks).take i)).length≤60:=by
   have:=c_ ((bJ R ks).take i) []
   rw[List.length_take,iX]at this
   simp at this; omega
  refine l_ (fun σ' H'=>∃ (b:V),σ'=[some (.ref p),some (.ref q),some (.ref sp),some (.ref fp),some (nV i),some (.ref as[i]),some (.ref mp)]∧Same H H'∧KeyAt H' (dQ (mark R ks i)) mp∧DN P w H' sp (di 0 (aj [] ((bJ R ks).take (i+1))))∧H' fp=some (.lst (((finer R ks).take i).map nV))) (fun kk hkk=>?_) ?_
  ·walk_at "rd1"
   refine⟨mp,sp,_,_,rfl,rfl,hd5,hke,?_⟩
   rw[gU]
   by_cases hm:mark R ks i∈aj [] ((bJ R ks).take i)
   ·rw[if_pos hm]
    walk_at "rd1";refine hkk _ _ ⟨.non,rfl,sm05,hke,?_,hf5⟩
    rw[htk,ce,if_pos hm]; exact hd5
   ·rw[if_neg hm]
    walk_at "rd1";refine⟨sp,_,rfl,hd5,sp,mp,_,_,rfl,rfl,hd5,hke,by rw[gU,if_neg hm],by rw[jK]; exact b6 (by omega),fun u' hdu=>?_⟩
    refine hkk _ _ ⟨.non,rfl,sm05.upd hsp _,DN.keyUpd hd5 hke,?_,?_⟩
    ·rw[htk,ce,if_neg hm,ll,Nat.zero_add]
     rw[jK]at hdu
     exact hdu
    ·obtain⟨ys,z,_⟩:=hd5
     rw[al (gB hf5 z (fun z=>nomatch z))]; exact hf5
  rintro σ' H6 ⟨_,rfl,sm6,hk6,hd6,hf6⟩
  walk_at "nx";have hm6:mark R ks i∈aj [] ((bJ R ks).take (i+1)):=(bt _ _ _).mpr (.inr (by rw[htk]; simp))
  refine⟨⟨_,SqL.of hf6⟩,sp,mp,_,_,_,rfl,rfl,hd6,hk6,by rw[gU,if_pos hm6],?_⟩
  walk_at "rd1";refine⟨_,hf6,by rw[List.length_map,List.length_take,de]; exact b6 (by omega),_,_,_,rfl,sm6.upd hspn _,DN.updL hd6 hf6,?_⟩
  rw[ae,List.take_add_one (l:=finer R ks)];have e:(finer R ks)[i]? = some (fv (mark R ks i) (aj [] ((bJ R ks).take (i+1)))):=jk hms
  rw[e,Nat.zero_add,List.map_append]; rfl
 ·rintro σ H' ⟨o4,o5,o6,rfl,sm,hdn,hf⟩
  walk_at "nx";rw[List.length_map,List.take_of_length_le (by rw[de]; omega)]at hf
  exact qq fp H' sm (sm1.free hfp) hf
theorem ng(ks:List Nat):ks.map nV=(ks.map fun k:Nat=>(k:Int)).map V.int:=by rw[List.map_map]; rfl
theorem ints_inj{a b:List Nat}:(a.map fun k:Nat=>(k:Int))=(b.map fun k:Nat=>(k:Int)) ↔ a=b:=by
 refine List.map_inj_right (fun x y e=>?_)
 omega
theorem xZ{R:aV}{ks:List Nat}(h:ks.length=R.length){y:Nat}(hy:y∈finer R ks):y<R.length:=by
 obtain⟨i,hi,e⟩:=List.mem_iff_getElem.mp hy
 have hiR:i<R.length:=by rw[de]at hi; exact hi
 have e2:(finer R ks)[i]? = some (fv (mark R ks i) (aj [] ((bJ R ks).take (i+1)))):=jk (fR hiR)
 rw[List.getElem?_eq_getElem hi,e]at e2
 have e3:=Option.some.inj e2;have hm:mark R ks i∈aj [] ((bJ R ks).take (i+1)):=(bt _ _ _).mpr (.inr (by rw[List.take_add_one,fR hiR]; simp))
 have h1:fv (mark R ks i) (aj [] ((bJ R ks).take (i+1)))<(aj [] ((bJ R ks).take (i+1))).length:=z9 hm
 have h2:=c_ ((bJ R ks).take (i+1)) [];rw[List.length_take,iX]at h2
 simp at h2
 omega
theorem xY(D:DefAt K mg "kinds_upto" bo) (z_max:mg "max" = none) (c_finer_kinds:Cal P w K mg base 2 "finer_kinds" ["rooms", "kinds"] si):Cal P w K mg base 3 "kinds_upto" ["rooms", "most"] sq:=by
 refine D.cal sc_kinds_upto (fun _ _ _ _ _ _ us hl=>match us,hl with | [_,_],_=>rfl) (fun vs H Q E h=>by obtain⟨p,R,m,as,mo,rfl,_⟩:=h; rfl) (fun f cdv A outer s H vs Q E hr h=>?_)
 obtain⟨p,R,m,as,mo,rfl,hmo,hR,ok,q⟩:=h
 have n1:=ok.n1;have h2:=hR.2.1
 refine⟨_,(ac (mG (CompSc.to (fsc:=(defScope bo)) (N:=["rooms", "most", "kinds", "finer"]) (N0:=["rooms", "most", "kinds", "finer"]) (T:=["room"]) ⟨by decide +kernel,by decide +kernel,by decide +kernel,by decide +kernel,by decide +kernel,by decide +kernel,by decide +kernel⟩ rfl rfl) rfl sc_kinds_upto.nd (i:=2) rfl Fy (bT K (pv 0)) (fun _ _ _ _=>(bf 4 (show (["rooms", "most", "kinds", "finer", "room"]:List Str).Nodup from by decide +kernel) (hx:=(eh (defScope bo) (by decide +kernel))) (hf:=gP (defScope bo) (by decide +kernel)))) (bZ (show (["rooms", "most", "kinds", "finer"]:List Str).length≤4 from by decide)) (fun _ _ _ _=>cv) (fun _ _ _ _=>ah))
   (ac (az 3 sc_kinds_upto.nd (aU c_finer_kinds hr (aa (pv 0) (aa (pv 2) ab))))
   (ac (iM PassesOwn.never (aX (jt K hr) (pv 3) (pv 2) (bd _)) (ac (bY (aX Cm (bp (vK K) z_max An (aa (pv 3) ab)) (pv 1) (bd _)) (am (aW b5)) bw)
   (ac (az 2 sc_kinds_upto.nd (pv 3))
   (am (az 3 sc_kinds_upto.nd (aU c_finer_kinds hr (aa (pv 0) (aa (pv 2) ab))))))))
   (am (aW (pv 2)))))),?_⟩
 walk_at "rd1";refine⟨⟨_,SqL.of hR.1⟩,fun L hL=>?_⟩
 refine cL (xs:=as.map V.ref) (fun i ys H'=>Same H H'∧H' L=some (.lst ys)∧ys=(List.replicate i 0).map nV) ⟨ak hL _,ae,rfl⟩ (fun i ys H' _ h=>SqL.of (h.1 _ _ hR.1)) ?_ ?_
 ·rintro i ys H' v hv hi ⟨sm,hl,rfl⟩
  rw[List.length_map]at hi
  walk_at "rd1";refine dX (by rw[List.length_map]; exact hi) (by simp) (by rw[List.length_map]; exact b7 (by omega)) hl ⟨sm.upd hL _,ae,?_⟩
  rw[List.replicate_succ',List.map_append]; rfl
 rintro ys H1 ⟨sm1,hl1,rfl⟩
 rw[List.length_map,h2]at hl1
 have hl1':H1 L=some (.lst ((iter R 0).map nV)):=by
  show _=some (HO.lst ((R.map fun _=>0).map nV))
  rw[List.map_const']; exact hl1
 walk_at "nx";refine⟨p,L,R,m,as,iter R 0,rfl,hR.mono sm1,ok,hl1',bH R 0,fun L2 H2 sm2 hL2 hl2=>?_⟩
 walk_at "nx"
 refine⟨fun mm σ H'=>∃ (t:Nat) (a b:Addr),mm=cQ R.length (iter R t)∧mm+t≤R.length * R.length∧σ=[some (.ref p),some (nV mo),some (.ref a),some (.ref b)]∧Same H H'∧H a=none∧H' a=some (.lst ((iter R t).map nV))∧H' b=some (.lst ((iter R (t+1)).map nV))∧H b=none,
  ⟨_,0,L,L2,rfl,by have:=oQ R.length (iter R 0); omega,rfl,sm1.trans sm2,hL,sm2 _ _ hl1',hl2,sm1.free hL2⟩,?_⟩
 rintro mm σ H' ⟨t,a,b,rfl,hmm,rfl,sm,ha,hla,hlb,hb⟩
 walk_at "rd1";rw[ng]at hla hlb
 refine⟨0,_,by decide,EqN.ints (SqL.of hlb) (SqL.of hla),?_⟩
 walk_at "rd1"
 by_cases he:iter R (t+1)=iter R t
 ·rw[decide_eq_true (ints_inj.mpr he)]
  walk_at "rd1";walk_at "nx";rw[← ng,iT he (by omega)]at hla
  exact q a H' sm ha hla
 ·rw[decide_eq_false (fun z=>he (ints_inj.mp z))]
  walk_at "rd1";refine⟨fun σ' H'=>∃ mm,mm<cQ R.length (iter R t)∧∃ (t':Nat) (a b:Addr),mm=cQ R.length (iter R t')∧mm+t'≤R.length * R.length∧σ'=[some (.ref p),some (nV mo),some (.ref a),some (.ref b)]∧Same H H'∧H a=none∧H' a=some (.lst ((iter R t').map nV))∧H' b=some (.lst ((iter R (t'+1)).map nV))∧H b=none,fun _ _ h=>h,?_⟩
  have hne:(iter R (t+1)).map (fun k:Nat=>(k:Int))≠[]:=by
   have h0:=bH R (t+1);have h1:=ok.n0;intro z
   have:=congrArg List.length z
   rw[List.length_map,List.length_nil]at this
   omega
  refine⟨_,SqL.of hlb,hne,fun M hM _=>?_⟩
  have hMlt:M<(R.length:Int):=by
   obtain⟨y,hy,rfl⟩:=List.mem_map.mp hM
   have:=xZ (R:=R) (ks:=iter R t) (bH R t) hy
   omega
  walk_at "rd1";refine bn (fun c=>?_) (fun c=>?_)
  ·exfalso; have c':M≥(mo:Int):=by simpa using c
   omega
  walk_at "nx";walk_at "nx";rw[← ng]at hla hlb
  refine⟨p,b,R,m,as,iter R (t+1),rfl,hR.mono sm,ok,hlb,bH R _,fun L3 H3 sm3 hL3 hl3=>?_⟩
  have hlt:=jO (R:=R) (bH R t) (ci R t) he;exact⟨_,hlt,t+1,b,L3,rfl,(by show cQ R.length (finer R (iter R t))+(t+1)≤_; omega),rfl,sm.trans sm3,hb,sm3 _ _ hlb,hl3,sm.free hL3⟩
structure NR (H H':Hp) (mp:Addr) (rs:aV) (as:List Addr):Prop where
 at':RoomsAs H' mp rs as
 new:∀ a∈as,H a=none∧a≠mp
 nd:as.Nodup
theorem NR.held{H H':Hp}{mp:Addr}{rs:aV}{as:List Addr}(h:NR H H' mp rs as){a:Addr}(ha:a∈as):∃ o,H' a=some o:=by
 obtain⟨i,hi,e⟩:=List.mem_iff_getElem.mp ha
 have hl:=h.at'.2.1;exact⟨_,h.at'.2.2 i a _ (by rw[← e]; exact List.getElem?_eq_getElem hi) (List.getElem?_eq_getElem (by omega))⟩
theorem NR.mono{H H' H2:Hp}{mp:Addr}{rs:aV}{as:List Addr}(h:NR H H' mp rs as)(sm:Same H' H2):NR H H2 mp rs as:=⟨h.at'.mono sm,h.new,h.nd⟩
theorem NR.push{H H':Hp}{mp L:Addr}{rs:aV}{as:List Addr}{x:List (Option Nat)}{H0:Hp}(h:NR H H0 mp rs as)(sm:Same H0 H')(smH:Same H H0)(hL0:H0 L=none)(hL:H' L=some (.lst (x.map ap))) :
  NR H (upd H' mp (.lst (as.map V.ref++[.ref L]))) mp (rs++[x]) (as++[L]):=by
 obtain⟨h1,h2,h3⟩:=h.at'
 have nL:L≠mp:=Ne.symm (aO h1 hL0)
 refine⟨⟨by rw[ae,List.map_append]; rfl,by simp[h2],fun i a y e1 e2=>?_⟩,fun a ha=>?_,?_⟩
 ·rcases Nat.lt_or_ge i as.length with z | z
  ·rw[List.getElem?_append_left z]at e1
   rw[List.getElem?_append_left (by omega)]at e2
   have hn:=(h.new a (List.mem_of_getElem? e1)).2;rw[al hn]; exact sm _ _ (h3 i a y e1 e2)
  ·rw[List.getElem?_append_right z]at e1
   rw[List.getElem?_append_right (by omega)]at e2
   have hj0:i - as.length=0:=by
    have:=(List.getElem?_eq_some_iff.mp e1).1
    simp at this; omega
   rw[hj0]at e1
   rw[show i - rs.length=0 by omega]at e2
   have e1':L=a:=by simpa using e1
   have e2':x=y:=by simpa using e2
   subst e1' e2';rw[al nL]; exact hL
 ·rcases List.mem_append.mp ha with z | z
  ·exact h.new a z
  ·rw[List.mem_singleton.mp z]; exact⟨smH.free hL0,nL⟩
 ·rw[List.nodup_append]
  refine⟨h.nd,by simp,fun a ha b hb e=>?_⟩
  rw[List.mem_singleton.mp hb]at e
  subst e;obtain⟨o,z⟩:=h.held ha
  rw[hL0]at z; cases z
def yu(g:aV→aV):Sp:=fun vs H Q _=>∃ (p:Addr) (R:aV) (m:Nat) (as:List Addr),vs=[.ref p]∧RoomsAs H p R as∧d9 R m∧∀ (L:Addr) (H':Hp) (bs:List Addr),Same H H'→H L=none→NR H H' L (g R) bs→Q (.ref L) H'
def ph:Sp:=fun vs H Q _=>∃ (p kp:Addr) (R:aV) (m:Nat) (as:List Addr),vs=[.ref p,.ref kp]∧RoomsAs H p R as∧d9 R m∧H kp=some (.lst ((ai R).map nV))∧∀ (L:Addr) (H':Hp) (bs:List Addr),Same H H'→H L=none→NR H H' L (merged R) bs→Q (.ref L) H'
theorem vD(D:DefAt K mg "merged_rooms" ba) (z_enumerate:mg "enumerate" = none) (z_len:mg "len" = none) (c_ways_by:Cal P w K mg base 1 "ways_by" ["numbers", "ways"] oM) :
  Cal P w K mg base 4 "merged_rooms" ["rooms", "kinds"] ph:=by
 refine D.cal sc_merged_rooms (fun _ _ _ _ _ _ us hl=>match us,hl with | [_,_],_=>rfl) (fun vs H Q E h=>by obtain⟨p,kp,R,m,as,rfl,_⟩:=h; rfl) (fun f cdv A outer s H vs Q E hr h=>?_)
 obtain⟨p,kp,R,m,as,rfl,hR,ok,hk1,q⟩:=h
 obtain⟨h1,h2,h3⟩:=hR
 have n1:=ok.n1;have hlk:(ai R).length=R.length:=bH R _
 have hcn:db (ai R):=ci R _
 refine⟨_,(ac (az 2 sc_merged_rooms.nd (cD ab))
   (ac (cN PassesOwn.never rfl (fS K FX z_enumerate (aa (pv 0) ab)) (ga K (n:=2) (cw (bf 3 sc_merged_rooms.nd) (cw (bf 4 sc_merged_rooms.nd) fX))) (am (bY (aX iN (aw (aN K) (pv 1) (pv 3) (fun _ _=>rfl)) (bp (bK K) z_len b8 (aa (pv 2) ab)) (bd _)) (am (cV (dq K PySem.F.plainAttrs_list PySem.F.slot_list_append PySem.F.type_list_append cg (pv 2) (aa (aU c_ways_by hr (aa (pv 1) (aa (pv 4) ab))) ab)))) bw)))
   (am (aW (pv 2))))),?_⟩
 walk_at "rd1";refine⟨by decide,fun mp hmp=>?_⟩
 generalize hH2:upd H mp _=H2
 have sm2:=cJ hH2 hmp;have e2:=dG hH2;have hmpH:H mp=none:=hmp
 walk_at "nx";refine⟨⟨_,sm2 _ _ h1⟩,?_⟩
 refine gG (xs:=as.map V.ref) (fun i σ H'=>∃ (o3 o4:Option V) (bs:List Addr),σ=[some (.ref p),some (.ref kp),some (.ref mp),o3,o4]∧Same H H'∧H' kp=some (.lst ((ai R).map nV))∧NR H H' mp (bU R (ai R) i) bs)
  ⟨none,none,[],rfl,sm2,sm2 _ _ hk1,⟨e2,rfl,by simp⟩,by simp,List.nodup_nil⟩ (fun i σ H' _ h=>by obtain⟨_,_,_,_,sm,_⟩:=h; exact SqL.of (sm _ _ h1)) ?_ ?_
 ·rintro i v t σ H' hv ⟨o3,o4,bs,rfl,sm,hk,hN⟩ ht
  have hia:i<as.length:=by have:=(List.getElem?_eq_some_iff.mp hv).1; simpa using this
  have hi:i<R.length:=by omega
  rw[List.getElem?_map,List.getElem?_eq_getElem hia]at hv
  cases hv;have hrow:=h3 i _ _ (List.getElem?_eq_getElem hia) (List.getElem?_eq_getElem hi);have hkd:(ai R)[i]? = some ((ai R).getD i 0):=by rw[List.getD_eq_getElem?_getD,List.getElem?_eq_getElem (by omega)]; rfl
  have st:=ak ht (.tup [nV i,.ref as[i]]);have ett:upd H' t (.tup [nV i,.ref as[i]]) t=some (.tup [nV i,.ref as[i]]):=ae
  have smt:=sm.trans st;have hkt:=st _ _ hk;have hNt:=hN.mono st;generalize upd H' t (.tup [nV i,.ref as[i]])=Ht at st ett smt hkt hNt ⊢;have hml:bs.length=(bU R (ai R) i).length:=hNt.at'.2.1
  have hms:=qV hcn hlk hi
  have hbl:(bU R (ai R) i).length≤60:=by
   show ((List.range _).map _).length≤60
   rw[List.length_map,List.length_range];have:=c_ ((ai R).take i) []
   rw[List.length_take]at this
   simp at this; omega
  walk_at "rd1";refine⟨t,_,rfl,SqT.of ett,rfl,?_⟩
  walk_at "rd1";refine⟨_,_,.inl (SqL.of hkt),aL (by rw[List.getElem?_map,hkd]; rfl),⟨_,.inl (SqL.of hNt.at'.1),?_⟩⟩
  rw[List.length_map,hml];walk_at "rd1";refine bn (fun c=>?_) (fun c=>?_)
  ·rw[if_pos (by omega)]at hms
   refine⟨⟨_,SqL.of hNt.at'.1⟩,kp,as[i],R[i],fun k=>(ai R).getD k 0,rfl,smt _ _ hrow,by rw[ok.row _ (List.getElem_mem hi)]; have:=ok.m1; omega,fun k hk'=>.inl ⟨_,hkt,?_⟩,fun L H3 sm3 hL hl3=>?_⟩
   ·have:=ok.ins _ (List.getElem_mem hi) k hk'
    show (ai R)[k]? = some ((ai R).getD k 0)
    rw[List.getD_eq_getElem?_getD,List.getElem?_eq_getElem (by omega)]; rfl
   walk_at "rd1";refine⟨_,sm3 _ _ hNt.at'.1,by rw[List.length_map]; exact b6 (by omega),_,_,bs++[L],rfl,(smt.trans sm3).upd hmpH _,?_,?_⟩
   ·rw[al (fun z=>?_)]
    ·exact sm3 _ _ hkt
    ·subst z
     rw[hk1]at hmp; cases hmp
   ·rw[hms]
    have e:R.getD i []=R[i]:=by rw[List.getD_eq_getElem?_getD,List.getElem?_eq_getElem hi]; rfl
    rw[e];exact hNt.push sm3 smt hL hl3
  ·rw[if_neg (by omega)]at hms
   exact⟨_,_,bs,rfl,smt,hkt,by rw[hms]; exact hNt⟩
 ·rintro σ H' ⟨o3,o4,bs,rfl,sm,hk,hN⟩
  walk_at "nx";rw[List.length_map,h2]at hN
  exact q mp H' bs sm hmpH hN
def d7(o:List Nat):List (bq × V):=o.map fun k:Nat=>(Sum.inl (k:Int),V.bl true)
theorem nv(k:Nat):∀ (o:List Nat),(aI (d7 o) (.inl (k:Int))).isSome=decide (k∈o)
 | []=>rfl
 | x::o=>by
  have ih:=nv k o;show (aI ((Sum.inl (x:Int),V.bl true)::d7 o) (.inl (k:Int))).isSome=_
  by_cases h:x=k
  ·subst h; simp[aI]
  ·have hn:¬ ((Sum.inl (x:Int):bq)=Sum.inl (k:Int)):=fun z=>h (by have:=Sum.inl.inj z; omega)
   have e:aI ((Sum.inl (x:Int),V.bl true)::d7 o) (.inl (k:Int))=aI (d7 o) (.inl (k:Int)):=by simp[aI,hn]
   rw[e,ih];simp[Ne.symm h]
theorem uF{k:Nat}{o:List Nat}(h:k∉o):cM (d7 o) (.inl (k:Int)) (.bl true)=d7 (o++[k]):=by
 unfold cM
 have hn:((d7 o).any fun kv=>decide (kv.1=(Sum.inl (k:Int):bq)))=false:=by
  rw[List.any_eq_false];intro x hx
  obtain⟨y,hy,rfl⟩:=List.mem_map.mp hx
  have:y≠k:=fun e=>h (e ▸ hy)
  simp; omega
 rw[if_neg (by rw[hn]; exact Bool.false_ne_true)]
 unfold d7;rw[List.map_append]; rfl
def sf:Sp:=fun vs H Q _=>∃ (p:Addr) (R:aV) (m:Nat) (as:List Addr),vs=[.ref p]∧RoomsAs H p R as∧d9 R m∧∀ (L:Addr) (H':Hp),Same H H'→H L=none→H' L=some (.lst ((aD R).map nV))→Q (.ref L) H'
theorem Bg(D:DefAt K mg "rooms_led_to" a_) (z_len:mg "len" = none):Cal P w K mg base 1 "rooms_led_to" ["rooms"] sf:=by
 refine D.cal sc_rooms_led_to (fun _ _ _ _ _ _ us hl=>match us,hl with | [_],_=>rfl) (fun vs H Q E h=>by obtain⟨p,R,m,as,rfl,_⟩:=h; rfl) (fun f cdv A outer s H vs Q E hr h=>?_)
 obtain⟨p,R,m,as,rfl,hR,ok,q⟩:=h
 obtain⟨h1,h2,h3⟩:=hR
 have n1:=ok.n1
 refine⟨_,(ac (az 1 sc_rooms_led_to.nd (cD (aa ah ab)))
   (ac (az 2 sc_rooms_led_to.nd (za (wY ah dy zG) rfl rfl (by decide) (by decide)))
   (ac (az 3 sc_rooms_led_to.nd ah)
   (ac (iM PassesOwn.never (aX ke (pv 3) (bp (bK K) z_len b8 (aa (pv 1) ab)) (bd _)) (ac (az 4 sc_rooms_led_to.nd (aw (aN K) (pv 1) (pv 3) (fun _ _=>rfl)))
   (ac (cN PassesOwn.never rfl (bT K (aw (aN K) (pv 0) (pv 4) (fun _ _=>rfl))) (bf 5 sc_rooms_led_to.nd) (am (bY (PW.pt' (ko (aX qo (pv 5) b5 (bd _)) (jA (aX (vW hr) (pv 5) (pv 2) (by with_unfolding_all rfl))))) (ac (dz dy (dH (pv 2) (pv 5) (sB hr)))
   (am (cV (dq K PySem.F.plainAttrs_list PySem.F.slot_list_append PySem.F.type_list_append cg (pv 1) (aa (pv 5) ab))))) bw)))
   (am (az 3 sc_rooms_led_to.nd (bb ck (pv 3) ah))))))
   (am (aW (pv 1))))))),?_⟩
 walk_at "rd1";refine⟨by decide,fun op hop=>?_⟩
 generalize hH1:upd H op _=H1
 have sm1:=cJ hH1 hop;have e1:=dG hH1;walk_at "nx";refine fun dp hdp=>⟨ae,[(.inl 0,.bl true)],rfl,by decide,?_⟩
 rw[yY];generalize hH2:upd H1 dp _=H2
 have sm2:=cJ hH2 hdp;have e2:H2 dp=some (.dK (d7 [0])):=dG hH2
 have hdpH:H dp=none:=sm1.free hdp
 walk_at "nx";walk_at "nx"
 refine⟨fun mm σ H'=>∃ (t:Nat) (o4 o5:Option V),mm=R.length - t∧t≤(aG R t).length∧σ=[some (.ref p),some (.ref op),some (.ref dp),some (.int (t:Int)),o4,o5]∧Same H H'∧H' op=some (.lst ((aG R t).map nV))∧H' dp=some (.dK (d7 (aG R t))),
  ⟨_,0,none,none,rfl,Nat.zero_le _,rfl,sm1.trans sm2,sm2 _ _ e1,e2⟩,?_⟩
 rintro mm σ H' ⟨t,o4,o5,rfl,htl,rfl,sm,ho,hd⟩
 have hbl:=kS ok.ins ok.n0 t;have hbf:=(dv ok.ins ok.n0 t).2;walk_at "rd1";refine⟨_,.inl (SqL.of ho),?_⟩
 rw[List.length_map];refine bn (fun c=>?_) (fun c=>?_)
 ·have ht:t<(aG R t).length:=by simpa using c
  refine⟨fun σ' H'=>∃ mm,mm<R.length - t∧∃ (t':Nat) (o4 o5:Option V),mm=R.length - t'∧t'≤(aG R t').length∧σ'=[some (.ref p),some (.ref op),some (.ref dp),some (.int (t':Int)),o4,o5]∧Same H H'∧H' op=some (.lst ((aG R t').map nV))∧H' dp=some (.dK (d7 (aG R t'))),fun _ _ h=>h,?_⟩
  walk_at "rd1";refine⟨_,_,.inl (SqL.of ho),aL (by rw[List.getElem?_map,List.getElem?_eq_getElem ht]; rfl),?_⟩
  have hr':(aG R t)[t]<R.length:=hbf _ (List.getElem_mem ht)
  have hbt:(aG R t)[t]? = some (aG R t)[t]:=List.getElem?_eq_getElem ht
  have hb1:aG R (t+1)=aM (aG R t) (R.getD (aG R t)[t] []):=by
   show (match (aG R t)[t]? with | some r=>aM (aG R t) (R.getD r []) | none=>aG R t)=_
   rw[hbt]
  generalize (aG R t)[t]=r at hr' hbt hb1 ⊢;have hra:r<as.length:=by omega
  have hrow:=h3 r _ _ (List.getElem?_eq_getElem hra) (List.getElem?_eq_getElem hr');have hgd:R.getD r []=R[r]:=by rw[List.getD_eq_getElem?_getD,List.getElem?_eq_getElem hr']; rfl
  rw[hgd]at hb1
  have hrm:=ok.row _ (List.getElem_mem hr');have hm1:=ok.m1;walk_at "nx";refine⟨_,_,.inl (SqL.of (sm _ _ h1)),aL (by rw[List.getElem?_map,List.getElem?_eq_getElem hra]; rfl),?_⟩
  walk_at "rd1";refine⟨⟨_,SqL.of (sm _ _ hrow)⟩,?_⟩
  refine eY (xs:=(R[r]).map ap) (fun j σ H'=>∃ o5,σ=[some (.ref p),some (.ref op),some (.ref dp),some (.int (t:Int)),some (nV r),o5]∧Same H H'∧H' op=some (.lst ((aM (aG R t) ((R[r]).take j)).map nV))∧H' dp=some (.dK (d7 (aM (aG R t) ((R[r]).take j)))))
   ⟨o5,rfl,sm,ho,hd⟩ (fun j σ H' _ h=>by obtain⟨_,_,sm,_⟩:=h; exact SqL.of (sm _ _ hrow)) ?_ ?_
  ·rintro j v σ H' hv ⟨o5,rfl,sm,ho,hd⟩
   have hj:j<(R[r]).length:=by have:=(List.getElem?_eq_some_iff.mp hv).1; simpa using this
   rw[List.getElem?_map,List.getElem?_eq_getElem hj]at hv
   cases hv;have htk:(R[r]).take (j+1)=(R[r]).take j++[(R[r])[j]]:=by rw[List.take_add_one,List.getElem?_eq_getElem hj]; rfl
   have hes:=ji ((R[r]).take j) (aG R t) (R[r])[j];rw[← htk]at hes
   have hxm:=List.getElem_mem hj;generalize (R[r])[j]=xo at hes hxm ⊢
   have hel:(aM (aG R t) ((R[r]).take j)).length≤R.length:=by
    refine fV _ _ (fj _ _ (dv ok.ins ok.n0 t).1) fun y hy=>?_
    rcases(dR _ _ _).mp hy with z | z
    ·exact hbf y z
    ·exact ok.ins _ (List.getElem_mem hr') y (List.mem_of_mem_take z)
   have hop':op≠dp:=by
    rintro rfl
    rw[e1]at hdp; cases hdp
   cases xo with
   | none=>
    walk_at "rd1";refine bn (fun c=>?_) (fun c=>?_)
    ·exact absurd c (by decide)
    ·exact⟨_,rfl,sm,by rw[hes]; exact ho,by rw[hes]; exact hd⟩
   | some k=>
    rw[show ap (some k)=V.int (k:Int) from rfl];walk_at "rd1";refine bn (fun c=>?_) (fun c=>?_)
    ·refine⟨dp,_,.inl (k:Int),rfl,rfl,hd,?_⟩
     rw[nv]
     by_cases hm:k∈aM (aG R t) ((R[r]).take j)
     ·rw[decide_eq_true hm]
      walk_at "rd1";simp only[if_pos hm]at hes
      exact⟨_,rfl,sm,by rw[hes]; exact ho,by rw[hes]; exact hd⟩
     ·rw[decide_eq_false hm]
      simp only[if_neg hm]at hes
      walk_at "rd1";refine⟨dp,_,.inl (k:Int),rfl,rfl,hd,by show (List.map _ _).length<_; rw[List.length_map]; exact b6 (by omega),?_⟩
      rw[uF hm];walk_at "nx";have ho':upd H' dp (.dK (d7 (aM (aG R t) ((R[r]).take j)++[k]))) op=some (.lst ((aM (aG R t) ((R[r]).take j)).map nV)):=by rw[al hop']; exact ho
      refine⟨⟨_,SqL.of ho'⟩,_,ho',by rw[List.length_map]; exact b6 (by omega),_,rfl,(sm.upd hdpH _).upd hop _,?_,?_⟩
      ·rw[ae,hes,List.map_append]; rfl
      ·rw[al (Ne.symm hop'),ae,hes]
    ·exact absurd (by simp) c
  ·rintro σ H' ⟨o5,rfl,sm,ho,hd⟩
   rw[List.length_map,List.take_length,← hb1]at ho hd
   walk_at "nx";refine⟨_,(by omega:R.length - (t+1)<R.length - t),t+1,some (nV r),o5,rfl,?_,?_,sm,ho,hd⟩
   ·obtain⟨u,hu⟩:=kJ (M:=R) t
    rw[hu,List.length_append]; omega
   ·rw[show ((t+1:Nat):Int)=(t:Int)+1 by omega]
 ·have ht:(aG R t).length≤t:=by
   have:¬ ((t:Int)<((aG R t).length:Int)):=by simpa using c
   omega
  walk_at "nx";rw[ka ht (by omega)]at ho
  exact q op H' sm hop ho
def cj(k:Nat):List Nat→List (bq × V)
 | []=>[]
 | r::o=>(Sum.inl (r:Int),nV k)::cj (k+1) o
theorem lj:∀ (o:List Nat) (k:Nat),(cj k o).length=o.length
 | [],_=>rfl
 | r::o,k=>by show (cj (k+1) o).length+1=_; rw[lj o]; rfl
theorem lg:∀ (o:List Nat) (k:Nat),∀ kv∈cj k o,∃ r∈o,kv.1=Sum.inl (r:Int)
 | [],_,kv,h=>by simp[cj]at h
 | r::o,k,kv,h=>by
  rcases List.mem_cons.mp h with rfl | h
  ·exact⟨r,List.mem_cons_self,rfl⟩
  ·obtain⟨x,hx,e⟩:=lg o (k+1) kv h
   exact⟨x,List.mem_cons_of_mem _ hx,e⟩
theorem kg:∀ (o:List Nat) (k r:Nat),cj k (o++[r])=cj k o++[(Sum.inl (r:Int),nV (k+o.length))]
 | [],k,r=>rfl
 | x::o,k,r=>by
  show (Sum.inl (x:Int),nV k)::cj (k+1) (o++[r])=_
  rw[kg o,List.length_cons,show k+1+o.length=k+(o.length+1) by omega]; rfl
theorem qJ{o:List Nat}{r:Nat}(h:r∉o):cM (cj 0 o) (.inl (r:Int)) (nV o.length)=cj 0 (o++[r]):=by
 unfold cM
 have hn:((cj 0 o).any fun kv=>decide (kv.1=(Sum.inl (r:Int):bq)))=false:=by
  rw[List.any_eq_false];intro x hx
  obtain⟨y,hy,e⟩:=lg o 0 x hx
  have:y≠r:=fun e=>h (e ▸ hy)
  rw[e]; simp; omega
 rw[if_neg (by rw[hn]; exact Bool.false_ne_true),kg,Nat.zero_add]
theorem la:∀ (o:List Nat) (k r:Nat),r∈o→aI (cj k o) (.inl (r:Int))=some (nV (k+o.idxOf r))
 | [],_,_,h=>by cases h
 | x::o,k,r,h=>by
  by_cases e:x=r
  ·subst e
   rw[List.idxOf_cons_self];show aI ((Sum.inl (x:Int),nV k)::cj (k+1) o) (.inl (x:Int))=_
   simp[aI]
  ·have hr:r∈o:=(List.mem_cons.mp h).resolve_left (fun z=>e z.symm)
   have hn:¬ ((Sum.inl (x:Int):bq)=Sum.inl (r:Int)):=fun z=>e (by have:=Sum.inl.inj z; omega)
   have e1:aI (cj k (x::o)) (.inl (r:Int))=aI (cj (k+1) o) (.inl (r:Int)):=by
    show aI ((Sum.inl (x:Int),nV k)::cj (k+1) o) (.inl (r:Int))=_
    simp[aI,hn]
   rw[e1,la o (k+1) r hr,List.idxOf_cons];have hb:(x == r)=false:=beq_eq_false_iff_ne.mpr e
   rw[hb];show some (nV (k+1+o.idxOf r))=some (nV (k+(o.idxOf r+1)))
   rw[show k+1+o.idxOf r=k+(o.idxOf r+1) by omega]
theorem qS(D:DefAt K mg "numbered_rooms" aC) (z_enumerate:mg "enumerate" = none) (c_rooms_led_to:Cal P w K mg base 1 "rooms_led_to" ["rooms"] sf) (c_ways_by:Cal P w K mg base 1 "ways_by" ["numbers", "ways"] oM) :
  Cal P w K mg base 2 "numbered_rooms" ["rooms"] (yu aZ):=by
 refine D.cal sc_numbered_rooms (fun _ _ _ _ _ _ us hl=>match us,hl with | [_],_=>rfl) (fun vs H Q E h=>by obtain⟨p,R,m,as,rfl,_⟩:=h; rfl) (fun f cdv A outer s H vs Q E hr h=>?_)
 obtain⟨p,R,m,as,rfl,hR,ok,q⟩:=h
 obtain⟨h1,h2,h3⟩:=hR
 have n1:=ok.n1;have hm1:=ok.m1;obtain⟨ond,olt,ole⟩:=eB ok.ins ok.n0
 refine⟨_,(ac (az 1 sc_numbered_rooms.nd (aU c_rooms_led_to hr (aa (pv 0 (hv:=Fu)) ab)))
   (ac (az 2 sc_numbered_rooms.nd oZ (hx:=Fi))
   (ac (cN PassesOwn.never rfl (fS K Fd z_enumerate (aa (pv 1) ab)) (ga K (n:=2) (cw (bf 3 sc_numbered_rooms.nd) (cw (bf 4 sc_numbered_rooms.nd) fX))) (am (dz (pv 3) (dH (pv 2 (hv:=FN)) (pv 4) (sB hr)))))
   (am (aW (cW (CompSc.to (fsc:=(defScope aC)) (N:=["rooms", "order", "numbers", "number", "room"]) (N0:=["rooms", "order", "numbers", "number", "room'"]) (T:=["room"]) ⟨by decide +kernel,by decide +kernel,by decide +kernel,by decide +kernel,by decide +kernel,by decide +kernel,by decide +kernel⟩ rfl rfl) rfl (bT K (pv 1)) (fun _ _ _ _=>(bf 5 (show (["rooms", "order", "numbers", "number", "room'", "room"]:List Str).Nodup from by decide +kernel) (hx:=(eh (defScope aC) (by decide +kernel))) (hf:=gP (defScope aC) (by decide +kernel)))) (bZ (show (["rooms", "order", "numbers", "number", "room"]:List Str).length≤5 from by decide)) (fun _ _ _ _=>cv) (fun _ _ _ _=>(aU c_ways_by hr (aa (pv 2 (hv:=(bX (defScope aC) (by decide +kernel)))) (aa (aw (aN K) (pv 0 (hv:=(bX (defScope aC) (by decide +kernel)))) (pv 5 (hv:=(bX (defScope aC) (by decide +kernel)))) (fun _ _=>rfl)) ab)) (hg:=(rq (defScope aC) (by decide +kernel))))))))))),?_⟩
 walk_at "rd1";refine⟨p,R,m,as,rfl,⟨h1,h2,h3⟩,ok,fun op H1 sm1 hop ho=>?_⟩
 walk_at "nx";refine fun np hnp=>?_
 generalize hH2:upd H1 np _=H2
 have sm2:=cJ hH2 hnp;have e2:=dG hH2;have hnpH:H np=none:=sm1.free hnp
 walk_at "nx";refine⟨⟨_,sm2 _ _ ho⟩,?_⟩
 refine gG (xs:=(aD R).map nV) (fun i σ H'=>∃ (o3 o4:Option V),σ=[some (.ref p),some (.ref op),some (.ref np),o3,o4]∧Same H H'∧H' op=some (.lst ((aD R).map nV))∧H' np=some (.dK (cj 0 ((aD R).take i))))
  ⟨none,none,rfl,sm1.trans sm2,sm2 _ _ ho,e2⟩ (fun i σ H' _ h=>by obtain⟨_,_,_,_,z,_⟩:=h; exact SqL.of z) ?_ ?_
 ·rintro i v t σ H' hv ⟨o3,o4,rfl,sm,ho',hn⟩ ht
  have hi:i<(aD R).length:=by have:=(List.getElem?_eq_some_iff.mp hv).1; simpa using this
  rw[List.getElem?_map,List.getElem?_eq_getElem hi]at hv
  cases hv
  have hnot:(aD R)[i]∉(aD R).take i:=fun z=>by
   obtain⟨j,hj,e⟩:=List.mem_iff_getElem.mp z
   rw[List.getElem_take]at e
   have:=(List.getElem_inj ond).mp e
   simp at hj; omega
  have htk:(aD R).take (i+1)=(aD R).take i++[(aD R)[i]]:=by rw[List.take_add_one,List.getElem?_eq_getElem hi]; rfl
  have hlt:((aD R).take i).length=i:=by rw[List.length_take]; omega
  generalize (aD R)[i]=r at hnot htk ⊢;have st:=ak ht (.tup [nV i,nV r]);have ett:upd H' t (.tup [nV i,nV r]) t=some (.tup [nV i,nV r]):=ae
  have smt:=sm.trans st;have hot:=st _ _ ho';have hnt:=st _ _ hn;generalize upd H' t (.tup [nV i,nV r])=Ht at st ett smt hot hnt ⊢;walk_at "rd1";refine⟨t,_,rfl,SqT.of ett,rfl,?_⟩
  walk_at "rd1";refine⟨np,_,.inl (r:Int),rfl,rfl,hnt,by rw[lj]; exact b6 (by omega),?_⟩
  refine⟨_,_,rfl,smt.upd hnpH _,?_,?_⟩
  ·rw[al (gB hot hnt (fun z=>nomatch z))]; exact hot
  ·have e:=qJ hnot
   rw[hlt]at e
   rw[ae,htk,← e]
 ·rintro σ H3 ⟨o3,o4,rfl,sm3,ho3,hn3⟩
  rw[List.length_map,List.take_length]at hn3
  walk_at "nx";refine⟨⟨_,SqL.of ho3⟩,fun L hL=>?_⟩
  refine cL (xs:=(aD R).map nV) (fun i ys H'=>∃ bs:List Addr,Same H3 H'∧ys=bs.map V.ref∧bs.length=i∧NR H H' L ((aZ R).take i) bs) ⟨[],ak hL _,rfl,rfl,⟨⟨ae,rfl,by simp⟩,by simp,List.nodup_nil⟩⟩ (fun i ys H' _ h=>by obtain⟨_,sm,_⟩:=h; exact SqL.of (sm _ _ ho3)) ?_ ?_
  ·rintro i ys H' v hv hi ⟨bs,sm,rfl,hb,hN⟩
   rw[List.length_map]at hi
   rw[List.getElem?_map,List.getElem?_eq_getElem hi]at hv
   cases hv;have hrm:=List.getElem_mem hi;have hod:(aZ R)[i]? = some (ff (aD R) (R.getD (aD R)[i] [])):=by unfold aZ; rw[List.getElem?_map,List.getElem?_eq_getElem hi]; rfl
   generalize (aD R)[i]=r at hrm hod ⊢;have hr':=olt r hrm;have hra:r<as.length:=by omega
   have hrow:=h3 r _ _ (List.getElem?_eq_getElem hra) (List.getElem?_eq_getElem hr');have hgd:R.getD r []=R[r]:=by rw[List.getD_eq_getElem?_getD,List.getElem?_eq_getElem hr']; rfl
   walk_at "rd1";refine⟨_,_,.inl (SqL.of ((sm3.trans sm) _ _ h1)),aL (by rw[List.getElem?_map,List.getElem?_eq_getElem hra]; rfl),?_⟩
   refine⟨np,as[r],R[r],fun k=>(aD R).idxOf k,rfl,(sm3.trans sm) _ _ hrow,by rw[ok.row _ (List.getElem_mem hr')]; omega,fun k hk=>.inr ⟨_,sm _ _ hn3,?_⟩,fun L' H4 sm4 hL' hl4=>?_⟩
   ·rw[la _ _ _ (dM ok.ins ok.n0 hrm (by rw[hgd]; exact hk)),Nat.zero_add]
   ·have hps:=hN.push sm4 (sm3.trans sm) hL' hl4
    refine dX (by rw[List.length_map]; exact hi) (by rw[List.length_map]; exact hb) (by rw[List.length_map]; exact b7 (by omega)) (sm4 _ _ hN.at'.1) ⟨bs++[L'],?_,by rw[List.map_append]; rfl,by simp[hb],?_⟩
    ·intro b o e
     have hbL:b≠L:=aO e hL
     rw[al hbL]; exact sm4 _ _ (sm _ _ e)
    ·rw[List.take_add_one,hod]
     have e:ff (aD R) (R.getD r [])=(R[r]).map (Option.map fun k=>(aD R).idxOf k):=by rw[hgd]; rfl
     rw[e]; exact hps
  ·rintro ys H' ⟨bs,sm,rfl,hb,hN⟩
   have hol:(aZ R).length=(aD R).length:=by simp[aZ]
   rw[List.length_map,List.take_of_length_le (by omega)]at hN
   exact q L H' bs (sm3.trans sm) (sm3.free hL) hN
def uU:Sp:=fun vs H Q _=>∃ (p:Addr) (N:aV) (m:Nat) (as:List Addr) (pl:Nat),vs=[.ref p,nV pl]∧RoomsAs H p N as∧d9 N m∧pl<m∧∀ H',Same H H'→Q (.bl (dF N pl)) H'
theorem zF(D:DefAt K mg "does_something" aT) (z_enumerate:mg "enumerate" = none) (z_any:mg "any" = none):Cal P w K mg base 1 "does_something" ["rooms", "place"] uU:=by
 refine D.cal kU (fun _ _ _ _ _ _ us hl=>match us,hl with | [_,_],_=>rfl) (fun vs H Q E h=>by obtain⟨p,N,m,as,pl,rfl,_⟩:=h; rfl) (fun f cdv A outer s H vs Q E hr h=>?_)
 obtain⟨p,N,m,as,pl,rfl,hR,ok,hpl,q⟩:=h
 obtain⟨h1,h2,h3⟩:=hR
 have n1:=ok.n1;refine⟨_,(am (aW (bp (u9 K) z_any AJ (aa (cW (CompSc.to (fsc:=(defScope aT)) (N:=["rooms", "place"]) (N0:=["rooms", "place"]) (T:=["number", "room"]) ⟨by decide +kernel,by decide +kernel,by decide +kernel,by decide +kernel,by decide +kernel,by decide +kernel,by decide +kernel⟩ rfl rfl) rfl (fS K Fx z_enumerate (aa (pv 0) ab)) (fun _ _ _ _=>(ga K (n:=2) (cw (bf 2 (show (["rooms", "place", "number", "room"]:List Str).Nodup from by decide +kernel) (hx:=(eh (defScope aT) (by decide +kernel))) (hf:=gP (defScope aT) (by decide +kernel))) (cw (bf 3 (show (["rooms", "place", "number", "room"]:List Str).Nodup from by decide +kernel) (hx:=(eh (defScope aT) (by decide +kernel))) (hf:=gP (defScope aT) (by decide +kernel))) fX)))) (zc (n9 (bZ (show (["rooms", "place"]:List Str).length≤2 from by decide)) mX (n9 (bZ (show (["rooms", "place"]:List Str).length≤3 from by decide)) mX w9 rU) (wj mX rU))) (fun _ _ _ _=>cv) (fun _ _ _ _=>(dD A5 (aw (aN K) (pv 3 (hv:=(bX (defScope aT) (by decide +kernel)))) (pv 1 (hv:=(bX (defScope aT) (by decide +kernel)))) (fun _ _=>rfl)) (pv 2 (hv:=(bX (defScope aT) (by decide +kernel)))) (bd _)))) ab)))),?_⟩
 walk_at "rd1";refine⟨⟨_,h1⟩,fun L hL=>?_⟩
 refine ue (xs:=as.map V.ref) (fun i ys H'=>Same H H'∧H' L=some (.lst ys)∧ys=((List.range i).map fun i=>decide ((N.getD i []).getD pl none≠some i)).map V.bl) ⟨ak hL _,ae,rfl⟩ (fun i ys H' _ h=>SqL.of (h.1 _ _ h1)) ?_ ?_
 ·rintro i ys H' v t hv hi ⟨sm,hl,rfl⟩ ht
  rw[List.length_map]at hi
  rw[List.getElem?_map,List.getElem?_eq_getElem hi]at hv
  cases hv;have hi':i<N.length:=by omega
  have hrow:=h3 i _ _ (List.getElem?_eq_getElem hi) (List.getElem?_eq_getElem hi');have hgd:N.getD i []=N[i]:=by rw[List.getD_eq_getElem?_getD,List.getElem?_eq_getElem hi']; rfl
  have hrl:=ok.row _ (List.getElem_mem hi');have st:=ak ht (.tup [nV i,.ref as[i]]);have nt:L≠t:=aO hl ht
  walk_at "rd1";refine⟨t,_,rfl,SqT.of ae,rfl,?_⟩
  walk_at "rd1";refine⟨_,_,.inl (SqL.of (st _ _ (sm _ _ hrow))),aL (by rw[List.getElem?_map,List.getElem?_eq_getElem (by omega)]; rfl),?_⟩
  refine⟨((N[i])[pl]'(by omega)).map (fun n:Nat=>(n:Int)),(i:Int),?_,rfl,?_⟩
  ·cases (N[i])[pl]'(by omega) <;> rfl
  ·refine dX (by rw[List.length_map]; exact hi) (by simp) (by rw[List.length_map]; exact b7 (by omega)) (by rw[al nt]; exact hl) ⟨(sm.trans st).upd hL _,ae,?_⟩
   rw[List.range_succ,List.map_append,List.map_append]
   congr 1
   show [V.bl _]=[V.bl _]
   congr 2
   show decide (_≠_)=decide ((N.getD i []).getD pl none≠some i)
   rw[hgd,List.getD_eq_getElem?_getD,List.getElem?_eq_getElem (by omega)]
   show decide (_≠_)=decide ((N[i])[pl]'(by omega)≠some i)
   cases (N[i])[pl]'(by omega) with
   | none=>simp
   | some k=>simp; omega
 ·rintro ys H' ⟨sm,hl,rfl⟩
  walk_at "rd1";rw[List.length_map,h2]at hl
  refine⟨_,SqL.of hl,?_⟩
  have e:((List.range N.length).map fun i=>decide ((N.getD i []).getD pl none≠some i)).any id=dF N pl:=by
   unfold dF; rw[List.any_map]; rfl
  rw[e]; exact q H' sm
def pq:Sp:=fun vs H Q _=>∃ (p b:Addr) (ts:List V) (ps:List Nat),vs=[.ref p,.ref b]∧H p=some (.lst ts)∧H b=some (.lst (ps.map nV))∧ps.length≤1000∧(∀ x∈ps,x<ts.length)∧
 ∀ (L:Addr) (H':Hp),Same H H'→H L=none→H' L=some (.lst (ps.map fun x=>ts.getD x .non))→Q (.ref L) H'
theorem vz(D:DefAt K mg "picked" cI):Cal P w K mg base 1 "picked" ["things", "places"] pq:=by
 refine D.cal uP (fun _ _ _ _ _ _ us hl=>match us,hl with | [_,_],_=>rfl) (fun vs H Q E h=>by obtain⟨p,b,ts,ps,rfl,_⟩:=h; rfl) (fun f cdv A outer s H vs Q E hr h=>?_)
 obtain⟨p,b,ts,ps,rfl,hp,hb,hl,hx,q⟩:=h
 refine⟨_,(am (aW (cW (CompSc.to (fsc:=(defScope cI)) (N:=["things", "places"]) (N0:=["things", "places"]) (T:=["place"]) ⟨by decide +kernel,by decide +kernel,by decide +kernel,by decide +kernel,by decide +kernel,by decide +kernel,by decide +kernel⟩ rfl rfl) rfl (bT K (pv 1)) (fun _ _ _ _=>(bf 2 (show (["things", "places", "place"]:List Str).Nodup from by decide +kernel) (hx:=(eh (defScope cI) (by decide +kernel))) (hf:=gP (defScope cI) (by decide +kernel)))) (bZ (show (["things", "places"]:List Str).length≤2 from by decide)) (fun _ _ _ _=>cv) (fun _ _ _ _=>(aw (aN K) (pv 0 (hv:=(bX (defScope cI) (by decide +kernel)))) (pv 2 (hv:=(bX (defScope cI) (by decide +kernel)))) (fun _ _=>rfl)))))),?_⟩
 walk_at "rd1";refine⟨⟨_,SqL.of hb⟩,fun L hL=>?_⟩
 refine cL (xs:=ps.map nV) (fun i ys H'=>Same H H'∧H' L=some (.lst ys)∧ys=(ps.take i).map fun x=>ts.getD x .non) ⟨ak hL _,ae,rfl⟩ (fun i ys H' _ h=>SqL.of (h.1 _ _ hb)) ?_ ?_
 ·rintro i ys H' v hv hi ⟨sm,hl',rfl⟩
  rw[List.length_map]at hi
  rw[List.getElem?_map,List.getElem?_eq_getElem hi]at hv
  cases hv;have hxi:=hx _ (List.getElem_mem hi);walk_at "rd1";refine⟨_,ts.getD ps[i] .non,.inl (SqL.of (sm _ _ hp)),aL (by rw[List.getD_eq_getElem?_getD,List.getElem?_eq_getElem hxi]; rfl),?_⟩
  refine dX (by rw[List.length_map]; exact hi) (by simp; omega) (by rw[List.length_map]; exact b7 (by omega)) hl' ⟨sm.upd hL _,ae,?_⟩
  rw[List.take_add_one,List.getElem?_eq_getElem hi,List.map_append]; rfl
 ·rintro ys H' ⟨sm,hl',rfl⟩
  rw[List.length_map,List.take_length]at hl'
  exact q L H' sm hL hl'
def av(r:Rl):Rl:=⟨r.s,(places (af r.rs) r.ws.length).map (fun x=>r.ws.getD x default),(af r.rs).map fun y=>(places (af r.rs) r.ws.length).map fun x=>y.getD x none⟩
theorem jx{r:Rl}(ok:bA r):d9 r.rs r.ws.length:=⟨ok.n0,ok.n1,ok.nw,fun x hx=>(ok.row x hx).1,fun x hx k hk=>(ok.row x hx).2 k hk⟩
theorem ml{R:aV}{m:Nat}(ok:d9 R m):d9 (merged R) m:=by
 obtain⟨a,b,c⟩:=gL ok.n0 ok.ins
 have:=ok.n1
 exact⟨b,by omega,ok.m1,mL ok.row,a⟩
theorem kY{R:aV}{m:Nat}(ok:d9 R m):d9 (aZ R) m:=by
 obtain⟨a,b,c,d⟩:=eC ok.ins ok.n0 ok.row
 have:=ok.n1
 exact⟨b,by omega,ok.m1,d,a⟩
theorem b9{N:aV}{n x:Nat}(h:x∈places N n):x<n:=List.mem_range.mp (List.mem_filter.mp h).1
theorem lV(N:aV)(n:Nat):(places N n).length≤n:=by
 have:=List.length_filter_le (dF N) (List.range n)
 rw[List.length_range]at this
 exact this
theorem gb{r:Rl}(ok:bA r):bA (av r):=by
 have o2:=kY (ml (jx ok));have hp:=lV (af r.rs) r.ws.length;have:=ok.nw
 refine⟨ok.s,?_,?_,?_,fun x hx=>?_,fun x hx=>?_⟩
 ·show (List.map _ _).length≤16
  rw[List.length_map]; omega
 ·show 1≤(List.map _ _).length
  rw[List.length_map]; exact o2.n0
 ·show (List.map _ _).length≤60
  rw[List.length_map]; exact o2.n1
 ·obtain⟨y,hy,rfl⟩:=List.mem_map.mp hx
  refine⟨by show (List.map _ _).length=(List.map _ _).length; rw[List.length_map,List.length_map],fun k hk=>?_⟩
  obtain⟨x,hx',e⟩:=List.mem_map.mp hk
  show k<(List.map _ _).length
  rw[List.length_map];refine o2.ins y hy k ?_
  have hlt:x<y.length:=by rw[o2.row y hy]; exact b9 hx'
  rw[List.getD_eq_getElem?_getD,List.getElem?_eq_getElem hlt]at e
  exact e ▸ List.getElem_mem hlt
 ·obtain⟨y,hy,rfl⟩:=List.mem_map.mp hx
  have hlt:=b9 hy;rw[List.getD_eq_getElem?_getD,List.getElem?_eq_getElem hlt];exact ok.lw _ (List.getElem_mem hlt)
def vS:Sp:=fun vs H Q _=>∃ (p:Addr) (r:Rl) (mo:Nat),vs=[.ref p,nV mo]∧r.rs.length≤mo∧RuleAt H p r∧bA r∧∀ (q pw pr:Addr) (H':Hp) (as:List Addr),Same H H'→H' q=some (.tup [.int r.s,.ref pw,.ref pr])→H' pw=some (.lst ((av r).ws.map V.str))→
 NR H H' pr (av r).rs as→H q=none→H pw=none→H pr=none→pw≠pr→pw∉as→Q (.ref q) H'
theorem zd(D:DefAt K mg "least_upto" ax) (z_range:mg "range" = none) (z_len:mg "len" = none) (c_kinds_upto:Cal P w K mg base 3 "kinds_upto" ["rooms", "most"] sq) (c_merged_rooms:Cal P w K mg base 4 "merged_rooms" ["rooms", "kinds"] ph) (c_numbered_rooms:Cal P w K mg base 2 "numbered_rooms" ["rooms"] (yu aZ))
  (c_does_something:Cal P w K mg base 1 "does_something" ["rooms", "place"] uU) (c_picked:Cal P w K mg base 1 "picked" ["things", "places"] pq):Cal P w K mg base 5 "least_upto" ["rule", "most"] vS:=by
 refine D.cal sc_least_upto (fun _ _ _ _ _ _ us hl=>match us,hl with | [_,_],_=>rfl) (fun vs H Q E h=>by obtain⟨p,r,mo,rfl,_⟩:=h; rfl) (fun f cdv A outer s H vs Q E hr h=>?_)
 obtain⟨p,r,mo,rfl,hmo,hR,ok,q⟩:=h
 obtain⟨pw0,pr0,as0,g1,g2,g3⟩:=hR
 have o0:=jx ok;have o1:=ml o0;have o2:=kY o1;have nw:=ok.nw;have hpl:=lV (af r.rs) r.ws.length
 refine⟨_,(ac (az 2 sc_least_upto.nd (aU c_kinds_upto hr (aa (aw (aN K) (pv 0) ah (fun _ _=>rfl)) (aa (pv 1) ab))))
   (ac (bY (aX dY (pv 2) b5 (bd _)) (am (aW b5)) bw)
   (ac (az 3 sc_least_upto.nd (aw (aN K) (pv 0) ah (fun _ _=>rfl)))
   (ac (az 4 sc_least_upto.nd (aU c_numbered_rooms hr (aa (aU c_merged_rooms hr (aa (aw (aN K) (pv 0) ah (fun _ _=>rfl)) (aa (pv 2) ab))) ab)) (hx:=Fe))
   (ac (az 5 sc_least_upto.nd (cW (CompSc.to (fsc:=(defScope ax)) (N:=["rule", "most", "kinds", "words", "rooms", "places"]) (N0:=["rule", "most", "kinds", "words", "rooms", "places"]) (T:=["place"]) ⟨by decide +kernel,by decide +kernel,by decide +kernel,by decide +kernel,by decide +kernel,by decide +kernel,by decide +kernel⟩ rfl rfl) rfl (dc F7 z_range (aa (bp (bK K) z_len b8 (aa (pv 3) ab)) ab)) (fun _ _ _ _=>(bf 6 (show (["rule", "most", "kinds", "words", "rooms", "places", "place"]:List Str).Nodup from by decide +kernel) (hx:=(eh (defScope ax) (by decide +kernel))) (hf:=gP (defScope ax) (by decide +kernel)))) (bZ (show (["rule", "most", "kinds", "words", "rooms", "places"]:List Str).length≤6 from by decide)) (fun _ _ _ _=>(oT (dA (aU c_does_something hr (aa (pv 4 (hv:=(bX (defScope ax) (by decide +kernel)))) (aa (pv 6 (hv:=(bX (defScope ax) (by decide +kernel)))) ab)) (hg:=(rq (defScope ax) (by decide +kernel))))))) (fun _ _ _ _=>(pv 6 (hv:=(bX (defScope ax) (by decide +kernel)))))) (hx:=FE))
   (am (aW (cT (aa (aw (aN K) (pv 0) ah (fun _ _=>rfl)) (aa (aU c_picked hr (aa (pv 3) (aa (pv 5 (hv:=FQ)) ab))) (aa (cW (CompSc.to (fsc:=(defScope ax)) (N:=["rule", "most", "kinds", "words", "rooms", "places"]) (N0:=["rule", "most", "kinds", "words", "rooms", "places"]) (T:=["room"]) ⟨by decide +kernel,by decide +kernel,by decide +kernel,by decide +kernel,by decide +kernel,by decide +kernel,by decide +kernel⟩ rfl rfl) rfl (bT K (pv 4 (hv:=GC))) (fun _ _ _ _=>(bf 6 (show (["rule", "most", "kinds", "words", "rooms", "places", "room"]:List Str).Nodup from by decide +kernel) (hx:=(eh (defScope ax) (by decide +kernel))) (hf:=gP (defScope ax) (by decide +kernel)))) (bZ (show (["rule", "most", "kinds", "words", "rooms", "places"]:List Str).length≤6 from by decide)) (fun _ _ _ _=>cv) (fun _ _ _ _=>(aU c_picked hr (aa (pv 6 (hv:=(bX (defScope ax) (by decide +kernel)))) (aa (pv 5 (hv:=(bX (defScope ax) (by decide +kernel)))) ab)) (hg:=(rq (defScope ax) (by decide +kernel)))))) ab))))))))))),?_⟩
 walk_at "rd1";refine⟨_,_,.inr (SqT.of g1),rfl,?_⟩
 refine⟨pr0,r.rs,r.ws.length,as0,mo,rfl,hmo,g3,o0,fun KP H0 sm0 hKP hl0=>?_⟩
 walk_at "nx";walk_at "nx";refine⟨_,_,.inr (SqT.of (sm0 _ _ g1)),rfl,?_⟩
 walk_at "nx";refine⟨_,_,.inr (SqT.of (sm0 _ _ g1)),rfl,?_⟩
 refine⟨pr0,KP,r.rs,r.ws.length,as0,rfl,g3.mono sm0,o0,hl0,fun M1 H1 bs1 sm1' hM1 hN1=>?_⟩
 have sm1:=sm0.trans sm1';refine⟨M1,merged r.rs,r.ws.length,bs1,rfl,hN1.at',o1,fun M2 H2 bs2 sm2 hM2 hN2=>?_⟩
 have sm12:=sm1.trans sm2;have hN2':=hN2.at';walk_at "nx";refine⟨_,.inl (SqL.of (sm12 _ _ g2)),?_⟩
 rw[List.length_map];walk_at "rd1";refine⟨by omega,by omega,fun L hL=>?_⟩
 refine qO (fun i ys H'=>Same H2 H'∧H' L=some (.lst ys)∧ys=((List.range i).filter (dF (af r.rs))).map nV) ⟨ak hL _,ae,rfl⟩ ?_ ?_
 ·rintro i ys H' hi ⟨sm,hl,rfl⟩
  have hi':i<r.ws.length:=by omega
  have hlen:(((List.range i).filter (dF (af r.rs))).map nV).length≤i:=by
   rw[List.length_map];have:=List.length_filter_le (dF (af r.rs)) (List.range i)
   rw[List.length_range]at this; exact this
  walk_at "rd1";refine⟨M2,af r.rs,r.ws.length,bs2,i,by rw[Int.zero_add],hN2'.mono sm,o2,hi',fun H5 sm5=>?_⟩
  cases hdo:dF (af r.rs) i with
  | false=>
   walk_at "rd1";refine yC hi ⟨sm.trans sm5,sm5 _ _ hl,?_⟩
   rw[List.range_succ,List.filter_append]; simp[hdo]
  | true=>
   walk_at "rd1";refine ui hi hlen (b7 (by omega)) (sm5 _ _ hl) ⟨(sm.trans sm5).upd hL _,ae,?_⟩
   rw[List.range_succ,List.filter_append,List.map_append]; simp[hdo]
 rintro ys H3 ⟨sm3,hl3,rfl⟩
 have hl3':H3 L=some (.lst ((places (af r.rs) r.ws.length).map nV)):=by
  unfold places; rw[hl3]; simp
 have sm13:=sm12.trans sm3;walk_at "nx";refine⟨_,_,.inr (SqT.of (sm13 _ _ g1)),rfl,?_⟩
 refine⟨pw0,L,r.ws.map V.str,places (af r.rs) r.ws.length,rfl,sm13 _ _ g2,hl3',by omega,fun x hx=>by rw[List.length_map]; exact b9 hx,fun W H4 sm4 hW hl4=>?_⟩
 have hws:((places (af r.rs) r.ws.length).map fun x=>(r.ws.map V.str).getD x .non)=(av r).ws.map V.str:=by
  show _=List.map V.str (List.map _ _)
  rw[List.map_map];refine List.map_congr_left fun x hx=>?_
  have hlt:=b9 hx;show _=V.str (r.ws.getD x default)
  rw[List.getD_eq_getElem?_getD,List.getElem?_map,List.getD_eq_getElem?_getD,List.getElem?_eq_getElem hlt]; rfl
 rw[hws]at hl4
 walk_at "rd1";refine⟨⟨_,SqL.of (sm4 _ _ (sm3 _ _ hN2'.1))⟩,fun Z hZ=>?_⟩
 have hN4:=(hN2'.mono sm3).mono sm4;obtain⟨k1,k2,k3⟩:=hN4
 refine cL (xs:=bs2.map V.ref) (fun i ys H'=>∃ cs:List Addr,Same H4 H'∧ys=cs.map V.ref∧cs.length=i∧NR H H' Z ((av r).rs.take i) cs∧W∉cs) ⟨[],ak hZ _,rfl,rfl,⟨⟨ae,rfl,by simp⟩,by simp,List.nodup_nil⟩,by simp⟩ (fun i ys H' _ h=>by obtain⟨_,sm,_⟩:=h; exact SqL.of (sm _ _ k1)) ?_ ?_
 ·rintro i ys H' v hv hi ⟨cs,sm,rfl,hc,hN,hWc⟩
  rw[List.length_map]at hi
  rw[List.getElem?_map,List.getElem?_eq_getElem hi]at hv
  cases hv
  have hi':i<(af r.rs).length:=by
   have:bs2.length=(aZ (merged r.rs)).length:=k2
   show i<(aZ (merged r.rs)).length
   omega
  have hrow:=k3 i _ _ (List.getElem?_eq_getElem hi) (List.getElem?_eq_getElem hi');have hrl:((af r.rs)[i]).length=r.ws.length:=o2.row _ (List.getElem_mem hi')
  walk_at "rd1";refine⟨bs2[i],L,((af r.rs)[i]).map ap,places (af r.rs) r.ws.length,rfl,sm _ _ hrow,sm _ _ (sm4 _ _ hl3'),by omega,fun x hx=>by rw[List.length_map]; have:=b9 hx; omega,fun L' H5 sm5 hL' hl5=>?_⟩
  have hxs:((places (af r.rs) r.ws.length).map fun x=>(((af r.rs)[i]).map ap).getD x .non)=((places (af r.rs) r.ws.length).map fun x=>((af r.rs)[i]).getD x none).map ap:=by
   rw[List.map_map];refine List.map_congr_left fun x hx=>?_
   have hlt:x<((af r.rs)[i]).length:=by have:=b9 hx; omega
   show _=ap (((af r.rs)[i]).getD x none)
   rw[List.getD_eq_getElem?_getD,List.getElem?_map,List.getD_eq_getElem?_getD,List.getElem?_eq_getElem hlt]; rfl
  rw[hxs]at hl5
  have smH:Same H H':=(sm13.trans sm4).trans sm
  have hps:=hN.push sm5 smH hL' hl5;refine dX (by rw[List.length_map]; exact hi) (by rw[List.length_map]; exact hc) (by rw[List.length_map]; have:=o2.n1; exact b7 (by have:bs2.length=(aZ (merged r.rs)).length:=k2; omega)) (sm5 _ _ hN.at'.1) ⟨cs++[L'],?_,by rw[List.map_append]; rfl,by simp[hc],?_,?_⟩
  ·intro b o e
   rw[al (aO e hZ)]; exact sm5 _ _ (sm _ _ e)
  ·have e:(av r).rs.take (i+1)=(av r).rs.take i++[(places (af r.rs) r.ws.length).map fun x=>((af r.rs)[i]).getD x none]:=by
    rw[List.take_add_one];show _++(List.map _ (af r.rs))[i]?.toList=_
    rw[List.getElem?_map,List.getElem?_eq_getElem hi']; rfl
   rw[e]; exact hps
  ·intro z
   rcases List.mem_append.mp z with z | z
   ·exact hWc z
   ·have e:=List.mem_singleton.mp z
    subst e;have:=sm _ _ hl4
    rw[hL']at this; cases this
 rintro ys H5 ⟨cs,sm5,rfl,hc,hN,hWc⟩
 have hfull:(av r).rs.take (bs2.map V.ref).length=(av r).rs:=List.take_of_length_le (by
  show (List.map _ (af r.rs)).length≤_
  rw[List.length_map,List.length_map];have:bs2.length=(aZ (merged r.rs)).length:=k2
  show (aZ (merged r.rs)).length≤_
  omega)
 rw[hfull]at hN
 walk_at "rd1";refine⟨by decide,fun tp htp=>?_⟩
 have st:=ak htp (.tup [.int r.s,.ref W,.ref Z]);have smA:Same H H5:=(sm13.trans sm4).trans sm5
 refine q tp W Z _ cs (smA.trans st) ae (st _ _ (sm5 _ _ hl4)) (hN.mono st) (smA.free htp) (sm13.free hW) ((sm13.trans sm4).free hZ) (aO hl4 hZ) hWc
end
def r_:Sp:=fun vs H Q _=>∃ (o:Option Nat) (n:Nat),vs=[ap o,nV n]∧(∀ k,o=some k→k<n)∧Q (.bl true) H
theorem tu{R:aV}{m:Nat}(ok:d9 R m):Rm R m:=⟨ok.n0,ok.row,ok.ins⟩
theorem cP(r:Rl):(av r).rs=dh (af r.rs) (places (af r.rs) r.ws.length):=rfl
theorem vB(r:Rl):(av r).ws.length=(places (af r.rs) r.ws.length).length:=List.length_map _
def eN(R:aV)(k:Nat):Nat:=(aD (merged R)).idxOf ((ai R).getD k 0)
structure cZ (R:aV) (k:Nat):Prop where
 lt:k<R.length
 mem:(ai R).getD k 0∈aD (merged R)
theorem xm(f:Option Nat→Option Nat)(hf:f none=none)(x:List (Option Nat))(j:Nat):(x.map f).getD j none=f (x.getD j none):=by
 rw[List.getD_eq_getElem?_getD,List.getElem?_map,List.getD_eq_getElem?_getD]
 cases x[j]? with
 | none=>exact hf.symm
 | some y=>rfl
theorem ma{R:aV}(h:1≤R.length):(ai R).getD 0 0=0:=by
 have hl:(ai R).length=R.length:=bH R _
 have hc:=ci R (R.length * R.length) 1
 have e:(iter R (R.length * R.length)).take 1=[(ai R).getD 0 0]:=by
  show (ai R).take 1=_
  cases hk:ai R with
  | nil=>rw[hk]at hl; simp at hl; omega
  | cons a t=>rfl
 rw[e]at hc
 have:aj [] [(ai R).getD 0 0]=[(ai R).getD 0 0]:=by simp[aj]
 rw[this]at hc
 simpa using hc
theorem md(M:aV):(aD M)[0]? = some 0:=jV M _
theorem jJ{R:aV}(h:1≤R.length):cZ R 0:=⟨h,by rw[ma h]; exact List.mem_of_getElem? (md _)⟩
theorem j1{R:aV}(h:1≤R.length):eN R 0=0:=by
 unfold eN;rw[ma h];have:=md (merged R)
 cases hk:aD (merged R) with
 | nil=>rw[hk]at this; cases this
 | cons a t=>
  rw[hk]at this
  have:a=0:=by simpa using this
  rw[this]; simp
theorem ju{R:aV}{k:Nat}(h:cZ R k):eN R k<(af R).length:=by
 rw[leastN_len]; exact List.idxOf_lt_length_iff.mpr h.mem
theorem rG{R:aV}{k:Nat}(h:cZ R k):(af R).getD (eN R k) []=(R.getD k []).map (Option.map (eN R)):=by
 have hlt:=ju h;rw[mw hlt];have e:(aD (merged R))[eN R k]'(by rw[← leastN_len]; exact hlt)=(ai R).getD k 0:=List.getElem_idxOf (List.idxOf_lt_length_iff.mpr h.mem)
 rw[e,← (eR h.lt).2];unfold ff cY;rw[List.map_map];refine List.map_congr_left fun o _=>?_
 cases o <;> rfl
theorem A1{R:aV}{k:Nat}(h:cZ R k)(x:Nat):((af R).getD (eN R k) []).getD x none=((R.getD k []).getD x none).map (eN R):=by
 rw[rG h]; exact xm _ rfl _ _
theorem uK{R:aV}{m:Nat}(hR:Rm R m){k k':Nat}(h:cZ R k)(hk:some k'∈R.getD k []):cZ R k':=by
 have hM:=hR.merged;have hrow:R.getD k []=R[k]'h.lt:=aH h.lt
 refine⟨hR.ins _ (List.getElem_mem h.lt) k' (hrow ▸ hk),?_⟩
 refine dM hM.ins hM.n0 h.mem ?_
 rw[← (eR h.lt).2];exact List.mem_map.mpr ⟨some k',hk,rfl⟩
theorem pW{N:aV}(S:Nat→Prop)(h0:S 0)(hc:∀ j,S j→∀ k,some k∈N.getD j []→S k):∀ t,∀ j∈aG N t,S j
 | 0=>fun j hj=>by simp[aG]at hj; rw[hj]; exact h0
 | t+1=>by
  have ih:=pW S h0 hc t;show ∀ j∈(match (aG N t)[t]? with | some r=>aM (aG N t) (N.getD r []) | none=>aG N t),S j
  cases e:(aG N t)[t]? with
  | none=>exact ih
  | some r=>
   intro j hj
   rcases(dR _ _ _).mp hj with z | z
   ·exact ih j z
   ·exact hc r (ih r (List.mem_of_getElem? e)) j z
theorem uk{R:aV}{m:Nat}(hR:Rm R m)(ks:List Nat)(h0:0∈ks)(hr:∀ k∈ks,cZ R k)(hc:∀ k∈ks,∀ k',some k'∈R.getD k []→k'∈ks){j:Nat}(hj:j<(af R).length):∃ k∈ks,eN R k=j:=by
 have hb:=lf hR.merged j;have hl:=j3 hR hj
 have hm:j∈aG (af R) j:=by
  show j∈aG (aZ (merged R)) j
  rw[hb]; exact List.mem_range.mpr hl
 refine pW (N:=af R) (fun j=>∃ k∈ks,eN R k=j) ⟨0,h0,j1 hR.n0⟩ ?_ j j hm
 rintro i ⟨k,hk,rfl⟩ k' hk'
 rw[rG (hr k hk)]at hk'
 obtain⟨o,ho,e⟩:=List.mem_map.mp hk'
 cases o with
 | none=>cases e
 | some k''=>exact⟨k'',hc k hk k'' ho,Option.some.inj e⟩
def bh(r:Rl)(k:Nat)(y:Str):Option Nat:=if y∈r.ws then (r.rs.getD k []).getD (r.ws.idxOf y) none else some k
theorem eU{l:List Str}(nd:l.Nodup){i:Nat}(h:i<l.length):l.idxOf l[i]=i:=by
 have hm:=List.idxOf_lt_length_iff.mpr (List.getElem_mem h);exact(List.getElem_inj nd (h₀:=hm) (h₁:=h)).mp (List.getElem_idxOf hm)
theorem lK{r:Rl}(nd:r.ws.Nodup):(av r).ws.Nodup:=by
 show ((places (af r.rs) r.ws.length).map fun x=>r.ws.getD x default).Nodup
 have h:(places (af r.rs) r.ws.length).Nodup:=List.Pairwise.filter _ List.nodup_range
 refine List.pairwise_map.mpr (List.Pairwise.imp_of_mem (fun {x y} hx hy hab e=>hab ?_) h)
 have hx':=b9 hx;have hy':=b9 hy;rw[aH hx',aH hy']at e
 exact(List.getElem_inj nd).mp e
theorem lr{r:Rl}(nd:r.ws.Nodup){x:Nat}(hx:x<r.ws.length):r.ws[x]∈(av r).ws ↔ x∈places (af r.rs) r.ws.length:=by
 show r.ws[x]∈((places (af r.rs) r.ws.length).map fun x=>r.ws.getD x default) ↔ _
 constructor
 ·intro h
  obtain⟨y,hy,e⟩:=List.mem_map.mp h
  rw[aH (b9 hy)]at e
  have:=(List.getElem_inj nd).mp e
  exact this ▸ hy
 ·exact fun h=>List.mem_map.mpr ⟨x,h,aH hx⟩
theorem tH{r:Rl}(ok:bA r)(nd:r.ws.Nodup){k:Nat}(h:cZ r.rs k){x:Nat}(hx:x<r.ws.length):bh (av r) (eN r.rs k) r.ws[x]=(bh r k r.ws[x]).map (eN r.rs):=by
 have hlt:=ju h
 have e1:bh r k r.ws[x]=(r.rs.getD k []).getD x none:=by
  unfold bh;rw[if_pos (List.getElem_mem hx),eU nd hx]
 rw[e1,← A1 h];unfold bh
 by_cases hm:r.ws[x]∈(av r).ws
 ·rw[if_pos hm]
  have hpl:=(lr nd hx).mp hm;obtain⟨q,hq,eq⟩:=List.mem_iff_getElem.mp hpl
  have hq':q<(av r).ws.length:=by rw[show (av r).ws=(places (af r.rs) r.ws.length).map (fun x=>r.ws.getD x default) from rfl,List.length_map]; exact hq
  have ew:(av r).ws[q]=r.ws[x]:=by
   have z:(av r).ws[q]? = some r.ws[x]:=by
    rw[show (av r).ws=(places (af r.rs) r.ws.length).map (fun x=>r.ws.getD x default) from rfl,List.getElem?_map,List.getElem?_eq_getElem hq,eq]
    show some (r.ws.getD x default)=_
    rw[aH hx]
   rw[List.getElem?_eq_getElem hq']at z
   exact Option.some.inj z
  have ei:(av r).ws.idxOf r.ws[x]=q:=by rw[← ew]; exact eU (lK nd) hq'
  rw[ei];show ((dh (af r.rs) (places (af r.rs) r.ws.length)).getD (eN r.rs k) []).getD q none=_
  rw[jU hlt,aH (by rw[List.length_map]; exact hq),List.getElem_map,eq]
 ·rw[if_neg hm]
  have hpl:x∉places (af r.rs) r.ws.length:=fun z=>hm ((lr nd hx).mpr z)
  have hd:dF (af r.rs) x=false:=by
   cases hd:dF (af r.rs) x with
   | false=>rfl
   | true=>exact absurd (List.mem_filter.mpr ⟨List.mem_range.mpr hx,hd⟩) hpl
  exact(jY hd hlt).symm
theorem sj{r:Rl}(ok:bA r)(nd:r.ws.Nodup){k k':Nat}(h:k<r.rs.length)(hk:some k'∈r.rs.getD k []):∃ x,∃ hx:x<r.ws.length,bh r k r.ws[x]=some k':=by
 rw[aH h]at hk
 obtain⟨x,hx,e⟩:=List.mem_iff_getElem.mp hk
 have hl:=(ok.row _ (List.getElem_mem h)).1;refine⟨x,by omega,?_⟩
 unfold bh;rw[if_pos (List.getElem_mem _),eU nd (by omega),aH h,aH hx,e]
theorem t9{r:Rl}(ok:bA r)(nd:r.ws.Nodup){k k':Nat}(h:cZ r.rs k){x:Nat}(hx:x<r.ws.length)(e:bh r k r.ws[x]=some k'):cZ r.rs k':=by
 unfold bh at e;have hl:=(ok.row _ (List.getElem_mem h.lt)).1;have hrow:r.rs.getD k []=r.rs[k]'h.lt:=aH h.lt
 rw[if_pos (List.getElem_mem hx),eU nd hx,hrow,aH (by omega)]at e
 refine uK (m:=r.ws.length) ⟨ok.n0,fun x hx=>(ok.row x hx).1,fun x hx=>(ok.row x hx).2⟩ h ?_
 rw[hrow,← e]; exact List.getElem_mem _
theorem xS{x y:Str}(h:x.cps.toList=y.cps.toList):x=y:=by
 cases x; cases y
 have:=Array.ext' h
 simp_all
theorem kM:∀ (xs:List Str),sortedS xs=true→xs.Pairwise (fun a b=>a.cps.toList≤b.cps.toList)
 | [],_=>.nil
 | [x],_=>by simp
 | x::y::r,h=>by
  have h':(!ltCps y.cps.toList x.cps.toList&&sortedS (y::r))=true:=h
  rw[Bool.and_eq_true,ltCps_eq]at h'
  have h1:x.cps.toList≤y.cps.toList:=List.not_lt.mp (by simpa using h'.1)
  have ih:=kM (y::r) h'.2;refine List.pairwise_cons.mpr ⟨fun z hz=>?_,ih⟩
  rcases List.mem_cons.mp hz with rfl | hz
  ·exact h1
  ·exact List.le_trans h1 ((List.pairwise_cons.mp ih).1 z hz)
theorem nJ{xs ys:List Str}(n1:xs.Nodup)(n2:ys.Nodup)(s1:sortedS xs=true)(s2:sortedS ys=true)(h:∀ x,x∈xs ↔ x∈ys):xs=ys:=
 ((List.perm_ext_iff_of_nodup n1 n2).mpr h).eq_of_pairwise (fun a b _ _ z1 z2=>xS (List.le_antisymm z1 z2)) (kM xs s1) (kM ys s2)
theorem mv:∀ (xs:List Str),xs.Pairwise (fun a b=>a.cps.toList≤b.cps.toList)→sortedS xs=true
 | [],_=>rfl
 | [x],_=>rfl
 | x::y::r,h=>by
  obtain⟨h1,h2⟩:=List.pairwise_cons.mp h
  show (!ltCps y.cps.toList x.cps.toList&&sortedS (y::r))=true
  rw[mv (y::r) h2,ltCps_eq];have:=List.not_lt.mpr (h1 y List.mem_cons_self)
  simpa using this
structure rK (R:aV):Prop where
 rng:∀ t,aG R t=List.range (aG R t).length
 led:∀ t,t<R.length→t<(aG R t).length
theorem oB{r:Rl}(ok:bA r):rK (av r).rs:=by
 have h:=tu (jx ok);refine⟨fun t=>?_,fun t ht=>?_⟩
 ·rw[cP,nZ h,List.length_range]
 ·rw[cP,cS]at ht
  rw[cP,nZ h,List.length_range];exact j3 h ht
theorem lb{r:Rl}(ok:bA r):ai (av r).rs=List.range (av r).rs.length:=by
 have h:=tu (jx ok);rw[cP,qI h,cS]
abbrev Pr:=Option Nat × Option Nat
def eF(r:Rl)(o:Option Nat)(y:Str):Option Nat:=o.bind fun k=>bh r k y
def bN(a b:Rl)(p:Pr)(y:Str):Pr:=(eF a p.1 y,eF b p.2 y)
def j5(a b:Rl)(p:Pr):Prop:=(∀ k,p.1=some k→k<a.rs.length)∧∀ k,p.2=some k→k<b.rs.length
theorem xg{r:Rl}(ok:bA r){k k':Nat}{y:Str}(hk:k<r.rs.length)(e:bh r k y=some k'):k'<r.rs.length:=by
 unfold bh at e
 by_cases h:y∈r.ws
 ·rw[if_pos h,aH hk]at e
  have hx:=ok.row _ (List.getElem_mem hk);have hi:r.ws.idxOf y<(r.rs[k]).length:=by rw[hx.1]; exact List.idxOf_lt_length_iff.mpr h
  rw[aH hi]at e
  exact hx.2 k' (e ▸ List.getElem_mem hi)
 ·rw[if_neg h]at e
  cases e; exact hk
theorem qv{r:Rl}(ok:bA r){o:Option Nat}{y:Str}(ho:∀ k,o=some k→k<r.rs.length):∀ k,eF r o y=some k→k<r.rs.length:=fun k e=>by
 cases o with
 | none=>cases e
 | some j=>exact xg ok (ho j rfl) e
theorem BU{a b:Rl}(oa:bA a)(ob:bA b){p:Pr}(h:j5 a b p)(y:Str):j5 a b (bN a b p y):=⟨qv oa h.1,qv ob h.2⟩
theorem qy{a b:Rl}{y:Str}(ha:y∉a.ws)(hb:y∉b.ws)(p:Pr):bN a b p y=p:=by
 obtain⟨p1,p2⟩:=p
 have e1:eF a p1 y=p1:=by
  cases p1 with
  | none=>rfl
  | some k=>show bh a k y=some k; unfold bh; rw[if_neg ha]
 have e2:eF b p2 y=p2:=by
  cases p2 with
  | none=>rfl
  | some k=>show bh b k y=some k; unfold bh; rw[if_neg hb]
 show (eF a p1 y,eF b p2 y)=_
 rw[e1,e2]
def bL(br:Pr→Bool)(o:List Pr)(t:Pr):List Pr:=if t∈o then o else if br t then o else o++[t]
def cr(a b:Rl)(us:List Str)(p:Pr):List Pr:=us.map (bN a b p)
def aA(br:Pr→Bool)(a b:Rl)(us:List Str):Nat→List Pr
 | 0=>[(some 0,some 0)]
 | r+1=>if r<(aA br a b us r).length then (cr a b us ((aA br a b us r).getD r (none,none))).foldl (bL br) (aA br a b us r) else aA br a b us r
def bv(br:Pr→Bool)(a b:Rl)(us:List Str)(r:Nat):Pr:=(aA br a b us r).getD r (none,none)
def dg(o:List Pr)(t:Pr):Option Nat:=if t∈o then some (o.idxOf t) else none
def cq(br:Pr→Bool)(a b:Rl)(us:List Str)(r:Nat):List (Option Nat):=(cr a b us (bv br a b us r)).map (dg (aA br a b us (r+1)))
def bm(br:Pr→Bool)(a b:Rl)(us:List Str)(M:Nat):Rl:=⟨a.s,us,(List.range M).map (cq br a b us)⟩
section
variable{br:Pr→Bool}{a b:Rl}{us:List Str}
theorem u7(o:List Pr)(t:Pr):∃ x,bL br o t=o++x:=by
 unfold bL; split
 ·exact⟨[],by simp⟩
 ·split
  ·exact⟨[],by simp⟩
  ·exact⟨_,rfl⟩
theorem eZ:∀ (ts o:List Pr),∃ x,ts.foldl (bL br) o=o++x
 | [],o=>⟨[],by simp⟩
 | t::ts,o=>by
  obtain⟨x,e⟩:=u7 (br:=br) o t
  obtain⟨y,e2⟩:=eZ ts (bL br o t)
  exact⟨x++y,by rw[List.foldl_cons,e2,e,List.append_assoc]⟩
structure gJ (br:Pr→Bool) (a b:Rl) (o:List Pr):Prop where
 nd:o.Nodup
 inn:∀ t∈o,j5 a b t
 nb:∀ t∈o,br t=false
theorem uT{o:List Pr}{t:Pr}(h:gJ br a b o)(ht:j5 a b t):gJ br a b (bL br o t):=by
 unfold bL; split
 ·exact h
 ·rename_i hn
  split
  ·exact h
  ·rename_i hb
   refine⟨List.nodup_append.mpr ⟨h.nd,by simp,fun x hx y hy e=>hn (by rw[List.mem_singleton.mp hy]at e; exact e ▸ hx)⟩,fun x hx=>?_,fun x hx=>?_⟩
   ·rcases List.mem_append.mp hx with z | z
    ·exact h.inn x z
    ·rw[List.mem_singleton.mp z]; exact ht
   ·rcases List.mem_append.mp hx with z | z
    ·exact h.nb x z
    ·rw[List.mem_singleton.mp z]; simpa using hb
theorem kr:∀ (ts:List Pr) {o:List Pr},gJ br a b o→(∀ t∈ts,j5 a b t)→gJ br a b (ts.foldl (bL br) o)
 | [],o,h,_=>h
 | t::ts,o,h,ht=>kr ts (uT h (ht t (by simp))) fun x hx=>ht x (by simp[hx])
theorem rX(oa:bA a)(ob:bA b){p:Pr}(h:j5 a b p):∀ t∈cr a b us p,j5 a b t:=fun t ht=>by
 obtain⟨y,_,rfl⟩:=List.mem_map.mp ht
 exact BU oa ob h y
theorem getD_mem{o:List Pr}{r:Nat}(h:r<o.length):o.getD r (none,none)∈o:=by
 rw[aH h]; exact List.getElem_mem h
theorem gh(oa:bA a)(ob:bA b)(h0:br (some 0,some 0)=false):∀ r,gJ br a b (aA br a b us r)∧1≤(aA br a b us r).length
 | 0=>⟨⟨by simp[aA],fun t ht=>by
   simp[aA]at ht
   rw[ht]; exact⟨fun k e=>by cases e; have:=oa.n0; omega,fun k e=>by cases e; have:=ob.n0; omega⟩,fun t ht=>by simp[aA]at ht; rw[ht]; exact h0⟩,by simp[aA]⟩
 | r+1=>by
  obtain⟨h,h1⟩:=gh oa ob h0 r
  unfold aA;split
  ·rename_i hr
   obtain⟨x,e⟩:=eZ (br:=br) (cr a b us ((aA br a b us r).getD r (none,none))) (aA br a b us r)
   exact⟨kr _ h (rX oa ob (h.inn _ (getD_mem hr))),by rw[e,List.length_append]; omega⟩
  ·exact⟨h,h1⟩
theorem iH(r:Nat):∀ s,∃ x,aA br a b us (r+s)=aA br a b us r++x
 | 0=>⟨[],by simp⟩
 | s+1=>by
  obtain⟨x,e⟩:=iH r s
  show ∃ x,(if r+s<(aA br a b us (r+s)).length then _ else aA br a b us (r+s))=_
  split
  ·obtain⟨y,e2⟩:=eZ (br:=br) (cr a b us ((aA br a b us (r+s)).getD (r+s) (none,none))) (aA br a b us (r+s))
   exact⟨x++y,e2.trans (by rw[e,List.append_assoc])⟩
  ·exact⟨x,e⟩
theorem kf:∀ (ts o:List Pr) {t:Pr},t∈ts→br t=false→t∈ts.foldl (bL br) o
 | t'::ts,o,t,h,hn=>by
  rcases List.mem_cons.mp h with e | h
  ·subst e
   obtain⟨x,e⟩:=eZ (br:=br) ts (bL br o t)
   rw[List.foldl_cons,e];refine List.mem_append_left _ ?_
   unfold bL; split
   ·assumption
   ·rw[if_neg (by rw[hn]; decide)]; simp
  ·exact kf ts _ h hn
theorem xc{o x:List Pr}{t:Pr}(h:t∈o∨t∉o++x):dg (o++x) t=dg o t:=by
 unfold dg;rcases h with h | h
 ·rw[if_pos h,if_pos (List.mem_append_left _ h),List.idxOf_append,if_pos h]
 ·rw[if_neg h,if_neg (fun z=>h (List.mem_append_left _ z))]
structure Whole (br:Pr→Bool) (a b:Rl) (us:List Str) (M:Nat):Prop where
 oa:bA a
 ob:bA b
 b0:br (some 0,some 0)=false
 ws:∀ y,y∈us ↔ y∈a.ws∨y∈b.ws
 nd:us.Nodup
 M1:M=(aA br a b us M).length
theorem Whole.ord(h:Whole br a b us M):gJ br a b (aA br a b us M):=(gh h.oa h.ob h.b0 M).1
theorem Whole.zero(h:Whole br a b us M):(aA br a b us M)[0]? = some (some 0,some 0):=by
 obtain⟨x,e⟩:=iH (br:=br) (a:=a) (b:=b) (us:=us) 0 M
 rw[Nat.zero_add]at e
 rw[e]; rfl
theorem Whole.pos(h:Whole br a b us M):1≤M:=by rw[h.M1]; exact(gh h.oa h.ob h.b0 M).2
theorem Whole.here(h:Whole br a b us M){i:Nat}(hi:i<M):i<(aA br a b us i).length∧bv br a b us i=(aA br a b us M)[i]'(by rw[← h.M1]; exact hi):=by
 have hl:i<(aA br a b us i).length:=by
  refine Classical.byContradiction fun hn=>?_
  have hfix:∀ k,aA br a b us (i+k)=aA br a b us i:=by
   intro k
   induction k with
   | zero=>rfl
   | succ k ih=>
    show (if i+k<(aA br a b us (i+k)).length then _ else aA br a b us (i+k))=_
    rw[if_neg (by rw[ih]; omega),ih]
  have e:=hfix (M - i);rw[show i+(M - i)=M by omega]at e
  have:=h.M1
  rw[e]at this
  omega
 refine⟨hl,?_⟩
 obtain⟨x,e⟩:=iH (br:=br) (a:=a) (b:=b) (us:=us) i (M - i)
 rw[show i+(M - i)=M by omega]at e
 unfold bv;rw[aH hl];have:(aA br a b us M)[i]? = some ((aA br a b us i)[i]):=by rw[e,List.getElem?_append_left hl,List.getElem?_eq_getElem hl]
 rw[List.getElem?_eq_getElem (by rw[← h.M1]; exact hi)]at this
 exact(Option.some.inj this).symm
theorem Whole.next(h:Whole br a b us M){i:Nat}(hi:i<M):aA br a b us (i+1)=(cr a b us (bv br a b us i)).foldl (bL br) (aA br a b us i):=by
 show (if i<(aA br a b us i).length then _ else _)=_
 rw[if_pos (h.here hi).1]; rfl
theorem Whole.num(h:Whole br a b us M){i:Nat}(hi:i<M){t:Pr}(ht:t∈cr a b us (bv br a b us i)):dg (aA br a b us (i+1)) t=if br t then none else some ((aA br a b us M).idxOf t):=by
 obtain⟨x,e⟩:=iH (br:=br) (a:=a) (b:=b) (us:=us) (i+1) (M - (i+1))
 rw[show i+1+(M - (i+1))=M by omega]at e
 have o1:=(gh (us:=us) h.oa h.ob h.b0 (i+1)).1
 cases hb:br t with
 | true=>
  have:t∉aA br a b us (i+1):=fun z=>by have:=o1.nb t z; rw[hb]at this; cases this
  unfold dg;rw[if_neg this,if_pos rfl]
 | false=>
  have hm:t∈aA br a b us (i+1):=by rw[h.next hi]; exact kf _ _ ht hb
  rw[if_neg (by decide),e,List.idxOf_append,if_pos hm]
  unfold dg;rw[if_pos hm]
theorem Whole.closed(h:Whole br a b us M){i:Nat}(hi:i<M){y:Str}(hb:br (bN a b ((aA br a b us M)[i]'(by rw[← h.M1]; exact hi)) y)=false):bN a b ((aA br a b us M)[i]'(by rw[← h.M1]; exact hi)) y∈aA br a b us M:=by
 by_cases hy:y∈us
 ·obtain⟨x,e⟩:=iH (br:=br) (a:=a) (b:=b) (us:=us) (i+1) (M - (i+1))
  rw[show i+1+(M - (i+1))=M by omega]at e
  have hm:bN a b ((aA br a b us M)[i]'(by rw[← h.M1]; exact hi)) y∈aA br a b us (i+1):=by
   rw[h.next hi,(h.here hi).2];exact kf _ _ (List.mem_map.mpr ⟨y,hy,rfl⟩) hb
  have:=List.mem_append_left x hm
  rw[← e]at this
  exact this
 ·rw[h.ws,not_or]at hy
  rw[qy hy.1 hy.2];exact List.getElem_mem _
theorem eP(M:Nat):(bm br a b us M).rs.length=M:=by simp[bm]
theorem xk{M i:Nat}(hi:i<M):(bm br a b us M).rs.getD i []=cq br a b us i:=by
 rw[aH (by rw[eP]; exact hi)]
 simp[bm]
theorem jT(i:Nat):(cq br a b us i).length=us.length:=by unfold cq cr; simp
theorem Whole.step(h:Whole br a b us M){i:Nat}(hi:i<M)(y:Str):bh (bm br a b us M) i y=if br (bN a b ((aA br a b us M)[i]'(by rw[← h.M1]; exact hi)) y) then none else some ((aA br a b us M).idxOf (bN a b ((aA br a b us M)[i]'(by rw[← h.M1]; exact hi)) y)):=by
 have hM:=h.M1;unfold bh
 by_cases hy:y∈us
 ·rw[if_pos (show y∈(bm br a b us M).ws from hy),xk hi]
  have hx:us.idxOf y<us.length:=List.idxOf_lt_length_iff.mpr hy
  show (cq br a b us i).getD (us.idxOf y) none=_
  rw[aH (by rw[jT]; exact hx)]
  have e1:(cq br a b us i)[us.idxOf y]'(by rw[jT]; exact hx)=dg (aA br a b us (i+1)) (bN a b (bv br a b us i) y):=by
   simp only[cq,cr,List.getElem_map,List.getElem_idxOf hx]
  rw[e1,h.num hi (List.mem_map.mpr ⟨y,hy,rfl⟩),(h.here hi).2]
 ·rw[if_neg (show y∉(bm br a b us M).ws from hy)]
  have hy':=hy;rw[h.ws,not_or]at hy'
  have hm:(aA br a b us M)[i]'(by omega)∈aA br a b us M:=List.getElem_mem _
  rw[qy hy'.1 hy'.2,h.ord.nb _ hm,if_neg (by decide)]
  have:=h.ord.nd.idxOf_getElem i (by omega)
  rw[this]
theorem Whole.rl(h:Whole br a b us M)(hM:M≤60)(hu:us.length≤16)(hl:∀ u∈us,u.length≤10):bA (bm br a b us M):=by
 refine⟨h.oa.s,hu,by rw[eP]; exact h.pos,by rw[eP]; exact hM,fun x hx=>?_,hl⟩
 obtain⟨i,hi,rfl⟩:=List.mem_map.mp hx
 have hi':=List.mem_range.mp hi;refine⟨jT i,fun k hk=>?_⟩
 rw[eP];unfold cq at hk;obtain⟨t,ht,e⟩:=List.mem_map.mp hk
 rw[h.num hi' ht]at e
 split at e
 ·cases e
 ·rename_i hb
  have hb':br t=false:=by simpa using hb
  cases e;obtain⟨y,hy,rfl⟩:=List.mem_map.mp ht
  rw[(h.here hi').2]at hb' ⊢
  have:=h.closed hi' hb'
  conv=>rhs; rw[h.M1]
  exact List.idxOf_lt_length_iff.mpr this
end
theorem xM{n x y x' y':Nat}(h1:y<n)(h2:y'<n)(e:x * n+y=x' * n+y'):x=x'∧y=y':=by
 have a1:(x * n+y) % n=y:=by rw[Nat.add_comm,Nat.add_mul_mod_self_right,Nat.mod_eq_of_lt h1]
 have a2:(x' * n+y') % n=y':=by rw[Nat.add_comm,Nat.add_mul_mod_self_right,Nat.mod_eq_of_lt h2]
 have ey:y=y':=by rw[← a1,← a2,e]
 subst ey;exact⟨Nat.eq_of_mul_eq_mul_right (by omega) (show x * n=x' * n by omega),rfl⟩
def ku:Option Nat→Nat
 | none=>0
 | some k=>k+1
theorem kP{o:Option Nat}{n:Nat}(h:∀ k,o=some k→k<n):ku o<n+1:=by
 cases o with
 | none=>exact Nat.succ_pos _
 | some k=>exact Nat.succ_lt_succ (h k rfl)
theorem pC{o o':Option Nat}(h:ku o=ku o'):o=o':=by
 cases o <;> cases o' <;> simp[ku]at h ⊢ <;> omega
def qz(n:Nat)(p:Pr):Nat:=ku p.1 * (n+1)+ku p.2
theorem yZ{a b:Rl}{p:Pr}(h:j5 a b p):qz b.rs.length p<(a.rs.length+1) * (b.rs.length+1):=by
 have h1:=kP h.1;have h2:=kP h.2;unfold qz;generalize ku p.1=x at h1;generalize ku p.2=y at h2
 calc x * (b.rs.length+1)+y<x * (b.rs.length+1)+(b.rs.length+1):=by omega
  _=(x+1) * (b.rs.length+1):=by rw[Nat.add_mul,Nat.one_mul]
  _≤(a.rs.length+1) * (b.rs.length+1):=Nat.mul_le_mul_right _ (by omega)
theorem xJ{a b:Rl}{p q:Pr}(h:j5 a b p)(h':j5 a b q)(e:qz b.rs.length p=qz b.rs.length q):p=q:=by
 obtain⟨e1,e2⟩:=xM (kP h.2) (kP h'.2) e
 exact Prod.ext (pC e1) (pC e2)
theorem wH{br:Pr→Bool}{a b:Rl}{o:List Pr}(h:gJ br a b o):o.length≤(a.rs.length+1) * (b.rs.length+1):=by
 have:=fV ((a.rs.length+1) * (b.rs.length+1)) (o.map (qz b.rs.length)) (List.pairwise_map.mpr (List.Pairwise.imp_of_mem (fun {x y} hx hy hab e=>hab (xJ (h.inn x hx) (h.inn y hy) e)) h.nd)) (fun x hx=>by
  obtain⟨t,ht,rfl⟩:=List.mem_map.mp hx
  exact yZ (h.inn t ht))
 rwa [List.length_map]at this
structure Alike (a b:Rl) (E:Nat→Nat→Prop):Prop where
 z:E 0 0
 lt:∀ i j,E i j→i<a.rs.length∧j<b.rs.length
 st:∀ i j y,E i j→(bh a i y=none∧bh b j y=none)∨∃ i' j',bh a i y=some i'∧bh b j y=some j'∧E i' j'
theorem Alike.symm{a b:Rl}{E:Nat→Nat→Prop}(h:Alike a b E):Alike b a (fun j i=>E i j):=
 ⟨h.z,fun i j e=>(h.lt j i e).symm,fun i j y e=>by
  rcases h.st j i y e with ⟨h1,h2⟩ | ⟨i',j',h1,h2,h3⟩
  ·exact .inl ⟨h2,h1⟩
  ·exact .inr ⟨j',i',h2,h1,h3⟩⟩
structure pT (A:Rl):Prop where
 ok:bA A
 nd:A.ws.Nodup
 so:sortedS A.ws=true
 ks:ai A.rs=List.range A.rs.length
 io:rK A.rs
 ds:∀ y∈A.ws,∃ i,i<A.rs.length∧bh A i y≠some i
theorem Alike.total{a b:Rl}{E:Nat→Nat→Prop}(h:Alike a b E)(A:pT a):∀ i,i<a.rs.length→∃ j,E i j:=by
 intro i hi
 have hm:i∈aG a.rs i:=by rw[A.io.rng i]; exact List.mem_range.mpr (A.io.led i hi)
 refine pW (N:=a.rs) (fun i=>∃ j,E i j) ⟨0,h.z⟩ ?_ i i hm
 rintro k ⟨j,e⟩ k' hk
 obtain⟨x,hx,ex⟩:=sj A.ok A.nd (h.lt k j e).1 hk
 rcases h.st k j _ e with ⟨h1,_⟩ | ⟨i',j',h1,_,h3⟩
 ·rw[ex]at h1; cases h1
 ·rw[ex]at h1; cases h1; exact⟨j',h3⟩
theorem iP{A:Rl}(ok:bA A)(nd:A.ws.Nodup){u p:Nat}(hu:u<A.rs.length)(hp:p<A.ws.length):(A.rs.getD u [])[p]? = some (bh A u A.ws[p]):=by
 have hl:=(ok.row _ (List.getElem_mem hu)).1;unfold bh;rw[if_pos (List.getElem_mem hp),eU nd hp,aH hu,aH (by omega),List.getElem?_eq_getElem (by omega)]
theorem Alike.inj{a b:Rl}{E:Nat→Nat→Prop}(h:Alike a b E)(B:pT b){i j j':Nat}(e1:E i j)(e2:E i j'):j=j':=by
 have key:=jE (R:=b.rs) (fun u v=>∃ i,E i u∧E i v) (fun u v huv hu hv p=>by
  obtain⟨i,e1,e2⟩:=huv
  have lu:=(B.ok.row _ (List.getElem_mem hu)).1;have lv:=(B.ok.row _ (List.getElem_mem hv)).1
  by_cases hp:p<b.ws.length
  ·rw[iP B.ok B.nd hu hp,iP B.ok B.nd hv hp]
   rcases h.st i u b.ws[p] e1 with ⟨h1,h2⟩ | ⟨i',x,h1,h2,h3⟩
   ·rcases h.st i v b.ws[p] e2 with ⟨g1,g2⟩ | ⟨i2,y,g1,g2,g3⟩
    ·rw[h2,g2]; exact .inr (.inl ⟨rfl,rfl⟩)
    ·rw[h1]at g1; cases g1
   ·rcases h.st i v b.ws[p] e2 with ⟨g1,g2⟩ | ⟨i2,y,g1,g2,g3⟩
    ·rw[h1]at g1; cases g1
    ·rw[h1]at g1; cases g1
     rw[h2,g2];exact .inr (.inr ⟨x,y,rfl,rfl,⟨i',h3,g3⟩,(h.lt _ _ h3).2,(h.lt _ _ g3).2⟩)
  ·refine .inl ⟨?_,?_⟩
   ·rw[aH hu,List.getElem?_eq_none_iff]; omega
   ·rw[aH hv,List.getElem?_eq_none_iff]; omega)
 have hj:=(h.lt _ _ e1).2;have hj':=(h.lt _ _ e2).2;have e:(ai b.rs)[j]? = (ai b.rs)[j']?:=key _ j j' ⟨i,e1,e2⟩ hj hj'
 rw[B.ks,List.getElem?_range hj,List.getElem?_range hj']at e
 exact Option.some.inj e
theorem Alike.word{a b:Rl}{E:Nat→Nat→Prop}(h:Alike a b E)(A:pT a)(B:pT b){y:Str}(hy:y∈a.ws):y∈b.ws:=by
 obtain⟨i,hi,hn⟩:=A.ds y hy
 obtain⟨j,e⟩:=h.total A i hi
 refine Classical.byContradiction fun hb=>?_
 have e2:bh b j y=some j:=by unfold bh; rw[if_neg hb]
 rcases h.st i j y e with ⟨_,h2⟩ | ⟨i',j',h1,h2,h3⟩
 ·rw[e2]at h2; cases h2
 ·rw[e2]at h2; cases h2
  have:i'=i:=h.symm.inj A h3 e
  rw[this]at h1
  exact hn h1
inductive Beside2 (E:Nat→Nat→Prop):List Nat→List Nat→Prop where
 | nil:Beside2 E [] []
 | cons {a b:Nat} {s t:List Nat}:E a b→Beside2 E s t→Beside2 E (a::s) (b::t)
theorem Beside2.len{E:Nat→Nat→Prop}{s t:List Nat}(h:Beside2 E s t):s.length=t.length:=by
 induction h with
 | nil=>rfl
 | cons _ _ ih=>simp[ih]
theorem Beside2.get{E:Nat→Nat→Prop}{s t:List Nat}(h:Beside2 E s t):∀ (i a b:Nat),s[i]? = some a→t[i]? = some b→E a b:=by
 induction h with
 | nil=>intro i a b e; simp at e
 | cons h1 _ ih=>
  intro i a b e1 e2
  cases i with
  | zero=>simp at e1 e2; rw[← e1,← e2]; exact h1
  | succ i=>exact ih i a b (by simpa using e1) (by simpa using e2)
theorem Beside2.snoc{E:Nat→Nat→Prop}{s t:List Nat}{a b:Nat}(h:Beside2 E s t)(e:E a b):Beside2 E (s++[a]) (t++[b]):=by
 induction h with
 | nil=>exact .cons e .nil
 | cons h1 _ ih=>exact .cons h1 ih
theorem Beside2.mem{E:Nat→Nat→Prop}(inj:∀ i j j',E i j→E i j'→j=j')(inj':∀ i i' j,E i j→E i' j→i=i'){s t:List Nat}(h:Beside2 E s t){a b:Nat}(e:E a b):a∈s ↔ b∈t:=by
 induction h with
 | nil=>simp
 | @cons x y _ _ h1 _ ih=>
  rw[List.mem_cons,List.mem_cons,ih]
  constructor
  ·rintro(z | z)
   ·subst z; exact .inl (inj _ _ _ e h1)
   ·exact .inr z
  ·rintro(z | z)
   ·subst z; exact .inl (inj' _ _ _ e h1)
   ·exact .inr z
theorem Beside2.grow{E:Nat→Nat→Prop}(inj:∀ i j j',E i j→E i j'→j=j')(inj':∀ i i' j,E i j→E i' j→i=i'):∀ (x y:List (Option Nat)) {s t:List Nat},Beside2 E s t→x.length=y.length→(∀ p:Nat,p<x.length→(x[p]? = some none∧y[p]? = some none)∨∃ u v,x[p]? = some (some u)∧y[p]? = some (some v)∧E u v)→Beside2 E (aM s x) (aM t y)
 | [],[],s,t,h,_,_=>h
 | [],_::_,_,_,_,hl,_=>by simp at hl
 | _::_,[],_,_,_,hl,_=>by simp at hl
 | o::x,o'::y,s,t,h,hl,hp=>by
  have hr:∀ p:Nat,p<x.length→(x[p]? = some none∧y[p]? = some none)∨∃ u v,x[p]? = some (some u)∧y[p]? = some (some v)∧E u v:=fun p hp'=>by
   have:=hp (p+1) (by simpa using hp')
   simpa using this
  have hl':x.length=y.length:=by simpa using hl
  rcases hp 0 (by simp) with ⟨h1,h2⟩ | ⟨u,v,h1,h2,h3⟩
  ·have e1:o=none:=by simpa using h1
   have e2:o'=none:=by simpa using h2
   subst e1 e2;exact Beside2.grow inj inj' x y h hl' hr
  ·have e1:o=some u:=by simpa using h1
   have e2:o'=some v:=by simpa using h2
   subst e1 e2;show Beside2 E (aM (if u∈s then s else s++[u]) x) (aM (if v∈t then t else t++[v]) y)
   refine Beside2.grow inj inj' x y ?_ hl' hr
   by_cases c:u∈s
   ·rw[if_pos c,if_pos ((h.mem inj inj' h3).mp c)]; exact h
   ·rw[if_neg c,if_neg (fun z=>c ((h.mem inj inj' h3).mpr z))]; exact h.snoc h3
theorem Alike.one{A B:Rl}{E:Nat→Nat→Prop}(h:Alike A B E)(hs:A.s=B.s)(LA:pT A)(LB:pT B):A=B:=by
 have inj:∀ i j j',E i j→E i j'→j=j':=fun i j j' e1 e2=>h.inj LB e1 e2
 have inj':∀ i i' j,E i j→E i' j→i=i':=fun i i' j e1 e2=>h.symm.inj LA e1 e2
 have hw:A.ws=B.ws:=nJ LA.nd LB.nd LA.so LB.so fun y=>⟨h.word LA LB,h.symm.word LB LA⟩
 have row:∀ i j,E i j→∀ p:Nat,p<A.ws.length→((A.rs.getD i [])[p]? = some none∧(B.rs.getD j [])[p]? = some none)∨∃ u v,(A.rs.getD i [])[p]? = some (some u)∧(B.rs.getD j [])[p]? = some (some v)∧E u v:=fun i j e p hp=>by
  have hp':p<B.ws.length:=by rw[← hw]; exact hp
  have hww:B.ws[p]=A.ws[p]:=by simp only[hw]
  rw[iP LA.ok LA.nd (h.lt _ _ e).1 hp,iP LB.ok LB.nd (h.lt _ _ e).2 hp',hww];rcases h.st i j A.ws[p] e with ⟨h1,h2⟩ | ⟨i',j',h1,h2,h3⟩
  ·exact .inl ⟨by rw[h1],by rw[h2]⟩
  ·exact .inr ⟨i',j',by rw[h1],by rw[h2],h3⟩
 have rl:∀ i,i<A.rs.length→(A.rs.getD i []).length=A.ws.length:=fun i hi=>by rw[aH hi]; exact(LA.ok.row _ (List.getElem_mem hi)).1
 have rl':∀ i,i<B.rs.length→(B.rs.getD i []).length=A.ws.length:=fun i hi=>by rw[aH hi,hw]; exact(LB.ok.row _ (List.getElem_mem hi)).1
 have hb:∀ t,Beside2 E (aG A.rs t) (aG B.rs t):=by
  intro t
  induction t with
  | zero=>exact .cons h.z .nil
  | succ t ih=>
   show Beside2 E (match (aG A.rs t)[t]? with | some r=>aM (aG A.rs t) (A.rs.getD r []) | none=>aG A.rs t) (match (aG B.rs t)[t]? with | some r=>aM (aG B.rs t) (B.rs.getD r []) | none=>aG B.rs t)
   cases e:(aG A.rs t)[t]? with
   | none=>
    have:(aG B.rs t)[t]? = none:=by rw[List.getElem?_eq_none_iff]at e ⊢; rw[← ih.len]; exact e
    rw[this]; exact ih
   | some r=>
    have hlt:t<(aG B.rs t).length:=by rw[← ih.len]; exact(List.getElem?_eq_some_iff.mp e).1
    rw[List.getElem?_eq_getElem hlt];have er:=ih.get t r _ e (List.getElem?_eq_getElem hlt);have hlt2:=h.lt _ _ er;exact Beside2.grow inj inj' _ _ ih (by rw[rl _ hlt2.1,rl' _ hlt2.2]) (fun p hp=>row _ _ er p (by rw[← rl _ hlt2.1]; exact hp))
 have same:∀ i,i<A.rs.length→E i i:=fun i hi=>by
  have h1:=LA.io.led i hi;have h2:=hb i;have hl:=h2.len;refine h2.get i i i ?_ ?_
  ·rw[LA.io.rng i,List.getElem?_range h1]
  ·rw[LB.io.rng i,List.getElem?_range (by omega)]
 have same':∀ i,i<B.rs.length→E i i:=fun i hi=>by
  have h1:=LB.io.led i hi;have h2:=hb i;have hl:=h2.len;refine h2.get i i i ?_ ?_
  ·rw[LA.io.rng i,List.getElem?_range (by omega)]
  ·rw[LB.io.rng i,List.getElem?_range h1]
 have hlen:A.rs.length=B.rs.length:=by
  refine Nat.le_antisymm ?_ ?_
  ·refine Nat.le_of_not_lt fun c=>?_
   have:=(h.lt _ _ (same B.rs.length c)).2; omega
  ·refine Nat.le_of_not_lt fun c=>?_
   have:=(h.lt _ _ (same' A.rs.length c)).1; omega
 have hrs:A.rs=B.rs:=by
  refine List.ext_getElem hlen fun i h1 h2=>?_
  have e1:A.rs.getD i []=A.rs[i]:=aH h1
  have e2:B.rs.getD i []=B.rs[i]:=aH h2
  refine List.ext_getElem? fun p=>?_
  rw[← e1,← e2]
  by_cases hp:p<A.ws.length
  ·rcases row i i (same i h1) p hp with ⟨z1,z2⟩ | ⟨u,v,z1,z2,z3⟩
   ·rw[z1,z2]
   ·rw[z1,z2,inj _ _ _ (same u (h.lt _ _ z3).1) z3]
  ·rw[List.getElem?_eq_none (by rw[rl i h1]; omega),List.getElem?_eq_none (by rw[rl' i h2]; omega)]
 cases A; cases B
 simp only at hs hw hrs
 subst hs hw hrs
 rfl
theorem uH{r:Rl}{y:Str}(h:y∈(av r).ws):y∈r.ws:=by
 have h':y∈((places (af r.rs) r.ws.length).map fun x=>r.ws.getD x default):=h
 obtain⟨x,hx,e⟩:=List.mem_map.mp h'
 rw[aH (b9 hx)]at e
 rw[← e]; exact List.getElem_mem _
theorem jc{r:Rl}(ok:bA r)(nd:r.ws.Nodup){k:Nat}(h:cZ r.rs k)(y:Str):bh (av r) (eN r.rs k) y=(bh r k y).map (eN r.rs):=by
 by_cases c:y∈r.ws
 ·obtain⟨x,hx,e⟩:=List.mem_iff_getElem.mp c
  subst e;exact tH ok nd h hx
 ·have c':y∉(av r).ws:=fun z=>c (uH z)
  unfold bh;rw[if_neg c,if_neg c']; rfl
theorem jl{r:Rl}(ok:bA r)(nd:r.ws.Nodup){k k':Nat}(h:cZ r.rs k){y:Str}(e:bh r k y=some k'):cZ r.rs k':=by
 by_cases c:y∈r.ws
 ·obtain⟨x,hx,e2⟩:=List.mem_iff_getElem.mp c
  subst e2;exact t9 ok nd h hx e
 ·unfold bh at e
  rw[if_neg c]at e
  cases e; exact h
theorem sL{r:Rl}(ok:bA r)(nd:r.ws.Nodup):∀ y∈(av r).ws,∃ i,i<(av r).rs.length∧bh (av r) i y≠some i:=by
 intro y hy
 have nl:=lK nd;have okl:=gb ok;obtain⟨q,hq,e⟩:=List.mem_iff_getElem.mp hy
 have hq':q<(places (af r.rs) r.ws.length).length:=by rw[← vB]; exact hq
 have hm:=List.getElem_mem hq';have hd:=(List.mem_filter.mp hm).2;unfold dF at hd;rw[List.any_eq_true]at hd
 obtain⟨i,hi,hd⟩:=hd
 have hi':=List.mem_range.mp hi;have hd':=of_decide_eq_true hd;have hil:i<(av r).rs.length:=by rw[cP,cS]; exact hi'
 refine⟨i,hil,fun z=>hd' ?_⟩
 have h1:=iP okl nl hil hq;rw[e,z,cP,jU hi',List.getElem?_map,List.getElem?_eq_getElem hq']at h1
 exact Option.some.inj h1
theorem oS{r:Rl}(so:sortedS r.ws=true):sortedS (av r).ws=true:=by
 refine mv _ ?_
 show ((places (af r.rs) r.ws.length).map fun x=>r.ws.getD x default).Pairwise _
 have hp:(places (af r.rs) r.ws.length).Pairwise (· < ·):=List.Pairwise.filter _ List.pairwise_lt_range
 refine List.pairwise_map.mpr (List.Pairwise.imp_of_mem (fun {x y} hx hy hab=>?_) hp)
 rw[aH (b9 hx),aH (b9 hy)];exact List.pairwise_iff_getElem.mp (kM _ so) x y (b9 hx) (b9 hy) hab
theorem n8{r:Rl}(ok:bA r)(nd:r.ws.Nodup)(so:sortedS r.ws=true):pT (av r):=
 ⟨gb ok,lK nd,oS so,lb ok,oB ok,sL ok nd⟩
theorem Alike.least{a b:Rl}{E:Nat→Nat→Prop}(h:Alike a b E)(hs:a.s=b.s)(oa:bA a)(ob:bA b)(na:a.ws.Nodup)(nb:b.ws.Nodup)(sa:sortedS a.ws=true)(sb:sortedS b.ws=true):av a=av b:=by
 refine Alike.one (E:=fun i j=>∃ k l,E k l∧cZ a.rs k∧cZ b.rs l∧eN a.rs k=i∧eN b.rs l=j) ⟨⟨0,0,h.z,jJ oa.n0,jJ ob.n0,j1 oa.n0,j1 ob.n0⟩,?_,?_⟩ hs (n8 oa na sa) (n8 ob nb sb)
 ·rintro i j ⟨k,l,e,r1,r2,rfl,rfl⟩
  exact⟨by rw[cP,cS]; exact ju r1,by rw[cP,cS]; exact ju r2⟩
 ·rintro i j y ⟨k,l,e,r1,r2,rfl,rfl⟩
  rw[jc oa na r1,jc ob nb r2];rcases h.st k l y e with ⟨h1,h2⟩ | ⟨k',l',h1,h2,h3⟩
  ·exact .inl ⟨by rw[h1]; rfl,by rw[h2]; rfl⟩
  ·exact .inr ⟨eN a.rs k',eN b.rs l',by rw[h1]; rfl,by rw[h2]; rfl,k',l',h3,jl oa na r1 h1,jl ob nb r2 h2,rfl,rfl⟩
def pV:Sp:=fun vs H Q _=>∃ (p q:Addr) (r r':Rl),vs=[.ref p,.ref q]∧RuleAt H p r∧RuleAt H q r'∧r.s=r'.s∧Q .non H
def iL(r r':Rl)(ws:List Str):Prop:=ws.Nodup∧(∀ y,y∈ws ↔ y∈r.ws∨y∈r'.ws)∧ws.length≤32
def uE:Sp:=fun vs H Q _=>∃ (p q:Addr) (r r':Rl),vs=[.ref p,.ref q]∧RuleAt H p r∧RuleAt H q r'∧bA r∧bA r'∧∀ (l:Addr) (H':Hp) (ws:List Str),Same H H'→H l=none→H' l=some (.lst (ws.map V.str))→iL r r' ws→sortedS ws=true→Q (.ref l) H'
section
variable{P:Program}{w:World}{K:PySem.W.Frag}{mg:Str→Option Value}{base:Heap}
theorem uz(D:DefAt K mg "refuse_unlike" bW):Cal P w K mg base 1 "refuse_unlike" ["one", "other"] pV:=by
 refine D.cal (k:=0) lD (fun _ _ _ _ _ _ us hl=>match us,hl with | [_,_],_=>rfl) (fun vs H Q E h=>by obtain⟨p,q,r,r',rfl,_⟩:=h; rfl) (fun f cdv A outer s H vs Q E hr h=>?_)
 obtain⟨p,q,r,r',rfl,⟨pw,pr,as,h1,_⟩,⟨qw,qr,bs,g1,_⟩,e,hq⟩:=h
 refine⟨_,(am (bY (aX iR (aw (aN K) (pv 0) ah (fun _ _=>rfl)) (aw (aN K) (pv 1) ah (fun _ _=>rfl)) (bd _)) (am pM) bw)),?_⟩
 walk_at "rd1";refine⟨_,_,.inr (SqT.of h1),kZ,?_⟩
 refine⟨_,_,.inr (SqT.of g1),kZ,?_⟩
 walk_at "rd1";refine bn (fun c=>absurd c (by simp[e])) (fun _=>?_)
 exact hq
theorem y_(D:DefAt K mg "words_of_both" bG) (z_sorted:mg "sorted" = none) (z_set:mg "set" = none):Cal P w K mg base 1 "words_of_both" ["one", "other"] uE:=by
 refine D.cal (k:=0) lz (fun _ _ _ _ _ _ us hl=>match us,hl with | [_,_],_=>rfl) (fun vs H Q E h=>by obtain⟨p,q,r,r',rfl,_⟩:=h; rfl) (fun f cdv A outer s H vs Q E hr h=>?_)
 obtain⟨p,q,r,r',rfl,⟨pw,pr,as,h1,h2,h3⟩,⟨qw,qr,bs,g1,g2,g3⟩,ok,ok',hq⟩:=h
 have nw:=ok.nw;have nw':=ok'.nw;refine⟨_,(am (aW (bp (qU P w hr) z_sorted gF (aa (bb (y6 P w) (cX (lQ K P w hr) z_set mC (aa (aw (aN K) (pv 0) ah (fun _ _=>rfl)) ab)) (cX (lQ K P w hr) z_set mC (aa (aw (aN K) (pv 1) ah (fun _ _=>rfl)) ab))) ab)))),?_⟩
 walk_at "rd1";refine⟨_,_,.inr (SqT.of h1),aL (j:=1) rfl,?_⟩
 refine⟨pw,r.ws,rfl,SqL.of h2,by omega,fun a ds ha hd hda hdl=>?_⟩
 have s1:=ak ha (cm P w a ds);have e1:upd H a (cm P w a ds) a=some (cm P w a ds):=ae
 generalize upd H a (cm P w a ds)=H1 at s1 e1 ⊢;walk_at "rd1";refine⟨_,_,.inr (SqT.of (s1 _ _ g1)),aL (j:=1) rfl,?_⟩
 refine⟨qw,r'.ws,rfl,SqL.of (s1 _ _ g2),by omega,fun b es hb he hea hel=>?_⟩
 have s2:=ak hb (cm P w b es);have e2:upd H1 b (cm P w b es) b=some (cm P w b es):=ae
 have hab:a≠b:=aO e1 hb
 generalize upd H1 b (cm P w b es)=H2 at s2 e2 ⊢;refine⟨a,b,ds,es,rfl,rfl,hab,s2 _ _ e1,e2,by omega,fun c us hc hu hua hul=>?_⟩
 have s3:=ak hc (cm P w c us);have e3:upd H2 c (cm P w c us) c=some (cm P w c us):=ae
 generalize upd H2 c (cm P w c us)=H3 at s3 e3 ⊢;walk_at "rd1";refine⟨c,us,rfl,e3,by omega,fun l ts hl hp hs=>?_⟩
 have s123:=(s1.trans s2).trans s3;exact hq l _ ts (s123.trans (ak hl _)) (s123.free hl) ae ⟨hp.nodup_iff.mpr hu,fun y=>by rw[hp.mem_iff,hua,hda,hea],by rw[hp.length_eq]; omega⟩ hs
end
def PlAt(ws:List Str)(i:Nat)(kvs:List (bq × V)):Prop:=kvs.length≤i∧∀ y,aI kvs (.inr y)=if y∈ws.take i then some (V.int (ws.idxOf y:Nat)) else none
theorem PlAt.put{ws:List Str}{i:Nat}{kvs:List (bq × V)}(nd:ws.Nodup)(h:PlAt ws i kvs)(hi:i<ws.length):PlAt ws (i+1) (cM kvs (.inr ws[i]) (.int (i:Int))):=by
 refine⟨by have:=dC kvs (.inr ws[i]) (.int (i:Int)); have:=h.1; omega,fun y=>?_⟩
 have ht:∀ z,z∈ws.take (i+1) ↔ z∈ws.take i∨z=ws[i]:=fun z=>by
  rw[List.take_add_one,List.getElem?_eq_getElem hi,List.mem_append];show _∨z∈[ws[i]] ↔ _
  rw[List.mem_singleton]
 rw[jL,h.2 y]
 by_cases e:y=ws[i]
 ·rw[if_pos (by rw[e]),if_pos ((ht y).mpr (.inr e)),e,eU nd hi]
 ·rw[if_neg (fun z=>e (Sum.inr.inj z))]
  by_cases m:y∈ws.take i
  ·rw[if_pos m,if_pos ((ht y).mpr (.inl m))]
  ·rw[if_neg m,if_neg (fun z=>((ht y).mp z).elim m e)]
def yw:Sp:=fun vs H Q _=>∃ (wl pd ra:Addr) (ws:List Str) (kvs:List (bq × V)) (r:Rl) (k:Nat),vs=[.ref wl,.ref pd,.int (k:Int),.ref ra]∧H wl=some (.lst (ws.map V.str))∧ws.length≤32∧H pd=some (.dK kvs)∧PlAt r.ws r.ws.length kvs∧bA r∧k<r.rs.length∧H ra=some (.lst ((r.rs.getD k []).map ap))∧
 ∀ (L:Addr) (H':Hp),Same H H'→H L=none→H' L=some (.lst ((ws.map (bh r k)).map ap))→Q (.ref L) H'
section
variable{P:Program}{w:World}{K:PySem.W.Frag}{mg:Str→Option Value}{base:Heap}
theorem BE(D:DefAt K mg "ways_for" bF):Cal P w K mg base 1 "ways_for" ["words", "places", "number", "room"] yw:=by
 refine D.cal (k:=0) qK (fun _ _ _ _ _ _ us hl=>match us,hl with | [_,_,_,_],_=>rfl) (fun vs H Q E h=>by obtain⟨_,_,_,_,_,_,_,rfl,_⟩:=h; rfl) (fun f cdv A outer s H vs Q E hr h=>?_)
 obtain⟨wl,pd,ra,ws,kvs,r,k,rfl,hw,hn,hd,hP,ok,hk,hra,q⟩:=h
 refine⟨_,(am (aW (cW (CompSc.to (fsc:=(defScope bF)) (N:=["words", "places", "number", "room"]) (N0:=["words", "places", "number", "room"]) (T:=["word"]) ⟨by decide +kernel,by decide +kernel,by decide +kernel,by decide +kernel,by decide +kernel,by decide +kernel,by decide +kernel⟩ rfl rfl) rfl (bT K (pv 0)) (fun _ _ _ _=>(bf 4 (show (["words", "places", "number", "room", "word"]:List Str).Nodup from by decide +kernel) (hx:=(eh (defScope bF) (by decide +kernel))) (hf:=gP (defScope bF) (by decide +kernel)))) (bZ (show (["words", "places", "number", "room"]:List Str).length≤4 from by decide)) (fun _ _ _ _=>cv) (fun _ _ _ _=>(lO (aX (AR hr) (pv 4 (hv:=(bX (defScope bF) (by decide +kernel)))) (pv 1 (hv:=(bX (defScope bF) (by decide +kernel)))) (by with_unfolding_all rfl)) (aw (aN K) (pv 3 (hv:=(bX (defScope bF) (by decide +kernel)))) (aw (A8 K) (pv 1 (hv:=(bX (defScope bF) (by decide +kernel)))) (pv 4 (hv:=(bX (defScope bF) (by decide +kernel)))) (fun _ _=>rfl)) (fun _ _=>rfl)) (pv 2 (hv:=(bX (defScope bF) (by decide +kernel))))))))),?_⟩
 walk_at "rd1";refine⟨⟨_,SqL.of hw⟩,fun L hL=>?_⟩
 refine cL (xs:=ws.map V.str) (fun i ys H'=>Same H H'∧H' L=some (.lst ys)∧ys=((ws.take i).map (bh r k)).map ap) ⟨ak hL _,ae,rfl⟩ (fun i ys H' _ h=>SqL.of (h.1 _ _ hw)) ?_ ?_
 ·rintro i ys H' v hv hi ⟨sm,hl,rfl⟩
  rw[List.length_map]at hi
  rw[List.getElem?_map,List.getElem?_eq_getElem hi]at hv
  cases hv
  have next:∀ {v:V},v=ap (bh r k ws[i])→fc (ws.map V.str).length i (fun i ys H'=>Same H H'∧H' L=some (.lst ys)∧ys=((ws.take i).map (bh r k)).map ap) L (((ws.take i).map (bh r k)).map ap) v H':=fun {v} e=>by
   refine dX (by rw[List.length_map]; exact hi) (by simp; omega) (by rw[List.length_map]; exact b7 (by omega)) hl ⟨sm.upd hL _,ae,?_⟩
   rw[e,List.take_add_one,List.getElem?_eq_getElem hi,List.map_append,List.map_append]; rfl
  walk_at "rd1";refine⟨pd,kvs,.inr ws[i],rfl,rfl,sm _ _ hd,?_⟩
  rw[hP.2,List.take_length]
  by_cases hm:ws[i]∈r.ws
  ·rw[if_pos hm]
   have hx:=ok.row _ (List.getElem_mem hk);have hj:r.ws.idxOf ws[i]<(r.rs.getD k []).length:=by rw[aH hk,hx.1]; exact List.idxOf_lt_length_iff.mpr hm
   refine⟨_,rfl,bn (fun _=>?_) (fun c=>absurd rfl c)⟩
   refine .inr ⟨pd,kvs,.inr ws[i],_,rfl,rfl,sm _ _ hd,by rw[hP.2,List.take_length,if_pos hm],?_⟩
   walk_at "rd1";refine⟨_,_,.inl (SqL.of (sm _ _ hra)),aL (v:=ap ((r.rs.getD k []).getD (r.ws.idxOf ws[i]) none)) (by rw[List.getElem?_map,List.getElem?_eq_getElem hj,aH hj]; rfl),?_⟩
   exact next (by unfold bh; rw[if_pos hm])
  ·rw[if_neg hm]
   refine⟨_,rfl,bn (fun c=>absurd c (by decide)) (fun _=>?_)⟩
   exact next (by unfold bh; rw[if_neg hm]; rfl)
 ·rintro ys H' ⟨sm,hl,rfl⟩
  rw[List.length_map,List.take_length]at hl
  exact q L H' sm hL hl
end
def WaysAt(P:Program)(w:World)(H:Hp)(d:Addr)(r:Rl)(ws:List Str):Prop:=∃ kvs,H d=some (i8 P w d kvs)∧(∀ k,k<r.rs.length→∃ a,aI kvs (some (k:Int))=some (.ref a)∧H a=some (.lst ((ws.map (bh r k)).map ap)))∧∃ a,aI kvs none=some (.ref a)∧H a=some (.lst (ws.map fun _=>V.non))
theorem WaysAt.mono{P:Program}{w:World}{H H':Hp}{d:Addr}{r:Rl}{ws:List Str}(h:WaysAt P w H d r ws)(sm:Same H H'):WaysAt P w H' d r ws:=by
 obtain⟨kvs,h1,h2,a,h3,h4⟩:=h
 exact⟨kvs,sm _ _ h1,fun k hk=>by obtain⟨a,e1,e2⟩:=h2 k hk; exact⟨a,e1,sm _ _ e2⟩,a,h3,sm _ _ h4⟩
def pK(P:Program)(w:World):Sp:=fun vs H Q _=>∃ (p wl:Addr) (r:Rl) (ws:List Str),vs=[.ref p,.ref wl]∧RuleAt H p r∧bA r∧r.ws.Nodup∧H wl=some (.lst (ws.map V.str))∧ws.length≤32∧∀ (d:Addr) (H':Hp),Same H H'→WaysAt P w H' d r ws→Q (.ref d) H'
section
variable{P:Program}{w:World}{K:PySem.W.Frag}{mg:Str→Option Value}{base:Heap}
theorem vP(D:DefAt K mg "ways_by_room" aF) (z_enumerate:mg "enumerate" = none) (c_ways_for:Cal P w K mg base 1 "ways_for" ["words", "places", "number", "room"] yw):Cal P w K mg base 2 "ways_by_room" ["rule", "words"] (pK P w):=by
 refine D.cal (k:=1) sc_ways_by_room (fun _ _ _ _ _ _ us hl=>match us,hl with | [_,_],_=>rfl) (fun vs H Q E h=>by obtain⟨_,_,_,_,rfl,_⟩:=h; rfl) (fun f cdv A outer s H vs Q E hr h=>?_)
 obtain⟨p,wl,r,ws,rfl,⟨pw,pr,as,h1,h2,h3⟩,ok,nd,hw,hn,q⟩:=h
 have nw:=ok.nw;have n1:=ok.n1;have n0:=ok.n0
 refine⟨_,(ac (az 2 sc_ways_by_room.nd oZ)
   (ac (cN PassesOwn.never rfl (fS K CJ z_enumerate (aa (aw (aN K) (pv 0) ah (fun _ _=>rfl)) ab)) (ga K (n:=2) (cw (bf 3 sc_ways_by_room.nd) (cw (bf 4 sc_ways_by_room.nd) fX))) (am (dz (pv 3) (dH (pv 2) (pv 4) (sB hr)))))
   (ac (az 5 sc_ways_by_room.nd (sV P w))
   (ac (cN PassesOwn.never rfl (fS K CJ z_enumerate (aa (aw (aN K) (pv 0) ah (fun _ _=>rfl)) ab)) (ga K (n:=2) (cw (bf 6 sc_ways_by_room.nd) (cw (bf 7 sc_ways_by_room.nd) fX))) (am (dz (aU c_ways_for hr (aa (pv 1) (aa (pv 2) (aa (pv 6) (aa (pv 7) ab))))) (dH (pv 5) (pv 6) (sg P w)))))
   (ac (dz (cW (CompSc.to (fsc:=(defScope aF)) (N:=["rule", "words", "places", "place", "word", "ways", "number", "room"]) (N0:=["rule", "words", "places", "place", "word'", "ways", "number", "room"]) (T:=["word"]) ⟨by decide +kernel,by decide +kernel,by decide +kernel,by decide +kernel,by decide +kernel,by decide +kernel,by decide +kernel⟩ rfl rfl) rfl (bT K (pv 1)) (fun _ _ _ _=>(bf 8 (show (["rule", "words", "places", "place", "word'", "ways", "number", "room", "word"]:List Str).Nodup from by decide +kernel) (hx:=(eh (defScope aF) (by decide +kernel))) (hf:=gP (defScope aF) (by decide +kernel)))) (bZ (show (["rule", "words", "places", "place", "word", "ways", "number", "room"]:List Str).length≤8 from by decide)) (fun _ _ _ _=>cv) (fun _ _ _ _=>b5)) (dH (pv 5) b5 (sg P w)))
   (am (aW (pv 5)))))))),?_⟩
 walk_at "rd1";refine fun pd hpd=>?_
 have s1:=ak hpd (.dK []);have e1:upd H pd (.dK []) pd=some (.dK []):=ae
 generalize upd H pd (.dK [])=H1 at s1 e1 ⊢;walk_at "nx";refine⟨_,_,.inr (SqT.of (s1 _ _ h1)),aL (j:=1) rfl,?_⟩
 walk_at "rd1";refine⟨⟨_,s1 _ _ h2⟩,?_⟩
 refine gG (xs:=r.ws.map V.str) (fun i σ H'=>∃ (kvs:List (bq × V)) (o3 o4:Option V),σ=[some (.ref p),some (.ref wl),some (.ref pd),o3,o4,none,none,none]∧Same H H'∧H' pd=some (.dK kvs)∧PlAt r.ws i kvs)
  ⟨[],none,none,rfl,s1,e1,Nat.le_refl _,fun y=>by simp[v_]⟩ (fun i σ H' _ h=>by obtain⟨_,_,_,_,sm,_⟩:=h; exact SqL.of (sm _ _ h2)) ?_ ?_
 ·rintro i v t σ H' hv ⟨kvs,o3,o4,rfl,sm,hd,hP⟩ ht
  have hi:i<r.ws.length:=by have:=(List.getElem?_eq_some_iff.mp hv).1; simpa using this
  rw[List.getElem?_map,List.getElem?_eq_getElem hi]at hv
  cases hv;have st:=ak ht (.tup [.int (i:Int),.str r.ws[i]]);have et:upd H' t (.tup [.int (i:Int),.str r.ws[i]]) t=some (.tup [.int (i:Int),.str r.ws[i]]):=ae
  generalize upd H' t (.tup [.int (i:Int),.str r.ws[i]])=H2 at st et ⊢;walk_at "rd1";refine⟨t,_,rfl,SqT.of et,rfl,?_⟩
  walk_at "rd1";have hl:=hP.1;refine⟨pd,kvs,.inr r.ws[i],rfl,rfl,st _ _ hd,b6 (by omega),?_⟩
  exact⟨_,_,_,rfl,(sm.trans st).upd hpd _,ae,hP.put nd hi⟩
 rintro σ H2 ⟨kvs,o3,o4,rfl,s2,hd2,hP⟩
 rw[List.length_map]at hP
 walk_at "nx";refine fun dd hdd=>?_
 have s3:=ak hdd (i8 P w dd []);have e3:upd H2 dd (i8 P w dd []) dd=some (i8 P w dd []):=ae
 generalize upd H2 dd (i8 P w dd [])=H3 at s3 e3 ⊢;have s03:=s2.trans s3;have hddH:H dd=none:=s2.free hdd
 have hdp:dd≠pd:=Ne.symm (aO hd2 hdd)
 walk_at "nx";refine⟨_,_,.inr (SqT.of (s03 _ _ h1)),aL (j:=2) rfl,?_⟩
 walk_at "rd1";have hal:=h3.2.1;refine⟨⟨_,(h3.mono s03).1⟩,?_⟩
 refine gG (xs:=as.map V.ref) (fun i σ H'=>∃ (kvs2:List (Option Int × V)) (o6 o7:Option V),σ=[some (.ref p),some (.ref wl),some (.ref pd),o3,o4,some (.ref dd),o6,o7]∧Same H H'∧H' pd=some (.dK kvs)∧H' dd=some (i8 P w dd kvs2)∧kvs2.length≤i∧∀ k,k<i→∃ a,aI kvs2 (some (k:Int))=some (.ref a)∧a≠dd∧H' a=some (.lst ((ws.map (bh r k)).map ap)))
  ⟨[],none,none,rfl,s03,s3 _ _ hd2,e3,Nat.le_refl _,fun k hk=>absurd hk (Nat.not_lt_zero _)⟩ (fun i σ H' _ h=>by obtain⟨_,_,_,_,sm,_⟩:=h; exact SqL.of (h3.mono sm).1) ?_ ?_
 ·rintro i v t σ H' hv ⟨kvs2,o6,o7,rfl,sm,hd,hdd',hl,hk⟩ ht
  have hia:i<as.length:=by have:=(List.getElem?_eq_some_iff.mp hv).1; simpa using this
  have hi:i<r.rs.length:=by omega
  rw[List.getElem?_map,List.getElem?_eq_getElem hia]at hv
  cases hv;have hrow:=h3.2.2 i _ _ (List.getElem?_eq_getElem hia) (List.getElem?_eq_getElem hi);have st:=ak ht (.tup [.int (i:Int),.ref as[i]]);have et:upd H' t (.tup [.int (i:Int),.ref as[i]]) t=some (.tup [.int (i:Int),.ref as[i]]):=ae
  generalize upd H' t (.tup [.int (i:Int),.ref as[i]])=H4 at st et ⊢;have sm4:=sm.trans st;walk_at "rd1";refine⟨t,_,rfl,SqT.of et,rfl,?_⟩
  walk_at "rd1";refine⟨wl,pd,as[i],ws,kvs,r,i,rfl,sm4 _ _ hw,hn,st _ _ hd,hP,ok,hi,by rw[aH hi]; exact sm4 _ _ hrow,fun L H5 s5 hL hL5=>?_⟩
  walk_at "rd1";have hdd5:=s5 _ _ (st _ _ hdd');have nL:L≠dd:=Ne.symm (aO (st _ _ hdd') hL)
  refine⟨dd,some (i:Int),kvs2,rfl,rfl,hdd5,b6 (by omega),?_⟩
  refine⟨cM kvs2 (some (i:Int)) (.ref L),_,_,rfl,(sm4.trans s5).upd hddH _,by rw[al (Ne.symm hdp)]; exact s5 _ _ (st _ _ hd),ae,by have:=dC kvs2 (some (i:Int)) (.ref L); omega,fun k hk'=>?_⟩
  rw[jL]
  by_cases e:k=i
  ·subst e
   exact⟨L,by rw[if_pos rfl],nL,by rw[al nL]; exact hL5⟩
  ·obtain⟨a,e1,e2,e3⟩:=hk k (by omega)
   exact⟨a,by rw[if_neg (fun z=>e (by have:=Option.some.inj z; omega))]; exact e1,e2,by rw[al e2]; exact s5 _ _ (st _ _ e3)⟩
 rintro σ H4 ⟨kvs2,o6,o7,rfl,sm4,hd4,hdd4,hl4,hk4⟩
 rw[List.length_map,hal]at hl4 hk4
 walk_at "nx";refine⟨⟨_,SqL.of (sm4 _ _ hw)⟩,fun L hL=>?_⟩
 refine cL (xs:=ws.map V.str) (fun i ys H'=>Same H4 H'∧H' L=some (.lst ys)∧ys=(ws.take i).map fun _=>V.non) ⟨ak hL _,ae,rfl⟩ (fun i ys H' _ h=>SqL.of (h.1 _ _ (sm4 _ _ hw))) ?_ ?_
 ·rintro i ys H' v hv hi ⟨sm,hl,rfl⟩
  rw[List.length_map]at hi
  rw[List.getElem?_map,List.getElem?_eq_getElem hi]at hv
  cases hv;walk_at "rd1";refine dX (by rw[List.length_map]; exact hi) (by simp; omega) (by rw[List.length_map]; exact b7 (by omega)) hl ⟨sm.upd hL _,ae,?_⟩
  rw[List.take_add_one,List.getElem?_eq_getElem hi,List.map_append]; rfl
 rintro ys H5 ⟨s5,hl5,rfl⟩
 rw[List.length_map,List.take_length]at hl5
 have nL:L≠dd:=Ne.symm (aO hdd4 hL)
 walk_at "rd1";refine⟨dd,none,kvs2,rfl,rfl,s5 _ _ hdd4,b6 (by omega),?_⟩
 walk_at "nx";refine q dd _ ((sm4.trans s5).upd hddH _) ⟨_,ae,fun k hk=>?_,L,by rw[jL,if_pos rfl],by rw[al nL]; exact hl5⟩
 obtain⟨a,e1,e2,e3⟩:=hk4 k hk
 exact⟨a,by rw[jL,if_neg (fun z=>nomatch z)]; exact e1,by rw[al e2]; exact s5 _ _ e3⟩
end
theorem WaysAt.look{P:Program}{w:World}{H:Hp}{d:Addr}{r:Rl}{ws:List Str}(h:WaysAt P w H d r ws):∃ kvs,H d=some (i8 P w d kvs)∧∀ o:Option Nat,(∀ k,o=some k→k<r.rs.length)→∃ a,aI kvs (o.map fun k:Nat=>(k:Int))=some (.ref a)∧H a=some (.lst ((ws.map (eF r o)).map ap)):=by
 obtain⟨kvs,h1,h2,a,h3,h4⟩:=h
 refine⟨kvs,h1,fun o ho=>?_⟩
 cases o with
 | none=>
  refine⟨a,h3,?_⟩
  rw[h4,List.map_map]; rfl
 | some k=>exact h2 k (ho k rfl)
def PairsAt(H:Hp)(l:Addr)(ts:List Addr)(ps:List Pr):Prop:=H l=some (.lst (ts.map V.ref))∧ts.length=ps.length∧∀ (j:Nat) t p,ts[j]? = some t→ps[j]? = some p→H t=some (.tup [ap p.1,ap p.2])
theorem PairsAt.mono{H H':Hp}{l:Addr}{ts:List Addr}{ps:List Pr}(h:PairsAt H l ts ps)(sm:Same H H'):PairsAt H' l ts ps:=⟨sm _ _ h.1,h.2.1,fun j t p e1 e2=>sm _ _ (h.2.2 j t p e1 e2)⟩
def rV(P:Program)(w:World):Sp:=fun vs H Q _=>∃ (d d' t:Addr) (r r':Rl) (ws:List Str) (p:Pr),vs=[.ref d,.ref d',.ref t]∧WaysAt P w H d r ws∧WaysAt P w H d' r' ws∧ws.length≤32∧H t=some (.tup [ap p.1,ap p.2])∧j5 r r' p∧∀ (l:Addr) (H':Hp) (ts:List Addr),Same H H'→H l=none→PairsAt H' l ts (cr r r' ws p)→Q (.ref l) H'
theorem lW(o:Option Nat):ap o=cE (o.map fun k:Nat=>(k:Int)):=by cases o <;> rfl
section
variable{P:Program}{w:World}{K:PySem.W.Frag}{mg:Str→Option Value}{base:Heap}
theorem wx(D:DefAt K mg "pairs_behind" bE) (z_list:mg "list" = none) (z_zip:mg "zip" = none):Cal P w K mg base 1 "pairs_behind" ["ones", "others", "pair"] (rV P w):=by
 refine D.cal (k:=0) mE (fun _ _ _ _ _ _ us hl=>match us,hl with | [_,_,_],_=>rfl) (fun vs H Q E h=>by obtain⟨_,_,_,_,_,_,_,rfl,_⟩:=h; rfl) (fun f cdv A outer s H vs Q E hr h=>?_)
 obtain⟨d,d',t,r,r',ws,p,rfl,hW,hW',hn,ht,hi,q⟩:=h
 obtain⟨kvs,h1,h2⟩:=hW.look
 obtain⟨kvs',g1,g2⟩:=hW'.look
 obtain⟨a,a1,a2⟩:=h2 p.1 hi.1
 obtain⟨b,b1,b2⟩:=g2 p.2 hi.2
 refine⟨_,(am (aW (tG K hr Gf z_list FH z_zip (aa (aw (uo P w) (pv 0) (aw (aN K) (pv 2) ah (fun _ _=>rfl)) (fun _ _=>rfl)) (aa (aw (uo P w) (pv 1) (aw (aN K) (pv 2) ah (fun _ _=>rfl)) (fun _ _=>rfl)) ab))))),?_⟩
 walk_at "rd1";unfold yL;walk_at "rd1";refine⟨_,_,.inr (SqT.of ht),kZ,?_⟩
 refine⟨d,_,kvs,_,rfl,lW p.1,h1,a1,?_⟩
 refine⟨_,_,.inr (SqT.of ht),aL (j:=1) rfl,?_⟩
 refine⟨d',_,kvs',_,rfl,lW p.2,g1,b1,?_⟩
 walk_at "rd1";refine⟨a,b,_,_,rfl,SqL.of a2,SqL.of b2,by simp,by simp; omega,fun l ts H2 s2 hl hl2 htl hts=>?_⟩
 simp only[List.length_map]at htl
 refine q l H2 ts s2 hl ⟨hl2,by unfold cr; rw[List.length_map]; exact htl,fun k u pp e1 e2=>?_⟩
 obtain⟨x,y,ex,ey,hu,_⟩:=hts k u e1
 have hk:k<ws.length:=by have:=(List.getElem?_eq_some_iff.mp e1).1; omega
 unfold cr at e2;simp only[List.getElem?_map,List.getElem?_eq_getElem hk]at ex ey e2
 cases ex; cases ey; cases e2
 exact hu
end
def cO(p:Pr):List (Option Int):=[p.1.map fun k:Nat=>(k:Int),p.2.map fun k:Nat=>(k:Int)]
theorem qt{o o':Option Nat}(h:(o.map fun k:Nat=>(k:Int))=o'.map fun k:Nat=>(k:Int)):o=o':=by
 cases o <;> cases o' <;> simp at h ⊢ <;> omega
theorem jP{p q:Pr}(h:cO p=cO q):p=q:=by
 have h':[p.1.map fun k:Nat=>(k:Int),p.2.map fun k:Nat=>(k:Int)]=[q.1.map fun k:Nat=>(k:Int),q.2.map fun k:Nat=>(k:Int)]:=h
 have e1:=(List.cons.inj h').1;have e2:=(List.cons.inj (List.cons.inj h').2).1;exact Prod.ext (qt e1) (qt e2)
theorem fu{H:Hp}{t:Addr}{p:Pr}(h:H t=some (.tup [ap p.1,ap p.2])):KeyO H (cO p) t:=by
 show H t=some (.tup ((cO p).map cE))
 rw[h];show _=some (HO.tup [cE _,cE _])
 rw[lW,lW]
def NumP(kvs:List (cn × V))(o:List Pr):Prop:=kvs.length=o.length∧(∀ t∈o,aI kvs (cO t)=some (V.int (o.idxOf t:Nat)))∧∀ k,(∀ t∈o,k≠cO t)→aI kvs k=none
theorem NumP.snoc{kvs:List (cn × V)}{o:List Pr}{t:Pr}(h:NumP kvs o)(ht:t∉o):aI kvs (cO t)=none∧NumP (kvs++[(cO t,V.int (o.length:Int))]) (o++[t]):=by
 obtain⟨h1,h2,h3⟩:=h
 have hn:aI kvs (cO t)=none:=h3 _ fun t' ht' e=>ht (by rw[jP e]; exact ht')
 refine⟨hn,by simp[h1],fun t' ht'=>?_,fun k hk=>?_⟩
 ·rw[ja _ _ _ _ hn]
  rcases List.mem_append.mp ht' with z | z
  ·rw[if_neg (fun e=>by have:=jP e; subst this; exact ht z),h2 t' z,List.idxOf_append,if_pos z]
  ·rw[List.mem_singleton.mp z,if_pos rfl,List.idxOf_append,if_neg ht]; simp
 ·rw[ja _ _ _ _ hn,if_neg (hk t (by simp))]
  exact h3 k fun t' ht'=>hk t' (by simp[ht'])
theorem NumP.zero(t:Pr):NumP [(cO t,V.int (0:Int))] [t]:=by
 refine⟨rfl,fun t' ht'=>?_,fun k hk=>?_⟩
 ·rw[List.mem_singleton.mp ht',cG rfl]; simp
 ·rw[cH (fun e=>hk t (by simp) e.symm)]; rfl
theorem NumP.look{kvs:List (cn × V)}{o:List Pr}(h:NumP kvs o)(t:Pr):(aI kvs (cO t)).getD .non=ap (dg o t):=by
 unfold dg
 by_cases c:t∈o
 ·rw[if_pos c,h.2.1 _ c]; rfl
 ·rw[if_neg c,h.2.2 _ fun t' ht' e=>c (by rw[jP e]; exact ht')]; rfl
def OrdAt(H:Hp)(p:Addr)(o:List Pr):Prop:=∃ ts:List Addr,PairsAt H p ts o
theorem OrdAt.mono{H H':Hp}{p:Addr}{o:List Pr}(h:OrdAt H p o)(sm:Same H H'):OrdAt H' p o:=let ⟨ts,h⟩:=h; ⟨ts,h.mono sm⟩
theorem OrdAt.other{H:Hp}{p c:Addr}{o:List Pr}{u:HO}(h:OrdAt H p o)(hc:p≠c)(ht:∀ xs,H c≠some (.tup xs)):OrdAt (upd H c u) p o:=by
 obtain⟨ts,h1,h2,h3⟩:=h
 refine⟨ts,by rw[al hc]; exact h1,h2,fun i a t e1 e2=>?_⟩
 have e:=h3 i a t e1 e2;rw[al (fun z=>by subst z; exact ht _ e)]; exact e
theorem OrdAt.push{H:Hp}{p a:Addr}{o:List Pr}{t:Pr}{ts:List Addr}(h1:H p=some (.lst (ts.map V.ref)))(h2:ts.length=o.length)(h3:∀ (i:Nat) a t,ts[i]? = some a→o[i]? = some t→H a=some (.tup [ap t.1,ap t.2]))(e:H a=some (.tup [ap t.1,ap t.2])):OrdAt (upd H p (.lst (ts.map V.ref++[.ref a]))) p (o++[t]):=by
 refine⟨ts++[a],by rw[ae]; simp,by simp[h2],fun i a' t' e1 e2=>?_⟩
 have np:∀ {b xs},H b=some (.tup xs)→b≠p:=fun e z=>by rw[z,h1]at e; cases e
 by_cases hi:i<ts.length
 ·rw[List.getElem?_append_left hi]at e1
  rw[List.getElem?_append_left (by omega)]at e2
  have z:=h3 i a' t' e1 e2;rw[al (np z)]; exact z
 ·have hi':i=ts.length:=by have:=(List.getElem?_eq_some_iff.mp e1).1; simp at this; omega
  subst hi';rw[List.getElem?_append_right (Nat.le_refl _)]at e1
  rw[h2,List.getElem?_append_right (Nat.le_refl _)]at e2
  simp at e1 e2
  subst e1 e2;rw[al (np e)]; exact e
theorem RoomsAs.other{H:Hp}{p c:Addr}{rs:List (List (Option Nat))}{as:List Addr}{u:HO}(h:RoomsAs H p rs as)(hc:p≠c)(ha:c∉as):RoomsAs (upd H c u) p rs as:=by
 obtain⟨h1,h2,h3⟩:=h
 refine⟨by rw[al hc]; exact h1,h2,fun i a x e1 e2=>?_⟩
 rw[al (fun z=>by subst z; exact ha (List.mem_of_getElem? e1))]; exact h3 i a x e1 e2
theorem RoomsAs.push{H:Hp}{p a:Addr}{rs:List (List (Option Nat))}{as:List Addr}{x:List (Option Nat)}(h:RoomsAs H p rs as)(hp:p∉as)(ha:p≠a)(e:H a=some (.lst (x.map ap))):RoomsAs (upd H p (.lst (as.map V.ref++[.ref a]))) p (rs++[x]) (as++[a]):=by
 obtain⟨h1,h2,h3⟩:=h
 refine⟨by rw[ae]; simp,by simp[h2],fun i a' x' e1 e2=>?_⟩
 by_cases hi:i<as.length
 ·rw[List.getElem?_append_left hi]at e1
  rw[List.getElem?_append_left (by omega)]at e2
  rw[al (fun z=>by subst z; exact hp (List.mem_of_getElem? e1))]
  exact h3 i a' x' e1 e2
 ·have hi':i=as.length:=by have:=(List.getElem?_eq_some_iff.mp e1).1; simp at this; omega
  subst hi';rw[List.getElem?_append_right (Nat.le_refl _)]at e1
  rw[h2,List.getElem?_append_right (Nat.le_refl _)]at e2
  simp at e1 e2
  subst e1 e2;rw[al ha.symm]; exact e
theorem iK{P:Program}{w:World}{H:Hp}{a c:Addr}{kvs:List (cn × V)}{xs:List V}{o:HO}(h:DO P w H a kvs)(hc:H c=some (.lst xs))(hne:a≠c):DO P w (upd H c o) a kvs:=by
 obtain⟨ys,h1,h2,h3,h4⟩:=h
 exact⟨ys,by rw[al hne]; exact h1,h2,h3,Paired.imp' (fun p q z=>⟨z.1,z.2.1.mono fun d zs e=>by rw[al (fun z=>by subst z; rw[hc]at e; cases e)]; exact e,z.2.2⟩) h4⟩
theorem dj{P:Program}{w:World}{H:Hp}{a c:Addr}{kvs:List (cn × V)}{xs:List V}(h:DO P w H a kvs)(hc:H c=some (.lst xs)):a≠c:=by
 obtain⟨ys,h1,_⟩:=h
 rintro rfl
 rw[h1]at hc; cases hc
theorem mO{P:Program}{w:World}{H:Hp}{a:Addr}{kvs:List (cn × V)}(h:DO P w H a kvs):∀ xs,H a≠some (.tup xs):=fun xs z=>by
 obtain⟨ys,h1,_⟩:=h
 rw[h1]at z; cases z
def jQ(br:Pr→Bool):Sp:=fun vs H Q _=>∃ (t:Addr) (p:Pr),vs=[.ref t]∧H t=some (.tup [ap p.1,ap p.2])∧Q (.bl (br p)) H
def vj(P:Program)(w:World)(K:PySem.W.Frag)(mg:Str→Option Value)(base:Heap):Sp:=fun vs H Q _=>∃ (p q f:Addr) (a b:Rl) (br:Pr→Bool),vs=[.ref p,.ref q,.ref f]∧RuleAt H p a∧RuleAt H q b∧bA a∧bA b∧a.ws.Nodup∧b.ws.Nodup∧tw P w K mg base 1 f ["pair"] (jQ br)∧br (some 0,some 0)=false∧(∀ o,gJ br a b o→o.length≤60)∧
 ∀ (t:Addr) (H':Hp) (us:List Str) (M:Nat),Same H H'→iL a b us→sortedS us=true→M≤60→M=(aA br a b us M).length→RuleAt H' t (bm br a b us M)→Q (.ref t) H'
section
variable{P:Program}{w:World}{K:PySem.W.Frag}{mg:Str→Option Value}{base:Heap}
theorem ky{D:dI}{H3:Hp}{p q fb wl d1 d2 op mp rp rl tt:Addr}{v9:V}{t:Pr}{kv:List (cn × V)}{o:List Pr}{X:List V}(ht:H3 tt=some (.tup [ap t.1,ap t.2]))(hM:DO P w H3 mp kv)(hN:NumP kv o)(hrl:H3 rl=some (.lst X))(hX:X.length≤1000)
  (hq:D.nx [some (.ref p),some (.ref q),some (.ref fb),some (.ref wl),some (.ref d1),some (.ref d2),some (.ref op),some (.ref mp),some (.ref rp),some v9,some (.ref rl),some (.ref tt)] (upd H3 rl (.lst (X++[ap (dg o t)])))) :
  p0 (sC (ya K "list" kK (m5 10) (tK (mF P w (m5 7) (m5 11)) wF))) D [some (.ref p),some (.ref q),some (.ref fb),some (.ref wl),some (.ref d1),some (.ref d2),some (.ref op),some (.ref mp),some (.ref rp),some v9,some (.ref rl),some (.ref tt)] H3:=by
 walk_at "nx";rw[vF];walk_at "rd1";refine⟨⟨_,SqL.of hrl⟩,mp,kv,rfl,hM,tt,_,kv,rfl,hM,fu ht,?_⟩
 rw[hN.look];exact⟨_,hrl,b6 (by omega),hq⟩
theorem zq(D:DefAt K mg "rule_of_pairs" ar) (z_len:mg "len" = none) (c_words_of_both:Cal P w K mg base 1 "words_of_both" ["one", "other"] uE) (c_ways_by_room:Cal P w K mg base 2 "ways_by_room" ["rule", "words"] (pK P w)) (c_pairs_behind:Cal P w K mg base 1 "pairs_behind" ["ones", "others", "pair"] (rV P w)):Cal P w K mg base 3 "rule_of_pairs" ["one", "other", "breaks"] (vj P w K mg base):=by
 refine D.cal sc_rule_of_pairs (fun _ _ _ _ _ _ us hl=>match us,hl with | [_,_,_],_=>rfl) (fun vs H Q E h=>by obtain⟨_,_,_,_,_,_,rfl,_⟩:=h; rfl) (fun f cdv A outer s H vs Q E hr h=>?_)
 obtain⟨p,q,fb,a,b,br,rfl,hA,hB,oa,ob,na,nb,cf_breaks,b0,h60,fin⟩:=h
 refine⟨_,(ac (az 3 sc_rule_of_pairs.nd (aU c_words_of_both hr (aa (pv 0) (aa (pv 1) ab))))
   (ac (az 4 sc_rule_of_pairs.nd (aU c_ways_by_room hr (aa (pv 0) (aa (pv 3) ab))))
   (ac (az 5 sc_rule_of_pairs.nd (aU c_ways_by_room hr (aa (pv 1) (aa (pv 3) ab))))
   (ac (az 6 sc_rule_of_pairs.nd (cD (aa (cT (aa ah (aa ah ab))) ab)))
   (ac (az 7 sc_rule_of_pairs.nd ((mH P w hr) (cT (aa ah (aa ah ab))) ah))
   (ac (az 8 sc_rule_of_pairs.nd (cD ab))
   (ac (iM PassesOwn.never (aX ke (bp (bK K) z_len b8 (aa (pv 8) ab)) (bp (bK K) z_len b8 (aa (pv 6) ab)) (bd _)) (ac (az 9 sc_rule_of_pairs.nd (aw (aN K) (pv 6) (bp (bK K) z_len b8 (aa (pv 8) ab)) (fun _ _=>rfl)))
   (ac (az 10 sc_rule_of_pairs.nd (cD ab))
   (ac (cN PassesOwn.never rfl (bT K (aU c_pairs_behind hr (aa (pv 4) (aa (pv 5) (aa (pv 9) ab))))) (bf 11 sc_rule_of_pairs.nd) (ac (bY (PW.pt' (ko (aX (lY P w hr) (pv 11) (pv 7) (by with_unfolding_all rfl)) (jA (dJ (dA (zb cf_breaks hr (aa (pv 11) ab) (i:=2))))))) (ac (dz (bp (bK K) z_len b8 (aa (pv 6) ab)) (dH (pv 7) (pv 11) (vO P w hr)))
   (am (cV (dq K PySem.F.plainAttrs_list PySem.F.slot_list_append PySem.F.type_list_append cg (pv 6) (aa (pv 11) ab))))) bw)
   (am (cV (dq K PySem.F.plainAttrs_list PySem.F.slot_list_append PySem.F.type_list_append cg (pv 10) (aa (wf P w hr (pv 7) (pv 11) ⟨rfl,rfl,rfl,rfl⟩) ab))))))
   (am (cV (dq K PySem.F.plainAttrs_list PySem.F.slot_list_append PySem.F.type_list_append cg (pv 8) (aa (pv 10) ab))))))))
   (am (aW (cT (aa (aw (aN K) (pv 0) ah (fun _ _=>rfl)) (aa (pv 3) (aa (pv 8) ab))))))))))))),?_⟩
 walk_at "rd1";refine⟨p,q,a,b,rfl,hA,hB,oa,ob,fun wl H1 us s1 hwl hus hBo hso=>?_⟩
 obtain⟨hnd,hmem,h32⟩:=id hBo
 walk_at "nx";refine⟨p,wl,a,us,rfl,hA.mono s1,oa,na,hus,h32,fun d1 H2 s2 hW1=>?_⟩
 walk_at "nx";refine⟨q,wl,b,us,rfl,(hB.mono s1).mono s2,ob,nb,s2 _ _ hus,h32,fun d2 H3 s3 hW2=>?_⟩
 have hW1':=hW1.mono s3;have s03:=(s1.trans s2).trans s3;walk_at "nx";refine⟨by decide,fun z1 hz1=>?_⟩
 have s4:=ak hz1 (.tup [V.int 0,V.int 0]);have e4:upd H3 z1 (.tup [V.int 0,V.int 0]) z1=some (.tup [ap (some 0),ap (some 0)]):=ae
 generalize upd H3 z1 (.tup [V.int 0,V.int 0])=H4 at s4 e4 ⊢;refine⟨by decide,fun op hop=>?_⟩
 have s5:=ak hop (.lst [V.ref z1]);have e5:upd H4 op (.lst [V.ref z1]) op=some (.lst ([z1].map V.ref)):=ae
 generalize upd H4 op (.lst [V.ref z1])=H5 at s5 e5 ⊢;walk_at "nx";rw[mq];refine fun mp hmp u hu=>?_
 have s6:=ak hmp u;generalize upd H5 mp u=H6 at s6 hu ⊢;walk_at "rd1";refine⟨by decide,fun z2 hz2=>?_⟩
 have s7:=ak hz2 (.tup [V.int 0,V.int 0]);have e7:upd H6 z2 (.tup [V.int 0,V.int 0]) z2=some (.tup [ap (some 0),ap (some 0)]):=ae
 generalize upd H6 z2 (.tup [V.int 0,V.int 0])=H7 at s7 e7 ⊢;refine⟨z2,cO (some 0,some 0),rfl,fu (p:=(some 0,some 0)) e7,hu.mono s7,fun u' hu'=>?_⟩
 have s35:Same H3 H5:=s4.trans s5
 have hmp0:H3 mp=none:=s35.free hmp
 have s38:Same H3 (upd H7 mp u'):=((s35.trans s6).trans s7).upd hmp0 u'
 have e58:H7 op=some (.lst ([z1].map V.ref)):=(s6.trans s7) _ _ e5
 have hu7:=hu.mono s7
 have o8:OrdAt (upd H7 mp u') op (aA br a b us 0):=by
  refine OrdAt.other (H:=H7) ⟨[z1],e58,rfl,fun i x t w1 w2=>?_⟩ (Ne.symm (dj hu7 e58)) (mO hu7)
  match i,w1,w2 with
  | 0,w1,w2=>cases w1; cases w2; exact((s5.trans s6).trans s7) _ _ e4
  | i+1,w1,w2=>simp at w1
 generalize upd H7 mp u'=H8 at s38 o8 hu' ⊢;walk_at "nx";refine⟨by decide,fun rp hrp=>?_⟩
 have s9:=ak hrp (.lst []);have e9:upd H8 rp (.lst []) rp=some (.lst (([]:List Addr).map V.ref)):=ae
 generalize upd H8 rp (.lst [])=H9 at s9 e9 ⊢;have hop0:H3 op=none:=s4.free hop
 have hrp0:H3 rp=none:=s38.free hrp
 obtain⟨_,oo,_⟩:=id o8
 have nor:op≠rp:=aO oo hrp
 walk_at "nx"
 refine⟨fun mm σ H'=>∃ (r:Nat) (as:List Addr) (kvs:List (cn × V)) (o9 o10 o11:Option V),mm=61 - r∧σ=[some (.ref p),some (.ref q),some (.ref fb),some (.ref wl),some (.ref d1),some (.ref d2),some (.ref op),some (.ref mp),some (.ref rp),o9,o10,o11]∧Same H3 H'∧OrdAt H' op (aA br a b us r)∧DO P w H' mp kvs∧NumP kvs (aA br a b us r)∧RoomsAs H' rp ((List.range r).map (cq br a b us)) as∧(op::rp::as).Nodup∧r≤(aA br a b us r).length,
  ⟨_,0,[],_,none,none,none,rfl,rfl,s38.trans s9,o8.mono s9,hu'.mono s9,NumP.zero _,⟨e9,rfl,fun i a x z=>by simp at z⟩,by simp[nor],by simp[aA]⟩,?_⟩
 rintro mm σ H' ⟨r,as,kvs,o9,o10,o11,em,rfl,sm,hO,hM,hN,hA',nd,hrl⟩
 obtain⟨hord,fl1⟩:=gh (us:=us) oa ob b0 r
 have hlen:=h60 _ hord;obtain⟨ts,t1,t2,t3⟩:=id hO
 walk_at "rd1";have hAl:as.length=r:=by have:=hA'.2.1; simpa using this
 refine⟨_,.inl (SqL.of hA'.1),_,.inl (SqL.of t1),?_⟩
 rw[List.length_map,List.length_map,hAl,t2]
 by_cases hend:r<(aA br a b us r).length
 rotate_left
 ·refine bn (fun c=>absurd (by omega) hend) (fun _=>?_)
  obtain⟨pw,pr,ras,r1,r2,r3⟩:=(hA.mono s03).mono sm
  walk_at "nx";refine⟨_,_,.inr (SqT.of r1),kZ,?_⟩
  refine⟨by decide,fun t ht=>?_⟩
  have s':=ak ht (.tup [V.int a.s,V.ref wl,V.ref rp]);exact fin t _ us r (s03.trans (sm.trans s')) hBo hso (by omega) (by omega) ⟨wl,rp,as,ae,(sm.trans s') _ _ ((s2.trans s3) _ _ hus),hA'.mono s'⟩
 refine bn (fun _=>?_) (fun c=>absurd (by omega) c)
 have hin:j5 a b (bv br a b us r):=hord.inn _ (getD_mem hend)
 have hgr:(aA br a b us r)[r]? = some (bv br a b us r):=by unfold bv; rw[List.getD_eq_getElem?_getD,List.getElem?_eq_getElem hend]; rfl
 obtain⟨tx,htx⟩ : ∃ tx,ts[r]? = some tx:=⟨ts[r],List.getElem?_eq_getElem (by omega)⟩
 have etx:=t3 r tx _ htx hgr;refine⟨_,fun _ _ h=>h,_,.inl (SqL.of hA'.1),_,_,.inl (SqL.of t1),aL (v:=.ref tx) (by rw[List.length_map,hAl,List.getElem?_map,htx]; rfl),?_⟩
 walk_at "nx";refine⟨by decide,fun rl hrl'=>?_⟩
 have s10:=ak hrl' (.lst []);have e10:upd H' rl (.lst []) rl=some (.lst []):=ae
 generalize upd H' rl (.lst [])=H10 at s10 e10 ⊢;have sm10:=sm.trans s10;have hrl0:H3 rl=none:=sm.free hrl'
 walk_at "nx";refine⟨d1,d2,tx,a,b,us,bv br a b us r,rfl,hW1'.mono sm10,hW2.mono sm10,h32,s10 _ _ etx,hin,fun bl H11 ys s11 hbl hP=>?_⟩
 obtain⟨eb,hyl,hys⟩:=hP
 have hbl0:H3 bl=none:=sm10.free hbl
 have hylen:ys.length=us.length:=by rw[hyl]; unfold cr; simp
 have s1011:=s10.trans s11
 have nd11:(op::rp::rl::as).Nodup:=by
  have pm:(op::rp::rl::as).Perm (rl::op::rp::as):=by
   rw[List.perm_iff_count];intro x
   simp only[List.count_cons]
   omega
  refine pm.nodup_iff.mpr (List.nodup_cons.mpr ⟨fun z=>?_,nd⟩)
  have:∃ o,H' rl=some o:=by
   simp only[List.mem_cons]at z
   rcases z with z | z | z
   ·exact⟨_,by rw[z]; exact t1⟩
   ·exact⟨_,by rw[z]; exact hA'.1⟩
   ·obtain⟨i,hi,e⟩:=List.mem_iff_getElem.mp z
    exact⟨_,hA'.2.2 i rl _ (by rw[List.getElem?_eq_getElem hi,e]) (List.getElem?_eq_getElem (by rw[← hA'.2.1]; exact hi))⟩
  obtain⟨o,e⟩:=this
  rw[hrl']at e; cases e
 have hys':∀ (k:Nat) t (hk:k<us.length),ys[k]? = some t→H11 t=some (.tup [ap (bN a b (bv br a b us r) us[k]).1,ap (bN a b (bv br a b us r) us[k]).2]):=fun k t hk e=>hys k t _ e (by unfold cr; rw[List.getElem?_map,List.getElem?_eq_getElem hk]; rfl)
 have nbo:bl≠op:=Ne.symm (aO (s10 _ _ t1) hbl)
 have nbr:bl≠rl:=Ne.symm (aO e10 hbl)
 have nbm:bl≠mp:=by obtain⟨zs,z,_⟩:=hM; exact Ne.symm (aO (s10 _ _ z) hbl)
 have hrlen:(cq br a b us r).length=us.length:=jT r
 walk_at "rd1";refine⟨⟨_,SqL.of eb⟩,?_⟩
 refine eY (xs:=ys.map V.ref) (fun k σ H''=>∃ (kv2:List (cn × V)) (o11:Option V),σ=[some (.ref p),some (.ref q),some (.ref fb),some (.ref wl),some (.ref d1),some (.ref d2),some (.ref op),some (.ref mp),some (.ref rp),some (.ref tx),some (.ref rl),o11]∧Same H3 H''∧H'' bl=some (.lst (ys.map V.ref))∧(∀ (k:Nat) t (hk:k<us.length),ys[k]? = some t→H'' t=some (.tup [ap (bN a b (bv br a b us r) us[k]).1,ap (bN a b (bv br a b us r) us[k]).2]))∧OrdAt H'' op (((cr a b us (bv br a b us r)).take k).foldl (bL br) (aA br a b us r))∧DO P w H'' mp kv2∧NumP kv2 (((cr a b us (bv br a b us r)).take k).foldl (bL br) (aA br a b us r))∧RoomsAs H'' rp ((List.range r).map (cq br a b us)) as∧H'' rl=some (.lst (((cq br a b us r).take k).map ap)))
  ⟨kvs,o11,rfl,sm10.trans s11,eb,hys',hO.mono s1011,hM.mono s1011,hN,hA'.mono s1011,s11 _ _ e10⟩ (fun k σ H'' _ h=>by obtain⟨_,_,_,_,z,_⟩:=h; exact SqL.of z) ?_ ?_
 ·rintro k v σ H'' hv ⟨kv2,o11,rfl,sx,ebx,hyx,hOx,hMx,hNx,hAx,erl⟩
  have hk:k<ys.length:=by have:=(List.getElem?_eq_some_iff.mp hv).1; simpa using this
  have hku:k<us.length:=by omega
  rw[List.getElem?_map,List.getElem?_eq_getElem hk]at hv
  cases hv;have ety:=hyx k ys[k] hku (List.getElem?_eq_getElem hk)
  have hst:((cr a b us (bv br a b us r)).take (k+1)).foldl (bL br) (aA br a b us r)=bL br (((cr a b us (bv br a b us r)).take k).foldl (bL br) (aA br a b us r)) (bN a b (bv br a b us r) us[k]):=by
   rw[List.take_add_one,List.foldl_append];unfold cr;rw[List.getElem?_map,List.getElem?_eq_getElem hku]
   rfl
  have pord:gJ br a b (((cr a b us (bv br a b us r)).take k).foldl (bL br) (aA br a b us r)):=kr _ hord fun t ht=>rX oa ob hin t (List.mem_of_mem_take ht)
  have plen:=h60 _ pord
  have hOr:aA br a b us (r+1)=((cr a b us (bv br a b us r)).drop (k+1)).foldl (bL br) (((cr a b us (bv br a b us r)).take (k+1)).foldl (bL br) (aA br a b us r)):=by
   rw[← List.foldl_append,List.take_append_drop];show (if r<(aA br a b us r).length then _ else _)=_
   rw[if_pos hend]; rfl
  have ord1:=(gh (us:=us) oa ob b0 (r+1)).1
  have hrow:(cq br a b us r)[k]? = some (dg (bL br (((cr a b us (bv br a b us r)).take k).foldl (bL br) (aA br a b us r)) (bN a b (bv br a b us r) us[k])) (bN a b (bv br a b us r) us[k])):=by
   obtain⟨x,e⟩:=eZ (br:=br) ((cr a b us (bv br a b us r)).drop (k+1)) (((cr a b us (bv br a b us r)).take (k+1)).foldl (bL br) (aA br a b us r))
   rw[← hOr,hst]at e
   have e0:(cq br a b us r)[k]? = some (dg (aA br a b us (r+1)) (bN a b (bv br a b us r) us[k])):=by
    unfold cq cr;rw[List.getElem?_map,List.getElem?_map,List.getElem?_eq_getElem hku]; rfl
   rw[e0,e];refine congrArg some (xc ?_)
   cases hb:br (bN a b (bv br a b us r) us[k]) with
   | true=>
    refine .inr fun z=>?_
    rw[← e]at z
    rw[ord1.nb _ z]at hb; cases hb
   | false=>
    refine .inl ?_
    unfold bL; split
    ·assumption
    ·rw[if_neg (by rw[hb]; decide)]; simp
  rw[hst];generalize ((cr a b us (bv br a b us r)).take k).foldl (bL br) (aA br a b us r)=o' at hOx hNx pord plen hrow ⊢;generalize bN a b (bv br a b us r) us[k]=t at ety hrow ⊢;have hx:=nd11;simp only[List.nodup_cons,List.mem_cons,not_or]at hx
  obtain⟨⟨_,n1,n2⟩,⟨n3,n4⟩,n5,_⟩:=hx
  have k60:((cq br a b us r).take k).length<100:=by rw[List.length_take]; omega
  have done:∀ (G:Hp) (kv3:List (cn × V)) (o3:List Pr) (v11:V),Same H3 G→G bl=some (.lst (ys.map V.ref))→(∀ (k:Nat) t (hk:k<us.length),ys[k]? = some t→G t=some (.tup [ap (bN a b (bv br a b us r) us[k]).1,ap (bN a b (bv br a b us r) us[k]).2]))→OrdAt G op o3→DO P w G mp kv3→NumP kv3 o3→RoomsAs G rp ((List.range r).map (cq br a b us)) as→G rl=some (.lst (((cq br a b us r).take k).map ap))→(cq br a b us r)[k]? = some (dg o3 t)→
    ∃ (kv2:List (cn × V)) (o11:Option V),[some (.ref p),some (.ref q),some (.ref fb),some (.ref wl),some (.ref d1),some (.ref d2),some (.ref op),some (.ref mp),some (.ref rp),some (.ref tx),some (.ref rl),some v11]=[some (.ref p),some (.ref q),some (.ref fb),some (.ref wl),some (.ref d1),some (.ref d2),some (.ref op),some (.ref mp),some (.ref rp),some (.ref tx),some (.ref rl),o11]∧Same H3 (upd G rl (.lst (((cq br a b us r).take k).map ap++[ap (dg o3 t)])))∧(upd G rl (.lst (((cq br a b us r).take k).map ap++[ap (dg o3 t)]))) bl=some (.lst (ys.map V.ref))∧(∀ (k':Nat) t' (hk:k'<us.length),ys[k']? = some t'→(upd G rl (.lst (((cq br a b us r).take k).map ap++[ap (dg o3 t)]))) t'=some (.tup [ap (bN a b (bv br a b us r) us[k']).1,ap (bN a b (bv br a b us r) us[k']).2]))∧OrdAt (upd G rl (.lst (((cq br a b us r).take k).map ap++[ap (dg o3 t)]))) op o3∧DO P w (upd G rl (.lst (((cq br a b us r).take k).map ap++[ap (dg o3 t)]))) mp kv2∧NumP kv2 o3∧RoomsAs (upd G rl (.lst (((cq br a b us r).take k).map ap++[ap (dg o3 t)]))) rp ((List.range r).map (cq br a b us)) as∧(upd G rl (.lst (((cq br a b us r).take k).map ap++[ap (dg o3 t)]))) rl=some (.lst (((cq br a b us r).take (k+1)).map ap)):=by
   intro G kv3 o3 v11 g1 g2 g3 g4 g5 g6 g7 g8 g9
   refine⟨kv3,_,rfl,g1.upd hrl0 _,by rw[al nbr]; exact g2,fun k' t' hk' e=>?_,g4.other n1 (fun xs z=>by rw[g8]at z; cases z),iK g5 g8 (dj g5 g8),g6,g7.other n3 n5,?_⟩
   ·have z:=g3 k' t' hk' e
    rw[al (fun z'=>by subst z'; rw[g8]at z; cases z)]; exact z
   ·rw[ae,List.take_add_one,g9,List.map_append]; rfl
  walk_at "rd1";refine⟨ys[k],mp,cO t,kv2,rfl,rfl,hMx,fu ety,_,rfl,?_⟩
  by_cases c2:t∈o'
  ·rw[hNx.2.1 _ c2]
   refine bn (fun z=>by cases z) (fun _=>?_)
   have est:bL br o' t=o':=by unfold bL; rw[if_pos c2]
   rw[est]at hrow ⊢
   refine ky ety hMx hNx erl (by rw[List.length_map]; omega) ?_
   exact done H'' kv2 o' _ sx ebx hyx hOx hMx hNx hAx erl hrow
  obtain⟨hvn,hN2⟩:=hNx.snoc c2
  rw[hvn];refine bn (fun _=>?_) (fun z=>absurd rfl z)
  refine⟨rfl,?_⟩
  walk_at "rd1";refine⟨ys[k],t,rfl,ety,_,rfl,?_⟩
  cases hb:br t with
  | true=>
   refine bn (fun z=>by cases z) (fun _=>?_)
   have est:bL br o' t=o':=by unfold bL; rw[if_neg c2,if_pos hb]
   rw[est]at hrow ⊢
   refine ky ety hMx hNx erl (by rw[List.length_map]; omega) ?_
   exact done H'' kv2 o' _ sx ebx hyx hOx hMx hNx hAx erl hrow
  | false=>
   refine bn (fun _=>?_) (fun z=>absurd rfl z)
   have est:bL br o' t=o'++[t]:=by unfold bL; rw[if_neg c2,if_neg (by rw[hb]; decide)]
   rw[est]at hrow ⊢
   obtain⟨us2,a1,a2,a3⟩:=id hOx
   walk_at "rd1";refine⟨_,.inl (SqL.of a1),mp,ys[k],cO t,kv2,rfl,rfl,hMx,fu ety,hvn,b6 (by have:=hNx.1; omega),fun uu huu=>?_⟩
   rw[List.length_map,a2]at huu
   have ntm:=mO hMx;have hO2:=hOx.other (u:=uu) (Ne.symm (dj hMx a1)) ntm;have keepT:∀ {c:Addr} {xs:List V},H'' c=some (.tup xs)→upd H'' mp uu c=some (.tup xs):=fun {c xs} e=>by rw[al (fun z=>by subst z; exact ntm _ e)]; exact e
   have ety2:=keepT ety;have hyx2:∀ (k:Nat) t (hk:k<us.length),ys[k]? = some t→upd H'' mp uu t=some (.tup [ap (bN a b (bv br a b us r) us[k]).1,ap (bN a b (bv br a b us r) us[k]).2]):=fun k t hk e=>keepT (hyx k t hk e)
   have ebx2:upd H'' mp uu bl=some (.lst (ys.map V.ref)):=by rw[al nbm]; exact ebx
   have erl2:upd H'' mp uu rl=some (.lst (((cq br a b us r).take k).map ap)):=by rw[al (Ne.symm (dj hMx erl))]; exact erl
   have nml:mp∉as:=fun hm=>by
    obtain⟨i,hi,e⟩:=List.mem_iff_getElem.mp hm
    exact dj hMx (hAx.2.2 i mp _ (by rw[List.getElem?_eq_getElem hi,e]) (List.getElem?_eq_getElem (by rw[← hAx.2.1]; exact hi))) rfl
   have hA2:=hAx.other (u:=uu) (Ne.symm (dj hMx hAx.1)) nml;have sx2:=sx.upd hmp0 uu;generalize upd H'' mp uu=G at huu hO2 ety2 hyx2 ebx2 erl2 hA2 sx2 ⊢;obtain⟨us3,b1,b2,b3⟩:=id hO2
   walk_at "nx";refine⟨⟨_,SqL.of b1⟩,_,b1,by rw[List.length_map]; exact b6 (by omega),?_⟩
   have hO3:=OrdAt.push (t:=t) b1 b2 b3 ety2;have tup3:∀ {c:Addr} {xs:List V},G c=some (.tup xs)→upd G op (.lst (us3.map V.ref++[.ref ys[k]])) c=some (.tup xs):=fun {c xs} e=>by rw[al (fun z=>by subst z; rw[b1]at e; cases e)]; exact e
   have hM3:=iK huu (o:=.lst (us3.map V.ref++[.ref ys[k]])) b1 (dj huu b1);have erl3:upd G op (.lst (us3.map V.ref++[.ref ys[k]])) rl=some (.lst (((cq br a b us r).take k).map ap)):=by rw[al (Ne.symm n1)]; exact erl2
   refine ky (tup3 ety2) hM3 hN2 erl3 (by rw[List.length_map]; omega) ?_
   exact done _ _ (o'++[t]) _ (sx2.upd hop0 _) (by rw[al nbo]; exact ebx2) (fun k t hk e=>tup3 (hyx2 k t hk e)) hO3 hM3 hN2 (hA2.other (Ne.symm nor) n2) erl3 hrow
 rintro σ H12 ⟨kv2,o11',rfl,sx,ebx,hyx,hOx,hMx,hNx,hAx,erl⟩
 have ho':((cr a b us (bv br a b us r)).take (ys.map V.ref).length).foldl (bL br) (aA br a b us r)=aA br a b us (r+1):=by
  rw[List.length_map,List.take_of_length_le (by rw[← hyl]; exact Nat.le_refl _)]
  show _=(if r<(aA br a b us r).length then _ else _)
  rw[if_pos hend]; rfl
 rw[ho']at hOx hNx
 rw[List.length_map,List.take_of_length_le (by omega)]at erl
 have hx:=nd11;simp only[List.nodup_cons,List.mem_cons,not_or]at hx
 obtain⟨⟨_,n1,n2⟩,⟨n3,n4⟩,n5,_⟩:=hx
 walk_at "nx";refine⟨⟨_,SqL.of hAx.1⟩,_,hAx.1,by rw[List.length_map]; exact b6 (by omega),?_⟩
 have hA2:=hAx.push n4 n3 erl;have mapS:∀ {β : Type} (f:Nat→β),(List.range (r+1)).map f=(List.range r).map f++[f r]:=fun f=>by rw[List.range_succ,List.map_append]; rfl
 refine⟨61 - (r+1),by omega,r+1,as++[rl],kv2,_,_,_,rfl,rfl,sx.upd hrp0 _,hOx.other nor (fun xs z=>by rw[hAx.1]at z; cases z),iK hMx hAx.1 (dj hMx hAx.1),hNx,by rw[mapS]; exact hA2,?_,?_⟩
 ·have pm:(op::rp::(as++[rl])).Perm (op::rp::rl::as):=by
   rw[List.perm_iff_count];intro x
   simp only[List.count_cons,List.count_append,List.count_nil]
   omega
  exact pm.nodup_iff.mpr nd11
 ·obtain⟨x,e⟩:=eZ (br:=br) (cr a b us (bv br a b us r)) (aA br a b us r)
  show r+1≤(if r<(aA br a b us r).length then _ else _:List Pr).length
  rw[if_pos hend];show r+1≤((cr a b us (bv br a b us r)).foldl (bL br) (aA br a b us r)).length
  rw[e,List.length_append]; omega
end
def FreshR(H H':Hp)(q:Addr)(r:Rl):Prop:=∃ (pw pr:Addr) (as:List Addr),H' q=some (.tup [.int r.s,.ref pw,.ref pr])∧H' pw=some (.lst (r.ws.map V.str))∧NR H H' pr r.rs as∧H q=none∧H pw=none∧H pr=none∧pw≠pr∧pw∉as
theorem FreshR.at'{H H':Hp}{q:Addr}{r:Rl}(h:FreshR H H' q r):RuleAt H' q r:=let ⟨pw,pr,as,h1,h2,h3,_⟩:=h; ⟨pw,pr,as,h1,h2,h3.at'⟩
theorem FreshR.older{H0 H H':Hp}{q:Addr}{r:Rl}(h:FreshR H H' q r)(sm:Same H0 H):FreshR H0 H' q r:=let ⟨pw,pr,as,h1,h2,h3,h4,h5,h6,h7⟩:=h; ⟨pw,pr,as,h1,h2,⟨h3.at',fun a ha=>⟨sm.free (h3.new a ha).1,(h3.new a ha).2⟩,h3.nd⟩,sm.free h4,sm.free h5,sm.free h6,h7⟩
structure Fit (br:Pr→Bool) (a b:Rl):Prop where
 oa:bA a
 ob:bA b
 na:a.ws.Nodup
 nb:b.ws.Nodup
 s:a.s=b.s
 b0:br (some 0,some 0)=false
 h60:∀ o,gJ br a b o→o.length≤60
 h16:∀ us,iL a b us→us.length≤16
theorem Fit.rl{br:Pr→Bool}{a b:Rl}(h:Fit br a b){us:List Str}{M:Nat}(hB:iL a b us)(hM:M≤60)(e:M=(aA br a b us M).length):Whole br a b us M∧bA (bm br a b us M):=by
 have hw:Whole br a b us M:=⟨h.oa,h.ob,h.b0,hB.2.1,hB.1,e⟩
 exact⟨hw,hw.rl hM (h.h16 us hB) fun u hu=>by
  rcases(hB.2.1 u).mp hu with z | z
  ·exact h.oa.lw u z
  ·exact h.ob.lw u z⟩
def oU(P:Program)(w:World)(K:PySem.W.Frag)(mg:Str→Option Value)(base:Heap):Sp:=fun vs H Q _=>∃ (p q f:Addr) (a b:Rl) (br:Pr→Bool),vs=[.ref p,.ref q,.ref f]∧RuleAt H p a∧RuleAt H q b∧Fit br a b∧tw P w K mg base 1 f ["pair"] (jQ br)∧
 ∀ (t:Addr) (H':Hp) (us:List Str) (M:Nat),Same H H'→iL a b us→sortedS us=true→M≤60→M=(aA br a b us M).length→FreshR H H' t (av (bm br a b us M))→Q (.ref t) H'
def uZ(br:Pr→Bool):Sp:=fun vs H Q _=>∃ (p q:Addr) (a b:Rl),vs=[.ref p,.ref q]∧RuleAt H p a∧RuleAt H q b∧Fit br a b∧
 ∀ (t:Addr) (H':Hp) (us:List Str) (M:Nat),Same H H'→iL a b us→sortedS us=true→M≤60→M=(aA br a b us M).length→FreshR H H' t (av (bm br a b us M))→Q (.ref t) H'
section
variable{P:Program}{w:World}{K:PySem.W.Frag}{mg:Str→Option Value}{base:Heap}
theorem uO(D:DefAt K mg "least_of_pairs" aS) (z_len:mg "len" = none) (g_MOST_ROOMS:∃ t,mg "MOST_ROOMS" = some (.int 60 t)) (g_MOST_WORDS:∃ t,mg "MOST_WORDS" = some (.int 16 t)) (c_refuse_unlike:Cal P w K mg base 1 "refuse_unlike" ["one", "other"] pV) (c_rule_of_pairs:Cal P w K mg base 3 "rule_of_pairs" ["one", "other", "breaks"] (vj P w K mg base)) (c_least_upto:Cal P w K mg base 5 "least_upto" ["rule", "most"] vS):Cal P w K mg base 6 "least_of_pairs" ["one", "other", "breaks"] (oU P w K mg base):=by
 refine D.cal sc_least_of_pairs (fun _ _ _ _ _ _ us hl=>match us,hl with | [_,_,_],_=>rfl) (fun vs H Q E h=>by obtain⟨_,_,_,_,_,_,rfl,_⟩:=h; rfl) (fun f cdv A outer s H vs Q E hr h=>?_)
 obtain⟨p,q,fb,a,b,br,rfl,hA,hB,ft,cf,fin⟩:=h
 refine⟨_,(ac (cV (aU c_refuse_unlike hr (aa (pv 0) (aa (pv 1) ab))))
   (ac (az 3 sc_least_of_pairs.nd (aU c_least_upto hr (aa (aU c_rule_of_pairs hr (aa (pv 0) (aa (pv 1) (aa (pv 2) ab)))) (aa (rR g_MOST_ROOMS) ab))))
   (ac (bY (PW.pt' (gy (aX dY (pv 3) b5 (bd _)) (iO (aX B6 (bp (bK K) z_len b8 (aa (aw (aN K) (pv 3) ah (fun _ _=>rfl)) ab)) (rR g_MOST_WORDS) (bd _))))) (am pM) bw)
   (am (aW (pv 3)))))),?_⟩
 walk_at "rd1";refine⟨p,q,a,b,rfl,hA,hB,ft.s,?_⟩
 walk_at "nx";refine⟨p,q,fb,a,b,br,rfl,hA,hB,ft.oa,ft.ob,ft.na,ft.nb,cf,ft.b0,ft.h60,fun t H1 us M s1 hBo hso hM eM hR=>?_⟩
 obtain⟨hw,ok⟩:=ft.rl hBo hM eM
 walk_at "rd1";refine⟨t,_,60,rfl,by rw[eP]; exact hM,hR,ok,fun q' pw pr H2 as s2 e1 e2 e3 e4 e5 e6 e7 e8=>?_⟩
 walk_at "nx";have hl:=(gb ok).nw;refine bn (fun c=>absurd c (by simp)) (fun _=>?_)
 refine⟨_,_,.inr (SqT.of e1),aL (j:=1) rfl,?_⟩
 walk_at "rd1";refine⟨_,.inl (SqL.of e2),bn (fun c=>?_) (fun _=>?_)⟩
 ·rw[List.length_map]at c; omega
 walk_at "nx";exact fin q' H2 us M (s1.trans s2) hBo hso hM eM (FreshR.older ⟨pw,pr,as,e1,e2,e3,e4,e5,e6,e7,e8⟩ s1)
def aJ(p:Pr):Bool:=decide (p.1=none)&&decide (p.2=none)
theorem zw(o:Option Nat):decide (ap o=V.non)=decide (o=none):=by cases o <;> rfl
theorem tJ(D:DefAt K mg "breaks_both" cA):Cal P w K mg base 1 "breaks_both" ["pair"] (jQ aJ):=by
 refine D.cal (k:=0) mR (fun _ _ _ _ _ _ us hl=>match us,hl with | [_],_=>rfl) (fun vs H Q E h=>by obtain⟨_,_,rfl,_⟩:=h; rfl) (fun f cdv A outer s H vs Q E hr h=>?_)
 obtain⟨t,p,rfl,ht,q⟩:=h
 refine⟨_,(am (aW (kq (dD dY (aw (aN K) (pv 0) ah (fun _ _=>rfl)) b5 (bd _)) (pN (dD dY (aw (aN K) (pv 0) ah (fun _ _=>rfl)) b5 (bd _)))))),?_⟩
 walk_at "rd1";refine⟨_,_,.inr (SqT.of ht),kZ,?_⟩
 obtain⟨p1,p2⟩:=p
 cases p1 with
 | some k=>exact bn (fun c=>by cases c) (fun _=>q)
 | none=>
  have e:aJ (none,p2)=decide (ap p2=V.non):=by rw[zw]; simp[aJ]
  rw[e]at q
  exact bn (fun _=>⟨_,_,.inr (SqT.of ht),aL (j:=1) rfl,q⟩) (fun c=>absurd rfl c)
theorem uR(D:DefAt K mg "either_rule" bQ) (c_breaks:Cal P w K mg base 1 "breaks_both" ["pair"] (jQ aJ)) (c_least_of_pairs:Cal P w K mg base 6 "least_of_pairs" ["one", "other", "breaks"] (oU P w K mg base)):Cal P w K mg base 7 "either_rule" ["one", "other"] (uZ aJ):=by
 refine D.cal mZ (fun _ _ _ _ _ _ us hl=>match us,hl with | [_,_],_=>rfl) (fun vs H Q E h=>by obtain⟨_,_,_,_,rfl,_⟩:=h; rfl) (fun f cdv A outer s H vs Q E hr h=>?_)
 obtain⟨p,q,a,b,rfl,hA,hB,ft,fin⟩:=h
 obtain⟨fb,fm_breaks_both,cf⟩:=c_breaks.f
 refine⟨_,(am (aW (aU c_least_of_pairs hr (aa (pv 0) (aa (pv 1) (aa (Ao fm_breaks_both) ab)))))),?_⟩
 walk_at "rd1";exact⟨p,q,fb,a,b,aJ,rfl,hA,hB,ft,cf,fin⟩
end
def T(x:Str):List Nat:=x.cps.toList
theorem yi(x y:Str):T (x++y)=T x++T y:=by
 show (x.cps++y.cps).toList=_
 simp[T]
theorem i6(x:Str):(T x).length=x.length:=by simp[T,Str.length]
theorem wn{α : Type}{ss:List α}{R:Nat→α→Prop}{i:Nat}{x:α}(hn:ss.length=i)(h:∀ (k:Nat) s,ss[k]? = some s→R k s)(hx:R i x):∀ (k:Nat) s,(ss++[x])[k]? = some s→R k s:=by
 intro k s e
 rcases Nat.lt_or_ge k ss.length with z | z
 ·rw[List.getElem?_append_left z]at e; exact h k s e
 ·rw[List.getElem?_append_right z]at e
  have hk:k - ss.length=0:=by
   have:=(List.getElem?_eq_some_iff.mp e).1
   simp at this; omega
  rw[hk]at e
  have:x=s:=by simpa using e
  subst this;rw[show k=i by omega]; exact hx
section
variable{P:Program}{w:World}{K:PySem.W.Frag}{mg:Str→Option Value}{base:Heap}
def kd(z:Int):Nat:=letters.cps.toList.getD (z % 26).toNat 0
theorem tS(z:Int):letters.length≤sizeLine∧dL letters.cps.toList (z % 26)=some (kd z):=by
 have hz:(z % 26).toNat<letters.cps.toList.length:=by
  show (z % 26).toNat<26
  omega
 refine⟨by decide,?_⟩
 have q:=aL (List.getElem?_eq_getElem hz);rw[show (((z % 26).toNat:Nat):Int)=z % 26 by omega]at q
 rw[q];unfold kd;rw[List.getD_eq_getElem?_getD,List.getElem?_eq_getElem hz]; rfl
theorem wb{y z:Int}(h:kd y=kd z):y % 26=z % 26:=by
 have key:∀ i j:Fin 26,letters.cps.toList.getD i.val 0=letters.cps.toList.getD j.val 0→i=j:=by decide +kernel
 have:=key ⟨(y % 26).toNat,by omega⟩ ⟨(z % 26).toNat,by omega⟩ h
 have:=congrArg Fin.val this
 simp only[]at this
 omega
theorem vf(x:Str)(c:Nat):(x++(⟨#[c]⟩ : Str)).cps.toList=x.cps.toList++[c]:=by
 show (x.cps ++ #[c]).toList=_
 simp
def qk:Sp:=fun vs H Q _=>∃ (c:Int) (n:Nat) (sd:Int),vs=[.int c,.int n,.int sd]∧n≤8∧(sd=1∨sd=2)∧∀ (p:Addr) (H':Hp) (ss:List Str),Same H H'→H p=none→H' p=some (.lst (ss.map V.str))→ss.length=n→(∀ x∈ss,x.length≤10)→ss.Nodup→Q (.ref p) H'
theorem sG(D:DefAt K mg "_law_words" aK) (z_range:mg "range" = none) (z_int:mg "int" = none) (z_str:mg "str" = none) (c_law_mixed:Cal P w K mg base 1 "_law_mixed" ["_law_cell", "_law_many"] kO):Cal P w K mg base 2 "_law_words" ["_law_cell", "_law_many", "_law_sides"] qk:=by
 refine D.cal sc_law_words (fun _ _ _ _ _ _ us hl=>match us,hl with | [_,_,_],_=>rfl) (fun vs H Q E h=>by obtain⟨c,n,sd,rfl,_⟩:=h; rfl) (fun f cdv A outer s H vs Q E hr h=>?_)
 obtain⟨c,n,sd,rfl,n26,hsd,q⟩:=h
 refine⟨_,(ac (az 3 sc_law_words.nd mh)
   (ac (az 4 sc_law_words.nd (aU c_law_mixed hr (aa (pv 0) (aa ah ab))))
   (ac (az 5 sc_law_words.nd (bb ck ah (bb cy (aw (aN K) (pv 4) ah (fun _ _=>rfl)) ah)))
   (ac (az 6 sc_law_words.nd (bb cy (aw (aN K) (pv 4) ah (fun _ _=>rfl)) (pv 5)))
   (ac (az 7 sc_law_words.nd (cD ab))
   (ac (cN PassesOwn.never rfl (dc zT z_range (aa (pv 1) ab)) (bf 8 sc_law_words.nd) (ac (az 9 sc_law_words.nd mh)
   (ac (cN PassesOwn.never rfl (dc zT z_range (aa (pv 5) ab)) (bf 10 sc_law_words.nd) (am (az 9 sc_law_words.nd (bb ck (pv 9) (aw (aN K) (pv 3) (bb cy (bb ck (aw (aN K) (pv 4) (bb ck ah (pv 10)) (fun _ _=>rfl)) (bb ib (pv 8) (cX uJ z_int qf (aa (dD iN (pv 10) (pv 6) (bd _)) ab)))) ah) (fun _ _=>rfl))))))
   (ac (bY (aX iN (pv 2) ah (bd _)) (am (az 9 sc_law_words.nd (bb ck (bb ck (cX uv z_str zU (aa (bb ck ah (bb cy (bb d_ (aw (aN K) (pv 4) (bb ck ah (pv 8)) (fun _ _=>rfl)) ah) ah)) ab)) mh) (pv 9)))) bw)
   (am (cV (dq K PySem.F.plainAttrs_list PySem.F.slot_list_append PySem.F.type_list_append cg (pv 7) (aa (pv 9) ab))))))))
   (am (aW (pv 7))))))))),?_⟩
 walk_at "rd1";walk_at "nx";refine⟨c,10,rfl,by decide,by decide,fun xp H1 ms sm1 hxp hxl hxn hxb=>?_⟩
 have item:∀ {H':Hp} (i:Nat),Same H1 H'→i<10→∃ xs,(SqL K H' xp xs∨SqT K H' xp xs)∧dL xs (i:Int)=some (.int (ms.getD i 0)):=fun {H'} i sm h1=>
  ⟨_,.inl (SqL.of (sm _ _ hxl)),aL (by rw[List.getElem?_map,List.getD_eq_getElem?_getD,List.getElem?_eq_getElem (by omega)]; rfl)⟩
 walk_at "nx";obtain⟨xs,h1,h2⟩:=item 0 (Same.refl H1) (by decide)
 refine⟨xs,_,h1,h2,?_⟩
 walk_at "rd1";refine⟨by decide,?_⟩
 have hsz0:∃ z:Nat,1+ms.getD 0 0 % 8=(z:Int)∧1≤z∧z≤8:=⟨(1+ms.getD 0 0 % 8).toNat,by omega,by omega,by omega⟩
 obtain⟨sz,esz,sz0,sz1⟩:=hsz0
 rw[esz];walk_at "nx";obtain⟨xs,h1,h2⟩:=item 9 (Same.refl H1) (by decide)
 refine⟨xs,_,h1,h2,?_⟩
 walk_at "rd1";refine⟨by omega,?_⟩
 have hat0:∃ z:Nat,ms.getD 9 0 % (sz:Int)=(z:Int)∧z<sz:=⟨(ms.getD 9 0 % (sz:Int)).toNat,by have:=Int.emod_nonneg (ms.getD 9 0) (show (sz:Int)≠0 by omega); omega,by have:=Int.emod_lt_of_pos (ms.getD 9 0) (show (0:Int)<sz by omega); have:=Int.emod_nonneg (ms.getD 9 0) (show (sz:Int)≠0 by omega); omega⟩
 obtain⟨at',eat,hat⟩:=hat0
 rw[eat];walk_at "nx";refine⟨by decide,fun p hp=>?_⟩
 generalize hH2:upd H1 p _=H2
 have sm2:=cJ hH2 hp;have e2:=dG hH2;walk_at "nx";refine⟨by omega,by omega,?_⟩
 refine dW (fun i σ H'=>∃ (ss:List Str) (o7 o8 o9:Option V),σ=[some (.int c),some (.int n),some (.int sd),some (.str letters),some (.ref xp),some (.int sz),some (.int at'),some (.ref p),o7,o8,o9]∧Same H1 H'∧H' p=some (.lst (ss.map V.str))∧ss.length=i∧(∀ x∈ss,x.length≤10)∧∀ (k:Nat) x,ss[k]? = some x→x.cps.toList[at'+if sd=2 then 2 else 0]? = some (kd (ms.getD (1+at') 0+k * 1)))
  ⟨[],none,none,none,rfl,sm2,e2,rfl,by simp,by simp⟩ ?_ ?_
 ·rintro i σ H' hi ⟨ss,o7,o8,o9,rfl,sm,hl,hsn,hsl,hsk⟩
  rw[Int.toNat_natCast]at hi
  walk_at "rd1";walk_at "nx";refine⟨by omega,by omega,?_⟩
  refine dW (fun j σ H2=>∃ (x:Str) (o8:Option V),σ=[some (.int c),some (.int n),some (.int sd),some (.str letters),some (.ref xp),some (.int sz),some (.int at'),some (.ref p),some (.int (0+(i:Int))),some (.str x),o8]∧H'=H2∧x.length=j∧(at'<j→x.cps.toList[at']? = some (kd (ms.getD (1+at') 0+i * 1))))
   ⟨_,_,rfl,rfl,rfl,fun h=>absurd h (by omega)⟩ ?_ ?_
  ·rintro j σ H2 hj ⟨x,o8,rfl,rfl,hx,hxa⟩
   rw[Int.toNat_natCast]at hj
   walk_at "rd1";obtain⟨xs,h1,h2⟩:=item (1+j) sm (by omega)
   rw[show ((1+j:Nat):Int)=1+(0+(j:Int)) by omega]at h2
   refine⟨xs,_,h1,h2,.inl ⟨by omega,by omega⟩,?_⟩
   walk_at "rd1";obtain⟨l1,l2⟩:=tS (ms.getD (1+j) 0+(0+(i:Int)) * if 0+(j:Int)=(at':Int) then 1 else 0)
   refine⟨by decide,_,l1,l2,?_,x++⟨#[kd (ms.getD (1+j) 0+(0+(i:Int)) * if 0+(j:Int)=(at':Int) then 1 else 0)]⟩,_,rfl,?_,fun hlt=>?_⟩
   ·show x.length+1≤sizeLine
    exact b7 (by omega)
   ·rw[wG,hx]
   ·have hxl:x.cps.toList.length=j:=by rw[Array.length_toList]; exact hx
    rw[vf];rcases Nat.lt_or_ge at' j with g | g
    ·rw[List.getElem?_append_left (by omega)]; exact hxa g
    ·have e:at'=j:=by omega
     subst e;rw[List.getElem?_append_right (by omega),hxl,Nat.sub_self,if_pos (by omega),Int.zero_add]; rfl
  ·rintro σ H2 ⟨x,o8,rfl,rfl,hx,hxa⟩
   rw[Int.toNat_natCast]at hx hxa
   dsimp only
   refine l_ (fun σ' H2=>∃ (y:Str),σ'=[some (.int c),some (.int n),some (.int sd),some (.str letters),some (.ref xp),some (.int sz),some (.int at'),some (.ref p),some (.int (0+(i:Int))),some (.str y),o8]∧H'=H2∧y.length≤10∧y.cps.toList[at'+if sd=2 then 2 else 0]? = some (kd (ms.getD (1+at') 0+i * 1))) (fun k hk=>?_) ?_
   ·rcases hsd with rfl | rfl
    ·walk_at "rd1"
     refine bn (fun c=>absurd c (by decide)) (fun _=>?_)
     exact hk _ _ ⟨x,rfl,rfl,by omega,hxa hat⟩
    ·walk_at "rd1"
     obtain⟨xs,h1,h2⟩:=item (1+i) sm (by omega)
     rw[show ((1+i:Nat):Int)=1+(0+(i:Int)) by omega]at h2
     refine⟨xs,_,h1,h2,?_⟩
     walk_at "rd1";have hd:1+ms.getD (1+i) 0 / 64 % 2=1∨1+ms.getD (1+i) 0 / 64 % 2=2:=by omega
     have hl1:(Str.ofString (toString (1+ms.getD (1+i) 0 / 64 % 2))).length=1:=by rcases hd with e | e <;> rw[e] <;> decide +kernel
     have hlg:(1+ms.getD (1+i) 0 / 64 % 2).natAbs.log2<1920:=by rcases hd with e | e <;> rw[e] <;> decide +kernel
     have hdot:(Str.ofString ".").length=1:=by decide +kernel
     have hpre:(Str.ofString (toString (1+ms.getD (1+i) 0 / 64 % 2))++Str.ofString ".").length=2:=by rw[← i6,yi,List.length_append,i6,i6,hl1,hdot]
     have hall:T (Str.ofString (toString (1+ms.getD (1+i) 0 / 64 % 2))++Str.ofString "." ++ x)=T (Str.ofString (toString (1+ms.getD (1+i) 0 / 64 % 2))++Str.ofString ".")++T x:=yi _ _
     refine⟨⟨by decide,by decide⟩,by decide,hlg,by rw[hl1,hdot]; exact b7 (by decide),by rw[hpre]; exact b7 (by omega),?_⟩
     refine hk _ _ ⟨_,rfl,rfl,?_,?_⟩
     ·rw[← i6,hall,List.length_append,i6,i6,hpre]; omega
     ·show (T _)[at'+2]? = _
      rw[hall,List.getElem?_append_right (by rw[i6,hpre]; omega),i6,hpre,Nat.add_sub_cancel]
      exact hxa hat
   rintro σ' H2 ⟨y,rfl,rfl,hy10,hyat⟩
   walk_at "nx";refine⟨⟨_,SqL.of hl⟩,_,hl,by rw[List.length_map]; exact b6 (by omega),?_⟩
   refine⟨ss++[y],_,_,_,rfl,sm.upd hp _,by rw[ae,List.map_append]; rfl,by simp[hsn],fun z hz=>?_,wn hsn hsk hyat⟩
   rcases List.mem_append.mp hz with z' | z'
   ·exact hsl z z'
   ·rw[List.mem_singleton.mp z']; exact hy10
 ·rintro σ H' ⟨ss,o7,o8,o9,rfl,sm,hl,hsn,hsl,hsk⟩
  rw[Int.toNat_natCast]at hsn
  walk_at "nx";refine q p H' ss (sm1.trans sm) (sm1.free hp) hl hsn hsl ?_
  rw[List.nodup_iff_pairwise_ne,List.pairwise_iff_getElem];intro a b ha hb hab e
  have h1:=hsk a _ (List.getElem?_eq_getElem ha);have h2:=hsk b _ (List.getElem?_eq_getElem hb);rw[e,h2]at h1
  have h3:=wb (Option.some.inj h1);omega
end
theorem wX(l:List Int)(c:Int)(h:l.length=4)(hb:∀ x∈l,0<x∧x<1073741824):∃ v,dL (l.map V.int) (c % 4)=some (.int v)∧0<v∧v<1073741824:=by
 obtain⟨v,hv,_⟩:=zL (xs:=l) (i:=c % 4) (by omega) (by omega)
 exact⟨v,lU (by omega) hv,(hb v (List.mem_of_getElem? hv)).1,(hb v (List.mem_of_getElem? hv)).2⟩
theorem yN{xs:List V}{i:Nat}(h:i<xs.length):lc xs.length (0+(i:Int))=some i:=by
 unfold lc;rw[if_pos (by omega),if_pos (by omega)]
 congr 1
 omega
section
variable{P:Program}{w:World}{K:PySem.W.Frag}{mg:Str→Option Value}{base:Heap}
def rz(K:PySem.W.Frag):Sp:=fun vs H Q _=>∃ (cp:Addr) (cs:List Int) (sz mn:Nat) (c:Int),vs=[.ref cp,.int sz,.int mn,.int c]∧SqL K H cp (cs.map V.int)∧1≤sz∧sz≤6∧mn≤3∧∀ (p:Addr) (H':Hp) (as:List Addr) (rs:List (List (Option Nat))),Same H H'→H p=none→NR H H' p rs as→rs.length=sz→(∀ x∈rs,x.length=mn∧∀ k,some k∈x→k<sz)→Q (.ref p) H'
theorem xG(D:DefAt K mg "_law_rooms" aE) (z_range:mg "range" = none) (z_len:mg "len" = none) (z_min:mg "min" = none) (c_law_mixed:Cal P w K mg base 1 "_law_mixed" ["_law_cell", "_law_many"] kO) (c_law_way:Cal P w K mg base 1 "_law_way" ["_law_number", "_law_share", "_law_many"] yr):Cal P w K mg base 2 "_law_rooms" ["_law_cells", "_law_size", "_law_many", "_law_cell"] (rz K):=by
 refine D.cal sc_law_rooms (fun _ _ _ _ _ _ us hl=>match us,hl with | [_,_,_,_],_=>rfl) (fun vs H Q E h=>by obtain⟨_,_,_,_,_,rfl,_⟩:=h; rfl) (fun f cdv A outer s H vs Q E hr h=>?_)
 obtain⟨cp,cs,sz,mn,c,rfl,hcs,z0,z1,m1,q⟩:=h
 refine⟨_,(ac (az 4 sc_law_rooms.nd (aw (aN K) (cD (aa ah (aa ah (aa ah (aa ah ab))))) (bb cy (pv 3) ah) (fun _ _=>rfl)) (hx:=EI))
   (ac (az 5 sc_law_rooms.nd (aU c_law_mixed hr (aa (pv 3) (aa (bb ib (pv 2 (hv:=Ar)) (pv 1 (hv:=xf))) ab))) (hx:=Es))
   (ac (cN PassesOwn.never rfl (dc Be z_range (aa (bp vT z_min AM (aa (bp (bK K) z_len b8 (aa (pv 0) ab)) (aa (bb ib (pv 2 (hv:=Ar)) (pv 1 (hv:=xf))) ab))) ab)) (bf 6 sc_law_rooms.nd) (am (dz (bb cy (aw (aN K) (pv 0) (pv 6) (fun _ _=>rfl)) ah) (dH (pv 5 (hv:=DY)) (pv 6) yx))))
   (am (aW (xx (CompScO.to (fsc:=(defScope aE)) (N:=["_law_cells", "_law_size", "_law_many", "_law_cell", "_law_share", "_law_xs", "_law_k"]) (N0:=["_law_cells", "_law_size", "_law_many", "_law_cell", "_law_share", "_law_xs", "_law_k"]) (T:=["_law_r"]) ⟨by decide +kernel,by decide +kernel,by decide +kernel,by decide +kernel,by decide +kernel,by decide +kernel⟩ rfl rfl) rfl (dc Be z_range (aa (pv 1 (hv:=xf)) ab)) (fun _ _ _ _=>(bf 7 (show (["_law_cells", "_law_size", "_law_many", "_law_cell", "_law_share", "_law_xs", "_law_k", "_law_r"]:List Str).Nodup from by decide +kernel) (hx:=(Ck (defScope aE) (by decide +kernel))) (hf:=Ef (defScope aE) (by decide +kernel)))) (bZ (show (["_law_cells", "_law_size", "_law_many", "_law_cell", "_law_share", "_law_xs", "_law_k"]:List Str).length≤7 from by decide)) (fun _ _ _ _=>cv) (fun _ _ _ _=>(cW (CompSc.to (fsc:=(bB _ (defScope aE))) (N:=["_law_cells", "_law_size", "_law_many", "_law_cell", "_law_share", "_law_xs", "_law_k", "_law_r"]) (N0:=["_law_cells", "_law_size", "_law_many", "_law_cell", "_law_share", "_law_xs", "_law_k", "_law_r"]) (T:=["_law_j"]) ⟨by decide +kernel,by decide +kernel,by decide +kernel,by decide +kernel,by decide +kernel,by decide +kernel,by decide +kernel⟩ rfl rfl) rfl (dc (DG (defScope aE) (by decide +kernel)) z_range (aa (pv 2 (hv:=(Cd (defScope aE) (by decide +kernel)))) ab)) (fun _ _ _ _=>(bf 8 (show (["_law_cells", "_law_size", "_law_many", "_law_cell", "_law_share", "_law_xs", "_law_k", "_law_r", "_law_j"]:List Str).Nodup from by decide +kernel) (hx:=(eh (bB _ (defScope aE)) (e:=rfl) (by decide +kernel))) (hf:=gP (bB _ (defScope aE)) (e:=rfl) (by decide +kernel)))) (bZ (show (["_law_cells", "_law_size", "_law_many", "_law_cell", "_law_share", "_law_xs", "_law_k", "_law_r"]:List Str).length≤8 from by decide)) (fun _ _ _ _=>cv) (fun _ _ _ _=>(aU c_law_way hr (aa (aw (aN K) (pv 5 (hv:=(bX (bB _ (defScope aE)) (e:=rfl) (by decide +kernel)))) (bb ck (bb ib (pv 2 (hv:=(bX (bB _ (defScope aE)) (e:=rfl) (by decide +kernel)))) (pv 7 (hv:=(bX (bB _ (defScope aE)) (e:=rfl) (by decide +kernel))))) (pv 8 (hv:=(bX (bB _ (defScope aE)) (e:=rfl) (by decide +kernel))))) (fun _ _=>rfl)) (aa (pv 4 (hv:=(bX (bB _ (defScope aE)) (e:=rfl) (by decide +kernel)))) (aa (pv 1 (hv:=(bX (bB _ (defScope aE)) (e:=rfl) (by decide +kernel)))) ab))) (hg:=(rq (bB _ (defScope aE)) (e:=rfl) (by decide +kernel))))))))))))),?_⟩
 walk_at "rd1";refine⟨by decide,fun sp hsp=>?_⟩
 have s1:=ak hsp (.lst [V.int 2,V.int 3,V.int 5,V.int 101]);have e1:upd H sp (.lst [V.int 2,V.int 3,V.int 5,V.int 101]) sp=some (.lst ([2,3,5,101].map V.int)):=ae
 generalize upd H sp (.lst [V.int 2,V.int 3,V.int 5,V.int 101])=H1 at s1 e1 ⊢;obtain⟨sh,hsh,sh0,sh1⟩:=wX [2,3,5,101] c rfl (by decide)
 refine⟨by decide,_,_,.inl (SqL.of e1),hsh,?_⟩
 walk_at "nx";have hmz:(mn:Int) * sz=((mn * sz:Nat):Int):=by simp
 have hmz9:mn * sz≤18:=Nat.le_trans (Nat.mul_le_mul m1 z1) (by decide)
 refine⟨.inl ⟨by omega,by omega⟩,_,_,rfl,by rw[hmz]; omega,by rw[hmz]; omega,fun xp H2 ms s2 hxp hxl hxn hxb=>?_⟩
 walk_at "nx";have hcs2:=(s1.trans s2).seq hcs;refine⟨_,.inl hcs2,.inl ⟨by omega,by omega⟩,?_⟩
 have hb:∃ b:Nat,(if (mn:Int) * sz<((cs.map V.int).length:Int) then (mn:Int) * sz else ((cs.map V.int).length:Int))=(b:Int)∧b≤mn * sz∧b≤cs.length:=by
  rw[hmz,List.length_map];split
  ·exact⟨mn * sz,rfl,Nat.le_refl _,by omega⟩
  ·exact⟨cs.length,rfl,by omega,Nat.le_refl _⟩
 obtain⟨b,eb,hb1,hb2⟩:=hb
 rw[eb];have hxn':ms.length=mn * sz:=by rw[hmz]at hxn; omega
 refine⟨by omega,by omega,?_⟩
 refine dW (fun i σ H'=>∃ (ms':List Int) (o6:Option V),σ=[some (.ref cp),some (.int sz),some (.int mn),some (.int c),some (.int sh),some (.ref xp),o6]∧Same H H'∧H' xp=some (.lst (ms'.map V.int))∧ms'.length=mn * sz) ⟨ms,none,rfl,s1.trans s2,hxl,hxn'⟩ ?_ ?_
 ·rintro i σ H' hi ⟨ms',o6,rfl,sm,hl,hn⟩
  rw[Int.toNat_natCast]at hi
  walk_at "rd1"
  have hat:dL (cs.map V.int) (0+(i:Int))=some (.int (cs.getD i 0)):=by
   rw[Int.zero_add];exact aL (by rw[List.getElem?_map,List.getD_eq_getElem?_getD,List.getElem?_eq_getElem (by omega)]; rfl)
  refine⟨_,_,.inl (sm.seq hcs),hat,?_⟩
  walk_at "rd1";exact⟨by decide,_,i,hl,yN (by rw[List.length_map]; omega),ms'.set i (cs.getD i 0 % 998244353),_,rfl,sm.upd (s1.free hxp) _,by rw[ae,List.map_set],by rw[List.length_set]; exact hn⟩
 rintro σ H3 ⟨ms',o6,rfl,s3,hl3,hn3⟩
 walk_at "nx";refine⟨by omega,by omega,fun L hL=>?_⟩
 refine k_ (fun i ys H'=>∃ (as:List Addr) (rs:List (List (Option Nat))),Same H3 H'∧H' L=some (.lst ys)∧ys=as.map V.ref∧as.length=i∧rs.length=i∧(∀ (k:Nat) a x,as[k]? = some a→rs[k]? = some x→H' a=some (.lst (x.map ap))∧a≠L)∧(∀ a∈as,H3 a=none)∧as.Nodup∧∀ x∈rs,x.length=mn∧∀ k,some k∈x→k<sz) ⟨[],[],ak hL _,ae,rfl,rfl,rfl,by simp,by simp,List.nodup_nil,by simp⟩ ?_ ?_
 ·rintro i ys H' hi ⟨as,rs,sm,hl,rfl,hal,hrl,has,hfr,hnd,hrs⟩
  have hi':i<sz:=by omega
  walk_at "rd1";refine⟨by omega,by omega,fun L2 hL2=>?_⟩
  have nL:L2≠L:=Ne.symm (aO hl hL2)
  refine k_ (fun j ys H''=>∃ x:List (Option Nat),Same H' H''∧H'' L2=some (.lst ys)∧ys=x.map ap∧x.length=j∧∀ k,some k∈x→k<sz) ⟨[],ak hL2 _,ae,rfl,rfl,by simp⟩ ?_ ?_
  ·rintro j ys H'' hj ⟨x,smx,hlx,rfl,hx,hxk⟩
   have hj':j<mn:=by omega
   have hix:mn * i+j<ms'.length:=by
    rw[hn3]
    calc mn * i+j<mn * i+mn:=by omega
     _=mn * (i+1):=by rw[Nat.mul_add,Nat.mul_one]
     _≤mn * sz:=Nat.mul_le_mul_left _ hi'
   have hat:dL (ms'.map V.int) ((mn:Int) * (0+(i:Int))+(0+(j:Int)))=some (.int ms'[mn * i+j]):=by
    rw[show (mn:Int) * (0+(i:Int))+(0+(j:Int))=((mn * i+j:Nat):Int) by simp]
    exact aL (by rw[List.getElem?_map,List.getElem?_eq_getElem hix]; rfl)
   walk_at "rd1";refine⟨.inl ⟨by omega,by omega⟩,_,_,.inl (SqL.of ((sm.trans smx) _ _ hl3)),hat,?_⟩
   refine⟨_,sh,sz,rfl,sh0,sh1,by omega,by omega,fun o ho=>?_⟩
   exact dX (by omega) (by rw[List.length_map]; exact hx) (b7 (by omega)) hlx ⟨x++[o],smx.upd hL2 _,ae,by simp,by simp[hx],fun k hk=>by
    rcases List.mem_append.mp hk with z | z
    ·exact hxk k z
    ·have:=ho k (List.mem_singleton.mp z).symm
     omega⟩
  rintro ys H'' ⟨x,smx,hlx,rfl,hx,hxk⟩
  refine dX (by omega) (by rw[List.length_map]; exact hal) (b7 (by omega)) (smx _ _ hl) ⟨as++[L2],rs++[x],(sm.trans smx).upd hL _,ae,by simp,by simp[hal],by simp[hrl],fun k a y e1 e2=>?_,fun a ha=>?_,?_,fun y hy=>?_⟩
  ·by_cases hk:k<as.length
   ·rw[List.getElem?_append_left hk]at e1
    rw[List.getElem?_append_left (by omega)]at e2
    obtain⟨g1,g2⟩:=has k a y e1 e2
    exact⟨by rw[al g2]; exact smx _ _ g1,g2⟩
   ·have hk':k=as.length:=by have:=(List.getElem?_eq_some_iff.mp e1).1; simp at this; omega
    subst hk';rw[List.getElem?_append_right (Nat.le_refl _)]at e1
    rw[show as.length=rs.length by omega,List.getElem?_append_right (Nat.le_refl _)]at e2
    simp at e1 e2
    subst e1 e2;exact⟨by rw[al nL]; exact hlx,nL⟩
  ·rcases List.mem_append.mp ha with z | z
   ·exact hfr a z
   ·rw[List.mem_singleton.mp z]; exact sm.free hL2
  ·refine List.nodup_append.mpr ⟨hnd,by simp,fun x hx y hy e=>?_⟩
   rw[List.mem_singleton.mp hy]at e
   obtain⟨i',hi',e'⟩:=List.mem_iff_getElem.mp hx
   have z:=(has i' x _ (by rw[List.getElem?_eq_getElem hi',e']) (List.getElem?_eq_getElem (by omega))).1
   rw[e,hL2]at z; cases z
  ·rcases List.mem_append.mp hy with z | z
   ·exact hrs y z
   ·rw[List.mem_singleton.mp z]; exact⟨by omega,hxk⟩
 rintro ys H4 ⟨as,rs,sm,hl,rfl,hal,hrl,has,hfr,hnd,hrs⟩
 refine q L H4 as rs (s3.trans sm) (s3.free hL) ⟨⟨hl,by omega,fun i a x e1 e2=>(has i a x e1 e2).1⟩,fun a ha=>⟨s3.free (hfr a ha),fun z=>?_⟩,hnd⟩ (by omega) hrs
 obtain⟨i',hi',e'⟩:=List.mem_iff_getElem.mp ha
 exact(has i' a _ (by rw[List.getElem?_eq_getElem hi',e']) (List.getElem?_eq_getElem (by omega))).2 z
end
theorem xU(xs:List V)(i j:Nat):jG xs (some (i:Int)) (some (j:Int))=(xs.take j).drop i:=by
 unfold jG;rw[HT.sIx_nat,HT.sIx_nat,List.drop_take];rcases Nat.lt_or_ge xs.length i with h | h
 ·rw[List.drop_eq_nil_of_le (by omega),List.drop_eq_nil_of_le (by omega)]; simp
 ·rcases Nat.lt_or_ge xs.length j with h2 | h2
  ·rw[show min i xs.length=i by omega,show min j xs.length=xs.length by omega,List.take_of_length_le (by simp),List.take_of_length_le (by simp; omega)]
  ·rw[show min i xs.length=i by omega,show min j xs.length=j by omega]
theorem kn(xs:List V)(lo n:Nat)(hn:1≤n):(gA xs (some (lo:Int)) none (some (n:Int))).length≤xs.length:=by
 unfold gA;refine Nat.le_trans (List.length_filterMap_le _ _) ?_
 have hb:∃ st:Int,0≤st∧sliceBounds (some (lo:Int)) none (some (n:Int)) xs.length=(st,(xs.length:Int),(n:Int)):=by
  refine⟨max 0 (min (lo:Int) xs.length),by omega,?_⟩
  have hn':(n:Int)>0:=by omega
  show (_,_,_)=_
  simp only[sliceBounds,Option.getD_some,hn',if_true]
  rw[if_neg (by omega)]
 obtain⟨st,h0,e⟩:=hb
 rw[e];unfold sliceRange;rw[List.length_map,List.length_range]
 dsimp only
 rw[if_pos (by omega)]
 split
 ·rename_i h
  have:((xs.length:Int) - st+n - 1) / n≤xs.length - st:=by
   refine Int.le_of_lt_add_one (Int.ediv_lt_of_lt_mul (by omega) ?_)
   have h1:((xs.length:Int) - st+1) * n=((xs.length:Int) - st) * n+n:=by rw[Int.add_mul,Int.one_mul]
   have h2:((xs.length:Int) - st) * 1≤((xs.length:Int) - st) * n:=Int.mul_le_mul_of_nonneg_left (by omega) (by omega)
   rw[h1];omega
  omega
 ·simp
theorem og{ns:List Int}{lo hi st:Option Int}:∃ cs:List Int,gA (ns.map V.int) lo hi st=cs.map V.int:=by
 have h:∀ vs:List V,(∀ v∈vs,v∈ns.map V.int)→∃ cs:List Int,vs=cs.map V.int:=by
  intro vs
  induction vs with
  | nil=>exact fun _=>⟨[],rfl⟩
  | cons v vs ih=>
   intro h
   obtain⟨cs,e⟩:=ih fun u hu=>h u (List.mem_cons_of_mem _ hu)
   obtain⟨z,_,e2⟩:=List.mem_map.mp (h v List.mem_cons_self)
   exact⟨z::cs,by rw[e,← e2]; rfl⟩
 exact h _ fun v hv=>xn hv
section
variable{P:Program}{w:World}{K:PySem.W.Frag}{mg:Str→Option Value}{base:Heap}
structure Drawn2 (r r':Rl):Prop where
 ok:bA r
 ok':bA r'
 nd:r.ws.Nodup
 nd':r'.ws.Nodup
 s:r.s=r'.s
 z:r.rs.length≤5
 z':r'.rs.length≤5
 w3:r.ws.length≤3
 w3':r'.ws.length≤3
theorem RoomsAs.setRow{H:Hp}{p c:Addr}{rs:List (List (Option Nat))}{as:List Addr}{i:Nat}{y:List (Option Nat)}(h:RoomsAs H p rs as)(nd:as.Nodup)(hp:p∉as)(hc:as[i]? = some c):RoomsAs (upd H c (.lst (y.map ap))) p (rs.set i y) as:=by
 obtain⟨h1,h2,h3⟩:=h
 have hm:=List.mem_of_getElem? hc;refine⟨by rw[al (show p≠c from fun z=>hp (by rw[z]; exact hm))]; exact h1,by rw[List.length_set]; exact h2,fun k a x e1 e2=>?_⟩
 by_cases ek:k=i
 ·subst ek
  rw[hc]at e1; cases e1
  have hk:k<rs.length:=by have:=(List.getElem?_eq_some_iff.mp hc).1; omega
  rw[List.getElem?_set_self hk]at e2
  cases e2;exact ae
 ·rw[List.getElem?_set_ne (Ne.symm ek)]at e2
  have na:a≠c:=fun z=>by
   subst z;obtain⟨x1,f1⟩:=List.getElem?_eq_some_iff.mp hc
   obtain⟨x2,f2⟩:=List.getElem?_eq_some_iff.mp e1
   exact ek ((List.getElem_inj nd).mp (f2.trans f1.symm))
  rw[al na]; exact h3 k a x e1 e2
def yJ(K:PySem.W.Frag):Sp:=fun vs H Q _=>∃ (a:Addr) (ns:List Int),vs=[.ref a]∧SqL K H a (ns.map V.int)∧ns.length≤63∧∀ (t p q:Addr) (H':Hp) (r r':Rl),Same H H'→H' t=some (.tup [.ref p,.ref q])→RuleAt H' p r→RuleAt H' q r'→Drawn2 r r'→Q (.ref t) H'
theorem z7(D:DefAt K mg "_law_two" aB) (z_range:mg "range" = none) (z_len:mg "len" = none) (z_sorted:mg "sorted" = none) (z_list:mg "list" = none) (c_law_cell_at:Cal P w K mg base 1 "_law_cell_at" ["_law_script", "_law_k"] (uQ K)) (c_law_mixed:Cal P w K mg base 1 "_law_mixed" ["_law_cell", "_law_many"] kO) (c_law_words:Cal P w K mg base 2 "_law_words" ["_law_cell", "_law_many", "_law_sides"] qk) (c_law_rooms:Cal P w K mg base 2 "_law_rooms" ["_law_cells", "_law_size", "_law_many", "_law_cell"] (rz K)):Cal P w K mg base 3 "_law_two" ["_law_script"] (yJ K):=by
 refine D.cal sc_law_two (fun _ _ _ _ _ _ us hl=>match us,hl with | [_],_=>rfl) (fun vs H Q E h=>by obtain⟨_,_,rfl,_⟩:=h; rfl) (fun f cdv A outer s H vs Q E hr h=>?_)
 obtain⟨a,ns,rfl,hS,h63,fin⟩:=h
 refine⟨_,(ac (az 1 sc_law_two.nd (aU c_law_cell_at hr (aa (pv 0) (aa ah ab))))
   (ac (az 2 sc_law_two.nd (bb ck ah (bb cy (pv 1) ah)))
   (ac (az 3 sc_law_two.nd (aU c_law_words hr (aa (bb d_ (aU c_law_cell_at hr (aa (pv 0) (aa ah ab))) ah) (aa ah (aa (pv 2) ab)))))
   (ac (az 4 sc_law_two.nd (cD (aa (bb cy (bb d_ (pv 1) ah) ah) (aa (bb cy (bb d_ (pv 1) ah) ah) ab))))
   (ac (az 5 sc_law_two.nd (bp (mf K) z_sorted gF (aa (p7 (qc K) (pv 3) m9 (fG (aw (aN K) (pv 4) ah (fun _ _=>rfl)))) ab)))
   (ac (az 6 sc_law_two.nd (bb cy (bb d_ (pv 1) ah) ah))
   (ac (az 7 sc_law_two.nd (bp (mf K) z_sorted gF (aa (p7 (qc K) (pv 3) (fG (pv 6)) (fG (bb ck (pv 6) (aw (aN K) (pv 4) ah (fun _ _=>rfl))))) ab)))
   (ac (az 8 sc_law_two.nd (cD (aa (bb ck ah (bb cy (bb d_ (aU c_law_cell_at hr (aa (pv 0) (aa ah ab))) ah) ah)) (aa (bb ck ah (bb cy (bb d_ (aU c_law_cell_at hr (aa (pv 0) (aa ah ab))) ah) ah)) ab))))
   (ac (az 9 sc_law_two.nd (aU c_law_rooms hr (aa (nI K (pv 0) (fG ah) m9 (fG ah)) (aa (aw (aN K) (pv 8) ah (fun _ _=>rfl)) (aa (aw (aN K) (pv 4) ah (fun _ _=>rfl)) (aa (aU c_law_cell_at hr (aa (pv 0) (aa ah ab))) ab))))))
   (ac (az 10 sc_law_two.nd (cT (aa (pv 2) (aa (pv 5) (aa (pv 9) ab)))))
   (ac (bY (aX iN (bb cy (aU c_law_cell_at hr (aa (pv 0) (aa ah ab))) ah) ah (bd _)) (ac (az 11 sc_law_two.nd (aU c_law_mixed hr (aa (aU c_law_cell_at hr (aa (pv 0) (aa ah ab))) (aa (bb ib (aw (aN K) (pv 4) ah (fun _ _=>rfl)) (aw (aN K) (pv 8) ah (fun _ _=>rfl))) ab))))
   (ac (mG (CompSc.to (fsc:=(defScope aB)) (N:=["_law_script", "_law_first", "_law_sides", "_law_some", "_law_many", "_law_ones", "_law_step", "_law_others", "_law_sizes", "_law_rooms_here", "_law_one", "_law_xs", "_law_k"]) (N0:=["_law_script", "_law_first", "_law_sides", "_law_some", "_law_many", "_law_ones", "_law_step", "_law_others", "_law_sizes", "_law_rooms_here", "_law_one", "_law_xs", "_law_k"]) (T:=["_law_room"]) ⟨by decide +kernel,by decide +kernel,by decide +kernel,by decide +kernel,by decide +kernel,by decide +kernel,by decide +kernel⟩ rfl rfl) rfl sc_law_two.nd (i:=9) rfl Fj (bT K (pv 9)) (fun _ _ _ _=>(bf 13 (show (["_law_script", "_law_first", "_law_sides", "_law_some", "_law_many", "_law_ones", "_law_step", "_law_others", "_law_sizes", "_law_rooms_here", "_law_one", "_law_xs", "_law_k", "_law_room"]:List Str).Nodup from by decide +kernel) (hx:=(eh (defScope aB) (by decide +kernel))) (hf:=gP (defScope aB) (by decide +kernel)))) (bZ (show (["_law_script", "_law_first", "_law_sides", "_law_some", "_law_many", "_law_ones", "_law_step", "_law_others", "_law_sizes", "_law_rooms_here", "_law_one", "_law_xs", "_law_k"]:List Str).length≤13 from by decide)) (fun _ _ _ _=>cv) (fun _ _ _ _=>(cX (gY K) z_list dE (aa (pv 13 (hv:=(bX (defScope aB) (by decide +kernel)))) ab) (hg:=(rq (defScope aB) (by decide +kernel))))))
   (ac (cN PassesOwn.never rfl (dc De z_range (aa (bp (bK K) z_len b8 (aa (pv 11) ab)) ab)) (bf 12 sc_law_two.nd) (am (bY (aX iN (bb cy (aw (aN K) (pv 11) (pv 12) (fun _ _=>rfl)) ah) ah (bd _)) (am (dz b5 (dH (aw (aN K) (pv 9) (bb d_ (pv 12) (aw (aN K) (pv 4) ah (fun _ _=>rfl))) (fun _ _=>rfl)) (bb cy (pv 12) (aw (aN K) (pv 4) ah (fun _ _=>rfl))) yx))) bw)))
   (am (aW (cT (aa (pv 10) (aa (cT (aa (pv 2) (aa (cX (gY K) z_list dE (aa (pv 5) ab)) (aa (pv 9) ab)))) ab)))))))) bw)
   (am (aW (cT (aa (pv 10) (aa (cT (aa (pv 2) (aa (pv 7) (aa (aU c_law_rooms hr (aa (nI K (pv 0) (fG ah) m9 (fG ah)) (aa (aw (aN K) (pv 8) ah (fun _ _=>rfl)) (aa (aw (aN K) (pv 4) ah (fun _ _=>rfl)) (aa (aU c_law_cell_at hr (aa (pv 0) (aa ah ab))) ab))))) ab)))) ab)))))))))))))))),?_⟩
 walk_at "rd1";refine⟨a,ns,0,rfl,hS,by decide,?_⟩
 generalize ns.getD (0:Int).toNat 0=fi
 walk_at "nx";refine⟨by decide,?_⟩
 have hsd:∃ sd:Int,1+fi % 2=sd∧(sd=1∨sd=2):=⟨_,rfl,by omega⟩
 obtain⟨sd,esd,hsd⟩:=hsd
 rw[esd];walk_at "nx";refine⟨a,ns,1,rfl,hS,by decide,?_⟩
 walk_at "rd1";refine⟨⟨by decide,by decide⟩,_,6,_,rfl,by decide,hsd,fun wp H1 ss s1 hwp ew hsl hs10 hsn=>?_⟩
 walk_at "nx";refine⟨⟨by decide,by decide⟩,by decide,⟨by decide,by decide⟩,by decide,by decide,fun mp hmp=>?_⟩
 obtain⟨m0,em0,hm0⟩ : ∃ z:Nat,fi / 2 % 4=(z:Int)∧z≤3:=⟨(fi / 2 % 4).toNat,by omega,by omega⟩
 obtain⟨m1,em1,hm1⟩ : ∃ z:Nat,fi / 8 % 4=(z:Int)∧z≤3:=⟨(fi / 8 % 4).toNat,by omega,by omega⟩
 rw[em0,em1];have s2:=ak hmp (.lst [V.int (m0:Int),V.int (m1:Int)]);have e2:upd H1 mp (.lst [V.int (m0:Int),V.int (m1:Int)]) mp=some (.lst [V.int (m0:Int),V.int (m1:Int)]):=ae
 generalize upd H1 mp (.lst [V.int (m0:Int),V.int (m1:Int)])=H2 at s2 e2 ⊢;have at0':∀ {G:Hp},Same H2 G→∃ xs,(SqL K G mp xs∨SqT K G mp xs)∧dL xs 0=some (V.int (m0:Int)):=fun {G} sm=>⟨_,.inl (SqL.of (sm _ _ e2)),aL (j:=0) rfl⟩
 have at1':∀ {G:Hp},Same H2 G→∃ xs,(SqL K G mp xs∨SqT K G mp xs)∧dL xs 1=some (V.int (m1:Int)):=fun {G} sm=>⟨_,.inl (SqL.of (sm _ _ e2)),aL (j:=1) rfl⟩
 walk_at "nx";obtain⟨xs,g1,g2⟩:=at0' (Same.refl _)
 refine⟨xs,_,g1,g2,?_⟩
 walk_at "rd1";refine⟨_,SqL.of (s2 _ _ ew),fun c1 hc1=>?_⟩
 rw[yS,← List.map_take];have s3:=ak hc1 (.lst ((ss.take m0).map V.str));have e3:upd H2 c1 (.lst ((ss.take m0).map V.str)) c1=some (.lst ((ss.take m0).map V.str)):=ae
 generalize upd H2 c1 (.lst ((ss.take m0).map V.str))=H3 at s3 e3 ⊢;refine⟨_,SqL.of e3,by rw[List.length_take]; omega,fun w1 ts1 hw1 pm1 so1=>?_⟩
 have s4:=ak hw1 (.lst (ts1.map V.str));have e4:upd H3 w1 (.lst (ts1.map V.str)) w1=some (.lst (ts1.map V.str)):=ae
 generalize upd H3 w1 (.lst (ts1.map V.str))=H4 at s4 e4 ⊢;walk_at "nx";refine⟨⟨by decide,by decide⟩,by decide,?_⟩
 obtain⟨st,est,hst⟩ : ∃ z:Nat,fi / 32 % 4=(z:Int)∧z≤3:=⟨(fi / 32 % 4).toNat,by omega,by omega⟩
 rw[est];walk_at "nx";have s24:=s3.trans s4;obtain⟨xs,g1,g2⟩:=at1' s24
 refine⟨xs,_,g1,g2,?_⟩
 walk_at "rd1";refine⟨_,SqL.of ((s2.trans s24) _ _ ew),fun c2 hc2=>?_⟩
 rw[show (st:Int)+(m1:Int)=((st+m1:Nat):Int) by omega,xU,← List.map_take,← List.map_drop]
 have s5:=ak hc2 (.lst (((ss.take (st+m1)).drop st).map V.str));have e5:upd H4 c2 (.lst (((ss.take (st+m1)).drop st).map V.str)) c2=some (.lst (((ss.take (st+m1)).drop st).map V.str)):=ae
 generalize upd H4 c2 (.lst (((ss.take (st+m1)).drop st).map V.str))=H5 at s5 e5 ⊢;refine⟨_,SqL.of e5,by rw[List.length_drop,List.length_take]; omega,fun w2 ts2 hw2 pm2 so2=>?_⟩
 have s6:=ak hw2 (.lst (ts2.map V.str));have e6:upd H5 w2 (.lst (ts2.map V.str)) w2=some (.lst (ts2.map V.str)):=ae
 generalize upd H5 w2 (.lst (ts2.map V.str))=H6 at s6 e6 ⊢;have s26:=s24.trans (s5.trans s6);have l1:ts1.length=m0:=by rw[pm1.length_eq,List.length_take]; omega
 have l2:ts2.length=m1:=by rw[pm2.length_eq,List.length_drop,List.length_take]; omega
 have nd1:ts1.Nodup:=pm1.nodup_iff.mpr (hsn.sublist (List.take_sublist _ _))
 have nd2:ts2.Nodup:=pm2.nodup_iff.mpr (hsn.sublist ((List.drop_sublist _ _).trans (List.take_sublist _ _)))
 have lw1:∀ u∈ts1,u.length≤10:=fun u hu=>hs10 u (List.mem_of_mem_take (pm1.mem_iff.mp hu))
 have lw2:∀ u∈ts2,u.length≤10:=fun u hu=>hs10 u (List.mem_of_mem_take (List.mem_of_mem_drop (pm2.mem_iff.mp hu)))
 have s06:=s1.trans (s2.trans s26);walk_at "nx";refine⟨a,ns,2,rfl,s06.seq hS,by decide,?_⟩
 generalize ns.getD (2:Int).toNat 0=q2
 walk_at "rd1";refine⟨⟨by decide,by decide⟩,by decide,a,ns,3,rfl,s06.seq hS,by decide,?_⟩
 generalize ns.getD (3:Int).toNat 0=q3
 walk_at "rd1";refine⟨⟨by decide,by decide⟩,by decide,by decide,fun zp hzp=>?_⟩
 obtain⟨z0,ez0,hz0,hz0'⟩ : ∃ z:Nat,1+q2 / 4 % 5=(z:Int)∧1≤z∧z≤5:=⟨(1+q2 / 4 % 5).toNat,by omega,by omega,by omega⟩
 obtain⟨z1,ez1,hz1,hz1'⟩ : ∃ z:Nat,1+q3 / 4 % 5=(z:Int)∧1≤z∧z≤5:=⟨(1+q3 / 4 % 5).toNat,by omega,by omega,by omega⟩
 rw[ez0,ez1];have s7:=ak hzp (.lst [V.int (z0:Int),V.int (z1:Int)]);have e7:upd H6 zp (.lst [V.int (z0:Int),V.int (z1:Int)]) zp=some (.lst [V.int (z0:Int),V.int (z1:Int)]):=ae
 generalize upd H6 zp (.lst [V.int (z0:Int),V.int (z1:Int)])=H7 at s7 e7 ⊢;have zt0:∀ {G:Hp},Same H7 G→∃ xs,(SqL K G zp xs∨SqT K G zp xs)∧dL xs 0=some (V.int (z0:Int)):=fun {G} sm=>⟨_,.inl (SqL.of (sm _ _ e7)),aL (j:=0) rfl⟩
 have zt1:∀ {G:Hp},Same H7 G→∃ xs,(SqL K G zp xs∨SqT K G zp xs)∧dL xs 1=some (V.int (z1:Int)):=fun {G} sm=>⟨_,.inl (SqL.of (sm _ _ e7)),aL (j:=1) rfl⟩
 have s07:=s06.trans s7;have s27:=s26.trans s7;walk_at "nx";rw[rZ];walk_at "rd1";obtain⟨cs1,ecs1⟩:=og (ns:=ns) (lo:=some ((4:Nat):Int)) (hi:=none) (st:=some ((2:Nat):Int))
 have hp1:=kn (ns.map V.int) 4 2 (by decide)
 rw[List.length_map]at hp1
 refine⟨a,_,rfl,s07.seq hS,by decide,b7 (Nat.le_trans hp1 (by omega)),fun v1 hv1=>?_⟩
 have ecs1':gA (ns.map V.int) (some 4) none (some 2)=cs1.map V.int:=ecs1
 rw[ecs1'];have s8:=ak hv1 (.lst (cs1.map V.int));have e8:upd H7 v1 (.lst (cs1.map V.int)) v1=some (.lst (cs1.map V.int)):=ae
 generalize upd H7 v1 (.lst (cs1.map V.int))=H8 at s8 e8 ⊢;obtain⟨xs,g1,g2⟩:=zt0 s8
 refine⟨xs,_,g1,g2,?_⟩
 obtain⟨xs,g1,g2⟩:=at0' (s27.trans s8)
 refine⟨xs,_,g1,g2,?_⟩
 refine⟨a,ns,2,rfl,(s07.trans s8).seq hS,by decide,?_⟩
 refine⟨v1,cs1,z0,m0,_,rfl,SqL.of e8,hz0,Nat.le_trans hz0' (by decide),hm0,fun pr H9 as1 rs1 s9 hpr hN1 hr1 hrr1=>?_⟩
 walk_at "nx";refine⟨by decide,fun p1 hp1'=>?_⟩
 have s10:=ak hp1' (.tup [V.int sd,V.ref w1,V.ref pr]);have e10:upd H9 p1 (.tup [V.int sd,V.ref w1,V.ref pr]) p1=some (.tup [V.int sd,V.ref w1,V.ref pr]):=ae
 generalize upd H9 p1 (.tup [V.int sd,V.ref w1,V.ref pr])=H10 at s10 e10 ⊢;have s710:=(s8.trans s9).trans s10;have s410:Same H4 H10:=((s5.trans s6).trans s7).trans s710
 have s010:=s07.trans s710;have hR1:RuleAt H10 p1 ⟨sd,ts1,rs1⟩:=⟨w1,pr,as1,e10,s410 _ _ e4,hN1.at'.mono s10⟩
 have ok1:bA ⟨sd,ts1,rs1⟩:=⟨hsd,by show ts1.length≤16; omega,by show 1≤rs1.length; omega,by show rs1.length≤60; have:z0≤60:=Nat.le_trans hz0' (by decide); omega,fun x hx=>⟨by rw[(hrr1 x hx).1]; exact l1.symm,fun k hk=>by rw[hr1]; exact(hrr1 x hx).2 k hk⟩,lw1⟩
 walk_at "nx";refine⟨a,ns,1,rfl,s010.seq hS,by decide,?_⟩
 walk_at "rd1";refine⟨by decide,bn (fun _=>?_) (fun _=>?_)⟩
 ·walk_at "rd1"
  refine⟨a,ns,3,rfl,s010.seq hS,by decide,?_⟩
  obtain⟨xs,g1,g2⟩:=at0' (s27.trans s710)
  refine⟨xs,_,g1,g2,?_⟩
  obtain⟨xs,g1,g2⟩:=zt0 s710
  refine⟨xs,_,g1,g2,?_⟩
  walk_at "rd1";have hmz:(m0:Int) * (z0:Int)=((m0 * z0:Nat):Int):=by simp
  have hmz18:m0 * z0≤18:=Nat.le_trans (Nat.mul_le_mul hm0 hz0') (by decide)
  refine⟨.inl ⟨by omega,by omega⟩,_,_,rfl,by rw[hmz]; omega,by rw[hmz]; omega,fun xp H11 ms s11 hxp hxl hxn hxb=>?_⟩
  have hxn':ms.length=m0 * z0:=by rw[hmz]at hxn; omega
  walk_at "nx";have hN11:=(hN1.at'.mono s10).mono s11;refine⟨⟨_,SqL.of hN11.1⟩,fun L hL=>?_⟩
  refine lZ hN11 ok1.n1 hL (fun a xs H' C y1 y2=>?_) (fun H12 bs s12 hB hbn hnd=>?_)
  ·walk_at "rd1"
   exact⟨_,.inl (SqL.of y1),y2⟩
  walk_at "nx";refine⟨_,.inl (SqL.of (s12 _ _ hxl)),?_⟩
  rw[List.length_map,hxn'];refine⟨by omega,by omega,?_⟩
  have hLb:L∉bs:=fun hm=>(hbn L hm).2 rfl
  have hbl:=hB.2.1;rw[Int.toNat_natCast]
  refine dW (fun i σ H'=>∃ (rows:List (List (Option Nat))) (o12:Option V),σ=[some (.ref a),some (.int fi),some (.int sd),some (.ref wp),some (.ref mp),some (.ref w1),some (.int (st:Int)),some (.ref w2),some (.ref zp),some (.ref L),some (.ref p1),some (.ref xp),o12]∧Same H11 H'∧RoomsAs H' L rows bs∧rows.length=z0∧∀ x∈rows,x.length=m0∧∀ k,some k∈x→k<z0)
   ⟨rs1,none,rfl,s12,hB,hr1,hrr1⟩ ?_ ?_
  ·rintro i σ H' hi ⟨rows,o12,rfl,sm,hRo,hrl,hrr⟩
   have hm0p:0<m0:=by
    rcases Nat.eq_zero_or_pos m0 with z | z
    ·rw[z]at hi; simp at hi
    ·exact z
   walk_at "rd1";have hix:i<ms.length:=by omega
   refine⟨_,_,.inl (SqL.of (sm _ _ hxl)),by rw[Int.zero_add]; exact aL (v:=.int ms[i]) (by rw[List.getElem?_map,List.getElem?_eq_getElem hix]; rfl),?_⟩
   walk_at "rd1";refine⟨by decide,bn (fun _=>?_) (fun _=>⟨rows,_,rfl,sm,hRo,hrl,hrr⟩)⟩
   have s2H:Same H2 H':=(s27.trans s710).trans (s11.trans sm)
   obtain⟨xs,g1,g2⟩:=at0' s2H
   refine⟨xs,_,g1,g2,?_⟩
   walk_at "rd1";have hd:i / m0<z0:=by rw[Nat.div_lt_iff_lt_mul hm0p,Nat.mul_comm]; exact hi
   have hmd:i % m0<m0:=Nat.mod_lt _ hm0p
   have hdb:i / m0<bs.length:=by omega
   have hdr:i / m0<rows.length:=by omega
   refine⟨⟨by omega,by omega⟩,_,_,.inl (SqL.of hRo.1),by rw[show (0+(i:Int)) / (m0:Int)=((i / m0:Nat):Int) by simp]; exact aL (v:=.ref bs[i / m0]) (by rw[List.getElem?_map,List.getElem?_eq_getElem hdb]; rfl),?_⟩
   obtain⟨xs,g1,g2⟩:=at0' s2H
   refine⟨xs,_,g1,g2,?_⟩
   walk_at "rd1";have hrow:=hRo.2.2 (i / m0) bs[i / m0] rows[i / m0] (List.getElem?_eq_getElem hdb) (List.getElem?_eq_getElem hdr);obtain⟨hx1,hx2⟩:=hrr _ (List.getElem_mem hdr)
   refine⟨by omega,_,i % m0,hrow,by rw[show (0+(i:Int)) % (m0:Int)=(0+((i % m0:Nat):Int)) by simp]; exact yN (by rw[List.length_map]; omega),?_⟩
   have hset:(rows[i / m0].map ap).set (i % m0) V.non=((rows[i / m0]).set (i % m0) none).map ap:=by rw[List.map_set]; rfl
   rw[hset];refine⟨rows.set (i / m0) ((rows[i / m0]).set (i % m0) none),_,rfl,sm.upd (hbn _ (List.getElem_mem hdb)).1 _,hRo.setRow hnd hLb (List.getElem?_eq_getElem hdb),by rw[List.length_set]; exact hrl,fun y hy=>?_⟩
   rcases List.mem_or_eq_of_mem_set hy with z | z
   ·exact hrr y z
   ·rw[z,List.length_set]
    refine⟨hx1,fun k hk=>?_⟩
    rcases List.mem_or_eq_of_mem_set hk with z' | z'
    ·exact hx2 k z'
    ·cases z'
  rintro σ H13 ⟨rows,o12,rfl,s13,hRo,hrl,hrr⟩
  walk_at "nx";have s413:Same H4 H13:=s410.trans (s11.trans s13)
  refine⟨_,.inl (SqL.of (s413 _ _ e4)),fun wl hwl=>?_⟩
  have s14:=ak hwl (.lst (ts1.map V.str));have e14:upd H13 wl (.lst (ts1.map V.str)) wl=some (.lst (ts1.map V.str)):=ae
  generalize upd H13 wl (.lst (ts1.map V.str))=H14 at s14 e14 ⊢;refine⟨by decide,fun p2 hp2=>?_⟩
  have s15:=ak hp2 (.tup [V.int sd,V.ref wl,V.ref L]);have e15:upd H14 p2 (.tup [V.int sd,V.ref wl,V.ref L]) p2=some (.tup [V.int sd,V.ref wl,V.ref L]):=ae
  generalize upd H14 p2 (.tup [V.int sd,V.ref wl,V.ref L])=H15 at s15 e15 ⊢;refine⟨by decide,fun t ht=>?_⟩
  have s16:=ak ht (.tup [V.ref p1,V.ref p2]);have s1016:=(s11.trans s13).trans ((s14.trans s15).trans s16);have hr2:RuleAt (upd H15 t (.tup [V.ref p1,V.ref p2])) p2 ⟨sd,ts1,rows⟩:=⟨wl,L,bs,s16 _ _ e15,(s15.trans s16) _ _ e14,hRo.mono ((s14.trans s15).trans s16)⟩
  have z60:z0≤60:=Nat.le_trans hz0' (by decide)
  exact fin t p1 p2 _ _ _ (s010.trans s1016) ae (hR1.mono s1016) hr2 ⟨ok1,⟨hsd,by show ts1.length≤16; omega,by show 1≤rows.length; omega,by show rows.length≤60; omega,fun x hx=>⟨by rw[(hrr x hx).1]; exact l1.symm,fun k hk=>by rw[hrl]; exact(hrr x hx).2 k hk⟩,lw1⟩,nd1,nd1,rfl,by show rs1.length≤_; omega,by show rows.length≤_; omega,by show ts1.length≤3; omega,by show ts1.length≤3; omega⟩
 ·walk_at "nx"
  rw[rZ];walk_at "rd1";obtain⟨cs2,ecs2⟩:=og (ns:=ns) (lo:=some ((5:Nat):Int)) (hi:=none) (st:=some ((2:Nat):Int))
  have hp2:=kn (ns.map V.int) 5 2 (by decide)
  rw[List.length_map]at hp2
  refine⟨a,_,rfl,s010.seq hS,by decide,b7 (Nat.le_trans hp2 (by omega)),fun v2 hv2=>?_⟩
  have ecs2':gA (ns.map V.int) (some 5) none (some 2)=cs2.map V.int:=ecs2
  rw[ecs2'];have s11:=ak hv2 (.lst (cs2.map V.int));have e11:upd H10 v2 (.lst (cs2.map V.int)) v2=some (.lst (cs2.map V.int)):=ae
  generalize upd H10 v2 (.lst (cs2.map V.int))=H11 at s11 e11 ⊢;obtain⟨xs,g1,g2⟩:=zt1 (s710.trans s11)
  refine⟨xs,_,g1,g2,?_⟩
  obtain⟨xs,g1,g2⟩:=at1' (s27.trans (s710.trans s11))
  refine⟨xs,_,g1,g2,?_⟩
  refine⟨a,ns,3,rfl,(s010.trans s11).seq hS,by decide,?_⟩
  refine⟨v2,cs2,z1,m1,_,rfl,SqL.of e11,hz1,Nat.le_trans hz1' (by decide),hm1,fun pr2 H12 as2 rs2 s12 hpr2 hN2 hr2 hrr2=>?_⟩
  refine⟨by decide,fun p2 hp2'=>?_⟩
  have s15:=ak hp2' (.tup [V.int sd,V.ref w2,V.ref pr2]);have e15:upd H12 p2 (.tup [V.int sd,V.ref w2,V.ref pr2]) p2=some (.tup [V.int sd,V.ref w2,V.ref pr2]):=ae
  generalize upd H12 p2 (.tup [V.int sd,V.ref w2,V.ref pr2])=H15 at s15 e15 ⊢;refine⟨by decide,fun t ht=>?_⟩
  have s16:=ak ht (.tup [V.ref p1,V.ref p2]);have s1016:=(s11.trans s12).trans (s15.trans s16);have s616:=(s7.trans s710).trans s1016;have hr2':RuleAt (upd H15 t (.tup [V.ref p1,V.ref p2])) p2 ⟨sd,ts2,rs2⟩:=⟨w2,pr2,as2,s16 _ _ e15,s616 _ _ e6,hN2.at'.mono (s15.trans s16)⟩
  have z60:z1≤60:=Nat.le_trans hz1' (by decide)
  exact fin t p1 p2 _ _ _ (s010.trans s1016) ae (hR1.mono s1016) hr2' ⟨ok1,⟨hsd,by show ts2.length≤16; omega,by show 1≤rs2.length; omega,by show rs2.length≤60; omega,fun x hx=>⟨by rw[(hrr2 x hx).1]; exact l2.symm,fun k hk=>by rw[hr2]; exact(hrr2 x hx).2 k hk⟩,lw2⟩,nd1,nd2,rfl,by show rs1.length≤_; omega,by show rs2.length≤_; omega,by show ts1.length≤3; omega,by show ts2.length≤3; omega⟩
theorem p5{r:Rl}(nd:r.ws.Nodup):r.ws.filter (fun y=>decide (y∈(av r).ws))=(av r).ws:=by
 have e:r.ws=(List.range r.ws.length).map fun x=>r.ws.getD x default:=by
  refine List.ext_getElem (by simp) fun i h1 h2=>?_
  rw[List.getElem_map,List.getElem_range,aH h1]
 have h:r.ws.filter (fun y=>decide (y∈(av r).ws))=((List.range r.ws.length).map fun x=>r.ws.getD x default).filter (fun y=>decide (y∈(av r).ws)):=congrArg _ e
 rw[h,List.filter_map];show _=(List.filter (dF (af r.rs)) (List.range r.ws.length)).map fun x=>r.ws.getD x default
 congr 1
 refine List.filter_congr fun x hx=>?_
 have hx':=List.mem_range.mp hx;show decide (r.ws.getD x default∈(av r).ws)=_
 rw[aH hx',Bool.eq_iff_iff,decide_eq_true_eq,lr nd hx']
 constructor
 ·exact fun h=>(List.mem_filter.mp h).2
 ·exact fun h=>List.mem_filter.mpr ⟨hx,h⟩
def qe:Sp:=fun vs H Q _=>∃ (fq wp:Addr) (r:Rl),vs=[.ref fq,.int r.s,.ref wp]∧RuleAt H fq (av r)∧H wp=some (.lst (r.ws.map V.str))∧bA r∧r.ws.Nodup∧∀ H',Same H H'→Q (.bl true) H'
theorem uq(D:DefAt K mg "_law_is_way" bP) (z_isinstance:mg "isinstance" = none) (z_int:mg "int" = none) (z_bool:mg "bool" = none):Cal P w K mg base 1 "_law_is_way" ["_law_to_here", "_law_many"] r_:=by
 refine D.cal oy (fun _ _ _ _ _ _ us hl=>match us,hl with | [_,_],_=>rfl) (fun vs H Q E h=>by obtain⟨o,n,rfl,_⟩:=h; rfl) (fun f cdv A outer s H vs Q E hr h=>?_)
 obtain⟨o,n,rfl,ho,q⟩:=h
 refine⟨_,(ac (bY (aX dY (pv 0) b5 (bd _)) (am (aW dy)) bw)
   (am (aW (kq (bp eJ z_isinstance cR (aa (pv 0) (aa (iV z_int qf) ab))) (kq (AT (bp eJ z_isinstance cR (aa (pv 0) (aa (iV z_bool yW) ab)))) (kq (dD B8 ah (pv 0) (bd _)) (pN (dD ke (pv 0) (pv 1) (bd _))))))))),?_⟩
 cases o with
 | none=>
  walk_at "rd1";refine bn (fun c=>?_) (fun c=>?_)
  ·exact q
  ·exact absurd rfl c
 | some k=>
  have hk:=ho k rfl;rw[show ap (some k)=V.int (k:Int) from rfl];walk_at "rd1";refine bn (fun c=>?_) (fun c=>?_)
  ·cases c
  ·walk_at "nx"
   refine⟨"int", rfl,by decide,?_⟩
   refine bn (fun c=>?_) (fun c=>absurd (by decide) c)
   refine⟨"int", rfl,by decide,?_⟩
   refine bn (fun c=>?_) (fun c=>absurd (by decide) c)
   walk_at "rd1";refine bn (fun c=>?_) (fun c=>absurd (by simp) c)
   rw[decide_eq_true (show (k:Int)<(n:Int) by omega)]
   exact q
theorem tF(D:DefAt K mg "_law_is_rule_of" ay) (z_isinstance:mg "isinstance" = none) (z_int:mg "int" = none) (z_list:mg "list" = none) (z_tuple:mg "tuple" = none) (z_len:mg "len" = none) (c_law_is_way:Cal P w K mg base 1 "_law_is_way" ["_law_to_here", "_law_many"] r_) :
  Cal P w K mg base 2 "_law_is_rule_of" ["_law_found", "_law_sides", "_law_words_here"] qe:=by
 refine D.cal sc_law_is_rule_of (fun _ _ _ _ _ _ us hl=>match us,hl with | [_,_,_],_=>rfl) (fun vs H Q E h=>by obtain⟨fq,p,r,rfl,_⟩:=h; rfl) (fun f cdv A outer s H vs Q E hr h=>?_)
 obtain⟨fq,p,r,rfl,hF,h2,ok,nd,q⟩:=h
 obtain⟨fw,fr,fs,g1,g2,g3⟩:=hF
 have ok2:=gb ok;have nw:=ok.nw;have n1:=ok2.n1;have n0:=ok2.n0
 refine⟨_,(ac (bY (PW.pt' (gy (dJ (dA (bp eJ z_isinstance cR (aa (pv 0 (hv:=gN)) (aa (iV z_tuple lM) ab))))) (gy (aX iR (bp (bK K) z_len b8 (aa (pv 0 (hv:=gN)) ab)) ah (bd _)) (gy (aX BG (aw (aN K) (pv 0 (hv:=gN)) ah (fun _ _=>rfl)) dy (bd _)) (iO (aX iR (aw (aN K) (pv 0 (hv:=gN)) ah (fun _ _=>rfl)) (pv 1) (bd _))))))) (am (aW dy)) bw)
   (ac (bY (PW.pt' (gy (dJ (dA (bp eJ z_isinstance cR (aa (aw (aN K) (pv 0 (hv:=gN)) ah (fun _ _=>rfl)) (aa (iV z_int qf) ab))))) (gy (dJ (dA (bp eJ z_isinstance cR (aa (aw (aN K) (pv 0 (hv:=gN)) ah (fun _ _=>rfl)) (aa (iV z_list dE) ab))))) (iO (dJ (dA (bp eJ z_isinstance cR (aa (aw (aN K) (pv 0 (hv:=gN)) ah (fun _ _=>rfl)) (aa (iV z_list dE) ab))))))))) (am (aW dy)) bw)
   (ac (bY (PW.pt' (gy (aX (jt K hr) (aw (aN K) (pv 0 (hv:=gN)) ah (fun _ _=>rfl)) (cW (CompSc.to (fsc:=(defScope ay)) (N:=["_law_found", "_law_sides", "_law_words_here", "_law_room", "_law_to_here"]) (N0:=["_law_found", "_law_sides", "_law_words_here", "_law_room", "_law_to_here"]) (T:=["_law_word"]) ⟨by decide +kernel,by decide +kernel,by decide +kernel,by decide +kernel,by decide +kernel,by decide +kernel,by decide +kernel⟩ rfl rfl) rfl (bT K (pv 2)) (fun _ _ _ _=>(bf 5 (show (["_law_found", "_law_sides", "_law_words_here", "_law_room", "_law_to_here", "_law_word"]:List Str).Nodup from by decide +kernel) (hx:=(eh (defScope ay) (by decide +kernel))) (hf:=gP (defScope ay) (by decide +kernel)))) (bZ (show (["_law_found", "_law_sides", "_law_words_here", "_law_room", "_law_to_here"]:List Str).length≤5 from by decide)) (fun _ _ _ _=>(oT (aX (u5 K) (pv 5 (hv:=(bX (defScope ay) (by decide +kernel)))) (aw (aN K) (pv 0 (hv:=(bX (defScope ay) (by decide +kernel)))) ah (fun _ _=>rfl)) (by with_unfolding_all rfl)))) (fun _ _ _ _=>(pv 5 (hv:=(bX (defScope ay) (by decide +kernel)))))) (bd _)) (iO (aX (kG K hr) (aw (aN K) (pv 0 (hv:=gN)) ah (fun _ _=>rfl)) (cD ab) (bd _))))) (am (aW dy)) bw)
   (ac (cN PassesOwn.never rfl (bT K (aw (aN K) (pv 0 (hv:=gN)) ah (fun _ _=>rfl))) (bf 3 sc_law_is_rule_of.nd) (ac (bY (PW.pt' (gy (dJ (dA (bp eJ z_isinstance cR (aa (pv 3) (aa (iV z_list dE) ab))))) (iO (aX iR (bp (bK K) z_len b8 (aa (pv 3) ab)) (bp (bK K) z_len b8 (aa (aw (aN K) (pv 0 (hv:=gN)) ah (fun _ _=>rfl)) ab)) (bd _))))) (am (aW dy)) bw)
   (am (cN PassesOwn.never rfl (bT K (pv 3)) (bf 4 sc_law_is_rule_of.nd) (am (bY (dJ (dA (aU c_law_is_way hr (aa (pv 4) (aa (bp (bK K) z_len b8 (aa (aw (aN K) (pv 0 (hv:=gN)) ah (fun _ _=>rfl)) ab)) ab))))) (am (aW dy)) bw))))))
   (am (aW dy)))))),?_⟩
 walk_at "rd1";refine⟨"tuple", by simp[cz,g1],by decide,?_⟩
 refine bn (fun c=>absurd c (by decide)) (fun c=>?_)
 refine⟨_,.inr (SqT.of g1),?_⟩
 refine bn (fun c=>absurd c (by simp)) (fun c=>?_)
 refine⟨_,_,.inr (SqT.of g1),rfl,?_⟩
 walk_at "rd1";refine⟨rfl,bn (fun c=>absurd c (by simp)) (fun c=>?_)⟩
 refine⟨_,_,.inr (SqT.of g1),rfl,?_⟩
 walk_at "rd1";refine bn (fun c=>absurd c (by simp[av])) (fun c=>?_)
 walk_at "nx";refine⟨_,_,.inr (SqT.of g1),rfl, "int", rfl,by decide,?_⟩
 refine bn (fun c=>absurd c (by decide)) (fun c=>?_)
 refine⟨_,_,.inr (SqT.of g1),rfl, "list", by simp[cz,g2],by decide,?_⟩
 refine bn (fun c=>absurd c (by decide)) (fun c=>?_)
 refine⟨_,_,.inr (SqT.of g1),rfl, "list", by simp[cz,g3.1],by decide,?_⟩
 refine bn (fun c=>absurd c (by decide)) (fun c=>?_)
 walk_at "nx";refine⟨_,_,.inr (SqT.of g1),rfl,?_⟩
 walk_at "rd1";refine⟨⟨_,SqL.of h2⟩,fun L hL=>?_⟩
 refine sT (xs:=r.ws.map V.str) (fun i ys H'=>Same H H'∧H' L=some (.lst ys)∧ys=((r.ws.take i).filter (fun y=>decide (y∈(av r).ws))).map V.str) ⟨ak hL _,ae,rfl⟩ (fun i ys H' _ h=>SqL.of (h.1 _ _ h2)) ?_ ?_
 ·rintro i ys H' v hv hi ⟨sm,hl,rfl⟩
  rw[List.length_map]at hi
  rw[List.getElem?_map,List.getElem?_eq_getElem hi]at hv
  cases hv
  have hlen:(((r.ws.take i).filter (fun y=>decide (y∈(av r).ws))).map V.str).length≤i:=by
   rw[List.length_map];have:=List.length_filter_le (fun y=>decide (y∈(av r).ws)) (r.ws.take i)
   rw[List.length_take]at this; omega
  walk_at "rd1";refine⟨_,_,.inr (SqT.of (sm _ _ g1)),rfl,?_⟩
  walk_at "rd1";refine⟨_,.inl (SqL.of (sm _ _ g2)),rfl,oe _,?_⟩
  rw[rL]
  by_cases hm:r.ws[i]∈(av r).ws
  ·refine bn (fun c=>?_) (fun c=>absurd (by simpa using hm) c)
   refine ui (by rw[List.length_map]; exact hi) hlen (by rw[List.length_map]; exact b7 (by omega)) hl ⟨sm.upd hL _,ae,?_⟩
   rw[List.take_add_one,List.getElem?_eq_getElem hi,List.filter_append,List.map_append]; simp[hm]
  ·refine bn (fun c=>absurd (by simpa using c) hm) (fun c=>?_)
   refine yC (by rw[List.length_map]; exact hi) ⟨sm,hl,?_⟩
   rw[List.take_add_one,List.getElem?_eq_getElem hi,List.filter_append]; simp[hm]
 rintro ys H3 ⟨sm3,hl3,rfl⟩
 rw[List.length_map,List.take_length,p5 nd]at hl3
 walk_at "rd1";refine⟨0,true,by decide,EqN.seqFlat (.inl ⟨SqL.of (sm3 _ _ g2),SqL.of hl3⟩) (nD _),?_⟩
 walk_at "rd1";refine⟨_,_,.inr (SqT.of (sm3 _ _ g1)),rfl,?_⟩
 walk_at "rd1";refine⟨by decide,fun ep hep=>?_⟩
 have st:=sm3.trans (ak hep (.lst []));generalize hH1:upd H3 ep _=H1 at st ⊢;have e1:=dG hH1;have k1:=st _ _ g3.1;have k2:=g3.2.1;walk_at "rd1";refine⟨0,false,by decide,.inr ⟨fr,ep,_,_,rfl,rfl,.inl ⟨SqL.of k1,SqL.of e1⟩,.inr ⟨SqL.of k1,SqL.of e1,by rw[List.length_map]; show fs.length≠0; omega,rfl⟩⟩,?_⟩
 walk_at "rd1";walk_at "nx";refine⟨_,_,.inr (SqT.of (st _ _ g1)),rfl,?_⟩
 walk_at "rd1";refine⟨⟨_,SqL.of k1⟩,?_⟩
 refine eY (xs:=fs.map V.ref) (fun i σ H'=>∃ o2 o3:Option V,σ=[some (.ref fq),some (.int r.s),some (.ref p),o2,o3]∧H1=H') ⟨none,none,rfl,rfl⟩ (fun i σ H' _ h=>by obtain⟨_,_,_,rfl⟩:=h; exact SqL.of k1) ?_ ?_
 ·rintro i v σ H' hv ⟨o2,o3,rfl,rfl⟩
  have hia:i<fs.length:=by have:=(List.getElem?_eq_some_iff.mp hv).1; simpa using this
  have hi:i<(av r).rs.length:=by omega
  rw[List.getElem?_map,List.getElem?_eq_getElem hia]at hv
  cases hv;have hrow:=st _ _ (g3.2.2 i _ _ (List.getElem?_eq_getElem hia) (List.getElem?_eq_getElem hi));obtain⟨hrl,hins⟩:=ok2.row _ (List.getElem_mem hi)
  walk_at "rd1";refine⟨"list", by simp[cz,hrow],by decide,?_⟩
  refine bn (fun c=>absurd c (by decide)) (fun c=>?_)
  refine⟨_,.inl (SqL.of hrow),?_⟩
  refine⟨_,_,.inr (SqT.of (st _ _ g1)),rfl,?_⟩
  walk_at "rd1";refine⟨_,.inl (SqL.of (st _ _ g2)),?_⟩
  rw[List.length_map,List.length_map,hrl];walk_at "rd1";refine bn (fun c=>absurd c (by simp)) (fun c=>?_)
  walk_at "nx";refine⟨⟨_,SqL.of hrow⟩,?_⟩
  refine eY (xs:=((av r).rs[i]).map ap) (fun j σ H'=>∃ o3:Option V,σ=[some (.ref fq),some (.int r.s),some (.ref p),some (.ref fs[i]),o3]∧H1=H') ⟨_,rfl,rfl⟩ (fun j σ H' _ h=>by obtain⟨_,_,rfl⟩:=h; exact SqL.of hrow) ?_ ?_
  ·rintro j v σ H' hv ⟨o3,rfl,rfl⟩
   have hj:j<((av r).rs[i]).length:=by have:=(List.getElem?_eq_some_iff.mp hv).1; simpa using this
   rw[List.getElem?_map,List.getElem?_eq_getElem hj]at hv
   cases hv;walk_at "rd1";refine⟨_,_,.inr (SqT.of (st _ _ g1)),rfl,?_⟩
   walk_at "rd1";refine⟨_,.inl (SqL.of k1),((av r).rs[i])[j],(av r).rs.length,by rw[List.length_map,k2],fun k e=>hins k (e ▸ List.getElem_mem hj),?_⟩
   walk_at "rd1";exact⟨_,rfl⟩
  ·rintro σ H' ⟨o3,rfl,rfl⟩
   exact⟨_,_,rfl,rfl⟩
 ·rintro σ H' ⟨o2,o3,rfl,rfl⟩
  walk_at "nx";exact q _ st
def BC:Sp:=fun vs H Q _=>∃ (p:Addr) (r:Rl) (o:Option Nat) (y:Str),vs=[.ref p,ap o,.str y]∧RuleAt H p r∧bA r∧(∀ k,o=some k→k<r.rs.length)∧Q (ap (eF r o y)) H
theorem B0(D:DefAt K mg "_law_to" df):Cal P w K mg base 1 "_law_to" ["_law_rule", "_law_room", "_law_word"] BC:=by
 refine D.cal (k:=0) vR (fun _ _ _ _ _ _ us hl=>match us,hl with | [_,_,_],_=>rfl) (fun vs H Q E h=>by obtain⟨p,r,k,y,rfl,_⟩:=h; rfl) (fun f cdv A outer s H vs Q E hr h=>?_)
 obtain⟨p,r,o,y,rfl,hR,ok,ho,q⟩:=h
 obtain⟨pw,pr,as,h1,h2,h3,h4,h5⟩:=hR
 refine⟨_,(ac (bY (PW.pt' (ko (aX qo (pv 1) b5 (bd _)) (jA (aX (u5 K) (pv 2) (aw (aN K) (pv 0) ah (fun _ _=>rfl)) (by with_unfolding_all rfl))))) (am (aW (aw (aN K) (aw (aN K) (aw (aN K) (pv 0) ah (fun _ _=>rfl)) (pv 1) (fun _ _=>rfl)) (dq K PySem.F.plainAttrs_list PySem.F.slot_list_index PySem.F.type_list_index (vk K) (aw (aN K) (pv 0) ah (fun _ _=>rfl)) (aa (pv 2) ab)) (fun _ _=>rfl)))) bw)
   (am (aW (pv 1)))),?_⟩
 cases o with
 | none=>
  walk_at "rd1";refine bn (fun c=>absurd c (by decide)) (fun _=>?_)
  walk_at "nx";exact q
 | some k=>
 have hk:=ho k rfl;have q:Q (ap (bh r k y)) H:=q
 rw[show ap (some k)=V.int (k:Int) from rfl];walk_at "rd1";refine bn (fun _=>?_) (fun c=>absurd rfl c)
 refine⟨_,_,.inr (SqT.of h1),aL (j:=1) rfl,?_⟩
 walk_at "rd1";refine⟨_,.inl (SqL.of h2),rfl,oe _,?_⟩
 rw[rL];refine bn (fun c=>?_) (fun c=>?_)
 ·have hy:y∈r.ws:=by simpa using c
  have hka:k<as.length:=by omega
  have hx:=ok.row _ (List.getElem_mem hk);have hj:r.ws.idxOf y<(r.rs[k]).length:=by rw[hx.1]; exact List.idxOf_lt_length_iff.mpr hy
  refine⟨_,_,.inr (SqT.of h1),aL (j:=2) rfl,?_⟩
  walk_at "rd1";refine⟨_,_,.inl (SqL.of h3),aL (v:=.ref as[k]) (by rw[List.getElem?_map,List.getElem?_eq_getElem hka]; rfl),?_⟩
  refine⟨_,_,.inr (SqT.of h1),aL (j:=1) rfl,?_⟩
  walk_at "rd1";refine⟨⟨_,SqL.of h2⟩,_,SqL.of h2,hy,?_⟩
  walk_at "rd1";refine⟨_,_,.inl (SqL.of (h5 k _ _ (List.getElem?_eq_getElem hka) (List.getElem?_eq_getElem hk))),aL (v:=ap (bh r k y)) ?_,q⟩
  rw[List.getElem?_map,List.getElem?_eq_getElem hj];unfold bh;rw[if_pos hy,List.getD_eq_getElem?_getD,List.getD_eq_getElem?_getD,List.getElem?_eq_getElem hk];show _=some (ap ((r.rs[k])[r.ws.idxOf y]?.getD none))
  rw[List.getElem?_eq_getElem hj]; rfl
 ·have hy:y∉r.ws:=by simpa using c
  have e:bh r k y=some k:=by unfold bh; rw[if_neg hy]
  rw[e]at q
  walk_at "nx";exact q
def nO:Sp:=fun vs H Q _=>∃ (p:Addr) (R:aV) (as:List Addr) (m:Nat),vs=[.ref p]∧RoomsAs H p R as∧d9 R m∧ai R=List.range R.length∧∀ H',Same H H'→Q (.bl true) H'
def fo:Option Nat→Nat
 | none=>0
 | some g=>g+1
def gC(m:Nat × List (Option Nat)):dw:=((m.1:Int),m.2.map fun o=>some ((fo o:Nat):Int))
theorem zt{m m':Nat × List (Option Nat)}(h:gC m=gC m'):m=m':=by
 obtain⟨a,b⟩:=m
 obtain⟨c,d⟩:=m'
 unfold gC at h;have h1:(a:Int)=(c:Int):=congrArg (·.1) h
 have h2:b.map (fun o=>some ((fo o:Nat):Int))=d.map (fun o=>some ((fo o:Nat):Int)):=congrArg (·.2) h
 have h3:b=d:=by
  refine List.map_inj_right (f:=fun o=>some ((fo o:Nat):Int)) (fun x y e=>?_) |>.mp h2
  have e':((fo x:Nat):Int)=((fo y:Nat):Int):=Option.some.inj e
  cases x <;> cases y <;> simp[fo]at e' ⊢ <;> omega
 rw[h3,show a=c by omega]
def i_(k:Nat):List (Nat × List (Option Nat))→List (dw × V)
 | []=>[]
 | m::ms=>(gC m,nV k)::i_ (k+1) ms
theorem kE:∀ (F:List (Nat × List (Option Nat))) (k:Nat),(i_ k F).length=F.length
 | [],k=>rfl
 | m::F,k=>by show (i_ (k+1) F).length+1=_; rw[kE F]; rfl
theorem px:∀ (F:List (Nat × List (Option Nat))) (k:Nat) (m:Nat × List (Option Nat)),i_ k (F++[m])=i_ k F++[(gC m,nV (k+F.length))]
 | [],k,m=>rfl
 | x::F,k,m=>by
  show (gC x,nV k)::i_ (k+1) (F++[m])=_
  rw[px F,List.length_cons,show k+1+F.length=k+(F.length+1) by omega]; rfl
theorem kB:∀ (F:List (Nat × List (Option Nat))) (k:Nat) (m:Nat × List (Option Nat)),aI (i_ k F) (gC m)=if m∈F then some (nV (k+fv m F)) else none
 | [],k,m=>rfl
 | x::F,k,m=>by
  by_cases h:x=m
  ·subst h
   rw[if_pos List.mem_cons_self,pj];show aI ((gC x,nV k)::i_ (k+1) F) (gC x)=_
   simp[aI]
  ·have hn:¬ gC x=gC m:=fun z=>h (zt z)
   have e:aI (i_ k (x::F)) (gC m)=aI (i_ (k+1) F) (gC m):=by
    show aI ((gC x,nV k)::i_ (k+1) F) (gC m)=_
    simp[aI,hn]
   rw[e,kB F]
   by_cases hm:m∈F
   ·rw[if_pos hm,if_pos (List.mem_cons_of_mem _ hm),n_ h,show k+1+fv m F=k+(fv m F+1) by omega]
   ·rw[if_neg hm,if_neg (by simp[Ne.symm h,hm])]
theorem p4{α : Type}[DecidableEq α](ms:List α):cx (cu ms)=(aj [] ms).length:=by
 have inj:∀ x∈[]++ms,∀ y∈[]++ms,(aj [] ms).idxOf x=(aj [] ms).idxOf y→x=y:=fun x hx y hy e=>by
  have hx':x∈aj [] ms:=(bt _ _ _).mpr (.inr (by simpa using hx))
  have hy':y∈aj [] ms:=(bt _ _ _).mpr (.inr (by simpa using hy))
  have h1:=List.getElem_idxOf (List.idxOf_lt_length_iff.mpr hx');have h2:=List.getElem_idxOf (List.idxOf_lt_length_iff.mpr hy');rw[← h1,← h2]; congr 1
 have e2:=gZ (fun m=>(aj [] ms).idxOf m) ms [] inj
 rw[List.map_nil]at e2
 unfold cx cu;rw[e2,List.length_map]
theorem vg{R:aV}{t:Nat}(h:finer R (iter R t)=iter R t):iter R t=ai R:=by
 rcases Nat.lt_or_ge (R.length * R.length) t with z | z
 ·have e:=lF (R:=R) (t:=R.length * R.length) (jh R) (t - R.length * R.length)
  rw[show R.length * R.length+(t - R.length * R.length)=t by omega]at e
  exact e
 ·exact iT h z
theorem parts{R:aV}{t:Nat}(hk:ai R=List.range R.length)(hlt:cx (iter R t)<R.length):cx (finer R (iter R t))≠cx (iter R t):=fun e=>by
 have h1:=Bh (ci R t) (dS (bJ R (iter R t))) (by rw[bH]; exact(de R _).symm) (fun i j hi hj e'=>by
  rw[bH]at hi hj
  have m:=(iI hi hj).mp e';have m1:(iter R t).getD i 0=(iter R t).getD j 0:=congrArg (·.1) m
  have hl:=bH R t;rw[aH (by omega),aH (by omega)]at m1
  rw[List.getElem?_eq_getElem (by omega),List.getElem?_eq_getElem (by omega),m1]) e.symm
 have h2:finer R (iter R t)=iter R t:=h1.symm
 have h3:=vg h2;rw[h3,hk]at hlt
 unfold cx at hlt;rw[qB,List.length_range]at hlt
 omega
theorem zB(x:List (Option Nat)):(x.map fun o=>V.int ((fo o:Nat):Int))=(x.map fun o=>some ((fo o:Nat):Int)).map cE:=by
 rw[List.map_map]; rfl
theorem sP(D:DefAt K mg "_law_all_unlike" ao) (z_range:mg "range" = none) (z_len:mg "len" = none) (z_tuple:mg "tuple" = none):Cal P w K mg base 1 "_law_all_unlike" ["_law_rooms_here"] nO:=by
 refine D.cal sc_law_all_unlike (fun _ _ _ _ _ _ us hl=>match us,hl with | [_],_=>rfl) (fun vs H Q E h=>by obtain⟨p,R,as,m,rfl,_⟩:=h; rfl) (fun f cdv A outer s H vs Q E hr h=>?_)
 obtain⟨p,R,as,m,rfl,hR,ok,hkd,q⟩:=h
 obtain⟨h1,h2,h3⟩:=hR
 have n0:=ok.n0;have n1:=ok.n1;have m1:=ok.m1
 refine⟨_,(ac (az 1 sc_law_all_unlike.nd (cW (CompSc.to (fsc:=(defScope ao)) (N:=["_law_rooms_here", "_law_groups", "_law_count", "_law_known", "_law_parted", "_law_r", "_law_key"]) (N0:=["_law_rooms_here", "_law_groups", "_law_count", "_law_known", "_law_parted", "_law_r", "_law_key"]) (T:=["_law_room"]) ⟨by decide +kernel,by decide +kernel,by decide +kernel,by decide +kernel,by decide +kernel,by decide +kernel,by decide +kernel⟩ rfl rfl) rfl (bT K (pv 0)) (fun _ _ _ _=>(bf 7 (show (["_law_rooms_here", "_law_groups", "_law_count", "_law_known", "_law_parted", "_law_r", "_law_key", "_law_room"]:List Str).Nodup from by decide +kernel) (hx:=(eh (defScope ao) (by decide +kernel))) (hf:=gP (defScope ao) (by decide +kernel)))) (bZ (show (["_law_rooms_here", "_law_groups", "_law_count", "_law_known", "_law_parted", "_law_r", "_law_key"]:List Str).length≤7 from by decide)) (fun _ _ _ _=>cv) (fun _ _ _ _=>ah)) (hx:=Ax))
   (ac (az 2 sc_law_all_unlike.nd ah)
   (ac (iM PassesOwn.never (aX ke (pv 2) (bp (bK K) z_len b8 (aa (pv 0) ab)) (bd _)) (ac (az 3 sc_law_all_unlike.nd pI)
   (ac (az 4 sc_law_all_unlike.nd (cD ab))
   (ac (cN PassesOwn.never rfl (dc EC z_range (aa (bp (bK K) z_len b8 (aa (pv 0) ab)) ab)) (bf 5 sc_law_all_unlike.nd) (ac (az 6 sc_law_all_unlike.nd (cT (aa (aw (aN K) (pv 1 (hv:=C8)) (pv 5) (fun _ _=>rfl)) (aa (cX (nF K) z_tuple lM (aa (cW (CompSc.to (fsc:=(defScope ao)) (N:=["_law_rooms_here", "_law_groups", "_law_count", "_law_known", "_law_parted", "_law_r", "_law_key"]) (N0:=["_law_rooms_here", "_law_groups", "_law_count", "_law_known", "_law_parted", "_law_r", "_law_key"]) (T:=["_law_to_here"]) ⟨by decide +kernel,by decide +kernel,by decide +kernel,by decide +kernel,by decide +kernel,by decide +kernel,by decide +kernel⟩ rfl rfl) rfl (bT K (aw (aN K) (pv 0) (pv 5) (fun _ _=>rfl))) (fun _ _ _ _=>(bf 7 (show (["_law_rooms_here", "_law_groups", "_law_count", "_law_known", "_law_parted", "_law_r", "_law_key", "_law_to_here"]:List Str).Nodup from by decide +kernel) (hx:=(eh (defScope ao) (by decide +kernel))) (hf:=gP (defScope ao) (by decide +kernel)))) (bZ (show (["_law_rooms_here", "_law_groups", "_law_count", "_law_known", "_law_parted", "_law_r", "_law_key"]:List Str).length≤7 from by decide)) (fun _ _ _ _=>cv) (fun _ _ _ _=>(lO (aX dY (pv 7 (hv:=(bX (defScope ao) (by decide +kernel)))) b5 (bd _)) ah (bb ck (aw (aN K) (pv 1 (hv:=(bX (defScope ao) (by decide +kernel)))) (pv 7 (hv:=(bX (defScope ao) (by decide +kernel)))) (fun _ _=>rfl)) ah)))) ab)) ab))))
   (ac (bY (aX (nr hr) (pv 6) (pv 3) (by with_unfolding_all rfl)) (am (dz (bp i0 z_len b8 (aa (pv 3) ab)) (dH (pv 3) (pv 6) (yz hr)))) bw)
   (am (cV (dq K PySem.F.plainAttrs_list PySem.F.slot_list_append PySem.F.type_list_append cg (pv 4) (aa (aw (Bv hr) (pv 3) (pv 6) (fun _ _=>rfl)) ab)))))))
   (ac (bY (aX iN (bp i0 z_len b8 (aa (pv 3) ab)) (pv 2) (bd _)) (am (aW dy)) bw)
   (ac (az 1 sc_law_all_unlike.nd (pv 4) (hx:=Ax))
   (am (az 2 sc_law_all_unlike.nd (bp i0 z_len b8 (aa (pv 3) ab))))))))))
   (am (aW dy))))),?_⟩
 walk_at "rd1";refine⟨⟨_,SqL.of h1⟩,fun L hL=>?_⟩
 refine cL (xs:=as.map V.ref) (fun i ys H'=>Same H H'∧H' L=some (.lst ys)∧ys=(List.replicate i 0).map nV) ⟨ak hL _,ae,rfl⟩ (fun i ys H' _ h=>SqL.of (h.1 _ _ h1)) ?_ ?_
 ·rintro i ys H' v hv hi ⟨sm,hl,rfl⟩
  rw[List.length_map]at hi
  walk_at "rd1";refine dX (by rw[List.length_map]; exact hi) (by simp) (by rw[List.length_map]; exact b7 (by omega)) hl ⟨sm.upd hL _,ae,?_⟩
  rw[List.replicate_succ',List.map_append]; rfl
 rintro ys H1 ⟨sm1,hl1,rfl⟩
 rw[List.length_map,h2]at hl1
 have hl1':H1 L=some (.lst ((iter R 0).map nV)):=by
  show _=some (HO.lst ((R.map fun _=>0).map nV))
  rw[List.map_const']; exact hl1
 have c0:cx (iter R 0)=1:=by
  show cx (R.map fun _=>0)=1
  rw[List.map_const']
  cases hRl:R.length with
  | zero=>omega
  | succ k=>
   have:∀ k,aj ([0]:List Nat) (List.replicate k 0)=[0]:=by
    intro k
    induction k with
    | zero=>rfl
    | succ k ih=>rw[List.replicate_succ]; show aj (if 0∈[0] then [0] else [0]++[0]) _=_; rw[if_pos (by simp)]; exact ih
   unfold cx;rw[List.replicate_succ];show (aj (if (0:Nat)∈[] then [] else []++[0]) (List.replicate k 0)).length=1
   rw[if_neg (by simp),List.nil_append,this]; rfl
 walk_at "nx";walk_at "nx"
 refine⟨fun mm σ H'=>∃ (t:Nat) (g:Addr) (o3 o4 o5 o6:Option V),mm=cQ R.length (iter R t)∧σ=[some (.ref p),some (.ref g),some (nV (cx (iter R t))),o3,o4,o5,o6]∧Same H H'∧H' g=some (.lst ((iter R t).map nV)),
  ⟨_,0,L,none,none,none,none,rfl,by rw[c0]; rfl,sm1,hl1'⟩,?_⟩
 rintro mm σ H' ⟨t,g,o3,o4,o5,o6,rfl,rfl,sm,hg⟩
 walk_at "rd1";refine⟨_,.inl (SqL.of (sm _ _ h1)),?_⟩
 rw[List.length_map,h2];refine bn (fun c=>?_) (fun c=>?_)
 ·have hlt:cx (iter R t)<R.length:=by
   have:((cx (iter R t):Nat):Int)<(R.length:Int):=by simpa using c
   omega
  have hpa:=parts hkd hlt;have hne:finer R (iter R t)≠iter R t:=fun e=>hpa (by rw[e])
  have hplt:=jO (R:=R) (bH R t) (ci R t) hne;refine⟨fun σ' H'=>∃ mm,mm<cQ R.length (iter R t)∧∃ (t':Nat) (g:Addr) (o3 o4 o5 o6:Option V),mm=cQ R.length (iter R t')∧σ'=[some (.ref p),some (.ref g),some (nV (cx (iter R t'))),o3,o4,o5,o6]∧Same H H'∧H' g=some (.lst ((iter R t').map nV)),fun _ _ h=>h,?_⟩
  have hlk:=bH R t;generalize hks:iter R t=ks at *
  walk_at "rd1";refine fun sp hsp u hdn=>?_
  generalize hHa:upd H' sp u=Ha at hdn ⊢;have sma:=cJ hHa hsp;walk_at "nx";refine⟨by decide,fun fp hfp=>?_⟩
  have hdn2:=hdn.mono (ak hfp (.lst []));generalize hHb:upd Ha fp _=Hb at hdn2 ⊢;have smb:=cJ hHb hfp;have eb:=dG hHb;have smab:=sma.trans smb;walk_at "nx";refine⟨_,.inl (SqL.of ((sm.trans smab) _ _ h1)),?_⟩
  rw[List.length_map,h2];walk_at "rd1";refine⟨by omega,by omega,?_⟩
  have hfpH:H' fp=none:=sma.free hfp
  refine dW (fun i σ Hc=>∃ o5 o6:Option V,σ=[some (.ref p),some (.ref g),some (nV (cx ks)),some (.ref sp),some (.ref fp),o5,o6]∧Same H' Hc∧DN P w Hc sp (i_ 0 (aj [] ((bJ R ks).take i)))∧Hc fp=some (.lst (((finer R ks).take i).map nV)))
   ⟨_,_,rfl,smab,hdn2,eb⟩ ?_ ?_
  ·rintro i σ Hc hi' ⟨o5,o6,rfl,smc,hdc,hfc⟩
   have hi:i<R.length:=by omega
   have hia:i<as.length:=by omega
   have hrow:=smc _ _ (sm _ _ (h3 i _ _ (List.getElem?_eq_getElem hia) (List.getElem?_eq_getElem hi)));have hrl:=ok.row _ (List.getElem_mem hi);have hins:=ok.ins _ (List.getElem_mem hi);have hkd':ks[i]? = some (ks.getD i 0):=by rw[List.getD_eq_getElem?_getD,List.getElem?_eq_getElem (by omega)]; rfl
   have hms:(bJ R ks)[i]? = some (mark R ks i):=fR hi
   have asi:as[(0+(i:Int)).toNat]? = some as[i]:=by rw[show (0+(i:Int)).toNat=i by omega]; exact List.getElem?_eq_getElem hia
   walk_at "rd1";refine⟨_,_,.inl (SqL.of (smc _ _ hg)),lU (by omega) (show ks[(0+(i:Int)).toNat]? = some (ks.getD i 0) by rw[show (0+(i:Int)).toNat=i by omega]; exact hkd'),?_⟩
   refine⟨_,_,.inl (SqL.of ((sm.trans smc) _ _ h1)),lU (by omega) asi,?_⟩
   walk_at "rd1";refine⟨⟨_,SqL.of hrow⟩,fun Z hZ=>?_⟩
   refine cL (xs:=(R[i]).map ap) (fun j ys Hd=>Same Hc Hd∧Hd Z=some (.lst ys)∧ys=((R[i]).take j).map fun o=>V.int ((fo (o.map fun k=>ks.getD k 0):Nat):Int)) ⟨ak hZ _,ae,rfl⟩ (fun j ys Hd _ h=>SqL.of (h.1 _ _ hrow)) ?_ ?_
   ·rintro j ys Hd v hv hj ⟨smd,hld,rfl⟩
    rw[List.length_map]at hj
    rw[List.getElem?_map,List.getElem?_eq_getElem hj]at hv
    cases hv
    have fin:∀ z:V,z=V.int ((fo (((R[i])[j]).map fun k=>ks.getD k 0):Nat):Int)→fc ((R[i]).map ap).length j (fun j ys Hd=>Same Hc Hd∧Hd Z=some (.lst ys)∧ys=((R[i]).take j).map fun o=>V.int ((fo (o.map fun k=>ks.getD k 0):Nat):Int)) Z (((R[i]).take j).map fun o=>V.int ((fo (o.map fun k=>ks.getD k 0):Nat):Int)) z Hd:=fun z e=>by
     subst e;refine dX (by rw[List.length_map]; exact hj) (by simp; omega) (by rw[List.length_map]; exact b7 (by omega)) hld ⟨smd.upd hZ _,ae,?_⟩
     rw[List.take_add_one,List.getElem?_eq_getElem hj,List.map_append]; rfl
    have hmem:=List.getElem_mem hj
    cases hx:(R[i])[j] with
    | none=>
     rw[hx]at fin
     walk_at "rd1";refine bn (fun c=>?_) (fun c=>absurd rfl c)
     exact fin _ rfl
    | some k=>
     rw[hx]at fin hmem
     have hk:=hins k hmem;have hkk:ks[k]? = some (ks.getD k 0):=by rw[List.getD_eq_getElem?_getD,List.getElem?_eq_getElem (by omega)]; rfl
     walk_at "rd1";refine bn (fun c=>?_) (fun c=>?_)
     ·cases c
     ·rw[show ap (some k)=V.int (k:Int) from rfl]
      walk_at "rd1";refine⟨_,_,.inl (SqL.of (smd _ _ (smc _ _ hg))),aL (by rw[List.getElem?_map,hkk]; rfl),?_⟩
      walk_at "rd1";exact fin _ (by show V.int (((ks.getD k 0:Nat):Int)+1)=V.int (((ks.getD k 0+1:Nat)):Int); rw[show ((ks.getD k 0:Nat):Int)+1=((ks.getD k 0+1:Nat):Int) by omega])
   rintro ys Hd ⟨smd,hld,rfl⟩
   rw[List.length_map,List.take_length]at hld
   walk_at "rd1";refine⟨_,.inl ⟨SqL.of hld,fun tp htp=>?_⟩⟩
   generalize hH4:upd Hd tp _=H4
   have sm4:=cJ hH4 htp;have e4:=dG hH4;refine⟨by decide,fun mp hmp=>?_⟩
   generalize hH5:upd H4 mp _=H5
   have sm5:=cJ hH5 hmp;have e5:=dG hH5;have smx:Same Hc H5:=(smd.trans sm4).trans sm5
   have hke:KeyAt H5 (gC (mark R ks i)) mp:=by
    refine⟨tp,e5,?_⟩
    have e6:=sm5 _ _ e4;rw[e6];show some (HO.tup _)=some (HO.tup ((((R.getD i []).map (Option.map fun k=>ks.getD k 0)).map fun o=>some ((fo o:Nat):Int)).map cE))
    rw[aH hi,← zB,List.map_map]; rfl
   have hd5:=hdc.mono smx;have hf5:=smx _ _ hfc;have sm05:=smc.trans smx;have htk:(bJ R ks).take (i+1)=(bJ R ks).take i++[mark R ks i]:=by rw[List.take_add_one,hms]; rfl
   have hFl:(aj [] ((bJ R ks).take i)).length≤60:=by
    have:=c_ ((bJ R ks).take i) []
    rw[List.length_take,iX]at this
    simp at this; omega
   refine l_ (fun σ' Hz=>σ'=[some (.ref p),some (.ref g),some (nV (cx ks)),some (.ref sp),some (.ref fp),some (.int (0+(i:Int))),some (.ref mp)]∧Same H' Hz∧KeyAt Hz (gC (mark R ks i)) mp∧DN P w Hz sp (i_ 0 (aj [] ((bJ R ks).take (i+1))))∧Hz fp=some (.lst (((finer R ks).take i).map nV))) (fun kk hkk=>?_) ?_
   ·walk_at "rd1"
    refine⟨mp,sp,_,_,rfl,rfl,hd5,hke,?_⟩
    rw[kB]
    by_cases hm:mark R ks i∈aj [] ((bJ R ks).take i)
    ·rw[if_pos hm]
     walk_at "rd1";refine hkk _ _ ⟨rfl,sm05,hke,?_,hf5⟩
     rw[htk,ce,if_pos hm]; exact hd5
    ·rw[if_neg hm]
     walk_at "rd1";refine⟨sp,_,rfl,hd5,sp,mp,_,_,rfl,rfl,hd5,hke,by rw[kB,if_neg hm],by rw[kE]; exact b6 (by omega),fun u' hdu=>?_⟩
     refine hkk _ _ ⟨rfl,sm05.upd hsp _,DN.keyUpd hd5 hke,?_,?_⟩
     ·rw[htk,ce,if_neg hm,px,Nat.zero_add]
      rw[kE]at hdu
      exact hdu
     ·obtain⟨ys,z,_⟩:=hd5
      rw[al (gB hf5 z (fun z=>nomatch z))]; exact hf5
   rintro σ' H6 ⟨rfl,sm6,hk6,hd6,hf6⟩
   walk_at "nx";have hm6:mark R ks i∈aj [] ((bJ R ks).take (i+1)):=(bt _ _ _).mpr (.inr (by rw[htk]; simp))
   refine⟨⟨_,SqL.of hf6⟩,sp,mp,_,_,_,rfl,rfl,hd6,hk6,by rw[kB,if_pos hm6],?_⟩
   walk_at "rd1";refine⟨_,hf6,by rw[List.length_map,List.length_take,de]; exact b6 (by omega),_,_,rfl,sm6.upd hfpH _,DN.updL hd6 hf6,?_⟩
   rw[ae,List.take_add_one (l:=finer R ks)];have e:(finer R ks)[i]? = some (fv (mark R ks i) (aj [] ((bJ R ks).take (i+1)))):=jk hms
   rw[e,Nat.zero_add,List.map_append]; rfl
  ·rintro σ Hc ⟨o5,o6,rfl,smc,hdc,hfc⟩
   have hn:(R.length:Int).toNat=R.length:=by omega
   rw[hn,List.take_of_length_le (by rw[iX]; exact Nat.le_refl _)]at hdc
   rw[hn,List.take_of_length_le (by rw[de]; exact Nat.le_refl _)]at hfc
   have hcn:(i_ 0 (aj [] (bJ R ks))).length=cx (finer R ks):=by rw[kE]; exact(p4 (bJ R ks)).symm
   walk_at "nx";refine⟨sp,_,rfl,hdc,?_⟩
   rw[hcn];walk_at "rd1";refine bn (fun c=>?_) (fun c=>?_)
   ·have e:((cx (finer R ks):Nat):Int)=((cx ks:Nat):Int):=by simpa using c
    exact absurd (by omega) hpa
   ·walk_at "nx"
    walk_at "nx";refine⟨sp,_,rfl,hdc,?_⟩
    rw[hcn];refine⟨_,hplt,t+1,fp,some (.ref sp),some (.ref fp),o5,o6,by rw[show iter R (t+1)=finer R ks by rw[← hks]; rfl],?_,sm.trans smc,?_⟩
    ·rw[show iter R (t+1)=finer R ks by rw[← hks]; rfl]
    ·rw[show iter R (t+1)=finer R ks by rw[← hks]; rfl]; exact hfc
 ·walk_at "nx"
  exact q _ sm
theorem zy{K:PySem.W.Frag}{H:Hp}{a b:Addr}{xs:List V}(h1:H a=some (.lst xs))(h2:H b=some (.lst [])):EqN K H (0+1) (.ref a) (.ref b) (decide (xs=[])):=by
 cases xs with
 | nil=>exact EqN.seqFlat (.inl ⟨SqL.of h1,SqL.of h2⟩) (fun v hv=>by cases hv)
 | cons y t=>exact .inr ⟨a,b,_,_,rfl,rfl,.inl ⟨SqL.of h1,SqL.of h2⟩,.inr ⟨SqL.of h1,SqL.of h2,by simp,rfl⟩⟩
def fP(br:Pr→Bool)(a b:Rl)(us:List Str)(M:Nat)(p:Pr):Nat:=eN (bm br a b us M).rs ((aA br a b us M).idxOf p)
def fm(br:Pr→Bool)(a b:Rl)(us:List Str)(M:Nat)(ks:List Pr):List (cn × V):=ks.map fun p=>(cO p,V.int (fP br a b us M p:Nat))
theorem iJ{br:Pr→Bool}{a b:Rl}{us:List Str}{M:Nat}:∀ (ks:List Pr) (p:Pr),aI (fm br a b us M ks) (cO p)=if p∈ks then some (V.int (fP br a b us M p:Nat)) else none
 | [],p=>rfl
 | q::ks,p=>by
  by_cases e:q=p
  ·subst e
   rw[if_pos List.mem_cons_self];exact cG rfl
  ·show aI ((cO q,V.int (fP br a b us M q:Nat))::fm br a b us M ks) (cO p)=_
   rw[cH (fun z=>e (jP z)),iJ ks p]
   by_cases c:p∈ks
   ·rw[if_pos c,if_pos (List.mem_cons_of_mem _ c)]
   ·rw[if_neg c,if_neg (fun z=>(List.mem_cons.mp z).elim (fun y=>e y.symm) c)]
structure BesP (br:Pr→Bool) (a b:Rl) (us:List Str) (M:Nat) (ks ts:List Pr) (ex:Option Pr):Prop where
 nd:ks.Nodup
 z:(some 0,some 0)∈ks
 mem:∀ p∈ks,p∈aA br a b us M
 reach:∀ p∈ks,cZ (bm br a b us M).rs ((aA br a b us M).idxOf p)
 sub:∀ t∈ts,t∈ks
 cl:∀ p∈ks,p∉ts→ex≠some p→∀ y∈us,br (bN a b p y)=false→bN a b p y∈ks
section
variable{br:Pr→Bool}{a b:Rl}{us:List Str}{M:Nat}
theorem BesP.len{ks ts:List Pr}{ex:Option Pr}(h:BesP br a b us M ks ts ex)(hw:Whole br a b us M):ks.length≤M:=by
 have h1:=fV M (ks.map fun p=>(aA br a b us M).idxOf p) (List.pairwise_map.mpr (List.Pairwise.imp_of_mem (fun {x y} hx hy hab e=>hab (by
  have e1:=List.getElem_idxOf (List.idxOf_lt_length_iff.mpr (h.mem x hx));have e2:=List.getElem_idxOf (List.idxOf_lt_length_iff.mpr (h.mem y hy));rw[← e1,← e2]
  congr 1)) h.nd)) (fun x hx=>by
   obtain⟨p,hp,rfl⟩:=List.mem_map.mp hx
   have:=List.idxOf_lt_length_iff.mpr (h.mem p hp)
   rw[← hw.M1]at this
   exact this)
 rwa [List.length_map]at h1
theorem zg(hw:Whole br a b us M)(ok:bA (bm br a b us M)){p:Pr}(hp:p∈aA br a b us M)(hr:cZ (bm br a b us M).rs ((aA br a b us M).idxOf p))(y:Str) :
  bh (av (bm br a b us M)) (fP br a b us M p) y=(if br (bN a b p y) then none else some (fP br a b us M (bN a b p y)))∧(br (bN a b p y)=false→bN a b p y∈aA br a b us M∧cZ (bm br a b us M).rs ((aA br a b us M).idxOf (bN a b p y))):=by
 have hi:(aA br a b us M).idxOf p<M:=by have:=List.idxOf_lt_length_iff.mpr hp; rw[← hw.M1]at this; exact this
 have hg:(aA br a b us M)[(aA br a b us M).idxOf p]'(by rw[← hw.M1]; exact hi)=p:=List.getElem_idxOf _
 have hs:=hw.step hi y;rw[hg]at hs
 refine⟨?_,fun hb=>?_⟩
 ·unfold fP
  rw[jc ok hw.nd hr,hs];split <;> rfl
 ·have hc:=hw.closed hi (y:=y) (by rw[hg]; exact hb)
  rw[hg]at hc
  refine⟨hc,?_⟩
  rw[if_neg (by rw[hb]; decide)]at hs
  exact jl ok hw.nd hr hs
theorem BesP.all{ks:List Pr}(h:BesP br a b us M ks [] none)(hw:Whole br a b us M)(ok:bA (bm br a b us M)){j:Nat}(hj:j<(av (bm br a b us M)).rs.length):∃ p∈ks,fP br a b us M p=j:=by
 have hl:(av (bm br a b us M)).rs.length=(af (bm br a b us M).rs).length:=by rw[cP,cS]
 obtain⟨k,hk,e⟩:=uk (tu (jx ok)) (ks.map fun p=>(aA br a b us M).idxOf p) (List.mem_map.mpr ⟨_,h.z,by
  have:=hw.ord.nd.idxOf_getElem 0 (by have:=hw.pos; rw[← hw.M1]; exact this)
  have e0:=hw.zero;rw[List.getElem?_eq_getElem (by have:=hw.pos; rw[← hw.M1]; exact this)]at e0
  rw[Option.some.inj e0]at this
  exact this⟩) (fun k hk=>by obtain⟨p,hp,rfl⟩:=List.mem_map.mp hk; exact h.reach p hp) (fun k hk k' hk'=>by
  obtain⟨p,hp,rfl⟩:=List.mem_map.mp hk
  have hi:(aA br a b us M).idxOf p<M:=by have:=List.idxOf_lt_length_iff.mpr (h.mem p hp); rw[← hw.M1]at this; exact this
  obtain⟨x,hx,ex⟩:=sj ok hw.nd (by rw[eP]; exact hi) hk'
  have hg:(aA br a b us M)[(aA br a b us M).idxOf p]'(by rw[← hw.M1]; exact hi)=p:=List.getElem_idxOf _
  have hs:=hw.step hi ((bm br a b us M).ws[x]);rw[hg,ex]at hs
  cases hb:br (bN a b p (bm br a b us M).ws[x]) with
  | true=>rw[hb,if_pos rfl]at hs; cases hs
  | false=>
   rw[hb,if_neg (by decide)]at hs
   rw[Option.some.inj hs];exact List.mem_map.mpr ⟨_,h.cl p hp (by simp) (by simp) _ (List.getElem_mem hx) hb,rfl⟩) (by rw[← hl]; exact hj)
 obtain⟨p,hp,rfl⟩:=List.mem_map.mp hk
 exact⟨p,hp,e⟩
end
def oY(br:Pr→Bool)(P:Program)(w:World):Sp:=fun vs H Q _=>∃ (p q fp wp:Addr) (a b:Rl) (us:List Str) (M:Nat),vs=[.ref p,.ref q,.ref fp,.ref wp]∧RuleAt H p a∧RuleAt H q b∧RuleAt H fp (av (bm br a b us M))∧H wp=some (.lst (us.map V.str))∧Whole br a b us M∧M≤60∧bA (bm br a b us M)∧
 ∀ (d:Addr) (H':Hp) (ks:List Pr),Same H H'→DO P w H' d (fm br a b us M ks)→ks.length≤60→(∀ p∈ks,fP br a b us M p<(av (bm br a b us M)).rs.length)→(∀ j,j<(av (bm br a b us M)).rs.length→∃ p∈ks,fP br a b us M p=j)→Q (.ref d) H'
theorem wD{K:PySem.W.Frag}{H:Hp}{a b:Addr}{t:Pr}(h1:H a=some (.tup [ap t.1,ap t.2]))(h2:H b=some (.tup [V.non,V.non])):EqN K H (0+1) (.ref a) (.ref b) (aJ t):=by
 obtain⟨t1,t2⟩:=t
 have fl:∀ o:Option Nat,bR (ap o)=true:=fun o=>by cases o <;> rfl
 refine .inr ⟨a,b,_,_,rfl,rfl,.inr ⟨SqT.of h1,SqT.of h2⟩,.inl ⟨fun i=>if i=0 then decide (t1=none) else decide (t2=none),rfl,fun i x y e1 e2=>?_,?_⟩⟩
 ·match i,e1,e2 with
  | 0,e1,e2=>
   cases e1; cases e2
   exact⟨fl t1,rfl,by cases t1 <;> rfl⟩
  | 1,e1,e2=>
   cases e1; cases e2
   exact⟨fl t2,rfl,by cases t2 <;> rfl⟩
  | i+2,e1,e2=>simp at e1
 ·show (decide (t1=none)&&decide (t2=none))=_
  simp[List.range_succ]
theorem vQ(D:DefAt K mg "_law_beside" aP) (c_law_to:Cal P w K mg base 1 "_law_to" ["_law_rule", "_law_room", "_law_word"] BC):Cal P w K mg base 2 "_law_beside" ["_law_one", "_law_other", "_law_made", "_law_words_here"] (oY aJ P w):=by
 refine D.cal sc_law_beside (fun _ _ _ _ _ _ us hl=>match us,hl with | [_,_,_,_],_=>rfl) (fun vs H Q E h=>by obtain⟨_,_,_,_,_,_,_,_,rfl,_⟩:=h; rfl) (fun f cdv A outer s H vs Q E hr h=>?_)
 obtain⟨p,q,fp,wp,a,b,us,M,rfl,hA,hB,hF,hwp,hw,hM,ok,fin⟩:=h
 have hu16:us.length≤16:=ok.nw
 refine⟨_,(ac (az 4 sc_law_beside.nd ((mH P w hr) (cT (aa ah (aa ah ab))) ah))
   (ac (az 5 sc_law_beside.nd (cD (aa (cT (aa ah (aa ah ab))) ab)))
   (ac (iM PassesOwn.never (aX (jt K hr) (pv 5) (cD ab) (bd _)) (ac (az 6 sc_law_beside.nd (zI K PySem.F.plainAttrs_list PySem.F.slot_list_pop PySem.F.type_list_pop zv (pv 5)))
   (am (cN PassesOwn.never rfl (bT K (pv 3)) (bf 7 sc_law_beside.nd) (ac (az 8 sc_law_beside.nd (cT (aa (aU c_law_to hr (aa (pv 0) (aa (aw (aN K) (pv 6) ah (fun _ _=>rfl)) (aa (pv 7) ab)))) (aa (aU c_law_to hr (aa (pv 1) (aa (aw (aN K) (pv 6) ah (fun _ _=>rfl)) (aa (pv 7) ab)))) ab))))
   (ac (az 9 sc_law_beside.nd (aU c_law_to hr (aa (pv 2) (aa (aw (yj P w hr) (pv 4) (pv 6) (fun _ _=>rfl)) (aa (pv 7) ab)))))
   (ac (az 10 sc_law_beside.nd (dD (kG K hr) (pv 8) (cT (aa b5 (aa b5 ab))) (bd _)))
   (ac (bY (aX iR (pv 10) (dD dY (pv 9) b5 (bd _)) (bd _)) (am (aW b5)) bw)
   (am (bY (PW.pt' (ko (dJ (dA (pv 10))) (jA (aX (lY P w hr) (pv 8) (pv 4) (by with_unfolding_all rfl))))) (ac (dz (pv 9) (dH (pv 4) (pv 8) (vO P w hr)))
   (am (cV (dq K PySem.F.plainAttrs_list PySem.F.slot_list_append PySem.F.type_list_append cg (pv 5) (aa (pv 8) ab))))) (am (bY (PW.pt' (ko (dJ (dA (pv 10))) (jA (aX iR (aw (yj P w hr) (pv 4) (pv 8) (fun _ _=>rfl)) (pv 9) (bd _))))) (am (aW b5)) bw))))))))))))
   (am (aW (pv 4)))))),?_⟩
 walk_at "rd1";rw[mq];refine fun dp hdp u hu=>?_
 have s1:=ak hdp u;generalize upd H dp u=H1 at s1 hu ⊢;walk_at "rd1";refine⟨by decide,fun z1 hz1=>?_⟩
 have s2:=ak hz1 (.tup [V.int 0,V.int 0]);have e2:upd H1 z1 (.tup [V.int 0,V.int 0]) z1=some (.tup [ap (some 0),ap (some 0)]):=ae
 generalize upd H1 z1 (.tup [V.int 0,V.int 0])=H2 at s2 e2 ⊢;refine⟨z1,cO (some 0,some 0),rfl,fu (p:=(some 0,some 0)) e2,hu.mono s2,fun u' hu'=>?_⟩
 have s03:Same H (upd H2 dp u'):=(s1.trans s2).upd hdp u'
 generalize upd H2 dp u'=H3 at s03 hu' ⊢;walk_at "nx";refine⟨by decide,fun z2 hz2=>?_⟩
 have s4:=ak hz2 (.tup [V.int 0,V.int 0]);have e4:upd H3 z2 (.tup [V.int 0,V.int 0]) z2=some (.tup [ap (some 0),ap (some 0)]):=ae
 generalize upd H3 z2 (.tup [V.int 0,V.int 0])=H4 at s4 e4 ⊢;refine⟨by decide,fun tp htp=>?_⟩
 have s5:=ak htp (.lst [V.ref z2]);have e5:upd H4 tp (.lst [V.ref z2]) tp=some (.lst ([z2].map V.ref)):=ae
 generalize upd H4 tp (.lst [V.ref z2])=H5 at s5 e5 ⊢;have htp0:H tp=none:=(s03.trans s4).free htp
 have hor0:OrdAt H5 tp [(some 0,some 0)]:=⟨[z2],e5,rfl,fun i x t w1 w2=>by
  match i,w1,w2 with
  | 0,w1,w2=>cases w1; cases w2; exact s5 _ _ e4
  | i+1,w1,w2=>simp at w1⟩
 have hidx0:(aA aJ a b us M).idxOf (some 0,some 0)=0:=by
  have hp0:0<(aA aJ a b us M).length:=by rw[← hw.M1]; exact hw.pos
  have:=hw.ord.nd.idxOf_getElem 0 hp0
  have e0:=hw.zero;rw[List.getElem?_eq_getElem hp0]at e0
  rw[Option.some.inj e0]at this
  exact this
 have hz0:fP aJ a b us M (some 0,some 0)=0:=by unfold fP; rw[hidx0]; exact j1 ok.n0
 have hd5:DO P w H5 dp (fm aJ a b us M [(some 0,some 0)]):=by
  show DO P w H5 dp [(cO (some 0,some 0),V.int ((fP aJ a b us M (some 0,some 0):Nat):Int))]
  rw[hz0]; exact hu'.mono (s4.trans s5)
 walk_at "nx"
 refine⟨fun mm σ H'=>∃ (ks ts:List Pr) (o6 o7 o8 o9 o10:Option V),mm=2 * (M - ks.length)+ts.length∧mm≤200∧σ=[some (.ref p),some (.ref q),some (.ref fp),some (.ref wp),some (.ref dp),some (.ref tp),o6,o7,o8,o9,o10]∧Same H H'∧DO P w H' dp (fm aJ a b us M ks)∧OrdAt H' tp ts∧BesP aJ a b us M ks ts none,
  ⟨_,[(some 0,some 0)],[(some 0,some 0)],none,none,none,none,none,rfl,(by simp; omega),rfl,(s03.trans s4).trans s5,hd5,hor0,⟨by simp,by simp,fun x hx=>by rw[List.mem_singleton.mp hx]; exact List.mem_of_getElem? hw.zero,fun x hx=>by rw[List.mem_singleton.mp hx,hidx0]; exact jJ ok.n0,fun t h=>h,fun x hx hn=>absurd hx hn⟩⟩,?_⟩
 rintro mm σ H' ⟨ks,ts,o6,o7,o8,o9,o10,rfl,h200,rfl,sm,hd,ht,bi⟩
 have hkl:=bi.len hw;obtain⟨tas,t1,t2,t3⟩:=id ht
 walk_at "rd1";refine⟨by decide,fun ep hep=>?_⟩
 have s6:=ak hep (.lst []);have e6:upd H' ep (.lst []) ep=some (.lst []):=ae
 generalize upd H' ep (.lst [])=H6 at s6 e6 ⊢;refine⟨0,_,by decide,zy (s6 _ _ t1) e6,?_⟩
 by_cases he:ts=[]
 ·subst he
  have hta:tas=[]:=List.length_eq_zero_iff.mp (by simpa using t2)
  rw[decide_eq_true (by rw[hta]; rfl)]
  refine bn (fun c=>absurd c (by decide)) (fun _=>?_)
  walk_at "nx";refine fin dp H6 ks (sm.trans s6) (hd.mono s6) (by omega) (fun x hx=>?_) (fun j hj=>bi.all hw ok hj)
  rw[cP,cS]; exact ju (bi.reach x hx)
 obtain⟨ts',t0,rfl⟩ : ∃ ts' t0,ts=ts'++[t0]:=⟨ts.dropLast,ts.getLast he,(List.dropLast_concat_getLast he).symm⟩
 have htn:tas≠[]:=fun z=>by rw[z]at t2; simp at t2
 obtain⟨tas',x0,rfl⟩ : ∃ tas' x0,tas=tas'++[x0]:=⟨tas.dropLast,tas.getLast htn,(List.dropLast_concat_getLast htn).symm⟩
 have htl:tas'.length=ts'.length:=by simpa using t2
 rw[decide_eq_false (by simp)]
 refine bn (fun _=>?_) (fun c=>absurd (by decide) c)
 have h3:=s6 _ _ t1;have ex0:=s6 _ _ (t3 ts'.length x0 t0 (by rw[← htl]; simp) (by simp))
 generalize hMM:2 * (M - ks.length)+(ts'++[t0]).length=MM at h200 ⊢;have hM':2 * (M - ks.length)+ts'.length<MM:=by rw[← hMM]; simp
 refine⟨_,fun _ _ h=>h,⟨_,SqL.of h3⟩,_,V.ref x0,h3,by simp,?_⟩
 have edl:((tas'++[x0]).map V.ref).dropLast=tas'.map V.ref:=by rw[List.map_append]; exact List.dropLast_concat
 rw[edl]
 have o7':OrdAt (upd H6 tp (.lst (tas'.map V.ref))) tp ts':=by
  refine⟨tas',ae,htl,fun i x t w1 w2=>?_⟩
  have hi:=(List.getElem?_eq_some_iff.mp w1).1;have z:=s6 _ _ (t3 i x t (by rw[List.getElem?_append_left hi]; exact w1) (by rw[List.getElem?_append_left (by omega)]; exact w2))
  rw[al (fun y=>by rw[y,h3]at z; cases z)]; exact z
 have ex7:upd H6 tp (.lst (tas'.map V.ref)) x0=some (.tup [ap t0.1,ap t0.2]):=by rw[al (fun y=>by rw[y,h3]at ex0; cases ex0)]; exact ex0
 have hd7:=iK (hd.mono s6) (o:=.lst (tas'.map V.ref)) h3 (dj (hd.mono s6) h3);have sm7:=(sm.trans s6).upd htp0 (.lst (tas'.map V.ref));generalize upd H6 tp (.lst (tas'.map V.ref))=H7 at o7' ex7 hd7 sm7 ⊢;have ht0:t0∈ks:=bi.sub t0 (by simp)
 have hdp0:H dp=none:=hdp
 have bi0:BesP aJ a b us M ks ts' (some t0):=⟨bi.nd,bi.z,bi.mem,bi.reach,fun t h=>bi.sub t (List.mem_append_left _ h),fun x hx hn hxe=>bi.cl x hx (fun z=>by
  rcases List.mem_append.mp z with z | z
  ·exact hn z
  ·exact hxe (by rw[List.mem_singleton.mp z])) (by simp)⟩
 walk_at "nx";refine⟨⟨_,SqL.of (sm7 _ _ hwp)⟩,?_⟩
 refine eY (xs:=us.map V.str) (fun k σ H''=>∃ (ks2 ts2:List Pr) (o7 o8 o9 o10:Option V),2 * (M - ks2.length)+ts2.length<MM∧σ=[some (.ref p),some (.ref q),some (.ref fp),some (.ref wp),some (.ref dp),some (.ref tp),some (.ref x0),o7,o8,o9,o10]∧Same H H''∧DO P w H'' dp (fm aJ a b us M ks2)∧OrdAt H'' tp ts2∧BesP aJ a b us M ks2 ts2 (some t0)∧H'' x0=some (.tup [ap t0.1,ap t0.2])∧t0∈ks2∧∀ j (hj:j<us.length),j<k→aJ (bN a b t0 us[j])=false→bN a b t0 us[j]∈ks2)
  ⟨ks,ts',o7,o8,o9,o10,hM',rfl,sm7,hd7,o7',bi0,ex7,ht0,fun j hj h=>absurd h (Nat.not_lt_zero _)⟩ (fun k σ H'' _ h=>by obtain⟨_,_,_,_,_,_,_,_,z,_⟩:=h; exact SqL.of (z _ _ hwp)) ?_ ?_
 ·rintro k v σ H'' hv ⟨ks2,ts2,o7,o8,o9,o10,hlt,rfl,sx,hdx,hox,bx,exx,ht0x,hcov⟩
  have hku:k<us.length:=by have:=(List.getElem?_eq_some_iff.mp hv).1; simpa using this
  rw[List.getElem?_map,List.getElem?_eq_getElem hku]at hv
  cases hv;have hin0:=hw.ord.inn t0 (bx.mem t0 ht0x);obtain⟨hstp,hgo⟩:=zg hw ok (bx.mem t0 ht0x) (bx.reach t0 ht0x) us[k]
  walk_at "rd1";refine⟨_,_,.inr (SqT.of exx),kZ,?_⟩
  refine⟨p,a,t0.1,us[k],rfl,hA.mono sx,hw.oa,hin0.1,?_⟩
  refine⟨_,_,.inr (SqT.of exx),aL (j:=1) rfl,?_⟩
  refine⟨q,b,t0.2,us[k],rfl,hB.mono sx,hw.ob,hin0.2,?_⟩
  rw[show eF a t0.1 us[k]=(bN a b t0 us[k]).1 from rfl,show eF b t0.2 us[k]=(bN a b t0 us[k]).2 from rfl];refine⟨by decide,fun tt htt=>?_⟩
  have s8:=ak htt (.tup [ap (bN a b t0 us[k]).1,ap (bN a b t0 us[k]).2]);have e8:upd H'' tt (.tup [ap (bN a b t0 us[k]).1,ap (bN a b t0 us[k]).2]) tt=some (.tup [ap (bN a b t0 us[k]).1,ap (bN a b t0 us[k]).2]):=ae
  generalize upd H'' tt (.tup [ap (bN a b t0 us[k]).1,ap (bN a b t0 us[k]).2])=H8 at s8 e8 ⊢;have sx8:=sx.trans s8;have hd8:=hdx.mono s8;walk_at "nx";have hval:aI (fm aJ a b us M ks2) (cO t0)=some (V.int (fP aJ a b us M t0:Nat)):=by rw[iJ,if_pos ht0x]
  refine⟨dp,x0,cO t0,_,_,rfl,rfl,hd8,fu (s8 _ _ exx),hval,?_⟩
  refine⟨fp,_,some (fP aJ a b us M t0),us[k],rfl,hF.mono sx8,gb ok,fun k' e=>by cases e; rw[cP,cS]; exact ju (bx.reach t0 ht0x),?_⟩
  rw[show eF (av (bm aJ a b us M)) (some (fP aJ a b us M t0)) us[k]=bh (av (bm aJ a b us M)) (fP aJ a b us M t0) us[k] from rfl];rw[hstp];have hox8:=hox.mono s8;have ex8:=s8 _ _ exx;generalize hg:bN a b t0 us[k]=t1 at e8 hgo ⊢;refine l_ (fun σ' H'=>Same H8 H'∧σ'=[some (.ref p),some (.ref q),some (.ref fp),some (.ref wp),some (.ref dp),some (.ref tp),some (.ref x0),some (.str us[k]),some (.ref tt),some (ap (if aJ t1=true then none else some (fP aJ a b us M t1))),some (.bl (aJ t1))]) (fun kk hkk=>?_) ?_
  ·walk_at "rd1"
   refine⟨by decide,fun nn hnn=>?_⟩
   have s9:=ak hnn (.tup [V.non,V.non]);have e9:upd H8 nn (.tup [V.non,V.non]) nn=some (.tup [V.non,V.non]):=ae
   generalize upd H8 nn (.tup [V.non,V.non])=H9 at s9 e9 ⊢;walk_at "rd1";refine⟨0,_,by decide,wD (s9 _ _ e8) e9,hkk _ _ ⟨s9,rfl⟩⟩
  rintro σ' H9 ⟨s9,rfl⟩
  replace sx8:=sx8.trans s9
  replace hd8:=hd8.mono s9
  replace hox8:=hox8.mono s9
  replace ex8:=s9 _ _ ex8
  replace e8:=s9 _ _ e8
  clear hstp hval;generalize H9=H8 at s9 sx8 hd8 hox8 ex8 e8 ⊢
  have cov:∀ ks3:List Pr,(∀ x∈ks2,x∈ks3)→(aJ t1=false→t1∈ks3)→∀ j (hj:j<us.length),j<k+1→aJ (bN a b t0 us[j])=false→bN a b t0 us[j]∈ks3:=fun ks3 h1 h2 j hj hjk hjb=>by
   rcases Nat.lt_or_ge j k with z | z
   ·exact h1 _ (hcov j hj z hjb)
   ·have:j=k:=by omega
    subst this;rw[hg]at hjb ⊢
    exact h2 hjb
  have ndt:=mO hd8
  cases hb:aJ t1 with
  | true=>
   rw[if_pos rfl];walk_at "nx";refine bn (fun c=>absurd c (by decide)) (fun _=>?_)
   walk_at "nx";exact⟨ks2,ts2,_,_,_,_,hlt,rfl,sx8,hd8,hox8,bx,ex8,ht0x,cov ks2 (fun _ h=>h) (fun z=>by rw[hb]at z; cases z)⟩
  | false=>
   rw[if_neg (by decide)]
   obtain⟨hmO,hreach⟩:=hgo hb
   walk_at "nx";refine bn (fun c=>absurd c (by simp[ap])) (fun _=>?_)
   walk_at "nx";refine⟨tt,dp,cO t1,_,rfl,rfl,hd8,fu e8,_,rfl,?_⟩
   rw[iJ]
   by_cases c2:t1∈ks2
   ·rw[if_pos c2]
    refine bn (fun c=>absurd c (by simp)) (fun _=>?_)
    refine⟨dp,tt,cO t1,_,_,rfl,rfl,hd8,fu e8,by rw[iJ,if_pos c2],?_⟩
    rw[show ap (some (fP aJ a b us M t1))=V.int ((fP aJ a b us M t1:Nat):Int) from rfl];walk_at "rd1";exact⟨ks2,ts2,_,_,_,_,hlt,rfl,sx8,hd8,hox8,bx,ex8,ht0x,cov ks2 (fun _ h=>h) (fun _=>c2)⟩
   ·rw[if_neg c2]
    refine bn (fun _=>?_) (fun c=>absurd rfl c)
    have hk2:=bx.len hw;refine⟨dp,tt,cO t1,_,rfl,rfl,hd8,fu e8,by rw[iJ,if_neg c2],b6 (by unfold fm; rw[List.length_map]; omega),fun uu huu=>?_⟩
    have ebes:fm aJ a b us M ks2++[(cO t1,ap (some (fP aJ a b us M t1)))]=fm aJ a b us M (ks2++[t1]):=by unfold fm; rw[List.map_append]; rfl
    rw[ebes]at huu
    obtain⟨us3,b1,b2,b3⟩:=id (hox8.other (u:=uu) (Ne.symm (dj hd8 hox8.choose_spec.1)) ndt)
    have keepT:∀ {c:Addr} {xs:List V},H8 c=some (.tup xs)→upd H8 dp uu c=some (.tup xs):=fun {c xs} e=>by rw[al (fun z=>by subst z; exact ndt _ e)]; exact e
    have e9:=keepT e8;have ex9:=keepT ex8;have sx9:=sx8.upd hdp0 uu;generalize upd H8 dp uu=G at huu b1 b3 e9 ex9 sx9 ⊢;walk_at "nx";have hts2:ts2.length≤200:=by omega
    refine⟨⟨_,SqL.of b1⟩,_,b1,by rw[List.length_map,b2]; exact b6 (by omega),?_⟩
    have hO3:=OrdAt.push (t:=t1) b1 b2 b3 e9;have tup3:∀ {c:Addr} {xs:List V},G c=some (.tup xs)→upd G tp (.lst (us3.map V.ref++[.ref tt])) c=some (.tup xs):=fun {c xs} e=>by rw[al (fun z=>by subst z; rw[b1]at e; cases e)]; exact e
    have hlenM:ks2.length<M:=by
     refine Nat.lt_of_le_of_ne hk2 fun e=>c2 ?_
     have bx2:BesP aJ a b us M (ks2++[t1]) [] (some t0)→False:=fun h=>by
      have:=h.len hw
      rw[List.length_append]at this
      simp at this; omega
     exact Classical.byContradiction fun _=>by
      have hnd:(ks2++[t1]).Nodup:=List.nodup_append.mpr ⟨bx.nd,by simp,fun x hx y hy e=>c2 (by rw[List.mem_singleton.mp hy]at e; exact e ▸ hx)⟩
      have h1:=fV M ((ks2++[t1]).map fun p=>(aA aJ a b us M).idxOf p) (List.pairwise_map.mpr (List.Pairwise.imp_of_mem (fun {x y} hx hy hab e=>hab (by
       have mm:∀ z∈ks2++[t1],z∈aA aJ a b us M:=fun z hz=>(List.mem_append.mp hz).elim (bx.mem z) fun h=>by rw[List.mem_singleton.mp h]; exact hmO
       have e1:=List.getElem_idxOf (List.idxOf_lt_length_iff.mpr (mm x hx));have e2:=List.getElem_idxOf (List.idxOf_lt_length_iff.mpr (mm y hy));rw[← e1,← e2]
       congr 1)) hnd)) (fun x hx=>by
        obtain⟨z,hz,rfl⟩:=List.mem_map.mp hx
        have mz:z∈aA aJ a b us M:=(List.mem_append.mp hz).elim (bx.mem z) fun h=>by rw[List.mem_singleton.mp h]; exact hmO
        have:=List.idxOf_lt_length_iff.mpr mz
        rw[← hw.M1]at this
        exact this)
      rw[List.length_map,List.length_append]at h1
      simp at h1; omega
    refine⟨ks2++[t1],ts2++[t1],_,_,_,_,by rw[List.length_append,List.length_append]; simp; omega,rfl,sx9.upd htp0 _,iK huu b1 (dj huu b1),hO3,⟨?_,by simp[bx.z],?_,?_,?_,?_⟩,tup3 ex9,by simp[ht0x],cov (ks2++[t1]) (fun x hx=>by simp[hx]) (fun _=>by simp)⟩
    ·exact List.nodup_append.mpr ⟨bx.nd,by simp,fun x hx y hy e=>c2 (by rw[List.mem_singleton.mp hy]at e; exact e ▸ hx)⟩
    ·intro x hx
     rcases List.mem_append.mp hx with z | z
     ·exact bx.mem x z
     ·rw[List.mem_singleton.mp z]; exact hmO
    ·intro x hx
     rcases List.mem_append.mp hx with z | z
     ·exact bx.reach x z
     ·rw[List.mem_singleton.mp z]; exact hreach
    ·intro x hx
     rcases List.mem_append.mp hx with z | z
     ·exact List.mem_append_left _ (bx.sub x z)
     ·exact List.mem_append_right _ z
    ·intro x hx hn hxe y hy hyb
     rcases List.mem_append.mp hx with z | z
     ·exact List.mem_append_left _ (bx.cl x z (fun w=>hn (List.mem_append_left _ w)) hxe y hy hyb)
     ·exact absurd (List.mem_append_right _ z) hn
 ·rintro σ H12 ⟨ks2,ts2,o7,o8,o9,o10,hlt,rfl,sx,hdx,hox,bx,exx,ht0x,hcov⟩
  refine⟨_,hlt,ks2,ts2,_,_,_,_,_,rfl,by omega,rfl,sx,hdx,hox,⟨bx.nd,bx.z,bx.mem,bx.reach,bx.sub,fun x hx hn _ y hy hb=>?_⟩⟩
  by_cases e:x=t0
  ·subst e
   obtain⟨j,hj,ej⟩:=List.mem_iff_getElem.mp hy
   subst ej;exact hcov j hj (by rw[List.length_map]; exact hj) hb
  ·exact bx.cl x hx hn (fun z=>e (Option.some.inj z).symm) y hy hb
def KeptAt(H0 H:Hp)(p:Addr)(r:Rl):Prop:=∃ pw pr as,H p=some (.tup [.int r.s,.ref pw,.ref pr])∧H pw=some (.lst (r.ws.map V.str))∧RoomsAs H pr r.rs as∧H0 p=none∧H0 pw=none∧H0 pr=none∧∀ a∈as,H0 a=none
theorem KeptAt.upd{H0 H:Hp}{p a:Addr}{r:Rl}{o:HO}(h:KeptAt H0 H p r)(ha:H0 a≠none):KeptAt H0 (upd H a o) p r:=by
 obtain⟨pw,pr,as,h1,h2,⟨h3,h4,h5⟩,z1,z2,z3,z4⟩:=h
 have ne:∀ b,H0 b=none→b≠a:=fun b hb e=>ha (e ▸ hb)
 refine⟨pw,pr,as,by rw[al (ne _ z1)]; exact h1,by rw[al (ne _ z2)]; exact h2,⟨by rw[al (ne _ z3)]; exact h3,h4,fun i b x e1 e2=>?_⟩,z1,z2,z3,z4⟩
 rw[al (ne _ (z4 b (List.mem_of_getElem? e1)))]; exact h5 i b x e1 e2
theorem KeptAt.mono{H0 H H':Hp}{p:Addr}{r:Rl}(h:KeptAt H0 H p r)(sm:Same H H'):KeptAt H0 H' p r:=by
 obtain⟨pw,pr,as,h1,h2,h3,z⟩:=h
 exact⟨pw,pr,as,sm _ _ h1,sm _ _ h2,h3.mono sm,z⟩
theorem KeptAt.at'{H0 H:Hp}{p:Addr}{r:Rl}(h:KeptAt H0 H p r):RuleAt H p r:=by
 obtain⟨pw,pr,as,h1,h2,h3,z⟩:=h
 exact⟨pw,pr,as,h1,h2,h3⟩
theorem ua{ts:List Int}{n:Nat}(nd:ts.Nodup)(so:ts.Pairwise (· ≤ ·))(hm:∀ x,x∈ts ↔ ∃ j:Nat,j<n∧x=(j:Int)):ts=(List.range n).map fun k:Nat=>(k:Int):=by
 have nd2:((List.range n).map fun k:Nat=>(k:Int)).Nodup:=List.pairwise_map.mpr (List.Pairwise.imp (fun {a b} h e=>h (by omega)) List.nodup_range)
 have so2:((List.range n).map fun k:Nat=>(k:Int)).Pairwise (· ≤ ·):=List.pairwise_map.mpr (List.Pairwise.imp (fun {a b} h=>by omega) List.pairwise_lt_range)
 have pm:ts.Perm ((List.range n).map fun k:Nat=>(k:Int)):=(List.perm_ext_iff_of_nodup nd nd2).mpr fun x=>by
  rw[hm,List.mem_map]
  constructor
  ·rintro⟨j,hj,rfl⟩; exact⟨j,List.mem_range.mpr hj,rfl⟩
  ·rintro⟨j,hj,rfl⟩; exact⟨j,List.mem_range.mp hj,rfl⟩
 exact pm.eq_of_pairwise (fun a b _ _ h1 h2=>by omega) so so2
theorem oq:∀ {l m:List Str},l.Nodup→(∀ x∈l,x∈m)→l.length≤m.length
 | [],_,_,_=>Nat.zero_le _
 | x::l,m,hn,hs=>by
  have hx:=hs x List.mem_cons_self;obtain⟨h1,h2⟩:=List.nodup_cons.mp hn
  have h3:=oq (m:=m.erase x) h2 (fun y hy=>(List.mem_erase_of_ne (by rintro rfl; exact h1 hy)).mpr (hs y (List.mem_cons_of_mem _ hy)))
  rw[List.length_erase_of_mem hx]at h3
  have:=List.length_pos_of_mem hx
  rw[List.length_cons]; omega
theorem lJ(a b:Rl)(p:Pr)(y:Str):bN b a p.swap y=(bN a b p y).swap:=rfl
theorem vV{br:Pr→Bool}(sym:∀ p,br p.swap=br p){a b:Rl}{us:List Str}{M M':Nat}(w1:Whole br a b us M)(w2:Whole br b a us M')(so:sortedS us=true)(hs:a.s=b.s)(o1:bA (bm br a b us M))(o2:bA (bm br b a us M')):av (bm br a b us M)=av (bm br b a us M'):=by
 have l1:∀ {i},i<M→i<(aA br a b us M).length:=fun h=>by rw[← w1.M1]; exact h
 have l2:∀ {i},i<M'→i<(aA br b a us M').length:=fun h=>by rw[← w2.M1]; exact h
 refine Alike.least (E:=fun i j=>∃ (hi:i<M) (hj:j<M'),(aA br b a us M')[j]'(l2 hj)=((aA br a b us M)[i]'(l1 hi)).swap) ⟨?_,?_,?_⟩ hs o1 o2 w1.nd w2.nd so so
 ·refine⟨w1.pos,w2.pos,?_⟩
  have e1:=w1.zero;have e2:=w2.zero;rw[List.getElem?_eq_getElem (l1 w1.pos)]at e1
  rw[List.getElem?_eq_getElem (l2 w2.pos)]at e2
  rw[Option.some.inj e1,Option.some.inj e2]; rfl
 ·rintro i j ⟨hi,hj,_⟩
  exact⟨by rw[eP]; exact hi,by rw[eP]; exact hj⟩
 ·rintro i j y ⟨hi,hj,e⟩
  rw[w1.step hi y,w2.step hj y,e,lJ,sym]
  cases hb:br (bN a b ((aA br a b us M)[i]'(l1 hi)) y) with
  | true=>exact .inl ⟨by rw[if_pos rfl],by rw[if_pos rfl]⟩
  | false=>
   rw[if_neg (by decide),if_neg (by decide)]
   have c1:=w1.closed hi hb;have c2:=w2.closed hj (y:=y) (by rw[e,lJ,sym]; exact hb)
   rw[e,lJ]at c2
   have x1:=List.idxOf_lt_length_iff.mpr c1;have x2:=List.idxOf_lt_length_iff.mpr c2;refine .inr ⟨_,_,rfl,rfl,by have:=w1.M1; omega,by have:=w2.M1; omega,?_⟩
   rw[List.getElem_idxOf,List.getElem_idxOf]
theorem nW{a b:Rl}{us:List Str}(h:iL a b us):iL b a us:=⟨h.1,fun y=>by rw[h.2.1]; exact Or.comm,h.2.2⟩
theorem pU{a b:Rl}{us vs:List Str}(h:iL a b us)(h':iL a b vs)(s:sortedS us=true)(s':sortedS vs=true):us=vs:=nJ h.1 h'.1 s s' fun x=>by rw[h.2.1,h'.2.1]
theorem uj{br:Pr→Bool}(sym:∀ p,br p.swap=br p){a b:Rl}{o:List Pr}(h:gJ br b a o):gJ br a b (o.map Prod.swap):=
 ⟨List.pairwise_map.mpr (h.nd.imp fun hab e=>hab (by have:=congrArg Prod.swap e; simpa using this)),fun t ht=>by
  obtain⟨x,hx,rfl⟩:=List.mem_map.mp ht
  exact⟨(h.inn x hx).2,(h.inn x hx).1⟩,fun t ht=>by
  obtain⟨x,hx,rfl⟩:=List.mem_map.mp ht
  rw[sym]; exact h.nb x hx⟩
theorem Fit.swap{br:Pr→Bool}(sym:∀ p,br p.swap=br p){a b:Rl}(h:Fit br a b):Fit br b a:=
 ⟨h.ob,h.oa,h.nb,h.na,h.s.symm,h.b0,fun o ho=>by have:=h.h60 _ (uj sym ho); rwa [List.length_map]at this,fun us hu=>h.h16 us (nW hu)⟩
theorem Drawn2.fit{br:Pr→Bool}(b0:br (some 0,some 0)=false){a b:Rl}(h:Drawn2 a b):Fit br a b:=by
 refine⟨h.ok,h.ok',h.nd,h.nd',h.s,b0,fun o ho=>?_,fun us hu=>?_⟩
 ·have h1:=wH ho
  have h2:=Nat.mul_le_mul (Nat.succ_le_succ h.z) (Nat.succ_le_succ h.z');exact Nat.le_trans (Nat.le_trans h1 h2) (by decide)
 ·have:=oq (m:=a.ws++b.ws) hu.1 fun x hx=>List.mem_append.mpr ((hu.2.1 x).mp hx)
  rw[List.length_append]at this
  have:=h.w3
  have:=h.w3'
  omega
def uW:Sp:=fun vs H Q _=>∃ (p:Addr) (r:Rl),vs=[.ref p]∧RuleAt H p r∧r.rs.length≤60∧∀ (t:Addr) (H':Hp),Same H H'→KeptAt H H' t r→Q (.ref t) H'
theorem zE(D:DefAt K mg "_law_copy" bV) (z_list:mg "list" = none):Cal P w K mg base 1 "_law_copy" ["_law_rule"] uW:=by
 refine D.cal (k:=0) qQ (fun _ _ _ _ _ _ us hl=>match us,hl with | [_],_=>rfl) (fun vs H Q E h=>by obtain⟨p,r,rfl,_⟩:=h; rfl) (fun f cdv A outer s H vs Q E hr h=>?_)
 obtain⟨p,r,rfl,⟨pw,pr,as,h1,h2,h3⟩,n1,q⟩:=h
 refine⟨_,(am (aW (cT (aa (aw (aN K) (pv 0) ah (fun _ _=>rfl)) (aa (cX (gY K) z_list dE (aa (aw (aN K) (pv 0) ah (fun _ _=>rfl)) ab)) (aa (cW (CompSc.to (fsc:=(defScope bV)) (N:=["_law_rule"]) (N0:=["_law_rule"]) (T:=["_law_room"]) ⟨by decide +kernel,by decide +kernel,by decide +kernel,by decide +kernel,by decide +kernel,by decide +kernel,by decide +kernel⟩ rfl rfl) rfl (bT K (aw (aN K) (pv 0) ah (fun _ _=>rfl))) (fun _ _ _ _=>(bf 1 (show (["_law_rule", "_law_room"]:List Str).Nodup from by decide +kernel) (hx:=(eh (defScope bV) (by decide +kernel))) (hf:=gP (defScope bV) (by decide +kernel)))) (bZ (show (["_law_rule"]:List Str).length≤1 from by decide)) (fun _ _ _ _=>cv) (fun _ _ _ _=>(cX (gY K) z_list dE (aa (pv 1 (hv:=(bX (defScope bV) (by decide +kernel)))) ab) (hg:=(rq (defScope bV) (by decide +kernel)))))) ab)))))),?_⟩
 walk_at "rd1";refine⟨_,_,.inr (SqT.of h1),kZ,?_⟩
 refine⟨_,_,.inr (SqT.of h1),aL (j:=1) rfl,?_⟩
 walk_at "rd1";refine⟨_,.inl (SqL.of h2),fun wl hwl=>?_⟩
 have sm1:=ak hwl (.lst (r.ws.map V.str));have e1:upd H wl (.lst (r.ws.map V.str)) wl=some (.lst (r.ws.map V.str)):=ae
 generalize upd H wl (.lst (r.ws.map V.str))=H1 at sm1 e1 ⊢;refine⟨_,_,.inr (SqT.of (sm1 _ _ h1)),aL (j:=2) rfl,?_⟩
 have h31:=h3.mono sm1;walk_at "rd1";refine⟨⟨_,SqL.of h31.1⟩,fun L hL=>?_⟩
 refine lZ h31 n1 hL (fun a xs H' C z1 z2=>?_) (fun H2 bs sm2 hB hbn hnd=>?_)
 ·walk_at "rd1"
  exact⟨_,.inl (SqL.of z1),z2⟩
 walk_at "rd1";refine⟨by decide,fun t ht=>?_⟩
 have sm3:=ak ht (.tup [.int r.s,.ref wl,.ref L]);have sm12:=sm1.trans sm2;exact q t _ (sm12.trans sm3) ⟨wl,L,bs,ae,sm3 _ _ (sm2 _ _ e1),hB.mono sm3,sm12.free ht,hwl,sm1.free hL,fun b hb=>sm1.free (hbn b hb).1⟩
theorem se{K:PySem.W.Frag}{H:Hp}{l m a b c d:Addr}{r r':Rl}(h1:H l=some (.lst [.ref a,.ref b]))(h2:H m=some (.lst [.ref c,.ref d]))(ha:RuleAt H a r)(hb:RuleAt H b r')(hc:RuleAt H c r)(hd:RuleAt H d r'):EqN K H 4 (.ref l) (.ref m) true:=by
 refine EqN.seq (.inl ⟨SqL.of h1,SqL.of h2⟩) rfl fun i x y e1 e2=>?_
 match i,e1,e2 with
 | 0,e1,e2=>cases e1; cases e2; exact ni ha hc
 | 1,e1,e2=>cases e1; cases e2; exact ni hb hd
 | i+2,e1,e2=>simp at e1
theorem A9{f:Addr}{fd:FuncData}(F:Fun K "law" "law" bD f fd) (z_list:mg "list" = none) (z_set:mg "set" = none) (z_sorted:mg "sorted" = none) (z_range:mg "range" = none) (z_len:mg "len" = none) (sym:∀ p,aJ (Prod.swap p)=aJ p) (b0:aJ (some 0,some 0)=false)
  (c_law_two:Cal P w K mg base 3 "_law_two" ["_law_script"] (yJ K)) (c_law_copy:Cal P w K mg base 1 "_law_copy" ["_law_rule"] uW) (c_either_rule:Cal P w K mg base 7 "either_rule" ["one", "other"] (uZ aJ)) (c_law_is_rule_of:Cal P w K mg base 2 "_law_is_rule_of" ["_law_found", "_law_sides", "_law_words_here"] qe) (c_law_beside:Cal P w K mg base 2 "_law_beside" ["_law_one", "_law_other", "_law_made", "_law_words_here"] (oY aJ P w)) (c_law_all_unlike:Cal P w K mg base 1 "_law_all_unlike" ["_law_rooms_here"] nO) :
  iQ P w K mg base kW 8 f fd ["_law_script"] (oI K):=by
 refine F.ok sc_law (fun vs H Q E h=>by obtain⟨a,ns,rfl,_⟩:=h; rfl) (fun cdv A outer s H vs Q E hr h=>?_)
 obtain⟨a,ns,rfl,hS,h63,q⟩:=h
 refine⟨_,(ac (dz (aU c_law_two hr (aa (pv 0) ab)) (ga K (n:=2) (cw (bf 1 sc_law.nd) (cw (bf 2 sc_law.nd) fX))))
   (ac (az 3 sc_law.nd (bp (m7 w hr) z_sorted gF (aa (cX (qN K w hr) z_set mC (aa (bb ck (aw (aN K) (pv 1) ah (fun _ _=>rfl)) (aw (aN K) (pv 2) ah (fun _ _=>rfl))) ab)) ab)))
   (ac (az 4 sc_law.nd (cD (aa (aU c_law_copy hr (aa (pv 1) ab)) (aa (aU c_law_copy hr (aa (pv 2) ab)) ab))))
   (ac (az 5 sc_law.nd (aU c_either_rule hr (aa (aw (aN K) (pv 4) ah (fun _ _=>rfl)) (aa (aw (aN K) (pv 4) ah (fun _ _=>rfl)) ab))))
   (ac (bY (PW.pt' (gy (aX (jt K hr) (pv 4) (cD (aa (pv 1) (aa (pv 2) ab))) (bd _)) (iO (dJ (dA (aU c_law_is_rule_of hr (aa (pv 5) (aa (aw (aN K) (pv 1) ah (fun _ _=>rfl)) (aa (pv 3) ab))))))))) (am (aW dy)) bw)
   (ac (az 6 sc_law.nd (aU c_law_beside hr (aa (pv 1) (aa (pv 2) (aa (pv 5) (aa (pv 3) ab))))))
   (ac (bY (PW.pt' (gy (aX dY (pv 6) b5 (bd _)) (iO (aX (jt K hr) (bp (oz w hr) z_sorted gF (aa (cX (t7 K w hr) z_set mC (aa (cX (qW P w hr) z_list dE (aa (xB P w (pv 6)) ab)) ab)) ab)) (cX (qj hr) z_list dE (aa (cX ut z_range wQ (aa (bp (bK K) z_len b8 (aa (aw (aN K) (pv 5) ah (fun _ _=>rfl)) ab)) ab)) ab)) (bd _))))) (am (aW dy)) bw)
   (ac (bY (dJ (dA (aU c_law_all_unlike hr (aa (aw (aN K) (pv 5) ah (fun _ _=>rfl)) ab)))) (am (aW dy)) bw)
   (ac (az 7 sc_law.nd (aU c_law_copy hr (aa (pv 5) ab)))
   (ac (cV (dq K PySem.F.plainAttrs_list PySem.F.slot_list_append PySem.F.type_list_append cg (aw (aN K) (pv 5) ah (fun _ _=>rfl)) (aa mh ab)))
   (ac (cN PassesOwn.never rfl (bT K (aw (aN K) (pv 5) ah (fun _ _=>rfl))) (bf 8 sc_law.nd) (am (cV (dq K PySem.F.plainAttrs_list PySem.F.slot_list_append PySem.F.type_list_append cg (pv 8) (aa ah ab)))))
   (am (aW (kq (dD (kG K hr) (aU c_either_rule hr (aa (aw (aN K) (pv 4) ah (fun _ _=>rfl)) (aa (aw (aN K) (pv 4) ah (fun _ _=>rfl)) ab))) (pv 7) (bd _)) (pN (dD (kG K hr) (pv 4) (cD (aa (pv 1) (aa (pv 2) ab))) (bd _))))))))))))))))),?_⟩
 walk_at "rd1";refine⟨a,ns,rfl,hS,h63,fun tt p1 p2 H1 r r' s1 htt hR hR' dr=>?_⟩
 obtain⟨pw,pr,as,h1,h2,h3⟩:=id hR
 obtain⟨pw',pr',as',h1',h2',h3'⟩:=id hR'
 have ft:Fit aJ r r':=dr.fit b0
 have w3:=dr.w3;have w3':=dr.w3';refine⟨tt,_,rfl,SqT.of htt,rfl,?_⟩
 walk_at "rd1";walk_at "nx";refine⟨_,_,.inr (SqT.of h1),aL (j:=1) rfl,?_⟩
 refine⟨_,_,.inr (SqT.of h1'),aL (j:=1) rfl,?_⟩
 walk_at "rd1";refine⟨_,_,h2,h2',by rw[List.length_map,List.length_map]; exact b7 (by omega),fun cl hcl=>?_⟩
 rw[← List.map_append];have s2:=ak hcl (.lst ((r.ws++r'.ws).map V.str));have e2:upd H1 cl (.lst ((r.ws++r'.ws).map V.str)) cl=some (.lst ((r.ws++r'.ws).map V.str)):=ae
 generalize upd H1 cl (.lst ((r.ws++r'.ws).map V.str))=H2 at s2 e2 ⊢;refine⟨cl,_,rfl,SqL.of e2,by rw[List.length_append]; omega,fun sp ds hsp hnd hmem hdl=>?_⟩
 refine⟨sp,ds,rfl,ae,by rw[List.length_append]at hdl; omega,fun wt ts hwt hprm hso=>?_⟩
 have s4:=(s2.trans (ak hsp (gS w sp ds))).trans (ak hwt (.lst (ts.map V.str)));have et:=ae (H:=upd H2 sp (gS w sp ds)) (a:=wt) (o:=HO.lst (ts.map V.str));generalize upd (upd H2 sp (gS w sp ds)) wt (.lst (ts.map V.str))=H4 at s4 et ⊢;have htB:iL r r' ts:=⟨hprm.nodup_iff.mpr hnd,fun y=>by rw[hprm.mem_iff,hmem,List.mem_append],by rw[hprm.length_eq]; rw[List.length_append]at hdl; omega⟩
 walk_at "nx";refine⟨p1,r,rfl,hR.mono s4,dr.ok.n1,fun q1 H5 s5 hK1=>?_⟩
 refine⟨p2,r',rfl,(hR'.mono s4).mono s5,dr.ok'.n1,fun q2 H6 s6 hK2=>?_⟩
 refine⟨by decide,fun hp hhp=>?_⟩
 have s7:=ak hhp (.lst [V.ref q1,V.ref q2]);have e7:upd H6 hp (.lst [V.ref q1,V.ref q2]) hp=some (.lst [V.ref q1,V.ref q2]):=ae
 generalize upd H6 hp (.lst [V.ref q1,V.ref q2])=H7 at s7 e7 ⊢;have hQ1:RuleAt H7 q1 r:=(hK1.at'.mono s6).mono s7
 have hQ2:RuleAt H7 q2 r':=hK2.at'.mono s7
 have s47:=(s5.trans s6).trans s7;have hR7:=(hR.mono s4).mono s47;have hR7':=(hR'.mono s4).mono s47;walk_at "nx";refine⟨_,_,.inl (SqL.of e7),kZ,?_⟩
 refine⟨_,_,.inl (SqL.of e7),aL (j:=1) rfl,?_⟩
 refine⟨q1,q2,r,r',rfl,hQ1,hQ2,ft,fun fq H8 us M s8 hBo hsu hM eM hFr=>?_⟩
 obtain rfl:us=ts:=pU hBo htB hsu hso
 obtain⟨hw,ok⟩:=ft.rl hBo hM eM
 obtain⟨fw,fr,fs,g1,g2,g3,f1,f2,f3,f4,f5⟩:=id hFr
 have ok2:=gb ok;have hF:=hFr.at';walk_at "nx";refine⟨by decide,fun ol hol=>?_⟩
 have s9:=ak hol (.lst [V.ref p1,V.ref p2]);have e9:upd H8 ol (.lst [V.ref p1,V.ref p2]) ol=some (.lst [V.ref p1,V.ref p2]):=ae
 generalize upd H8 ol (.lst [V.ref p1,V.ref p2])=H9 at s9 e9 ⊢;have s79:=s8.trans s9;refine⟨3,true,by decide,se (s79 _ _ e7) e9 (hQ1.mono s79) (hQ2.mono s79) (hR7.mono s79) (hR7'.mono s79),?_⟩
 refine bn (fun c=>absurd c (by decide)) (fun _=>?_)
 have s19:=(s4.trans s47).trans s79;refine⟨_,_,.inr (SqT.of (s19 _ _ h1)),kZ,?_⟩
 have hF9:=hF.mono s9;have et9:=(s47.trans s79) _ _ et;refine⟨fq,wt,bm aJ r r' us M,rfl,hF9,et9,ok,hw.nd,fun H10 s10=>?_⟩
 refine⟨_,rfl,bn (fun c=>absurd c (by decide)) (fun _=>?_)⟩
 have s710:=s79.trans s10;walk_at "nx";refine⟨p1,p2,fq,wt,r,r',us,M,rfl,hR7.mono s710,hR7'.mono s710,hF9.mono s10,s10 _ _ et9,hw,hM,ok,fun d H11 ks s11 hd hk60 hlt hall=>?_⟩
 have s811:=(s9.trans s10).trans s11;walk_at "nx";refine bn (fun c=>by cases c) (fun _=>?_)
 refine⟨_,rfl,d,_,rfl,hd,d,_,rfl,rfl,hd,fun v hv=>?_⟩
 have sv:=ak hv (iY v d);have ev:upd H11 v (iY v d) v=some (iY v d):=ae
 generalize upd H11 v (iY v d)=Hv at sv ev ⊢;have hbl:(fm aJ r r' us M ks).length=ks.length:=List.length_map _
 refine⟨v,d,_,rfl,ev,hd.mono sv,by omega,fun l hl=>?_⟩
 have evals:(fm aJ r r' us M ks).map (·.2)=(ks.map fun k=>((fP aJ r r' us M k:Nat):Int)).map V.int:=by
  unfold fm; rw[List.map_map,List.map_map]; rfl
 rw[evals];have sl:=ak hl (.lst ((ks.map fun k=>((fP aJ r r' us M k:Nat):Int)).map V.int))
 have el:upd Hv l (.lst ((ks.map fun k=>((fP aJ r r' us M k:Nat):Int)).map V.int)) l=some (.lst ((ks.map fun k=>((fP aJ r r' us M k:Nat):Int)).map V.int)):=ae
 generalize upd Hv l (.lst ((ks.map fun k=>((fP aJ r r' us M k:Nat):Int)).map V.int))=Hl at sl el ⊢
 refine⟨l,_,rfl,SqL.of el,by rw[List.length_map]; exact hk60,fun z ds2 hz dnd dm dl=>?_⟩
 generalize hHz:upd Hl z _=Hz
 have sz:=cJ hHz hz;have ez:=dG hHz;refine⟨z,ds2,rfl,ez,by rw[List.length_map]at dl; omega,fun t tz ht tpm tso=>?_⟩
 have st:=ak ht (.lst (tz.map V.int));have et2:upd Hz t (.lst (tz.map V.int)) t=some (.lst (tz.map V.int)):=ae
 generalize upd Hz t (.lst (tz.map V.int))=Ht at st et2 ⊢;have s8t:Same H8 Ht:=(((s811.trans sv).trans sl).trans sz).trans st
 have n1:=ok2.n1;have g3':=g3.at';have hfl:=g3'.2.1;refine⟨_,_,.inr (SqT.of (s8t _ _ g1)),aL (j:=2) rfl,?_⟩
 walk_at "rd1";refine⟨_,.inl (SqL.of (s8t _ _ g3'.1)),?_⟩
 rw[List.length_map,hfl];refine⟨_,rfl,fun rg hrg=>?_⟩
 have sr:=ak hrg (.rng 0 ((av (bm aJ r r' us M)).rs.length:Int));have er:upd Ht rg (.rng 0 ((av (bm aJ r r' us M)).rs.length:Int)) rg=some (.rng 0 ((av (bm aJ r r' us M)).rs.length:Int)):=ae
 generalize upd Ht rg (.rng 0 ((av (bm aJ r r' us M)).rs.length:Int))=Hr at sr er ⊢;refine⟨rg,(av (bm aJ r r' us M)).rs.length,rfl,er,by omega,fun l2 hl2=>?_⟩
 generalize hHn:upd Hr l2 _=Hn
 have sn:=cJ hHn hl2
 have en:Hn l2=some (.lst (((List.range (av (bm aJ r r' us M)).rs.length).map fun k:Nat=>(k:Int)).map V.int)):=by
  rw[dG hHn,List.map_map]; rfl
 have ets:tz=(List.range (av (bm aJ r r' us M)).rs.length).map fun k:Nat=>(k:Int):=ua (tpm.nodup_iff.mpr dnd) tso fun x=>by
  rw[tpm.mem_iff,dm,List.mem_map]
  constructor
  ·rintro⟨k,hk,rfl⟩; exact⟨_,hlt k hk,rfl⟩
  ·rintro⟨j,hj,rfl⟩
   obtain⟨k,hk,e⟩:=hall j hj
   exact⟨k,hk,by rw[e]⟩
 walk_at "rd1";refine⟨0,_,by decide,EqN.ints (SqL.of (sn _ _ (sr _ _ et2))) (SqL.of en),?_⟩
 rw[decide_eq_true ets];refine bn (fun c=>absurd c (by decide)) (fun _=>?_)
 have s8n:Same H8 Hn:=(s8t.trans sr).trans sn
 walk_at "nx";refine⟨_,_,.inr (SqT.of (s8n _ _ g1)),aL (j:=2) rfl,?_⟩
 refine⟨fr,_,fs,(av (bm aJ r r' us M)).ws.length,rfl,g3'.mono s8n,jx ok2,lb ok,fun Hk sk=>?_⟩
 refine⟨_,rfl,bn (fun c=>absurd c (by decide)) (fun _=>?_)⟩
 have s8k:Same H8 Hk:=s8n.trans sk
 have g1k:=s8k _ _ g1;have g2k:=s8k _ _ g2;have g3k:=g3'.mono s8k;walk_at "nx";refine⟨fq,_,rfl,hF.mono s8k,ok2.n1,fun kp Hb skb hK=>?_⟩
 have hwk:Hk fw≠none:=by rw[g2k]; exact fun z=>nomatch z
 have s7b:Same H7 Hb:=(s8.trans s8k).trans skb
 have nfq:fq≠fw:=fun z=>by rw[← z,g1]at g2; cases g2
 have nfr:fr≠fw:=fun z=>f4 z.symm
 walk_at "nx";have g1b:=skb _ _ g1k;have g2b:=skb _ _ g2k;have g3b:=g3k.mono skb;have nw:=ok2.nw;refine⟨_,_,.inr (SqT.of g1b),aL (j:=1) rfl,?_⟩
 walk_at "rd1";refine⟨⟨_,SqL.of g2b⟩,_,g2b,by rw[List.length_map]; exact b6 (by omega),?_⟩
 generalize hHc:upd Hb fw _=Hc
 have s7c:Same H7 Hc:=by rw[← hHc]; exact s7b.upd f2 _
 have hKc:KeptAt Hk Hc kp (av (bm aJ r r' us M)):=by rw[← hHc]; exact hK.upd hwk
 have g1c:Hc fq=some (.tup [.int r.s,.ref fw,.ref fr]):=by rw[← hHc,al nfq]; exact g1b
 have g3c:Hc fr=some (.lst (fs.map V.ref)):=by rw[← hHc,al nfr]; exact g3b.1
 have hrows:∀ a∈fs,∃ xs,Hc a=some (.lst xs)∧xs.length≤20+0:=fun a ha=>by
  obtain⟨i,hi,rfl⟩:=List.mem_iff_getElem.mp ha
  have hi':i<(av (bm aJ r r' us M)).rs.length:=by omega
  have nf:fs[i]≠fw:=fun z=>f5 (by rw[← z]; exact List.getElem_mem hi)
  have er':=g3b.2.2 i _ _ (List.getElem?_eq_getElem hi) (List.getElem?_eq_getElem hi');refine⟨((av (bm aJ r r' us M)).rs[i]).map ap,by rw[← hHc,al nf]; exact er',?_⟩
  rw[List.length_map,(ok2.row _ (List.getElem_mem hi')).1]; omega
 have hkrow:∀ a∈fs,Hk a≠none:=fun a ha=>by
  obtain⟨i,hi,rfl⟩:=List.mem_iff_getElem.mp ha
  have hi':i<(av (bm aJ r r' us M)).rs.length:=by omega
  rw[g3k.2.2 i _ _ (List.getElem?_eq_getElem hi) (List.getElem?_eq_getElem hi')]; exact fun z=>nomatch z
 walk_at "nx";refine⟨_,_,.inr (SqT.of g1c),aL (j:=2) rfl,?_⟩
 walk_at "rd1";refine⟨⟨_,SqL.of g3c⟩,?_⟩
 refine eY (xs:=fs.map V.ref) (fun i σ H'=>∃ o8:Option V,σ=[some (.ref a),some (.ref p1),some (.ref p2),some (.ref wt),some (.ref hp),some (.ref fq),some (.ref d),some (.ref kp),o8]∧Same H7 H'∧KeptAt Hk H' kp (av (bm aJ r r' us M))∧H' fq=some (.tup [.int r.s,.ref fw,.ref fr])∧H' fr=some (.lst (fs.map V.ref))∧∀ a∈fs,∃ xs,H' a=some (.lst xs)∧xs.length≤20+i)
  ⟨none,rfl,s7c,hKc,g1c,g3c,hrows⟩ (fun i σ H' _ h=>by obtain⟨_,_,_,_,_,e,_⟩:=h; exact SqL.of e) ?_ ?_
 ·rintro i v σ H' hv ⟨o8,rfl,sm,hk,e1,e2,hrw⟩
  have hi:i<fs.length:=by have:=(List.getElem?_eq_some_iff.mp hv).1; simpa using this
  rw[List.getElem?_map,List.getElem?_eq_getElem hi]at hv
  cases hv;have hmem:=List.getElem_mem hi;obtain⟨xs,ex,lx⟩:=hrw fs[i] hmem
  have hnew:=g3.new _ hmem;walk_at "rd1";refine⟨⟨_,SqL.of ex⟩,_,ex,b6 (by omega),_,rfl,sm.upd hnew.1 _,hk.upd (hkrow _ hmem),by rw[al (fun z=>by rw[← z,e1]at ex; cases ex)]; exact e1,by rw[al (Ne.symm hnew.2)]; exact e2,fun b hb=>?_⟩
  by_cases e:b=fs[i]
  ·rw[e]; exact⟨_,ae,by rw[List.length_append,List.length_singleton]; omega⟩
  ·obtain⟨ys,ey,ly⟩:=hrw b hb
   exact⟨ys,by rw[al e]; exact ey,by omega⟩
 rintro σ H' ⟨o8,rfl,sm,hk,e1,e2,hrw⟩
 walk_at "nx";refine⟨_,_,.inl (SqL.of (sm _ _ e7)),aL (j:=1) rfl,?_⟩
 refine⟨_,_,.inl (SqL.of (sm _ _ e7)),kZ,?_⟩
 refine⟨q2,q1,r',r,rfl,hQ2.mono sm,hQ1.mono sm,ft.swap sym,fun aq Hx us2 M2 sx hBo2 hsu2 hM2 eM2 hFr2=>?_⟩
 obtain rfl:us2=us:=pU hBo2 (nW hBo) hsu2 hsu
 obtain⟨hw2,okx⟩:=(ft.swap sym).rl hBo2 hM2 eM2
 have hsw:=vV sym hw hw2 hsu ft.s ok okx;have hAx:=hFr2.at';rw[← hsw]at hAx
 walk_at "rd1";refine⟨2,true,by decide,ni hAx (hk.mono sx).at',?_⟩
 refine bn (fun _=>?_) (fun c=>absurd rfl c)
 refine⟨by decide,fun ol2 hol2=>?_⟩
 have so:=ak hol2 (.lst [V.ref p1,V.ref p2]);have eo:upd Hx ol2 (.lst [V.ref p1,V.ref p2]) ol2=some (.lst [V.ref p1,V.ref p2]):=ae
 generalize upd Hx ol2 (.lst [V.ref p1,V.ref p2])=Ho at so eo ⊢;have s7o:=(sm.trans sx).trans so;walk_at "rd1";exact⟨3,true,by decide,se (s7o _ _ e7) eo (hQ1.mono s7o) (hQ2.mono s7o) (hR7.mono s7o) (hR7'.mono s7o),q _⟩
end
theorem all_mk{l:PySem.W.OpenLaw}{w:World}{K:PySem.W.Frag}{h:Heap}{mg:Str→Option Value}{fa:Addr}(X:K.In h)(G:h.Ns mainGlobals mg)(hfa:mg "law" = some (.ref fa))
  {f0:Addr} {od0 an0:Option Addr} {sl0:Array (Option Value)} {oc0 kV0 dc0 pm0 cd0 ct0:Value} {f1:Addr} {od1 an1:Option Addr} {sl1:Array (Option Value)} {oc1 kV1 dc1 pm1 cd1 ct1:Value} {f2:Addr} {od2 an2:Option Addr} {sl2:Array (Option Value)} {oc2 kV2 dc2 pm2 cd2 ct2:Value} {f3:Addr} {od3 an3:Option Addr} {sl3:Array (Option Value)} {oc3 kV3 dc3 pm3 cd3 ct3:Value} {f4:Addr} {od4 an4:Option Addr} {sl4:Array (Option Value)} {oc4 kV4 dc4 pm4 cd4 ct4:Value} {f5:Addr} {od5 an5:Option Addr} {sl5:Array (Option Value)} {oc5 kV5 dc5 pm5 cd5 ct5:Value} {f6:Addr} {od6 an6:Option Addr} {sl6:Array (Option Value)} {oc6 kV6 dc6 pm6 cd6 ct6:Value} {f7:Addr} {od7 an7:Option Addr} {sl7:Array (Option Value)} {oc7 kV7 dc7 pm7 cd7 ct7:Value} {f8:Addr} {od8 an8:Option Addr} {sl8:Array (Option Value)} {oc8 kV8 dc8 pm8 cd8 ct8:Value} {f9:Addr} {od9 an9:Option Addr} {sl9:Array (Option Value)} {oc9 kV9 dc9 pm9 cd9 ct9:Value} {f10:Addr} {od10 an10:Option Addr} {sl10:Array (Option Value)} {oc10 kV10 dc10 pm10 cd10 ct10:Value} {f11:Addr} {od11 an11:Option Addr} {sl11:Array (Option Value)} {oc11 kV11 dc11 pm11 cd11 ct11:Value} {f12:Addr} {od12 an12:Option Addr} {sl12:Array (Option Value)} {oc12 kV12 dc12 pm12 cd12 ct12:Value} {f13:Addr} {od13 an13:Option Addr} {sl13:Array (Option Value)} {oc13 kV13 dc13 pm13 cd13 ct13:Value} {f14:Addr} {od14 an14:Option Addr} {sl14:Array (Option Value)} {oc14 kV14 dc14 pm14 cd14 ct14:Value} {f15:Addr} {od15 an15:Option Addr} {sl15:Array (Option Value)} {oc15 kV15 dc15 pm15 cd15 ct15:Value} {f16:Addr} {od16 an16:Option Addr} {sl16:Array (Option Value)} {oc16 kV16 dc16 pm16 cd16 ct16:Value} {f17:Addr} {od17 an17:Option Addr} {sl17:Array (Option Value)} {oc17 kV17 dc17 pm17 cd17 ct17:Value} {f18:Addr} {od18 an18:Option Addr} {sl18:Array (Option Value)} {oc18 kV18 dc18 pm18 cd18 ct18:Value} {f19:Addr} {od19 an19:Option Addr} {sl19:Array (Option Value)} {oc19 kV19 dc19 pm19 cd19 ct19:Value} {f20:Addr} {od20 an20:Option Addr} {sl20:Array (Option Value)} {oc20 kV20 dc20 pm20 cd20 ct20:Value} {f21:Addr} {od21 an21:Option Addr} {sl21:Array (Option Value)} {oc21 kV21 dc21 pm21 cd21 ct21:Value} {f22:Addr} {od22 an22:Option Addr} {sl22:Array (Option Value)} {oc22 kV22 dc22 pm22 cd22 ct22:Value} {f23:Addr} {od23 an23:Option Addr} {sl23:Array (Option Value)} {oc23 kV23 dc23 pm23 cd23 ct23:Value} {f24:Addr} {od24 an24:Option Addr} {sl24:Array (Option Value)} {oc24 kV24 dc24 pm24 cd24 ct24:Value} {f25:Addr} {od25 an25:Option Addr} {sl25:Array (Option Value)} {oc25 kV25 dc25 pm25 cd25 ct25:Value} {f26:Addr} {od26 an26:Option Addr} {sl26:Array (Option Value)} {oc26 kV26 dc26 pm26 cd26 ct26:Value} {f27:Addr} {od27 an27:Option Addr} {sl27:Array (Option Value)} {oc27 kV27 dc27 pm27 cd27 ct27:Value} {f28:Addr} {od28 an28:Option Addr} {sl28:Array (Option Value)} {oc28 kV28 dc28 pm28 cd28 ct28:Value} {f29:Addr} {od29 an29:Option Addr} {sl29:Array (Option Value)} {oc29 kV29 dc29 pm29 cd29 ct29:Value} {f30:Addr} {od30 an30:Option Addr} {sl30:Array (Option Value)} {oc30 kV30 dc30 pm30 cd30 ct30:Value} {t_MOST_ROOMS:Tok} {t_MOST_WORDS:Tok}
  (a0:PySem.W.nsIn K mainGlobals "ways_by" = some (some (.ref f0))) (l0:K.lookup f0=some ⟨oc0,od0,.func (PySem.W.fnOf "ways_by" "ways_by" (defArgs b_) (defBody b_) (defScope b_) .none kV0 dc0 pm0 an0 cd0 ct0),sl0⟩) (c0:PySem.W.codeIn K cd0 "ways_by" = true) (k0:PySem.W.keepIn K (.ref f0)=true)
  (a1:PySem.W.nsIn K mainGlobals "finer_kinds" = some (some (.ref f1))) (l1:K.lookup f1=some ⟨oc1,od1,.func (PySem.W.fnOf "finer_kinds" "finer_kinds" (defArgs aQ) (defBody aQ) (defScope aQ) .none kV1 dc1 pm1 an1 cd1 ct1),sl1⟩) (c1:PySem.W.codeIn K cd1 "finer_kinds" = true) (k1:PySem.W.keepIn K (.ref f1)=true)
  (a2:PySem.W.nsIn K mainGlobals "kinds_upto" = some (some (.ref f2))) (l2:K.lookup f2=some ⟨oc2,od2,.func (PySem.W.fnOf "kinds_upto" "kinds_upto" (defArgs bo) (defBody bo) (defScope bo) .none kV2 dc2 pm2 an2 cd2 ct2),sl2⟩) (c2:PySem.W.codeIn K cd2 "kinds_upto" = true) (k2:PySem.W.keepIn K (.ref f2)=true)
  (a3:PySem.W.nsIn K mainGlobals "merged_rooms" = some (some (.ref f3))) (l3:K.lookup f3=some ⟨oc3,od3,.func (PySem.W.fnOf "merged_rooms" "merged_rooms" (defArgs ba) (defBody ba) (defScope ba) .none kV3 dc3 pm3 an3 cd3 ct3),sl3⟩) (c3:PySem.W.codeIn K cd3 "merged_rooms" = true) (k3:PySem.W.keepIn K (.ref f3)=true)
  (a4:PySem.W.nsIn K mainGlobals "rooms_led_to" = some (some (.ref f4))) (l4:K.lookup f4=some ⟨oc4,od4,.func (PySem.W.fnOf "rooms_led_to" "rooms_led_to" (defArgs a_) (defBody a_) (defScope a_) .none kV4 dc4 pm4 an4 cd4 ct4),sl4⟩) (c4:PySem.W.codeIn K cd4 "rooms_led_to" = true) (k4:PySem.W.keepIn K (.ref f4)=true)
  (a5:PySem.W.nsIn K mainGlobals "numbered_rooms" = some (some (.ref f5))) (l5:K.lookup f5=some ⟨oc5,od5,.func (PySem.W.fnOf "numbered_rooms" "numbered_rooms" (defArgs aC) (defBody aC) (defScope aC) .none kV5 dc5 pm5 an5 cd5 ct5),sl5⟩) (c5:PySem.W.codeIn K cd5 "numbered_rooms" = true) (k5:PySem.W.keepIn K (.ref f5)=true)
  (a6:PySem.W.nsIn K mainGlobals "does_something" = some (some (.ref f6))) (l6:K.lookup f6=some ⟨oc6,od6,.func (PySem.W.fnOf "does_something" "does_something" (defArgs aT) (defBody aT) (defScope aT) .none kV6 dc6 pm6 an6 cd6 ct6),sl6⟩) (c6:PySem.W.codeIn K cd6 "does_something" = true) (k6:PySem.W.keepIn K (.ref f6)=true)
  (a7:PySem.W.nsIn K mainGlobals "picked" = some (some (.ref f7))) (l7:K.lookup f7=some ⟨oc7,od7,.func (PySem.W.fnOf "picked" "picked" (defArgs cI) (defBody cI) (defScope cI) .none kV7 dc7 pm7 an7 cd7 ct7),sl7⟩) (c7:PySem.W.codeIn K cd7 "picked" = true) (k7:PySem.W.keepIn K (.ref f7)=true)
  (a8:PySem.W.nsIn K mainGlobals "least_upto" = some (some (.ref f8))) (l8:K.lookup f8=some ⟨oc8,od8,.func (PySem.W.fnOf "least_upto" "least_upto" (defArgs ax) (defBody ax) (defScope ax) .none kV8 dc8 pm8 an8 cd8 ct8),sl8⟩) (c8:PySem.W.codeIn K cd8 "least_upto" = true) (k8:PySem.W.keepIn K (.ref f8)=true)
  (a9:PySem.W.nsIn K mainGlobals "refuse_unlike" = some (some (.ref f9))) (l9:K.lookup f9=some ⟨oc9,od9,.func (PySem.W.fnOf "refuse_unlike" "refuse_unlike" (defArgs bW) (defBody bW) (defScope bW) .none kV9 dc9 pm9 an9 cd9 ct9),sl9⟩) (c9:PySem.W.codeIn K cd9 "refuse_unlike" = true) (k9:PySem.W.keepIn K (.ref f9)=true)
  (a10:PySem.W.nsIn K mainGlobals "words_of_both" = some (some (.ref f10))) (l10:K.lookup f10=some ⟨oc10,od10,.func (PySem.W.fnOf "words_of_both" "words_of_both" (defArgs bG) (defBody bG) (defScope bG) .none kV10 dc10 pm10 an10 cd10 ct10),sl10⟩) (c10:PySem.W.codeIn K cd10 "words_of_both" = true) (k10:PySem.W.keepIn K (.ref f10)=true)
  (a11:PySem.W.nsIn K mainGlobals "ways_for" = some (some (.ref f11))) (l11:K.lookup f11=some ⟨oc11,od11,.func (PySem.W.fnOf "ways_for" "ways_for" (defArgs bF) (defBody bF) (defScope bF) .none kV11 dc11 pm11 an11 cd11 ct11),sl11⟩) (c11:PySem.W.codeIn K cd11 "ways_for" = true) (k11:PySem.W.keepIn K (.ref f11)=true)
  (a12:PySem.W.nsIn K mainGlobals "ways_by_room" = some (some (.ref f12))) (l12:K.lookup f12=some ⟨oc12,od12,.func (PySem.W.fnOf "ways_by_room" "ways_by_room" (defArgs aF) (defBody aF) (defScope aF) .none kV12 dc12 pm12 an12 cd12 ct12),sl12⟩) (c12:PySem.W.codeIn K cd12 "ways_by_room" = true) (k12:PySem.W.keepIn K (.ref f12)=true)
  (a13:PySem.W.nsIn K mainGlobals "pairs_behind" = some (some (.ref f13))) (l13:K.lookup f13=some ⟨oc13,od13,.func (PySem.W.fnOf "pairs_behind" "pairs_behind" (defArgs bE) (defBody bE) (defScope bE) .none kV13 dc13 pm13 an13 cd13 ct13),sl13⟩) (c13:PySem.W.codeIn K cd13 "pairs_behind" = true) (k13:PySem.W.keepIn K (.ref f13)=true)
  (a14:PySem.W.nsIn K mainGlobals "breaks_both" = some (some (.ref f14))) (l14:K.lookup f14=some ⟨oc14,od14,.func (PySem.W.fnOf "breaks_both" "breaks_both" (defArgs cA) (defBody cA) (defScope cA) .none kV14 dc14 pm14 an14 cd14 ct14),sl14⟩) (c14:PySem.W.codeIn K cd14 "breaks_both" = true) (k14:PySem.W.keepIn K (.ref f14)=true)
  (a15:PySem.W.nsIn K mainGlobals "rule_of_pairs" = some (some (.ref f15))) (l15:K.lookup f15=some ⟨oc15,od15,.func (PySem.W.fnOf "rule_of_pairs" "rule_of_pairs" (defArgs ar) (defBody ar) (defScope ar) .none kV15 dc15 pm15 an15 cd15 ct15),sl15⟩) (c15:PySem.W.codeIn K cd15 "rule_of_pairs" = true) (k15:PySem.W.keepIn K (.ref f15)=true)
  (a16:PySem.W.nsIn K mainGlobals "least_of_pairs" = some (some (.ref f16))) (l16:K.lookup f16=some ⟨oc16,od16,.func (PySem.W.fnOf "least_of_pairs" "least_of_pairs" (defArgs aS) (defBody aS) (defScope aS) .none kV16 dc16 pm16 an16 cd16 ct16),sl16⟩) (c16:PySem.W.codeIn K cd16 "least_of_pairs" = true) (k16:PySem.W.keepIn K (.ref f16)=true)
  (a17:PySem.W.nsIn K mainGlobals "either_rule" = some (some (.ref f17))) (l17:K.lookup f17=some ⟨oc17,od17,.func (PySem.W.fnOf "either_rule" "either_rule" (defArgs bQ) (defBody bQ) (defScope bQ) .none kV17 dc17 pm17 an17 cd17 ct17),sl17⟩) (c17:PySem.W.codeIn K cd17 "either_rule" = true) (k17:PySem.W.keepIn K (.ref f17)=true)
  (a18:PySem.W.nsIn K mainGlobals "_law_cell_at" = some (some (.ref f18))) (l18:K.lookup f18=some ⟨oc18,od18,.func (PySem.W.fnOf "_law_cell_at" "_law_cell_at" (defArgs b4) (defBody b4) (defScope b4) .none kV18 dc18 pm18 an18 cd18 ct18),sl18⟩) (c18:PySem.W.codeIn K cd18 "_law_cell_at" = true) (k18:PySem.W.keepIn K (.ref f18)=true)
  (a19:PySem.W.nsIn K mainGlobals "_law_mixed" = some (some (.ref f19))) (l19:K.lookup f19=some ⟨oc19,od19,.func (PySem.W.fnOf "_law_mixed" "_law_mixed" (defArgs bI) (defBody bI) (defScope bI) .none kV19 dc19 pm19 an19 cd19 ct19),sl19⟩) (c19:PySem.W.codeIn K cd19 "_law_mixed" = true) (k19:PySem.W.keepIn K (.ref f19)=true)
  (a20:PySem.W.nsIn K mainGlobals "_law_words" = some (some (.ref f20))) (l20:K.lookup f20=some ⟨oc20,od20,.func (PySem.W.fnOf "_law_words" "_law_words" (defArgs aK) (defBody aK) (defScope aK) .none kV20 dc20 pm20 an20 cd20 ct20),sl20⟩) (c20:PySem.W.codeIn K cd20 "_law_words" = true) (k20:PySem.W.keepIn K (.ref f20)=true)
  (a21:PySem.W.nsIn K mainGlobals "_law_way" = some (some (.ref f21))) (l21:K.lookup f21=some ⟨oc21,od21,.func (PySem.W.fnOf "_law_way" "_law_way" (defArgs cU) (defBody cU) (defScope cU) .none kV21 dc21 pm21 an21 cd21 ct21),sl21⟩) (c21:PySem.W.codeIn K cd21 "_law_way" = true) (k21:PySem.W.keepIn K (.ref f21)=true)
  (a22:PySem.W.nsIn K mainGlobals "_law_rooms" = some (some (.ref f22))) (l22:K.lookup f22=some ⟨oc22,od22,.func (PySem.W.fnOf "_law_rooms" "_law_rooms" (defArgs aE) (defBody aE) (defScope aE) .none kV22 dc22 pm22 an22 cd22 ct22),sl22⟩) (c22:PySem.W.codeIn K cd22 "_law_rooms" = true) (k22:PySem.W.keepIn K (.ref f22)=true)
  (a23:PySem.W.nsIn K mainGlobals "_law_two" = some (some (.ref f23))) (l23:K.lookup f23=some ⟨oc23,od23,.func (PySem.W.fnOf "_law_two" "_law_two" (defArgs aB) (defBody aB) (defScope aB) .none kV23 dc23 pm23 an23 cd23 ct23),sl23⟩) (c23:PySem.W.codeIn K cd23 "_law_two" = true) (k23:PySem.W.keepIn K (.ref f23)=true)
  (a24:PySem.W.nsIn K mainGlobals "_law_is_way" = some (some (.ref f24))) (l24:K.lookup f24=some ⟨oc24,od24,.func (PySem.W.fnOf "_law_is_way" "_law_is_way" (defArgs bP) (defBody bP) (defScope bP) .none kV24 dc24 pm24 an24 cd24 ct24),sl24⟩) (c24:PySem.W.codeIn K cd24 "_law_is_way" = true) (k24:PySem.W.keepIn K (.ref f24)=true)
  (a25:PySem.W.nsIn K mainGlobals "_law_is_rule_of" = some (some (.ref f25))) (l25:K.lookup f25=some ⟨oc25,od25,.func (PySem.W.fnOf "_law_is_rule_of" "_law_is_rule_of" (defArgs ay) (defBody ay) (defScope ay) .none kV25 dc25 pm25 an25 cd25 ct25),sl25⟩) (c25:PySem.W.codeIn K cd25 "_law_is_rule_of" = true) (k25:PySem.W.keepIn K (.ref f25)=true)
  (a26:PySem.W.nsIn K mainGlobals "_law_to" = some (some (.ref f26))) (l26:K.lookup f26=some ⟨oc26,od26,.func (PySem.W.fnOf "_law_to" "_law_to" (defArgs df) (defBody df) (defScope df) .none kV26 dc26 pm26 an26 cd26 ct26),sl26⟩) (c26:PySem.W.codeIn K cd26 "_law_to" = true) (k26:PySem.W.keepIn K (.ref f26)=true)
  (a27:PySem.W.nsIn K mainGlobals "_law_beside" = some (some (.ref f27))) (l27:K.lookup f27=some ⟨oc27,od27,.func (PySem.W.fnOf "_law_beside" "_law_beside" (defArgs aP) (defBody aP) (defScope aP) .none kV27 dc27 pm27 an27 cd27 ct27),sl27⟩) (c27:PySem.W.codeIn K cd27 "_law_beside" = true) (k27:PySem.W.keepIn K (.ref f27)=true)
  (a28:PySem.W.nsIn K mainGlobals "_law_all_unlike" = some (some (.ref f28))) (l28:K.lookup f28=some ⟨oc28,od28,.func (PySem.W.fnOf "_law_all_unlike" "_law_all_unlike" (defArgs ao) (defBody ao) (defScope ao) .none kV28 dc28 pm28 an28 cd28 ct28),sl28⟩) (c28:PySem.W.codeIn K cd28 "_law_all_unlike" = true) (k28:PySem.W.keepIn K (.ref f28)=true)
  (a29:PySem.W.nsIn K mainGlobals "_law_copy" = some (some (.ref f29))) (l29:K.lookup f29=some ⟨oc29,od29,.func (PySem.W.fnOf "_law_copy" "_law_copy" (defArgs bV) (defBody bV) (defScope bV) .none kV29 dc29 pm29 an29 cd29 ct29),sl29⟩) (c29:PySem.W.codeIn K cd29 "_law_copy" = true) (k29:PySem.W.keepIn K (.ref f29)=true)
  (a30:PySem.W.nsIn K mainGlobals "law" = some (some (.ref f30))) (l30:K.lookup f30=some ⟨oc30,od30,.func (PySem.W.fnOf "law" "law" (defArgs bD) (defBody bD) (defScope bD) .none kV30 dc30 pm30 an30 cd30 ct30),sl30⟩) (c30:PySem.W.codeIn K cd30 "law" = true) (k30:PySem.W.keepIn K (.ref f30)=true)
  (y_isinstance:PySem.W.nsIn K mainGlobals "isinstance" = some none)
  (y_str:PySem.W.nsIn K mainGlobals "str" = some none)
  (y_len:PySem.W.nsIn K mainGlobals "len" = some none)
  (y_range:PySem.W.nsIn K mainGlobals "range" = some none)
  (y_int:PySem.W.nsIn K mainGlobals "int" = some none)
  (y_list:PySem.W.nsIn K mainGlobals "list" = some none)
  (y_sorted:PySem.W.nsIn K mainGlobals "sorted" = some none)
  (y_min:PySem.W.nsIn K mainGlobals "min" = some none)
  (y_tuple:PySem.W.nsIn K mainGlobals "tuple" = some none)
  (y_enumerate:PySem.W.nsIn K mainGlobals "enumerate" = some none)
  (y_any:PySem.W.nsIn K mainGlobals "any" = some none)
  (y_bool:PySem.W.nsIn K mainGlobals "bool" = some none)
  (y_max:PySem.W.nsIn K mainGlobals "max" = some none)
  (y_set:PySem.W.nsIn K mainGlobals "set" = some none)
  (y_zip:PySem.W.nsIn K mainGlobals "zip" = some none)
  (h_MOST_ROOMS:PySem.W.nsIn K mainGlobals "MOST_ROOMS" = some (some (.int 60 t_MOST_ROOMS)))
  (h_MOST_WORDS:PySem.W.nsIn K mainGlobals "MOST_WORDS" = some (some (.int 16 t_MOST_WORDS))) :
  ∃ fd:FuncData,(∀ (s:Shared) (v:Value),BindsTo s fd ⟨[v],[]⟩ [("_law_script", v)])∧∀ base:Heap,K.In base→base.Ns mainGlobals mg→iQ l.prog w K mg base kW 8 fa fd ["_law_script"] (oI K):=by
 have e:=hfa.symm.trans (PySem.W.mg_of X G a30)
 cases e;have D_ways_by:DefAt K mg "ways_by" b_:=⟨f0,_,bC (st:=b_) l0 c0 k0,PySem.W.mg_of X G a0⟩
 have D_finer_kinds:DefAt K mg "finer_kinds" aQ:=⟨f1,_,bC (st:=aQ) l1 c1 k1,PySem.W.mg_of X G a1⟩
 have D_kinds_upto:DefAt K mg "kinds_upto" bo:=⟨f2,_,bC (st:=bo) l2 c2 k2,PySem.W.mg_of X G a2⟩
 have D_merged_rooms:DefAt K mg "merged_rooms" ba:=⟨f3,_,bC (st:=ba) l3 c3 k3,PySem.W.mg_of X G a3⟩
 have D_rooms_led_to:DefAt K mg "rooms_led_to" a_:=⟨f4,_,bC (st:=a_) l4 c4 k4,PySem.W.mg_of X G a4⟩
 have D_numbered_rooms:DefAt K mg "numbered_rooms" aC:=⟨f5,_,bC (st:=aC) l5 c5 k5,PySem.W.mg_of X G a5⟩
 have D_does_something:DefAt K mg "does_something" aT:=⟨f6,_,bC (st:=aT) l6 c6 k6,PySem.W.mg_of X G a6⟩
 have D_picked:DefAt K mg "picked" cI:=⟨f7,_,bC (st:=cI) l7 c7 k7,PySem.W.mg_of X G a7⟩
 have D_least_upto:DefAt K mg "least_upto" ax:=⟨f8,_,bC (st:=ax) l8 c8 k8,PySem.W.mg_of X G a8⟩
 have D_refuse_unlike:DefAt K mg "refuse_unlike" bW:=⟨f9,_,bC (st:=bW) l9 c9 k9,PySem.W.mg_of X G a9⟩
 have D_words_of_both:DefAt K mg "words_of_both" bG:=⟨f10,_,bC (st:=bG) l10 c10 k10,PySem.W.mg_of X G a10⟩
 have D_ways_for:DefAt K mg "ways_for" bF:=⟨f11,_,bC (st:=bF) l11 c11 k11,PySem.W.mg_of X G a11⟩
 have D_ways_by_room:DefAt K mg "ways_by_room" aF:=⟨f12,_,bC (st:=aF) l12 c12 k12,PySem.W.mg_of X G a12⟩
 have D_pairs_behind:DefAt K mg "pairs_behind" bE:=⟨f13,_,bC (st:=bE) l13 c13 k13,PySem.W.mg_of X G a13⟩
 have D_breaks_both:DefAt K mg "breaks_both" cA:=⟨f14,_,bC (st:=cA) l14 c14 k14,PySem.W.mg_of X G a14⟩
 have D_rule_of_pairs:DefAt K mg "rule_of_pairs" ar:=⟨f15,_,bC (st:=ar) l15 c15 k15,PySem.W.mg_of X G a15⟩
 have D_least_of_pairs:DefAt K mg "least_of_pairs" aS:=⟨f16,_,bC (st:=aS) l16 c16 k16,PySem.W.mg_of X G a16⟩
 have D_either_rule:DefAt K mg "either_rule" bQ:=⟨f17,_,bC (st:=bQ) l17 c17 k17,PySem.W.mg_of X G a17⟩
 have D_law_cell_at:DefAt K mg "_law_cell_at" b4:=⟨f18,_,bC (st:=b4) l18 c18 k18,PySem.W.mg_of X G a18⟩
 have D_law_mixed:DefAt K mg "_law_mixed" bI:=⟨f19,_,bC (st:=bI) l19 c19 k19,PySem.W.mg_of X G a19⟩
 have D_law_words:DefAt K mg "_law_words" aK:=⟨f20,_,bC (st:=aK) l20 c20 k20,PySem.W.mg_of X G a20⟩
 have D_law_way:DefAt K mg "_law_way" cU:=⟨f21,_,bC (st:=cU) l21 c21 k21,PySem.W.mg_of X G a21⟩
 have D_law_rooms:DefAt K mg "_law_rooms" aE:=⟨f22,_,bC (st:=aE) l22 c22 k22,PySem.W.mg_of X G a22⟩
 have D_law_two:DefAt K mg "_law_two" aB:=⟨f23,_,bC (st:=aB) l23 c23 k23,PySem.W.mg_of X G a23⟩
 have D_law_is_way:DefAt K mg "_law_is_way" bP:=⟨f24,_,bC (st:=bP) l24 c24 k24,PySem.W.mg_of X G a24⟩
 have D_law_is_rule_of:DefAt K mg "_law_is_rule_of" ay:=⟨f25,_,bC (st:=ay) l25 c25 k25,PySem.W.mg_of X G a25⟩
 have D_law_to:DefAt K mg "_law_to" df:=⟨f26,_,bC (st:=df) l26 c26 k26,PySem.W.mg_of X G a26⟩
 have D_law_beside:DefAt K mg "_law_beside" aP:=⟨f27,_,bC (st:=aP) l27 c27 k27,PySem.W.mg_of X G a27⟩
 have D_law_all_unlike:DefAt K mg "_law_all_unlike" ao:=⟨f28,_,bC (st:=ao) l28 c28 k28,PySem.W.mg_of X G a28⟩
 have D_law_copy:DefAt K mg "_law_copy" bV:=⟨f29,_,bC (st:=bV) l29 c29 k29,PySem.W.mg_of X G a29⟩
 have z_isinstance:mg "isinstance" = none:=PySem.W.mg_none_of X G y_isinstance
 have z_str:mg "str" = none:=PySem.W.mg_none_of X G y_str
 have z_len:mg "len" = none:=PySem.W.mg_none_of X G y_len
 have z_range:mg "range" = none:=PySem.W.mg_none_of X G y_range
 have z_int:mg "int" = none:=PySem.W.mg_none_of X G y_int
 have z_list:mg "list" = none:=PySem.W.mg_none_of X G y_list
 have z_sorted:mg "sorted" = none:=PySem.W.mg_none_of X G y_sorted
 have z_min:mg "min" = none:=PySem.W.mg_none_of X G y_min
 have z_tuple:mg "tuple" = none:=PySem.W.mg_none_of X G y_tuple
 have z_enumerate:mg "enumerate" = none:=PySem.W.mg_none_of X G y_enumerate
 have z_any:mg "any" = none:=PySem.W.mg_none_of X G y_any
 have z_bool:mg "bool" = none:=PySem.W.mg_none_of X G y_bool
 have z_max:mg "max" = none:=PySem.W.mg_none_of X G y_max
 have z_set:mg "set" = none:=PySem.W.mg_none_of X G y_set
 have z_zip:mg "zip" = none:=PySem.W.mg_none_of X G y_zip
 have g_MOST_ROOMS:∃ t,mg "MOST_ROOMS" = some (.int 60 t):=⟨t_MOST_ROOMS,PySem.W.mg_of X G h_MOST_ROOMS⟩
 have g_MOST_WORDS:∃ t,mg "MOST_WORDS" = some (.int 16 t):=⟨t_MOST_WORDS,PySem.W.mg_of X G h_MOST_WORDS⟩
 have F:=bC (st:=bD) l30 c30 k30;refine⟨PySem.W.fnOf "law" "law" (defArgs bD) (defBody bD) (defScope bD) .none kV30 dc30 pm30 an30 cd30 ct30,fun s v=>.of_eq rfl,fun base _ _=>?_⟩
 have c1:=zx (P:=l.prog) (w:=w) (base:=base) D_law_cell_at z_len;have c2:=xh (P:=l.prog) (w:=w) (base:=base) D_law_mixed z_range;have c3:=z7 D_law_two z_range z_len z_sorted z_list c1 c2 (sG D_law_words z_range z_int z_str c2) (xG D_law_rooms z_range z_len z_min c2 (Bt D_law_way))
 have d1:=tI (P:=l.prog) (w:=w) (base:=base) D_ways_by;have d2:=xV D_finer_kinds z_enumerate z_tuple z_len d1;have d3:=xY D_kinds_upto z_max d2;have d4:=vD D_merged_rooms z_enumerate z_len d1;have d5:=qS D_numbered_rooms z_enumerate (Bg D_rooms_led_to z_len) d1;have d6:=zd D_least_upto z_range z_len d3 d4 d5 (zF D_does_something z_enumerate z_any) (vz D_picked);have p1:=zq (P:=l.prog) (w:=w) (base:=base) D_rule_of_pairs z_len (y_ D_words_of_both z_sorted z_set) (vP D_ways_by_room z_enumerate (BE D_ways_for)) (wx D_pairs_behind z_list z_zip);have p2:=uO D_least_of_pairs z_len g_MOST_ROOMS g_MOST_WORDS (uz D_refuse_unlike) p1 d6;have p3:=uR D_either_rule (tJ D_breaks_both) p2;have e1:=B0 (P:=l.prog) (w:=w) (base:=base) D_law_to;exact A9 F z_list z_set z_sorted z_range z_len (fun p=>by cases p; exact Bool.and_comm _ _) rfl c3 (zE D_law_copy z_list) p3 (tF D_law_is_rule_of z_isinstance z_int z_list z_tuple z_len (uq D_law_is_way z_isinstance z_int z_bool)) (vQ D_law_beside e1) (sP D_law_all_unlike z_range z_len z_tuple)
theorem walk{l:PySem.W.OpenLaw}{q:Program}{loose:List Str}{XP:(Str→Option Value)→Heap→Prop}{YP:World→Heap→Prop}{d:DefRec}{K:Params→PySem.W.Frag}(hn:l.most=some 63)(hdf:d.params.defaults=[])
  (hY:∀ (w:World) (h:Heap),YP w h→(K w.params).In h)
  (F:∀ (w:World) (mg:Str→Option Value) (fa:Addr) (h:Heap),(K w.params).In h→h.Ns mainGlobals mg→mg d.name=some (.ref fa)→
   ∃ fd:FuncData,(∀ (s:Shared) (u:Value),BindsTo s fd ⟨[u],[]⟩ [("_law_script", u)])∧∀ base:Heap,(K w.params).In base→base.Ns mainGlobals mg→iQ l.prog w (K w.params) mg base kW 8 fa fd ["_law_script"] (oI (K w.params))) :
  PySem.W.WalkO q loose XP YP l.row.toRowW d [] (fun f vs=>PySem.call f vs):=
 L2.walk_of (n:=63) (k:=8) (x := "_law_script") (CX:=fun _=>kW) (sp:=fun w=>oI (K w.params)) hn (by decide) hdf ⟨rfl,by decide,by decide⟩ hY F (fun _ _ a ns hl _ hS=>⟨a,ns,rfl,hS,hl,fun _=>rfl⟩) fun _ _ _ _ _ z=>z
end K14
end
open PySem PySem.W PyProof.Rows
set_option maxRecDepth 100000 in
set_option maxHeartbeats 0 in
theorem PySem.Challenge.cw_usewarden_k14_either_rule_holds : PySem.Challenge.rw_usewarden_k14_either_rule.Holds := by
 w_on
 refine holds_law (by decide +kernel) fun said=>?_
 refine holds_open (q:=K14.qq) (loose:=K14.loo) (Xt:=K14.xt) (XP:=XL K14.qq []) (Yf:=Hook.obs (kHook K14.KK K14.kk K14.kk_eq)) (Ya:=Hook.val (kHook K14.KK K14.kk K14.kk_eq)) (YP:=Hook.says (kHook K14.KK K14.kk K14.kk_eq)) (N:=3340) K14.hl (Hook.of (kHook K14.KK K14.kk K14.kk_eq)) (Hook.keeps (kHook K14.KK K14.kk K14.kk_eq)) (fun s e=>xl_of s (Bool.and_eq_true_iff.mp e).1) XL.keeps (by rfl) (by rfl) (by rfl) (fun s e=>recFacts_of (Bool.and_eq_true_iff.mp e).2) (by rfl) said (by decide +kernel) ⟨rfl,rfl,rfl,rfl,rfl,by decide +kernel⟩ ?hw ?hc
 (case hw=>w_witness2)
 k_fill
 refine K14.walk (l:=PySem.Challenge.rw_usewarden_k14_either_rule) rfl rfl (fun w h Y=>PySem.W.kIn_of Y) ?F
 case F=>
  intro w mg fa h KX G hmg
  refine' K14.all_mk KX G hmg ?a0 ?l0 ?c0 ?k0 ?a1 ?l1 ?c1 ?k1 ?a2 ?l2 ?c2 ?k2 ?a3 ?l3 ?c3 ?k3 ?a4 ?l4 ?c4 ?k4 ?a5 ?l5 ?c5 ?k5 ?a6 ?l6 ?c6 ?k6 ?a7 ?l7 ?c7 ?k7 ?a8 ?l8 ?c8 ?k8 ?a9 ?l9 ?c9 ?k9 ?a10 ?l10 ?c10 ?k10 ?a11 ?l11 ?c11 ?k11 ?a12 ?l12 ?c12 ?k12 ?a13 ?l13 ?c13 ?k13 ?a14 ?l14 ?c14 ?k14 ?a15 ?l15 ?c15 ?k15 ?a16 ?l16 ?c16 ?k16 ?a17 ?l17 ?c17 ?k17 ?a18 ?l18 ?c18 ?k18 ?a19 ?l19 ?c19 ?k19 ?a20 ?l20 ?c20 ?k20 ?a21 ?l21 ?c21 ?k21 ?a22 ?l22 ?c22 ?k22 ?a23 ?l23 ?c23 ?k23 ?a24 ?l24 ?c24 ?k24 ?a25 ?l25 ?c25 ?k25 ?a26 ?l26 ?c26 ?k26 ?a27 ?l27 ?c27 ?k27 ?a28 ?l28 ?c28 ?k28 ?a29 ?l29 ?c29 ?k29 ?a30 ?l30 ?c30 ?k30 ?y_isinstance ?y_str ?y_len ?y_range ?y_int ?y_list ?y_sorted ?y_min ?y_tuple ?y_enumerate ?y_any ?y_bool ?y_max ?y_set ?y_zip ?h_MOST_ROOMS ?h_MOST_WORDS
  (case a0=>k_is)
  (case l0=>k_is)
  (case c0=>k_is)
  (case k0=>k_is)
  (case a1=>k_is)
  (case l1=>k_is)
  (case c1=>k_is)
  (case k1=>k_is)
  (case a2=>k_is)
  (case l2=>k_is)
  (case c2=>k_is)
  (case k2=>k_is)
  (case a3=>k_is)
  (case l3=>k_is)
  (case c3=>k_is)
  (case k3=>k_is)
  (case a4=>k_is)
  (case l4=>k_is)
  (case c4=>k_is)
  (case k4=>k_is)
  (case a5=>k_is)
  (case l5=>k_is)
  (case c5=>k_is)
  (case k5=>k_is)
  (case a6=>k_is)
  (case l6=>k_is)
  (case c6=>k_is)
  (case k6=>k_is)
  (case a7=>k_is)
  (case l7=>k_is)
  (case c7=>k_is)
  (case k7=>k_is)
  (case a8=>k_is)
  (case l8=>k_is)
  (case c8=>k_is)
  (case k8=>k_is)
  (case a9=>k_is)
  (case l9=>k_is)
  (case c9=>k_is)
  (case k9=>k_is)
  (case a10=>k_is)
  (case l10=>k_is)
  (case c10=>k_is)
  (case k10=>k_is)
  (case a11=>k_is)
  (case l11=>k_is)
  (case c11=>k_is)
  (case k11=>k_is)
  (case a12=>k_is)
  (case l12=>k_is)
  (case c12=>k_is)
  (case k12=>k_is)
  (case a13=>k_is)
  (case l13=>k_is)
  (case c13=>k_is)
  (case k13=>k_is)
  (case a14=>k_is)
  (case l14=>k_is)
  (case c14=>k_is)
  (case k14=>k_is)
  (case a15=>k_is)
  (case l15=>k_is)
  (case c15=>k_is)
  (case k15=>k_is)
  (case a16=>k_is)
  (case l16=>k_is)
  (case c16=>k_is)
  (case k16=>k_is)
  (case a17=>k_is)
  (case l17=>k_is)
  (case c17=>k_is)
  (case k17=>k_is)
  (case a18=>k_is)
  (case l18=>k_is)
  (case c18=>k_is)
  (case k18=>k_is)
  (case a19=>k_is)
  (case l19=>k_is)
  (case c19=>k_is)
  (case k19=>k_is)
  (case a20=>k_is)
  (case l20=>k_is)
  (case c20=>k_is)
  (case k20=>k_is)
  (case a21=>k_is)
  (case l21=>k_is)
  (case c21=>k_is)
  (case k21=>k_is)
  (case a22=>k_is)
  (case l22=>k_is)
  (case c22=>k_is)
  (case k22=>k_is)
  (case a23=>k_is)
  (case l23=>k_is)
  (case c23=>k_is)
  (case k23=>k_is)
  (case a24=>k_is)
  (case l24=>k_is)
  (case c24=>k_is)
  (case k24=>k_is)
  (case a25=>k_is)
  (case l25=>k_is)
  (case c25=>k_is)
  (case k25=>k_is)
  (case a26=>k_is)
  (case l26=>k_is)
  (case c26=>k_is)
  (case k26=>k_is)
  (case a27=>k_is)
  (case l27=>k_is)
  (case c27=>k_is)
  (case k27=>k_is)
  (case a28=>k_is)
  (case l28=>k_is)
  (case c28=>k_is)
  (case k28=>k_is)
  (case a29=>k_is)
  (case l29=>k_is)
  (case c29=>k_is)
  (case k29=>k_is)
  (case a30=>k_is)
  (case l30=>k_is)
  (case c30=>k_is)
  (case k30=>k_is)
  (case y_isinstance=>k_is)
  (case y_str=>k_is)
  (case y_len=>k_is)
  (case y_range=>k_is)
  (case y_int=>k_is)
  (case y_list=>k_is)
  (case y_sorted=>k_is)
  (case y_min=>k_is)
  (case y_tuple=>k_is)
  (case y_enumerate=>k_is)
  (case y_any=>k_is)
  (case y_bool=>k_is)
  (case y_max=>k_is)
  (case y_set=>k_is)
  (case y_zip=>k_is)
  (case h_MOST_ROOMS=>k_is)
  (case h_MOST_WORDS=>k_is)
#print axioms PySem.Challenge.cw_usewarden_k14_either_rule_holds
